/-
  DERIVED. The program's Lines. Conditions: none.
-/
import Derived.Test.YtnfojonmohijpaaGreatDoorJBY
import Derived.Shelf.Strconv.Itoa4
import Derived.Ground.NamesProg
import Derived.Lib.AppendIntMem
set_option linter.all false
set_option maxRecDepth 100000
set_option maxHeartbeats 8000000
namespace Go.Proofs.YtnfojonmohijpaaGreatDoor
open Go.RowKit Go.Shelf
variable{w w':World}{ls:List ByteArray}
theorem PY:∀(l:List UInt8),Lib.indexByte l 10=-1↔10∉l
 |[]=>by simp[Lib.indexByte]
 |b::l=>by
  have ih:=PY l;have c:=Lib.indexByte_ge l 10;simp only[Lib.indexByte,Az,not_or];by_cases h:b=10
  ·subst h;simp
  ·rw[AK (by simpa using h)];by_cases a:Lib.indexByte l 10=-1
   ·rw[AL (by simpa using a)];exact⟨fun _=>⟨fun e=>h e.symm,ih.1 a⟩,fun _=>rfl⟩
   ·rw[AK (by simpa using a)];exact⟨fun e=>by omega,fun e=>absurd (ih.2 e.2) a⟩
theorem PZ:∀(l:List UInt8)(i:Nat),Lib.indexByte l 10=i->10∉l.take i∧l=l.take i++10::l.drop (i+1)
 |[],i,h=>by simp[Lib.indexByte]at h
 |b::l,i,h=>by
  simp only[Lib.indexByte]at h;have f:=Lib.indexByte_ge l 10;by_cases hb:b=10
  ·rw[AL (by simpa using hb)]at h;have:i=0:=by omega
   subst this;subst hb;simp
  ·rw[AK (by simpa using hb)]at h;by_cases a:Lib.indexByte l 10=-1
   ·rw[AL (by simpa using a)]at h;omega
   ·rw[AK (by simpa using a)]at h;obtain⟨k,rfl⟩:∃k,i=k+1:=⟨i-1,by omega⟩;obtain⟨c,d⟩:=PZ l k (by omega);refine⟨?_,?_⟩
    ·simp only[H7,Az,not_or];exact⟨fun e=>hb e.symm,c⟩
    ·simp only[H7,List.drop_succ_cons,DL];exact B4 (b::·) d
theorem Pa:∀(k:Nat)(l:List UInt8),l.count 10=k->Lib.splitK [10] 0 k l=CB l
 |0,l,h=>by
  rw[PU (fun e=>by have:=List.count_pos_iff.2 e;omega)];rfl
 |k+1,l,h=>by
  have hi:¬Lib.indexByte l 10=-1:=fun e=>by
   have:=List.count_eq_zero.2 ((PY l).1 e);omega
  obtain⟨i,a⟩:∃i:Nat,Lib.indexByte l 10=i:=⟨(Lib.indexByte l 10).toNat,by have:=Lib.indexByte_ge l 10;omega⟩;obtain⟨c,b⟩:=PZ l i a;have hlen:(l.take i).length=i:=by
   have:=B4 List.length b;simp only[AW,Aj,EG,List.length_drop]at this⊢;omega
  have d:(l.drop (i+1)).count 10=k:=by
   have:=B4 (List.count 10) b;rw[List.count_append,List.count_cons,List.count_eq_zero.2 c]at this;simp at this;omega
  have ih:=Pa k _ d;have f:CB l=l.take i::CB (l.drop (i+1)):=by
   conv=>lhs;rw[b]
   exact PV c
  rw[f,<-ih,Lib.splitK,Lib.index_one,a,AK (by simp)];simp
theorem ME(b:ByteArray):AJ b.data.toList=b:=by
 apply ByteArray.ext;simp[AJ]
def Ek(w:World)(g:Nat)(ls:List ByteArray):Prop:=∀(k:Nat)(a:ByteArray),ls[k]? =some a->w.cell? ⟨g,k,none⟩=some (.string a)
theorem Ek.keep{g:Nat}{S:List Nat}(h:Ek w g ls)(c:AA S w w')(d:g∉S):Ek w' g ls:=fun k a e=>by
 have b:=h k a e;exact(Ad (c.block g (BV _ _ b) d)).trans b
def Cs(ls:List ByteArray)(k:Nat):Prop:=∀(d:Nat)(a:ByteArray),d<k->ls[d]? =some a->a.size<=100
theorem Vz:∀args w1,(callFunc 100 args).run Tryz.prog w1=.ok (.enter 100 args) w1:=fun args w1=>by
 kernel_rfl
theorem V0(a:ByteArray)(w:World):Calls Tryz.prog 100 #[.string a] w fun e w'=>e=.returned (.bool (decide (100<a.size)))∧w'=w:=by
 obtain⟨b,hb⟩:=An (decide (100<a.size));have HB:Hid (decide (100<a.size)=b):=hb;have c:decide ((100:Int)<(a.size:Int))=b:=by rw[<-hb];exact decide_eq_decide.2 (by omega)
 clear hb;go_enter Tryz.func100,Tryz.ntmps100;go_wp2_with fail;go_ret;exact⟨by rw[HB.o];first|rfl|(rw[<-c];rfl),rfl⟩
theorem V1(ls:List ByteArray)(n g c:Nat)(p:n<=ls.length)(v:n<=2001)(w:World)(x:Ek w g ls):Calls Tryz.prog 157 #[.slice (some ⟨g,0,none⟩) n c,.func (.func 100) #[] #[]] w fun e w'=>∃z:Int,e=.returned (.int .i64 z)∧((0<=z∧¬Cs ls n)∨(z<0∧Cs ls n))∧w'=w:=by
 have y:=Vz;have A:(n:Int)<=2001:=by omega
 have B:Hid (n<=ls.length):=p;go_enter Tryz.func157,Tryz.ntmps157;clear p v;go_wp2_with fail;go_loopw [5,8] (fun _ q wr=>∃k:Nat,k<=n∧q=.int .i64 k∧Hid (Cs ls k)∧wr=w) (fun _ q _=>n-(intOf q).toNat)
 case atStart=>exact⟨0,AY _,rfl,fun d z h=>by omega,rfl⟩
 case round=>
  obtain⟨k,s,rfl,t,rfl⟩:=hrel;by_cases hlt:k<n
  ·obtain⟨r,f⟩:∃r,ls[k]? =some r:=⟨_,Ax (by have:=B.o;omega)⟩;have C:=x k r f;have i:=V0 r wr;have D:(0:Int)<=(k:Int):=by omega
   have E:(k:Int)<(n:Int):=by omega
   have j:Hid (k<n):=hlt;have u:Hid (ls[k]? =some r):=f;clear s hlt f;go_wp2_with fail;refine i.mono ?_;rintro e w2⟨rfl,a⟩;rw[a];clear a;by_cases hb:100<r.size
   ·have F:Hid (¬Cs ls n):=fun h=>by have:=h k r j.o u.o;omega
    have b:decide (100<r.size)=true:=by simp[hb]
    rw[b];clear i hb b;go_wp2_with fail;go_ret;exact⟨k,rfl,AH ⟨by omega,F.o⟩,rfl⟩
   ·have l:Hid (Cs ls (k+1)):=fun d q hd m=>by
     by_cases e:d<k
     ·exact t.o d q e m
     ·have:d=k:=by omega
      subst this;have h:=u.o;rw[h]at m;cases m;omega
    have b:decide (100<r.size)=false:=by simp[hb]
    rw[b];clear i hb b;go_wp2_with fail;exact⟨⟨k+1,j.o,by go_num,l.o,by first|rfl|trivial⟩,by have:=j.o;simp[intOf];omega⟩
  ·have he:k=n:=by omega
   subst he;clear s hlt;go_wp2_with fail;go_ret;exact⟨-1,rfl,AE ⟨by decide,t.o⟩,rfl⟩
theorem Pb(ls:List ByteArray)(n g c:Nat)(j:n<=ls.length)(k:n<=2001)(w:World)(m:Ek w g ls):Calls Tryz.prog 99 #[.slice (some ⟨g,0,none⟩) n c,.func (.func 100) #[] #[]] w fun e w'=>∃b,e=.returned (.bool b)∧(b=false↔Cs ls n)∧w'=w:=by
 have l:=V1 ls n g c j k w m;go_enter Tryz.func99,Tryz.ntmps99;clear j k;go_wp2_with fail;refine l.mono ?_;rintro e w1⟨z,rfl,a,d⟩;rw[d];clear l d;rcases a with⟨a,f⟩|⟨a,f⟩
 ·have i:Hid (¬Cs ls n):=f;have p:decide ((0:Int)<=z)=true:=by simpa using a
  clear f;go_wp2_with fail;go_ret;exact⟨true,rfl,⟨(nomatch ·),fun h=>absurd h i.o⟩,rfl⟩
 ·have i:Hid (Cs ls n):=f;have p:decide ((0:Int)<=z)=false:=by simpa using a
  have q:¬(0:Int)<=z:=by omega
  clear f;go_wp2_with fail;go_ret;exact⟨false,rfl,⟨fun _=>i.o,fun _=>rfl⟩,rfl⟩
def By(s:ByteArray):List ByteArray:=(Bx s.data.toList).map AJ
theorem V2(s:ByteArray):∃x,(Lib.splitB Ao 0 (Lib.countB s Ao) s)[Lib.countB s Ao]? =some x∧(Lib.splitB Ao 0 (Lib.countB s Ao) s).length=Lib.countB s Ao+1∧((x=⟨#[]⟩∧By s=(Lib.splitB Ao 0 (Lib.countB s Ao) s).take (Lib.countB s Ao))∨(x≠⟨#[]⟩∧By s=Lib.splitB Ao 0 (Lib.countB s Ao) s)):=by
 have hlen:=Lib.splitB_all Ao (by decide) 0 _ s rfl;have hd:=Lib.splitB_data Ao 0 (Lib.countB s Ao) s;have i:s.data.toList.count 10=Lib.countB s Ao:=(Lib.count_one 10 s.data.toList).symm;have b:(Lib.splitB Ao 0 (Lib.countB s Ao) s).map (·.data.toList)=CB s.data.toList:=hd.trans (Pa _ _ i);have d:=PW s.data.toList;rw[<-b]at d;unfold By;rw[d];clear d hd b;generalize Lib.splitB Ao 0 (Lib.countB s Ao) s=ps at*;generalize Lib.countB s Ao=n at*;have c:∀l:List ByteArray,(l.map (·.data.toList)).map AJ=l:=fun l=>by
  rw[List.map_map]
  conv=>rhs;rw[<-List.map_id l]
  exact List.map_congr_left (fun a _=>ME a)
 have g:ps[n]? =some (ps[n]'(by omega)):=Ax (by omega);refine⟨ps[n]'(by omega),g,hlen,?_⟩;have f:(ps.map (·.data.toList)).getLast?=some (ps[n]'(by omega)).data.toList:=by
  rw[List.getLast?_eq_getElem?,Ce,FV,show ps.length-1=n by omega,g];rfl
 rw[f];by_cases h:(ps[n]'(by omega)).data.toList=[]
 ·left
  refine⟨?_,?_⟩
  ·rw[<-ME (ps[n]'(by omega)),h];rfl
  ·rw[AL (by rw[h]),List.dropLast_eq_take,<-List.map_take,c,Ce,hlen];rfl
 ·right
  refine⟨fun e=>h (by rw[e]),?_⟩;rw[AK (fun e=>h (by simpa using e)),c]
def V3(s:ByteArray)(w:World)(e:Ending)(w':World):Prop:=
 AA [] w w'∧((∃g c,e=.returned (.tuple #[.slice (some ⟨g,0,none⟩) (By s).length c,.bool true])∧s.size<=2000∧(∀a∈By s,a.size<=100)∧(By s).length<=2001∧Ek w' g (By s)∧w.heap.size<=g∧g<w'.heap.size)∨(e=.returned (.tuple #[.slice none 0 0,.bool false])∧(2000<s.size∨∃a∈By s,100<a.size)))
theorem Cs.all(h:Cs ls ls.length):∀a∈ls,a.size<=100:=fun a b=>by
 obtain⟨d,hd,rfl⟩:=GJ.1 b;exact h d _ hd (Ax hd)
theorem Cs.no{k:Nat}(h:¬Cs ls k):∃a∈ls,100<a.size:=Classical.byContradiction fun b=>h fun d a _ c=>Nat.le_of_not_lt fun e=>b ⟨a,C8 c,e⟩
theorem V4(s:ByteArray)(w:World):Calls Tryz.prog 57 #[.string s] w (V3 s w):=by
 by_cases p:s.size<=2000
 ·have q:=Vx s w p;obtain⟨x,A,hlen,B⟩:=V2 s;have hle:=Lib.countB_le Ao (by decide) s.size s (AP _);have z:Hid (s.size<=2000):=p;generalize Lib.splitB Ao 0 (Lib.countB s Ao) s=ps at*;generalize Lib.countB s Ao=n at*;obtain⟨W,r⟩:=AQ (w.alloc (.cells (ps.map Value.string).toArray 9));have j:AA [] w W:=by rw[r];exact(AG [] w).alloc _
  have l:Ek W w.heap.size ps:=fun k a t=>by
   rw[r,AU (AS w _)];simp[t]
  rw[<-r]at q;obtain⟨g,C⟩:=AQ w.heap.size;have E:Hid (w.heap.size<=g∧g<W.heap.size):=by
   show w.heap.size<=g∧g<W.heap.size;have:W.heap.size=w.heap.size+1:=by rw[r];simp
   omega
  rw[<-C]at q l;have u:=l n x A;have D:¬(2000:Int)<(s.size:Int):=by omega
  have H:(0:Int)<=(n:Int):=by omega
  have I:(n:Int)<=2000:=by omega
  have J:Hid (ps.length=n+1):=hlen;have F:((n:Int)+1)-1=(n:Int):=by omega
  have G:(x.toList==([]:List UInt8))=decide (x=⟨#[]⟩):=by
   have K:([]:List UInt8)=(⟨#[]⟩:ByteArray).toList:=by rw[DW]
   exact(B4 (x.toList==·) K).trans (PT x _)
  rcases B with⟨he,v⟩|⟨he,v⟩
  ·rw[BU he]at G;have d:Hid (By s=ps.take n):=v;have f:Ek W g (ps.take n):=fun k a t=>l k a (by
    rw[List.getElem?_take]at t;split at t
    ·exact t
    ·cases t)
   have m:Hid (Ek W g (ps.take n)):=f;have c:Hid ((ps.take n).length=n):=by show(ps.take n).length=n;rw[EG,hlen];omega
   have y:=Pb (ps.take n) n g (n+1) (by rw[c.o];exact AP n) (by omega) W f;clear p hle A hlen v he r C;go_enter Tryz.func57,Tryz.ntmps57;go_wp2_with(first|(go_at_call 98;refine q.mono ?_;rintro e w1⟨rfl,hw⟩;rw[hw];clear hw));refine y.mono ?_;rintro e w1⟨b,rfl,hb,i⟩;rw[i];clear i y q u l f;cases b with
   |true=>
    have HB:Hid (¬Cs (ps.take n) n):=fun h=>nomatch (hb.2 h)
    clear hb;go_wp2_with fail;go_ret2;exact⟨j,AE ⟨rfl,AE (by rw[d.o];exact Cs.no HB.o)⟩⟩
   |false=>
    have HB:Hid (Cs (ps.take n) n):=hb.1 rfl;clear hb;go_wp2_with fail;go_ret2;refine⟨j,AH ⟨g,n+1,?_,z.o,?_,?_,?_,E.o⟩⟩
    ·rw[d.o,c.o];rfl
    ·rw[d.o];exact Cs.all (by rw[c.o];exact HB.o)
    ·rw[d.o,c.o];omega
    ·rw[d.o];exact m.o
  ·rw[BS he]at G;have d:Hid (By s=ps):=v;have m:Hid (Ek W g ps):=l;have c:Hid (ps.length=n+1):=hlen;have y:=Pb ps (n+1) g (n+1) (by omega) (by omega) W l;have f:=True.intro;clear p hle A hlen v he r C;go_enter Tryz.func57,Tryz.ntmps57;go_wp2_with(first|(go_at_call 98;refine q.mono ?_;rintro e w1⟨rfl,hw⟩;rw[hw];clear hw));refine y.mono ?_;rintro e w1⟨b,rfl,hb,i⟩;rw[i];clear i y q u l f;cases b with
   |true=>
    have HB:Hid (¬Cs ps (n+1)):=fun h=>nomatch (hb.2 h)
    clear hb;go_wp2_with fail;go_ret2;exact⟨j,AE ⟨rfl,AE (by rw[d.o];exact Cs.no HB.o)⟩⟩
   |false=>
    have HB:Hid (Cs ps (n+1)):=hb.1 rfl;clear hb;go_wp2_with fail;go_ret2;refine⟨j,AH ⟨g,n+1,?_,z.o,?_,?_,?_,E.o⟩⟩
    ·rw[d.o,c.o];rfl
    ·rw[d.o];exact Cs.all (by rw[c.o];exact HB.o)
    ·rw[d.o,c.o];omega
    ·rw[d.o];exact m.o
 ·have D:(2000:Int)<(s.size:Int):=by omega
  have z:Hid (2000<s.size):=Nat.lt_of_not_le p;clear p;go_enter Tryz.func57,Tryz.ntmps57;go_wp2_with fail;go_ret2;exact⟨AG _ _,AE ⟨rfl,AH z.o⟩⟩
def Ca(w:World)(v:Value)(ls:List ByteArray):Prop:=w.ownsRow 0 9 1 v ls.length (ls.map Value.string)
theorem Ca.keep{v:Value}(h:Ca w v ls)(a:AA [] w w'):Ca w' v ls:=Ep h a (by simp)
def Bm(k:AX)(s:ByteArray)(W:Whole)(ps:List Part)(ts:List ByteArray):Prop:=
 if k.o=false then ts=[s]else if k.v=true then ts=[]else if k.x=true then∃sp,Dv s W (some sp)∧ts=[AJ (BK ps s sp)]else∃fs,Bl s W 0 fs∧ts=fs.map fun sp=>AJ (BK ps s sp)
structure GC (w wr : World) (s : ByteArray) (ps : List Part) (fs : List (List Int)) (i : Nat) (v : Value) : Prop where
 row : Ca wr v ((fs.take i).map fun sp => AJ (BK ps s sp))
 fresh : ∀ g, v.ownBlock = some g -> w.heap.size <= g
 keep : AA [] w wr
theorem Bl.sp{s:ByteArray}{W:Whole}{fr:Nat}{fs:List (List Int)}(h:Bl s W fr fs)(c:∀m,W.x.has m->0<m∧m<=W.g):(∀sp∈fs,Ex s sp W.g)∧(fr<=s.size->fs.length<=s.size-fr)∧(s.size<fr->fs=[]):=by
 induction h with
 |fin fr h=>exact⟨by simp,by simp,by simp⟩
 |none fr h _=>exact⟨by simp,by simp,by simp⟩
 |hit fr i j r fs f a k _ ih=>
  obtain⟨d,l,n,o,e,a2,a3,a4⟩:=a.sp c;simp only[Bc]at e;obtain⟨p,q,_⟩:=e;refine⟨fun sp b=>?_,fun _=>?_,fun h=>by omega⟩
  ·rcases Az.1 b with rfl|b
   ·exact d
   ·exact ih.1 sp b
  ·have:=ih.2.1 (by omega);simp only[Aj];omega
 |empty fr i j r fs f a k _ ih=>
  obtain⟨d,l,n,o,e,a2,a3,a4⟩:=a.sp c;simp only[Bc]at e;obtain⟨p,q,_⟩:=e;refine⟨ih.1,fun _=>?_,fun h=>by omega⟩;by_cases t:j+1<=s.size
  ·have:=ih.2.1 t;omega
  ·rw[ih.2.2 (by omega)];simp
theorem Iq{g:Nat}{cs:List Value}{T:TypeId}{f:Nat×Nat}(h:w.heap[g]? =some (.cells cs.toArray T f)):w.rangeAt g 0 cs:=fun q u hu=>by
 rw[AU h,Ba];simpa using hu
theorem MF(a b c d e f g:Value):(Tryz.prog.info? 80).map (·.size)=some ([a,b,c,d,e,f,g]:List Value).length:=by kernel_rfl
theorem V5(k:AX)(tv:Value)(ps:List Part)(s:ByteArray)(W:Whole)(v a c:Value)(w:World)(h:EH w s W v a c)(hT:CX w tv ps)(hp:ps.length<=100)(au:Ii W.g ps)(hx:k.o=true->k.v=false->k.x=true->Mt s W.x 0 s.size):Calls Tryz.prog 103 #[.agg (Av k W v tv),.string s,.agg (Bi W v s a c)] w fun e w'=>∃r ts,e=.returned r∧Bm k s W ps ts∧Ca w' r ts∧(∀g,r.ownBlock=some g->w.heap.size<=g)∧ts.length<=100∧AA [] w w':=by
 obtain⟨i0,aO,aP,aQ,aR⟩:=A2 Ip;have aS:=Gm;obtain⟨hv,ha,hc⟩:=h.cells;have HS:Hid (s.size<=100):=h.len;have B:AA [] w ((w.alloc (.cells (Av k W v tv) 117)).alloc (.cells (Bi W v s a c) 80)):=((AG [] w).alloc _).alloc _;have af:(w.alloc (.cells (Av k W v tv) 117)).heap.size=w.heap.size+1:=by simp
 have h0:((w.alloc (.cells (Av k W v tv) 117)).alloc (.cells (Bi W v s a c) 80)).heap[w.heap.size]? =some (.cells (Av k W v tv) 117 (0,0)):=C2 w _ _;have h1:((w.alloc (.cells (Av k W v tv) 117)).alloc (.cells (Bi W v s a c) 80)).heap[w.heap.size+1]? =some (.cells (Bi W v s a c) 80 (0,0)):=by rw[<-af];exact AS _ _
 obtain⟨_,_,c3,c4,c5,C⟩:=If h0;have I:=hT.keep B (by simp);have T:=h.keep B;have HG:Hid (∀m,W.x.has m->0<m∧m<=W.g):=h.nest.2;have F:Hid (W.g<=9∧ps.length<=100∧Ii W.g ps):=⟨h.g9,hp,au⟩;obtain⟨V,tn,Z,rfl⟩:=A6 hT;unfold Av Bi at*;clear h hT hp au af;go_enter Tryz.func103,Tryz.ntmps103;go_upto_region 1 with(fail)
 generalize(w.alloc (.cells #[.bool k.c,.bool k.i,.bool k.n,.bool k.o,.bool k.v,.bool k.x,.bool W.bg,.bool W.en,v,.int .i64 (W.g:Int),.slice V tn Z] 117)).alloc (.cells #[.bool W.bg,.bool W.en,v,.int .i64 (W.g:Int),.string s,a,c] 80)=X at*;obtain⟨g0,e0⟩:=AQ w.heap.size;obtain⟨g1,e1⟩:=AQ (w.heap.size+1);rw[<-e1]at h1⊢;rw[<-e0]at c3 c4 c5 C⊢;have a2:g0<X.heap.size:=BV _ _ c3;have HW:Hid (w.heap.size=g0):=e0.symm;clear e0 e1 h0;cases d:k.o
 ·have HA:Hid (Bm k s W ps [s]):=by show Bm k s W ps [s];unfold Bm;rw[AL d]
  rw[d]at c3;have hR:Ca (X.alloc (.cells #[.string s] 9)) (.slice (some ⟨X.heap.size,0,none⟩) 1 1) [s]:=by
   refine⟨rfl,AE ⟨X.heap.size,1,#[.string s],rfl,AY _,AS X _,AP _,by unfold maxLen;omega,rfl,rfl⟩⟩
  have aa:=B.alloc (.cells #[.string s] 9);have ah:=B.size;clear d hx T I h1 c4 c5 C;go_wp2_with fail;go_ret;exact⟨_,[s],rfl,HA.o,hR,fun g hg=>(by cases hg;exact ah),by simp,aa⟩
 cases l:k.v
 rotate_left
 ·have HA:Hid (Bm k s W ps []):=by show Bm k s W ps [];unfold Bm;rw[AK (by rw[d];decide),AL l]
  rw[d]at c3;rw[l]at c4;clear d l hx T I h1 c5 C;go_wp2_with fail;go_ret;exact⟨_,[],rfl,HA.o,⟨rfl,AH ⟨rfl,rfl⟩⟩,fun g hg=>(by cases hg),by simp,B⟩
 cases D:k.x
 rotate_left
 ·have aw:=hx d l D;have ai:Hid (∀sp,Dv s W (some sp)->Bm k s W ps [AJ (BK ps s sp)]):=fun sp f=>by
   unfold Bm;rw[AK (by rw[d];decide),AK (by rw[l];decide),AL D];exact⟨sp,f,rfl⟩
  rw[d]at c3;rw[l]at c4;rw[D]at c5;have aj:=fun Y(hk:AA [] X Y)=>O1 s W v a c Y (T.keep hk)
  unfold Bi at aj;have aT:Hid (∀Y,AA [] X Y->Calls Tryz.prog 158 #[.agg #[.bool W.bg,.bool W.en,v,.int .i64 (W.g:Int),.string s,a,c]] Y fun e w'=>∃r ans,e=.returned r∧Dv s W ans∧IW w' Y.heap.size r ans∧AA [] Y w'):=aj;have aU:Hid (Mt s W.x 0 s.size):=aw;clear d l D hx T aj aw;go_upto_region 6 with(fail)
  have ak:AA [] X X.drew:=(AG [] X).drewN 1;have t:X.drew.cell? ⟨g0,10,none⟩=some (.slice V tn Z)∧X.drew.heap[g1]? =some (.cells #[.bool W.bg,.bool W.en,v,.int .i64 (W.g:Int),.string s,a,c] 80 (0,0)):=⟨C,h1⟩;have ax:=I.keep ak (by simp);refine Cj (S:=fun A=>A.cell? ⟨g0,10,none⟩=some (.slice V tn Z)∧A.heap[g1]? =some (.cells #[.bool W.bg,.bool W.en,v,.int .i64 (W.g:Int),.string s,a,c] 80 (0,0))) (by kernel_rfl) ?_;change wpAnyH _ _ _ _ _ _ _ _ (World.drew _);generalize X.drew=Y0 at*;clear c3 c4 c5 C h1 I;refine AV 0 _ (some 25) (.pointer (some ⟨g0,10,none⟩)) rfl t ?_;simp only[AM];refine Ak 1 _ (some 26) (.slice V tn Z) rfl (AH ⟨by rfl,fun X T=>by(have q:=T.1;go_simp)⟩) t ?_;simp only[AM];refine AV 2 _ (some 27) (.string s) rfl t ?_;simp only[AM];refine Ak 3 _ (some 28) (.agg #[.bool W.bg,.bool W.en,v,.int .i64 (W.g:Int),.string s,a,c]) rfl (DN (by rfl) 80 _ rfl g1 0 rfl [.bool W.bg,.bool W.en,v,.int .i64 (W.g:Int),.string s,a,c] _ (fun X T=>Iq T.2) Ck rfl (MF _ _ _ _ _ _ _)) t ?_;simp only[AM];refine A8 4 rfl fun K hK=>?_
  go_simp;refine(aT.o Y0 ak).mono ?_;rintro e w5⟨r,ans,rfl,ab,ay,z⟩;have J:w5.cell? ⟨g0,10,none⟩=some (.slice V tn Z)∧w5.heap[g1]? =some (.cells #[.bool W.bg,.bool W.en,v,.int .i64 (W.g:Int),.string s,a,c] 80 (0,0)):=⟨Ac z t.1,(z.block g1 (AN.1 t.2).1 (by simp)).trans t.2⟩;refine hK.out _ _ J (fun _=>?_);clear hK K;obtain⟨sp,rfl⟩:∃sp,ans=some sp:=by
   cases ans with
   |some sp=>exact⟨sp,rfl⟩
   |none=>
    rcases ab with⟨_,h⟩|⟨_,_,_,_,h⟩
    ·exact absurd aU.o h
    ·cases h
  obtain⟨f,rr,hl⟩:=ab.sp HG.o;obtain⟨M,gf,cf,rfl,_⟩:=ay.fnd (by rw[hl];simp);have b:=O8 (.slice V tn Z) ps s (.slice (some ⟨gf,0,none⟩) sp.length cf) sp W.g w5 (ax.keep z (by simp)) M HS.o F.o.2.1 f F.o.2.2 F.o.1;have HT:Hid (Bm k s W ps [AJ (BK ps s sp)]):=ai.o sp ab;obtain⟨sn,ac⟩:=An sp.length;rw[ac]at b⊢;generalize AJ (BK ps s sp)=q at b HT⊢;refine A8 5 rfl fun K hK=>?_
  go_simp;refine b.mono ?_;rintro e H⟨rfl,ad⟩;have N:H.cell? ⟨g0,10,none⟩=some (.slice V tn Z)∧H.heap[g1]? =some (.cells #[.bool W.bg,.bool W.en,v,.int .i64 (W.g:Int),.string s,a,c] 80 (0,0)):=⟨Ac ad J.1,(ad.block g1 (AN.1 J.2).1 (by simp)).trans J.2⟩;refine hK.out _ _ N (fun _=>?_);clear hK K;have aa:=((B.trans ak).trans (z.trans ad));refine A8 6 rfl fun K hK=>?_
  go_simp;have ae:AA [] H (H.alloc (.cells #[.string q] 9)):=(AG [] H).alloc _;have al:(H.alloc (.cells #[.string q] 9)).cell? ⟨g0,10,none⟩=some (.slice V tn Z)∧(H.alloc (.cells #[.string q] 9)).heap[g1]? =some (.cells #[.bool W.bg,.bool W.en,v,.int .i64 (W.g:Int),.string s,a,c] 80 (0,0)):=⟨Ac ae N.1,(ae.block g1 (AN.1 N.2).1 (by simp)).trans N.2⟩;refine hK.out _ _ al (fun _=>?_);clear hK K;refine AV 7 _ (some 6) (.slice (some ⟨H.heap.size,0,none⟩) 1 1) rfl al ?_;simp only[AM];refine CE ?_;have hR:Ca (H.alloc (.cells #[.string q] 9)) (.slice (some ⟨H.heap.size,0,none⟩) 1 1) [q]:=by
   refine⟨rfl,AE ⟨H.heap.size,1,#[.string q],rfl,AY _,AS H _,AP _,by unfold maxLen;omega,rfl,rfl⟩⟩
  have aV:=aa.trans ae;have ah:=aa.size;clear t J N al ae b M z ad ax ay ab f hl;go_wp2_with fail;go_ret;exact⟨_,[q],rfl,HT.o,hR,fun g hg=>(by cases hg;exact ah),by simp,aV⟩
 have ai:Hid (∀fs,Bl s W 0 fs->Bm k s W ps (fs.map fun sp=>AJ (BK ps s sp))):=fun fs G=>by
  unfold Bm;rw[AK (by rw[d];decide),AK (by rw[l];decide),AK (by rw[D];decide)];exact⟨fs,G,rfl⟩
 rw[d]at c3;rw[l]at c4;rw[D]at c5;have am:=Uk s W v a c X T;unfold Bi at am;clear d l D hx T;go_wp2_with(first|(refine As rfl 80 _ rfl g1 rfl _ _ _ _ h1 Ck rfl (Cq _ _ _ _ _ _ _) ?_));refine am.mono ?_;rintro e w2⟨r,fs,rfl,an,ao,ap⟩;obtain⟨f,hlen,_⟩:=an.sp HG.o;have aW:=hlen (AY _);obtain⟨cs,j,G⟩:=ao.row;obtain⟨xa,U,xc,rfl⟩:=A6 j;have az:U=fs.length:=by
  rcases j.2 with⟨e,e2⟩|⟨_,_,_,e,_⟩
  ·cases e;exact e2.symm
  ·cases e;rfl
 have p:Hid (U=fs.length∧fs.length<=s.size):=⟨az,by omega⟩;have a3:(U:Int)<=100:=by have:=HS.o;omega
 have aA:Hid (Ij w2 (.slice xa U xc) fs∧∀sp∈fs,Ex s sp W.g):=⟨ao,f⟩;have aX:Hid (Bl s W 0 fs):=an;have aB:Hid (AA [] w w2):=B.trans ap;have aC:=Ac ap C;have aD:=I.keep ap (by simp);clear am hlen aW az j G ao f an c3 c4 c5 C h1;go_wp2_with fail;go_loopw [7,36] (fun q7 q wr=>∃i:Nat,q=.int .i64 i∧i<=U∧GC w2 wr s ps fs i q7) (fun _ q _=>U-(intOf q).toNat)
 case atStart=>exact⟨0,rfl,AY _,⟨⟨rfl,AH ⟨rfl,rfl⟩⟩,fun g hg=>(by cases hg),AG _ _⟩⟩
 case round=>
  obtain⟨i,rfl,hi,L⟩:=hrel;obtain⟨ya,yn,yc,rfl⟩:=A6 L.row;have HL:Hid (GC w2 wr s ps fs i (.slice ya yn yc)):=L;by_cases hlt:i<U
  rotate_left
  ·have aE:¬(i:Int)<(U:Int):=by omega
   have HE:Hid (fs.take i=fs):=FC (by have:=p.o;omega);clear L hlt hi;go_wp2_with fail;go_ret;refine⟨_,rfl,(fs.map fun sp=>AJ (BK ps s sp)),ai.o fs aX.o,?_,?_,?_,aB.o.trans HL.o.keep⟩
   ·have:=HL.o.row;rw[HE.o]at this;exact this
   ·intro g hg;have:=HL.o.fresh g hg;have:=aB.o.size;omega
   ·have:=p.o;have:=HS.o;simp;omega
  have aE:(i:Int)<(U:Int):=by omega
  have a4:(0:Int)<=(i:Int):=by omega
  have HI:Hid (i<U):=hlt;obtain⟨sp,f⟩:∃sp,fs[i]? =some sp:=⟨_,Ax (by have:=p.o;omega)⟩;have aF:=aA.o.1.keep L.keep;obtain⟨cs,j,G⟩:=aF.row;obtain⟨gf,cf,aG,M,_⟩:=G i sp f;obtain⟨gx,rfl⟩:∃gx,xa=some ⟨gx,0,none⟩:=by
   rcases j.2 with⟨e,e2⟩|⟨gx,_,_,e,_⟩
   ·exfalso;have:=p.o;omega
   ·cases e;exact⟨gx,rfl⟩
  have O:wr.ownsRow 0 32 1 (.slice (some ⟨gx,0,none⟩) fs.length xc) fs.length cs:=by have h:=j;rw[p.o.1]at h;exact h
  have aH:wr.cell? ⟨gx,i,none⟩=some (.slice (some ⟨gf,0,none⟩) sp.length cf):=by
   rw[BX O i (by have:=p.o;omega)];exact aG
  have aq:=Ac L.keep aC;have b:=O8 (.slice V tn Z) ps s (.slice (some ⟨gf,0,none⟩) sp.length cf) sp W.g wr (aD.keep L.keep (by simp)) M HS.o F.o.2.1 (aA.o.2 sp (C8 f)) F.o.2.2 F.o.1;have aY:Hid (fs[i]? =some sp):=f;obtain⟨sn,ac⟩:=An sp.length;rw[ac]at b aH;clear L hlt hi f aF j O G aG M ac;go_wp2_with(first|(go_at_call 159;refine b.mono ?_));rintro e w3⟨rfl,hk3⟩;have E:w3.ownsRow 0 9 1 (.slice ya yn yc) ((fs.take i).map fun sp=>AJ (BK ps s sp)).length (((fs.take i).map fun sp=>AJ (BK ps s sp)).map Value.string):=HL.o.row.keep hk3;have aI:(fs.take i).length=i:=by rw[EG];have:=p.o;have:=HI.o;omega
  rw[Ce,aI]at E;have ag:=HL.o.keep.trans hk3;obtain⟨u,hu⟩:=An (AJ (BK ps s sp));have HU:Hid (AJ (BK ps s sp)=u):=hu;rw[hu];have aZ:i+1<=maxLen:=by unfold maxLen;have:=p.o;have:=HI.o;have:=HS.o;omega
  have a1:(i+1)*16<=140737488355328:=by have:=p.o;have:=HI.o;have:=HS.o;omega
  have hH:(w3.alloc (.cells #[.string u] 9)).heap.size=w3.heap.size+1:=by simp
  have P:∀q x,([.string u]:List Value)[q]? =some x->(w3.alloc (.cells #[.string u] 9)).cell? ((⟨w3.heap.size,0,none⟩:Addr).add q)=some x:=Dq (cs:=#[.string u]) (AS w3 _);have aJ:∀x∈([.string u]:List Value),x.oneCell'=true:=by simp[Value.oneCell']
  clear hu b aI hk3 aH aq;go_wp2_with(first|(at_builtin;refine CC _ rfl _ _ _ rfl 0 9 i0 _ 1 16 aS aO aP aQ aR rfl (by decide) (.slice ya yn yc) i _ rfl (E.alloc _) ⟨w3.heap.size,0,none⟩ 1 1 [.string u] rfl rfl P aJ (by omega) aZ a1 (AY _) (w3.heap.size+1) hH ?_));intro g' cap w5 Q R aK aL;have z:AA (Value.slice ya yn yc).ownBlock.toList w3 w5:=((AG _ w3).alloc _).trans (De R);have ar:=HL.o.fresh;have aM:(Value.slice ya yn yc).ownBlock=some g'∨w3.heap.size<=g':=aK.imp id fun h=>by omega
  have L5:GC w2 w5 s ps fs (i+1) (.slice (some ⟨g',0,none⟩) (i+1) cap):=by
   refine⟨?_,?_,?_⟩
   ·have e1:fs.take (i+1)=fs.take i++[sp]:=by rw[Gj,aY.o];rfl
    have e2:(fs.take i).length=i:=by rw[EG];have:=p.o;have:=HI.o;omega
    unfold Ca;rw[e1,Ce,AW,e2,Fq,Fq];simp only[D6,List.map_nil,HU.o];have e3:List.map Value.string (List.map (fun sp=>AJ (BK ps s sp)) (List.take i fs))=List.take i (List.map (Value.string∘fun sp=>AJ (BK ps s sp)) fs):=by rw[List.map_map,List.map_take]
    rw[e3];exact Q
   ·intro y hy;cases hy;rcases aM with h|h
    ·exact ar _ h
    ·have:=ag.size;show w2.heap.size<=g';omega
   ·exact ag.fresh z (by
     intro y hy;rw[Ay]at hy;exact AE (ar y hy))
  have aN:Hid (GC w2 w5 s ps fs (i+1) (.slice (some ⟨g',0,none⟩) (i+1) cap)):=L5;clear Q R P hH aJ z E aK aM L5 aL ar;go_wp2_with fail
  first
   |exact⟨⟨i+1,by go_num,HI.o,aN.o⟩,by have:=HI.o;simp[intOf];omega⟩
   |(
    go_roundw
    case rel=>exact⟨i+1,by go_num,HI.o,aN.o⟩
    case measure=>have:=HI.o;simp[intOf];omega)
def V6:Go.Shelf.Ren:=⟨fun|171=>105|243=>161|246=>201|283=>240|284=>241|285=>242|286=>243|129=>271|317=>270|318=>272|319=>273|320=>274|337=>286|338=>287|n=>n,fun|3=>3|9=>9|2=>2|4=>4|171=>325|0=>0|53=>139|37=>64|5=>5|173=>328|212=>341|51=>330|20=>20|213=>342|46=>298|232=>354|233=>355|n=>n,fun|17=>1|18=>4|19=>5|n=>n⟩
theorem V7:Go.Proofs.LaysM.n171 Tryz.prog V6:={
 mixed:=by kernel_rfl
 f129:=Tryz.func271.trans (B4 some (by kernel_rfl))
 f171:=Tryz.func105.trans (B4 some (by kernel_rfl))
 f243:=Tryz.func161.trans (B4 some (by kernel_rfl))
 f246:=Tryz.func201.trans (B4 some (by kernel_rfl))
 f283:=Tryz.func240.trans (B4 some (by kernel_rfl))
 f284:=Tryz.func241.trans (B4 some (by kernel_rfl))
 f285:=Tryz.func242.trans (B4 some (by kernel_rfl))
 f286:=Tryz.func243.trans (B4 some (by kernel_rfl))
 f317:=Tryz.func270.trans (B4 some (by kernel_rfl))
 f318:=Tryz.func272.trans (B4 some (by kernel_rfl))
 f319:=Tryz.func273.trans (B4 some (by kernel_rfl))
 f320:=Tryz.func274.trans (B4 some (by kernel_rfl))
 f337:=Tryz.func286.trans (B4 some (by kernel_rfl))
 f338:=Tryz.func287.trans (B4 some (by kernel_rfl))
 t0:=Tryz.underlying0
 a0:=Tryz.isAgg0
 z0:=Tryz.sizeOf0
 v0:=Tryz.zeroValue0
 t2:=Tryz.underlying2
 a2:=Tryz.isAgg2
 z2:=Tryz.sizeOf2
 v2:=Tryz.zeroValue2
 t3:=Tryz.underlying3
 a3:=Tryz.isAgg3
 z3:=Tryz.sizeOf3
 v3:=Tryz.zeroValue3
 t4:=Tryz.underlying4
 a4:=Tryz.isAgg4
 z4:=Tryz.sizeOf4
 v4:=Tryz.zeroValue4
 t5:=Tryz.underlying5
 a5:=Tryz.isAgg5
 z5:=Tryz.sizeOf5
 v5:=Tryz.zeroValue5
 t9:=GQ
 a9:=Tryz.isAgg9
 z9:=Tryz.sizeOf9
 v9:=Tryz.zeroValue9
 t20:=Tryz.underlying20
 a20:=Tryz.isAgg20
 z20:=Tryz.sizeOf20
 v20:=Tryz.zeroValue20
 t37:=Tryz.underlying64
 a37:=Tryz.isAgg64
 z37:=Tryz.sizeOf64
 v37:=Tryz.zeroValue64
 t46:=Tryz.underlying298
 a46:=Tryz.isAgg298
 z46:=Tryz.sizeOf298
 v46:=Tryz.zeroValue298
 t51:=Tryz.underlying330
 a51:=Tryz.isAgg330
 z51:=Tryz.sizeOf330
 v51:=Tryz.zeroValue330
 t53:=Tryz.underlying139
 a53:=Tryz.isAgg139
 z53:=Tryz.sizeOf139
 v53:=Tryz.zeroValue139
 t171:=Tryz.underlying325
 a171:=Tryz.isAgg325
 z171:=Tryz.sizeOf325
 v171:=Tryz.zeroValue325
 t173:=Tryz.underlying328
 a173:=Tryz.isAgg328
 z173:=Tryz.sizeOf328
 v173:=Tryz.zeroValue328
 t212:=Tryz.underlying341
 a212:=Tryz.isAgg341
 z212:=Tryz.sizeOf341
 v212:=Tryz.zeroValue341
 t213:=Tryz.underlying342
 a213:=Tryz.isAgg342
 z213:=Tryz.sizeOf342
 t232:=Tryz.underlying354
 a232:=Tryz.isAgg354
 z232:=Tryz.sizeOf354
 v232:=Tryz.zeroValue354
 t233:=Tryz.underlying355
 a233:=Tryz.isAgg355
 z233:=Tryz.sizeOf355
 v233:=Tryz.zeroValue355
 g17:=by kernel_rfl
 g18:=by kernel_rfl
 g19:=by kernel_rfl
 i0:=by kernel_rfl
 i2:=by kernel_rfl
 i3:=by kernel_rfl
 i4:=by kernel_rfl
 i5:=by kernel_rfl
 i9:=by kernel_rfl
 i20:=by kernel_rfl
 i37:=by kernel_rfl
 i46:=by kernel_rfl
 i51:=by kernel_rfl
 i53:=by kernel_rfl
 i171:=by kernel_rfl
 i173:=by kernel_rfl
 i212:=by kernel_rfl
 i232:=by kernel_rfl
 i233:=by kernel_rfl
 m17:=by kernel_rfl
 m18:=by kernel_rfl
 m19:=by kernel_rfl}
def GT(B:Nat)(w:World):Prop:=Lib.TabBelow Tryz.prog B w "internal/strconv.uint64pow10" .u64 Lib.pow10Tab
theorem GT.go{B:Nat}(h:GT B w)(hb:Below B w w'):GT B w':=fun X a=>h X (C6 hb a)
def DG:Nat->Nat->List UInt8
 |0,n=>[UInt8.ofNat (48+n%10)]
 |f+1,n=>if n<10 then[UInt8.ofNat (48+n)]else DG f (n/10)++[UInt8.ofNat (48+n%10)]
def Bz(n:Nat):List UInt8:=DG 3 n
theorem Pc:∀(f n:Nat),n<10^(f+1)->Lib.decDigits n=DG f n
 |0,n,h=>by
  have b:n<10:=by simpa using h
  rw[Lib.decDigits,dif_pos b,DG,Nat.mod_eq_of_lt b]
 |f+1,n,h=>by
  rw[Lib.decDigits,DG];by_cases a:n<10
  ·rw[dif_pos a,AL a]
  ·rw[dif_neg a,AK a,Pc f (n/10) (by rw[Nat.pow_succ]at h;omega)]
theorem MG:∀(f n:Nat),(DG f n).length<=f+1
 |0,n=>by simp[DG]
 |f+1,n=>by
  have:=MG f (n/10);rw[DG];split
  ·simp
  ·rw[AW];simp;omega
theorem Jw(n:Nat):(Bz n).length<=4:=MG 3 n
theorem V8(w:World)(k:Nat)(os:Array Obj):Below w.heap.size w (Sort.grow (w.drewN k) os):=by
 have h:AA [] w (w.drewN k):=(AG [] w).drewN k;refine⟨h.os,h.tape,h.output,?_,fun j a=>?_⟩
 ·have:=h.size;show w.heap.size<=((w.drewN k).heap++os).size;rw[Array.size_append];omega
 ·rw[<-h.block j a (by simp)];show((w.drewN k).heap++os)[j]? =_;rw[Array.getElem?_append_left (BL a h.size)]
theorem Pd(n:Nat)(c:n<10000)(B:Nat)(w:World)(d:B<=w.heap.size)(a:GT B w):Calls Tryz.prog 105 #[.int .i64 n] w fun e w'=>e=.returned (.string (AJ (Bz n)))∧AA [] w w':=by
 refine(Any.strconv_Itoa V7 (n:Int) (by omega) (by omega) w a.here).mono ?_;rintro e w'⟨rfl,k,os,rfl⟩;refine⟨?_,AA.ofBel (V8 w k os)⟩;have b:¬(n:Int)<0:=by omega
 have:Lib.itoa (n:Int)=Bz n:=by
  unfold Lib.itoa Bz;rw[AK b,Int.toNat_natCast,Pc 3 n (by omega)]
 rw[this];rfl
def Fa(k:AX)(n:Nat)(t:ByteArray):List UInt8:=(if k.n=true then Bz n++[58]else[])++(t.data.toList++[10])
def BQ(k:AX)(n:Nat)(ts:List ByteArray):List UInt8:=ts.flatMap (Fa k n)
theorem V9(k:AX)(n:Nat)(t:ByteArray):(Fa k n t).length<=t.size+6:=by
 have:=Jw n;have e:t.data.toList.length=t.size:=rfl;unfold Fa;split
 ·rw[AW,AW,AW,e];show _+1+(_+1)<=_;omega
 ·rw[AW,AW,e];show 0+(_+1)<=_;omega
theorem Jx(k:AX)(n:Nat):∀ts:List ByteArray,(∀t∈ts,t.size<=10000)->(BQ k n ts).length<=ts.length*10006
 |[],_=>by simp[BQ]
 |t::ts,a=>by
  have ih:=Jx k n ts (fun x b=>a x (II _ b));have c:=V9 k n t;have d:=a t (Ig ..);simp only[BQ,List.flatMap_cons,AW,Aj]at*;omega
theorem MH(k:AX)(n:Nat)(ts:List ByteArray)(i:Nat)(t:ByteArray)(h:ts[i]? =some t):BQ k n (ts.take (i+1))=BQ k n (ts.take i)++Fa k n t:=by
 rw[Gj,h];simp[BQ]
theorem WA(k:AX)(W:Whole)(v tv:Value)(hv:v.oneCell'=true)(ar:tv.oneCell'=true)(B b:Nat)(l:List UInt8)(n:Nat)(hn:n<10000)(r:Value)(ts:List ByteArray)(w:World)(hB:BD w B b l)(aa:GT B w)(ab:l.length<=900000000)(hR:Ca w r ts)(ac:ts.length<=100)(ad:∀t∈ts,t.size<=10000):Calls Tryz.prog 102 #[.agg (Av k W v tv),.pointer (some ⟨b,0,none⟩),.int .i64 n,r] w fun e w'=>e=.returned (.tuple #[])∧BD w' B b (l++BQ k n ts)∧WF B b w w':=by
 obtain⟨ya,G,yc,rfl⟩:=A6 hR;have ae:G=ts.length:=by
  rcases hR.2 with⟨e,M⟩|⟨_,_,_,e,_⟩
  ·cases e;exact M.symm
  ·cases e;rfl
 have j:B<=w.heap.size:=by have:=hB.1;have:=hB.lt;omega
 have I:AA [] w (w.alloc (.cells (Av k W v tv) 117)):=(AG [] w).alloc _;have h0:(w.alloc (.cells (Av k W v tv) 117)).heap[w.heap.size]? =some (.cells (Av k W v tv) 117 (0,0)):=AS w _;have u:=hB.keep I;have y:WF B b w (w.alloc (.cells (Av k W v tv) 117)):=WF.ofKeeps I j;have af:=hR.keep I;have H:Hid (G=ts.length∧ts.length<=100∧(∀t∈ts,t.size<=10000)∧l.length<=900000000∧n<10000):=⟨ae,ac,ad,ab,hn⟩;have au:(G:Int)<=100:=by omega
 have z:w.heap.size≠b:=by have:=hB.lt;omega
 unfold Av at*;go_enter Tryz.func102,Tryz.ntmps102;go_upto_region 1 with(fail)
 generalize w.alloc (.cells #[.bool k.c,.bool k.i,.bool k.n,.bool k.o,.bool k.v,.bool k.x,.bool W.bg,.bool W.en,v,.int .i64 (W.g:Int),tv] 117)=X at*;obtain⟨g0,e0⟩:=AQ w.heap.size;rw[<-e0]at h0 z⊢;have HX:Hid (Ca X (.slice ya G yc) ts∧X.heap[g0]? =some (.cells (Av k W v tv) 117 (0,0))∧g0≠b∧WF B b w X):=⟨af,h0,z,y⟩;have am:Hid (GT B X):=aa.go y.below;have an:Hid (∃cs,X.heap[b]? =some (.cells cs 133 (0,0))):=by
  obtain⟨_,p,v',_,U,_⟩:=u;exact⟨_,U⟩
 clear e0 hR af h0 z y I hB ae ac ad ab j hn aa;go_wp2_with fail;go_loopw [12] (fun q wr=>∃i:Nat,q=.int .i64 i∧i<=G∧BD wr B b (l++BQ k n (ts.take i))∧WF B b X wr) (fun q _=>G-(intOf q).toNat)
 case atStart=>exact⟨0,rfl,AY _,by simpa[BQ]using u,WF.refl _ _ _⟩
 case round=>
  clear u;obtain⟨i,rfl,hi,d,f⟩:=hrel;by_cases hlt:i<G
  rotate_left
  ·have ag:¬(i:Int)<(G:Int):=by omega
   have HE:Hid (ts.take i=ts):=FC (by have:=H.o;omega);clear hlt hi;go_wp2_with fail;go_end0;exact⟨rfl,by rw[HE.o]at d;exact d,HX.o.2.2.2.trans f⟩
  have ag:(i:Int)<(G:Int):=by omega
  have aw:(0:Int)<=(i:Int):=by omega
  have N:Hid (i<G):=hlt;obtain⟨t,ht⟩:∃t,ts[i]? =some t:=⟨_,Ax (by have:=H.o;omega)⟩;have J:Hid (ts[i]? =some t∧t.size<=10000):=⟨ht,H.o.2.2.1 t (C8 ht)⟩;have V:(BQ k n (ts.take i)).length<=100*10006:=by
   have:=Jx k n (ts.take i) (fun x hx=>H.o.2.2.1 x (List.mem_of_mem_take hx));have h2:(ts.take i).length<=100:=by rw[EG];have:=H.o;omega
   have:=Nat.mul_le_mul_right 10006 h2;omega
  have Y:Hid ((l++BQ k n (ts.take i)).length<=902000000):=by
   show _<=_;rw[AW];have:=H.o;omega
  obtain⟨gy,rfl⟩:∃gy,ya=some ⟨gy,0,none⟩:=by
   rcases HX.o.1.2 with⟨e,M⟩|⟨gx,_,_,e,_⟩
   ·exfalso;have:=H.o;omega
   ·cases e;exact⟨gx,rfl⟩
  have ah:X.cell? ⟨gy,i,none⟩=some (.string t):=by
   have h':X.ownsRow 0 9 1 (.slice (some ⟨gy,0,none⟩) ts.length yc) ts.length (ts.map Value.string):=by have h:=HX.o.1;rw[H.o.1]at h;exact h
   rw[BX h' i (by have:=H.o;omega)];simp[ht]
  have ao:wr.cell? ⟨gy,i,none⟩=some (.string t):=by
   rcases HX.o.1.2 with⟨e,M⟩|⟨gx,cap,cur,e,_,K,_⟩
   ·cases e
   ·cases e;have ap:gy≠b:=fun e=>by
     obtain⟨cs,U⟩:=an.o;rw[e,U]at K;cases K
    exact(Ad ((KM K (by decide) ap f).trans K.symm)).trans ah
  have O:=KM HX.o.2.1 (by decide) HX.o.2.2.1 f;obtain⟨_,c2,_,_,_,_⟩:=If O;clear ah V hlt hi ht O;have j:B<=wr.heap.size:=by have:=d.1;have:=d.lt;omega
  have M:AJ (t.data.toList++[10])=t++⟨#[10]⟩:=by rw[<-Eb,ME];rfl
  have ax:¬9223372036854775807<t.size+1:=by have:=J.o;omega
  have P:Hid ((t.data.toList++[10]).length<=10001):=by show _<=_;rw[AW];have:=J.o.2;show t.size+1<=_;omega
  cases s:k.n
  ·rw[s]at c2;have m:=JY B b _ (t.data.toList++[10]) wr d (by have:=Y.o;omega) (by have:=P.o;omega) j;have Z:Hid (l++BQ k n (ts.take (i+1))=l++BQ k n (ts.take i)++(t.data.toList++[10])):=by
    show l++BQ k n (ts.take (i+1))=l++BQ k n (ts.take i)++(t.data.toList++[10]);rw[MH k n ts i t J.o.1];unfold Fa;rw[AK (by rw[s];decide),FN,CS]
   rw[M]at m;clear s M d;go_wp2_with(first|(go_at_call 104;refine m.mono ?_;rintro e w3⟨⟨ev,rfl⟩,a,A,C⟩));have D:BD w3 B b (l++BQ k n (ts.take (i+1))):=by rw[Z.o];exact a
   have E:WF B b X w3:=f.trans ⟨A,C⟩;clear m a A C f
   first
    |exact⟨⟨i+1,by go_num,N.o,D,E⟩,by have:=N.o;simp[intOf];omega⟩
    |(
     go_roundw
     case rel=>exact⟨i+1,by go_num,N.o,D,E⟩
     case measure=>have:=N.o;simp[intOf];omega)
  ·rw[s]at c2;have hit:=Pd n H.o.2.2.2.2 B wr j (am.o.go f.below);have aq:=Jw n;have ay:¬9223372036854775807<(AJ (Bz n)).size+1:=by rw[Bp];omega
   have e3:AJ (Bz n++[58])=AJ (Bz n)++⟨#[58]⟩:=by rw[<-Eb];rfl
   have HD:Hid ((Bz n++[58]).length<=5):=by show _<=_;rw[AW];show _+1<=5;omega
   have Z:Hid (l++BQ k n (ts.take (i+1))=l++BQ k n (ts.take i)++(Bz n++[58])++(t.data.toList++[10])):=by
    show l++BQ k n (ts.take (i+1))=l++BQ k n (ts.take i)++(Bz n++[58])++(t.data.toList++[10]);rw[MH k n ts i t J.o.1];unfold Fa;rw[AL s];simp only[CS]
   clear s aq;go_wp2_with(first|(go_at_call 105;refine hit.mono ?_;rintro e w2⟨rfl,L⟩));have Q:=d.keep L;have R:=f.trans (WF.ofKeeps (b:=b) L j);have ai:B<=w2.heap.size:=BG j L.size;have m:=JY B b _ (Bz n++[58]) w2 Q (by have:=Y.o;omega) (by have:=HD.o;omega) ai;rw[e3]at m;clear hit d f L ao c2;refine m.mono ?_;rintro e w3⟨⟨ev,rfl⟩,a,A,C⟩;have S:=R.trans ⟨A,C⟩;have aj:B<=w3.heap.size:=by have:=a.1;have:=a.lt;omega
   have F:=JY B b _ (t.data.toList++[10]) w3 a (by rw[AW];have:=Y.o;have:=HD.o;omega) (by have:=P.o;omega) aj;rw[M]at F;clear m Q R M e3 A C a;go_wp2_with fail;refine F.mono ?_;rintro e w4⟨⟨az,rfl⟩,T,ak,al⟩;have D:BD w4 B b (l++BQ k n (ts.take (i+1))):=by rw[Z.o];exact T
   have E:WF B b X w4:=S.trans ⟨ak,al⟩;clear F T ak al S;go_wp2_with fail
   first
    |exact⟨⟨i+1,by go_num,N.o,D,E⟩,by have:=N.o;simp[intOf];omega⟩
    |(
     go_roundw
     case rel=>exact⟨i+1,by go_num,N.o,D,E⟩
     case measure=>have:=N.o;simp[intOf];omega)
