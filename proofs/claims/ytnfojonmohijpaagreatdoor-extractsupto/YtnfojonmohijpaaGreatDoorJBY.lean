/-
  DERIVED. The contract of AnySize of a set. Conditions: none.
-/
import Derived.Test.YtnfojonmohijpaaGreatDoorJBP
import Derived.Lib.Split
import Derived.Lib.SplitLaws
import Derived.Laws.Strings3
import Derived.Deep.OwnRows
import Derived.Deep.LoopGhost
import Derived.Deep.Light
set_option linter.all false
set_option maxRecDepth 100000
set_option maxHeartbeats 8000000
namespace Go.Proofs.YtnfojonmohijpaaGreatDoor
open Go.RowKit
variable{X w:World}{x:AD}{cs:List Value}{g:Nat}
def Gm:=@Tryz.underlying43
def E5(f:Nat->Bool)(m n:Nat):Bool:=if(97<=n∧n<97+m)∨(65<=n∧n<65+m)then f n||f (DR n)else f n
theorem VX(f:Nat->Bool)(n:Nat):E5 f 26 n=Bw true f n:=by
 unfold E5 Bw DR;by_cases a:97<=n∧n<97+26
 ·rw[AL (AH a),AL (by omega)];rfl
 ·by_cases b:65<=n∧n<65+26
  ·rw[AL (AE b),AK (by omega),AL (by omega)];rfl
  ·rw[AK (by omega),AK (by omega),AK (by omega)];cases f n<;>rfl
theorem VY(f:Nat->Bool)(m n:Nat)(hm:m<26):(if n=65+m then f (97+m)||f (65+m)else if n=97+m then f (97+m)||f (65+m)else E5 f m n)=E5 f (m+1) n:=by
 have d:DR (97+m)=65+m:=by unfold DR;rw[AL (by omega)];omega
 have e:DR (65+m)=97+m:=by unfold DR;rw[AK (by omega),AL (by omega)];omega
 unfold E5;by_cases a:n=65+m
 ·subst a;rw[AL rfl,AL (by omega),e,Bool.or_comm]
 ·rw[AK a];by_cases b:n=97+m
  ·subst b;rw[AL rfl,AL (by omega),d]
  ·rw[AK b];by_cases c:(97<=n∧n<97+m)∨(65<=n∧n<65+m)
   ·rw[AL c,AL (by omega)]
   ·rw[AK c,AK (by omega)]
theorem VZ(f:Nat->Bool)(m:Nat)(hm:m<26):E5 f m (97+m)=f (97+m)∧E5 f m (65+m)=f (65+m):=by
 unfold E5;exact⟨by rw[AK (by omega)],by rw[AK (by omega)]⟩
theorem Va(f:Nat->Bool)(w:World):Calls Tryz.prog 264 #[.agg (AZ f)] w fun e w'=>e=.returned (.agg (AZ (Bw true f)))∧AA [] w w':=by
 have d:HQ ((w.alloc (.cells (AZ f) 206)).alloc (.cells (AZ fun _=>false) 206)) w.heap.size f:=C2 w _ _;have h:HQ ((w.alloc (.cells (AZ f) 206)).alloc (.cells (AZ fun _=>false) 206)) (w.heap.size+1) (fun _=>false):=Df w _ _;have j:AA [] w ((w.alloc (.cells (AZ f) 206)).alloc (.cells (AZ fun _=>false) 206)):=((AG [] w).alloc _).alloc _;generalize A:AZ f=C at*;go_enter Tryz.func264,Tryz.ntmps264;go_wp2_with(first|(refine G8 rfl rfl (some 2) rfl ?_));generalize(w.alloc (.cells C 206)).alloc (.cells (AZ fun _=>false) 206)=W at*;obtain⟨g,hgq⟩:=An w.heap.size;rw[hgq]at d h⊢;go_loopw [7] (fun q wr=>∃m:Nat,m<=26∧q=.int .i64 m∧HQ wr g (E5 f m)∧HQ wr (g+1) (fun _=>false)∧AA [] w wr) (fun q _=>26-(intOf q).toNat)
 case atStart=>exact⟨0,by omega,rfl,d.congr (fun n _=>by unfold E5;rw[AK (by omega)]),h,j⟩
 case round=>
  clear d h j;obtain⟨m,hm,rfl,a,b,t⟩:=hrel;by_cases hlt:m<26
  ·obtain⟨x,a2⟩:=VZ f m hlt;have i:=a.cell (k:=97+m) (by omega);have l:=a.cell (k:=65+m) (by omega);rw[x]at i;rw[a2]at l;have B:=a.frozen (97+m);have D:=a.frozen (65+m);have E:(0:Int)<=(m:Int):=by omega
   have F:(m:Int)<26:=by omega
   have y:Hid (∀e,e=(f (97+m)||f (65+m))->HQ ((wr.setCell ⟨g,97+m,none⟩ (.bool e)).setCell ⟨g,65+m,none⟩ (.bool e)) g (E5 f (m+1))):=fun e he=>((a.set (97+m) e).set (65+m) e).congr fun n G=>by
    rw[he];exact VY f m n hlt
   have z:Hid (∀e,HQ ((wr.setCell ⟨g,97+m,none⟩ (.bool e)).setCell ⟨g,65+m,none⟩ (.bool e)) (g+1) (fun _=>false)):=fun e=>b.keep (((AG [g] wr).setCell (p:=⟨g,97+m,none⟩) (by simp) _).setCell (p:=⟨g,65+m,none⟩) (by simp) _) (by simp)
   have r:Hid (∀e,AA [] w ((wr.setCell ⟨g,97+m,none⟩ (.bool e)).setCell ⟨g,65+m,none⟩ (.bool e))):=fun e=>(t.setCell (AE (by simp;omega)) _).setCell (AE (by simp;omega)) _
   have c:Hid (m<26):=hlt;obtain⟨c2,s⟩:=An (f (65+m));rw[s]at l;clear a b t x a2 hlt hm A;cases hb:f (97+m)
   ·rw[hb]at i;have u:Hid (c2=(f (97+m)||f (65+m))):=by show _=_;rw[hb,s];rfl
    clear hb s;go_wp2;go_roundw
    case rel=>exact⟨m+1,c.o,by go_num,y.o _ u.o,z.o _,r.o _⟩
    case measure=>have:=c.o;simp[intOf];omega
   ·rw[hb]at i;have u:Hid (true=(f (97+m)||f (65+m))):=by show _=_;rw[hb];rfl
    clear hb s;go_wp2;go_roundw
    case rel=>exact⟨m+1,c.o,by go_num,y.o _ u.o,z.o _,r.o _⟩
    case measure=>have:=c.o;simp[intOf];omega
  ·have e:m=26:=by omega
   subst e;have v:HQ wr g (Bw true f):=a.congr fun n G=>VX f n
   go_wp2_with(first|(refine As rfl 206 _ rfl g rfl _ _ _ _ v EM rfl (C3 _) ?_)|(refine Ae rfl 206 _ _ rfl (g+1) _ rfl rfl _ _ b (C3 _) (by rw[Bo,Bo]) (G9 _) ?_));refine Ag (Au rfl _ _ (g+1) _ _ _ _ rfl (Aa _ _ _ _ _ _ b) EM rfl (C3 _)) rfl ?_;exact⟨rfl,t.setRow (AE (by omega)) _⟩
theorem Vb(w:World):(Instr.alloc 212 true (.tuple #[])).run Tryz.prog w=.ok (.pointer (some ⟨w.heap.size,0,none⟩)) (w.alloc (.cells pz.toArray 212)):=by kernel_rfl
theorem Vc{ops:Array Oper}{rest:List Oper}{o:Oper}{a:Act}{Q:Exit->Act->World->Prop}(b:o.guard=none)(c:o.op=.alloc 212)(d:Option Tmp)(hd:o.dst=d)(h:wpList Tryz.prog ops Q rest (a.put d (.pointer (some ⟨w.heap.size,0,none⟩))) (w.alloc (.cells pz.toArray 212))):wpList Tryz.prog ops Q (o::rest) a w:=by
 subst hd;refine wpList_plain b fun K e=>?_
 unfold Oper.wp execOp;simp only[c,Sem.run_bind,Vb,Sem.run_pure,Result.andThen_ok];exact e _ _ h
def Jv(n:Nat):Prop:=∀(x:AD)(v:Value)(S:Nat->Prop)(w:World),x.sz<n->x.sz<=1000->AT w S .ways x [v]->
 Calls Tryz.prog 198 #[v] w fun e w'=>∃r,e=.returned r∧Bk r∧AT w' (fun g=>w.heap.size<=g) .ways (x.fo true) [r]∧AA [] w w'
theorem Vd(x:AD)(o:Option (Nat×Int)):(Cn x o).fo true=Cn (x.fo true) o:=by
 cases o with
 |none=>rfl
 |some p=>rfl
theorem Ve:(Bw true fun _=>false)=fun _=>false:=by funext c;rfl
theorem AT.wsl{S:Nat->Prop}{v:Value}(h:AT w S .ways x [v]):Bk v:=by
 cases h with
 |ways _ _ _ _ _ a _=>exact A6 a
theorem Vf(w:World):Calls Tryz.prog 198 #[.slice none 0 0] w fun e w'=>e=.returned (.slice none 0 0)∧AA [] w w':=by
 go_enter Tryz.func198,Tryz.ntmps198;go_wp2_with fail;go_loopw [3,8] (fun a b wr=>a=.slice none 0 0∧b=.int .i64 0∧AA [] w wr) (fun _ _ _=>0)
 case atStart=>exact⟨rfl,rfl,AG _ _⟩
 case round=>
  obtain⟨rfl,rfl,c⟩:=hrel;go_wp2_with fail;go_ret;exact⟨rfl,c⟩
theorem Vg{n:Nat}(l:Jv n){S:Nat->Prop}{y:AD}(h:AT w S .single y cs)(m:y.sz<=n)(o:y.sz<=1000):∃a u f,cs=sc a u f∧a.oneCell'=true∧Bk u∧∀w',AA [] w w'->Calls Tryz.prog 198 #[u] w' fun e w2=>∃r,e=.returned r∧Bk r∧AT w2 (fun g=>w'.heap.size<=g) .single (y.fo true) (sc a r (Bw true f))∧AA [] w' w2:=by
 cases h with
 |set f=>
  refine⟨_,_,f,rfl,rfl,⟨_,_,_,rfl⟩,fun w' _=>(Vf w').mono ?_⟩;rintro e w2⟨rfl,b⟩;exact⟨_,rfl,⟨_,_,_,rfl⟩,.set _,b⟩
 |grp k x v p c j=>
  have q:x.sz<n:=by simp only[AD.sz]at m;omega
  refine⟨_,v,_,rfl,rfl,j.wsl,fun w' b=>(l x v S w' q (by simp only[AD.sz]at o;omega) (j.keep b (by simp))).mono ?_⟩;rintro e w2⟨r,rfl,s,d,i⟩;refine⟨r,rfl,s,?_,i⟩;rw[Ve];exact .grp k _ r p c d
theorem PO:∀{x:AD}{w:World}{S:Nat->Prop}{cs:List Value},AT w S .plist x cs->app ((pl x).map (AD.fo true)) .pnil=x.fo true
 | .pnil,_,_,_,_=>rfl
 | .pcons x r,_,_,_,h=>by
  cases h with
  |pcons _ _ _ _ _ a=>
   have:=PO a;simp only[pl,D6,app,AD.fo,this]
structure FZ (w wr : World) (v : Value) (ys : List AD) (cs : List Value) : Prop where
 own : wr.ownsRow 0 212 261 v ys.length cs
 fresh : ∀ g, v.ownBlock = some g -> w.heap.size <= g
 rep : AT wr (fun g => w.heap.size <= g ∧ v.ownBlock ≠ some g) .plist (app ys .pnil) cs
 keep : AA [] w wr
theorem FZ.start(w:World):FZ w w (.slice none 0 0) [] []:=⟨⟨rfl,.inl ⟨rfl,rfl⟩⟩,fun g h=>by simp[Value.ownBlock]at h,.pnil,AG _ _⟩
theorem FZ.next{w1 w5 w7:World}{v:Value}{ys:List AD}{c1:List Value}{g' cap:Nat}{o:Option (Nat×Int)}(L:FZ w w1 v ys cs)(j:AA [] w1 w5)(n:okRep o)(f:AT w5 (fun y=>w1.heap.size<=y) .single x c1)(g:w7.ownsRow 0 212 261 (.slice (some ⟨g',0,none⟩) (ys.length+1) cap) (ys.length+1) (cs++(c1++Af o)))(b:(w5.alloc (.cells (c1++Af o).toArray 212)).grownBy w7 v.ownBlock)(c:v.ownBlock=some g'∨g'=w5.heap.size+1):FZ w w7 (.slice (some ⟨g',0,none⟩) (ys.length+1) cap) (ys++[Cn x o]) (cs++(c1++Af o)):=by
 have d:AA v.ownBlock.toList w5 w7:=((AG v.ownBlock.toList w5).alloc _).trans (De b);have k:∀y,y∈v.ownBlock.toList->w.heap.size<=y:=by
  intro y a;rw[Ay]at a;exact L.fresh y a
 have i:=A3 L.own;have s1:=L.keep.size;have p:=j.size;refine⟨?_,?_,?_,(L.keep.trans j).fresh d fun y a=>AE (k y a)⟩
 ·rw[AW,CK];exact g
 ·intro y a;cases a;rcases c with h|h
  ·exact L.fresh _ h
  ·show w.heap.size<=g';omega
 ·refine AT.snocP (.piece x o c1 n ?_) ?_
  ·refine((f.mono (S':=fun y=>w1.heap.size<=y∧y<w5.heap.size) fun y l m=>⟨l,m⟩).keep d ?_).mono ?_
   ·intro y a hm;rw[Ay]at hm;have:=(i y hm).2;omega
   ·intro y a _;refine⟨by omega,?_⟩;intro e;cases e;rcases c with h|h
    ·have:=(i _ h).2;have:=a.1;simp at this;omega
    ·have:=a.2;simp at this;omega
  ·refine(((L.rep.mono (S':=fun y=>(w.heap.size<=y∧v.ownBlock≠some y)∧y<w1.heap.size) fun y l m=>⟨l,m⟩).keep j ?_).keep d ?_).mono ?_
   ·intro y a;simp
   ·intro y a hm;rw[Ay]at hm;exact a.1.2 hm
   ·intro y a _;refine⟨a.1.1,?_⟩;intro e;cases e;rcases c with h|h
    ·exact a.1.2 h
    ·have:=a.2;simp at this;omega
theorem Vh{a u r:Value}{f:Nat->Bool}{t:List Value}{T:TypeId}{fr:Nat×Nat}(h:X.heap[g]? =some (.cells (sc a u f++t).toArray T fr)):(X.setCell ⟨g,1,none⟩ r).heap[g]? =some (.cells (sc a r f++t).toArray T fr):=by
 have e:(sc a u f++t).set 1 r=sc a r f++t:=rfl;simp[World.setCell,Aq,h,e]
theorem PQ{T:TypeId}{fr:Nat×Nat}(h:X.heap[g]? =some (.cells cs.toArray T fr)):X.rangeAt g 0 cs:=fun j v a=>by
 rw[AU h,Ba];simpa using a
theorem Vi{o n:Nat}{T:TypeId}(h:X.heap[g]? =some (.cells cs.toArray T (0,0)))(a:o+n<=cs.length):X.there g o n:=fun j b=>by
 refine⟨?_,?_⟩
 ·rw[AU h];simp only[List.getElem?_toArray];rw[Ax (by omega)];rfl
 ·simp[World.frozen?,h]
theorem Vj(a u:Value)(f:Nat->Bool)(t:List Value):(sc a u f++t)[0]? =some a:=by unfold sc;simp only[DL,List.getElem?_cons_zero]
theorem Vk(a u:Value)(f:Nat->Bool)(t:List Value):(sc a u f++t)[1]? =some u:=by unfold sc;simp only[DL,List.getElem?_cons_succ,List.getElem?_cons_zero]
theorem Kl(a u:Value)(f:Nat->Bool)(t:List Value)(q:Nat):(sc a u f++t)[2+q]? =((AZ f).toList++t)[q]? :=by
 rw[Nat.add_comm];unfold sc;simp only[DL,List.getElem?_cons_succ]
theorem Vl{a u:Value}{f f':Nat->Bool}{t:List Value}(h:X.rangeAt g 0 (sc a u f++t))(c:X.there g 2 256):(X.setCells g 2 (AZ f').toList).rangeAt g 0 (sc a u f'++t):=by
 have e:(AZ f').toList.length=256:=by simp[Bo]
 have d:(AZ f).toList.length=256:=by simp[Bo]
 intro j v b;by_cases i:j<2
 ·rw[World.cell?_setCells_out g _ _ _ _ (fun _ _=>AH (by show 0+j<2;omega))];refine h j v ?_;rcases(by omega:j=0∨j=1)with rfl|rfl
  ·rw[Vj]at b⊢;exact b
  ·rw[Vk]at b⊢;exact b
 ·obtain⟨q,rfl⟩:∃q,j=2+q:=⟨j-2,by omega⟩;by_cases k:q<256
  ·rw[<-e]at c;have:=World.rangeAt_setCells_same X g 2 (AZ f').toList c q v (by
    rw[Kl,Db (by omega)]at b;exact b)
   rw[Ba];exact this
  ·rw[World.cell?_setCells_out g _ _ _ _ (fun _ _=>AE (by show 2+(AZ f').toList.length<=0+(2+q);omega))];refine h (2+q) v ?_;rw[Kl,ER (by omega),e]at b;rw[Kl,ER (by omega),d];exact b
theorem Vm{ops:Array Oper}{rest:List Oper}{o:Oper}{a:Act}{Q:Exit->Act->World->Prop}(c:o.guard=none)(x:Operand)(e:o.op=.buildSlice 204 1 #[(0,x)])(d:Option Tmp)(hd:o.dst=d)(b:List Value)(f:a.eval x=.agg b.toArray)(g:b.length=261)(h:wpList Tryz.prog ops Q rest (a.put d (.slice (some ⟨w.heap.size,0,none⟩) 1 1)) (w.alloc (.cells b.toArray 212))):wpList Tryz.prog ops Q (o::rest) a w:=by
 subst hd;exact wpList_plain c fun K i=>LF x e b f g (i _ _ h)
theorem Vn:(pl x).length<=x.sz:=by
 induction x with
 |pcons x r _ ih=>simp only[pl,Aj,AD.sz];omega
 |_=>simp[pl]
theorem MD(h:cs.length=261):(Tryz.prog.info? 212).map (·.size)=some cs.length:=by
 obtain⟨i0,a,_,b,_⟩:=A2 JK;rw[a,h];simp[b]
theorem Vo(f:Nat->Bool):(Tryz.prog.info? 206).map (·.size)=some (AZ f).toList.length:=by rw[Array.length_toList];exact C3 f
theorem Vp(n:Nat)(IH:Jv n)(x:AD)(v:Value)(S:Nat->Prop)(w:World)(hn:x.sz<=n)(h9:x.sz<=1000)(hr:AT w S .way x [v]):Calls Tryz.prog 237 #[v] w fun e w'=>∃r,e=.returned r∧Bk r∧AT w' (fun g=>w.heap.size<=g) .way (x.fo true) [r]∧AA [] w w':=by
 obtain⟨cs,m,b,d⟩:∃cs m,AT w S .plist x cs∧w.ownsRow 0 212 261 v m cs:=by
  cases hr with
  |way _ cs _ m A h2 _=>exact⟨cs,m,A,h2⟩
 obtain⟨_,aO,aw⟩:=b.pl_text;obtain⟨va,vn,vc,rfl⟩:=A6 d;have hm:m=(pl x).length∧vn=m:=by
  have A:=d.1;rcases d.2 with⟨e,e2⟩|⟨_,_,_,e,_⟩
  ·cases e;exact⟨by omega,e2.symm⟩
  ·cases e;exact⟨by omega,rfl⟩
 obtain⟨rfl,rfl⟩:=hm;have aP:Hid (AT w S .plist x cs):=b;have aQ:Hid (∀(i:Nat)(y:AD),(pl x)[i]? =some y->∃ds,AT w S .piece y ds∧(∀(j:Nat)(u:Value),ds[j]? =some u->cs[i*261+j]? =some u)∧y.sz<x.sz):=aw;have ax:Hid (x.sz<=n∧x.sz<=1000):=⟨hn,h9⟩;have hle:=Vn (x:=x);obtain⟨N,hN⟩:=An ((pl x).length);rw[hN]at d hle⊢;have HN:Hid ((pl x).length=N):=hN;have a1:(N:Int)<=1000:=by omega
 have ay:Hid (w.ownsRow 0 212 261 (.slice va N vc) N cs):=d;clear hr b aw aO hn h9 hN hle d;go_enter Tryz.func237,Tryz.ntmps237;go_wp2_with fail;go_loopw [3,8] (fun q3 q8 wr=>∃(i:Nat)(s:List Value),q8=.int .i64 i∧i<=N∧FZ w wr q3 (((pl x).take i).map (AD.fo true)) s) (fun _ q8 _=>N-(intOf q8).toNat)
 case atStart=>exact⟨0,[],rfl,AY _,FZ.start w⟩
 case round=>
  obtain⟨i,s,rfl,hi,L⟩:=hrel;obtain⟨ma,mn,mc,rfl⟩:=A6 L.own;by_cases hlt:i<N
  ·have az:(i:Int)<(N:Int):=by omega
   have aA:(0:Int)<=(i:Int):=by omega
   obtain⟨y,hy⟩:∃y,(pl x)[i]? =some y:=⟨_,Ax (by have:=HN.o;omega)⟩;obtain⟨ds,am,aB,aC⟩:=aQ.o i y hy;obtain⟨y',o,c0,aD,aE,e1,e2⟩:∃y' o c0,okRep o∧AT w S .single y' c0∧y=Cn y' o∧ds=c0++Af o:=by
    cases am with
    |piece y' o c0 A h2=>exact⟨y',o,c0,A,h2,rfl,rfl⟩
   subst e1 e2;have an:=OP y' o;obtain⟨a,u,f,rfl,ha,hu,aF⟩:=Vg IH aE (by have:=ax.o;omega) (by have:=ax.o;omega);obtain⟨B,un,D,rfl⟩:=hu;have b:(sc a (.slice B un D) f++Af o).length=261:=by rw[AW,Cp,Fu]
   obtain⟨gv,rfl⟩:∃gv,va=some ⟨gv,0,none⟩:=by
    rcases ay.o.2 with⟨_,e2⟩|⟨gx,_,_,e,_⟩
    ·exfalso;omega
    ·cases e;exact⟨gx,rfl⟩
   have ao:wr.rangeAt gv (i*261) (sc a (.slice B un D) f++Af o):=fun j v hv=>by
    have hj:j<261:=by rw[<-b];exact(BT.1 hv).1
    have A:=BX ay.o (i*261+j) (by omega);rw[aB j v hv]at A;exact Ac L.keep A
   have M:∀z∈sc a (.slice B un D) f++Af o,z.oneCell'=true:=am.cells.1;have O:(wr.alloc (.cells pz.toArray 212)).heap[wr.heap.size]? =some (.cells pz.toArray 212 (0,0)):=AS wr _;have af:AA [] wr ((wr.alloc (.cells pz.toArray 212)).setRow wr.heap.size (sc a (.slice B un D) f++Af o).toArray):=((AG [] wr).alloc _).setRow (AE (AP _)) _;have k:((wr.alloc (.cells pz.toArray 212)).setRow wr.heap.size (sc a (.slice B un D) f++Af o).toArray).heap[wr.heap.size]? =some (.cells (sc a (.slice B un D) f++Af o).toArray 212 (0,0)):=Aa _ _ _ _ _ _ O;have P:(Tryz.prog.info? 212).map (·.size)=some (sc a (.slice B un D) f++Af o).toArray.size:=by rw[MD b];simp
   have Q:pz.toArray.size=(sc a (.slice B un D) f++Af o).toArray.size:=by simp only[List.size_toArray,Hb,b]
   have R:(sc a (.slice B un D) f++Af o).toArray.all (·.oneCell')=true:=FO M;have HL:Hid (FZ w wr (.slice ma mn mc) (((pl x).take i).map (AD.fo true)) s):=L;have HY:Hid ((pl x)[i]? =some (Cn y' o)):=hy;have c:Hid (okRep o∧i<N):=⟨aD,hlt⟩;have aR:Hid (∀w',AA [] w w'->Calls Tryz.prog 198 #[.slice B un D] w' fun e w2=>∃r,e=.returned r∧Bk r∧AT w2 (fun g=>w'.heap.size<=g) .single (y'.fo true) (sc a r (Bw true f))∧AA [] w' w2):=aF;have I:=MD b;obtain⟨pc,ap⟩:=An (sc a (.slice B un D) f++Af o);have aG:Hid (sc a (.slice B un D) f++Af o=pc):=ap;rw[ap]at ao M af k P Q R b I;clear L am aB aE hy hlt hi aD aF aC an ap;go_upto_region 5 with(first|(refine ED rfl 212 _ rfl gv (i*261) rfl pc _ ao Tryz.underlying212 rfl I ?_)|(refine Vc rfl rfl (some 5) rfl ?_)|(refine Ae rfl 212 _ _ rfl wr.heap.size _ rfl rfl _ _ O P Q R ?_))
   generalize(wr.alloc (.cells pz.toArray 212)).setRow wr.heap.size pc.toArray=Y at*;obtain⟨g,hg⟩:=AQ wr.heap.size;rw[<-hg]at k⊢;have HG:Hid (g=wr.heap.size):=hg;have ag:g<Y.heap.size:=(AN.1 k).1;have c1:Y.cell? ⟨g,1,none⟩=some (.slice B un D):=by rw[AU k,<-aG.o];simp[sc]
   clear O ao M P Q R hg;go_wp2_with fail;refine(aR.o Y (HL.o.keep.trans af)).mono ?_;rintro e w2⟨r,rfl,aS,aj,T⟩;obtain⟨J,K,rc,rfl⟩:=aS;have E:w2.heap[g]? =some (.cells (sc a (.slice B un D) f++Af o).toArray 212 (0,0)):=by rw[aG.o];exact(T.block g ag (by simp)).trans k
   have l:=Vh (r:=.slice J K rc) E;have aT:w2.cell? ⟨g,1,none⟩=some (.slice B un D):=Ac T c1;have aU:w2.frozen? ⟨g,1,none⟩=false:=by simp[World.frozen?,E]
   have aH:AA [g] w2 (w2.setCell ⟨g,1,none⟩ (.slice J K rc)):=(AG [g] w2).setCell (AH (by simp)) _;have U:=aj.keep aH (fun y hy=>by have:=ag;simp;omega);have hk3:AA [] wr (w2.setCell ⟨g,1,none⟩ (.slice J K rc)):=(af.trans T).setCell (AE (by have:=HG.o;simp;omega)) _;have aI:Hid (g<Y.heap.size∧Y.heap.size<=w2.heap.size):=⟨ag,T.size⟩;clear c1 k T aj af aH E ag I b;go_upto_region 6 with(fail)
   have a2:(w2.setCell ⟨g,1,none⟩ (.slice J K rc)).heap.size=w2.heap.size:=by simp
   generalize w2.setCell ⟨g,1,none⟩ (.slice J K rc)=Z at*;have ak:=PQ l;have W:Z.rangeAt g 2 (AZ f).toList:=fun q z hq=>by
    have a3:q<256:=by have:=(BT.1 hq).1;simpa[Bo]using this
    have A:=ak (2+q) z (by rw[Kl,Db (by simp[Bo];omega)];exact hq);rw[Ba]at A;exact A
   have ah:=Va f Z;rw[<-Array.toArray_toList (xs:=AZ f)]at ah;have aq:=Vo f;obtain⟨F,hF⟩:=An ((AZ f).toList);rw[hF]at ah W aq;clear hF aT aU ak;go_wp2_with(first|(refine ED rfl 206 _ rfl g 2 rfl F _ W EM rfl aq ?_));refine ah.mono ?_;rintro e w4⟨rfl,hk4⟩;have aV:g<Z.heap.size:=(AN.1 l).1;have G:=(hk4.block g aV (by simp)).trans l;have X:w4.there g 2 (AZ (Bw true f)).size:=by rw[Bo];exact Vi G (by rw[AW,Cp,Fu];omega)
   have H:=Vl (f':=Bw true f) (PQ G) (by rw[Bo]at X;exact X);have ar:=C3 (Bw true f);have au:=G9 (Bw true f);have ai:AA [g] w4 (w4.setCells g 2 (AZ (Bw true f)).toList):=F4 (AH (by simp)) _ w4 2 (AG [g] w4);have aa:AA [] wr (w4.setCells g 2 (AZ (Bw true f)).toList):=(hk3.trans hk4).fresh ai (by intro y hy;simp at hy;have:=HG.o;omega);have p:=(U.keep hk4 (by simp)).keep ai (fun y hy=>by have:=aI.o;simp;omega);obtain⟨C,hC⟩:=An (AZ (Bw true f));rw[hC]at X ar au ai aa p H⊢;clear ah W aq l G hk3 hk4 U;go_upto_region 7 with(first|(refine wpList_store_mid rfl 206 _ _ rfl g 2 C rfl rfl X ar au ?_))
   generalize w4.setCells g 2 C.toList=V at*;have b:(sc a (.slice J K rc) (Bw true f)++Af o).length=261:=by rw[AW,Cp,Fu]
   have al:∀u∈sc a (.slice J K rc) (Bw true f)++Af o,u.oneCell'=true:=(AT.piece _ o _ c.o.1 p).cells.1;have I:=MD b;have ab:AT V (fun y=>wr.heap.size<=y) .single (y'.fo true) (sc a (.slice J K rc) (Bw true f)):=p.mono fun y h _=>by have:=aI.o;have:=HG.o;omega
   have aJ:Hid (∀g' cap w7,w7.ownsRow 0 212 261 (.slice (some ⟨g',0,none⟩) (i+1) cap) (i+1) (s++(sc a (.slice J K rc) (Bw true f)++Af o))->(V.alloc (.cells (sc a (.slice J K rc) (Bw true f)++Af o).toArray 212)).grownBy w7 (Value.slice ma mn mc).ownBlock->((Value.slice ma mn mc).ownBlock=some g'∨g'=V.heap.size+1)->FZ w w7 (.slice (some ⟨g',0,none⟩) (i+1) cap) (((pl x).take (i+1)).map (AD.fo true)) (s++(sc a (.slice J K rc) (Bw true f)++Af o))):=fun g' cap w7 A h2 h3=>by
    have hlen:(((pl x).take i).map (AD.fo true)).length=i:=by rw[Ce,EG];have:=HN.o;have:=c.o.2;omega
    have h:=FZ.next (g':=g') (cap:=cap) (w7:=w7) HL.o aa c.o.1 ab (by rw[hlen];exact A) h2 h3;rw[hlen]at h;have e:((pl x).take (i+1)).map (AD.fo true)=((pl x).take i).map (AD.fo true)++[Cn (y'.fo true) o]:=by
     rw[Gj,HY.o];simp[Vd]
    rw[e];exact h
   have ac:V.ownsRow 0 212 261 (.slice ma mn mc) i s:=by
    have h:=HL.o.own;rw[Ce,EG,Nat.min_eq_left (by have:=HN.o;have:=c.o.2;omega)]at h;exact Ep h aa (by simp)
   obtain⟨i0,aA,O,aW,aK⟩:=A2 JK;have aX:i+1<=maxLen:=by unfold maxLen;have:=c.o.2;omega
   have aY:(i+1)*312<=140737488355328:=by have:=c.o.2;omega
   have aZ:(Value.agg pz.toArray).cells.size=261:=by simp[Value.cells,Hb]
   obtain⟨pd,aL⟩:=An (sc a (.slice J K rc) (Bw true f)++Af o);rw[aL]at H b al I aJ;clear aL p ab X ar au ai hC;go_wp2_with(first|(refine ED rfl 212 _ rfl g 0 rfl pd _ H Tryz.underlying212 rfl I ?_)|(refine Vm rfl (.tmp 25) rfl (some 26) rfl pd rfl b ?_)|(at_builtin;refine CC _ rfl _ _ _ rfl 0 212 i0 _ 261 312 Tryz.underlying204 aA O aW aK aZ (by omega) (.slice ma mn mc) i s rfl (ac.alloc _) ⟨V.heap.size,0,none⟩ 1 1 pd rfl (by rw[b]) (Dq (cs:=pd.toArray) (t:=212) (fr:=(0,0)) (AS V _)) al (by omega) aX aY (AY _) (V.heap.size+1) (by simp) ?_;intro g' cap w7 ad ae aM aN));have L7:=aJ.o g' cap w7 ad ae aM;clear ad ae aM aN H ac
   first
    |exact⟨⟨i+1,_,by go_num,c.o.2,L7⟩,by have:=c.o;simp[intOf];omega⟩
    |(
     go_roundw
     case rel=>exact⟨i+1,_,by go_num,c.o.2,L7⟩
     case measure=>have:=c.o;simp[intOf];omega)
  ·have az:¬(i:Int)<(N:Int):=by omega
   have a4:i=N:=by omega
   have HR:Hid (AT wr (fun g=>w.heap.size<=g) .way (x.fo true) [.slice ma mn mc]):=by
    show AT wr (fun g=>w.heap.size<=g) .way (x.fo true) [.slice ma mn mc];have A:=L.rep;rw[FC (by have:=HN.o;omega),PO aP.o]at A;exact .way _ s _ _ (A.mono fun g h _=>h.1) L.own fun g hg=>L.fresh g hg
   have hk:=L.keep;clear L hlt hi;go_wp2_with fail;go_ret;exact⟨_,rfl,⟨_,_,_,rfl⟩,HR.o,hk⟩
theorem Vq{wr:World}{S S':Nat->Prop}:∀{x:AD}{vs:List Value},AT w S .wlist x vs->∀{a:List Value},a.length=vs.length->(∀(k:Nat)(y:AD),(wl x)[k]? =some y->∃u,a[k]? =some u∧AT wr S' .way (y.fo true) [u])->AT wr S' .wlist (x.fo true) a:=by
 intro x
 induction x with
 |wone x _=>
  intro vs h a b he;cases h with
  |wone _ v _=>
   obtain⟨u,hu,c⟩:=he 0 x rfl;have:a=[u]:=by
    match a,b,hu with
    |[z],_,hu=>simp at hu;rw[hu]
   rw[this];exact .wone _ u c
 |wcons x r _ ih=>
  intro vs h a b he;cases h with
  |wcons _ _ v e _ f=>
   obtain⟨u,hu,c⟩:=he 0 x rfl
   match a,b,hu,he with
   |z::d,b,hu,he=>
    simp at hu;subst hu;exact .wcons _ _ z d c (ih f (by simpa using b) fun k y g=>by simpa using he (k+1) y (by simpa[wl]using g))
 |_=>intro vs h;cases h
theorem Vr:(wl x).length<=x.sz:=by
 induction x with
 |wone x _=>simp[wl,AD.sz]
 |wcons x r _ ih=>simp only[wl,Aj,AD.sz];omega
 |_=>simp[wl]
structure GB (w wr : World) (v : Value) (x : AD) (i : Nat) (vs : List Value) : Prop where
 own : wr.ownsRow 0 204 1 v i vs
 fresh : ∀ g, v.ownBlock = some g -> w.heap.size <= g
 each : ∀ (k : Nat) (y : AD), k < i -> (wl x)[k]? = some y -> ∃ u, vs[k]? = some u ∧ AT wr (fun g => w.heap.size <= g ∧ v.ownBlock ≠ some g) .way (y.fo true) [u]
 keep : AA [] w wr
theorem GB.start(w:World)(x:AD):GB w w (.slice none 0 0) x 0 []:=⟨⟨rfl,.inl ⟨rfl,rfl⟩⟩,fun g h=>by simp[Value.ownBlock]at h,fun k y h=>by omega,AG _ _⟩
theorem GB.next{w1 w5 w7:World}{v u:Value}{y:AD}{i:Nat}{vs:List Value}{g' cap:Nat}(L:GB w w1 v x i vs)(n:AA [] w1 w5)(a:(wl x)[i]? =some y)(f:AT w5 (fun g=>w1.heap.size<=g) .way (y.fo true) [u])(j:w7.ownsRow 0 204 1 (.slice (some ⟨g',0,none⟩) (i+1) cap) (i+1) (vs++[u]))(b:(w5.alloc (.cells #[u] 204)).grownBy w7 v.ownBlock)(c:v.ownBlock=some g'∨g'=w5.heap.size+1):GB w w7 (.slice (some ⟨g',0,none⟩) (i+1) cap) x (i+1) (vs++[u]):=by
 have d:AA v.ownBlock.toList w5 w7:=((AG v.ownBlock.toList w5).alloc _).trans (De b);have o:∀y,y∈v.ownBlock.toList->w.heap.size<=y:=by
  intro y a;rw[Ay]at a;exact L.fresh y a
 have l:=A3 L.own;have s1:=L.keep.size;have E:=n.size;have p:vs.length=i:=by have:=L.own.1;omega
 refine⟨j,?_,?_,(L.keep.trans n).fresh d fun y a=>AE (o y a)⟩
 ·intro y a;cases a;rcases c with h|h
  ·exact L.fresh _ h
  ·show w.heap.size<=g';omega
 ·intro k z C q;by_cases r:k<i
  ·obtain⟨D,s,t⟩:=L.each k z r q;refine⟨D,by rw[Db (by omega)];exact s,?_⟩;refine(((t.mono (S':=fun y=>(w.heap.size<=y∧v.ownBlock≠some y)∧y<w1.heap.size) fun y A B=>⟨A,B⟩).keep n ?_).keep d ?_).mono ?_
   ·intro y a;simp
   ·intro y a hm;rw[Ay]at hm;exact a.1.2 hm
   ·intro y a _;refine⟨a.1.1,?_⟩;intro e;cases e;rcases c with h|h
    ·exact a.1.2 h
    ·have:=a.2;simp at this;omega
  ·have m:k=i:=by omega
   subst m;rw[a]at q;cases q;refine⟨u,by rw[ER (by omega),p,Nat.sub_self];rfl,?_⟩;refine((f.mono (S':=fun y=>w1.heap.size<=y∧y<w5.heap.size) fun y A B=>⟨A,B⟩).keep d ?_).mono ?_
   ·intro y a hm;rw[Ay]at hm;have:=(l y hm).2;omega
   ·intro y a _;refine⟨by omega,?_⟩;intro e;cases e;rcases c with h|h
    ·have:=(l _ h).2;have:=a.1;simp at this;omega
    ·have:=a.2;simp at this;omega
theorem Vs(n:Nat)(IH:Jv n):Jv (n+1):=by
 intro x v S w hn h9 hr;obtain⟨vs,m,p,a⟩:∃vs m,AT w S .wlist x vs∧w.ownsRow 0 204 1 v m vs:=by
  cases hr with
  |ways _ vs _ m j B _=>exact⟨vs,m,j,B⟩
 obtain⟨_,hlen,C⟩:=p.wl_text;obtain⟨va,vn,vc,rfl⟩:=A6 a;have hm:m=(wl x).length∧vn=m:=by
  have j:=a.1;rcases a.2 with⟨e,e2⟩|⟨_,_,_,e,_⟩
  ·cases e;exact⟨by omega,e2.symm⟩
  ·cases e;exact⟨by omega,rfl⟩
 obtain⟨rfl,rfl⟩:=hm;have P:Hid (AT w S .wlist x vs):=p;have Q:Hid (∀(i:Nat)(y:AD),(wl x)[i]? =some y->∃u,vs[i]? =some u∧AT w S .way y [u]∧y.sz<x.sz):=C;have D:Hid (x.sz<n+1∧x.sz<=1000):=⟨hn,h9⟩;have hle:=Vr (x:=x);obtain⟨N,R⟩:=An ((wl x).length);rw[R]at a hle⊢;have T:Hid ((wl x).length=N∧vs.length=N):=⟨R,by omega⟩;have ae:(N:Int)<=1000:=by omega
 have E:Hid (w.ownsRow 0 204 1 (.slice va N vc) N vs):=a;clear hr p C hlen hn h9 R hle a;go_enter Tryz.func198,Tryz.ntmps198;go_wp2_with fail;go_loopw [3,8] (fun q3 U wr=>∃(i:Nat)(b:List Value),U=.int .i64 i∧i<=N∧GB w wr q3 x i b) (fun _ U _=>N-(intOf U).toNat)
 case atStart=>exact⟨0,[],rfl,AY _,GB.start w x⟩
 case round=>
  obtain⟨i,b,rfl,hi,L⟩:=hrel;obtain⟨z,mn,mc,rfl⟩:=A6 L.own;by_cases hlt:i<N
  ·have F:(i:Int)<(N:Int):=by omega
   have af:(0:Int)<=(i:Int):=by omega
   obtain⟨y,A⟩:∃y,(wl x)[i]? =some y:=⟨_,Ax (by have:=T.o;omega)⟩;obtain⟨u,hu,q,G⟩:=Q.o i y A;obtain⟨V,rfl⟩:∃V,va=some ⟨V,0,none⟩:=by
    rcases E.o.2 with⟨_,e2⟩|⟨gx,_,_,e,_⟩
    ·exfalso;omega
    ·cases e;exact⟨gx,rfl⟩
   have s:wr.cell? ⟨V,i,none⟩=some u:=by
    have j:=BX E.o i (by omega);rw[hu]at j;exact Ac L.keep j
   obtain⟨ua,un,uc,rfl⟩:Bk u:=by
    cases q with
    |way _ _ _ _ _ B _=>exact A6 B
   have H:=Vp n IH y (.slice ua un uc) S wr (by have:=D.o;omega) (by have:=D.o;omega) (q.keep L.keep (by simp));have HL:Hid (GB w wr (.slice z mn mc) x i b):=L;have t:Hid ((wl x)[i]? =some y∧i<N):=⟨A,hlt⟩;clear L A hlt hi q G hu;go_wp2_with fail;refine H.mono ?_;rintro e w3⟨r,rfl,W,l,hk3⟩;obtain⟨I,J,rc,rfl⟩:=W;have c:=Ep HL.o.own hk3 (by simp);obtain⟨i0,K,X,Y,Z⟩:=A2 LA;have aa:=Tryz.underlying68;have ab:i+1<=maxLen:=by unfold maxLen;have:=t.o.2;omega
   have ac:(i+1)*24<=140737488355328:=by have:=t.o.2;omega
   have ad:Hid (∀g' cap w7,w7.ownsRow 0 204 1 (.slice (some ⟨g',0,none⟩) (i+1) cap) (i+1) (b++[.slice I J rc])->(w3.alloc (.cells #[.slice I J rc] 204)).grownBy w7 (Value.slice z mn mc).ownBlock->((Value.slice z mn mc).ownBlock=some g'∨g'=w3.heap.size+1)->GB w w7 (.slice (some ⟨g',0,none⟩) (i+1) cap) x (i+1) (b++[.slice I J rc])):=fun g' cap w7 j B h3=>HL.o.next hk3 t.o.1 l j B h3
   clear H l s;go_wp2_with(first|(refine LG rfl (.tmp 14) rfl (some 15) rfl (.slice I J rc) rfl rfl ?_)|(at_builtin;refine CC _ rfl _ _ _ rfl 0 204 i0 (.slice none 0 0) 1 24 aa K X Y Z rfl (by decide) (.slice z mn mc) i b rfl (c.alloc _) ⟨w3.heap.size,0,none⟩ 1 1 [.slice I J rc] rfl rfl (cell_one_new _ _ _) (by simp[Value.oneCell']) (by omega) ab ac (by simp) (w3.heap.size+1) (by simp) ?_;intro g' cap w7 d f M O));have L7:=ad.o g' cap w7 d f M;clear d f M O c
   first
    |exact⟨⟨i+1,_,by go_num,t.o.2,L7⟩,by have:=t.o;simp[intOf];omega⟩
    |(
     go_roundw
     case rel=>exact⟨i+1,_,by go_num,t.o.2,L7⟩
     case measure=>have:=t.o;simp[intOf];omega)
  ·have F:¬(i:Int)<(N:Int):=by omega
   have ag:i=N:=by omega
   have HR:Hid (AT wr (fun g=>w.heap.size<=g) .ways (x.fo true) [.slice z mn mc]):=by
    show AT wr (fun g=>w.heap.size<=g) .ways (x.fo true) [.slice z mn mc];have hl:b.length=vs.length:=by have:=L.own.1;have:=T.o;omega
    have j:=Vq P.o hl fun k y A=>L.each k y (by have:=(BT.1 A).1;have:=T.o;omega) A
    exact .ways _ b _ _ (j.mono fun g h _=>h.1) L.own fun g hg=>L.fresh g hg
   have hk:=L.keep;clear L hlt hi;go_wp2_with fail;go_ret;exact⟨_,rfl,⟨_,_,_,rfl⟩,HR.o,hk⟩
theorem PR:∀n,Jv n
 |0=>fun x v S w h=>by omega
 |n+1=>Vs n (PR n)
def Ao:ByteArray:=⟨#[10]⟩
theorem PT(a b:ByteArray):(a.toList==b.toList)=decide (a=b):=by
 rw[DW,DW];by_cases h:a=b
 ·subst h;simp
 ·have c:¬a.data=b.data:=fun e=>h (ByteArray.ext e)
  simp[h,c]
theorem Vt(s:ByteArray):(([10]:List UInt8)==s.toList)=decide (s=Ao):=by
 rw[show([10]:List UInt8)=Ao.toList by rw[DW];rfl,PT];by_cases h:s=Ao
 ·rw[BU h,BU h.symm]
 ·rw[BS h,BS (fun e=>h e.symm)]
theorem Vu(s:ByteArray)(w:World):Calls Tryz.prog 239 #[.string s,.string ⟨#[10]⟩] w fun e w'=>e=.returned (.int .i64 (Lib.indexByte s.data.toList 10))∧w'=w:=by
 have hle:=Mp s 10 w;have a:=Vt s;by_cases h:s=Ao
 ·rw[BU h]at a;have b:Hid (Lib.indexByte s.data.toList 10=0):=by show Lib.indexByte s.data.toList 10=0;rw[h];rfl
  clear h hle;go_enter Tryz.func239,Tryz.ntmps239;go_wp2_with fail;go_ret;exact⟨by rw[b.o];rfl,rfl⟩
 ·rw[BS h]at a;clear h;go_enter Tryz.func239,Tryz.ntmps239;go_wp2_with(first|(go_at_call 266;refine hle.mono ?_;rintro e w1⟨rfl,rfl⟩));go_ret;exact⟨rfl,rfl⟩
theorem Vv(s:ByteArray)(w:World):Calls Tryz.prog 200 #[.string s,.string ⟨#[10]⟩] w fun e w'=>e=.returned (.int .i64 (Lib.indexB s Ao))∧w'=w:=by
 have hle:=Vu s w;rw[<-Lib.index_one]at hle;go_enter Tryz.func200,Tryz.ntmps200;go_wp2_with fail;refine hle.mono ?_;rintro e w1⟨rfl,rfl⟩;go_wp2_with fail;go_ret;exact⟨rfl,rfl⟩
theorem Ip:(Tryz.prog.info? 9).map (fun i=>(i.zero,i.size,i.bytes))=some (some (.string ByteArray.empty),1,16):=by kernel_rfl
theorem Vw(s:ByteArray)(w:World)(hs:s.size<=2000):Calls Tryz.prog 156 #[.string s,.string ⟨#[10]⟩,.int .i64 0,.int .i64 (-1)] w fun e w'=>e=.returned (.slice (some ⟨w.heap.size,0,none⟩) (Lib.countB s Ao+1) (Lib.countB s Ao+1))∧w'=w.alloc (.cells ((Lib.splitB Ao 0 (Lib.countB s Ao) s).map Value.string).toArray 9):=by
 have R:1<=Ao.size:=by decide
 have hlen:=Lib.splitB_all Ao R 0 _ s rfl;have hle:=Lib.countB_le Ao R s.size s (AP _);have x:=Sh s 10 w;rw[show Lib.countByte s.data.toList 10=Lib.countB s Ao from(Lib.count_one 10 s.data.toList).symm]at x;obtain⟨a,n⟩:∃a:Nat,Lib.countB s Ao=a:=⟨_,rfl⟩;rw[n]at x hlen hle⊢;clear n;obtain⟨N,y⟩:=AQ (a+1);have B:min ((a:Int)+1) ((s.size:Int)+1)=(N:Int):=by omega
 have C:(N:Int)<=(s.size:Int)+1:=by omega
 have D:(1:Int)<=(N:Int):=by omega
 have E:(N:Int)<=2001:=by omega
 have A:Hid (N=a+1):=y;rw[<-y];have c:Lib.cellsOf (Lib.splitB Ao 0 a s) N=((Lib.splitB Ao 0 a s).map Value.string).toArray:=by rw[y,<-hlen];exact Lib.cellsOf_full _
 rw[<-c];have p:Hid ((Lib.splitB Ao 0 a s).length=N):=by show(Lib.splitB Ao 0 a s).length=N;omega
 have X:(a:Int)+1<=9223372036854775807:=by omega
 have Y:(⟨#[10]⟩:ByteArray).toList.isEmpty=false:=by rw[DW];rfl
 have r:=run_make_row' (P:=Tryz.prog) 43 9 (.string ByteArray.empty) 16 Gm Ip rfl .i64 .i64 N (by omega) (by omega);rw[show(N:Int)=(a:Int)+1 by omega]at r;have Z:(s.size:Int)<=2000:=by omega
 have aa:(a:Int)<=(s.size:Int):=by omega
 have F:min (a:Int) (s.size:Int)=(a:Int):=by omega
 clear c y hlen hle B C D E;go_enter Tryz.func156,Tryz.ntmps156;go_wp2_with(first|(go_at_call 192;refine x.mono ?_;rintro e w'⟨rfl,hw⟩;rw[hw];clear hw));clear r x;go_loopw [0,10] (fun s0 G wr=>∃(done:List ByteArray)(rest:ByteArray),s0=.string rest∧G=.int .i64 done.length∧done.length<=a∧rest.size<=s.size∧wr=w.alloc (.cells (Lib.cellsOf done N) 9)∧Hid (done++Lib.splitB Ao 0 (a-done.length) rest=Lib.splitB Ao 0 a s)) (fun _ q _=>a-(intOf q).toNat)
 case atStart=>exact⟨[],s,rfl,rfl,AY _,AP _,by rw[Lib.cellsOf_nil],rfl⟩
 case round=>
  obtain⟨done,rest,rfl,rfl,hd,j,rfl,S⟩:=hrel;have d:(Lib.cellsOf done N)[done.length]? =some (.string ByteArray.empty):=Lib.cellsOf_next (by have:=A.o;omega);have t:=Vv rest (w.alloc (.cells (Lib.cellsOf done N) 9));have H:(0:Int)<=(done.length:Int):=by omega
  have I:(done.length:Int)<(N:Int):=by have:=A.o;omega
  obtain⟨m,hm⟩:=An done.length;have g:Hid (done.length=m):=hm;rw[hm]at hd d H I⊢;have J:(w.alloc (.cells (Lib.cellsOf done N) 9)).cell? ⟨w.heap.size,m,none⟩=some (.string ByteArray.empty):=by
   rw[AU (AS w _)];exact d
  have T:(w.alloc (.cells (Lib.cellsOf done N) 9)).frozen? ⟨w.heap.size,m,none⟩=false:=by simp
  have k:Hid (Lib.splitB Ao 0 (a-m) rest=[rest]->m+1=N∧(Lib.cellsOf done N).setIfInBounds m (.string rest)=Lib.cellsOf (Lib.splitB Ao 0 a s) N):=fun h=>by
   have e:=S.o;rw[g.o,h]at e;have U:=p.o;rw[<-e,AW,g.o]at U;rw[<-e,<-g.o];exact⟨by rw[g.o];exact U,Lib.cellsOf_set (by have:=g.o;have:=A.o;omega) rest⟩
  have F:(m:Int)+1<=9223372036854775807:=by omega
  have V:(m:Int)+1<=(N:Int):=by omega
  have W:(0:Int)<=(m:Int)+1:=by omega
  by_cases hlt:m<a
  ·have u:(m:Int)<(a:Int):=by omega
   have v:Hid (m<a):=hlt;rcases Lib.indexB_cases rest Ao with b|⟨i,b,f⟩
   ·rw[b]at t;obtain⟨f1,f2⟩:=k.out (Lib.splitB_miss Ao 0 _ rest b);have K:Hid (m+1=N):=f1;clear hlt b f1 j hm;go_wp2_with(first|(go_at_call 200;refine t.mono ?_;rintro e w'⟨rfl,hw⟩;rw[hw];clear hw));go_ret;exact⟨B4 (fun z=>Ending.returned (Value.slice (some ⟨w.heap.size,0,none⟩) z N)) K.o,rfl⟩
   ·rw[b]at t;have L:i+1<=rest.size:=f;have c0:¬((i:Int)<0):=by omega
    have c1:(i:Int)<=(rest.size:Int):=by omega
    have c4:(i:Int)+1<=(rest.size:Int):=by omega
    have c5:(rest.size:Int)<=2000:=by omega
    have c6:(0:Int)<=(i:Int)+1:=by omega
    have c7:(i:Int)<=2000:=by omega
    have c8:(0:Int)<=(i:Int):=by omega
    have c9:decide ((i:Int)<0)=false:=by simp
    have ab:(m:Int)<=2000:=by omega
    have M:Hid ((done++[rest.extract 0 i])++Lib.splitB Ao 0 (a-(m+1)) (rest.extract (i+1) rest.size)=Lib.splitB Ao 0 a s):=by
     show(done++[rest.extract 0 i])++Lib.splitB Ao 0 (a-(m+1)) (rest.extract (i+1) rest.size)=Lib.splitB Ao 0 a s;rw[<-S.o,g.o,show a-m=(a-(m+1))+1 by omega,Lib.splitB_hit Ao 0 _ rest i b,CS];rfl
    have O:Hid ((Lib.cellsOf done N).setIfInBounds m (.string (rest.extract 0 i))=Lib.cellsOf (done++[rest.extract 0 i]) N):=by
     show(Lib.cellsOf done N).setIfInBounds m (.string (rest.extract 0 i))=_;rw[<-g.o];exact Lib.cellsOf_set (by have:=g.o;have:=A.o;omega) _
    have Q:Hid ((rest.extract (i+1) rest.size).size<=s.size):=by show _<=_;rw[Ef];omega
    clear hlt b j hm L f k;go_wp2_with(first|(go_at_call 200;refine t.mono ?_;rintro e w'⟨rfl,hw⟩;rw[hw];clear hw));go_roundw
    case rel=>
     have l:(done++[rest.extract 0 i]).length=m+1:=by rw[AW,g.o];rfl
     refine⟨done++[rest.extract 0 i],rest.extract (i+1) rest.size,rfl,by rw[l];rfl,by rw[l];exact v.o,Q.o,by rw[O.o],?_⟩;rw[l];exact M
    case measure=>have:=v.o;simp[intOf];omega
  ·have u:¬(m:Int)<(a:Int):=by omega
   obtain⟨f1,f2⟩:=k.out (by rw[show a-m=0 by omega];rfl);have K:Hid (m+1=N):=f1;clear hlt j hm f1 t;go_wp2_with fail;go_ret;exact⟨B4 (fun z=>Ending.returned (Value.slice (some ⟨w.heap.size,0,none⟩) z N)) K.o,rfl⟩
theorem Vx(s:ByteArray)(w:World)(a:s.size<=2000):Calls Tryz.prog 98 #[.string s,.string ⟨#[10]⟩] w fun e w'=>e=.returned (.slice (some ⟨w.heap.size,0,none⟩) (Lib.countB s Ao+1) (Lib.countB s Ao+1))∧w'=w.alloc (.cells ((Lib.splitB Ao 0 (Lib.countB s Ao) s).map Value.string).toArray 9):=by
 have b:=Vw s w a;go_enter Tryz.func98,Tryz.ntmps98;go_wp2_with fail;refine b.mono ?_;rintro e w1⟨rfl,hw⟩;have c:Hid (w1=w.alloc (.cells ((Lib.splitB Ao 0 (Lib.countB s Ao) s).map Value.string).toArray 9)):=hw;clear hw;go_wp2_with fail;go_ret;exact⟨rfl,c.o⟩
def Bx:List UInt8->List (List UInt8)
 |[]=>[]
 |b::l=>if b=10 then[]::Bx l else match Bx l with
  |[]=>[[b]]
  |h::t=>(b::h)::t
def CB:List UInt8->List (List UInt8)
 |[]=>[[]]
 |b::l=>if b=10 then[]::CB l else match CB l with
  |[]=>[[b]]
  |h::t=>(b::h)::t
theorem Vy(l:List UInt8):CB l≠[]:=by
 cases l with
 |nil=>simp[CB]
 |cons b l=>
  simp only[CB];split
  ·simp
  ·split<;>simp
theorem PU:∀{l:List UInt8},10∉l->CB l=[l]
 |[],_=>rfl
 |b::l,h=>by
  simp only[Az,not_or]at h;simp only[CB];rw[AK (fun e=>h.1 e.symm),PU h.2]
theorem PV:∀{l r:List UInt8},10∉l->CB (l++10::r)=l::CB r
 |[],r,_=>by simp[CB]
 |b::l,r,h=>by
  simp only[Az,not_or]at h;simp only[DL,CB];rw[AK (fun e=>h.1 e.symm),PV h.2]
theorem PW:∀l:List UInt8,Bx l=if(CB l).getLast?=some []then(CB l).dropLast else CB l
 |[]=>by simp[Bx,CB]
 |b::l=>by
  have ih:=PW l;have a:=Vy l;by_cases hb:b=10
  ·have f:Bx (b::l)=[]::Bx l:=by simp only[Bx,AL hb]
   have g:CB (b::l)=[]::CB l:=by simp only[CB,AL hb]
   rw[f,g,List.getLast?_cons,List.dropLast_cons_of_ne_nil a,ih];cases i:(CB l).getLast? with
   |none=>exact absurd (List.getLast?_eq_none_iff.1 i) a
   |some x=>
    simp only[Option.getD_some];by_cases d:x=[]
    ·rw[AL (by rw[d]),AL (by rw[d])]
    ·rw[AK (by simpa using d),AK (by simpa using d)]
  ·have f:Bx (b::l)=match Bx l with|[]=>[[b]]|h::t=>(b::h)::t:=by simp only[Bx,AK hb]
   have g:CB (b::l)=match CB l with|[]=>[[b]]|h::t=>(b::h)::t:=by simp only[CB,AK hb]
   rw[f,g,ih];cases i:CB l with
   |nil=>exact absurd i a
   |cons h t=>
    cases t with
    |nil=>
     by_cases j:h=[]
     ·subst j;simp
     ·simp[j]
    |cons c t=>
     by_cases e:(c::t).getLast?=some []
     ·rw[AL (by rw[List.getLast?_cons_cons];exact e),List.dropLast_cons_cons];show(b::h)::_=if((b::h)::c::t).getLast?=some []then((b::h)::c::t).dropLast else(b::h)::c::t
      rw[AL (by rw[List.getLast?_cons_cons];exact e),List.dropLast_cons_cons]
     ·rw[AK (by rw[List.getLast?_cons_cons];exact e)];show(b::h)::_=if((b::h)::c::t).getLast?=some []then((b::h)::c::t).dropLast else(b::h)::c::t
      rw[AK (by rw[List.getLast?_cons_cons];exact e)]
