/-
  DERIVED. Contracts of the reference's small functions (has, digit, alnum, more, fail, next, take, need): what each call gives and what it does to the one block that the pattern's state lies in. No condition but those that stand in each theorem.
-/
import Derived.Test.YtnfojonmohijpaaGreatDoorProg
import Derived.Test.YtnfojonmohijpaaGreatDoorJSpec
import Derived.WalkKit
import Derived.WalkSpells
import Derived.WalkLawsBesides
import Derived.Deep.QuietTactic
import Derived.BigQuiet
set_option linter.all false
set_option maxRecDepth 100000
set_option maxHeartbeats 8000000
namespace Go.Proofs.YtnfojonmohijpaaGreatDoor
open Go.RowKit
variable{a w:World}{b h j k:Nat}{S:List Nat}
def AN:=@Array.getElem?_eq_some_iff
def En:=@List.getD_eq_getElem?_getD
def Ax:=@List.getElem?_eq_getElem
def FC:=@List.take_of_length_le
def Hy:=@Array.getElem?_eq_none
def Aq:=@Array.getElem?_modify
def GJ:=@List.mem_iff_getElem
def DW:=@ByteArray.toList_eq
def BL:=@Nat.lt_of_lt_of_le
def Gt:=@Below.heap_setCell
def BS:=@decide_eq_false
def BU:=@decide_eq_true
def FD:=@Tryz.ntmps283
def FE:=@Tryz.func283
def AY:=@Nat.zero_le
theorem _root_.Go.RowKit.Hid.o{p:Prop}(h:Hid p):p:=h
theorem AH{a b:Prop}(h:a):a∨b:=.inl h
theorem AE{a b:Prop}(h:b):a∨b:=.inr h
theorem AQ{α:Sort _}(a:α):∃x,x=a:=⟨_,rfl⟩
theorem An{α:Sort _}(a:α):∃x,a=x:=⟨_,rfl⟩
theorem AM:(∀(a:Act)(v:Value)(d:Tmp),a.put (some d) v=⟨a.tmps.setIfInBounds d v,a.defers⟩)∧(∀(a:Act)(v:Value),a.put none v=a)∧(∀{α:Type}(l:List α)(i:Nat)(a:α),l.toArray.setIfInBounds i a=(l.set i a).toArray)∧(∀{α:Type}{x a:α}{l:List α},(x::l).set 0 a=a::l)∧(∀{α:Type}{x a:α}{l:List α}{i:Nat},(x::l).set (i+1) a=x::l.set i a):=⟨fun _ _ _=>rfl,fun _ _=>rfl,fun _ _ _=>List.setIfInBounds_toArray ..,rfl,rfl⟩
structure PS where
 s : ByteArray
 nodes : Value
 root : Nat
 bg : Bool
 en : Bool
 gr : Nat
 bad : Int
 ix : Nat
 deep : Nat
variable{p:PS}
def PS.cells(p:PS):Array Value:=#[.string p.s,p.nodes,.int .i64 p.root,.bool p.bg,.bool p.en,.int .i64 p.gr,.int .i64 p.bad,.int .i64 p.ix,.int .i64 p.deep]
def PB(w:World)(b:Nat)(p:PS):Prop:=w.heap[b]? =some (.cells p.cells 102 (0,0))
structure AA (S : List Nat) (w w' : World) : Prop where
 os : w'.os = w.os
 tape : w'.tape = w.tape
 output : w'.output = w.output
 size : w.heap.size <= w'.heap.size
 block : ∀ k, k < w.heap.size -> k ∉ S -> w'.heap[k]? = w.heap[k]?
theorem AA.refl(S:List Nat)(w:World):AA S w w:=⟨rfl,rfl,rfl,AP _,fun _ _ _=>rfl⟩
theorem AA.trans{b c:World}(h:AA S a b)(k:AA S b c):AA S a c:=
 ⟨k.os.trans h.os,k.tape.trans h.tape,k.output.trans h.output,BG h.size k.size,fun i hi d=>(k.block i (BL hi h.size) d).trans (h.block i hi d)⟩
theorem AA.drew(h:AA S a w):AA S a w.drew:=⟨h.os,h.tape,h.output,h.size,h.block⟩
theorem AA.drewN(h:AA S a w)(n:Nat):AA S a (w.drewN n):=⟨h.os,h.tape,h.output,h.size,h.block⟩
theorem AA.setCell(h:AA S a w){p:Addr}(b:p.block∈S∨a.heap.size<=p.block)(u:Value):AA S a (w.setCell p u):=
 ⟨h.os,h.tape,h.output,by simpa using h.size,fun k d c=>by
  rw[Gt]
  ·exact h.block k d c
  ·rintro rfl;rcases b with b|b
   ·exact c b
   ·omega⟩
theorem AA.alloc(h:AA S a w)(o:Obj):AA S a (w.alloc o):=
 ⟨h.os,h.tape,h.output,by have:=h.size;simp;omega,fun k b c=>by
  rw[Below.heap_alloc _ _ _ (BL b h.size)];exact h.block k b c⟩
theorem PB.lt(h:PB w b p):b<w.heap.size:=(AN.1 h).1
theorem PB.keep{w':World}(h:PB w b p)(a:AA S w w')(hb:b∉S):PB w' b p:=(a.block b h.lt hb).trans h
theorem PB.drewN(h:PB w b p)(n:Nat):PB (w.drewN n) b p:=h
theorem PB.main(h:PB w b p):w.cell? ⟨b,0,none⟩=some (.string p.s)∧w.cell? ⟨b,6,none⟩=some (.int .i64 p.bad)∧w.cell? ⟨b,7,none⟩=some (.int .i64 p.ix)∧w.frozen? ⟨b,6,none⟩=false∧w.frozen? ⟨b,7,none⟩=false:=by
 unfold PB at h;simp[World.cell?,World.frozen?,h,PS.cells]
theorem PB.setIx(h:PB w b p)(x:Nat):PB (w.setCell ⟨b,7,none⟩ (.int .i64 x)) b {p with ix:=x}:=by
 unfold PB at*;simp[World.setCell,Aq,h,PS.cells]
theorem PB.setBad(h:PB w b p)(x:Int):PB (w.setCell ⟨b,6,none⟩ (.int .i64 x)) b {p with bad:=x}:=by
 unfold PB at*;simp[World.setCell,Aq,h,PS.cells]
theorem DB{a b:Bool}(h:a=true↔b=true):Ending.returned (.bool a)=.returned (.bool b):=by
 have:a=b:=by cases a<;>cases b<;>simp at h⊢
 rw[this]
theorem Eo{k:IntKind}{a b:Int}(h:a=b):Ending.returned (.int k a)=.returned (.int k b):=by rw[h]
def Bv(p:PS):Bool:=decide (p.bad<0)&&decide (p.ix<p.s.size)
theorem CH(b:Nat)(p:PS)(w:World)(a:PB w b p):Calls Tryz.prog 83 #[.pointer (some ⟨b,0,none⟩)] w fun e w'=>e=.returned (.bool (Bv p))∧∃n,w'=w.drewN n:=by
 obtain⟨c,d,f,_,_⟩:=a.main;by_cases hb:p.bad<0
 ·have hd:decide (p.bad<0)=true:=by simpa using hb
  go_enter Tryz.func83,Tryz.ntmps83;go_wp2;go_quiet (fail);go_wp2;go_ret;exact⟨by simp[Bv,hb],_,rfl⟩
 ·have hd:decide (p.bad<0)=false:=by simpa using hb
  go_enter Tryz.func83,Tryz.ntmps83;go_wp2;go_quiet (fail);go_wp2;go_ret;exact⟨by simp[Bv,hd],_,rfl⟩
theorem CI(b:Nat)(p:PS)(w:World)(a:PB w b p)(hb:p.bad<0):Calls Tryz.prog 84 #[.pointer (some ⟨b,0,none⟩)] w fun e w'=>e=.returned (.tuple #[])∧w'=w.setCell ⟨b,6,none⟩ (.int .i64 p.ix):=by
 obtain⟨c,d,f,f6,f7⟩:=a.main;go_enter Tryz.func84,Tryz.ntmps84;go_wp2;go_end0;exact⟨rfl,rfl⟩
theorem QC(b:Nat)(p:PS)(w:World)(a:PB w b p)(hb:0<=p.bad):Calls Tryz.prog 84 #[.pointer (some ⟨b,0,none⟩)] w fun e w'=>e=.returned (.tuple #[])∧w'=w:=by
 obtain⟨c,d,f,f6,f7⟩:=a.main;go_enter Tryz.func84,Tryz.ntmps84;go_wp2;go_end0;exact⟨rfl,rfl⟩
def PS.failed(p:PS):PS:=if p.bad<0 then{p with bad:=p.ix}else p
theorem Mc(b:Nat)(p:PS)(w:World)(a:PB w b p):Calls Tryz.prog 84 #[.pointer (some ⟨b,0,none⟩)] w fun e w'=>e=.returned (.tuple #[])∧PB w' b p.failed∧AA [b] w w':=by
 by_cases hb:p.bad<0
 ·refine(CI b p w a hb).mono ?_;rintro e w'⟨rfl,rfl⟩;exact⟨rfl,by simpa[PS.failed,hb]using a.setBad p.ix,(AA.refl _ _).setCell (by simp) _⟩
 ·refine(QC b p w a (by omega)).mono ?_;rintro e w'⟨rfl,rfl⟩;exact⟨rfl,by simpa[PS.failed,hb]using a,AA.refl _ _⟩
def PS.cur(p:PS):Int:=if p.bad<0 then at' p.s p.ix else-1
theorem PS.cur_more(h:Bv p=true):∃a:p.ix<p.s.size,p.bad<0∧p.cur=(p.s[p.ix].toNat:Int):=by
 simp[Bv]at h;exact⟨by omega,h.1,by simp[PS.cur,h.1,Bd h.2]⟩
theorem PS.cur_none(h:Bv p=false):p.cur=-1:=by
 simp[Bv]at h;unfold PS.cur;split
 ·exact Cu (by have:=h (by assumption);omega)
 ·rfl
theorem GK(p:PS):Bv p=decide (0<=p.cur):=by
 cases h:Bv p
 ·simp[PS.cur_none h]
 ·obtain⟨b,_,a⟩:=PS.cur_more h;rw[a];simp
theorem PS.cur_good(h:0<=p.cur):p.bad<0∧p.ix<p.s.size∧p.cur=at' p.s p.ix:=by
 unfold PS.cur at*;split at h
 ·rename_i hb;simp[hb];exact Ap h
 ·omega
theorem D2(b:Nat)(p:PS)(c:Int)(w:World)(d:PB w b p)(i:0<=c):Calls Tryz.prog 134 #[.pointer (some ⟨b,0,none⟩),.int .u8 c] w fun e w'=>e=.returned (.bool (decide (p.cur=c)))∧∃n,w'=w.drewN n:=by
 obtain⟨j,k,l,_,_⟩:=d.main;cases hm:Bv p
 ·go_enter Tryz.func134,Tryz.ntmps134;go_wp2_with(go_at_call 83;refine(CH b p _ d).mono ?_;rintro e w'⟨rfl,n,rfl⟩);go_quiet (fail);go_wp2;go_ret;exact⟨by simp[PS.cur_none hm];omega,_,World.drewN_drewN _ _ _⟩
 ·obtain⟨m,hb,a⟩:=PS.cur_more hm;have f:(p.ix:Int)<(p.s.size:Int):=by omega
  have g:(0:Int)<=(p.ix:Int):=by omega
  have h:Hid (p.cur=(p.s[p.ix].toNat:Int)):=a;clear a;go_enter Tryz.func134,Tryz.ntmps134;go_wp2_with(go_at_call 83;refine(CH b p _ d).mono ?_;rintro e w'⟨rfl,n,rfl⟩);go_quiet (fail);go_wp2;go_ret;exact⟨by rw[h.o];simp[BEq.beq],_,World.drewN_drewN _ _ _⟩
def PS.took(p:PS)(c:Int):PS:=if p.cur=c then{p with ix:=p.ix+1}else p
theorem Cd(b:Nat)(p:PS)(c:Int)(w:World)(a:PB w b p)(d:0<=c)(i:p.s.size<=60):Calls Tryz.prog 81 #[.pointer (some ⟨b,0,none⟩),.int .u8 c] w fun e w'=>e=.returned (.bool (decide (p.cur=c)))∧PB w' b (p.took c)∧AA [b] w w':=by
 obtain⟨j,k,l,f6,f7⟩:=a.main;by_cases h:p.cur=c
 ·have hd:decide (p.cur=c)=true:=by simpa using h
  have H:Hid (p.cur=c):=h;have m:=(PS.cur_good (p:=p) (by omega)).2.1;clear h;have f:(0:Int)<=(p.ix:Int):=by omega
  have g:(p.ix:Int)<=60:=by omega
  go_enter Tryz.func81,Tryz.ntmps81;go_wp2_with(go_at_call 134;refine(D2 b p c _ a d).mono ?_;rintro e w'⟨rfl,n,rfl⟩);go_ret;exact⟨by simp[hd],by simp only[PS.took,H.o,if_true];exact(a.drewN n).setIx (p.ix+1),((AA.refl _ _).drewN n).setCell (by simp) _⟩
 ·have hd:decide (p.cur=c)=false:=by simpa using h
  have H:Hid (¬p.cur=c):=h;clear h;go_enter Tryz.func81,Tryz.ntmps81;go_wp2_with(go_at_call 134;refine(D2 b p c _ a d).mono ?_;rintro e w'⟨rfl,n,rfl⟩);go_ret;exact⟨by simp[hd],by simp only[PS.took,H.o,if_false];exact a.drewN n,(AA.refl _ _).drewN n⟩
def PS.needed(p:PS)(c:Int):PS:=if p.cur=c then{p with ix:=p.ix+1}else p.failed
theorem Fe(b:Nat)(p:PS)(c:Int)(w:World)(i:PB w b p)(j:0<=c)(k:p.s.size<=60):Calls Tryz.prog 227 #[.pointer (some ⟨b,0,none⟩),.int .u8 c] w fun e w'=>e=.returned (.tuple #[])∧PB w' b (p.needed c)∧AA [b] w w':=by
 by_cases h:p.cur=c
 ·have hd:decide (p.cur=c)=true:=by simpa using h
  have H:Hid (p.cur=c):=h;clear h;go_enter Tryz.func227,Tryz.ntmps227;go_wp2_with(go_at_call 81;refine(Cd b p c _ i j k).mono ?_;rintro e w'⟨rfl,a,d⟩);go_end0;exact⟨rfl,by simpa[PS.took,PS.needed,H.o]using a,d⟩
 ·have hd:decide (p.cur=c)=false:=by simpa using h
  have H:Hid (¬p.cur=c):=h;clear h;go_enter Tryz.func227,Tryz.ntmps227;go_wp2_with(first|(go_at_call 81;refine(Cd b p c _ i j k).mono ?_;rintro e w'⟨rfl,a,d⟩)|(go_at_call 84;refine(Mc b _ _ a).mono ?_;rintro e w'⟨rfl,f,g⟩));go_end0;exact⟨rfl,by simpa[PS.took,PS.needed,H.o]using f,d.trans g⟩
theorem DX(c:Int)(w:World):Calls Tryz.prog 162 #[.int .u8 c] w fun e w'=>e=.returned (.bool (At c))∧w'=w:=by
 go_enter Tryz.func162,Tryz.ntmps162;go_wp2
 all_goals go_ret
 all_goals exact⟨by simp[At];omega,rfl⟩
theorem Ku(c:Int)(w:World):Calls Tryz.prog 210 #[.int .u8 c] w fun e w'=>e=.returned (.bool (C9 c))∧w'=w:=by
 cases hd:At c
 all_goals
  go_enter Tryz.func210,Tryz.ntmps210;go_wp2_with(go_at_call 162;refine(DX c _).mono ?_;rintro e w'⟨rfl,rfl⟩)
  all_goals go_ret
  all_goals exact⟨DB (by simp[C9,hd]<;>omega),rfl⟩
def hasB(s:ByteArray)(c:Int)(k:Nat):Bool:=(s.data.toList.take k).any fun x=>decide ((x.toNat:Int)=c)
theorem Me(s:ByteArray)(c:Int)(k:Nat)(h:k<s.size):hasB s c (k+1)=(hasB s c k||decide ((s[k].toNat:Int)=c)):=by
 unfold hasB;rw[List.take_succ_eq_append_getElem (by simpa using h)];simp;rfl
theorem Mf(s:ByteArray)(c:Int)(k:Nat)(h:hasB s c k=true):hasB s c s.size=true:=by
 unfold hasB at*;simp only[List.any_eq_true]at*;obtain⟨x,a,b⟩:=h;exact⟨x,by rw[FC (by simp)];exact List.mem_of_mem_take a,b⟩
theorem Gu(s:ByteArray)(c:Int)(w:World)(h:s.size<=60):Calls Tryz.prog 109 #[.string s,.int .u8 c] w fun e w'=>e=.returned (.bool (hasB s c s.size))∧w'=w:=by
 go_enter Tryz.func109,Tryz.ntmps109;go_wp2
 go_loop [5] (fun i=>∃k:Nat,k<=s.size∧i=.int .i64 k∧Hid (hasB s c k=false)) (fun i=>s.size-(intOf i).toNat)
 case atStart=>exact⟨0,AY _,rfl,rfl⟩
 case round=>
  obtain⟨k,j,rfl,f⟩:=hrel;by_cases hlt:k<s.size
  ·have g:Hid (hasB s c (k+1)=decide ((s[k].toNat:Int)=c)):=by
    show hasB s c (k+1)=decide ((s[k].toNat:Int)=c);rw[Me s c k hlt,f.out,Bool.false_or]
   by_cases a:(s[k].toNat:Int)=c
   ·have b:((s[k].toNat:Int)==c)=true:=by simpa using a
    have d:Hid (hasB s c s.size=true):=Mf s c (k+1) (by rw[g.o];simpa using a);clear a;go_wp2;go_ret;exact⟨by rw[d.o];rfl,rfl⟩
   ·have b:((s[k].toNat:Int)==c)=false:=by simpa using a
    have d:Hid (hasB s c (k+1)=false):=by show hasB s c (k+1)=false;rw[g.o];simpa using a
    clear a;go_wp2
    go_round
    case rel=>exact⟨k+1,by omega,by go_num,d⟩
    case measure=>simp[intOf];omega
  ·have e:k=s.size:=by omega
   subst e;go_wp2;go_ret;exact⟨by rw[f.out];rfl,rfl⟩
def PS.after{α:Type}(p:PS):R α->PS
 | .ok _ j=>{p with ix:=j}
 | .bad j=>{p with bad:=j,ix:=j}
def J4(r:R Int)(v:Int):Prop:=0<=v∧v<=255∧∀a j,r=.ok a j->v=a
theorem Mg(b:Nat)(p:PS)(w:World)(ahead least:Int)(last:Bool)(d:PB w b p)(hm:Bv p=false):Calls Tryz.prog 283 #[.pointer (some ⟨b,0,none⟩),.int .i64 ahead,.bool last,.int .i64 least] w fun e w'=>e=.returned (.int .i64 0)∧PB w' b p.failed∧AA [b] w w':=by
 go_enter FE,FD;go_wp2_with(first|(go_at_call 83;refine(CH b p _ d).mono ?_;rintro e w'⟨rfl,n,rfl⟩)|(go_at_call 84;refine(Mc b p _ (d.drewN n)).mono ?_;rintro e w'⟨rfl,a,c⟩));go_ret;exact⟨rfl,a,((AA.refl _ _).drewN n).trans c⟩
theorem QD(b:Nat)(p:PS)(w:World)(ahead least:Int)(last:Bool)(d:PB w b p)(hm:Bv p=true)(N:p.s.size<=60)(y:0<=ahead)(z:ahead<=240)(A:0<=least)(B:least<=255):Calls Tryz.prog 283 #[.pointer (some ⟨b,0,none⟩),.int .i64 ahead,.bool last,.int .i64 least] w fun e w'=>∃v,e=.returned (.int .i64 v)∧0<=v∧v<=15∧(∀a j,Aw p.s ahead last least p.ix=.ok a j->v=a)∧PB w' b (p.after (Aw p.s ahead last least p.ix))∧AA [b] w w':=by
 obtain⟨C,hb,q⟩:=PS.cur_more hm;have x:at' p.s p.ix=(p.s[p.ix].toNat:Int):=Bd C;have D:(p.ix:Int)<(p.s.size:Int):=by omega
 have E:(0:Int)<=(p.ix:Int):=by omega
 have F:(p.ix:Int)<=60:=by omega
 have r:=(p.s[p.ix]).toNat_lt;have G:(0:Int)<=(p.s[p.ix].toNat:Int):=by omega
 have H:(p.s[p.ix].toNat:Int)<=255:=by omega
 have f:Hid (Aw p.s ahead last least p.ix=if Ah (p.s[p.ix].toNat:Int)<0∨(if last then ahead+Ah (p.s[p.ix].toNat:Int)else 16*(ahead+Ah (p.s[p.ix].toNat:Int))+15)<least then .bad p.ix else .ok (Ah (p.s[p.ix].toNat:Int)) (p.ix+1)):=by
  show Aw p.s ahead last least p.ix=_;unfold Aw;rw[x]
 obtain⟨O,P,Q,f6,f7⟩:=d.main;clear q x r;generalize I:(p.s[p.ix].toNat:Int)=c at*;have i:(48<=c∧c<=57∧¬97<=c∧Ah c=c-48)∨(48<=c∧¬c<=57∧97<=c∧c<=102∧Ah c=c-97+10)∨
  ((¬48<=c∧¬97<=c)∧Ah c=-1)∨((48<=c∧¬c<=57∧¬97<=c)∧Ah c=-1)∨((48<=c∧¬c<=57∧97<=c∧¬c<=102)∧Ah c=-1):=by
  unfold Ah;by_cases J:48<=c<;>by_cases K:c<=57<;>by_cases L:97<=c<;>by_cases M:c<=102<;>simp[J,K,L,M]<;>omega
 rcases i with⟨k,l,m,hd⟩|⟨k,l,m,t,hd⟩|⟨⟨k,l⟩,hd⟩|⟨⟨k,l,m⟩,hd⟩|⟨⟨k,l,m,t⟩,hd⟩
 rotate_left 2
 iterate 3
  ·have HB:Hid (Aw p.s ahead last least p.ix=.bad p.ix):=by show Aw p.s ahead last least p.ix=_;rw[f.o,hd,AL (AH (by omega))]
   clear f hd;cases last
   all_goals
    go_enter FE,FD;go_wp2_with(first|(go_at_call 83;refine(CH b p _ d).mono ?_;rintro e w'⟨rfl,n,rfl⟩));go_quiet (fail);go_wp2_with(first|(go_at_call 84;refine(CI b p _ (d.drewN _) hb).mono ?_;rintro e w'⟨rfl,rfl⟩));go_ret;exact⟨0,rfl,by omega,by omega,by rw[HB.o];simp,by rw[HB.o];exact(d.drewN _).setBad _,((AA.refl _ _).drewN _).setCell (by simp) _⟩
 ·cases last
  ·by_cases u:16*(ahead+(c-48))+15<least
   ·have HB:Hid (Aw p.s ahead false least p.ix=.bad p.ix):=by show Aw p.s ahead false least p.ix=_;rw[f.o,hd,AL (AE (by simp;omega))]
    clear f hd;go_enter FE,FD;go_wp2_with(first|(go_at_call 83;refine(CH b p _ d).mono ?_;rintro e w'⟨rfl,n,rfl⟩));go_quiet (fail);go_wp2_with(first|(go_at_call 84;refine(CI b p _ (d.drewN _) hb).mono ?_;rintro e w'⟨rfl,rfl⟩));go_ret;exact⟨0,rfl,by omega,by omega,by rw[HB.o];simp,by rw[HB.o];exact(d.drewN _).setBad _,((AA.refl _ _).drewN _).setCell (by simp) _⟩
   ·have g:Hid (Aw p.s ahead false least p.ix=.ok (c-48) (p.ix+1)):=by show Aw p.s ahead false least p.ix=_;rw[f.o,hd,AK (by simp;omega)]
    clear f hd;go_enter FE,FD;go_wp2_with(first|(go_at_call 83;refine(CH b p _ d).mono ?_;rintro e w'⟨rfl,n,rfl⟩));go_quiet (fail);go_wp2_with fail;go_ret;exact⟨c-48,Eo (by first|rfl|omega),by omega,by omega,by rw[g.o];intro a j h;cases h;rfl,by rw[g.o];exact(d.drewN _).setIx (p.ix+1),((AA.refl _ _).drewN _).setCell (by simp) _⟩
  ·by_cases u:ahead+(c-48)<least
   ·have HB:Hid (Aw p.s ahead true least p.ix=.bad p.ix):=by show Aw p.s ahead true least p.ix=_;rw[f.o,hd,AL (AE (by simp;omega))]
    clear f hd;go_enter FE,FD;go_wp2_with(first|(go_at_call 83;refine(CH b p _ d).mono ?_;rintro e w'⟨rfl,n,rfl⟩));go_quiet (fail);go_wp2_with(first|(go_at_call 84;refine(CI b p _ (d.drewN _) hb).mono ?_;rintro e w'⟨rfl,rfl⟩));go_ret;exact⟨0,rfl,by omega,by omega,by rw[HB.o];simp,by rw[HB.o];exact(d.drewN _).setBad _,((AA.refl _ _).drewN _).setCell (by simp) _⟩
   ·have g:Hid (Aw p.s ahead true least p.ix=.ok (c-48) (p.ix+1)):=by show Aw p.s ahead true least p.ix=_;rw[f.o,hd,AK (by simp;omega)]
    clear f hd;go_enter FE,FD;go_wp2_with(first|(go_at_call 83;refine(CH b p _ d).mono ?_;rintro e w'⟨rfl,n,rfl⟩));go_quiet (fail);go_wp2_with fail;go_ret;exact⟨c-48,Eo (by first|rfl|omega),by omega,by omega,by rw[g.o];intro a j h;cases h;rfl,by rw[g.o];exact(d.drewN _).setIx (p.ix+1),((AA.refl _ _).drewN _).setCell (by simp) _⟩
 ·cases last
  ·by_cases u:16*(ahead+(c-97+10))+15<least
   ·have HB:Hid (Aw p.s ahead false least p.ix=.bad p.ix):=by show Aw p.s ahead false least p.ix=_;rw[f.o,hd,AL (AE (by simp;omega))]
    clear f hd;go_enter FE,FD;go_wp2_with(first|(go_at_call 83;refine(CH b p _ d).mono ?_;rintro e w'⟨rfl,n,rfl⟩));go_quiet (fail);go_wp2_with(first|(go_at_call 84;refine(CI b p _ (d.drewN _) hb).mono ?_;rintro e w'⟨rfl,rfl⟩));go_ret;exact⟨0,rfl,by omega,by omega,by rw[HB.o];simp,by rw[HB.o];exact(d.drewN _).setBad _,((AA.refl _ _).drewN _).setCell (by simp) _⟩
   ·have g:Hid (Aw p.s ahead false least p.ix=.ok (c-97+10) (p.ix+1)):=by show Aw p.s ahead false least p.ix=_;rw[f.o,hd,AK (by simp;omega)]
    clear f hd;go_enter FE,FD;go_wp2_with(first|(go_at_call 83;refine(CH b p _ d).mono ?_;rintro e w'⟨rfl,n,rfl⟩));go_quiet (fail);go_wp2_with fail;go_ret;exact⟨c-97+10,Eo (by first|rfl|omega),by omega,by omega,by rw[g.o];intro a j h;cases h;rfl,by rw[g.o];exact(d.drewN _).setIx (p.ix+1),((AA.refl _ _).drewN _).setCell (by simp) _⟩
  ·by_cases u:ahead+(c-97+10)<least
   ·have HB:Hid (Aw p.s ahead true least p.ix=.bad p.ix):=by show Aw p.s ahead true least p.ix=_;rw[f.o,hd,AL (AE (by simp;omega))]
    clear f hd;go_enter FE,FD;go_wp2_with(first|(go_at_call 83;refine(CH b p _ d).mono ?_;rintro e w'⟨rfl,n,rfl⟩));go_quiet (fail);go_wp2_with(first|(go_at_call 84;refine(CI b p _ (d.drewN _) hb).mono ?_;rintro e w'⟨rfl,rfl⟩));go_ret;exact⟨0,rfl,by omega,by omega,by rw[HB.o];simp,by rw[HB.o];exact(d.drewN _).setBad _,((AA.refl _ _).drewN _).setCell (by simp) _⟩
   ·have g:Hid (Aw p.s ahead true least p.ix=.ok (c-97+10) (p.ix+1)):=by show Aw p.s ahead true least p.ix=_;rw[f.o,hd,AK (by simp;omega)]
    clear f hd;go_enter FE,FD;go_wp2_with(first|(go_at_call 83;refine(CH b p _ d).mono ?_;rintro e w'⟨rfl,n,rfl⟩));go_quiet (fail);go_wp2_with fail;go_ret;exact⟨c-97+10,Eo (by first|rfl|omega),by omega,by omega,by rw[g.o];intro a j h;cases h;rfl,by rw[g.o];exact(d.drewN _).setIx (p.ix+1),((AA.refl _ _).drewN _).setCell (by simp) _⟩
theorem Iy(hm:Bv p=false)(hb:p.bad<0):p.s.size<=p.ix:=by
 simp[Bv]at hm;have:=hm hb;omega
theorem Kv(b:Nat)(p:PS)(w:World)(ahead least:Int)(last:Bool)(i:PB w b p)(hb:p.bad<0)(l:p.s.size<=60)(c:0<=ahead)(d:ahead<=240)(f:0<=least)(g:least<=255):Calls Tryz.prog 283 #[.pointer (some ⟨b,0,none⟩),.int .i64 ahead,.bool last,.int .i64 least] w fun e w'=>∃v,e=.returned (.int .i64 v)∧0<=v∧v<=15∧(∀a j,Aw p.s ahead last least p.ix=.ok a j->v=a)∧PB w' b (p.after (Aw p.s ahead last least p.ix))∧AA [b] w w':=by
 cases hm:Bv p
 ·refine(Mg b p w ahead least last i hm).mono ?_;rintro e w'⟨rfl,h,m⟩;have n:=Iy hm hb;have k:Aw p.s ahead last least p.ix=.bad p.ix:=by unfold Aw;rw[Cu n,AL (AH (by decide))]
  exact⟨0,rfl,by omega,by omega,by rw[k];simp,by rw[k];simpa[PS.failed,hb,PS.after]using h,m⟩
 ·exact QD b p w ahead least last i hm l c d f g
theorem QE(b:Nat)(p:PS)(w:World)(ahead least:Int)(last:Bool)(c:PB w b p)(hb:0<=p.bad):Calls Tryz.prog 283 #[.pointer (some ⟨b,0,none⟩),.int .i64 ahead,.bool last,.int .i64 least] w fun e w'=>e=.returned (.int .i64 0)∧PB w' b p∧AA [b] w w':=by
 refine(Mg b p w ahead least last c (by simp[Bv];omega)).mono ?_;rintro e w'⟨rfl,a,d⟩;exact⟨rfl,by simpa[PS.failed,Int.not_lt.2 hb]using a,d⟩
theorem Iz{α:Type}{r:R α}{a:α}(h:r=.ok a j):p.after r={p with ix:=j}:=by rw[h];rfl
theorem I0{α:Type}{r:R α}(h:r=.bad j):p.after r={p with bad:=j,ix:=j}:=by rw[h];rfl
theorem QF(b:Nat)(p:PS)(w:World)(least:Int)(H:PB w b p)(hb:p.bad<0)(y:p.s.size<=60)(S:p.ix<p.s.size)(m:0<=least)(n:least<=255)(D:at' p.s (p.ix+1)=120):Calls Tryz.prog 263 #[.pointer (some ⟨b,0,none⟩),.int .i64 least] w fun e w'=>∃v,e=.returned (.int .i64 v)∧J4 (A9 p.s least (p.ix+1)) v∧PB w' b (p.after (A9 p.s least (p.ix+1)))∧AA [b] w w':=by
 obtain⟨T,U,V,f6,f7⟩:=H.main;have J:(0:Int)<=(p.ix:Int):=by omega
 have K:(p.ix:Int)<=60:=by omega
 rw[Kq D];have z:=H.setIx (p.ix+1);have f:PS.cur {p with ix:=p.ix+1}=120:=by simp[PS.cur,hb,D]
 have hd:decide (PS.cur {p with ix:=p.ix+1}=120)=true:=by simpa using f
 have A:PS.took {p with ix:=p.ix+1} 120={p with ix:=p.ix+2}:=by simp[PS.took,f]
 have L:Hid (at' p.s (p.ix+1)=120):=D;clear D f;have hlt:=Ap (by rw[L.o];omega);cases l:Aw p.s 0 false least (p.ix+2)with
 |bad j=>
  have M:=P3 l;subst M;have q:Hid (Cv p.s least (p.ix+2)=.bad (p.ix+2)):=by show Cv p.s least (p.ix+2)=_;simp[Cv,l,R.bind]
  have H1:Hid (Aw p.s 0 false least (p.ix+2)=.bad (p.ix+2)):=l;clear l;go_enter Tryz.func263,Tryz.ntmps263;go_wp2_with(first|(go_at_call 81;refine(Cd b {p with ix:=p.ix+1} 120 _ z (by omega) y).mono ?_;rintro e w1⟨rfl,g,r⟩;rw[A]at g));refine(Kv b {p with ix:=p.ix+2} _ 0 least false g hb y (by omega) (by omega) m n).mono ?_;rintro e w2⟨v,rfl,E,F,i,h,t⟩;rw[I0 (show Aw _ 0 false least _=_ from H1.o)]at h;clear i;go_wp2_with(first|(go_at_call 283;refine(QE b _ _ (16*v) least true h (Int.natCast_nonneg _)).mono ?_;rintro e w3⟨rfl,d,hk3⟩));go_ret;refine⟨16*v,rfl,⟨by omega,by omega,by rw[q.o];simp⟩,by rw[q.o];exact d,(((AA.refl _ _).setCell (by simp) _).trans r).trans (t.trans hk3)⟩
 |ok a j=>
  obtain⟨rfl,N,O,I,_⟩:=Jz l;have H1:Hid (Aw p.s 0 false least (p.ix+2)=.ok a (p.ix+2+1)):=l;have q:Hid (Cv p.s least (p.ix+2)=(Aw p.s (16*a) true least (p.ix+3)).bind fun b k=> .ok (16*a+b) k):=by show Cv p.s least (p.ix+2)=_;simp[Cv,l,R.bind]
  clear l;go_enter Tryz.func263,Tryz.ntmps263;go_wp2_with(first|(go_at_call 81;refine(Cd b {p with ix:=p.ix+1} 120 _ z (by omega) y).mono ?_;rintro e w1⟨rfl,g,r⟩;rw[A]at g));refine(Kv b {p with ix:=p.ix+2} _ 0 least false g hb y (by omega) (by omega) m n).mono ?_;rintro e w2⟨v,rfl,E,F,i,h,t⟩;rw[Iz (show Aw _ 0 false least _=_ from H1.o)]at h;have B:v=a:=i a _ H1.o;subst B;clear i;go_wp2_with(first|(go_at_call 283;refine(Kv b {p with ix:=p.ix+3} _ (16*v) least true h hb y (by omega) (by omega) m n).mono ?_;rintro e w3⟨u,rfl,P,Q,G,d,hk3⟩));go_ret;have C:=(((AA.refl [b] w).setCell (p:=⟨b,7,none⟩) (by simp) (.int .i64 ((p.ix+1:Nat):Int))).trans r).trans (t.trans hk3);cases x:Aw p.s (16*v) true least (p.ix+3)with
  |bad j=>
   refine⟨16*v+u,rfl,⟨by omega,by omega,by rw[q.o,x];simp[R.bind]⟩,?_,C⟩;rw[I0 (show Aw _ (16*v) true least _=_ from x)]at d;rw[q.o,x];exact d
  |ok c j=>
   have hu:u=c:=G c j x;subst hu;refine⟨16*v+u,rfl,⟨by omega,by omega,by rw[q.o,x];simp[R.bind]⟩,?_,C⟩;rw[Iz (show Aw _ (16*v) true least _=_ from x)]at d;rw[q.o,x];exact d
theorem QG(b:Nat)(p:PS)(w:World)(least:Int)(A:PB w b p)(hb:p.bad<0)(F:p.s.size<=60)(R:p.ix<p.s.size)(G:0<=least)(H:least<=255)(u:at' p.s (p.ix+1)≠120):Calls Tryz.prog 263 #[.pointer (some ⟨b,0,none⟩),.int .i64 least] w fun e w'=>∃v,e=.returned (.int .i64 v)∧J4 (A9 p.s least (p.ix+1)) v∧PB w' b (p.after (A9 p.s least (p.ix+1)))∧AA [b] w w':=by
 obtain⟨S,T,U,f6,f7⟩:=A.main;have I:(0:Int)<=(p.ix:Int):=by omega
 have J:(p.ix:Int)<=60:=by omega
 have i:=A.setIx (p.ix+1);have g:¬PS.cur {p with ix:=p.ix+1}=120:=by simp[PS.cur,hb,u]
 have hd:decide (PS.cur {p with ix:=p.ix+1}=120)=false:=by simpa using g
 have k:PS.took {p with ix:=p.ix+1} 120={p with ix:=p.ix+1}:=by simp[PS.took,g]
 have K:Hid (at' p.s (p.ix+1)≠120):=u;clear u g;have r:=fun w1 x=>Cd b {p with ix:=p.ix+1} 120 w1 x (by omega) F
 cases hm:Bv {p with ix:=p.ix+1}
 ·have x:=Iy hm hb;have l:Hid (A9 p.s least (p.ix+1)=.bad (p.ix+1)):=by
   show A9 p.s least (p.ix+1)=_;unfold A9;rw[Cu x,AK (by omega),AL (AH (by omega))]
  go_enter Tryz.func263,Tryz.ntmps263;go_wp2_with(first|(go_at_call 81;refine(r _ i).mono ?_;rintro e w1⟨rfl,d,f⟩;rw[k]at d)|(go_at_call 83;refine(CH b _ _ d).mono ?_;rintro e w'⟨rfl,n,rfl⟩)|(go_at_call 84;refine(CI b {p with ix:=p.ix+1} _ (d.drewN n) hb).mono ?_;rintro e w'⟨rfl,rfl⟩));go_ret;refine⟨0,rfl,⟨by omega,by omega,by rw[l.o];simp⟩,by rw[l.o];exact(d.drewN n).setBad _,((((AA.refl _ _).setCell (by simp) _).trans f).drewN n).setCell (by simp) _⟩
 ·have m:p.ix+1<p.s.size:=(PS.cur_more hm).1;have y:=Bd m;have L:((p.ix+1:Nat):Int)<(p.s.size:Int):=by omega
  have M:(0:Int)<=((p.ix+1:Nat):Int):=by omega
  have N:((p.ix+1:Nat):Int)<=60:=by omega
  have z:=(p.s[p.ix+1]).toNat_lt;have O:(0:Int)<=(p.s[p.ix+1].toNat:Int):=by omega
  have P:(p.s[p.ix+1].toNat:Int)<=255:=by omega
  clear z;generalize Q:(p.s[p.ix+1].toNat:Int)=c at*;have q:c≠120:=by rw[<-y];exact K.o
  have l:Hid (A9 p.s least (p.ix+1)=if C9 c=true∨c<least then .bad (p.ix+1)else .ok c (p.ix+2)):=by
   show A9 p.s least (p.ix+1)=_;unfold A9;rw[y,AK q];by_cases t:C9 c=true∨c<least
   ·rw[AL (AE t),AL t]
   ·rw[AK (by rintro(h|h);omega;exact t h),AK t]
  clear y q;cases B:C9 c
  ·by_cases C:c<least
   ·have HB:Hid (A9 p.s least (p.ix+1)=.bad (p.ix+1)):=by show A9 p.s least (p.ix+1)=_;rw[l.o,AL (AE C)]
    clear l;go_enter Tryz.func263,Tryz.ntmps263;go_wp2_with(first|(go_at_call 81;refine(r _ i).mono ?_;rintro e w1⟨rfl,d,f⟩;rw[k]at d;obtain⟨d0,d6,d7,D,E⟩:=d.main)|(go_at_call 83;refine(CH b _ _ d).mono ?_;rintro e w'⟨rfl,n,rfl⟩));go_quiet (fail);go_wp2_with(first|(go_at_call 210;refine(Ku c _).mono ?_;rintro e w'⟨rfl,rfl⟩)|(go_at_call 84;refine(CI b {p with ix:=p.ix+1} _ (d.drewN _) hb).mono ?_;rintro e w'⟨rfl,rfl⟩));go_ret;refine⟨0,rfl,⟨by omega,by omega,by rw[HB.o];simp⟩,by rw[HB.o];exact(d.drewN _).setBad _,((((AA.refl _ _).setCell (by simp) _).trans f).drewN _).setCell (by simp) _⟩
   ·have HB:Hid (A9 p.s least (p.ix+1)=.ok c (p.ix+2)):=by show A9 p.s least (p.ix+1)=_;rw[l.o,AK (by simp[B,C])]
    clear l;go_enter Tryz.func263,Tryz.ntmps263;go_wp2_with(first|(go_at_call 81;refine(r _ i).mono ?_;rintro e w1⟨rfl,d,f⟩;rw[k]at d;obtain⟨d0,d6,d7,D,E⟩:=d.main)|(go_at_call 83;refine(CH b _ _ d).mono ?_;rintro e w'⟨rfl,n,rfl⟩));go_quiet (fail);go_wp2_with(first|(go_at_call 210;refine(Ku c _).mono ?_;rintro e w'⟨rfl,rfl⟩));go_ret;refine⟨c,rfl,⟨by omega,by omega,by rw[HB.o];intro a j h;cases h;rfl⟩,by rw[HB.o];exact(d.drewN _).setIx (p.ix+2),((((AA.refl _ _).setCell (by simp) _).trans f).drewN _).setCell (by simp) _⟩
  ·have HB:Hid (A9 p.s least (p.ix+1)=.bad (p.ix+1)):=by show A9 p.s least (p.ix+1)=_;rw[l.o,AL (AH B)]
   clear l;go_enter Tryz.func263,Tryz.ntmps263;go_wp2_with(first|(go_at_call 81;refine(r _ i).mono ?_;rintro e w1⟨rfl,d,f⟩;rw[k]at d;obtain⟨d0,d6,d7,D,E⟩:=d.main)|(go_at_call 83;refine(CH b _ _ d).mono ?_;rintro e w'⟨rfl,n,rfl⟩));go_quiet (fail);go_wp2_with(first|(go_at_call 210;refine(Ku c _).mono ?_;rintro e w'⟨rfl,rfl⟩)|(go_at_call 84;refine(CI b {p with ix:=p.ix+1} _ (d.drewN _) hb).mono ?_;rintro e w'⟨rfl,rfl⟩));go_ret;refine⟨0,rfl,⟨by omega,by omega,by rw[HB.o];simp⟩,by rw[HB.o];exact(d.drewN _).setBad _,((((AA.refl _ _).setCell (by simp) _).trans f).drewN _).setCell (by simp) _⟩
theorem Mh(b:Nat)(p:PS)(w:World)(least:Int)(d:PB w b p)(hb:p.bad<0)(f:p.s.size<=60)(g:p.ix<p.s.size)(a:0<=least)(c:least<=255):Calls Tryz.prog 263 #[.pointer (some ⟨b,0,none⟩),.int .i64 least] w fun e w'=>∃v,e=.returned (.int .i64 v)∧J4 (A9 p.s least (p.ix+1)) v∧PB w' b (p.after (A9 p.s least (p.ix+1)))∧AA [b] w w':=by
 by_cases h:at' p.s (p.ix+1)=120
 ·exact QF b p w least d hb f g a c h
 ·exact QG b p w least d hb f g a c h
theorem Mi(c:Int):hasB ⟨#[91,93,45,94]⟩ c (ByteArray.size ⟨#[91,93,45,94]⟩)=decide (c=91∨c=93∨c=45∨c=94):=by
 have h:(hasB ⟨#[91,93,45,94]⟩ c (ByteArray.size ⟨#[91,93,45,94]⟩)=true)↔(c=91∨c=93∨c=45∨c=94):=by
  simp[hasB,ByteArray.size];omega
 by_cases a:c=91∨c=93∨c=45∨c=94
 ·rw[BU a];exact h.2 a
 ·rw[BS a];exact Bool.eq_false_iff.2 fun e=>a (h.1 e)
theorem I1(b:Nat)(p:PS)(w:World)(least:Int)(g:PB w b p)(hb:p.bad<0)(B:p.s.size<=60)(m:0<=least)(q:least<=255):Calls Tryz.prog 282 #[.pointer (some ⟨b,0,none⟩),.int .i64 least] w fun e w'=>∃v,e=.returned (.int .i64 v)∧J4 (Ar p.s least p.ix) v∧PB w' b (p.after (Ar p.s least p.ix))∧AA [b] w w':=by
 obtain⟨K,L,M,f6,f7⟩:=g.main;cases hm:Bv p
 ·have x:=Iy hm hb;have i:Hid (Ar p.s least p.ix=.bad p.ix):=by
   show Ar p.s least p.ix=_;unfold Ar;rw[Cu x,AK (by omega),AL (AH (by omega))]
  clear x;go_enter Tryz.func282,Tryz.ntmps282;go_wp2_with(first|(go_at_call 83;refine(CH b _ _ g).mono ?_;rintro e w'⟨rfl,n,rfl⟩)|(go_at_call 84;refine(CI b p _ (g.drewN n) hb).mono ?_;rintro e w'⟨rfl,rfl⟩));go_ret;refine⟨0,rfl,⟨by omega,by omega,by rw[i.o];simp⟩,by rw[i.o];exact(g.drewN n).setBad _,((AA.refl _ _).drewN n).setCell (by simp) _⟩
 ·have hlt:p.ix<p.s.size:=(PS.cur_more hm).1;have y:=Bd hlt;have C:(p.ix:Int)<(p.s.size:Int):=by omega
  have D:(0:Int)<=(p.ix:Int):=by omega
  have E:(p.ix:Int)<=60:=by omega
  have r:=(p.s[p.ix]).toNat_lt;have F:(0:Int)<=(p.s[p.ix].toNat:Int):=by omega
  have G:(p.s[p.ix].toNat:Int)<=255:=by omega
  clear r;generalize H:(p.s[p.ix].toNat:Int)=c at*;have k:Hid (Ar p.s least p.ix=if c=92 then A9 p.s least (p.ix+1)else if(c=91∨c=93∨c=45∨c=94)∨c<least then .bad p.ix else .ok c (p.ix+1)):=by
   show Ar p.s least p.ix=_;unfold Ar;rw[y];by_cases h:c=92
   ·rw[AL h,AL h]
   ·rw[AK h,AK h];by_cases z:(c=91∨c=93∨c=45∨c=94)∨c<least
    ·rw[AL z,AL (by omega)]
    ·rw[AK z,AK (by omega)]
  clear y;by_cases f:c=92
  ·have i:Hid (Ar p.s least p.ix=A9 p.s least (p.ix+1)):=by show Ar p.s least p.ix=_;rw[k.o,AL f]
   have I:(c==92)=true:=by simpa using f
   clear k f;go_enter Tryz.func282,Tryz.ntmps282;go_wp2_with(first|(go_at_call 83;refine(CH b _ _ g).mono ?_;rintro e w'⟨rfl,n,rfl⟩));go_quiet (fail);go_wp2_with(first|(go_at_call 263;refine(Mh b p _ least (g.drewN _) hb B hlt m q).mono ?_;rintro e w1⟨v,rfl,J,t,u⟩));go_ret;exact⟨v,rfl,by rw[i.o];exact J,by rw[i.o];exact t,((AA.refl _ _).drewN _).trans u⟩
  ·have I:(c==92)=false:=by simpa using f
   by_cases d:c=91∨c=93∨c=45∨c=94
   ·have i:Hid (Ar p.s least p.ix=.bad p.ix):=by show Ar p.s least p.ix=_;rw[k.o,AK f,AL (AH d)]
    have l:=Mi c;rw[BU d]at l;clear k f d;go_enter Tryz.func282,Tryz.ntmps282;go_wp2_with(first|(go_at_call 83;refine(CH b _ _ g).mono ?_;rintro e w'⟨rfl,n,rfl⟩));go_quiet (fail);go_wp2_with(first|(go_at_call 109;refine(Gu _ c _ (by decide)).mono ?_;rintro e w'⟨rfl,rfl⟩;rw[l])|(go_at_call 84;refine(CI b p _ (g.drewN _) hb).mono ?_;rintro e w'⟨rfl,rfl⟩));go_ret;exact⟨0,rfl,⟨by omega,by omega,by rw[i.o];simp⟩,by rw[i.o];exact(g.drewN _).setBad _,((AA.refl _ _).drewN _).setCell (by simp) _⟩
   ·have l:=Mi c;rw[BS d]at l;by_cases A:c<least
    ·have i:Hid (Ar p.s least p.ix=.bad p.ix):=by show Ar p.s least p.ix=_;rw[k.o,AK f,AL (AE A)]
     clear k f d;go_enter Tryz.func282,Tryz.ntmps282;go_wp2_with(first|(go_at_call 83;refine(CH b _ _ g).mono ?_;rintro e w'⟨rfl,n,rfl⟩));go_quiet (fail);go_wp2_with(first|(go_at_call 109;refine(Gu _ c _ (by decide)).mono ?_;rintro e w'⟨rfl,rfl⟩;rw[l])|(go_at_call 84;refine(CI b p _ (g.drewN _) hb).mono ?_;rintro e w'⟨rfl,rfl⟩));go_ret;exact⟨0,rfl,⟨by omega,by omega,by rw[i.o];simp⟩,by rw[i.o];exact(g.drewN _).setBad _,((AA.refl _ _).drewN _).setCell (by simp) _⟩
    ·have i:Hid (Ar p.s least p.ix=.ok c (p.ix+1)):=by show Ar p.s least p.ix=_;rw[k.o,AK f,AK (by rintro(h|h);exact d h;exact A h)]
     clear k f d;go_enter Tryz.func282,Tryz.ntmps282;go_wp2_with(first|(go_at_call 83;refine(CH b _ _ g).mono ?_;rintro e w'⟨rfl,n,rfl⟩));go_quiet (fail);go_wp2_with(first|(go_at_call 109;refine(Gu _ c _ (by decide)).mono ?_;rintro e w'⟨rfl,rfl⟩;rw[l]));go_ret;exact⟨c,rfl,⟨by omega,by omega,by rw[i.o];intro a j h;cases h;rfl⟩,by rw[i.o];exact(g.drewN _).setIx (p.ix+1),((AA.refl _ _).drewN _).setCell (by simp) _⟩
def AJ(l:List UInt8):ByteArray:=⟨l.toArray⟩
theorem QH(c:Int)(w:World):Calls Tryz.prog 296 #[.string ⟨#[100,105,103,105,116]⟩,.int .u8 c] w fun e w'=>e=.returned (.bool (BC 0 c))∧w'=w:=by
 cases hd:At c
 all_goals
  go_enter Tryz.func296,Tryz.ntmps296;go_wp2_with(go_at_call 162;refine(DX c _).mono ?_;rintro e w'⟨rfl,rfl⟩)
  all_goals go_ret
  all_goals exact⟨DB (by simp[BC,hd,El,Em]<;>omega),rfl⟩
theorem QI(c:Int)(w:World):Calls Tryz.prog 296 #[.string ⟨#[108,111,119,101,114]⟩,.int .u8 c] w fun e w'=>e=.returned (.bool (BC 1 c))∧w'=w:=by
 cases hd:At c
 all_goals
  go_enter Tryz.func296,Tryz.ntmps296;go_wp2_with(go_at_call 162;refine(DX c _).mono ?_;rintro e w'⟨rfl,rfl⟩)
  all_goals go_ret
  all_goals exact⟨DB (by simp[BC,hd,El,Em]<;>omega),rfl⟩
theorem QJ(c:Int)(w:World):Calls Tryz.prog 296 #[.string ⟨#[117,112,112,101,114]⟩,.int .u8 c] w fun e w'=>e=.returned (.bool (BC 2 c))∧w'=w:=by
 cases hd:At c
 all_goals
  go_enter Tryz.func296,Tryz.ntmps296;go_wp2_with(go_at_call 162;refine(DX c _).mono ?_;rintro e w'⟨rfl,rfl⟩)
  all_goals go_ret
  all_goals exact⟨DB (by simp[BC,hd,El,Em]<;>omega),rfl⟩
theorem QK(c:Int)(w:World):Calls Tryz.prog 296 #[.string ⟨#[97,108,112,104,97]⟩,.int .u8 c] w fun e w'=>e=.returned (.bool (BC 3 c))∧w'=w:=by
 cases hd:At c
 all_goals
  go_enter Tryz.func296,Tryz.ntmps296;go_wp2_with(go_at_call 162;refine(DX c _).mono ?_;rintro e w'⟨rfl,rfl⟩)
  all_goals go_ret
  all_goals exact⟨DB (by simp[BC,hd,El,Em]<;>omega),rfl⟩
theorem QL(c:Int)(w:World):Calls Tryz.prog 296 #[.string ⟨#[97,108,110,117,109]⟩,.int .u8 c] w fun e w'=>e=.returned (.bool (BC 4 c))∧w'=w:=by
 cases hd:At c
 all_goals
  go_enter Tryz.func296,Tryz.ntmps296;go_wp2_with(go_at_call 162;refine(DX c _).mono ?_;rintro e w'⟨rfl,rfl⟩)
  all_goals go_ret
  all_goals exact⟨DB (by simp[BC,hd,El,Em]<;>omega),rfl⟩
theorem QM(c:Int)(w:World):Calls Tryz.prog 296 #[.string ⟨#[115,112,97,99,101]⟩,.int .u8 c] w fun e w'=>e=.returned (.bool (BC 5 c))∧w'=w:=by
 cases hd:At c
 all_goals
  go_enter Tryz.func296,Tryz.ntmps296;go_wp2_with(go_at_call 162;refine(DX c _).mono ?_;rintro e w'⟨rfl,rfl⟩)
  all_goals go_ret
  all_goals exact⟨DB (by simp[BC,hd,El,Em]<;>omega),rfl⟩
theorem QN(c:Int)(w:World):Calls Tryz.prog 296 #[.string ⟨#[112,117,110,99,116]⟩,.int .u8 c] w fun e w'=>e=.returned (.bool (BC 6 c))∧w'=w:=by
 cases hd:At c
 all_goals
  go_enter Tryz.func296,Tryz.ntmps296;go_wp2_with(go_at_call 162;refine(DX c _).mono ?_;rintro e w'⟨rfl,rfl⟩)
  all_goals go_ret
  all_goals exact⟨DB (by simp[BC,hd,El,Em]<;>omega),rfl⟩
def AZ(f:Nat->Bool):Array Value:=Array.ofFn (n:=256) fun k=>Value.bool (f k.val)
theorem Bo(f:Nat->Bool):(AZ f).size=256:=by simp[AZ]
theorem Ff(f:Nat->Bool)(h:k<256):(AZ f)[k]? =some (.bool (f k)):=by simp[AZ,h]
theorem Mj(f:Nat->Bool)(k:Nat)(v:Bool):(AZ f).setIfInBounds k (.bool v)=AZ (fun n=>if n=k then v else f n):=by
 apply Array.ext_getElem?;intro i;rw[Array.getElem?_setIfInBounds];by_cases hi:i<256
 ·rw[Ff _ hi,Ff _ hi];by_cases a:k=i
  ·subst a;simp[Bo,hi]
  ·simp[a,Ne.symm a]
 ·have b:(AZ fun n=>if n=k then v else f n)[i]? =none:=Hy (by rw[Bo];omega);have c:(AZ f)[i]? =none:=Hy (by rw[Bo];omega);rw[b,c];by_cases a:k=i
  ·rw[AL a,AK (by rw[Bo];omega)]
  ·rw[AK a]
def HB(w:World)(h:Nat)(f:Nat->Bool):Prop:=w.heap[h]? =some (.cells (AZ f) 4 (0,0))
theorem HB.lt{f:Nat->Bool}(H:HB w h f):h<w.heap.size:=(AN.1 H).1
theorem HB.keep{w':World}{f:Nat->Bool}(H:HB w h f)(a:AA S w w')(hb:h∉S):HB w' h f:=(a.block h H.lt hb).trans H
theorem HB.cell{f:Nat->Bool}(H:HB w h f)(a:k<256):w.cell? ⟨h,k,none⟩=some (.bool (f k)):=by
 unfold HB at H;simp[World.cell?,H,Ff f a]
theorem HB.frozen{f:Nat->Bool}(H:HB w h f)(k:Nat):w.frozen? ⟨h,k,none⟩=false:=by
 unfold HB at H;simp[World.frozen?,H]
theorem HB.set{f:Nat->Bool}(H:HB w h f)(k:Nat)(v:Bool):HB (w.setCell ⟨h,k,none⟩ (.bool v)) h (fun n=>if n=k then v else f n):=by
 unfold HB at*;simp[World.setCell,Aq,H,Mj]
theorem HB.congr{f g:Nat->Bool}(H:HB w h f)(e:∀n,n<256->f n=g n):HB w h g:=by
 unfold HB at*;rw[H];have:AZ f=AZ g:=by
  apply Array.ext_getElem?;intro i;by_cases hi:i<256
  ·rw[Ff _ hi,Ff _ hi,e i hi]
  ·rw[Hy (by rw[Bo];omega),Hy (by rw[Bo];omega)]
 rw[this]
theorem PB.setOther(h:PB w b p){a:Addr}(c:a.block≠b)(v:Value):PB (w.setCell a v) b p:=by
 unfold PB at*;rw[Gt _ _ _ _ (Ne.symm c)];exact h
theorem HB.setOther{f:Nat->Bool}(H:HB w h f){a:Addr}(b:a.block≠h)(v:Value):HB (w.setCell a v) h f:=by
 unfold HB at*;rw[Gt _ _ _ _ (Ne.symm b)];exact H
def nm(k:Nat):List UInt8:=names.getD k []
theorem Ml:∀n∈names,n.length=5:=by decide
theorem I2:names.length=7:=rfl
theorem QO(k:Nat)(a:k<7)(c:Int)(w:World):Calls Tryz.prog 296 #[.string (AJ (nm k)),.int .u8 c] w fun e w'=>e=.returned (.bool (BC k c))∧w'=w:=by
 match k,a with
 |0,_=>exact QH c w
 |1,_=>exact QI c w
 |2,_=>exact QJ c w
 |3,_=>exact QK c w
 |4,_=>exact QL c w
 |5,_=>exact QM c w
 |6,_=>exact QN c w
def Cg:Array Value:=#[.string (AJ [100,105,103,105,116]),.string (AJ [108,111,119,101,114]),.string (AJ [117,112,112,101,114]),.string (AJ [97,108,112,104,97]),.string (AJ [97,108,110,117,109]),.string (AJ [115,112,97,99,101]),.string (AJ [112,117,110,99,116])]
def NB(w:World)(g:Nat):Prop:=w.heap[g]? =some (.cells Cg 9 (0,0))
theorem NB.cell{g:Nat}(H:NB w g)(a:k<7):w.cell? ⟨g,k,none⟩=some (.string (AJ (nm k))):=by
 unfold NB at H
 match k,a with
 |0,_=>simp[World.cell?,H];rfl
 |1,_=>simp[World.cell?,H];rfl
 |2,_=>simp[World.cell?,H];rfl
 |3,_=>simp[World.cell?,H];rfl
 |4,_=>simp[World.cell?,H];rfl
 |5,_=>simp[World.cell?,H];rfl
 |6,_=>simp[World.cell?,H];rfl
theorem NB.drewN{g:Nat}(H:NB w g)(n:Nat):NB (w.drewN n) g:=H
theorem HB.drewN{f:Nat->Bool}(H:HB w h f)(n:Nat):HB (w.drewN n) h f:=H
theorem NB.setOther{g:Nat}(H:NB w g){a:Addr}(b:a.block≠g)(v:Value):NB (w.setCell a v) g:=by
 unfold NB at*;rw[Gt _ _ _ _ (Ne.symm b)];exact H
theorem AA.mono{S':List Nat}(h:AA S a w)(b:∀x,x∈S->x∈S'):AA S' a w:=
 ⟨h.os,h.tape,h.output,h.size,fun k c d=>h.block k c fun e=>d (b k e)⟩
theorem Hz(l:List UInt8):(AJ l).data.toList=l:=by simp[AJ]
theorem Bp(l:List UInt8):(AJ l).size=l.length:=by simp[AJ,ByteArray.size]
theorem FF(a:j<7):nm j=names[j]'(by rw[I2];exact a):=by
 unfold nm;rw[En,Ax (by rw[I2];exact a)];rfl
theorem I3(a:j<7):(nm j).length=5:=by rw[FF a];exact Ml _ (List.getElem_mem _)
theorem Kw(a:j<7):nm j∈names:=by rw[FF a];exact List.getElem_mem _
theorem Kx{word:List UInt8}(h:∀j,j<7->nm j≠word):names.findIdx? (·=word)=none:=by
 rw[List.findIdx?_eq_none_iff];intro x b;obtain⟨j,a,rfl⟩:=GJ.1 b;have:=h j a;rw[FF a]at this;simpa using this
theorem Mm{word:List UInt8}(a:k<7)(h:∀j,j<k->nm j≠word)(e:nm k=word):names.findIdx? (·=word)=some k:=by
 rw[List.findIdx?_eq_some_iff_getElem];refine⟨a,?_,?_⟩
 ·have b:=(FF a).symm.trans e;exact BU b
 ·intro j c;have:=h j c;rw[FF (by omega)]at this;simpa using this
theorem Gv(p:PS)(c:Int):(p.needed c).s=p.s:=by unfold PS.needed PS.failed;split<;>(try split)<;>rfl
theorem I4(a b:List UInt8):((AJ a).toList==(AJ b).toList)=decide (a=b):=by
 rw[DW,DW,Hz,Hz];by_cases h:a=b
 ·subst h;simp
 ·simp[h]
def AG:=@AA.refl
