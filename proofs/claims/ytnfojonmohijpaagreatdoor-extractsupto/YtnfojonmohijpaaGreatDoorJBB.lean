/-
  DERIVED. The program's parsePart: one part of a template is read, or given up. Conditions: the place is within the text, the text is at most 100 bytes long.
-/
import Derived.Test.YtnfojonmohijpaaGreatDoorJXE
set_option linter.all false
set_option maxRecDepth 100000
set_option maxHeartbeats 8000000
namespace Go.Proofs.YtnfojonmohijpaaGreatDoor
open Go.RowKit
variable{w w':World}{ps:List Part}{line s:ByteArray}{i:Nat}{W:Whole}
def C8:=@List.mem_of_getElem?
def Ig:=@List.mem_cons_self
def Gj:=@List.take_add_one
def B5:Part->List Value
 | .byte u=>[.int .i64 (-1),.int .u8 (u.toNat:Int)]
 | .grp g=>[.int .i64 (g:Int),.int .u8 0]
theorem Jk(p:Part):(B5 p).toArray.all (·.oneCell')=true:=by
 have h:∀k z,(Value.int k z).oneCell'=true:=fun _ _=>rfl
 cases p<;>simp[B5,h]
theorem Gk(p:Part):(B5 p).length=2:=by cases p<;>rfl
theorem Jl(a b:Value):(Tryz.prog.info? 293).map (·.size)=some (#[a,b]:Array Value).size:=by kernel_rfl
theorem UY:∀args w1,(callFunc 234 args).run Tryz.prog w1=.ok (.enter 234 args) w1:=fun args w1=>by kernel_rfl
theorem UZ:∀args w1,(callFunc 235 args).run Tryz.prog w1=.ok (.enter 235 args) w1:=fun args w1=>by kernel_rfl
theorem Ua{c:Int}:DY 234 #[] c true w:=by
 refine⟨UY,fun w1 _=>?_⟩;go_enter Tryz.func234,Tryz.ntmps234;go_wp2_with fail;go_ret;exact⟨rfl,AG _ _⟩
theorem O5{c:Int}{gs g:Nat}(n:0<=c)(p:c<=255)(i:w.cell? ⟨g,0,none⟩=some (.int .i64 gs)):DY 235 #[.pointer (some ⟨g,0,none⟩)] c (decide (48<=c∧c<=57∧c-48<=(gs:Int))) w:=by
 refine⟨UZ,fun w1 j=>?_⟩;have k:=Ac j i;by_cases hd:48<=c∧c<=57
 ·have b:At c=true:=by simp[At];omega
  have hw:IntKind.u8.wrap (c-48)=c-48:=by
   have:IntKind.u8.wrap (c-48)=(c-48)%256:=by simp[IntKind.wrap,IntKind.bits,IntKind.signed]
   omega
  obtain⟨d,a⟩:=An (c-48);have f:Hid (decide (48<=c∧c<=57∧c-48<=(gs:Int))=decide (d<=(gs:Int))):=by
   show decide _=decide _;rw[a];congr 1;exact propext ⟨fun h=>h.2.2,fun h=>⟨hd.1,hd.2,h⟩⟩
  have l:0<=d:=by omega
  have m:d<=9:=by omega
  rw[a]at hw;clear hd;go_enter Tryz.func235,Tryz.ntmps235;go_wp2_with(first|(go_at_call 236;refine(H3 c _).mono ?_;rintro e w'⟨rfl,rfl⟩;rw[b]));go_ret;exact⟨by rw[f.o];rfl,AG _ _⟩
 ·have b:At c=false:=by simp[At];omega
  have f:Hid (decide (48<=c∧c<=57∧c-48<=(gs:Int))=false):=by
   show decide _=false;simp;omega
  clear hd;go_enter Tryz.func235,Tryz.ntmps235;go_wp2_with(first|(go_at_call 236;refine(H3 c _).mono ?_;rintro e w'⟨rfl,rfl⟩;rw[b]));go_ret;exact⟨by rw[f.o];rfl,AG _ _⟩
theorem KZ(tmps:Array Value)(w:World)(g:Nat)(a b:Value)(c:tmps.getD 4 undef=.pointer (some ⟨g,0,none⟩))(d:w.heap[g]? =some (.cells #[a,b] 293 (0,0))):(results Tryz.f196 tmps).run Tryz.prog w=.ok (.agg #[a,b]) w:=by
 have h:Tryz.f196.results=#[.cell 4 293]:=rfl;have e:tmps[4]?.getD undef=.pointer (some ⟨g,0,none⟩):=by simpa using c
 have f:=run_loadVar_row (P:=Tryz.prog) w g 293 293 #[a,b] (0,0) _ d Tryz.underlying293 rfl (Jl a b);simp[results,h,e,asAddr,f]
def Ub(b:Nat)(s:ByteArray)(gs i:Nat)(w:World)(e:Ending)(w':World):Prop:=
 AA [b] w w'∧match BP s gs i with
  |some (p,k)=>e=.returned (.agg (B5 p).toArray)∧EB w' b ⟨s,k⟩
  |none=>∃j:Nat,e=fault j
theorem Uc(b:Nat)(s:ByteArray)(gs i:Nat)(S:s.size<=100)(hi:i<s.size)(w:World)(hp:EB w b ⟨s,i⟩):Calls Tryz.prog 196 #[.pointer (some ⟨b,0,none⟩),.int .i64 gs] w (Ub b s gs i w):=by
 have P:AA [] w ((w.alloc (.cells #[.int .i64 gs] 3)).alloc (.cells #[.int .i64 0,.int .u8 0] 293)):=((AG [] w).alloc _).alloc _;have T:((w.alloc (.cells #[.int .i64 gs] 3)).alloc (.cells #[.int .i64 0,.int .u8 0] 293)).cell? ⟨w.heap.size,0,none⟩=some (.int .i64 gs):=by simp
 have v:((w.alloc (.cells #[.int .i64 gs] 3)).alloc (.cells #[.int .i64 0,.int .u8 0] 293)).heap[w.heap.size+1]? =some (.cells #[.int .i64 0,.int .u8 0] 293 (0,0)):=by
  have h:=AS (w.alloc (.cells #[.int .i64 gs] 3)) (.cells #[.int .i64 0,.int .u8 0] 293);rw[show(w.alloc (.cells #[.int .i64 gs] 3)).heap.size=w.heap.size+1 by simp]at h;exact h
 have ao:=hp.lt;have U:=hp.keep P (by simp);have ap:∀(fn:Fn)(first cap:Array Value)(w:World),(Instr.makeFunc fn first cap).run Tryz.prog w=.ok (.func fn first cap) w:=fun _ _ _ _=>rfl
 have HI:Hid (i<s.size):=hi;have al:=(s[i]'hi).toNat_lt;have ab:=Bd hi;go_enter Tryz.func196,Tryz.ntmps196;go_upto_region 1 with(fail)
 generalize(w.alloc (.cells #[.int .i64 gs] 3)).alloc (.cells #[.int .i64 0,.int .u8 0] 293)=W at*;obtain⟨j,V⟩:=An w.heap.size;rw[V]at T v⊢;have f:Hid (w.heap.size=j∧b<j):=⟨V,by omega⟩;clear hp V;by_cases t:at' s i=92
 ·have y:=KY b ⟨s,i⟩ 92 (by decide) W U (Dp hi) S;have hd:decide (ES.cur ⟨s,i⟩=92)=true:=by show decide (at' s i=92)=true;simpa using t
  have l:ES.took ⟨s,i⟩ 92=⟨s,i+1⟩:=by unfold ES.took;show(if at' s i=92 then _ else _)=_;rw[AL t]
  rw[hd,l]at y;have I:Hid (at' s i=92):=t;clear hd l t;go_wp2_with fail;refine y.mono ?_;rintro e w1⟨rfl,J,A⟩;have q:=(A.block (j+1) (AN.1 v).1 (by simp;have:=f.o;omega)).trans v;have X:AA [b] w w1:=(P.mono (by simp)).trans A;have ac:w1.cell? ⟨j,0,none⟩=some (.int .i64 gs):=FG A (by show j≠b;have:=f.o;omega) T;clear y v U A P T;have E:=KY b ⟨s,i+1⟩ 110 (by decide) w1 J hi S;by_cases u:at' s (i+1)=110
  ·have hd:decide (ES.cur ⟨s,i+1⟩=110)=true:=by show decide (at' s (i+1)=110)=true;simpa using u
   have l:ES.took ⟨s,i+1⟩ 110=⟨s,i+2⟩:=by unfold ES.took;show(if at' s (i+1)=110 then _ else _)=_;rw[AL u]
   rw[hd,l]at E;have D:Hid (BP s gs i=some (.byte 10,i+2)):=by show BP s gs i=_;unfold BP;rw[AL I.o,AL u]
   clear hd l u;go_wp2_with fail;refine E.mono ?_;rintro e w2⟨rfl,F,r⟩;have m:=(r.block (j+1) (AN.1 q).1 (by simp;have:=f.o;omega)).trans q;have B:=X.trans r;have n:=Jk (.byte 10);clear E q;go_wp2_with(first|(refine Ae rfl 293 _ _ rfl (j+1) #[.int .i64 (-1),.int .u8 10] rfl rfl _ _ m (Jl _ _) rfl n ?_));refine Ag (KZ _ _ (j+1) _ _ rfl (Aa _ _ _ _ _ _ m)) rfl ?_;have p:=(AG [j+1] w2).setRow (g:=j+1) (by simp) #[.int .i64 (-1),.int .u8 10];refine⟨B.fresh p (by intro x Y;simp at Y;have:=f.o;exact AE (by omega)),?_⟩;rw[D.o];exact⟨rfl,F.keep p (by simp;have:=f.o;omega)⟩
  have hd:decide (ES.cur ⟨s,i+1⟩=110)=false:=by show decide (at' s (i+1)=110)=false;simpa using u
  have l:ES.took ⟨s,i+1⟩ 110=⟨s,i+1⟩:=by unfold ES.took;show(if at' s (i+1)=110 then _ else _)=_;rw[AK u]
  rw[hd,l]at E;have HN:Hid (¬at' s (i+1)=110):=u;clear hd l u;go_wp2_with fail;refine E.mono ?_;rintro e w2⟨rfl,F,r⟩;have m:=(r.block (j+1) (AN.1 q).1 (by simp;have:=f.o;omega)).trans q;have B:=X.trans r;have ad:w2.cell? ⟨j,0,none⟩=some (.int .i64 gs):=FG r (by show j≠b;have:=f.o;omega) ac;have G:=KY b ⟨s,i+1⟩ 92 (by decide) w2 F hi S;clear E q J ac r X;by_cases u:at' s (i+1)=92
  ·have hd:decide (ES.cur ⟨s,i+1⟩=92)=true:=by show decide (at' s (i+1)=92)=true;simpa using u
   have l:ES.took ⟨s,i+1⟩ 92=⟨s,i+2⟩:=by unfold ES.took;show(if at' s (i+1)=92 then _ else _)=_;rw[AL u]
   rw[hd,l]at G;have D:Hid (BP s gs i=some (.byte 92,i+2)):=by show BP s gs i=_;unfold BP;rw[AL I.o,AK HN.o,AL u]
   clear hd l u;go_wp2_with fail;refine G.mono ?_;rintro e w3⟨rfl,K,hk3⟩;have H:=(hk3.block (j+1) (AN.1 m).1 (by simp;have:=f.o;omega)).trans m;have L:=B.trans hk3;have n:=Jk (.byte 92);clear G m;go_wp2_with(first|(refine Ae rfl 293 _ _ rfl (j+1) #[.int .i64 (-1),.int .u8 92] rfl rfl _ _ H (Jl _ _) rfl n ?_));refine Ag (KZ _ _ (j+1) _ _ rfl (Aa _ _ _ _ _ _ H)) rfl ?_;have p:=(AG [j+1] w3).setRow (g:=j+1) (by simp) #[.int .i64 (-1),.int .u8 92];refine⟨L.fresh p (by intro x Y;simp at Y;have:=f.o;exact AE (by omega)),?_⟩;rw[D.o];exact⟨rfl,K.keep p (by simp;have:=f.o;omega)⟩
  have hd:decide (ES.cur ⟨s,i+1⟩=92)=false:=by show decide (at' s (i+1)=92)=false;simpa using u
  have l:ES.took ⟨s,i+1⟩ 92=⟨s,i+1⟩:=by unfold ES.took;show(if at' s (i+1)=92 then _ else _)=_;rw[AK u]
  rw[hd,l]at G;have Z:Hid (¬at' s (i+1)=92):=u;clear hd l u;go_wp2_with fail;refine G.mono ?_;rintro e w3⟨rfl,K,hk3⟩;have H:=(hk3.block (j+1) (AN.1 m).1 (by simp;have:=f.o;omega)).trans m;have L:=B.trans hk3;have ae:w3.cell? ⟨j,0,none⟩=some (.int .i64 gs):=FG hk3 (by show j≠b;have:=f.o;omega) ad;clear G m F ad hk3 B;by_cases M:i+1<s.size
  rotate_left
  ·have af:i+1=s.size:=by omega
   have ag:at' s (i+1)=-1:=by unfold at';rw[dif_neg (by omega)]
   have D:Hid (BP s gs i=none):=by show BP s gs i=_;unfold BP;rw[AL I.o,AK HN.o,AK Z.o,AK (by omega)]
   have a:=UX b ⟨s,i+1⟩ (.func (.func 235) #[] #[.pointer (some ⟨j,0,none⟩)]) w3 K af;clear M af ag;go_wp2_with fail;refine a.mono ?_;rintro e w4⟨rfl,hk4⟩;have N:=L.trans hk4;simp only[fault];refine⟨rfl,N,?_⟩;rw[D.o];exact⟨i+1,rfl⟩
  have Q:=(s[i+1]'M).toNat_lt;have R:=Bd M;by_cases C:48<=at' s (i+1)∧at' s (i+1)<=57∧at' s (i+1)-48<=(gs:Int)
  ·have hm:DY 235 #[.pointer (some ⟨j,0,none⟩)] (ES.cur ⟨s,i+1⟩) true w3:=by
    have h:=O5 (c:=at' s (i+1)) (gs:=gs) (by omega) (by omega) ae;rw[BU C]at h;exact h
   have D:Hid (BP s gs i=some (.grp (at' s (i+1)-48).toNat,i+2)):=by show BP s gs i=_;unfold BP;rw[AL I.o,AK HN.o,AK Z.o,AL C]
   have a:=O4 b ⟨s,i+1⟩ 235 #[.pointer (some ⟨j,0,none⟩)] w3 K S M hm;obtain⟨c,hc⟩:=An (ES.cur ⟨s,i+1⟩);rw[hc]at a;have O:at' s (i+1)=c:=hc;rw[O]at C D;have hw:IntKind.u8.wrap (c-48)=c-48:=by
    have:IntKind.u8.wrap (c-48)=(c-48)%256:=by simp[IntKind.wrap,IntKind.bits,IntKind.signed]
    omega
   obtain⟨d,ah⟩:∃d:Nat,c-48=(d:Int):=⟨(c-48).toNat,by omega⟩;have ai:(c-48).toNat=d:=by omega
   rw[ai]at D;rw[ah]at hw;have aq:(d:Int)<=9:=by omega
   have aj:c=(d:Int)+48:=by omega
   have HC:Hid (c-48=(d:Int)):=ah;clear C hc O ai hm R Q aj;go_wp2_with fail;refine a.mono ?_;rintro e w4⟨rfl,am,hk4⟩;have ak:=(hk4.block (j+1) (AN.1 H).1 (by simp;have:=f.o;omega)).trans H;have N:=L.trans hk4;have n:=Jk (.grp d);clear a H;go_wp2_with(first|(refine Ae rfl 293 _ _ rfl (j+1) #[.int .i64 (d:Int),.int .u8 0] rfl rfl _ _ ak (Jl _ _) rfl n ?_));refine Ag (KZ _ _ (j+1) _ _ rfl (Aa _ _ _ _ _ _ ak)) rfl ?_;have p:=(AG [j+1] w4).setRow (g:=j+1) (by simp) #[.int .i64 (d:Int),.int .u8 0];refine⟨N.fresh p (by intro x Y;simp at Y;have:=f.o;exact AE (by omega)),?_⟩;rw[D.o];exact⟨rfl,am.keep p (by simp;have:=f.o;omega)⟩
  ·have hm:DY 235 #[.pointer (some ⟨j,0,none⟩)] (ES.cur ⟨s,i+1⟩) false w3:=by
    have h:=O5 (c:=at' s (i+1)) (gs:=gs) (by omega) (by omega) ae;rw[BS C]at h;exact h
   have D:Hid (BP s gs i=none):=by show BP s gs i=_;unfold BP;rw[AL I.o,AK HN.o,AK Z.o,AK C]
   have a:=UW b ⟨s,i+1⟩ 235 #[.pointer (some ⟨j,0,none⟩)] w3 K S M hm;clear C hm R Q;go_wp2_with fail;refine a.mono ?_;rintro e w4⟨rfl,hk4⟩;have N:=L.trans hk4;simp only[fault];refine⟨rfl,N,?_⟩;rw[D.o];exact⟨i+1,rfl⟩
 ·have D:Hid (BP s gs i=some (.byte (UInt8.ofNat (at' s i).toNat),i+1)):=by show BP s gs i=_;unfold BP;rw[AK t]
  have y:=KY b ⟨s,i⟩ 92 (by decide) W U (Dp hi) S;have hd:decide (ES.cur ⟨s,i⟩=92)=false:=by show decide (at' s i=92)=false;simpa using t
  have l:ES.took ⟨s,i⟩ 92=⟨s,i⟩:=by unfold ES.took;show(if at' s i=92 then _ else _)=_;rw[AK t]
  rw[hd,l]at y;clear hd l t;go_wp2_with fail;refine y.mono ?_;rintro e w1⟨rfl,J,A⟩;have q:=(A.block (j+1) (AN.1 v).1 (by simp;have:=f.o;omega)).trans v;have a:=O4 b ⟨s,i⟩ 234 #[] w1 J S hi Ua;obtain⟨c,hc⟩:=An (ES.cur ⟨s,i⟩);rw[hc]at a;have O:at' s i=c:=hc;rw[O]at D ab;have an:Hid (((UInt8.ofNat c.toNat).toNat:Int)=c):=by
   show((UInt8.ofNat c.toNat).toNat:Int)=c;rw[UInt8.toNat_ofNat'];omega
  clear y v J hc O ab al;go_wp2_with fail;refine a.mono ?_;rintro e w2⟨rfl,F,r⟩;have m:=(r.block (j+1) (AN.1 q).1 (by simp;have:=f.o;omega)).trans q;have B:AA [b] w w2:=((P.mono (by simp)).trans A).trans r;have n:=Jk (.byte 0);have aa:(#[.int .i64 (-1),.int .u8 c]:Array Value).all (·.oneCell')=true:=by
   have h:∀k z,(Value.int k z).oneCell'=true:=fun _ _=>rfl
   simp[h]
  clear a q n;go_wp2_with(first|(refine Ae rfl 293 _ _ rfl (j+1) #[.int .i64 (-1),.int .u8 c] rfl rfl _ _ m (Jl _ _) rfl aa ?_));refine Ag (KZ _ _ (j+1) _ _ rfl (Aa _ _ _ _ _ _ m)) rfl ?_;have p:=(AG [j+1] w2).setRow (g:=j+1) (by simp) #[.int .i64 (-1),.int .u8 c];refine⟨B.fresh p (by intro x Y;simp at Y;have:=f.o;exact AE (by omega)),?_⟩;rw[D.o];exact⟨by simp only[B5,an.o],F.keep p (by simp;have:=f.o;omega)⟩
def CX(w:World)(v:Value)(ps:List Part):Prop:=w.ownsRow 0 293 2 v ps.length (ps.flatMap B5)
theorem CX.keep{v:Value}{S:List Nat}(h:CX w v ps)(a:AA S w w')(b:∀g,v.ownBlock=some g->g∉S):CX w' v ps:=Ep h a b
theorem Ud:(Tryz.prog.info? 293).map (fun i=>(i.zero,i.size,i.bytes))=some (some (.agg #[.int .i64 0,.int .u8 0]),2,16):=by kernel_rfl
theorem Ue(p:Part):∀x∈B5 p,x.oneCell'=true:=by
 intro x a;cases p<;>(simp only[B5,Az,List.not_mem_nil,or_false]at a;rcases a with rfl|rfl<;>rfl)
structure Ih (w wr : World) (b : Nat) (s : ByteArray) (gs i : Nat) (v : Value) (ps : List Part) : Prop where
 rd : EB wr b ⟨s, i⟩
 row : CX wr v ps
 fresh : ∀ g, v.ownBlock = some g -> w.heap.size <= g ∧ g ≠ b
 len : ps.length <= i
 ile : i <= s.size
 keep : AA [] w wr
 says : ∀ q, BN s gs i q -> BN s gs 0 (q.map (ps ++ ·))
def O6(s:ByteArray)(gs:Nat)(w:World)(e:Ending)(w':World):Prop:=
 AA [] w w'∧((∃v ps,e=.returned v∧BN s gs 0 (some ps)∧CX w' v ps∧(∀g,v.ownBlock=some g->w.heap.size<=g))∨(∃j:Nat,e=fault j∧BN s gs 0 none))
theorem Uf(s:ByteArray)(gs:Nat)(hs:s.size<=100)(w:World):Calls Tryz.prog 153 #[.string s,.int .i64 gs] w (O6 s gs w):=by
 obtain⟨i0,ai,aj,ak,al⟩:=A2 Ud;have am:=Tryz.underlying115;have HS:Hid (s.size<=100):=hs;go_enter Tryz.func153,Tryz.ntmps153;go_wp2_with fail;refine(Nw s _).mono ?_;rintro e w1⟨rfl,H⟩;have hz:(w1.alloc (.cells #[.string s,.int .i64 0] 198)).heap[w1.heap.size]? =some (.cells #[.string s,.int .i64 0] 198 (0,0)):=AS w1 _;have I:Ih w (w1.alloc (.cells #[.string s,.int .i64 0] 198)) w1.heap.size s gs 0 (.slice none 0 0) []:=
  ⟨hz,⟨rfl,.inl ⟨rfl,rfl⟩⟩,(fun g h=>by cases h),AP _,AY _,H.trans ((AG [] w1).alloc _),fun q h=>by simpa using h⟩
 have HB:Hid (w.heap.size<=w1.heap.size):=H.size;clear H hz;go_upto_region 3 with(fail)
 obtain⟨b,V⟩:=An w1.heap.size;rw[V]at I HB⊢;generalize w1.alloc (.cells #[.string s,.int .i64 0] 198)=W at*;clear V;go_loopw [6] (fun q6 wr=>∃(i:Nat)(ps:List Part),Ih w wr b s gs i q6 ps) (fun _ wr=>match wr.cell? ⟨b,1,none⟩with|some v=>s.size-(intOf v).toNat|none=>0)
 case atStart=>exact⟨0,[],I⟩
 case round=>
  clear I;obtain⟨i,ps,L⟩:=hrel;obtain⟨J,K,M,rfl⟩:=A6 L.row;obtain⟨_,N,_,_,_⟩:=L.rd.main;have HM:Hid (wr.cell? ⟨b,1,none⟩=some (.int .i64 i)):=N;by_cases hlt:i<s.size
  rotate_left
  ·have X:i=s.size:=by have:=L.ile;omega
   have m:=Ls b ⟨s,i⟩ wr L.rd X;have HE:Hid (BN s gs 0 (some ps)):=by
    have h:=L.says (some []) (.fin i (by omega));simp only[Option.map_some,CT]at h;exact h
   have t:Hid (Ih w wr b s gs i (.slice J K M) ps):=L;clear L X hlt N;go_wp2_with fail;refine m.mono ?_;rintro e w2⟨rfl,E,a⟩;have Y:=t.o.row.keep a (by simp);have an:=t.o.keep.trans a;clear m E a;go_wp2_with fail;go_ret;exact⟨an,AH ⟨_,ps,rfl,HE.o,Y,fun g hg=>(t.o.fresh g hg).1⟩⟩
  ·have O:Hid (i<s.size):=hlt;have m:=KX b ⟨s,i⟩ wr L.rd hlt hs;have t:Hid (Ih w wr b s gs i (.slice J K M) ps):=L;obtain⟨c,hc⟩:=An (ES.cur ⟨s,i⟩);rw[hc]at m;clear L hlt hc N;go_wp2_with fail;refine m.mono ?_;rintro e w2⟨rfl,E,a⟩;have Z:=Uc b s gs i hs O.o w2 E;have u:=t.o.row.keep a (by simp);have aa:=t.o.keep.trans a;clear m;go_wp2_with fail;refine Z.mono ?_;rintro e w3⟨hk3,F⟩;have z:AA [] w w3:=aa.fresh hk3 (by intro x hx;simp at hx;have:=HB.o;exact AE (by omega));cases r:BP s gs i with
   |none=>
    rw[r]at F;obtain⟨j,rfl⟩:=F;have HE:Hid (BN s gs 0 none):=t.o.says none (.bad i O.o r);simp only[fault];exact⟨rfl,z,AE ⟨j,rfl,HE.o⟩⟩
   |some pk=>
    obtain⟨p,k⟩:=pk;rw[r]at F;obtain⟨rfl,P⟩:=F;obtain⟨ab,ac,_⟩:=J2 r O.o;have A:CX w3 (.slice J K M) ps:=u.keep hk3 (fun g hg=>by simp;exact(t.o.fresh g hg).2);have ao:Hid (BP s gs i=some (p,k)):=r;have Q:Hid (i<k∧k<=s.size):=⟨ab,ac⟩;have d:w3.ownsRow 0 293 2 (.slice J K M) ps.length (ps.flatMap B5):=A;have R:=t.o.len;obtain⟨n,hn⟩:=An ps.length;rw[hn]at d R;have S:Hid (ps.length=n∧n<=i):=⟨hn,R⟩;have ap:n+1<=maxLen:=by unfold maxLen;have:=O.o;have:=HS.o;omega
    have aq:(n+1)*16<=140737488355328:=by have:=O.o;have:=HS.o;omega
    have hH:(w3.alloc (.cells (B5 p).toArray 293)).heap.size=w3.heap.size+1:=by simp
    have f:∀q x,(B5 p)[q]? =some x->(w3.alloc (.cells (B5 p).toArray 293)).cell? ((⟨w3.heap.size,0,none⟩:Addr).add q)=some x:=Dq (cs:=(B5 p).toArray) (AS w3 _);have T:=Ue p;have ad:=Gk p;obtain⟨pa,pb,B⟩:∃pa pb,B5 p=[pa,pb]:=by cases p<;>exact⟨_,_,rfl⟩
    have ar:Hid (B5 p=[pa,pb]):=B;rw[B]at f T hH⊢;clear r ab ac u A hn R ad B Z E a;go_wp2_with(first|(at_builtin;refine CC _ rfl _ _ _ rfl 0 293 i0 _ 2 16 am ai aj ak al rfl (by decide) (.slice J K M) n _ rfl (d.alloc _) ⟨w3.heap.size,0,none⟩ 1 1 [pa,pb] rfl rfl f T (by omega) ap aq (AY _) (w3.heap.size+1) hH ?_));intro g' cap w5 C D ae af;have U:AA (Value.slice J K M).ownBlock.toList w3 w5:=((AG _ w3).alloc _).trans (De D);have G:=t.o.fresh;have ag:(Value.slice J K M).ownBlock=some g'∨w3.heap.size<=g':=ae.imp id fun h=>by omega
    have au:=P.lt;have L5:Ih w w5 b s gs k (.slice (some ⟨g',0,none⟩) (n+1) cap) (ps++[p]):=by
     refine⟨P.keep U (by rw[Ay];exact fun h=>(G b h).2 rfl),?_,?_,?_,Q.o.2,?_,?_⟩
     ·unfold CX;rw[AW,S.o.1,List.flatMap_append,List.flatMap_singleton,ar.o];exact C
     ·intro y hy;cases hy;rcases ag with h|h
      ·exact G _ h
      ·have:=z.size;exact⟨by show w.heap.size<=g';omega,by show g'≠b;omega⟩
     ·rw[AW,S.o.1];have:=S.o.2;have:=Q.o.1;simp;omega
     ·exact z.fresh U (by
       intro y hy;rw[Ay]at hy;exact AE (G y hy).1)
     ·intro q hq;have h:=t.o.says _ (.go i k p q O.o ao.o hq);cases q with
      |none=>exact h
      |some l=>
       simp only[Option.map_some]at h⊢;rw[CS];exact h
    have ah:Hid (Ih w w5 b s gs k (.slice (some ⟨g',0,none⟩) (n+1) cap) (ps++[p])):=L5;clear C D f hH T U d ae ag L5 af G P;go_wp2_with fail;go_roundw
    case rel=>exact⟨k,_,ah.o⟩
    case measure=>
     have h1:=HM.o;obtain⟨_,h2,_,_,_⟩:=ah.o.rd.main;have:=Q.o;have:=O.o;simp only[h1,h2,intOf];simp;omega
theorem AA.ofBel(h:Below w.heap.size w w'):AA [] w w':=⟨h.os,h.tape,h.output,h.size,fun j a _=>h.block j a⟩
theorem Jm(b:ByteArray):AJ b.data.toList=b:=by
 obtain⟨⟨l⟩⟩:=b;rfl
structure Cl (w : World) (v : Value) (sp : List Int) : Prop where
 sl : ∃ g c, v = .slice (some ⟨g, 0, none⟩) sp.length c ∧ g < w.heap.size ∧ ∀ (k : Nat) (z : Int), sp[k]? = some z -> w.cell? ⟨g, k, none⟩ = some (.int .i64 z)
theorem Cl.keep{v:Value}{sp:List Int}(h:Cl w v sp)(a:AA [] w w'):Cl w' v sp:=by
 obtain⟨g,c,d,b,e⟩:=h.sl;exact⟨g,c,d,BL b a.size,fun k z f=>(Ad (a.block g b (by simp))).trans (e k z f)⟩
def Ex(line:ByteArray)(sp:List Int)(gs:Nat):Prop:=sp.length=2+2*gs∧∀g,g<=gs->0<=sp.getD (2*g) (-1)->sp.getD (2*g) (-1)<=sp.getD (2*g+1) (-1)∧sp.getD (2*g+1) (-1)<=(line.size:Int)
def Ii(gs:Nat)(ps:List Part):Prop:=∀p∈ps,∀g,p=.grp g->g<=gs∧g<=9
theorem O7{b e:Int}(h:line.size<=100):(D0 line b e).length<=100:=by
 unfold D0;have a:(line.extract b.toNat e.toNat).data.toList.length=(line.extract b.toNat e.toNat).size:=Array.length_toList;rw[a,Ef];omega
theorem Ug{sp:List Int}(h:line.size<=100)(p:Part):(p.fill line sp).length<=100:=by
 cases p with
 |byte u=>simp[Part.fill]
 |grp g=>
  simp only[Part.fill];split
  ·exact O7 h
  ·simp
theorem Ka{sp:List Int}(h:line.size<=100):∀ps:List Part,(BK ps line sp).length<=ps.length*100
 |[]=>by simp[BK]
 |p::ps=>by
  have b:=Ug (sp:=sp) h p;have a:=Ka (sp:=sp) h ps;simp only[BK,List.flatMap_cons,AW,Aj]at a⊢;omega
theorem Uh(line:ByteArray)(sp:List Int)(ps:List Part)(i:Nat)(p:Part)(h:ps[i]? =some p):BK (ps.take (i+1)) line sp=BK (ps.take i) line sp++p.fill line sp:=by
 unfold BK;rw[Gj,h,List.flatMap_append];simp
theorem Ui{p:Part}(h:ps[i]? =some p):∀q,q<2->(ps.flatMap B5)[i*2+q]? =(B5 p)[q]? :=by
 induction ps generalizing i with
 |nil=>simp at h
 |cons a ps ih=>
  intro q b;cases i with
  |zero=>
   have e:a=p:=by simpa using h
   subst e;rw[List.flatMap_cons,Nat.zero_mul,Ba,Db (by rw[Gk];exact b)]
  |succ i=>
   have c:ps[i]? =some p:=by simpa using h
   rw[List.flatMap_cons,ER (by rw[Gk];omega),Gk,show(i+1)*2+q-2=i*2+q by omega];exact ih c q b
theorem CX.range{g c n:Nat}(b:ps.length=n)(h:CX w (.slice (some ⟨g,0,none⟩) n c) ps){p:Part}(a:ps[i]? =some p):w.rangeAt g (i*2) (B5 p):=fun q u hu=>by
 have d:q<2:=by rw[<-Gk p];exact(BT.1 hu).1
 have e:i<ps.length:=(BT.1 a).1;unfold CX at h;rw[b]at h;rw[BX h (i*2+q) (by omega),Ui a q d];exact hu
theorem O8(v:Value)(ps:List Part)(line:ByteArray)(vf:Value)(sp:List Int)(gs:Nat)(w:World)(hT:CX w v ps)(hF:Cl w vf sp)(hl:line.size<=100)(hp:ps.length<=100)(ab:Ex line sp gs)(ac:Ii gs ps)(ad:gs<=9):Calls Tryz.prog 159 #[v,.string line,vf] w fun e w'=>e=.returned (.string (AJ (BK ps line sp)))∧AA [] w w':=by
 obtain⟨gf,cf,rfl,ae,af⟩:=hF.sl;have K:BD (w.alloc (.cells #[.pointer none,.slice none 0 0] 133)) w.heap.size w.heap.size []:=⟨AP _,_,_,AH rfl,AS w _,FH _ _ _ _,by simp[Value.ownBlock],fun _=>rfl⟩;have L:Below w.heap.size w (w.alloc (.cells #[.pointer none,.slice none 0 0] 133)):=Ed ((AG [] w).alloc _) (AP _) (by simp);obtain⟨va,vn,vc,rfl⟩:=A6 hT;have ag:vn=ps.length:=by
  rcases hT.2 with⟨e,e2⟩|⟨_,_,_,e,_⟩
  ·cases e;exact e2.symm
  ·cases e;rfl
 have M:Hid (CX w (.slice va vn vc) ps∧vn=ps.length∧ps.length<=100):=⟨hT,ag,hp⟩;have aM:(vn:Int)<=100:=by omega
 have N:Hid (Ex line sp gs∧Ii gs ps∧gs<=9):=⟨ab,ac,ad⟩;have HL:Hid (line.size<=100):=hl;have ah:Hid (gf<w.heap.size∧∀(k:Nat)(z:Int),sp[k]? =some z->w.cell? ⟨gf,k,none⟩=some (.int .i64 z)):=⟨ae,af⟩;clear ag hT hp ab ac ad af hF ae;go_enter Tryz.func159,Tryz.ntmps159;go_upto_region 2 with(fail)
 generalize w.alloc (.cells #[.pointer none,.slice none 0 0] 133)=W at*;obtain⟨B,O⟩:=An w.heap.size;have HB:Hid (w.heap.size=B):=O;rw[O]at K L⊢;clear O;go_wp2_with fail;go_loopw [14] (fun q wr=>∃i:Nat,q=.int .i64 i∧i<=vn∧BD wr B B (BK (ps.take i) line sp)∧Below B w wr) (fun q _=>vn-(intOf q).toNat)
 case atStart=>exact⟨0,rfl,AY _,K,L⟩
 case round=>
  clear K L;obtain⟨i,rfl,hi,r,c⟩:=hrel;have aN:(0:Int)<=(i:Int):=by omega
  have ai:B<=wr.heap.size:=by have:=c.size;have:=HB.o;omega
  by_cases hlt:i<vn
  rotate_left
  ·have aB:i=vn:=by omega
   have aj:¬(i:Int)<(vn:Int):=by omega
   have P:=LM B B _ wr r;have HE:Hid (ps.take i=ps):=FC (by have:=M.o;omega);rw[HE.o]at P;clear hlt hi aB;go_wp2_with fail;refine P.mono ?_;rintro e w2⟨rfl,d⟩;have aC:AA [] w w2:=AA.ofBel (by rw[HB.o];exact C6 c d);clear P r;go_wp2_with fail;go_ret;exact⟨rfl,aC⟩
  have aj:(i:Int)<(vn:Int):=by omega
  have HI:Hid (i<vn):=hlt;obtain⟨p,A⟩:∃p,ps[i]? =some p:=⟨_,Ax (by have:=M.o;omega)⟩;obtain⟨gt,ct,ak,_,aO⟩:=Ga M.o.1 (by have:=M.o;omega);have al:va=some ⟨gt,0,none⟩∧vc=ct:=by cases ak;exact⟨rfl,rfl⟩
  obtain⟨rfl,rfl⟩:=al;have G:=CX.range (n:=vn) (by have:=M.o;omega) M.o.1 A;have am:wr.rangeAt gt (i*2) (B5 p):=fun q u hu=>(Ad (c.block gt (by have:=HB.o;omega))).trans (G q u hu)
  have an:(Tryz.prog.info? 293).map (·.size)=some (B5 p).length:=by rw[Gk];kernel_rfl
  have Q:=Uh line sp ps i p A;have ao:=Ka (sp:=sp) HL.o (ps.take i);have ap:(BK (ps.take i) line sp).length<=10000:=by
   rw[EG]at ao;have:=M.o;omega
  obtain⟨l,hle⟩:=An (BK (ps.take i) line sp);rw[hle]at r Q ap;have R:Hid (BK (ps.take (i+1)) line sp=l++p.fill line sp):=Q;have aD:Hid (ps[i]? =some p):=A;clear hle ao Q A hlt hi ak;have S:(wr.alloc (.cells #[.int .i64 0,.int .u8 0] 293)).heap[wr.heap.size]? =some (.cells #[.int .i64 0,.int .u8 0] 293 (0,0)):=AS wr _;have C:AA [] wr ((wr.alloc (.cells #[.int .i64 0,.int .u8 0] 293)).setRow wr.heap.size (B5 p).toArray):=((AG [] wr).alloc _).setRow (AE (AP _)) _;have m:((wr.alloc (.cells #[.int .i64 0,.int .u8 0] 293)).setRow wr.heap.size (B5 p).toArray).heap[wr.heap.size]? =some (.cells (B5 p).toArray 293 (0,0)):=Aa _ _ _ _ _ _ S;have H:=Jk p;have I:(Tryz.prog.info? 293).map (·.size)=some (B5 p).toArray.size:=by rw[List.size_toArray,Gk];kernel_rfl
  have J:(#[.int .i64 0,.int .u8 0]:Array Value).size=(B5 p).toArray.size:=by
   show 2=_;rw[List.size_toArray,Gk]
  have h:=r.keep C;have s:=C6 c (Ed C ai (by simp));have j:B<=((wr.alloc (.cells #[.int .i64 0,.int .u8 0] 293)).setRow wr.heap.size (B5 p).toArray).heap.size:=BG ai C.size;go_upto_region 5 with(first|(refine ED rfl 293 _ rfl gt (i*2) rfl _ _ am Tryz.underlying293 rfl an ?_)|(refine Ae rfl 293 _ _ rfl wr.heap.size (B5 p).toArray rfl rfl _ _ S I J H ?_;generalize(wr.alloc (.cells #[.int .i64 0,.int .u8 0] 293)).setRow wr.heap.size (B5 p).toArray=t at*))
  obtain⟨b6,aq⟩:=An wr.heap.size;rw[aq]at m⊢;clear S C r c am G an I J H aq;cases p with
  |byte u=>
   have c0:t.cell? ⟨b6,0,none⟩=some (.int .i64 (-1)):=by rw[AU m];rfl
   have c1:t.cell? ⟨b6,1,none⟩=some (.int .u8 (u.toNat:Int)):=by rw[AU m];rfl
   have ar:=TM B B l u (u.toNat:Int) rfl t h (by omega) j;clear m;go_wp2_with fail;refine ar.mono ?_;rintro e w2⟨rfl,f,d,_⟩;have T:=C6 s d;clear ar h s d c0 c1;go_wp2_with fail;go_roundw
   case rel=>exact⟨i+1,by go_num,HI.o,by rw[R.o];exact f,T⟩
   case measure=>have:=HI.o;simp[intOf];omega
  |grp g=>
   have c0:t.cell? ⟨b6,0,none⟩=some (.int .i64 (g:Int)):=by rw[AU m];rfl
   have au:=N.o.2.1 _ (C8 aD.o) g rfl;have aw:=N.o.1.1;obtain⟨x,hx⟩:∃x,sp[2*g]? =some x:=⟨_,Ax (by omega)⟩;obtain⟨y,hy⟩:∃y,sp[2*g+1]? =some y:=⟨_,Ax (by omega)⟩;have U:sp.getD (2*g) (-1)=x:=by rw[En,hx];rfl
   have V:sp.getD (2*g+1) (-1)=y:=by rw[En,hy];rfl
   have D:=N.o.1.2 g au.1;rw[U,V]at D;have Y:∀(k:Nat)(z:Int),sp[k]? =some z->t.cell? ⟨gf,k,none⟩=some (.int .i64 z):=fun k z hz=>(Ad (s.block gf (by have:=ah.o.1;have:=HB.o;omega))).trans (ah.o.2 k z hz)
   have cx:=Y _ _ hx;have cy:=Y _ _ hy;have aG:(g:Int)<=9:=by omega
   have aP:(0:Int)<=(g:Int):=by omega
   have aE:(sp.length:Int)=2+2*(gs:Int):=by omega
   have aH:(g:Int)<=(gs:Int):=by omega
   have ax:Hid (Part.fill line sp (.grp g)=if 0<=x then D0 line x y else[]):=by show Part.fill line sp (.grp g)=_;simp only[Part.fill,U,V]
   have aI:(2:Int)*(g:Int)<(sp.length:Int):=by omega
   have aJ:(2:Int)*(g:Int)+1<(sp.length:Int):=by omega
   have aK:((2:Int)*(g:Int)).toNat=2*g:=by omega
   have aL:((2:Int)*(g:Int)+1).toNat=2*g+1:=by omega
   clear m Y hx hy U V au aw aE;have aQ:((g:Int)==-1)=false:=by simp
   go_upto_region 7 with(fail)
   go_quiet (fail);have E:AA [] t (t.drewN nq):=(AG [] t).drewN nq;have f:=h.keep E;have d:=C6 s (Ed E j (by simp));have ay:B<=(t.drewN nq).heap.size:=BG j E.size;generalize t.drewN nq=X at*;clear E h s j c0 cx cy;by_cases F:0<=x
   ·obtain⟨h1,h2⟩:=D F;obtain⟨a,rfl⟩:∃a:Nat,x=(a:Int):=⟨x.toNat,by omega⟩;obtain⟨b,rfl⟩:∃b:Nat,y=(b:Int):=⟨y.toNat,by omega⟩;have hm:line.extract a b=AJ (D0 line (a:Int) (b:Int)):=by unfold D0;rw[Jm];rfl
    have aR:(D0 line (a:Int) (b:Int)).length<=100:=O7 HL.o;have Z:=JY B B l (D0 line (a:Int) (b:Int)) X f (by omega) (by omega) ay;rw[<-hm]at Z;have aF:decide ((0:Int)<=(a:Int))=true:=by simp
    have aa:Hid (Part.fill line sp (.grp g)=D0 line (a:Int) (b:Int)):=by show Part.fill line sp (.grp g)=_;rw[ax.o,AL F]
    clear hm D;go_wp2_with fail;refine Z.mono ?_;rintro e w2⟨⟨ev,rfl⟩,az,aA,_⟩;have T:=C6 d aA;clear Z f d aA;go_wp2_with fail;go_roundw
    case rel=>exact⟨i+1,by go_num,HI.o,by rw[R.o,aa.o];exact az,T⟩
    case measure=>have:=HI.o;simp[intOf];omega
   ·have aF:decide ((0:Int)<=x)=false:=by simpa using F
    have aa:Hid (Part.fill line sp (.grp g)=[]):=by show Part.fill line sp (.grp g)=_;rw[ax.o,AK F]
    clear D;go_wp2_with fail;go_roundw
    case rel=>exact⟨i+1,by go_num,HI.o,by rw[R.o,aa.o,CT];exact f,d⟩
    case measure=>have:=HI.o;simp[intOf];omega
def Bu.holds(k:Nat):Bu->Prop
 | .node x=>x.has k
 | .kids x=>x.has k
 | .times _ _ x=>x.has k
 | .alts _ x=>x.has k
theorem TR.bd{J:Bu}{j:Nat}{t:List UInt8}{ev:List (Nat×Nat×Nat)}(h:TR s J i j t ev):i<=j->∀e,e∈ev->J.holds e.1∧i<=e.2.1∧e.2.1<=e.2.2∧e.2.2<=j:=by
 induction h with
 |byte=>intro _ e he;cases he
 |grp k x i j t ev _ ih=>
  intro a e he;rcases Az.1 he with rfl|he
  ·exact⟨AH rfl,AP _,a,AP _⟩
  ·obtain⟨b,d⟩:=ih a e he;exact⟨AE b,d⟩
 |nil=>intro _ e he;cases he
 |lone x i j t ev _ ih=>intro a e he;obtain⟨b,d⟩:=ih a e he;exact⟨AH b,d⟩
 |row x y r i j t ev _ ih=>intro a e he;exact ih a e he
 |kend=>intro _ e he;cases he
 |kgo x r i j c t u ev fv m _ _ f g=>
  intro a e he;have o:=m.1;have q:=m.2.1;rcases Bb.1 he with he|he
  ·obtain⟨b,d,l,n⟩:=f o e he;exact⟨AH b,d,l,by omega⟩
  ·obtain⟨b,d,l,n⟩:=g q e he;exact⟨AE b,by omega,l,n⟩
 |rep mn mx x i j t ev _ ih=>intro a e he;exact ih a e he
 |tend=>intro _ e he;cases he
 |tgo mn mx x i j c t u ev fv _ m _ _ f g=>
  intro a e he;have o:=m.1;have q:=m.2.1;rcases Bb.1 he with he|he
  ·obtain⟨b,d,l,n⟩:=f o e he;exact⟨b,d,l,by omega⟩
  ·obtain⟨b,d,l,n⟩:=g q e he;exact⟨b,by omega,l,n⟩
 |wone x i j t ev _ ih=>intro a e he;exact ih a e he
 |wcons x r i j t ev _ ih=>intro a e he;exact ih a e he
 |hit p x r i j t ev _ _ ih=>intro a e he;obtain⟨b,d⟩:=ih a e he;exact⟨AH b,d⟩
 |miss p x r i j t ev _ _ ih=>intro a e he;obtain⟨b,d⟩:=ih a e he;exact⟨AE b,d⟩
 |last p x i j t ev _ ih=>intro a e he;exact ih a e he
def Lt(n:Nat)(l:List Int):Prop:=∀q,0<=l.getD (2*q) (-1)->l.getD (2*q) (-1)<=l.getD (2*q+1) (-1)∧l.getD (2*q+1) (-1)<=(n:Int)
theorem Uj(l:List Int)(k q:Nat)(x:Int):(l.set k x).getD q (-1)=if k=q∧k<l.length then x else l.getD q (-1):=by
 rw[En,En,List.getElem?_set];by_cases h:k=q
 ·subst h;by_cases a:k<l.length
  ·simp[a]
  ·simp[a]
 ·simp[h]
theorem O9{n:Nat}:∀(ev:List (Nat×Nat×Nat))(l:List Int),(∀e,e∈ev->1<=e.1∧e.2.1<=e.2.2∧e.2.2<=n)->l.length%2=0->Lt n l->Lt n (evs l ev)
 |[],l,_,_,h=>h
 |(m,i,j)::ev,l,he,a,h=>by
  obtain⟨b,d,f⟩:=he (m,i,j) (Ig ..);refine O9 ev _ (fun e g=>he e (II _ g)) (by simp[a]) ?_;intro q;simp only[Uj,List.length_set];have k:=h q;simp only at b d f;by_cases c:2*m-2=2*q∧2*m-2<l.length
  ·have c2:2*m-1=2*q+1∧2*m-1<l.length:=by omega
   have c3:¬(2*m-1=2*q∧2*m-1<l.length):=by omega
   rw[AK c3,AL c,AL c2];intro _;omega
  ·have c2:¬(2*m-1=2*q+1∧2*m-1<l.length):=by omega
   have c3:¬(2*m-1=2*q∧2*m-1<l.length):=by omega
   have c4:¬(2*m-2=2*q+1∧2*m-2<l.length):=by omega
   rw[AK c3,AK c,AK c2,AK c4];exact k
theorem TR.sp{j:Nat}{t:List UInt8}{ev:List (Nat×Nat×Nat)}(h:TR s (.node W.x) i j t ev)(a:i<=j)(k:j<=s.size)(b:∀m,W.x.has m->0<m∧m<=W.g):Ex s ([(i:Int),(j:Int)]++evs (List.replicate (2*W.g) (-1)) ev) W.g:=by
 refine⟨by rw[AW,Jd,List.length_replicate];rfl,?_⟩;have c:Lt s.size (evs (List.replicate (2*W.g) (-1)) ev):=O9 ev _ (fun e he=>by
  obtain⟨d,l,f,n⟩:=h.bd a e he;have:=b _ d;exact⟨by omega,f,by omega⟩) (by simp) (fun q o=>by
  exfalso;have:(List.replicate (2*W.g) (-1:Int)).getD (2*q) (-1)=-1:=by
   rw[En,List.getElem?_replicate];split<;>rfl
  omega)
 intro g _;cases g with
 |zero=>
  intro _;show(i:Int)<=(j:Int)∧(j:Int)<=(s.size:Int);omega
 |succ g=>exact c g
theorem BF.sp{fr:Nat}{l:List Int}(h:BF s W fr (some l))(b:∀m,W.x.has m->0<m∧m<=W.g):Ex s l W.g∧∃(i j:Nat)(r:List Int),l=(i:Int)::(j:Int)::r∧fr<=i∧i<=j∧j<=s.size:=by
 rcases h with⟨h,_⟩|⟨i,j,t,ev,a,c,h⟩
 ·cases h
 ·cases h;exact⟨c.sp a.2.1 a.2.2.1 b,i,j,_,rfl,a.1,a.2.1,a.2.2.1⟩
theorem Dv.sp{l:List Int}(h:Dv s W (some l))(a:∀m,W.x.has m->0<m∧m<=W.g):Ex s l W.g∧∃r,l=0::(s.size:Int)::r:=by
 rcases h with⟨h,_⟩|⟨_,t,ev,b,h⟩
 ·cases h
 ·cases h;exact⟨b.sp (AY _) (AP _) a,_,rfl⟩
theorem Dv.det{a b:Option (List Int)}(h:Dv s W a)(k:Dv s W b):a=b:=by
 rcases h with⟨rfl,h⟩|⟨h,t,ev,d,rfl⟩<;>rcases k with⟨rfl,k⟩|⟨k,e,c,f,rfl⟩
 ·rfl
 ·exact absurd k h
 ·exact absurd h k
 ·obtain⟨_,rfl⟩:=d.det e c f;rfl
inductive Bl (s : ByteArray) (W : Whole) : Nat -> List (List Int) -> Prop
 | fin (fr : Nat) : s.size <= fr -> Bl s W fr []
 | none (fr : Nat) : fr < s.size -> BF s W fr none -> Bl s W fr []
 | hit (fr i j : Nat) (r : List Int) (fs : List (List Int)) : fr < s.size -> BF s W fr (some ((i : Int) :: (j : Int) :: r)) -> i < j -> Bl s W j fs -> Bl s W fr (((i : Int) :: (j : Int) :: r) :: fs)
 | empty (fr i j : Nat) (r : List Int) (fs : List (List Int)) : fr < s.size -> BF s W fr (some ((i : Int) :: (j : Int) :: r)) -> ¬ i < j -> Bl s W (j + 1) fs -> Bl s W fr fs
theorem Bl.det{fr:Nat}{a:List (List Int)}(h:Bl s W fr a):∀{b:List (List Int)},Bl s W fr b->a=b:=by
 induction h with
 |fin fr h=>
  intro b k;cases k with
  |fin=>rfl
  |none _ k=>omega
  |hit _ _ _ _ _ k=>omega
  |empty _ _ _ _ _ k=>omega
 |none fr h c=>
  intro b k;cases k with
  |fin=>rfl
  |none=>rfl
  |hit _ _ _ _ _ _ k=>cases c.det k
  |empty _ _ _ _ _ _ k=>cases c.det k
 |hit fr i j r fs h c o _ ih=>
  intro b k;cases k with
  |fin _ k=>omega
  |none _ _ k=>cases c.det k
  |hit _ g d m f _ k n l=>
   have e:=c.det k;simp only[Ai,Bc]at e;obtain⟨p,q,rfl⟩:=e;have:i=g:=by omega
   have:j=d:=by omega
   subst g;subst d;rw[ih l]
  |empty _ g d m f _ k n l=>
   have e:=c.det k;simp only[Ai,Bc]at e;omega
 |empty fr i j r fs h c o _ ih=>
  intro b k;cases k with
  |fin _ k=>omega
  |none _ _ k=>cases c.det k
  |hit _ g d m f _ k n l=>
   have e:=c.det k;simp only[Ai,Bc]at e;omega
  |empty _ g d m f _ k n l=>
   have e:=c.det k;simp only[Ai,Bc]at e;obtain⟨p,q,rfl⟩:=e;have:j=d:=by omega
   subst d;exact ih l
theorem IW.fnd{lo:Nat}{v:Value}{l:List Int}(h:IW w lo v (some l))(a:l≠[]):Cl w v l∧∃g c,v=.slice (some ⟨g,0,none⟩) l.length c∧lo<=g:=by
 have b:w.ownsRow lo 3 1 v l.length (CA l):=h;rcases b.2 with⟨_,e⟩|⟨g,cap,cur,e,i,m⟩
 ·exact absurd (FK.1 e) a
 ·subst e;have d:∀(k:Nat)(z:Int),l[k]? =some z->w.cell? ⟨g,k,none⟩=some (.int .i64 z):=fun k z f=>by
   have n:=(BT.1 f).1;rw[BX b k (by omega)];simp[CA,f]
  refine⟨⟨g,cap,rfl,?_,d⟩,g,cap,rfl,i⟩;have j:=d 0 (l[0]'(List.length_pos_iff.2 a)) (Ax _);exact BV _ _ j
