/-
  DERIVED. The program's noteGroups: the stretches of a tree's groups are put down. Conditions: the told list and the tree lie apart; the groups' numbers are within the list.
-/
import Derived.Test.YtnfojonmohijpaaGreatDoorJON
set_option linter.all false
set_option maxRecDepth 100000
set_option maxHeartbeats 8000000
namespace Go.Proofs.YtnfojonmohijpaaGreatDoor
open Go.RowKit
variable{w:World}
theorem TV.fits{S:Nat->Prop}{b:Bool}{t:Tr}{cs:List Value}(h:TV w S b t cs):t.fit∧(b=false->t.isR):=by
 induction h with
 |tnil=>exact⟨trivial,fun h=>by cases h⟩
 |tbyte=>exact⟨trivial,fun h=>by cases h⟩
 |tgrp k x v cs _ _ _ _ ih=>exact⟨ih.1,fun h=>by cases h⟩
 |talt p x v cs _ _ _ ih=>exact⟨ih.1,fun h=>by cases h⟩
 |tser l v n cs _ _ _ ih=>exact⟨⟨ih.2 rfl,ih.1⟩,fun h=>by cases h⟩
 |trep l v n cs _ _ _ ih=>exact⟨⟨ih.2 rfl,ih.1⟩,fun h=>by cases h⟩
 |lnil=>exact⟨trivial,fun _=>trivial⟩
 |lcons x r cs ds _ _ i1 i2=>exact⟨⟨i1.1,i2.1⟩,fun _=>i2.2 rfl⟩
structure ND (w : World) (S : Nat -> Prop) (t : Tr) (kind num : Nat) (va : Option Addr) (vn vc : Nat) (row : Tr) (ds : List Value) : Prop where
 kd : kind ≠ 98 ∧ kind < 256
 tv : TV w S false row ds
 own : w.ownsRow 0 88 3 (.slice va vn vc) vn ds
 blk : ∀ g, (Value.slice va vn vc).ownBlock = some g -> S g
 len : row.len = t.len
 sz : row.sz <= t.sz
 bev : ∀ i, t.bev false i = row.bev (decide (kind = 114)) i ++ (if kind = 103 then [(num, i, i + t.len)] else [])
 calm : ∀ i, t.calm i -> row.calm i ∧ (kind = 114 -> row.still i)
 has : ∀ k, row.has k -> t.has k
 num : kind = 103 -> t.has num
theorem TV.node{S:Nat->Prop}{t:Tr}{cs:List Value}(h:TV w S true t cs):(∃b,t=.tbyte b∧cs=[.int .u8 98,.int .i64 b,.slice none 0 0])∨∃(kind num:Nat)(va:Option Addr)(vn vc:Nat)(row:Tr)(ds:List Value),cs=[.int .u8 kind,.int .i64 num,.slice va vn vc]∧ND w S t kind num va vn vc row ds:=by
 cases h with
 |tbyte b hb=>exact AH ⟨b,rfl,rfl⟩
 |tnil=>exact Or.inr ⟨101,0,none,0,0,.lnil,[],rfl,by decide,.lnil,FH _ _ _ _,by simp[Value.ownBlock],rfl,by simp[Tr.sz],fun _=>rfl,fun _ _=>⟨trivial,fun h=>by cases h⟩,fun _ h=>h.elim,fun h=>by cases h⟩
 |tgrp k x v cs j f d e=>
  obtain⟨a,b,c,rfl⟩:=A6 d;obtain rfl:=Gh d;exact AE ⟨103,k,a,1,c,.lcons x .lnil,cs,rfl,by decide,by simpa using TV.lcons x .lnil cs [] f .lnil,d,e,by simp[Tr.len],by simp only[Tr.sz];omega,fun i=>by simp[Tr.bev,Tr.len],fun i h=>⟨⟨h,trivial⟩,fun h=>by cases h⟩,fun _ h=>h.elim AE fun h=>h.elim,fun _=>AH rfl⟩
 |talt p x v cs f d e=>
  obtain⟨a,b,c,rfl⟩:=A6 d;obtain rfl:=Gh d;exact AE ⟨97,p,a,1,c,.lcons x .lnil,cs,rfl,by decide,by simpa using TV.lcons x .lnil cs [] f .lnil,d,e,by simp[Tr.len],by simp only[Tr.sz];omega,fun i=>by simp[Tr.bev],fun i h=>⟨⟨h,trivial⟩,fun h=>by cases h⟩,fun _ h=>h.elim id fun h=>h.elim,fun h=>by cases h⟩
 |tser l v n cs g d e=>
  obtain⟨a,b,c,rfl⟩:=A6 d;obtain rfl:=Gh d;exact AE ⟨115,0,a,b,c,l,cs,rfl,by decide,g,d,e,rfl,by simp only[Tr.sz];omega,fun i=>by simp[Tr.bev],fun i h=>⟨h,fun h=>by cases h⟩,fun _ h=>h,fun h=>by cases h⟩
 |trep l v n cs g d e=>
  obtain⟨a,b,c,rfl⟩:=A6 d;obtain rfl:=Gh d;exact AE ⟨114,0,a,b,c,l,cs,rfl,by decide,g,d,e,rfl,by simp only[Tr.sz];omega,fun i=>by simp[Tr.bev],fun i h=>⟨h.1,fun _=>h.2⟩,fun _ h=>h,fun h=>by cases h⟩
def CA(l:List Int):List Value:=l.map fun x=> .int .i64 x
theorem KT(l:List Int)(k:Nat)(x:Int):(CA l).set k (.int .i64 x)=CA (l.set k x):=by
 simp[CA,List.map_set]
def Lm(n:Nat):Prop:=∀(t:Tr),t.sz<=n->∀(w:World)(S:Nat->Prop)(tb M cap:Nat)(L:List Int)(i:Nat)(cs:List Value),TV w S true t cs->(∀g,S g->g≠tb)->w.ownsRow 0 3 1 (.slice (some ⟨tb,0,none⟩) M cap) M (CA L)->M<=1000->
 (∀k,t.has k->2*k+1<M)->t.calm i->i+t.len<=100->
 Calls Tryz.prog 164 #[.slice (some ⟨tb,0,none⟩) M cap,.agg cs.toArray,.int .i64 i] w fun e w'=>e=.returned (.int .i64 ((i+t.len:Nat):Int))∧w'.ownsRow 0 3 1 (.slice (some ⟨tb,0,none⟩) M cap) M (CA (Cf L (t.bev false i)))∧AA [tb] w w'
structure NR (W wr : World) (S : Nat -> Prop) (tb M cap : Nat) (row : Tr) (br : Bool) (goal : List Int) (last m e : Nat) (L : List Int) : Prop where
 own : wr.ownsRow 0 3 1 (.slice (some ⟨tb, 0, none⟩) M cap) M (CA L)
 txt : Cf L ((DP m row).bev br e) = goal
 pos : e + (DP m row).len = last
 calm : (DP m row).calm e
 still : br = true -> (DP m row).still e
 keep : AA [tb] W wr
theorem Oq{k:Nat}:∀{r:Tr}{m:Nat},(DP m r).has k->r.has k
 |r,0,h=>by cases r<;>exact h
 | .lcons y r,m+1,h=>AE (Oq (r:=r) (m:=m) h)
 | .lnil,_+1,h=>h.elim
 | .tnil,_+1,h=>h.elim
 | .tbyte _,_+1,h=>h.elim
 | .tgrp _ _,_+1,h=>h.elim
 | .talt _ _,_+1,h=>h.elim
 | .tser _,_+1,h=>h.elim
 | .trep _,_+1,h=>h.elim
theorem Jh{g:Nat}{a b c:Value}{T:TypeId}(h:w.heap[g]? =some (.cells #[a,b,c] T (0,0))):w.cell? ⟨g,0,none⟩=some a∧w.cell? ⟨g,1,none⟩=some b∧w.cell? ⟨g,2,none⟩=some c:=by
 refine⟨?_,?_,?_⟩<;>(rw[AU h];rfl)
theorem T6(n:Nat)(IH:Lm n):Lm (n+1):=by
 intro t ht w S tb M cap L i cs ai U y hM A l hlen;have hlt:tb<w.heap.size:=(A3 y tb rfl).2;have a9:(0:Int)<=(i:Int):=by omega
 have aO:(i:Int)<=100:=by omega
 rcases ai.node with⟨b,rfl,rfl⟩|⟨kind,num,va,vn,vc,row,ds,rfl,N⟩
 ·have B:AA [tb] w (w.alloc (.cells #[.int .u8 98,.int .i64 (b:Int),.slice none 0 0] 88)):=(AG [tb] w).alloc _;have v:=y.keep ((AG [] w).alloc (.cells #[.int .u8 98,.int .i64 (b:Int),.slice none 0 0] 88)) (by simp);clear ai U A l;go_enter Tryz.func164,Tryz.ntmps164;go_wp2_with fail;go_ret;exact⟨Eo (by simp[Tr.len]),v,B⟩
 have a7:((kind:Int)==98)=false:=by simpa using(by have:=N.kd;omega:¬(kind:Int)=98)
 have V:=(AG [] w).alloc (.cells #[.int .u8 (kind:Int),.int .i64 (num:Int),.slice va vn vc] 88);have z:=AS w (.cells #[.int .u8 (kind:Int),.int .i64 (num:Int),.slice va vn vc] 88);have C:=y.keep V (by simp);have HN:Hid (ND w S t kind num va vn vc row ds):=N;obtain⟨aP,_,aB⟩:=N.tv.tl_at;have aC:vn=(tl row).length:=by have:=N.own.1;omega
 have aD:Hid (vn=(tl row).length):=aC;have D:=N.tv.fits.2 rfl;have aQ:Hid (∀(i:Nat)(x:Tr),(tl row)[i]? =some x->∃es,TV w S true x es∧(∀(j:Nat)(u:Value),es[j]? =some u->ds[i*3+j]? =some u)∧x.sz<row.sz∧(row.thin->x.thin)):=aB;have ba:(vn:Int)<=9223372036854775807:=by
  rcases N.own.2 with⟨_,e⟩|⟨g,cap,cur,_,_,_,q,Y,_⟩
  ·omega
  ·unfold maxLen at Y;omega
 have aR:Hid (row.sz<=n+1):=by have:=N.sz;show row.sz<=n+1;omega
 have E:Hid (i+row.len<=100∧row.len=t.len):=⟨by rw[N.len];exact hlen,N.len⟩;have r:w.heap.size≠tb:=by omega
 have aS:Hid (NR (w.alloc (.cells #[.int .u8 (kind:Int),.int .i64 (num:Int),.slice va vn vc] 88)) (w.alloc (.cells #[.int .u8 (kind:Int),.int .i64 (num:Int),.slice va vn vc] 88)) S tb M cap row (decide (kind=114)) (Cf L (row.bev (decide (kind=114)) i)) (i+row.len) 0 i L):=⟨C,rfl,rfl,(N.calm i l).1,fun h=>(N.calm i l).2 (of_decide_eq_true h),AG _ _⟩;have HB:Hid (t.bev false i=row.bev (decide (kind=114)) i++(if kind=103 then[(num,i,i+t.len)]else[])):=N.bev i;have ae:Hid (∀k,t.has k->2*k+1<M):=A;clear N aP aB aC ai l y C A hlen ht;go_enter Tryz.func164,Tryz.ntmps164;go_upto_region 1 with(fail)
 generalize w.alloc (.cells #[.int .u8 (kind:Int),.int .i64 (num:Int),.slice va vn vc] 88)=W at*;obtain⟨gn,aj⟩:=AQ w.heap.size;rw[<-aj]at z r⊢;have bc:Hid (gn=w.heap.size):=aj;clear aj;have ak:Hid (W.heap[gn]? =some (.cells #[.int .u8 (kind:Int),.int .i64 (num:Int),.slice va vn vc] 88 (0,0))):=z;obtain⟨c0,c1,c2⟩:=Jh z;clear z;go_upto_region 5 with(fail)
 clear c0 c1 c2;go_loopw [7,20] (fun q1 q2 wr=>∃(m e:Nat)(F:List Int),m<=vn∧q1=.int .i64 e∧q2=.int .i64 m∧NR W wr S tb M cap row (decide (kind=114)) (Cf L (row.bev (decide (kind=114)) i)) (i+row.len) m e F) (fun _ q2 _=>vn-(intOf q2).toNat)
 case atStart=>exact⟨0,i,L,AY _,rfl,rfl,aS.o⟩
 case round=>
  obtain⟨m,e,F,hm,rfl,rfl,R⟩:=hrel;have aE:gn<W.heap.size:=(AN.1 ak.o).1;have G:=(R.keep.block gn aE (by simp;exact r)).trans ak.o;obtain⟨c0,c1,c2⟩:=Jh G;by_cases al:m<vn
  rotate_left
  ·have aF:m=vn:=by omega
   have bf:¬(m:Int)<(vn:Int):=by omega
   have af:DP m row=.lnil:=by rw[aF,aD.o];exact On D
   have H:Hid (F=Cf L (row.bev (decide (kind=114)) i)∧e=i+row.len):=by
    have q:=R.txt;have Y:=R.pos;rw[af]at q Y;exact⟨q,by simpa[Tr.len]using Y⟩
   have I:=R.own;have am:=(V.mono (by simp:∀x,x∈([]:List Nat)->x∈[tb])).trans R.keep;clear R aF al hm af;by_cases J:kind=103
   ·have O:((kind:Int)==103)=true:=by simpa using(by omega:(kind:Int)=103)
    have bh:2*num+1<M:=ae.o num (HN.o.num J);have w1:IntKind.i64.wrap (2*(num:Int))=2*(num:Int):=wrap_small (by omega) (by omega);have bi:IntKind.i64.wrap (2*(num:Int)+1)=2*(num:Int)+1:=wrap_small (by omega) (by omega);have t2:(2*(num:Int)).toNat=2*num:=by omega
    have t1:(2*(num:Int)+1).toNat=2*num+1:=by omega
    have aG:Hid (t.bev false i=row.bev (decide (kind=114)) i++[(num,i,i+t.len)]):=by show t.bev false i=_;rw[HB.o,AL J]
    go_upto_region 12 with(fail)
    clear c0 c1 c2;have an:AA [] wr wr.drew:=(AG [] wr).drewN 1;have Z:=I.keep an (by simp);have a:wr.drew.heap[gn]? =some (.cells #[.int .u8 (kind:Int),.int .i64 (num:Int),.slice va vn vc] 88 (0,0)):=G;have bj:F.length=M:=by have:=I.1;simpa[CA]using this
    refine Cj (S:=fun X':World=>X'.heap[gn]? =some (.cells #[.int .u8 (kind:Int),.int .i64 (num:Int),.slice va vn vc] 88 (0,0))) (by kernel_rfl) ?_;change wpAnyH _ _ _ _ _ _ _ _ (World.drew _);have aT:Hid (AA [tb] w wr.drew):=am.trans (an.mono (by simp));clear G an am I;generalize wr.drew=X0 at*;refine AV 0 _ (some 41) (.slice (some ⟨tb,0,none⟩) M cap) rfl a ?_;simp only[AM];refine AV 1 _ (some 42) (.pointer (some ⟨gn,1,none⟩)) rfl a ?_;simp only[AM];refine Ak 2 _ (some 43) (.int .i64 (num:Int)) rfl (AH ⟨by rfl,fun X hX=>by(obtain⟨r0,r1,r2⟩:=Jh hX;go_simp)⟩) a ?_;simp only[AM];refine AV 3 _ (some 44) (.int .i64 (2*(num:Int))) rfl a ?_;simp only[AM];refine AV 4 _ (some 45) (.slice (some ⟨tb,0,none⟩) M cap) rfl a ?_;simp only[AM];refine AV 5 _ (some 46) (.pointer (some ⟨gn,1,none⟩)) rfl a ?_;simp only[AM];refine Ak 6 _ (some 47) (.int .i64 (num:Int)) rfl (AH ⟨by rfl,fun X hX=>by(obtain⟨r0,r1,r2⟩:=Jh hX;go_simp)⟩) a ?_;simp only[AM];refine AV 7 _ (some 48) (.int .i64 (2*(num:Int))) rfl a ?_;simp only[AM];refine AV 8 _ (some 49) (.int .i64 (2*(num:Int)+1)) rfl a ?_;simp only[AM];refine AV 9 _ (some 50) (.int .i64 (i:Int)) rfl a ?_;simp only[AM];refine AV 10 _ (some 51) (.int .i64 (e:Int)) rfl a ?_;simp only[AM];refine Ak 11 _ (some 52) (.pointer (some ⟨tb,2*num,none⟩)) rfl (AH ⟨by rfl,fun X hX=>by(go_simp;intro hq;exfalso;omega)⟩) a ?_;simp only[AM];have ca:∃vz,X0.cell? ⟨tb,2*num,none⟩=some vz:=⟨_,(BX Z (2*num) (by omega)).trans (Ax (by simp only[CA,Ce];omega))⟩;obtain⟨vz,ca⟩:=ca;have fa:=D8 Z (2*num);have aa:(X0.setCell ⟨tb,2*num,none⟩ (.int .i64 (i:Int))).ownsRow 0 3 1 (.slice (some ⟨tb,0,none⟩) M cap) M (CA (F.set (2*num) (i:Int))):=by
     have:=(Es Z (2*num) (.int .i64 (i:Int))).1;rw[KT]at this;exact this
    have s:AA [tb] X0 (X0.setCell ⟨tb,2*num,none⟩ (.int .i64 (i:Int))):=(AG [tb] X0).setCell (p:=⟨tb,2*num,none⟩) (by simp) _;have P:(X0.setCell ⟨tb,2*num,none⟩ (.int .i64 (i:Int))).heap[gn]? =some (.cells #[.int .u8 (kind:Int),.int .i64 (num:Int),.slice va vn vc] 88 (0,0)):=(s.block gn (AN.1 a).1 (by simp;exact r)).trans a;refine A8 12 rfl fun K hK=>?_
    go_simp;refine hK.out _ _ P (fun _=>?_);clear hK K ca fa a;have aH:Hid (AA [tb] w (X0.setCell ⟨tb,2*num,none⟩ (.int .i64 (i:Int)))):=aT.o.trans s;clear s Z;generalize X0.setCell ⟨tb,2*num,none⟩ (.int .i64 (i:Int))=X1 at*;refine Ak 13 _ (some 53) (.pointer (some ⟨tb,2*num+1,none⟩)) rfl (AH ⟨by rfl,fun X hX=>by(go_simp;intro hq;exfalso;omega)⟩) P ?_;simp only[AM];have ca:∃vz,X1.cell? ⟨tb,2*num+1,none⟩=some vz:=⟨_,(BX aa (2*num+1) (by omega)).trans (Ax (by simp only[CA,Ce,List.length_set];omega))⟩;obtain⟨bk,ca⟩:=ca;have fa:=D8 aa (2*num+1);have aI:(X1.setCell ⟨tb,2*num+1,none⟩ (.int .i64 (e:Int))).ownsRow 0 3 1 (.slice (some ⟨tb,0,none⟩) M cap) M (CA ((F.set (2*num) (i:Int)).set (2*num+1) (e:Int))):=by
     have:=(Es aa (2*num+1) (.int .i64 (e:Int))).1;rw[KT]at this;exact this
    have ao:AA [tb] X1 (X1.setCell ⟨tb,2*num+1,none⟩ (.int .i64 (e:Int))):=(AG [tb] X1).setCell (p:=⟨tb,2*num+1,none⟩) (by simp) _;have aJ:(X1.setCell ⟨tb,2*num+1,none⟩ (.int .i64 (e:Int))).heap[gn]? =some (.cells #[.int .u8 (kind:Int),.int .i64 (num:Int),.slice va vn vc] 88 (0,0)):=(ao.block gn (AN.1 P).1 (by simp;exact r)).trans P;refine A8 14 rfl fun K hK=>?_
    go_simp;refine hK.out _ _ aJ (fun _=>?_);clear hK K ca fa P;refine CE ?_;have B:=aH.o.trans ao;have v:(X1.setCell ⟨tb,2*num+1,none⟩ (.int .i64 (e:Int))).ownsRow 0 3 1 (.slice (some ⟨tb,0,none⟩) M cap) M (CA (Cf L (t.bev false i))):=by
     rw[aG.o,KR,<-H.o.1,<-E.o.2,<-H.o.2];exact aI
    clear aJ ao aa aI;go_wp2_with fail;go_ret;exact⟨Eo (by have q:=H.o.2;have Y:=E.o.2;omega),v,B⟩
   ·have O:((kind:Int)==103)=false:=by simpa using(by omega:¬(kind:Int)=103)
    have v:wr.ownsRow 0 3 1 (.slice (some ⟨tb,0,none⟩) M cap) M (CA (Cf L (t.bev false i))):=by
     rw[HB.o,AK J,CT,<-H.o.1];exact I
    clear I G;go_wp2_with fail;go_ret;exact⟨Eo (by have q:=H.o.2;have Y:=E.o.2;omega),v,am⟩
  obtain⟨x,hx⟩:∃x,(tl row)[m]? =some x:=⟨_,Ax (by have:=aD.o;omega)⟩;obtain⟨es,ap,aK,ag,_⟩:=aQ.o m x hx;obtain⟨k1,n1,da,dn,dc,rfl⟩:=ap.form;obtain⟨gv,bm,hv,_,bn⟩:=HN.o.own.form (by omega);cases hv;have aL:=U gv (HN.o.blk gv rfl);have aq:AA [tb] w wr:=(V.mono (by simp:∀x,x∈([]:List Nat)->x∈[tb])).trans R.keep;have Q:=HN.o.own.keep aq (by intro g hg;simp only[Value.ownBlock,Ai]at hg;subst hg;simp;exact aL);have aM:wr.rangeAt gv (m*3) [.int .u8 k1,.int .i64 n1,.slice da dn dc]:=fun j u hu=>by
   have hj:j<3:=(BT.1 hu).1;exact(BX Q (m*3+j) (by omega)).trans (aK j u hu)
  have aU:(Tryz.prog.info? 88).map (·.size)=some 3:=by kernel_rfl
  have bo:(0:Int)<=(m:Int):=by omega
  have bq:(m:Int)<(vn:Int):=by omega
  have HM:Hid (m<vn):=al;have ar:=Om D hx;have r1:=R.txt;have r2:=R.pos;have r3:=R.calm;have r4:=R.still;rw[ar]at r1 r2 r3 r4;have aN:=Oo (m:=m+1) D;have aV:Hid (∀k,x.has k->2*k+1<M):=fun k hk=>ae.o k (HN.o.has k (Oq (m:=m) (by rw[ar];exact AH hk)))
  have au:Hid (Cf F ((Tr.lcons x (DP (m+1) row)).bev (decide (kind=114)) e)=Cf L (row.bev (decide (kind=114)) i)):=r1;have ab:Hid (e+(x.len+(DP (m+1) row).len)=i+row.len):=r2;have aw:Hid (x.calm e∧(DP (m+1) row).calm (e+x.len)):=r3;have ax:Hid (decide (kind=114)=true->(x.len=0->(DP (m+1) row).alike e (x.evs e))∧(DP (m+1) row).still (e+x.len)):=r4;have aW:Hid ((DP (m+1) row).isR):=aN;have aX:Hid (wr.ownsRow 0 3 1 (.slice (some ⟨tb,0,none⟩) M cap) M (CA F)):=R.own;have aY:Hid (AA [tb] W wr):=R.keep;have ay:(wr.alloc (.cells #[.int .u8 0,.int .i64 0,.slice none 0 0] 88)).heap[wr.heap.size]? =some (.cells #[.int .u8 0,.int .i64 0,.slice none 0 0] 88 (0,0)):=AS wr _;have s:AA [] wr ((wr.alloc (.cells #[.int .u8 0,.int .i64 0,.slice none 0 0] 88)).setRow wr.heap.size #[.int .u8 k1,.int .i64 n1,.slice da dn dc]):=((AG [] wr).alloc _).setRow (AE (AP _)) _;have az:((wr.alloc (.cells #[.int .u8 0,.int .i64 0,.slice none 0 0] 88)).setRow wr.heap.size #[.int .u8 k1,.int .i64 n1,.slice da dn dc]).heap[wr.heap.size]? =some (.cells #[.int .u8 k1,.int .i64 n1,.slice da dn dc] 88 (0,0)):=Aa _ _ _ _ _ _ ay;have aZ:Hid (TV w S true x [.int .u8 k1,.int .i64 n1,.slice da dn dc]):=ap;have a1:Hid (x.sz<row.sz):=ag;clear R hm al hx r1 r2 r3 r4 aK ap ar aN ag c0 c1 c2 G Q;go_upto_region 7 with(first|(refine ED rfl 88 _ rfl gv (m*3) rfl _ _ aM DO rfl aU ?_)|(refine Ae rfl 88 _ _ rfl wr.heap.size #[.int .u8 k1,.int .i64 n1,.slice da dn dc] rfl rfl _ _ ay (Bs _ _ _) rfl (Dj rfl rfl rfl) ?_;generalize(wr.alloc (.cells #[.int .u8 0,.int .i64 0,.slice none 0 0] 88)).setRow wr.heap.size #[.int .u8 k1,.int .i64 n1,.slice da dn dc]=w2 at*))
  obtain⟨gq,hgq⟩:=AQ wr.heap.size;rw[<-hgq]at az⊢;clear hgq ay aM;have ah:AA [tb] w w2:=aq.trans (s.mono (by simp));have a2:e+x.len<=100:=by have q:=ab.o;have Y:=E.o.1;omega
  go_wp2_with(first|(refine As rfl 88 _ rfl gq rfl _ _ _ _ az DO rfl (Bs _ _ _) ?_));refine(IH x (by have q:=a1.o;have Y:=aR.o;omega) w2 S tb M cap F e _ (aZ.o.keep ah (by intro g hg;simp;exact U g hg)) U (aX.o.keep s (by simp)) hM aV.o aw.o.1 a2).mono ?_;rintro e' w3⟨rfl,c,hk3⟩;have d:AA [tb] W w3:=(aY.o.trans (s.mono (by simp))).trans hk3;have ac:=(d.block gn aE (by simp;exact r)).trans ak.o;obtain⟨d0,d1,d2⟩:=Jh ac;have a3:((e+x.len:Nat):Int)=(e:Int)+(x.len:Int):=by omega
  clear az s hk3 ah aq d1 d2;by_cases f:kind=114
  ·have aA:((kind:Int)==114)=true:=by simpa using(by omega:(kind:Int)=114)
   by_cases ad:x.len=0
   ·have a4:(((e+x.len:Nat):Int)==(e:Int))=true:=by simpa using(by omega:((e+x.len:Nat):Int)=(e:Int))
    have a5:=(Lk (k:=0) aW.o ((ax.o (by simpa using f)).1 ad)).1;have O:((kind:Int)==103)=false:=by simpa using(by omega:¬(kind:Int)=103)
    have a6:Hid (((e+x.len:Nat):Int)=((i+t.len:Nat):Int)):=by
     have q:=ab.o;have Y:=E.o.2;show((e+x.len:Nat):Int)=((i+t.len:Nat):Int);omega
    have v:w3.ownsRow 0 3 1 (.slice (some ⟨tb,0,none⟩) M cap) M (CA (Cf L (t.bev false i))):=by
     have q:=au.o;rw[Tr.bev,AL ⟨by simpa using f,ad⟩,CT]at q;rw[HB.o,AK (by omega),CT,<-q];exact c
    have B:AA [tb] w w3:=(V.mono (by simp:∀x,x∈([]:List Nat)->x∈[tb])).trans d;clear c a5 ac;go_wp2_with fail;go_ret;exact⟨Eo (by have:=a6.o;omega),v,B⟩
   ·have a4:(((e+x.len:Nat):Int)==(e:Int))=false:=by simpa using(by omega:¬((e+x.len:Nat):Int)=(e:Int))
    have a8:Hid (kind=114):=f;clear f;have T:NR W w3 S tb M cap row (decide (kind=114)) (Cf L (row.bev (decide (kind=114)) i)) (i+row.len) (m+1) (e+x.len) (Cf F (x.bev false e)):=by
     refine⟨c,?_,by have q:=ab.o;omega,aw.o.2,fun h=>(ax.o h).2,d⟩;have q:=au.o;rw[Tr.bev,AK (by intro hh;first|exact ad hh.2|exact f (of_decide_eq_true hh.1)),KR]at q;exact q
    clear c d ac;go_wp2_with fail
    first
     |exact⟨⟨m+1,e+x.len,_,HM.o,rfl,by go_num,T⟩,by have:=HM.o;simp[intOf];omega⟩
     |(
      go_roundw
      case rel=>exact⟨m+1,e+x.len,_,HM.o,rfl,by go_num,T⟩
      case measure=>have:=HM.o;simp[intOf];omega)
  ·have aA:((kind:Int)==114)=false:=by simpa using(by omega:¬(kind:Int)=114)
   have T:NR W w3 S tb M cap row (decide (kind=114)) (Cf L (row.bev (decide (kind=114)) i)) (i+row.len) (m+1) (e+x.len) (Cf F (x.bev false e)):=by
    refine⟨c,?_,by have q:=ab.o;omega,aw.o.2,fun h=>(ax.o h).2,d⟩;have q:=au.o;rw[Tr.bev,AK (by intro hh;first|exact ad hh.2|exact f (of_decide_eq_true hh.1)),KR]at q;exact q
   clear c d ac;go_wp2_with fail
   first
    |exact⟨⟨m+1,e+x.len,_,HM.o,rfl,by go_num,T⟩,by have:=HM.o;simp[intOf];omega⟩
    |(
     go_roundw
     case rel=>exact⟨m+1,e+x.len,_,HM.o,rfl,by go_num,T⟩
     case measure=>have:=HM.o;simp[intOf];omega)
def Ot:Prop:=∀(cs:List Value)(k g c:Nat)(w:World),cs.length=3->(∀u∈cs,u.oneCell'=true)->1<=k->k<=5->w.ownsRow 0 88 3 (.slice (some ⟨g,0,none⟩) 1 c) 1 cs->
 Calls Tryz.prog 217 #[.slice (some ⟨g,0,none⟩) 1 c,.int .i64 k] w fun e w'=>∃g',e=.returned (.slice (some ⟨g',0,none⟩) k k)∧w'.ownsRow 0 88 3 (.slice (some ⟨g',0,none⟩) k k) k (List.replicate k cs).flatten∧w.heap.size<=g'∧AA [] w w'
theorem Ln:(Tryz.prog.info? 271).map (·.size)=some 4:=by kernel_rfl
theorem Ji{g:Nat}{a b c d e f k l:Value}(h:w.heap[g]? =some (.cells #[a,b,c,d,e,f,k,l] 273 (0,0))):w.cell? ⟨g,3,none⟩=some d∧w.cell? ⟨g,4,none⟩=some e∧w.cell? ⟨g,5,none⟩=some f∧w.rangeAt g 0 [a,b,c,d]:=by
 refine⟨by rw[AU h];rfl,by rw[AU h];rfl,by rw[AU h];rfl,?_⟩;intro j v i
 match j,i with
 |0,i=>simp at i;subst i;rw[AU h];rfl
 |1,i=>simp at i;subst i;rw[AU h];rfl
 |2,i=>simp at i;subst i;rw[AU h];rfl
 |3,i=>simp at i;subst i;rw[AU h];rfl
theorem Mk.single_of{S:Nat->Prop}{s:ByteArray}{N:Nat}{y:AD}{ds:List Value}(h:Mk w S s N .piece y ds):∃x cs rs,ds=cs++rs∧Mk w S s N .single x cs∧(y=x∨∃mn mx,y=.rep mn mx x):=by
 cases h with
 |piece _ cs h=>exact⟨y,cs,_,rfl,h,AH rfl⟩
 |rep mn mx x cs v _ _ _ _ h _=>exact⟨x,cs,_,rfl,h,AE ⟨mn,mx,rfl⟩⟩
theorem T7(s:ByteArray)(N:Nat)(HN:Hid (N=s.size+1))(hs:s.size<=100)(n:Nat)(IS:Li s N n)(RO:Ot):Lh s N n:=by
 intro y hy w S ds m i j hm hM a8 hj aw;obtain⟨m0,m1,m2,m3,m5,m6,rfl,o0,o1,o2,o3,o5,o6⟩:=hM.ok;obtain⟨x,cs,rs,ai,E,aK⟩:=hm.single_of;have a9:=hm.form.1;rcases hm.piece_cells with⟨k,a,c,g,cv,rfl,aL,ba⟩|⟨k,a,c,g,cv,mn,mx,Q,r,rfl,b1,b2,b3,b4,rfl,aL,hr⟩
 ·have W:y=x:=by
   rcases aK with h|⟨mn,mx,h⟩
   ·exact h
   ·exact absurd h (ba mn mx x)
  subst W;obtain⟨_,k',a',c',v',rfl,_⟩:=E.form;simp only[DL,FN,Bc]at ai;obtain⟨q1,rfl,rfl,rfl,rfl⟩:=ai;rw[<-q1]at E;clear q1;have F:=Ic w (.cells #[m0,m1,m2,m3,.string s,m5,m6] 80) (.cells #[.int .i64 (k:Nat),a,c,.slice (some ⟨g,0,none⟩) N cv,.bool false,.int .i64 0,.int .i64 0,.slice none 0 0] 273) (.cells #[.int .u8 0,.int .i64 0,.slice none 0 0] 88);have h0:=IZ w (.cells #[m0,m1,m2,m3,.string s,m5,m6] 80) (.cells #[.int .i64 (k:Nat),a,c,.slice (some ⟨g,0,none⟩) N cv,.bool false,.int .i64 0,.int .i64 0,.slice none 0 0] 273) (.cells #[.int .u8 0,.int .i64 0,.slice none 0 0] 88);have h1:=Ia w (.cells #[m0,m1,m2,m3,.string s,m5,m6] 80) (.cells #[.int .i64 (k:Nat),a,c,.slice (some ⟨g,0,none⟩) N cv,.bool false,.int .i64 0,.int .i64 0,.slice none 0 0] 273) (.cells #[.int .u8 0,.int .i64 0,.slice none 0 0] 88);have h2:=Ib w (.cells #[m0,m1,m2,m3,.string s,m5,m6] 80) (.cells #[.int .i64 (k:Nat),a,c,.slice (some ⟨g,0,none⟩) N cv,.bool false,.int .i64 0,.int .i64 0,.slice none 0 0] 273) (.cells #[.int .u8 0,.int .i64 0,.slice none 0 0] 88);go_enter Tryz.func180,Tryz.ntmps180;go_upto_region 1 with(fail)
  generalize(((w.alloc (.cells #[m0,m1,m2,m3,.string s,m5,m6] 80)).alloc (.cells #[.int .i64 (k:Nat),a,c,.slice (some ⟨g,0,none⟩) N cv,.bool false,.int .i64 0,.int .i64 0,.slice none 0 0] 273)).alloc (.cells #[.int .u8 0,.int .i64 0,.slice none 0 0] 88))=X at*;obtain⟨g0,e0⟩:=AQ w.heap.size;obtain⟨g1,Y⟩:=AQ (w.heap.size+1);obtain⟨g2,e2⟩:=AQ (w.heap.size+2);rw[<-e2]at h2⊢;rw[<-Y]at h1⊢;rw[<-e0]at h0⊢;have R:w.heap.size<=g2:=by omega
  have Z:g2<X.heap.size:=(AN.1 h2).1;have ao:g1<X.heap.size:=(AN.1 h1).1;have ap:g0<X.heap.size:=(AN.1 h0).1;have bc:=F.size;clear e0 Y e2;obtain⟨_,c4,_,aM⟩:=Ji h1;have hC:=IS y hy X S _ _ i j (E.keep F (by simp)) hM a8 hj aw;go_wp2_with(first|(refine As rfl 80 _ rfl g0 rfl _ _ _ _ h0 Ck rfl (Cq _ _ _ _ _ _ _) ?_)|(refine ED rfl 271 _ rfl g1 0 rfl _ _ aM Tryz.underlying271 rfl Ln ?_));refine hC.mono ?_;rintro e w1⟨t,ts,rfl,D,aa,O⟩;obtain⟨p,q,va,vn,vc,rfl⟩:=D.form;have aN:=(O.block g2 Z (by simp)).trans h2;have P:AA [g2] w1 (w1.setRow g2 #[.int .u8 p,.int .i64 q,.slice va vn vc]):=(AG [g2] _).setRow (g:=g2) (by simp) _;go_wp2_with(first|(refine Ae rfl 88 _ _ rfl g2 #[.int .u8 p,.int .i64 q,.slice va vn vc] rfl rfl _ _ aN (Bs _ _ _) rfl (Dj rfl rfl rfl) ?_));refine Ag (Au rfl _ _ g2 _ _ _ _ rfl (Aa _ _ _ _ _ _ aN) DO rfl (Bs _ _ _)) rfl ?_;exact⟨t,_,rfl,(D.keep P (by intro z H;simp;omega)).mono fun z H _=>by omega,aa,(F.trans O).setRow (AE R) _⟩
 ·have W:Q=x:=by
   rcases aK with h|⟨bw,bx,h⟩
   ·subst h;cases E
   ·cases h;rfl
  subst W;obtain⟨_,k',a',c',v',rfl,_⟩:=E.form;simp only[DL,FN,Bc]at ai;obtain⟨q1,rfl,rfl,rfl,rfl⟩:=ai;rw[<-q1]at E;clear q1;obtain⟨gr,cr,_,rfl,_,_,_,_⟩:=hr.at (d:=0) (by omega);obtain⟨M,HM⟩:∃M,Hid (M=steps mn mx+1):=⟨_,rfl⟩;have aO:=HM.o;rw[<-aO]at hm a9 hr⊢;clear aO;have aq:Q.sz<=n:=by simp[AD.sz]at hy;omega
  have F:=Ic w (.cells #[m0,m1,m2,m3,.string s,m5,m6] 80) (.cells #[.int .i64 (k:Nat),a,c,.slice (some ⟨g,0,none⟩) N cv,.bool true,.int .i64 mn,.int .i64 mx,.slice (some ⟨gr,0,none⟩) M cr] 273) (.cells #[.int .u8 0,.int .i64 0,.slice none 0 0] 88);have h0:=IZ w (.cells #[m0,m1,m2,m3,.string s,m5,m6] 80) (.cells #[.int .i64 (k:Nat),a,c,.slice (some ⟨g,0,none⟩) N cv,.bool true,.int .i64 mn,.int .i64 mx,.slice (some ⟨gr,0,none⟩) M cr] 273) (.cells #[.int .u8 0,.int .i64 0,.slice none 0 0] 88);have h1:=Ia w (.cells #[m0,m1,m2,m3,.string s,m5,m6] 80) (.cells #[.int .i64 (k:Nat),a,c,.slice (some ⟨g,0,none⟩) N cv,.bool true,.int .i64 mn,.int .i64 mx,.slice (some ⟨gr,0,none⟩) M cr] 273) (.cells #[.int .u8 0,.int .i64 0,.slice none 0 0] 88);have h2:=Ib w (.cells #[m0,m1,m2,m3,.string s,m5,m6] 80) (.cells #[.int .i64 (k:Nat),a,c,.slice (some ⟨g,0,none⟩) N cv,.bool true,.int .i64 mn,.int .i64 mx,.slice (some ⟨gr,0,none⟩) M cr] 273) (.cells #[.int .u8 0,.int .i64 0,.slice none 0 0] 88);go_enter Tryz.func180,Tryz.ntmps180;go_upto_region 1 with(fail)
  generalize(((w.alloc (.cells #[m0,m1,m2,m3,.string s,m5,m6] 80)).alloc (.cells #[.int .i64 (k:Nat),a,c,.slice (some ⟨g,0,none⟩) N cv,.bool true,.int .i64 mn,.int .i64 mx,.slice (some ⟨gr,0,none⟩) M cr] 273)).alloc (.cells #[.int .u8 0,.int .i64 0,.slice none 0 0] 88))=X at*;obtain⟨g0,e0⟩:=AQ w.heap.size;obtain⟨g1,Y⟩:=AQ (w.heap.size+1);obtain⟨g2,e2⟩:=AQ (w.heap.size+2);rw[<-e2]at h2⊢;rw[<-Y]at h1⊢;rw[<-e0]at h0⊢;have R:w.heap.size<=g2:=by omega
  have Z:g2<X.heap.size:=(AN.1 h2).1;have ao:g1<X.heap.size:=(AN.1 h1).1;have ap:g0<X.heap.size:=(AN.1 h0).1;have bc:=F.size;clear e0 Y e2;obtain⟨c3,c4,c5,aM⟩:=Ji h1;go_upto_region 4 with(fail)
  have G0:=GL.start X;have aP:Hid (PL s Q mn mx i j i []):=PL.start aw;go_loopw [2,9,10] (fun q2 q9 _ wr=>∃(c:Nat)(ts:List Tr)(cs:List Value),q2=.int .i64 c∧GL X wr q9 ts cs∧Hid (PL s Q mn mx i j c ts)) (fun q2 _ _ _=>j-(intOf q2).toNat)
  case atStart=>exact⟨i,[],[],rfl,G0,aP⟩
  case round=>
   clear G0 aP;obtain⟨c1,ts,cs,rfl,G,HP⟩:=hrel;obtain⟨va,vn,vc,rfl⟩:=A6 G.own;have HV:Hid (vn=ts.length):=Gh G.own;have aj:=(G.keep.block g0 ap (by simp)).trans h0;have ak:=(G.keep.block g1 ao (by simp)).trans h1;have ax:=(G.keep.block g2 Z (by simp)).trans h2;have bf:=G.keep.size;have al:=F.trans G.keep;have bz:=HP.o.lo;have bA:=HP.o.hi;by_cases aQ:c1<j
   ·obtain⟨d1,HD⟩:∃d1,Hid (d1=vn+1):=⟨_,rfl⟩;have bB:IntKind.i64.wrap ((vn:Int)+1)=(d1:Int):=by have:=HD.o;have:=HV.o;rw[wrap_small (by omega) (by omega)];omega
    have bq:(c1:Int)<(j:Int):=by omega
    have HCJ:Hid (c1<j):=aQ;have b:wr.drew.heap[g0]? =some (.cells #[m0,m1,m2,m3,.string s,m5,m6] 80 (0,0))∧wr.drew.heap[g1]? =some (.cells #[.int .i64 (k:Nat),a,c,.slice (some ⟨g,0,none⟩) N cv,.bool true,.int .i64 mn,.int .i64 mx,.slice (some ⟨gr,0,none⟩) M cr] 273 (0,0))∧AA [] wr wr.drew:=⟨aj,ak,(AG [] wr).drewN 1⟩;clear aQ;go_upto_region 5 with(fail)
    refine Cj (S:=fun X'=>X'.heap[g0]? =some (.cells #[m0,m1,m2,m3,.string s,m5,m6] 80 (0,0))∧X'.heap[g1]? =some (.cells #[.int .i64 (k:Nat),a,c,.slice (some ⟨g,0,none⟩) N cv,.bool true,.int .i64 mn,.int .i64 mx,.slice (some ⟨gr,0,none⟩) M cr] 273 (0,0))∧AA [] wr X') (by kernel_rfl) ?_;change wpAnyH _ _ _ _ _ _ _ _ (World.drew _);generalize wr.drew=X0 at*;refine AV 0 _ (some 26) (.pointer (some ⟨g1,0,none⟩)) rfl b ?_;simp only[AM];refine AV 1 _ (some 27) (.pointer (some ⟨g1,3,none⟩)) rfl b ?_;simp only[AM];refine Ak 2 _ (some 28) (.slice (some ⟨g,0,none⟩) N cv) rfl (AH ⟨by rfl,fun X hX=>by(obtain⟨y3,y4,y5,y6⟩:=Ji hX.2.1;go_simp)⟩) b ?_;simp only[AM];refine Ak 3 _ (some 29) (.agg #[.int .i64 (k:Nat),a,c,.slice (some ⟨g,0,none⟩) N cv,.bool true,.int .i64 mn,.int .i64 mx,.slice (some ⟨gr,0,none⟩) M cr]) rfl (DN (by rfl) 273 _ rfl g1 0 rfl [.int .i64 (k:Nat),a,c,.slice (some ⟨g,0,none⟩) N cv,.bool true,.int .i64 mn,.int .i64 mx,.slice (some ⟨gr,0,none⟩) M cr] _ (fun X hX=>KS hX.2.1) FQ rfl (F3 _ _ _ _ _ _ _ _)) b ?_;simp only[AM];refine AV 4 _ (some 30) (.slice va vn vc) rfl b ?_;simp only[AM];refine AV 5 _ (some 31) (.int .i64 vn) rfl b ?_;simp only[AM];refine AV 6 _ (some 32) (.int .i64 d1) rfl b ?_;simp only[AM];refine AV 8 _ (some 34) (.int .i64 c1) rfl b ?_;simp only[AM];refine AV 9 _ (some 35) (.int .i64 j) rfl b ?_;simp only[AM];refine A8 7 rfl fun K hK=>?_
    go_simp;have bh:=hm.keep (al.trans b.2.2) (by simp);refine(Te s N mn mx Q _ S X0 bh d1 (by have:=HD.o;have:=HV.o;omega)).mono ?_;rintro e w1⟨gR,cR,rfl,hR,O⟩;have I:w1.heap[g0]? =some (.cells #[m0,m1,m2,m3,.string s,m5,m6] 80 (0,0))∧w1.heap[g1]? =some (.cells #[.int .i64 (k:Nat),a,c,.slice (some ⟨g,0,none⟩) N cv,.bool true,.int .i64 mn,.int .i64 mx,.slice (some ⟨gr,0,none⟩) M cr] 273 (0,0))∧AA [] wr w1:=⟨(O.block g0 (AN.1 b.1).1 (by simp)).trans b.1,(O.block g1 (AN.1 b.2.1).1 (by simp)).trans b.2.1,b.2.2.trans O⟩;refine hK.out _ _ I (fun _=>?_);clear hK K;refine A8 10 rfl fun K hK=>?_
    go_simp;refine(OI N (by have:=HN.o;omega) c1 j (by omega) (by have:=HN.o;omega) w1 (aL.keep (al.trans I.2.2) (by simp)) hR).mono ?_;rintro e w2⟨Y,rfl,hcut,T⟩;have U:w2.heap[g0]? =some (.cells #[m0,m1,m2,m3,.string s,m5,m6] 80 (0,0))∧w2.heap[g1]? =some (.cells #[.int .i64 (k:Nat),a,c,.slice (some ⟨g,0,none⟩) N cv,.bool true,.int .i64 mn,.int .i64 mx,.slice (some ⟨gr,0,none⟩) M cr] 273 (0,0))∧AA [] wr w2:=⟨(T.block g0 (AN.1 I.1).1 (by simp)).trans I.1,(T.block g1 (AN.1 I.2.1).1 (by simp)).trans I.2.1,I.2.2.trans T⟩;refine hK.out _ _ U (fun _=>?_);clear hK K;refine AV 11 _ (some 10) (.int .i64 Y) rfl U ?_;simp only[AM];refine CE ?_;have HC:Hid (BH (fun m=>Mt s Q c1 m∧Left (Mt s Q) mn mx (ts.length+1) m j) c1 j Y):=by
     have:=HD.o;have:=HV.o;rw[show ts.length+1=d1 by omega];exact hcut
    obtain⟨aR,aS⟩:=HP.o.mid HCJ.o HC.o;have bC:=HC.o.2.1;have ab:=U.2.2;have aT:=U.1;have aU:=U.2.1;obtain⟨y3,y4,y5,J⟩:=Ji aU;have ac:=IS Q aq w2 S _ _ c1 Y (E.keep (al.trans ab) (by simp)) hM (by omega) (by omega) aS;have G2:=G.keeps ab;clear b I U hcut hR O T aj ak;go_wp2_with(first|(refine As rfl 80 _ rfl g0 rfl _ _ _ _ aT Ck rfl (Cq _ _ _ _ _ _ _) ?_)|(refine ED rfl 271 _ rfl g1 0 rfl _ _ J Tryz.underlying271 rfl Ln ?_));refine ac.mono ?_;rintro e w3⟨t,bi,rfl,D,aa,hk3⟩;obtain⟨p,q,B,tn,C,rfl⟩:=D.form;have G3:=G2.keeps hk3;obtain⟨i0,ay,az,aA,aB⟩:=A2 infoTree;have aC:=Tryz.underlying86;have aD:ts.length+1<=maxLen:=by unfold maxLen;omega
    have hH:(w3.alloc (.cells #[.int .u8 p,.int .i64 q,.slice B tn C] 88)).heap.size=w3.heap.size+1:=by simp
    have A:∀j u,[Value.int .u8 p,.int .i64 q,.slice B tn C][j]? =some u->(w3.alloc (.cells #[.int .u8 p,.int .i64 q,.slice B tn C] 88)).cell? ((⟨w3.heap.size,0,none⟩:Addr).add j)=some u:=Dq (cs:=#[.int .u8 p,.int .i64 q,.slice B tn C]) (AS w3 _);have hk4:AA [] w3 (w3.alloc (.cells #[.int .u8 p,.int .i64 q,.slice B tn C] 88)):=(AG [] w3).alloc _;have L:=(D.keep hk4 (by simp)).lone;have aE:∀z,(Value.slice va vn vc).ownBlock=some z->z<w2.heap.size:=fun z H=>(A3 G2.own z H).2
    have bj:X.heap.size<=w2.heap.size:=G2.keep.size;clear ac D aT aU y3 y4 y5 J;go_wp2_with(first|(at_builtin;refine CC _ rfl _ _ _ rfl 0 88 i0 _ 3 40 aC ay az aA aB rfl (by decide) (.slice va vn vc) ts.length cs rfl (G3.own.alloc _) ⟨w3.heap.size,0,none⟩ 1 1 [.int .u8 p,.int .i64 q,.slice B tn C] rfl rfl A (by intro u hu;simp at hu;rcases hu with rfl|rfl|rfl<;>rfl) (by omega) aD (by omega) (AY _) (w3.heap.size+1) hH ?_));intro g' cap w5 ad f ae bs;have G5:=GL.add (w0:=w2) (ms:=[t]) G3 L bj aE hk4 ad f (by rw[hH];exact ae);have bk:Hid (PL s Q mn mx i j Y (ts++[t])):=(HP.o.next HCJ.o HC.o (fun _=>aa)).2.2;clear ad f ae A hH L G3 G2 G;go_wp2_with fail;go_roundw
    case rel=>exact⟨Y,_,_,by go_num,G5,bk⟩
    case measure=>have:=HCJ.o;simp[intOf];omega
   ·have aR:c1=j:=by omega
    subst aR;have bD:¬(c1:Int)<(c1:Int):=by omega
    have bE:=HP.o;obtain⟨y3,y4,y5,J⟩:=Ji ak;have bF:(vn:Int)<=100:=by have:=HV.o;omega
    have bG:(mn:Int)<=5:=by omega
    have bu:=aw;by_cases ar:vn<mn
    ·obtain⟨v,T⟩:∃v:Nat,v=mn-vn:=⟨_,rfl⟩;have aV:(mn:Int)-(vn:Int)=(v:Int):=by omega
     have ab:(0:Int)<(v:Int):=by omega
     have V:Hid (v=mn-ts.length∧1<=v∧v<=5):=⟨by have:=HV.o;omega,by omega,by omega⟩;have aF:=HP.o.null (by have:=HV.o;omega);have ac:=IS Q aq wr S _ _ c1 c1 (E.keep al (by simp)) hM (AP _) hj aF;clear T ar;go_wp2_with(first|(refine As rfl 80 _ rfl g0 rfl _ _ _ _ aj Ck rfl (Cq _ _ _ _ _ _ _) ?_)|(refine ED rfl 271 _ rfl g1 0 rfl _ _ J Tryz.underlying271 rfl Ln ?_));refine ac.mono ?_;rintro e w3⟨t,bi,rfl,D,aa,hk3⟩;obtain⟨p,q,B,tn,C,rfl⟩:=D.form;have G3:=G.keeps hk3;have aW:=(hk3.block g2 (by omega) (by simp)).trans ax;have aG:(w3.alloc (.cells #[.int .u8 0,.int .i64 0,.slice none 0 0] 88)).heap[w3.heap.size]? =some (.cells #[.int .u8 0,.int .i64 0,.slice none 0 0] 88 (0,0)):=AS w3 _;have am:AA [] w3 ((w3.alloc (.cells #[.int .u8 0,.int .i64 0,.slice none 0 0] 88)).setRow w3.heap.size #[.int .u8 p,.int .i64 q,.slice B tn C]):=((AG [] w3).alloc _).setRow (AE (AP _)) _;have aH:((w3.alloc (.cells #[.int .u8 0,.int .i64 0,.slice none 0 0] 88)).setRow w3.heap.size #[.int .u8 p,.int .i64 q,.slice B tn C]).heap[w3.heap.size]? =some (.cells #[.int .u8 p,.int .i64 q,.slice B tn C] 88 (0,0)):=Aa _ _ _ _ _ _ aG;have G4:=G3.keeps am;have aX:=(am.block g2 (by have:=hk3.size;omega) (by simp)).trans aW;have L:=D.keep am (by simp);clear ac D aj ak y3 y4 y5 J aW G3;go_upto_region 11 with(first|(refine Ae rfl 88 _ _ rfl w3.heap.size #[.int .u8 p,.int .i64 q,.slice B tn C] rfl rfl _ _ aG (Bs _ _ _) rfl (Dj rfl rfl rfl) ?_;generalize(w3.alloc (.cells #[.int .u8 0,.int .i64 0,.slice none 0 0] 88)).setRow w3.heap.size #[.int .u8 p,.int .i64 q,.slice B tn C]=w4 at*))
     obtain⟨gt,aY⟩:=AQ w3.heap.size;rw[<-aY]at aH⊢;have bH:wr.heap.size<=w4.heap.size:=BG hk3.size am.size;clear aY aG;have af:AA [] w4 (w4.alloc (.cells #[.int .u8 p,.int .i64 q,.slice B tn C] 88)):=(AG [] w4).alloc _;have ag:(w4.alloc (.cells #[.int .u8 p,.int .i64 q,.slice B tn C] 88)).ownsRow 0 88 3 (.slice (some ⟨w4.heap.size,0,none⟩) 1 1) 1 [.int .u8 p,.int .i64 q,.slice B tn C]:=Ll rfl;have au:=L.keep af (by simp);have G5:=G4.keeps af;have aZ:=(af.block g2 (by omega) (by simp)).trans aX;have a1:=RO [.int .u8 p,.int .i64 q,.slice B tn C] v w4.heap.size 1 (w4.alloc (.cells #[.int .u8 p,.int .i64 q,.slice B tn C] 88)) rfl (by intro u hu;simp at hu;rcases hu with rfl|rfl|rfl<;>rfl) V.o.2.1 V.o.2.2 ag;clear ag L G4 aX;go_wp2_with(first|(refine As rfl 88 _ rfl gt rfl _ _ _ _ aH DO rfl (Bs _ _ _) ?_));generalize w4.alloc (.cells #[.int .u8 p,.int .i64 q,.slice B tn C] 88)=w5 at*;refine a1.mono ?_;rintro e w6⟨gR,rfl,aI,bI,an⟩;have G6:=G5.keeps an;have bm:=(an.block g2 (by have:=af.size;omega) (by simp)).trans aZ;have a2:=(au.keep an (by simp)).times v;obtain⟨i0,ay,az,aA,aB⟩:=A2 infoTree;have aC:=Tryz.underlying86;have aD:ts.length+v<=maxLen:=by unfold maxLen;have:=V.o;omega
     have a3:(List.replicate v [Value.int .u8 p,.int .i64 q,.slice B tn C]).flatten.length=v*3:=aI.1;have A:∀j u,(List.replicate v [Value.int .u8 p,.int .i64 q,.slice B tn C]).flatten[j]? =some u->w6.cell? ((⟨gR,0,none⟩:Addr).add j)=some u:=Fo aI rfl;have a4:∀u∈(List.replicate v [Value.int .u8 p,.int .i64 q,.slice B tn C]).flatten,u.oneCell'=true:=by
      intro u hu;rw[List.mem_flatten]at hu;obtain⟨l,hl,hu⟩:=hu;have:=List.eq_of_mem_replicate hl;subst this;simp at hu;rcases hu with rfl|rfl|rfl<;>rfl
     have hH:w6.heap.size=w6.heap.size:=rfl;have aE:∀z,(Value.slice va vn vc).ownBlock=some z->z<wr.heap.size:=fun z H=>(A3 G.own z H).2
     have bJ:=af.size;have bK:=an.size;have a5:(ts.length+v)*40<=140737488355328:=by have:=V.o;have:=HV.o;omega
     generalize bn:(List.replicate v [Value.int .u8 p,.int .i64 q,.slice B tn C]).flatten=bo at*;clear a1 au G5 aZ aH aI bn;go_wp2_with(first|(at_builtin;refine CC _ rfl _ _ _ rfl 0 88 i0 _ 3 40 aC ay az aA aB rfl (by decide) (.slice va vn vc) ts.length cs rfl G6.own ⟨gR,0,none⟩ v v bo rfl a3 A a4 V.o.2.1 aD a5 (AY _) w6.heap.size rfl ?_));intro g' cap w7 ah f ae bv;have G7:=GL.add (w0:=wr) (ms:=List.replicate v t) G6 a2 bf aE (AG [] w6) (by rw[List.length_replicate];exact ah) f ae;rw[List.length_replicate]at G7;have a6:w7.heap[g2]? =some (.cells #[.int .u8 0,.int .i64 0,.slice none 0 0] 88 (0,0)):=by
      have a7:g2∉(Value.slice va vn vc).ownBlock.toList:=by
       intro hm;rw[Ay]at hm;have:=G.fresh g2 hm;omega
      exact((De f).block g2 (by omega) a7).trans bm
     have aJ:Hid (TT s (.node (.rep mn mx Q)) i c1 (.trep (B0 (ts++List.replicate v t) .lnil))):=.rep mn mx Q i c1 _ (HP.o.owe aa v V.o.1);have P:AA [g2] w7 (w7.setRow g2 #[.int .u8 114,.int .i64 0,.slice (some ⟨g',0,none⟩) (ts.length+v) cap]):=(AG [g2] _).setRow (g:=g2) (by simp) _;clear A a4 ah f ae a3;go_wp2_with(first|(refine Ae rfl 88 _ _ rfl g2 #[.int .u8 114,.int .i64 0,.slice (some ⟨g',0,none⟩) (ts.length+v) cap] rfl rfl _ _ a6 (Bs _ _ _) rfl (Dj rfl rfl rfl) ?_));refine Ag (Au rfl _ _ g2 _ _ _ _ rfl (Aa _ _ _ _ _ _ a6) DO rfl (Bs _ _ _)) rfl ?_;refine⟨_,[.int .u8 114,.int .i64 0,.slice (some ⟨g',0,none⟩) (ts.length+v) cap],rfl,?_,aJ.o,(F.trans G7.keep).setRow (AE R) _⟩;refine .trep _ _ _ _ ((G7.row.keep P (by intro z H;simp;omega)).mono fun z H _=>by omega) (G7.own.keep P (by intro z H;have:=G7.fresh z H;simp;omega)) fun z H=>by have:=G7.fresh z H;omega
    ·have aV:(mn:Int)-(vn:Int)<=0:=by omega
     have bL:¬(0:Int)<(mn:Int)-(vn:Int):=by omega
     have aJ:Hid (TT s (.node (.rep mn mx Q)) i c1 (.trep (B0 ts .lnil))):=.rep mn mx Q i c1 _ (HP.o.done (by have:=HV.o;omega));have P:AA [g2] wr (wr.setRow g2 #[.int .u8 114,.int .i64 0,.slice va vn vc]):=(AG [g2] _).setRow (g:=g2) (by simp) _;clear ar;go_wp2_with(first|(refine Ae rfl 88 _ _ rfl g2 #[.int .u8 114,.int .i64 0,.slice va vn vc] rfl rfl _ _ ax (Bs _ _ _) rfl (Dj rfl rfl rfl) ?_));refine Ag (Au rfl _ _ g2 _ _ _ _ rfl (Aa _ _ _ _ _ _ ax) DO rfl (Bs _ _ _)) rfl ?_;refine⟨_,[.int .u8 114,.int .i64 0,.slice va vn vc],rfl,?_,aJ.o,(F.trans G.keep).setRow (AE R) _⟩;refine .trep _ _ _ _ ((G.row.keep P (by intro z H;simp;omega)).mono fun z H _=>by omega) (G.own.keep P (by intro z H;have:=G.fresh z H;simp;omega)) fun z H=>by have:=G.fresh z H;omega
