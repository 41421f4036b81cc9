/-
  DERIVED. The contract of the reference's 'set'. Conditions: the pattern is at most 60 bytes long, nothing was wrong so far, the set's cells are all false.
-/
import Derived.Test.YtnfojonmohijpaaGreatDoorJRG
import Derived.Deep.RegionHeld3
import Derived.Deep.RegionLaw
import Derived.Deep.AppendLies
import Derived.OwnWalk
import Derived.StillTactics
import Derived.Laws.Pointers
import Derived.KernelRfl
set_option linter.all false
set_option maxRecDepth 100000
set_option maxHeartbeats 8000000
namespace Go.Proofs.YtnfojonmohijpaaGreatDoor
open Go.RowKit
variable{w:World}
def Fi:=@World.frozen?_alloc_old
def Dq:=@World.news_of_block
def Az:=@List.mem_cons
def A2:=@info_parts
theorem J9{α β:Type}(p:PS)(r:R α)(g:α->β):p.after (r.map g)=p.after r:=by cases r<;>rfl
theorem RG{α β:Type}(p:PS)(r:R α)(g:α->β):p.after (r.bind fun a j=> .ok (g a) j)=p.after r:=by cases r<;>rfl
theorem M4{h m:Nat}{f:Nat->Bool}(H:HB w h (fun n=>if n<m then !f n else f n)):HB (w.setCell ⟨h,m,none⟩ (.bool (!f m))) h (fun n=>if n<m+1 then !f n else f n):=by
 refine(H.set m (!f m)).congr ?_;intro n _;by_cases e:n=m
 ·subst e;simp
 ·have:(n<m+1)=(n<m):=by simp;omega
  simp[e,this]
theorem I9(f:Nat->Bool)(a:Nat):∀n,n<256->f n=(f n||(decide (a<=n)&&decide (n<a))):=by
 intro n _;have:(decide (a<=n)&&decide (n<a))=false:=by simp
 rw[this];simp
theorem JA{h m a:Nat}{f:Nat->Bool}(H:HB w h (fun n=>f n||(decide (a<=n)&&decide (n<m))))(b:a<=m):HB (w.setCell ⟨h,m,none⟩ (.bool true)) h (fun n=>f n||(decide (a<=n)&&decide (n<m+1))):=by
 refine(H.set m true).congr ?_;intro n _;by_cases e:n=m
 ·subst e;simp[b]
 ·have:decide (n<m+1)=decide (n<m):=by simp;omega
  simp[e,this]
theorem M5{m a c k:Nat}{f:Nat->Bool}(p:a<=m)(hm:m<=c+1∨m=a)(q:c<m):∀r j,(R.ok (A0 a c) k:R (Nat->Bool))=.ok r j->∀n,n<256->(f n||(decide (a<=n)&&decide (n<m)))=(f n||r n):=by
 intro r j e n _;cases e;congr 1;unfold A0;have g:decide (a<=n)=decide ((a:Int)<=(n:Int)):=by simp
 by_cases h:m<=c+1
 ·have i:decide (n<m)=decide ((n:Int)<=(c:Int)):=by simp;omega
  rw[g,i]
 ·have b:m=a:=by omega
  subst b;by_cases l:m<=n
  ·have d:¬n<m:=by omega
   have o:¬(n:Int)<=(c:Int):=by omega
   simp[d,o]
  ·have d:¬(m:Int)<=(n:Int):=by omega
   simp[l,d]
theorem H9{v:Int}(b:0<=v)(c:v<=255):∃a:Nat,v=a∧a<=255:=⟨v.toNat,by omega,by omega⟩
theorem RH(b h:Nat)(p:PS)(w:World)(hp:PB w b p)(hh:HB w h (fun _=>false))(hb:p.bad<0)(O:p.s.size<=60)(aA:p.ix<=p.s.size)(aB:¬b=h):Calls Tryz.prog 262 #[.pointer (some ⟨b,0,none⟩),.slice (some ⟨h,0,none⟩) 256 256] w fun e w'=>e=.returned (.tuple #[])∧∃q,E9 p.s p.ix q∧PB w' b (p.after q)∧(∃f',HB w' h f'∧∀f j,q=.ok f j->∀n,n<256->f' n=f n)∧AA [b,h] w w':=by
 obtain⟨nt,j0,hd,y,aC,W⟩:∃(nt:Bool)(j0:Nat),decide (p.cur=94)=nt∧p.took 94={p with ix:=j0}∧j0<=p.s.size∧(∀q',DH p.s j0 q'->E9 p.s p.ix (q'.map (fun f n=>f n !=nt))):=by
  by_cases ae:at' p.s p.ix=94
  ·have hc:p.cur=94:=by simp[PS.cur,hb,ae]
   refine⟨true,p.ix+1,by simp[hc],by simp[PS.took,hc],Ap (by omega),fun q' hq=>AH ⟨ae,q',hq,?_⟩⟩;congr 1;funext f n;simp
  ·have hc:¬p.cur=94:=by simp[PS.cur,hb,ae]
   refine⟨false,p.ix,by simp[hc],by simp[PS.took,hc],aA,fun q' hq=>AE ⟨ae,?_⟩⟩;cases q' with
   |ok f j=>simpa[R.map]using hq
   |bad j=>exact hq
 go_enter Tryz.func262,Tryz.ntmps262;go_wp2_with(first|(go_at_call 81;refine(Cd b p 94 _ hp (by omega) O).mono ?_;rintro e w1⟨rfl,an,ao⟩;rw[y]at an));have au:HB w1 h (fun _=>false):=hh.keep ao (by simp;omega);have aw:AA [b,h] w w1:=ao.mono (by simp);clear hp hh ao y;go_loopw [5] (fun v wr=>∃fst:Bool,v=.bool fst∧Da p b h j0 w fst wr) (fun _ wr=>D3 wr b)
 case atStart=>exact⟨true,rfl,aw,AH ⟨j0,fun _=>false,an,au,aC,AH ⟨rfl,rfl,rfl⟩⟩⟩
 case round=>
  clear an au aw;obtain⟨fst,rfl,hk3,ap⟩:=hrel;rcases ap with⟨i,f,g,J,hi,hin⟩|⟨j,f,g,J,hU⟩
  ·obtain⟨c0,h6,h7,f6,f7⟩:=g.main;have x:PS.cur {p with ix:=i}=at' p.s i:=by simp[PS.cur,hb]
   by_cases B:at' p.s i=93∧fst=false
   ·obtain⟨B,rfl⟩:=B;have hlt:=Ap (s:=p.s) (i:=i) (by omega);have al:decide (PS.cur {p with ix:=i}=93)=true:=by rw[x];simpa using B
    have aK:(0:Int)<=(i:Int):=by omega
    have aL:(i:Int)<=60:=by omega
    have HU:Hid (DH p.s j0 (.ok f (i+1))):=by
     rcases hin with⟨e,_⟩|⟨_,e⟩
     ·cases e
     ·exact e _ (.done f i B)
    clear hin x B;go_wp2_with(first|(go_at_call 134;refine(D2 b _ 93 _ g (by omega)).mono ?_;rintro e w'⟨rfl,D,rfl⟩));cases nt
    ·go_wp2_with fail
     go_loop [12] (fun q=>q=.int .i64 0) (fun _=>0)
     case atStart=>rfl
     case round=>
      subst hrel;go_wp2_with fail;go_end0;exact⟨rfl,_,W (.ok f (i+1)) HU.o,by rw[J9];exact((g.drewN D).setIx (i+1)),⟨f,((J.drewN D).setOther (a:=⟨b,7,none⟩) (by simp;omega) _),by intro f' j' e n hn;cases e;simp⟩,((hk3.drewN D).setCell (p:=⟨b,7,none⟩) (by simp) _)⟩
    ·go_wp2_with fail;go_loopw [12] (fun q wq=>∃m:Nat,m<=256∧q=.int .i64 m∧PB wq b {p with ix:=i+1}∧HB wq h (fun n=>if n<m then !f n else f n)∧AA [b,h] w wq) (fun q _=>256-(intOf q).toNat)
     case atStart=>exact⟨0,by omega,rfl,((g.drewN D).setIx (i+1)),((J.drewN D).setOther (a:=⟨b,7,none⟩) (by simp;omega) _).congr (by simp),((hk3.drewN D).setCell (p:=⟨b,7,none⟩) (by simp) _)⟩
     case round=>
      obtain⟨m,hm,rfl,l,d,t⟩:=hrel;by_cases K:m<256
      ·have aD:wr.cell? ⟨h,m,none⟩=some (.bool (f m)):=by rw[d.cell K];simp
       have X:=d.frozen m;have Y:(m:Int)<256:=by omega
       have Z:(0:Int)<=(m:Int):=by omega
       have HX:Hid (HB (wr.setCell ⟨h,m,none⟩ (.bool (!f m))) h (fun n=>if n<m+1 then !f n else f n)):=M4 d;go_wp2_with fail;go_roundw
       case rel=>exact⟨m+1,by omega,by go_num,l.setOther (by simp;omega) _,HX.o,t.setCell (by simp) _⟩
       case measure=>simp[intOf];omega
      ·have e:m=256:=by omega
       subst e;go_wp2_with fail;go_end0;exact⟨rfl,_,W (.ok f (i+1)) HU.o,by rw[J9];exact l,⟨_,d,by intro f' j' e n hn;cases e;simp[hn]⟩,t⟩
   ·have af:fst=true∨at' p.s i≠93:=by
     cases fst
     ·right;intro e;exact B ⟨e,rfl⟩
     ·left;rfl
    have aa:Hid (fst=true∨at' p.s i≠93):=af;clear B;by_cases B:at' p.s i=93
    ·have aE:fst=true:=by
      rcases af with h|h
      ·exact h
      ·exact absurd B h
     subst aE;clear af;have al:decide (PS.cur {p with ix:=i}=93)=true:=by rw[x];simpa using B
     have z:¬at' p.s i=91:=by omega
     have am:decide (PS.cur {p with ix:=i}=91)=false:=by rw[x];simpa using z
     have S:Ar p.s 0 i=.bad i:=by
      unfold Ar;rw[AK (by omega),AL (by omega)]
     clear x B;obtain⟨j,hj⟩:∃j,j=i:=⟨i,rfl⟩;rw[<-hj]at S
     replace S:Ar p.s 0 i=.bad j:=by rw[<-hj]at*;exact S
     clear hj;have I:Hid (Am p.s i=.bad j):=by
      show Am p.s i=_;unfold Am;rw[AK z,S];rfl
     have H1:Hid (Ar p.s 0 i=.bad j):=S;clear S z;go_wp2_with(first|(go_at_call 282;refine(I1 b {p with ix:=i} _ 0 (by exact g) hb O (by omega) (by omega)).mono ?_;rintro e w4⟨v,rfl,⟨ab,ac,M⟩,u,hk4⟩)|(go_at_call 134;refine(D2 b _ 91 _ (g.drewN D) (by omega)).mono ?_;rintro e w'⟨rfl,T,rfl⟩)|(go_at_call 134;refine(D2 b _ 93 _ g (by omega)).mono ?_;rintro e w'⟨rfl,D,rfl⟩));obtain⟨A,rfl,hA⟩:=H9 ab ac;rw[I0 (show Ar _ 0 _=_ from H1.o)]at u;clear M;have y:PS.took {p with bad:=(j:Int),ix:=j} 45={p with bad:=(j:Int),ix:=j}:=by simp[PS.took,PS.cur];omega
     have G:decide (PS.cur {p with bad:=(j:Int),ix:=j}=45)=false:=by simp[PS.cur];omega
     have U:HB w4 h f:=(J.drewN (D+T)).keep hk4 (by simp;omega);have E:AA [b,h] w w4:=(hk3.drewN (D+T)).trans (hk4.mono (by simp));go_wp2_with(first|(go_at_call 81;refine(Cd b _ 45 _ u (by omega) O).mono ?_;rintro e w5⟨rfl,F,L⟩;rw[y]at F));have aq:HB w5 h f:=U.keep L (by simp;omega);have P:AA [b,h] w w5:=E.trans (L.mono (by simp));clear u hk4 U E L y G;go_loopw [11] (fun q wq=>∃m:Nat,A<=m∧m<=256∧(m<=A+1∨m=A)∧q=.int .i64 m∧PB wq b {p with bad:=(j:Int),ix:=j}∧HB wq h (fun n=>f n||(decide (A<=n)&&decide (n<m)))∧AA [b,h] w wq) (fun q _=>256-(intOf q).toNat)
     case atStart=>exact⟨A,by omega,by omega,AE rfl,rfl,F,aq.congr (I9 _ _),P⟩
     case round=>
      obtain⟨m,H,ag,K,rfl,l,d,t⟩:=hrel;by_cases ah:m<=A
      ·have hex:=d.cell (k:=m) (by omega);have X:=d.frozen m;have Y:(m:Int)<256:=by omega
       have Z:(0:Int)<=(m:Int):=by omega
       have N:(m:Int)<=(A:Int):=by omega
       have HX:Hid (HB (wr.setCell ⟨h,m,none⟩ (.bool true)) h (fun n=>f n||(decide (A<=n)&&decide (n<m+1)))):=JA d H;go_wp2_with fail;go_roundw
       case rel=>exact⟨m+1,by omega,by omega,by omega,by go_num,l.setOther (by simp;omega) _,HX.o,t.setCell (by simp) _⟩
       case measure=>simp[intOf];omega
      ·have N:¬(m:Int)<=(A:Int):=by omega
       go_wp2_with fail;go_roundw
       case rel=>exact⟨false,rfl,Da.next hin (AH rfl) (by rw[I.o];exact l) ⟨_,d,by rw[I.o];intro r j' e;cases e⟩ t⟩
       case measure=>exact Da.mu (h:=h) (f:=f) g hb O hi (by rw[I.o];exact l)
    ·have al:decide (PS.cur {p with ix:=i}=93)=false:=by rw[x];simpa using B
     clear B af;by_cases z:at' p.s i=91
     ·have am:decide (PS.cur {p with ix:=i}=91)=true:=by rw[x];simpa using z
      have hlt:=Ap (s:=p.s) (i:=i) (by omega);have I:Hid (Am p.s i=(CQ p.s i).bind fun k j=> .ok (fun n:Nat=>BC k n) j):=by
       show Am p.s i=_;unfold Am;rw[AL z]
      clear z x;go_wp2_with(first|(go_at_call 281;refine(RF b h {p with ix:=i} f _ (by exact g) (by exact J) hb O hlt aB).mono ?_;rintro e w4⟨rfl,u,U,hk4⟩)|(go_at_call 134;refine(D2 b _ 91 _ (g.drewN D) (by omega)).mono ?_;rintro e w'⟨rfl,T,rfl⟩)|(go_at_call 134;refine(D2 b _ 93 _ g (by omega)).mono ?_;rintro e w'⟨rfl,D,rfl⟩));have E:AA [b,h] w w4:=(hk3.drewN (D+T)).trans hk4;have ax:PB w4 b (({p with ix:=i}:PS).after (Am p.s i)):=by rw[I.o,RG];exact u
      go_roundw
      case rel=>
       refine⟨false,rfl,Da.next hin aa.o ax ?_ E⟩;obtain⟨f',hf,aF⟩:=U;refine⟨f',hf,?_⟩;intro r j e n hn;rw[I.o]at e;cases hc:CQ p.s i with
       |ok k j'=>rw[hc]at e;cases e;exact aF k _ hc n hn
       |bad j'=>rw[hc]at e;cases e
      case measure=>exact Da.mu (h:=h) (f:=f) g hb O hi ax
     ·have am:decide (PS.cur {p with ix:=i}=91)=false:=by rw[x];simpa using z
      clear x;cases S:Ar p.s 0 i with
      |bad j=>
       have I:Hid (Am p.s i=.bad j):=by
        show Am p.s i=_;unfold Am;rw[AK z,S];rfl
       have H1:Hid (Ar p.s 0 i=.bad j):=S;clear S z;go_wp2_with(first|(go_at_call 282;refine(I1 b {p with ix:=i} _ 0 (by exact g) hb O (by omega) (by omega)).mono ?_;rintro e w4⟨v,rfl,⟨ab,ac,M⟩,u,hk4⟩)|(go_at_call 134;refine(D2 b _ 91 _ (g.drewN D) (by omega)).mono ?_;rintro e w'⟨rfl,T,rfl⟩)|(go_at_call 134;refine(D2 b _ 93 _ g (by omega)).mono ?_;rintro e w'⟨rfl,D,rfl⟩));obtain⟨A,rfl,hA⟩:=H9 ab ac;rw[I0 (show Ar _ 0 _=_ from H1.o)]at u;clear M;have y:PS.took {p with bad:=(j:Int),ix:=j} 45={p with bad:=(j:Int),ix:=j}:=by simp[PS.took,PS.cur];omega
       have G:decide (PS.cur {p with bad:=(j:Int),ix:=j}=45)=false:=by simp[PS.cur];omega
       have U:HB w4 h f:=(J.drewN (D+T)).keep hk4 (by simp;omega);have E:AA [b,h] w w4:=(hk3.drewN (D+T)).trans (hk4.mono (by simp));go_wp2_with(first|(go_at_call 81;refine(Cd b _ 45 _ u (by omega) O).mono ?_;rintro e w5⟨rfl,F,L⟩;rw[y]at F));have aq:HB w5 h f:=U.keep L (by simp;omega);have P:AA [b,h] w w5:=E.trans (L.mono (by simp));clear u hk4 U E L y G;go_loopw [11] (fun q wq=>∃m:Nat,A<=m∧m<=256∧(m<=A+1∨m=A)∧q=.int .i64 m∧PB wq b {p with bad:=(j:Int),ix:=j}∧HB wq h (fun n=>f n||(decide (A<=n)&&decide (n<m)))∧AA [b,h] w wq) (fun q _=>256-(intOf q).toNat)
       case atStart=>exact⟨A,by omega,by omega,AE rfl,rfl,F,aq.congr (I9 _ _),P⟩
       case round=>
        obtain⟨m,H,ag,K,rfl,l,d,t⟩:=hrel;by_cases ah:m<=A
        ·have hex:=d.cell (k:=m) (by omega);have X:=d.frozen m;have Y:(m:Int)<256:=by omega
         have Z:(0:Int)<=(m:Int):=by omega
         have N:(m:Int)<=(A:Int):=by omega
         have HX:Hid (HB (wr.setCell ⟨h,m,none⟩ (.bool true)) h (fun n=>f n||(decide (A<=n)&&decide (n<m+1)))):=JA d H;go_wp2_with fail;go_roundw
         case rel=>exact⟨m+1,by omega,by omega,by omega,by go_num,l.setOther (by simp;omega) _,HX.o,t.setCell (by simp) _⟩
         case measure=>simp[intOf];omega
        ·have N:¬(m:Int)<=(A:Int):=by omega
         go_wp2_with fail;go_roundw
         case rel=>exact⟨false,rfl,Da.next hin aa.o (by rw[I.o];exact l) ⟨_,d,by rw[I.o];intro r j' e;cases e⟩ t⟩
         case measure=>exact Da.mu (h:=h) (f:=f) g hb O hi (by rw[I.o];exact l)
      |ok a j=>
       obtain⟨aJ,aM,aG,aH⟩:=Ix S;have H1:Hid (Ar p.s 0 i=.ok a j):=S;obtain⟨A,rfl,hA⟩:=H9 aG aH;by_cases Q:at' p.s j=45
       ·have y:PS.took {p with ix:=j} 45={p with ix:=j+1}:=by simp[PS.took,PS.cur,hb,Q]
        have G:decide (PS.cur {p with ix:=j}=45)=true:=by simp[PS.cur,hb,Q]
        have aN:=Ap (s:=p.s) (i:=j) (by omega);have ai:Hid (Am p.s i=(Ar p.s A (j+1)).bind fun c k=> .ok (A0 A c) k):=by
         show Am p.s i=_;unfold Am;rw[AK z,S];simp only[R.bind];rw[AL Q]
        clear S z Q;go_wp2_with(first|(go_at_call 282;refine(I1 b _ _ A F hb O (by omega) (by omega)).mono ?_;rintro e w6⟨v6,rfl,⟨ay,az,ad⟩,aj,L⟩)|(go_at_call 81;refine(Cd b _ 45 _ u (by omega) O).mono ?_;rintro e w5⟨rfl,F,E⟩;rw[y]at F)|(go_at_call 282;refine(I1 b {p with ix:=i} _ 0 (by exact g) hb O (by omega) (by omega)).mono ?_;rintro e w4⟨v,rfl,⟨ab,ac,M⟩,u,hk4⟩;rw[Iz (show Ar _ 0 _=_ from H1.o)]at u;have ar:=M _ _ H1.o;subst ar;clear M)|(go_at_call 134;refine(D2 b _ 91 _ (g.drewN D) (by omega)).mono ?_;rintro e w'⟨rfl,T,rfl⟩)|(go_at_call 134;refine(D2 b _ 93 _ g (by omega)).mono ?_;rintro e w'⟨rfl,D,rfl⟩));have V:AA [b] (wr.drewN (D+T)) w6:=(hk4.trans E).trans L;have ak:HB w6 h f:=(J.drewN (D+T)).keep V (by simp;omega);have P:AA [b,h] w w6:=(hk3.drewN (D+T)).trans (V.mono (by simp));clear u hk4 F E L V y G;obtain⟨C,rfl,hC⟩:=H9 ay az;cases r2:Ar p.s A (j+1)with
        |bad k=>
         have I:Hid (Am p.s i=.bad k):=by show Am p.s i=_;rw[ai.o,r2];rfl
         rw[I0 (show Ar _ _ _=_ from r2)]at aj;clear r2 ai ad;go_loopw [11] (fun q wq=>∃m:Nat,A<=m∧m<=256∧(m<=C+1∨m=A)∧q=.int .i64 m∧PB wq b {p with bad:=(k:Int),ix:=k}∧HB wq h (fun n=>f n||(decide (A<=n)&&decide (n<m)))∧AA [b,h] w wq) (fun q _=>256-(intOf q).toNat)
         case atStart=>exact⟨A,by omega,by omega,AE rfl,rfl,aj,ak.congr (I9 _ _),P⟩
         case round=>
          obtain⟨m,H,ag,K,rfl,l,d,t⟩:=hrel;by_cases ah:m<=C
          ·have hex:=d.cell (k:=m) (by omega);have X:=d.frozen m;have Y:(m:Int)<256:=by omega
           have Z:(0:Int)<=(m:Int):=by omega
           have N:(m:Int)<=(C:Int):=by omega
           have HX:Hid (HB (wr.setCell ⟨h,m,none⟩ (.bool true)) h (fun n=>f n||(decide (A<=n)&&decide (n<m+1)))):=JA d H;go_wp2_with fail;go_roundw
           case rel=>exact⟨m+1,by omega,by omega,by omega,by go_num,l.setOther (by simp;omega) _,HX.o,t.setCell (by simp) _⟩
           case measure=>simp[intOf];omega
          ·have N:¬(m:Int)<=(C:Int):=by omega
           go_wp2_with fail;go_roundw
           case rel=>exact⟨false,rfl,Da.next hin aa.o (by rw[I.o];exact l) ⟨_,d,by rw[I.o];intro r j' e;cases e⟩ t⟩
           case measure=>exact Da.mu (h:=h) (f:=f) g hb O hi (by rw[I.o];exact l)
        |ok c k=>
         have aI:(C:Int)=c:=ad _ _ r2;subst aI;have I:Hid (Am p.s i=.ok (A0 A C) k):=by show Am p.s i=_;rw[ai.o,r2];rfl
         rw[Iz (show Ar _ _ _=_ from r2)]at aj;clear r2 ai ad;go_loopw [11] (fun q wq=>∃m:Nat,A<=m∧m<=256∧(m<=C+1∨m=A)∧q=.int .i64 m∧PB wq b {p with ix:=k}∧HB wq h (fun n=>f n||(decide (A<=n)&&decide (n<m)))∧AA [b,h] w wq) (fun q _=>256-(intOf q).toNat)
         case atStart=>exact⟨A,by omega,by omega,AE rfl,rfl,aj,ak.congr (I9 _ _),P⟩
         case round=>
          obtain⟨m,H,ag,K,rfl,l,d,t⟩:=hrel;by_cases ah:m<=C
          ·have hex:=d.cell (k:=m) (by omega);have X:=d.frozen m;have Y:(m:Int)<256:=by omega
           have Z:(0:Int)<=(m:Int):=by omega
           have N:(m:Int)<=(C:Int):=by omega
           have HX:Hid (HB (wr.setCell ⟨h,m,none⟩ (.bool true)) h (fun n=>f n||(decide (A<=n)&&decide (n<m+1)))):=JA d H;go_wp2_with fail;go_roundw
           case rel=>exact⟨m+1,by omega,by omega,by omega,by go_num,l.setOther (by simp;omega) _,HX.o,t.setCell (by simp) _⟩
           case measure=>simp[intOf];omega
          ·have N:¬(m:Int)<=(C:Int):=by omega
           go_wp2_with fail;go_roundw
           case rel=>exact⟨false,rfl,Da.next hin aa.o (by rw[I.o];exact l) ⟨_,d,by rw[I.o];exact M5 H K (by omega)⟩ t⟩
           case measure=>exact Da.mu (h:=h) (f:=f) g hb O hi (by rw[I.o];exact l)
       ·have y:PS.took {p with ix:=j} 45={p with ix:=j}:=by simp[PS.took,PS.cur,hb,Q]
        have G:decide (PS.cur {p with ix:=j}=45)=false:=by simp[PS.cur,hb,Q]
        have I:Hid (Am p.s i=.ok (A0 A A) j):=by
         show Am p.s i=_;unfold Am;rw[AK z,S];simp only[R.bind];rw[AK Q]
        clear S z Q;go_wp2_with(first|(go_at_call 81;refine(Cd b _ 45 _ u (by omega) O).mono ?_;rintro e w5⟨rfl,F,E⟩;rw[y]at F)|(go_at_call 282;refine(I1 b {p with ix:=i} _ 0 (by exact g) hb O (by omega) (by omega)).mono ?_;rintro e w4⟨v,rfl,⟨ab,ac,M⟩,u,hk4⟩;rw[Iz (show Ar _ 0 _=_ from H1.o)]at u;have ar:=M _ _ H1.o;subst ar;clear M)|(go_at_call 134;refine(D2 b _ 91 _ (g.drewN D) (by omega)).mono ?_;rintro e w'⟨rfl,T,rfl⟩)|(go_at_call 134;refine(D2 b _ 93 _ g (by omega)).mono ?_;rintro e w'⟨rfl,D,rfl⟩));have V:AA [b] (wr.drewN (D+T)) w5:=hk4.trans E;have ak:HB w5 h f:=(J.drewN (D+T)).keep V (by simp;omega);have P:AA [b,h] w w5:=(hk3.drewN (D+T)).trans (V.mono (by simp));clear u hk4 E V y G;go_loopw [11] (fun q wq=>∃m:Nat,A<=m∧m<=256∧(m<=A+1∨m=A)∧q=.int .i64 m∧PB wq b {p with ix:=j}∧HB wq h (fun n=>f n||(decide (A<=n)&&decide (n<m)))∧AA [b,h] w wq) (fun q _=>256-(intOf q).toNat)
        case atStart=>exact⟨A,by omega,by omega,AE rfl,rfl,F,ak.congr (I9 _ _),P⟩
        case round=>
         obtain⟨m,H,ag,K,rfl,l,d,t⟩:=hrel;by_cases ah:m<=A
         ·have hex:=d.cell (k:=m) (by omega);have X:=d.frozen m;have Y:(m:Int)<256:=by omega
          have Z:(0:Int)<=(m:Int):=by omega
          have N:(m:Int)<=(A:Int):=by omega
          have HX:Hid (HB (wr.setCell ⟨h,m,none⟩ (.bool true)) h (fun n=>f n||(decide (A<=n)&&decide (n<m+1)))):=JA d H;go_wp2_with fail;go_roundw
          case rel=>exact⟨m+1,by omega,by omega,by omega,by go_num,l.setOther (by simp;omega) _,HX.o,t.setCell (by simp) _⟩
          case measure=>simp[intOf];omega
         ·have N:¬(m:Int)<=(A:Int):=by omega
          go_wp2_with fail;go_roundw
          case rel=>exact⟨false,rfl,Da.next hin aa.o (by rw[I.o];exact l) ⟨_,d,by rw[I.o];exact M5 H K (by omega)⟩ t⟩
          case measure=>exact Da.mu (h:=h) (f:=f) g hb O hi (by rw[I.o];exact l)
  ·obtain⟨c0,h6,h7,f6,f7⟩:=g.main;have aO:¬(j:Int)<0:=by omega
   have HU:Hid (DH p.s j0 (.bad j)):=hU;clear hU;cases nt
   ·go_wp2_with fail
    go_loop [12] (fun q=>q=.int .i64 0) (fun _=>0)
    case atStart=>rfl
    case round=>
     subst hrel;go_wp2_with fail;go_end0;exact⟨rfl,_,W (.bad j) HU.o,by rw[J9];exact g,⟨f,J,by intro f' j' e;cases e⟩,hk3⟩
   ·go_wp2_with fail;go_loopw [12] (fun q wq=>∃m:Nat,m<=256∧q=.int .i64 m∧PB wq b {p with bad:=(j:Int),ix:=j}∧HB wq h (fun n=>if n<m then !f n else f n)∧AA [b,h] w wq) (fun q _=>256-(intOf q).toNat)
    case atStart=>exact⟨0,by omega,rfl,g,J.congr (by simp),hk3⟩
    case round=>
     obtain⟨m,hm,rfl,l,d,t⟩:=hrel;by_cases K:m<256
     ·have aD:wr.cell? ⟨h,m,none⟩=some (.bool (f m)):=by rw[d.cell K];simp
      have X:=d.frozen m;have Y:(m:Int)<256:=by omega
      have Z:(0:Int)<=(m:Int):=by omega
      have HX:Hid (HB (wr.setCell ⟨h,m,none⟩ (.bool (!f m))) h (fun n=>if n<m+1 then !f n else f n)):=M4 d;go_wp2_with fail;go_roundw
      case rel=>exact⟨m+1,by omega,by go_num,l.setOther (by simp;omega) _,HX.o,t.setCell (by simp) _⟩
      case measure=>simp[intOf];omega
     ·have e:m=256:=by omega
      subst e;go_wp2_with fail;go_end0;exact⟨rfl,_,W (.bad j) HU.o,by rw[J9];exact l,⟨_,d,by intro f' j' e;cases e⟩,t⟩
def Cy(p:PS)(q:R Nat)(p':PS):Prop:=p'=p.after q∨(q=.bad p.s.size∧p'={p with ix:=p.s.size})
theorem M6{w':World}{b i j:Nat}{p:PS}(d:PB w b {p with ix:=i})(a:PB w' b {p with ix:=j})(hb:p.bad<0)(e:i<j)(hi:i<=60):D3 w' b<D3 w b:=by
 rw[GP d,GP a];have c:¬0<=p.bad:=by omega
 simp[c];omega
theorem CL(b:Nat)(p:PS)(w:World)(a:PB w b p):Calls Tryz.prog 83 #[.pointer (some ⟨b,0,none⟩)] w fun e w'=>e=.returned (.bool (Bv p))∧PB w' b p∧AA [] w w':=by
 refine(CH b p w a).mono ?_;rintro e w'⟨rfl,n,rfl⟩;exact⟨rfl,a.drewN n,(AG _ _).drewN n⟩
theorem RL(b:Nat)(p:PS)(c:Int)(w:World)(a:PB w b p)(d:0<=c):Calls Tryz.prog 134 #[.pointer (some ⟨b,0,none⟩),.int .u8 c] w fun e w'=>e=.returned (.bool (decide (p.cur=c)))∧PB w' b p∧AA [] w w':=by
 refine(D2 b p c w a d).mono ?_;rintro e w'⟨rfl,n,rfl⟩;exact⟨rfl,a.drewN n,(AG _ _).drewN n⟩
theorem M7(c:Int)(v:Bool)(h:At c=v)(w:World):Calls Tryz.prog 162 #[.int .u8 c] w fun e w'=>e=.returned (.bool v)∧w'=w:=by
 subst h;exact DX c w
theorem M8(b:Nat)(p:PS)(least:Nat)(w:World)(S:PB w b p)(hb:p.bad<0)(hs:p.s.size<=60)(K:p.ix<=p.s.size)(Z:least<=5):Calls Tryz.prog 226 #[.pointer (some ⟨b,0,none⟩),.int .i64 least] w fun e w'=>∃(q:R Nat)(v:Nat)(p':PS),e=.returned (.int .i64 v)∧BO p.s least 0 false p.ix q∧v<=5∧(∀m j,q=.ok m j->v=m)∧Cy p q p'∧PB w' b p'∧AA [b] w w':=by
 go_enter Tryz.func226,Tryz.ntmps226;go_wp2_with fail;go_loopw [5,6] (fun u v wr=>∃(n:Nat)(any:Bool)(i:Nat),u=.int .i64 n∧v=.bool any∧n<=5∧i<=p.s.size∧PB wr b {p with ix:=i}∧Hid (∀q,BO p.s least n any i q->BO p.s least 0 false p.ix q)∧AA [b] w wr) (fun _ _ wr=>D3 wr b)
 case atStart=>exact⟨0,false,p.ix,rfl,rfl,by omega,K,S,fun q B=>B,AG _ _⟩
 case round=>
  clear S;obtain⟨n,any,i,rfl,rfl,l,hi,f,hinv,hk3⟩:=hrel;have T:(n:Int)<=5:=by omega
  have U:(0:Int)<=(n:Int):=by omega
  have V:(least:Int)<=5:=by omega
  have W:(0:Int)<=(least:Int):=by omega
  cases hm:Bv {p with ix:=i}
  ·have C:p.s.size<=i:=Iy hm hb;have D:i=p.s.size:=by omega
   have r:Hid (At (at' p.s i)=false):=by show At (at' p.s i)=false;rw[Cu C];decide
   have X:Hid (i=p.s.size):=D;clear C D;cases any
   ·go_wp2_with(first|(go_at_call 84;refine(CI b {p with ix:=i} _ d hb).mono ?_;rintro e w3⟨rfl,rfl⟩)|(go_at_call 83;refine(CL b _ _ a).mono ?_;rintro e w2⟨rfl,d,g⟩)|(go_at_call 83;refine(CL b _ _ f).mono ?_;rintro e w1⟨rfl,a,hk4⟩;obtain⟨t,y,z,f6,f7⟩:=a.main));go_ret;exact⟨.bad i,n,_,rfl,hinv.out _ (.short n false i r.o (AH rfl)),l,by simp,AH rfl,d.setBad _,((hk3.trans (hk4.mono (by simp))).trans (g.mono (by simp))).setCell (by simp) _⟩
   ·go_wp2_with(first|(go_at_call 83;refine(CL b _ _ a).mono ?_;rintro e w2⟨rfl,d,g⟩)|(go_at_call 83;refine(CL b _ _ f).mono ?_;rintro e w1⟨rfl,a,hk4⟩;obtain⟨t,y,z,f6,f7⟩:=a.main));go_ret;by_cases hle:least<=n
    ·exact⟨.ok n i,n,_,rfl,hinv.out _ (.done n i r.o hle),l,by intro m j e;cases e;rfl,AH rfl,d,((hk3.trans (hk4.mono (by simp))).trans (g.mono (by simp)))⟩
    ·exact⟨.bad i,n,_,rfl,hinv.out _ (.short n true i r.o (AE (by omega))),l,by simp,AE ⟨by rw[X.o],by rw[<-X.o]⟩,d,((hk3.trans (hk4.mono (by simp))).trans (g.mono (by simp)))⟩
  ·have hlt:i<p.s.size:=(PS.cur_more hm).1;have Y:=Bd hlt;have aa:(i:Int)<(p.s.size:Int):=by omega
   have ab:(0:Int)<=(i:Int):=by omega
   have ac:(i:Int)<=60:=by omega
   have L:=(p.s[i]).toNat_lt;have ad:(0:Int)<=(p.s[i].toNat:Int):=by omega
   have ae:(p.s[i].toNat:Int)<=255:=by omega
   clear L;generalize af:(p.s[i].toNat:Int)=c at*;have M:Hid (at' p.s i=c):=Y;clear Y;cases k:At c
   ·have r:Hid (At (at' p.s i)=false):=by show At (at' p.s i)=false;rw[M.out];exact k
    have A:=M7 c false k;clear k;cases any
    ·go_wp2_with(first|(go_at_call 83;refine(CL b _ _ f).mono ?_;rintro e w1⟨rfl,a,hk4⟩;obtain⟨t,y,z,f6,f7⟩:=a.main));go_quiet ((go_at_call 162;exact CJ (A _)))
     replace a:=a.drewN nq
     replace hk4:=hk4.drewN nq
     go_wp2_with(first|(go_at_call 84;refine(CI b {p with ix:=i} _ d hb).mono ?_;rintro e w3⟨rfl,rfl⟩)|(go_at_call 83;refine(CL b _ _ a).mono ?_;rintro e w2⟨rfl,d,g⟩));go_ret;exact⟨.bad i,n,_,rfl,hinv.out _ (.short n false i r.o (AH rfl)),l,by simp,AH rfl,d.setBad _,((hk3.trans (hk4.mono (by simp))).trans (g.mono (by simp))).setCell (by simp) _⟩
    ·by_cases hle:n<least
     ·have E:(n:Int)<(least:Int):=by omega
      go_wp2_with(first|(go_at_call 83;refine(CL b _ _ f).mono ?_;rintro e w1⟨rfl,a,hk4⟩;obtain⟨t,y,z,f6,f7⟩:=a.main));go_quiet ((go_at_call 162;exact CJ (A _)))
      replace a:=a.drewN nq
      replace hk4:=hk4.drewN nq
      go_wp2_with(first|(go_at_call 84;refine(CI b {p with ix:=i} _ d hb).mono ?_;rintro e w3⟨rfl,rfl⟩)|(go_at_call 83;refine(CL b _ _ a).mono ?_;rintro e w2⟨rfl,d,g⟩));go_ret;exact⟨.bad i,n,_,rfl,hinv.out _ (.short n true i r.o (AE hle)),l,by simp,AH rfl,d.setBad _,((hk3.trans (hk4.mono (by simp))).trans (g.mono (by simp))).setCell (by simp) _⟩
     ·have E:¬(n:Int)<(least:Int):=by omega
      go_wp2_with(first|(go_at_call 83;refine(CL b _ _ f).mono ?_;rintro e w1⟨rfl,a,hk4⟩;obtain⟨t,y,z,f6,f7⟩:=a.main));go_quiet ((go_at_call 162;exact CJ (A _)))
      replace a:=a.drewN nq
      replace hk4:=hk4.drewN nq
      go_wp2_with(first|(go_at_call 83;refine(CL b _ _ a).mono ?_;rintro e w2⟨rfl,d,g⟩));go_ret;exact⟨.ok n i,n,_,rfl,hinv.out _ (.done n i r.o (by omega)),l,by intro m j e;cases e;rfl,AH rfl,d,((hk3.trans (hk4.mono (by simp))).trans (g.mono (by simp)))⟩
   ·have N:48<=c∧c<=57:=by simpa[At]using k
    obtain⟨ag,ah⟩:=N;have r:Hid (At (at' p.s i)=true):=by show At (at' p.s i)=true;rw[M.out];exact k
    have A:=M7 c true k;clear k;obtain⟨x,O⟩:∃x:Nat,(x:Int)=10*(n:Int)+(c-48):=⟨(10*(n:Int)+(c-48)).toNat,by omega⟩;have J:Hid ((x:Int)=10*(n:Int)+(at' p.s i-48)):=by show(x:Int)=10*(n:Int)+(at' p.s i-48);rw[M.out];exact O
    have ai:10*(n:Int)+(c-48)=(x:Int):=O.symm;clear O;by_cases F:5<x∨(0<x∧x<least)
    ·have G:Hid (¬(x<=5∧(x=0∨least<=x))):=by show¬_;omega
     rcases F with h|⟨h,h'⟩
     ·have H:5<(x:Int):=by omega
      go_wp2_with(first|(go_at_call 83;refine(CL b _ _ f).mono ?_;rintro e w1⟨rfl,a,hk4⟩;obtain⟨t,y,z,f6,f7⟩:=a.main));go_quiet ((go_at_call 162;exact CJ (A _)));go_wp2_with fail;go_quiet (fail);go_wp2_with(first|(go_at_call 84;refine(CI b {p with ix:=i} _ (by exact a) hb).mono ?_;rintro e w3⟨rfl,rfl⟩));go_ret;exact⟨.bad i,0,_,rfl,hinv.out _ (.big n x any i r.o J.o G.o),by omega,by simp,AH rfl,PB.setBad (p:={p with ix:=i}) (by exact a) _,(AA.drewN (hk3.trans (hk4.mono (by simp))) _).setCell (by simp) _⟩
     ·have H:¬5<(x:Int):=by omega
      have I:0<(x:Int):=by omega
      have P:(x:Int)<(least:Int):=by omega
      go_wp2_with(first|(go_at_call 83;refine(CL b _ _ f).mono ?_;rintro e w1⟨rfl,a,hk4⟩;obtain⟨t,y,z,f6,f7⟩:=a.main));go_quiet ((go_at_call 162;exact CJ (A _)));go_wp2_with fail;go_quiet (fail);go_wp2_with(first|(go_at_call 84;refine(CI b {p with ix:=i} _ (by exact a) hb).mono ?_;rintro e w3⟨rfl,rfl⟩));go_ret;exact⟨.bad i,0,_,rfl,hinv.out _ (.big n x any i r.o J.o G.o),by omega,by simp,AH rfl,PB.setBad (p:={p with ix:=i}) (by exact a) _,(AA.drewN (hk3.trans (hk4.mono (by simp))) _).setCell (by simp) _⟩
    ·have H:¬5<(x:Int):=by omega
     by_cases Q:x=0
     ·have I:¬0<(x:Int):=by omega
      clear Q;go_wp2_with(first|(go_at_call 83;refine(CL b _ _ f).mono ?_;rintro e w1⟨rfl,a,hk4⟩;obtain⟨t,y,z,f6,f7⟩:=a.main));go_quiet ((go_at_call 162;exact CJ (A _)));go_wp2_with fail;go_quiet (fail);go_wp2_with fail;go_roundw
      case rel=>exact⟨x,true,i+1,rfl,rfl,by omega,by omega,PB.setIx (p:={p with ix:=i}) (by exact a) (i+1),fun q B=>hinv.out q (.dig n x any i q r.o J.o (by omega) (by omega) B),(AA.drewN (hk3.trans (hk4.mono (by simp))) _).setCell (by simp) _⟩
      case measure=>exact M6 f (PB.setIx (p:={p with ix:=i}) (by exact a) (i+1)) hb (by omega) (by omega)
     ·have I:0<(x:Int):=by omega
      have P:¬(x:Int)<(least:Int):=by omega
      go_wp2_with(first|(go_at_call 83;refine(CL b _ _ f).mono ?_;rintro e w1⟨rfl,a,hk4⟩;obtain⟨t,y,z,f6,f7⟩:=a.main));go_quiet ((go_at_call 162;exact CJ (A _)));go_wp2_with fail;go_quiet (fail);go_wp2_with fail;go_roundw
      case rel=>exact⟨x,true,i+1,rfl,rfl,by omega,by omega,PB.setIx (p:={p with ix:=i}) (by exact a) (i+1),fun q B=>hinv.out q (.dig n x any i q r.o J.o (by omega) (by omega) B),(AA.drewN (hk3.trans (hk4.mono (by simp))) _).setCell (by simp) _⟩
      case measure=>exact M6 f (PB.setIx (p:={p with ix:=i}) (by exact a) (i+1)) hb (by omega) (by omega)
theorem Tryz.infoNode:(Tryz.prog.info? 157).map (fun i=>(i.zero,i.size,i.bytes))=some (some (.agg #[.int .u8 0,.slice none 0 0,.int .i64 0,.int .i64 0,.int .i64 0,.slice none 0 0]),6,80):=by kernel_rfl
theorem PB.nodes{b:Nat}{p:PS}(h:PB w b p):w.cell? ⟨b,1,none⟩=some p.nodes∧w.frozen? ⟨b,1,none⟩=false:=by
 unfold PB at h;simp[World.cell?,World.frozen?,h,PS.cells]
theorem PB.setNodes{b:Nat}{p:PS}(h:PB w b p)(v:Value):PB (w.setCell ⟨b,1,none⟩ v) b {p with nodes:=v}:=by
 unfold PB at*;simp[World.setCell,Aq,h,PS.cells]
theorem _root_.Go.World.ownsRow.setOther{base:Nat}{e:TypeId}{size:Nat}{v:Value}{n:Nat}{xs:List Value}(h:w.ownsRow base e size v n xs){a:Addr}(b:v.ownBlock≠some a.block)(u:Value):(w.setCell a u).ownsRow base e size v n xs:=
 h.kept (row:=some a.block) ⟨rfl,rfl,rfl,by simp,fun k _ c=>Gt _ _ _ _ (by intro e;exact c (by rw[e]))⟩ (AE b)
theorem _root_.Go.World.ownsRow.keep{w':World}{base:Nat}{e:TypeId}{size:Nat}{v:Value}{n:Nat}{xs:List Value}{S:List Nat}(h:w.ownsRow base e size v n xs)(b:AA S w w')(c:∀g,v.ownBlock=some g->g∉S):w'.ownsRow base e size v n xs:=by
 refine⟨h.1,?_⟩;rcases h.2 with d|⟨g,cap,cur,rfl,hb,a,rest⟩
 ·exact .inl d
 ·refine .inr ⟨g,cap,cur,rfl,hb,?_,rest⟩;rw[b.block g (AN.1 a).1 (c g rfl)];exact a
theorem RM(b:Nat)(p:PS)(w:World)(n:Nat)(xs:List Value)(k f i n3:Int)(d kv:Value)(R:d.oneCell'=true)(S:kv.oneCell'=true)(z:PB w b p)(l:w.ownsRow 0 157 6 p.nodes n xs)(q:p.nodes.ownBlock≠some b)(Z:n<=1000):Calls Tryz.prog 136 #[.pointer (some ⟨b,0,none⟩),.agg #[.int .u8 k,d,.int .i64 f,.int .i64 i,.int .i64 n3,kv]] w fun e w'=>∃g cap,e=.returned (.int .i64 n)∧PB w' b {p with nodes:=.slice (some ⟨g,0,none⟩) (n+1) cap}∧
   w'.ownsRow 0 157 6 (.slice (some ⟨g,0,none⟩) (n+1) cap) (n+1) (xs++[.int .u8 k,d,.int .i64 f,.int .i64 i,.int .i64 n3,kv])∧
   (p.nodes.ownBlock=some g∨w.heap.size<=g)∧AA (b::p.nodes.ownBlock.toList) w w':=by
 obtain⟨i0,A,B,C,D⟩:=A2 Tryz.infoNode;obtain⟨O,T⟩:=z.nodes;have lg:=BV w _ O;have E:n+1<=maxLen:=by unfold maxLen;omega
 go_enter Tryz.func136,Tryz.ntmps136;go_wp2_with fail;have r:PB (w.alloc (.cells #[.int .u8 k,d,.int .i64 f,.int .i64 i,.int .i64 n3,kv] 157)) b p:=z.keep ((AG [] w).alloc _) (by simp);have m:=l.alloc (.cells #[.int .u8 k,d,.int .i64 f,.int .i64 i,.int .i64 n3,kv] 157);have c:=AS w (.cells #[.int .u8 k,d,.int .i64 f,.int .i64 i,.int .i64 n3,kv] 157);have x:=(AG (b::p.nodes.ownBlock.toList) w).alloc (.cells #[.int .u8 k,d,.int .i64 f,.int .i64 i,.int .i64 n3,kv] 157);have P:(w.alloc (.cells #[.int .u8 k,d,.int .i64 f,.int .i64 i,.int .i64 n3,kv] 157)).heap.size=w.heap.size+1:=by simp
 have Q:p.nodes.ownBlock≠some w.heap.size:=by
  intro e;have:=(l.lt _ e).2;omega
 generalize w.alloc (.cells #[.int .u8 k,d,.int .i64 f,.int .i64 i,.int .i64 n3,kv] 157)=W at*;obtain⟨F,G⟩:=r.nodes;have e0:W.cell? ⟨w.heap.size,0,none⟩=some (.int .u8 k):=by simp[World.cell?,c]
 have e1:W.cell? ⟨w.heap.size,1,none⟩=some d:=by simp[World.cell?,c]
 have e2:W.cell? ⟨w.heap.size,2,none⟩=some (.int .i64 f):=by simp[World.cell?,c]
 have e3:W.cell? ⟨w.heap.size,3,none⟩=some (.int .i64 i):=by simp[World.cell?,c]
 have e4:W.cell? ⟨w.heap.size,4,none⟩=some (.int .i64 n3):=by simp[World.cell?,c]
 have e5:W.cell? ⟨w.heap.size,5,none⟩=some kv:=by simp[World.cell?,c]
 generalize I:w.heap.size=H at*;have J:∀u∈[Value.int .u8 k,d,.int .i64 f,.int .i64 i,.int .i64 n3,kv],u.oneCell'=true:=by
  intro u hu;simp only[Az,List.not_mem_nil,or_false]at hu;rcases hu with rfl|rfl|rfl|rfl|rfl|rfl<;>first|rfl|assumption
 have y:∀o,(W.alloc o).heap[H+1]? =some o:=fun o=>by rw[<-P];exact AS W o
 clear c O T z l
 go_region_law
  ((refine step_append_lies _ (by rfl) _ _ _ (by rfl) 0 157 i0 _ 6 80 Tryz.underlying100 A B C D rfl (by omega) p.nodes n xs (by rfl) ((m.alloc _).drew) ⟨H+1,0,none⟩ 1 1 [.int .u8 k,d,.int .i64 f,.int .i64 i,.int .i64 n3,kv] (by rfl) (by rfl) (Dq (cs:=#[.int .u8 k,d,.int .i64 f,.int .i64 i,.int .i64 n3,kv]) (t:=157) (fr:=(0,0)) (y _)) J (by omega) E (by omega) (by simp) (H+2) (by simp[P]) ?_;intro g cap w1 s a v hlt;have U:w1.frozen? ⟨b,1,none⟩=false:=(a.frozen_far ⟨b,1,none⟩ (by simp;omega) (Ne.symm q)).trans ((Fi W _ ⟨b,1,none⟩ (by simp;omega)).trans G);have V:w1.cell? ⟨b,1,none⟩=some p.nodes:=(a.cell_far ⟨b,1,none⟩ (by simp;omega) (Ne.symm q)).trans ((World.cell?_alloc_old W _ ⟨b,1,none⟩ (by simp;omega)).trans F)))
 all_goals
  have X:b≠g:=by
   rintro rfl;rcases v with h|h
   ·exact q h
   ·omega
  have K:p.nodes.ownBlock=some g∨H<=g:=by
   rcases v with h|h
   ·exact AH h
   ·exact AE (by omega)
  have L:AA (b::p.nodes.ownBlock.toList) w w1:=x.trans (((AG _ _).alloc (.cells #[.int .u8 k,d,.int .i64 f,.int .i64 i,.int .i64 n3,kv] 157)).drew.trans ⟨a.os,a.tape,a.output,a.size,fun j Y M=>a.block j Y (by intro e;apply M;rw[<-e];simp)⟩);have N:PB w1 b p:=by
   have:=a.block b (by simp;omega) (Ne.symm q);unfold PB;rw[this];exact r.keep ((AG [] W).alloc _).drew (by simp)
  clear v hlt r m x;go_wp2_with fail;go_ret;exact⟨g,cap,Eo (by omega),N.setNodes _,s.setOther (by simp[Value.ownBlock];omega) _,(by rw[I];exact K),L.setCell (by simp) _⟩
