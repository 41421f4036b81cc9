/-
  DERIVED. The reference's Extract, whole. Conditions: the arguments lie in memory; all together they are not longer than a million bytes.
-/
import Derived.Test.YtnfojonmohijpaaGreatDoorJEI
import Derived.Deep.CutBlock
import Derived.Lib.SliceRun
import Derived.Lib.SlBuf
set_option linter.all false
set_option maxRecDepth 100000
set_option maxHeartbeats 8000000
namespace Go.Proofs.YtnfojonmohijpaaGreatDoor
open Go.RowKit
variable{w:World}{h m:Nat}
theorem Pv:∀ls:List ByteArray,ls.length<=DT ls
 |[]=>AY _
 |a::ls=>by
  have:=Pv ls;unfold DT at*;simp only[Aj,D6,List.sum_cons];omega
theorem Wn(k:AX)(n:Nat)(O:List UInt8)(ts:List ByteArray)(j:Nat)(tx:ByteArray)(h:ts[j]? =some tx):(k.n=true->AJ (O++BQ k n (ts.take j))++AJ (Bz n)++⟨#[58]⟩++tx++⟨#[10]⟩=AJ (O++BQ k n (ts.take (j+1))))∧(k.n=false->AJ (O++BQ k n (ts.take j))++tx++⟨#[10]⟩=AJ (O++BQ k n (ts.take (j+1)))):=by
 have d:(⟨#[58]⟩:ByteArray)=AJ [58]:=rfl;have e:(⟨#[10]⟩:ByteArray)=AJ [10]:=rfl;have c:tx=AJ tx.data.toList:=(Jm tx).symm;rw[MH k n ts j tx h,d,e];refine⟨fun a=>?_,fun a=>?_⟩
 ·have b:Fa k n tx=Bz n++[58]++(tx.data.toList++[10]):=by unfold Fa;rw[AL a]
  rw[b]
  conv=>lhs;rw[c]
  rw[Eb,Eb,Eb,Eb];congr 1;simp[CS]
 ·have b:Fa k n tx=tx.data.toList++[10]:=by unfold Fa;rw[AK (by rw[a];decide)];rfl
  rw[b]
  conv=>lhs;rw[c]
  rw[Eb,Eb];congr 1;simp[CS]
def Ht(a:Bool)(w wr:World)(s:ByteArray)(ps:List Part)(fs:List (List Int))(j:Nat)(v0 v:Value):Prop:=(a=true∧GC w wr s ps fs j v)∨(a=false∧j=0∧v=v0∧wr=w)
theorem Ht.keep{a:Bool}{wr:World}{s:ByteArray}{ps:List Part}{fs:List (List Int)}{j:Nat}{v0 v:Value}(h:Ht a w wr s ps fs j v0 v):AA [] w wr:=by
 rcases h with⟨_,h⟩|⟨_,_,_,rfl⟩
 ·exact h.keep
 ·exact AG _ _
theorem Wo(v:Value)(l:List ByteArray)(s:ByteArray)(w:World)(hl:BB w v l)(bI:BM l<=1048576)(ac:l.length<=1048576):Calls Tryz.prog 59 #[v,.string s] w fun e w'=>Cc l s e∧AA [] w w':=by
 obtain⟨i0,di,dj,dk,dl⟩:=A2 Ip;have dm:=Gm;have hO:=VW v l w hl bI ac;have b9:Hid (BM l<=1048576):=bI;clear hl bI ac;go_enter Tryz.func59,Tryz.ntmps59;go_wp2_with fail;refine hO.mono ?_;rintro e w1⟨i,L,T,F,bad,rest,rfl,hR,bJ,ca,cb,cd⟩;obtain⟨ra,rn,rc,bK,ce⟩:∃ra rn rc,rest=.slice ra rn rc∧rn=(l.drop i).length:=by
  rcases bJ.rd with⟨I,a,c,h2⟩|⟨g,o,c,I,_⟩
  ·exact⟨a,0,c,h2,by rw[I];rfl⟩
  ·exact⟨_,_,c,I,rfl⟩
 subst bK;have bL:Hid (rn=(l.drop i).length):=ce;clear ce;have au:Hid (L.length<=1048576):=BG ca b9.o;have aw:AA [] w (w1.alloc (.cells (Io L T F (.slice ra rn rc) bad) 187)):=cd.alloc _;have ad:(w1.alloc (.cells (Io L T F (.slice ra rn rc) bad) 187)).heap[w1.heap.size]? =some (.cells (Io L T F (.slice ra rn rc) bad) 187 (0,0)):=AS w1 _;have aB:=bJ.keep ((AG [] w1).alloc (.cells (Io L T F (.slice ra rn rc) bad) 187));have ed:Hid (F=true->T.size<=1048576):=fun h=>BG (cb h) b9.o
 unfold Io at*;clear hO ca cb cd bJ;go_upto_region 2 with(fail)
 generalize w1.alloc (.cells #[.string (AJ L),.string T,.bool F,.slice ra rn rc,.bool bad] 187)=X at*;obtain⟨c,ax⟩:=AQ w1.heap.size;rw[<-ax]at ad⊢;clear ax;have c0:X.cell? ⟨c,0,none⟩=some (.string (AJ L)):=by rw[AU ad];rfl
 have c1:X.cell? ⟨c,1,none⟩=some (.string T):=by rw[AU ad];rfl
 have c2:X.cell? ⟨c,2,none⟩=some (.bool F):=by rw[AU ad];rfl
 have c3:X.cell? ⟨c,3,none⟩=some (.slice ra rn rc):=by rw[AU ad];rfl
 have c4:X.cell? ⟨c,4,none⟩=some (.bool bad):=by rw[AU ad];rfl
 clear ad;cases bad
 rotate_left
 ·have B:Hid (Cc l s (.returned (.tuple #[.string ⟨#[]⟩,.int .i64 2]))):=by
   rcases hR with⟨h,_⟩|⟨_,h⟩
   ·cases h
   ·exact .args (.args h)
  clear hR aB;go_wp2_with fail;go_ret2;exact⟨B.o,aw⟩
 have ay:BI l kI (DI (DF L T F) (l.drop i)):=by
  rcases hR with⟨_,h⟩|⟨h,_⟩
  ·exact h
  ·cases h
 clear hR;by_cases I:rn=1
 rotate_left
 ·have B:Hid (Cc l s (.returned (.tuple #[.string ⟨#[]⟩,.int .i64 2]))):=by
   have e:DI (DF L T F) (l.drop i)=none:=by
    have:=bL.o
    match l.drop i,this with
    |[],_=>rfl
    |[p],h=>exact absurd h I
    |p::q::r,_=>rfl
   rw[e]at ay;exact .args (.args ay)
  have dn:((rn:Int)!=1)=true:=by simpa using(by omega:¬(rn:Int)=1)
  clear ay aB I;go_wp2_with fail;go_ret2;exact⟨B.o,aw⟩
 subst I;obtain⟨p,hp⟩:∃p,l.drop i=[p]:=JH.1 bL.o.symm;rw[hp]at ay aB;obtain⟨ga,oa,rfl,cp⟩:=aB.at (k:=0) rfl;rw[Di]at cp;have ae:Hid (BI l kI (some (DF L T F,p))):=ay;have dn:(((1:Nat):Int)!=1)=false:=by decide
 clear ay aB hp bL;by_cases aT:60<p.size
 ·have B:Hid (Cc l s (.returned (.tuple #[.string ⟨#[]⟩,.int .i64 2]))):=.args (.long _ p ae.o aT);have V:Hid (60<p.size):=aT;clear aT;go_wp2_with(first|(go_at_call 46;refine(Su p _ V.out).mono ?_;rintro e w'⟨rfl,rfl⟩));refine(Pu s _).mono ?_;rintro e w3⟨hk3,⟨r,rfl,_⟩|⟨rfl,_⟩⟩
  ·go_wp2_with fail;go_ret2;exact⟨B.o,aw.trans hk3⟩
  ·go_wp2_with fail;go_ret2;exact⟨B.o,aw.trans hk3⟩
 have V:p.size<=60:=by omega
 have af:Hid (p.size<=60):=V;have cg:=Sv p [] X V (fun x hx=>by cases hx);clear aT V;go_wp2_with fail;refine cg.mono ?_;rintro e w3⟨bp,q,nds,R,en,rfl,hb,hR,aU,hinv,hk3,hn,_,aC⟩;have bM:=Pu s w3;have Z:=aw.trans hk3;clear cg;cases R with
 |bad j=>
  obtain⟨rfl,_⟩:=aC;have B:Hid (Cc l s (.returned (.tuple #[.string ⟨#[]⟩,.int .i64 2]))):=.args (.bad _ p j ae.o af.o hR);clear hR aU hinv;go_wp2_with fail;refine bM.mono ?_;rintro e w4⟨hk4,⟨r,rfl,_⟩|⟨rfl,_⟩⟩
  ·go_wp2_with fail;go_ret2;exact⟨B.o,Z.trans hk4⟩
  ·go_wp2_with fail;go_ret2;exact⟨B.o,Z.trans hk4⟩
 |ok W j=>
  obtain⟨rfl,ch,ci,cj,bu⟩:=aC;obtain⟨a1,a2,a3,a4,a5,a6,a7⟩:=hR.all af.o;have HR:Hid (B6 p (.ok W j)):=hR;have bN:Hid (KP nds q W):=⟨a1,a2,a3,a4,a5,a6,a7,ch,ci,cj,bu⟩;clear ch ci cj bu a1 a2 a3 a4 a5 a6 a7 hR;go_wp2_with fail;refine bM.mono ?_;clear bM;rintro e w4⟨hk4,⟨r,rfl,ck,cl,cm,_⟩|⟨rfl,bv⟩⟩
  rotate_left
  ·have B:Hid (Cc l s (.returned (.tuple #[.string ⟨#[]⟩,.int .i64 2]))):=by
    by_cases ht:(DF L T F).tp.size<=100
    ·obtain⟨z,hz⟩:=BN.total (DF L T F).tp W.g _ 0 (AP _);cases z with
     |none=>exact .args (.tpl _ p W j ae.o af.o HR.o (AE hz))
     |some ps=>exact .long _ _ ps (.ok _ p W j ps ae.o af.o HR.o ht hz) bv
    ·exact .args (.tpl _ p W j ae.o af.o HR.o (AH (by omega)))
   clear bv aU hinv;go_wp2_with fail;go_ret2;exact⟨B.o,Z.trans hk4⟩
  have HS:Hid (s.size<=2000∧∀a∈By s,a.size<=100):=⟨ck,cl⟩;have aD:=Z.trans hk4;have d0:=Ac hk4 (Ac hk3 c0);have d1:=Ac hk4 (Ac hk3 c1);have d2:=Ac hk4 (Ac hk3 c2);have aE:PB w4 bp q:=aU.keep hk4 (by simp);have aF:=hinv.keep hk4 (by simp);clear ck cl aU hinv c0 c1 c2 c3 c4 cp aw hk3 hk4 Z;have aV:w4.cell? ⟨bp,5,none⟩=some (.int .i64 q.gr):=by
   have:=aE;unfold PB at this;rw[AU this];rfl
  obtain⟨n1,n2⟩:=HR.o.nest;have HG:Hid (∀m,W.x.has m->0<m∧m<=W.g):=n2;have aW:Hid (q.gr=W.g∧W.g<=9):=⟨bN.o.gr,bN.o.g9⟩;clear n1 n2
  go_upto_if 57 with(fail)
  go_cut [10]from 58 to 69 (fun dq wx=>dq=.bool true∧Dw w4 wx∧∃ps,(F=true->T.size<=100∧BN T W.g 0 (some ps))∧(F=false->ps=[.grp 0]))
  case first=>
   cases F
   ·go_wp2_with fail;go_meet;exact⟨rfl,Dw.refl _,[.grp 0],(fun h=>(by cases h)),fun _=>rfl⟩
   ·obtain⟨fq,fb,az⟩:=Dn.total T ⟨#[]⟩ W.g [];have aX:=fun X=>Pp T ⟨#[]⟩ (.slice none 0 0) [] W.g X (by decide) aW.o.2 (AH ⟨rfl,rfl⟩) fq fb az
    rw[<-aW.o.1]at aX;have ag:Hid (Dn T ⟨#[]⟩ W.g [] fq fb):=az;clear az;go_upto_region 9 with(fail)
    go_quiet (first|(go_at_call 108;exact Calls.quiet_of (aX _)));cases fb
    ·have B:Hid (Cc l s (.returned (.tuple #[.string ⟨#[]⟩,.int .i64 2]))):=by
      rcases ag.o with⟨h,_⟩|⟨_,_,h⟩
      ·cases h
      ·exact .args (.tpl _ p W j ae.o af.o HR.o h)
     have aA:=aD.trans ((AG [] w4).drewN nq);go_wp2_with fail;go_ret2;exact⟨B.o,aA⟩
    ·go_wp2_with fail;go_meet;rcases ag.o with⟨_,I,ps,h2,_⟩|⟨h,_⟩
     ·exact⟨rfl,⟨nq,rfl⟩,ps,fun _=>⟨I,h2⟩,fun h=>(by cases h)⟩
     ·cases h
  case rest=>
   obtain⟨rfl,cn,ps,aY,aZ⟩:=hcut;obtain⟨w5,du⟩:=AQ wc;subst du;have G:=cn.keep;obtain⟨k,hk⟩:=AQ (DF L T F);have HC:Hid (Cb l (some (k,k.w W,ps))):=by
    have ht:k.tp.size<=100∧BN k.tp W.g 0 (some ps):=by
     subst hk;cases F with
     |true=>exact aY rfl
     |false=>
      rw[aZ rfl];exact⟨(show kI.tp.size<=100 by decide),Wf W.g⟩
    exact .ok k p W j ps (hk ▸ ae.o) af.o HR.o ht.1 ht.2
   have co:Hid (ps.length<=100):=by
    show ps.length<=100;cases F with
    |true=>
     have I:=aY rfl;have:=(I.2.ok ps rfl).1;omega
    |false=>rw[aZ rfl];decide
   have bO:Hid ((F=true->T.size<=100∧BN T W.g 0 (some ps))∧(F=false->ps=[.grp 0])):=⟨aY,aZ⟩;have cq:L.contains 105=k.i:=by rw[hk];rfl
   have cr:L.contains 120=k.x:=by rw[hk];rfl
   have aG:L.contains 118=k.v:=by rw[hk];rfl
   have bP:L.contains 110=k.n:=by rw[hk];rfl
   have ct:L.contains 99=k.c:=by rw[hk];rfl
   have bQ:(L.contains 111||F)=k.o:=by rw[hk];rfl
   have fI:=fun X=>Is L 105 105 rfl X au.o
   have fX:=fun X=>Is L 120 120 rfl X au.o
   have fV:=fun X=>Is L 118 118 rfl X au.o
   have fO:=fun X=>Is L 111 111 rfl X au.o
   have fN:=fun X=>Is L 110 110 rfl X au.o
   have fC:=fun X=>Is L 99 99 rfl X au.o
   rw[cq]at fI;rw[cr]at fX;rw[ct]at fC;obtain⟨kv,bw⟩:=AQ (L.contains 118);rw[<-bw]at fV aG;have a8:Hid (kv=k.v):=aG;obtain⟨kn,bx⟩:=AQ (L.contains 110);rw[<-bx]at fN bP;have dv:Hid (kn=k.n):=bP;obtain⟨ko,bz⟩:=AQ k.o;have ah:Hid (ko=k.o):=bz;obtain⟨on,cu⟩:=AQ (L.contains 111);rw[<-cu]at fO bQ;have a9:Hid ((on||F)=k.o):=bQ;obtain⟨ls,aH⟩:=AQ (By s);have dw:Hid (ls=By s):=aH;have H:=cm.keep G;rw[<-aH]at H;have ba:Hid (ls.length<=2001∧∀a∈ls,a.size<=100):=⟨by
    rw[aH];have I:=Pk s;have h2:=Pv (By s);have:=HS.o.1;omega,by rw[aH];exact HS.o.2⟩
   have e0:=Ac G d0;have e1:=Ac G d1;have e2:=Ac G d2;have aq:=aE.keep G (by simp);have ai:=aF.keep G (by simp);have cw:=aD.trans G;obtain⟨xa,xn,xc,rfl⟩:=A6 H;have cx:xn=ls.length:=by
    rcases H.2 with⟨e,e2⟩|⟨_,_,_,e,_⟩
    ·cases e;exact e2.symm
    ·cases e;rfl
   have aj:Hid (xn=ls.length):=cx;clear hk cq cr aG bw bz bP bx ct bQ cu aH cm cn G aE aF aD aY aZ d0 d1 d2 aV cx;go_upto_region 13 with(first|(go_at_call 109;refine(fI _).mono ?_;rintro e w'⟨rfl,hw⟩;subst w'))
   go_upto_region 14 with(first|(go_at_call 109;refine(fX _).mono ?_;rintro e w'⟨rfl,hw⟩;subst w'))
   go_upto_region 15 with(first|(go_at_call 109;refine(fV _).mono ?_;rintro e w'⟨rfl,hw⟩;subst w'))
   go_upto_region 16 with(first|(go_at_call 109;refine(fO _).mono ?_;rintro e w'⟨rfl,hw⟩;subst w'))
   clear fI fX fV fO;go_wp2_with fail;go_loopw [15,16,17] (fun bR dx bS wr=>∃(n:Nat)(O:List UInt8)(m:Nat),bR=.string (AJ O)∧dx=.int .i64 m∧bS=.int .i64 n∧Dx w5 wr k (k.w W) ps ls n O m) (fun _ _ bS _=>xn-(intOf bS).toNat)
   case atStart=>exact⟨0,[],0,rfl,rfl,rfl,Dx.start _ _ _ _ _⟩
   case round=>
    obtain⟨n,O,m,rfl,rfl,rfl,L0⟩:=hrel;obtain⟨wo,dy⟩:=AQ wr;subst dy;have HL:Hid (Dx w5 wo k (k.w W) ps ls n O m):=L0;have g0:=Ac L0.keep e0;have g1:=Ac L0.keep e1;have g2:=Ac L0.keep e2;have bT:=L0.mle;have cy:=L0.ile;by_cases hlt:n<xn
    rotate_left
    ·have cz:¬(n:Int)<(xn:Int):=by omega
     obtain⟨o,bA,cA⟩:=L0.fin (by have:=aj.o;omega);have B:Hid (Cc l s (.returned (.tuple #[.string (AJ (if k.c=true then Bz m++[10]else O)),.int .i64 (if m=0 then 1 else 0)]))):=by
      show Cc l s _;rw[<-cA];exact .run k _ ps o m HC.o HS.o.1 HS.o.2 (by rw[<-dw.o];exact bA)
     have dA:m<10000:=by have:=ba.o.1;omega
     have aA:=cw.trans L0.keep;have fD:=fun X=>Po m dA X
     have dB:=Jw m;have ef:(AJ (Bz m)).size<=4:=by rw[Bp];exact dB
     have dC:Hid (AJ (Bz m++[10])=AJ (Bz m)++⟨#[10]⟩):=by show AJ (Bz m++[10])=_;rw[<-Eb];rfl
     clear L0 hlt cy bT bA cA H aq ai;cases hc:k.c
     ·rw[hc]at fC B;by_cases N:m=0
      ·have bc:((m:Int)==0)=true:=by simpa using(by omega:(m:Int)=0)
       rw[AK (by decide),AL N]at B;clear hc N;go_wp2_with(first|(go_at_call 109;refine(fC _).mono ?_;rintro e w'⟨rfl,hw⟩;subst w'));go_ret2;exact⟨B.o,aA⟩
      ·have bc:((m:Int)==0)=false:=by simpa using(by omega:¬(m:Int)=0)
       rw[AK (by decide),AK N]at B;clear hc N;go_wp2_with(first|(go_at_call 109;refine(fC _).mono ?_;rintro e w'⟨rfl,hw⟩;subst w'));go_ret2;exact⟨B.o,aA⟩
     ·rw[hc]at fC B;rw[AL rfl,dC.o]at B;by_cases N:m=0
      ·have bc:((m:Int)==0)=true:=by simpa using(by omega:(m:Int)=0)
       rw[AL N]at B;clear hc N;go_wp2_with(first|(go_at_call 109;refine(fC _).mono ?_;rintro e w'⟨rfl,hw⟩;subst w')|(go_at_call 111;refine(fD _).mono ?_;rintro e w'⟨rfl,hw⟩;subst w'));go_ret2;exact⟨B.o,aA⟩
      ·have bc:((m:Int)==0)=false:=by simpa using(by omega:¬(m:Int)=0)
       rw[AK N]at B;clear hc N;go_wp2_with(first|(go_at_call 109;refine(fC _).mono ?_;rintro e w'⟨rfl,hw⟩;subst w')|(go_at_call 111;refine(fD _).mono ?_;rintro e w'⟨rfl,hw⟩;subst w'));go_ret2;exact⟨B.o,aA⟩
    have cz:(n:Int)<(xn:Int):=by omega
    have d5:(0:Int)<=(n:Int):=by omega
    have eg:(n:Int)<=2001:=by have:=aj.o;have:=ba.o.1;omega
    have bc:(m:Int)<=2001:=by omega
    have bU:Hid (n<xn∧xn<=2001∧m<=n):=⟨hlt,by have:=aj.o;have:=ba.o.1;omega,bT⟩;obtain⟨d,ac⟩:∃d,ls[n]? =some d:=⟨_,Ax (by have:=aj.o;omega)⟩;obtain⟨gx,rfl⟩:∃gx,xa=some ⟨gx,0,none⟩:=by
     rcases H.2 with⟨e,e2⟩|⟨gx,_,_,e,_⟩
     ·exfalso;have:=aj.o;omega
     ·cases e;exact⟨gx,rfl⟩
    have bB:w5.cell? ⟨gx,n,none⟩=some (.string d):=by
     have h:=H;unfold Ca at h;rw[aj.o]at h;rw[BX h n (by have:=aj.o;omega),FV,ac];rfl
    have ax:=Ac L0.keep bB;have ak:Hid (ls[n]? =some d∧d.size<=100):=⟨ac,ba.o.2 d (C8 ac)⟩;have cB:=VF k.i d (d.size+1) rfl ak.o.2 nds hn bp q [] wo (aq.keep L0.keep (by simp)) (ai.keep L0.keep (by simp)) ⟨by simp,by simp⟩;have eh:Hid (PB wo bp q):=aq.keep L0.keep (by simp);have dD:Hid (Ca w5 (.slice (some ⟨gx,0,none⟩) xn xc) ls∧PB w5 bp q∧Bg w5 bp [] q.nodes nds):=⟨H,aq,ai⟩;clear L0 hlt cy bT ac bB;go_upto_region 22 with(fail)
    refine cB.mono ?_;clear cB;rintro e w6⟨b,D,E,rfl,cC,cD,dE,dF,cE⟩;have cF:=Wj d (nds.map (Nd.fo k.i)) (by simpa using hn) (k.w W) k.x w6 w6.heap.size b bp q D E cC (bN.o.fo k.i) (fun m hm=>HG.o m ((Kn _ _ _).1 hm)) rfl;go_wp2_with fail;refine cF.mono ?_;rintro e w7⟨r2,ans,fs,rfl,az,cG,_,cH⟩;have K:AA [] wo w7:=BZ cE cH (fun x hx=>AE (cD x hx));obtain⟨sm,aI⟩:=AQ ans.isSome;rw[<-aI];have bV:Hid (sm=ans.isSome):=aI;have ag:Hid (GF d (k.w W) k.x ans fs):=az;have dG:Hid (F7 w7 w6.heap.size r2 fs):=cG;clear aI az cG cF cC cD dE dF cE cH;by_cases hv:sm=kv
    ·have dH:(sm==kv)=true:=by simp[hv]
     have HN:Hid (Dx w5 w7 k (k.w W) ps ls (n+1) O m):=HL.o.skip ak.o.1 ag.o (by rw[<-bV.o,<-a8.o];exact hv) K;clear hv g0 g1 g2 ax;go_wp2_with fail;go_roundw
     case rel=>exact⟨n+1,O,m,rfl,rfl,by go_num,HN.o⟩
     case measure=>have:=bU.o;simp[intOf];omega
    ·have dH:(sm==kv)=false:=by simp[hv]
     have HV:Hid (¬sm=kv):=hv;have h0:=Ac K g0;have I:=Ac K g1;have h2:=Ac K g2;have bC:=Ac K ax;have M:AA [] w7 (w7.alloc (.cells #[.string d] 9)):=(AG [] w7).alloc _;have cI:Ca (w7.alloc (.cells #[.string d] 9)) (.slice (some ⟨w7.heap.size,0,none⟩) 1 1) [d]:=by
      refine⟨rfl,AE ⟨w7.heap.size,1,#[.string d],rfl,AY _,AS w7 _,AP _,by unfold maxLen;omega,rfl,rfl⟩⟩
     clear hv g0 g1 g2 ax;go_upto_region 26 with(fail)
     generalize w7.alloc (.cells #[.string d] 9)=w8 at*;generalize w7.heap.size=gl at*;have dI:=Ac M h0;have i1:=Ac M I;have i2:=Ac M h2;have cJ:=Ac M bC;have cK:=K.trans M;clear h0 I h2 bC;go_cut [115]from 111 to 114 (fun q wx=>q=.bool ko∧wx=w8)
     case first=>
      cases on
      ·cases F
       ·have HO:Hid (k.o=false):=a9.o.symm;go_wp2_with fail;go_meet;exact⟨by rw[ah.o,HO.o],rfl⟩
       ·have HO:Hid (k.o=true):=a9.o.symm;go_wp2_with fail;go_meet;exact⟨by rw[ah.o,HO.o],rfl⟩
      ·have HO:Hid (k.o=true):=a9.o.symm;go_wp2_with fail;go_meet;exact⟨by rw[ah.o,HO.o],rfl⟩
     case rest=>
      obtain⟨rfl,rfl⟩:=hcut;obtain⟨w9,bW⟩:=AQ wc;subst bW
      go_upto_if 115 with(fail)
      go_cut [21]from 116 to 116 (fun al wx=>wx=w9∧((ko=false∧al=.slice (some ⟨gl,0,none⟩) 1 1)∨(ko=true∧al=.slice none 0 0)))
      case first=>
       cases ko
       ·go_wp2_with fail;go_meet;exact⟨rfl,AH ⟨trivial,rfl⟩⟩
       ·go_wp2_with fail;go_meet;exact⟨rfl,AE ⟨trivial,rfl⟩⟩
      case rest=>
       obtain⟨rfl,bf⟩:=hcut;obtain⟨w9,bW⟩:=AQ wc;subst bW;obtain⟨S,aJ⟩:=AQ ((ko&& !kv));have bX:Hid (S=(ko&& !kv)):=aJ;obtain⟨cL,bD⟩:=ag.o.frm ak.o.2 (fun m hm=>HG.o m ((Kn _ _ _).1 hm));have cM:Hid (fs.length<=100∧∀sp∈fs,Ex d sp W.g∧∃(i j:Nat)(r:List Int),sp=(i:Int)::(j:Int)::r∧i<=j∧j<=d.size):=⟨cL,bD⟩;have aK:=dG.o.keep M (by simp);obtain⟨ei,am,_⟩:=aK.row;obtain⟨ya,J,yc,rfl⟩:=A6 am;have cN:J=fs.length:=by
        rcases am.2 with⟨e,e2⟩|⟨_,_,_,e,_⟩
        ·cases e;exact e2.symm
        ·cases e;rfl
       have an:Hid (J=fs.length):=cN;have ej:(J:Int)<=100:=by omega
       have bE:Hid (F7 w9 w6.heap.size (.slice ya J yc) fs):=aK;have cO:Hid (∀(j:Nat)(v:Value)(wx:World),Ht S w9 wx d ps fs j u21 v->(¬(j<J∧S=true))->∃ts,Bm k d (k.w W) ps ts∧Ca wx v ts∧ts.length<=100∧(∀t∈ts,t.size<=10000)∧AA [] w9 wx):=fun j v wx aL dJ=>by
        rcases aL with⟨hr,L1⟩|⟨hr,_,rfl,rfl⟩
        ·have bY:J<=j:=by
          rcases DU j J with h|h
          ·exact absurd ⟨h,hr⟩ dJ
          ·exact h
         have ho:ko=true∧kv=false:=by
          have:=bX.o;rw[hr]at this;simpa using this.symm
         have aI:sm=true:=by
          have:=HV.o;rw[ho.2]at this;simpa using this
         have aM:=GF.texts ps ag.o (by rw[<-ah.o];exact ho.1) (by rw[<-a8.o];exact ho.2) (by rw[<-bV.o];exact aI);have I:=L1.row;rw[FC (by have:=an.o;omega)]at I;refine⟨_,aM,I,by rw[Ce];exact cM.o.1,fun t ht=>?_,L1.keep⟩;exact aM.sz ak.o.2 co.o t ht
        ·have hA:∀ts,Bm k d (k.w W) ps ts->ts.length<=100->Ca wx v ts->∃ts,Bm k d (k.w W) ps ts∧Ca wx v ts∧ts.length<=100∧(∀t∈ts,t.size<=10000)∧AA [] wx wx:=fun ts I h2 h3=>⟨ts,I,h3,h2,fun t ht=>I.sz ak.o.2 co.o t ht,AG _ _⟩
         rcases bf with⟨ho,rfl⟩|⟨ho,rfl⟩
         ·refine hA [d] ?_ (by simp) cI;unfold Bm;rw[AL (by rw[<-ah.o];exact ho)]
         ·have aG:kv=true:=by
           have:=bX.o;rw[hr,ho]at this;simpa using this.symm
          refine hA [] ?_ (by simp) ⟨rfl,AH ⟨rfl,rfl⟩⟩;unfold Bm;rw[AK (by rw[<-ah.o,ho];decide),AL (by rw[<-a8.o];exact aG)]
       have cP:Bk u21:=by
        rcases bf with⟨_,rfl⟩|⟨_,rfl⟩
        ·exact⟨_,_,_,rfl⟩
        ·exact⟨_,_,_,rfl⟩
       have bF:Ht S w9 w9 d ps fs 0 u21 u21∧(S=true->u21=.slice none 0 0):=by
        have hz:S=true->u21=.slice none 0 0:=fun h=>by
         rw[h]at aJ;rcases bf with⟨ho,_⟩|⟨_,h2⟩
         ·rw[ho]at aJ;cases aJ
         ·exact h2
        refine⟨?_,hz⟩;cases hr:S with
        |false=>exact AE ⟨rfl,rfl,rfl,rfl⟩
        |true=>rw[hz hr];exact Or.inl ⟨rfl,⟨rfl,Or.inl ⟨rfl,rfl⟩⟩,fun g hg=>(by cases hg),AG _ _⟩
       have aN:Hid (Ht S w9 w9 d ps fs 0 u21 u21∧Bk u21):=⟨bF.1,cP⟩;have cQ:Hid (S=((on||F)&& !kv)):=by show S=_;rw[bX.o,ah.o,a9.o]
       clear aJ cL bD aK am cN bf cP bF cI
       go_upto_block 2 with(fail)
       go_cut [21]from 116 to 173 (fun al wx=>∃ts,Bm k d (k.w W) ps ts∧Ca wx al ts∧ts.length<=100∧(∀t∈ts,t.size<=10000)∧AA [] w9 wx)
       case first=>
        go_wp2_with fail;go_loopw [21,22] (fun al bZ wx=>∃j:Nat,bZ=.int .i64 j∧j<=J∧Bk al∧Ht S w9 wx d ps fs j u21 al) (fun _ bZ _=>J-(intOf bZ).toNat)
        case atStart=>exact⟨0,rfl,AY _,aN.o.2,aN.o.1⟩
        case round=>
         obtain⟨f,rfl,bY,⟨ta,tn,tc,rfl⟩,aL⟩:=hrel;have cR:Hid (Ht S w9 wr d ps fs f u21 (.slice ta tn tc)):=aL;have ao:=aL.keep;have cS:=Ac ao i2;have dK:(f:Int)<=100:=by omega
         have ek:Hid (f<=J):=bY;clear aL bY;go_upto_region 29 with(fail)
         go_cut [130]from 116 to 129 (fun q wx=>q=.bool (decide (f<J)&&S)∧wx=wr)
         case first=>
          by_cases C:f<J
          ·have ar:(f:Int)<(J:Int):=by omega
           have HE:Hid (decide (f<J)=true):=BU C;clear C;cases kv<;>cases on<;>cases F<;>(go_wp2_with fail;go_meet;exact⟨by rw[HE.o,cQ.o];rfl,rfl⟩)
          ·have ar:¬(f:Int)<(J:Int):=by omega
           have HE:Hid (decide (f<J)=false):=BS C;clear C;cases kv<;>cases on<;>cases F<;>(go_wp2_with fail;go_meet;exact⟨by rw[HE.o];rfl,rfl⟩)
         case rest=>
          obtain⟨rfl,rfl⟩:=hcut;obtain⟨wl,dL⟩:=AQ wc;subst dL;by_cases bh:f<J∧S=true
          rotate_left
          ·have hz:(decide (f<J)&&S)=false:=by
            cases hr:S with
            |false=>simp
            |true=>
             have:¬f<J:=fun h=>bh ⟨h,hr⟩
             simp[this]
           have B:=cO.o f _ _ cR.o bh;rw[hz];clear bh hz;go_wp2_with fail;go_meet;exact B
          ·obtain⟨C,bi⟩:=bh;have hz:(decide (f<J)&&S)=true:=by rw[bi,BU C];rfl
           rw[hz];have cT:GC w9 wl d ps fs f (.slice ta tn tc):=by
            rcases cR.o with⟨_,h⟩|⟨h,_⟩
            ·exact h
            ·rw[bi]at h;cases h
           have b0:Hid (GC w9 wl d ps fs f (.slice ta tn tc)):=cT;have dM:Hid (S=true):=bi;have ar:(f:Int)<(J:Int):=by omega
           have cU:(0:Int)<=(f:Int):=by omega
           have P:Hid (f<J):=C;obtain⟨sp,bj⟩:∃sp,fs[f]? =some sp:=⟨_,Ax (by have:=an.o;omega)⟩;obtain⟨bG,ix,jx,rr,aa,dN,dO⟩:=cM.o.2 sp (C8 bj);have cV:=bE.o.keep ao (by simp);obtain⟨cs,aO,cW⟩:=cV.row;obtain⟨gf,cf,cX,b1,_,_⟩:=cW f sp bj;obtain⟨gy,rfl⟩:∃gy,ya=some ⟨gy,0,none⟩:=by
            rcases aO.2 with⟨e,e2⟩|⟨gy,_,_,e,_⟩
            ·exfalso;have:=an.o;omega
            ·cases e;exact⟨gy,rfl⟩
           have b2:wl.cell? ⟨gy,f,none⟩=some (.slice (some ⟨gf,0,none⟩) sp.length cf):=by
            have h:=aO;rw[an.o]at h;rw[BX h f (by have:=an.o;omega)];exact cX
           obtain⟨_,_,he,d6,aP⟩:=b1.sl;cases he;have dP:=aP 0 ix (by rw[aa];rfl);have dQ:=aP 1 jx (by rw[aa];rfl);have cY:=Ac ao cJ;have cZ:=Ac ao i1;have aV:wl.cell? ⟨bp,5,none⟩=some (.int .i64 q.gr):=by
            have h:=dD.o.2.1.keep (HL.o.keep.trans (cK.trans ao)) (by simp);unfold PB at h;rw[AU h];rfl
           obtain⟨sn,bk⟩:=An sp.length;have bm:Hid (sp.length=sn):=bk;have d7:(1:Int)<(sn:Int):=by rw[<-bk,aa];simp;omega
           have d8:(0:Int)<(sn:Int):=by omega
           rw[bk]at b2;have d9:(0:Int)<=(ix:Int):=by omega
           have ea:(0:Int)<=(jx:Int):=by omega
           have eb:(ix:Int)<=(jx:Int):=by omega
           have ec:(jx:Int)<=(d.size:Int):=by omega
           have b3:Hid (fs[f]? =some sp∧Ex d sp W.g∧sp=(ix:Int)::(jx:Int)::rr):=⟨bj,bG,aa⟩;have dR:Hid (Cl wl (.slice (some ⟨gf,0,none⟩) sp.length cf) sp):=b1;have el:Hid (AA [] w9 wl):=ao;clear cT bi C bj bG aa cV aO cW cX b1 aP bk dN dO hz ao;go_upto_region 31 with(fail)
           go_quiet (fail);have Q:AA [] wl (wl.drewN nq):=(AG [] wl).drewN nq;have k1:=Ac Q cZ;have k2:=Ac Q cS;have kl:=Ac Q cY;have ky:=Ac Q b2;have k5:=Ac Q aV;generalize wl.drewN nq=Y at Q k1 k2 kl ky k5⊢;clear cZ cS cY b2 dP dQ aV
           go_upto_if 151 with(fail)
           go_cut [23]from 152 to 169 (fun dS wx=>dS=.string (AJ (BK ps d sp))∧Dw Y wx)
           case first=>
            cases F
            ·have HE:Hid (AJ (BK ps d sp)=d.extract ix jx):=by show AJ _=_;rw[bO.o.2 rfl,b3.o.2.2,Wg]
             go_wp2_with fail;go_meet;exact⟨by rw[HE.o],Dw.refl _⟩
            ·have aX:∀z,Calls Tryz.prog 108 #[.string T,.string d,.slice (some ⟨gf,0,none⟩) sn cf,.int .i64 q.gr] (Y.drewN z) fun e w'=>e=.returned (.tuple #[.string (AJ (BK ps d sp)),.bool true])∧∃m,w'=(Y.drewN z).drewN m:=fun z=>by
              have h:=Pp T d (.slice (some ⟨gf,0,none⟩) sp.length cf) sp W.g (Y.drewN z) ak.o.2 aW.o.2 (AE ⟨(dR.o.keep Q).keep ((AG [] Y).drewN z),b3.o.2.1⟩) _ true (AH ⟨rfl,(bO.o.1 rfl).1,ps,(bO.o.1 rfl).2,rfl⟩);rw[bm.o,<-aW.o.1]at h;exact h
             go_upto_region 33 with(fail)
             go_quiet (first|(go_at_call 108;exact Calls.quiet_of (aX _)));go_wp2_with fail;go_meet;exact⟨rfl,⟨nq,rfl⟩⟩
           case rest=>
            obtain⟨rfl,c5⟩:=hcut;have b4:=Q.trans c5.keep;obtain⟨w3,dT⟩:=AQ wc;subst dT;have ap:w3.ownsRow 0 9 1 (.slice ta tn tc) ((fs.take f).map fun sp=>AJ (BK ps d sp)).length (((fs.take f).map fun sp=>AJ (BK ps d sp)).map Value.string):=b0.o.row.keep b4;have c6:(fs.take f).length=f:=by rw[EG];have:=an.o;have:=P.o;omega
            rw[Ce,c6]at ap;have bH:=b0.o.keep.trans b4;obtain⟨u,hu⟩:=An (AJ (BK ps d sp));have HU:Hid (AJ (BK ps d sp)=u):=hu;rw[hu];have dU:f+1<=maxLen:=by unfold maxLen;omega
            have dV:(f+1)*16<=140737488355328:=by omega
            have hH:(w3.alloc (.cells #[.string u] 9)).heap.size=w3.heap.size+1:=by simp
            have aQ:∀q x,([.string u]:List Value)[q]? =some x->(w3.alloc (.cells #[.string u] 9)).cell? ((⟨w3.heap.size,0,none⟩:Addr).add q)=some x:=Dq (cs:=#[.string u]) (AS w3 _);have c7:∀x∈([.string u]:List Value),x.oneCell'=true:=by simp[Value.oneCell']
            clear hu c6 b4 Q c5 k1 k2 kl ky k5;go_wp2_with(first|(at_builtin;refine CC _ rfl _ _ _ rfl 0 9 i0 _ 1 16 dm di dj dk dl rfl (by decide) (.slice ta tn tc) f _ rfl (ap.alloc _) ⟨w3.heap.size,0,none⟩ 1 1 [.string u] rfl rfl aQ c7 (by omega) dU dV (AY _) (w3.heap.size+1) hH ?_));intro g' cap wz aR aS c8 c9;have G:AA (Value.slice ta tn tc).ownBlock.toList w3 wz:=((AG _ w3).alloc _).trans (De aS);have b5:=b0.o.fresh;have da:(Value.slice ta tn tc).ownBlock=some g'∨w3.heap.size<=g':=c8.imp id fun h=>by omega
            have L5:GC w9 wz d ps fs (f+1) (.slice (some ⟨g',0,none⟩) (f+1) cap):=by
             refine⟨?_,?_,?_⟩
             ·have e1:fs.take (f+1)=fs.take f++[sp]:=by rw[Gj,b3.o.1];rfl
              have e2:(fs.take f).length=f:=by rw[EG];have:=an.o;have:=P.o;omega
              unfold Ca;rw[e1,Ce,AW,e2,Fq,Fq];simp only[D6,List.map_nil,HU.o];have e3:List.map Value.string (List.map (fun sp=>AJ (BK ps d sp)) (List.take f fs))=List.take f (List.map (Value.string∘fun sp=>AJ (BK ps d sp)) fs):=by rw[List.map_map,List.map_take]
              rw[e3];exact aR
             ·intro y hy;cases hy;rcases da with h|h
              ·exact b5 _ h
              ·have:=bH.size;show w9.heap.size<=g';omega
             ·exact bH.fresh G (by
               intro y hy;rw[Ay]at hy;exact AE (b5 y hy))
            have dW:Hid (GC w9 wz d ps fs (f+1) (.slice (some ⟨g',0,none⟩) (f+1) cap)):=L5;clear aR aS aQ hH c7 G ap c8 da L5 c9 b5;go_wp2_with fail;go_roundw
            case rel=>exact⟨f+1,by go_num,P.o,⟨_,_,_,rfl⟩,AH ⟨dM.o,dW.o⟩⟩
            case measure=>have:=P.o;simp[intOf];omega
       case rest=>
        obtain⟨ts,aM,bn,db,bo,b6⟩:=hcut;obtain⟨wt,dX⟩:=AQ wc;subst dX;obtain⟨za,zn,zc,dY⟩:=A6 bn;subst dY;have dc:zn=ts.length:=by
         rcases bn.2 with⟨e,e2⟩|⟨_,_,_,e,_⟩
         ·cases e;exact e2.symm
         ·cases e;rfl
        have ab:Hid (zn=ts.length∧∀t∈ts,t.size<=10000):=⟨dc,bo⟩;have em:(zn:Int)<=100:=by omega
        have de:Hid (Dx w5 wt k (k.w W) ps ls (n+1) (O++BQ k (n+1) ts) (m+1)):=HL.o.take ak.o.1 ag.o (by rw[<-bV.o,<-a8.o];exact HV.o) aM db bo (cK.trans b6);have df:Hid (Ca wt (.slice za zn zc) ts):=bn;have dZ:Hid (O.length<=2100000000):=by show _<=_;have:=HL.o.len;have:=bU.o;omega
        have p0:=Ac b6 dI;clear aM bn db bo b6 dc cO aN bE;go_upto_region 36 with(first|(go_at_call 109;refine(fN _).mono ?_;rintro e w'⟨rfl,hw⟩;subst w'))
        have dh:((n+1:Nat):Int)=(n:Int)+1:=by omega
        have fD:=fun X=>Po (n+1) (by omega) X
        rw[dh]at fD;obtain⟨dg,bq⟩:=AQ (AJ (Bz (n+1)));rw[<-bq]at fD;have d3:Hid (dg=AJ (Bz (n+1))):=bq;have eo:dg.size<=4:=by rw[bq,Bp];exact Jw _
        clear bq dh p0;go_wp2_with fail;go_loopw [15,25] (fun bR b7 wx=>∃(j:Nat)(A:ByteArray),bR=.string A∧A=AJ (O++BQ k (n+1) (ts.take j))∧b7=.int .i64 j∧j<=zn∧wt=wx) (fun _ b7 _=>zn-(intOf b7).toNat)
        case atStart=>exact⟨0,_,rfl,by simp[BQ],rfl,AY _,rfl⟩
        case round=>
         obtain⟨U,A,rfl,hA,rfl,b8,d4⟩:=hrel;subst d4;have ep:A.size<=2200000000:=by
          rw[hA,Bp,AW];have I:=Jx k (n+1) (ts.take U) (fun t ht=>ab.o.2 t (List.mem_of_mem_take ht));have h2:(ts.take U).length<=100:=by rw[EG];have:=ab.o.1;omega
          have:=dZ.o;omega
         have HA:Hid (A=AJ (O++BQ k (n+1) (ts.take U))):=hA;have er:Hid (U<=zn):=b8;have dK:(U:Int)<=100:=by omega
         clear hA;by_cases C:U<zn
         rotate_left
         ·have ar:¬(U:Int)<(zn:Int):=by omega
          have HE:Hid (A=AJ (O++BQ k (n+1) ts)):=by
           show A=_;rw[HA.o,FC (by have:=ab.o.1;omega)]
          clear C b8;go_wp2_with fail;go_roundw
          case rel=>exact⟨n+1,_,m+1,by rw[HE.o],by go_num,by go_num,de.o⟩
          case measure=>have:=bU.o;simp[intOf];omega
         ·have ar:(U:Int)<(zn:Int):=by omega
          have cU:(0:Int)<=(U:Int):=by omega
          have P:Hid (U<zn):=C;obtain⟨tx,bs⟩:∃tx,ts[U]? =some tx:=⟨_,Ax (by have:=ab.o.1;omega)⟩;obtain⟨gz,rfl⟩:∃gz,za=some ⟨gz,0,none⟩:=by
           rcases df.o.2 with⟨e,e2⟩|⟨gz,_,_,e,_⟩
           ·exfalso;have:=ab.o.1;omega
           ·cases e;exact⟨gz,rfl⟩
          have es:wt.cell? ⟨gz,U,none⟩=some (.string tx):=by
           have h:=df.o;unfold Ca at h;rw[ab.o.1]at h;rw[BX h U (by have:=ab.o.1;omega),FV,bs];rfl
          have bo:tx.size<=10000:=ab.o.2 tx (C8 bs);have bm:Hid ((kn=true->A++dg++⟨#[58]⟩++tx++⟨#[10]⟩=AJ (O++BQ k (n+1) (ts.take (U+1))))∧(kn=false->A++tx++⟨#[10]⟩=AJ (O++BQ k (n+1) (ts.take (U+1))))):=by
           have h:=Wn k (n+1) O ts U tx bs;rw[<-dv.o,<-HA.o,<-d3.o]at h;exact h
          clear C b8 bs;cases kn
          ·go_wp2_with fail;go_roundw
           case rel=>exact⟨U+1,_,rfl,bm.o.2 rfl,by go_num,P.o,trivial⟩
           case measure=>have:=P.o;simp[intOf];omega
          ·go_wp2_with(first|(go_at_call 111;refine(fD _).mono ?_;rintro e w'⟨rfl,hw⟩;subst w'));go_roundw
           case rel=>exact⟨U+1,_,rfl,bm.o.1 trivial,by go_num,P.o,trivial⟩
           case measure=>have:=P.o;simp[intOf];omega
def Gq:ByteArray:=⟨#[109,97,114,107]⟩
def GG:ByteArray:=⟨#[119,114,105,116,116,101,110,32,111,118,101,114]⟩
structure Bn (w : World) (h m : Nat) (R : Nat -> ByteArray) : Prop where
 th : w.there h 0 m
 rg : ∀ k, k < m -> w.cell? ⟨h, k, none⟩ = some (.string (R k))
theorem Bn.fz{R:Nat->ByteArray}(H:Bn w h m R){i:Nat}(hi:i<m):w.frozen? ⟨h,i,none⟩=false:=by
 have:=(H.th i hi).2;rw[Ba]at this;exact this
theorem Bn.put{R:Nat->ByteArray}(H:Bn w h m R){i:Nat}(hi:i<m)(r:ByteArray):Bn (w.setCell ⟨h,i,none⟩ (.string r)) h m (fun k=>if k=i then r else R k):=by
 have key:∀k,k<m->(w.setCell ⟨h,i,none⟩ (.string r)).cell? ⟨h,k,none⟩=some (.string (if k=i then r else R k)):=fun k a=>by
  by_cases e:k=i
  ·subst e;rw[AL rfl];exact Ea _ _ _ (by rw[H.rg k a])
  ·rw[AK e];exact(Dr _ _ _ _ (fun h=>e (by cases h;rfl))).trans (H.rg k a)
 refine⟨fun k a=>⟨?_,?_⟩,key⟩
 ·rw[Ba,key k a];rfl
 ·rw[Ba,World.frozen?_setCell];exact H.fz a
theorem Bn.ext{R a:Nat->ByteArray}(H:Bn w h m R)(e:∀k,k<m->R k=a k):Bn w h m a:=⟨H.th,fun k b=>by rw[<-e k b];exact H.rg k b⟩
theorem Bn.lt{R:Nat->ByteArray}(H:Bn w h m R)(hm:0<m):h<w.heap.size:=BV _ _ (H.rg 0 hm)
theorem Bn.keep{w':World}{R:Nat->ByteArray}{S:List Nat}(H:Bn w h m R)(hm:0<m)(a:AA S w w')(c:h∉S):Bn w' h m R:=by
 have hb:=a.block h (H.lt hm) c;exact⟨fun j b=>⟨by rw[Ad hb];exact(H.th j b).1,by rw[Fm hb];exact(H.th j b).2⟩,fun k a=>(Ad hb).trans (H.rg k a)⟩
theorem Wp{v:Value}{l:List ByteArray}{R:Nat->ByteArray}(ty:TypeId)(n:BB w v l)(H:Bn w h m R)(hm:l.length<=m):(Builtin.copy_ #[43,43] ty #[.slice (some ⟨h,0,none⟩) m m,v]).run Tryz.prog w=.ok (goInt l.length) (w.setCells h 0 (l.map Value.string)):=by
 have hu:=Gm;have k:(Tryz.prog.info? 9).map (·.size)=some 1:=by kernel_rfl
 have d:w.there h 0 (l.map Value.string).length:=fun j b=>H.th j (by rw[Ce]at b;omega)
 rcases n.rd with⟨rfl,a,c,rfl⟩|⟨g,o,c,rfl,p,_⟩
 ·cases a with
  |none=>
   obtain⟨i0,f,q,r,s⟩:=A2 Ip;simp[Builtin.copy_,run_underlying hu,Builtin.lenOf,Builtin.firstCells,sizeOf,typeInfo,f,World.setCells,storeCells]
  |some t=>exact Lo w _ _ ty 9 1 h 0 m m t 0 c 0 [] hu k (by simp) rfl (fun j v h=>by simp at h) (fun j b=>by simp at b) (fun v i=>by cases i)
 ·refine Lo w _ _ ty 9 1 h 0 m m ⟨g,o,none⟩ l.length c l.length _ hu k (Nat.min_eq_left hm) (by rw[Ce];omega) (fun j u b=>?_) d (fun v i=>?_)
  ·rw[FV]at b;cases e:l[j]? with
   |none=>rw[e]at b;cases b
   |some a=>
    rw[e]at b;cases b;simp only[Addr.add_lit];exact p j a e
  ·obtain⟨a,_,rfl⟩:=List.mem_map.1 i;rfl
theorem Bn.copied{l:List ByteArray}(H:Bn w h m (fun _=>⟨#[]⟩))(hm:l.length<=m):Bn (w.setCells h 0 (l.map Value.string)) h m (fun k=>l[k]?.getD ⟨#[]⟩):=by
 have a:w.there h 0 (l.map Value.string).length:=fun j b=>H.th j (by rw[Ce]at b;omega)
 refine⟨World.there_setCells H.th _ _ _,fun k c=>?_⟩;cases e:l[k]? with
 |none=>
  have f:=List.getElem?_eq_none_iff.1 e;have d:w.rangeAt h k [.string ⟨#[]⟩]:=fun q u hu=>by
   cases q with
   |zero=>cases hu;rw[Di];exact H.rg k c
   |succ q=>simp at hu
  have:=World.rangeAt_setCells_apart d h 0 (l.map Value.string) (AE (AE (by rw[Ce];omega)));exact this 0 _ rfl
 |some r=>
  have:=World.rangeAt_setCells_same w h 0 (l.map Value.string) a k (.string r) (by rw[FV,e];rfl);rw[Ba]at this;exact this
theorem Bn.made{c:Nat}(H:w.ownsRow 0 9 1 (.slice (some ⟨h,0,none⟩) m c) m (madeCells #[.string ⟨#[]⟩] (m*1)).toList):Bn w h m (fun _=>⟨#[]⟩):=by
 have key:∀k,k<m->w.cell? ⟨h,k,none⟩=some (.string ⟨#[]⟩):=fun k a=>by
  rw[BX H k (by omega)];simp[madeCells,a,Nat.mod_one]
 exact⟨fun j b=>⟨by rw[Ba,key j b];rfl,by rw[Ba];exact D8 H j⟩,key⟩
theorem Bn.args{R:Nat->ByteArray}{l:List ByteArray}(H:Bn w h m R)(hm:l.length<=m)(d:m<=9223372036854775807)(b:∀a∈l,a.size<=9223372036854775807)(e:∀(k:Nat)(r:ByteArray),l[k]? =some r->R k=r):BB w (.slice (some ⟨h,0,none⟩) l.length m) l:=
 ⟨by omega,AE ⟨h,0,m,rfl,fun k r c=>by
  have:=H.rg k (by have:=(BT.1 c).1;omega);rw[e k r c]at this;rw[Ba];exact this,hm,d⟩,b⟩
theorem GT.up{X:World}(h:GT w.heap.size w)(a:AA [] w X):GT X.heap.size X:=fun Y b=>h Y (C6 (Ed a (AP _) (by simp)) (GD b a.size))
def Fb(l:List ByteArray)(n i k:Nat):ByteArray:=if n<=k∧k<i then Gq else l[k]?.getD ⟨#[]⟩
def E7(l:List ByteArray)(n m i k:Nat):ByteArray:=if k<i then GG else Fb l n m k
