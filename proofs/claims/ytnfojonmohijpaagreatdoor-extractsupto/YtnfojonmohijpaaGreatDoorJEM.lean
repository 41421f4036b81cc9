/-
  DERIVED. The contract of the law 'extract': its walk. Conditions: as in the text before.
-/
import Derived.Test.YtnfojonmohijpaaGreatDoorJEJ
import Derived.ProofKit
import Derived.Deep.Slices
import Derived.Deep.Strs
import Derived.Test.YtnfojonmohijpaaGreatDoorRows
import Derived.LaidMore
import Derived.OpenShut
import Derived.Stop.Joined
import Derived.ChangeMaps5
import Derived.Lib.LaidU8
import Derived.Lib.LaidTab
set_option linter.all false
set_option maxRecDepth 100000
set_option maxHeartbeats 8000000
namespace Go.Proofs.YtnfojonmohijpaaGreatDoor
open Go.RowKit Go.ChangeShapes Go.WideShapes Go.ChangeAt Go.WideMaps Go.WideElems
variable{i:Nat}{s:ByteArray}{W:World}
theorem Bn.next{w:World}{h m:Nat}{l:List ByteArray}{n:Nat}(H:Bn w h m (Fb l n i))(hi:i<m)(b:n<=i):Bn (w.setCell ⟨h,i,none⟩ (.string Gq)) h m (Fb l n (i+1)):=(H.put hi Gq).ext fun k _=>by
 unfold Fb;by_cases e:k=i
 ·rw[AL e,AL (by omega)]
 ·rw[AK e];by_cases a:n<=k∧k<i
  ·rw[AL a,AL (by omega)]
  ·rw[AK a,AK (by omega)]
theorem Bn.wipe{w:World}{h m:Nat}{l:List ByteArray}{n:Nat}(H:Bn w h m (E7 l n m i))(hi:i<m):Bn (w.setCell ⟨h,i,none⟩ (.string GG)) h m (E7 l n m (i+1)):=(H.put hi GG).ext fun k _=>by
 unfold E7;by_cases e:k=i
 ·rw[AL e,AL (by omega)]
 ·rw[AK e];by_cases a:k<i
  ·rw[AL a,AL (by omega)]
  ·rw[AK a,AK (by omega)]
theorem Cc.form{l:List ByteArray}{e:Ending}(h:Cc l s e):∃a b,e=.returned (.tuple #[.string a,.int .i64 b]):=by
 cases h with
 |args=>exact⟨_,_,rfl⟩
 |long=>exact⟨_,_,rfl⟩
 |run=>exact⟨_,_,rfl⟩
theorem Wq(v:Value)(l:List ByteArray)(s:ByteArray)(w:World)(S:BB w v l)(T:BM l<=1048576)(U:l.length<=1048576)(aq:GN w)(ar:GT w.heap.size w):Calls Tryz.prog 27 #[v,.string s] w fun e w'=>e=.returned (.bool true)∧AA [] w w':=by
 obtain⟨va,vc,rfl⟩:=S.sl;obtain⟨n,L⟩:=AQ l.length;have E:Hid (n=l.length∧l.length<=1048576∧BM l<=1048576):=⟨L,U,T⟩;rw[<-L]at S⊢;have aF:(n:Int)<=1048576:=by omega
 obtain⟨i0,au,aw,ax,ay⟩:=A2 Ip;have V:=Gm;have W:Hid (∀a∈l,a.size<=9223372036854775807):=S.sz;obtain⟨m,hm⟩:=AQ (n+8);have t:Hid (m=n+8):=hm;clear hm T U L;go_enter Tryz.func27,Tryz.ntmps27;go_upto_region 3 with(first|(refine D9 w rfl _ _ 43 rfl 0 9 i0 (.string ⟨#[]⟩) 1 V au aw ax .i64 .i64 ((n:Int)+8) ((n:Int)+8) m rfl rfl (by have:=t.o;omega) (by have:=t.o;omega) (by have:=t.o;rw[ay];omega) (by have:=t.o;unfold maxLen;omega) (AY _) ?_;intro w2 J Y))
 have F:=Bn.made J;have M:AA [] w w2:=Ci Y;obtain⟨h,hh⟩:=An w.heap.size;rw[hh]at F⊢;have HH:Hid (w.heap.size=h):=hh;have Z:=S.keep M;have N:=Wp 3 Z F (by have:=E.o;have:=t.o;omega);have aa:=F.copied (l:=l) (by have:=E.o;have:=t.o;omega);have b:AA [h] w2 (w2.setCells h 0 (l.map Value.string)):=F4 (by simp) _ w2 0 (AG [h] w2);have ab:AA [] w (w2.setCells h 0 (l.map Value.string)):=M.fresh b (by intro x C;simp at C;have:=HH.o;omega);rw[<-E.o.1]at N;clear Y J M hh F Z b;go_upto_region 4 with(first|(refine Lib.wpList_copy_run w2 rfl (.tmp 19) (.tmp 20) 43 43 rfl (.slice (some ⟨h,0,none⟩) m m) (.slice va n vc) rfl rfl N ?_;generalize w2.setCells h 0 (l.map Value.string)=w3 at*))
 clear N;have ac:Bn w3 h m (Fb l n n):=aa.ext fun k _=>by unfold Fb;rw[AK (by omega)]
 have aG:(n:Int)+8=(m:Int):=by have:=t.o;omega
 have aH:wrap64 (m:Int)=(m:Int):=by have:=t.o;unfold wrap64;omega
 have aI:(m:Int)<=1048584:=by have:=t.o;omega
 clear aa;go_wp2_with fail;go_loopw [7] (fun q7 wr=>∃i:Nat,q7=.int .i64 i∧n<=i∧i<=m∧Bn wr h m (Fb l n i)∧AA [] w wr) (fun q _=>m-(intOf q).toNat)
 case atStart=>exact⟨n,rfl,AP _,by have:=t.o;omega,ac,ab⟩
 case round=>
  clear ac ab;obtain⟨i,rfl,G,A,B,y⟩:=hrel;have aE:(0:Int)<=(i:Int):=by omega
  by_cases hlt:i<m
  ·have D:(i:Int)<(m:Int):=by omega
   have z:Hid (i<m∧n<=i):=⟨hlt,G⟩;have ae:=B.fz hlt;have af:=B.rg i hlt;have j:=B.next hlt G;have b:AA [h] wr (wr.setCell ⟨h,i,none⟩ (.string Gq)):=(AG [h] wr).setCell (by simp) _;have p:AA [] w (wr.setCell ⟨h,i,none⟩ (.string Gq)):=y.fresh b (by intro x C;simp at C;have:=HH.o;omega);unfold Gq at j p;clear B b G A hlt y;go_wp2_with fail;go_roundw
   case rel=>exact⟨i+1,by go_num,by have:=z.o;omega,z.o.1,j,p⟩
   case measure=>have:=z.o;simp[intOf];omega
  ·have O:i=m:=by omega
   subst O;have D:¬(i:Int)<(i:Int):=by omega
   have Q:Hid (Bn wr h i (E7 l n i 0)∧AA [] w wr):=⟨B.ext fun k _=>by unfold E7;rw[AK (by omega)],y⟩;have ag:Hid (BB wr (.slice (some ⟨h,0,none⟩) n i) l):=by
    have h1:=B.args (l:=l) (by have:=E.o;have:=t.o;omega) (by have:=t.o;have:=E.o;omega) W.o (fun k r hk=>by unfold Fb;rw[AK (by have:=(BT.1 hk).1;have:=E.o.1;omega),hk];rfl);rw[<-E.o.1]at h1;exact h1
   have heq:=fun X:World=>Lib.run_eql_slice_nil (P:=Tryz.prog) X 43 9 va n vc 0 0 V
   have H:Hid (BB w (.slice va n vc) l):=S;have ah:=aq.keep y (by simp);have ai:=ar.up y;clear hlt G A B y S
   go_upto_if 36 with(fail)
   go_cut [8]from 37 to 37 (fun q8 wx=>BB wx q8 l∧wx=wr)
   case first=>
    cases va with
    |none=>
     go_wp2_with fail;go_meet;exact⟨⟨H.o.len,AH ⟨(by
      rcases H.o.rd with⟨h0,_⟩|⟨g,o,c,e,_⟩
      ·exact h0
      ·cases e),none,0,rfl⟩,W.o⟩,rfl⟩
    |some ad=>
     go_wp2_with fail;go_meet;exact⟨ag.o,rfl⟩
   case rest=>
    obtain⟨aj,rfl⟩:=hcut;clear ag heq;generalize va.isNone=bn;go_wp2_with fail;refine(Pm _ l s _ ah aj ai).mono ?_;rintro e w5⟨hE,R⟩;obtain⟨ra,rb,rfl⟩:=hE.form;have HE:Hid (Cc l s (.returned (.tuple #[.string ra,.int .i64 rb]))):=hE;have ak:=Q.o.1.keep (by have:=t.o;omega) R (by simp);have al:=Q.o.2.trans R;obtain⟨m,hm⟩:=AQ i;subst hm;clear hE R aj ah ai Q;go_wp2_with fail;go_loopw [11] (fun az wr=>∃i:Nat,az=.int .i64 i∧i<=m∧Bn wr h m (E7 l n m i)∧AA [] w wr) (fun q _=>m-(intOf q).toNat)
    case atStart=>exact⟨0,rfl,AY _,ak,al⟩
    case round=>
     clear ak al;obtain⟨i,rfl,A,B,y⟩:=hrel;have aA:(0:Int)<=(i:Int):=by omega
     by_cases hlt:i<m
     ·have D:(i:Int)<(m:Int):=by omega
      have z:Hid (i<m):=hlt;have a0:=B.rg i hlt;have I:Hid (Bn wr h m (E7 l n m i)∧AA [] w wr):=⟨B,y⟩;by_cases hin:i<n
      ·have K:(i:Int)<(n:Int):=by omega
       have am:decide ((i:Int)<(n:Int))=true:=by simpa using K
       obtain⟨x,C⟩:∃x,l[i]? =some x:=⟨_,Ax (by have:=E.o.1;omega)⟩;obtain⟨g,o,aB,b0⟩:=(H.o.keep y).at C;subst aB;have hR:E7 l n m i i=x:=by unfold E7 Fb;rw[AK (by omega),AK (by omega),C];rfl
       rw[hR]at a0;have aC:decide ((n:Int)<=(i:Int))=false:=by simp;omega
       have an:¬(n:Int)<=(i:Int):=by omega
       have aJ:(x.data.toList==x.data.toList)=true:=by simp
       clear B y hin hlt A hR C;go_upto_region 15 with(fail)
       go_quiet (fail);have f:AA [] wr (wr.drewN nq):=(AG [] wr).drewN nq;have d:=I.o.1.keep (by have:=t.o;omega) f (by simp);have u:=I.o.2.trans f;generalize wr.drewN nq=X at f d u⊢;have ae:=d.fz z.o;have af:=d.rg i z.o;have j:=d.wipe z.o;have b:AA [h] X (X.setCell ⟨h,i,none⟩ (.string GG)):=(AG [h] X).setCell (by simp) _;have p:AA [] w (X.setCell ⟨h,i,none⟩ (.string GG)):=u.fresh b (by intro x C;simp at C;have:=HH.o;omega);unfold GG at j p;clear d u b f a0 b0;go_wp2_with fail;go_roundw
       case rel=>exact⟨i+1,by go_num,z.o,j,p⟩
       case measure=>have:=z.o;simp[intOf];omega
      ·have K:¬(i:Int)<(n:Int):=by omega
       have am:decide ((i:Int)<(n:Int))=false:=by simp;omega
       have hR:E7 l n m i i=Gq:=by unfold E7 Fb;rw[AK (by omega),AL (by omega)]
       rw[hR]at a0;unfold Gq at a0;have aC:decide ((n:Int)<=(i:Int))=true:=by simp;omega
       have an:(n:Int)<=(i:Int):=by omega
       clear B y hin hlt A hR;go_upto_region 15 with(fail)
       go_quiet (fail);have f:AA [] wr (wr.drewN nq):=(AG [] wr).drewN nq;have d:=I.o.1.keep (by have:=t.o;omega) f (by simp);have u:=I.o.2.trans f;generalize wr.drewN nq=X at f d u⊢;have ae:=d.fz z.o;have af:=d.rg i z.o;have j:=d.wipe z.o;have b:AA [h] X (X.setCell ⟨h,i,none⟩ (.string GG)):=(AG [h] X).setCell (by simp) _;have p:AA [] w (X.setCell ⟨h,i,none⟩ (.string GG)):=u.fresh b (by intro x C;simp at C;have:=HH.o;omega);unfold GG at j p;clear d u b f a0;go_wp2_with fail;go_roundw
       case rel=>exact⟨i+1,by go_num,z.o,j,p⟩
       case measure=>have:=z.o;simp[intOf];omega
     ·have O:i=m:=by omega
      subst O;have D:¬(i:Int)<(i:Int):=by omega
      have hX:=Wo (.slice va n vc) l s wr (H.o.keep y) E.o.2.2 E.o.2.1;clear hlt A B;go_wp2_with fail;refine hX.mono ?_;rintro e w6⟨ao,ap⟩;cases HE.o.det ao;have aD:=y.trans ap;have h1:(ra.data.toList==ra.data.toList)=true:=by simp
      have h2:((rb:Int)==rb)=true:=by simp
      clear hX ao ap y HE;go_wp2_with fail;go_ret;exact⟨rfl,aD⟩
theorem BF.hits{W:Whole}{fr j:Nat}{ans:Option (List Int)}(h:BF s W fr ans)(a:Gi s W fr i j)(b:W.g=0):ans=some [(i:Int),(j:Int)]:=by
 rcases h with⟨_,h⟩|⟨d,f,t,ev,c,_,h⟩
 ·exact absurd a.2.2.2.1 (h i j a.1 a.2.1 a.2.2.1)
 ·obtain⟨rfl,rfl⟩:=a.one c;rw[h];have e:evs (List.replicate (2*W.g) (-1)) ev=[]:=FK.1 (by rw[Jd,b];rfl);exact B4 some (by rw[e];rfl)
theorem BF.misses{W:Whole}{fr:Nat}{ans:Option (List Int)}(h:BF s W fr ans)(b:∀i j,fr<=i->i<=j->j<=s.size->¬B2 s W i j):ans=none:=by
 rcases h with⟨h,_⟩|⟨i,j,t,ev,a,_,_⟩
 ·exact h
 ·exact absurd a.2.2.2.1 (b i j a.1 a.2.1 a.2.2.1)
theorem Ko{f:Nat->Bool}:∀{n i j:Nat},It (Mt s (.set f)) n i j↔j=i+n∧∀k,i<=k->k<j->k<s.size∧f (at' s k).toNat=true
 |0,i,j=>⟨fun h=>⟨by have:i=j:=h;omega,fun k b a=>by have:i=j:=h;omega⟩,fun h=>by show i=j;omega⟩
 |n+1,i,j=>by
  constructor
  ·rintro⟨m,⟨b,a,rfl⟩,c⟩;obtain⟨rfl,d⟩:=Ko.1 c;refine⟨by omega,fun k l g=>?_⟩;by_cases e:k=i
   ·subst e;exact⟨b,a⟩
   ·exact d k (by omega) g
  ·rintro⟨rfl,h⟩;exact⟨i+1,⟨(h i (AP _) (by omega)).1,(h i (AP _) (by omega)).2,rfl⟩,Ko.2 ⟨by omega,fun k b a=>h k (by omega) a⟩⟩
theorem Jy{f:Nat->Bool}{a j:Nat}:Mt s (.wone (.pcons (.rep a (-1) (.set f)) .pnil)) i j↔i+a<=j∧∀k,i<=k->k<j->k<s.size∧f (at' s k).toNat=true:=by
 constructor
 ·rintro⟨m,⟨n,c,_,h⟩,rfl⟩;obtain⟨rfl,h⟩:=Ko.1 h;exact⟨by omega,h⟩
 ·rintro⟨d,b⟩;exact⟨j,⟨j-i,by omega,AH (by decide),Ko.2 ⟨by omega,b⟩⟩,rfl⟩
theorem Wr:Sg [91,48,45,57,93] (.set (A0 48 57)):=by
 refine⟨⟨91,[48,45,57,93],rfl,by unfold Iu;decide,by unfold Cw;decide⟩,fun s i d g a=>?_⟩;obtain⟨h,a⟩:=CF.cons.1 a;obtain⟨j,a⟩:=CF.cons.1 a;obtain⟨k,a⟩:=CF.cons.1 a;obtain⟨l,a⟩:=CF.cons.1 a;obtain⟨m,_⟩:=CF.cons.1 a;have b:at' s (i+1)=48:=j;have c:at' s (i+1+1)=45:=k;have e:at' s (i+1+1+1)=57:=l;have f:at' s (i+1+1+1+1)=93:=m;have n:Am s (i+1)=.ok (A0 48 57) (i+1+1+1+1):=by simp[Am,Ar,R.bind,b,c,e]
 exact G.set d g i (.ok _ (i+5)) h (AE ⟨by rw[b];decide,DH.go _ (i+1) _ _ n (EY.done _ _ f)⟩)
def Fc:ByteArray:=⟨#[91,48,45,57,93,43]⟩
def MS:ByteArray:=⟨#[97,49,98,50,50,10,120,10]⟩
def Iv:ByteArray:=⟨#[45,111,110]⟩
def exD:Whole:=⟨false,false,.wone (.pcons (.rep 1 (-1) (.set (A0 48 57))) .pnil),0⟩
def Hu:AX:={kI with o:=true,n:=true}
theorem Wt:B6 Fc (.ok exD 6):=(Ws.one (Wy.single Wr Rx.plus)).whole (by decide) (by decide) (by decide) Fc rfl
theorem Wu:BI [Iv,Fc] kI (some (Hu,Fc)):=.let' Iv [Fc] kI Hu _ (by decide) (by decide) (by decide) rfl (Wk Fc (by decide) _)
theorem Pw:Cb [Iv,Fc] (some (Hu,exD,[.grp 0])):=Wl Wu rfl (by decide) Wt (by decide) (tpl0 _)
def EW:ByteArray:=⟨#[97,49,98,50,50]⟩
def Iw:ByteArray:=⟨#[120]⟩
theorem Px:By MS=[EW,Iw]:=by decide
theorem MT:(A0 48 57 (at' EW 0).toNat=false∧A0 48 57 (at' EW 1).toNat=true∧A0 48 57 (at' EW 2).toNat=false∧A0 48 57 (at' EW 3).toNat=true∧A0 48 57 (at' EW 4).toNat=true)∧EW.size=5:=by decide
theorem Py:A0 48 57 (at' Iw 0).toNat=false∧Iw.size=1:=by decide
theorem MU{j:Nat}(h:A0 48 57 (at' s i).toNat=false):¬B2 s exD i j:=fun a=>by
 have b:=Jy.1 a.1;have:=(b.2 i (AP _) (by omega)).2;rw[h]at this;cases this
theorem Kp:Gi EW exD 0 1 2:=by
 obtain⟨⟨a0,e,a2,a3,a4⟩,b⟩:=MT;refine⟨by decide,by decide,by rw[b];decide,⟨Jy.2 ⟨by decide,fun k c d=>?_⟩,fun h=>(Bool.noConfusion h),fun h=>(Bool.noConfusion h)⟩,fun f g _ d _ _=>?_,fun g c d a=>?_⟩
 ·obtain rfl:k=1:=by omega
  exact⟨by rw[b];decide,e⟩
 ·obtain rfl:f=0:=by omega
  exact MU a0
 ·have:=((Jy.1 a.1).2 2 (by decide) c).2;rw[a2]at this;cases this
theorem MW:Gi EW exD 2 3 5:=by
 obtain⟨⟨a0,g,a2,a3,a4⟩,a⟩:=MT;refine⟨by decide,by decide,by rw[a];decide,⟨Jy.2 ⟨by decide,fun k c b=>?_⟩,fun h=>(Bool.noConfusion h),fun h=>(Bool.noConfusion h)⟩,fun d e c b _ _=>?_,fun e c b f=>by rw[a]at b;omega⟩
 ·rcases(by omega:k=3∨k=4)with rfl|rfl
  ·exact⟨by rw[a];decide,a3⟩
  ·exact⟨by rw[a];decide,a4⟩
 ·obtain rfl:d=2:=by omega
  exact MU a2
theorem Wv{fs:List (List Int)}(h:Bl EW exD 0 fs):fs=[[1,2],[3,5]]:=by
 have g:=MT.2;have f:∀{fs:List (List Int)},Bl EW exD 5 fs->fs=[]:=fun h=>by
  cases h with
  |fin=>rfl
  |none=>rfl
  |hit _ _ _ _ _ h=>omega
  |empty _ _ _ _ _ h=>omega
 have s2:∀{fs:List (List Int)},Bl EW exD 2 fs->fs=[[3,5]]:=fun h=>by
  cases h with
  |fin _ h=>omega
  |none _ _ h=>cases h.hits MW rfl
  |hit _ i j r fs _ h a b=>
   have e:=h.hits MW rfl;simp only[Ai,Bc]at e;obtain⟨c,d,rfl⟩:=e;obtain rfl:j=5:=by omega
   obtain rfl:i=3:=by omega
   rw[f b];rfl
  |empty _ i j r fs _ h a b=>
   have e:=h.hits MW rfl;simp only[Ai,Bc]at e;obtain⟨c,d,_⟩:=e;omega
 cases h with
 |fin _ h=>omega
 |none _ _ h=>cases h.hits Kp rfl
 |hit _ i j r fs _ h a b=>
  have e:=h.hits Kp rfl;simp only[Ai,Bc]at e;obtain⟨c,d,rfl⟩:=e;obtain rfl:j=2:=by omega
  obtain rfl:i=1:=by omega
  rw[s2 b];rfl
 |empty _ i j r fs _ h a b=>
  have e:=h.hits Kp rfl;simp only[Ai,Bc]at e;obtain⟨c,d,_⟩:=e;omega
def Ww:List UInt8:=[49,58,49,10,49,58,50,50,10]
theorem Wx{o:List UInt8}{m:Nat}(h:Ct Hu exD [.grp 0] 0 [EW,Iw] o m):o=Ww∧m=1:=by
 have b:∀{s:ByteArray}{ans:Option (List Int)},CP s exD Hu.x ans->BF s exD 0 ans:=fun h=>by
  unfold CP at h;rw[AK (by decide)]at h;exact h
 have k:∀{o:List UInt8}{m:Nat},Ct Hu exD [.grp 0] 1 [Iw] o m->o=[]∧m=0:=fun h=>by
  have e:∀{ans:Option (List Int)},CP Iw exD Hu.x ans->ans=none:=fun h=>(b h).misses fun i j _ l r c=>by
   have t:=Jy.1 c.1;have u:=Py.2;have:i=0:=by omega
   subst this;exact MU Py.1 c
  cases h with
  |skip _ _ _ o m ans _ _ f=>cases f;exact⟨rfl,rfl⟩
  |take _ _ _ _ _ _ ans d a=>rw[e d]at a;exact absurd rfl a
 cases h with
 |skip _ _ _ _ _ ans d a=>rw[(b d).hits Kp rfl]at a;cases a
 |take _ _ _ o p m ans d a _ n f=>
  obtain⟨rfl,rfl⟩:=k f;obtain⟨ts,g,rfl⟩:=n rfl;unfold Bm at g;rw[AK (by decide),AK (by decide),AK (by decide)]at g;obtain⟨fs,q,rfl⟩:=g;rw[Wv q];exact⟨by decide+kernel,rfl⟩
theorem Wz{e:Ending}(h:Cc [Iv,Fc] MS e):e=.returned (.tuple #[.string ⟨#[49,58,49,10,49,58,50,50,10]⟩,.int .i64 0]):=by
 cases h with
 |args h=>cases h.det Pw
 |long k W ps _ h=>
  rcases h with h|⟨a,b,h⟩
  ·exact absurd h (by decide)
  ·rw[Px]at b;simp only[Az,List.not_mem_nil,or_false]at b;rcases b with rfl|rfl
   ·exact absurd h (by decide)
   ·exact absurd h (by decide)
 |run k W ps o m h _ _ c=>
  cases h.det Pw;rw[Px]at c;obtain⟨rfl,rfl⟩:=Wx c;rfl
theorem W1(v:Value)(l:List ByteArray)(s:ByteArray)(w:World)(q:BB w v l)(n:BM l<=1048576)(o:l.length<=1048576)(d:GN w)(f:GT w.heap.size w):Calls Tryz.prog 8 #[v,.string s] w fun e w'=>e=.returned (.bool true)∧AA [] w w':=by
 have c:=AS w (.cells #[.string ⟨#[45,111,110]⟩,.string ⟨#[91,48,45,57,93,43]⟩] 9);have b:AA [] w (w.alloc (.cells #[.string ⟨#[45,111,110]⟩,.string ⟨#[91,48,45,57,93,43]⟩] 9)):=(AG [] w).alloc _;have g:BB (w.alloc (.cells #[.string ⟨#[45,111,110]⟩,.string ⟨#[91,48,45,57,93,43]⟩] 9)) (.slice (some ⟨w.heap.size,0,none⟩) 2 2) [Iv,Fc]:=by
  refine⟨by decide,AE ⟨w.heap.size,0,2,rfl,fun k r h=>?_,by decide,by decide⟩,by decide⟩;rw[AU c]
  match k,h with
  |0,h=>cases h;rfl
  |1,h=>cases h;rfl
 have i:=d.keep b (by simp);have j:=f.up b;clear c;go_enter Tryz.func8,Tryz.ntmps8;go_wp2_with fail;refine(Pm _ [Iv,Fc] MS _ i g j).mono ?_;rintro e w2⟨t,m⟩;cases Wz t;have a:=b.trans m;have u:=Wq v l s w2 (q.keep a) n o (d.keep a (by simp)) (f.up a);clear g i j t b m d f q;go_wp2_with fail;refine u.mono ?_;rintro e w3⟨rfl,hk3⟩;have p:=a.trans hk3;clear u a hk3;go_wp2_with fail;go_ret;exact⟨rfl,p⟩
theorem Pz{H:Type}:∀l:List ByteArray,Rows.uptoBulkAll (l.map fun s=>(DataW.lit (H:=H) (.string s.data.toList)))=BM l+l.length
 |[]=>by simp[Rows.uptoBulkAll,BM]
 |a::l=>by
  have ih:=Pz (H:=H) l;simp only[D6,Rows.uptoBulkAll,ih];have e:Rows.uptoBulk (DataW.lit (H:=H) (.string a.data.toList))=a.size+1:=by simp[Rows.uptoBulk]
  rw[e];unfold BM;simp only[D6,List.sum_cons,Aj];omega
theorem W5{H:Type}{B:TypeId×Value->H}{base:Nat}{v:Value}{d:DataW H}{p:List MemPlace}(L:Value.okWide Tryz.prog W .any base 43 v)(h:DataW.Trod B Tryz.prog W 0 (fun _=>true) true 43 v d p):∃l,BB W v l∧BM l+l.length<=Rows.uptoBulk d:=by
 obtain⟨a0,c,G,rfl⟩:=okWide_slice Gm L;obtain⟨fuel,M⟩:=h;have C:Tryz.prog.cellsOf 9=1:=by kernel_rfl
 rcases Go.Deep.open_slice1 Gm C M with⟨f,_⟩|⟨x,len,cap,m,n,V,D,Y,f,_,N,hm,u,hd,I⟩
 ·simp[Value.cells]at f;obtain⟨rfl,rfl,rfl⟩:=f;exact⟨[],⟨by simp,AH ⟨rfl,none,0,rfl⟩,by simp⟩,by simp[BM]⟩
 ·simp[Value.cells]at f;obtain⟨rfl,rfl,rfl⟩:=f;simp only[if_true]at u;subst u;have key:∀i,i<c->∃r:ByteArray,V i=.string r∧D i=.lit (.string r.data.toList)∧r.size<=maxLen:=by
   intro i hi;obtain⟨_,O⟩:=I i (by omega);obtain⟨P,J,K,Q⟩:=DataW.trod_string GQ O;simp only[Bc,CD]at J;simp only[Prod.mk.injEq]at K;exact⟨P,J,K.1,Q⟩
  haveI:Inhabited ByteArray:=⟨⟨#[]⟩⟩
  obtain⟨R,E⟩:=Go.Deep.choose_lt key;unfold maxLen at hm;have g:((List.range c).map R).length=c:=by simp
  have q:BM ((List.range c).map R)+((List.range c).map R).length<=Rows.uptoBulk d:=by
   simp only[Prod.mk.injEq]at hd;rw[hd.1,<-Pz (H:=H)];have e:(List.range c).map D=((List.range c).map R).map fun s=>(DataW.lit (H:=H) (.string s.data.toList)):=by
    rw[List.map_map];exact List.map_congr_left fun i hi=>(E i (List.mem_range.1 hi)).2.1
   rw[<-e];simp only[Rows.uptoBulk];omega
  by_cases S:c=0
  ·subst S;exact⟨[],⟨by simp,AH ⟨rfl,_,_,rfl⟩,by simp⟩,by simp[BM]⟩
  have w:∀i,i<c->W.cell? (x.add i)=some (.string (R i)):=fun i hi=>by rw[(I i (by omega)).1,(E i hi).1]
  have t:x.spot=none:=by
   have j:=w 0 (by omega);cases T:x.spot with
   |none=>rfl
   |some z=>
    exfalso;simp only[Addr.add,if_true]at j;unfold World.cell? at j;rw[T]at j;split at j
    ·simp at j
    ·cases j
  have y:x=⟨x.block,x.off,none⟩:=by
   obtain⟨b,o,s⟩:=x;cases t;rfl
  refine⟨(List.range c).map R,⟨by rw[g];omega,AE ⟨x.block,x.off,m,by rw[g,<-y],fun k r F=>?_,by rw[g];exact N,by omega⟩,fun a U=>?_⟩,q⟩
  ·have A:k<c:=by
    have:=(BT.1 F).1;rw[g]at this;exact this
   have X:R k=r:=by
    rw[FV,List.getElem?_range A]at F;simpa using F
   have j:=w k A;rw[y,Addr.add_lit,X]at j;exact j
  ·obtain⟨i,hi,rfl⟩:=List.mem_map.1 U;have:=(E i (List.mem_range.1 hi)).2.2;unfold maxLen at this;omega
theorem W7:ownKnob Tryz.prog.godebug=none:=by kernel_rfl
theorem P1:Tryz.prog.globalNamed "yarrow/byteset.classNames"=some 6:=by kernel_rfl
theorem W8:(Tryz.prog.globals[6]?).map (·.type)=some 357:=by kernel_rfl
theorem XA:Tryz.prog.cellsOf 9=1:=by kernel_rfl
theorem XC:Tryz.prog.cellsOf 357=7:=by kernel_rfl
theorem Hv{H:Type}{a:TypeId×Value->H}{base fuel:Nat}{sp:Nat->Bool}{held:Bool}{c:Value}{x:DataW H×List MemPlace}{l:List UInt8}(h:DataW.trod a Tryz.prog W base sp held fuel 9 [c]=some x)(b:DataW.lit (.string l)=x.1):c=.string (AJ l):=by
 obtain⟨s,d,rfl,_⟩:=DataW.trod_string GQ h;simp only[Bc,CD]at d;simp only[DataW.lit.injEq,Lit.string.injEq]at b;subst d;rw[b];congr 1
theorem seven{α:Type}(l:List α)(h:l.length=7):∃a b c d e f g,l=[a,b,c,d,e,f,g]:=by
 match l,h with
 |[a,b,c,d,e,f,g],_=>exact⟨a,b,c,d,e,f,g,rfl⟩
theorem XD(h:Lib.VarReads Tryz.prog W "yarrow/byteset.classNames" Rows.laid_yarrow_byteset_classNames):GN W:=by
 obtain⟨g3,t3,e,f3,C,f,g,b,i⟩:=h;obtain rfl:=DC (P1.symm.trans f);obtain rfl:=DC (W8.symm.trans g);obtain⟨xs,m,rfl,d,hlen,k,a⟩:=DataW.trod_array Tryz.underlying357 i;rw[XC]at hlen;rw[XA]at a;have j:∃t fr,W.heap[6]? =some (.cells e t fr):=by
  simp only[World.var?,P1,Option.bind_some]at b;split at b
  ·rename_i c t fr he;cases b;exact⟨t,fr,he⟩
  ·cases b
 obtain⟨t,fr,j⟩:=j;refine⟨t,fr,j.trans ?_⟩;obtain⟨l⟩:=e;unfold Rows.laid_yarrow_byteset_classNames at d;simp only[Prod.mk.injEq,DataW.agg.injEq]at d;obtain⟨d,_⟩:=d;obtain⟨D,c1,c2,c3,c4,c5,c6,rfl⟩:=seven l hlen;obtain⟨E,F,G,H,I,J,K,rfl⟩:=seven xs k
 ·simp only[D6,List.map_nil,Bc,CD]at d;obtain⟨n,o,p,q,r,s,u⟩:=d;have v:=Hv (a 0 (by decide)) n;have w:=Hv (a 1 (by decide)) o;have x:=Hv (a 2 (by decide)) p;have y:=Hv (a 3 (by decide)) q;have z:=Hv (a 4 (by decide)) r;have A:=Hv (a 5 (by decide)) s;have B:=Hv (a 6 (by decide)) u;subst v w x y z A B;rfl
theorem XE:Tryz.prog.globalNamed "internal/strconv.uint64pow10"=some 1:=by kernel_rfl
theorem XG:(Tryz.prog.globals[1]?).map (·.type)=some 341:=by kernel_rfl
theorem XH:Tryz.prog.cellsOf 139=1:=by kernel_rfl
theorem XI:Tryz.prog.cellsOf 341=20:=by kernel_rfl
theorem XJ:(Rows.laid_internal_strconv_uint64pow10:DataW Unit)=Lib.tabData .u64 Lib.pow10Tab:=by rfl
theorem XK(h:Lib.VarReads Tryz.prog W "internal/strconv.uint64pow10" Rows.laid_internal_strconv_uint64pow10):GT W.heap.size W:=by
 obtain⟨g,t,cs,f,p,a,b,c,hd⟩:=h;obtain rfl:=DC (XE.symm.trans a);obtain rfl:=DC (XG.symm.trans b);rw[XJ]at hd;have e:=Lib.cells_of_tab Tryz.underlying341 Tryz.underlying139 XH XI hd;refine Lib.tabBelow_of_tabIs ?_;unfold Lib.TabIs;rw[c];congr 1;obtain⟨l⟩:=cs;have d:l=_:=e;rw[d]
theorem XL(h:laidMetH Tryz.prog Rows.extractsUptoRow.laid W):GN W∧GT W.heap.size W:=by
 rw[MakeChecks.laidMetH_plain _ _ _ (by kernel_rfl)]at h;exact⟨XD (Lib.laidMet.reads h (by simp[Rows.extractsUptoRow])),XK (Lib.laidMet.reads h (by simp[Rows.extractsUptoRow]))⟩
