/-
  DERIVED. The program's noteGroups for every tree; its stretches; its marksAllow. Conditions: the text is at most 100 bytes long, the stretch is one that matches.
-/
import Derived.Test.YtnfojonmohijpaaGreatDoorJOC
set_option linter.all false
set_option maxRecDepth 100000
set_option maxHeartbeats 8000000
namespace Go.Proofs.YtnfojonmohijpaaGreatDoor
open Go.RowKit
variable{s:ByteArray}{W:Whole}{a c v:Value}{b:Nat}{w:World}
theorem Oy:∀n,Lm n
 |0=>fun t a=>by have:=t.sz_pos;omega
 |n+1=>T6 n (Oy n)
theorem B6.nest{j:Nat}(h:B6 s (.ok W j)):W.x.nest∧∀m,W.x.has m->0<m∧m<=W.g:=by
 obtain⟨c,d,a⟩:=h;cases c with
 |bad l=>cases a
 |ok e l=>
  obtain⟨x,g⟩:=e;obtain⟨_,f,i⟩:=d.nest x g l rfl;rw[GI]at a;by_cases b:0<=at' s (if at' s l=36 then l+1 else l)
  ·rw[AL b]at a;cases a
  ·rw[AK b]at a;cases a;exact⟨f,i⟩
theorem UP(k:Nat)(x:Int):(List.replicate k [Value.int .i64 x]).flatten=CA (List.replicate k x):=by
 induction k with
 |zero=>rfl
 |succ k ih=>rw[IV,List.flatten_cons,ih,IV];rfl
theorem Oz(s:ByteArray)(N:Nat)(HN:Hid (N=s.size+1))(hs:s.size<=100)(W:Whole)(ao:W.g<=9)(d:W.x.nest∧∀m,W.x.has m->0<m∧m<=W.g)(v a c:Value)(hv:v.oneCell'=true)(S:Nat->Prop)(w:World)(hm:Mk w S s N .ways W.x [a,c])(ad:W.x.sz<=1000)(i j:Nat)(H:i<=j)(hj:j<=s.size)(I:Mt s W.x i j):Calls Tryz.prog 113 #[.agg (Bi W v s a c),.int .i64 i,.int .i64 j] w fun e w'=>∃tb t ev,e=.returned (.slice (some ⟨tb,0,none⟩) (2+2*W.g) (2+2*W.g))∧TR s (.node W.x) i j t ev∧w'.ownsRow w.heap.size 3 1 (.slice (some ⟨tb,0,none⟩) (2+2*W.g) (2+2*W.g)) (2+2*W.g) (CA ([(i:Int),(j:Int)]++evs (List.replicate (2*W.g) (-1)) ev))∧AA [] w w':=by
 have J:=hm.form.1;have ha:=J a (by simp);have hc:=J c (by simp);have ap:=Ox (W:=W) (s:=s) hv ha hc;have O:=fun(X:World)(hk:AA [] w X)=>UO s N HN hs W v a c hv S X (hm.keep hk (by simp)) ad i j H hj I
 unfold Bi at*;have h0:(w.alloc (.cells #[.bool W.bg,.bool W.en,v,.int .i64 (W.g:Int),.string s,a,c] 80)).heap[w.heap.size]? =some (.cells #[.bool W.bg,.bool W.en,v,.int .i64 (W.g:Int),.string s,a,c] 80 (0,0)):=AS w _;have P:AA [] w (w.alloc (.cells #[.bool W.bg,.bool W.en,v,.int .i64 (W.g:Int),.string s,a,c] 80)):=(AG [] w).alloc _;have ae:Hid (∀(X:World),AA [] w X->Calls Tryz.prog 42 #[.agg #[.bool W.bg,.bool W.en,v,.int .i64 (W.g:Int),.string s,a,c],.int .i64 i,.int .i64 j] X (Hm X s W.x i j)):=O;have aq:(W.g:Int)<=9:=by omega
 have ar:IntKind.i64.wrap (2*(W.g:Int))=2*(W.g:Int):=wrap_small (by omega) (by omega);have au:IntKind.i64.wrap (2+2*(W.g:Int))=((2+2*W.g:Nat):Int):=by rw[wrap_small (by omega) (by omega)];omega
 have K:Hid (Mt s W.x i j∧i<=j∧j<=s.size∧s.size<=100):=⟨I,H,hj,hs⟩;clear O hm I J H hj;go_enter Tryz.func113,Tryz.ntmps113;go_upto_region 1 with(fail)
 generalize(w.alloc (.cells #[.bool W.bg,.bool W.en,v,.int .i64 (W.g:Int),.string s,a,c] 80))=X at*;obtain⟨g0,e0⟩:=AQ w.heap.size;rw[<-e0]at h0⊢;have B:g0<X.heap.size:=(AN.1 h0).1;clear e0;have y:AA [] X (X.alloc (.cells #[.int .i64 (-1)] 3)):=(AG [] X).alloc _;have C:=AS X (.cells #[.int .i64 (-1)] 3);have Q:=(y.block g0 B (by simp)).trans h0;have d3:(X.alloc (.cells #[.int .i64 (-1)] 3)).cell? ⟨g0,3,none⟩=some (.int .i64 (W.g:Int)):=by rw[AU Q];rfl
 have D:(X.alloc (.cells #[.int .i64 (-1)] 3)).ownsRow 0 3 1 (.slice (some ⟨X.heap.size,0,none⟩) 1 1) 1 [.int .i64 (-1)]:=⟨rfl,AE ⟨X.heap.size,1,_,rfl,AY _,C,AP _,by unfold maxLen;omega,rfl,rfl⟩⟩;have R:=UL [.int .i64 (-1)] (2+2*W.g) X.heap.size 1 _ rfl (by simp[Value.oneCell']) (by omega) (by omega) D;go_wp2_with fail;refine R.mono ?_;rintro e w2⟨tb,rfl,b,T,U⟩;rw[UP]at b;have f:=y.trans U;have V:=(f.block g0 B (by simp)).trans h0;have aw:X.heap.size<=tb:=BG y.size T;have ax:=P.size;clear R D C Q d3 y U T;have l:∀q,q<2+2*W.g->∃vz,w2.cell? ⟨tb,q,none⟩=some vz:=fun q hq=>⟨_,(BX b q (by omega)).trans (Ax (by simp[CA];omega))⟩
 obtain⟨z0,af⟩:=l 0 (by omega);have ag:=D8 b 0;have z:(w2.setCell ⟨tb,0,none⟩ (.int .i64 (i:Int))).ownsRow 0 3 1 (.slice (some ⟨tb,0,none⟩) (2+2*W.g) (2+2*W.g)) (2+2*W.g) (CA ((List.replicate (2+2*W.g) (-1)).set 0 (i:Int))):=by
  have:=(Es b 0 (.int .i64 (i:Int))).1;rw[KT]at this;exact this
 obtain⟨z1,ah⟩:∃vz,(w2.setCell ⟨tb,0,none⟩ (.int .i64 (i:Int))).cell? ⟨tb,1,none⟩=some vz:=⟨_,(BX z 1 (by omega)).trans (Ax (by simp[CA];omega))⟩;have ai:=D8 z 1;have L:((w2.setCell ⟨tb,0,none⟩ (.int .i64 (i:Int))).setCell ⟨tb,1,none⟩ (.int .i64 (j:Int))).ownsRow 0 3 1 (.slice (some ⟨tb,0,none⟩) (2+2*W.g) (2+2*W.g)) (2+2*W.g) (CA ((i:Int)::(j:Int)::List.replicate (2*W.g) (-1))):=by
  have:=(Es z 1 (.int .i64 (j:Int))).1;rw[KT,show(2+2*W.g)=2*W.g+1+1 by omega,IV,IV,List.set_cons_zero,List.set_cons_succ,List.set_cons_zero,show 2*W.g+1+1=2+2*W.g by omega]at this;exact this
 have hk4:AA [tb] w2 ((w2.setCell ⟨tb,0,none⟩ (.int .i64 (i:Int))).setCell ⟨tb,1,none⟩ (.int .i64 (j:Int))):=((AG [tb] w2).setCell (p:=⟨tb,0,none⟩) (by simp) _).setCell (p:=⟨tb,1,none⟩) (by simp) _;have ay:(0:Int)<((2+2*W.g:Nat):Int):=by omega
 have az:(1:Int)<((2+2*W.g:Nat):Int):=by omega
 clear b l;go_upto_region 3 with(fail)
 clear af ag ah ai z;generalize((w2.setCell ⟨tb,0,none⟩ (.int .i64 (i:Int))).setCell ⟨tb,1,none⟩ (.int .i64 (j:Int)))=w4 at*;have am:=hk4.size;have aA:=f.size;have Y:=(hk4.block g0 (by omega) (by simp;omega)).trans V;have E:AA [] w w4:=BZ (P.trans f) hk4 (by intro x hx;simp at hx;exact AE (by omega));have an:tb<w4.heap.size:=(A3 L tb rfl).2;clear V hk4;go_wp2_with(first|(refine As rfl 80 _ rfl g0 rfl _ _ _ _ Y Ck rfl (Cq _ _ _ _ _ _ _) ?_));refine(ae.o w4 E).mono ?_;rintro e w5⟨t,ts,rfl,M,n,Z⟩;have aa:=n.toTR K.o.1;have r:=n.nest d.1;have u:=(n.calm K.o.1).1;have F:=M.fits.1;have G:∀k,t.has k->2*k+1<2+2*W.g:=fun k hk=>by have:=d.2 k (n.has k hk);omega
 have ab:=Oy t.sz t (AP _) w5 _ tb (2+2*W.g) (2+2*W.g) _ i ts M (fun g hg=>by omega) (L.keep Z (by simp)) (by omega) G u (by have:=K.o;omega);clear M Y L;go_wp2_with fail;refine ab.mono ?_;rintro e w6⟨rfl,A,ac⟩;rw[Ol _ _ _ _ (Tr.bev_pos r),T3 r F u]at A;have aj:AA [] w w6:=BZ (E.trans Z) ac (by intro x hx;simp at hx;exact AE (by omega));have ak:w6.ownsRow w.heap.size 3 1 (.slice (some ⟨tb,0,none⟩) (2+2*W.g) (2+2*W.g)) (2+2*W.g) (CA ([(i:Int),(j:Int)]++evs (List.replicate (2*W.g) (-1)) (t.evs i))):=by
  refine⟨A.1,?_⟩;rcases A.2 with⟨h,_⟩|⟨g,cap,cur,h1,_,h3⟩
  ·cases h
  ·refine AE ⟨g,cap,cur,h1,?_,h3⟩;simp only[C7,Ai,FU,CD]at h1;omega
 have al:Hid (TR s (.node W.x) i j t.text (t.evs i)):=aa.1;clear ab ac A aa r u F G n;go_wp2_with fail;go_ret;exact⟨tb,_,_,rfl,al.o,ak,aj⟩
def B2(s:ByteArray)(W:Whole)(i j:Nat):Prop:=Mt s W.x i j∧(W.bg=true->i=0)∧(W.en=true->j=s.size)
def Gi(s:ByteArray)(W:Whole)(fr i j:Nat):Prop:=
 fr<=i∧i<=j∧j<=s.size∧B2 s W i j∧(∀b a,fr<=b->b<i->b<=a->a<=s.size->¬B2 s W b a)∧∀a,j<a->a<=s.size->¬B2 s W i a
theorem Gi.one{fr i j a b:Nat}(h:Gi s W fr i j)(k:Gi s W fr a b):i=a∧j=b:=by
 obtain⟨f,a2,a3,a4,a5,g⟩:=h;obtain⟨l,m,c,d,n,o⟩:=k;have e:i=a:=by
  rcases Nat.lt_trichotomy i a with e|e|e
  ·exact absurd a4 (n i j f e a2 a3)
  ·exact e
  ·exact absurd d (a5 a b l e m c)
 subst e;refine⟨rfl,?_⟩;rcases Nat.lt_trichotomy j b with e|e|e
 ·exact absurd d (g b e c)
 ·exact e
 ·exact absurd a4 (o j e a3)
def BF(s:ByteArray)(W:Whole)(fr:Nat)(ans:Option (List Int)):Prop:=
 (ans=none∧∀i j,fr<=i->i<=j->j<=s.size->¬B2 s W i j)∨
 ∃(i j:Nat)(t:List UInt8)(ev:List (Nat×Nat×Nat)),Gi s W fr i j∧TR s (.node W.x) i j t ev∧ans=some ([(i:Int),(j:Int)]++evs (List.replicate (2*W.g) (-1)) ev)
theorem BF.det{fr:Nat}{a b:Option (List Int)}(h:BF s W fr a)(k:BF s W fr b):a=b:=by
 rcases h with⟨rfl,h⟩|⟨i,j,t,ev,c,f,rfl⟩<;>rcases k with⟨rfl,k⟩|⟨g,l,m,e,d,n,rfl⟩
 ·rfl
 ·exact absurd d.2.2.2.1 (h g l d.1 d.2.1 d.2.2.1)
 ·exact absurd c.2.2.2.1 (k i j c.1 c.2.1 c.2.2.1)
 ·obtain⟨rfl,rfl⟩:=c.one d;obtain⟨_,rfl⟩:=f.det m e n;rfl
theorem UQ{z:Int}(a:-1000000<=z)(b:z<=1000000):IntKind.i64.wrap z=z:=by
 have:IntKind.i64.wrap z=if 9223372036854775808<=z%18446744073709551616 then z%18446744073709551616-18446744073709551616 else z%18446744073709551616:=by simp[IntKind.wrap,IntKind.bits,IntKind.signed]
 rw[this];split<;>omega
theorem Jj{g:Nat}{b d e f k:Value}(h:w.heap[g]? =some (.cells #[a,b,c,d,e,f,k] 80 (0,0))):w.cell? ⟨g,0,none⟩=some a∧w.cell? ⟨g,1,none⟩=some b∧w.cell? ⟨g,4,none⟩=some e:=by
 refine⟨?_,?_,?_⟩<;>(rw[AU h];rfl)
theorem UR{g:Nat}{b d e f k:Value}(h:w.heap[g]? =some (.cells #[a,b,c,d,e,f,k] 80 (0,0))):w.cell? ⟨g,0,none⟩=some a∧w.cell? ⟨g,1,none⟩=some b∧w.cell? ⟨g,2,none⟩=some c∧w.cell? ⟨g,3,none⟩=some d∧w.cell? ⟨g,4,none⟩=some e∧w.cell? ⟨g,5,none⟩=some f∧w.cell? ⟨g,6,none⟩=some k:=by
 refine⟨?_,?_,?_,?_,?_,?_,?_⟩<;>(rw[AU h];rfl)
def Hn(s:ByteArray)(a b:Bool)(i j:Nat):Bool:=decide ((a=true->i=0)∧(b=true->j=s.size))
theorem US(s:ByteArray)(f k:Bool)(g:Int)(v a c:Value)(u:v.oneCell'=true)(z:a.oneCell'=true)(A:c.oneCell'=true)(i j:Nat)(w:World):Calls Tryz.prog 112 #[.agg #[.bool f,.bool k,v,.int .i64 g,.string s,a,c],.int .i64 i,.int .i64 j] w fun e w'=>e=.returned (.bool (Hn s f k i j))∧AA [] w w':=by
 have l:AA [] w (w.alloc (.cells #[.bool f,.bool k,v,.int .i64 g,.string s,a,c] 80)):=(AG [] w).alloc _;obtain⟨B,c1,c4⟩:=Jj (AS w (.cells #[.bool f,.bool k,v,.int .i64 g,.string s,a,c] 80));have b:(Hid (i=0)∧((i:Int)==0)=true)∨(Hid (¬i=0)∧((i:Int)==0)=false):=by
  by_cases h:i=0
  ·exact AH ⟨h,by simpa using(by omega:(i:Int)=0)⟩
  ·exact AE ⟨h,by simpa using(by omega:¬(i:Int)=0)⟩
 have d:(Hid (j=s.size)∧((j:Int)==(s.size:Int))=true)∨(Hid (¬j=s.size)∧((j:Int)==(s.size:Int))=false):=by
  by_cases h:j=s.size
  ·exact AH ⟨h,by simpa using(by omega:(j:Int)=(s.size:Int))⟩
  ·exact AE ⟨h,by simpa using(by omega:¬(j:Int)=(s.size:Int))⟩
 have fin:∀{x y:Bool},x=y->Ending.returned (.bool x)=.returned (.bool y):=fun h=>by rw[h]
 rcases b with⟨p,m⟩|⟨p,m⟩<;>rcases d with⟨q,n⟩|⟨q,n⟩<;>cases f<;>cases k
 all_goals
  go_enter Tryz.func112,Tryz.ntmps112;go_wp2_with fail;go_ret;exact⟨fin (by have r:=p.o;have t:=q.o;simp[Hn,r,t]),l⟩
def IW(w:World)(lo:Nat)(v:Value):Option (List Int)->Prop
 |none=>v=.slice none 0 0
 |some l=>w.ownsRow lo 3 1 v l.length (CA l)
theorem UT(s:ByteArray)(N:Nat)(HN:Hid (N=s.size+1))(hs:s.size<=100)(W:Whole)(ax:W.g<=9)(T:W.x.nest∧∀m,W.x.has m->0<m∧m<=W.g)(v a c:Value)(hv:v.oneCell'=true)(S:Nat->Prop)(w:World)(hm:Mk w S s N .ways W.x [a,c])(ay:W.x.sz<=1000)(fr:Nat)(aE:fr<=s.size):Calls Tryz.prog 65 #[.agg (Bi W v s a c),.int .i64 fr] w fun e w'=>∃r ans,e=.returned r∧BF s W fr ans∧IW w' w.heap.size r ans∧AA [] w w':=by
 have U:=hm.form.1;have ha:=U a (by simp);have hc:=U c (by simp);have aF:(s.size:Int)<=100:=by omega
 have ab:Hid (∀(X:World)(i j:Nat),AA [] w X->i<=s.size->j<=s.size->Calls Tryz.prog 40 #[.agg #[.bool W.bg,.bool W.en,v,.int .i64 (W.g:Int),.string s,a,c],.int .i64 i,.int .i64 j] X fun e w'=>∃b,e=.returned (.bool b)∧(b=true↔Mt s W.x i j)∧AA [] X w'):=fun X i j hk hi hj=>Oh s N HN hs W v a c S X (hm.keep hk (by simp)) i j hi hj
 have ac:Hid (∀(X:World)(i j:Nat),Calls Tryz.prog 112 #[.agg #[.bool W.bg,.bool W.en,v,.int .i64 (W.g:Int),.string s,a,c],.int .i64 i,.int .i64 j] X fun e w'=>e=.returned (.bool (Hn s W.bg W.en i j))∧AA [] X w'):=fun X i j=>US s W.bg W.en (W.g:Int) v a c hv ha hc i j X
 have ad:Hid (∀(X:World)(i j:Nat),AA [] w X->i<=j->j<=s.size->Mt s W.x i j->Calls Tryz.prog 113 #[.agg #[.bool W.bg,.bool W.en,v,.int .i64 (W.g:Int),.string s,a,c],.int .i64 i,.int .i64 j] X fun e w'=>∃tb t ev,e=.returned (.slice (some ⟨tb,0,none⟩) (2+2*W.g) (2+2*W.g))∧TR s (.node W.x) i j t ev∧w'.ownsRow X.heap.size 3 1 (.slice (some ⟨tb,0,none⟩) (2+2*W.g) (2+2*W.g)) (2+2*W.g) (CA ([(i:Int),(j:Int)]++evs (List.replicate (2*W.g) (-1)) ev))∧AA [] X w'):=fun X i j hk az hj aA=>Oz s N HN hs W ax T v a c hv S X (hm.keep hk (by simp)) ay i j az hj aA
 unfold Bi;have h0:(w.alloc (.cells #[.bool W.bg,.bool W.en,v,.int .i64 (W.g:Int),.string s,a,c] 80)).heap[w.heap.size]? =some (.cells #[.bool W.bg,.bool W.en,v,.int .i64 (W.g:Int),.string s,a,c] 80 (0,0)):=AS w _;have V:AA [] w (w.alloc (.cells #[.bool W.bg,.bool W.en,v,.int .i64 (W.g:Int),.string s,a,c] 80)):=(AG [] w).alloc _;clear hm U;go_enter Tryz.func65,Tryz.ntmps65;go_upto_region 1 with(fail)
 generalize(w.alloc (.cells #[.bool W.bg,.bool W.en,v,.int .i64 (W.g:Int),.string s,a,c] 80))=X at*;obtain⟨g0,e0⟩:=AQ w.heap.size;rw[<-e0]at h0⊢;have C:g0<X.heap.size:=(AN.1 h0).1;clear e0;go_upto_region 2 with(fail)
 go_loopw [5] (fun q wr=>∃i:Nat,q=.int .i64 i∧fr<=i∧i<=s.size+1∧(∀k d,fr<=k->k<i->k<=d->d<=s.size->¬B2 s W k d)∧AA [] X wr) (fun q _=>s.size+1-(intOf q).toNat)
 case atStart=>exact⟨fr,rfl,AP _,by omega,fun k d G F=>by omega,AG _ _⟩
 case round=>
  obtain⟨i,rfl,ae,af,M,f⟩:=hrel;have p:=(f.block g0 C (by simp)).trans h0;obtain⟨_,_,x4⟩:=Jj p;by_cases Y:i<=s.size
  rotate_left
  ·have ag:¬(i:Int)<=(s.size:Int):=by omega
   have HF:Hid (BF s W fr none):=AH ⟨rfl,fun k d G F H=>M k d G (by omega) F H⟩;have I:=V.trans f;clear M Y af p;go_wp2_with fail;go_ret
   first|exact⟨_,none,rfl,HF.o,rfl,I⟩|exact⟨_,rfl,none,HF.o,rfl,I⟩
  have ag:(i:Int)<=(s.size:Int):=by omega
  have ah:Hid (∀k d,fr<=k->k<i->k<=d->d<=s.size->¬B2 s W k d):=M;have l:Hid (fr<=i∧i<=s.size∧s.size<=100):=⟨ae,Y,hs⟩;have aB:Hid (AA [] X wr):=f;clear M Y af ae f;go_upto_region 5 with(fail)
  clear x4 p;obtain⟨ai,aj⟩:∃ai:World,ai=wr:=⟨_,rfl⟩;subst aj;go_loopw [6] (fun q wq=>∃z:Nat,q=.int .i64 ((z:Int)-1)∧i<=z∧z<=s.size+1∧(∀d,z<=d->d<=s.size->¬B2 s W i d)∧AA [] X wq) (fun q _=>(intOf q+1).toNat-i)
  case atStart=>exact⟨s.size+1,by rw[show((s.size+1:Nat):Int)-1=(s.size:Int) by omega],by have:=l.o;omega,AP _,fun d G F=>by omega,aB.o⟩
  case round=>
   obtain⟨z,rfl,ak,al,D,f⟩:=hrel;have p:=(f.block g0 C (by simp)).trans h0;obtain⟨x0,x1,x4⟩:=Jj p;by_cases am:i<z
   rotate_left
   ·have aC:z=i:=by omega
    subst aC;have aG:¬(z:Int)<=(z:Int)-1:=by omega
    have an:Hid (∀k d,fr<=k->k<z+1->k<=d->d<=s.size->¬B2 s W k d):=fun k d G F H h4 u=>by
     by_cases hlt:k<z
     ·exact ah.o k d G hlt H h4 u
     ·have he:k=z:=by omega
      subst he;exact D d H h4 u
    clear D am ak al p;go_wp2_with fail
    first
     |exact⟨⟨z+1,by go_num,by have:=l.o;omega,by have:=l.o;omega,an.o,f⟩,by have:=l.o;simp[intOf];omega⟩
     |(
      go_roundw
      case rel=>exact⟨z+1,by go_num,by have:=l.o;omega,by have:=l.o;omega,an.o,f⟩
      case measure=>have:=l.o;simp[intOf];omega)
   obtain⟨j,rfl⟩:∃j,z=j+1:=⟨z-1,by omega⟩;have hq:((j+1:Nat):Int)-1=(j:Int):=by omega
   rw[hq];have aH:(i:Int)<=(j:Int):=by omega
   have y:Hid (i<=j∧j<=s.size):=⟨by omega,by omega⟩;have J:Hid (∀d,j+1<=d->d<=s.size->¬B2 s W i d):=D;have aD:IntKind.i64.wrap ((j:Int)-1)=(j:Int)-1:=UQ (by omega) (by have:=l.o;omega);have Z:=V.trans f;clear D am ak al hq x0 x1 x4;go_wp2_with(first|(refine As rfl 80 _ rfl g0 rfl _ _ _ _ p Ck rfl (Cq _ _ _ _ _ _ _) ?_));refine(ab.o wr i j Z l.o.2.1 y.o.2).mono ?_;rintro e w2⟨b1,rfl,ao,aa⟩;have n:=f.trans aa;have P:=(n.block g0 C (by simp)).trans h0;have ap:Hid (b1=true↔Mt s W.x i j):=ao;clear ao p;cases b1
   ·have K:Hid (∀d,j<=d->d<=s.size->¬B2 s W i d):=fun d G F u=>by
     by_cases he:d=j
     ·subst he;have:=ap.o.2 u.1;cases this
     ·exact J.o d (by omega) F u
    have L:Hid (AA [] X w2):=n;clear f n aa Z;go_wp2_with fail
    first
     |exact⟨⟨j,rfl,y.o.1,by have:=y.o;omega,K.o,L.o⟩,by have:=y.o;simp[intOf];omega⟩
     |(
      go_roundw
      case rel=>exact⟨j,rfl,y.o.1,by have:=y.o;omega,K.o,L.o⟩
      case measure=>have:=y.o;simp[intOf];omega)
   have Q:=V.trans n;obtain⟨q0,q1,q2,q3,q4,q5,q6⟩:=UR P;clear f aa Z;go_wp2_with fail;refine(ac.o w2 i j).mono ?_;rintro e w3⟨rfl,hk3⟩;have E:=n.trans hk3;have R:=(E.block g0 C (by simp)).trans h0;have A:=Q.trans hk3;clear q0 q1 q2 q3 q4 q5 q6 P n hk3 Q;cases O:Hn s W.bg W.en i j
   ·have K:Hid (∀d,j<=d->d<=s.size->¬B2 s W i d):=fun d G F u=>by
     by_cases he:d=j
     ·subst he;have H:Hn s W.bg W.en i d=true:=by simp only[Hn,EJ];exact u.2
      rw[O]at H;cases H
     ·exact J.o d (by omega) F u
    have L:Hid (AA [] X w3):=E;clear O E A;go_wp2_with fail
    first
     |exact⟨⟨j,rfl,y.o.1,by have:=y.o;omega,K.o,L.o⟩,by have:=y.o;simp[intOf];omega⟩
     |(
      go_roundw
      case rel=>exact⟨j,rfl,y.o.1,by have:=y.o;omega,K.o,L.o⟩
      case measure=>have:=y.o;simp[intOf];omega)
   have aq:Hid (B2 s W i j):=by
    have H:(W.bg=true->i=0)∧(W.en=true->j=s.size):=by
     have:=O;simp only[Hn,EJ]at this;exact this
    exact⟨ap.o.1 (by first|rfl|trivial),H⟩
   clear O;go_wp2_with(first|(refine As rfl 80 _ rfl g0 rfl _ _ _ _ R Ck rfl (Cq _ _ _ _ _ _ _) ?_));refine(ad.o w3 i j A y.o.1 y.o.2 aq.o.1).mono ?_;rintro e w4⟨tb,t,ev,rfl,ar,B,hk4⟩;have au:Hid (BF s W fr (some ([(i:Int),(j:Int)]++evs (List.replicate (2*W.g) (-1)) ev))):=AE ⟨i,j,t,ev,⟨l.o.1,y.o.1,y.o.2,aq.o,ah.o,fun d G F=>J.o d G F⟩,ar,rfl⟩;have hlen:([(i:Int),(j:Int)]++evs (List.replicate (2*W.g) (-1)) ev).length=2+2*W.g:=by rw[AW,Jd,List.length_replicate];rfl
   have aw:IW w4 w.heap.size (.slice (some ⟨tb,0,none⟩) (2+2*W.g) (2+2*W.g)) (some ([(i:Int),(j:Int)]++evs (List.replicate (2*W.g) (-1)) ev)):=by
    show w4.ownsRow _ _ _ _ _ _;rw[hlen];refine⟨B.1,?_⟩;rcases B.2 with⟨h,_⟩|⟨g,cap,cur,G,F,H⟩
    ·cases h
    ·exact AE ⟨g,cap,cur,G,BG A.size F,H⟩
   have I:=A.trans hk4;clear B hlen ar hk4 A R E;go_wp2_with fail;go_ret
   first|exact⟨_,_,rfl,au.o,aw,I⟩|exact⟨_,rfl,_,au.o,aw,I⟩
theorem IW.low{lo a:Nat}{ans:Option (List Int)}(h:IW w lo v ans)(b:a<=lo):IW w a v ans:=by
 cases ans with
 |none=>exact h
 |some l=>
  refine⟨h.1,?_⟩;rcases h.2 with h|⟨g,cap,cur,c,d,e⟩
  ·exact AH h
  ·exact AE ⟨g,cap,cur,c,BG b d,e⟩
def Dv(s:ByteArray)(W:Whole)(ans:Option (List Int)):Prop:=
 (ans=none∧¬Mt s W.x 0 s.size)∨(Mt s W.x 0 s.size∧∃(t:List UInt8)(ev:List (Nat×Nat×Nat)),TR s (.node W.x) 0 s.size t ev∧ans=some ([0,(s.size:Int)]++evs (List.replicate (2*W.g) (-1)) ev))
def CP(s:ByteArray)(W:Whole)(x:Bool)(ans:Option (List Int)):Prop:=if x=true then Dv s W ans else BF s W 0 ans
structure EH (w : World) (s : ByteArray) (W : Whole) (v a c : Value) : Prop where
 len : s.size <= 100
 g9 : W.g <= 9
 nest : W.x.nest ∧ ∀ m, W.x.has m -> 0 < m ∧ m <= W.g
 one : v.oneCell' = true
 mks : ∃ S, Mk w S s (s.size + 1) .ways W.x [a, c]
 sz : W.x.sz <= 1000
theorem EH.keep{w':World}(h:EH w s W v a c)(b:AA [] w w'):EH w' s W v a c:=
 ⟨h.len,h.g9,h.nest,h.one,by obtain⟨S,d⟩:=h.mks;exact⟨S,d.keep b (by simp)⟩,h.sz⟩
theorem EH.cells(h:EH w s W v a c):v.oneCell'=true∧a.oneCell'=true∧c.oneCell'=true:=by
 obtain⟨S,d⟩:=h.mks;have b:=d.form.1;exact⟨h.one,b a (by simp),b c (by simp)⟩
theorem O0(s:ByteArray)(W:Whole)(v a c:Value)(w:World)(h:EH w s W v a c)(fr:Nat)(b:fr<=s.size):Calls Tryz.prog 65 #[.agg (Bi W v s a c),.int .i64 fr] w fun e w'=>∃r ans,e=.returned r∧BF s W fr ans∧IW w' w.heap.size r ans∧AA [] w w':=by
 obtain⟨S,d⟩:=h.mks;exact UT s (s.size+1) rfl h.len W h.g9 h.nest v a c h.one S w d h.sz fr b
theorem O1(s:ByteArray)(W:Whole)(v a c:Value)(w:World)(h:EH w s W v a c):Calls Tryz.prog 158 #[.agg (Bi W v s a c)] w fun e w'=>∃r ans,e=.returned r∧Dv s W ans∧IW w' w.heap.size r ans∧AA [] w w':=by
 obtain⟨S,hm⟩:=h.mks;have m:Hid (∀(X:World),AA [] w X->Calls Tryz.prog 40 #[.agg #[.bool W.bg,.bool W.en,v,.int .i64 (W.g:Int),.string s,a,c],.int .i64 (0:Nat),.int .i64 s.size] X fun e w'=>∃b,e=.returned (.bool b)∧(b=true↔Mt s W.x 0 s.size)∧AA [] X w'):=fun X B=>Oh s (s.size+1) rfl h.len W v a c S X (hm.keep B (by simp)) 0 s.size (AY _) (AP _)
 have n:Hid (∀(X:World),AA [] w X->Mt s W.x 0 s.size->Calls Tryz.prog 113 #[.agg #[.bool W.bg,.bool W.en,v,.int .i64 (W.g:Int),.string s,a,c],.int .i64 (0:Nat),.int .i64 s.size] X fun e w'=>∃tb t ev,e=.returned (.slice (some ⟨tb,0,none⟩) (2+2*W.g) (2+2*W.g))∧TR s (.node W.x) 0 s.size t ev∧w'.ownsRow X.heap.size 3 1 (.slice (some ⟨tb,0,none⟩) (2+2*W.g) (2+2*W.g)) (2+2*W.g) (CA ([((0:Nat):Int),(s.size:Int)]++evs (List.replicate (2*W.g) (-1)) ev))∧AA [] X w'):=fun X B C=>Oz s (s.size+1) rfl h.len W h.g9 h.nest v a c h.one S X (hm.keep B (by simp)) h.sz 0 s.size (AY _) (AP _) C
 unfold Bi;have l:(w.alloc (.cells #[.bool W.bg,.bool W.en,v,.int .i64 (W.g:Int),.string s,a,c] 80)).heap[w.heap.size]? =some (.cells #[.bool W.bg,.bool W.en,v,.int .i64 (W.g:Int),.string s,a,c] 80 (0,0)):=AS w _;have i:AA [] w (w.alloc (.cells #[.bool W.bg,.bool W.en,v,.int .i64 (W.g:Int),.string s,a,c] 80)):=(AG [] w).alloc _;clear hm h;go_enter Tryz.func158,Tryz.ntmps158;go_upto_region 1 with(fail)
 generalize(w.alloc (.cells #[.bool W.bg,.bool W.en,v,.int .i64 (W.g:Int),.string s,a,c] 80))=X at*;obtain⟨g0,E⟩:=AQ w.heap.size;rw[<-E]at l⊢;have p:g0<X.heap.size:=(AN.1 l).1;clear E;obtain⟨_,_,I⟩:=Jj l;go_wp2_with(first|(refine As rfl 80 _ rfl g0 rfl _ _ _ _ l Ck rfl (Cq _ _ _ _ _ _ _) ?_));refine(m.o X i).mono ?_;rintro e w2⟨b,rfl,hb,j⟩;have f:=i.trans j;have q:=(j.block g0 p (by simp)).trans l;clear I l i j;cases b
 ·have F:Hid (Dv s W none):=AH ⟨rfl,fun h=>nomatch (hb.2 h)⟩;clear hb;go_wp2_with fail;go_ret
  first|exact⟨_,none,rfl,F.o,rfl,f⟩|exact⟨_,rfl,none,F.o,rfl,f⟩
 ·have k:Mt s W.x 0 s.size:=hb.1 rfl;have G:=n.o w2 f k;obtain⟨_,_,y4⟩:=Jj q;have D:Hid (Mt s W.x 0 s.size):=k;clear hb k;go_wp2_with(first|(refine As rfl 80 _ rfl g0 rfl _ _ _ _ q Ck rfl (Cq _ _ _ _ _ _ _) ?_));refine G.mono ?_;rintro e H⟨tb,t,ev,rfl,u,d,hk4⟩;have y:Hid (Dv s W (some ([0,(s.size:Int)]++evs (List.replicate (2*W.g) (-1)) ev))):=AE ⟨D.o,t,ev,u,rfl⟩;have hlen:([0,(s.size:Int)]++evs (List.replicate (2*W.g) (-1)) ev).length=2+2*W.g:=by rw[AW,Jd,List.length_replicate];rfl
  have z:IW H w.heap.size (.slice (some ⟨tb,0,none⟩) (2+2*W.g) (2+2*W.g)) (some ([0,(s.size:Int)]++evs (List.replicate (2*W.g) (-1)) ev)):=by
   show H.ownsRow _ _ _ _ _ _;rw[hlen];refine⟨d.1,?_⟩;rcases d.2 with⟨h,_⟩|⟨g,cap,cur,J,q,K⟩
   ·cases h
   ·exact AE ⟨g,cap,cur,J,BG f.size q,K⟩
  have A:=f.trans hk4;clear d hlen u hk4 q G y4;go_wp2_with fail;go_ret
  first|exact⟨_,_,rfl,y.o,z,A⟩|exact⟨_,rfl,_,y.o,z,A⟩
def Av(k:AX)(W:Whole)(v tv:Value):Array Value:=#[.bool k.c,.bool k.i,.bool k.n,.bool k.o,.bool k.v,.bool k.x,.bool W.bg,.bool W.en,v,.int .i64 (W.g:Int),tv]
theorem If{g:Nat}{k:AX}{tv:Value}(h:w.heap[g]? =some (.cells (Av k W v tv) 117 (0,0))):w.cell? ⟨g,0,none⟩=some (.bool k.c)∧w.cell? ⟨g,2,none⟩=some (.bool k.n)∧w.cell? ⟨g,3,none⟩=some (.bool k.o)∧w.cell? ⟨g,4,none⟩=some (.bool k.v)∧w.cell? ⟨g,5,none⟩=some (.bool k.x)∧w.cell? ⟨g,10,none⟩=some tv:=by
 refine⟨?_,?_,?_,?_,?_,?_⟩<;>(rw[AU h];rfl)
theorem UU(k:AX)(tv:Value)(F:tv.oneCell'=true)(s:ByteArray)(W:Whole)(v a c:Value)(w:World)(h:EH w s W v a c):Calls Tryz.prog 101 #[.agg (Av k W v tv),.agg (Bi W v s a c)] w fun e w'=>∃r ans,e=.returned r∧CP s W k.x ans∧IW w' w.heap.size r ans∧AA [] w w':=by
 obtain⟨G,H,I⟩:=h.cells;have b:AA [] w ((w.alloc (.cells (Av k W v tv) 117)).alloc (.cells (Bi W v s a c) 80)):=((AG [] w).alloc _).alloc _;have m:(w.alloc (.cells (Av k W v tv) 117)).heap.size=w.heap.size+1:=by simp
 have B:((w.alloc (.cells (Av k W v tv) 117)).alloc (.cells (Bi W v s a c) 80)).heap[w.heap.size]? =some (.cells (Av k W v tv) 117 (0,0)):=C2 w _ _;have q:((w.alloc (.cells (Av k W v tv) 117)).alloc (.cells (Bi W v s a c) 80)).heap[w.heap.size+1]? =some (.cells (Bi W v s a c) 80 (0,0)):=by rw[<-m];exact AS _ _
 obtain⟨_,_,_,_,c5,_⟩:=If B;unfold Av Bi at*;go_enter Tryz.func101,Tryz.ntmps101;go_upto_region 1 with(fail)
 have C:=h.keep b;generalize(w.alloc (.cells #[.bool k.c,.bool k.i,.bool k.n,.bool k.o,.bool k.v,.bool k.x,.bool W.bg,.bool W.en,v,.int .i64 (W.g:Int),tv] 117)).alloc (.cells #[.bool W.bg,.bool W.en,v,.int .i64 (W.g:Int),.string s,a,c] 80)=X at*;obtain⟨g0,D⟩:=AQ w.heap.size;obtain⟨g1,E⟩:=AQ (w.heap.size+1);rw[<-E]at q⊢;rw[<-D]at c5⊢;clear D E B h m;cases l:k.x
 ·have p:k.x=false:=l;have t:=O0 s W v a c X C 0 (AY _);have A:Hid (k.x=false):=p;rw[p]at c5;clear p l;go_wp2_with(first|(refine As rfl 80 _ rfl g1 rfl _ _ _ _ q Ck rfl (Cq _ _ _ _ _ _ _) ?_));refine t.mono ?_;rintro e w2⟨r,ans,rfl,u,y,d⟩;have f:=b.trans d;have j:=y.low b.size;have z:Hid (CP s W k.x ans):=by show CP s W k.x ans;unfold CP;rw[A.o];exact(AK (by decide)).mpr u
  clear t u y d b c5 q;go_wp2_with fail;go_ret
  first|exact⟨_,ans,rfl,z.o,j,f⟩|exact⟨_,rfl,ans,z.o,j,f⟩
 ·have p:k.x=true:=l;have t:=O1 s W v a c X C;have A:Hid (k.x=true):=p;rw[p]at c5;clear p l;go_wp2_with(first|(refine As rfl 80 _ rfl g1 rfl _ _ _ _ q Ck rfl (Cq _ _ _ _ _ _ _) ?_));refine t.mono ?_;rintro e w2⟨r,ans,rfl,u,y,d⟩;have f:=b.trans d;have j:=y.low b.size;have z:Hid (CP s W k.x ans):=by show CP s W k.x ans;unfold CP;rw[A.o];exact(AL rfl).mpr u
  clear t u y d b c5 q;go_wp2_with fail;go_ret
  first|exact⟨_,ans,rfl,z.o,j,f⟩|exact⟨_,rfl,ans,z.o,j,f⟩
structure ES where
 s : ByteArray
 ix : Nat
variable{p:ES}
def ES.cells(p:ES):Array Value:=#[.string p.s,.int .i64 p.ix]
def EB(w:World)(b:Nat)(p:ES):Prop:=w.heap[b]? =some (.cells p.cells 198 (0,0))
theorem EB.lt(h:EB w b p):b<w.heap.size:=(AN.1 h).1
theorem EB.keep{w':World}{S:List Nat}(h:EB w b p)(a:AA S w w')(hb:b∉S):EB w' b p:=(a.block b h.lt hb).trans h
theorem EB.drewN(h:EB w b p)(n:Nat):EB (w.drewN n) b p:=h
theorem EB.main(h:EB w b p):w.cell? ⟨b,0,none⟩=some (.string p.s)∧w.cell? ⟨b,1,none⟩=some (.int .i64 p.ix)∧True∧w.frozen? ⟨b,1,none⟩=false∧True:=by
 unfold EB at h;simp[World.cell?,World.frozen?,h,ES.cells]
theorem EB.setIx(h:EB w b p)(x:Nat):EB (w.setCell ⟨b,1,none⟩ (.int .i64 x)) b {p with ix:=x}:=by
 unfold EB at*;simp[World.setCell,Aq,h,ES.cells]
def ES.cur(p:ES):Int:=at' p.s p.ix
theorem KX(b:Nat)(p:ES)(w:World)(a:EB w b p)(hlt:p.ix<p.s.size)(h:p.s.size<=100):Calls Tryz.prog 167 #[.pointer (some ⟨b,0,none⟩)] w fun e w'=>e=.returned (.tuple #[.int .u8 p.cur,.bool true])∧EB w' b p∧AA [] w w':=by
 obtain⟨i,c1,_,f1,_⟩:=a.main;have c:(p.ix:Int)<(p.s.size:Int):=by omega
 have d:(0:Int)<=(p.ix:Int):=by omega
 have f:((p.ix:Int)==(p.s.size:Int))=false:=by simpa using(by omega:¬(p.ix:Int)=(p.s.size:Int))
 have g:Hid (p.cur=(p.s[p.ix].toNat:Int)):=Bd hlt;go_enter Tryz.func167,Tryz.ntmps167;go_wp2_with fail;go_quiet (fail);go_wp2_with fail;go_quiet (fail);go_wp2_with fail;go_ret2;exact⟨by rw[g.o];rfl,(a.drewN _).drewN _,((AG _ _).drewN _).drewN _⟩
theorem Ls(b:Nat)(p:ES)(w:World)(c:EB w b p)(a:p.ix=p.s.size):Calls Tryz.prog 167 #[.pointer (some ⟨b,0,none⟩)] w fun e w'=>e=.returned (.tuple #[.int .u8 0,.bool false])∧EB w' b p∧AA [] w w':=by
 obtain⟨f,c1,_,f1,_⟩:=c.main;have d:((p.ix:Int)==(p.s.size:Int))=true:=by simpa using(by omega:(p.ix:Int)=(p.s.size:Int))
 clear a;go_enter Tryz.func167,Tryz.ntmps167;go_wp2_with fail;go_quiet (fail);go_wp2_with fail;go_ret2;exact⟨rfl,(c.drewN _),(AG _ _).drewN _⟩
theorem O2(b:Nat)(p:ES)(c:Int)(j:0<=c)(w:World)(g:EB w b p)(hle:p.ix<=p.s.size)(h:p.s.size<=100):Calls Tryz.prog 165 #[.pointer (some ⟨b,0,none⟩),.int .u8 c] w fun e w'=>e=.returned (.bool (decide (p.cur=c)))∧EB w' b p∧AA [] w w':=by
 by_cases hlt:p.ix<p.s.size
 ·go_enter Tryz.func165,Tryz.ntmps165;go_wp2_with(first|(go_at_call 167;refine(KX b p _ g hlt h).mono ?_;rintro e w1⟨rfl,a,d⟩));go_ret;exact⟨by simp[BEq.beq],a,d⟩
 ·have f:p.ix=p.s.size:=by omega
  have i:Hid (p.cur=-1):=Cu (by omega);go_enter Tryz.func165,Tryz.ntmps165;go_wp2_with(first|(go_at_call 167;refine(Ls b p _ g f).mono ?_;rintro e w1⟨rfl,a,d⟩));go_ret;exact⟨by rw[i.o];simp;omega,a,d⟩
def ES.took(p:ES)(c:Int):ES:=if p.cur=c then{p with ix:=p.ix+1}else p
theorem KY(b:Nat)(p:ES)(c:Int)(f:0<=c)(w:World)(g:EB w b p)(hle:p.ix<=p.s.size)(i:p.s.size<=100):Calls Tryz.prog 116 #[.pointer (some ⟨b,0,none⟩),.int .u8 c] w fun e w'=>e=.returned (.bool (decide (p.cur=c)))∧EB w' b (p.took c)∧AA [b] w w':=by
 by_cases h:p.cur=c
 ·have hd:decide (p.cur=c)=true:=by simpa using h
  have H:Hid (p.cur=c):=h;have hlt:p.ix<p.s.size:=Ap (by show 0<=p.cur;omega);have j:(0:Int)<=(p.ix:Int):=by omega
  have k:(p.ix:Int)<=100:=by omega
  clear h;go_enter Tryz.func116,Tryz.ntmps116;go_wp2_with(first|(go_at_call 165;refine(O2 b p c f _ g hle i).mono ?_;rintro e w1⟨rfl,a,d⟩;obtain⟨l,c1,_,f1,_⟩:=a.main));go_ret;exact⟨by simp[hd],by simp only[ES.took,H.o,if_true];exact a.setIx (p.ix+1),(d.mono (by simp)).setCell (by simp) _⟩
 ·have hd:decide (p.cur=c)=false:=by simpa using h
  have H:Hid (¬p.cur=c):=h;clear h;go_enter Tryz.func116,Tryz.ntmps116;go_wp2_with(first|(go_at_call 165;refine(O2 b p c f _ g hle i).mono ?_;rintro e w1⟨rfl,a,d⟩));go_ret;exact⟨by simp[hd],by simp only[ES.took,H.o,if_false];exact a,d.mono (by simp)⟩
theorem O3(b:Nat)(p:ES)(w:World)(a:EB w b p):Calls Tryz.prog 168 #[.pointer (some ⟨b,0,none⟩)] w fun e w'=>e=fault p.ix∧w'=w:=by
 obtain⟨c,c1,_,f1,_⟩:=a.main;go_enter Tryz.func168,Tryz.ntmps168;go_wp2_with fail;exact⟨rfl,rfl,rfl⟩
theorem O4(b:Nat)(p:ES)(F:Nat)(a:Array Value)(w:World)(i:EB w b p)(j:p.s.size<=100)(hlt:p.ix<p.s.size)(hm:DY F a p.cur true w):Calls Tryz.prog 218 #[.pointer (some ⟨b,0,none⟩),.func (.func F) #[] a] w fun e w'=>e=.returned (.int .u8 p.cur)∧EB w' b {p with ix:=p.ix+1}∧AA [b] w w':=by
 have k:(0:Int)<=(p.ix:Int):=by omega
 have l:(p.ix:Int)<=100:=by omega
 obtain⟨m,c⟩:=hm;go_enter Tryz.func218,Tryz.ntmps218;go_wp2_with(first|(go_at_call 167;refine(KX b p _ i hlt j).mono ?_;rintro e w1⟨rfl,h,d⟩));refine(c _ d).mono ?_;rintro e w2⟨rfl,f⟩;have g:=h.keep f (by simp);obtain⟨n,c1,_,f1,_⟩:=g.main;go_wp2_with fail;go_ret;exact⟨rfl,g.setIx (p.ix+1),((d.trans f).mono (by simp)).setCell (by simp) _⟩
theorem UW(b:Nat)(p:ES)(F:Nat)(a:Array Value)(w:World)(i:EB w b p)(j:p.s.size<=100)(hlt:p.ix<p.s.size)(hm:DY F a p.cur false w):Calls Tryz.prog 218 #[.pointer (some ⟨b,0,none⟩),.func (.func F) #[] a] w fun e w'=>e=fault p.ix∧AA [b] w w':=by
 obtain⟨k,c⟩:=hm;go_enter Tryz.func218,Tryz.ntmps218;go_wp2_with(first|(go_at_call 167;refine(KX b p _ i hlt j).mono ?_;rintro e w1⟨rfl,g,d⟩));refine(c _ d).mono ?_;rintro e w2⟨rfl,f⟩;have h:=g.keep f (by simp);go_wp2_with(first|(go_at_call 168;refine(O3 b p _ h).mono ?_;rintro e w3⟨rfl,rfl⟩;simp only[fault]));exact⟨rfl,rfl,(d.trans f).mono (by simp)⟩
theorem UX(b:Nat)(p:ES)(fv:Value)(w:World)(f:EB w b p)(a:p.ix=p.s.size):Calls Tryz.prog 218 #[.pointer (some ⟨b,0,none⟩),fv] w fun e w'=>e=fault p.ix∧AA [b] w w':=by
 go_enter Tryz.func218,Tryz.ntmps218;go_wp2_with(first|(go_at_call 167;refine(Ls b p _ f a).mono ?_;rintro e w1⟨rfl,c,d⟩)|(go_at_call 168;refine(O3 b p _ c).mono ?_;rintro e w3⟨rfl,rfl⟩;simp only[fault]));exact⟨rfl,rfl,d.mono (by simp)⟩
