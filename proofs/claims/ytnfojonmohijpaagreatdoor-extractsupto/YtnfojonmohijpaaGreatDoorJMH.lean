/-
  DERIVED. Plain mathematics: a node done several times: what its rounds come to, and that a round which adds nothing is the last that can. Nothing of the program stands here.
-/
import Derived.Test.YtnfojonmohijpaaGreatDoorJBP
import Derived.Deep.Onto
set_option linter.all false
set_option maxRecDepth 100000
set_option maxHeartbeats 8000000
namespace Go.Proofs.YtnfojonmohijpaaGreatDoor
open Go.RowKit
variable{s:ByteArray}{nds:List Nd}{bp c i j least n:Nat}{w:World}{D:List Nat}
theorem MN.it_zero:MN s nds (.it c 0) i j↔i=j:=
 ⟨fun h=>by cases h;rfl,fun h=>by cases h;exact .izero c i⟩
theorem MN.it_succ:MN s nds (.it c (n+1)) i j↔∃m,MN s nds (.node c) i m∧MN s nds (.it c n) m j:=
 ⟨fun h=>by cases h with|isucc _ _ _ m _ a b=>exact⟨m,a,b⟩,fun⟨m,a,b⟩=> .isucc c n i m j a b⟩
theorem MN.it_snoc:∀{n i j:Nat},MN s nds (.it c (n+1)) i j↔∃m,MN s nds (.it c n) i m∧MN s nds (.node c) m j
 |0,i,j=>by
  rw[MN.it_succ];constructor
  ·rintro⟨m,a,b⟩;rw[MN.it_zero]at b;subst b;exact⟨i,.izero c i,a⟩
  ·rintro⟨m,a,b⟩;rw[MN.it_zero]at a;subst a;exact⟨j,b,.izero c j⟩
 |n+1,i,j=>by
  rw[MN.it_succ];constructor
  ·rintro⟨m,a,b⟩;obtain⟨m',d,e⟩:=MN.it_snoc.1 b;exact⟨m',MN.it_succ.2 ⟨m,a,d⟩,e⟩
  ·rintro⟨m,a,b⟩;obtain⟨m',f,a2⟩:=MN.it_succ.1 a;exact⟨m',f,MN.it_snoc.2 ⟨m,a2,b⟩⟩
def B3(s:ByteArray)(nds:List Nd)(c least n i j:Nat):Prop:=∃m,least<=m∧m<=n∧MN s nds (.it c m) i j
theorem B3.first:B3 s nds c least least i j↔MN s nds (.it c least) i j:=by
 constructor
 ·rintro⟨m,a,b,h⟩;have:m=least:=by omega
  subst this;exact h
 ·intro h;exact⟨least,AP _,AP _,h⟩
theorem B3.step(f:least<=n):B3 s nds c least (n+1) i j↔B3 s nds c least n i j∨∃m,B3 s nds c least n i m∧MN s nds (.node c) m j:=by
 constructor
 ·rintro⟨m,a,b,h⟩;rcases DU n m with e|e
  ·have:m=n+1:=by omega
   subst this;obtain⟨m',g,d⟩:=MN.it_snoc.1 h;exact AE ⟨m',⟨n,f,AP _,g⟩,d⟩
  ·exact AH ⟨m,a,e,h⟩
 ·rintro(⟨m,a,b,h⟩|⟨m',⟨m,a,b,h⟩,d⟩)
  ·exact⟨m,a,by omega,h⟩
  ·exact⟨m+1,by omega,by omega,MN.it_snoc.2 ⟨m',h,d⟩⟩
theorem B3.fix(e:least<=n)(hi:i<=s.size)(h:∀j,j<=s.size->B3 s nds c least (n+1) i j->B3 s nds c least n i j):∀d j,B3 s nds c least (n+d) i j->B3 s nds c least n i j:=by
 intro d
 induction d with
 |zero=>intro j h;exact h
 |succ d ih=>
  intro j f;rcases(B3.step (n:=n+d) (by omega)).1 f with a|⟨m,a,b⟩
  ·exact ih j a
  ·have hm:=ih m a;obtain⟨q,_,_,g⟩:=hm;exact h j (b.inn (g.inn hi)) ((B3.step e).2 (AE ⟨m,ih m a,b⟩))
def FW(s:ByteArray)(nds:List Nd)(c least:Nat)(a:Int)(i j:Nat):Prop:=∃n,least<=n∧(a<0∨(n:Int)<=a)∧MN s nds (.it c n) i j
theorem FW.upto{d:Int}(e:(n:Int)=d):FW s nds c least d i j↔B3 s nds c least n i j:=by
 constructor
 ·rintro⟨m,a,b,h⟩;exact⟨m,a,by omega,h⟩
 ·rintro⟨m,a,b,h⟩;exact⟨m,a,by omega,h⟩
theorem FW.fix{d:Int}(g:least<=n)(hi:i<=s.size)(hm:d<0∨(n:Int)<=d)(h:∀j,j<=s.size->B3 s nds c least (n+1) i j->B3 s nds c least n i j):FW s nds c least d i j↔B3 s nds c least n i j:=by
 constructor
 ·rintro⟨m,a,b,f⟩;rcases DU n m with e|e
  ·have:=B3.fix g hi h (m-n) j ⟨m,a,by omega,f⟩;exact this
  ·exact⟨m,a,e,f⟩
 ·rintro⟨m,a,b,f⟩;exact⟨m,a,by omega,f⟩
def PD:Option Value->Bool
 |some (.bool true)=>true
 |_=>false
def mu(w:World)(u:Value)(N:Nat):Nat:=((List.range N).filter fun j=> !PD (w.cell? ⟨u.ownBlock.getD 0,j,none⟩)).length
theorem Kb{x N:Nat}{f:Nat->Bool}(h:RB w (.slice (some ⟨x,0,none⟩) N c) N f):mu w (.slice (some ⟨x,0,none⟩) N c) N=((List.range N).filter fun j=> !f j).length:=by
 unfold mu;congr 1;apply List.filter_congr;intro j b;have a:j<N:=by simpa using b
 show(!PD (w.cell? ⟨x,j,none⟩))=_;rw[h.at a];cases f j<;>rfl
theorem PE{f f':Nat->Bool}:∀{N:Nat},(∀j,j<N->f j=true->f' j=true)->((List.range N).filter fun j=> !f' j).length<=((List.range N).filter fun j=> !f j).length
 |0,_=>by simp
 |N+1,h=>by
  have ih:=PE (f:=f) (f':=f') (N:=N) fun j a=>h j (by omega)
  have b:=h N (by omega);simp only[List.range_succ,List.filter_append,AW];cases e:f N<;>cases c:f' N<;>simp_all<;>omega
theorem PF{f f':Nat->Bool}:∀{N:Nat},(∀j,j<N->f j=true->f' j=true)->(∃j,j<N∧f' j=true∧f j=false)->((List.range N).filter fun j=> !f' j).length<((List.range N).filter fun j=> !f j).length
 |0,_,⟨j,c,_⟩=>by omega
 |N+1,h,⟨j,c,a,b⟩=>by
  have d:=h N (by omega);simp only[List.range_succ,List.filter_append,AW];rcases DU j N with e|e
  ·have ih:=PF (f:=f) (f':=f') (N:=N) (fun j c=>h j (by omega)) ⟨j,e,a,b⟩;cases g:f N<;>cases i:f' N<;>simp_all<;>omega
  ·have:j=N:=by omega
   subst this;have l:=PE (f:=f) (f':=f') (N:=j) (fun k m=>h k (by omega));simp[a,b];omega
theorem RS.iff{N:Nat}{v:Value}{P Q:Nat->Prop}(h:RS w s N D v P)(e:∀j,j<=s.size->(P j↔Q j)):RS w s N D v Q:=by
 obtain⟨x,c,f,a,b,d,i⟩:=h;exact⟨x,c,f,a,b,d,fun j g=>(i j g).trans (e j g)⟩
structure TL (w wr : World) (s : ByteArray) (N : Nat) (nds : List Nd) (k least i : Nat) (b bp : Nat) (p : PS) (D : List Nat) (E : Value) (Z : List Nat) (v u : Value) (n : Nat) : Prop where
 set : RS wr s N D v (fun j => B3 s nds k least n i j)
 out : RS wr s N D u (fun j => B3 s nds k least n i j)
 new : ∀ g, u.ownBlock = some g -> w.heap.size <= g
 tx : TX wr b bp s p nds D E Z
 keep : AA D w wr
 ge : least <= n
theorem Um(w:World)(u:Value)(N:Nat):mu w u N<=N:=by
 unfold mu;refine BG (List.length_filter_le _ _) ?_;simp
structure NL (w3 wq : World) (fo f2 : Nat -> Bool) (qn : Value) (j : Nat) (gr : Bool) : Prop where
 own : wq.ownsRow w3.heap.size 4 1 qn j (bl j fun a => fo a || f2 a)
 keep : AA [] w3 wq
 grown : gr = true ↔ ∃ a, a < j ∧ f2 a = true ∧ fo a = false
theorem NL.step{w3 wq m:World}{fo f2:Nat->Bool}{qn:Value}{g cap:Nat}{gr f v:Bool}{o:Obj}(L:NL w3 wq fo f2 qn j gr)(p:v=(fo j||f2 j))(q:f=(gr||(f2 j&& !fo j)))(i:m.ownsRow w3.heap.size 4 1 (.slice (some ⟨g,0,none⟩) (j+1) cap) (j+1) ((bl j fun a=>fo a||f2 a)++[.bool v]))(b:(wq.alloc o).grownBy m qn.ownBlock):NL w3 m fo f2 (.slice (some ⟨g,0,none⟩) (j+1) cap) (j+1) f:=by
 refine⟨?_,?_,?_⟩
 ·rw[Sy];subst p;exact i
 ·have c:=L.keep.alloc o;refine⟨b.os.trans c.os,b.tape.trans c.tape,b.output.trans c.output,BG c.size b.size,fun k l r=>(b.block k (BL l c.size) ?_).trans (c.block k l r)⟩;intro e;have:=(L.own.lt k e.symm).1;omega
 ·rw[q];simp only[GV,GH,Bool.not_eq_true',L.grown];constructor
  ·rintro(⟨a,n,d⟩|⟨n,d⟩)
   ·exact⟨a,by omega,d⟩
   ·exact⟨j,by omega,n,d⟩
  ·rintro⟨a,n,d⟩;rcases DU a j with h|h
   ·exact AH ⟨a,h,d⟩
   ·have:a=j:=by omega
    subst this;exact AE d
theorem Lw(s:ByteArray)(N:Nat)(HN:Hid (N=s.size+1))(nds:List Nd)(n:Nat)(IH:DS s nds n)(k:Nat)(hk:NK nds n k)(w:World)(b bp:Nat)(p:PS)(D:List Nat)(E:Value)(Z:List Nat)(h:TX w b bp s p nds D E Z)(HZ:Hid (∀x,x∈Z->x<w.heap.size))(least:Nat)(c:Int)(bu:least<=5)(bv:-1<=c∧c<=5)(O:c<0∨(least:Int)<=c)(i:Nat)(hi:i<=s.size):Calls Tryz.prog 87 #[.pointer (some ⟨b,0,none⟩),.int .i64 k,.int .i64 least,.int .i64 c,.int .i64 i] w fun e w'=>∃v,e=.returned v∧RS w' s N D v (fun j=>FW s nds k least c i j)∧(∀g,v.ownBlock=some g->w.heap.size<=g)∧TX w' b bp s p nds D E Z∧AA D w w':=by
 have hs:=h.small;have an:=h.dlt;go_enter Tryz.func87,Tryz.ntmps87;go_wp2_with fail;refine(OA b _ E s i hi hs w h.xb).mono ?_;rintro e w1⟨g1,rfl,ao,ap,bw⟩;rw[<-HN.o]at ao;rw[<-HN.o];have ah:TX w1 b bp s p nds D E Z:=h.keep ap (by simp);have ai:RS w1 s N D (.slice (some ⟨g1,0,none⟩) N N) (fun j=>MN s nds (.it k 0) i j):=⟨g1,N,_,rfl,ao,fun hm=>by have:=an _ hm;omega,fun j _=>by show decide (j=i)=true↔MN s nds (.it k 0) i j;rw[MN.it_zero];simp only[EJ];exact eq_comm⟩;have r:AA D w w1:=ap.mono (by simp);have HI:Hid (i<=s.size):=hi;clear h ao ap hs hi;go_wp2_with fail;go_loopw [11,12] (fun q1 Y wr=>∃(t:Nat),t<=least∧Y=.int .i64 t∧RS wr s N D q1 (fun j=>MN s nds (.it k t) i j)∧(∀g,q1.ownBlock=some g->w.heap.size<=g)∧TX wr b bp s p nds D E Z∧AA D w wr) (fun _ Y _=>least-(intOf Y).toNat)
 case atStart=>exact⟨0,by omega,rfl,ai,by intro g hg;simp only[Value.ownBlock,Ai]at hg;omega,ah,r⟩
 case round=>
  clear ai ah r;obtain⟨t,ht,rfl,aY,aa,I,r⟩:=hrel;obtain⟨x,c',f,rfl,ab,aA,G⟩:=aY;by_cases aq:t<least
  ·have bi:(t:Int)<(least:Int):=by omega
   have HT:Hid (t<least):=aq;have HS:Hid (∀j,j<=s.size->(f j=true↔MN s nds (.it k t) i j)):=G;clear G ht aq aa O;go_wp2_with fail;refine(Lv s N HN nds n IH k hk wr b bp p D E Z I (fun x hx=>BL (HZ.o x hx) r.size) x c' f ab aA).mono ?_;rintro e w2⟨y,f2,rfl,F,hy,aB,aC,d⟩;have bj:=r.size;have aD:RS w2 s N D (.slice (some ⟨y,0,none⟩) N N) (fun j=>MN s nds (.it k (t+1)) i j):=⟨y,N,f2,rfl,F,fun hm=>by have:=an _ hm;omega,fun j z=>by
    show f2 j=true↔MN s nds (.it k (t+1)) i j;rw[MN.it_snoc,d j z];constructor
    ·rintro⟨m,a,b',d'⟩;exact⟨m,(HS.o m a).1 b',d'⟩
    ·rintro⟨m,a,b'⟩;have hm:=a.inn HI.o;exact⟨m,hm,(HS.o m hm).2 a,b'⟩⟩
   have aE:=r.trans aC;clear F d aC ab I;go_wp2_with fail;exact⟨⟨t+1,HT.o,by go_num,aD,by intro g hg;simp only[Value.ownBlock,Ai]at hg;omega,aB,aE⟩,by have:=HT.o;simp[intOf];omega⟩
  ·have aF:t=least:=by omega
   have bx:¬(t:Int)<(least:Int):=by omega
   have bk:w.heap.size<=x:=aa x rfl;have ar:TL w wr s N nds k least i b bp p D E Z (.slice (some ⟨x,0,none⟩) N c') (.slice (some ⟨x,0,none⟩) N c') least:=by
    have hR:RS wr s N D (.slice (some ⟨x,0,none⟩) N c') (fun j=>B3 s nds k least least i j):=⟨x,c',f,rfl,ab,aA,fun j z=>by
     rw[G j z,aF];exact B3.first.symm⟩
    exact⟨hR,hR,aa,I,r,AP _⟩
   clear aF aq ht ab G aa I r;obtain⟨i0,aZ,a1,a2,a3⟩:=A2 Gc;have a4:=Gb;have bz:(N:Int)<=101:=by have:=HN.o;have:=ar.tx.small;omega
   have HM:Hid (c<0∨(least:Int)<=c):=O;obtain⟨au,aG⟩:∃au:World,au=wr:=⟨_,rfl⟩;subst aG;clear O;go_wp2_with fail;go_loopw [11,13,14] (fun q1 Y q3 wr=>∃m:Nat,q3=.int .i64 m∧(c<0∨(m:Int)<=c)∧m+mu wr Y N<=200∧TL w wr s N nds k least i b bp p D E Z q1 Y m) (fun _ Y _ wr=>mu wr Y N)
   case atStart=>exact⟨least,rfl,HM.o,by have:=Um au (.slice (some ⟨x,0,none⟩) N c') N;omega,ar⟩
   case round=>
    clear ar;obtain⟨m,rfl,aH,aI,L⟩:=hrel;obtain⟨xs,cs,fs,rfl,aw,a5,ax⟩:=L.set;obtain⟨xo,co,fo,rfl,P,aJ,ac⟩:=L.out;by_cases J:(m:Int)<c∨c<0
    ·have bA:(m:Int)<=200:=by omega
     have a6:Hid (m+mu wr (.slice (some ⟨xo,0,none⟩) N co) N<=200):=aI;have aK:Hid ((m:Int)<c∨c<0):=J;have aL:Hid (∀j,j<=s.size->(fs j=true↔B3 s nds k least m i j)):=ax;have aM:Hid (∀j,j<=s.size->(fo j=true↔B3 s nds k least m i j)):=ac;have ad:Hid (least<=m):=L.ge;have aj:=L.tx;have ae:=L.keep;have a7:w.heap.size<=xo:=L.new xo rfl;by_cases X:(m:Int)<c
     all_goals
      first
      |(have bm:c<0:=J.resolve_left X)
      |skip
      clear L ax ac aH aI J;go_wp2_with fail;refine(Lv s N HN nds n IH k hk wr b bp p D E Z aj (fun x hx=>BL (HZ.o x hx) ae.size) xs cs fs aw a5).mono ?_;rintro e w3⟨y,f2,rfl,F,hy,Q,hk3,d⟩;have l:=P.keep hk3 (by intro g hg;simp only[Value.ownBlock,Ai]at hg;subst hg;exact aJ);have ak:=ae.trans hk3;have aN:Hid (mu w3 (.slice (some ⟨xo,0,none⟩) N co) N=mu wr (.slice (some ⟨xo,0,none⟩) N co) N):=by show _=_;rw[Kb l,Kb P]
      have aO:Hid (∀j,j<=s.size->((fo j||f2 j)=true↔B3 s nds k least (m+1) i j)):=fun j z=>by
       rw[B3.step ad.o,GV,aM.o j z,d j z];constructor
       ·rintro(h|⟨q,a,b',d'⟩)
        ·exact AH h
        ·exact AE ⟨q,(aL.o q a).1 b',d'⟩
       ·rintro(h|⟨q,a,b'⟩)
        ·exact AH h
        ·obtain⟨Y,_,_,hq⟩:=id a;have aP:=hq.inn HI.o;exact AE ⟨q,aP,(aL.o q aP).2 a,b'⟩
      have bn:=ae.size;have al:NL w3 w3 fo f2 (.slice none 0 0) 0 false:=⟨⟨rfl,AH ⟨rfl,rfl⟩⟩,AG _ _,by simp⟩;obtain⟨af,aQ⟩:∃af:World,af=wr:=⟨_,rfl⟩;subst aQ;clear aw P d hk3 aj ae;go_wp2_with fail;go_loopw [15,16,17] (fun qg qn qj wq=>∃(j:Nat)(gr:Bool),j<=N∧qj=.int .i64 j∧qg=.bool gr∧NL w3 wq fo f2 qn j gr) (fun _ _ qj _=>N-(intOf qj).toNat)
      case atStart=>exact⟨0,false,by omega,rfl,rfl,al⟩
      case round=>
       clear al;obtain⟨j,gr,z,rfl,rfl,L⟩:=hrel;by_cases A:j<N
       ·have bo:(0:Int)<=(j:Int):=by omega
        have bq:(j:Int)<(N:Int):=by omega
        have HJ:Hid (j<N):=A;have ho:=(l.keep L.keep (by simp)).at A;have he:=(F.keep L.keep (by simp)).at A;have O:j+1<=maxLen:=by unfold maxLen;omega
        have bs:=L.keep.size;cases K:fo j<;>cases M:f2 j<;>cases gr
        all_goals
         rw[K]at ho;rw[M]at he;go_wp2_with(first|(at_builtin;refine CC _ rfl _ _ _ rfl w3.heap.size 4 i0 (.bool false) 1 1 a4 aZ a1 a2 a3 rfl (by decide) u16 j _ rfl (L.own.alloc _) ⟨wr.heap.size,0,none⟩ 1 1 [.bool (fo j||f2 j)] rfl rfl ?c1 ?c2 ?c3 O ?c4 ?c5 (wr.heap.size+1) ?c6 ?_))
         case c1=>
          intro t u ht
          match t,ht with
          |0,ht=>simp at ht;subst ht;simp[Addr.add,K,M]
         case c2=>intro u hu;simp at hu;subst hu;rfl
         case c3=>omega
         case c4=>omega
         case c5=>simp;omega
         case c6=>simp
         intro g cap w4 R S a8 aR;have B:=L.step (by rw[K,M];rfl) rfl R S;have a9:=(l.keep B.keep (by simp)).at A;have ba:=(F.keep B.keep (by simp)).at A;rw[K]at a9;rw[M]at ba;rw[K,M]at B;have bc:Hid (NL w3 w4 fo f2 (.slice (some ⟨g,0,none⟩) (j+1) cap) (j+1) _):=B;clear B R S a8 aR L ho he K M z A;go_wp2_with fail;go_roundw
         case rel=>exact⟨j+1,_,HJ.o,by go_num,rfl,bc.o⟩
         case measure=>have:=HJ.o;simp[intOf];omega
       ·have ay:j=N:=by omega
        have bB:¬(j:Int)<(N:Int):=by omega
        rw[ay]at L;have bf:0<N:=by have:=HN.o;omega
        have T:RB wr u16 N (fun a=>fo a||f2 a):=World.ownsRow.mono L.own (AY _);obtain⟨gn,cn,aS,_⟩:=T.form bf;subst aS;have bC:w3.heap.size<=gn:=(L.own.lt gn rfl).1;have U:AA D w wr:=ak.trans (L.keep.mono (by simp));have V:TX wr b bp s p nds D E Z:=Q.keep L.keep (by simp);have bD:=ak.size;have aT:gn∉D:=fun hm=>by have:=an _ hm;omega
        have C:RS wr s N D (.slice (some ⟨gn,0,none⟩) N cn) (fun j=>B3 s nds k least (m+1) i j):=⟨gn,cn,_,rfl,T,aT,aO.o⟩;have H:∀g,(Value.slice (some ⟨gn,0,none⟩) N cn).ownBlock=some g->w.heap.size<=g:=by intro g hg;simp only[Value.ownBlock,Ai]at hg;omega
        have ag:Hid (gr=true↔∃a,a<N∧f2 a=true∧fo a=false):=L.grown;cases gr
        ·have aU:∀a,a<N->f2 a=true->fo a=true:=by
          intro a ha hf;cases e:fo a with
          |true=>rfl
          |false=>exact absurd (ag.o.2 ⟨a,ha,hf,e⟩) (by simp)
         have az:∀j,j<=s.size->B3 s nds k least (m+1) i j->B3 s nds k least m i j:=by
          intro j z hu;have X:=(aO.o j z).2 hu;rw[GV]at X;refine(aM.o j z).1 ?_;rcases X with X|X
          ·exact X
          ·exact aU j (by have:=HN.o;omega) X
         have W:RS wr s N D (.slice (some ⟨gn,0,none⟩) N cn) (fun j=>FW s nds k least c i j):=C.iff fun j z=>by
          have aV:c<0∨(m:Int)<=c:=by have:=aK.o;omega
          rw[FW.fix ad.o HI.o aV az];exact⟨az j z,fun h=>(B3.step ad.o).2 (AH h)⟩
         clear L T C aU az ay A z ag l F Q;go_wp2_with fail;go_ret;exact⟨_,rfl,W,H,V,U⟩
        ·have aW:mu wr (.slice (some ⟨gn,0,none⟩) N cn) N<mu af (.slice (some ⟨xo,0,none⟩) N co) N:=by
          rw[<-aN.o,Kb l,Kb T];exact PF (fun a _ h=>by rw[h];rfl) (by obtain⟨a,ha,X,h2⟩:=ag.o.1 rfl;exact⟨a,ha,by rw[X];simp,h2⟩)
         have aX:TL w wr s N nds k least i b bp p D E Z (.slice (some ⟨gn,0,none⟩) N cn) (.slice (some ⟨gn,0,none⟩) N cn) (m+1):=⟨C,C,H,V,U,by have:=ad.o;omega⟩;have am:Hid (mu wr (.slice (some ⟨gn,0,none⟩) N cn) N<mu af (.slice (some ⟨xo,0,none⟩) N co) N):=aW;clear L T C ay A z ag l F Q aW V U;go_wp2_with fail;exact⟨⟨m+1,by go_num,by have:=aK.o;omega,by have:=am.o;have:=a6.o;omega,aX⟩,am.o⟩
    ·have bE:¬(m:Int)<c:=fun h=>J (AH h)
     have bF:¬c<0:=fun h=>J (AE h)
     have W:RS wr s N D (.slice (some ⟨xo,0,none⟩) N co) (fun j=>FW s nds k least c i j):=⟨xo,co,fo,rfl,P,aJ,fun j z=>(ac j z).trans (FW.upto (by omega)).symm⟩;have H:=L.new;have I:=L.tx;have bh:=L.keep;clear L aw P ax ac J aH;go_wp2_with fail;go_ret;exact⟨_,rfl,W,H,I,bh⟩
theorem PG(h:c<256):DR c<256:=by
 unfold DR;split
 ·omega
 ·split<;>omega
theorem PH{z:Int}{m:Nat}(h:z=(m:Int))(hm:m<256):IntKind.u8.wrap z=(m:Int):=by
 have:IntKind.u8.wrap z=z%256:=by simp[IntKind.wrap,IntKind.bits,IntKind.signed]
 rw[this];omega
theorem Un(b h c:Nat)(f g:Nat->Bool)(fo:Bool)(z:Hid (g=Bw fo f))(p:c<256)(w:World)(a0 a2 a3 a4:Int)(r:Option Addr)(s t:Nat)(A:w.cell? ⟨b,2,none⟩=some (.bool fo))(u:HB w h f):Calls Tryz.prog 85 #[.pointer (some ⟨b,0,none⟩),.agg #[.int .u8 a0,.slice (some ⟨h,0,none⟩) 256 256,.int .i64 a2,.int .i64 a3,.int .i64 a4,.slice r s t],.int .u8 c] w fun e w'=>e=.returned (.bool (g c))∧AA [] w w':=by
 have j:AA [] w (w.alloc (.cells #[.int .u8 a0,.slice (some ⟨h,0,none⟩) 256 256,.int .i64 a2,.int .i64 a3,.int .i64 a4,.slice r s t] 157)):=(AG [] w).alloc _;have n:=(u.keep j (by simp)).cell p;have i:=(u.keep j (by simp)).cell (PG p);have E:=j.cell A;have B:(w.alloc (.cells #[.int .u8 a0,.slice (some ⟨h,0,none⟩) 256 256,.int .i64 a2,.int .i64 a3,.int .i64 a4,.slice r s t] 157)).cell? ⟨w.heap.size,1,none⟩=some (.slice (some ⟨h,0,none⟩) 256 256):=by
  rw[AU (AS w _)];rfl
 have C:(0:Int)<=(c:Int):=by omega
 have D:(c:Int)<256:=by omega
 have k:Hid (g c=(f c||fo&&f (DR c))):=by show g c=_;rw[z.o];rfl
 clear u A z;by_cases F:97<=(c:Int)<;>by_cases G:(c:Int)<=122<;>by_cases H:65<=(c:Int)<;>by_cases I:(c:Int)<=90
 all_goals first
  |(exfalso;omega)
  |(
   have m:DR c=c-32:=by(unfold DR;rw[AL (by omega)])
   have hw:IntKind.u8.wrap ((c:Int)-32)=((c-32:Nat):Int):=PH (by omega) (by omega);obtain⟨d,hd⟩:=AQ (c-32);rw[m]at i k;rw[<-hd]at i k hw;have v:(0:Int)<=(d:Int):=by omega
   have x:(d:Int)<256:=by omega
   clear hd m;obtain⟨q,a⟩:=An (f c);obtain⟨y,l⟩:=An (f d);rw[a]at n k;rw[l]at i k;clear a l p;cases fo<;>cases q<;>cases y
   all_goals
    go_enter Tryz.func85,Tryz.ntmps85;go_wp2_with fail;go_ret;exact⟨by rw[k.o];rfl,j⟩)
  |(
   have m:DR c=c+32:=by(unfold DR;rw[AK (by omega),AL (by omega)])
   have hw:IntKind.u8.wrap ((c:Int)+32)=((c+32:Nat):Int):=PH (by omega) (by omega);obtain⟨d,hd⟩:=AQ (c+32);rw[m]at i k;rw[<-hd]at i k hw;have v:(0:Int)<=(d:Int):=by omega
   have x:(d:Int)<256:=by omega
   clear hd m;obtain⟨q,a⟩:=An (f c);obtain⟨y,l⟩:=An (f d);rw[a]at n k;rw[l]at i k;clear a l p;cases fo<;>cases q<;>cases y
   all_goals
    go_enter Tryz.func85,Tryz.ntmps85;go_wp2_with fail;go_ret;exact⟨by rw[k.o];rfl,j⟩)
  |(
   have m:DR c=c:=by(unfold DR;rw[AK (by omega),AK (by omega)])
   rw[m]at k;obtain⟨q,a⟩:=An (f c);rw[a]at n k;clear a p i m;cases fo<;>cases q
   all_goals
    go_enter Tryz.func85,Tryz.ntmps85;go_wp2_with fail;go_ret;exact⟨by rw[k.o];rfl,j⟩)
theorem TX.slot{b:Nat}{p:PS}{Z:List Nat}{E:Value}(h:TX w b bp s p nds D E Z){k:Nat}(l:k<nds.length)(hi:i<=s.size):∃a cap g v,E=.slice (some ⟨a,0,none⟩) nds.length cap∧D[k]? =some g∧w.cell? ⟨a,k,none⟩=some (.slice (some ⟨g,0,none⟩) (s.size+1) (s.size+1))∧w.cell? ⟨g,i,none⟩=some v∧w.frozen? ⟨g,i,none⟩=false∧(v=.slice none 0 0∨EA w s nds D Z k i v):=by
 obtain⟨a,cap,m,_,_⟩:=h.out.form (by omega);subst m;have c:k<D.length:=by rw[h.dlen];exact l
 have d:D[k]? =some D[k]:=Ax c;obtain⟨cs,o,j,n⟩:=h.inn k _ d;have e:i<cs.length:=by omega
 have f:cs[i]? =some cs[i]:=Ax e;refine⟨a,cap,D[k],cs[i],rfl,d,?_,?_,?_,n i _ f⟩
 ·rw[BX h.out k (by omega),FV,d];rfl
 ·rw[AU j];simp
 ·exact Lib.frozen_of_heap j i
theorem Uo(s:ByteArray)(nds:List Nd)(k:Nat)(r:k<nds.length)(w:World)(b bp:Nat)(p:PS)(D:List Nat)(E:Value)(Z:List Nat)(i:Nat)(h:TX w b bp s p nds D E Z)(hi:i<=s.size)(d cap g:Nat)(v:Value)(j:E=.slice (some ⟨d,0,none⟩) nds.length cap)(N:Nat)(t:Hid (N=s.size+1))(A:w.cell? ⟨d,k,none⟩=some (.slice (some ⟨g,0,none⟩) N N))(B:w.cell? ⟨g,i,none⟩=some v)(u:EA w s nds D Z k i v):Calls Tryz.prog 48 #[.pointer (some ⟨b,0,none⟩),.int .i64 k,.int .i64 i] w fun e w'=>e=.returned v∧w'=w:=by
 obtain⟨C,F,G,y⟩:=h.xb.main;rw[j]at y;have z:=h.small;have l:(0:Int)<=(k:Int):=by omega
 have m:(k:Int)<(nds.length:Int):=by omega
 have n:(0:Int)<=(i:Int):=by omega
 have q:(i:Int)<(N:Int):=by have:=t.o;omega
 obtain⟨x,c,f,a,_⟩:=u;subst a;clear h j r hi z;go_enter Tryz.func48,Tryz.ntmps48;go_wp2_with fail;go_ret;exact⟨rfl,rfl⟩
def Jn(s:ByteArray)(nds:List Nd)(k i:Nat)(w:World)(b bp:Nat)(p:PS)(D:List Nat)(E:Value)(Z:List Nat)(e:Ending)(w':World):Prop:=
 ∃v,e=.returned v∧EA w' s nds D Z k i v∧TX w' b bp s p nds D E Z∧AA D w w'
theorem DK.kv{b:Nat}{E v kv:Value}{Z kids:List Nat}(h:DK w (Bf bp (b::(E.ownBlock.toList++(D++Z))) v) kv kids)(k:kids.length<=1000):KV w D kv kids:=by
 obtain⟨d,e,rfl,f⟩:=h.form;refine⟨d,e,rfl,by omega,fun t c g=>?_⟩;obtain⟨hlt,i⟩:=BT.1 g;obtain⟨kb,rfl,a⟩:=f t hlt;refine⟨kb,0,rfl,(h.1.lt kb rfl).2,fun j=>h.2 kb rfl (by simp[Bf,j]),?_⟩;rw[Ba,a,i]
theorem TX.put{b:Nat}{p:PS}{Z:List Nat}{E:Value}(h:TX w b bp s p nds D E Z){k g:Nat}{v:Value}(a:D[k]? =some g)(c:EA w s nds D Z k i v):EA (w.setCell ⟨g,i,none⟩ v) s nds D Z k i v∧TX (w.setCell ⟨g,i,none⟩ v) b bp s p nds D E Z∧AA D w (w.setCell ⟨g,i,none⟩ v):=by
 have hm:g∈D:=C8 a;have d:AA D w (w.setCell ⟨g,i,none⟩ v):=(AG D w).setCell (p:=⟨g,i,none⟩) (AH hm) v;exact⟨c.keep d fun x e=>AH e,h.memo a c,d⟩
theorem Up(s:ByteArray)(N:Nat)(u:Hid (N=s.size+1))(nds:List Nd)(hn:nds.length<=1000)(n:Nat)(IH:DS s nds n)(k:Nat)(nd:Nd)(hk:nds[k]? =some nd)(m:nd.kind=119)(G:∀c,c∈nd.kids->NK nds n c)(M:nd.kids.length<=1000)(w:World)(b bp:Nat)(p:PS)(D:List Nat)(E:Value)(Z:List Nat)(i:Nat)(h:TX w b bp s p nds D E Z)(HZ:Hid (∀x,x∈Z->x<w.heap.size))(hi:i<=s.size)(eb cap g:Nat)(hE:E=.slice (some ⟨eb,0,none⟩) nds.length cap)(hg:D[k]? =some g)(hr:w.cell? ⟨eb,k,none⟩=some (.slice (some ⟨g,0,none⟩) N N))(hc:w.cell? ⟨g,i,none⟩=some (.slice none 0 0)):Calls Tryz.prog 48 #[.pointer (some ⟨b,0,none⟩),.int .i64 k,.int .i64 i] w (Jn s nds k i w b bp p D E Z):=by
 obtain⟨i0,O,P,Q,R⟩:=A2 Gc;have S:=Gb;obtain⟨x0,x1,x2,x3⟩:=h.xb.main;rw[hE]at x3;obtain⟨g',ax,hv,kv,q,an,hH,hK,c0,c1,c2,c3,c4,c5⟩:=h.nodes.node hk;have HK:Hid (nd.kind=119):=m;rw[m]at c0;obtain⟨n1,_⟩:=h.pb.nodes;rw[q]at n1;obtain⟨T,r,t,rfl⟩:=hH.1;have aG:Hid (Il w b (Bf bp (b::(E.ownBlock.toList++(D++Z))) p.nodes) (.slice T r t) nd):=hH;have ao:Hid (KV w D kv nd.kids):=hK.kv M;obtain⟨K,L,rfl,U⟩:=hK.form;have hs:=h.small;have ay:(0:Int)<=(k:Int):=by omega
 have az:(k:Int)<(nds.length:Int):=by omega
 have aA:(0:Int)<=(i:Int):=by omega
 have aB:(i:Int)<(N:Int):=by have:=u.o;omega
 have V:(s.size:Int)+1<=9223372036854775807:=by omega
 have HI:Hid (i<=s.size):=hi;have HS:Hid (s.size<=100):=hs;have HE:Hid (E=.slice (some ⟨eb,0,none⟩) nds.length cap):=hE;have HT:Hid (TX w b bp s p nds D E Z):=h;have HH:Hid (nds[k]? =some nd):=hk;have y:=(AG [] w).alloc (.cells #[.int .u8 119,.slice T r t,.int .i64 nd.n,.int .i64 nd.mn,.int .i64 nd.mx,.slice K nd.kids.length L] 157);have d:=AS w (.cells #[.int .u8 119,.slice T r t,.int .i64 nd.n,.int .i64 nd.mn,.int .i64 nd.mx,.slice K nd.kids.length L] 157);have HG:Hid (D[k]? =some g):=hg;have aC:(nds.length:Int)<=1000:=by omega
 have aD:(nd.kids.length:Int)<=1000:=by omega
 clear h hE hk hi hs q hH hK an m hn U hg M x2;go_enter Tryz.func48,Tryz.ntmps48;go_upto_region 4 with(fail)
 clear c0 c1 c2 c3 c4 c5 n1 x0 x1 x3 hr hc;generalize w.alloc (.cells #[.int .u8 119,.slice T r t,.int .i64 nd.n,.int .i64 nd.mn,.int .i64 nd.mx,.slice K nd.kids.length L] 157)=W at*;obtain⟨gn,H⟩:=AQ w.heap.size;rw[<-H]at d⊢;have aH:Hid (gn=w.heap.size):=H;clear H;have X:=HT.o.keep y (by simp);obtain⟨y0,y1,_,_⟩:=X.xb.main;clear X;go_upto_region 5 with(first|(refine D9 W rfl _ _ 98 rfl 0 4 i0 (.bool false) 1 S O P Q .i64 .i64 ((s.size:Int)+1) ((s.size:Int)+1) N rfl rfl (by have:=u.o;omega) (by have:=u.o;omega) (by have:=u.o;have:=HS.o;rw[R];omega) (by have:=u.o;have:=HS.o;unfold maxLen;omega) (AY _) ?_;intro w1 A Y))
 rw[Nat.mul_one,show(Value.bool false).cells=#[.bool false]from rfl,Hf]at A;have I:AA [] W w1:=Ci Y;have l:=y.trans I;have a:=(I.block gn (AN.1 d).1 (by simp)).trans d;have aa:=HT.o.keep l (by simp);have ab:Hid (KV w1 D (.slice K nd.kids.length L) nd.kids):=ao.o.keep (l.mono (by simp));have e0:w1.cell? ⟨gn,0,none⟩=some (.int .u8 119):=by rw[AU a];rfl
 have e5:w1.cell? ⟨gn,5,none⟩=some (.slice K nd.kids.length L):=by rw[AU a];rfl
 have ac:=y.size;have B:gn<W.heap.size:=(AN.1 d).1;have aI:Hid (w1.heap[gn]? =some (.cells #[.int .u8 119,.slice T r t,.int .i64 nd.n,.int .i64 nd.mn,.int .i64 nd.mx,.slice K nd.kids.length L] 157 (0,0))):=a;have aJ:Hid (gn<W.heap.size∧w.heap.size<=W.heap.size):=⟨B,ac⟩;clear y0 y1 Y d a B ac V P Q R O S y I;clear A;go_upto_region 12 with(fail)
 go_wp2_with fail;refine(PA s N u nds n IH nd.kids G w1 b bp p D E Z aa (fun x hx=>BL (HZ.o x hx) l.size) _ ab.o i HI.o).mono ?_;rintro e w2⟨v,rfl,ap,ad,z,ae⟩;have C:AA D w w2:=(l.mono (by simp)).trans ae;obtain⟨x,c,f,rfl,af,aq,F⟩:=ap;have aK:=ad x rfl;have ag:EA w2 s nds D Z k i (.slice (some ⟨x,0,none⟩) N c):=by
  refine⟨x,c,f,by rw[<-u.o],by rw[<-u.o];exact af,aq,fun hz=>by have:=HZ.o x hz;have:=l.size;omega,fun j hj=>?_⟩;rw[F j hj,MN.way_iff HH.o HK.o]
 clear af F ad aa ae e0 e5;obtain⟨aL,aE,g2,v2,ah,ai,ar,aF,aM,_⟩:=z.slot (k:=k) (i:=i) (by omega) HI.o;have aj:=HE.o.symm.trans ah;simp only[C7,Ai,FU,CD,true_and]at aj;obtain⟨ak,J⟩:=aj;subst ak J;obtain rfl:g=g2:=DC (HG.o.symm.trans ai);rw[<-u.o]at ar;obtain⟨z0,z1,_,z3⟩:=z.xb.main;rw[HE.o]at z3;obtain⟨au,aw,al⟩:=z.put HG.o ag;have am:=C.trans al;clear ah ai ag z C al;go_wp2_with fail;go_ret;exact⟨_,rfl,au,aw,am⟩
theorem Uq(s:ByteArray)(N:Nat)(H:Hid (N=s.size+1))(nds:List Nd)(hn:nds.length<=1000)(n:Nat)(IH:DS s nds n)(k:Nat)(nd:Nd)(hk:nds[k]? =some nd)(l:nd.kind=103)(c:Nat)(HC:Hid (nd.kids=[c]))(ao:NK nds n c)(O:nd.kids.length<=1000)(w:World)(b bp:Nat)(p:PS)(D:List Nat)(E:Value)(Z:List Nat)(i:Nat)(h:TX w b bp s p nds D E Z)(HZ:Hid (∀x,x∈Z->x<w.heap.size))(hi:i<=s.size)(eb cap g:Nat)(hE:E=.slice (some ⟨eb,0,none⟩) nds.length cap)(hg:D[k]? =some g)(hr:w.cell? ⟨eb,k,none⟩=some (.slice (some ⟨g,0,none⟩) N N))(hc:w.cell? ⟨g,i,none⟩=some (.slice none 0 0)):Calls Tryz.prog 48 #[.pointer (some ⟨b,0,none⟩),.int .i64 k,.int .i64 i] w (Jn s nds k i w b bp p D E Z):=by
 obtain⟨i0,P,Q,R,S⟩:=A2 Gc;have T:=Gb;obtain⟨x0,x1,x2,x3⟩:=h.xb.main;rw[hE]at x3;obtain⟨g',ay,hv,kv,r,ap,hH,hK,c0,c1,c2,c3,c4,c5⟩:=h.nodes.node hk;have HK:Hid (nd.kind=103):=l;rw[l]at c0;obtain⟨n1,_⟩:=h.pb.nodes;rw[r]at n1;obtain⟨U,t,u,rfl⟩:=hH.1;have aI:Hid (Il w b (Bf bp (b::(E.ownBlock.toList++(D++Z))) p.nodes) (.slice U t u) nd):=hH;have aq:Hid (KV w D kv nd.kids):=hK.kv O;obtain⟨I,M,rfl,V⟩:=hK.form;have hs:=h.small;have az:(0:Int)<=(k:Int):=by omega
 have aA:(k:Int)<(nds.length:Int):=by omega
 have aB:(0:Int)<=(i:Int):=by omega
 have aC:(i:Int)<(N:Int):=by have:=H.o;omega
 have X:(s.size:Int)+1<=9223372036854775807:=by omega
 have HI:Hid (i<=s.size):=hi;have HS:Hid (s.size<=100):=hs;have HE:Hid (E=.slice (some ⟨eb,0,none⟩) nds.length cap):=hE;have HT:Hid (TX w b bp s p nds D E Z):=h;have HH:Hid (nds[k]? =some nd):=hk;have y:=(AG [] w).alloc (.cells #[.int .u8 103,.slice U t u,.int .i64 nd.n,.int .i64 nd.mn,.int .i64 nd.mx,.slice I nd.kids.length M] 157);have d:=AS w (.cells #[.int .u8 103,.slice U t u,.int .i64 nd.n,.int .i64 nd.mn,.int .i64 nd.mx,.slice I nd.kids.length M] 157);have HG:Hid (D[k]? =some g):=hg;have aD:(nds.length:Int)<=1000:=by omega
 have aE:(nd.kids.length:Int)<=1000:=by omega
 clear h hE hk hi hs r hH hK ap l hn V hg O x2;go_enter Tryz.func48,Tryz.ntmps48;go_upto_region 4 with(fail)
 clear c0 c1 c2 c3 c4 c5 n1 x0 x1 x3 hr hc;generalize w.alloc (.cells #[.int .u8 103,.slice U t u,.int .i64 nd.n,.int .i64 nd.mn,.int .i64 nd.mx,.slice I nd.kids.length M] 157)=W at*;obtain⟨gn,J⟩:=AQ w.heap.size;rw[<-J]at d⊢;have aJ:Hid (gn=w.heap.size):=J;clear J;have Y:=HT.o.keep y (by simp);obtain⟨y0,y1,_,_⟩:=Y.xb.main;clear Y;go_upto_region 5 with(first|(refine D9 W rfl _ _ 98 rfl 0 4 i0 (.bool false) 1 T P Q R .i64 .i64 ((s.size:Int)+1) ((s.size:Int)+1) N rfl rfl (by have:=H.o;omega) (by have:=H.o;omega) (by have:=H.o;have:=HS.o;rw[S];omega) (by have:=H.o;have:=HS.o;unfold maxLen;omega) (AY _) ?_;intro w1 B aa))
 rw[Nat.mul_one,show(Value.bool false).cells=#[.bool false]from rfl,Hf]at B;have K:AA [] W w1:=Ci aa;have m:=y.trans K;have a:=(K.block gn (AN.1 d).1 (by simp)).trans d;have ab:=HT.o.keep m (by simp);have ac:Hid (KV w1 D (.slice I nd.kids.length M) nd.kids):=aq.o.keep (m.mono (by simp));have e0:w1.cell? ⟨gn,0,none⟩=some (.int .u8 103):=by rw[AU a];rfl
 have e5:w1.cell? ⟨gn,5,none⟩=some (.slice I nd.kids.length M):=by rw[AU a];rfl
 have ad:=y.size;have C:gn<W.heap.size:=(AN.1 d).1;have aK:Hid (w1.heap[gn]? =some (.cells #[.int .u8 103,.slice U t u,.int .i64 nd.n,.int .i64 nd.mn,.int .i64 nd.mx,.slice I nd.kids.length M] 157 (0,0))):=a;have aL:Hid (gn<W.heap.size∧w.heap.size<=W.heap.size):=⟨C,ad⟩;clear y0 y1 aa d a C ad X Q R S P T y K;obtain⟨aM,aN,ek,_,ae⟩:=ac.o;obtain⟨q,off,rfl,aO,aP,af⟩:∃q off,I=some ⟨q,off,none⟩∧q<w1.heap.size∧q∉D∧w1.cell? ⟨q,off+0,none⟩=some (.int .i64 c):=by
  simp only[C7]at ek;obtain⟨rfl,_,rfl⟩:=ek;exact ae 0 c (by rw[HC.o];rfl)
 have ag:((nd.kids.length:Nat):Int)=1:=by rw[HC.o];rfl
 have aF:(0:Int)<(nd.kids.length:Int):=by omega
 rw[Di]at af;clear B ek ae ag;go_upto_region 10 with(fail)
 go_wp2_with fail;refine(IH c ao w1 b bp p D E Z i ab (fun x hx=>BL (HZ.o x hx) m.size) HI.o).mono ?_;rintro e w2⟨v,rfl,F,z,ah⟩;have G:AA D w w2:=(m.mono (by simp)).trans ah;have A:EA w2 s nds D Z k i v:=by
  obtain⟨x,c',f,rfl,ar,h1,h2,h3⟩:=F;exact⟨x,c',f,rfl,ar,h1,h2,fun j hj=>by rw[h3 j hj,MN.grp_iff HH.o HK.o HC.o]⟩
 obtain⟨x,c',f,rfl,_⟩:=id A;rw[<-H.o]at A⊢;clear F ab ah e0 e5 af;obtain⟨aQ,aG,g2,v2,ai,aj,au,aH,aR,_⟩:=z.slot (k:=k) (i:=i) (by omega) HI.o;have ak:=HE.o.symm.trans ai;simp only[C7,Ai,FU,CD,true_and]at ak;obtain⟨al,L⟩:=ak;subst al L;obtain rfl:g=g2:=DC (HG.o.symm.trans aj);rw[<-H.o]at au;obtain⟨z0,z1,_,z3⟩:=z.xb.main;rw[HE.o]at z3;obtain⟨aw,ax,am⟩:=z.put HG.o A;have an:=G.trans am;clear ai aj A z G am;go_wp2_with fail;go_ret;exact⟨_,rfl,aw,ax,an⟩
