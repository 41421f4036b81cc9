/-
  DERIVED. The reference's 'Find' and 'Search'. Conditions of Find: what it has in memory lies as it should (TX); of Search: none.
-/
import Derived.Test.YtnfojonmohijpaaGreatDoorJVB
set_option linter.all false
set_option maxRecDepth 100000
set_option maxHeartbeats 8000000
namespace Go.Proofs.YtnfojonmohijpaaGreatDoor
open Go.RowKit
variable{nds:List Nd}{p:PS}{W:Whole}{s:ByteArray}{fr i lo:Nat}{w:World}{fs:List (List Int)}
def IS(w:World)(lo:Nat)(v:Value):Option (List Int)->Prop
 |none=>v=.slice none 0 0
 |some l=>w.ownsRow lo 3 1 v l.length (BA l)
structure KP (nds : List Nd) (p : PS) (W : Whole) : Prop where
 shp : shp W.x .ways
 sz : W.x.sz < 1000
 fair : W.x.fair W.g
 fair9 : W.x.fair 9
 thn : W.x.thn
 g9 : W.g <= 9
 dep : W.x.dep <= 7
 bg : p.bg = W.bg
 en : p.en = W.en
 gr : p.gr = W.g
 rep : C1 nds .ways W.x p.root
theorem KP.nk(h:KP nds p W):NK nds 1000 p.root:=⟨.ways,W.x,h.rep,h.shp,h.sz,h.fair9,h.thn⟩
theorem KP.iff(h:KP nds p W){j:Nat}:Mt s W.x i j↔MN s nds (.node p.root) i j:=by
 obtain⟨lw,a,b⟩:=h.rep;rw[show Mt s W.x i j↔∃d,d∈lw∧MN s nds (.node d) i j from IU h.shp a];exact b.alt_iff
theorem KP.tree(h:KP nds p W){j:Nat}(hm:MN s nds (.node p.root) i j)(c:j<=100):∃t ev,TN s nds p.gr (.node p.root) i j t ev∧TR s (.node W.x) i j t ev∧t.length<=300000000000000:=by
 obtain⟨t,ev,a⟩:=Uw (g:=p.gr) 1000 h.rep h.shp (by rw[h.gr];exact h.fair) (Dp h.sz) hm;have b:TR s (.node W.x) i j t ev:=a.toTR (kd:=.ways) h.rep h.shp;exact⟨t,ev,a,b,Ux b (h.iff.2 hm) h.shp h.dep (Dp h.sz) c⟩
theorem Jr(a b:List Int):BA (a++b)=BA a++BA b:=by simp[BA]
theorem Js(a:List Int):(BA a).length=a.length:=by simp[BA]
theorem PB.be{b:Nat}(h:PB w b p):w.cell? ⟨b,3,none⟩=some (.bool p.bg)∧w.cell? ⟨b,4,none⟩=some (.bool p.en):=⟨h.rbe.2.1,h.rbe.2.2.1⟩
theorem BF.some'{j:Nat}{t:List UInt8}{ev:List (Nat×Nat×Nat)}(h:Gi s W fr i j)(a:TR s (.node W.x) i j t ev):BF s W fr (some ([(i:Int),(j:Int)]++evs (List.replicate (2*W.g) (-1)) ev)):=AE ⟨i,j,t,ev,h,a,rfl⟩
theorem VH(s:ByteArray)(N:Nat)(HN:Hid (N=s.size+1))(nds:List Nd)(hn:nds.length<=1000)(W:Whole)(w:World)(b bp:Nat)(p:PS)(D:List Nat)(E:Value)(h:TX w b bp s p nds D E [])(P:Hid (KP nds p W))(fr:Nat)(a9:fr<=s.size):Calls Tryz.prog 92 #[.pointer (some ⟨b,0,none⟩),.int .i64 fr] w fun e w'=>∃v ans,e=.returned v∧BF s W fr ans∧IS w' w.heap.size v ans∧TX w' b bp s p nds D E []∧AA D w w':=by
 obtain⟨i0,aI,aJ,aj,ak⟩:=A2 Lz;have aK:=Fp;have hs:=h.small;have HX:Hid (TX w b bp s p nds D E []):=h;have ba:(s.size:Int)<=100:=by omega
 clear h;go_enter Tryz.func92,Tryz.ntmps92;go_upto_region 2 with(fail)
 go_loopw [5] (fun q wr=>∃i:Nat,q=.int .i64 i∧fr<=i∧i<=s.size+1∧(∀K d,fr<=K->K<i->K<=d->d<=s.size->¬B2 s W K d)∧TX wr b bp s p nds D E []∧AA D w wr) (fun q _=>s.size+1-(intOf q).toNat)
 case atStart=>exact⟨fr,rfl,AP _,by omega,fun K d h1 S=>by omega,HX.o,AG _ _⟩
 case round=>
  obtain⟨i,rfl,aW,aX,aL,hT,ao⟩:=hrel;obtain⟨x0,x1,_,_⟩:=hT.xb.main;obtain⟨x3,x4⟩:=hT.pb.be;have x2:=hT.pb.rbe.1;by_cases aO:i<=s.size
  rotate_left
  ·have aY:¬(i:Int)<=(s.size:Int):=by omega
   have HF:Hid (BF s W fr none):=AH ⟨rfl,fun K d h1 S h3=>aL K d h1 (by omega) S h3⟩;have aM:Hid (TX wr b bp s p nds D E []):=hT;clear aL aO aX x2 x3 x4 hT;go_wp2_with fail;go_ret;exact⟨_,rfl,none,HF.o,rfl,aM.o,ao⟩
  have aY:(i:Int)<=(s.size:Int):=by omega
  have ap:Hid (∀K d,fr<=K->K<i->K<=d->d<=s.size->¬B2 s W K d):=aL;have r:Hid (fr<=i∧i<=s.size∧s.size<=100):=⟨aW,aO,hs⟩;have aZ:Hid (p.bg=W.bg):=P.o.bg;have aN:Hid (p.en=W.en):=P.o.en;clear aL aO aX aW;cases hb:p.bg
  ·rw[hb]at x3;have aC:Hid (W.bg=true->i=0):=fun hw=>by rw[<-aZ.o,hb]at hw;cases hw
   clear hb;go_wp2_with fail;refine(Kc s nds hn 1000 (AP _) p.root P.o.nk wr b bp p D E [] i hT (by simp) r.o.2.1).mono ?_;rintro e w3⟨v,rfl,aP,I,hk3⟩;have F:=ao.trans hk3;obtain⟨x,c,fe,aD,T,a2,_,an⟩:=aP;rw[<-HN.o]at aD T;subst aD;have aQ:Hid (∀q,q<=s.size->(fe q=true↔Mt s W.x i q)):=fun q hq=>(an q hq).trans P.o.iff.symm
   clear an hk3 ao x0 x1 x2 x3 x4 hT;obtain⟨y0,y1,_,_⟩:=I.xb.main;obtain⟨y3,y4⟩:=I.pb.be;obtain⟨aE,aF⟩:∃aE:World,aE=wr:=⟨_,rfl⟩;subst aF;go_wp2_with fail;go_loopw [7] (fun q wq=>∃z:Nat,q=.int .i64 ((z:Int)-1)∧i<=z∧z<=s.size+1∧(∀d,z<=d->d<=s.size->¬B2 s W i d)∧wq=w3) (fun q _=>(intOf q+1).toNat-i)
   case atStart=>exact⟨s.size+1,by rw[show((s.size+1:Nat):Int)-1=(s.size:Int) by omega],by have:=r.o;omega,AP _,fun d h1 S=>by omega,rfl⟩
   case round=>
    obtain⟨z,rfl,aj,ak,Q,rfl⟩:=hrel;by_cases aG:i<z
    rotate_left
    ·have aR:z=i:=by omega
     subst aR;have a3:¬(z:Int)<=(z:Int)-1:=by omega
     have aH:Hid (∀K d,fr<=K->K<z+1->K<=d->d<=s.size->¬B2 s W K d):=fun K d h1 S h3 h4 G=>by
      by_cases hlt:K<z
      ·exact ap.o K d h1 hlt h3 h4 G
      ·have he:K=z:=by omega
       subst he;exact Q d h3 h4 G
     clear Q aG aj ak T;go_wp2_with fail
     first
      |exact⟨⟨z+1,by go_num,by have:=r.o;omega,by have:=r.o;omega,aH.o,I,F⟩,by have:=r.o;simp[intOf];omega⟩
      |(
       go_roundw
       case rel=>exact⟨z+1,by go_num,by have:=r.o;omega,by have:=r.o;omega,aH.o,I,F⟩
       case measure=>have:=r.o;simp[intOf];omega)
    obtain⟨j,rfl⟩:∃j,z=j+1:=⟨z-1,by omega⟩;have hq:((j+1:Nat):Int)-1=(j:Int):=by omega
    rw[hq];have a4:(i:Int)<=(j:Int):=by omega
    have a5:(0:Int)<=(j:Int):=by omega
    have a6:(j:Int)<(N:Int):=by have:=HN.o;omega
    have al:=T.at (j:=j) (by have:=HN.o;omega);have H:Hid (i<=j∧j<=s.size):=⟨by omega,by omega⟩;have R:Hid (∀d,j+1<=d->d<=s.size->¬B2 s W i d):=Q;have aq:Hid (fe j=true↔Mt s W.x i j):=aQ.o j (by omega);have a1:IntKind.i64.wrap ((j:Int)-1)=(j:Int)-1:=Kg (by omega) (by have:=r.o;omega);clear Q aG aj ak hq;cases hf:fe j
    ·rw[hf]at al;have U:Hid (∀d,j<=d->d<=s.size->¬B2 s W i d):=fun d h1 S G=>by
      by_cases he:d=j
      ·subst he;have:=aq.o.2 G.1;rw[hf]at this;cases this
      ·exact R.o d (by omega) S G
     clear hf;go_wp2_with fail
     first
      |exact⟨⟨j,rfl,H.o.1,by have:=H.o;omega,U.o,by first|rfl|trivial⟩,by have:=H.o;simp[intOf];omega⟩
      |(
       go_roundw
       case rel=>exact⟨j,rfl,H.o.1,by have:=H.o;omega,U.o,by first|rfl|trivial⟩
       case measure=>have:=H.o;simp[intOf];omega)
    rw[hf]at al;cases he:p.en
    ·rw[he]at y4;have V:Hid (B2 s W i j):=⟨aq.o.1 hf,aC.o,fun hw=>by rw[<-aN.o,he]at hw;cases hw⟩;clear hf he;have hM:=P.o.iff.1 V.o.1;obtain⟨t,ev,X,Y,ar⟩:=P.o.tree hM (by have:=H.o;have:=r.o;omega);have L:Hid (BF s W fr (some ([(i:Int),(j:Int)]++evs (List.replicate (2*p.gr) (-1)) ev))):=by
      show BF s W fr _;rw[P.o.gr];exact BF.some' ⟨r.o.1,H.o.1,H.o.2,V.o,ap.o,fun d h1 S=>R.o d h1 S⟩ Y
     have au:p.gr<=9:=by rw[P.o.gr];exact P.o.g9
     go_wp2_with fail;refine(Jq s nds hn p.root P.o.nk wr b bp p D E I rfl au i j false t ev X hM H.o.2 (by omega)).mono ?_;rintro e f⟨ob,sp,rfl,n,hk4⟩;have y:=F.trans hk4;obtain⟨out,Z,_,_⟩:=n.ot;have c2:=Z.main.2.2.1;have J:=n.row;have hlen:=n.len;have aa:=n.ot.lt;have aw:w.heap.size<=f.heap.size:=y.size;have M:=AS f (.cells #[.int .i64 (i:Int),.int .i64 (j:Int)] 3);have A:AA [] f (f.alloc (.cells #[.int .i64 (i:Int),.int .i64 (j:Int)] 3)):=(AG [] f).alloc _;have B:=y.trans (A.mono (by simp));have g:(f.alloc (.cells #[.int .i64 (i:Int),.int .i64 (j:Int)] 3)).ownsRow w.heap.size 3 1 (.slice (some ⟨f.heap.size,0,none⟩) 2 2) 2 [.int .i64 (i:Int),.int .i64 (j:Int)]:=⟨rfl,AE ⟨f.heap.size,2,_,rfl,aw,M,AP _,by unfold maxLen;omega,rfl,rfl⟩⟩;have ab:Hid (TX f b bp s p nds D E []):=n.tx.less (Z':=[]) (by simp);have ac:Hid (TX (f.alloc (.cells #[.int .i64 (i:Int),.int .i64 (j:Int)] 3)) b bp s p nds D E []):=ab.o.keep A (by simp);have l:=J.keep A (by simp);have aS:=(Ad (A.block ob aa (by simp))).trans c2;clear Z hk4 I F y0 y1 y3 y4 al T X Y ar hM c2 n J aa y;by_cases ad:p.gr=0
     ·have ae:Hid (evs (List.replicate (2*p.gr) (-1)) ev=[]):=FK.1 (by rw[hlen,ad]);rcases l.2 with⟨m,_⟩|⟨sb,cap,cur,m,_⟩
      ·subst m;go_wp2_with fail;go_ret;exact⟨_,_,rfl,L.o,by rw[ae.o];exact g,ac.o,B⟩
      ·rw[ad,Nat.mul_zero]at m;subst m;go_wp2_with fail;go_ret;exact⟨_,_,rfl,L.o,by rw[ae.o];exact g,ac.o,B⟩
     ·obtain⟨sb,cap,m,_,aT⟩:=Ga l (by omega);have ax:Hid (∀q u,(BA (evs (List.replicate (2*p.gr) (-1)) ev))[q]? =some u->(f.alloc (.cells #[.int .i64 (i:Int),.int .i64 (j:Int)] 3)).cell? ((⟨sb,0,none⟩:Addr).add q)=some u):=fun q u hu=>Fo l (by rw[m];rfl) q u hu
      have ay:Hid ((BA (evs (List.replicate (2*p.gr) (-1)) ev)).length=2*p.gr*1):=by show(BA _).length=_;rw[Js,hlen];omega
      subst m;go_wp2_with(first|(at_builtin;refine CC _ rfl _ _ _ rfl w.heap.size 3 i0 _ 1 8 aK aI aJ aj ak rfl (by decide) (.slice (some ⟨f.heap.size,0,none⟩) 2 2) 2 _ rfl g ⟨sb,0,none⟩ (2*p.gr) cap (BA (evs (List.replicate (2*p.gr) (-1)) ev)) rfl ay.o ax.o (by intro u hu;simp only[BA,List.mem_map]at hu;obtain⟨q,_,rfl⟩:=hu;rfl) (by omega) (by unfold maxLen;omega) (by omega) (by simp;omega) (f.heap.size+1) (by simp) ?_;intro g2 af w6 C a ag ah));have O:AA [f.heap.size] (f.alloc (.cells #[.int .i64 (i:Int),.int .i64 (j:Int)] 3)) w6:=⟨a.os,a.tape,a.output,a.size,fun k hk az=>a.block k hk (by intro e;apply az;simp only[Value.ownBlock,Ai]at e;simp[e])⟩;have ai:AA D w w6:=BZ B O (by intro x hx;simp at hx;exact AE (by omega));have aA:Hid (TX w6 b bp s p nds D E []):=ab.o.keep (BZ A O (by intro x hx;simp at hx;exact AE (by omega))) (by simp);have aB:IS w6 w.heap.size (.slice (some ⟨g2,0,none⟩) (2+2*p.gr) af) (some ([(i:Int),(j:Int)]++evs (List.replicate (2*p.gr) (-1)) ev)):=by
       show w6.ownsRow _ _ _ _ _ _;rw[Jr,show([(i:Int),(j:Int)]++evs (List.replicate (2*p.gr) (-1)) ev).length=2+2*p.gr by rw[AW,hlen];rfl];exact C
      clear C a ag ah O;go_ret;exact⟨_,_,rfl,L.o,aB,aA.o,ai⟩
    rw[he]at y4;by_cases am:j=s.size
    ·have aU:((j:Int)==(s.size:Int))=true:=by simpa using(by omega:(j:Int)=(s.size:Int))
     have V:Hid (B2 s W i j):=⟨aq.o.1 hf,aC.o,fun _=>am⟩;clear hf he am;have hM:=P.o.iff.1 V.o.1;obtain⟨t,ev,X,Y,ar⟩:=P.o.tree hM (by have:=H.o;have:=r.o;omega);have L:Hid (BF s W fr (some ([(i:Int),(j:Int)]++evs (List.replicate (2*p.gr) (-1)) ev))):=by
      show BF s W fr _;rw[P.o.gr];exact BF.some' ⟨r.o.1,H.o.1,H.o.2,V.o,ap.o,fun d h1 S=>R.o d h1 S⟩ Y
     have au:p.gr<=9:=by rw[P.o.gr];exact P.o.g9
     go_wp2_with fail;refine(Jq s nds hn p.root P.o.nk wr b bp p D E I rfl au i j false t ev X hM H.o.2 (by omega)).mono ?_;rintro e f⟨ob,sp,rfl,n,hk4⟩;have y:=F.trans hk4;obtain⟨out,Z,_,_⟩:=n.ot;have c2:=Z.main.2.2.1;have J:=n.row;have hlen:=n.len;have aa:=n.ot.lt;have aw:w.heap.size<=f.heap.size:=y.size;have M:=AS f (.cells #[.int .i64 (i:Int),.int .i64 (j:Int)] 3);have A:AA [] f (f.alloc (.cells #[.int .i64 (i:Int),.int .i64 (j:Int)] 3)):=(AG [] f).alloc _;have B:=y.trans (A.mono (by simp));have g:(f.alloc (.cells #[.int .i64 (i:Int),.int .i64 (j:Int)] 3)).ownsRow w.heap.size 3 1 (.slice (some ⟨f.heap.size,0,none⟩) 2 2) 2 [.int .i64 (i:Int),.int .i64 (j:Int)]:=⟨rfl,AE ⟨f.heap.size,2,_,rfl,aw,M,AP _,by unfold maxLen;omega,rfl,rfl⟩⟩;have ab:Hid (TX f b bp s p nds D E []):=n.tx.less (Z':=[]) (by simp);have ac:Hid (TX (f.alloc (.cells #[.int .i64 (i:Int),.int .i64 (j:Int)] 3)) b bp s p nds D E []):=ab.o.keep A (by simp);have l:=J.keep A (by simp);have aS:=(Ad (A.block ob aa (by simp))).trans c2;clear Z hk4 I F y0 y1 y3 y4 al T X Y ar hM c2 n J aa y;by_cases ad:p.gr=0
     ·have ae:Hid (evs (List.replicate (2*p.gr) (-1)) ev=[]):=FK.1 (by rw[hlen,ad]);rcases l.2 with⟨m,_⟩|⟨sb,cap,cur,m,_⟩
      ·subst m;go_wp2_with fail;go_ret;exact⟨_,_,rfl,L.o,by rw[ae.o];exact g,ac.o,B⟩
      ·rw[ad,Nat.mul_zero]at m;subst m;go_wp2_with fail;go_ret;exact⟨_,_,rfl,L.o,by rw[ae.o];exact g,ac.o,B⟩
     ·obtain⟨sb,cap,m,_,aT⟩:=Ga l (by omega);have ax:Hid (∀q u,(BA (evs (List.replicate (2*p.gr) (-1)) ev))[q]? =some u->(f.alloc (.cells #[.int .i64 (i:Int),.int .i64 (j:Int)] 3)).cell? ((⟨sb,0,none⟩:Addr).add q)=some u):=fun q u hu=>Fo l (by rw[m];rfl) q u hu
      have ay:Hid ((BA (evs (List.replicate (2*p.gr) (-1)) ev)).length=2*p.gr*1):=by show(BA _).length=_;rw[Js,hlen];omega
      subst m;go_wp2_with(first|(at_builtin;refine CC _ rfl _ _ _ rfl w.heap.size 3 i0 _ 1 8 aK aI aJ aj ak rfl (by decide) (.slice (some ⟨f.heap.size,0,none⟩) 2 2) 2 _ rfl g ⟨sb,0,none⟩ (2*p.gr) cap (BA (evs (List.replicate (2*p.gr) (-1)) ev)) rfl ay.o ax.o (by intro u hu;simp only[BA,List.mem_map]at hu;obtain⟨q,_,rfl⟩:=hu;rfl) (by omega) (by unfold maxLen;omega) (by omega) (by simp;omega) (f.heap.size+1) (by simp) ?_;intro g2 af w6 C a ag ah));have O:AA [f.heap.size] (f.alloc (.cells #[.int .i64 (i:Int),.int .i64 (j:Int)] 3)) w6:=⟨a.os,a.tape,a.output,a.size,fun k hk az=>a.block k hk (by intro e;apply az;simp only[Value.ownBlock,Ai]at e;simp[e])⟩;have ai:AA D w w6:=BZ B O (by intro x hx;simp at hx;exact AE (by omega));have aA:Hid (TX w6 b bp s p nds D E []):=ab.o.keep (BZ A O (by intro x hx;simp at hx;exact AE (by omega))) (by simp);have aB:IS w6 w.heap.size (.slice (some ⟨g2,0,none⟩) (2+2*p.gr) af) (some ([(i:Int),(j:Int)]++evs (List.replicate (2*p.gr) (-1)) ev)):=by
       show w6.ownsRow _ _ _ _ _ _;rw[Jr,show([(i:Int),(j:Int)]++evs (List.replicate (2*p.gr) (-1)) ev).length=2+2*p.gr by rw[AW,hlen];rfl];exact C
      clear C a ag ah O;go_ret;exact⟨_,_,rfl,L.o,aB,aA.o,ai⟩
    ·have aU:((j:Int)==(s.size:Int))=false:=by simpa using(by omega:¬(j:Int)=(s.size:Int))
     have U:Hid (∀d,j<=d->d<=s.size->¬B2 s W i d):=fun d h1 S G=>by
      by_cases aV:d=j
      ·subst aV;exact am (G.2.2 (aN.o.symm.trans he))
      ·exact R.o d (by omega) S G
     clear hf he am;go_wp2_with fail
     first
      |exact⟨⟨j,rfl,H.o.1,by have:=H.o;omega,U.o,by first|rfl|trivial⟩,by have:=H.o;simp[intOf];omega⟩
      |(
       go_roundw
       case rel=>exact⟨j,rfl,H.o.1,by have:=H.o;omega,U.o,by first|rfl|trivial⟩
       case measure=>have:=H.o;simp[intOf];omega)
  ·by_cases a7:0<i
   ·have a8:(0:Int)<(i:Int):=by omega
    have HF:Hid (BF s W fr none):=AH ⟨rfl,fun K d h1 S h3 G=>by
     by_cases hlt:K<i
     ·exact ap.o K d h1 hlt S h3 G
     ·have:=G.2.1 (aZ.o.symm.trans hb);omega⟩
    rw[hb]at x3;have aM:Hid (TX wr b bp s p nds D E []):=hT;clear x2 x4 hT hb;go_wp2_with fail;go_ret
    first|exact⟨_,rfl,none,HF.o,rfl,aM.o,ao⟩|exact⟨_,none,rfl,HF.o,rfl,aM.o,ao⟩
   ·have bc:¬(0:Int)<(i:Int):=by omega
    have aC:Hid (W.bg=true->i=0):=fun _=>by omega
    rw[hb]at x3;clear hb a7;go_wp2_with fail;refine(Kc s nds hn 1000 (AP _) p.root P.o.nk wr b bp p D E [] i hT (by simp) r.o.2.1).mono ?_;rintro e w3⟨v,rfl,aP,I,hk3⟩;have F:=ao.trans hk3;obtain⟨x,c,fe,aD,T,a2,_,an⟩:=aP;rw[<-HN.o]at aD T;subst aD;have aQ:Hid (∀q,q<=s.size->(fe q=true↔Mt s W.x i q)):=fun q hq=>(an q hq).trans P.o.iff.symm
    clear an hk3 ao x0 x1 x2 x3 x4 hT;obtain⟨y0,y1,_,_⟩:=I.xb.main;obtain⟨y3,y4⟩:=I.pb.be;obtain⟨aE,aF⟩:∃aE:World,aE=wr:=⟨_,rfl⟩;subst aF;go_wp2_with fail;go_loopw [7] (fun q wq=>∃z:Nat,q=.int .i64 ((z:Int)-1)∧i<=z∧z<=s.size+1∧(∀d,z<=d->d<=s.size->¬B2 s W i d)∧wq=w3) (fun q _=>(intOf q+1).toNat-i)
    case atStart=>exact⟨s.size+1,by rw[show((s.size+1:Nat):Int)-1=(s.size:Int) by omega],by have:=r.o;omega,AP _,fun d h1 S=>by omega,rfl⟩
    case round=>
     obtain⟨z,rfl,aj,ak,Q,rfl⟩:=hrel;by_cases aG:i<z
     rotate_left
     ·have aR:z=i:=by omega
      subst aR;have a3:¬(z:Int)<=(z:Int)-1:=by omega
      have aH:Hid (∀K d,fr<=K->K<z+1->K<=d->d<=s.size->¬B2 s W K d):=fun K d h1 S h3 h4 G=>by
       by_cases hlt:K<z
       ·exact ap.o K d h1 hlt h3 h4 G
       ·have he:K=z:=by omega
        subst he;exact Q d h3 h4 G
      clear Q aG aj ak T;go_wp2_with fail
      first
       |exact⟨⟨z+1,by go_num,by have:=r.o;omega,by have:=r.o;omega,aH.o,I,F⟩,by have:=r.o;simp[intOf];omega⟩
       |(
        go_roundw
        case rel=>exact⟨z+1,by go_num,by have:=r.o;omega,by have:=r.o;omega,aH.o,I,F⟩
        case measure=>have:=r.o;simp[intOf];omega)
     obtain⟨j,rfl⟩:∃j,z=j+1:=⟨z-1,by omega⟩;have hq:((j+1:Nat):Int)-1=(j:Int):=by omega
     rw[hq];have a4:(i:Int)<=(j:Int):=by omega
     have a5:(0:Int)<=(j:Int):=by omega
     have a6:(j:Int)<(N:Int):=by have:=HN.o;omega
     have al:=T.at (j:=j) (by have:=HN.o;omega);have H:Hid (i<=j∧j<=s.size):=⟨by omega,by omega⟩;have R:Hid (∀d,j+1<=d->d<=s.size->¬B2 s W i d):=Q;have aq:Hid (fe j=true↔Mt s W.x i j):=aQ.o j (by omega);have a1:IntKind.i64.wrap ((j:Int)-1)=(j:Int)-1:=Kg (by omega) (by have:=r.o;omega);clear Q aG aj ak hq;cases hf:fe j
     ·rw[hf]at al;have U:Hid (∀d,j<=d->d<=s.size->¬B2 s W i d):=fun d h1 S G=>by
       by_cases he:d=j
       ·subst he;have:=aq.o.2 G.1;rw[hf]at this;cases this
       ·exact R.o d (by omega) S G
      clear hf;go_wp2_with fail
      first
       |exact⟨⟨j,rfl,H.o.1,by have:=H.o;omega,U.o,by first|rfl|trivial⟩,by have:=H.o;simp[intOf];omega⟩
       |(
        go_roundw
        case rel=>exact⟨j,rfl,H.o.1,by have:=H.o;omega,U.o,by first|rfl|trivial⟩
        case measure=>have:=H.o;simp[intOf];omega)
     rw[hf]at al;cases he:p.en
     ·rw[he]at y4;have V:Hid (B2 s W i j):=⟨aq.o.1 hf,aC.o,fun hw=>by rw[<-aN.o,he]at hw;cases hw⟩;clear hf he;have hM:=P.o.iff.1 V.o.1;obtain⟨t,ev,X,Y,ar⟩:=P.o.tree hM (by have:=H.o;have:=r.o;omega);have L:Hid (BF s W fr (some ([(i:Int),(j:Int)]++evs (List.replicate (2*p.gr) (-1)) ev))):=by
       show BF s W fr _;rw[P.o.gr];exact BF.some' ⟨r.o.1,H.o.1,H.o.2,V.o,ap.o,fun d h1 S=>R.o d h1 S⟩ Y
      have au:p.gr<=9:=by rw[P.o.gr];exact P.o.g9
      go_wp2_with fail;refine(Jq s nds hn p.root P.o.nk wr b bp p D E I rfl au i j false t ev X hM H.o.2 (by omega)).mono ?_;rintro e f⟨ob,sp,rfl,n,hk4⟩;have y:=F.trans hk4;obtain⟨out,Z,_,_⟩:=n.ot;have c2:=Z.main.2.2.1;have J:=n.row;have hlen:=n.len;have aa:=n.ot.lt;have aw:w.heap.size<=f.heap.size:=y.size;have M:=AS f (.cells #[.int .i64 (i:Int),.int .i64 (j:Int)] 3);have A:AA [] f (f.alloc (.cells #[.int .i64 (i:Int),.int .i64 (j:Int)] 3)):=(AG [] f).alloc _;have B:=y.trans (A.mono (by simp));have g:(f.alloc (.cells #[.int .i64 (i:Int),.int .i64 (j:Int)] 3)).ownsRow w.heap.size 3 1 (.slice (some ⟨f.heap.size,0,none⟩) 2 2) 2 [.int .i64 (i:Int),.int .i64 (j:Int)]:=⟨rfl,AE ⟨f.heap.size,2,_,rfl,aw,M,AP _,by unfold maxLen;omega,rfl,rfl⟩⟩;have ab:Hid (TX f b bp s p nds D E []):=n.tx.less (Z':=[]) (by simp);have ac:Hid (TX (f.alloc (.cells #[.int .i64 (i:Int),.int .i64 (j:Int)] 3)) b bp s p nds D E []):=ab.o.keep A (by simp);have l:=J.keep A (by simp);have aS:=(Ad (A.block ob aa (by simp))).trans c2;clear Z hk4 I F y0 y1 y3 y4 al T X Y ar hM c2 n J aa y;by_cases ad:p.gr=0
      ·have ae:Hid (evs (List.replicate (2*p.gr) (-1)) ev=[]):=FK.1 (by rw[hlen,ad]);rcases l.2 with⟨m,_⟩|⟨sb,cap,cur,m,_⟩
       ·subst m;go_wp2_with fail;go_ret;exact⟨_,_,rfl,L.o,by rw[ae.o];exact g,ac.o,B⟩
       ·rw[ad,Nat.mul_zero]at m;subst m;go_wp2_with fail;go_ret;exact⟨_,_,rfl,L.o,by rw[ae.o];exact g,ac.o,B⟩
      ·obtain⟨sb,cap,m,_,aT⟩:=Ga l (by omega);have ax:Hid (∀q u,(BA (evs (List.replicate (2*p.gr) (-1)) ev))[q]? =some u->(f.alloc (.cells #[.int .i64 (i:Int),.int .i64 (j:Int)] 3)).cell? ((⟨sb,0,none⟩:Addr).add q)=some u):=fun q u hu=>Fo l (by rw[m];rfl) q u hu
       have ay:Hid ((BA (evs (List.replicate (2*p.gr) (-1)) ev)).length=2*p.gr*1):=by show(BA _).length=_;rw[Js,hlen];omega
       subst m;go_wp2_with(first|(at_builtin;refine CC _ rfl _ _ _ rfl w.heap.size 3 i0 _ 1 8 aK aI aJ aj ak rfl (by decide) (.slice (some ⟨f.heap.size,0,none⟩) 2 2) 2 _ rfl g ⟨sb,0,none⟩ (2*p.gr) cap (BA (evs (List.replicate (2*p.gr) (-1)) ev)) rfl ay.o ax.o (by intro u hu;simp only[BA,List.mem_map]at hu;obtain⟨q,_,rfl⟩:=hu;rfl) (by omega) (by unfold maxLen;omega) (by omega) (by simp;omega) (f.heap.size+1) (by simp) ?_;intro g2 af w6 C a ag ah));have O:AA [f.heap.size] (f.alloc (.cells #[.int .i64 (i:Int),.int .i64 (j:Int)] 3)) w6:=⟨a.os,a.tape,a.output,a.size,fun k hk az=>a.block k hk (by intro e;apply az;simp only[Value.ownBlock,Ai]at e;simp[e])⟩;have ai:AA D w w6:=BZ B O (by intro x hx;simp at hx;exact AE (by omega));have aA:Hid (TX w6 b bp s p nds D E []):=ab.o.keep (BZ A O (by intro x hx;simp at hx;exact AE (by omega))) (by simp);have aB:IS w6 w.heap.size (.slice (some ⟨g2,0,none⟩) (2+2*p.gr) af) (some ([(i:Int),(j:Int)]++evs (List.replicate (2*p.gr) (-1)) ev)):=by
        show w6.ownsRow _ _ _ _ _ _;rw[Jr,show([(i:Int),(j:Int)]++evs (List.replicate (2*p.gr) (-1)) ev).length=2+2*p.gr by rw[AW,hlen];rfl];exact C
       clear C a ag ah O;go_ret;exact⟨_,_,rfl,L.o,aB,aA.o,ai⟩
     rw[he]at y4;by_cases am:j=s.size
     ·have aU:((j:Int)==(s.size:Int))=true:=by simpa using(by omega:(j:Int)=(s.size:Int))
      have V:Hid (B2 s W i j):=⟨aq.o.1 hf,aC.o,fun _=>am⟩;clear hf he am;have hM:=P.o.iff.1 V.o.1;obtain⟨t,ev,X,Y,ar⟩:=P.o.tree hM (by have:=H.o;have:=r.o;omega);have L:Hid (BF s W fr (some ([(i:Int),(j:Int)]++evs (List.replicate (2*p.gr) (-1)) ev))):=by
       show BF s W fr _;rw[P.o.gr];exact BF.some' ⟨r.o.1,H.o.1,H.o.2,V.o,ap.o,fun d h1 S=>R.o d h1 S⟩ Y
      have au:p.gr<=9:=by rw[P.o.gr];exact P.o.g9
      go_wp2_with fail;refine(Jq s nds hn p.root P.o.nk wr b bp p D E I rfl au i j false t ev X hM H.o.2 (by omega)).mono ?_;rintro e f⟨ob,sp,rfl,n,hk4⟩;have y:=F.trans hk4;obtain⟨out,Z,_,_⟩:=n.ot;have c2:=Z.main.2.2.1;have J:=n.row;have hlen:=n.len;have aa:=n.ot.lt;have aw:w.heap.size<=f.heap.size:=y.size;have M:=AS f (.cells #[.int .i64 (i:Int),.int .i64 (j:Int)] 3);have A:AA [] f (f.alloc (.cells #[.int .i64 (i:Int),.int .i64 (j:Int)] 3)):=(AG [] f).alloc _;have B:=y.trans (A.mono (by simp));have g:(f.alloc (.cells #[.int .i64 (i:Int),.int .i64 (j:Int)] 3)).ownsRow w.heap.size 3 1 (.slice (some ⟨f.heap.size,0,none⟩) 2 2) 2 [.int .i64 (i:Int),.int .i64 (j:Int)]:=⟨rfl,AE ⟨f.heap.size,2,_,rfl,aw,M,AP _,by unfold maxLen;omega,rfl,rfl⟩⟩;have ab:Hid (TX f b bp s p nds D E []):=n.tx.less (Z':=[]) (by simp);have ac:Hid (TX (f.alloc (.cells #[.int .i64 (i:Int),.int .i64 (j:Int)] 3)) b bp s p nds D E []):=ab.o.keep A (by simp);have l:=J.keep A (by simp);have aS:=(Ad (A.block ob aa (by simp))).trans c2;clear Z hk4 I F y0 y1 y3 y4 al T X Y ar hM c2 n J aa y;by_cases ad:p.gr=0
      ·have ae:Hid (evs (List.replicate (2*p.gr) (-1)) ev=[]):=FK.1 (by rw[hlen,ad]);rcases l.2 with⟨m,_⟩|⟨sb,cap,cur,m,_⟩
       ·subst m;go_wp2_with fail;go_ret;exact⟨_,_,rfl,L.o,by rw[ae.o];exact g,ac.o,B⟩
       ·rw[ad,Nat.mul_zero]at m;subst m;go_wp2_with fail;go_ret;exact⟨_,_,rfl,L.o,by rw[ae.o];exact g,ac.o,B⟩
      ·obtain⟨sb,cap,m,_,aT⟩:=Ga l (by omega);have ax:Hid (∀q u,(BA (evs (List.replicate (2*p.gr) (-1)) ev))[q]? =some u->(f.alloc (.cells #[.int .i64 (i:Int),.int .i64 (j:Int)] 3)).cell? ((⟨sb,0,none⟩:Addr).add q)=some u):=fun q u hu=>Fo l (by rw[m];rfl) q u hu
       have ay:Hid ((BA (evs (List.replicate (2*p.gr) (-1)) ev)).length=2*p.gr*1):=by show(BA _).length=_;rw[Js,hlen];omega
       subst m;go_wp2_with(first|(at_builtin;refine CC _ rfl _ _ _ rfl w.heap.size 3 i0 _ 1 8 aK aI aJ aj ak rfl (by decide) (.slice (some ⟨f.heap.size,0,none⟩) 2 2) 2 _ rfl g ⟨sb,0,none⟩ (2*p.gr) cap (BA (evs (List.replicate (2*p.gr) (-1)) ev)) rfl ay.o ax.o (by intro u hu;simp only[BA,List.mem_map]at hu;obtain⟨q,_,rfl⟩:=hu;rfl) (by omega) (by unfold maxLen;omega) (by omega) (by simp;omega) (f.heap.size+1) (by simp) ?_;intro g2 af w6 C a ag ah));have O:AA [f.heap.size] (f.alloc (.cells #[.int .i64 (i:Int),.int .i64 (j:Int)] 3)) w6:=⟨a.os,a.tape,a.output,a.size,fun k hk az=>a.block k hk (by intro e;apply az;simp only[Value.ownBlock,Ai]at e;simp[e])⟩;have ai:AA D w w6:=BZ B O (by intro x hx;simp at hx;exact AE (by omega));have aA:Hid (TX w6 b bp s p nds D E []):=ab.o.keep (BZ A O (by intro x hx;simp at hx;exact AE (by omega))) (by simp);have aB:IS w6 w.heap.size (.slice (some ⟨g2,0,none⟩) (2+2*p.gr) af) (some ([(i:Int),(j:Int)]++evs (List.replicate (2*p.gr) (-1)) ev)):=by
        show w6.ownsRow _ _ _ _ _ _;rw[Jr,show([(i:Int),(j:Int)]++evs (List.replicate (2*p.gr) (-1)) ev).length=2+2*p.gr by rw[AW,hlen];rfl];exact C
       clear C a ag ah O;go_ret;exact⟨_,_,rfl,L.o,aB,aA.o,ai⟩
     ·have aU:((j:Int)==(s.size:Int))=false:=by simpa using(by omega:¬(j:Int)=(s.size:Int))
      have U:Hid (∀d,j<=d->d<=s.size->¬B2 s W i d):=fun d h1 S G=>by
       by_cases aV:d=j
       ·subst aV;exact am (G.2.2 (aN.o.symm.trans he))
       ·exact R.o d (by omega) S G
      clear hf he am;go_wp2_with fail
      first
       |exact⟨⟨j,rfl,H.o.1,by have:=H.o;omega,U.o,by first|rfl|trivial⟩,by have:=H.o;simp[intOf];omega⟩
       |(
        go_roundw
        case rel=>exact⟨j,rfl,H.o.1,by have:=H.o;omega,U.o,by first|rfl|trivial⟩
        case measure=>have:=H.o;simp[intOf];omega)
theorem IS.toW{v:Value}{ans:Option (List Int)}(h:IS w lo v ans):IW w lo v ans:=by
 cases ans with
 |none=>exact h
 |some l=>exact h
structure F7 (w : World) (lo : Nat) (v : Value) (fs : List (List Int)) : Prop where
 row : ∃ cs, w.ownsRow 0 32 1 v fs.length cs ∧ ∀ (k : Nat) (sp : List Int), fs[k]? = some sp -> ∃ g c, cs[k]? = some (.slice (some ⟨g, 0, none⟩) sp.length c) ∧ Cl w (.slice (some ⟨g, 0, none⟩) sp.length c) sp ∧ v.ownBlock ≠ some g ∧ lo <= g
 fresh : ∀ g, v.ownBlock = some g -> lo <= g
theorem Cl.keepS{w':World}{g c:Nat}{sp:List Int}{S:List Nat}(h:Cl w (.slice (some ⟨g,0,none⟩) sp.length c) sp)(a:AA S w w')(d:g∉S):Cl w' (.slice (some ⟨g,0,none⟩) sp.length c) sp:=by
 obtain⟨_,_,he,b,e⟩:=h.sl;cases he;exact⟨g,c,rfl,BL b a.size,fun k z f=>(Ad (a.block g b d)).trans (e k z f)⟩
theorem F7.keep{w':World}{v:Value}{S:List Nat}(h:F7 w lo v fs)(a:AA S w w')(b:∀x,x∈S->x<lo):F7 w' lo v fs:=by
 obtain⟨cs,d,e⟩:=h.row;refine⟨⟨cs,Ep d a (fun g f hm=>by have:=b g hm;have:=h.fresh g f;omega),fun k sp i=>?_⟩,h.fresh⟩;obtain⟨g,c,j,a2,a3,a4⟩:=e k sp i;exact⟨g,c,j,a2.keepS a (fun hm=>by have:=b g hm;omega),a3,a4⟩
theorem TX.addO{Y:World}{b bp:Nat}{D:List Nat}{E:Value}(j:TX w b bp s p nds D E [])(y:AA D w Y)(h:TX Y b bp s p nds D E []){o:Nat}{cs:Array Value}{T:TypeId}{fr:Nat×Nat}(G:w.heap.size<=o)(l:Y.heap[o]? =some (.cells cs T fr))(z:T≠4):TX Y b bp s p nds D E [o]:=by
 have hb:=j.xb.lt;have A:bp<w.heap.size:=(AN.1 j.pb).1;have a:∀x,x<w.heap.size->x∉[o]:=fun x n hm=>by simp at hm;omega
 refine⟨h.xb,h.pb,?_,h.out,h.nodup,⟨h.bb.1,h.bb.2.1,a _ hb,h.bb.2.2.2.1,a _ A⟩,fun g d=>⟨(h.ee g d).1,(h.ee g d).2.1,(h.ee g d).2.2.1,a g (j.out.lt g d).2⟩,fun g d=>a g (j.dlt g d),h.small,fun k g d=>?_⟩
 ·have q:=(j.less (Z':=[o]) fun x n=>AE (by simp at n;omega)).nodes;exact q.keepA y (fun x n=>AE (AH (by simp[n]))) h.bb.2.1
 ·obtain⟨r,B,C,t⟩:=h.inn k g d;refine⟨r,B,C,fun i v hi=>?_⟩;rcases t i v hi with t|⟨x,c,f,e,u,q,H,F⟩
  ·exact AH t
  ·refine AE ⟨x,c,f,e,u,q,fun hm=>?_,F⟩;simp at hm;subst hm;subst e;rcases u.2 with⟨e,_⟩|⟨g',_,_,e,_,m,_⟩
   ·cases e
   ·cases e;rw[l]at m;cases m;exact z rfl
structure Gl (w wr : World) (lo b bp : Nat) (s : ByteArray) (p : PS) (nds : List Nd) (D : List Nat) (E : Value) (W : Whole) (i : Nat) (v : Value) (sm : Bool) (fs : List (List Int)) : Prop where
 row : F7 wr lo v fs
 keep : AA D w wr
 tx : TX wr b bp s p nds D E []
 ile : i <= s.size + 1
 len : fs.length <= i
 says : ∀ l, Bl s W i l -> Bl s W 0 (fs ++ l)
 no : sm = false -> i = 0 ∧ fs = []
 yes : sm = true -> ∃ sp, BF s W 0 (some sp)
def Kj(s:ByteArray)(W:Whole)(lo b bp:Nat)(p:PS)(nds:List Nd)(D:List Nat)(E:Value)(w:World)(e:Ending)(w':World):Prop:=
 ∃r ans fs,e=.returned (.tuple #[r,.bool (ans:Option (List Int)).isSome])∧BF s W 0 ans∧Bl s W 0 fs∧F7 w' lo r fs∧TX w' b bp s p nds D E []∧AA D w w'
theorem VI(h:fr<=s.size->BF s W fr none):Bl s W fr []:=by
 by_cases a:fr<s.size
 ·exact .none fr a (h (by omega))
 ·exact .fin fr (by omega)
theorem Gl.fin{wr:World}{b bp:Nat}{D:List Nat}{E:Value}{v:Value}{sm:Bool}(L:Gl w wr lo b bp s p nds D E W i v sm fs)(h:i<=s.size->BF s W i none):Kj s W lo b bp p nds D E w (.returned (.tuple #[v,.bool sm])) wr:=by
 have a:=L.says [] (VI h);rw[CT]at a;cases sm with
 |false=>
  obtain⟨rfl,rfl⟩:=L.no rfl;exact⟨v,none,[],rfl,h (AY _),a,L.row,L.tx,L.keep⟩
 |true=>
  obtain⟨sp,c⟩:=L.yes rfl;exact⟨v,some sp,fs,rfl,c,a,L.row,L.tx,L.keep⟩
theorem Bl.end2(h:Bl s W fr fs)(a:s.size<=fr):fs=[]:=by
 cases h with
 |fin=>rfl
 |none=>rfl
 |hit _ _ _ _ _ h=>omega
 |empty _ _ _ _ _ h=>omega
theorem VJ(s:ByteArray)(nds:List Nd)(hn:nds.length<=1000)(W:Whole)(w:World)(lo b bp:Nat)(p:PS)(D:List Nat)(E:Value)(h:TX w b bp s p nds D E [])(aO:Hid (KP nds p W))(hg:∀m,W.x.has m->0<m∧m<=W.g)(aq:lo=w.heap.size):Calls Tryz.prog 110 #[.pointer (some ⟨b,0,none⟩),.bool false] w (Kj s W lo b bp p nds D E w):=by
 obtain⟨i0,aP,aQ,aR,aS⟩:=A2 Lu;have aT:=Tryz.underlying49;have bc:∀(w:World)(a:Option Addr)(n c n' c':Nat),(binOp .eql 32 (.slice a n c) (.slice none n' c')).run Tryz.prog w=.ok (.bool a.isNone) w:=fun w a n c n' c'=>Lib.run_eql_slice_nil w _ _ a n c n' c' Fp
 have bf:(s.size:Int)<=100:=by have:=h.small;omega
 have HS:Hid (s.size<=100∧nds.length<=1000):=⟨h.small,hn⟩;have HG:Hid (∀m,W.x.has m->0<m∧m<=W.g):=hg;have I:Hid (lo=w.heap.size∧∀x,x∈D->x<lo):=⟨aq,fun x U=>by have:=h.dlt x U;omega⟩;have hT:=h;have aU:Hid (TX w b bp s p nds D E []):=h;obtain⟨fo,ar⟩:=h.xb;have c1:w.cell? ⟨b,1,none⟩=some (.string s):=by rw[AU ar];rfl
 clear hn hg aq h ar;go_enter Tryz.func110,Tryz.ntmps110;go_wp2_with fail;clear c1;go_loopw [6,11,12] (fun q6 aV ag wr=>∃(i:Nat)(sm:Bool)(fs:List (List Int)),aV=.bool sm∧ag=.int .i64 i∧Gl w wr lo b bp s p nds D E W i q6 sm fs) (fun _ _ ag _=>s.size+1-(intOf ag).toNat)
 case atStart=>exact⟨0,false,[],rfl,rfl,⟨⟨⟨[],⟨rfl,.inl ⟨rfl,rfl⟩⟩,fun k sp V=>by simp at V⟩,fun g h=>by simp[Value.ownBlock]at h⟩,AG _ _,hT,AY _,AP _,fun l h=>h,fun _=>⟨rfl,rfl⟩,fun h=>by cases h⟩⟩
 case round=>
  clear hT;obtain⟨i,sm,fs,rfl,rfl,L⟩:=hrel;obtain⟨cs,z,ah⟩:=L.row.row;obtain⟨J,K,M,rfl⟩:=A6 z;have A:Hid (Gl w wr lo b bp s p nds D E W i (.slice J K M) sm fs):=L;have ai:=L.ile;have HI:Hid (i<=s.size+1):=ai;by_cases hle:i<=s.size
  rotate_left
  ·have au:¬(i:Int)<=(s.size:Int):=by omega
   have HP:=(show Hid (Kj s W lo b bp p nds D E w (.returned (.tuple #[.slice J K M,.bool sm])) wr)from L.fin fun h=>by omega);clear L hle z ah ai;go_wp2_with fail;go_ret2;exact HP.o
  have au:(i:Int)<=(s.size:Int):=by omega
  have X:Hid (i<=s.size):=hle;have aw:=VH s (s.size+1) rfl nds HS.o.2 W wr b bp p D E L.tx aO.o i hle;clear L hle ai;go_wp2_with fail;refine aw.mono ?_;rintro e w2⟨r,ans,rfl,hF,hI,G,aa⟩;have t:AA D w w2:=A.o.keep.trans aa;have d:=A.o.row.keep aa I.o.2;clear aw;cases ans with
  |none=>
   have hr:r=.slice none 0 0:=hI;subst hr;have HP:=(show Hid (Kj s W lo b bp p nds D E w (.returned (.tuple #[.slice J K M,.bool sm])) w2)from Gl.fin ⟨d,t,G,A.o.ile,A.o.len,A.o.says,A.o.no,A.o.yes⟩ fun _=>hF);clear hF hI z ah G t d aa;go_wp2_with fail;go_ret2;exact HP.o
  |some l=>
   obtain⟨_,ix,u,rr,hl,ax,ay,az⟩:=hF.sp HG.o;obtain⟨N,g,cg,rfl,aA⟩:=(IS.toW hI).fnd (by rw[hl];simp);obtain⟨_,_,he,O,P⟩:=N.sl;cases he;have aB:=P 0 ix (by rw[hl];rfl);have ab:=P 1 u (by rw[hl];rfl);obtain⟨ln,ac⟩:=An l.length;have aC:Hid (l.length=ln):=ac;have aW:(1:Int)<(ln:Int):=by rw[<-ac,hl];simp;omega
   have bh:(0:Int)<(ln:Int):=by omega
   have aj:Hid (l=(ix:Int)::(u:Int)::rr):=hl;have HF:Hid (BF s W i (some l)):=hF;have aD:Hid (∃sp,BF s W 0 (some sp)):=by
    show∃sp,BF s W 0 (some sp);cases aE:sm with
    |true=>exact A.o.yes aE
    |false=>
     have:=(A.o.no aE).1;subst this;exact⟨l,hF⟩
   have v:Hid (i<=ix∧ix<=u∧u<=s.size):=⟨ax,ay,az⟩;have bi:(u:Int)<=100:=by omega
   have bj:(0:Int)<=(u:Int):=by omega
   have aX:Hid (lo<=g):=by show lo<=g;have:=I.o.1;have:=A.o.keep.size;omega
   have aF:Hid ((Value.slice J K M).ownBlock≠some g):=fun e=>by have:=(A3 z g e).2;omega
   rw[ac]at N⊢;clear hF hI hl P ac ax ay az aa aA z ah;by_cases ak:ix=u
   ·have aY:((ix:Int)==(u:Int))=true:=by simp;omega
    have HN:Hid (∀Z,AA [] w2 Z->Gl w Z lo b bp s p nds D E W (u+1) (.slice J K M) true fs):=fun Z hZ=>by
     refine⟨d.keep hZ (by simp),t.trans (hZ.mono (by simp)),G.keep hZ (by simp),by have:=v.o;omega,by have:=A.o.len;have:=v.o;omega,fun l' h'=>?_,(fun h=>(by cases h)),fun _=>aD.o⟩;by_cases hi:i<s.size
     ·exact A.o.says l' (.empty i ix u rr l' hi (by rw[<-aj.o];exact HF.o) (by omega) h')
     ·have:=h'.end2 (by have:=v.o;omega);subst this;exact A.o.says [] (.fin i (by omega))
    have Q:Hid (ix=u):=ak;clear ak N O d t G;go_upto_region 17 with(fail)
    go_quiet (fail);have j:AA [] w2 (w2.drewN nq):=(AG [] w2).drewN nq;have aG:=Ac j ab;have L5:=HN.o _ j;generalize w2.drewN nq=Y at*;clear aB ab j HN;go_wp2_with fail;go_roundw
    case rel=>exact⟨u+1,true,fs,rfl,by go_num,L5⟩
    case measure=>have:=v.o;have:=X.o;simp[intOf];omega
   ·have aY:((ix:Int)==(u:Int))=false:=by simp;omega
    have Q:Hid (ix<u):=by show ix<u;have:=v.o;omega
    clear ak;go_upto_region 17 with(fail)
    go_quiet (fail);have j:AA [] w2 (w2.drewN nq):=(AG [] w2).drewN nq;have aG:=Ac j ab;have B:=d.keep j (by simp);have F:AA D w (w2.drewN nq):=t.trans (j.mono (by simp));have al:=G.keep j (by simp);have ad:=N.keep j;have am:g<(w2.drewN nq).heap.size:=BL O j.size;generalize w2.drewN nq=Y at*;clear aB ab j d t G N O;obtain⟨cs,f,ae⟩:=B.row;obtain⟨n,hn⟩:=An fs.length;rw[hn]at f;have C:Hid (fs.length=n∧n<=i):=⟨hn,by have:=A.o.len;omega⟩;have aZ:n+1<=maxLen:=by unfold maxLen;have:=C.o;have:=X.o;have:=HS.o;omega
    have a5:(n+1)*24<=140737488355328:=by have:=C.o;have:=X.o;have:=HS.o;omega
    have aH:Hid (∀(k:Nat)(sp:List Int),fs[k]? =some sp->∃g c,cs[k]? =some (.slice (some ⟨g,0,none⟩) sp.length c)∧Cl Y (.slice (some ⟨g,0,none⟩) sp.length c) sp∧(Value.slice J K M).ownBlock≠some g∧lo<=g):=ae;have an:Hid (∀x,(Value.slice J K M).ownBlock=some x->lo<=x∧x<Y.heap.size):=fun x U=>⟨B.fresh x U,(A3 f x U).2⟩
    clear ae hn B;have hH:(Y.alloc (.cells #[.slice (some ⟨g,0,none⟩) ln cg] 32)).heap.size=Y.heap.size+1:=by simp
    have R:∀q x,([.slice (some ⟨g,0,none⟩) ln cg]:List Value)[q]? =some x->(Y.alloc (.cells #[.slice (some ⟨g,0,none⟩) ln cg] 32)).cell? ((⟨Y.heap.size,0,none⟩:Addr).add q)=some x:=Dq (cs:=#[.slice (some ⟨g,0,none⟩) ln cg]) (AS Y _);have aI:∀x∈([.slice (some ⟨g,0,none⟩) ln cg]:List Value),x.oneCell'=true:=by simp[Value.oneCell']
    go_upto_region 20 with(first|(at_builtin;refine CC _ rfl _ _ _ rfl 0 32 i0 _ 1 24 aT aP aQ aR aS rfl (by decide) (.slice J K M) n _ rfl (f.alloc _) ⟨Y.heap.size,0,none⟩ 1 1 [.slice (some ⟨g,0,none⟩) ln cg] rfl rfl R aI (by omega) aZ a5 (AY _) (Y.heap.size+1) hH ?_;intro g' cap w5 S T aJ aK))
    have H:AA (Value.slice J K M).ownBlock.toList Y w5:=((AG _ Y).alloc _).trans (De T);have ao:(Value.slice J K M).ownBlock=some g'∨Y.heap.size<=g':=aJ.imp id fun h=>by omega
    have aL:cs.length=n:=by have:=f.1;omega
    have ap:∀(gk ck:Nat)(sp:List Int),Cl Y (.slice (some ⟨gk,0,none⟩) sp.length ck) sp->(Value.slice J K M).ownBlock≠some gk->Cl w5 (.slice (some ⟨gk,0,none⟩) sp.length ck) sp∧(Value.slice (some ⟨g',0,none⟩) (n+1) cap).ownBlock≠some gk:=fun gk ck sp hF aM=>by
     obtain⟨_,_,he,bk,aW⟩:=hF.sl;cases he;refine⟨hF.keepS H (by rw[Ay];exact aM),fun e=>?_⟩;have e':g'=gk:=DC e;rcases ao with h|h
     ·exact aM (by rw[h,e'])
     ·omega
    have bm:w5.cell? ⟨g,1,none⟩=some (.int .i64 u):=(Ad (H.block g am (by rw[Ay];exact aF.o))).trans aG;have af:AA D w w5:=BZ F H fun x U=>AE (by rw[Ay]at U;have:=an.o x U;have:=I.o.1;omega)
    have aN:TX w5 b bp s p nds D E []:=by
     rcases f.2 with⟨e,_⟩|⟨o,_,_,e,_,a6,_⟩
     ·cases e;exact al.keep H (by simp[Value.ownBlock])
     ·cases e;have h1:=TX.addO aU.o F al (o:=o) (by have:=(an.o o rfl).1;have:=I.o.1;omega) a6 (by decide);exact(h1.keep H (fun x U=>AH (by simpa[Value.ownBlock]using U))).less (by simp)
    have L5:Gl w w5 lo b bp s p nds D E W u (.slice (some ⟨g',0,none⟩) (n+1) cap) true (fs++[l]):=by
     refine⟨⟨⟨_,by rw[AW,C.o.1];exact S,?_⟩,?_⟩,af,aN,by have:=v.o;omega,?_,fun q hq=>?_,(fun h=>(by cases h)),fun _=>aD.o⟩
     ·intro k sp V;rw[List.getElem?_append]at V;split at V
      ·rename_i a7;obtain⟨gk,ck,a1,a2,a3,a4⟩:=aH.o k sp V;obtain⟨m1,m2⟩:=ap gk ck sp a2 a3;exact⟨gk,ck,by rw[Db (by have:=C.o;omega)];exact a1,m1,m2,a4⟩
      ·rename_i a7;have a8:k-fs.length=0:=by
        rcases Nat.eq_zero_or_pos (k-fs.length)with h|h
        ·exact h
        ·rw[List.getElem?_eq_none (by simp;omega)]at V;cases V
       rw[a8]at V;cases V;have a9:k=n:=by have:=C.o;omega
       rw[<-aC.o]at ad;obtain⟨m1,m2⟩:=ap g cg l ad aF.o;refine⟨g,cg,?_,m1,m2,aX.o⟩;rw[ER (by omega),aL,a9,Nat.sub_self,aC.o];rfl
     ·intro y hy;cases hy;rcases ao with h|h
      ·exact(an.o _ h).1
      ·have:=F.size;have:=I.o.1;show lo<=g';omega
     ·rw[AW,C.o.1];have:=C.o.2;have:=v.o;have:=Q.o;simp;omega
     ·have h:=A.o.says _ (.hit i ix u rr q (by have:=v.o;have:=Q.o;omega) (by rw[<-aj.o];exact HF.o) Q.o hq);rw[CS];rw[<-aj.o]at h;exact h
    have ba:Hid (Gl w w5 lo b bp s p nds D E W u (.slice (some ⟨g',0,none⟩) (n+1) cap) true (fs++[l])):=L5;clear S T R hH aI H f aJ ao L5 aK aL ap af F al aN;go_wp2_with fail;go_roundw
    case rel=>exact⟨u,true,_,rfl,rfl,ba.o⟩
    case measure=>have:=v.o;have:=Q.o;have:=X.o;simp[intOf];omega
