/-
  DERIVED. The contract of the reference's 'piece', given that of 'ways' on what is shorter. Conditions: the pattern is at most 60 bytes long, nothing was wrong so far, there is a byte, the nodes lie as they should.
-/
import Derived.Test.YtnfojonmohijpaaGreatDoorJRM
set_option linter.all false
set_option maxRecDepth 100000
set_option maxHeartbeats 8000000
namespace Go.Proofs.YtnfojonmohijpaaGreatDoor
open Go.RowKit
variable{b g1 k kb nb:Nat}{A ks:List Nat}{p p' p1 p9:PS}{ext nds nds1:List Nd}{w w1 w9 wr:World}{x:AD}{q:R Nat}{lv:Value}
def Dc:=@List.mem_singleton
def DL:=@List.cons_append
structure CW (b : Nat) (A : List Nat) (p1 : PS) (nds1 : List Nd) (w1 : World) (kb nb k mn : Nat) (mx : Int) (p9 : PS) (w9 : World) : Prop where
 pb : PB w9 b p9
 kv : w9.heap[kb]? = some (.cells #[.int .i64 (k : Int)] 3 (0, 0))
 nv : w9.heap[nb]? = some (.cells #[.int .u8 114, .slice none 0 0, .int .i64 0, .int .i64 (mn : Int), .int .i64 mx, .slice (some ⟨kb, 0, none⟩) 1 1] 157 (0, 0))
 nodes : p9.nodes = p1.nodes
 fresh : w1.heap.size <= kb ∧ w1.heap.size <= nb ∧ kb ≠ nb
 kp : AA [b] w1 w9
 old : Bg w1 b A p1.nodes nds1
 avl : ∀ x, x ∈ A -> x < w1.heap.size
 bl : b < w1.heap.size
theorem CW.cells{mn:Nat}{mx:Int}(S:CW b A p1 nds1 w1 kb nb k mn mx p9 w9):w9.cell? ⟨nb,0,none⟩=some (.int .u8 114)∧w9.cell? ⟨nb,1,none⟩=some (.slice none 0 0)∧w9.cell? ⟨nb,2,none⟩=some (.int .i64 0)∧w9.cell? ⟨nb,3,none⟩=some (.int .i64 (mn:Int))∧w9.cell? ⟨nb,4,none⟩=some (.int .i64 mx)∧w9.cell? ⟨nb,5,none⟩=some (.slice (some ⟨kb,0,none⟩) 1 1)∧w9.frozen? ⟨nb,3,none⟩=false∧w9.frozen? ⟨nb,4,none⟩=false:=by
 simp[World.cell?,World.frozen?,S.nv]
theorem CW.inv{mn:Nat}{mx:Int}(S:CW b A p1 nds1 w1 kb nb k mn mx p9 w9):Bg w9 b A p9.nodes nds1:=by rw[S.nodes];exact S.old.keep S.kp CM
theorem CW.grow{mn:Nat}{mx:Int}(S:CW b A p1 nds1 w1 kb nb k mn mx p9 w9):Bq b p1.nodes p1.nodes w1 w9:=Bq.of S.kp CM
theorem CW.call{mn:Nat}{mx:Int}(S:CW b A p1 nds1 w1 kb nb k mn mx p9 w9){a:PS}{c:World}(e:PB c b a)(d:AA [b] w9 c)(f:a.nodes=p9.nodes):CW b A p1 nds1 w1 kb nb k mn mx a c:=by
 have l:=S.bl;have g:kb∉[b]:=by have:=S.fresh.1;simp;omega
 have h:nb∉[b]:=by have:=S.fresh.2.1;simp;omega
 have i:=(AN.1 S.kv).1;have j:=(AN.1 S.nv).1;exact⟨e,(d.block kb i g).trans S.kv,(d.block nb j h).trans S.nv,f.trans S.nodes,S.fresh,S.kp.trans d,S.old,S.avl,S.bl⟩
theorem CW.drewN{mn:Nat}{mx:Int}(S:CW b A p1 nds1 w1 kb nb k mn mx p9 w9)(n:Nat):CW b A p1 nds1 w1 kb nb k mn mx p9 (w9.drewN n):=⟨S.pb,S.kv,S.nv,S.nodes,S.fresh,S.kp.drewN n,S.old,S.avl,S.bl⟩
theorem CW.ix{mn:Nat}{mx:Int}(S:CW b A p1 nds1 w1 kb nb k mn mx p9 w9)(x:Nat):CW b A p1 nds1 w1 kb nb k mn mx {p9 with ix:=x} (w9.setCell ⟨b,7,none⟩ (.int .i64 x)):=S.call (S.pb.setIx x) ((AG [b] w9).setB 7 _) rfl
theorem CW.mn{mn:Nat}{mx:Int}(S:CW b A p1 nds1 w1 kb nb k mn mx p9 w9)(x:Nat):CW b A p1 nds1 w1 kb nb k x mx p9 (w9.setCell ⟨nb,3,none⟩ (.int .i64 x)):=by
 have a:=S.bl;have c:=S.fresh;refine⟨S.pb.setOther (by simp;omega) _,?_,?_,S.nodes,S.fresh,S.kp.setCell (AE (by simp;omega)) _,S.old,S.avl,S.bl⟩
 ·rw[Gt _ _ _ _ (by simp;omega)];exact S.kv
 ·simp[World.setCell,Aq,S.nv]
theorem CW.mx{mn:Nat}{mx:Int}(S:CW b A p1 nds1 w1 kb nb k mn mx p9 w9)(x:Int):CW b A p1 nds1 w1 kb nb k mn x p9 (w9.setCell ⟨nb,4,none⟩ (.int .i64 x)):=by
 have a:=S.bl;have c:=S.fresh;refine⟨S.pb.setOther (by simp;omega) _,?_,?_,S.nodes,S.fresh,S.kp.setCell (AE (by simp;omega)) _,S.old,S.avl,S.bl⟩
 ·rw[Gt _ _ _ _ (by simp;omega)];exact S.kv
 ·simp[World.setCell,Aq,S.nv]
structure K4 (b : Nat) (p : PS) (w : World) (nds : List Nd) (x : AD) (g1 j k : Nat) (p1 : PS) (ext : List Nd) (w1 : World) : Prop where
 g : G p.s .single p.deep p.gr p.ix (.ok (x, g1) j)
 a : D4 p (.ok (x, g1) j) p1
 bd : ext.length + 1 <= 4 * (j - p.ix)
 rp : rep (nds ++ ext) x [k]
 gw : Bq b p.nodes p1.nodes w w1
 le : j <= p.s.size
 lt : p.ix < j
def RA(p1 p9:PS)(qr:R (Option (Nat×Int))):Prop:=
 (p9.s=p1.s∧p9.root=p1.root∧p9.bg=p1.bg∧p9.en=p1.en∧p9.deep=p1.deep∧p9.gr=p1.gr)∧
 match qr with
 | .ok _ a=>p9.ix=a∧p9.bad=p1.bad
 | .bad l=>p9.bad=(l:Int)
theorem RY{j:Nat}{qr:R (Option (Nat×Int))}(b:D4 p (.ok (x,g1) j) p1)(c:RA p1 p9 qr):D4 p (qr.map fun o=>(Cn x o,g1)) p9:=by
 obtain⟨d,a2,a3,a4,a5,q,e,f⟩:=b;obtain⟨⟨g,h,i,k,m,n⟩,a⟩:=c;refine⟨g.trans d,h.trans a2,i.trans a3,k.trans a4,m.trans a5,?_⟩;cases qr with
 |ok o r=>exact⟨a.1,n.trans e,a.2.trans f⟩
 |bad l=>exact a
theorem NG{j:Nat}(S:K4 b p w nds x g1 j k p1 ext w1)(h:PB w1 b p1)(hi:Bg w1 b A p1.nodes (nds++ext))(d:AA [b] w1 w9)(c:PB w9 b p1)(f:Bj p.s j (.ok none j)):D5 .piece b A p w nds (.returned (.int .i64 k)) w9:=by
 refine⟨_,k,p1,ext,rfl,.rep _ _ _ _ _ _ _ S.g f,S.a,c,hi.keep d CM,?_,?_,S.gw.trans (Bq.of d CM)⟩
 ·have:=S.bd;simp only[Br,R.map,CU,B8];omega
 ·intro i g' l e;cases e;exact S.rp
theorem Gy{j:Nat}(S:K4 b p w nds x g1 j k p1 ext w1){mn:Nat}{mx:Int}(Q:CW b A p1 (nds++ext) w1 kb nb k mn mx p9 w9)(z:(nds++ext).length<=1000)(qr:R (Option (Nat×Int)))(y:Bj p.s j qr)(m:RA p1 p9 qr)(hm:∀o i,qr=.ok o i->o=some (mn,mx)):Calls Tryz.prog 136 #[.pointer (some ⟨b,0,none⟩),.agg #[.int .u8 114,.slice none 0 0,.int .i64 0,.int .i64 (mn:Int),.int .i64 mx,.slice (some ⟨kb,0,none⟩) 1 1]] w9 (D5 .piece b A p w nds):=by
 have q:FI w9 (Bf b A p9.nodes) {kind:=114,f:=fun _=>false,n:=0,mn:=mn,mx:=mx,kids:=[k]} [.int .u8 114,.slice none 0 0,.int .i64 0,.int .i64 (mn:Int),.int .i64 mx,.slice (some ⟨kb,0,none⟩) 1 1]:=by
  refine⟨.slice none 0 0,_,rfl,⟨⟨_,_,_,rfl⟩,by simp⟩,⟨⟨rfl,AE ⟨kb,1,_,rfl,AY _,Q.kv,AP _,by unfold maxLen;omega,rfl,rfl⟩⟩,?_⟩⟩;intro g B d;have e:g=kb:=by simpa[Value.ownBlock]using B.symm
  subst e;rw[Q.nodes]at d;have:=Q.old.av Q.bl Q.avl _ d;have:=Q.fresh.1;omega
 refine(KB b A p9 w9 (fun x C=>BL (Q.avl x C) Q.kp.size) (nds++ext) _ _ Q.pb Q.inv q z).mono ?_;rintro e w'⟨r,rfl,t,c,u⟩;have v:Bq b p.nodes r w w':=S.gw.trans (Q.grow.trans (by rw[<-Q.nodes];exact u));rw[CS]at c;have h:RA p1 {p9 with nodes:=r} qr:=m;have D:=S.bd;have hlt:=S.lt;have E:=G.rep _ _ _ _ _ _ _ S.g y;refine⟨_,(nds++ext).length,{p9 with nodes:=r},ext++[{kind:=114,f:=fun _=>false,n:=0,mn:=mn,mx:=mx,kids:=[k]}],rfl,E,RY S.a h,t,c,?_,?_,v⟩
 ·have hle:=S.le;cases qr with
  |ok o i=>have:=y.ok;have F:=hm o i rfl;simp only[Br,R.map,CU,B8,AW,CK];omega
  |bad l=>simp only[Br,R.map,CU,B8,AW,CK];omega
 ·intro I g' i e;cases qr with
  |bad l=>cases e
  |ok o l=>
   have H:=hm o l rfl;subst H;cases e;rw[<-CS];exact⟨_,{kind:=114,f:=fun _=>false,n:=0,mn:=mn,mx:=mx,kids:=[k]},k,rfl,by rw[AW];exact K3 _ _ _,rfl,rfl,rfl,rfl,JB _ S.rp⟩
theorem FJ(hb:p.bad<0):p.cur=at' p.s p.ix:=by simp[PS.cur,hb]
theorem JG(hb:0<=p.bad):p.cur=-1:=by simp[PS.cur];omega
theorem Cy.eq(h:Cy p q p'):∃a z,p'={p with ix:=a,bad:=z}:=by
 rcases h with rfl|⟨_,rfl⟩
 ·cases q<;>exact⟨_,_,rfl⟩
 ·exact⟨_,_,rfl⟩
theorem Cy.nodes(h:Cy p q p'):p'.nodes=p.nodes:=by obtain⟨a,z,rfl⟩:=h.eq;rfl
theorem Cy.s(h:Cy p q p'):p'.s=p.s:=by obtain⟨a,z,rfl⟩:=h.eq;rfl
theorem Cy.root(h:Cy p q p'):p'.root=p.root:=by obtain⟨a,z,rfl⟩:=h.eq;rfl
theorem Cy.bg(h:Cy p q p'):p'.bg=p.bg:=by obtain⟨a,z,rfl⟩:=h.eq;rfl
theorem Cy.en(h:Cy p q p'):p'.en=p.en:=by obtain⟨a,z,rfl⟩:=h.eq;rfl
theorem Cy.deep(h:Cy p q p'):p'.deep=p.deep:=by obtain⟨a,z,rfl⟩:=h.eq;rfl
theorem Cy.gr(h:Cy p q p'):p'.gr=p.gr:=by obtain⟨a,z,rfl⟩:=h.eq;rfl
theorem Cy.need{c:Int}(h:Cy p (.bad k) p')(hb:p.bad<0)(b:0<=c):p'.cur=-1∧(p'.needed c).bad=(k:Int):=by
 rcases h with rfl|⟨e,rfl⟩
 ·have a:PS.cur (p.after (R.bad k:R Nat))=-1:=JG (by show(0:Int)<=(k:Int);omega);refine⟨a,?_⟩;unfold PS.needed PS.failed;rw[AK (by rw[a];omega),AK (by show¬(k:Int)<0;omega)];rfl
 ·cases e;have a:PS.cur {p with ix:=p.s.size}=-1:=by rw[FJ (by exact hb)];exact Cu (AP _)
  refine⟨a,?_⟩;unfold PS.needed PS.failed;rw[AK (by rw[a];omega),AL (by exact hb)]
theorem RZ(n:Nat)(IH:IG n)(b:Nat)(A:List Nat)(p:PS)(w:World)(nds:List Nd)(h:Fj b A p w nds)(al:p.ix<p.s.size)(hn:p.s.size-p.ix<=n):Calls Tryz.prog 185 #[.pointer (some ⟨b,0,none⟩)] w (D5 .piece b A p w nds):=by
 have hb:=h.good;have hs:=h.sz;have aJ:=h.room;go_enter Tryz.func185,Tryz.ntmps185;go_wp2_with(first|(go_at_call 225;refine(RX n IH b A p _ nds h al hn).mono ?_;rintro e w1⟨q,k,p1,ext,rfl,hG,hA,J,v,am,an,H⟩));cases q with
 |bad j=>
  obtain⟨a1,a2,a3,a4,a5,a6⟩:=hA;have hm:Bv p1=false:=by rw[GK,JG (by rw[a6];omega)];decide
  go_wp2_with(first|(go_at_call 83;refine(CL b _ _ J).mono ?_;rintro e w2⟨rfl,K,z⟩));go_ret;refine⟨.bad j,k,p1,ext,rfl,.sbad _ _ _ _ hG,⟨a1,a2,a3,a4,a5,a6⟩,K,v.keep z EL,?_,by simp,H.trans (Bq.of z EL)⟩;simp only[Br,CU,B8]at am⊢;omega
 |ok xg j=>
  obtain⟨x,g1⟩:=xg;have ao:=hG.okb x g1 j rfl;have T:K4 b p w nds x g1 j k p1 ext w1:=⟨hG,hA,by simpa[Br,CU,B8]using am,an x g1 j rfl,H,ao.2.1 (Dp al),ao.2.2.1 (AE rfl)⟩;have hlen:(nds++ext).length<=1000:=by
   have:=T.bd;have:=T.le;simp only[AW];omega
  obtain⟨a1,a2,a3,a4,a5,a6,a7,a8⟩:=hA;have ai:p1.cur=at' p.s j:=by rw[FJ (by rw[a8];exact hb),a1,a6]
  have y:p1.bad<0:=by rw[a8];exact hb
  have ap:p1.s.size<=60:=by rw[a1];exact hs
  cases hm:Bv p1
  ·have aK:at' p.s j=-1:=by rw[<-ai];exact PS.cur_none hm
   have B:Hid (Bj p.s j (.ok none j)):=AH ⟨by omega,by omega,by omega,by omega,rfl⟩;clear aK ai;go_wp2_with(first|(go_at_call 83;refine(CL b _ _ J).mono ?_;rintro e w2⟨rfl,K,z⟩));go_ret;exact NG T J v (z.mono (by simp)) K B.o
  ·have U:=(PS.cur_more hm).1;have ec:=Bd U;have aL:=(p1.s[p1.ix]).toNat_lt;have aZ:(p1.ix:Int)<(p1.s.size:Int):=by omega
   have a9:(0:Int)<=(p1.ix:Int):=by omega
   have ba:(p1.ix:Int)<=60:=by omega
   have aj:(0:Int)<=(p1.s[p1.ix].toNat:Int):=by omega
   have bc:(p1.s[p1.ix].toNat:Int)<=255:=by omega
   generalize aM:(p1.s[p1.ix].toNat:Int)=c at*;have HE:Hid (at' p.s j=c):=by show at' p.s j=c;rw[<-a1,<-a6];exact ec
   have HJ:Hid (p1.ix=j):=a6;have HS:Hid (p1.s=p.s):=a1;clear ec aL ai a1 a2 a3 a4 a5 a6 a7 a8;go_wp2_with(first|(go_at_call 83;refine(CL b _ _ J).mono ?_;rintro e w2⟨rfl,K,z⟩));have L:=((AG [] w2).alloc (.cells #[.int .i64 (k:Int)] 3)).alloc (.cells #[.int .u8 114,.slice none 0 0,.int .i64 0,.int .i64 0,.int .i64 (-1),.slice (some ⟨w2.heap.size,0,none⟩) 1 1] 157);have V:=K.keep L (by simp);have aq:((w2.alloc (.cells #[.int .i64 (k:Int)] 3)).alloc (.cells #[.int .u8 114,.slice none 0 0,.int .i64 0,.int .i64 0,.int .i64 (-1),.slice (some ⟨w2.heap.size,0,none⟩) 1 1] 157)).heap[w2.heap.size]? =some (.cells #[.int .i64 (k:Int)] 3 (0,0)):=by
    rw[Below.heap_alloc _ _ _ (by simp)];exact AS w2 _
   have ar:((w2.alloc (.cells #[.int .i64 (k:Int)] 3)).alloc (.cells #[.int .u8 114,.slice none 0 0,.int .i64 0,.int .i64 0,.int .i64 (-1),.slice (some ⟨w2.heap.size,0,none⟩) 1 1] 157)).heap[w2.heap.size+1]? =some (.cells #[.int .u8 114,.slice none 0 0,.int .i64 0,.int .i64 0,.int .i64 (-1),.slice (some ⟨w2.heap.size,0,none⟩) 1 1] 157 (0,0)):=by
    rw[show w2.heap.size+1=(w2.alloc (.cells #[.int .i64 (k:Int)] 3)).heap.size from by simp];exact AS _ _
   have X:CW b A p1 (nds++ext) w1 w2.heap.size (w2.heap.size+1) k 0 (-1) p1 _:=⟨V,aq,ar,rfl,⟨z.size,by have:=z.size;omega,by omega⟩,(z.mono (by simp)).trans (L.mono (by simp)),v,fun x hx=>BL (h.avl x hx) H.1.size,J.lt⟩;have hbl:=K.lt;clear L V aq ar;generalize((w2.alloc (.cells #[.int .i64 (k:Int)] 3)).alloc (.cells #[.int .u8 114,.slice none 0 0,.int .i64 0,.int .i64 0,.int .i64 (-1),.slice (some ⟨w2.heap.size,0,none⟩) 1 1] 157))=W at*;obtain⟨kb,au⟩:=AQ w2.heap.size;rw[<-au]at X⊢;have bf:¬b=kb+1:=by omega
   have aW:¬kb+1=b:=by omega
   clear au hbl;obtain⟨c0,h6,h7,f6,f7⟩:=X.pb.main;obtain⟨m0,m1,m2,m3,m4,m5,z3,z4⟩:=X.cells;go_quiet (fail);clear aM
   replace X:=X.drewN nq
   by_cases M:c=42
   ·have aN:(c==42)=true:=by simpa using M
    have B:Hid (Bj p.s j (.ok (some (0,-1)) (j+1))):=AE (AH ⟨by rw[HE.o];exact M,rfl⟩);clear M;have Q1:=X.ix (p1.ix+1);go_wp2_with(first|(go_at_call 136;refine(Gy T Q1 hlen (.ok (some (0,-1)) (j+1)) B.o ⟨⟨rfl,rfl,rfl,rfl,rfl,rfl⟩,by rw[HJ.o],rfl⟩ (by intro o N e;cases e;rfl)).mono ?_;rintro e w'⟨O,k',p',ext',rfl,rest⟩));go_ret;exact⟨O,k',p',ext',rfl,rest⟩
   ·have aN:(c==42)=false:=by simpa using M
    have aO:Hid (c≠42):=M;clear M;by_cases P:c=43
    ·have aP:(c==43)=true:=by simpa using P
     have B:Hid (Bj p.s j (.ok (some (1,-1)) (j+1))):=AE (AE (AH ⟨by rw[HE.o];exact P,rfl⟩));clear P;have Q1:=(X.ix (p1.ix+1)).mn 1;go_wp2_with(first|(go_at_call 136;refine(Gy T Q1 hlen (.ok (some (1,-1)) (j+1)) B.o ⟨⟨rfl,rfl,rfl,rfl,rfl,rfl⟩,by rw[HJ.o],rfl⟩ (by intro o N e;cases e;rfl)).mono ?_;rintro e w'⟨O,k',p',ext',rfl,rest⟩));go_ret;exact⟨O,k',p',ext',rfl,rest⟩
    ·have aP:(c==43)=false:=by simpa using P
     have aQ:Hid (c≠43):=P;clear P;by_cases Q:c=63
     ·have aR:(c==63)=true:=by simpa using Q
      have B:Hid (Bj p.s j (.ok (some (0,1)) (j+1))):=AE (AE (AE (AH ⟨by rw[HE.o];exact Q,rfl⟩)));clear Q;have Q1:=(X.ix (p1.ix+1)).mx 1;go_wp2_with(first|(go_at_call 136;refine(Gy T Q1 hlen (.ok (some (0,1)) (j+1)) B.o ⟨⟨rfl,rfl,rfl,rfl,rfl,rfl⟩,by rw[HJ.o],rfl⟩ (by intro o N e;cases e;rfl)).mono ?_;rintro e w'⟨O,k',p',ext',rfl,rest⟩));go_ret;exact⟨O,k',p',ext',rfl,rest⟩
     ·have aR:(c==63)=false:=by simpa using Q
      have aS:Hid (c≠63):=Q;clear Q;by_cases u:c=123
      ·have aw:(c==123)=true:=by simpa using u
       have HC:Hid (at' p.s j=123):=by show at' p.s j=123;rw[HE.o];exact u
       clear u;have Q1:=X.ix (p1.ix+1);go_wp2_with fail;have ax:p1.ix+1<=p1.s.size:=U;refine(M8 b {p1 with ix:=p1.ix+1} 0 _ Q1.pb y ap ax (by omega)).mono ?_;rintro e w3⟨q1,v1,C,rfl,ay,aT,ak,g,az,hk3⟩;have R:Hid (BO p.s 0 0 false (j+1) q1):=by
        have h':BO p1.s 0 0 false (p1.ix+1) q1:=ay;rw[HS.o,HJ.o]at h';exact h'
       have af:C.nodes=p1.nodes:=g.nodes;have Q2:=Q1.call az hk3 af;have Q4:=(Q2.mn v1).mx (v1:Int);clear c0 h6 h7 f6 f7 m0 m1 m2 m3 m4 m5 z3 z4;obtain⟨m0,m1,m2,m3,m4,m5,z3,z4⟩:=Q2.cells;clear ay Q1 Q2 az hk3;go_wp2_with fail;clear m0 m1 m2 m3 m4 m5 z3 z4;generalize((w3.setCell ⟨kb+1,3,none⟩ (.int .i64 (v1:Int))).setCell ⟨kb+1,4,none⟩ (.int .i64 (v1:Int)))=W4 at*;have aA:C.s=p1.s:=g.s;have f:C.s.size<=60:=by rw[aA];exact ap
       cases q1 with
       |bad k'=>
        obtain⟨a,aB⟩:=g.need (c:=125) y (by omega);have Y:decide (C.cur=44)=false:=by rw[a];decide
        have D:C.took 44=C:=by unfold PS.took;rw[AK (by omega)]
        have B:Hid (Bj p.s j (.bad k')):=AE (AE (AE (AE ⟨HC.o,_,R.o,rfl⟩)));refine(Cd b C 44 _ Q4.pb (by omega) f).mono ?_;rintro e w5⟨rfl,i,E⟩;rw[D]at i;have Z:=Q4.call i E rfl;clear a D i E Q4;go_wp2_with fail;refine(Fe b C 125 _ Z.pb (by omega) f).mono ?_;rintro e w6⟨rfl,aa,ab⟩;have Q6:=Z.call aa ab (JE C 125);obtain⟨m0,m1,m2,m3,m4,m5,z3,z4⟩:=Q6.cells;have ac:Hid (RA p1 (C.needed 125) (.bad k')):=⟨⟨(Gv C 125).trans g.s,(IA C 125).trans g.root,(IB C 125).trans g.bg,(IE C 125).trans g.en,(KC C 125).trans g.deep,(K2 C 125).trans g.gr⟩,aB⟩;clear aa ab Z g ak;go_wp2_with(first|(go_at_call 136;refine(Gy T Q6 hlen (.bad k') B.o ac.o (by intro o N e;cases e)).mono ?_;rintro e w'⟨O,k',p',ext',rfl,rest⟩));go_ret;exact⟨O,k',p',ext',rfl,rest⟩
       |ok m k'=>
        have aC:=ak m k' rfl;subst aC;have e3:C={p1 with ix:=k'}:=by
         rcases g with e|⟨e,_⟩
         ·exact e
         ·cases e
        subst e3;have aX:=R.o.ok v1 k' rfl;clear g ak af aA;have bh:j<p.s.size:=by rw[<-HS.o,<-HJ.o];exact U
        have a:PS.cur {p1 with ix:=k'}=at' p.s k':=by rw[FJ (by exact y),<-HS.o]
        by_cases F:at' p.s k'=44
        ·have Y:decide (PS.cur {p1 with ix:=k'}=44)=true:=by rw[a];simpa using F
         have D:PS.took {p1 with ix:=k'} 44={p1 with ix:=k'+1}:=by unfold PS.took;rw[AL (by rw[a];exact F)]
         have ae:Hid (at' p.s k'=44):=F;refine(Cd b {p1 with ix:=k'} 44 _ Q4.pb (by omega) f).mono ?_;rintro e w5⟨rfl,i,E⟩;rw[D]at i;have Z:=Q4.call i E rfl;have Q6:=Z.mx (-1);obtain⟨m0,m1,m2,m3,m4,m5,z3,z4⟩:=Z.cells;have r:PS.cur {p1 with ix:=k'+1}=at' p.s (k'+1):=by rw[FJ (by exact y),<-HS.o]
         clear a D i E Q4 F;have aD:k'+1<=p1.s.size:=by rw[HS.o];exact Ap (by rw[ae.o];omega)
         go_wp2_with fail;clear m0 m1 m2 m3 m4 m5 z3 z4 Y Z;generalize(w5.setCell ⟨kb+1,4,none⟩ (.int .i64 (-1)))=W6 at*;refine(RL b {p1 with ix:=k'+1} 125 _ Q6.pb (by omega)).mono ?_;rintro e w7⟨rfl,aE,aF⟩;have Q7:=Q6.call aE (aF.mono (by simp)) rfl;clear aE aF Q6;obtain⟨m0,m1,m2,m3,m4,m5,z3,z4⟩:=Q7.cells;by_cases t:at' p.s (k'+1)=125
         ·have hd:decide (PS.cur {p1 with ix:=k'+1}=125)=true:=by rw[r];simpa using t
          have aG:PS.needed {p1 with ix:=k'+1} 125={p1 with ix:=k'+2}:=by unfold PS.needed;rw[AL (by rw[r];exact t)]
          have B:Hid (Bj p.s j (.ok (some (v1,-1)) (k'+2))):=AE (AE (AE (AE ⟨HC.o,_,R.o,AH ⟨ae.o,t,rfl⟩⟩)));clear r t;go_wp2_with fail;refine(Fe b {p1 with ix:=k'+1} 125 _ Q7.pb (by omega) f).mono ?_;rintro e w8⟨rfl,S,ad⟩;rw[aG]at S;have Q8:=Q7.call S ad rfl;clear aG S ad Q7 m0 m1 m2 m3 m4 m5 z3 z4;obtain⟨m0,m1,m2,m3,m4,m5,z3,z4⟩:=Q8.cells;go_wp2_with(first|(go_at_call 136;refine(Gy T Q8 hlen (.ok (some (v1,-1)) (k'+2)) B.o ⟨⟨rfl,rfl,rfl,rfl,rfl,rfl⟩,rfl,rfl⟩ (by intro o N e;cases e;rfl)).mono ?_;rintro e w'⟨O,k',p',ext',rfl,rest⟩));go_ret;exact⟨O,k',p',ext',rfl,rest⟩
         ·have hd:decide (PS.cur {p1 with ix:=k'+1}=125)=false:=by rw[r];simpa using t
          have ag:Hid (at' p.s (k'+1)≠125):=t;clear r t;go_wp2_with fail;refine(M8 b {p1 with ix:=k'+1} v1 _ Q7.pb y f aD aT).mono ?_;rintro e w8⟨q2,v2,G,rfl,aH,aY,ah,d,S,ad⟩;have aI:Hid (BO p.s v1 0 false (k'+1) q2):=by
           have h':BO p1.s v1 0 false (k'+1) q2:=aH;rw[HS.o]at h';exact h'
          have Q8:=Q7.call S ad d.nodes;have Q9:=Q8.mx (v2:Int);have aU:G.s.size<=60:=by rw[d.s];exact f
          clear m0 m1 m2 m3 m4 m5 z3 z4;obtain⟨m0,m1,m2,m3,m4,m5,z3,z4⟩:=Q8.cells;clear aH S ad Q7 Q8;go_wp2_with fail;refine(Fe b G 125 _ Q9.pb (by omega) aU).mono ?_;rintro e wA⟨rfl,V,L⟩;have QA:=Q9.call V L (JE G 125);clear m0 m1 m2 m3 m4 m5 z3 z4 V L Q9;obtain⟨m0,m1,m2,m3,m4,m5,z3,z4⟩:=QA.cells;obtain⟨qr,B,ac,HM⟩:∃qr,Hid (Bj p.s j qr)∧Hid (RA p1 (G.needed 125) qr)∧Hid (∀o N,qr=.ok o N->o=some (v1,(v2:Int))):=by
           have fields:(G.needed 125).s=p1.s∧(G.needed 125).root=p1.root∧(G.needed 125).bg=p1.bg∧(G.needed 125).en=p1.en∧(G.needed 125).deep=p1.deep∧(G.needed 125).gr=p1.gr:=
            ⟨(Gv G 125).trans d.s,(IA G 125).trans d.root,(IB G 125).trans d.bg,(IE G 125).trans d.en,(KC G 125).trans d.deep,(K2 G 125).trans d.gr⟩
           cases q2 with
           |bad l=>
            refine⟨.bad l,AE (AE (AE (AE ⟨HC.o,_,R.o,AE (AH ⟨ae.o,ag.o,_,aI.o,rfl⟩)⟩))),⟨fields,(d.need (c:=125) y (by omega)).2⟩,?_⟩;intro o N e;cases e
           |ok n2 l=>
            have e5:G={p1 with ix:=l}:=by
             rcases d with e|⟨e,_⟩
             ·exact e
             ·cases e
            subst e5;have aV:=ah n2 l rfl;subst aV;have aj:PS.cur {p1 with ix:=l}=at' p.s l:=by rw[FJ (by exact y),<-HS.o]
            refine⟨if at' p.s l=125 then .ok (some (v1,(v2:Int))) (l+1)else .bad l,AE (AE (AE (AE ⟨HC.o,_,R.o,AE (AH ⟨ae.o,ag.o,_,aI.o,rfl⟩)⟩))),?_,?_⟩
            ·by_cases I:at' p.s l=125
             ·rw[AL I];refine⟨fields,?_⟩;unfold PS.needed;rw[AL (by rw[aj];exact I)];exact⟨rfl,rfl⟩
             ·rw[AK I];refine⟨fields,?_⟩;unfold PS.needed PS.failed;rw[AK (by rw[aj];exact I),AL (by exact y)]
            ·by_cases I:at' p.s l=125
             ·rw[AL I];intro o N e;cases e;rfl
             ·rw[AK I];intro o N e;cases e
          clear d ah;go_wp2_with(first|(go_at_call 136;refine(Gy T QA hlen qr B.o ac.o HM.o).mono ?_;rintro e w'⟨O,k',p',ext',rfl,rest⟩));go_ret;exact⟨O,k',p',ext',rfl,rest⟩
        ·have Y:decide (PS.cur {p1 with ix:=k'}=44)=false:=by rw[a];simpa using F
         have D:PS.took {p1 with ix:=k'} 44={p1 with ix:=k'}:=by unfold PS.took;rw[AK (by rw[a];exact F)]
         refine(Cd b {p1 with ix:=k'} 44 _ Q4.pb (by omega) f).mono ?_;rintro e w5⟨rfl,i,E⟩;rw[D]at i;have Z:=Q4.call i E rfl;obtain⟨qr,B,ac,HM⟩:∃qr,Hid (Bj p.s j qr)∧Hid (RA p1 (PS.needed {p1 with ix:=k'} 125) qr)∧Hid (∀o N,qr=.ok o N->o=some (v1,(v1:Int))):=by
          refine⟨if at' p.s k'=125 then .ok (some (v1,(v1:Int))) (k'+1)else .bad k',AE (AE (AE (AE ⟨HC.o,_,R.o,AE (AE ⟨F,rfl⟩)⟩))),?_,?_⟩
          ·refine⟨⟨Gv _ _,IA _ _,IB _ _,IE _ _,KC _ _,K2 _ _⟩,?_⟩;by_cases I:at' p.s k'=125
           ·rw[AL I];unfold PS.needed;rw[AL (by rw[a];exact I)];exact⟨rfl,rfl⟩
           ·rw[AK I];unfold PS.needed PS.failed;rw[AK (by rw[a];exact I),AL (by exact y)]
          ·by_cases I:at' p.s k'=125
           ·rw[AL I];intro o N e;cases e;rfl
           ·rw[AK I];intro o N e;cases e
         clear a D i E Q4 F;go_wp2_with fail;refine(Fe b {p1 with ix:=k'} 125 _ Z.pb (by omega) f).mono ?_;rintro e w6⟨rfl,aa,ab⟩;have Q6:=Z.call aa ab (JE _ 125);clear aa ab Z;obtain⟨m0,m1,m2,m3,m4,m5,z3,z4⟩:=Q6.cells;go_wp2_with(first|(go_at_call 136;refine(Gy T Q6 hlen qr B.o ac.o HM.o).mono ?_;rintro e w'⟨O,k',p',ext',rfl,rest⟩));go_ret;exact⟨O,k',p',ext',rfl,rest⟩
      ·have aw:(c==123)=false:=by simpa using u
       have B:Hid (Bj p.s j (.ok none j)):=AH ⟨by rw[HE.o];exact aO.out,by rw[HE.o];exact aQ.out,by rw[HE.o];exact aS.out,by rw[HE.o];exact u,rfl⟩;clear u;go_wp2_with fail;go_ret;exact NG T J v X.kp X.pb B.o
theorem Tryz.infoInt:(Tryz.prog.info? 3).map (fun i=>(i.zero,i.size,i.bytes))=some (some (.int .i64 0),1,8):=by kernel_rfl
def app:List AD->AD->AD
 |[],y=>y
 |x::xs,y=> .pcons x (app xs y)
theorem NH(xs:List AD)(x y:AD):app (xs++[x]) y=app xs (.pcons x y):=by
 induction xs with
 |nil=>rfl
 |cons z zs ih=>simp only[DL,app,ih]
def Fk(nds:List Nd):List AD->List Nat->Prop
 |[],[]=>True
 |x::xs,k::ks=>rep nds x [k]∧Fk nds xs ks
 |_,_=>False
theorem NI(ext:List Nd):∀{xs:List AD}{ks:List Nat},Fk nds xs ks->Fk (nds++ext) xs ks
 |[],[],_=>trivial
 |_::_,_::_,h=>⟨JB ext h.1,NI ext h.2⟩
theorem NJ:∀{xs:List AD}{ks:List Nat},Fk nds xs ks->rep nds x [k]->Fk nds (xs++[x]) (ks++[k])
 |[],[],_,h=>⟨h,trivial⟩
 |_::_,_::_,h,a=>⟨h.1,NJ h.2 a⟩
theorem NM{y:AD}{l:List Nat}:∀{xs:List AD}{ks:List Nat},Fk nds xs ks->rep nds y l->rep nds (app xs y) (ks++l)
 |[],[],_,h=>h
 |_::_,_::_,h,a=>⟨_,_,rfl,h.1,NM h.2 a⟩
def DM:List AD->AD->AD
 |[],y=>y
 |x::xs,y=> .wcons x (DM xs y)
theorem NN(xs:List AD)(x y:AD):DM (xs++[x]) y=DM xs (.wcons x y):=by
 induction xs with
 |nil=>rfl
 |cons z zs ih=>simp only[DL,DM,ih]
def Fl(nds:List Nd):List AD->List Nat->Prop
 |[],[]=>True
 |x::xs,k::ks=>(∃lp,rep nds x lp∧Cz nds 119 lp k)∧Fl nds xs ks
 |_,_=>False
theorem NO(ext:List Nd):∀{xs:List AD}{ks:List Nat},Fl nds xs ks->Fl (nds++ext) xs ks
 |[],[],_=>trivial
 |_::_,_::_,h=>⟨by obtain⟨lp,a,b⟩:=h.1;exact⟨lp,JB ext a,b.app ext⟩,NO ext h.2⟩
theorem NP:∀{xs:List AD}{ks:List Nat},Fl nds xs ks->(∃lp,rep nds x lp∧Cz nds 119 lp k)->Fl nds (xs++[x]) (ks++[k])
 |[],[],_,h=>⟨h,trivial⟩
 |_::_,_::_,h,a=>⟨h.1,NP h.2 a⟩
theorem Bq.step{v f:Value}{c:World}{S:List Nat}(h:Bq b v f w wr)(d:AA S wr c)(i:∀x,x∈S->x=b∨w.heap.size<=x):Bq b v f w c:=by
 obtain⟨a,j⟩:=h;refine⟨⟨d.os.trans a.os,d.tape.trans a.tape,d.output.trans a.output,BG a.size d.size,?_⟩,j⟩;intro k e g;refine(d.block k (BL e a.size) fun l=>?_).trans (a.block k e g);rcases i k l with h|h
 ·exact g (by simp[JD,h])
 ·omega
structure CO (b : Nat) (A : List Nat) (p : PS) (w : World) (nds : List Nd) (lv : Value) (ks : List Nat) (p' : PS) (ext : List Nd) (wr : World) : Prop where
 pb : PB wr b p'
 kids : DK wr (Bf b A p'.nodes) lv ks
 inv : Bg wr b (lv.ownBlock.toList ++ A) p'.nodes (nds ++ ext)
 grow : Bq b p.nodes p'.nodes w wr
 fresh : ∀ g, lv.ownBlock = some g -> w.heap.size <= g
 few : ks.length <= 61
 avl : ∀ x, x ∈ A -> x < w.heap.size
theorem CO.avl'(L:CO b A p w nds lv ks p' ext wr):∀x,x∈lv.ownBlock.toList++A->x<wr.heap.size:=by
 intro x a;simp only[Bb,Ay]at a;rcases a with h|h
 ·exact(L.kids.1.lt x h).2
 ·exact BL (L.avl x h) L.grow.1.size
theorem CO.call(L:CO b A p w nds lv ks p' ext wr){p2:PS}{a:List Nd}{w2:World}(f:PB w2 b p2)(hi:Bg w2 b (lv.ownBlock.toList++A) p2.nodes (nds++ext++a))(d:Bq b p'.nodes p2.nodes wr w2):CO b A p w nds lv ks p2 (ext++a) w2:=by
 refine⟨f,?_,by rw[<-CS];exact hi,L.grow.trans d,L.fresh,L.few,L.avl⟩;refine L.kids.step d.1 ?_ ?_
 ·intro x _ c;simp only[JD,Bf,Az,Bb]at c⊢;rcases c with h|h
  ·exact AH h
  ·exact AE (AH h)
 ·intro x i c;simp only[Bf,Az,Bb,Ay]at c⊢;rcases c with h|h|h
  ·exact AH h
  ·rcases d.2 with e|⟨g,e,j⟩
   ·rw[e]at h;exact AE (AH h)
   ·rw[e]at h;cases h;omega
  ·exact AE (AE h)
theorem CO.snoc(L:CO b A p w nds lv ks p' ext wr)(k:Nat)(u:ks.length<61){g cap:Nat}(m:w1.ownsRow 0 3 1 (.slice (some ⟨g,0,none⟩) (ks.length+1) cap) (ks.length+1) (ks.map (fun(k:Nat)=>Value.int .i64 (k:Int))++[.int .i64 (k:Int)]))(a:(wr.alloc (.cells #[.int .i64 (k:Int)] 3)).grownBy w1 lv.ownBlock)(f:lv.ownBlock=some g∨g=wr.heap.size+1):CO b A p w nds (.slice (some ⟨g,0,none⟩) (ks.length+1) cap) (ks++[k]) p' ext w1:=by
 have n:AA lv.ownBlock.toList (wr.alloc (.cells #[.int .i64 (k:Int)] 3)) w1:=⟨a.os,a.tape,a.output,a.size,fun j r s=>a.block j r (by intro e;apply s;rw[<-e];simp)⟩;have d:AA lv.ownBlock.toList wr w1:=((AG _ wr).alloc _).trans n;have t:wr.heap.size<=w1.heap.size:=d.size;have hbl:=L.pb.lt;have o:=L.grow.1.size;have hb:b∉lv.ownBlock.toList:=by
  intro hm;have:=L.kids.2 b (by simpa using hm);exact this (by simp[Bf])
 refine⟨L.pb.keep d hb,⟨by simpa using m,?_⟩,?_,L.grow.step d ?_,?_,by simp;omega,L.avl⟩
 ·intro g' i hm;have e:g=g':=by simpa[Value.ownBlock]using i
  subst e;rcases f with h|h
  ·exact L.kids.2 _ h hm
  ·have l:=L.inv.less (A':=A) (by intro x c;exact AH (by simp[c]));have:=l.av hbl (fun x c=>BL (L.avl x c) o) _ hm;omega
 ·have q:Bg wr b (lv.ownBlock.toList++([g]++A)) p'.nodes (nds++ext):=by
   refine L.inv.less ?_;intro x c;simp only[Bb,Dc]at c⊢;rcases c with h|h|h
   ·exact AH (AH h)
   ·subst h;rcases f with h|h
    ·exact AH (AH (by rw[h];simp))
    ·exact AE (by omega)
   ·exact AH (AE h)
  refine(q.keepA d ?_).less ?_
  ·intro x c;exact AE (AH (by simp only[Bb];exact AH c))
  ·intro x c
   left
   simp only[Value.ownBlock,Option.toList_some,Bb,Dc]at c⊢;exact AE c
 ·intro x c;exact AE (L.fresh x (by simpa using c))
 ·intro g' i;have e:g=g':=by simpa[Value.ownBlock]using i
  subst e;rcases f with h|h
  ·exact L.fresh _ h
  ·omega
