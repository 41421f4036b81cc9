/-
  DERIVED. The reference's 'New': a text for a pattern, of which nothing was asked yet. Conditions: the text is at most 100 bytes long, the nodes are at most 1000 and lie as they should.
-/
import Derived.Test.YtnfojonmohijpaaGreatDoorJVI
set_option linter.all false
set_option maxRecDepth 100000
set_option maxHeartbeats 8000000
namespace Go.Proofs.YtnfojonmohijpaaGreatDoor
open Go.RowKit
variable{w wr:World}{b bp:Nat}{s:ByteArray}{E:Value}{fo:Bool}
def XF(w:World)(b:Nat)(P:Value)(s:ByteArray)(E:Value)(fo:Bool):Prop:=w.heap[b]? =some (.cells #[P,.string s,.bool fo,E] 154 (0,0))
theorem XF.xb{P:Value}(h:XF w b P s E fo):XB w b P s E:=⟨fo,h⟩
theorem XF.two{P:Value}(h:XF w b P s E fo):w.cell? ⟨b,2,none⟩=some (.bool fo):=by
 unfold XF at h;simp[World.cell?,h]
structure NW (w wr : World) (fo : Bool) (s : ByteArray) (N b bp t : Nat) (D : List Nat) (E : Value) : Prop where
 xf : XF wr b (.pointer (some ⟨bp, 0, none⟩)) s E fo
 out : wr.ownsRow 0 155 1 E t (D.map fun g => .slice (some ⟨g, 0, none⟩) N N)
 nodup : D.Nodup
 inn : ∀ g, g ∈ D -> w.heap.size <= g ∧ g ≠ b ∧ E.ownBlock ≠ some g ∧ wr.heap[g]? = some (.cells (Array.replicate N (.slice none 0 0)) 98 (0, 0))
 ee : ∀ g, E.ownBlock = some g -> w.heap.size <= g ∧ g ≠ b
 keep : AA [] w wr
theorem NW.xb{N t:Nat}{D:List Nat}(h:NW w wr fo s N b bp t D E):XB wr b (.pointer (some ⟨bp,0,none⟩)) s E:=h.xf.xb
theorem NW.step{w2 w3:World}{N t g2 cap:Nat}{D:List Nat}(L:NW w wr fo s N b bp t D E)(hb:w.heap.size<=b)(f:AA [] wr w2)(hlt:wr.heap.size<w2.heap.size)(v:w2.heap[wr.heap.size]? =some (.cells (Array.replicate N (.slice none 0 0)) 98 (0,0)))(m:w3.ownsRow 0 155 1 (.slice (some ⟨g2,0,none⟩) (t+1) cap) (t+1) ((D.map fun g=> .slice (some ⟨g,0,none⟩) N N)++[.slice (some ⟨wr.heap.size,0,none⟩) N N]))(d:w2.grownBy w3 E.ownBlock)(l:E.ownBlock=some g2∨g2=w2.heap.size):NW w (w3.setCell ⟨b,3,none⟩ (.slice (some ⟨g2,0,none⟩) (t+1) cap)) fo s N b bp (t+1) (D++[wr.heap.size]) (.slice (some ⟨g2,0,none⟩) (t+1) cap):=by
 have y:=L.keep.size;have hbl:=L.xb.lt;have A:=f.size;have B:=d.size;have n:∀g,E.ownBlock=some g->g<wr.heap.size:=fun g i=>(L.out.lt g i).2
 have hk3:AA E.ownBlock.toList wr w3:=⟨d.os.trans f.os,d.tape.trans f.tape,d.output.trans f.output,BG f.size d.size,fun k C I=>(d.block k (BL C f.size) (fun e=>I (by rw[<-e];simp))).trans (f.block k C (by simp))⟩;have o:w.heap.size<=g2∧g2≠b:=by
  rcases l with h|h
  ·exact L.ee g2 h
  ·omega
 have q:XF w3 b (.pointer (some ⟨bp,0,none⟩)) s E fo:=(hk3.block b hbl (by intro hm;simp at hm;exact(L.ee b hm).2 rfl)).trans L.xf;have j:AA [b] w3 (w3.setCell ⟨b,3,none⟩ (.slice (some ⟨g2,0,none⟩) (t+1) cap)):=(AG [b] w3).setCell (p:=⟨b,3,none⟩) (by simp) _;refine⟨?_,?_,?_,?_,?_,?_⟩
 ·unfold XF at*;simp[World.setCell,Aq,q]
 ·rw[Fq];exact m.keep j (by intro g i;simp only[Value.ownBlock,Ai]at i;subst i;simp;exact o.2)
 ·rw[List.nodup_append];refine⟨L.nodup,by simp,fun a J c F=>?_⟩;simp only[Dc]at F;subst F;have:=(AN.1 (L.inn a J).2.2.2).1;omega
 ·intro g i;rcases Bb.1 i with i|i
  ·obtain⟨K,u,G,H⟩:=L.inn g i;have z:=(AN.1 H).1;refine⟨K,u,?_,?_⟩
   ·simp only[Value.ownBlock,ne_eq,Ai];rintro rfl;rcases l with h|h
    ·exact G h
    ·omega
   ·exact(j.block g (by omega) (by simp;exact u)).trans ((hk3.block g z (by simp;exact G)).trans H)
  ·simp only[Dc]at i;subst i;refine⟨y,by omega,?_,?_⟩
   ·simp only[Value.ownBlock,ne_eq,Ai];rintro rfl;rcases l with h|h
    ·have:=n _ h;omega
    ·omega
   ·have u:w3.heap[wr.heap.size]? =w2.heap[wr.heap.size]? :=d.block wr.heap.size hlt (fun e=>by have:=n _ e.symm;omega);exact(j.block wr.heap.size (by omega) (by simp;omega)).trans (u.trans v)
 ·intro g i;simp only[Value.ownBlock,Ai]at i;subst i;exact o
 ·refine BZ (BZ L.keep hk3 ?_) j ?_
  ·intro x r;simp at r;exact AE (L.ee x r).1
  ·intro x r;simp at r;subst r;exact AE hb
theorem VC(N:Nat):(madeCells #[Value.slice none 0 0] N).toList=List.replicate N (.slice none 0 0):=by
 apply Hd;intro j;by_cases a:j<N
 ·simp[madeCells,a,Nat.mod_one]
 ·simp[madeCells,a]
theorem PK:(Tryz.prog.info? 98).map (fun i=>(i.zero,i.size,i.bytes))=some (some (.slice none 0 0),1,24):=by kernel_rfl
theorem VD(X:World)(N:Nat)(L:Int)(f:L=(N:Int))(g:N<=1000):(Instr.makeSlice 155 (.int .i64 L) (.int .i64 L)).run Tryz.prog X=.ok (.slice (some ⟨X.heap.size,0,none⟩) N N) (X.alloc (.cells (Array.replicate N (.slice none 0 0)) 98)):=by
 obtain⟨i0,a,b,c,d⟩:=A2 PK;have e:=run_make (P:=Tryz.prog) X 155 98 i0 (.slice none 0 0) Tryz.underlying155 a b .i64 .i64 N N (by omega) (Int.le_refl _) (by rw[d];omega) (by omega);simp only[Int.toNat_natCast,c,Nat.mul_one]at e;rw[f,e,show madeCells (Value.slice none 0 0).cells N=Array.replicate N (.slice none 0 0)from Array.ext' (by rw[Array.toList_replicate];exact VC N)]
theorem VE:(Tryz.prog.info? 155).map (fun i=>(i.zero,i.size,i.bytes))=some (some (.slice none 0 0),1,24):=by kernel_rfl
theorem NW.tx{N:Nat}{p:PS}{nds:List Nd}{D Z:List Nat}(m:N=s.size+1)(n:s.size<=100)(L:NW w wr fo s N b bp nds.length D E)(hb:w.heap.size<=b)(l:PB w bp p)(o:Bg w bp Z p.nodes nds)(q:∀x,x∈Z->x<w.heap.size)(e:bp∉Z):TX wr b bp s p (nds.map (Nd.fo fo)) D E Z:=by
 subst m;have f:bp<w.heap.size:=(AN.1 l).1;have j:bp∉D:=fun hm=>by have:=(L.inn bp hm).1;omega
 have c:∀x,w.heap.size<=x->x∉Z:=fun x h hm=>by have:=q x hm;omega
 refine⟨L.xb,(L.keep.block bp f (by simp)).trans l,⟨fo,nds,L.xf.two,rfl,?_⟩,by rw[Ce];exact L.out,L.nodup,⟨by omega,fun hm=>(L.inn b hm).2.1 rfl,c b hb,j,e⟩,?_,fun g d=>c g (L.inn g d).1,n,?_⟩
 ·refine(o.less (A':=b::(E.ownBlock.toList++(D++Z))) ?_).keepA L.keep (by simp);intro x a;simp only[Az,Bb,Ay]at a;rcases a with rfl|a|a|a
  ·exact AE hb
  ·exact AE (L.ee x a).1
  ·exact AE (L.inn x a).1
  ·exact AH a
 ·intro g d;have r:=(L.ee g d).1;exact⟨(L.ee g d).2,by omega,fun hm=>(L.inn g hm).2.2.1 d,c g r⟩
 ·intro k g d;refine⟨List.replicate (s.size+1) (.slice none 0 0),by simp,by rw[List.toArray_replicate];exact(L.inn g (C8 d)).2.2.2,fun i v t=>AH ?_⟩;exact List.eq_of_mem_replicate (C8 t)
theorem VF(fo:Bool)(s:ByteArray)(N:Nat)(S:Hid (N=s.size+1))(hs:s.size<=100)(nds:List Nd)(hl:nds.length<=1000)(bp:Nat)(p:PS)(Z:List Nat)(w:World)(Q:PB w bp p)(T:Bg w bp Z p.nodes nds)(HZ:Hid ((∀x,x∈Z->x<w.heap.size)∧bp∉Z)):Calls Tryz.prog 47 #[.pointer (some ⟨bp,0,none⟩),.string s,.bool fo] w fun e w'=>∃b D E,e=.returned (.pointer (some ⟨b,0,none⟩))∧TX w' b bp s p (nds.map (Nd.fo fo)) D E Z∧(∀x,x∈D->w.heap.size<=x)∧w.heap.size<=b∧(∀x,E.ownBlock=some x->w.heap.size<=x)∧AA [] w w':=by
 obtain⟨i0,al,am,an,ao⟩:=A2 PK;have ap:=Tryz.underlying155;have v:=Tryz.underlying152;obtain⟨i1,U,V,Y,aa⟩:=A2 VE;obtain⟨n1,_⟩:=Q.nodes;obtain⟨aq,_,m,_⟩:=id T;obtain⟨na,nn,nc,h⟩:=A6 m;have ab:nn=nds.length:=by
  rcases m.2 with⟨e,e2⟩|⟨_,_,_,e,_⟩
  ·rw[h]at e;cases e;exact e2.symm
  ·rw[h]at e;cases e;rfl
 subst ab;rw[h]at n1;have HP:Hid (PB w bp p∧Bg w bp Z p.nodes nds):=⟨Q,T⟩;have ac:bp<w.heap.size:=(AN.1 Q).1;have ak:(s.size:Int)+1<=9223372036854775807:=by omega
 have ar:(nds.length:Int)<=1000:=by omega
 clear m T Q h;have y:XF (w.alloc (.cells #[.pointer (some ⟨bp,0,none⟩),.string s,.bool fo,.slice none 0 0] 154)) w.heap.size (.pointer (some ⟨bp,0,none⟩)) s (.slice none 0 0) fo:=AS w _;have n:NW w (w.alloc (.cells #[.pointer (some ⟨bp,0,none⟩),.string s,.bool fo,.slice none 0 0] 154)) fo s N w.heap.size bp 0 [] (.slice none 0 0):=
  ⟨y,FH _ _ _ _,List.nodup_nil,by simp,by simp[Value.ownBlock],(AG [] w).alloc _⟩
 clear y;go_enter Tryz.func47,Tryz.ntmps47;go_upto_region 3 with(fail)
 generalize(w.alloc (.cells #[.pointer (some ⟨bp,0,none⟩),.string s,.bool fo,.slice none 0 0] 154))=W at*;obtain⟨b,z⟩:=AQ w.heap.size;rw[<-z]at n⊢;have i:w.heap.size<=b:=by omega
 clear z;go_loopw [8] (fun q wr=>∃(t:Nat)(D:List Nat)(E:Value),t<=nds.length∧q=.int .i64 t∧NW w wr fo s N b bp t D E) (fun q _=>nds.length-(intOf q).toNat)
 case atStart=>exact⟨0,[],_,by omega,rfl,n⟩
 case round=>
  clear n;obtain⟨t,D,E,ht,rfl,L⟩:=hrel;have m1:=(Ad (L.keep.block bp ac (by simp))).trans n1;by_cases r:t<nds.length
  ·have au:(t:Int)<(nds.length:Int):=by omega
   have R:Hid (t<nds.length):=r;clear ht r;go_upto_region 5 with(fail)
   have A:∀X:World,(Instr.makeSlice 155 (.int .i64 ((s.size:Int)+1)) (.int .i64 ((s.size:Int)+1))).run Tryz.prog X=.ok (.slice (some ⟨X.heap.size,0,none⟩) N N) (X.alloc (.cells (Array.replicate N (.slice none 0 0)) 98)):=fun X=>VD X N ((s.size:Int)+1) (by have:=S.o;omega) (by have:=S.o;omega)
   have aw:IntKind.i64.wrap ((s.size:Int)+1)=(s.size:Int)+1:=wrap_small (by omega) (by omega);obtain⟨x0,x1,x2,x3⟩:=L.xb.main;have HL:Hid (NW w wr fo s N b bp t D E):=L;have ad:=L.xb.lt;have B:some b≠E.ownBlock:=fun e=>(L.ee b e.symm).2 rfl
   have k:=L.out;have j:Hid (AA [] wr ((wr.alloc (.cells (Array.replicate N (.slice none 0 0)) 98)).alloc (.cells #[.slice (some ⟨wr.heap.size,0,none⟩) N N] 155)).drew):=(((AG [] wr).alloc _).alloc _).drew;have C:wr.frozen? ⟨b,3,none⟩=false:=by have u:=L.xf;unfold XF at u;simp[World.frozen?,u]
   have F:((wr.alloc (.cells (Array.replicate N (.slice none 0 0)) 98)).alloc (.cells #[.slice (some ⟨wr.heap.size,0,none⟩) N N] 155)).drew.heap.size=wr.heap.size+2:=by simp
   have G:((wr.alloc (.cells (Array.replicate N (.slice none 0 0)) 98)).alloc (.cells #[.slice (some ⟨wr.heap.size,0,none⟩) N N] 155)).drew.heap[wr.heap.size]? =some (.cells (Array.replicate N (.slice none 0 0)) 98 (0,0)):=C2 wr _ _;have H:((wr.alloc (.cells (Array.replicate N (.slice none 0 0)) 98)).alloc (.cells #[.slice (some ⟨wr.heap.size,0,none⟩) N N] 155)).drew.heap[wr.heap.size+1]? =some (.cells #[.slice (some ⟨wr.heap.size,0,none⟩) N N] 155 (0,0)):=Df wr _ _;have ae:Hid (((wr.alloc (.cells (Array.replicate N (.slice none 0 0)) 98)).alloc (.cells #[.slice (some ⟨wr.heap.size,0,none⟩) N N] 155)).drew.heap[wr.heap.size]? =some (.cells (Array.replicate N (.slice none 0 0)) 98 (0,0))):=G;have af:Hid (((wr.alloc (.cells (Array.replicate N (.slice none 0 0)) 98)).alloc (.cells #[.slice (some ⟨wr.heap.size,0,none⟩) N N] 155)).drew.heap[wr.heap.size+1]? =some (.cells #[.slice (some ⟨wr.heap.size,0,none⟩) N N] 155 (0,0))):=H;have d:Hid (((wr.alloc (.cells (Array.replicate N (.slice none 0 0)) 98)).alloc (.cells #[.slice (some ⟨wr.heap.size,0,none⟩) N N] 155)).drew.heap.size=wr.heap.size+2):=F;have ag:Hid (wr.ownsRow 0 155 1 E t (D.map fun g=> .slice (some ⟨g,0,none⟩) N N)):=k;have c:Hid (b<wr.heap.size∧wr.cell? ⟨b,3,none⟩=some E∧wr.frozen? ⟨b,3,none⟩=false):=⟨ad,x3,C⟩;clear L G H F k m1 x0 x1 x2
   go_region_law
    ((refine step_append_lies _ (by rfl) _ _ _ (by rfl) 0 155 i1 _ 1 24 v U V Y aa rfl (by omega) E t _ (by rfl) (ag.o.keep j.o (by simp)) ⟨wr.heap.size+1,0,none⟩ 1 1 [.slice (some ⟨wr.heap.size,0,none⟩) N N] (by rfl) (by rfl) (Dq (cs:=#[.slice (some ⟨wr.heap.size,0,none⟩) N N]) af.o) (by simp[Value.oneCell']) (by omega) (by have:=R.o;unfold maxLen;omega) (by have:=R.o;omega) (AY _) (wr.heap.size+2) d.o ?_;intro g2 cap w3 f a I J;have ah:w3.cell? ⟨b,3,none⟩=some E:=((a.cell_far ⟨b,3,none⟩ (by have:=d.o;have:=c.o.1;show b<_;omega) B).trans (Ad (j.o.block b c.o.1 (by simp)))).trans c.o.2.1;have ai:w3.frozen? ⟨b,3,none⟩=false:=((a.frozen_far ⟨b,3,none⟩ (by have:=d.o;have:=c.o.1;show b<_;omega) B).trans (Fm (j.o.block b c.o.1 (by simp)))).trans c.o.2.2))
   all_goals
    have aj:=NW.step HL.o i j.o (by rw[d.o];omega) ae.o f a (by rw[d.o];exact I);clear f a I J ah ai x3 C A;go_wp2_with fail;exact⟨⟨t+1,_,_,R.o,by go_num,aj⟩,by have:=R.o;simp[intOf];omega⟩
  ·have K:t=nds.length:=by omega
   have ax:¬(t:Int)<(nds.length:Int):=by omega
   have l:=NW.tx S.o hs (K ▸ L) i HP.o.1 HP.o.2 HZ.o.1 HZ.o.2;have M:∀x,E.ownBlock=some x->w.heap.size<=x:=fun x u=>(L.ee x u).1
   have O:=L.keep;have P:∀x,x∈D->w.heap.size<=x:=fun x u=>(L.inn x u).1
   clear K r ht L;go_wp2_with fail;go_ret
   first|exact⟨b,rfl,D,E,l,P,i,M,O⟩|exact⟨b,rfl,i,D,E,l,P,M,O⟩
structure OW (w wr : World) (ob : Nat) (keep : Bool) (t : Nat) (sp : Value) : Prop where
 blk : OB wr ob ⟨#[]⟩ 0 sp keep
 row : wr.ownsRow 0 3 1 sp t (BA (List.replicate t (-1)))
 new : ∀ g, sp.ownBlock = some g -> w.heap.size <= g ∧ g ≠ ob
 keep : AA [] w wr
theorem OW.step{w3:World}{ob t g2 cap:Nat}{keep:Bool}{sp:Value}{o:Obj}(L:OW w wr ob keep t sp)(l:w.heap.size<=ob)(c:w3.ownsRow 0 3 1 (.slice (some ⟨g2,0,none⟩) (t+1) cap) (t+1) (BA (List.replicate t (-1))++[.int .i64 (-1)]))(a:(wr.alloc o).grownBy w3 sp.ownBlock)(m:sp.ownBlock=some g2∨g2=wr.heap.size+1):OW w (w3.setCell ⟨ob,2,none⟩ (.slice (some ⟨g2,0,none⟩) (t+1) cap)) ob keep (t+1) (.slice (some ⟨g2,0,none⟩) (t+1) cap):=by
 have r:=L.keep.size;have s:=L.blk.lt;have b:AA [] wr (wr.alloc o):=(AG [] wr).alloc o;have hk3:AA sp.ownBlock.toList wr w3:=⟨a.os.trans b.os,a.tape.trans b.tape,a.output.trans b.output,BG b.size a.size,fun k q u=>(a.block k (BL q b.size) (fun e=>u (by rw[<-e];simp))).trans (b.block k q (by simp))⟩;have d:w.heap.size<=g2∧g2≠ob:=by
  rcases m with h|h
  ·exact L.new g2 h
  ·omega
 have n:OB w3 ob ⟨#[]⟩ 0 sp keep:=L.blk.keep' hk3 (by intro hm;simp at hm;exact(L.new ob hm).2 rfl);have f:AA [ob] w3 (w3.setCell ⟨ob,2,none⟩ (.slice (some ⟨g2,0,none⟩) (t+1) cap)):=(AG [ob] w3).setCell (p:=⟨ob,2,none⟩) (by simp) _;refine⟨?_,?_,?_,?_⟩
 ·unfold OB at*;simp[World.setCell,Aq,n]
 ·have e:BA (List.replicate (t+1) (-1))=BA (List.replicate t (-1))++[.int .i64 (-1)]:=by simp[BA,List.replicate_succ']
  rw[e];exact c.keep f (by intro g i;simp only[Value.ownBlock,Ai]at i;subst i;simp;exact d.2)
 ·intro g i;simp only[Value.ownBlock,Ai]at i;subst i;exact d
 ·refine BZ (BZ L.keep hk3 ?_) f ?_
  ·intro x j;simp at j;exact AE (L.new x j).1
  ·intro x j;simp at j;subst j;exact AE l
theorem Lz:(Tryz.prog.info? 3).map (fun i=>(i.zero,i.size,i.bytes))=some (some (.int .i64 0),1,8):=by kernel_rfl
theorem Jq(s:ByteArray)(nds:List Nd)(Z:nds.length<=1000)(k:Nat)(hk:NK nds 1000 k)(w:World)(b bp:Nat)(p:PS)(D:List Nat)(E:Value)(h:TX w b bp s p nds D E [])(f:Hid (p.root=k))(F:p.gr<=9)(i j:Nat)(keep:Bool)(t:List UInt8)(ev:List (Nat×Nat×Nat))(HT:Hid (TN s nds p.gr (.node k) i j t ev))(HM:Hid (MN s nds (.node k) i j))(hj:j<=s.size)(hlen:t.length<=4611686018427387904):Calls Tryz.prog 49 #[.pointer (some ⟨b,0,none⟩),.int .i64 i,.int .i64 j,.bool keep] w fun e w'=>∃ob sp,e=.returned (.pointer (some ⟨ob,0,none⟩))∧TS w' b bp s p nds D E ob sp keep p.gr t (evs (List.replicate (2*p.gr) (-1)) ev)∧AA D w w':=by
 obtain⟨i0,G,H,I,J⟩:=A2 Lz;have K:=Fp;have hbl:=h.xb.lt;have z:bp<w.heap.size:=(AN.1 h.pb).1;obtain⟨x0,_,_,_⟩:=h.xb.main;obtain⟨r2,_⟩:=h.pb.rbe;obtain⟨r5,_⟩:=h.pb.gd;have aa:(p.gr:Int)<=9:=by omega
 have HX:Hid (TX w b bp s p nds D E []):=h;have g:OW w (w.alloc (.cells #[.string ⟨#[]⟩,.int .i64 0,.slice none 0 0,.bool keep] 106)) w.heap.size keep 0 (.slice none 0 0):=
  ⟨AS w _,FH _ _ _ _,by simp[Value.ownBlock],(AG [] w).alloc _⟩
 clear h;go_enter Tryz.func49,Tryz.ntmps49;go_upto_region 3 with(fail)
 generalize(w.alloc (.cells #[.string ⟨#[]⟩,.int .i64 0,.slice none 0 0,.bool keep] 106))=W at*;obtain⟨ob,A⟩:=AQ w.heap.size;rw[<-A]at g⊢;have l:w.heap.size<=ob:=by omega
 have U:ob≠b∧ob≠bp:=by omega
 clear A;have ab:IntKind.i64.wrap (2*(p.gr:Int))=2*(p.gr:Int):=wrap_small (by omega) (by omega);go_loopw [10] (fun q wr=>∃(m:Nat)(sp:Value),m<=2*p.gr∧q=.int .i64 m∧OW w wr ob keep m sp) (fun q _=>2*p.gr-(intOf q).toNat)
 case atStart=>exact⟨0,_,by omega,rfl,g⟩
 case round=>
  clear g;obtain⟨m,sp,hm,rfl,L⟩:=hrel;have y0:=(Ad (L.keep.block b hbl (by simp))).trans x0;have y5:=(Ad (L.keep.block bp z (by simp))).trans r5;have M:=(Ad (L.keep.block bp z (by simp))).trans r2;by_cases n:m<2*p.gr
  ·have ac:(m:Int)<2*(p.gr:Int):=by omega
   have r:Hid (m<2*p.gr):=n;obtain⟨_,_,z2,_,_,_⟩:=L.blk.main;have v:∀(j:Nat)(u:Value),[Value.int .i64 (-1)][j]? =some u->(wr.alloc (.cells #[.int .i64 (-1)] 3)).cell? ((⟨wr.heap.size,0,none⟩:Addr).add j)=some u:=Dq (cs:=#[.int .i64 (-1)]) (AS wr _);have N:m+1<=maxLen:=by unfold maxLen;omega
   have V:Hid (OW w wr ob keep m sp):=L;have hF:wr.frozen? ⟨ob,2,none⟩=false:=by have a:=L.blk;unfold OB at a;simp[World.frozen?,a]
   have B:Hid (some ob≠sp.ownBlock):=fun e=>(L.new ob e.symm).2 rfl
   have d:Hid (ob<wr.heap.size):=L.blk.lt;clear L hm n M;go_wp2_with(first|(at_builtin;refine CC _ rfl _ _ _ rfl 0 3 i0 _ 1 8 K G H I J rfl (by decide) sp m _ rfl (V.o.row.alloc _) ⟨wr.heap.size,0,none⟩ 1 1 [.int .i64 (-1)] rfl rfl v (by simp[Value.oneCell']) (by omega) N (by have:=r.o;omega) (AY _) (wr.heap.size+1) (by simp) ?_;intro g2 cap w3 y c O X;have ad:w3.cell? ⟨ob,2,none⟩=some sp:=((c.cell_far ⟨ob,2,none⟩ (by have:=d.o;simp;omega) B.o).trans (World.cell?_alloc_old wr _ ⟨ob,2,none⟩ (by have:=d.o;simp;omega))).trans z2;have ae:w3.frozen? ⟨ob,2,none⟩=false:=((c.frozen_far ⟨ob,2,none⟩ (by have:=d.o;simp;omega) B.o).trans (Fi wr _ ⟨ob,2,none⟩ (by have:=d.o;simp;omega))).trans hF));have P:=OW.step V.o l y c O;exact⟨⟨m+1,_,r.o,by go_num,P⟩,by have:=r.o;simp[intOf];omega⟩
  ·have Q:m=2*p.gr:=by omega
   have af:¬(m:Int)<2*(p.gr:Int):=by omega
   subst Q;have Y:TS wr b bp s p nds D E ob sp keep p.gr [] (List.replicate (2*p.gr) (-1)):=by
    refine⟨(HX.o.less (Z':=ob::sp.ownBlock.toList) ?_).keep L.keep (by simp),⟨_,L.blk,by decide,fun _ _=>rfl⟩,L.row,fun e=>(L.new ob e).2 rfl⟩;intro x a;rcases Az.1 a with rfl|a
    ·exact AE l
    ·exact AE (L.new x (by simpa using a)).1
   have R:=L.keep;have S:Hid (∀x,x∈Al ob sp D->x∈D∨w.heap.size<=x):=by
    intro x a;simp only[Al,Az,Bb,Ay]at a;rcases a with rfl|a|a
    ·exact AE l
    ·exact AE (L.new x a).1
    ·exact AH a
   rw[f.out]at M;clear L hm n;go_wp2_with fail;refine(VB s nds Z 1000 (AP _) k hk wr b bp p D E ob sp keep p.gr [] _ i j t ev Y HT.o HM.o hj F (by simpa using hlen)).mono ?_;rintro e w4⟨rfl,C,hk4⟩;rw[FN]at C;have T:AA D w w4:=BZ (R.mono (by simp)) hk4 S.o;clear Y hk4 y0 y5 M;go_wp2_with fail;go_ret;exact⟨ob,sp,rfl,C,T⟩
theorem PM:∀{x:AD},shp x .ways->(wl x).length=x.wn
 | .wone x,_=>rfl
 | .wcons x r,h=>by
  have a:=PM (x:=r) h.2;have b:(AD.wcons x r).wn=r.wn+1:=rfl;rw[b,<-a];rfl
 | .pnil,h=>h.elim
 | .pcons _ _,h=>h.elim
 | .set _,h=>h.elim
 | .grp _ _,h=>h.elim
 | .rep _ _ _,h=>h.elim
theorem VG:∀{x:AD}{kd:Kd},shp x kd->x.thin->x.thn:=by
 intro x
 induction x with
 |set f=>intro _ _ _;trivial
 |grp k x ih=>
  intro kd a b;have c:shp x .ways:=by cases kd<;>first|exact a|exact a.elim
  exact ih c b
 |rep mn mx x ih=>
  intro kd a b;have c:shp x .single:=by cases kd<;>first|exact a.2.2.2|exact a.elim
  exact ih c b
 |pnil=>intro _ _ _;trivial
 |pcons x r d e=>
  intro kd a b;have c:shp x .piece∧shp r .way:=by cases kd<;>first|exact a|exact a.elim
  exact⟨d c.1 b.1,e c.2 b.2⟩
 |wone x ih=>
  intro kd a b;have c:shp x .way:=by cases kd<;>first|exact a|exact a.elim
  exact ih c b
 |wcons x r d e=>
  intro kd a b;have c:shp x .way∧shp r .ways:=by cases kd<;>first|exact a|exact a.elim
  exact⟨by rw[<-PM c.2];exact b.1,d c.1 b.2.1,e c.2 b.2.2⟩
theorem B6.all{W:Whole}{j:Nat}(f:s.size<=60)(h:B6 s (.ok W j)):shp W.x .ways∧W.x.sz<1000∧W.x.fair W.g∧W.x.fair 9∧W.x.thn∧W.g<=9∧W.x.dep<=7:=by
 obtain⟨g1,g2,g3⟩:=h.good f;obtain⟨i,b,a⟩:=h;cases i with
 |bad l=>cases a
 |ok k l=>
  obtain⟨x,g⟩:=k;have c:wi s<=s.size:=by
   unfold wi;by_cases h:at' s 0=94
   ·rw[AL h];exact Ap (by omega)
   ·rw[AK h];exact AY _
  have d:=b.shp x g l rfl;have m:=IF b c;obtain⟨_,f2,f3,f4⟩:=b.fair (by omega) (by omega) x g l rfl;rw[GI]at a;by_cases e:0<=at' s (if at' s l=36 then l+1 else l)
  ·rw[AL e]at a;cases a
  ·rw[AK e]at a;cases a;simp only[EE,EF,Br,Eh]at d m f4;exact⟨d.1,by show x.sz<1000;omega,f3,g1,VG d.1 g2,g3,by show x.dep<=7;omega⟩
