/-
  DERIVED. The contract of the reference's 'way', given that of 'ways' on what is shorter. Conditions: the pattern is at most 60 bytes long, nothing was wrong so far, the nodes lie as they should.
-/
import Derived.Test.YtnfojonmohijpaaGreatDoorJRP
import Derived.Laws.BytesString
set_option linter.all false
set_option maxRecDepth 100000
set_option maxHeartbeats 8000000
namespace Go.Proofs.YtnfojonmohijpaaGreatDoor
open Go.RowKit
variable{ext nds:List Nd}{kd:Kd}{A ks:List Nat}{b base h k:Nat}{p p':PS}{w w' wr:World}{lv v:Value}{word:List UInt8}
def Ea:=@World.cell?_setCell_same
def FK:=@List.length_eq_zero_iff
def JH:=@List.length_eq_one_iff
def Fm:=@World.frozen?_of_block
def II:=@List.mem_cons_of_mem
def Fo:=@World.ownsRow.cells
def CC:=@wpList_append_lies
def Ep:=@World.ownsRow.keep
def Fp:=@Tryz.underlying32
def GQ:=@Tryz.underlying9
def A3:=@World.ownsRow.lt
def Ce:=@List.length_map
def Fq:=@List.map_append
def D6:=@List.map_cons
def B4:=@congrArg
def Gz(p p':PS):Prop:=p'.s=p.s∧p'.root=p.root∧p'.bg=p.bg∧p'.en=p.en∧p'.deep=p.deep
def G1(b:Nat)(A:List Nat)(p:PS)(w:World)(nds:List Nd)(lv:Value)(wr:World):Prop:=
 ∃ks p' ext,CO b A p w nds lv ks p' ext wr∧Gz p p'∧
  ((p'.bad=p.bad∧p.ix<=p'.ix∧p'.ix<=p.s.size∧p'.gr<=9∧ext.length<=4*(p'.ix-p.ix)∧ks.length<=p'.ix-p.ix∧∃xs,Fk (nds++ext) xs ks∧(∀y g' a,G p.s .way p.deep p'.gr p'.ix (.ok (y,g') a)->G p.s .way p.deep p.gr p.ix (.ok (app xs y,g') a))∧(∀l,G p.s .way p.deep p'.gr p'.ix (.bad l)->G p.s .way p.deep p.gr p.ix (.bad l)))∨(∃j:Nat,p'.bad=(j:Int)∧ext.length<=4*(p.s.size-p.ix)∧G p.s .way p.deep p.gr p.ix (.bad j)))
def GS(kd:Kd)(b:Nat)(A:List Nat)(p:PS)(w:World)(nds:List Nd)(q:R (AD×Nat))(ks:List Nat)(p':PS)(ext:List Nd)(lv:Value)(wr:World):Prop:=
 CO b A p w nds lv ks p' ext wr∧D4 p q p'∧G p.s kd p.deep p.gr p.ix q∧ext.length+1<=4*(Br p.s q-p.ix)+B8 kd∧(∀x g j,q=.ok (x,g) j->rep (nds++ext) x ks)
def kindOf:Kd->Nat
 | .way=>119
 |_=>111
theorem NQ{x:AD}(a:kd=.way∨kd=.ways)(h:rep nds x ks)(b:Cz nds (kindOf kd) ks k):C1 nds kd x k:=by
 rcases a with rfl|rfl<;>exact⟨ks,h,b⟩
theorem NS(a:kd=.way∨kd=.ways):CU kd=0:=by rcases a with rfl|rfl<;>rfl
theorem JI(a:kd=.way∨kd=.ways){q:R (AD×Nat)}(h:GS kd b A p w nds q [k] p' ext lv wr):D5 kd b A p w nds (.returned (.int .i64 k)) wr:=by
 obtain⟨L,c,d,f,i⟩:=h;refine⟨q,k,p',ext,rfl,d,c,L.pb,L.inv.less (fun x l=>AH (by simp[l])),by rw[NS a];omega,fun x g j e=>NQ a (i x g j e) (AH rfl),L.grow⟩
theorem GU(c:kd=.way∨kd=.ways){q:R (AD×Nat)}(h:GS kd b A p w nds q ks p' ext lv wr)(i:ks.length≠1)(s:(nds++ext).length<=1000):Calls Tryz.prog 136 #[.pointer (some ⟨b,0,none⟩),.agg #[.int .u8 (kindOf kd:Nat),.slice none 0 0,.int .i64 0,.int .i64 0,.int .i64 0,lv]] wr (D5 kd b A p w nds):=by
 obtain⟨L,t,u,v,y⟩:=h;have hinv:Bg wr b A p'.nodes (nds++ext):=L.inv.less (fun x k=>AH (by simp[k]));have d:kindOf kd≠98:=by rcases c with rfl|rfl<;>decide
 have l:FI wr (Bf b A p'.nodes) {kind:=kindOf kd,f:=fun _=>false,n:=0,mn:=0,mx:=0,kids:=ks} [.int .u8 (kindOf kd:Nat),.slice none 0 0,.int .i64 0,.int .i64 0,.int .i64 0,lv]:=
  ⟨.slice none 0 0,lv,rfl,⟨⟨_,_,_,rfl⟩,fun e=>absurd e d⟩,L.kids⟩
 refine(KB b A p' wr (fun x k=>BL (L.avl x k) L.grow.1.size) (nds++ext) _ _ L.pb hinv l s).mono ?_;rintro e w'⟨z,rfl,m,a,o⟩;rw[CS]at a;obtain⟨B,a2,a3,a4,a5,r⟩:=t;refine⟨q,(nds++ext).length,{p' with nodes:=z},ext++[{kind:=kindOf kd,f:=fun _=>false,n:=0,mn:=0,mx:=0,kids:=ks}],rfl,u,⟨B,a2,a3,a4,a5,?_⟩,m,a,?_,?_,L.grow.trans o⟩
 ·cases q with
  |ok x j=>exact r
  |bad j=>exact r
 ·rw[NS c];simp only[AW,CK];omega
 ·intro x g j e;rw[<-CS];refine NQ c (JB _ (y x g j e)) (AE ⟨i,{kind:=kindOf kd,f:=fun _=>false,n:=0,mn:=0,mx:=0,kids:=ks},by rw[AW];exact K3 _ _ _,rfl,rfl⟩)
theorem NT(c:Int)(a:0<=c):(hasB ⟨#[124,41,36]⟩ c (ByteArray.size ⟨#[124,41,36]⟩)=true)↔Cw c:=by
 simp[hasB,ByteArray.size,Cw];omega
theorem NU(s:ByteArray)(c:Int)(v:Bool)(a:s.size<=60)(h:hasB s c s.size=v)(w:World):Calls Tryz.prog 109 #[.string s,.int .u8 c] w fun e w'=>e=.returned (.bool v)∧w'=w:=by
 subst h;exact Gu s c w a
theorem CO.keep{w9:World}(L:CO b A p w nds lv ks p' ext wr)(a:AA [] wr w9):CO b A p w nds lv ks p' ext w9:=
 ⟨L.pb.keep a (by simp),L.kids.step a (by simp) (fun _ _ h=>h),L.inv.keep a EL,L.grow.step a EL,L.fresh,L.few,L.avl⟩
theorem G1.next{p2:PS}{a:List Nd}{w1:World}{xs:List AD}{q:R (AD×Nat)}(L:CO b A p w nds lv (ks++[k]) p2 (ext++a) w1)(z:Gz p p')(f:p'.bad=p.bad)(B:p.ix<=p'.ix)(C:ext.length<=4*(p'.ix-p.ix))(D:ks.length<=p'.ix-p.ix)(n:Fk (nds++ext) xs ks)(o:∀y g' r,G p.s .way p.deep p'.gr p'.ix (.ok (y,g') r)->G p.s .way p.deep p.gr p.ix (.ok (app xs y,g') r))(h:∀l,G p.s .way p.deep p'.gr p'.ix (.bad l)->G p.s .way p.deep p.gr p.ix (.bad l))(d:¬Cw (at' p.s p'.ix))(i:G p'.s .piece p'.deep p'.gr p'.ix q)(E:D4 p' q p2)(c:a.length+CU .piece<=4*(Br p'.s q-p'.ix)+B8 .piece)(m:∀x g j,q=.ok (x,g) j->C1 (nds++ext++a) .piece x k)(hlt:p'.ix<p.s.size)(t:p'.gr<=9):G1 b A p w nds lv w1:=by
 obtain⟨f1,f2,f3,f4,f5⟩:=z;obtain⟨F,a2,a3,a4,a5,v⟩:=E;rw[f1,f5]at i;rw[f1]at c;refine⟨ks++[k],p2,ext++a,L,⟨F.trans f1,a2.trans f2,a3.trans f3,a4.trans f4,a5.trans f5⟩,?_⟩;cases q with
 |bad j=>
  right
  refine⟨j,v,?_,h j (.pbad _ _ _ _ d i)⟩;simp only[Br,CU,B8]at c;simp only[AW];omega
 |ok H j=>
  obtain⟨x,g1⟩:=H;obtain⟨I,J,K⟩:=v;have e:=i.okb x g1 j rfl
  left
  simp only[Br,CU,B8]at c;have M:=e.2.2.1 (AH rfl);have u:=e.2.1 (Dp hlt);rw[I,J];refine⟨K.trans f,by omega,u,e.2.2.2.2 t,by simp only[AW];omega,by simp only[AW,CK];omega,xs++[x],?_,?_,?_⟩
  ·rw[<-CS];exact NJ (NI _ n) (m x g1 j rfl)
  ·intro y g' r N;rw[NH];exact o _ _ _ (.cons _ _ _ _ _ _ _ d i N)
  ·intro l O;exact h l (.cons _ _ _ _ _ _ _ d i O)
theorem G1.mu{p2:PS}{w1:World}{q:R (AD×Nat)}(g:PB wr b p')(c:PB w1 b p2)(k:Gz p p')(e:p'.bad=p.bad)(hb:p.bad<0)(l:p.s.size<=60)(h:G p'.s .piece p'.deep p'.gr p'.ix q)(i:D4 p' q p2)(hlt:p'.ix<p.s.size):D3 w1 b<D3 wr b:=by
 rw[GP g,GP c];have a:¬0<=p'.bad:=by omega
 obtain⟨m,a2,a3,a4,a5,d⟩:=i;rw[AK a];cases q with
 |bad j=>rw[AL (by rw[d];omega)];omega
 |ok f j=>
  have:=(h.okb f.1 f.2 j rfl).2.2.1 (AH rfl);rw[AK (by rw[d.2.2];exact a),d.1];omega
theorem NX(n:Nat)(IH:IG n)(b:Nat)(A:List Nat)(p:PS)(w:World)(nds:List Nd)(h:Fj b A p w nds)(hn:p.s.size-p.ix<=n):Calls Tryz.prog 135 #[.pointer (some ⟨b,0,none⟩)] w (D5 .way b A p w nds):=by
 have hb:=h.good;have hs:=h.sz;have al:=h.ix;have am:=h.room;have an:=h.deep;have L0:CO b A p w nds (.slice none 0 0) [] p [] w:=⟨h.pb,kids_nil _ _,by simpa[Value.ownBlock]using h.inv,Bq.refl _ _ _,by simp[Value.ownBlock],by simp,h.avl⟩;have S0:G1 b A p w nds (.slice none 0 0) w:=⟨[],p,[],L0,⟨rfl,rfl,rfl,rfl,rfl⟩,AH ⟨rfl,AP _,al,h.gr,by simp,by simp,[],trivial,fun _ _ _ e=>e,fun _ e=>e⟩⟩;clear L0 h;obtain⟨i0,ao,ap,aq,ar⟩:=A2 Tryz.infoInt;go_enter Tryz.func135,Tryz.ntmps135;go_wp2_with fail;go_loopw [3] (fun lv wr=>G1 b A p w nds lv wr) (fun _ wr=>D3 wr b)
 case atStart=>exact S0
 case round=>
  clear S0;obtain⟨ks,p',ext,L,hF,T⟩:=hrel;rcases T with⟨i,au,aH,X,Y,aw,xs,Z,aa,ab⟩|⟨j,i,Y,hG⟩
  ·obtain⟨F,a2,a3,a4,a5⟩:=hF;have ac:p'.bad<0:=by rw[i];exact hb
   have ax:p'.s.size<=60:=by rw[F];exact hs
   have O:p'.cur=at' p.s p'.ix:=by rw[FJ ac,F]
   have ad:Hid (∀y g' j',G p.s .way p.deep p'.gr p'.ix (.ok (y,g') j')->G p.s .way p.deep p.gr p.ix (.ok (app xs y,g') j')):=aa;have ay:Hid (∀l,G p.s .way p.deep p'.gr p'.ix (.bad l)->G p.s .way p.deep p.gr p.ix (.bad l)):=ab;have ae:Hid (Fk (nds++ext) xs ks):=Z;clear aa ab Z;have A1:Hid (p'.s=p.s):=F;have A5:Hid (p'.deep=p.deep):=a5;have AB:Hid (p'.bad=p.bad):=i;have AF:Hid (Gz p p'):=⟨F,a2,a3,a4,a5⟩;by_cases d:Cw (at' p.s p'.ix)
   ·have E0:GS .way b A p w nds (.ok (app xs .pnil,p'.gr) p'.ix) ks p' ext u3 wr:=⟨L,⟨F,a2,a3,a4,a5,rfl,rfl,i⟩,ad.o _ _ _ (.nil _ _ _ d),by simp only[Br,B8];omega,by intro x g j e;cases e;have:=NM ae.o (show rep (nds++ext) .pnil []from rfl);simpa using this⟩;have hlen:(nds++ext).length<=1000:=by simp only[AW];omega
    cases hm:Bv p'
    ·clear d O F a2 a3 a4 a5 i;go_wp2_with(first|(go_at_call 83;refine(CL b _ _ L.pb).mono ?_;rintro e w2⟨rfl,u,r⟩));go_quiet (fail);have E:GS .way b A p w nds (.ok (app xs .pnil,p'.gr) p'.ix) ks p' ext u3 (w2.drewN nq):=⟨(L.keep r).keep ((AG [] w2).drewN nq),E0.2⟩;generalize w2.drewN nq=w9 at*;obtain⟨a,v⟩:∃a,a=ks:=⟨ks,rfl⟩;rw[<-v]at E;clear v L u r E0;rcases E.1.kids.1.2 with⟨H,e2⟩|⟨g,cap,cur,H,_,m,hle,_,z,f⟩
     ·subst H;go_wp2_with(first|(go_at_call 136;refine(GU (AH rfl) E (by omega) hlen).mono ?_;rintro e w'⟨I,k',t,ext',rfl,rest⟩));go_ret;exact⟨I,k',t,ext',rfl,rest⟩
     ·subst H;by_cases C:a.length=1
      ·obtain⟨k,rfl⟩:=JH.1 C;have J:w9.cell? ⟨g,0,none⟩=some (.int .i64 (k:Int)):=by
        have:=E.1.kids.1.cells (g:=g) rfl 0 _ rfl;simpa[Addr.add]using this
       clear m f z C;go_wp2_with fail;go_ret;exact JI (AH rfl) E
      ·have af:((a.length:Int)==1)=false:=by simpa using(by omega:¬(a.length:Int)=1)
       have H1:Hid (a.length≠1):=C;clear m f z C;go_wp2_with(first|(go_at_call 136;refine(GU (AH rfl) E H1.o hlen).mono ?_;rintro e w'⟨I,k',t,ext',rfl,rest⟩));go_ret;exact⟨I,k',t,ext',rfl,rest⟩
    ·have B:=(PS.cur_more hm).1;have ec:=Bd B;have az:(p'.ix:Int)<(p'.s.size:Int):=by omega
     have aA:(0:Int)<=(p'.ix:Int):=by omega
     have aB:(p'.ix:Int)<=60:=by omega
     have U:(0:Int)<=(p'.s[p'.ix].toNat:Int):=by omega
     generalize ag:(p'.s[p'.ix].toNat:Int)=c at*;have K:Cw c:=by rw[<-ec,F];exact d
     have HV:=NU ⟨#[124,41,36]⟩ c true (by decide) ((NT c U).2 K);clear ec O d K F a2 a3 a4 a5 i;go_wp2_with(first|(go_at_call 83;refine(CL b _ _ L.pb).mono ?_;rintro e w2⟨rfl,u,r⟩;obtain⟨c0,h6,h7,f6,f7⟩:=u.main));go_quiet ((go_at_call 109;exact CJ (HV _)));have E:GS .way b A p w nds (.ok (app xs .pnil,p'.gr) p'.ix) ks p' ext u3 (w2.drewN nq):=⟨(L.keep r).keep ((AG [] w2).drewN nq),E0.2⟩;clear c0 h6 h7 f6 f7 HV;generalize w2.drewN nq=w9 at*;obtain⟨a,v⟩:∃a,a=ks:=⟨ks,rfl⟩;rw[<-v]at E;clear v L u r E0;rcases E.1.kids.1.2 with⟨H,e2⟩|⟨g,cap,cur,H,_,m,hle,_,z,f⟩
     ·subst H;go_wp2_with(first|(go_at_call 136;refine(GU (AH rfl) E (by omega) hlen).mono ?_;rintro e w'⟨I,k',t,ext',rfl,rest⟩));go_ret;exact⟨I,k',t,ext',rfl,rest⟩
     ·subst H;by_cases C:a.length=1
      ·obtain⟨k,rfl⟩:=JH.1 C;have J:w9.cell? ⟨g,0,none⟩=some (.int .i64 (k:Int)):=by
        have:=E.1.kids.1.cells (g:=g) rfl 0 _ rfl;simpa[Addr.add]using this
       clear m f z C;go_wp2_with fail;go_ret;exact JI (AH rfl) E
      ·have af:((a.length:Int)==1)=false:=by simpa using(by omega:¬(a.length:Int)=1)
       have H1:Hid (a.length≠1):=C;clear m f z C;go_wp2_with(first|(go_at_call 136;refine(GU (AH rfl) E H1.o hlen).mono ?_;rintro e w'⟨I,k',t,ext',rfl,rest⟩));go_ret;exact⟨I,k',t,ext',rfl,rest⟩
   ·have P:0<=at' p.s p'.ix:=by
     apply Int.not_lt.1;intro hh;exact d (AH hh)
    have hm:Bv p'=true:=by rw[GK,O];simpa using P
    have B:=(PS.cur_more hm).1;have Q:p'.ix<p.s.size:=Ap P;have ec:=Bd B;have az:(p'.ix:Int)<(p'.s.size:Int):=by omega
    have aA:(0:Int)<=(p'.ix:Int):=by omega
    have aB:(p'.ix:Int)<=60:=by omega
    have U:(0:Int)<=(p'.s[p'.ix].toNat:Int):=by omega
    generalize ag:(p'.s[p'.ix].toNat:Int)=c at*;have K:¬Cw c:=by rw[<-ec,F];exact d
    have HV:=NU ⟨#[124,41,36]⟩ c false (by decide) (Bool.eq_false_iff.2 fun e=>K ((NT c U).1 e));have aC:Hid (¬Cw (at' p.s p'.ix)):=d;clear ec O d K F a2 a3 a4 a5 i;go_wp2_with(first|(go_at_call 83;refine(CL b _ _ L.pb).mono ?_;rintro e w2⟨rfl,u,r⟩;obtain⟨c0,h6,h7,f6,f7⟩:=u.main));go_quiet ((go_at_call 109;exact CJ (HV _)));have L2:=(L.keep r).keep ((AG [] w2).drewN nq);have aD:=L.pb;have aE:=L.pb;clear c0 h6 h7 f6 f7 HV ag u r L aD;generalize w2.drewN nq=w9 at*;have R:Fj b (u3.ownBlock.toList++A) p' w9 (nds++ext):=⟨L2.pb,L2.inv,L2.avl',ac,ax,Dp B,by rw[A1.out];simp only[AW];omega,X,by rw[A5.out];exact an⟩;have PC:=RZ n IH b (u3.ownBlock.toList++A) p' w9 (nds++ext) R B (by rw[A1.out];omega);clear R IH;go_wp2_with fail;refine PC.mono ?_;rintro e wA⟨q,k,p2,aG,rfl,hG,hA,ah,M,ai,V,D⟩;have L3:=L2.call ah M D;clear PC ah M D;have W:ks.length<61:=by omega
    have aF:ks.length+1<=maxLen:=by unfold maxLen;omega
    have aj:=Fp;go_wp2_with(first|(at_builtin;refine CC _ rfl _ _ _ rfl 0 3 i0 (.int .i64 0) 1 8 aj ao ap aq ar rfl (by decide) u3 ks.length _ rfl (L3.kids.1.alloc _) ⟨wA.heap.size,0,none⟩ 1 1 [.int .i64 (k:Int)] rfl rfl (cell_one_new _ _ _) (by simp[Value.oneCell']) (by omega) aF (by omega) (by simp) (wA.heap.size+1) (by simp) ?_;intro g cap w1 S N ak hlt));have L4:=L3.snoc k W S N ak;clear S N ak hlt aj;go_roundw
    case rel=>exact G1.next L4 AF.out AB.out au Y aw ae.o ad.o ay.o aC.o hG hA ai V Q X
    case measure=>exact G1.mu aE L4.pb AF.out AB.out hb hs hG hA Q
  ·obtain⟨F,a2,a3,a4,a5⟩:=hF;have hm:Bv p'=false:=by rw[GK,JG (by rw[i];omega)];decide
   have AF:Hid (D4 p (.bad j) p'):=⟨F,a2,a3,a4,a5,i⟩;clear F a2 a3 a4 a5 i;go_wp2_with(first|(go_at_call 83;refine(CL b _ _ L.pb).mono ?_;rintro e w2⟨rfl,u,r⟩));go_quiet (fail);have E:GS .way b A p w nds (.bad j) ks p' ext u3 (w2.drewN nq):=⟨(L.keep r).keep ((AG [] w2).drewN nq),AF.out,hG,by simp only[Br,B8];omega,by simp⟩;have hlen:(nds++ext).length<=1000:=by simp only[AW];omega
   generalize w2.drewN nq=w9 at*;obtain⟨a,v⟩:∃a,a=ks:=⟨ks,rfl⟩;rw[<-v]at E;clear v L u r hG;rcases E.1.kids.1.2 with⟨H,e2⟩|⟨g,cap,cur,H,_,m,hle,_,z,f⟩
   ·subst H;go_wp2_with(first|(go_at_call 136;refine(GU (AH rfl) E (by omega) hlen).mono ?_;rintro e w'⟨I,k',t,ext',rfl,rest⟩));go_ret;exact⟨I,k',t,ext',rfl,rest⟩
   ·subst H;by_cases C:a.length=1
    ·obtain⟨k,rfl⟩:=JH.1 C;have J:w9.cell? ⟨g,0,none⟩=some (.int .i64 (k:Int)):=by
      have:=E.1.kids.1.cells (g:=g) rfl 0 _ rfl;simpa[Addr.add]using this
     clear m f z C;go_wp2_with fail;go_ret;exact JI (AH rfl) E
    ·have af:((a.length:Int)==1)=false:=by simpa using(by omega:¬(a.length:Int)=1)
     have H1:Hid (a.length≠1):=C;clear m f z C;go_wp2_with(first|(go_at_call 136;refine(GU (AH rfl) E H1.o hlen).mono ?_;rintro e w'⟨I,k',t,ext',rfl,rest⟩));go_ret;exact⟨I,k',t,ext',rfl,rest⟩
def IJ(u:UInt8):Value:=.int .u8 (u.toNat:Int)
def BY(w:World)(base:Nat)(v:Value)(word:List UInt8):Prop:=w.ownsRow base 5 1 v word.length (word.map IJ)
theorem Ra(l:List UInt8)(s:ByteArray):(l.map fun u=>(u.toNat:Int)).foldl (fun r n=>r.push (UInt8.ofNat n.toNat)) s=s++AJ l:=by
 induction l generalizing s with
 |nil=>
  apply ByteArray.ext;simp[AJ,ByteArray.data_append]
 |cons u l ih=>
  rw[D6,List.foldl_cons,ih];apply ByteArray.ext;apply Array.ext';simp[AJ,ByteArray.data_append,ByteArray.data_push]
theorem K5(w:World)(base:Nat)(v:Value)(word:List UInt8)(h:BY w base v word):(convert 64 9 v).run Tryz.prog w=.ok (.string (AJ word)) w:=by
 have j:=h.1;rcases h.2 with⟨rfl,b⟩|⟨g,cap,cur,rfl,hb,c,d,e,f,i⟩
 ·have:word=[]:=FK.1 b;subst this;rw[run_convert_bytes_string w _ _ 5 none 0 0 Tryz.underlying64 Tryz.underlying5 GQ];rfl
 ·rw[run_convert_bytes_string w _ _ 5 _ _ _ Tryz.underlying64 Tryz.underlying5 GQ];have a:(loadCells ⟨g,0,none⟩ word.length).run Tryz.prog w=.ok ((word.map fun u=>(u.toNat:Int)).map (Value.int .u8)).toArray w:=by
   have:=run_loadCells_list (P:=Tryz.prog) w ⟨g,0,none⟩ (word.map IJ) (Fo h rfl);rw[Ce]at this;rw[this,List.map_map];rfl
  rw[run_bytesToString w _ _ _ _ a,Ra];congr 2
theorem BY.keep{S:List Nat}(h:BY w base v word)(a:AA S w w')(b:∀g,v.ownBlock=some g->g∉S):BY w' base v word:=Ep h a b
theorem Rb(w:World)(u:UInt8):(convert 64 9 (.slice (some ⟨w.heap.size,0,none⟩) 1 1)).run Tryz.prog (w.alloc (.cells #[.int .u8 (u.toNat:Int)] 5))=.ok (.string (AJ [u])) (w.alloc (.cells #[.int .u8 (u.toNat:Int)] 5)):=
 K5 _ 0 _ [u] ⟨by simp,AE ⟨_,1,#[.int .u8 (u.toNat:Int)],rfl,AY _,AS w _,AP _,by decide,rfl,rfl⟩⟩
theorem Eb(a b:List UInt8):AJ a++AJ b=AJ (a++b):=by
 apply ByteArray.ext;simp[AJ,ByteArray.data_append]
theorem Rc(u:UInt8)(nb base:Nat)(v:Value)(word:List UInt8)(hw:word.length<=10)(w:World)(j:w.cell? ⟨nb,0,none⟩=some v)(c:BY w base v word)(f:GN w):Calls Tryz.prog 298 #[.int .u8 (u.toNat:Int),.pointer (some ⟨nb,0,none⟩)] w fun e w'=>e=.returned (.bool (DA word (u.toNat:Int)))∧AA [] w w':=by
 have g:=K5 w base v word c;have h:=fun w=>Rb w u
 have i:¬9223372036854775807<(AJ word).size+(AJ [u]).size:=by rw[Bp,Bp];simp;omega
 have a:=Eb word [u];have b:GN (w.alloc (.cells #[.int .u8 (u.toNat:Int)] 5)):=f.keep ((AG [] w).alloc _) (by simp);have d:=RC (word++[u]) (by simp;omega) _ b;rw[RE,<-a]at d;clear a b;go_enter Tryz.func298,Tryz.ntmps298;go_wp2_with(go_at_call 299;refine d.mono ?_;rintro e w'⟨rfl,rfl⟩);go_ret;exact⟨rfl,(AG [] w).alloc _⟩
theorem Rd(args:Array Value)(w:World):(callFunc 298 args).run Tryz.prog w=.ok (.enter 298 args) w:=by kernel_rfl
theorem Re(u:UInt8)(nb base:Nat)(v:Value)(word:List UInt8)(hw:word.length<=10)(w:World)(c:w.cell? ⟨nb,0,none⟩=some v)(a:BY w base v word)(d:GN w):DY 298 #[.pointer (some ⟨nb,0,none⟩)] (u.toNat:Int) (DA word (u.toNat:Int)) w:=
 ⟨Rd,fun w1 b=>Rc u nb base v word hw w1 (Ac b c) (a.keep b (by simp)) (d.keep b (by simp))⟩
def NY:Value->Nat
 | .slice _ n _=>n
 |_=>0
def K6(w:World)(nb:Nat):Nat:=6-(match w.cell? ⟨nb,0,none⟩with|some v=>NY v|none=>0)
theorem BY.len(h:BY w base v word):NY v=word.length:=by
 rcases h.2 with⟨rfl,a⟩|⟨g,cap,cur,rfl,_⟩
 ·exact a.symm
 ·rfl
theorem NZ{nb:Nat}(a:w.cell? ⟨nb,0,none⟩=some v)(h:BY w base v word):K6 w nb=6-word.length:=by
 unfold K6;rw[a];simp only[h.len]
structure CN (p : QS) (b nb : Nat) (w wr : World) (v : Value) (word : List UInt8) (i : Nat) : Prop where
 qb : QB wr b { p with ix := i }
 cell : wr.cell? ⟨nb, 0, none⟩ = some v
 fro : wr.frozen? ⟨nb, 0, none⟩ = false
 bytes : BY wr (nb + 1) v word
 gn : GN wr
 keep : AA [b] w wr
 ile : i <= p.s.size
 wl : word.length <= 5
 w5 : word.length = 5 -> word ∈ names
 spec : BR p.s 6 [] p.ix = BR p.s (6 - word.length) word i
def Rf(b:Nat)(p:QS)(w:World)(r:R Nat)(e:Ending)(w':World):Prop:=
 AA [b] w w'∧match r with
  | .ok k j=>e=.returned (.string (AJ (nm k)))∧QB w' b {p with ix:=j}
  | .bad j=>e=fault j
theorem AA.fresh{S S':List Nat}{a:World}(h:AA S a w)(k:AA S' w w')(d:∀x,x∈S'->x∈S∨a.heap.size<=x):AA S a w':=
 ⟨k.os.trans h.os,k.tape.trans h.tape,k.output.trans h.output,BG h.size k.size,fun j b c=>(k.block j (BL b h.size) (fun hm=>(d j hm).elim c (fun e=>Nat.lt_irrefl _ (BL b e)))).trans (h.block j b c)⟩
theorem AA.ofGrown{w w':World}{v:Value}(h:w.grownBy w' v.ownBlock):AA v.ownBlock.toList w w':=
 ⟨h.os,h.tape,h.output,h.size,fun j b a=>h.block j b (by intro e;apply a;rw[<-e];simp)⟩
theorem CN.next{p:QS}{nb:Nat}{w3 f:World}{i g cap:Nat}{u:UInt8}(A:AA [b] w w3)(B:QB w3 b {p with ix:=i+1})(r:GN w3)(t:BY w3 (nb+1) v word)(l:w3.cell? ⟨nb,0,none⟩=some v)(C:b<nb)(D:6<nb)(hw:w.heap.size=nb)(d:f.ownsRow (nb+1) 5 1 (.slice (some ⟨g,0,none⟩) (word.length+1) cap) (word.length+1) (word.map IJ++[IJ u]))(h:(w3.alloc (.cells #[IJ u] 5)).grownBy f v.ownBlock)(y:f.frozen? ⟨nb,0,none⟩=false)(m:i<p.s.size)(E:word.length<=4)(F:(word++[u]).length=5->word++[u]∈names)(z:BR p.s 6 [] p.ix=BR p.s (5-word.length) (word++[u]) (i+1)):CN p b nb w (f.setCell ⟨nb,0,none⟩ (.slice (some ⟨g,0,none⟩) (word.length+1) cap)) (.slice (some ⟨g,0,none⟩) (word.length+1) cap) (word++[u]) (i+1):=by
 have e:=A3 t;have n:=BV w3 _ l;have G:=(A3 d g rfl);have o:AA v.ownBlock.toList w3 f:=((AG _ w3).alloc (.cells #[IJ u] 5)).trans (AA.ofGrown h);have j:AA (nb::v.ownBlock.toList) w3 (f.setCell ⟨nb,0,none⟩ (.slice (some ⟨g,0,none⟩) (word.length+1) cap)):=(o.mono (by intro x k;exact II _ k)).setCell (by simp) _;have c:∀x,x<=nb->x∉v.ownBlock.toList:=by
  intro x k hm;rw[Ay]at hm;have:=(e x hm).1;omega
 have q:f.cell? ⟨nb,0,none⟩=some v:=(Ad (o.block nb n (c nb (AP _)))).trans l;refine⟨B.keep j ?_,?_,?_,?_,r.keep j ?_,A.fresh j ?_,m,by simp;omega,F,?_⟩
 ·simp only[Az,not_or];exact⟨by omega,c b (by omega)⟩
 ·exact Ea _ _ _ q
 ·rw[World.frozen?_setCell];exact y
 ·have:=World.ownsRow.setOther d (a:=⟨nb,0,none⟩) (by simp[Value.ownBlock];omega) (.slice (some ⟨g,0,none⟩) (word.length+1) cap);unfold BY;rw[AW,Fq];exact this
 ·simp only[Az,not_or];exact⟨by omega,c _ (by omega)⟩
 ·intro x k
  right
  rcases Az.1 k with rfl|k
  ·omega
  ·rw[Ay]at k;have:=(e x k).1;omega
 ·rw[z,AW,CK];congr 1;omega
theorem Rg(h:word∈names):∃k,k<7∧nm k=word∧∀j,j<k->nm j≠word:=by
 have key:∀k j:Fin 7,nm k=nm j->k=j:=by decide
 obtain⟨k,b,rfl⟩:=GJ.1 h;have a:k<7:=by rw[I2]at b;exact b
 refine⟨k,a,FF a,fun j c e=>?_⟩;have:=key ⟨k,a⟩ ⟨j,by omega⟩ ((FF a).trans e.symm);have:=B4 Fin.val this;simp at this;omega
theorem Tryz.infoByte:(Tryz.prog.info? 5).map (fun i=>(i.zero,i.size,i.bytes))=some (some (.int .u8 0),1,1):=by kernel_rfl
theorem Rh(h:AA [b] w w'){a:Addr}(hb:a.block≠b)(c:w.cell? a=some v)(d:w.frozen? a=false):w'.frozen? a=false:=
 (Fm (h.block a.block (BV w a c) (by simpa using hb))).trans d
theorem Ri(b:Nat)(p:QS)(w:World)(hp:QB w b p)(hs:p.s.size<=60)(hle:p.ix<=p.s.size)(hg:GN w)(ad:b≠6):Calls Tryz.prog 289 #[.pointer (some ⟨b,0,none⟩)] w (Rf b p w (BR p.s 6 [] p.ix)):=by
 obtain⟨i0,G,H,I,J⟩:=A2 Tryz.infoByte;have ae:∀(fn:Fn)(first cap:Array Value)(w:World),(Instr.makeFunc fn first cap).run Tryz.prog w=.ok (.func fn first cap) w:=fun _ _ _ _=>rfl
 have hbl:=hp.lt;have K:=hg.lt;go_enter Tryz.func289,Tryz.ntmps289;go_wp2_with fail;have C0:CN p b w.heap.size w (w.alloc (.cells #[.slice none 0 0] 64)) (.slice none 0 0) [] p.ix:=
  ⟨hp.keep ((AG [] w).alloc _) (by simp),by simp,by simp,FH _ _ _ _,hg.keep ((AG [] w).alloc _) (by simp),(AG [b] w).alloc _,hle,by simp,by simp,rfl⟩
 have z:w.heap.size≠b:=by omega
 have ab:w.heap.size<(w.alloc (.cells #[.slice none 0 0] 64)).heap.size:=by simp
 generalize A:w.heap.size=nb at*;generalize(w.alloc (.cells #[.slice none 0 0] 64))=W at*;go_loopw [4] (fun _ wr=>∃v word i,CN p b nb w wr v word i) (fun _ wr=>K6 wr nb)
 case atStart=>exact⟨_,_,_,C0⟩
 case round=>
  clear C0;obtain⟨v,word,i,C⟩:=hrel;have L:=K5 _ _ _ _ C.bytes;have hc:=C.cell;have hf:=C.fro;by_cases hm:word∈names
  ·have x:=M2 word _ C.gn;rw[BU hm]at x;go_wp2_with(go_at_call 297;refine x.mono ?_;rintro e w'⟨rfl,rfl⟩);go_ret;obtain⟨k,B,d⟩:∃k,k<7∧nm k=word∧∀j,j<k->nm j≠word:=Rg hm;have M:BR p.s 6 [] p.ix=.ok k i:=by
    rw[C.spec,show 6-word.length=1 from by rw[<-d.1,I3 B],BR,Mm B d.2 d.1]
   refine⟨C.keep,?_⟩;rw[M];exact⟨by rw[d.1];rfl,C.qb⟩
  ·have x:=M2 word _ C.gn;rw[BS hm]at x;have D:word.length<=4:=by
    have:=C.wl;have h5:=C.w5;by_cases h:word.length=5
    ·exact absurd (h5 h) hm
    ·omega
   have N:Hid (BR p.s 6 [] p.ix=if DA word (at' p.s i)then BR p.s (5-word.length) (word++[p.s.get! i]) (i+1)else .bad i):=by
    show BR p.s 6 [] p.ix=_;rw[C.spec,show 6-word.length=(5-word.length)+1 from by omega,BR,Kx (by intro j hj h;exact hm (by rw[<-h];exact Kw hj))]
   clear hm;go_wp2_with(go_at_call 297;refine x.mono ?_;rintro e w'⟨rfl,rfl⟩);have l:0<=at' p.s i->DY 298 #[.pointer (some ⟨nb,0,none⟩)] (at' p.s i) (DA word (at' p.s i)) w':=by
    intro O;have hlt:i<p.s.size:=Ap O;rw[Bd hlt];exact Re _ nb (nb+1) v word (by omega) _ C.cell C.bytes C.gn
   refine(H6 b {p with ix:=i} 298 _ (DA word (at' p.s i)) _ C.qb hs C.ile l (if 0<=at' p.s i∧DA word (at' p.s i)=true then .ok (at' p.s i) (i+1)else .bad i) rfl).mono ?_;rintro e w3⟨hk3,f⟩;by_cases y:0<=at' p.s i∧DA word (at' p.s i)=true
   ·rw[AL y]at f;obtain⟨rfl,P⟩:=f;have hlt:i<p.s.size:=Ap y.1;have a:=y.2;have Q:Hid (BR p.s 6 [] p.ix=BR p.s (5-word.length) (word++[p.s.get! i]) (i+1)):=by show BR p.s 6 [] p.ix=_;rw[N.o,AL a]
    have R:Hid ((word++[p.s.get! i]).length=5->word++[p.s.get! i]∈names):=Mz a D hlt;have q:at' p.s i=((p.s.get! i).toNat:Int):=by rw[Bd hlt,get!_eq hlt]
    have r:=FG hk3 z C.cell;have S:=Rh hk3 z C.cell C.fro;have m:=A3 C.bytes;have t:BY w3 (nb+1) v word:=C.bytes.keep hk3 (by intro g e;have:=(m g e).1;simp;omega);have T:=A3 t;have U:=C.gn.keep hk3 (by simp;omega);have V:word.length+1<=maxLen:=by unfold maxLen;omega
    have X:=Tryz.underlying64;have E:=BV w3 _ r;have Y:nb<w3.heap.size:=E;have n:v.ownBlock≠some nb:=by intro e;have:=(m nb e).1;omega
    have hk4:=C.keep.trans hk3;have Z:=NZ C.cell C.bytes;clear y a N L hc hf l C x;rw[q];generalize p.s.get! i=u at*;go_wp2_with(first|(at_builtin;refine CC _ rfl _ _ _ rfl (nb+1) 5 i0 (.int .u8 0) 1 1 X G H I J rfl (by decide) v word.length _ rfl (World.ownsRow.alloc t _) ⟨w3.heap.size,0,none⟩ 1 1 [.int .u8 (u.toNat:Int)] rfl rfl (cell_one_new _ _ _) (by simp[Value.oneCell']) (by omega) V (by omega) (by simp;omega) (w3.heap.size+1) (by simp) ?_;intro g cap w4 F c af ac;have aa:w4.frozen? ⟨nb,0,none⟩=false:=(c.frozen_far ⟨nb,0,none⟩ (by simp;omega) (Ne.symm n)).trans ((Fi w3 _ ⟨nb,0,none⟩ (by simp;omega)).trans S);have ag:w4.cell? ⟨nb,0,none⟩=some v:=(c.cell_far ⟨nb,0,none⟩ (by simp;omega) (Ne.symm n)).trans ((World.cell?_alloc_old w3 _ ⟨nb,0,none⟩ (by simp;omega)).trans r)));have C5:=CN.next hk4 P U t r hbl K A F c aa hlt D R.o Q.o;go_roundw
    case rel=>exact⟨_,_,_,C5⟩
    case measure=>rw[Z,NZ C5.cell C5.bytes,AW];simp;omega
   ·rw[AK y]at f;subst f;have M:BR p.s 6 [] p.ix=.bad i:=by
     rw[N.o,AK];intro a;apply y;refine⟨?_,a⟩;by_cases O:i<p.s.size
     ·rw[Bd O];omega
     ·rw[Cu (by omega),My]at a;cases a
    simp only[fault];exact⟨rfl,C.keep.trans hk3,by rw[M];rfl⟩
def HQ(w:World)(h:Nat)(f:Nat->Bool):Prop:=w.heap[h]? =some (.cells (AZ f) 206 (0,0))
theorem HQ.lt{f:Nat->Bool}(H:HQ w h f):h<w.heap.size:=(AN.1 H).1
theorem HQ.keep{f:Nat->Bool}{S:List Nat}(H:HQ w h f)(a:AA S w w')(hb:h∉S):HQ w' h f:=(a.block h H.lt hb).trans H
theorem HQ.cell{f:Nat->Bool}(H:HQ w h f)(a:k<256):w.cell? ⟨h,k,none⟩=some (.bool (f k)):=by
 unfold HQ at H;simp[World.cell?,H,Ff f a]
theorem HQ.frozen{f:Nat->Bool}(H:HQ w h f)(k:Nat):w.frozen? ⟨h,k,none⟩=false:=by
 unfold HQ at H;simp[World.frozen?,H]
theorem HQ.set{f:Nat->Bool}(H:HQ w h f)(k:Nat)(v:Bool):HQ (w.setCell ⟨h,k,none⟩ (.bool v)) h (fun n=>if n=k then v else f n):=by
 unfold HQ at*;simp[World.setCell,Aq,H,Mj]
theorem Na{f g:Nat->Bool}(e:∀n,n<256->f n=g n):AZ f=AZ g:=by
 apply Array.ext_getElem?;intro i;by_cases hi:i<256
 ·rw[Ff _ hi,Ff _ hi,e i hi]
 ·rw[Hy (by rw[Bo];omega),Hy (by rw[Bo];omega)]
theorem HQ.congr{f g:Nat->Bool}(H:HQ w h f)(e:∀n,n<256->f n=g n):HQ w h g:=by
 unfold HQ at*;rw[H,Na e]
def Ch(a l:Int)(n:Nat):Bool:=decide (a<=n)&&decide ((n:Int)<=l)
theorem Dd(h:Nat)(f:Nat->Bool)(a l:Int)(w:World)(j:HQ w h f)(k:0<=a)(o:a<=255)(p:0<=l)(r:l<=255):Calls Tryz.prog 291 #[.pointer (some ⟨h,0,none⟩),.int .u8 a,.int .u8 l] w fun e w'=>e=.returned (.tuple #[])∧HQ w' h (fun n=>f n||Ch a l n)∧AA [h] w w':=by
 obtain⟨A,rfl⟩:∃A:Nat,a=A:=⟨a.toNat,by omega⟩;go_enter Tryz.func291,Tryz.ntmps291;go_wp2;go_loopw [6] (fun q wr=>∃m:Nat,A<=m∧m<=256∧((m:Int)<=l+1∨m=A)∧q=.int .i64 m∧HQ wr h (fun n=>f n||Ch A ((m:Int)-1) n)∧AA [h] w wr) (fun q _=>256-(intOf q).toNat)
 case atStart=>exact⟨A,AP _,by omega,AE rfl,rfl,j.congr (fun n g=>by have:Ch A ((A:Int)-1) n=false:=by{unfold Ch;by_cases c:(A:Int)<=n;{rw[BS (show¬(n:Int)<=(A:Int)-1 by omega),Bool.and_false]};{rw[BS c,Bool.false_and]}};rw[this,Bool.or_false]),AG _ _⟩
 case round=>
  obtain⟨m,s,hm,t,rfl,d,i⟩:=hrel;by_cases hlt:(m:Int)<=l
  ·have b:m<256:=by omega
   have u:=d.cell b;have v:=d.frozen m;have x:(0:Int)<=(m:Int):=by omega
   have y:(m:Int)<=255:=by omega
   have z:HQ (wr.setCell ⟨h,m,none⟩ (.bool true)) h (fun n=>f n||Ch A (((m+1:Nat):Int)-1) n):=(d.set m true).congr fun n g=>by
    unfold Ch;by_cases e:n=m
    ·subst e;rw[AL rfl,BU (show(A:Int)<=n by omega),BU (show(n:Int)<=((n+1:Nat):Int)-1 by omega)];simp
    ·rw[AK e];congr 2;rw[decide_eq_decide];omega
   go_wp2;go_roundw
   case rel=>exact⟨m+1,by omega,by omega,AH (by omega),by go_num,z,i.setCell (by simp) _⟩
   case measure=>simp[intOf];omega
  ·go_wp2;go_end0;refine⟨rfl,d.congr fun n g=>?_,i⟩;unfold Ch;congr 1;by_cases c:(A:Int)<=n
   ·rw[BU c];congr 1;rw[decide_eq_decide];omega
   ·rw[BS c,Bool.false_and,Bool.false_and]
theorem A4(a b:List UInt8):((AJ a).toList==b)=decide (a=b):=by
 have:=I4 a b;rwa[DW (AJ b),Hz]at this
theorem Rj(h:Nat)(f:Nat->Bool)(w:World)(c:HQ w h f):Calls Tryz.prog 288 #[.pointer (some ⟨h,0,none⟩),.string (AJ (nm 0))] w fun e w'=>e=.returned (.tuple #[])∧HQ w' h (fun n=>f n||BC 0 n)∧AA [h] w w':=by
 have g:((AJ (nm 0)).toList==[97,108,110,117,109])=false:=(A4 _ _).trans (by decide);have i:((AJ (nm 0)).toList==[97,108,112,104,97])=false:=(A4 _ _).trans (by decide);have j:((AJ (nm 0)).toList==[108,111,119,101,114])=false:=(A4 _ _).trans (by decide);have k:((AJ (nm 0)).toList==[117,112,112,101,114])=false:=(A4 _ _).trans (by decide);have l:((AJ (nm 0)).toList==[100,105,103,105,116])=true:=(A4 _ _).trans (by decide);have o:((AJ (nm 0)).toList==[115,112,97,99,101])=false:=(A4 _ _).trans (by decide);have p:((AJ (nm 0)).toList==[112,117,110,99,116])=false:=(A4 _ _).trans (by decide);generalize AJ (nm 0)=S at*;go_enter Tryz.func288,Tryz.ntmps288;go_wp2_with(first|(go_at_call 291;refine(Dd h _ 48 57 _ c (by omega) (by omega) (by omega) (by omega)).mono ?_;rintro e w1⟨rfl,a,b⟩));go_end0;refine⟨rfl,a.congr fun n d=>?_,b⟩;have key:∀m:Fin 256,(Ch 48 57 m.val)=BC 0 (m.val:Int):=by decide
 have:=key ⟨n,d⟩;simp only[Bool.or_assoc]at this⊢;rw[this]
theorem Rk(h:Nat)(f:Nat->Bool)(w:World)(c:HQ w h f):Calls Tryz.prog 288 #[.pointer (some ⟨h,0,none⟩),.string (AJ (nm 1))] w fun e w'=>e=.returned (.tuple #[])∧HQ w' h (fun n=>f n||BC 1 n)∧AA [h] w w':=by
 have g:((AJ (nm 1)).toList==[97,108,110,117,109])=false:=(A4 _ _).trans (by decide);have i:((AJ (nm 1)).toList==[97,108,112,104,97])=false:=(A4 _ _).trans (by decide);have j:((AJ (nm 1)).toList==[108,111,119,101,114])=true:=(A4 _ _).trans (by decide);have k:((AJ (nm 1)).toList==[117,112,112,101,114])=false:=(A4 _ _).trans (by decide);have l:((AJ (nm 1)).toList==[100,105,103,105,116])=false:=(A4 _ _).trans (by decide);have o:((AJ (nm 1)).toList==[115,112,97,99,101])=false:=(A4 _ _).trans (by decide);have p:((AJ (nm 1)).toList==[112,117,110,99,116])=false:=(A4 _ _).trans (by decide);generalize AJ (nm 1)=S at*;go_enter Tryz.func288,Tryz.ntmps288;go_wp2_with(first|(go_at_call 291;refine(Dd h _ 97 122 _ c (by omega) (by omega) (by omega) (by omega)).mono ?_;rintro e w1⟨rfl,a,b⟩));go_end0;refine⟨rfl,a.congr fun n d=>?_,b⟩;have key:∀m:Fin 256,(Ch 97 122 m.val)=BC 1 (m.val:Int):=by decide
 have:=key ⟨n,d⟩;simp only[Bool.or_assoc]at this⊢;rw[this]
theorem Rl(h:Nat)(f:Nat->Bool)(w:World)(c:HQ w h f):Calls Tryz.prog 288 #[.pointer (some ⟨h,0,none⟩),.string (AJ (nm 2))] w fun e w'=>e=.returned (.tuple #[])∧HQ w' h (fun n=>f n||BC 2 n)∧AA [h] w w':=by
 have g:((AJ (nm 2)).toList==[97,108,110,117,109])=false:=(A4 _ _).trans (by decide);have i:((AJ (nm 2)).toList==[97,108,112,104,97])=false:=(A4 _ _).trans (by decide);have j:((AJ (nm 2)).toList==[108,111,119,101,114])=false:=(A4 _ _).trans (by decide);have k:((AJ (nm 2)).toList==[117,112,112,101,114])=true:=(A4 _ _).trans (by decide);have l:((AJ (nm 2)).toList==[100,105,103,105,116])=false:=(A4 _ _).trans (by decide);have o:((AJ (nm 2)).toList==[115,112,97,99,101])=false:=(A4 _ _).trans (by decide);have p:((AJ (nm 2)).toList==[112,117,110,99,116])=false:=(A4 _ _).trans (by decide);generalize AJ (nm 2)=S at*;go_enter Tryz.func288,Tryz.ntmps288;go_wp2_with(first|(go_at_call 291;refine(Dd h _ 65 90 _ c (by omega) (by omega) (by omega) (by omega)).mono ?_;rintro e w1⟨rfl,a,b⟩));go_end0;refine⟨rfl,a.congr fun n d=>?_,b⟩;have key:∀m:Fin 256,(Ch 65 90 m.val)=BC 2 (m.val:Int):=by decide
 have:=key ⟨n,d⟩;simp only[Bool.or_assoc]at this⊢;rw[this]
theorem Rm(h:Nat)(f:Nat->Bool)(w:World)(g:HQ w h f):Calls Tryz.prog 288 #[.pointer (some ⟨h,0,none⟩),.string (AJ (nm 3))] w fun e w'=>e=.returned (.tuple #[])∧HQ w' h (fun n=>f n||BC 3 n)∧AA [h] w w':=by
 have j:((AJ (nm 3)).toList==[97,108,110,117,109])=false:=(A4 _ _).trans (by decide);have k:((AJ (nm 3)).toList==[97,108,112,104,97])=true:=(A4 _ _).trans (by decide);have l:((AJ (nm 3)).toList==[108,111,119,101,114])=false:=(A4 _ _).trans (by decide);have o:((AJ (nm 3)).toList==[117,112,112,101,114])=false:=(A4 _ _).trans (by decide);have p:((AJ (nm 3)).toList==[100,105,103,105,116])=false:=(A4 _ _).trans (by decide);have q:((AJ (nm 3)).toList==[115,112,97,99,101])=false:=(A4 _ _).trans (by decide);have r:((AJ (nm 3)).toList==[112,117,110,99,116])=false:=(A4 _ _).trans (by decide);generalize AJ (nm 3)=S at*;go_enter Tryz.func288,Tryz.ntmps288;go_wp2_with(first|(go_at_call 291;refine(Dd h _ 97 122 _ a (by omega) (by omega) (by omega) (by omega)).mono ?_;rintro e w2⟨rfl,b,c⟩)|(go_at_call 291;refine(Dd h _ 65 90 _ g (by omega) (by omega) (by omega) (by omega)).mono ?_;rintro e w1⟨rfl,a,d⟩));go_end0;refine⟨rfl,b.congr fun n i=>?_,(d.trans c)⟩;have key:∀m:Fin 256,(Ch 65 90 m.val||Ch 97 122 m.val)=BC 3 (m.val:Int):=by decide
 have:=key ⟨n,i⟩;simp only[Bool.or_assoc]at this⊢;rw[this]
theorem Rn(h:Nat)(f:Nat->Bool)(w:World)(i:HQ w h f):Calls Tryz.prog 288 #[.pointer (some ⟨h,0,none⟩),.string (AJ (nm 4))] w fun e w'=>e=.returned (.tuple #[])∧HQ w' h (fun n=>f n||BC 4 n)∧AA [h] w w':=by
 have k:((AJ (nm 4)).toList==[97,108,110,117,109])=true:=(A4 _ _).trans (by decide);have l:((AJ (nm 4)).toList==[97,108,112,104,97])=false:=(A4 _ _).trans (by decide);have o:((AJ (nm 4)).toList==[108,111,119,101,114])=false:=(A4 _ _).trans (by decide);have p:((AJ (nm 4)).toList==[117,112,112,101,114])=false:=(A4 _ _).trans (by decide);have q:((AJ (nm 4)).toList==[100,105,103,105,116])=false:=(A4 _ _).trans (by decide);have r:((AJ (nm 4)).toList==[115,112,97,99,101])=false:=(A4 _ _).trans (by decide);have s:((AJ (nm 4)).toList==[112,117,110,99,116])=false:=(A4 _ _).trans (by decide);generalize AJ (nm 4)=S at*;go_enter Tryz.func288,Tryz.ntmps288;go_wp2_with(first|(go_at_call 291;refine(Dd h _ 97 122 _ a (by omega) (by omega) (by omega) (by omega)).mono ?_;rintro e w3⟨rfl,b,hk3⟩)|(go_at_call 291;refine(Dd h _ 65 90 _ c (by omega) (by omega) (by omega) (by omega)).mono ?_;rintro e w2⟨rfl,a,d⟩)|(go_at_call 291;refine(Dd h _ 48 57 _ i (by omega) (by omega) (by omega) (by omega)).mono ?_;rintro e w1⟨rfl,c,g⟩));go_end0;refine⟨rfl,b.congr fun n j=>?_,((g.trans d).trans hk3)⟩;have key:∀m:Fin 256,(Ch 48 57 m.val||Ch 65 90 m.val||Ch 97 122 m.val)=BC 4 (m.val:Int):=by decide
 have:=key ⟨n,j⟩;simp only[Bool.or_assoc]at this⊢;rw[this]
theorem Ro(h:Nat)(f:Nat->Bool)(w:World)(g:HQ w h f):Calls Tryz.prog 288 #[.pointer (some ⟨h,0,none⟩),.string (AJ (nm 5))] w fun e w'=>e=.returned (.tuple #[])∧HQ w' h (fun n=>f n||BC 5 n)∧AA [h] w w':=by
 have j:((AJ (nm 5)).toList==[97,108,110,117,109])=false:=(A4 _ _).trans (by decide);have k:((AJ (nm 5)).toList==[97,108,112,104,97])=false:=(A4 _ _).trans (by decide);have l:((AJ (nm 5)).toList==[108,111,119,101,114])=false:=(A4 _ _).trans (by decide);have o:((AJ (nm 5)).toList==[117,112,112,101,114])=false:=(A4 _ _).trans (by decide);have p:((AJ (nm 5)).toList==[100,105,103,105,116])=false:=(A4 _ _).trans (by decide);have q:((AJ (nm 5)).toList==[115,112,97,99,101])=true:=(A4 _ _).trans (by decide);have r:((AJ (nm 5)).toList==[112,117,110,99,116])=false:=(A4 _ _).trans (by decide);generalize AJ (nm 5)=S at*;go_enter Tryz.func288,Tryz.ntmps288;go_wp2_with(first|(go_at_call 291;refine(Dd h _ 32 32 _ a (by omega) (by omega) (by omega) (by omega)).mono ?_;rintro e w2⟨rfl,b,c⟩)|(go_at_call 291;refine(Dd h _ 9 13 _ g (by omega) (by omega) (by omega) (by omega)).mono ?_;rintro e w1⟨rfl,a,d⟩));go_end0;refine⟨rfl,b.congr fun n i=>?_,(d.trans c)⟩;have key:∀m:Fin 256,(Ch 9 13 m.val||Ch 32 32 m.val)=BC 5 (m.val:Int):=by decide
 have:=key ⟨n,i⟩;simp only[Bool.or_assoc]at this⊢;rw[this]
theorem Rp(h:Nat)(f:Nat->Bool)(w:World)(j:HQ w h f):Calls Tryz.prog 288 #[.pointer (some ⟨h,0,none⟩),.string (AJ (nm 6))] w fun e w'=>e=.returned (.tuple #[])∧HQ w' h (fun n=>f n||BC 6 n)∧AA [h] w w':=by
 have l:((AJ (nm 6)).toList==[97,108,110,117,109])=false:=(A4 _ _).trans (by decide);have o:((AJ (nm 6)).toList==[97,108,112,104,97])=false:=(A4 _ _).trans (by decide);have p:((AJ (nm 6)).toList==[108,111,119,101,114])=false:=(A4 _ _).trans (by decide);have q:((AJ (nm 6)).toList==[117,112,112,101,114])=false:=(A4 _ _).trans (by decide);have r:((AJ (nm 6)).toList==[100,105,103,105,116])=false:=(A4 _ _).trans (by decide);have s:((AJ (nm 6)).toList==[115,112,97,99,101])=false:=(A4 _ _).trans (by decide);have t:((AJ (nm 6)).toList==[112,117,110,99,116])=true:=(A4 _ _).trans (by decide);generalize AJ (nm 6)=S at*;go_enter Tryz.func288,Tryz.ntmps288;go_wp2_with(first|(go_at_call 291;refine(Dd h _ 123 126 _ a (by omega) (by omega) (by omega) (by omega)).mono ?_;rintro e u⟨rfl,b,hk4⟩)|(go_at_call 291;refine(Dd h _ 91 96 _ c (by omega) (by omega) (by omega) (by omega)).mono ?_;rintro e w3⟨rfl,a,hk3⟩)|(go_at_call 291;refine(Dd h _ 58 64 _ d (by omega) (by omega) (by omega) (by omega)).mono ?_;rintro e w2⟨rfl,c,g⟩)|(go_at_call 291;refine(Dd h _ 33 47 _ j (by omega) (by omega) (by omega) (by omega)).mono ?_;rintro e w1⟨rfl,d,i⟩));go_end0;refine⟨rfl,b.congr fun n k=>?_,(((i.trans g).trans hk3).trans hk4)⟩;have key:∀m:Fin 256,(Ch 33 47 m.val||Ch 58 64 m.val||Ch 91 96 m.val||Ch 123 126 m.val)=BC 6 (m.val:Int):=by decide
 have:=key ⟨n,k⟩;simp only[Bool.or_assoc]at this⊢;rw[this]
theorem Rq(h k:Nat)(b:k<7)(f:Nat->Bool)(w:World)(a:HQ w h f):Calls Tryz.prog 288 #[.pointer (some ⟨h,0,none⟩),.string (AJ (nm k))] w fun e w'=>e=.returned (.tuple #[])∧HQ w' h (fun n=>f n||BC k n)∧AA [h] w w':=
 match k,b with
 |0,_=>Rj h f w a
 |1,_=>Rk h f w a
 |2,_=>Rl h f w a
 |3,_=>Rm h f w a
 |4,_=>Rn h f w a
 |5,_=>Ro h f w a
 |6,_=>Rp h f w a
def De:=@AA.ofGrown
