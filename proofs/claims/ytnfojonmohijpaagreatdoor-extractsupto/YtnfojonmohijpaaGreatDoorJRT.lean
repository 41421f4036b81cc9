/-
  DERIVED. The contract of the reference's 'ways', by induction on what is left. Conditions: the pattern is at most 60 bytes long, nothing was wrong so far, the nodes lie as they should.
-/
import Derived.Test.YtnfojonmohijpaaGreatDoorJPX
import Derived.Deep.MidRow
set_option linter.all false
set_option maxRecDepth 100000
set_option maxHeartbeats 8000000
namespace Go.Proofs.YtnfojonmohijpaaGreatDoor
open Go.RowKit
variable{b cap g n:Nat}{A S:List Nat}{p p' p2:PS}{w w1 w2:World}{nds:List Nd}{lv:Value}
def KJ:=@List.eq_nil_of_length_eq_zero
def Ga:=@World.ownsRow.form
def IQ:=@Tryz.underlying141
def Gb:=@Tryz.underlying98
def Ai:=@Option.some.injEq
def D9:=@wpList_make_full
def ED:=@wpList_load_mid
theorem CO.first{ext:List Nd}(k:Nat)(f:PB w1 b p')(hi:Bg w1 b A p'.nodes (nds++ext))(i:Bq b p.nodes p'.nodes w w1)(j:∀x,x∈A->x<w.heap.size):CO b A p w nds (.slice (some ⟨w1.heap.size,0,none⟩) 1 1) [k] p' ext (w1.alloc (.cells #[.int .i64 (k:Int)] 3)):=by
 have c:=(AG [] w1).alloc (.cells #[.int .i64 (k:Int)] 3);have l:=i.1.size;have d:∀x,x∈A->x<w1.heap.size:=fun x a=>BL (j x a) l
 refine⟨f.keep c (by simp),M9 k _ (hi.av f.lt d),?_,i.step c EL,?_,by simp,j⟩
 ·refine(hi.less (A':=[w1.heap.size]++A) ?_).keep c EL;intro x a;simp only[Bb,Dc]at a;rcases a with rfl|h
  ·exact AE (AP _)
  ·exact AH h
 ·intro g e;have:g=w1.heap.size:=by simpa[Value.ownBlock]using e.symm
  omega
theorem CO.pbk{ks:List Nat}{ext:List Nd}{wr:World}(L:CO b A p w nds lv ks p' ext wr)(e:PB w2 b p2)(a:AA [b] wr w2)(c:p2.nodes=p'.nodes):CO b A p w nds lv ks p2 ext w2:=by
 refine⟨e,?_,by rw[c];exact L.inv.keep a CM,by rw[c];exact L.grow.step a (by simp),L.fresh,L.few,L.avl⟩;rw[c];refine L.kids.step a ?_ (fun _ _ h=>h);intro x _ d;simp at d;simp[Bf,d]
def Fz(b:Nat)(A:List Nat)(p:PS)(w:World)(nds:List Nd)(k0:Nat)(lv:Value)(wr:World):Prop:=
 ∃tl p' ext,CO b A p w nds lv (k0::tl) p' ext wr∧Gz p p'∧
  ((p'.bad=p.bad∧p.ix<=p'.ix∧p'.ix<=p.s.size∧p'.gr<=9∧ext.length<=4*(p'.ix-p.ix)+1∧tl.length<=p'.ix-p.ix∧∃xs x,Fl (nds++ext) (xs++[x]) (k0::tl)∧(at' p.s p'.ix≠124->G p.s .ways p.deep p.gr p.ix (.ok (DM xs (.wone x),p'.gr) p'.ix))∧(at' p.s p'.ix=124->∀q,G p.s .ways p.deep p'.gr (p'.ix+1) q->G p.s .ways p.deep p.gr p.ix (q.map fun y=>(DM (xs++[x]) y.1,y.2))))∨(∃j:Nat,p'.bad=(j:Int)∧ext.length<=4*(p.s.size-p.ix)+1∧G p.s .ways p.deep p.gr p.ix (.bad j)))
theorem Sr{xs:List AD}{x:AD}{ks:List Nat}(h:Fl nds (xs++[x]) ks):rep nds (DM xs (.wone x)) ks:=by
 induction xs generalizing ks with
 |nil=>
  match ks,h with
  |[k],h=>obtain⟨⟨lp,a,b⟩,_⟩:=h;exact⟨k,lp,rfl,a,b⟩
 |cons z zs ih=>
  match ks,h with
  |k::ks,h=>obtain⟨⟨lp,a,b⟩,c⟩:=h;exact⟨k,lp,ks,rfl,⟨a,b⟩,ih c⟩
theorem Fz.start{k:Nat}{ext:List Nd}{q:R (AD×Nat)}(L:CO b A p w nds lv [k] p' ext w1)(e:G p.s .way p.deep p.gr p.ix q)(m:D4 p q p')(c:ext.length+CU .way<=4*(Br p.s q-p.ix)+B8 .way)(d:∀x g j,q=.ok (x,g) j->C1 (nds++ext) .way x k)(f:p.ix<=p.s.size)(i:p.gr<=9):Fz b A p w nds k lv w1:=by
 obtain⟨n,a2,a3,a4,a5,l⟩:=m;refine⟨[],p',ext,L,⟨n,a2,a3,a4,a5⟩,?_⟩;cases q with
 |bad j=>right;exact⟨j,l,by simpa[Br,CU,B8]using c,.wbad _ _ _ _ e⟩
 |ok o j=>
  obtain⟨x,g1⟩:=o;obtain⟨r,t,u⟩:=l;have a:=e.okb x g1 j rfl
  left
  rw[r,t];refine⟨u,a.1,a.2.1 f,a.2.2.2.2 i,by simpa[Br,CU,B8]using c,by simp,[],x,⟨d x g1 j rfl,trivial⟩,fun h=> .one _ _ _ _ _ _ e h,fun h q v=>?_⟩;have:=G.more _ _ _ _ _ _ _ e h v;exact this
theorem Fz.next{k0 k:Nat}{tl:List Nat}{p1:PS}{ext a:List Nd}{xs:List AD}{x:AD}{q:R (AD×Nat)}(L:CO b A p w nds lv ((k0::tl)++[k]) p2 (ext++a) w1)(D:Gz p p')(h:p'.bad=p.bad)(r:p1={p' with ix:=p'.ix+1})(E:p.ix<=p'.ix)(F:ext.length<=4*(p'.ix-p.ix)+1)(H:tl.length<=p'.ix-p.ix)(t:Fl (nds++ext) (xs++[x]) (k0::tl))(c:at' p.s p'.ix=124)(e:at' p.s p'.ix=124->∀q,G p.s .ways p.deep p'.gr (p'.ix+1) q->G p.s .ways p.deep p.gr p.ix (q.map fun y=>(DM (xs++[x]) y.1,y.2)))(I:G p1.s .way p1.deep p1.gr p1.ix q)(J:D4 p1 q p2)(m:a.length+CU .way<=4*(Br p1.s q-p1.ix)+B8 .way)(n:∀x g j,q=.ok (x,g) j->C1 (nds++ext++a) .way x k)(u:p'.gr<=9):Fz b A p w nds k0 lv w1:=by
 subst r;obtain⟨f1,f2,f3,f4,f5⟩:=D;obtain⟨K,a2,a3,a4,a5,C⟩:=J;have d:G p.s .way p.deep p'.gr (p'.ix+1) q:=by rw[<-f1,<-f5];exact I
 have o:a.length+0<=4*(Br p.s q-(p'.ix+1))+1:=by rw[<-f1];exact m
 have hlt:=Ap (s:=p.s) (i:=p'.ix) (by omega);refine⟨tl++[k],p2,ext++a,L,⟨K.trans f1,a2.trans f2,a3.trans f3,a4.trans f4,a5.trans f5⟩,?_⟩;cases q with
 |bad j=>
  right
  refine⟨j,C,?_,e c _ (.wbad _ _ _ _ d)⟩;simp only[Br]at o;simp only[AW];omega
 |ok M j=>
  obtain⟨y,g1⟩:=M;obtain⟨N,O,P⟩:=C;have f:=d.okb y g1 j rfl
  left
  simp only[Br]at o;have Q:=f.1;have v:=f.2.1 hlt;rw[N,O];refine⟨P.trans h,by omega,v,f.2.2.2.2 u,by simp only[AW];omega,by simp only[AW,CK];omega,xs++[x],y,?_,?_,?_⟩
  ·rw[<-CS];exact NP (ks:=k0::tl) (NO _ t) (n y g1 j rfl)
  ·intro B;exact e c _ (.one _ _ _ _ _ _ d B)
  ·intro he q S;have:=e c _ (.more _ _ _ _ _ _ _ d he S);cases q with
   |bad l=>exact this
   |ok z l=>simp only[R.map]at this⊢;rw[NN];exact this
theorem Fz.mu{p1:PS}{wr:World}{q:R (AD×Nat)}(h:PB wr b p')(c:PB w1 b p2)(d:p1={p' with ix:=p'.ix+1})(f:p'.bad=p.bad)(hb:p.bad<0)(l:p.s.size<=60)(i:G p1.s .way p1.deep p1.gr p1.ix q)(k:D4 p1 q p2)(hlt:p'.ix<p.s.size):D3 w1 b<D3 wr b:=by
 subst d;rw[GP h,GP c];have a:¬0<=p'.bad:=by omega
 obtain⟨m,a2,a3,a4,a5,e⟩:=k;rw[AK a];cases q with
 |bad j=>rw[AL (by rw[e];omega)];omega
 |ok g j=>
  have:=(i.okb g.1 g.2 j rfl).1;simp only at this;rw[AK (by rw[e.2.2];exact a),e.1];omega
theorem N8(n:Nat)(IH:IG n)(b:Nat)(A:List Nat)(p:PS)(w:World)(nds:List Nd)(h:Fj b A p w nds)(hn:p.s.size-p.ix<=n):Calls Tryz.prog 82 #[.pointer (some ⟨b,0,none⟩)] w (D5 .ways b A p w nds):=by
 have hb:=h.good;have hs:=h.sz;have ah:=h.ix;have ai:=h.room;have aj:=h.deep;have ak:=h.gr;have Y:=h.avl;have Z:=NX n IH b A p w nds h hn;clear h;obtain⟨i0,al,am,an,ao⟩:=A2 Tryz.infoInt;go_enter Tryz.func82,Tryz.ntmps82;go_wp2_with(first|(go_at_call 135;refine Z.mono ?_;rintro e w1⟨q,k0,p',ext,rfl,M,hA,aa,C,D,H,f⟩));have S0:=Fz.start (CO.first k0 aa C f Y) M hA D H ah ak;clear Z aa C f M hA D H;go_loopw [4] (fun lv wr=>Fz b A p w nds k0 lv wr) (fun _ wr=>D3 wr b)
 case atStart=>exact S0
 case round=>
  clear S0;obtain⟨tl,p',ext,L,hF,N⟩:=hrel;have AF:Hid (Gz p p'):=hF;obtain⟨O,a2,a3,a4,a5⟩:=hF;have v:p'.s.size<=60:=by rw[O];exact hs
  rcases N with⟨c,ap,aA,ab,D,aq,xs,x,F,P,Q⟩|⟨j,c,D,M⟩
  ·have B:p'.cur=at' p.s p'.ix:=by rw[FJ (by rw[c];exact hb),O]
   have AB:Hid (p'.bad=p.bad):=c;have ar:Hid (at' p.s p'.ix=124->∀q,G p.s .ways p.deep p'.gr (p'.ix+1) q->G p.s .ways p.deep p.gr p.ix (q.map fun y=>(DM (xs++[x]) y.1,y.2))):=Q;by_cases d:at' p.s p'.ix=124
   ·have m:p'.took 124={p' with ix:=p'.ix+1}:=by unfold PS.took;rw[AL (by rw[B];exact d)]
    have hd:decide (p'.cur=124)=true:=by rw[B];simpa using d
    have I:p'.ix<p.s.size:=Ap (by omega);have ac:Hid (at' p.s p'.ix=124):=d;have au:Hid (Fl (nds++ext) (xs++[x]) (k0::tl)):=F;clear B d P Q F O a2 a3 a4 a5 c;go_wp2_with(first|(go_at_call 81;refine(Cd b _ 124 _ L.pb (by omega) v).mono ?_;rintro e w2⟨rfl,a,i⟩;rw[m]at a));have L2:=L.pbk a i rfl;have aw:=L.pb;clear L a i m hd;have J:Fj b (u4.ownBlock.toList++A) {p' with ix:=p'.ix+1} w2 (nds++ext):=⟨L2.pb,L2.inv,L2.avl',by show p'.bad<0;rw[AB.out];exact hb,v,by show p'.ix+1<=p'.s.size;rw[AF.out.1];exact I,by show(nds++ext).length+4*(p'.s.size-(p'.ix+1))+2<=1000;rw[AF.out.1];simp only[AW];omega,ab,by show p'.deep<=6;rw[AF.out.2.2.2.2];exact aj⟩;have Z:=NX n IH b (u4.ownBlock.toList++A) _ w2 (nds++ext) J (by show p'.s.size-(p'.ix+1)<=n;rw[AF.out.1];omega);clear J IH;refine Z.mono ?_;rintro e wA⟨q,k,p2,az,rfl,M,hA,ad,E,ae,R,u⟩;have L3:=L2.call ad E u;clear Z ad E u L2;have S:(k0::tl).length<61:=by simp;omega
    have ax:(k0::tl).length+1<=maxLen:=by unfold maxLen;omega
    have af:=Fp;go_wp2_with(first|(at_builtin;refine CC _ rfl _ _ _ rfl 0 3 i0 (.int .i64 0) 1 8 af al am an ao rfl (by decide) u4 (k0::tl).length _ rfl (L3.kids.1.alloc _) ⟨wA.heap.size,0,none⟩ 1 1 [.int .i64 (k:Int)] rfl rfl (cell_one_new _ _ _) (by simp[Value.oneCell']) (by omega) ax (by omega) (by simp) (wA.heap.size+1) (by simp) ?_;intro g cap wB K f ag hlt));have L4:=L3.snoc k S K f ag;clear K f ag hlt af;go_roundw
    case rel=>exact Fz.next L4 AF.out AB.out rfl ap D aq au.o ac.o ar.o M hA ae R ab
    case measure=>exact Fz.mu aw L4.pb rfl AB.out hb hs M hA I
   ·have m:p'.took 124=p':=by unfold PS.took;rw[AK (by rw[B];exact d)]
    have hd:decide (p'.cur=124)=false:=by rw[B];simpa using d
    have T:GS .ways b A p w nds (.ok (DM xs (.wone x),p'.gr) p'.ix) (k0::tl) p' ext u4 wr:=⟨L,⟨O,a2,a3,a4,a5,rfl,rfl,c⟩,P d,by simp only[Br,B8];omega,by intro z g j e;cases e;exact Sr F⟩;have hlen:(nds++ext).length<=1000:=by simp only[AW];omega
    clear B d P Q F O a2 a3 a4 a5 c;rcases L.kids.1.2 with⟨e1,e2⟩|⟨g,cap,cur,e1,_,l,hle,_,U,r⟩
    ·simp at e2
    ·subst e1;clear l r U;by_cases V:tl=[]
     ·subst V;go_wp2_with(first|(go_at_call 81;refine(Cd b _ 124 _ L.pb (by omega) v).mono ?_;rintro e w2⟨rfl,a,i⟩;rw[m]at a));go_ret;exact JI (AE rfl) ⟨L.pbk a i rfl,T.2⟩
     ·have W:tl.length≠0:=fun e=>V (KJ e)
      obtain⟨LN,t⟩:=AQ ((k0::tl).length);rw[<-t]at L T⊢;have ay:((LN:Int)==1)=false:=by
       have:¬(LN:Int)=1:=by rw[t];simp;omega
       simpa using this
      have H1:Hid ((k0::tl).length≠1):=by show(k0::tl).length≠1;simp;omega
      clear V W hle t;go_wp2_with(first|(go_at_call 136;refine(GU (AE rfl) ⟨L.pbk a i rfl,T.2⟩ H1.o hlen).mono ?_;rintro e w'⟨q',k',X,ext',rfl,rest⟩)|(go_at_call 81;refine(Cd b _ 124 _ L.pb (by omega) v).mono ?_;rintro e w2⟨rfl,a,i⟩;rw[m]at a));go_ret;exact⟨q',k',X,ext',rfl,rest⟩
  ·have l:=JG (p:=p') (by rw[c];omega);have m:p'.took 124=p':=by unfold PS.took;rw[AK (by omega)]
   have hd:decide (p'.cur=124)=false:=by rw[l];decide
   have T:GS .ways b A p w nds (.bad j) (k0::tl) p' ext u4 wr:=⟨L,⟨O,a2,a3,a4,a5,c⟩,M,by simp only[Br,B8];omega,by simp⟩;have hlen:(nds++ext).length<=1000:=by simp only[AW];omega
   clear l O a2 a3 a4 a5 c;rcases L.kids.1.2 with⟨e1,e2⟩|⟨g,cap,cur,e1,_,l,hle,_,U,r⟩
   ·simp at e2
   ·subst e1;clear l r U;by_cases V:tl=[]
    ·subst V;go_wp2_with(first|(go_at_call 81;refine(Cd b _ 124 _ L.pb (by omega) v).mono ?_;rintro e w2⟨rfl,a,i⟩;rw[m]at a));go_ret;exact JI (AE rfl) ⟨L.pbk a i rfl,T.2⟩
    ·have W:tl.length≠0:=fun e=>V (KJ e)
     obtain⟨LN,t⟩:=AQ ((k0::tl).length);rw[<-t]at L T⊢;have ay:((LN:Int)==1)=false:=by
      have:¬(LN:Int)=1:=by rw[t];simp;omega
      simpa using this
     have H1:Hid ((k0::tl).length≠1):=by show(k0::tl).length≠1;simp;omega
     clear V W hle t;go_wp2_with(first|(go_at_call 136;refine(GU (AE rfl) ⟨L.pbk a i rfl,T.2⟩ H1.o hlen).mono ?_;rintro e w'⟨q',k',X,ext',rfl,rest⟩)|(go_at_call 81;refine(Cd b _ 124 _ L.pb (by omega) v).mono ?_;rintro e w2⟨rfl,a,i⟩;rw[m]at a));go_ret;exact⟨q',k',X,ext',rfl,rest⟩
theorem shorter(n:Nat):IG n:=by
 induction n with
 |zero=>intro b A p w nds h a;omega
 |succ n ih=>intro b A p w nds h a;exact N8 n ih b A p w nds h (by omega)
theorem Ss(b:Nat)(A:List Nat)(p:PS)(w:World)(nds:List Nd)(h:Fj b A p w nds):Calls Tryz.prog 82 #[.pointer (some ⟨b,0,none⟩)] w (D5 .ways b A p w nds):=N8 _ (shorter _) b A p w nds h (AP _)
theorem PB.rbe(h:PB w b p):w.cell? ⟨b,2,none⟩=some (.int .i64 p.root)∧w.cell? ⟨b,3,none⟩=some (.bool p.bg)∧w.cell? ⟨b,4,none⟩=some (.bool p.en)∧w.frozen? ⟨b,2,none⟩=false∧w.frozen? ⟨b,3,none⟩=false∧w.frozen? ⟨b,4,none⟩=false:=by
 unfold PB at h;simp[World.cell?,World.frozen?,h,PS.cells]
theorem PB.setRoot(h:PB w b p)(x:Nat):PB (w.setCell ⟨b,2,none⟩ (.int .i64 x)) b {p with root:=x}:=by
 unfold PB at*;simp[World.setCell,Aq,h,PS.cells]
theorem PB.setBg(h:PB w b p)(x:Bool):PB (w.setCell ⟨b,3,none⟩ (.bool x)) b {p with bg:=x}:=by
 unfold PB at*;simp[World.setCell,Aq,h,PS.cells]
theorem PB.setEn(h:PB w b p)(x:Bool):PB (w.setCell ⟨b,4,none⟩ (.bool x)) b {p with en:=x}:=by
 unfold PB at*;simp[World.setCell,Aq,h,PS.cells]
theorem JS(h:AA [] w w1)(a:AA S w1 w2)(c:∀x,x∈S->w.heap.size<=x):AA [] w w2:=
 ⟨a.os.trans h.os,a.tape.trans h.tape,a.output.trans h.output,BG h.size a.size,fun k b d=>(a.block k (BL b h.size) (fun e=>by have:=c k e;omega)).trans (h.block k b d)⟩
def St(s:ByteArray)(A:List Nat)(w:World)(e:Ending)(w':World):Prop:=
 ∃(b:Nat)(p:PS)(nds:List Nd)(q:R Whole)(en:Int),e=.returned (.tuple #[.pointer (some ⟨b,0,none⟩),.int .i64 en])∧w.heap.size<=b∧B6 s q∧PB w' b p∧Bg w' b A p.nodes nds∧AA [] w w'∧nds.length<=1000∧p.s=s∧
  match q with
  | .bad j=>en=2∧p.bad=(j:Int)
  | .ok W _=>en=0∧p.bg=W.bg∧p.en=W.en∧p.gr=W.g∧C1 nds .ways W.x p.root
theorem Su(s:ByteArray)(w:World)(h:60<s.size):Calls Tryz.prog 46 #[.string s] w fun e w'=>e=.returned (.tuple #[.pointer none,.int .i64 1])∧w'=w:=by
 have a:(60:Int)<(s.size:Int):=by omega
 go_enter Tryz.func46,Tryz.ntmps46;go_wp2_with fail;go_ret2;exact⟨rfl,rfl⟩
def p0(s:ByteArray):PS:={s:=s,nodes:=.slice none 0 0,root:=0,bg:=false,en:=false,gr:=0,bad:=-1,ix:=0,deep:=0}
theorem Sv(s:ByteArray)(A:List Nat)(w:World)(hs:s.size<=60)(al:Hid (∀x,x∈A->x<w.heap.size)):Calls Tryz.prog 46 #[.string s] w (St s A w):=by
 have h':¬(60:Int)<(s.size:Int):=by omega
 go_enter Tryz.func46,Tryz.ntmps46;go_wp2_with fail;have R:PB (w.alloc (.cells (p0 s).cells 102)) w.heap.size (p0 s):=AS w _;have S:AA [] w (w.alloc (.cells (p0 s).cells 102)):=(AG [] w).alloc _;have hH:=S;clear hH;obtain⟨b,T⟩:=AQ w.heap.size;rw[<-T]at R⊢;have f:Hid (b=w.heap.size):=T;clear T;have c:(p0 s).cur=at' s 0:=by rfl
 have r:(p0 s).took 94={p0 s with ix:=wi s}:=by
  unfold PS.took wi;rw[c];by_cases h:at' s 0=94
  ·rw[AL h,AL h];rfl
  ·rw[AK h,AK h];rfl
 have ac:wi s<=s.size:=by
  unfold wi;by_cases h:at' s 0=94
  ·rw[AL h];exact Ap (by omega)
  ·rw[AK h];exact AY _
 refine(Cd b (p0 s) 94 _ R (by omega) hs).mono ?_;rintro e w1⟨rfl,L,ad⟩;rw[r]at L;rw[c];have ae:AA [] w w1:=JS S ad (by intro x M;simp at M;rw[M,f.o];exact AP _);clear ad S R r c;generalize O:decide (at' s 0=94)=U;obtain⟨_,x3,_,_,y3,_⟩:=L.rbe;have af:=L.setBg U;have V:AA [] w (w1.setCell ⟨b,3,none⟩ (.bool U)):=ae.setCell (AE (by show w.heap.size<=b;rw[f.o];exact AP _)) _;go_wp2_with fail;clear x3 y3 L ae;generalize(w1.setCell ⟨b,3,none⟩ (.bool U))=w2 at*;have ag:Bg w2 b A (.slice none 0 0) []:=⟨[],rfl,FH _ _ _ _,by simp[Value.ownBlock],by simp[Value.ownBlock],by simp⟩;have WC:=Ss b A _ w2 [] ⟨af,ag,fun x M=>BL (al.o x M) V.size,by show(-1:Int)<0;omega,hs,ac,by show([]:List Nd).length+4*(s.size-wi s)+2<=1000;simp;omega,by show 0<=9;omega,by show 0<=6;omega⟩;refine WC.mono ?_;rintro e w3⟨q,k,a,ext,rfl,hG,hA,W,D,ah,P,E⟩;have ai:AA [] w w3:=JS V E.1 ?_
 rotate_left
 ·intro x M;have aj:x∈[b]:=M;simp at aj;rw[aj,f.o];exact AP _
 have X:∀x,x∈[b]->w.heap.size<=x:=by
  intro x M;simp at M;rw[M,f.o];exact AP _
 have hlen:ext.length<=1000:=by
  have:=IF hG ac;simp only[CU,B8]at ah;have h2:Br s q<=s.size:=this;have h3:ext.length+0<=4*(Br s q-wi s)+2:=ah;omega
 have HG:Hid (G s .ways 0 0 (wi s) q):=hG;obtain⟨Q,a2,a3,a4,a5,a6⟩:=hA;have A1:Hid (a.s=s):=Q;have Y:a.s.size<=60:=by rw[Q];exact hs
 obtain⟨x2,_,_,y2,_,_⟩:=W.rbe;have Z:=W.setRoot k;have aa:AA [] w (w3.setCell ⟨b,2,none⟩ (.int .i64 (k:Int))):=ai.setCell (AE (by show w.heap.size<=b;rw[f.o];exact AP _)) _;have y:=D.keep ((AG [b] w3).setB 2 (.int .i64 (k:Int))) CM;have F:(-1:Int)<0:=by omega
 clear hG W D E ai V WC ag af;cases q with
 |bad j=>
  have an:¬(j:Int)<0:=by omega
  have c:PS.cur {a with root:=k}=-1:=JG (by show 0<=a.bad;rw[a6];omega);have r:PS.took {a with root:=k} 36={a with root:=k}:=by unfold PS.took;rw[AK (by omega)]
  have hd:decide (PS.cur {a with root:=k}=36)=false:=by rw[c];decide
  have hm:Bv {a with root:=k,en:=false}=false:=by rw[GK,show PS.cur {a with root:=k,en:=false}=-1 from c];decide
  have ak:Hid (PS.bad {a with root:=k,en:=false}=(j:Int)):=a6;clear c a6 Q a2 a3 a4 a5;go_wp2_with(first|(go_at_call 81;refine(Cd b {a with root:=k} 36 _ Z (by omega) Y).mono ?_;rintro e w5⟨rfl,l,t⟩;rw[r]at l;obtain⟨_,_,x4,_,_,y4⟩:=l.rbe));have H:=l.setEn false;have z:AA [] w (w5.setCell ⟨b,4,none⟩ (.bool false)):=(JS aa t X).setCell (AE (by show w.heap.size<=b;rw[f.o];exact AP _)) _;have i:=(y.keep t CM).keep ((AG [b] w5).setB 4 (.bool false)) CM;clear l t r hd x4 y4;generalize(w5.setCell ⟨b,4,none⟩ (.bool false))=w6 at*;refine(CL b {a with root:=k,en:=false} _ H).mono ?_;rintro e w7⟨rfl,n,p⟩;obtain⟨c0,h6,h7,f6,f7⟩:=n.main;rw[show PS.bad {a with root:=k,en:=false}=(j:Int)from ak.out]at h6;go_wp2_with fail;go_ret2;exact⟨b,_,ext,.bad j,2,rfl,by rw[f.o];exact AP _,⟨_,HG.o,rfl⟩,n,i.keep p EL,z.trans p,hlen,A1.out,rfl,ak.out⟩
 |ok xg j=>
  obtain⟨x,g⟩:=xg;obtain⟨e1,e2,N⟩:=a6;have c:PS.cur {a with root:=k}=at' s j:=by rw[FJ (by show a.bad<0;rw[N];exact F)];show at' a.s a.ix=_;rw[Q,e1];rfl
  by_cases v:at' s j=36
  ·have r:PS.took {a with root:=k} 36={a with root:=k,ix:=j+1}:=by unfold PS.took;rw[AL (by rw[c];exact v)];simp[e1]
   have hd:decide (PS.cur {a with root:=k}=36)=true:=by rw[c];simpa using v
   have d:PS.cur {a with root:=k,ix:=j+1,en:=true}=at' s (j+1):=by rw[FJ (by show a.bad<0;rw[N];exact F)];show at' a.s (j+1)=_;rw[Q];rfl
   have HE:Hid (Dy s (.ok (x,g) j)=if 0<=at' s (j+1)then .bad (j+1)else .ok ⟨decide (at' s 0=94),true,x,g⟩ (j+1)):=by
    show Dy s (.ok (x,g) j)=_;rw[GI];rw[AL v,BU v]
   have B:PS.bad {a with root:=k,ix:=j+1,en:=true}<0:=by show a.bad<0;rw[N];exact F
   have C:Hid (PS.bad {a with root:=k,ix:=j+1,en:=true}=-1):=N;have u:Hid (((PS.ix {a with root:=k,ix:=j+1,en:=true}:Nat):Int)=((j+1):Nat)):=by show((PS.ix {a with root:=k,ix:=j+1,en:=true}:Nat):Int)=((j+1):Nat);rfl
   have I:Hid (PS.bg {a with root:=k,ix:=j+1,en:=true}=decide (at' s 0=94)):=by show a.bg=_;rw[a3,O]
   have J:Hid (PS.gr {a with root:=k,ix:=j+1,en:=true}=g):=e2;clear c Q a2 a3 a4 a5 e1 e2 N;go_wp2_with(first|(go_at_call 81;refine(Cd b {a with root:=k} 36 _ Z (by omega) Y).mono ?_;rintro e w5⟨rfl,l,t⟩;rw[r]at l;obtain⟨_,_,x4,_,_,y4⟩:=l.rbe));have H:=l.setEn true;have z:AA [] w (w5.setCell ⟨b,4,none⟩ (.bool true)):=(JS aa t X).setCell (AE (by show w.heap.size<=b;rw[f.o];exact AP _)) _;have i:=(y.keep t CM).keep ((AG [b] w5).setB 4 (.bool true)) CM;clear l t r hd x4 y4;generalize(w5.setCell ⟨b,4,none⟩ (.bool true))=w6 at*;refine(CL b {a with root:=k,ix:=j+1,en:=true} _ H).mono ?_;rintro e w7⟨rfl,n,p⟩;obtain⟨c0,h6,h7,f6,f7⟩:=n.main;by_cases m:0<=at' s (j+1)
   ·have hm:Bv {a with root:=k,ix:=j+1,en:=true}=true:=by rw[GK,d];simpa using m
    have HQ:Hid (Dy s (.ok (x,g) j)=.bad (j+1)):=by show Dy s (.ok (x,g) j)=_;rw[HE.o,AL m]
    have K:=n.setBad (PS.ix {a with root:=k,ix:=j+1,en:=true}:Int);obtain⟨d0,d6,d7,_,_⟩:=K.main;have ab:Hid (((PS.ix {a with root:=k,ix:=j+1,en:=true}:Nat):Int)=((j+1):Nat)):=by first|exact u.out|rfl
    clear d m u C;have am:¬((PS.ix {a with root:=k,ix:=j+1,en:=true}:Nat):Int)<0:=by omega
    go_wp2_with(first|(go_at_call 84;refine(CI b {a with root:=k,ix:=j+1,en:=true} _ n B).mono ?_;rintro e w8⟨rfl,rfl⟩));go_ret2;exact⟨b,_,ext,.bad (j+1),2,rfl,by rw[f.o];exact AP _,⟨_,HG.o,HQ.o.symm⟩,K,(i.keep p EL).keep ((AG [b] w7).setB 6 _) CM,(z.trans p).setCell (AE (by show w.heap.size<=b;rw[f.o];exact AP _)) _,hlen,A1.out,rfl,by first|exact ab.o|rfl⟩
   ·have hm:Bv {a with root:=k,ix:=j+1,en:=true}=false:=by rw[GK,d];simpa using m
    have HQ:Hid (Dy s (.ok (x,g) j)=.ok ⟨decide (at' s 0=94),true,x,g⟩ (j+1)):=by show Dy s (.ok (x,g) j)=_;rw[HE.o,AK m]
    clear d m u;go_wp2_with fail;go_ret2;exact⟨b,_,ext,.ok ⟨decide (at' s 0=94),true,x,g⟩ (j+1),0,rfl,by rw[f.o];exact AP _,⟨_,HG.o,HQ.o.symm⟩,n,i.keep p EL,z.trans p,hlen,A1.out,rfl,I.out,rfl,J.out,by have:=P x g j rfl;simpa using this⟩
  ·have r:PS.took {a with root:=k} 36={a with root:=k}:=by unfold PS.took;rw[AK (by rw[c];exact v)]
   have hd:decide (PS.cur {a with root:=k}=36)=false:=by rw[c];simpa using v
   have d:PS.cur {a with root:=k,en:=false}=at' s j:=by rw[FJ (by show a.bad<0;rw[N];exact F)];show at' a.s a.ix=_;rw[Q,e1];rfl
   have HE:Hid (Dy s (.ok (x,g) j)=if 0<=at' s j then .bad j else .ok ⟨decide (at' s 0=94),false,x,g⟩ j):=by
    show Dy s (.ok (x,g) j)=_;rw[GI];rw[AK v,BS v]
   have B:PS.bad {a with root:=k,en:=false}<0:=by show a.bad<0;rw[N];exact F
   have C:Hid (PS.bad {a with root:=k,en:=false}=-1):=N;have u:Hid (((PS.ix {a with root:=k,en:=false}:Nat):Int)=(j:Nat)):=by show((PS.ix {a with root:=k,en:=false}:Nat):Int)=(j:Nat);show(a.ix:Int)=_;rw[e1]
   have I:Hid (PS.bg {a with root:=k,en:=false}=decide (at' s 0=94)):=by show a.bg=_;rw[a3,O]
   have J:Hid (PS.gr {a with root:=k,en:=false}=g):=e2;clear c Q a2 a3 a4 a5 e1 e2 N;go_wp2_with(first|(go_at_call 81;refine(Cd b {a with root:=k} 36 _ Z (by omega) Y).mono ?_;rintro e w5⟨rfl,l,t⟩;rw[r]at l;obtain⟨_,_,x4,_,_,y4⟩:=l.rbe));have H:=l.setEn false;have z:AA [] w (w5.setCell ⟨b,4,none⟩ (.bool false)):=(JS aa t X).setCell (AE (by show w.heap.size<=b;rw[f.o];exact AP _)) _;have i:=(y.keep t CM).keep ((AG [b] w5).setB 4 (.bool false)) CM;clear l t r hd x4 y4;generalize(w5.setCell ⟨b,4,none⟩ (.bool false))=w6 at*;refine(CL b {a with root:=k,en:=false} _ H).mono ?_;rintro e w7⟨rfl,n,p⟩;obtain⟨c0,h6,h7,f6,f7⟩:=n.main;by_cases m:0<=at' s j
   ·have hm:Bv {a with root:=k,en:=false}=true:=by rw[GK,d];simpa using m
    have HQ:Hid (Dy s (.ok (x,g) j)=.bad j):=by show Dy s (.ok (x,g) j)=_;rw[HE.o,AL m]
    have K:=n.setBad (PS.ix {a with root:=k,en:=false}:Int);obtain⟨d0,d6,d7,_,_⟩:=K.main;have ab:Hid (((PS.ix {a with root:=k,en:=false}:Nat):Int)=(j:Nat)):=by first|exact u.out|rfl
    clear d m u C;have am:¬((PS.ix {a with root:=k,en:=false}:Nat):Int)<0:=by omega
    go_wp2_with(first|(go_at_call 84;refine(CI b {a with root:=k,en:=false} _ n B).mono ?_;rintro e w8⟨rfl,rfl⟩));go_ret2;exact⟨b,_,ext,.bad j,2,rfl,by rw[f.o];exact AP _,⟨_,HG.o,HQ.o.symm⟩,K,(i.keep p EL).keep ((AG [b] w7).setB 6 _) CM,(z.trans p).setCell (AE (by show w.heap.size<=b;rw[f.o];exact AP _)) _,hlen,A1.out,rfl,by first|exact ab.o|rfl⟩
   ·have hm:Bv {a with root:=k,en:=false}=false:=by rw[GK,d];simpa using m
    have HQ:Hid (Dy s (.ok (x,g) j)=.ok ⟨decide (at' s 0=94),false,x,g⟩ j):=by show Dy s (.ok (x,g) j)=_;rw[HE.o,AK m]
    clear d m u;go_wp2_with fail;go_ret2;exact⟨b,_,ext,.ok ⟨decide (at' s 0=94),false,x,g⟩ j,0,rfl,by rw[f.o];exact AP _,⟨_,HG.o,HQ.o.symm⟩,n,i.keep p EL,z.trans p,hlen,A1.out,rfl,I.out,rfl,J.out,by have:=P x g j rfl;simpa using this⟩
def bl(n:Nat)(f:Nat->Bool):List Value:=(List.range n).map fun j=> .bool (f j)
theorem N9{j:Nat}(f:Nat->Bool)(h:j<n):(bl n f)[j]? =some (.bool (f j)):=by simp[bl,h]
theorem Sw(n k:Nat)(f:Nat->Bool)(b:Bool):(bl n f).set k (.bool b)=bl n (fun j=>if j=k then b else f j):=by
 apply Hd;intro j;rw[List.getElem?_set];by_cases a:j<n
 ·by_cases e:k=j
  ·subst e;simp[bl,a]
  ·have c:¬j=k:=fun h=>e h.symm
   simp[bl,a,e,c]
 ·by_cases e:k=j
  ·subst e;simp[bl,a]
  ·simp[bl,a,e]
theorem Sx{f g:Nat->Bool}(h:∀j,j<n->f j=g j):bl n f=bl n g:=by
 unfold bl;apply List.map_congr_left;intro j a;rw[h j (by simpa using a)]
theorem Sy(n:Nat)(f:Nat->Bool):bl (n+1) f=bl n f++[.bool (f n)]:=by simp[bl,List.range_succ]
theorem Hf(n:Nat):(madeCells #[Value.bool false] n).toList=bl n (fun _=>false):=by
 apply Hd;intro j;by_cases a:j<n
 ·rw[N9 _ a];simp[madeCells,a,Nat.mod_one]
 ·simp[madeCells,bl,a]
def RB(w:World)(v:Value)(n:Nat)(f:Nat->Bool):Prop:=w.ownsRow 0 4 1 v n (bl n f)
theorem RB.keep{w':World}{v:Value}{f:Nat->Bool}(h:RB w v n f)(a:AA S w w')(b:∀g,v.ownBlock=some g->g∉S):RB w' v n f:=Ep h a b
theorem RB.form{v:Value}{f:Nat->Bool}(h:RB w v n f)(a:0<n):∃g cap,v=.slice (some ⟨g,0,none⟩) n cap∧g<w.heap.size:=by
 obtain⟨g,cap,b,_,c⟩:=Ga h a;exact⟨g,cap,b,c⟩
theorem RB.ext{v:Value}{f g:Nat->Bool}(h:RB w v n f)(e:∀j,j<n->f j=g j):RB w v n g:=by
 unfold RB at*;rw[<-Sx e];exact h
theorem RB.at{f:Nat->Bool}(h:RB w (.slice (some ⟨g,0,none⟩) n cap) n f){j:Nat}(a:j<n):w.cell? ⟨g,j,none⟩=some (.bool (f j)):=by
 rw[BX h j (by omega),N9 f a]
theorem RB.frozen{f:Nat->Bool}(h:RB w (.slice (some ⟨g,0,none⟩) n cap) n f)(j:Nat):w.frozen? ⟨g,j,none⟩=false:=D8 h j
theorem RB.put{f:Nat->Bool}(h:RB w (.slice (some ⟨g,0,none⟩) n cap) n f)(k:Nat)(b:Bool):RB (w.setCell ⟨g,k,none⟩ (.bool b)) (.slice (some ⟨g,0,none⟩) n cap) n (fun j=>if j=k then b else f j):=by
 have:=(Es h k (.bool b)).1;rw[Sw]at this;exact this
theorem Gc:(Tryz.prog.info? 4).map (fun i=>(i.zero,i.size,i.bytes))=some (some (.bool false),1,1):=by kernel_rfl
def XB(w:World)(b:Nat)(P:Value)(s:ByteArray)(E:Value):Prop:=∃fo,w.heap[b]? =some (.cells #[P,.string s,.bool fo,E] 154 (0,0))
theorem XB.main{P:Value}{s:ByteArray}{E:Value}(h:XB w b P s E):w.cell? ⟨b,0,none⟩=some P∧w.cell? ⟨b,1,none⟩=some (.string s)∧(∃fo,w.cell? ⟨b,2,none⟩=some (.bool fo))∧w.cell? ⟨b,3,none⟩=some E:=by
 obtain⟨fo,h⟩:=h;exact⟨by simp[World.cell?,h],by simp[World.cell?,h],⟨fo,by simp[World.cell?,h]⟩,by simp[World.cell?,h]⟩
theorem XB.lt{P:Value}{s:ByteArray}{E:Value}(h:XB w b P s E):b<w.heap.size:=by
 obtain⟨_,h⟩:=h;exact(AN.1 h).1
theorem XB.keep{w':World}{P:Value}{s:ByteArray}{E:Value}(h:XB w b P s E)(a:AA S w w')(hb:b∉S):XB w' b P s E:=by
 have c:=h.lt;obtain⟨fo,h⟩:=h;exact⟨fo,(a.block b c hb).trans h⟩
theorem AA.ofGrownNone{w w':World}(h:w.grownBy w' none):AA [] w w':=⟨h.os,h.tape,h.output,h.size,fun j a _=>h.block j a (by simp)⟩
theorem BZ{S':List Nat}(h:AA S' w w1)(k:AA S w1 w2)(d:∀x,x∈S->x∈S'∨w.heap.size<=x):AA S' w w2:=
 ⟨k.os.trans h.os,k.tape.trans h.tape,k.output.trans h.output,BG h.size k.size,fun j a b=>(k.block j (BL a h.size) (fun hm=>by
  rcases d j hm with c|c
  ·exact b c
  ·omega)).trans (h.block j a b)⟩
theorem OA(b:Nat)(P E:Value)(s:ByteArray)(i:Nat)(hi:i<=s.size)(z:s.size<=100)(w:World)(h:XB w b P s E):Calls Tryz.prog 137 #[.pointer (some ⟨b,0,none⟩),.int .i64 i] w fun e w'=>∃g,e=.returned (.slice (some ⟨g,0,none⟩) (s.size+1) (s.size+1))∧RB w' (.slice (some ⟨g,0,none⟩) (s.size+1) (s.size+1)) (s.size+1) (fun j=>decide (j=i))∧AA [] w w'∧w.heap.size<=g:=by
 obtain⟨i0,k,l,m,n⟩:=A2 Gc;obtain⟨A,B,C,D⟩:=h.main;have o:=Gb;have r:(s.size:Int)+1<=9223372036854775807:=by omega
 go_enter Tryz.func137,Tryz.ntmps137;go_wp2_with(first|(refine D9 w rfl _ _ 98 rfl 0 4 i0 (.bool false) 1 o k l m .i64 .i64 ((s.size:Int)+1) ((s.size:Int)+1) (s.size+1) rfl rfl (by omega) (by omega) (by rw[n];omega) (by unfold maxLen;omega) (AY _) ?_));intro w1 a c;rw[Hf]at a;have f:RB w1 (.slice (some ⟨w.heap.size,0,none⟩) (s.size+1) (s.size+1)) (s.size+1) (fun _=>false):=a;have F:=f.at (j:=i) (by omega);have G:=f.frozen i;have t:(0:Int)<=(i:Int):=by omega
 have u:(i:Int)<((s.size+1:Nat):Int):=by omega
 have d:=f.put i true;have v:AA [] w w1:=AA.ofGrownNone c;have q:AA [] w (w1.setCell ⟨w.heap.size,i,none⟩ (.bool true)):=BZ v ((AG [w.heap.size] w1).setCell (p:=⟨w.heap.size,i,none⟩) (by simp) _) (by intro x y;simp at y;omega);clear a f c v;go_wp2_with fail;go_ret;exact⟨_,rfl,d.ext (fun j _=>by by_cases e:j=i<;>simp[e]),q,AP _⟩
def Hg(w:World)(N:Nat)(f:Nat->Nat->Bool)(e:Ending)(w':World):Prop:=
 ∃g,e=.returned (.slice (some ⟨g,0,none⟩) N N)∧MV w' (.slice (some ⟨g,0,none⟩) N N) N f∧AA [] w w'∧w.heap.size<=g
theorem LI:(Tryz.prog.info? 141).map (fun i=>(i.zero,i.size,i.bytes))=some (some (.agg #[.int .u64 0,.int .u64 0]),2,16):=by kernel_rfl
theorem LJ(N:Nat):(madeCells #[Value.int .u64 0,Value.int .u64 0] (N*2)).toList=mc N (fun _ _=>false):=by
 apply Hd;intro q;by_cases c:q<2*N
 ·rw[JR _ c,Sm];have b:q<N*2:=by omega
  have a:q%2=0∨q%2=1:=by omega
  rcases a with a|a<;>simp[madeCells,b,a]
 ·have d:(mc N (fun _ _=>false))[q]? =none:=by rw[List.getElem?_eq_none_iff,KI];omega
  rw[d];have b:¬q<N*2:=by omega
  simp[madeCells,b]
theorem LK(n N:Nat)(b:Hid (N=n+1))(k:n<=100)(w:World):Calls Tryz.prog 124 #[.int .i64 n] w (Hg w N fun _ _=>false):=by
 obtain⟨i0,c,d,e,f⟩:=A2 LI;have g:=Tryz.underlying76;have i:(n:Int)+1<=9223372036854775807:=by omega
 go_enter Tryz.func124,Tryz.ntmps124;go_wp2_with(first|(refine D9 w rfl _ _ 76 rfl 0 141 i0 (.agg #[.int .u64 0,.int .u64 0]) 2 g c d e .i64 .i64 ((n:Int)+1) ((n:Int)+1) N rfl rfl (by have:=b.o;omega) (by have:=b.o;omega) (by have:=b.o;rw[f];omega) (by have:=b.o;unfold maxLen;omega) (AY _) ?_));intro w1 a h;rw[LJ]at a;have j:AA [] w w1:=AA.ofGrownNone h;go_wp2_with fail;go_ret;exact⟨_,rfl,a,j,AP _⟩
theorem OC(n N:Nat)(p:Hid (N=n+1))(t:n<=100)(w:World):Calls Tryz.prog 172 #[.int .i64 n] w (Hg w N fun i j=>decide (i=j)):=by
 go_enter Tryz.func172,Tryz.ntmps172;go_wp2_with fail;refine(LK n N p t w).mono ?_;rintro e w1⟨g,rfl,c,f,u⟩;have v:(N:Int)<=101:=by have:=p.o;omega
 go_wp2_with fail;go_loopw [4,9] (fun _ q wr=>∃k:Nat,k<=N∧q=.int .i64 k∧MV wr (.slice (some ⟨g,0,none⟩) N N) N (fun i j=>decide (i=j)&&decide (i<k))∧AA [] w wr) (fun _ q _=>N-(intOf q).toNat)
 case atStart=>exact⟨0,by omega,rfl,c.ext (fun a b _ _=>by simp),f⟩
 case round=>
  clear c f;obtain⟨k,f,rfl,c,r⟩:=hrel;by_cases hlt:k<N
  ·have y:(0:Int)<=(k:Int):=by omega
   have z:(k:Int)<(N:Int):=by omega
   have l:Hid (k<N):=hlt;clear f hlt;go_wp2_with fail;refine(N6 g N N k k _ l.o (by have:=l.o;omega) wr c).mono ?_;rintro e w2⟨rfl,d,h⟩;have m:AA [] w w2:=BZ r h (by intro x A;simp at A;omega);clear h c;go_wp2_with fail;go_roundw
   case rel=>exact⟨k+1,l.o,by go_num,d.ext (fun a b _ _=>by
    by_cases s:a=k
    ·subst s;have:decide (a=b)=decide (b=a):=by simp[eq_comm]
     simp[this]
    ·have:(a<k+1)↔(a<k):=by omega
     simp[s,this]),m⟩
   case measure=>have:=l.o;simp[intOf];omega
  ·have he:k=N:=by omega
   have B:¬(k:Int)<(N:Int):=by omega
   have d:=c.ext (g:=fun i j=>decide (i=j)) (fun a b C _=>by simp[he,C]);clear c f he hlt;go_wp2_with fail;go_ret;exact⟨g,rfl,d,r,u⟩
theorem MV.put2{f:Nat->Nat->Bool}(h:MV w (.slice (some ⟨g,0,none⟩) n cap) n f){i:Nat}(hi:i<n)(F:Nat->Bool):MV ((w.setCell ⟨g,i*2,none⟩ (.int .u64 (wk F 0))).setCell ⟨g,i*2+1,none⟩ (.int .u64 (wk F 1))) (.slice (some ⟨g,0,none⟩) n cap) n (fun a b=>if a=i then F b else f a b):=by
 have m:MV (w.setCell ⟨g,i*2,none⟩ (.int .u64 (wk F 0))) (.slice (some ⟨g,0,none⟩) n cap) n (fun a b=>if a=i then(if b<64 then F b else f a b)else f a b):=by
  refine MV.put (k:=0) h hi (by omega) _ ?_ ?_ ?_
  ·have:wk F 0=wk (fun b=>if i=i then(if b<64 then F b else f i b)else f i b) 0:=Ec fun j c=>by rw[AL rfl,AL (by omega)]
   rw[this]
  ·intro a d j;simp[d]
  ·intro k' l;refine Ec fun j c=>?_
   simp[show¬64*k'+j<64 by omega]
 have o:MV ((w.setCell ⟨g,i*2,none⟩ (.int .u64 (wk F 0))).setCell ⟨g,i*2+1,none⟩ (.int .u64 (wk F 1))) (.slice (some ⟨g,0,none⟩) n cap) n (fun a b=>if a=i then(if b<128 then F b else f a b)else f a b):=by
  refine MV.put (k:=1) m hi (by omega) _ ?_ ?_ ?_
  ·have:wk F 1=wk (fun b=>if i=i then(if b<128 then F b else f i b)else f i b) 1:=Ec fun j c=>by rw[AL rfl,AL (by omega)]
   rw[this]
  ·intro a d j;simp[d]
  ·intro k' l;refine Ec fun j c=>?_
   by_cases e:64*k'+j<64
   ·simp[e,show 64*k'+j<128 by omega]
   ·simp[e,show¬64*k'+j<128 by omega]
 exact o.ext fun a b _ hb=>by simp[hb]
theorem KK{o:Nat}{x y:Value}(c:w.cell? ⟨b,o,none⟩=some x)(d:w.cell? ⟨b,o+1,none⟩=some y):w.rangeAt b o [x,y]:=by
 intro j v a
 match j,a with
 |0,a=>simp at a;subst a;exact c
 |1,a=>simp at a;subst a;exact d
theorem Sz{o:Nat}(a:(w.cell? ⟨b,o,none⟩).isSome=true)(c:(w.cell? ⟨b,o+1,none⟩).isSome=true)(z0:w.frozen? ⟨b,o,none⟩=false)(d:w.frozen? ⟨b,o+1,none⟩=false):w.there b o 2:=by
 intro j e
 match j,e with
 |0,_=>exact⟨a,z0⟩
 |1,_=>exact⟨c,d⟩
theorem S4(a b:Int):(#[Value.int .u64 a,.int .u64 b]).all (·.oneCell')=true:=by simp[Value.oneCell']
theorem IT:(Tryz.prog.info? 141).map (·.size)=some 2:=by kernel_rfl
theorem S5(N:Nat)(hN:N<=101)(g1 c1 g2 c2:Nat)(f1 f2:Nat->Nat->Bool)(w:World)(O:MV w (.slice (some ⟨g1,0,none⟩) N c1) N f1)(P:MV w (.slice (some ⟨g2,0,none⟩) N c2) N f2):Calls Tryz.prog 126 #[.slice (some ⟨g1,0,none⟩) N c1,.slice (some ⟨g2,0,none⟩) N c2] w (Hg w N fun i j=>f1 i j||f2 i j):=by
 obtain⟨i0,B,C,D,E⟩:=A2 LI;have F:=Tryz.underlying76;go_enter Tryz.func126,Tryz.ntmps126;go_wp2_with(first|(refine D9 w rfl _ _ 76 rfl 0 141 i0 (.agg #[.int .u64 0,.int .u64 0]) 2 F B C D .i64 .i64 (N:Int) (N:Int) N rfl rfl rfl rfl (by rw[E];omega) (by unfold maxLen;omega) (AY _) ?_));intro w1 c n;rw[LJ]at c;have h:AA [] w w1:=AA.ofGrownNone n;have Q:g1<w.heap.size:=(A3 O g1 rfl).2;have R:g2<w.heap.size:=(A3 P g2 rfl).2;obtain⟨g,G⟩:=AQ w.heap.size;have r:MV w1 (.slice (some ⟨g,0,none⟩) N N) N (fun _ _=>false):=by rw[G];exact c
 rw[<-G];have H:w.heap.size<=g:=by omega
 clear G;have aa:(N:Int)<=101:=by omega
 clear c n;go_wp2_with fail;go_loopw [6,12] (fun _ q wr=>∃k:Nat,k<=N∧q=.int .i64 k∧MV wr (.slice (some ⟨g,0,none⟩) N N) N (fun i j=>decide (i<k)&&(f1 i j||f2 i j))∧AA [] w wr) (fun _ q _=>N-(intOf q).toNat)
 case atStart=>exact⟨0,by omega,rfl,r.ext (fun a b _ _=>by simp),h⟩
 case round=>
  clear r h;obtain⟨k,S,rfl,l,s⟩:=hrel;by_cases hlt:k<N
  ·have ab:(0:Int)<=(k:Int):=by omega
   have h:(k:Int)<(N:Int):=by omega
   have I:Hid (k<N):=hlt;have t:=O.keep s (by simp);have u:=P.keep s (by simp);obtain⟨a0,T⟩:=t.at hlt;obtain⟨U,V⟩:=l.at hlt;have z0:=l.frozen (k*2);have X:=l.frozen (k*2+1);have d:=l.put2 hlt (f1 k);have m:AA [g] wr ((wr.setCell ⟨g,k*2,none⟩ (.int .u64 (wk (f1 k) 0))).setCell ⟨g,k*2+1,none⟩ (.int .u64 (wk (f1 k) 1))):=((AG [g] wr).setCell (p:=⟨g,k*2,none⟩) (by simp) _).setCell (p:=⟨g,k*2+1,none⟩) (by simp) _;have v:=u.keep m (by intro x y;simp only[Value.ownBlock,Ai]at y;simp;omega);have z:AA [] w ((wr.setCell ⟨g,k*2,none⟩ (.int .u64 (wk (f1 k) 0))).setCell ⟨g,k*2+1,none⟩ (.int .u64 (wk (f1 k) 1))):=BZ s m (by intro x y;simp at y;omega);obtain⟨c0,ac⟩:=v.at hlt;have J:wr.rangeAt g1 (k*2) [.int .u64 (wk (f1 k) 0),.int .u64 (wk (f1 k) 1)]:=KK a0 T;have K:wr.there g (k*2) 2:=Sz (by rw[U];rfl) (by rw[V];rfl) z0 X;clear S hlt l t u m s v a0 T U V z0 X;go_wp2_with(first|(refine ED rfl 141 _ rfl g1 (k*2) rfl _ _ J IQ rfl IT ?_)|(refine wpList_store_mid rfl 141 _ _ rfl g (k*2) #[.int .u64 (wk (f1 k) 0),.int .u64 (wk (f1 k) 1)] rfl rfl K IT (S4 _ _) ?_));change Code.wp _ _ _ _ ((wr.setCell ⟨g,k*2,none⟩ (.int .u64 (wk (f1 k) 0))).setCell ⟨g,k*2+1,none⟩ (.int .u64 (wk (f1 k) 1)));generalize(wr.setCell ⟨g,k*2,none⟩ (.int .u64 (wk (f1 k) 0))).setCell ⟨g,k*2+1,none⟩ (.int .u64 (wk (f1 k) 1))=W at*;have f:MV W.drew (.slice (some ⟨g,0,none⟩) N N) N _:=World.ownsRow.drew d;have Y:=LH g N N k _ (f2 k) I.o W.drew f
   go_region_with (first|(go_at_call 176;refine Y.mono ?_;rintro e w2⟨rfl,L,A⟩))
   clear Y;have M:AA [] w w2:=BZ z (((AG [g] W).drewN 1).trans A) (by intro x y;simp at y;omega);clear A z d f;go_wp2_with fail;go_roundw
   case rel=>exact⟨k+1,I.o,by go_num,L.ext (fun a b _ _=>by
    by_cases Z:a=k
    ·subst Z;simp
    ·have:(a<k+1)↔(a<k):=by omega
     simp[Z,this]),M⟩
   case measure=>have:=I.o;simp[intOf];omega
  ·have he:k=N:=by omega
   have ad:¬(k:Int)<(N:Int):=by omega
   have d:=l.ext (g:=fun i j=>f1 i j||f2 i j) (fun a b ha _=>by simp[he,ha]);clear l S he hlt;go_wp2_with fail;go_ret;exact⟨g,rfl,d,s,H⟩
def Ci:=@AA.ofGrownNone
