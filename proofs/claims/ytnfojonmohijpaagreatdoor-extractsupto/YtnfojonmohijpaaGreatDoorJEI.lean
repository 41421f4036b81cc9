/-
  DERIVED. For the reference's Extract: finds of either kind, fill with its one answer, what its loop over the lines has so far. Conditions: as of finds and fill.
-/
import Derived.Test.YtnfojonmohijpaaGreatDoorJBE
set_option linter.all false
set_option maxRecDepth 100000
set_option maxHeartbeats 8000000
namespace Go.Proofs.YtnfojonmohijpaaGreatDoor
open Go.RowKit
variable{s:ByteArray}{W:Whole}{fr i:Nat}{fs:List (List Int)}{ans:Option (List Int)}{k:AX}{w wr:World}{ps:List Part}{ls:List ByteArray}{p:List UInt8}
theorem BN.total(t:ByteArray)(gs:Nat):∀(n i:Nat),t.size-i<=n->∃q,BN t gs i q:=by
 intro n
 induction n with
 |zero=>intro i h;exact⟨_,.fin i (by omega)⟩
 |succ n ih=>
  intro i h;by_cases hi:i<t.size
  ·cases a:BP t gs i with
   |none=>exact⟨_,.bad i hi a⟩
   |some pk=>
    obtain⟨p,k⟩:=pk;obtain⟨c,_,_⟩:=J2 a hi;obtain⟨q,b⟩:=ih k (by omega);exact⟨_,.go i k p q hi a b⟩
  ·exact⟨_,.fin i (by omega)⟩
theorem Dn.total(t line:ByteArray)(gs:Nat)(sp:List Int):∃q b,Dn t line gs sp q b:=by
 by_cases c:t.size<=100
 ·obtain⟨q,a⟩:=BN.total t gs _ 0 (AP _);cases q with
  |none=>exact⟨[],false,AE ⟨rfl,rfl,AE a⟩⟩
  |some ps=>exact⟨_,true,AH ⟨rfl,c,ps,a,rfl⟩⟩
 ·exact⟨[],false,AE ⟨rfl,rfl,AH (by omega)⟩⟩
theorem Dn.det{t line:ByteArray}{gs:Nat}{sp:List Int}{q f:List UInt8}{b g:Bool}(h:Dn t line gs sp q b)(i:Dn t line gs sp f g):q=f∧b=g:=by
 rcases h with⟨rfl,j,ps,c,rfl⟩|⟨rfl,rfl,j⟩
 ·rcases i with⟨rfl,_,d,a,rfl⟩|⟨rfl,rfl,e⟩
  ·cases c.det a;exact⟨rfl,rfl⟩
  ·rcases e with h|h
   ·omega
   ·cases c.det h
 ·rcases i with⟨rfl,c,d,a,rfl⟩|⟨rfl,rfl,_⟩
  ·rcases j with h|h
   ·omega
   ·cases a.det h
  ·exact⟨rfl,rfl⟩
theorem Pp(t line:ByteArray)(v:Value)(sp:List Int)(gs:Nat)(w:World)(c:line.size<=100)(a:gs<=9)(d:L9 w v line gs sp)(q:List UInt8)(b:Bool)(h:Dn t line gs sp q b):Calls Tryz.prog 108 #[.string t,.string line,v,.int .i64 gs] w fun e w'=>e=.returned (.tuple #[.string (AJ q),.bool b])∧∃n,w'=w.drewN n:=
 (VS t line v sp gs w c a d).mono fun e w'⟨i,j,he,f,g⟩=>by
  obtain⟨rfl,rfl⟩:=h.det f;exact⟨he,g⟩
def GF(s:ByteArray)(W:Whole)(x:Bool)(ans:Option (List Int))(fs:List (List Int)):Prop:=CP s W x ans∧(x=true->fs=ans.toList)∧(x=false->Bl s W 0 fs)
def Wi(s:ByteArray)(W:Whole)(x:Bool)(lo b bp:Nat)(p:PS)(nds:List Nd)(D:List Nat)(E:Value)(w:World)(e:Ending)(w':World):Prop:=
 ∃r ans fs,e=.returned (.tuple #[r,.bool (ans:Option (List Int)).isSome])∧GF s W x ans fs∧F7 w' lo r fs∧TX w' b bp s p nds D E []∧AA D w w'
theorem Wj(s:ByteArray)(nds:List Nd)(j:nds.length<=1000)(W:Whole)(x:Bool)(w:World)(lo b bp:Nat)(p:PS)(D:List Nat)(E:Value)(h:TX w b bp s p nds D E [])(a:Hid (KP nds p W))(k:∀m,W.x.has m->0<m∧m<=W.g)(c:lo=w.heap.size):Calls Tryz.prog 110 #[.pointer (some ⟨b,0,none⟩),.bool x] w (Wi s W x lo b bp p nds D E w):=by
 cases x with
 |true=>
  refine(VK s nds j W w lo b bp p D E h a c).mono ?_;rintro e w'⟨r,ans,d,f,i⟩;exact⟨r,ans,ans.toList,d,⟨f,fun _=>rfl,fun h=>by cases h⟩,i⟩
 |false=>
  refine(VJ s nds j W w lo b bp p D E h a k c).mono ?_;rintro e w'⟨r,ans,fs,d,f,i,l⟩;exact⟨r,ans,fs,d,⟨f,fun h=>(by cases h),fun _=>i⟩,l⟩
theorem Bl.frm(h:Bl s W fr fs)(c:∀m,W.x.has m->0<m∧m<=W.g):∀sp∈fs,∃(i j:Nat)(r:List Int),sp=(i:Int)::(j:Int)::r∧i<=j∧j<=s.size:=by
 induction h with
 |fin fr h=>simp
 |none fr h _=>simp
 |hit fr i j r fs d b f _ ih=>
  obtain⟨o,k,l,n,e,a2,a3,a4⟩:=b.sp c;intro sp a;rcases Az.1 a with rfl|a
  ·exact⟨k,l,n,e,a3,a4⟩
  ·exact ih sp a
 |empty fr i j r fs d b f _ ih=>exact ih
theorem GF.frm{x:Bool}(h:GF s W x ans fs)(k:s.size<=100)(b:∀m,W.x.has m->0<m∧m<=W.g):fs.length<=100∧∀sp∈fs,Ex s sp W.g∧∃(i j:Nat)(r:List Int),sp=(i:Int)::(j:Int)::r∧i<=j∧j<=s.size:=by
 cases x with
 |true=>
  have e:=h.2.1 rfl;subst e;cases ans with
  |none=>simp
  |some l=>
   have f:Dv s W (some l):=h.1;obtain⟨c,r,a2⟩:=f.sp b;refine⟨by simp,fun sp a=>?_⟩;have:sp=l:=Dc.1 a;subst this;exact⟨c,0,s.size,r,a2,AY _,AP _⟩
 |false=>
  have d:=h.2.2 rfl;obtain⟨c,a2,_⟩:=d.sp b;have:=a2 (AY _);exact⟨by omega,fun sp a=>⟨c sp a,d.frm b sp a⟩⟩
theorem GF.texts(ps:List Part)(h:GF s W k.x ans fs)(b:k.o=true)(c:k.v=false)(d:ans.isSome=true):Bm k s W ps (fs.map fun sp=>AJ (BK ps s sp)):=by
 unfold Bm;rw[AK (by rw[b];decide),AK (by rw[c];decide)];cases a:k.x with
 |true=>
  rw[AL rfl];obtain⟨l,rfl⟩:=Option.isSome_iff_exists.1 d;rw[a]at h;have e:=h.2.1 rfl;subst e;exact⟨l,h.1,rfl⟩
 |false=>
  rw[AK (by decide)];rw[a]at h;exact⟨fs,h.2.2 rfl,rfl⟩
structure Dx (w wr : World) (k : AX) (W : Whole) (ps : List Part) (ls : List ByteArray) (i : Nat) (O : List UInt8) (m : Nat) : Prop where
 keep : AA [] w wr
 ile : i <= ls.length
 mle : m <= i
 len : O.length <= i * 1010000
 says : ∃ o, (k.c = false -> O = o) ∧ ∀ o' m', Ct k W ps i (ls.drop i) o' m' -> Ct k W ps 0 ls (o ++ o') (m + m')
theorem Dx.start(w:World)(k:AX)(W:Whole)(ps:List Part)(ls:List ByteArray):Dx w w k W ps ls 0 [] 0:=
 ⟨AG _ _,AY _,AP _,by simp,[],fun _=>rfl,fun o' m' h=>by rw[List.drop_zero]at h;rw[Ba,FN];exact h⟩
theorem Dx.skip{a:World}{O:List UInt8}{m:Nat}(L:Dx w wr k W ps ls i O m)(b:ls[i]? =some s)(c:GF s W k.x ans fs)(d:ans.isSome=k.v)(e:AA [] wr a):Dx w a k W ps ls (i+1) O m:=by
 obtain⟨o,f,g⟩:=L.says;have hi:=(BT.1 b).1;refine⟨L.keep.trans e,by omega,by have:=L.mle;omega,BG L.len (Nat.mul_le_mul_right _ (Nat.le_succ i)),o,f,fun o' m' h=>g o' m' ?_⟩;rw[F9 b];exact .skip i s _ o' m' ans c.1 d h
theorem Dx.take{a:World}{O:List UInt8}{m:Nat}{ts:List ByteArray}(L:Dx w wr k W ps ls i O m)(d:ls[i]? =some s)(f:GF s W k.x ans fs)(g:¬ans.isSome=k.v)(l:Bm k s W ps ts)(n:ts.length<=100)(e:∀t∈ts,t.size<=10000)(p:AA [] wr a):Dx w a k W ps ls (i+1) (O++BQ k (i+1) ts) (m+1):=by
 obtain⟨o,q,j⟩:=L.says;have hi:=(BT.1 d).1;have hlen:=Jx k (i+1) ts e;refine⟨L.keep.trans p,by omega,by have:=L.mle;omega,by rw[AW];have:=L.len;omega,if k.c=true then o else o++BQ k (i+1) ts,fun b=>?_,fun o' m' h=>?_⟩
 ·rw[AK (by rw[b];decide),q b]
 ·cases b:k.c with
  |true=>
   rw[AL rfl];have:=j ([]++o') (m'+1) (by
    rw[F9 d];exact .take i s _ o' [] m' ans f.1 g (fun _=>rfl) (fun h=>by rw[b]at h;cases h) h)
   rw[FN]at this;rw[show m+1+m'=m+(m'+1) by omega];exact this
  |false=>
   rw[AK (by decide)];have:=j (BQ k (i+1) ts++o') (m'+1) (by
    rw[F9 d];exact .take i s _ o' _ m' ans f.1 g (fun h=>by rw[b]at h;cases h) (fun _=>⟨ts,l,rfl⟩) h)
   rw[CS,show m+1+m'=m+(m'+1) by omega];exact this
theorem Dx.fin{O:List UInt8}{m:Nat}(L:Dx w wr k W ps ls i O m)(hi:ls.length<=i):∃o,Ct k W ps 0 ls o m∧E6 k o m=.returned (.tuple #[.string (AJ (if k.c=true then Bz m++[10]else O)),.int .i64 (if m=0 then 1 else 0)]):=by
 obtain⟨o,b,d⟩:=L.says;have h:=d [] 0 (by rw[FY hi];exact .nil i);rw[CT,Di]at h;refine⟨o,h,?_⟩;cases a:k.c with
 |true=>
  have e:o=[]:=by
   have key:∀{i:Nat}{ls:List ByteArray}{o:List UInt8}{m:Nat},Ct k W ps i ls o m->o=[]:=by
    intro i ls o m h
    induction h with
    |nil=>rfl
    |skip _ _ _ _ _ _ _ _ _ ih=>exact ih
    |take _ _ _ _ _ _ _ _ _ b _ _ ih=>rw[b a,ih];rfl
   exact key h
  unfold E6;rw[a,e];rfl
 |false=>
  unfold E6;rw[a,b a];simp
def CF(s:ByteArray)(i:Nat)(p:List UInt8):Prop:=∀k c,p[k]? =some c->at' s (i+k)=(c.toNat:Int)
theorem CF.nil:CF s i []:=fun k c h=>by simp at h
theorem CF.cons{c:UInt8}:CF s i (c::p)↔at' s i=(c.toNat:Int)∧CF s (i+1) p:=by
 constructor
 ·intro h;refine⟨h 0 c rfl,fun k d hd=>?_⟩;have:=h (k+1) d (by simpa using hd);rw[show i+1+k=i+(k+1) by omega];exact this
 ·rintro⟨a,b⟩k d hd;cases k with
  |zero=>simp at hd;subst hd;exact a
  |succ k=>
   have:=b k d (by simpa using hd);rw[show i+(k+1)=i+1+k by omega];exact this
theorem CF.app{q:List UInt8}:∀{i:Nat},CF s i (p++q)↔CF s i p∧CF s (i+p.length) q:=by
 induction p with
 |nil=>intro i;simp[CF.nil]
 |cons c p ih=>
  intro i;rw[DL,CF.cons,ih,CF.cons,Aj,show i+1+p.length=i+(p.length+1) by omega];exact⟨fun⟨a,b,d⟩=>⟨⟨a,b⟩,d⟩,fun⟨⟨a,b⟩,d⟩=>⟨a,b,d⟩⟩
def Iu(c:Int):Prop:=c≠42∧c≠43∧c≠63∧c≠123
def pre:List AD->AD->AD
 |[],y=>y
 |x::l,y=> .pcons x (pre l y)
structure Wy (p : List UInt8) (f : Nat -> List AD) (n dep : Nat) : Prop where
 hd : ∃ c r, p = c :: r ∧ Iu (c.toNat : Int)
 rd : ∀ (s : ByteArray) (i d g : Nat) (q : R (AD × Nat)), CF s i p -> d + dep <= 6 -> g + n <= 9 -> Iu (at' s (i + p.length)) -> G s .way d (g + n) (i + p.length) q -> G s .way d g i (q.map fun y => (pre (f g) y.1, y.2))
def Ws(p:List UInt8)(x:Nat->AD)(n dep:Nat):Prop:=
 ∀(s:ByteArray)(i d g:Nat),CF s i p->d+dep<=6->g+n<=9->(at' s (i+p.length)=41∨at' s (i+p.length)=-1)->G s .ways d g i (.ok (x g,g+n) (i+p.length))
def Sg(p:List UInt8)(x:AD):Prop:=(∃c r,p=c::r∧Iu (c.toNat:Int)∧¬Cw (c.toNat:Int))∧∀(s:ByteArray)(i d g:Nat),CF s i p->G s .single d g i (.ok (x,g) (i+p.length))
def Rx(r:List UInt8)(o:Option (Nat×Int)):Prop:=∀(s:ByteArray)(j:Nat),CF s j r->Iu (at' s (j+r.length))->Bj s j (.ok o (j+r.length))
theorem Wy.single{r:List UInt8}{x:AD}{o:Option (Nat×Int)}(h:Sg p x)(f:Rx r o):Wy (p++r) (fun _=>[Cn x o]) 0 0:=by
 obtain⟨⟨c,t,rfl,j,k⟩,h⟩:=h;refine⟨⟨c,t++r,rfl,j⟩,?_⟩;intro s i d g z l hd u he a;obtain⟨b,m⟩:=CF.app.1 l;have e:i+((c::t)++r).length=i+(c::t).length+r.length:=by rw[AW];omega
 rw[e]at he a;have n:=h s i d g b;have q:=G.rep d g i g (i+(c::t).length) x (.ok o (i+(c::t).length+r.length)) n (f s _ m he);exact G.cons d g i g _ _ z (by rw[(CF.cons.1 b).1];exact k) q a
theorem Ws.one{f:Nat->List AD}{n a:Nat}(h:Wy p f n a):Ws p (fun g=> .wone (pre (f g) .pnil)) n a:=by
 intro s i d g b hd c he;have e:=h.rd s i d g (.ok (.pnil,g+n) (i+p.length)) b hd c (by unfold Iu;omega) (G.nil d (g+n) _ (by unfold Cw;omega));exact G.one d g i (g+n) _ _ e (by omega)
theorem Rx.plus:Rx [43] (some (1,-1)):=fun s j a _=>AE (AE (AH ⟨(CF.cons.1 a).1,rfl⟩))
theorem Ws.whole{x:Nat->AD}{n a:Nat}(h:Ws p x n a)(q:a<=6)(t:n<=9)(j:p.head?≠some 94)(s:ByteArray)(e:s.data.toList=p):B6 s (.ok ⟨false,false,x 0,n⟩ p.length):=by
 have b:s.size=p.length:=by rw[<-e,Array.length_toList];rfl
 have f:CF s 0 p:=by
  intro k c d;have l:k<s.size:=by rw[b];exact(BT.1 d).1
  rw[Ba,Bd l];have:s.data.toList[k]? =some c:=by rw[e];exact d
  have m:s[k]=c:=by
   have o:s.data[k]? =some c:=by simpa using this
   exact(AN.1 o).2
  rw[m]
 have he:at' s p.length=-1:=Cu (by omega);have g:=h s 0 0 0 f (by omega) (by omega) (AE (by rw[Ba];exact he));have i:at' s 0≠94:=by
  cases p with
  |nil=>rw[Cu (by rw[b];simp)];decide
  |cons c r=>
   have:=(CF.cons.1 f).1;rw[this];intro d;apply j;simp only[List.head?_cons,Ai];apply Fg.1;have:(94:UInt8).toNat=94:=rfl;omega
 have hw:wi s=0:=by unfold wi;rw[AK i]
 rw[Ba,Ba]at g;refine⟨_,by rw[hw];exact g,?_⟩;rw[GI,he];simp[i,he]
def pk(c:Int)(n:Nat):Nat:=(if c<0 then(-(c+1)).toNat else c.toNat)%n
def cv(zs:List Int)(i:Nat):Nat:=(zs[i]?.map fun z=>pk z 1099511627776).getD 0
theorem Pq:∀(l r:List UInt8),(∀b∈l,b≠10)->Bx (l++10::r)=l::Bx r
 |[],r,_=>by simp[Bx]
 |b::l,r,h=>by
  have ih:=Pq l r (fun a hb=>h a (II _ hb));have hb:=h b (Ig ..);rw[DL,Bx,AK hb,ih]
theorem tpl0(g:Nat):BN kI.tp g 0 (some [.grp 0]):=by
 have b:BN kI.tp g 2 (some []):=.fin 2 (by decide);have a:at' kI.tp (0+1)=48:=by decide
 have e:BP kI.tp g 0=some (.grp 0,2):=by
  unfold BP;rw[AL (by decide),AK (by decide),AK (by decide),AL ⟨by decide,by decide,by rw[a];omega⟩,a];rfl
 exact .go 0 2 _ _ (by decide) e b
theorem Wk(p:ByteArray)(b:¬Co p)(k:AX):BI [p] k (some (k,p)):=.left [p] k (fun a r e=>by cases e;exact b)
theorem Wl{l:List ByteArray}{p:ByteArray}{j:Nat}(a:BI l kI (some (k,p)))(hi:k.i=false)(b:p.size<=60)(c:B6 p (.ok W j))(d:k.tp.size<=100)(e:BN k.tp W.g 0 (some ps)):Cb l (some (k,W,ps)):=by
 have h:=Cb.ok k p W j ps a b c d e;unfold AX.w at h;rw[hi,Whole.fo_false]at h;exact h
structure EV (w wr : World) (s : ByteArray) (fr i : Nat) (v : Value) (ls : List ByteArray) : Prop where
 row : Ca wr v ls
 fresh : ∀ g, v.ownBlock = some g -> w.heap.size <= g
 keep : AA [] w wr
 fle : fr <= i
 ile : i <= s.size + 1
 no : ∀ j (h : j < s.size), fr <= j -> j < i -> s[j] ≠ 10
 says : Bx s.data.toList = ls.map (·.data.toList) ++ Bx (s.data.toList.drop fr)
 ok : ∀ a ∈ ls, a.size <= 100
 len : ls.length <= fr
 fin : i = s.size + 1 -> s.size <= fr
theorem MQ(s:ByteArray)(i j:Nat):(s.extract i j).data.toList=(s.data.toList.drop i).take (j-i):=by
 have:(s.extract i j).data=s.data.extract i j:=by simp
 rw[this];simp[List.extract_eq_take_drop]
theorem Pr(n:fr<=i)(hi:i<s.size)(d:∀j(h:j<s.size),fr<=j->j<i->s[j]≠10)(a:s[i]=10):Bx (s.data.toList.drop fr)=(s.extract fr i).data.toList::Bx (s.data.toList.drop (i+1)):=by
 have o:s.data.toList.length=s.size:=rfl;have e:s.data.toList.drop fr=(s.extract fr i).data.toList++10::s.data.toList.drop (i+1):=by
  rw[MQ];have c:s.data.toList.drop i=s.data.toList[i]::s.data.toList.drop (i+1):=GO (by omega);have f:s.data.toList[i]=(10:UInt8):=a;rw[f]at c;rw[<-c];have g:(s.data.toList.drop fr).drop (i-fr)=s.data.toList.drop i:=by rw[List.drop_drop];congr 1;omega
  rw[<-g];exact(List.take_append_drop _ _).symm
 rw[e];refine Pq _ _ fun b hb=>?_
 rw[MQ]at hb;obtain⟨k,l,rfl⟩:=GJ.1 hb;have m:k<i-fr∧k<s.data.toList.length-fr:=by
  have:=l;rw[EG,Ey]at this;omega
 rw[List.getElem_take,List.getElem_drop];exact d (fr+k) (by omega) (by omega) (by omega)
theorem Ps:∀(l:List UInt8),l≠[]->(∀b∈l,b≠10)->Bx l=[l]
 |[],h,_=>absurd rfl h
 |[b],_,h=>by
  have hb:=h b (Ig ..);rw[Bx,AK hb];rfl
 |b::c::l,_,h=>by
  have ih:=Ps (c::l) (by simp) (fun x a=>h x (II _ a));have hb:=h b (Ig ..);rw[Bx,AK hb,ih]
theorem Pt(f:fr<s.size)(a:∀j(h:j<s.size),fr<=j->j<s.size->s[j]≠10):Bx (s.data.toList.drop fr)=(s.extract fr s.size).data.toList::Bx (s.data.toList.drop (s.size+1)):=by
 have g:s.data.toList.length=s.size:=rfl;have e:(s.extract fr s.size).data.toList=s.data.toList.drop fr:=by
  rw[MQ];exact FC (by rw[Ey];omega)
 have c:s.data.toList.drop (s.size+1)=[]:=FY (by omega);rw[c,e];refine Ps _ (by intro h;have:=List.drop_eq_nil_iff.1 h;omega) fun b hb=>?_
 obtain⟨k,d,rfl⟩:=GJ.1 hb;rw[Ey]at d;rw[List.getElem_drop];exact a (fr+k) (by omega) (by omega) (by omega)
theorem Wm(h:Bx s.data.toList=ls.map (·.data.toList)):By s=ls:=by
 unfold By;rw[h,List.map_map];have:(AJ∘fun a:ByteArray=>a.data.toList)=id:=by funext a;simp[AJ]
 rw[this,List.map_id]
def MR(s:ByteArray)(w:World)(e:Ending)(w':World):Prop:=
 AA [] w w'∧((∃r,e=.returned (.tuple #[r,.bool true])∧s.size<=2000∧(∀a∈By s,a.size<=100)∧Ca w' r (By s)∧∀g,r.ownBlock=some g->w.heap.size<=g)∨(e=.returned (.tuple #[.slice none 0 0,.bool false])∧(2000<s.size∨∃a∈By s,100<a.size)))
theorem EV.pass{v:Value}(L:EV w wr s fr i v ls)(hi:i<=s.size)(a:∀h:i<s.size,s[i]≠10)(he:i=s.size->fr=i):EV w wr s fr (i+1) v ls:=
 ⟨L.row,L.fresh,L.keep,by have:=L.fle;omega,by omega,fun j h b c=>by
  by_cases e:j=i
  ·subst e;exact a h
  ·exact L.no j h b (by omega),L.says,L.ok,L.len,fun h=>by have:=he (by omega);omega⟩
theorem EV.next{w7:World}{v:Value}{g' cap:Nat}(L:EV w wr s fr i v ls)(hi:i<=s.size)(g:∀h:i<s.size,s[i]=10)(he:i=s.size->fr<i)(hlen:i-fr<=100)(c:w7.ownsRow 0 9 1 (.slice (some ⟨g',0,none⟩) (ls.length+1) cap) (ls.length+1) (ls.map Value.string++[.string (s.extract fr i)]))(b:(wr.alloc (.cells #[.string (s.extract fr i)] 9)).grownBy w7 v.ownBlock)(k:v.ownBlock=some g'∨g'=wr.heap.size+1):EV w w7 s (i+1) (i+1) (.slice (some ⟨g',0,none⟩) (ls.length+1) cap) (ls++[s.extract fr i]):=by
 have l:AA v.ownBlock.toList wr w7:=((AG v.ownBlock.toList wr).alloc _).trans (De b);have p:=L.fle;have m:(s.extract fr i).size<=100:=by rw[Ef];omega
 refine⟨?_,?_,L.keep.fresh l fun y f=>AE (by rw[Ay]at f;exact L.fresh y f),AP _,by omega,fun j _ n o=>by omega,?_,?_,?_,fun h=>by omega⟩
 ·unfold Ca;rw[AW,Fq];exact c
 ·intro y f;cases f;rcases k with h|h
  ·exact L.fresh _ h
  ·have:=L.keep.size;show w.heap.size<=g';omega
 ·rw[L.says,Fq,CS];congr 1;by_cases e:i=s.size
  ·subst e;exact Pt (he rfl) fun j h n o=>L.no j h n o
  ·exact Pr L.fle (by omega) L.no (g (by omega))
 ·intro a d;rcases Bb.1 d with d|d
  ·exact L.ok a d
  ·rw[Dc.1 d];exact m
 ·rw[AW];have:=L.len;simp;omega
theorem EV.long{v:Value}(L:EV w wr s fr i v ls)(hi:i<=s.size)(b:∀h:i<s.size,s[i]=10)(he:i=s.size->fr<i)(hlen:¬i-fr<=100):∃a∈By s,100<a.size:=by
 refine⟨s.extract fr i,?_,by rw[Ef];have:=L.fle;omega⟩;have h:Bx (s.data.toList.drop fr)=(s.extract fr i).data.toList::Bx (s.data.toList.drop (i+1)):=by
  by_cases e:i=s.size
  ·subst e;exact Pt (he rfl) fun j h c d=>L.no j h c d
  ·exact Pr L.fle (by omega) L.no (b (by omega))
 unfold By;rw[L.says,h,Fq,D6];refine List.mem_append_right _ ?_;rw[Jm];exact Ig ..
theorem Pu(s:ByteArray)(w:World):Calls Tryz.prog 107 #[.string s] w (MR s w):=by
 by_cases T:s.size<=2000
 rotate_left
 ·have U:(2000:Int)<(s.size:Int):=by omega
  have D:Hid (2000<s.size):=by show _<_;omega
  clear T;go_enter Tryz.func107,Tryz.ntmps107;go_wp2_with fail;go_ret2;exact⟨AG _ _,AE ⟨rfl,AH D.o⟩⟩
 obtain⟨i0,F,G,H,I⟩:=A2 Ip;have J:=Gm;have U:¬(2000:Int)<(s.size:Int):=by omega
 have af:(s.size:Int)<=2000:=by omega
 have HS:Hid (s.size<=2000):=T;clear T;go_enter Tryz.func107,Tryz.ntmps107;go_wp2_with fail;go_loopw [4,5,6] (fun q4 q5 V wr=>∃(fr i:Nat)(ls:List ByteArray),q5=.int .i64 fr∧V=.int .i64 i∧EV w wr s fr i q4 ls) (fun _ _ V _=>s.size+1-(intOf V).toNat)
 case atStart=>exact⟨0,0,[],rfl,rfl,⟨⟨rfl,.inl ⟨rfl,rfl⟩⟩,fun g h=>by simp[Value.ownBlock]at h,AG _ _,AP _,AY _,fun j _ _ h=>by omega,by simp,by simp,by simp,fun h=>by omega⟩⟩
 case round=>
  obtain⟨fr,i,ls,rfl,rfl,L⟩:=hrel;obtain⟨va,vn,vc,rfl⟩:=A6 L.row;have HL:Hid (EV w wr s fr i (.slice va vn vc) ls):=L;have m:=L.fle;have p:=L.ile;by_cases hex:i<=s.size
  rotate_left
  ·have K:¬(i:Int)<=(s.size:Int):=by omega
   have y:By s=ls:=by
    have h:=L.says;have hl:s.data.toList.length=s.size:=rfl;rw[FY (by have:=L.fin (by omega);omega)]at h;rw[show Bx []=[]from rfl,CT]at h;exact Wm h
   have D:Hid (MR s w (.returned (.tuple #[.slice va vn vc,.bool true])) wr):=⟨L.keep,AH ⟨_,rfl,HS.o,by rw[y];exact L.ok,by rw[y];exact L.row,L.fresh⟩⟩;clear L hex y m p;go_wp2_with fail;go_ret2;exact D.o
  have K:(i:Int)<=(s.size:Int):=by omega
  have aa:(0:Int)<=(i:Int):=by omega
  have ab:(0:Int)<=(fr:Int):=by omega
  have ag:(fr:Int)<=(i:Int):=by omega
  have ac:(i:Int)<=2000:=by omega
  have z:(∃h:i<s.size,s[i]≠10)∨(i=s.size∧fr=i)∨((∀h:i<s.size,s[i]=10)∧(i=s.size->fr<i)):=by
   by_cases h:i<s.size
   ·by_cases E:s[i]=10
    ·exact AE (AE ⟨fun _=>E,fun e=>by omega⟩)
    ·exact AH ⟨h,E⟩
   ·by_cases E:fr=i
    ·exact AE (AH ⟨by omega,E⟩)
    ·exact AE (AE ⟨fun h'=>by omega,fun _=>by omega⟩)
  rcases z with⟨hlt,A⟩|⟨he,M⟩|⟨q,r⟩
  ·have x:(i:Int)<(s.size:Int):=by omega
   have N:((s[i].toNat:Int)==10)=false:=by
    simp only[beq_eq_false_iff_ne,ne_eq];intro e;exact A (Fg.1 (by show s[i].toNat=10;omega))
   have ad:((s[i].toNat:Int)!=10)=true:=by rw[bne,N];rfl
   have ae:¬(s[i].toNat:Int)=10:=by simpa using N
   have O:Hid (EV w wr s fr (i+1) (.slice va vn vc) ls∧i<=s.size):=⟨L.pass (by omega) (fun _=>A) (fun e=>by omega),by omega⟩;clear L A hex m p;go_wp2_with fail;go_roundw
   case rel=>exact⟨fr,i+1,ls,rfl,by go_num,O.o.1⟩
   case measure=>have:=O.o.2;simp[intOf];omega
  ·have O:Hid (EV w wr s fr (i+1) (.slice va vn vc) ls∧i<=s.size):=⟨L.pass (by omega) (fun h=>by omega) (fun e=>M),by omega⟩;subst he;subst M;clear L hex m p;go_wp2_with fail;go_roundw
   case rel=>exact⟨_,_,ls,rfl,by go_num,O.o.1⟩
   case measure=>have:=O.o.2;simp[intOf]
  ·have ah:(i:Int)-(fr:Int)<=2000:=by omega
   have ai:(0:Int)<=(i:Int)-(fr:Int):=by omega
   obtain⟨d,hd⟩:=An (i-fr);have aj:(i:Int)-(fr:Int)=(d:Int):=by omega
   have t:Hid ((¬i-fr<=100->∃a∈By s,100<a.size)∧i-fr=d):=⟨fun h=>L.long (by omega) q r h,hd⟩;have u:Hid (∀g' cap w7,i-fr<=100->w7.ownsRow 0 9 1 (.slice (some ⟨g',0,none⟩) (ls.length+1) cap) (ls.length+1) (ls.map Value.string++[.string (s.extract fr i)])->(wr.alloc (.cells #[.string (s.extract fr i)] 9)).grownBy w7 (Value.slice va vn vc).ownBlock->((Value.slice va vn vc).ownBlock=some g'∨g'=wr.heap.size+1)->EV w w7 s (i+1) (i+1) (.slice (some ⟨g',0,none⟩) (ls.length+1) cap) (ls++[s.extract fr i])):=fun g' cap w7 U E h3 h4=>L.next (by omega) q r U E h3 h4
   have f:wr.ownsRow 0 9 1 (.slice va vn vc) ls.length (ls.map Value.string):=L.row;have W:=L.keep;have HI:Hid (i<=s.size):=hex;have X:ls.length<=2001:=by have:=L.len;omega
   obtain⟨n,hn⟩:=An ls.length;rw[hn]at f u X;have P:n+1<=maxLen:=by unfold maxLen;omega
   have Q:(n+1)*16<=140737488355328:=by omega
   have R:(∃h:i<s.size,((s[i].toNat:Int)==10)=true∧((i:Int)==(s.size:Int))=false)∨(i=s.size∧((fr:Int)==(s.size:Int))=false):=by
    by_cases h:i<s.size
    ·refine AH ⟨h,?_,by simp;omega⟩;rw[q h];rfl
    ·have:=r (by omega);exact AE ⟨by omega,by simp;omega⟩
   clear L q r hex m p hn hd;by_cases B:d<=100
   ·have Y:¬(100:Int)<(d:Int):=by omega
    have HD:Hid (d<=100):=B;clear B;rcases R with⟨hlt,v,C⟩|⟨rfl,C⟩
    ·have x:(i:Int)<(s.size:Int):=by omega
     have Z:((s[i].toNat:Int)!=10)=false:=by rw[bne,v];rfl
     have S:(s[i].toNat:Int)=10:=by simpa using v
     have ak:Hid ((s[i].toNat:Int)=10):=S;clear S;go_wp2_with(first|(at_builtin;refine CC _ rfl _ _ _ rfl 0 9 i0 _ 1 16 J F G H I rfl (by decide) (.slice va vn vc) n _ rfl (f.alloc _) ⟨wr.heap.size,0,none⟩ 1 1 [.string (s.extract fr i)] rfl rfl (cell_one_new _ _ _) (by simp[Value.oneCell']) (by omega) P Q (AY _) (wr.heap.size+1) (by simp) ?_;intro g' cap w7 b c k l));have L7:=u.o g' cap w7 (by have:=t.o.2;have:=HD.o;omega) b c k;clear b c k l;go_wp2_with fail;go_roundw
     case rel=>exact⟨i+1,i+1,_,by go_num,by go_num,L7⟩
     case measure=>have:=HI.o;simp[intOf];omega
    ·go_wp2_with(first|(at_builtin;refine CC _ rfl _ _ _ rfl 0 9 i0 _ 1 16 J F G H I rfl (by decide) (.slice va vn vc) n _ rfl (f.alloc _) ⟨wr.heap.size,0,none⟩ 1 1 [.string (s.extract fr s.size)] rfl rfl (cell_one_new _ _ _) (by simp[Value.oneCell']) (by omega) P Q (AY _) (wr.heap.size+1) (by simp) ?_;intro g' cap w7 b c k l));have L7:=u.o g' cap w7 (by have:=t.o.2;have:=HD.o;omega) b c k;clear b c k l;go_wp2_with fail;go_roundw
     case rel=>exact⟨s.size+1,s.size+1,_,by go_num,by go_num,L7⟩
     case measure=>have:=HI.o;simp[intOf]
   ·have Y:(100:Int)<(d:Int):=by omega
    have D:Hid (MR s w (.returned (.tuple #[.slice none 0 0,.bool false])) wr):=⟨W,AE ⟨rfl,AE (t.o.1 (by have:=t.o.2;omega))⟩⟩;clear B u f;rcases R with⟨hlt,v,C⟩|⟨rfl,C⟩
    ·have x:(i:Int)<(s.size:Int):=by omega
     have Z:((s[i].toNat:Int)!=10)=false:=by rw[bne,v];rfl
     go_wp2_with fail;go_ret2;exact D.o
    ·go_wp2_with fail;go_ret2;exact D.o
