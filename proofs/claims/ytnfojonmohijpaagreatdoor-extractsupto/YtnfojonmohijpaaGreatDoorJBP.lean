/-
  DERIVED. The program's stretchesIn. Conditions: the line is at most 100 bytes long.
-/
import Derived.Test.YtnfojonmohijpaaGreatDoorJBB
set_option linter.all false
set_option maxRecDepth 100000
set_option maxHeartbeats 8000000
namespace Go.Proofs.YtnfojonmohijpaaGreatDoor
open Go.RowKit
variable{w w':World}{v:Value}{b bt i k:Nat}{A D Z:List Nat}{nds:List Nd}{s:ByteArray}
def FV:=@List.getElem?_map
structure Ij (w : World) (v : Value) (fs : List (List Int)) : Prop where
 row : ∃ cs, w.ownsRow 0 32 1 v fs.length cs ∧ ∀ (k : Nat) (sp : List Int), fs[k]? = some sp -> ∃ g c, cs[k]? = some (.slice (some ⟨g, 0, none⟩) sp.length c) ∧ Cl w (.slice (some ⟨g, 0, none⟩) sp.length c) sp ∧ v.ownBlock ≠ some g
theorem Ij.keep{fs:List (List Int)}(h:Ij w v fs)(a:AA [] w w'):Ij w' v fs:=by
 obtain⟨cs,b,d⟩:=h.row;refine⟨cs,Ep b a (by simp),fun k sp e=>?_⟩;obtain⟨g,c,f,a2,a3⟩:=d k sp e;exact⟨g,c,f,a2.keep a,a3⟩
theorem Lu:(Tryz.prog.info? 32).map (fun i=>(i.zero,i.size,i.bytes))=some (some (.slice none 0 0),1,24):=by kernel_rfl
structure Ik (w wr : World) (b : Nat) (s : ByteArray) (W : Whole) (i : Nat) (v : Value) (fs : List (List Int)) : Prop where
 row : Ij wr v fs
 fresh : ∀ g, v.ownBlock = some g -> w.heap.size <= g ∧ g ≠ b
 len : fs.length <= i
 ile : i <= s.size + 1
 keep : AA [] w wr
 says : ∀ l, Bl s W i l -> Bl s W 0 (fs ++ l)
theorem Uk(s:ByteArray)(W:Whole)(v a c:Value)(w:World)(h:EH w s W v a c):Calls Tryz.prog 160 #[.string s,.agg (Bi W v s a c)] w fun e w'=>∃r fs,e=.returned r∧Bl s W 0 fs∧Ij w' r fs∧AA [] w w':=by
 obtain⟨i0,aF,aG,aH,aI⟩:=A2 Lu;have aJ:=Tryz.underlying49;have aU:∀(w:World)(a:Option Addr)(n c n' c':Nat),(binOp .eql 32 (.slice a n c) (.slice none n' c')).run Tryz.prog w=.ok (.bool a.isNone) w:=fun w a n c n' c'=>Lib.run_eql_slice_nil w _ _ a n c n' c' Fp
 have aV:(s.size:Int)<=100:=by have:=h.len;omega
 have HS:Hid (s.size<=100):=h.len;have HG:Hid (∀m,W.x.has m->0<m∧m<=W.g):=h.nest.2;have HM:Hid (EH w s W v a c):=h;have h0:(w.alloc (.cells (Bi W v s a c) 80)).heap[w.heap.size]? =some (.cells (Bi W v s a c) 80 (0,0)):=AS w _;have ah:AA [] w (w.alloc (.cells (Bi W v s a c) 80)):=(AG [] w).alloc _;have aK:Hid (∀(X:World)(fr:Nat),AA [] w X->fr<=s.size->Calls Tryz.prog 65 #[.agg #[.bool W.bg,.bool W.en,v,.int .i64 (W.g:Int),.string s,a,c],.int .i64 fr] X fun e w'=>∃r ans,e=.returned r∧BF s W fr ans∧IW w' X.heap.size r ans∧AA [] X w'):=fun X fr D hf=>O0 s W v a c X (HM.o.keep D) fr hf
 unfold Bi at*;clear h;go_enter Tryz.func160,Tryz.ntmps160;go_upto_region 3 with(fail)
 have aL:(w.alloc (.cells #[.bool W.bg,.bool W.en,v,.int .i64 (W.g:Int),.string s,a,c] 80)).heap.size=w.heap.size+1:=by simp
 generalize w.alloc (.cells #[.bool W.bg,.bool W.en,v,.int .i64 (W.g:Int),.string s,a,c] 80)=X at*;obtain⟨b,hb⟩:=An w.heap.size;have HB:Hid (w.heap.size=b):=hb;rw[hb]at h0⊢;have aM:b<X.heap.size:=by omega
 clear hb aL;go_loopw [5,6] (fun q5 q6 wr=>∃(i:Nat)(fs:List (List Int)),q6=.int .i64 i∧Ik X wr b s W i q5 fs) (fun _ q6 _=>s.size+1-(intOf q6).toNat)
 case atStart=>exact⟨0,[],rfl,⟨⟨[],⟨rfl,.inl ⟨rfl,rfl⟩⟩,fun k sp D=>by simp at D⟩,(fun g h=>by cases h),AP _,AY _,AG _ _,fun l h=>h⟩⟩
 case round=>
  obtain⟨i,fs,rfl,L⟩:=hrel;obtain⟨cs,p,S⟩:=L.row.row;obtain⟨E,F,G,rfl⟩:=A6 p;have B:Hid (Ik X wr b s W i (.slice E F G) fs):=L;have T:=(L.keep.block b aM (by simp)).trans h0;have H:=ah.trans L.keep;have HI:Hid (i<=s.size+1):=L.ile;by_cases hlt:i<s.size
  rotate_left
  ·have an:¬(i:Int)<(s.size:Int):=by omega
   have HE:Hid (Bl s W 0 fs):=by show Bl s W 0 fs;have:=B.o.says [] (.fin i (by omega));rw[CT]at this;exact this
   clear L hlt p S T;go_wp2_with fail;go_ret
   first|exact⟨_,fs,rfl,HE.o,B.o.row,H⟩|exact⟨_,rfl,fs,HE.o,B.o.row,H⟩
  have an:(i:Int)<(s.size:Int):=by omega
  have f:Hid (i<s.size):=hlt;clear L hlt;go_wp2_with(first|(refine As rfl 80 _ rfl b rfl _ _ _ _ T Ck rfl (Cq _ _ _ _ _ _ _) ?_));refine(aK.o wr i H (by have:=f.o;omega)).mono ?_;rintro e w2⟨r,ans,rfl,hF,hI,t⟩;cases ans with
  |none=>
   have hr:r=.slice none 0 0:=hI;subst hr;have HE:Hid (Bl s W 0 fs):=by show Bl s W 0 fs;have:=B.o.says [] (.none i f.o hF);rw[CT]at this;exact this
   have ac:=B.o.row.keep t;have ao:=H.trans t;clear hF hI p S T t;go_wp2_with fail;go_ret
   first|exact⟨_,fs,rfl,HE.o,ac,ao⟩|exact⟨_,rfl,fs,HE.o,ac,ao⟩
  |some l=>
   obtain⟨_,ix,j,rr,hl,ap,aq,ar⟩:=hF.sp HG.o;obtain⟨U,g,cg,rfl,aW⟩:=hI.fnd (by rw[hl];simp);obtain⟨_,_,he,ad,I⟩:=U.sl;cases he;have aN:=I 0 ix (by rw[hl];rfl);have aO:=I 1 j (by rw[hl];rfl);have ae:AA [] X w2:=B.o.keep.trans t;obtain⟨V,Z⟩:=An l.length;have au:Hid (l.length=V):=Z;have aw:(1:Int)<(V:Int):=by rw[<-Z,hl];simp;omega
   have aX:(0:Int)<(V:Int):=by omega
   have ai:Hid (l=(ix:Int)::(j:Int)::rr):=hl;have HF:Hid (BF s W i (some l)):=hF;have u:Hid (i<=ix∧ix<=j∧j<=s.size):=⟨ap,aq,ar⟩;have aY:(j:Int)<=100:=by omega
   have aZ:(0:Int)<=(j:Int):=by omega
   rw[Z]at U⊢;have J:=Ep p t (by simp);have af:∀(k:Nat)(sp:List Int),fs[k]? =some sp->∃g c,cs[k]? =some (.slice (some ⟨g,0,none⟩) sp.length c)∧Cl w2 (.slice (some ⟨g,0,none⟩) sp.length c) sp∧(Value.slice E F G).ownBlock≠some g:=fun k sp hs=>by
    obtain⟨g,c,a1,a2,a3⟩:=S k sp hs;exact⟨g,c,a1,a2.keep t,a3⟩
   clear hF hI hl I Z T ap aq ar H p S;go_upto_region 6 with(fail)
   go_quiet (fail);have A:AA [] w2 (w2.drewN nq):=(AG [] w2).drewN nq;have hk3:=t.trans A;have K:=ae.trans A;have ag:=U.keep A;have aP:g<(w2.drewN nq).heap.size:=BL ad A.size;have d:=Ep J A (by simp);have M:∀(k:Nat)(sp:List Int),fs[k]? =some sp->∃g c,cs[k]? =some (.slice (some ⟨g,0,none⟩) sp.length c)∧Cl (w2.drewN nq) (.slice (some ⟨g,0,none⟩) sp.length c) sp∧(Value.slice E F G).ownBlock≠some g:=fun k sp hs=>by
    obtain⟨g,c,a1,a2,a3⟩:=af k sp hs;exact⟨g,c,a1,a2.keep A,a3⟩
   generalize w2.drewN nq=Y at*;clear A t ae U J af aN aO ad;by_cases aa:ix<j
   ·have ax:(ix:Int)<(j:Int):=by omega
    have C:Hid (ix<j):=aa;have aj:=B.o.len;obtain⟨n,hn⟩:=An fs.length;rw[hn]at d aj;have N:Hid (fs.length=n∧n<=i):=⟨hn,aj⟩;have aQ:n+1<=maxLen:=by unfold maxLen;have:=f.o;have:=HS.o;omega
    have aR:(n+1)*24<=140737488355328:=by have:=f.o;have:=HS.o;omega
    have hH:(Y.alloc (.cells #[.slice (some ⟨g,0,none⟩) V cg] 32)).heap.size=Y.heap.size+1:=by simp
    have O:∀q x,([.slice (some ⟨g,0,none⟩) V cg]:List Value)[q]? =some x->(Y.alloc (.cells #[.slice (some ⟨g,0,none⟩) V cg] 32)).cell? ((⟨Y.heap.size,0,none⟩:Addr).add q)=some x:=Dq (cs:=#[.slice (some ⟨g,0,none⟩) V cg]) (AS Y _);have ay:∀x∈([.slice (some ⟨g,0,none⟩) V cg]:List Value),x.oneCell'=true:=by simp[Value.oneCell']
    have az:Hid (∀(k:Nat)(sp:List Int),fs[k]? =some sp->∃g c,cs[k]? =some (.slice (some ⟨g,0,none⟩) sp.length c)∧Cl Y (.slice (some ⟨g,0,none⟩) sp.length c) sp∧(Value.slice E F G).ownBlock≠some g):=M;clear aa hn aj M;go_wp2_with(first|(at_builtin;refine CC _ rfl _ _ _ rfl 0 32 i0 _ 1 24 aJ aF aG aH aI rfl (by decide) (.slice E F G) n _ rfl (d.alloc _) ⟨Y.heap.size,0,none⟩ 1 1 [.slice (some ⟨g,0,none⟩) V cg] rfl rfl O ay (by omega) aQ aR (AY _) (Y.heap.size+1) hH ?_));intro g' cap w5 P Q aA aB;have ab:AA (Value.slice E F G).ownBlock.toList Y w5:=((AG _ Y).alloc _).trans (De Q);have ak:=B.o.fresh;have al:(Value.slice E F G).ownBlock=some g'∨Y.heap.size<=g':=aA.imp id fun h=>by omega
    have hold:∀x,(Value.slice E F G).ownBlock=some x->x<wr.heap.size:=fun x hx=>by
     obtain⟨a4,ho,_⟩:=B.o.row.row;exact(A3 ho x hx).2
    have aC:cs.length=n:=by have:=d.1;omega
    have am:∀(gk ck:Nat)(sp:List Int),Cl Y (.slice (some ⟨gk,0,none⟩) sp.length ck) sp->(Value.slice E F G).ownBlock≠some gk->Cl w5 (.slice (some ⟨gk,0,none⟩) sp.length ck) sp∧(Value.slice (some ⟨g',0,none⟩) (n+1) cap).ownBlock≠some gk:=fun gk ck sp hF aD=>by
     obtain⟨_,_,he,aE,aw⟩:=hF.sl;cases he;refine⟨⟨gk,ck,rfl,BL aE ab.size,fun k z hz=>(Ad (ab.block gk aE (by rw[Ay];exact aD))).trans (aw k z hz)⟩,fun e=>?_⟩;have e':g'=gk:=DC e;rcases al with h|h
     ·exact aD (by rw[h,e'])
     ·omega
    have L5:Ik X w5 b s W j (.slice (some ⟨g',0,none⟩) (n+1) cap) (fs++[l]):=by
     refine⟨⟨_,by rw[AW,N.o.1];exact P,?_⟩,?_,?_,?_,?_,?_⟩
     ·intro k sp D;rw[List.getElem?_append]at D;split at D
      ·rename_i aS;obtain⟨gk,ck,a1,a2,a3⟩:=az.o k sp D;obtain⟨m1,m2⟩:=am gk ck sp a2 a3;exact⟨gk,ck,by rw[Db (by have:=N.o;omega)];exact a1,m1,m2⟩
      ·rename_i aS;have ah:k-fs.length=0:=by
        rcases Nat.eq_zero_or_pos (k-fs.length)with h|h
        ·exact h
        ·rw[List.getElem?_eq_none (by simp;omega)]at D;cases D
       rw[ah]at D;cases D;have aT:k=n:=by have:=N.o;omega
       rw[<-au.o]at ag;obtain⟨m1,m2⟩:=am g cg l ag (fun e=>by have:=hold g e;omega);refine⟨g,cg,?_,m1,m2⟩;rw[ER (by omega),aC,aT,Nat.sub_self,au.o];rfl
     ·intro y hy;cases hy;rcases al with h|h
      ·exact ak _ h
      ·have:=K.size;exact⟨by show X.heap.size<=g';omega,by show g'≠b;omega⟩
     ·rw[AW,N.o.1];have:=N.o.2;have:=u.o;have:=C.o;simp;omega
     ·have:=u.o;omega
     ·exact K.fresh ab (by
       intro y hy;rw[Ay]at hy;exact AE (ak y hy).1)
     ·intro q hq;have h:=B.o.says _ (.hit i ix j rr q f.o (by rw[<-ai.o];exact HF.o) C.o hq);rw[CS];rw[<-ai.o]at h;exact h
    have R:Hid (Ik X w5 b s W j (.slice (some ⟨g',0,none⟩) (n+1) cap) (fs++[l])):=L5;clear P Q O hH ay ab d aA al L5 aB ak hold aC am;go_wp2_with fail
    first
     |exact⟨⟨j,_,rfl,R.o⟩,by have:=u.o;have:=C.o;have:=f.o;simp[intOf];omega⟩
     |(
      go_roundw
      case rel=>exact⟨j,_,rfl,R.o⟩
      case measure=>have:=u.o;have:=C.o;have:=f.o;simp[intOf];omega)
   ·have ax:¬(ix:Int)<(j:Int):=by omega
    have C:Hid (¬ix<j):=aa;have L5:Ik X Y b s W (j+1) (.slice E F G) fs:=⟨B.o.row.keep hk3,B.o.fresh,by have:=B.o.len;have:=u.o;omega,by have:=u.o;omega,K,fun l' h'=>B.o.says l' (.empty i ix j rr l' f.o (by rw[<-ai.o];exact HF.o) C.o h')⟩;have R:Hid (Ik X Y b s W (j+1) (.slice E F G) fs):=L5;clear aa L5 d M;go_wp2_with fail
    first
     |exact⟨⟨j+1,fs,by go_num,R.o⟩,by have:=u.o;have:=f.o;simp[intOf];omega⟩
     |(
      go_roundw
      case rel=>exact⟨j+1,fs,by go_num,R.o⟩
      case measure=>have:=u.o;have:=f.o;simp[intOf];omega)
theorem flat_get{a:List (List Value)}(b:∀c,c∈a->c.length=6):∀{k:Nat}{cs:List Value},a[k]? =some cs->∀j,j<6->a.flatten[k*6+j]? =cs[j]? :=by
 induction a with
 |nil=>intro k cs h;simp at h
 |cons c a ih=>
  intro k cs h j f;have d:=b c (by simp);cases k with
  |zero=>
   have e:c=cs:=by simpa using h
   subst e;rw[List.flatten_cons,Nat.zero_mul,Ba,Db (by omega)]
  |succ k=>
   have g:a[k]? =some cs:=by simpa using h
   rw[List.flatten_cons,ER (by omega),show(k+1)*6+j-c.length=k*6+j from by omega];exact ih (fun c d=>b c (by simp[d])) g j f
theorem Bg.node(h:Bg w b A v nds){nd:Nd}(l:nds[k]? =some nd):∃g cap d kv,v=.slice (some ⟨g,0,none⟩) nds.length cap∧k<nds.length∧JC w (Bf b A v) d nd∧DK w (Bf b A v) kv nd.kids∧w.cell? ⟨g,k*6,none⟩=some (.int .u8 nd.kind)∧w.cell? ⟨g,k*6+1,none⟩=some d∧w.cell? ⟨g,k*6+2,none⟩=some (.int .i64 nd.n)∧w.cell? ⟨g,k*6+3,none⟩=some (.int .i64 nd.mn)∧w.cell? ⟨g,k*6+4,none⟩=some (.int .i64 nd.mx)∧w.cell? ⟨g,k*6+5,none⟩=some kv:=by
 obtain⟨f,y,m,q,r,o⟩:=h;have hlt:=(BT.1 l).1;obtain⟨g,cap,rfl,_,_⟩:=m.form (by omega);have s:∀c,c∈f->c.length=6:=by
  intro c a;obtain⟨j,i,rfl⟩:=GJ.1 a;obtain⟨cs,e,d,kv,rfl,_⟩:=o j (nds[j]'(by omega)) (Ax (by omega));rw[Ax i]at e
  injection e with e
  rw[e];rfl
 obtain⟨cs,e,d,kv,rfl,t,x⟩:=o k nd l;refine⟨g,cap,d,kv,rfl,hlt,t,x,?_⟩;have a:=fun j u i(hu:[Value.int .u8 nd.kind,d,.int .i64 nd.n,.int .i64 nd.mn,.int .i64 nd.mx,kv][j]? =some u)=>m.cells (g:=g) rfl (k*6+j) u ((flat_get s e j i).trans hu)
 have p:=a 0 _ (by omega) rfl;have c1:=a 1 _ (by omega) rfl;have c2:=a 2 _ (by omega) rfl;have c3:=a 3 _ (by omega) rfl;have c4:=a 4 _ (by omega) rfl;have c5:=a 5 _ (by omega) rfl;simp only[Addr.add_lit,Ba,Di]at p c1 c2 c3 c4 c5;exact⟨p,c1,c2,c3,c4,c5⟩
theorem AA.cell(h:AA [] w w'){a:Addr}(b:w.cell? a=some v):w'.cell? a=some v:=
 (Ad (h.block a.block (BV w a b) (by simp))).trans b
theorem DK.form{av:List Nat}{kv:Value}{kids:List Nat}(h:DK w av kv kids):∃b a,kv=.slice b kids.length a∧∀i(hi:i<kids.length),∃kb,b=some ⟨kb,0,none⟩∧w.cell? ⟨kb,i,none⟩=some (.int .i64 ((kids[i]'hi:Nat):Int)):=by
 rcases h.1.2 with⟨rfl,c⟩|⟨kb,a,cur,rfl,_⟩
 ·exact⟨none,0,by rw[c],fun i hi=>by omega⟩
 ·refine⟨some ⟨kb,0,none⟩,a,rfl,fun i hi=>⟨kb,rfl,?_⟩⟩;have:=h.1.cells (g:=kb) rfl i (.int .i64 ((kids[i]'hi:Nat):Int)) (by simp[hi]);simpa[Addr.add_lit]using this
def DR(c:Nat):Nat:=if 97<=c∧c<=122 then c-32 else if 65<=c∧c<=90 then c+32 else c
def Bw(fo:Bool)(f:Nat->Bool)(c:Nat):Bool:=f c||fo&&f (DR c)
theorem Ul(f:Nat->Bool):Bw false f=f:=by funext c;simp[Bw]
def AD.fo(fo:Bool):AD->AD
 | .set f=> .set (Bw fo f)
 | .grp k x=> .grp k (x.fo fo)
 | .rep mn mx x=> .rep mn mx (x.fo fo)
 | .pnil=> .pnil
 | .pcons x r=> .pcons (x.fo fo) (r.fo fo)
 | .wone x=> .wone (x.fo fo)
 | .wcons x r=> .wcons (x.fo fo) (r.fo fo)
def Whole.fo(fo:Bool)(W:Whole):Whole:={W with x:=W.x.fo fo}
theorem AD.fo_false(x:AD):x.fo false=x:=by
 induction x with
 |set f=>rw[AD.fo,Ul]
 |grp k x ih=>rw[AD.fo,ih]
 |rep mn mx x ih=>rw[AD.fo,ih]
 |pnil=>rfl
 |pcons x r a b=>rw[AD.fo,a,b]
 |wone x ih=>rw[AD.fo,ih]
 |wcons x r a b=>rw[AD.fo,a,b]
theorem Whole.fo_false(W:Whole):W.fo false=W:=by unfold Whole.fo;rw[AD.fo_false]
def EA(w:World)(s:ByteArray)(nds:List Nd)(D Z:List Nat)(k i:Nat)(v:Value):Prop:=
 ∃h c f,v=.slice (some ⟨h,0,none⟩) (s.size+1) c∧RB w v (s.size+1) f∧h∉D∧h∉Z∧∀j,j<=s.size->(f j=true↔MN s nds (.node k) i j)
theorem EA.lt(h:EA w s nds D Z k i v):∀g,v.ownBlock=some g->g<w.heap.size:=by
 obtain⟨x,c,f,rfl,a,_⟩:=h;intro g b;exact(A3 a g b).2
theorem EA.keep{S:List Nat}(h:EA w s nds D Z k i v)(e:AA S w w')(j:∀x,x∈S->x∈D∨x∈Z∨w.heap.size<=x):EA w' s nds D Z k i v:=by
 have l:=h.lt;obtain⟨x,c,f,rfl,m,b,d,n⟩:=h;refine⟨x,c,f,rfl,m.keep e ?_,b,d,n⟩;intro g a o;have:=l g a;simp only[Value.ownBlock,Ai]at a;subst a;rcases j _ o with h|h|h
 ·exact b h
 ·exact d h
 ·exact absurd this (by omega)
theorem EA.less{Z':List Nat}(h:EA w s nds D Z k i v)(a:∀x,x∈Z'->x∈Z∨w.heap.size<=x):EA w s nds D Z' k i v:=by
 have b:=h.lt;obtain⟨x,c,f,rfl,d,e,g,j⟩:=h;refine⟨x,c,f,rfl,d,e,fun l=>?_,j⟩;have:=b x rfl;rcases a x l with h|h
 ·exact g h
 ·omega
def Nd.fo(fo:Bool)(nd:Nd):Nd:={nd with f:=Bw fo nd.f}
def Il(w:World)(b:Nat)(av:List Nat)(d:Value)(nd:Nd):Prop:=
 (∃a n c,d=.slice a n c)∧(nd.kind=98->∃h fo f,d=.slice (some ⟨h,0,none⟩) 256 256∧w.cell? ⟨b,2,none⟩=some (.bool fo)∧nd.f=Bw fo f∧HB w h f∧h∉av)
def F5(w:World)(b bt:Nat)(A:List Nat)(v:Value)(nds:List Nd):Prop:=∃fo a,w.cell? ⟨bt,2,none⟩=some (.bool fo)∧nds=a.map (Nd.fo fo)∧Bg w b A v a
theorem F5.keepA{S:List Nat}(h:F5 w b bt A v nds)(c:AA S w w')(e:∀x,x∈S->x=b∨x∈A∨w.heap.size<=x)(hb:bt∉S):F5 w' b bt A v nds:=by
 obtain⟨fo,a,d,f,g⟩:=h;exact⟨fo,a,(Ad (c.block bt (BV _ _ d) hb)).trans d,f,g.keepA c e⟩
theorem F5.less{A':List Nat}(h:F5 w b bt A v nds)(c:∀x,x∈A'->x∈A∨w.heap.size<=x):F5 w b bt A' v nds:=by
 obtain⟨fo,a,d,e,f⟩:=h;exact⟨fo,a,d,e,f.less c⟩
theorem F5.node(h:F5 w b bt A v nds){nd:Nd}(l:nds[k]? =some nd):∃g cap a kv,v=.slice (some ⟨g,0,none⟩) nds.length cap∧k<nds.length∧Il w bt (Bf b A v) a nd∧DK w (Bf b A v) kv nd.kids∧w.cell? ⟨g,k*6,none⟩=some (.int .u8 nd.kind)∧w.cell? ⟨g,k*6+1,none⟩=some a∧w.cell? ⟨g,k*6+2,none⟩=some (.int .i64 nd.n)∧w.cell? ⟨g,k*6+3,none⟩=some (.int .i64 nd.mn)∧w.cell? ⟨g,k*6+4,none⟩=some (.int .i64 nd.mx)∧w.cell? ⟨g,k*6+5,none⟩=some kv:=by
 obtain⟨fo,m,p,rfl,r⟩:=h;rw[FV,Option.map_eq_some_iff]at l;obtain⟨d,i,rfl⟩:=l;obtain⟨g,cap,a,kv,e,s,o,t,c⟩:=r.node i;refine⟨g,cap,a,kv,by rw[Ce];exact e,by rw[Ce];exact s,⟨o.1,fun j=>?_⟩,t,c⟩;obtain⟨q,u,x,y⟩:=o.2 j;exact⟨q,fo,d.f,u,p,rfl,x,y⟩
structure TX (w : World) (b bp : Nat) (s : ByteArray) (p : PS) (nds : List Nd) (D : List Nat) (E : Value) (Z : List Nat) : Prop where
 xb : XB w b (.pointer (some ⟨bp, 0, none⟩)) s E
 pb : PB w bp p
 nodes : F5 w bp b (b :: (E.ownBlock.toList ++ (D ++ Z))) p.nodes nds
 out : w.ownsRow 0 155 1 E nds.length (D.map fun g => .slice (some ⟨g, 0, none⟩) (s.size + 1) (s.size + 1))
 nodup : D.Nodup
 bb : b ≠ bp ∧ b ∉ D ∧ b ∉ Z ∧ bp ∉ D ∧ bp ∉ Z
 ee : ∀ g, E.ownBlock = some g -> g ≠ b ∧ g ≠ bp ∧ g ∉ D ∧ g ∉ Z
 dz : ∀ g, g ∈ D -> g ∉ Z
 small : s.size <= 100
 inn : ∀ (k g : Nat), D[k]? = some g -> ∃ cs : List Value, cs.length = s.size + 1 ∧ w.heap[g]? = some (.cells cs.toArray 98 (0, 0)) ∧ ∀ (i : Nat) (v : Value), cs[i]? = some v -> v = .slice none 0 0 ∨ EA w s nds D Z k i v
variable{w w':World}{b bp:Nat}{s:ByteArray}{p:PS}{nds:List Nd}{D Z:List Nat}{E:Value}
theorem TX.dlen(h:TX w b bp s p nds D E Z):D.length=nds.length:=by
 have:=h.out.1;simpa using this
theorem TX.dlt(h:TX w b bp s p nds D E Z):∀g,g∈D->g<w.heap.size:=by
 intro g a;obtain⟨k,c⟩:=List.getElem?_of_mem a;obtain⟨cs,_,d,_⟩:=h.inn k g c;exact(AN.1 d).1
theorem TX.keep{S:List Nat}(h:TX w b bp s p nds D E Z)(c:AA S w w')(e:∀x,x∈S->x∈Z∨w.heap.size<=x):TX w' b bp s p nds D E Z:=by
 have a:∀x,x<w.heap.size->x∉Z->x∉S:=fun x j l m=>by rcases e x m with h|h;exact l h;omega
 refine⟨h.xb.keep c (a _ h.xb.lt h.bb.2.2.1),?_,?_,?_,h.nodup,h.bb,h.ee,h.dz,h.small,?_⟩
 ·exact(c.block bp (AN.1 h.pb).1 (a _ (AN.1 h.pb).1 h.bb.2.2.2.2)).trans h.pb
 ·exact h.nodes.keepA c (fun x f=>by
   rcases e x f with h|h
   ·exact AE (AH (by simp[h]))
   ·exact AE (AE h)) (a _ h.xb.lt h.bb.2.2.1)
 ·exact h.out.keep c fun g d=>a g (h.out.lt g d).2 (h.ee g d).2.2.2
 ·intro k g d;obtain⟨cs,j,n,o⟩:=h.inn k g d;have hm:g∈D:=C8 d;refine⟨cs,j,(c.block g (h.dlt g hm) (a g (h.dlt g hm) (h.dz g hm))).trans n,fun i v hi=>?_⟩;rcases o i v hi with h|h
  ·exact AH h
  ·exact AE (h.keep c fun x f=>AE (e x f))
theorem TX.less{Z':List Nat}(h:TX w b bp s p nds D E Z)(d:∀x,x∈Z'->x∈Z∨w.heap.size<=x):TX w b bp s p nds D E Z':=by
 have c:∀x,x<w.heap.size->x∉Z->x∉Z':=fun x f l m=>by rcases d x m with h|h;exact l h;omega
 have hbl:=h.xb.lt;have e:bp<w.heap.size:=(AN.1 h.pb).1;refine⟨h.xb,h.pb,h.nodes.less fun x j=>?_,h.out,h.nodup,⟨h.bb.1,h.bb.2.1,c _ hbl h.bb.2.2.1,h.bb.2.2.2.1,c _ e h.bb.2.2.2.2⟩,fun g a=>⟨(h.ee g a).1,(h.ee g a).2.1,(h.ee g a).2.2.1,c g (h.out.lt g a).2 (h.ee g a).2.2.2⟩,fun g a=>c g (h.dlt g a) (h.dz g a),h.small,fun k g a=>?_⟩
 ·simp only[Az,Bb]at j;rcases j with h|h|h|h
  ·exact AH (by simp[h])
  ·exact AH (by simp at h;simp[h])
  ·exact AH (by simp[h])
  ·rcases d x h with h|h
   ·exact AH (by simp[h])
   ·exact AE h
 ·obtain⟨cs,f,n,o⟩:=h.inn k g a;refine⟨cs,f,n,fun i v hi=>?_⟩;rcases o i v hi with h|h
  ·exact AH h
  ·exact AE (h.less d)
theorem TX.memo(h:TX w b bp s p nds D E Z){g:Nat}(o:D[k]? =some g)(y:EA w s nds D Z k i v):TX (w.setCell ⟨g,i,none⟩ v) b bp s p nds D E Z:=by
 have hm:g∈D:=C8 o;have a:AA [g] w (w.setCell ⟨g,i,none⟩ v):=(AG [g] w).setCell (p:=⟨g,i,none⟩) (by simp) v;have z:=h.dlt g hm;refine⟨h.xb.keep a (by simp;exact fun e=>h.bb.2.1 (e ▸ hm)),?_,?_,?_,h.nodup,h.bb,h.ee,h.dz,h.small,?_⟩
 ·exact(a.block bp (AN.1 h.pb).1 (by simp;exact fun e=>h.bb.2.2.2.1 (e ▸ hm))).trans h.pb
 ·exact h.nodes.keepA a (fun x c=>by
   simp only[Dc]at c;subst c;exact AE (AH (by simp[hm]))) (by simp;exact fun e=>h.bb.2.1 (e ▸ hm))
 ·exact h.out.keep a fun x c=>by simp;exact fun e=>(h.ee x c).2.2.1 (e ▸ hm)
 ·intro k' g' d;obtain⟨cs,q,r,f⟩:=h.inn k' g' d;have l:g'∈D:=C8 d;have m:∀x,x∈[g]->x∈D∨x∈Z∨w.heap.size<=x:=fun x c=>by simp only[Dc]at c;subst c;exact AH hm
  by_cases e:g'=g
  ·subst e;have n:k'=k:=by
    have A:=(BT.1 o);have B:=(BT.1 d);exact(List.getElem_inj h.nodup).1 (B.2.trans A.2.symm)
   subst n;refine⟨cs.set i v,by simp[q],by simp[World.setCell,Aq,r],fun j u hu=>?_⟩;rw[List.getElem?_set]at hu;by_cases t:i=j
   ·subst t;rw[AL rfl]at hu;split at hu
    ·cases hu;exact AE (y.keep a m)
    ·cases hu
   ·rw[AK t]at hu;rcases f j u hu with h|h
    ·exact AH h
    ·exact AE (h.keep a m)
  ·refine⟨cs,q,(a.block g' (h.dlt g' l) (by simp[e])).trans r,fun j u hu=>?_⟩;rcases f j u hu with h|h
   ·exact AH h
   ·exact AE (h.keep a m)
theorem MN.le{J:JN}{j:Nat}(h:MN s nds J i j):i<=j:=by
 induction h with
 |byte=>omega
 |grp _ _ _ _ _ _ _ _ _ ih=>exact ih
 |alt _ _ _ _ _ _ _ _ _ ih=>exact ih
 |way _ _ _ _ _ _ _ ih=>exact ih
 |rep _ _ _ _ _ _ _ _ _ _ _ _ ih=>exact ih
 |rnil=>omega
 |rcons _ _ _ _ _ _ _ i1 i2=>omega
 |izero=>omega
 |isucc _ _ _ _ _ _ _ i1 i2=>omega
def DS(s:ByteArray)(nds:List Nd)(n:Nat):Prop:=∀(k:Nat),NK nds n k->∀(w:World)(b bp:Nat)(p:PS)(D:List Nat)(E:Value)(Z:List Nat)(i:Nat),TX w b bp s p nds D E Z->(∀x,x∈Z->x<w.heap.size)->i<=s.size->
 Calls Tryz.prog 48 #[.pointer (some ⟨b,0,none⟩),.int .i64 k,.int .i64 i] w fun e w'=>∃v,e=.returned v∧EA w' s nds D Z k i v∧TX w' b bp s p nds D E Z∧AA D w w'
structure OL (w1 wr : World) (s : ByteArray) (N : Nat) (nds : List Nd) (k h : Nat) (P0 : Nat -> Bool) (fv : Value) (b bp : Nat) (p : PS) (D : List Nat) (E : Value) (Z : List Nat) (i : Nat) (f : Nat -> Bool) : Prop where
 row : RB wr (.slice (some ⟨h, 0, none⟩) N N) N f
 frm : RB wr fv N P0
 tx : TX wr b bp s p nds D E (h :: Z)
 keep : AA (h :: D) w1 wr
 says : ∀ j, j <= s.size -> (f j = true ↔ ∃ m, m < i ∧ P0 m = true ∧ MN s nds (.node k) m j)
structure IL (w2 wq : World) (s : ByteArray) (N : Nat) (nds : List Nd) (h x cc i : Nat) (fe f : Nat -> Bool) (fv : Value) (P0 : Nat -> Bool) (b bp : Nat) (p : PS) (D : List Nat) (E : Value) (Z : List Nat) (j : Nat) (f' : Nat -> Bool) : Prop where
 row : RB wq (.slice (some ⟨h, 0, none⟩) N N) N f'
 ans : RB wq (.slice (some ⟨x, 0, none⟩) N cc) N fe
 frm : RB wq fv N P0
 tx : TX wq b bp s p nds D E (h :: Z)
 keep : AA [h] w2 wq
 says : ∀ m, m < N -> (f' m = true ↔ f m = true ∨ (i <= m ∧ m < j ∧ fe m = true))
theorem IL.step{w2 wq:World}{N:Nat}{h x cc:Nat}{fe f:Nat->Bool}{fv:Value}{P0:Nat->Bool}{bp:Nat}{p:PS}{E:Value}{j:Nat}{f':Nat->Bool}(L:IL w2 wq s N nds h x cc i fe f fv P0 b bp p D E Z j f')(o:x≠h)(q:fv.ownBlock≠some h)(d:i<=j){v:Bool}(r:v=(f' j||fe j)):IL w2 (wq.setCell ⟨h,j,none⟩ (.bool v)) s N nds h x cc i fe f fv P0 b bp p D E Z (j+1) (fun m=>if m=j then v else f' m):=by
 have a:AA [h] wq (wq.setCell ⟨h,j,none⟩ (.bool v)):=(AG [h] wq).setCell (p:=⟨h,j,none⟩) (by simp) _;refine⟨L.row.put j v,L.ans.keep a ?_,L.frm.keep a ?_,L.tx.keep a ?_,L.keep.trans a,?_⟩
 ·intro g c;simp only[Value.ownBlock,Ai]at c;subst c;simp[o]
 ·intro g c;simp only[Dc];intro e;exact q (e ▸ c)
 ·intro y n;simp only[Dc]at n;exact AH (by simp[n])
 ·intro m hm;by_cases e:m=j
  ·subst e;rw[AL rfl,r,GV,L.says m hm];constructor
   ·rintro((h|⟨_,h,_⟩)|h)
    ·exact AH h
    ·omega
    ·exact AE ⟨d,by omega,h⟩
   ·rintro(h|⟨_,_,h⟩)
    ·exact AH (AH h)
    ·exact AE h
  ·rw[AK e,L.says m hm];constructor
   ·rintro(h|⟨k,t,l⟩)
    ·exact AH h
    ·exact AE ⟨k,by omega,l⟩
   ·rintro(h|⟨k,t,l⟩)
    ·exact AH h
    ·exact AE ⟨k,by omega,l⟩
theorem Lv(s:ByteArray)(N:Nat)(G:Hid (N=s.size+1))(nds:List Nd)(n:Nat)(IH:DS s nds n)(k:Nat)(hk:NK nds n k)(w:World)(b bp:Nat)(p:PS)(D:List Nat)(E:Value)(Z:List Nat)(h:TX w b bp s p nds D E Z)(HZ:Hid (∀x,x∈Z->x<w.heap.size))(g c:Nat)(P0:Nat->Bool)(hP:RB w (.slice (some ⟨g,0,none⟩) N c) N P0)(an:g∉D):Calls Tryz.prog 138 #[.pointer (some ⟨b,0,none⟩),.int .i64 k,.slice (some ⟨g,0,none⟩) N c] w fun e w'=>∃x f,e=.returned (.slice (some ⟨x,0,none⟩) N N)∧RB w' (.slice (some ⟨x,0,none⟩) N N) N f∧w.heap.size<=x∧TX w' b bp s p nds D E Z∧AA D w w'∧∀j,j<=s.size->(f j=true↔∃m,m<=s.size∧P0 m=true∧MN s nds (.node k) m j):=by
 obtain⟨i0,ao,ap,aq,ar⟩:=A2 Gc;obtain⟨x0,x1,x2,x3⟩:=h.xb.main;have au:=Gb;have hs:=h.small;have V:(s.size:Int)+1<=9223372036854775807:=by omega
 have aO:g<w.heap.size:=(A3 hP g rfl).2;have aw:=h.dlt;go_enter Tryz.func138,Tryz.ntmps138;go_wp2_with(first|(refine D9 w rfl _ _ 98 rfl 0 4 i0 (.bool false) 1 au ao ap aq .i64 .i64 ((s.size:Int)+1) ((s.size:Int)+1) N rfl rfl (by have:=G.o;omega) (by have:=G.o;omega) (by have:=G.o;rw[ar];omega) (by have:=G.o;unfold maxLen;omega) (AY _) ?_));intro w1 t W;rw[Hf]at t;have u:AA [] w w1:=Ci W;have X:OL w1 w1 s N nds k w.heap.size P0 (.slice (some ⟨g,0,none⟩) N c) b bp p D E Z 0 (fun _=>false):=
  ⟨t,hP.keep u (by simp),(h.less (Z':=w.heap.size::Z) (by intro x l;simp at l;rcases l with rfl|l;exact Or.inr (AP _);exact Or.inl l)).keep u (by simp),AG _ _,fun j _=>by simp⟩
 have aJ:=u.size;have aP:(N:Int)<=101:=by have:=G.o;omega
 clear t W x0 x1 x2 x3 hP V hs;go_wp2_with fail;go_loopw [8] (fun q wr=>∃(i:Nat)(f:Nat->Bool),i<=N∧q=.int .i64 i∧OL w1 wr s N nds k w.heap.size P0 (.slice (some ⟨g,0,none⟩) N c) b bp p D E Z i f) (fun q _=>N-(intOf q).toNat)
 case atStart=>exact⟨0,_,by omega,rfl,X⟩
 case round=>
  clear X;obtain⟨i,f,hi,rfl,L⟩:=hrel;by_cases z:i<N
  ·have aK:(0:Int)<=(i:Int):=by omega
   have aL:(i:Int)<(N:Int):=by omega
   have O:=L.frm.at z;have S:Hid (i<N):=z;have ax:w.heap.size∉D:=fun hm=>by have:=aw _ hm;omega
   cases r:P0 i
   ·rw[r]at O;have ay:OL w1 wr s N nds k w.heap.size P0 (.slice (some ⟨g,0,none⟩) N c) b bp p D E Z (i+1) f:=⟨L.row,L.frm,L.tx,L.keep,fun j T=>by
     rw[L.says j T];constructor
     ·rintro⟨m,a,b⟩;exact⟨m,by omega,b⟩
     ·rintro⟨m,a,b,d⟩;refine⟨m,?_,b,d⟩;rcases DU m i with h|h
      ·exact h
      ·have:m=i:=by omega
       subst this;rw[r]at b;cases b⟩
    clear L hi z r;go_wp2_with fail;exact⟨⟨i+1,f,S.o,by go_num,ay⟩,by have:=S.o;simp[intOf];omega⟩
   ·rw[r]at O;have P:=L.row;have Y:=L.frm;have aa:=L.tx;have ab:=L.keep;have az:Hid (∀j,j<=s.size->(f j=true↔∃m,m<i∧P0 m=true∧MN s nds (.node k) m j)):=L.says;have aA:Hid (P0 i=true):=r;clear L hi z r h;go_wp2_with fail;refine(IH k hk wr b bp p D E (w.heap.size::Z) i aa (by intro x l;have U:w.heap.size<wr.heap.size:=(A3 P _ rfl).2;rcases Az.1 l with rfl|l;exact U;have:=HZ.o x l;omega) (by have:=S.o;have:=G.o;omega)).mono ?_;rintro e w2⟨v,rfl,aB,H,I⟩;obtain⟨x,cc,fe,ac,Q,aQ,aC,K⟩:=aB;rw[<-G.o]at ac Q;subst ac;have A:=P.keep I (by intro y F;simp only[Value.ownBlock,Ai]at F;subst F;exact ax);have B:=Y.keep I (by intro y F;simp only[Value.ownBlock,Ai]at F;subst F;exact an);have ad:x≠w.heap.size:=fun e=>aC (by simp[e])
    have aD:AA (w.heap.size::D) w1 w2:=ab.trans (I.mono (by intro y F;simp[F]));have ae:Hid (∀j,j<=s.size->(fe j=true↔MN s nds (.node k) i j)):=K;clear P Y aa ab I K O;obtain⟨af,ag⟩:∃af:World,af=wr:=⟨_,rfl⟩;subst ag;have M:IL w2 w2 s N nds w.heap.size x cc i fe f (.slice (some ⟨g,0,none⟩) N c) P0 b bp p D E Z i f:=⟨A,Q,B,H,AG _ _,fun m _=>by
     constructor
     ·exact AH
     ·rintro(h|⟨_,h,_⟩)
      ·exact h
      ·omega⟩
    have ah:(Value.slice (some ⟨g,0,none⟩) N c).ownBlock≠some w.heap.size:=by simp only[Value.ownBlock,ne_eq,Ai];omega
    clear A Q B H;go_wp2_with fail;go_loopw [10] (fun q wq=>∃(j:Nat)(f':Nat->Bool),i<=j∧j<=N∧q=.int .i64 j∧IL w2 wq s N nds w.heap.size x cc i fe f (.slice (some ⟨g,0,none⟩) N c) P0 b bp p D E Z j f') (fun q _=>N-(intOf q).toNat)
    case atStart=>exact⟨i,f,by omega,by have:=S.o;omega,rfl,M⟩
    case round=>
     clear M;obtain⟨j,f',J,T,rfl,L⟩:=hrel;by_cases C:j<N
     ·have aM:(0:Int)<=(j:Int):=by omega
      have aN:(j:Int)<(N:Int):=by omega
      have ho:=L.row.at C;have aR:=L.row.frozen j;have he:=L.ans.at C;have HJ:Hid (j<N):=C;have aE:Hid (i<=j):=J;cases U:f' j
      all_goals
       cases h2:fe j
       all_goals
        rw[U]at ho;rw[h2]at he;have ai:=L.step ad ah J (v:=f' j||fe j) rfl;rw[U,h2]at ai;have aj:Hid (IL w2 (wr.setCell ⟨w.heap.size,j,none⟩ (.bool (f' j||fe j))) s N nds w.heap.size x cc i fe f (.slice (some ⟨g,0,none⟩) N c) P0 b bp p D E Z (j+1) (fun m=>if m=j then(f' j||fe j)else f' m)):=L.step ad ah J rfl;rw[U,h2]at aj;clear ai L T C J U h2;go_wp2_with fail;go_roundw
        case rel=>exact⟨j+1,_,by have:=aE.o;omega,HJ.o,by go_num,aj.o⟩
        case measure=>have:=HJ.o;simp[intOf];omega
     ·have ak:j=N:=by omega
      have aS:¬(j:Int)<(N:Int):=by omega
      have aF:OL w1 wr s N nds k w.heap.size P0 (.slice (some ⟨g,0,none⟩) N c) b bp p D E Z (i+1) f':=⟨L.row,L.frm,L.tx,aD.trans (L.keep.mono (by intro y F;simp at F;simp[F])),fun m hm=>by
       have al:m<N:=by have:=G.o;omega
       rw[L.says m al,az.o m hm,ak];constructor
       ·rintro(⟨m',a,b'⟩|⟨a,_,b'⟩)
        ·exact⟨m',by omega,b'⟩
        ·exact⟨i,by omega,aA.o,(ae.o m hm).1 b'⟩
       ·rintro⟨m',a,b',d⟩;rcases DU m' i with h|h
        ·exact AH ⟨m',h,b',d⟩
        ·have:m'=i:=by omega
         subst this;exact AE ⟨d.le,al,(ae.o m hm).2 d⟩⟩
      clear L ak C T;go_wp2_with fail;exact⟨⟨i+1,f',S.o,by go_num,aF⟩,by have:=S.o;simp[intOf];omega⟩
  ·have aG:i=N:=by omega
   have aH:=G.o;have aT:¬(i:Int)<(N:Int):=by omega
   have R:∀j,j<=s.size->(f j=true↔∃m,m<=s.size∧P0 m=true∧MN s nds (.node k) m j):=by
    intro j T;rw[L.says j T];constructor
    ·rintro⟨m,a,b⟩;exact⟨m,by omega,b⟩
    ·rintro⟨m,a,b⟩;exact⟨m,by omega,b⟩
   have am:=L.row;have H:=L.tx.less (Z':=Z) (by intro x l;exact AH (by simp[l]));have aI:AA D w wr:=BZ (u.mono (by simp)) L.keep (by intro x l;simp at l;rcases l with rfl|l;exact AE (AP _);exact AH l);clear L z hi u h aG aH;go_wp2_with fail;go_ret;exact⟨_,rfl,f,am,AP _,H,aI,R⟩
def KV(w:World)(D:List Nat)(lv:Value)(l:List Nat):Prop:=
 ∃a cap,lv=.slice a l.length cap∧((l:List Nat).length:Int)<=1000∧∀(t c:Nat),l[t]? =some c->∃g off,a=some ⟨g,off,none⟩∧g<w.heap.size∧g∉D∧w.cell? ⟨g,off+t,none⟩=some (.int .i64 c)
theorem KV.keep{lv:Value}{l:List Nat}(h:KV w D lv l)(a:AA D w w'):KV w' D lv l:=by
 obtain⟨f,cap,e,i,j⟩:=h;refine⟨f,cap,e,i,fun t c k=>?_⟩;obtain⟨g,off,m,b,d,n⟩:=j t c k;exact⟨g,off,m,BL b a.size,d,(Ad (a.block g b d)).trans n⟩
def RS(w:World)(s:ByteArray)(N:Nat)(D:List Nat)(v:Value)(P:Nat->Prop):Prop:=
 ∃x c f,v=.slice (some ⟨x,0,none⟩) N c∧RB w v N f∧x∉D∧∀j,j<=s.size->(f j=true↔P j)
theorem MN.row_snoc{c:Nat}:∀{l:List Nat}{i j:Nat},MN s nds (.row (l++[c])) i j↔∃m,MN s nds (.row l) i m∧MN s nds (.node c) m j
 |[],i,j=>by
  rw[FN,MN.row_one];constructor
  ·intro h;exact⟨i,.rnil i,h⟩
  ·rintro⟨m,a,b⟩;rw[MN.row_nil]at a;subst a;exact b
 |d::l,i,j=>by
  rw[DL,MN.row_cons];constructor
  ·rintro⟨m,a,b⟩;obtain⟨m',e,f⟩:=MN.row_snoc.1 b;exact⟨m',MN.row_cons.2 ⟨m,a,e⟩,f⟩
  ·rintro⟨m,a,b⟩;obtain⟨m',g,a2⟩:=MN.row_cons.1 a;exact⟨m',g,MN.row_snoc.2 ⟨m,a2,b⟩⟩
theorem MN.inn{J:JN}{j:Nat}(h:MN s nds J i j):i<=s.size->j<=s.size:=by
 induction h with
 |byte=>intro _;omega
 |grp _ _ _ _ _ _ _ _ _ ih=>exact ih
 |alt _ _ _ _ _ _ _ _ _ ih=>exact ih
 |way _ _ _ _ _ _ _ ih=>exact ih
 |rep _ _ _ _ _ _ _ _ _ _ _ _ ih=>exact ih
 |rnil=>exact id
 |rcons _ _ _ _ _ _ _ i1 i2=>exact fun h=>i2 (i1 h)
 |izero=>exact id
 |isucc _ _ _ _ _ _ _ i1 i2=>exact fun h=>i2 (i1 h)
theorem PA(s:ByteArray)(N:Nat)(W:Hid (N=s.size+1))(nds:List Nd)(n:Nat)(IH:DS s nds n)(l:List Nat)(hl:∀c,c∈l->NK nds n c)(w:World)(b bp:Nat)(p:PS)(D:List Nat)(E:Value)(Z:List Nat)(h:TX w b bp s p nds D E Z)(HZ:Hid (∀x,x∈Z->x<w.heap.size))(lv:Value)(k:KV w D lv l)(i:Nat)(hi:i<=s.size):Calls Tryz.prog 86 #[.pointer (some ⟨b,0,none⟩),lv,.int .i64 i] w fun e w'=>∃v,e=.returned v∧RS w' s N D v (fun j=>MN s nds (.row l) i j)∧(∀g,v.ownBlock=some g->w.heap.size<=g)∧TX w' b bp s p nds D E Z∧AA D w w':=by
 have hs:=h.small;have M:=h.dlt;obtain⟨ad,cap,rfl,ai,X⟩:=id k;clear X;go_enter Tryz.func86,Tryz.ntmps86;go_wp2_with fail;refine(OA b _ E s i hi hs w h.xb).mono ?_;rintro e w1⟨g1,rfl,H,z,aj⟩;rw[<-W.o]at H;rw[<-W.o];have C:TX w1 b bp s p nds D E Z:=h.keep z (by simp);have F:KV w1 D (.slice ad l.length cap) l:=k.keep (z.mono (by simp));have G:RS w1 s N D (.slice (some ⟨g1,0,none⟩) N N) (fun j=>MN s nds (.row (l.take 0)) i j):=⟨g1,N,_,rfl,H,fun hm=>by have:=M _ hm;omega,fun j _=>by show decide (j=i)=true↔MN s nds (.row (l.take 0)) i j;rw[List.take_zero,MN.row_nil];simp only[EJ];exact eq_comm⟩;have q:AA D w w1:=z.mono (by simp);clear h H z k hs;go_wp2_with fail;go_loopw [7,8] (fun q1 Y wr=>∃(t:Nat),t<=l.length∧Y=.int .i64 t∧RS wr s N D q1 (fun j=>MN s nds (.row (l.take t)) i j)∧(∀g,q1.ownBlock=some g->w.heap.size<=g)∧TX wr b bp s p nds D E Z∧KV wr D (.slice ad l.length cap) l∧AA D w wr) (fun _ Y _=>l.length-(intOf Y).toNat)
 case atStart=>exact⟨0,by omega,rfl,G,by intro g hg;simp only[Value.ownBlock,Ai]at hg;omega,C,F,q⟩
 case round=>
  clear G C F q;obtain⟨t,ht,rfl,I,O,J,k,q⟩:=hrel;by_cases A:t<l.length
  ·obtain⟨d,hd⟩:∃d,l[t]? =some d:=⟨_,Ax A⟩;have aa:NK nds n d:=hl d (C8 hd);obtain⟨ak,ae,e1,_,P⟩:=id k;simp only[C7]at e1;obtain⟨rfl,_,rfl⟩:=e1;obtain⟨g,off,rfl,al,am,ab⟩:=P t d hd;obtain⟨x,c',f,rfl,B,K,r⟩:=I;have af:(0:Int)<=(t:Int):=by omega
   have ag:(t:Int)<(l.length:Int):=by omega
   have HT:Hid (t<l.length):=A;have ac:Hid (l.take (t+1)=l.take t++[d]):=by show l.take (t+1)=_;rw[Gj,hd];rfl
   have HS:Hid (∀j,j<=s.size->(f j=true↔MN s nds (.row (l.take t)) i j)):=r;have HI:Hid (i<=s.size):=hi;clear P r ht A O hd;go_wp2_with fail;refine(Lv s N W nds n IH d aa wr b bp p D E Z J (fun x hx=>BL (HZ.o x hx) q.size) x c' f B K).mono ?_;rintro e w2⟨y,f2,rfl,Q,hy,R,L,u⟩;have ah:=q.size;have S:RS w2 s N D (.slice (some ⟨y,0,none⟩) N N) (fun j=>MN s nds (.row (l.take (t+1))) i j):=⟨y,N,f2,rfl,Q,fun hm=>by have:=M _ hm;omega,fun j hj=>by
    show f2 j=true↔MN s nds (.row (l.take (t+1))) i j;rw[ac.o,MN.row_snoc,u j hj];constructor
    ·rintro⟨m,a,b',d'⟩;exact⟨m,(HS.o m a).1 b',d'⟩
    ·rintro⟨m,a,b'⟩;have hm:=a.inn HI.o;exact⟨m,hm,(HS.o m hm).2 a,b'⟩⟩
   have T:=k.keep L;have U:=q.trans L;clear Q u L B k J ab;go_wp2_with fail;exact⟨⟨t+1,HT.o,by go_num,S,by intro g hg;simp only[Value.ownBlock,Ai]at hg;omega,R,T,U⟩,by have:=HT.o;simp[intOf];omega⟩
  ·have V:t=l.length:=by omega
   have an:¬(t:Int)<(l.length:Int):=by omega
   rw[V,List.take_length]at I;obtain⟨x,c',f,rfl,B,K,r⟩:=I;clear V A ht k;go_wp2_with fail;go_ret;exact⟨_,rfl,⟨x,c',f,rfl,B,K,r⟩,O,J,q⟩
