/-
  DERIVED. The reference's finds, where a line must match whole. Conditions: the line is at most 100 bytes long; the text's parts lie in memory.
-/
import Derived.Test.YtnfojonmohijpaaGreatDoorJVS
set_option linter.all false
set_option maxRecDepth 100000
set_option maxHeartbeats 8000000
namespace Go.Proofs.YtnfojonmohijpaaGreatDoor
open Go.RowKit
variable{L:List UInt8}{T line t:ByteArray}{F:Bool}{l:List ByteArray}{gs i:Nat}{sp:List Int}{ps:List Part}
def FY:=@List.drop_eq_nil_of_le
def L8(s:ByteArray)(W:Whole)(lo b bp:Nat)(p:PS)(nds:List Nd)(D:List Nat)(E:Value)(w:World)(e:Ending)(w':World):Prop:=
 ∃r ans,e=.returned (.tuple #[r,.bool (ans:Option (List Int)).isSome])∧Dv s W ans∧F7 w' lo r ans.toList∧TX w' b bp s p nds D E []∧AA D w w'
theorem VK(s:ByteArray)(nds:List Nd)(hn:nds.length<=1000)(W:Whole)(w:World)(lo b bp:Nat)(p:PS)(D:List Nat)(E:Value)(h:TX w b bp s p nds D E [])(l:Hid (KP nds p W))(af:lo=w.heap.size):Calls Tryz.prog 110 #[.pointer (some ⟨b,0,none⟩),.bool true] w (L8 s W lo b bp p nds D E w):=by
 obtain⟨j0,aC,aD,aE,aF⟩:=A2 Lz;have ag:=Fp;obtain⟨i0,aG,aH,aI,aJ⟩:=A2 Lu;have aK:=Tryz.underlying49;have aW:(s.size:Int)<=100:=by have:=h.small;omega
 have HS:Hid (s.size<=100):=h.small;have ah:Hid (lo=w.heap.size∧∀x,x∈D->x<lo):=⟨af,fun x R=>by have:=h.dlt x R;omega⟩;have aX:Hid (TX w b bp s p nds D E []):=h;have aL:Hid (p.gr<=9):=by show p.gr<=9;have:=l.o.gr;have:=l.o.g9;omega
 have aM:p.gr<=9:=aL.o;have y2:=h.pb.rbe.1;obtain⟨fo,S⟩:=h.xb;have c0:w.cell? ⟨b,0,none⟩=some (.pointer (some ⟨bp,0,none⟩)):=by rw[AU S];rfl
 have c1:w.cell? ⟨b,1,none⟩=some (.string s):=by rw[AU S];rfl
 have hE:=Kc s nds hn 1000 (AP _) p.root l.o.nk w b bp p D E [] 0 h (by simp) (AY _);clear af h S;go_enter Tryz.func110,Tryz.ntmps110;go_wp2_with fail;refine hE.mono ?_;rintro e w3⟨v,rfl,aN,G,hk3⟩;obtain⟨x,c,f,rfl,ai,aY,_,M⟩:=aN;have T:=ai.at (j:=s.size) (by omega);have aj:Hid (f s.size=true↔MN s nds (.node p.root) 0 s.size):=M s.size (AP _);have aZ:(s.size:Int)<((s.size+1:Nat):Int):=by omega
 have aV:(0:Int)<=(s.size:Int):=by omega
 clear M ai y2 c0 c1 hE;cases hf:f s.size
 ·rw[hf]at T;have HP:Hid (L8 s W lo b bp p nds D E w (.returned (.tuple #[.slice none 0 0,.bool false])) w3):=⟨_,none,rfl,AH ⟨rfl,fun hm=>by have:=aj.o.2 (l.o.iff.1 hm);rw[hf]at this;cases this⟩,⟨⟨[],⟨rfl,.inl ⟨rfl,rfl⟩⟩,fun k sp hk=>by simp at hk⟩,fun g h=>by simp[Value.ownBlock]at h⟩,G,hk3⟩;clear hf G hk3;go_wp2_with fail;go_ret2;exact HP.o
 ·rw[hf]at T;have hM:MN s nds (.node p.root) 0 s.size:=aj.o.1 hf;obtain⟨t,ev,ak,al,aO⟩:=l.o.tree hM HS.o;have HW:Hid (Dv s W (some ([0,(s.size:Int)]++evs (List.replicate (2*p.gr) (-1)) ev))):=AE ⟨l.o.iff.2 hM,t,ev,al,by rw[l.o.gr]⟩;clear hf;go_wp2_with fail;refine(Jq s nds hn p.root l.o.nk w3 b bp p D E G rfl aM 0 s.size false t ev ak hM (AP _) (by omega)).mono ?_;rintro e i⟨ob,sp,rfl,y,hk4⟩;have A:AA D w i:=hk3.trans hk4;obtain⟨out,am,_,_⟩:=y.ot;have c2:=am.main.2.2.1;have N:=y.row;have hlen:=y.len;have an:=y.ot.lt;have ao:w.heap.size<=i.heap.size:=A.size;have B:=AS i (.cells #[.int .i64 0,.int .i64 (s.size:Int)] 3);have z:AA [] i (i.alloc (.cells #[.int .i64 0,.int .i64 (s.size:Int)] 3)):=(AG [] i).alloc _;have r:=A.trans (z.mono (by simp));have m:(i.alloc (.cells #[.int .i64 0,.int .i64 (s.size:Int)] 3)).ownsRow w.heap.size 3 1 (.slice (some ⟨i.heap.size,0,none⟩) 2 2) 2 [.int .i64 0,.int .i64 (s.size:Int)]:=⟨rfl,AE ⟨i.heap.size,2,_,rfl,ao,B,AP _,by unfold maxLen;omega,rfl,rfl⟩⟩;have U:Hid (TX i b bp s p nds D E []):=y.tx.less (Z':=[]) (by simp);have V:Hid (TX (i.alloc (.cells #[.int .i64 0,.int .i64 (s.size:Int)] 3)) b bp s p nds D E []):=U.o.keep z (by simp);have d:=N.keep z (by simp);have aP:=(Ad (z.block ob an (by simp))).trans c2;have a1:Hid ((evs (List.replicate (2*p.gr) (-1)) ev).length=2*p.gr):=hlen;clear am hk4 G T ak al aO hM c2 y N an A hk3;go_upto_region 9 with(fail)
  go_cut [10]from 39 to 44 (fun aQ wx=>∃xv,aQ=xv∧IS wx w.heap.size xv (some ([0,(s.size:Int)]++evs (List.replicate (2*p.gr) (-1)) ev))∧TX wx b bp s p nds D E []∧AA D w wx)
  case first=>
   by_cases ap:p.gr=0
   ·have aR:evs (List.replicate (2*p.gr) (-1)) ev=[]:=FK.1 (by rw[hlen,ap]);have X:IS (i.alloc (.cells #[.int .i64 0,.int .i64 (s.size:Int)] 3)) w.heap.size (.slice (some ⟨i.heap.size,0,none⟩) 2 2) (some ([0,(s.size:Int)]++evs (List.replicate (2*p.gr) (-1)) ev)):=by rw[aR];exact m
    rcases d.2 with⟨n,_⟩|⟨sb,cap,cur,n,_⟩
    ·subst n;go_wp2_with fail;go_meet;exact⟨_,rfl,X,V.o,r⟩
    ·rw[ap,Nat.mul_zero]at n;subst n;go_wp2_with fail;go_meet;exact⟨_,rfl,X,V.o,r⟩
   ·obtain⟨sb,cap,n,_,aS⟩:=Ga d (by omega);have aq:Hid (∀q u,(BA (evs (List.replicate (2*p.gr) (-1)) ev))[q]? =some u->(i.alloc (.cells #[.int .i64 0,.int .i64 (s.size:Int)] 3)).cell? ((⟨sb,0,none⟩:Addr).add q)=some u):=fun q u hu=>Fo d (by rw[n];rfl) q u hu
    have ar:Hid ((BA (evs (List.replicate (2*p.gr) (-1)) ev)).length=2*p.gr*1):=by show(BA _).length=_;rw[Js,hlen];omega
    subst n;go_wp2_with(first|(at_builtin;refine CC _ rfl _ _ _ rfl w.heap.size 3 j0 _ 1 8 ag aC aD aE aF rfl (by decide) (.slice (some ⟨i.heap.size,0,none⟩) 2 2) 2 _ rfl m ⟨sb,0,none⟩ (2*p.gr) cap (BA (evs (List.replicate (2*p.gr) (-1)) ev)) rfl ar.o aq.o (by intro u hu;simp only[BA,List.mem_map]at hu;obtain⟨q,_,rfl⟩:=hu;rfl) (by omega) (by unfold maxLen;omega) (by omega) (by simp;omega) (i.heap.size+1) (by simp) ?_;intro g2 au Y C a aw ax));have Z:AA [i.heap.size] (i.alloc (.cells #[.int .i64 0,.int .i64 (s.size:Int)] 3)) Y:=⟨a.os,a.tape,a.output,a.size,fun k hk aT=>a.block k hk (by intro e;apply aT;simp only[Value.ownBlock,Ai]at e;simp[e])⟩;have H:AA D w Y:=BZ r Z (by intro x R;simp at R;exact AE (by omega));have aa:Hid (TX Y b bp s p nds D E []):=U.o.keep (BZ z Z (by intro x R;simp at R;exact AE (by omega))) (by simp);have X:IS Y w.heap.size (.slice (some ⟨g2,0,none⟩) (2+2*p.gr) au) (some ([0,(s.size:Int)]++evs (List.replicate (2*p.gr) (-1)) ev)):=by
     show Y.ownsRow _ _ _ _ _ _;rw[Jr,show([0,(s.size:Int)]++evs (List.replicate (2*p.gr) (-1)) ev).length=2+2*p.gr by rw[AW,hlen];rfl];exact C
    clear C a aw ax Z aq ar aS;go_meet;exact⟨_,rfl,X,aa.o,H⟩
  case rest=>
   obtain⟨xv,rfl,X,ay,H⟩:=hcut;have aa:Hid (TX wc b bp s p nds D E []):=ay;obtain⟨Y,hY⟩:=AQ wc;subst hY;clear d m hlen aP z B ay r U V;obtain⟨I,g,J,az,O⟩:=(IS.toW X).fnd (by simp);rw[az]at I⊢;clear az;obtain⟨K,ab⟩:=An ((([0,(s.size:Int)]++evs (List.replicate (2*p.gr) (-1)) ev):List Int).length);have aA:Hid (([0,(s.size:Int)]++evs (List.replicate (2*p.gr) (-1)) ev).length=K):=ab;rw[ab]at I⊢;have L:Hid (Cl Y (.slice (some ⟨g,0,none⟩) K J) ([0,(s.size:Int)]++evs (List.replicate (2*p.gr) (-1)) ev)∧w.heap.size<=g):=⟨I,O⟩;clear X I O ab;have hH:(Y.alloc (.cells #[.slice (some ⟨g,0,none⟩) K J] 32)).heap.size=Y.heap.size+1:=by simp
   have ac:∀q x,([.slice (some ⟨g,0,none⟩) K J]:List Value)[q]? =some x->(Y.alloc (.cells #[.slice (some ⟨g,0,none⟩) K J] 32)).cell? ((⟨Y.heap.size,0,none⟩:Addr).add q)=some x:=Dq (cs:=#[.slice (some ⟨g,0,none⟩) K J]) (AS Y _);have aU:∀x∈([.slice (some ⟨g,0,none⟩) K J]:List Value),x.oneCell'=true:=by simp[Value.oneCell']
   have ad:(Y.alloc (.cells #[.slice (some ⟨g,0,none⟩) K J] 32)).ownsRow 0 32 1 (.slice none 0 0) 0 []:=⟨rfl,.inl ⟨rfl,rfl⟩⟩;go_wp2_with(first|(at_builtin;refine CC _ rfl _ _ _ rfl 0 32 i0 _ 1 24 aK aG aH aI aJ rfl (by decide) (.slice none 0 0) 0 _ rfl ad ⟨Y.heap.size,0,none⟩ 1 1 [.slice (some ⟨g,0,none⟩) K J] rfl rfl ac aU (by omega) (by unfold maxLen;omega) (by omega) (AY _) (Y.heap.size+1) hH ?_;intro g' cap w7 F P Q aB));have HP:Hid (L8 s W lo b bp p nds D E w (.returned (.tuple #[.slice (some ⟨g',0,none⟩) 1 cap,.bool true])) w7):=by
    have ae:AA [] Y w7:=((AG _ Y).alloc _).trans (De P);have a2:Y.heap.size<g':=by
     rcases Q with h|h
     ·simp[Value.ownBlock]at h
     ·omega
    have a3:g<Y.heap.size:=by
     have h1:=L.o.1;rw[<-aA.o]at h1;obtain⟨_,_,he,h2,_⟩:=h1.sl;cases he;exact h2
    refine⟨_,some _,rfl,HW.o,⟨⟨_,F,fun k sp hk=>?_⟩,fun x R=>?_⟩,aa.o.keep ae (by simp),H.trans (ae.mono (by simp))⟩
    ·cases k with
     |succ k=>simp at hk
     |zero=>
      have he:_=sp:=DC hk;subst he;have h1:=L.o.1;rw[<-aA.o]at h1⊢;exact⟨g,J,rfl,h1.keepS ae (by simp),by simp[Value.ownBlock];omega,by have:=L.o.2;have:=ah.o.1;omega⟩
    ·simp only[Value.ownBlock,Ai]at R;have:=H.size;have:=ah.o.1;omega
   clear F P Q aB L;go_ret2;exact HP.o
def DF(L:List UInt8)(T:ByteArray)(F:Bool):AX:=⟨L.contains 99,L.contains 105,L.contains 110,L.contains 111||F,L.contains 118,L.contains 120,if F then T else kI.tp⟩
theorem VL(T:ByteArray):DF [] T false=kI:=rfl
theorem VM(L:List UInt8)(T t:ByteArray)(F:Bool):DF L t true={DF L T F with o:=true,tp:=t}:=by
 simp[DF]
def E4(u:UInt8):Bool:=u==99||u==105||u==110||u==111||u==118||u==120
theorem VN(L:List UInt8)(u v:UInt8):(L++[u]).contains v=(L.contains v||v==u):=by
 rw[Bool.eq_iff_iff];simp
theorem VO(L:List UInt8)(T:ByteArray)(F:Bool)(u:UInt8)(h:E4 u=true):(DF L T F).add (u.toNat:Int)=some (DF (L++[u]) T F):=by
 have hu:u=99∨u=105∨u=110∨u=111∨u=118∨u=120:=by
  unfold E4 at h;simpa[or_assoc]using h
 rcases hu with rfl|rfl|rfl|rfl|rfl|rfl
 all_goals
  unfold DF;simp only[VN];simp[AX.add]
theorem VP(k:AX)(u:UInt8)(h:E4 u=false):k.add (u.toNat:Int)=none:=by
 have hu:u≠99∧u≠105∧u≠110∧u≠111∧u≠118∧u≠120:=by
  unfold E4 at h;simpa[and_assoc]using h
 have key:∀v:UInt8,u≠v->(u.toNat:Int)≠(v.toNat:Int):=fun v a e=>a (Fg.1 (by omega))
 unfold AX.add;rw[AK (show¬(u.toNat:Int)=99 from key 99 hu.1),AK (show¬(u.toNat:Int)=105 from key 105 hu.2.1),AK (show¬(u.toNat:Int)=110 from key 110 hu.2.2.1),AK (show¬(u.toNat:Int)=111 from key 111 hu.2.2.2.1),AK (show¬(u.toNat:Int)=118 from key 118 hu.2.2.2.2.1),AK (show¬(u.toNat:Int)=120 from key 120 hu.2.2.2.2.2)]
def F8(a:ByteArray)(L:List UInt8)(T:ByteArray)(F bad:Bool)(k:Nat)(c:List UInt8)(b:Bool):Prop:=
 (bad=false∧b=false∧B7 a (DF L T F) (a.size-1) 1=B7 a (DF c T F) (a.size-k) k)∨(b=true∧(bad=true∨B7 a (DF L T F) (a.size-1) 1=none))
theorem F8.start(a:ByteArray)(L:List UInt8)(T:ByteArray)(F bad:Bool):F8 a L T F bad 1 L bad:=by
 cases bad with
 |false=>exact AH ⟨rfl,rfl,rfl⟩
 |true=>exact AE ⟨rfl,AH rfl⟩
theorem F8.go{a:ByteArray}{bad:Bool}{k:Nat}{c:List UInt8}{b:Bool}(h:F8 a L T F bad k c b)(e:k<a.size):F8 a L T F bad (k+1) (c++[a[k]]) (b|| !E4 a[k]):=by
 rcases h with⟨d,rfl,f⟩|⟨rfl,d⟩
 ·cases g:E4 a[k]with
  |true=>
   refine AH ⟨d,rfl,f.trans ?_⟩;rw[show a.size-k=(a.size-(k+1))+1 by omega,B7,Bd e,VO c T F a[k] g]
  |false=>
   refine AE ⟨rfl,AE (f.trans ?_)⟩;rw[show a.size-k=(a.size-(k+1))+1 by omega,B7,Bd e,VP _ a[k] g]
 ·exact AE ⟨rfl,d⟩
def Cm(l:List ByteArray)(i:Nat)(L:List UInt8)(T:ByteArray)(F bad:Bool):Prop:=
 (bad=false∧∀q,BI (l.drop i) (DF L T F) q->BI l kI q)∨(bad=true∧BI l kI none)
theorem Cm.start(l:List ByteArray)(T:ByteArray):Cm l 0 [] T false false:=AH ⟨rfl,fun q h=>by rw[VL,List.drop_zero]at h;exact h⟩
theorem F9{a:ByteArray}(h:l[i]? =some a):l.drop i=a::l.drop (i+1):=by
 obtain⟨hi,rfl⟩:=BT.1 h;exact GO hi
theorem Cm.let'{d:List UInt8}{bad b:Bool}{a:ByteArray}(h:Cm l i L T F bad)(e:l[i]? =some a)(f:Co a)(g:a≠D1)(j:a≠Cx)(c:F8 a L T F bad a.size d b):Cm l (i+1) d T F b:=by
 rcases c with⟨rfl,rfl,c⟩|⟨rfl,c⟩
 ·rcases h with⟨_,h⟩|⟨h,_⟩
  ·rw[Nat.sub_self,B7]at c;refine AH ⟨rfl,fun q k=>h q ?_⟩;rw[F9 e];exact .let' a _ _ _ q f g j c k
  ·cases h
 ·rcases c with rfl|c
  ·rcases h with⟨h,_⟩|⟨_,h⟩
   ·cases h
   ·exact AE ⟨rfl,h⟩
  ·rcases h with⟨_,h⟩|⟨_,h⟩
   ·refine AE ⟨rfl,h none ?_⟩;rw[F9 e];exact .bad a _ _ f g j c
   ·exact AE ⟨rfl,h⟩
theorem Cm.tpl{bad:Bool}(h:Cm l i L T F bad)(b:l[i]? =some Cx)(c:l[i+1]? =some t):Cm l (i+2) L t true bad:=by
 rcases h with⟨rfl,h⟩|⟨rfl,h⟩
 ·refine AH ⟨rfl,fun q a=>h q ?_⟩;rw[F9 b,F9 c];rw[VM L T t F]at a;exact .dt t _ _ q a
 ·exact AE ⟨rfl,h⟩
theorem Cm.tpl0{bad:Bool}(h:Cm l i L T F bad)(a:l[i]? =some Cx)(b:i+1=l.length):Cm l (i+1) L T F true:=by
 rcases h with⟨rfl,h⟩|⟨rfl,h⟩
 ·refine AE ⟨rfl,h none ?_⟩;rw[F9 a,FY (by omega)];exact .dt0 _
 ·exact AE ⟨rfl,h⟩
def GA(l:List ByteArray)(i:Nat)(L:List UInt8)(T:ByteArray)(F bad:Bool):Prop:=
 (bad=false∧BI l kI (DI (DF L T F) (l.drop i)))∨(bad=true∧BI l kI none)
theorem Cm.left{bad:Bool}(h:Cm l i L T F bad)(b:∀a,l[i]? =some a->¬Co a):GA l i L T F bad:=by
 rcases h with⟨rfl,h⟩|⟨rfl,h⟩
 ·refine AH ⟨rfl,h _ (.left _ _ fun a r e=>b a ?_)⟩;have:(l.drop i)[0]? =some a:=by rw[e];rfl
  rw[List.getElem?_drop]at this;simpa using this
 ·exact AE ⟨rfl,h⟩
theorem Cm.dd{bad:Bool}(h:Cm l i L T F bad)(a:l[i]? =some D1):GA l (i+1) L T F bad:=by
 rcases h with⟨rfl,h⟩|⟨rfl,h⟩
 ·refine AH ⟨rfl,h _ ?_⟩;rw[F9 a];exact .dd _ _
 ·exact AE ⟨rfl,h⟩
theorem Cm.stop{j:Nat}(h:Cm l i L T F true):GA l j L T F true:=by
 rcases h with⟨h,_⟩|⟨_,h⟩
 ·cases h
 ·exact AE ⟨rfl,h⟩
def L9(w:World)(v:Value)(line:ByteArray)(gs:Nat)(sp:List Int):Prop:=(sp=[]∧v=.slice none 0 0)∨(Cl w v sp∧Ex line sp gs)
def Dw(w w':World):Prop:=∃n,w'=w.drewN n
theorem Dw.refl(w:World):Dw w w:=⟨0,rfl⟩
theorem Dw.keep{w w':World}(h:Dw w w'):AA [] w w':=by obtain⟨n,rfl⟩:=h;exact(AG [] w).drewN n
theorem Dw.drewN{w w':World}(h:Dw w w')(k:Nat):Dw w (w'.drewN k):=by obtain⟨n,rfl⟩:=h;exact⟨n+k,by rw[World.drewN_drewN]⟩
def Dn(t line:ByteArray)(gs:Nat)(sp:List Int)(q:List UInt8)(b:Bool):Prop:=
 (b=true∧t.size<=100∧∃ps,BN t gs 0 (some ps)∧q=BK ps line sp)∨(b=false∧q=[]∧(100<t.size∨BN t gs 0 none))
def VQ(t line:ByteArray)(gs:Nat)(sp:List Int)(w:World)(e:Ending)(w':World):Prop:=∃q b,e=.returned (.tuple #[.string (AJ q),.bool b])∧Dn t line gs sp q b∧Dw w w'
structure EU (t line : ByteArray) (gs : Nat) (sp : List Int) (i : Nat) (o : List UInt8) (ps : List Part) : Prop where
 out : o = BK ps line sp
 ile : i <= t.size
 len : ps.length <= i
 says : ∀ q, BN t gs i q -> BN t gs 0 (q.map (ps ++ ·))
theorem EU.go{k:Nat}{o:List UInt8}{p:Part}(L:EU t line gs sp i o ps)(hi:i<t.size)(a:BP t gs i=some (p,k)):EU t line gs sp k (o++p.fill line sp) (ps++[p]):=by
 obtain⟨d,b,_⟩:=J2 a hi;refine⟨?_,b,by have:=L.len;simp;omega,fun q c=>?_⟩
 ·rw[L.out];simp[BK]
 ·have:=L.says _ (.go i k p q hi a c);cases q with
  |none=>exact this
  |some l=>simpa using this
theorem EU.bad{o:List UInt8}(L:EU t line gs sp i o ps)(hi:i<t.size)(a:BP t gs i=none):Dn t line gs sp [] false:=AE ⟨rfl,rfl,AE (L.says none (.bad i hi a))⟩
theorem EU.fin{o:List UInt8}(L:EU t line gs sp i o ps)(hi:¬i<t.size)(a:t.size<=100):Dn t line gs sp o true:=by
 have:=L.says _ (.fin i (by omega));simp at this;exact AH ⟨rfl,a,ps,this,L.out⟩
theorem VR(h:i<t.size)(a:(t[i].toNat:Int)≠92):BP t gs i=some (.byte t[i],i+1):=by
 unfold BP;rw[Bd h,AK a];simp
theorem MA(h:i<t.size):t.extract i (i+1)=AJ [t[i]]:=by
 have e:(t.extract i (i+1)).data=#[t[i]]:=by
  have:(t.extract i (i+1)).data=t.data.extract i (i+1):=by simp
  rw[this];apply Array.ext
  ·simp;have:t.data.size=t.size:=rfl;omega
  ·intro j c a;have:j=0:=by simpa using a
   subst this;simp;rfl
 cases b:t.extract i (i+1)with
 |mk d=>rw[b]at e;simp at e;rw[e];rfl
theorem Jt(a b:List UInt8):AJ (a++b)=AJ a++AJ b:=(Eb a b).symm
theorem VS(t line:ByteArray)(v:Value)(sp:List Int)(gs:Nat)(w:World)(hl:line.size<=100)(J:gs<=9)(I:L9 w v line gs sp):Calls Tryz.prog 108 #[.string t,.string line,v,.int .i64 gs] w (VQ t line gs sp w):=by
 obtain⟨va,vn,vc,rfl,K⟩:∃va vn vc,v=.slice va vn vc∧vn=sp.length:=by
  rcases I with⟨rfl,rfl⟩|⟨I,_⟩
  ·exact⟨_,_,_,rfl,rfl⟩
  ·obtain⟨g,c,rfl,_⟩:=I.sl;exact⟨_,_,_,rfl,rfl⟩
 by_cases W:t.size<=100
 rotate_left
 ·have h1:(100:Int)<(t.size:Int):=by omega
  have A:Hid (Dn t line gs sp [] false):=AE ⟨rfl,rfl,AH (by omega)⟩;clear W I;go_enter Tryz.func108,Tryz.ntmps108;go_wp2_with fail;go_ret2;exact⟨[],false,rfl,A.o,Dw.refl _⟩
 have h1:¬(100:Int)<(t.size:Int):=by omega
 have ap:(t.size:Int)<=100:=by omega
 have aq:(line.size:Int)<=100:=by omega
 have ar:(gs:Int)<=9:=by omega
 have HB:Hid (t.size<=100∧line.size<=100∧gs<=9∧vn=sp.length):=⟨W,hl,J,K⟩;have HF:Hid (L9 w (.slice va vn vc) line gs sp):=I;clear W hl J I K;go_enter Tryz.func108,Tryz.ntmps108;go_wp2_with fail;go_loopw [10,11] (fun X E wr=>∃(i:Nat)(o:List UInt8)(ps:List Part),X=.string (AJ o)∧E=.int .i64 i∧EU t line gs sp i o ps∧Dw w wr) (fun _ E _=>t.size-(intOf E).toNat)
 case atStart=>exact⟨0,[],[],rfl,rfl,⟨rfl,AY _,AP _,fun q h=>by cases q<;>simpa using h⟩,Dw.refl _⟩
 case round=>
  obtain⟨i,o,ps,rfl,rfl,L,r⟩:=hrel;have HL:Hid (EU t line gs sp i o ps):=L;have m:o.length<=10000:=by
   rw[L.out];have h1:=Ka (sp:=sp) HB.o.2.1 ps;have h2:=L.len;have h3:=L.ile;have h4:=HB.o.1;omega
  have au:((AJ o).size:Int)<=10000:=by rw[Bp];omega
  by_cases hlt:i<t.size
  rotate_left
  ·have M:¬(i:Int)<(t.size:Int):=by omega
   have A:Hid (Dn t line gs sp o true):=L.fin hlt HB.o.1;clear L hlt;go_wp2_with fail;go_ret2;exact⟨o,true,rfl,A.o,r⟩
  have M:(i:Int)<(t.size:Int):=by omega
  have aw:(0:Int)<=(i:Int):=by omega
  have HI:Hid (i<t.size):=hlt;by_cases j:(t[i].toNat:Int)=92
  rotate_left
  ·have F:((t[i].toNat:Int)==92)=false:=by simpa using j
   have Y:((t[i].toNat:Int)!=92)=true:=by rw[bne,F];rfl
   have B:Hid (EU t line gs sp (i+1) (o++[t[i]]) (ps++[.byte t[i]])):=L.go hlt (VR hlt j);have he:=MA hlt;have u:Hid (AJ o++t.extract i (i+1)=AJ (o++[t[i]])):=by show AJ o++t.extract i (i+1)=AJ (o++[t[i]]);rw[he];exact(Jt _ _).symm
   clear L j he m;go_wp2_with fail;go_roundw
   case rel=>exact⟨i+1,_,_,by rw[<-u.o],by go_num,B.o,r⟩
   case measure=>have:=HI.o;simp[intOf];omega
  have F:((t[i].toNat:Int)==92)=true:=by simpa using j
  have Y:((t[i].toNat:Int)!=92)=false:=by rw[bne,F];rfl
  have HQ:Hid (at' t i=92):=by show _=_;rw[Bd hlt];exact j
  by_cases N:i+1=t.size
  ·have Z:(i:Int)+1=(t.size:Int):=by omega
   have aa:((i:Int)+1==(t.size:Int))=true:=by simp;omega
   have A:Hid (Dn t line gs sp [] false):=L.bad hlt (by
    unfold BP;rw[AL HQ.o,Cu (by omega),AK (by decide),AK (by decide),AK (by omega)])
   clear L j m N Z;go_wp2_with fail;go_ret2;exact⟨[],false,rfl,A.o,r⟩
  have l:i+1<t.size:=by omega
  have ab:(i:Int)+1<(t.size:Int):=by omega
  have aa:((i:Int)+1==(t.size:Int))=false:=by simp;omega
  have ax:¬(i:Int)+1=(t.size:Int):=by omega
  have aj:(0:Int)<=(i:Int)+1:=by omega
  have y:Hid (i+1<t.size):=l;obtain⟨c,hc⟩:∃c:Int,((t[i+1]'l).toNat:Int)=c:=⟨_,rfl⟩;have ac:0<=c∧c<=255:=by have:=(t[i+1]'l).toNat_lt;omega
  obtain⟨ay,az⟩:=ac;have f:Hid (at' t (i+1)=c):=by show at' t (i+1)=c;rw[<-hc];exact Bd l
  by_cases s:c=110
  ·have ad:(c==110)=true:=by simpa using s
   have B:Hid (EU t line gs sp (i+2) (o++[10]) (ps++[.byte 10])):=L.go (p:=.byte 10) (k:=i+2) hlt (by
    unfold BP;rw[AL HQ.o,AL (by rw[f.o];exact s)])
   have u:Hid (AJ o++⟨#[10]⟩=AJ (o++[10])):=by show AJ o++AJ [10]=AJ (o++[10]);exact(Jt _ _).symm
   clear L j m s;go_wp2_with(first|(go_at_call 162;refine(DX _ _).mono ?_;rintro e w'⟨rfl,rfl⟩));go_roundw
   case rel=>exact⟨i+2,_,_,by rw[<-u.o],by go_num,B.o,r⟩
   case measure=>have:=y.o;simp[intOf];omega
  have ad:(c==110)=false:=by simpa using s
  by_cases hb:c=92
  ·have ae:(c==92)=true:=by simpa using hb
   have O:t[i+1]'l=92:=Fg.1 (by show(t[i+1]'l).toNat=92;omega);have B:Hid (EU t line gs sp (i+2) (o++[92]) (ps++[.byte 92])):=L.go (p:=.byte 92) (k:=i+2) hlt (by
    unfold BP;rw[AL HQ.o,AK (by rw[f.o];exact s),AL (by rw[f.o];exact hb)])
   have he:t.extract (i+1) (i+1+1)=AJ [92]:=(MA l).trans (B4 (fun x=>AJ [x]) O);have u:Hid (AJ o++t.extract (i+1) (i+1+1)=AJ (o++[92])):=by show AJ o++t.extract (i+1) (i+1+1)=AJ (o++[92]);rw[he];exact(Jt _ _).symm
   clear L j m s hb he O;go_wp2_with(first|(go_at_call 162;refine(DX _ _).mono ?_;rintro e w'⟨rfl,rfl⟩));go_roundw
   case rel=>exact⟨i+2,_,_,by rw[<-u.o],by go_num,B.o,r⟩
   case measure=>have:=y.o;simp[intOf];omega
  have ae:(c==92)=false:=by simpa using hb
  by_cases C:48<=c∧c<=57
  rotate_left
  ·have af:At c=false:=by
    unfold At;simp only[Bool.and_eq_false_iff,I7];omega
   have A:Hid (Dn t line gs sp [] false):=L.bad hlt (by
    unfold BP;rw[AL HQ.o,AK (by rw[f.o];exact s),AK (by rw[f.o];exact hb),AK (by rw[f.o];omega)])
   clear L j m s hb C;go_wp2_with(first|(go_at_call 162;refine(DX _ _).mono ?_;rintro e w'⟨rfl,rfl⟩));go_ret2;exact⟨[],false,rfl,A.o,r⟩
  have af:At c=true:=by
   unfold At;simp only[GH,EJ];exact C
  obtain⟨d,hd⟩:∃d:Nat,c=48+(d:Int):=⟨(c-48).toNat,by omega⟩;have aA:d<=9:=by omega
  have ak:(d:Int)<=9:=by omega
  have al:(0:Int)<=(d:Int):=by omega
  have aB:IntKind.u8.wrap (c-48)=(d:Int):=by
   rw[show c-48=(d:Int) by omega];have:∀x:Fin 10,IntKind.u8.wrap (x.val:Int)=(x.val:Int):=by decide
   exact this ⟨d,by omega⟩
  by_cases D:d<=gs
  rotate_left
  ·have ag:¬(d:Int)<=(gs:Int):=by omega
   have A:Hid (Dn t line gs sp [] false):=L.bad hlt (by
    unfold BP;rw[AL HQ.o,AK (by rw[f.o];exact s),AK (by rw[f.o];exact hb),AK (by rw[f.o];omega)])
   have HD:Hid (c=48+(d:Int)):=hd;clear L j m s hb C hd D;go_wp2_with(first|(go_at_call 162;refine(DX _ _).mono ?_;rintro e w'⟨rfl,rfl⟩));go_ret2;exact⟨[],false,rfl,A.o,r⟩
  have ag:(d:Int)<=(gs:Int):=by omega
  have B:Hid (EU t line gs sp (i+2) (o++(Part.grp d).fill line sp) (ps++[.grp d])):=L.go (p:=.grp d) (k:=i+2) hlt (by
   unfold BP;rw[AL HQ.o,AK (by rw[f.o];exact s),AK (by rw[f.o];exact hb),AL ⟨by rw[f.o];omega,by rw[f.o];omega,by rw[f.o];omega⟩,f.o,hd,show(48+(d:Int)-48).toNat=d by omega])
  have HD:Hid (c=48+(d:Int)):=hd;have z:Hid ((Part.grp d).fill line sp=if 0<=sp.getD (2*d) (-1)then D0 line (sp.getD (2*d) (-1)) (sp.getD (2*d+1) (-1))else[]):=rfl;have aC:(0:Int)<=2*(d:Int):=by omega
  have am:2*(d:Int)<=18:=by omega
  clear L j m s hb C hd D;rcases HF.o with⟨n,G⟩|⟨P,n⟩
  ·cases G;have u:Hid (o++(Part.grp d).fill line sp=o):=by show o++(Part.grp d).fill line sp=o;rw[z.o,n,AK (by simp),CT]
   clear n;go_wp2_with(first|(go_at_call 162;refine(DX _ _).mono ?_;rintro e w'⟨rfl,rfl⟩));go_roundw
   case rel=>exact⟨i+2,o,_,rfl,by go_num,by have:=B.o;rw[u.o]at this;exact this,r⟩
   case measure=>have:=y.o;simp[intOf];omega
  ·obtain⟨g0,c0,G,aD,H⟩:=P.sl;cases G;have hlen:sp.length=2+2*gs:=n.1;have Q:sp[2*d]? =some (sp.getD (2*d) (-1)):=by rw[En,Ax (by omega)];rfl
   have R:sp[2*d+1]? =some (sp.getD (2*d+1) (-1)):=by rw[En,Ax (by omega)];rfl
   have c0:=Ac r.keep (H _ _ Q);have c1:=Ac r.keep (H _ _ R);have hin:=n.2 d (by omega);have ah:(2*(d:Int))<(sp.length:Int):=by omega
   have S:(2*(d:Int))+1<(sp.length:Int):=by omega
   have T:(0:Int)<(sp.length:Int):=by omega
   obtain⟨z0,e0⟩:=An (sp.getD (2*d) (-1));obtain⟨z1,e1⟩:=An (sp.getD (2*d+1) (-1));rw[e0]at c0 hin z;rw[e1]at c1 hin z;obtain⟨sn,U⟩:=An sp.length;rw[U]at ah S T⊢;clear e0 e1 Q R H U hlen P n;by_cases V:0<=z0
   rotate_left
   ·have u:Hid (o++(Part.grp d).fill line sp=o):=by show o++(Part.grp d).fill line sp=o;rw[z.o,AK V,CT]
    have aE:decide (0<=z0)=false:=by simpa using V
    clear hin c1;go_wp2_with(first|(go_at_call 162;refine(DX _ _).mono ?_;rintro e w'⟨rfl,rfl⟩));go_roundw
    case rel=>exact⟨i+2,o,_,rfl,by go_num,by have:=B.o;rw[u.o]at this;exact this,r⟩
    case measure=>have:=y.o;simp[intOf];omega
   ·obtain⟨an,ao⟩:=hin V;obtain⟨a,rfl⟩:∃a:Nat,z0=a:=⟨z0.toNat,by omega⟩;obtain⟨b,rfl⟩:∃b:Nat,z1=b:=⟨z1.toNat,by omega⟩;have u:Hid (AJ o++line.extract a b=AJ (o++(Part.grp d).fill line sp)):=by
     show AJ o++line.extract a b=AJ (o++(Part.grp d).fill line sp);rw[z.o,AL V,Jt];unfold D0;rw[Jm];rfl
    have aF:(line.extract a b).size<=100:=by rw[Ef];have:=HB.o;omega
    clear hin;go_upto_region 21 with(first|(go_at_call 162;refine(DX _ _).mono ?_;rintro e w'⟨rfl,rfl⟩))
    go_quiet (fail);have ai:=r.drewN nq;go_wp2_with fail;go_roundw
    case rel=>exact⟨i+2,_,_,by rw[<-u.o],by go_num,B.o,ai⟩
    case measure=>have:=y.o;simp[intOf];omega
