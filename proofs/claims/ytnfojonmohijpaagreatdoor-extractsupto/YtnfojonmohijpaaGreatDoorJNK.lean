/-
  DERIVED. The program's restsOf: what the times that are left can match. Conditions: the text is at most 100 bytes long, the numbers are within their bounds.
-/
import Derived.Test.YtnfojonmohijpaaGreatDoorJNE
import Derived.Lib.Slices
import Derived.Lib.Walk
import Derived.Lib.Builder
import Derived.Lib.AppendStr
import Derived.Lib.UnsafeStr
import Derived.Laws.Externs
import Derived.Lib.OthersKept
import Derived.Lib.FrozenHead
set_option linter.all false
set_option maxRecDepth 100000
set_option maxHeartbeats 8000000
namespace Go.Proofs.YtnfojonmohijpaaGreatDoor
open Go.RowKit
variable{B b c g i j k mn:Nat}{mx:Int}{w w':World}{s:ByteArray}{nds:List Nd}{nd:Nd}
def ER:=@List.getElem?_append_right
def AU:=@Lib.cell_of_heap
def Ba:=@Nat.zero_add
def steps(mn:Nat)(mx:Int):Nat:=if mx<0 then mn else mx.toNat
theorem Left.last{R:Nat->Nat->Prop}(a:mx<0∨(mn:Int)<=mx)(b:-1<=mx)(i j:Nat):Left R mn mx (steps mn mx) i j↔if mx<0 then Tm R 0 (-1) i j else i=j:=by
 unfold steps Left;by_cases h:mx<0
 ·rw[AL h,AL h,JV mx h];have:mx=-1:=by omega
  subst this;rw[Nat.sub_self]
 ·rw[AK h,AK h];obtain⟨m,rfl⟩:∃m:Nat,mx=m:=⟨mx.toNat,by omega⟩;rw[JW,Int.toNat_natCast,Nat.sub_self,show mn-m=0 by omega];exact Tm.none
theorem FP{L:List Nat}(h:w.heap[g]? =some (.cells #[.bool true,.int .i64 mn,.int .i64 mx] 210 (0,0)))(a:AA L w w')(b:g∉L):w'.heap[g]? =some (.cells #[.bool true,.int .i64 mn,.int .i64 mx] 210 (0,0)):=
 (a.block g (AN.1 h).1 b).trans h
theorem JX(h:w.heap[g]? =some (.cells #[.bool true,.int .i64 mn,.int .i64 mx] 210 (0,0))):w.cell? ⟨g,1,none⟩=some (.int .i64 mn)∧w.cell? ⟨g,2,none⟩=some (.int .i64 mx):=by
 simp[World.cell?,h]
theorem TD(n N:Nat)(HN:Hid (N=n+1))(hn:n<=100)(mn:Nat)(mx:Int)(aV:mn<=5)(X:-1<=mx)(aj:mx<=5)(hf:mx<0∨(mn:Int)<=mx)(K M:Nat)(HK:Hid (K=steps mn mx))(k:Hid (M=K+1)){S:Nat->Prop}(g1 c1:Nat){R:Nat->Nat->Prop}(hle:∀i j,R i j->i<=j)(hin:∀i j,R i j->i<N->j<N)(w:World)(Y:MP w S N (.slice (some ⟨g1,0,none⟩) N c1) R):Calls Tryz.prog 213 #[.agg #[.bool true,.int .i64 mn,.int .i64 mx],.slice (some ⟨g1,0,none⟩) N c1] w fun e w'=>∃g,e=.returned (.slice (some ⟨g,0,none⟩) M M)∧RR w' (fun g=>w.heap.size<=g) N M (.slice (some ⟨g,0,none⟩) M M) (Left R mn mx)∧AA [] w w':=by
 have aW:(N:Int)<=101:=by have:=HN.o;omega
 have aX:(1:Int)<=(N:Int):=by have:=HN.o;omega
 have aQ:(N:Int)-1=(n:Int):=by have:=HN.o;omega
 have aY:(n:Int)<=100:=by omega
 have aZ:K<=5:=by
  have:=HK.o;unfold steps at this;split at this<;>omega
 have t:(w.alloc (.cells #[.bool true,.int .i64 mn,.int .i64 mx] 210)).heap[w.heap.size]? =some (.cells #[.bool true,.int .i64 mn,.int .i64 mx] 210 (0,0)):=AS w _;have Z:AA [] w (w.alloc (.cells #[.bool true,.int .i64 mn,.int .i64 mx] 210)):=(AG [] w).alloc _;go_enter Tryz.func213,Tryz.ntmps213;go_wp2_with fail;generalize w.alloc (.cells #[.bool true,.int .i64 mn,.int .i64 mx] 210)=W at*;obtain⟨g0,ak⟩:=AQ w.heap.size;rw[<-ak]at t⊢;have hW:=Y.keep Z (by simp);have a1:=Z.size;have aR:g0<W.heap.size:=(AN.1 t).1;clear ak Y;refine(OF n N HN hn W).mono ?_;rintro e w1⟨vn,rfl,v,y⟩;obtain⟨gn,cn,fn,rfl,_⟩:=id v;have z:=FP t y (by simp);have G:=hW.keep y (by simp);obtain⟨ca,cb⟩:=JX z
 go_upto_if 19 with(fail)
 go_cut [6,7]from 17 to 23 (fun q6 q7 wx=>∃H I,q6=.int .i64 K∧q7=.slice (some ⟨H,0,none⟩) N I∧MP wx (fun x=>W.heap.size<=x) N (.slice (some ⟨H,0,none⟩) N I) (Left R mn mx K)∧AA [] w1 wx)
 case first=>
  by_cases b:mx<0
  ·have al:mx=-1:=by omega
   have HL:Hid (∀i j,Left R mn mx K i j↔Tm R 0 (-1) i j):=fun i j=>by
    rw[HK.o,Left.last hf X,AL b]
   have aA:Hid (K=mn):=by
    have:=HK.o;unfold steps at this;rw[AL b]at this;exact this
   subst al;have T:=TB N n HN hn hle hin w1.drew (G.keep ((AG [] w1).drewN 1) (by simp));clear b X aj hf;go_wp2_with fail
   go_region_with (first|(go_at_call 255;refine T.mono ?_;rintro e w2⟨vl,rfl,hL,aa⟩;obtain⟨H,I,fl,rfl,_⟩:=id hL;have J:=JX (FP z (((AG [] w1).drewN 1).trans aa) (by simp));obtain⟨cx,cy⟩:=J))
   all_goals
    have ab:MP w2 (fun x=>W.heap.size<=x) N (.slice (some ⟨H,0,none⟩) N I) (Left R mn (-1) K):=(hL.mono (S':=fun x=>W.heap.size<=x) fun x b _=>by have:=y.size;simp at b;omega).congr fun i j _ _=>(HL.o i j).symm
    have hk3:AA [] w1 w2:=((AG [] w1).drewN 1).trans aa;have ac:Hid (Value.int .i64 (mn:Int)=.int .i64 (K:Int)):=by show Value.int .i64 (mn:Int)=.int .i64 (K:Int);rw[aA.o]
    clear hL aa T hW G t z v;go_wp2_with fail;go_meet
    case rel=>exact⟨H,I,ac.o,rfl,ab,hk3⟩
  ·have HL:Hid (∀i j,Left R mn mx K i j↔i=j):=fun i j=>by
    rw[HK.o,Left.last hf X,AK b]
   have ac:Hid (Value.int .i64 mx=.int .i64 (K:Int)):=by
    show Value.int .i64 mx=.int .i64 (K:Int);have:=HK.o;unfold steps at this;rw[AK b]at this;congr;omega
   have al:(mx==-1)=false:=by simp;omega
   have ab:MP w1 (fun x=>W.heap.size<=x) N (.slice (some ⟨gn,0,none⟩) N cn) (Left R mn mx K):=v.congr fun i j _ _=>(HL.o i j).symm
   go_wp2_with fail;go_meet
   case rel=>exact⟨gn,cn,ac.o,rfl,ab,AG _ _⟩
 case rest=>
  obtain⟨H,I,rfl,rfl,hL,A⟩:=hcut;obtain⟨w2,aB⟩:∃w2:World,w2=wc:=⟨_,rfl⟩;subst aB;have J:=FP z A (by simp);have am:=G.keep A (by simp);have an:=v.keep A (by simp);have ad:=y.trans A;obtain⟨i0,aC,aD,aE,aF⟩:=A2 OK;have aG:=Tryz.underlying220;have aS:(K:Int)+1<=9223372036854775807:=by omega
  clear ca cb G v y A t z;go_wp2_with(first|(refine D9 w2 rfl _ _ 220 rfl 0 76 i0 (.slice none 0 0) 1 aG aC aD aE .i64 .i64 ((K:Int)+1) ((K:Int)+1) M rfl rfl (by have:=k.o;omega) (by have:=k.o;omega) (by have:=k.o;rw[aF];omega) (by have:=k.o;unfold maxLen;omega) (AY _) ?_));intro w3 B ao;have hk3:AA [] w2 w3:=Ci ao;have ap:=FP J hk3 (by simp);have aH:=am.keep hk3 (by simp);obtain⟨g,hg⟩:=AQ w2.heap.size;rw[<-hg]at B⊢;have aI:W.heap.size<=g:=by have:=ad.size;omega
  have aq:MP w3 (fun x=>W.heap.size<=x∧x≠g) N (.slice (some ⟨gn,0,none⟩) N cn) (fun i j=>i=j):=(an.mono (S':=fun x=>W.heap.size<=x∧x≠g) fun x b hy=>⟨b,by omega⟩).keep hk3 (by simp);have ar:MP w3 (fun x=>W.heap.size<=x∧x≠g) N (.slice (some ⟨H,0,none⟩) N I) (Left R mn mx K):=(hL.mono (S':=fun x=>W.heap.size<=x∧x≠g) fun x b hy=>⟨b,by omega⟩).keep hk3 (by simp);have F0:FL W w3 g N M (Left R mn mx) (K+1):=⟨⟨_,B,fun e Y h2=>by have:=k.o;omega⟩,ad.trans hk3,aI⟩;obtain⟨⟨u0,ae⟩,af⟩:=F0.cell (e:=K) (by have:=k.o;omega);have F1:=F0.put (by have:=k.o;omega) ar (fun x b=>b);have a:AA [g] w3 (w3.setCell ⟨g,K,none⟩ (.slice (some ⟨H,0,none⟩) N I)):=(AG [g] w3).setCell (p:=⟨g,K,none⟩) (by simp) _;have au:=FP ap a (by simp;omega);have aw:=aq.keep a (by intro x b;simp;exact b.2);have aT:(0:Int)<=(K:Int):=by omega
  have aU:(K:Int)<(M:Int):=by have:=k.o;omega
  have a2:(M:Int)<=6:=by have:=k.o;omega
  clear B ao hk3 ad an hL ar aq F0 J ap hg am aH;go_wp2_with fail;generalize w3.setCell ⟨g,K,none⟩ (.slice (some ⟨H,0,none⟩) N I)=w4 at*;clear ae af a;go_loopw [9] (fun q wr=>∃d:Nat,d<=K∧q=.int .i64 ((d:Int)-1)∧FL W wr g N M (Left R mn mx) d∧MP wr (fun x=>W.heap.size<=x∧x≠g) N (.slice (some ⟨gn,0,none⟩) N cn) (fun i j=>i=j)∧wr.heap[g0]? =some (.cells #[.bool true,.int .i64 mn,.int .i64 mx] 210 (0,0))) (fun q _=>(intOf q+1).toNat)
  case atStart=>exact⟨K,AP _,rfl,F1,aw,au⟩
  case round=>
   clear F1 aw au;obtain⟨d,hd,rfl,hF,ax,hz⟩:=hrel;cases d with
   |zero=>
    have e:(((0:Nat):Int)-1)=-1:=by omega
    rw[e];have ay:=hF.done.mono (S':=fun x=>w.heap.size<=x) fun x b _=>by omega
    have aJ:=Z.trans hF.keep;go_wp2_with fail;go_ret;exact⟨g,rfl,ay,aJ⟩
   |succ d=>
    have e:(((d+1:Nat):Int)-1)=(d:Int):=by omega
    rw[e];clear e;obtain⟨c,HC⟩:∃c,Hid (c=d+1):=⟨_,rfl⟩;have a3:(d:Int)+1=(c:Int):=by have:=HC.o;omega
    have f:FL W wr g N M (Left R mn mx) c:=by have:=HC.o;rw[this];exact hF
    obtain⟨u,aK,hu⟩:=f.at (e:=c) (AP _) (by have:=k.o;have:=HC.o;omega);obtain⟨gu,cu,fu,rfl,_⟩:=id hu;obtain⟨⟨u0,ae⟩,af⟩:=f.cell (e:=d) (by have:=k.o;omega);have a4:(0:Int)<=(d:Int):=by omega
    have a5:(d:Int)<(M:Int):=by have:=k.o;omega
    have a6:(0:Int)<=(c:Int):=by omega
    have a7:(c:Int)<(M:Int):=by have:=k.o;omega
    have HD:Hid (d+1<=K):=hd;have aL:=hW.keep f.keep (by simp);have T:=OH N (by omega) hle hin wr aL hu;clear hd hF;go_wp2_with fail;refine T.mono ?_;rintro e w5⟨vt,rfl,hT,L⟩;obtain⟨gt,C,ft,rfl,_⟩:=id hT;have ag:=f.keeps L;have l:FL W w5 g N M (Left R mn mx) (d+1):=by have:=HC.o;rw[<-this];exact ag
    have O:d<M:=by have:=k.o;have:=HD.o;omega
    obtain⟨⟨u5,aM⟩,a8⟩:=ag.cell O;have P:=ax.keep L (by simp);have D:=FP hz L (by simp);obtain⟨ca,cb⟩:=JX D;have a9:=f.glt;have U:∀x,wr.heap.size<=x->W.heap.size<=x∧x≠g:=by intro x b;have:=f.keep.size;omega
    have a:∀u,AA [g] w5 (w5.setCell ⟨g,d,none⟩ u):=fun u=>(AG [g] w5).setCell (p:=⟨g,d,none⟩) (by simp) _
    have E:=fun i j=>Left.step (R:=R) (mn:=mn) (mx:=mx) (d:=d) (i:=i) (j:=j) (by
     have Y:=HK.o;have h2:=HD.o;unfold steps at Y;split at Y<;>omega)
    have HS:Hid (∀i j,Left R mn mx d i j↔((mn<=d∧i=j)∨∃m,R i m∧Left R mn mx (d+1) m j)):=E;have HT:Hid (MP w5 (fun x=>wr.heap.size<=x) N (.slice (some ⟨gt,0,none⟩) N C) (fun i j=>∃m,R i m∧Left R mn mx (d+1) m j)):=by
     have:=HC.o;rw[this]at hT;exact hT
    clear hT T hu aK ag f L E ae af hz ax;by_cases V:mn<=d
    ·have ba:(mn:Int)<=(d:Int):=by omega
     have az:=(HT.o.mono (S':=fun x=>W.heap.size<=x∧x≠g) fun x b _=>U x b).keep (a (.slice (some ⟨gt,0,none⟩) N C)) (by intro x b;simp;exact b.2);have r:=l.any (.slice (some ⟨gt,0,none⟩) N C);have F:=P.keep (a (.slice (some ⟨gt,0,none⟩) N C)) (by intro x b;simp;exact b.2);have s:=FP D (a (.slice (some ⟨gt,0,none⟩) N C)) (by simp;omega);obtain⟨cx,cy⟩:=JX s;have bc:(w5.setCell ⟨g,d,none⟩ (.slice (some ⟨gt,0,none⟩) N C)).cell? ⟨g,d,none⟩=some (.slice (some ⟨gt,0,none⟩) N C):=Ea _ _ _ aM;have bf:AA [] wr wr:=AG _ _;have HG:Hid (mn<=d):=V;clear l P D ca cb a HT V
     go_upto_if 50 with(fail)
     generalize w5.setCell ⟨g,d,none⟩ (.slice (some ⟨gt,0,none⟩) N C)=w6 at*;have T:=OG N (by omega) w6 az F;go_wp2_with fail;refine T.mono ?_;rintro e w7⟨vo,rfl,hO,Q⟩;obtain⟨go,co,fo,rfl,_⟩:=id hO;have ah:=r.keeps Q;obtain⟨⟨u7,bh⟩,bi⟩:=ah.cell O;have ai:∀x,w6.heap.size<=x->W.heap.size<=x∧x≠g:=by intro x b;have Y:=r.keep.size;have h2:=r.glt;omega
     have a:AA [g] w7 (w7.setCell ⟨g,d,none⟩ (.slice (some ⟨go,0,none⟩) N co)):=(AG [g] w7).setCell (p:=⟨g,d,none⟩) (by simp) _;have aN:=ah.put O (u:=.slice (some ⟨go,0,none⟩) N co) (hO.congr fun i j _ _=>by
      rw[HS.o];constructor
      ·rintro(h|h)
       ·exact AE h
       ·exact AH ⟨HG.o,h⟩
      ·rintro(⟨_,h⟩|h)
       ·exact AE h
       ·exact AH h) ai
     have aO:=(F.keep Q (by simp)).keep a (by intro x b;simp;exact b.2);have aP:=FP (FP s Q (by simp)) a (by simp;omega);clear T hO Q r ah F s az a;go_wp2_with fail;go_roundw
     case rel=>exact⟨d,by have:=HD.o;omega,by go_num,aN,aO,aP⟩
     case measure=>simp[intOf]
    ·have hlt:¬(mn:Int)<=(d:Int):=by omega
     have r:=l.put O (u:=.slice (some ⟨gt,0,none⟩) N C) (HT.o.congr fun i j _ _=>by
      rw[HS.o];constructor
      ·exact AE
      ·rintro(⟨h,_⟩|h)
       ·omega
       ·exact h) U
     have F:=P.keep (a (.slice (some ⟨gt,0,none⟩) N C)) (by intro x b;simp;exact b.2);have s:=FP D (a (.slice (some ⟨gt,0,none⟩) N C)) (by simp;omega);obtain⟨cx,cy⟩:=JX s;clear l P D ca cb a HT;go_wp2_with fail;go_roundw
     case rel=>exact⟨d,by have:=HD.o;omega,by go_num,r,F,s⟩
     case measure=>simp[intOf]
theorem Below.ofKeeps{B:Nat}{w w':World}{S:List Nat}(h:AA S w w')(b:B<=w.heap.size)(a:∀g,g∈S->B<=g):Below B w w':=
 ⟨h.os,h.tape,h.output,h.size,fun k c=>h.block k (by omega) (fun hm=>by have:=a k hm;omega)⟩
theorem Below.join{B:Nat}{a w w':World}(h:Below B a w)(k:Below B w w'):Below B a w':=
 ⟨k.os.trans h.os,k.tape.trans h.tape,k.output.trans h.output,BG h.size k.size,fun j b=>(k.block j b).trans (h.block j b)⟩
def BD(w:World)(B b:Nat)(l:List UInt8):Prop:=
 B<=b∧∃p v,(p=.pointer none∨p=.pointer (some ⟨b,0,none⟩))∧w.heap[b]? =some (.cells #[p,v] 133 (0,0))∧w.ownsRow B 5 1 v l.length (Lib.byteCells l)∧v.ownBlock≠some b∧(l=[]->v=.slice none 0 0)
theorem BD.keep{l:List UInt8}(h:BD w B b l)(a:AA [] w w'):BD w' B b l:=by
 obtain⟨c,p,v,d,hb,e,f,g⟩:=h;exact⟨c,p,v,d,(a.block b (AN.1 hb).1 (by simp)).trans hb,e.keep a (by simp),f,g⟩
theorem OM:(Tryz.prog.info? 133).map (·.size)=some 2:=by kernel_rfl
theorem TE:liesAt Tryz.prog Tryz.prog.depth 133 (2/Tryz.prog.cellsOf 133) 0 133 1=true:=by kernel_rfl
theorem LL:Tryz.prog.underlying 131=some (.pointer 133):=by kernel_rfl
theorem ON:Tryz.prog.underlying 267=some .unsafePointer:=by kernel_rfl
theorem TF(b:Nat)(w:World)(d:w.cell? ⟨b,0,none⟩=some (.pointer (some ⟨b,0,none⟩))):Calls Tryz.prog 119 #[.pointer (some ⟨b,0,none⟩)] w fun e w'=>e=.returned (.tuple #[])∧w'=w:=by
 obtain⟨j,a,_⟩:=Option.map_eq_some_iff.1 OM;have c:=Lib.run_neq_ptr_same (P:=Tryz.prog) w ⟨b,0,none⟩ LL a;go_enter Tryz.func119,Tryz.ntmps119;go_wp2_with fail;go_end0;exact⟨rfl,rfl⟩
theorem TG(b:Nat)(w:World)(g:w.cell? ⟨b,0,none⟩=some (.pointer none))(a:w.shape? b=some (133,2))(f:w.frozen? ⟨b,0,none⟩=false):Calls Tryz.prog 119 #[.pointer (some ⟨b,0,none⟩)] w fun e w'=>e=.returned (.tuple #[])∧w'=w.setCell ⟨b,0,none⟩ (.pointer (some ⟨b,0,none⟩)):=by
 obtain⟨j,d,c⟩:=Option.map_eq_some_iff.1 OM;have h:=Lib.run_to_unsafe (P:=Tryz.prog) w ⟨b,0,none⟩ LL ON d (by rw[c];decide) a (Nat.zero_lt_succ 1);have i:(callFunc 169 #[.pointer (some ⟨b,0,none⟩)]).run Tryz.prog w=.ok (.value (.pointer (some ⟨b,0,none⟩))) w:=by
  rw[run_callFunc_extern Tryz.func169 (by kernel_rfl) (by kernel_rfl) (by kernel_rfl) (e:=Extern.AbiNoEscape.same) (by kernel_rfl),Lib.run_noEscape];rfl
 have k:=Lib.run_from_unsafe (P:=Tryz.prog) w ⟨b,0,none⟩ ON LL d a TE;go_enter Tryz.func119,Tryz.ntmps119;go_wp2_with fail;go_end0;exact⟨rfl,rfl⟩
theorem OO(B b:Nat)(l:List UInt8)(w:World)(h:BD w B b l):Calls Tryz.prog 119 #[.pointer (some ⟨b,0,none⟩)] w fun e w'=>e=.returned (.tuple #[])∧Below B w w'∧Lib.OthersKept 5 (some b) w w'∧∃v,w'.heap[b]? =some (.cells #[.pointer (some ⟨b,0,none⟩),v] 133 (0,0))∧w'.ownsRow B 5 1 v l.length (Lib.byteCells l)∧v.ownBlock≠some b∧(l=[]->v=.slice none 0 0):=by
 obtain⟨g,p,v,j,hb,d,c,i⟩:=h;rcases j with rfl|rfl
 ·have f:Lib.BuilderAt 133 5 B b (.pointer none) (Lib.byteCells l) w:=⟨g,v,hb,by rw[Lib.byteCells_length];exact d,c⟩;refine(TG b w f.cell0 f.shape f.frozen0).mono ?_;rintro e w'⟨rfl,rfl⟩;refine⟨rfl,(Below.refl B w).setCell (p:=⟨b,0,none⟩) g _,(Lib.OthersKept.refl _ _ w).setCell ⟨b,0,none⟩ rfl _,v,?_,d.setOther (a:=⟨b,0,none⟩) c _,c,i⟩;simp[World.setCell,Aq,hb]
 ·refine(TF b w (by rw[AU hb];rfl)).mono ?_;rintro e w'⟨rfl,rfl⟩;exact⟨rfl,Below.refl B _,Lib.OthersKept.refl _ _ _,v,hb,d,c,i⟩
theorem BD.put{p v d:Value}{l:List UInt8}(f:B<=b)(g:p=.pointer none∨p=.pointer (some ⟨b,0,none⟩))(hb:w.heap[b]? =some (.cells #[p,v] 133 (0,0)))(e:w.ownsRow B 5 1 d l.length (Lib.byteCells l))(h:l=[]->d=.slice none 0 0):BD (w.setCell ⟨b,1,none⟩ d) B b l:=by
 have c:=Lib.ownBlock_ne e hb (by decide);refine⟨f,p,d,g,?_,e.setOther (a:=⟨b,1,none⟩) c _,c,h⟩;simp[World.setCell,Aq,hb]
theorem TH(l:List UInt8)(u:UInt8):Lib.byteCells (l++[u])=Lib.byteCells l++[.int .u8 (u.toNat:Int)]:=by simp[Lib.byteCells]
theorem TI(l m:List UInt8):Lib.byteCells (l++m)=Lib.byteCells l++Lib.byteCells m:=by simp[Lib.byteCells]
theorem TJ(l:List UInt8):Lib.strCells (AJ l)=Lib.byteCells l:=by simp[Lib.strCells,Lib.byteCells,AJ]
theorem TM(B b:Nat)(l:List UInt8)(u:UInt8)(c:Int)(F:c=(u.toNat:Int))(w:World)(h:BD w B b l)(hlen:l.length<=1000000000)(G:B<=w.heap.size):Calls Tryz.prog 68 #[.pointer (some ⟨b,0,none⟩),.int .u8 c] w fun e w'=>e=.returned .nilIface∧BD w' B b (l++[u])∧Below B w w'∧Lib.OthersKept 5 (some b) w w':=by
 subst F;obtain⟨i0,r,s,t,x⟩:=A2 Tryz.infoByte;have D:=h.1;go_enter Tryz.func68,Tryz.ntmps68;go_wp2_with fail;refine(OO B b l _ h).mono ?_;rintro e w1⟨rfl,n,y,v,f,d,z,K⟩;have L:w1.cell? ⟨b,0,none⟩=some (.pointer (some ⟨b,0,none⟩)):=by rw[AU f];rfl
 have c1:w1.cell? ⟨b,1,none⟩=some v:=by rw[AU f];rfl
 have hlt:b<w1.heap.size:=(AN.1 f).1;have H:=n.size;have A:=Tryz.underlying64;have C:l.length+1<=maxLen:=by unfold maxLen;omega
 go_wp2_with(at_builtin;refine CC _ rfl _ _ _ rfl B 5 i0 (.int .u8 0) 1 1 A r s t x rfl (by decide) v l.length _ rfl (d.alloc _) ⟨w1.heap.size,0,none⟩ 1 1 [.int .u8 (u.toNat:Int)] rfl rfl ?c1 ?c2 ?c3 C ?c4 ?c5 (w1.heap.size+1) ?c6 ?_)
 case c1=>
  intro j u o
  match j,o with
  |0,o=>simp at o;subst o;simp[Addr.add]
 case c2=>intro u hu;simp at hu;subst hu;rfl
 case c3=>omega
 case c4=>omega
 case c5=>simp;omega
 case c6=>simp
 intro g cap q m a I E;have i:q.heap[b]? =some (.cells #[.pointer (some ⟨b,0,none⟩),v] 133 (0,0)):=by
  rw[a.block b (by simp;omega) (fun e=>z e.symm),Lib.alloc_old w1 _ b hlt];exact f
 have d0:q.cell? ⟨b,0,none⟩=some (.pointer (some ⟨b,0,none⟩)):=by rw[AU i];rfl
 have d1:q.cell? ⟨b,1,none⟩=some v:=by rw[AU i];rfl
 have f1:q.frozen? ⟨b,1,none⟩=false:=Lib.frozen_of_heap i 1;go_wp2_with fail;go_ret;refine⟨rfl,BD.put D (AE rfl) i (by rw[TH,AW,CK];exact m) (by intro h;simp at h),?_,((y.alloc _).grown a (Lib.ownsRowF_kind (World.ownsRowF_of (d.alloc _)))).setCell ⟨b,1,none⟩ rfl _⟩;exact((n.alloc (by omega) _).grown a (by simp;omega) (fun k J=>(d.lt k J).1)).setCell (p:=⟨b,1,none⟩) D _
theorem JY(B b:Nat)(l m:List UInt8)(w:World)(h:BD w B b l)(hlen:l.length<=1000000000)(I:m.length<=1000000000)(L:B<=w.heap.size):Calls Tryz.prog 104 #[.pointer (some ⟨b,0,none⟩),.string (AJ m)] w fun e w'=>(∃v,e=.returned v)∧BD w' B b (l++m)∧Below B w w'∧Lib.OthersKept 5 (some b) w w':=by
 obtain⟨i0,t,u,x,y⟩:=A2 Tryz.infoByte;have J:=h.1;have z:(AJ m).size=m.length:=Bp m;go_enter Tryz.func104,Tryz.ntmps104;go_wp2_with fail;refine(OO B b l _ h).mono ?_;rintro e w1⟨rfl,q,A,v,j,f,C,M⟩;have R:w1.cell? ⟨b,0,none⟩=some (.pointer (some ⟨b,0,none⟩)):=by rw[AU j];rfl
 have c1:w1.cell? ⟨b,1,none⟩=some v:=by rw[AU j];rfl
 have hlt:b<w1.heap.size:=(AN.1 j).1;have N:=q.size;have D:=Tryz.underlying64;have E:=GQ;have F:l.length+(AJ m).size<=maxLen:=by unfold maxLen;omega
 have G:l.length+(AJ m).size<=140737488355328:=by omega
 clear z;go_wp2_with(at_builtin;refine Lib.wpList_append_own_string _ rfl _ _ 64 9 rfl B 5 i0 D E t u x y _ _ _ rfl f (AJ m) rfl ?c3 ?c4 ?c5 ?_)
 case c3=>exact F
 case c4=>exact G
 case c5=>omega
 intro O s i d r;have o:s.heap[b]? =some (.cells #[.pointer (some ⟨b,0,none⟩),v] 133 (0,0)):=by
  rw[d.block b hlt (fun e=>C e.symm)];exact j
 have d0:s.cell? ⟨b,0,none⟩=some (.pointer (some ⟨b,0,none⟩)):=by rw[AU o];rfl
 have d1:s.cell? ⟨b,1,none⟩=some v:=by rw[AU o];rfl
 have f1:s.frozen? ⟨b,1,none⟩=false:=Lib.frozen_of_heap o 1;obtain⟨va,vn,vc,rfl⟩:∃a n c,O=.slice a n c:=by
  rcases i.2 with⟨H,_⟩|⟨g,cap,cur,H,_⟩
  ·exact⟨_,_,_,H⟩
  ·exact⟨_,_,_,H⟩
 go_wp2_with fail;go_ret2;refine⟨⟨_,rfl⟩,BD.put J (AE rfl) o (by rw[TI,AW,<-TJ m];simpa[Bp]using i) ?_,?_,(A.grown d (Lib.ownsRowF_kind (World.ownsRowF_of f))).setCell ⟨b,1,none⟩ rfl _⟩
 ·intro P;have K:=List.append_eq_nil_iff.1 P;exact r.2 ⟨M K.1,by rw[K.2];rfl⟩
 ·exact(q.grown d (by omega) (fun k Q=>(f.lt k Q).1)).setCell (p:=⟨b,1,none⟩) J _
theorem TO(B b:Nat)(p:Value)(w:World)(a:w.heap[b]? =some (.cells #[p,.slice none 0 0] 133 (0,0))):Calls Tryz.prog 70 #[.pointer (some ⟨b,0,none⟩)] w fun e w'=>e=.returned (.string (AJ []))∧Below B w w':=by
 have c:∀(W:World)(q:Option Addr),(Builtin.unsafeString_ #[215,3] 9 #[.pointer q,.int .i64 0]).run Tryz.prog W=.ok (.string .empty) W:=fun W q=>Lib.run_unsafeString_none W _ _ _ q
 have c1:w.drew.cell? ⟨b,1,none⟩=some (.slice none 0 0):=by
  have:w.drew.heap[b]? =some (.cells #[p,.slice none 0 0] 133 (0,0)):=a;rw[AU this];rfl
 have d:(Builtin.unsafeSliceData_ #[64] 215 #[.slice none 0 0]).run Tryz.prog w.drew=.ok (.pointer none) w.drew:=rfl;go_enter Tryz.func70,Tryz.ntmps70;go_wp2_with fail
 go_region
 all_goals(go_wp2_with fail;go_ret;exact⟨rfl,Below.drew (Below.refl B w)⟩)
theorem TP(B b:Nat)(l:List UInt8)(w:World)(h:BD w B b l)(n:l≠[]):Calls Tryz.prog 70 #[.pointer (some ⟨b,0,none⟩)] w fun e w'=>e=.returned (.string (AJ l))∧Below B w w':=by
 obtain⟨D,p,v,E,c,a,o,_⟩:=h;have d:l.length≠0:=by simpa using n
 obtain⟨g,cap,cur,rfl,f,q,s,i,t,k⟩:∃g cap cur,v=.slice (some ⟨g,0,none⟩) l.length cap∧B<=g∧w.heap[g]? =some (.cells cur 5 (0,0))∧l.length<=cap∧cap<=maxLen∧cur.size=cap*1∧cur.toList.take (l.length*1)=Lib.byteCells l:=by
  rcases a.2 with⟨_,u⟩|⟨g,cap,cur,y,r⟩
  ·exact absurd u d
  ·exact⟨g,cap,cur,y,r⟩
 have c1:w.drew.cell? ⟨b,1,none⟩=some (.slice (some ⟨g,0,none⟩) l.length cap):=by
  have:w.drew.heap[b]? =some (.cells #[p,.slice (some ⟨g,0,none⟩) l.length cap] 133 (0,0)):=c;rw[AU this];rfl
 have z:(Builtin.unsafeSliceData_ #[64] 215 #[.slice (some ⟨g,0,none⟩) l.length cap]).run Tryz.prog w.drew=.ok (.pointer (some ⟨g,0,none⟩)) w.drew:=
  Lib.run_unsafeSliceData_row _ _ _ _ _ _ (by omega)
 have A:(Builtin.unsafeString_ #[215,3] 9 #[.pointer (some ⟨g,0,none⟩),.int .i64 l.length]).run Tryz.prog w.drew=.ok (.string (AJ l)) (w.drew.freeze ⟨g,0,none⟩ l.length):=by
  refine Lib.run_unsafeString_row w.drew 215 3 9 5 Tryz.underlying215 (by kernel_rfl) g cur.size (by have m:w.drew.heap[g]? =some (.cells cur 5 (0,0)):=q;simp[World.shape?,m]) l n (by omega) (by unfold maxLen at i;omega) ?_;intro j x C;have:=a.cells (g:=g) rfl j (.int .u8 x.toNat) (by simp[Lib.byteCells,C]);exact this
 go_enter Tryz.func70,Tryz.ntmps70;go_wp2_with fail
 go_region
 all_goals(go_wp2_with fail;go_ret;exact⟨rfl,Lib.below_freeze (Below.drew (Below.refl B w)) (p:=⟨g,0,none⟩) f _⟩)
theorem LM(B b:Nat)(l:List UInt8)(w:World)(h:BD w B b l):Calls Tryz.prog 70 #[.pointer (some ⟨b,0,none⟩)] w fun e w'=>e=.returned (.string (AJ l))∧Below B w w':=by
 by_cases c:l=[]
 ·subst c;obtain⟨i,p,v,j,a,d,f,g⟩:=h;rw[g rfl]at a;exact TO B b p w a
 ·exact TP B b l w h c
theorem LO(g off j:Nat):(⟨g,off,none⟩:Addr).add j=⟨g,off+j,none⟩:=by unfold Addr.add;split<;>simp_all
theorem TQ(w:World)(g off:Nat)(ty:TypeId)(cs:List Value)(d:TypeDesc)(c:∀j v,cs[j]? =some v->w.cell? ⟨g,off+j,none⟩=some v)(hu:Tryz.prog.underlying ty=some d)(hd:(match d with| .struct _| .array _ _=>true|_=>false)=true)(hi:(Tryz.prog.info? ty).map (·.size)=some cs.length):(loadVar ty ⟨g,off,none⟩).run Tryz.prog w=.ok (.agg cs.toArray) w:=by
 have e:(loadCells ⟨g,off,none⟩ cs.length).run Tryz.prog w=.ok cs.toArray w:=
  run_loadCells_list (P:=Tryz.prog) w ⟨g,off,none⟩ cs (fun j v f=>by rw[LO];exact c j v f)
 cases b:Tryz.prog.info? ty with
 |none=>simp[b]at hi
 |some i=>
  have h:i.size=cs.length:=by simpa[b]using hi
  have a:(isAgg ty).run Tryz.prog w=.ok true w:=by
   unfold isAgg;rw[Sem.run_bind,run_underlying hu w];cases d<;>simp_all
  simp[loadVar,Sem.run_bind,a,sizeOf,typeInfo,b,h,e]
theorem LP{ops:Array Oper}{rest:List Oper}{o:Oper}{a:Act}{Q:Exit->Act->World->Prop}(b:o.guard=none)(ty:TypeId)(x:Operand)(c:o.op=.load ty x)(g off:Nat)(e:a.eval x=.pointer (some ⟨g,off,none⟩))(cs:List Value)(d:TypeDesc)(f:∀j v,cs[j]? =some v->w.cell? ⟨g,off+j,none⟩=some v)(hu:Tryz.prog.underlying ty=some d)(hd:(match d with| .struct _| .array _ _=>true|_=>false)=true)(hi:(Tryz.prog.info? ty).map (·.size)=some cs.length)(h:wpList Tryz.prog ops Q rest (a.put o.dst (.agg cs.toArray)) w):wpList Tryz.prog ops Q (o::rest) a w:=by
 refine wpList_plain b fun K i=>?_
 unfold Oper.wp execOp;simp only[c,e,Instr.loadAt,Instr.sureAddr,Sem.run_bind,Sem.run_pure,Result.andThen_ok,TQ w g off ty cs d f hu hd hi];exact i _ _ h
def wl:AD->List AD
 | .wone x=>[x]
 | .wcons x r=>x::wl r
 |_=>[]
def pl:AD->List AD
 | .pcons x r=>x::pl r
 |_=>[]
def tw:Nat->List AD->List UInt8
 |_,[]=>[]
 |k,x::r=>(if 0<k then[124]else[])++Dz x++tw (k+1) r
def tp(l:List AD):List UInt8:=l.flatMap Dz
theorem AT.wl_text{S:Nat->Prop}{x:AD}{vs:List Value}(h:AT w S .wlist x vs):(∀k,tw k (wl x)=(if 0<k then[124]else[])++Dz x)∧(wl x).length=vs.length∧(∀(i:Nat)(y:AD),(wl x)[i]? =some y->∃u,vs[i]? =some u∧AT w S .way y [u]∧y.sz<x.sz):=by
 generalize f:Kr.wlist=l at h
 induction h with
 |wone x v e _=>
  refine⟨fun k=>by simp[wl,tw,Dz],rfl,?_⟩;intro i y d
  match i,d with
  |0,d=>simp[wl]at d;subst d;exact⟨v,rfl,e,by simp[AD.sz]⟩
 |wcons x r v vs e _ _ ih=>
  obtain⟨a,b,c⟩:=ih rfl;refine⟨fun k=>by simp[wl,tw,Dz,a (k+1)],by simp[wl,b],?_⟩;intro i y d
  match i,d with
  |0,d=>simp[wl]at d;subst d;exact⟨v,rfl,e,by simp[AD.sz];omega⟩
  |i+1,d=>
   obtain⟨u,g,j,m⟩:=c i y (by simpa[wl]using d);exact⟨u,by simpa using g,j,by simp[AD.sz];omega⟩
 |_=>cases f
theorem AT.pl_text{S:Nat->Prop}{x:AD}{cs:List Value}(h:AT w S .plist x cs):tp (pl x)=Dz x∧cs.length=(pl x).length*261∧(∀(i:Nat)(y:AD),(pl x)[i]? =some y->∃ds,AT w S .piece y ds∧(∀(j:Nat)(u:Value),ds[j]? =some u->cs[i*261+j]? =some u)∧y.sz<x.sz):=by
 generalize k:Kr.plist=o at h
 induction h with
 |pnil=>exact⟨rfl,rfl,by intro i y d;simp[pl]at d⟩
 |pcons x r cs ds f _ _ ih=>
  obtain⟨a,b,c⟩:=ih rfl;have g:cs.length=261:=f.cells.2;refine⟨by simp[pl,tp,Dz]at a⊢;exact a,by simp[pl,b,g];omega,?_⟩;intro i y d
  match i,d with
  |0,d=>
   simp[pl]at d;subst d;refine⟨cs,f,?_,by simp[AD.sz];omega⟩;intro j u hu;have l:j<cs.length:=by
    rcases DU j cs.length with h|h
    ·exact h
    ·rw[List.getElem?_eq_none h]at hu;cases hu
   rw[Nat.zero_mul,Ba,Db l];exact hu
  |i+1,d=>
   obtain⟨es,m,n,p⟩:=c i y (by simpa[pl]using d);refine⟨es,m,?_,by simp[AD.sz];omega⟩;intro j u hu;have:=n j u hu;rw[ER (by omega),g];have e:(i+1)*261+j-261=i*261+j:=by omega
   rw[e];exact this
 |_=>cases k
theorem OP(x:AD)(o:Option (Nat×Int)):x.sz<=(Cn x o).sz:=by
 cases o with
 |none=>exact AP _
 |some p=>obtain⟨m,n⟩:=p;simp[Cn,AD.sz]
theorem sz_pos(x:AD):0<x.sz:=by cases x<;>simp[AD.sz]<;>omega
structure WF (B b : Nat) (w w' : World) : Prop where
 below : Below B w w'
 others : Lib.OthersKept 5 (some b) w w'
theorem WF.refl(B b:Nat)(w:World):WF B b w w:=⟨Below.refl B w,Lib.OthersKept.refl _ _ w⟩
theorem WF.trans{a:World}(h:WF B b a w)(k:WF B b w w'):WF B b a w':=⟨Below.join h.below k.below,h.others.trans k.others⟩
theorem WF.ofKeeps(h:AA [] w w')(c:B<=w.heap.size):WF B b w w':=
 ⟨Below.ofKeeps h c (by simp),fun k o a _ _=>(h.block k (AN.1 a).1 (by simp)).trans a⟩
theorem KM{cs:Array Value}{T:TypeId}{fr:Nat×Nat}(h:w.heap[g]? =some (.cells cs T fr))(a:T≠5)(d:g≠b)(f:WF B b w w'):w'.heap[g]? =some (.cells cs T fr):=
 f.others g _ h (by simpa using d) (by intro c fz e;cases e;exact a rfl)
theorem BD.lt{l:List UInt8}(h:BD w B b l):b<w.heap.size:=by
 obtain⟨_,p,v,_,hb,_⟩:=h;exact(AN.1 hb).1
theorem OQ{k v:Value}{f:Nat->Bool}{T:TypeId}{fr:Nat×Nat}(h:w.heap[g]? =some (.cells (sc k v f).toArray T fr)):w.cell? ⟨g,0,none⟩=some k∧w.cell? ⟨g,1,none⟩=some v∧∀j u,(AZ f).toList[j]? =some u->w.cell? ⟨g,2+j,none⟩=some u:=by
 refine⟨by rw[AU h];rfl,by rw[AU h];rfl,?_⟩;intro j u hu;rw[AU h];have e:2+j=j+1+1:=by omega
 rw[e];simpa[sc]using hu
def shp:AD->Kd->Prop
 | .set _,.single=>True
 | .set _,.piece=>True
 | .grp _ x,.single=>shp x .ways
 | .grp _ x,.piece=>shp x .ways
 | .rep mn mx x,.piece=>mn<=5∧-1<=mx∧mx<=5∧shp x .single
 | .pnil,.way=>True
 | .pcons x r,.way=>shp x .piece∧shp r .way
 | .wone x,.ways=>shp x .way
 | .wcons x r,.ways=>shp x .way∧shp r .ways
 |_,_=>False
theorem TU{x:AD}(h:shp x .single):shp x .piece:=by
 cases x<;>first|exact h|exact h.elim
theorem Bj.bd(h:Bj s j (.ok (Option.some (mn,mx)) k)):mn<=5∧-1<=mx∧mx<=5:=by
 rcases h with⟨_,_,_,_,e⟩|⟨_,e⟩|⟨_,e⟩|⟨_,e⟩|⟨_,b,n,e⟩
 ·cases e
 ·cases e;omega
 ·cases e;omega
 ·cases e;omega
 ·cases b with
  |bad l=>cases e
  |ok m l=>
   have hm:=(n.ok m l rfl).2.2.1 (by omega);rcases e with⟨_,_,e⟩|⟨_,_,c,d,e⟩|⟨_,e⟩
   ·cases e;omega
   ·cases c with
    |bad x=>cases e
    |ok y x=>
     have f:=(d.ok y x rfl).2.2.1 (by omega);simp only[FA]at e;by_cases a:at' s x=125
     ·rw[AL a]at e;cases e;omega
     ·rw[AK a]at e;cases e
   ·by_cases a:at' s l=125
    ·rw[AL a]at e;cases e;omega
    ·rw[AK a]at e;cases e
def EE:Kd->Nat
 | .single=>2
 | .piece=>2
 |_=>0
def EF:Kd->Nat
 | .way=>1
 | .ways=>2
 |_=>0
theorem G.shp{k:Kd}{d:Nat}{q:R (AD×Nat)}(h:G s k d g i q):∀x g1 j,q=.ok (x,g1) j->shp x k∧x.sz+EE k<=4*(j-i)+EF k:=by
 induction h with
 |one d g i g1 j x v e ih=>intro p f t b;cases b;have:=ih x g1 j rfl;exact⟨this.1,by simp only[AD.sz,EE,EF]at this⊢;omega⟩
 |more d g i g1 j x q v e w ih A=>
  intro p f t b;cases q with
  |bad l=>cases b
  |ok y l=>
   have u:=ih x g1 j rfl;have B:=A y.1 y.2 l rfl;have D:=v.okb x g1 j rfl;have F:=w.okb y.1 y.2 l rfl;cases b;refine⟨⟨u.1,B.1⟩,?_⟩;simp only[AD.sz,EE,EF]at u B⊢;omega
 |wbad=>intro p f t b;cases b
 |nil d g i e=>intro p f t b;cases b;exact⟨trivial,by simp[AD.sz,EE,EF]⟩
 |cons d g i g1 j x q e v w ih A=>
  intro p f t b;cases q with
  |bad l=>cases b
  |ok y l=>
   have u:=ih x g1 j rfl;have B:=A y.1 y.2 l rfl;have D:=v.okb x g1 j rfl;have F:=w.okb y.1 y.2 l rfl;cases b;refine⟨⟨u.1,B.1⟩,?_⟩;simp only[AD.sz,EE,EF]at u B⊢;omega
 |pbad=>intro p f t b;cases b
 |rep d g i g1 j x q v r ih=>
  intro p f t b;have D:=v.okb x g1 j rfl;have u:=ih x g1 j rfl;cases q with
  |bad l=>cases b
  |ok o l=>
   have P:=r.ok;cases o with
   |none=>cases b;exact⟨TU u.1,by simp only[Cn,EE,EF]at u⊢;omega⟩
   |some H=>
    obtain⟨mn,mx⟩:=H;obtain⟨I,J,K⟩:=r.bd;have hlt:j<l:=by
     rcases r with⟨_,_,_,_,e⟩|⟨_,e⟩|⟨_,e⟩|⟨_,e⟩|⟨_,L,n,e⟩
     ·cases e
     ·cases e;omega
     ·cases e;omega
     ·cases e;omega
     ·cases L with
      |bad z=>cases e
      |ok m z=>
       have hm:=n.ok m z rfl;rcases e with⟨_,_,e⟩|⟨_,_,M,N,e⟩|⟨_,e⟩
       ·cases e;omega
       ·cases M with
        |bad y=>cases e
        |ok y E=>
         have Q:=N.ok y E rfl;simp only[FA]at e;by_cases C:at' s E=125
         ·rw[AL C]at e;cases e;omega
         ·rw[AK C]at e;cases e
       ·by_cases C:at' s z=125
        ·rw[AL C]at e;cases e;omega
        ·rw[AK C]at e;cases e
    cases b;refine⟨⟨I,J,K,u.1⟩,?_⟩;simp only[Cn,AD.sz,EE,EF]at u⊢;omega
 |sbad=>intro p f t b;cases b
 |deep=>intro p f t b;cases b
 |grp d g i g1 j x e o v c ih=>intro p f t b;have D:=v.okb x g1 j rfl;cases b;have:=ih x g1 j rfl;exact⟨this.1,by simp only[AD.sz,EE,EF]at this⊢;omega⟩
 |gopen=>intro p f t b;cases b
 |gbad=>intro p f t b;cases b
 |set d g i q e r=>
  intro p f t b;have O:=G.set (s:=s) d g i q e r;cases q with
  |bad l=>cases b
  |ok y l=>cases b;have:=(O.okb _ _ _ rfl).2.2.1 (AE rfl);exact⟨trivial,by simp only[AD.sz,EE,EF];omega⟩
 |dot d g i e=>intro p f t b;cases b;exact⟨trivial,by simp only[AD.sz,EE,EF];omega⟩
 |esc d g i e=>
  intro p f t b;cases r:A9 s 0 (i+1)with
  |bad l=>rw[r]at b;cases b
  |ok y l=>rw[r]at b;cases b;have:=J0 r;exact⟨trivial,by simp only[AD.sz,EE,EF];omega⟩
 |no=>intro p f t b;cases b
 |lit d g i a=>intro p f t b;cases b;exact⟨trivial,by simp only[AD.sz,EE,EF];omega⟩
inductive JN where
 | node (k : Nat)
 | row (l : List Nat)
 | it (c n : Nat)
inductive MN (s : ByteArray) (nds : List Nd) : JN -> Nat -> Nat -> Prop
 | byte (k : Nat) (nd : Nd) (i : Nat) : nds[k]? = some nd -> nd.kind = 98 -> i < s.size -> nd.f (at' s i).toNat = true -> MN s nds (.node k) i (i + 1)
 | grp (k : Nat) (nd : Nd) (c i j : Nat) : nds[k]? = some nd -> nd.kind = 103 -> nd.kids = [c] -> MN s nds (.node c) i j -> MN s nds (.node k) i j
 | alt (k : Nat) (nd : Nd) (c i j : Nat) : nds[k]? = some nd -> nd.kind = 111 -> c ∈ nd.kids -> MN s nds (.node c) i j -> MN s nds (.node k) i j
 | way (k : Nat) (nd : Nd) (i j : Nat) : nds[k]? = some nd -> nd.kind = 119 -> MN s nds (.row nd.kids) i j -> MN s nds (.node k) i j
 | rep (k : Nat) (nd : Nd) (c n i j : Nat) : nds[k]? = some nd -> nd.kind = 114 -> nd.kids = [c] -> nd.mn <= n -> (nd.mx < 0 ∨ (n : Int) <= nd.mx) -> MN s nds (.it c n) i j -> MN s nds (.node k) i j
 | rnil (i : Nat) : MN s nds (.row []) i i
 | rcons (c : Nat) (l : List Nat) (i m j : Nat) : MN s nds (.node c) i m -> MN s nds (.row l) m j -> MN s nds (.row (c :: l)) i j
 | izero (c i : Nat) : MN s nds (.it c 0) i i
 | isucc (c n i m j : Nat) : MN s nds (.node c) i m -> MN s nds (.it c n) m j -> MN s nds (.it c (n + 1)) i j
theorem MN.row_nil:MN s nds (.row []) i j↔i=j:=
 ⟨fun h=>by cases h;rfl,fun h=>by cases h;exact .rnil i⟩
theorem MN.row_cons{l:List Nat}:MN s nds (.row (c::l)) i j↔∃m,MN s nds (.node c) i m∧MN s nds (.row l) m j:=
 ⟨fun h=>by cases h with|rcons _ _ _ m _ a b=>exact⟨m,a,b⟩,fun⟨m,a,b⟩=> .rcons c l i m j a b⟩
theorem MN.row_one:MN s nds (.row [c]) i j↔MN s nds (.node c) i j:=by
 rw[MN.row_cons];constructor
 ·rintro⟨m,a,b⟩;rw[MN.row_nil]at b;subst b;exact a
 ·intro h;exact⟨j,h,MN.row_nil.2 rfl⟩
theorem MN.it_iff{R:Nat->Nat->Prop}(h:∀i j,R i j↔MN s nds (.node c) i j):∀n i j,It R n i j↔MN s nds (.it c n) i j
 |0,i,j=>⟨fun e=>by cases e;exact .izero c i,fun e=>by cases e;rfl⟩
 |n+1,i,j=>by
  constructor
  ·rintro⟨m,a,b⟩;exact .isucc c n i m j ((h i m).1 a) ((MN.it_iff h n m j).1 b)
  ·intro e;cases e with
   |isucc _ _ _ m _ a b=>exact⟨m,(h i m).2 a,(MN.it_iff h n m j).2 b⟩
def ML(s:ByteArray)(nds:List Nd)(kd:Kd)(l:List Nat)(i j:Nat):Prop:=
 match kd with
 | .ways=>∃c,c∈l∧MN s nds (.node c) i j
 |_=>MN s nds (.row l) i j
theorem MN.byte_iff(e:nds[k]? =some nd)(g:nd.kind=98):MN s nds (.node k) i j↔i<s.size∧nd.f (at' s i).toNat=true∧j=i+1:=by
 constructor
 ·intro h;cases h with
  |byte _ c _ d k' a b=>cases e.symm.trans d;exact⟨a,b,rfl⟩
  |grp _ c _ _ _ d k'=>cases e.symm.trans d;omega
  |alt _ c _ _ _ d k'=>cases e.symm.trans d;omega
  |way _ c _ _ d k'=>cases e.symm.trans d;omega
  |rep _ c _ _ _ _ d k'=>cases e.symm.trans d;omega
 ·rintro⟨a,b,rfl⟩;exact .byte k nd i e g a b
theorem MN.grp_iff(e:nds[k]? =some nd)(m:nd.kind=103)(l:nd.kids=[c]):MN s nds (.node k) i j↔MN s nds (.node c) i j:=by
 constructor
 ·intro h;cases h with
  |byte _ d _ f k' a b=>cases e.symm.trans f;omega
  |grp _ d o _ _ f k' g n=>cases e.symm.trans f;rw[l]at g;cases g;exact n
  |alt _ d _ _ _ f k'=>cases e.symm.trans f;omega
  |way _ d _ _ f k'=>cases e.symm.trans f;omega
  |rep _ d _ _ _ _ f k'=>cases e.symm.trans f;omega
 ·exact .grp k nd c i j e m l
theorem MN.alt_iff(e:nds[k]? =some nd)(l:nd.kind=111):MN s nds (.node k) i j↔∃c,c∈nd.kids∧MN s nds (.node c) i j:=by
 constructor
 ·intro h;cases h with
  |byte _ d _ f k' a b=>cases e.symm.trans f;omega
  |grp _ d _ _ _ f k'=>cases e.symm.trans f;omega
  |alt _ d c _ _ f k' g m=>cases e.symm.trans f;exact⟨c,g,m⟩
  |way _ d _ _ f k'=>cases e.symm.trans f;omega
  |rep _ d _ _ _ _ f k'=>cases e.symm.trans f;omega
 ·rintro⟨c,g,h⟩;exact .alt k nd c i j e l g h
theorem MN.way_iff(e:nds[k]? =some nd)(f:nd.kind=119):MN s nds (.node k) i j↔MN s nds (.row nd.kids) i j:=by
 constructor
 ·intro h;cases h with
  |byte _ c _ d k' a b=>cases e.symm.trans d;omega
  |grp _ c _ _ _ d k'=>cases e.symm.trans d;omega
  |alt _ c _ _ _ d k'=>cases e.symm.trans d;omega
  |way _ c _ _ d k' g=>cases e.symm.trans d;exact g
  |rep _ c _ _ _ _ d k'=>cases e.symm.trans d;omega
 ·exact .way k nd i j e f
theorem MN.rep_iff(e:nds[k]? =some nd)(m:nd.kind=114)(l:nd.kids=[c]):MN s nds (.node k) i j↔∃n,nd.mn<=n∧(nd.mx<0∨(n:Int)<=nd.mx)∧MN s nds (.it c n) i j:=by
 constructor
 ·intro h;cases h with
  |byte _ d _ f k' a b=>cases e.symm.trans f;omega
  |grp _ d _ _ _ f k'=>cases e.symm.trans f;omega
  |alt _ d _ _ _ f k'=>cases e.symm.trans f;omega
  |way _ d _ _ f k'=>cases e.symm.trans f;omega
  |rep _ d p n _ _ f k' g a b o=>cases e.symm.trans f;rw[l]at g;cases g;exact⟨n,a,b,o⟩
 ·rintro⟨n,a,b,h⟩;exact .rep k nd c n i j e m l a b h
theorem Cz.way_iff{l:List Nat}(h:Cz nds 119 l c):MN s nds (.row l) i j↔MN s nds (.node c) i j:=by
 rcases h with rfl|⟨_,nd,e,a,rfl⟩
 ·exact MN.row_one
 ·exact(MN.way_iff e a).symm
theorem Cz.alt_iff{l:List Nat}(h:Cz nds 111 l c):(∃d,d∈l∧MN s nds (.node d) i j)↔MN s nds (.node c) i j:=by
 rcases h with rfl|⟨_,nd,e,a,rfl⟩
 ·simp
 ·exact(MN.alt_iff e a).symm
theorem OR(h:i<s.size):(at' s i).toNat<256:=by
 have a:=(E8 s i).2;have b:=Bd h;omega
theorem IU:∀{x:AD}{kd:Kd},shp x kd->∀{l:List Nat},rep nds x l->∀{i j:Nat},Mt s x i j↔ML s nds kd l i j:=by
 intro x
 induction x with
 |set f=>
  intro kd g l h i j;obtain⟨k,nd,rfl,e,t,_,z⟩:=h;have:Mt s (.set f) i j↔MN s nds (.row [k]) i j:=by
   rw[MN.row_one,MN.byte_iff e t];show i<s.size∧f (at' s i).toNat=true∧j=i+1↔_;constructor
   ·rintro⟨a,b,c⟩;exact⟨a,by rw[z _ (OR a)];exact b,c⟩
   ·rintro⟨a,b,c⟩;exact⟨a,by rw[<-z _ (OR a)];exact b,c⟩
  cases kd with
  |ways=>exact g.elim
  |way=>exact g.elim
  |piece=>exact this
  |single=>exact this
 |grp m x ih=>
  intro kd g l h i j;obtain⟨k,nd,c,lw,rfl,e,t,_,y,q,u⟩:=h;have:shp x .ways->(Mt s (.grp m x) i j↔MN s nds (.row [k]) i j):=fun hw=>by
   rw[MN.row_one,MN.grp_iff e t y,<-u.alt_iff];exact ih hw q
  cases kd with
  |ways=>exact g.elim
  |way=>exact g.elim
  |piece=>exact this g
  |single=>exact this g
 |rep mn mx x ih=>
  intro kd g l h i j;obtain⟨k,nd,c,rfl,e,t,rfl,rfl,y,q⟩:=h;have:shp x .single->(Mt s (.rep nd.mn nd.mx x) i j↔MN s nds (.row [k]) i j):=fun hw=>by
   rw[MN.row_one,MN.rep_iff e t y];have v:∀i j,Mt s x i j↔MN s nds (.node c) i j:=fun i j=>by rw[<-MN.row_one];exact ih hw q
   constructor
   ·rintro⟨n,a,b,h⟩;exact⟨n,a,b,(MN.it_iff v n i j).1 h⟩
   ·rintro⟨n,a,b,h⟩;exact⟨n,a,b,(MN.it_iff v n i j).2 h⟩
  cases kd with
  |ways=>exact g.elim
  |way=>exact g.elim
  |piece=>exact this g.2.2.2
  |single=>exact g.elim
 |pnil=>
  intro kd g l h i j;cases h;cases kd with
  |way=>exact MN.row_nil.symm
  |ways=>exact g.elim
  |piece=>exact g.elim
  |single=>exact g.elim
 |pcons x r o p=>
  intro kd g l h i j;obtain⟨k,l',rfl,v,w⟩:=h;cases kd with
  |way=>
   show(∃m,Mt s x i m∧Mt s r m j)↔MN s nds (.row (k::l')) i j;rw[MN.row_cons];constructor
   ·rintro⟨m,a,b⟩;exact⟨m,MN.row_one.1 ((o g.1 v).1 a),(p g.2 w).1 b⟩
   ·rintro⟨m,a,b⟩;exact⟨m,(o g.1 v).2 (MN.row_one.2 a),(p g.2 w).2 b⟩
  |ways=>exact g.elim
  |piece=>exact g.elim
  |single=>exact g.elim
 |wone x ih=>
  intro kd g l h i j;obtain⟨c,lp,rfl,q,u⟩:=h;cases kd with
  |ways=>
   show Mt s x i j↔∃d,d∈[c]∧MN s nds (.node d) i j;rw[show Mt s x i j↔MN s nds (.row lp) i j from ih g q,u.way_iff];simp
  |way=>exact g.elim
  |piece=>exact g.elim
  |single=>exact g.elim
 |wcons x r o p=>
  intro kd g l h i j;obtain⟨c,lp,l',rfl,⟨q,u⟩,w⟩:=h;cases kd with
  |ways=>
   show(Mt s x i j∨Mt s r i j)↔∃d,d∈c::l'∧MN s nds (.node d) i j;rw[show Mt s x i j↔MN s nds (.row lp) i j from o g.1 q,u.way_iff,show Mt s r i j↔∃d,d∈l'∧MN s nds (.node d) i j from p g.2 w];constructor
   ·rintro(h|⟨d,a,b⟩)
    ·exact⟨c,by simp,h⟩
    ·exact⟨d,by simp[a],b⟩
   ·rintro⟨d,a,b⟩;rcases Az.1 a with rfl|a
    ·exact AH b
    ·exact AE ⟨d,a,b⟩
  |way=>exact g.elim
  |piece=>exact g.elim
  |single=>exact g.elim
def Ed:=@Below.ofKeeps
def C6:=@Below.join
