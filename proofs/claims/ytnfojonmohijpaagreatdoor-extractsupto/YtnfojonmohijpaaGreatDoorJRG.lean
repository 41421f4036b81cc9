/-
  DERIVED. The contract of the reference's 'class'. Conditions: the pattern is at most 60 bytes long, nothing was wrong so far.
-/
import Derived.Lib.Strings
import Derived.Test.YtnfojonmohijpaaGreatDoorJPA
import Derived.Laws.Rows
set_option linter.all false
set_option maxRecDepth 100000
set_option maxHeartbeats 8000000
namespace Go.Proofs.YtnfojonmohijpaaGreatDoor
open Go.RowKit
variable{i:Nat}{w:World}
def GO:=@List.drop_eq_getElem_cons
def I7:=@decide_eq_false_iff_not
def CK:=@List.length_singleton
def H7:=@List.take_succ_cons
def AW:=@List.length_append
def Fg:=@UInt8.toNat_inj
def As:=@wpList_load_row
def AS:=@heap_alloc_new
def Ag:=@bodyPost_ret
def strOf:Value->ByteArray| .string s=>s|_=>ByteArray.empty
def EK(word:List UInt8)(c:Int)(n:List UInt8):Bool:=decide (word.length<n.length)&&decide (n.take word.length=word)&&decide (((n.getD word.length 0).toNat:Int)=c)
def DZ(word:List UInt8)(c:Int)(k:Nat):Bool:=(names.take k).any (EK word c)
theorem K0(word:List UInt8)(c:Int){k:Nat}(h:k<7):DZ word c (k+1)=(DZ word c k||EK word c (nm k)):=by
 unfold DZ;rw[List.take_succ_eq_append_getElem (by rw[I2];exact h),FF h,List.any_append,List.any_cons,List.any_nil,Bool.or_false]
theorem Mx(word:List UInt8)(c:Int):DZ word c 7=DA word c:=rfl
theorem Ql(word:List UInt8)(n:List UInt8):EK word (-1) n=false:=by
 unfold EK;have:¬(((n.getD word.length 0).toNat:Int)=-1):=by omega
 simp only[BS this,Bool.and_false]
theorem My(word:List UInt8):DA word (-1)=false:=by
 rw[<-Mx];unfold DZ;simp[Ql]
theorem K1(a b:List UInt8)(n:Nat):(((AJ a).extract 0 n).toList==(AJ b).toList)=decide (a.take n=b):=by
 rw[DW,DW,Hz];have:((AJ a).extract 0 n).data.toList=a.take n:=by
  rw[Lib.extract_data];simp[AJ]
 rw[this];by_cases h:a.take n=b
 ·subst h;simp
 ·simp[h]
def H8(m n:Nat):UInt8:=(nm m).getD n 0
theorem Qm(m n:Nat)(h:n<(AJ (nm m)).size):(AJ (nm m))[n]'h=H8 m n:=by
 have a:n<(nm m).length:=by rw[Bp]at h;exact h
 unfold H8;rw[En,Ax a,Option.getD_some];rfl
theorem get!_eq{s:ByteArray}(h:i<s.size):s.get! i=s[i]:=by
 obtain⟨a⟩:=s;have b:i<a.size:=h;show a[i]! =a[i];exact getElem!_pos a i b
theorem Qn(word:List UInt8)(s:ByteArray)(i:Nat)(h:i<s.size):AJ word++s.extract i (i+1)=AJ (word++[s.get! i]):=by
 have a:(s.extract i (i+1)).data.toList=[s[i]]:=by
  rw[Lib.extract_data,Nat.add_sub_cancel_left];have b:i<s.data.toList.length:=by simpa using h
  rw[GO b,H7,List.take_zero];rfl
 rw[get!_eq h];apply ByteArray.ext;apply Array.ext';rw[ByteArray.data_append,Array.toList_append,a];simp[AJ]
theorem Mz{word:List UInt8}{s:ByteArray}(f:DA word (at' s i)=true)(hw:word.length<=4)(hi:i<s.size):(word++[s.get! i]).length=5->word++[s.get! i]∈names:=by
 intro l;have m:word.length=4:=by simp at l;omega
 unfold DA at f;simp only[List.any_eq_true,GH,EJ]at f;obtain⟨n,k,⟨p,g⟩,o⟩:=f;have h:=Ml n k;rw[Bd hi]at o;have j:n.getD word.length 0=s[i]:=by
  apply Fg.1;omega
 have:n=word++[s.get! i]:=by
  rw[get!_eq hi,<-j];rw[m]at g⊢
  match n,h with
  |[a,b,c,d,e],_=>
   simp at g;rw[<-g];rfl
 rw[<-this];exact k
theorem Qo(p:PS)(i b:Nat)(hb:p.bad<0)(a:BR p.s 6 [] (p.ix+2)=.ok b i)(f:at' p.s (p.ix+1)=58):(({p with ix:=i}:PS).needed 58).needed 93=p.after (CQ p.s p.ix)∧(∀k j,CQ p.s p.ix=.ok k j->k=b):=by
 have e:CQ p.s p.ix=(A7 p.s 58 i).bind fun _ j=>(A7 p.s 93 j).bind fun _ j=> .ok b j:=by
  unfold CQ;rw[show A7 p.s 58 (p.ix+1)=.ok () (p.ix+2)from by simp[A7,f]];simp only[R.bind,a]
 rw[e];by_cases c:at' p.s i=58
 ·by_cases d:at' p.s (i+1)=93
  ·simp[A7,c,d,R.bind,PS.needed,PS.cur,hb,PS.after]
  ·simp[A7,c,d,R.bind,PS.needed,PS.cur,hb,PS.after,PS.failed]
 ·have:¬((i:Int)<0):=by omega
  simp[A7,c,R.bind,PS.needed,PS.cur,hb,PS.after,PS.failed,this]
theorem M0(p:PS)(i:Nat)(a:BR p.s 6 [] (p.ix+2)=.bad i)(b:at' p.s (p.ix+1)=58):CQ p.s p.ix=.bad i:=by
 unfold CQ;rw[show A7 p.s 58 (p.ix+1)=.ok () (p.ix+2)from by simp[A7,b]];simp only[R.bind,a]
theorem Qp(b h:Nat)(p:PS)(f:Nat->Bool)(w:World)(hp:PB w b p)(hh:HB w h f)(hb:p.bad<0)(hs:p.s.size<=60)(hk:p.ix<p.s.size)(hc:at' p.s (p.ix+1)=58)(ay:¬b=h):Calls Tryz.prog 281 #[.pointer (some ⟨b,0,none⟩),.slice (some ⟨h,0,none⟩) 256 256] w fun e w'=>e=.returned (.tuple #[])∧PB w' b (p.after (CQ p.s p.ix))∧(∃f',HB w' h f'∧∀k j,CQ p.s p.ix=.ok k j->∀n,n<256->f' n=(f n||BC k n))∧AA [b,h] w w':=by
 obtain⟨c0,h6,h7,f6,f7⟩:=hp.main;have az:(0:Int)<=(p.ix:Int):=by omega
 have I:(p.ix:Int)<=60:=by omega
 have T:=hp.setIx (p.ix+1);have hlt:p.ix+1<p.s.size:=Ap (by omega);have U:PS.needed {p with ix:=p.ix+1} 58={p with ix:=p.ix+2}:=by simp[PS.needed,PS.cur,hb,hc]
 have NE:=fun w1 h1=>Fe b {p with ix:=p.ix+1} 58 w1 h1 (by omega) hs
 rw[U]at NE;have HC:Hid (at' p.s (p.ix+1)=58):=hc;clear U hc;go_enter Tryz.func281,Tryz.ntmps281;go_wp2_with(first|(go_at_call 227;refine(NE _ T).mono ?_;rintro e w1⟨rfl,J,K⟩));have V:PB (w1.alloc (.cells Cg 9)) b {p with ix:=p.ix+2}:=J.keep ((AG [] w1).alloc _) (by simp);have W:AA [b,h] w w1:=(((AG [b] w).setCell (p:=⟨b,7,none⟩) (by simp) _).trans K).mono (by simp);have L:HB w1 h f:=hh.keep (((AG [b] w).setCell (p:=⟨b,7,none⟩) (by simp) _).trans K) (by simp;omega);have X:HB (w1.alloc (.cells Cg 9)) h f:=L.keep ((AG [] w1).alloc _) (by simp);have Y:NB (w1.alloc (.cells Cg 9)) w1.heap.size:=AS w1 _;have hbl:=J.lt;have aA:=L.lt;generalize af:w1.heap.size=g at*;have Z:=W.alloc (.cells Cg 9);clear hp hh T J L K W c0 h6 h7 f6 f7 NE af;go_loopw [5] (fun v wr=>∃(word:List UInt8)(i:Nat),v=.string (AJ word)∧i<=p.s.size∧word.length<=5∧Hid (word.length=5->word∈names)∧Hid (BR p.s 6 [] (p.ix+2)=BR p.s (6-word.length) word i)∧PB wr b {p with ix:=i}∧HB wr h f∧NB wr g∧AA [b,h] w wr) (fun v _=>6-(strOf v).size)
 case atStart=>exact⟨[],p.ix+2,rfl,hlt,by simp,by intro h;simp at h,rfl,V,X,Y,Z⟩
 case round=>
  clear V X Y Z;obtain⟨word,i,rfl,hi,aB,aa,d,c,y,D,hk3⟩:=hrel;obtain⟨c0,h6,h7,f6,f7⟩:=c.main;go_wp2
  go_loop [6] (fun q=>∃k:Nat,k<=7∧q=.int .i64 k∧Hid (∀j,j<k->nm j≠word)) (fun q=>7-(intOf q).toNat)
  case atStart=>exact⟨0,by omega,rfl,fun j Q=>by omega⟩
  case round=>
   obtain⟨k,aC,rfl,z⟩:=hrel;by_cases r:k<7
   ·have M:=D.cell r;have ap:(k:Int)<7:=by omega
    have aq:(0:Int)<=(k:Int):=by omega
    by_cases heq:nm k=word
    ·have F:((AJ (nm k)).toList==(AJ word).toList)=true:=by rw[I4];simpa using heq
     have HE:Hid (nm k=word):=heq;have HL:Hid (BR p.s 6 [] (p.ix+2)=.ok k i):=by
      show BR p.s 6 [] (p.ix+2)=_;rw[d.out,<-heq,I3 r,show 6-5=1 from rfl,BR,Mm r (by intro j Q;rw[heq];exact z.out j Q) rfl]
     clear heq;go_wp2_with(first|(go_at_call 227;refine(Fe b _ 93 _ ab (by omega) (by rw[Gv];exact hs)).mono ?_;rintro e w5⟨rfl,N,O⟩)|(go_at_call 227;refine(Fe b _ 58 _ c (by omega) hs).mono ?_;rintro e w4⟨rfl,ab,hk4⟩));have ac:HB w5 h f:=y.keep (hk4.trans O) (by simp;omega);have I:AA [b,h] w w5:=hk3.trans ((hk4.trans O).mono (by simp));obtain⟨E1,E2⟩:=Qo p i k hb HL.o HC.o;have E3:Hid (∀k' j,CQ p.s p.ix=.ok k' j->k'=k):=E2;rw[E1]at N;clear E1 E2 c y D hk3 ab hk4 O M c0 h6 h7 f6 f7 F;subst HE;go_loopw [7] (fun q wq=>∃m:Nat,m<=256∧q=.int .i64 m∧PB wq b (p.after (CQ p.s p.ix))∧HB wq h (fun n=>f n||(decide (n<m)&&BC k n))∧AA [b,h] w wq) (fun q _=>256-(intOf q).toNat)
     case atStart=>exact⟨0,by omega,rfl,N,ac.congr (by simp),I⟩
     case round=>
      clear N ac I;obtain⟨m,hm,rfl,ad,E,G⟩:=hrel;by_cases ag:m<256
      ·have P:=E.cell ag;have aD:=E.frozen m;have ah:(m:Int)<256:=by omega
       have ai:(0:Int)<=(m:Int):=by omega
       have ar:wr.cell? ⟨h,m,none⟩=some (.bool (f m)):=by rw[P];simp
       clear P;have fin:∀v:Bool,v=(f m||BC k m)->HB (wr.setCell ⟨h,m,none⟩ (.bool v)) h (fun n=>f n||(decide (n<m+1)&&BC k n)):=by
        intro v hv;refine(E.set m v).congr ?_;intro n _;by_cases e:n=m
        ·subst e;simp[hv]
        ·have:decide (n<m+1)=decide (n<m):=by simp;omega
         simp[e,this]
       have aj:Hid (∀v:Bool,v=(f m||BC k m)->HB (wr.setCell ⟨h,m,none⟩ (.bool v)) h (fun n=>f n||(decide (n<m+1)&&BC k n))):=fin;clear fin;cases ak:f m
       all_goals
        go_wp2_with(go_at_call 296;refine(QO k r m _).mono ?_;rintro e w'⟨rfl,rfl⟩);go_roundw
        case rel=>exact⟨m+1,by omega,by go_num,ad.setOther (by simp;omega) _,aj.out _ (by simp[ak]),G.setCell (by simp) _⟩
        case measure=>simp[intOf];omega
      ·have e:m=256:=by omega
       subst e;go_wp2_with fail;refine Ag (results_none rfl _ _ _) rfl ?_;refine⟨rfl,ad,⟨_,E,?_⟩,G⟩;intro k' j l n hn;rw[E3.out k' j l];simp[hn]
    ·have F:((AJ (nm k)).toList==(AJ word).toList)=false:=by rw[I4];simpa using heq
     have HE:Hid (∀j,j<k+1->nm j≠word):=by
      intro j Q;by_cases e:j=k
      ·subst e;exact heq
      ·exact z.out j (by omega)
     clear heq;go_wp2_with fail
     go_round
     case rel=>exact⟨k+1,by omega,by go_num,HE⟩
     case measure=>simp[intOf];omega
   ·have e7:k=7:=by omega
    subst e7;have au:word.length<=4:=by
     by_cases h5:word.length=5
     ·obtain⟨j,Q,e⟩:=GJ.1 (aa.out h5);exact absurd ((FF Q).trans e) (z.out j Q)
     ·omega
    have R:Hid (BR p.s 6 [] (p.ix+2)=if DA word (at' p.s i)then BR p.s (5-word.length) (word++[p.s.get! i]) (i+1)else .bad i):=by
     show BR p.s 6 [] (p.ix+2)=_;rw[d.out,show 6-word.length=(5-word.length)+1 from by omega,BR,Kx z.out]
    clear d aa z;cases hm:Bv {p with ix:=i}
    ·have ae:=Iy hm hb;have H:p.s.size<=i:=ae;have A:Hid (CQ p.s p.ix=.bad i):=M0 p i (by rw[R.o,Cu H,My];rfl) HC.o;clear ae H R;go_wp2_with(first|(go_at_call 83;refine(CH b _ _ c).mono ?_;rintro e w'⟨rfl,n,rfl⟩))
     go_loop [9,11] (fun u q=>u=.bool false∧q=.int .i64 0) (fun _ _=>0)
     case atStart=>exact⟨rfl,rfl⟩
     case round=>
      obtain⟨rfl,rfl⟩:=hrel;go_wp2_with(first|(go_at_call 84;refine(CI b {p with ix:=i} _ (c.drewN n) hb).mono ?_;rintro e w'⟨rfl,rfl⟩));refine Ag (results_none rfl _ _ _) rfl ?_;refine⟨rfl,by rw[A.o];exact(c.drewN n).setBad _,⟨f,(y.drewN n).setOther (by simp;omega) _,?_⟩,(hk3.drewN n).setCell (by simp) _⟩;intro k j l;rw[A.o]at l;cases l
    ·have B:i<p.s.size:=(PS.cur_more hm).1;go_wp2_with(first|(go_at_call 83;refine(CH b _ _ c).mono ?_;rintro e w'⟨rfl,n,rfl⟩));have ec:=Bd B;have aE:(i:Int)<(p.s.size:Int):=by omega
     have aF:(0:Int)<=(i:Int):=by omega
     have aG:(i:Int)<=60:=by omega
     have aH:(word.length:Int)<=4:=by omega
     have aI:(0:Int)<=(word.length:Int):=by omega
     have aJ:(word.length:Int)<5:=by omega
     have aw:=Bp word;go_loopw [9,11] (fun u q wq=>∃m S:Nat,m<=7∧q=.int .i64 m∧u=.bool (DZ word (at' p.s i) m)∧wq=wr.drewN S) (fun _ q _=>7-(intOf q).toNat)
     case atStart=>exact⟨0,n,by omega,rfl,rfl,rfl⟩
     case round=>
      obtain⟨m,S,aK,rfl,rfl,rfl⟩:=hrel;by_cases t:m<7
      ·have P:=D.cell t;have ax:(AJ (nm m)).size=5:=by rw[Bp,I3 t]
       have ah:(m:Int)<7:=by omega
       have ai:(0:Int)<=(m:Int):=by omega
       have al:word.length<(nm m).length:=by rw[I3 t];omega
       have aL:∀hx,(AJ (nm m))[word.length]'hx=H8 m word.length:=fun hx=>Qm _ _ hx
       by_cases a:(nm m).take word.length=word
       ·have am:(((AJ (nm m)).extract 0 word.length).toList==(AJ word).toList)=true:=by rw[K1];simpa using a
        by_cases x:((H8 m word.length).toNat:Int)=(p.s[i].toNat:Int)
        ·have an:(((H8 m word.length).toNat:Int)==(p.s[i].toNat:Int))=true:=by simpa using x
         have HF:Hid (DZ word (at' p.s i) (m+1)=true):=by
          show DZ word (at' p.s i) (m+1)=true;rw[K0 word _ t,ec];have:EK word (p.s[i].toNat:Int) (nm m)=true:=by
           unfold EK;rw[BU al,BU a,BU (show(((nm m).getD word.length 0).toNat:Int)=_ from x)];rfl
          rw[this];simp
         clear x a;go_wp2_with fail;go_quiet (fail);go_wp2_with fail;go_roundw
         case rel=>exact⟨m+1,_,by omega,by go_num,by rw[HF.o],rfl⟩
         case measure=>simp[intOf];omega
        ·have an:(((H8 m word.length).toNat:Int)==(p.s[i].toNat:Int))=false:=by simpa using x
         have HF:Hid (DZ word (at' p.s i) (m+1)=DZ word (at' p.s i) m):=by
          show DZ word (at' p.s i) (m+1)=DZ word (at' p.s i) m;rw[K0 word _ t,ec];have:EK word (p.s[i].toNat:Int) (nm m)=false:=by
           unfold EK;rw[BS (show¬(((nm m).getD word.length 0).toNat:Int)=_ from x)];simp
          rw[this];simp
         clear x a;go_wp2_with fail;go_quiet (fail);go_wp2_with fail;go_roundw
         case rel=>exact⟨m+1,_,by omega,by go_num,by rw[HF.o],rfl⟩
         case measure=>simp[intOf];omega
       ·have am:(((AJ (nm m)).extract 0 word.length).toList==(AJ word).toList)=false:=by rw[K1];simpa using a
        have HF:Hid (DZ word (at' p.s i) (m+1)=DZ word (at' p.s i) m):=by
         show DZ word (at' p.s i) (m+1)=DZ word (at' p.s i) m;rw[K0 word _ t];have:EK word (at' p.s i) (nm m)=false:=by
          unfold EK;rw[BS a];simp
         rw[this];simp
        clear a;go_wp2_with fail;go_quiet (fail);go_wp2_with fail;go_roundw
        case rel=>exact⟨m+1,_,by omega,by go_num,by rw[HF.o],rfl⟩
        case measure=>simp[intOf];omega
      ·have e7:m=7:=by omega
       subst e7;rw[Mx];cases C:DA word (at' p.s i)
       ·have A:Hid (CQ p.s p.ix=.bad i):=M0 p i (by rw[R.o,C];rfl) HC.o;clear C R;go_wp2_with(first|(go_at_call 84;refine(CI b {p with ix:=i} _ (c.drewN S) hb).mono ?_;rintro e w'⟨rfl,rfl⟩));refine Ag (results_none rfl _ _ _) rfl ?_;refine⟨rfl,by rw[A.o];exact(c.drewN S).setBad _,⟨f,(y.drewN S).setOther (by simp;omega) _,?_⟩,(hk3.drewN S).setCell (by simp) _⟩;intro k j l;rw[A.o]at l;cases l
       ·have HW:=Mz C (by omega) B;have HS:Hid (BR p.s 6 [] (p.ix+2)=BR p.s (6-(word++[p.s.get! i]).length) (word++[p.s.get! i]) (i+1)):=by
         show BR p.s 6 [] (p.ix+2)=_;rw[R.o,C,AL rfl,AW,CK];congr 1;omega
        have HA:Hid (AJ word++p.s.extract i (i+1)=AJ (word++[p.s.get! i])):=Qn word p.s i B;have ao:Hid ((word++[p.s.get! i]).length=5->word++[p.s.get! i]∈names):=HW;clear C R HW;go_wp2_with fail;go_quiet (fail);go_wp2_with fail;go_roundw
        case rel=>exact⟨word++[p.s.get! i],i+1,by rw[<-HA.o],by omega,by simp;omega,ao,HS,(c.drewN _).setIx (i+1),(y.drewN _).setOther (by simp;omega) _,(D.drewN _).setOther (by simp;omega) _,(hk3.drewN _).setCell (by simp) _⟩
        case measure=>simp only[strOf];rw[HA.o,Bp,Bp,AW];simp;omega
def GN(w:World):Prop:=∃t fr,w.heap[6]? =some (.cells Cg t fr)
theorem GN.lt(H:GN w):6<w.heap.size:=by
 obtain⟨t,fr,h⟩:=H;exact(AN.1 h).1
theorem GN.keep{w':World}{S:List Nat}(H:GN w)(a:AA S w w')(hb:6∉S):GN w':=by
 have b:=H.lt;obtain⟨t,fr,h⟩:=H;exact⟨t,fr,(a.block _ b hb).trans h⟩
theorem Qq(w:World):(Instr.index 357 (.agg Cg) (.int .i64 0)).run Tryz.prog w=.ok (.string (AJ (nm 0))) w:=by kernel_rfl
theorem Qr(w:World):(Instr.index 357 (.agg Cg) (.int .i64 1)).run Tryz.prog w=.ok (.string (AJ (nm 1))) w:=by kernel_rfl
theorem Qs(w:World):(Instr.index 357 (.agg Cg) (.int .i64 2)).run Tryz.prog w=.ok (.string (AJ (nm 2))) w:=by kernel_rfl
theorem Qt(w:World):(Instr.index 357 (.agg Cg) (.int .i64 3)).run Tryz.prog w=.ok (.string (AJ (nm 3))) w:=by kernel_rfl
theorem Qu(w:World):(Instr.index 357 (.agg Cg) (.int .i64 4)).run Tryz.prog w=.ok (.string (AJ (nm 4))) w:=by kernel_rfl
theorem Qv(w:World):(Instr.index 357 (.agg Cg) (.int .i64 5)).run Tryz.prog w=.ok (.string (AJ (nm 5))) w:=by kernel_rfl
theorem Qw(w:World):(Instr.index 357 (.agg Cg) (.int .i64 6)).run Tryz.prog w=.ok (.string (AJ (nm 6))) w:=by kernel_rfl
theorem M1{k:Nat}(a:k<7)(w:World):(Instr.index 357 (.agg Cg) (.int .i64 (k:Int))).run Tryz.prog w=.ok (.string (AJ (nm k))) w:=
 match k,a with
 |0,_=>Qq w
 |1,_=>Qr w
 |2,_=>Qs w
 |3,_=>Qt w
 |4,_=>Qu w
 |5,_=>Qv w
 |6,_=>Qw w
theorem M2(word:List UInt8)(w:World)(g:GN w):Calls Tryz.prog 297 #[.string (AJ word)] w fun e w'=>e=.returned (.bool (decide (word∈names)))∧w'=w:=by
 obtain⟨t,fr,g⟩:=g;go_enter Tryz.func297,Tryz.ntmps297;go_wp2_with(refine As rfl 357 _ rfl 6 rfl t _ fr _ g Tryz.underlying357 rfl (by kernel_rfl) ?_);clear g;have a:∀k:Nat,k<7->∀w,(Instr.index 357 (.agg Cg) (.int .i64 (k:Int))).run Tryz.prog w=.ok (.string (AJ (nm k))) w:=fun k h w=>M1 h w
 generalize Cg=r at*
 go_loop [6] (fun q=>∃k:Nat,k<=7∧q=.int .i64 k∧Hid (∀j,j<k->nm j≠word)) (fun q=>7-(intOf q).toNat)
 case atStart=>exact⟨0,by omega,rfl,fun j m=>by omega⟩
 case round=>
  obtain⟨k,n,rfl,c⟩:=hrel;by_cases b:k<7
  ·have p:=a k b;have i:(k:Int)<7:=by omega
   have l:(0:Int)<=(k:Int):=by omega
   by_cases heq:nm k=word
   ·have d:((AJ word).toList==(AJ (nm k)).toList)=true:=by rw[I4];simpa using heq.symm
    have f:Hid (word∈names):=by show word∈names;rw[<-heq];exact Kw b
    clear heq a;go_wp2;go_ret;exact⟨by rw[BU f.o];rfl,rfl⟩
   ·have d:((AJ word).toList==(AJ (nm k)).toList)=false:=by rw[I4];simpa using fun h=>heq h.symm
    have f:Hid (∀j,j<k+1->nm j≠word):=fun j m=>by
     by_cases e:j=k
     ·subst e;exact heq
     ·exact c.out j (by omega)
    clear heq a;go_wp2
    go_round
    case rel=>exact⟨k+1,by omega,by go_num,f⟩
    case measure=>simp[intOf];omega
  ·have e:k=7:=by omega
   subst e;have f:Hid (¬word∈names):=by
    show¬word∈names;intro hm;have:=Kx c.out;rw[List.findIdx?_eq_none_iff]at this;have:=this word hm;simp at this
   clear a;go_wp2;go_ret;exact⟨by rw[BS f.o];rfl,rfl⟩
def preB(a b:List UInt8):Bool:=decide (b.length<=a.length)&&decide (a.take b.length=b)
theorem Qx(a b:List UInt8)(m:a.length<=60)(hb:b.length<=60)(w:World):Calls Tryz.prog 233 #[.string (AJ a),.string (AJ b)] w fun e w'=>e=.returned (.bool (preB a b))∧w'=w:=by
 have d:(AJ a).size=a.length:=Bp a;have c:(AJ b).size=b.length:=Bp b;by_cases f:b.length<=a.length
 ·have g:((AJ b).size:Int)<=((AJ a).size:Int):=by omega
  have i:(AJ b).size<=(AJ a).size:=by omega
  have j:=K1 a b (AJ b).size;have h:Hid (preB a b=decide (a.take (AJ b).size=b)):=by show preB a b=_;unfold preB;rw[BU f,c];rfl
  have k:((AJ a).size:Int)<=60:=by omega
  have l:((AJ b).size:Int)<=60:=by omega
  clear f d c;go_enter Tryz.func233,Tryz.ntmps233;go_wp2;go_ret;exact⟨by rw[h.o];first|rfl|(rw[<-j];rfl),rfl⟩
 ·have g:¬((AJ b).size:Int)<=((AJ a).size:Int):=by omega
  have h:Hid (preB a b=false):=by show preB a b=_;unfold preB;rw[BS f];rfl
  have k:((AJ a).size:Int)<=60:=by omega
  have l:((AJ b).size:Int)<=60:=by omega
  clear f d c;go_enter Tryz.func233,Tryz.ntmps233;go_wp2;go_ret;exact⟨by rw[h.o];rfl,rfl⟩
theorem Qy(a b:List UInt8)(c:a.length<=60)(hb:b.length<=60)(w:World):Calls Tryz.prog 194 #[.string (AJ a),.string (AJ b)] w fun e w'=>e=.returned (.bool (preB a b))∧w'=w:=by
 go_enter Tryz.func194,Tryz.ntmps194;go_wp2_with(go_at_call 233;refine(Qx a b c hb _).mono ?_;rintro e w'⟨rfl,rfl⟩);go_ret;exact⟨rfl,rfl⟩
def Fh(b:List UInt8):Bool:=names.any fun n=>preB n b
theorem Qz{b:List UInt8}(h:∀j,j<7->preB (nm j) b=false):Fh b=false:=by
 unfold Fh;rw[List.any_eq_false];intro n d;obtain⟨j,c,rfl⟩:=GJ.1 d;have a:j<7:=by rw[I2]at c;exact c
 rw[<-FF a,h j a];simp
theorem Q3{b:List UInt8}{j:Nat}(a:j<7)(h:preB (nm j) b=true):Fh b=true:=by
 unfold Fh;rw[List.any_eq_true];exact⟨nm j,Kw a,h⟩
theorem RC(word:List UInt8)(hw:word.length<=60)(w:World)(f:GN w):Calls Tryz.prog 299 #[.string (AJ word)] w fun e w'=>e=.returned (.bool (Fh word))∧w'=w:=by
 obtain⟨t,fr,f⟩:=f;go_enter Tryz.func299,Tryz.ntmps299;go_wp2_with(refine As rfl 357 _ rfl 6 rfl t _ fr _ f Tryz.underlying357 rfl (by kernel_rfl) ?_);clear f;have b:∀k:Nat,k<7->∀w,(Instr.index 357 (.agg Cg) (.int .i64 (k:Int))).run Tryz.prog w=.ok (.string (AJ (nm k))) w:=fun k h w=>M1 h w
 generalize Cg=r at*
 go_loop [6] (fun q=>∃k:Nat,k<=7∧q=.int .i64 k∧Hid (∀j,j<k->preB (nm j) word=false)) (fun q=>7-(intOf q).toNat)
 case atStart=>exact⟨0,by omega,rfl,fun j m=>by omega⟩
 case round=>
  obtain⟨k,n,rfl,c⟩:=hrel;by_cases a:k<7
  ·have p:=b k a;have i:(k:Int)<7:=by omega
   have l:(0:Int)<=(k:Int):=by omega
   have g:=fun w=>Qy (nm k) word (by rw[I3 a];omega) hw w
   cases heq:preB (nm k) word
   ·have d:Hid (∀j,j<k+1->preB (nm j) word=false):=fun j m=>by
     by_cases e:j=k
     ·subst e;exact heq
     ·exact c.out j (by omega)
    rw[heq]at g;clear heq b;go_wp2_with(go_at_call 194;refine(g _).mono ?_;rintro e w'⟨rfl,rfl⟩)
    go_round
    case rel=>exact⟨k+1,by omega,by go_num,d⟩
    case measure=>simp[intOf];omega
   ·have d:Hid (Fh word=true):=Q3 a heq;rw[heq]at g;clear heq b;go_wp2_with(go_at_call 194;refine(g _).mono ?_;rintro e w'⟨rfl,rfl⟩);go_ret;exact⟨by rw[d.o];rfl,rfl⟩
  ·have e:k=7:=by omega
   subst e;have d:Hid (Fh word=false):=Qz c.out;clear b;go_wp2;go_ret;exact⟨by rw[d.o];rfl,rfl⟩
theorem RD(n word:List UInt8)(c:UInt8):preB n (word++[c])=EK word (c.toNat:Int) n:=by
 unfold preB EK;by_cases a:word.length<n.length
 ·have d:(word++[c]).length<=n.length:=by simp;omega
  rw[BU a,BU d,Bool.true_and,Bool.true_and];have e:n.take (word++[c]).length=n.take word.length++[n.getD word.length 0]:=by
   rw[AW,CK,List.take_succ_eq_append_getElem a,En,Ax a];rfl
  rw[e];by_cases b:n.take word.length=word
  ·rw[BU b,Bool.true_and,b];by_cases f:n.getD word.length 0=c
   ·rw[f];simp
   ·have:¬((n.getD word.length 0).toNat:Int)=(c.toNat:Int):=fun h=>f (Fg.1 (by omega))
    rw[BS this];simp only[I7];intro h;have:=List.append_cancel_left h;simp at this;exact f (by simpa using this)
  ·rw[BS b,Bool.false_and];simp only[I7];intro h;exact b (List.append_inj_left' h rfl)
 ·have d:¬(word++[c]).length<=n.length:=by simp;omega
  rw[BS a,BS d];rfl
theorem RE(word:List UInt8)(c:UInt8):Fh (word++[c])=DA word (c.toNat:Int):=by
 unfold Fh;show _=names.any (EK word (c.toNat:Int));congr 1
 funext n
 exact RD n word c
theorem RF(b h:Nat)(p:PS)(f:Nat->Bool)(w:World)(x:PB w b p)(z:HB w h f)(hb:p.bad<0)(B:p.s.size<=60)(C:p.ix<p.s.size)(A:¬b=h):Calls Tryz.prog 281 #[.pointer (some ⟨b,0,none⟩),.slice (some ⟨h,0,none⟩) 256 256] w fun e w'=>e=.returned (.tuple #[])∧PB w' b (p.after (CQ p.s p.ix))∧(∃f',HB w' h f'∧∀k j,CQ p.s p.ix=.ok k j->∀n,n<256->f' n=(f n||BC k n))∧AA [b,h] w w':=by
 by_cases y:at' p.s (p.ix+1)=58
 ·exact Qp b h p f w x z hb B C y A
 ·obtain⟨D,E,F,f6,f7⟩:=x.main;have G:(0:Int)<=(p.ix:Int):=by omega
  have H:(p.ix:Int)<=60:=by omega
  have i:=x.setIx (p.ix+1);have l:PS.needed {p with ix:=p.ix+1} 58={p with bad:=((p.ix+1:Nat):Int),ix:=p.ix+1}:=by simp[PS.needed,PS.failed,PS.cur,hb,y]
  have NE:=fun w1 I=>Fe b {p with ix:=p.ix+1} 58 w1 I (by omega) B
  rw[l]at NE;have m:Hid (CQ p.s p.ix=.bad (p.ix+1)):=by
   show CQ p.s p.ix=_;unfold CQ;rw[show A7 p.s 58 (p.ix+1)=.bad (p.ix+1)from by simp[A7,y]];rfl
  clear l y;go_enter Tryz.func281,Tryz.ntmps281;go_wp2_with(first|(go_at_call 227;refine(NE _ i).mono ?_;rintro e w1⟨rfl,q,r⟩));have a:PB (w1.alloc (.cells Cg 9)) b {p with bad:=((p.ix+1:Nat):Int),ix:=p.ix+1}:=q.keep ((AG [] w1).alloc _) (by simp);have g:=((AG [b] w).setCell (p:=⟨b,7,none⟩) (by simp) _).trans r;have t:AA [b,h] w w1:=g.mono (by simp);have u:HB w1 h f:=z.keep g (by simp;omega);have c:HB (w1.alloc (.cells Cg 9)) h f:=u.keep ((AG [] w1).alloc _) (by simp);have d:=t.alloc (.cells Cg 9);clear x z i q u r g t D E F f6 f7 NE;go_loopw [5] (fun _ wr=>PB wr b {p with bad:=((p.ix+1:Nat):Int),ix:=p.ix+1}∧HB wr h f∧AA [b,h] w wr) (fun _ _=>0)
  case atStart=>exact⟨a,c,d⟩
  case round=>
   clear a c d;obtain⟨a,c,d⟩:=hrel;obtain⟨d0,d6,d7,_,_⟩:=a.main;have J:¬((p.ix+1:Nat):Int)<0:=by omega
   go_wp2_with fail;go_end0;refine⟨rfl,by rw[m.o];exact a,⟨f,c,?_⟩,d⟩;intro k j v;rw[m.o]at v;cases v
def I8(w:World)(b o:Nat):Int:=match w.cell? ⟨b,o,none⟩with
 |some v=>intOf v
 |none=>0
def D3(w:World)(b:Nat):Nat:=if 0<=I8 w b 6 then 0 else 62-(I8 w b 7).toNat
theorem GP{b:Nat}{p:PS}(a:PB w b p):D3 w b=if 0<=p.bad then 0 else 62-p.ix:=by
 obtain⟨_,c,d,_,_⟩:=a.main;simp[D3,I8,c,d,intOf]
def M3(s:ByteArray)(j0:Nat)(fst:Bool)(i:Nat)(f:Nat->Bool):Prop:=
 (fst=true∧i=j0∧f=fun _=>false)∨(fst=false∧∀q,EY s f i q->DH s j0 q)
def Da(p:PS)(b h j0:Nat)(w:World)(fst:Bool)(wr:World):Prop:=
 AA [b,h] w wr∧
 ((∃(i:Nat)(f:Nat->Bool),PB wr b {p with ix:=i}∧HB wr h f∧i<=p.s.size∧M3 p.s j0 fst i f)∨(∃(j:Nat)(f:Nat->Bool),PB wr b {p with bad:=(j:Int),ix:=j}∧HB wr h f∧DH p.s j0 (.bad j)))
theorem Da.next{p:PS}{b h j0:Nat}{w9:World}{fst:Bool}{f:Nat->Bool}(hin:M3 p.s j0 fst i f)(e:fst=true∨at' p.s i≠93)(g:PB w9 b (({p with ix:=i}:PS).after (Am p.s i)))(k:∃f',HB w9 h f'∧∀r j,Am p.s i=.ok r j->∀n,n<256->f' n=(f n||r n))(v:AA [b,h] w w9):Da p b h j0 w false w9:=by
 obtain⟨f',k,t⟩:=k;refine⟨v,?_⟩;cases a:Am p.s i with
 |ok r j=>
  left
  rw[a]at g;have u:=Gr a;rcases hin with⟨c,d,l⟩|⟨c,d⟩
  ·subst c d l;exact⟨j,r,g,k.congr fun n m=>by rw[t r j a n m];rfl,u.2,AE ⟨rfl,fun q o=> .go r _ j q a o⟩⟩
  ·refine⟨j,fun n=>f n||r n,g,k.congr fun n m=>t r j a n m,u.2,Or.inr ⟨rfl,fun q o=>d q ?_⟩⟩;rcases e with h|h
   ·rw[c]at h;cases h
   ·exact .more f r i j q h a o
 |bad j=>
  right
  rw[a]at g;refine⟨j,f',g,k,?_⟩;rcases hin with⟨c,d,l⟩|⟨c,d⟩
  ·subst c d l;exact .bad _ j a
  ·apply d;rcases e with h|h
   ·rw[c]at h;cases h
   ·exact .bad f i j h a
theorem Da.mu{p:PS}{b h:Nat}{wr w9:World}{f:Nat->Bool}(d:PB wr b {p with ix:=i})(hb:p.bad<0)(g:p.s.size<=60)(hi:i<=p.s.size)(c:PB w9 b (({p with ix:=i}:PS).after (Am p.s i))):D3 w9 b<D3 wr b:=by
 rw[GP d,GP c];have a:¬0<=p.bad:=by omega
 cases e:Am p.s i with
 |ok r j=>
  have k:=Gr e;simp[PS.after,a];omega
 |bad j=>
  simp[PS.after,a];omega
