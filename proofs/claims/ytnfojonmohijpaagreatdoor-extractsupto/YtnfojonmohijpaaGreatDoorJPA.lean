/-
  DERIVED. Contracts of the program's reader of bytes (Peek, Ahead, Skip, Fail, Expect, End, isDigit, isAlnum). Conditions: the place is within the text, the text is at most 60 bytes long.
-/
import Derived.Test.YtnfojonmohijpaaGreatDoorJRA
import Derived.Lib.Bytealg
import Derived.Laws.StandIn
set_option linter.all false
set_option maxRecDepth 100000
set_option maxHeartbeats 8000000
namespace Go.Proofs.YtnfojonmohijpaaGreatDoor
open Go.RowKit
variable{w w':World}{b lb:Nat}{c l:Int}
def BV:=@World.block_lt_of_cell?
def Ad:=@World.cell?_of_block
def CJ:=@Calls.quiet_of_same
def Dp:=@Nat.le_of_lt
structure QS where
 s : ByteArray
 ix : Nat
 op : Nat
 gr : Nat
variable{p:QS}
def QS.cells(p:QS):Array Value:=#[.string p.s,.int .i64 p.ix,.int .i64 p.op,.int .i64 p.gr]
def QB(w:World)(b:Nat)(p:QS):Prop:=w.heap[b]? =some (.cells p.cells 201 (0,0))
theorem QB.lt(h:QB w b p):b<w.heap.size:=(AN.1 h).1
theorem QB.keep{S:List Nat}(h:QB w b p)(a:AA S w w')(hb:b∉S):QB w' b p:=(a.block b h.lt hb).trans h
theorem QB.drewN(h:QB w b p)(n:Nat):QB (w.drewN n) b p:=h
theorem QB.main(h:QB w b p):w.cell? ⟨b,0,none⟩=some (.string p.s)∧w.cell? ⟨b,1,none⟩=some (.int .i64 p.ix)∧w.cell? ⟨b,2,none⟩=some (.int .i64 p.op)∧w.cell? ⟨b,3,none⟩=some (.int .i64 p.gr)∧w.frozen? ⟨b,1,none⟩=false∧w.frozen? ⟨b,2,none⟩=false∧w.frozen? ⟨b,3,none⟩=false:=by
 unfold QB at h;simp[World.cell?,World.frozen?,h,QS.cells]
theorem QB.setIx(h:QB w b p)(x:Nat):QB (w.setCell ⟨b,1,none⟩ (.int .i64 x)) b {p with ix:=x}:=by
 unfold QB at*;simp[World.setCell,Aq,h,QS.cells]
theorem QB.setOp(h:QB w b p)(x:Nat):QB (w.setCell ⟨b,2,none⟩ (.int .i64 x)) b {p with op:=x}:=by
 unfold QB at*;simp[World.setCell,Aq,h,QS.cells]
theorem QB.setGr(h:QB w b p)(x:Nat):QB (w.setCell ⟨b,3,none⟩ (.int .i64 x)) b {p with gr:=x}:=by
 unfold QB at*;simp[World.setCell,Aq,h,QS.cells]
def QS.cur(p:QS):Int:=at' p.s p.ix
def fault(j:Nat):Ending:=.panicked [{v:=.iface 196 (.agg #[.int .i64 (j:Int)]),recovered:=false}]
theorem GM(b:Nat)(p:QS)(w:World)(a:QB w b p)(hlt:p.ix<p.s.size)(h:p.s.size<=60):Calls Tryz.prog 167 #[.pointer (some ⟨b,0,none⟩)] w fun e w'=>e=.returned (.tuple #[.int .u8 p.cur,.bool true])∧QB w' b p∧AA [] w w':=by
 obtain⟨i,c1,_,_,f1,_,_⟩:=a.main;have c:(p.ix:Int)<(p.s.size:Int):=by omega
 have d:(0:Int)<=(p.ix:Int):=by omega
 have f:((p.ix:Int)==(p.s.size:Int))=false:=by simpa using(by omega:¬(p.ix:Int)=(p.s.size:Int))
 have g:Hid (p.cur=(p.s[p.ix].toNat:Int)):=Bd hlt;go_enter Tryz.func167,Tryz.ntmps167;go_wp2_with fail;go_quiet (fail);go_wp2_with fail;go_quiet (fail);go_wp2_with fail;go_ret2;exact⟨by rw[g.o];rfl,(a.drewN _).drewN _,((AG _ _).drewN _).drewN _⟩
theorem I5(b:Nat)(p:QS)(w:World)(c:QB w b p)(a:p.ix=p.s.size):Calls Tryz.prog 167 #[.pointer (some ⟨b,0,none⟩)] w fun e w'=>e=.returned (.tuple #[.int .u8 0,.bool false])∧QB w' b p∧AA [] w w':=by
 obtain⟨f,c1,_,_,f1,_,_⟩:=c.main;have d:((p.ix:Int)==(p.s.size:Int))=true:=by simpa using(by omega:(p.ix:Int)=(p.s.size:Int))
 clear a;go_enter Tryz.func167,Tryz.ntmps167;go_wp2_with fail;go_quiet (fail);go_wp2_with fail;go_ret2;exact⟨rfl,(c.drewN _),(AG _ _).drewN _⟩
theorem J5(b:Nat)(p:QS)(c:Int)(j:0<=c)(w:World)(g:QB w b p)(hle:p.ix<=p.s.size)(h:p.s.size<=60):Calls Tryz.prog 165 #[.pointer (some ⟨b,0,none⟩),.int .u8 c] w fun e w'=>e=.returned (.bool (decide (p.cur=c)))∧QB w' b p∧AA [] w w':=by
 by_cases hlt:p.ix<p.s.size
 ·go_enter Tryz.func165,Tryz.ntmps165;go_wp2_with(first|(go_at_call 167;refine(GM b p _ g hlt h).mono ?_;rintro e w1⟨rfl,a,d⟩));go_ret;exact⟨by simp[BEq.beq],a,d⟩
 ·have f:p.ix=p.s.size:=by omega
  have i:Hid (p.cur=-1):=Cu (by omega);go_enter Tryz.func165,Tryz.ntmps165;go_wp2_with(first|(go_at_call 167;refine(I5 b p _ g f).mono ?_;rintro e w1⟨rfl,a,d⟩));go_ret;exact⟨by rw[i.o];simp;omega,a,d⟩
def QS.took(p:QS)(c:Int):QS:=if p.cur=c then{p with ix:=p.ix+1}else p
theorem DJ(b:Nat)(p:QS)(c:Int)(f:0<=c)(w:World)(g:QB w b p)(hle:p.ix<=p.s.size)(i:p.s.size<=60):Calls Tryz.prog 116 #[.pointer (some ⟨b,0,none⟩),.int .u8 c] w fun e w'=>e=.returned (.bool (decide (p.cur=c)))∧QB w' b (p.took c)∧AA [b] w w':=by
 by_cases h:p.cur=c
 ·have hd:decide (p.cur=c)=true:=by simpa using h
  have H:Hid (p.cur=c):=h;have hlt:p.ix<p.s.size:=Ap (by show 0<=p.cur;omega);have j:(0:Int)<=(p.ix:Int):=by omega
  have k:(p.ix:Int)<=60:=by omega
  clear h;go_enter Tryz.func116,Tryz.ntmps116;go_wp2_with(first|(go_at_call 165;refine(J5 b p c f _ g hle i).mono ?_;rintro e w1⟨rfl,a,d⟩;obtain⟨l,c1,_,_,f1,_,_⟩:=a.main));go_ret;exact⟨by simp[hd],by simp only[QS.took,H.o,if_true];exact a.setIx (p.ix+1),(d.mono (by simp)).setCell (by simp) _⟩
 ·have hd:decide (p.cur=c)=false:=by simpa using h
  have H:Hid (¬p.cur=c):=h;clear h;go_enter Tryz.func116,Tryz.ntmps116;go_wp2_with(first|(go_at_call 165;refine(J5 b p c f _ g hle i).mono ?_;rintro e w1⟨rfl,a,d⟩));go_ret;exact⟨by simp[hd],by simp only[QS.took,H.o,if_false];exact a,d.mono (by simp)⟩
theorem Gw(b:Nat)(p:QS)(w:World)(a:QB w b p):Calls Tryz.prog 168 #[.pointer (some ⟨b,0,none⟩)] w fun e w'=>e=fault p.ix∧w'=w:=by
 obtain⟨c,c1,_,_,f1,_,_⟩:=a.main;go_enter Tryz.func168,Tryz.ntmps168;go_wp2_with fail;exact⟨rfl,rfl,rfl⟩
theorem Gx(b:Nat)(p:QS)(c:Int)(g:0<=c)(w:World)(i:QB w b p)(j:p.s.size<=60)(h:p.cur=c):Calls Tryz.prog 221 #[.pointer (some ⟨b,0,none⟩),.int .u8 c] w fun e w'=>e=.returned (.tuple #[])∧QB w' b {p with ix:=p.ix+1}∧AA [b] w w':=by
 have hlt:p.ix<p.s.size:=Ap (by show 0<=p.cur;omega);have hd:decide (p.cur=c)=true:=by simpa using h
 have d:p.took c={p with ix:=p.ix+1}:=by unfold QS.took;rw[AL h]
 clear h;go_enter Tryz.func221,Tryz.ntmps221;go_wp2_with(first|(go_at_call 116;refine(DJ b p c g _ i (Dp hlt) j).mono ?_;rintro e w1⟨rfl,a,f⟩;rw[d]at a));go_end0;exact⟨rfl,a,f⟩
theorem Ky(b:Nat)(p:QS)(c:Int)(g:0<=c)(w:World)(i:QB w b p)(hle:p.ix<=p.s.size)(j:p.s.size<=60)(h:p.cur≠c):Calls Tryz.prog 221 #[.pointer (some ⟨b,0,none⟩),.int .u8 c] w fun e w'=>e=fault p.ix∧AA [b] w w':=by
 have hd:decide (p.cur=c)=false:=by simpa using h
 have d:p.took c=p:=by unfold QS.took;rw[AK h]
 clear h;go_enter Tryz.func221,Tryz.ntmps221;go_wp2_with(first|(go_at_call 168;refine(Gw b p _ a).mono ?_;rintro e w2⟨rfl,rfl⟩;simp only[fault])|(go_at_call 116;refine(DJ b p c g _ i hle j).mono ?_;rintro e w1⟨rfl,a,f⟩;rw[d]at a));exact⟨rfl,rfl,f⟩
theorem QP(b:Nat)(p:QS)(w:World)(d:QB w b p)(h:p.ix=p.s.size):Calls Tryz.prog 118 #[.pointer (some ⟨b,0,none⟩)] w fun e w'=>e=.returned (.tuple #[])∧QB w' b p∧AA [] w w':=by
 go_enter Tryz.func118,Tryz.ntmps118;go_wp2_with(first|(go_at_call 167;refine(I5 b p _ d h).mono ?_;rintro e w1⟨rfl,a,c⟩));go_end0;exact⟨rfl,a,c⟩
theorem Mn(b:Nat)(p:QS)(w:World)(d:QB w b p)(h:p.ix<p.s.size)(f:p.s.size<=60):Calls Tryz.prog 118 #[.pointer (some ⟨b,0,none⟩)] w fun e w'=>e=fault p.ix∧AA [] w w':=by
 go_enter Tryz.func118,Tryz.ntmps118;go_wp2_with(first|(go_at_call 167;refine(GM b p _ d h f).mono ?_;rintro e w1⟨rfl,a,c⟩)|(go_at_call 168;refine(Gw b p _ a).mono ?_;rintro e w2⟨rfl,rfl⟩;simp only[fault]));exact⟨rfl,rfl,c⟩
theorem H3(c:Int)(w:World):Calls Tryz.prog 236 #[.int .u8 c] w fun e w'=>e=.returned (.bool (At c))∧w'=w:=by
 go_enter Tryz.func236,Tryz.ntmps236;go_wp2
 all_goals go_ret
 all_goals exact⟨by simp[At];omega,rfl⟩
def J6(c:Int):Bool:=decide (97<=c)&&decide (c<=122)
theorem QQ(c:Int)(w:World):Calls Tryz.prog 228 #[.int .u8 c] w fun e w'=>e=.returned (.bool (J6 c))∧w'=w:=by
 go_enter Tryz.func228,Tryz.ntmps228;go_wp2
 all_goals go_ret
 all_goals exact⟨by simp[J6];omega,rfl⟩
theorem QR(c:Int)(w:World):Calls Tryz.prog 253 #[.int .u8 c] w fun e w'=>e=.returned (.bool (C9 c))∧w'=w:=by
 cases hd:At c
 all_goals
  cases b:J6 c
  all_goals
   have a:=b;simp[J6]at a;go_enter Tryz.func253,Tryz.ntmps253;go_wp2_with(first|(go_at_call 236;refine(H3 c _).mono ?_;rintro e w'⟨rfl,rfl⟩)|(go_at_call 228;refine(QQ c _).mono ?_;rintro e w'⟨rfl,rfl⟩))
   all_goals go_ret
   all_goals exact⟨DB (by simp[C9,hd]<;>omega),rfl⟩
def DY(F:Nat)(a:Array Value)(c:Int)(v:Bool)(w:World):Prop:=
 (∀args w1,(callFunc F args).run Tryz.prog w1=.ok (.enter F args) w1)∧∀w1,AA [] w w1->Calls Tryz.prog F (#[.int .u8 c]++a) w1 fun e w2=>e=.returned (.bool v)∧AA [] w1 w2
theorem Mo(b:Nat)(p:QS)(F:Nat)(a:Array Value)(w:World)(i:QB w b p)(j:p.s.size<=60)(hlt:p.ix<p.s.size)(hm:DY F a p.cur true w):Calls Tryz.prog 218 #[.pointer (some ⟨b,0,none⟩),.func (.func F) #[] a] w fun e w'=>e=.returned (.int .u8 p.cur)∧QB w' b {p with ix:=p.ix+1}∧AA [b] w w':=by
 have k:(0:Int)<=(p.ix:Int):=by omega
 have l:(p.ix:Int)<=60:=by omega
 obtain⟨m,c⟩:=hm;go_enter Tryz.func218,Tryz.ntmps218;go_wp2_with(first|(go_at_call 167;refine(GM b p _ i hlt j).mono ?_;rintro e w1⟨rfl,h,d⟩));refine(c _ d).mono ?_;rintro e w2⟨rfl,f⟩;have g:=h.keep f (by simp);obtain⟨n,c1,_,_,f1,_,_⟩:=g.main;go_wp2_with fail;go_ret;exact⟨rfl,g.setIx (p.ix+1),((d.trans f).mono (by simp)).setCell (by simp) _⟩
theorem QT(b:Nat)(p:QS)(F:Nat)(a:Array Value)(w:World)(i:QB w b p)(j:p.s.size<=60)(hlt:p.ix<p.s.size)(hm:DY F a p.cur false w):Calls Tryz.prog 218 #[.pointer (some ⟨b,0,none⟩),.func (.func F) #[] a] w fun e w'=>e=fault p.ix∧AA [b] w w':=by
 obtain⟨k,c⟩:=hm;go_enter Tryz.func218,Tryz.ntmps218;go_wp2_with(first|(go_at_call 167;refine(GM b p _ i hlt j).mono ?_;rintro e w1⟨rfl,g,d⟩));refine(c _ d).mono ?_;rintro e w2⟨rfl,f⟩;have h:=g.keep f (by simp);go_wp2_with(first|(go_at_call 168;refine(Gw b p _ h).mono ?_;rintro e w3⟨rfl,rfl⟩;simp only[fault]));exact⟨rfl,rfl,(d.trans f).mono (by simp)⟩
theorem QU(b:Nat)(p:QS)(fv:Value)(w:World)(f:QB w b p)(a:p.ix=p.s.size):Calls Tryz.prog 218 #[.pointer (some ⟨b,0,none⟩),fv] w fun e w'=>e=fault p.ix∧AA [b] w w':=by
 go_enter Tryz.func218,Tryz.ntmps218;go_wp2_with(first|(go_at_call 167;refine(I5 b p _ f a).mono ?_;rintro e w1⟨rfl,c,d⟩)|(go_at_call 168;refine(Gw b p _ c).mono ?_;rintro e w3⟨rfl,rfl⟩;simp only[fault]));exact⟨rfl,rfl,d.mono (by simp)⟩
theorem QV(s:ByteArray)(c:Int)(w:World):(callFunc 284 #[.string s,.int .u8 c]).run Tryz.prog w=.ok (.value (.int .i64 (Lib.indexByte s.data.toList c.toNat.toUInt8))) w:=by
 rw[run_callFunc_indexByte Tryz.func284 (by kernel_rfl) (by kernel_rfl) (by kernel_rfl) (by kernel_rfl),Lib.run_indexByteString];rfl
theorem Mp(s:ByteArray)(c:Int)(w:World):Calls Tryz.prog 266 #[.string s,.int .u8 c] w fun e w'=>e=.returned (.int .i64 (Lib.indexByte s.data.toList c.toNat.toUInt8))∧w'=w:=by
 have hi:=fun w=>QV s c w
 go_enter Tryz.func266,Tryz.ntmps266;go_wp2;go_ret;exact⟨rfl,rfl⟩
theorem H4(s:ByteArray)(c:Int)(w:World):Calls Tryz.prog 246 #[.string s,.int .u8 c] w fun e w'=>e=.returned (.int .i64 (Lib.indexByte s.data.toList c.toNat.toUInt8))∧w'=w:=by
 go_enter Tryz.func246,Tryz.ntmps246;go_wp2_with(go_at_call 266;refine(Mp s c _).mono ?_;rintro e w'⟨rfl,rfl⟩);go_ret;exact⟨rfl,rfl⟩
theorem Mq(c:Int)(b:0<=c)(d:c<=255):Lib.indexByte (ByteArray.data ⟨#[48,49,50,51,52,53,54,55,56,57,97,98,99,100,101,102]⟩).toList c.toNat.toUInt8=Ah c:=by
 obtain⟨n,rfl⟩:∃n:Nat,c=n:=⟨c.toNat,by omega⟩;have a:n<256:=by omega
 have key:∀m:Fin 256,Lib.indexByte (ByteArray.data ⟨#[48,49,50,51,52,53,54,55,56,57,97,98,99,100,101,102]⟩).toList ((m.val:Int)).toNat.toUInt8=Ah (m.val:Int):=by decide
 exact key ⟨n,a⟩
theorem QW(c:Int)(a:0<=c)(b:c<=255)(w:World):Calls Tryz.prog 219 #[.int .u8 c] w fun e w'=>e=.returned (.bool (decide (0<=Ah c)))∧w'=w:=by
 go_enter Tryz.func219,Tryz.ntmps219;go_wp2_with(go_at_call 246;refine(H4 _ c _).mono ?_;rintro e w'⟨rfl,rfl⟩;rw[Mq c a b]);go_ret;exact⟨rfl,rfl⟩
theorem J7(c:Int)(a:0<=c)(b:c<=255)(f:0<=Ah c)(w:World):Calls Tryz.prog 220 #[.int .u8 c] w fun e w'=>e=.returned (.int .u8 (Ah c))∧w'=w:=by
 have hb:=Hw c;have d:=hb.2;go_enter Tryz.func220,Tryz.ntmps220;go_wp2_with(go_at_call 246;refine(H4 _ c _).mono ?_;rintro e w'⟨rfl,rfl⟩;rw[Mq c a b]);go_ret;exact⟨rfl,rfl⟩
theorem J8(c:Int)(v:Bool)(a:0<=c)(b:c<=255)(h:decide (0<=Ah c)=v)(w:World):Calls Tryz.prog 219 #[.int .u8 c] w fun e w'=>e=.returned (.bool v)∧w'=w:=by
 subst h;exact QW c a b w
theorem Kz(a b:Int)(c:0<=a)(d:a<=15)(e:0<=b)(f:b<=15):bits .or .u8 (a*16) b=16*a+b:=by
 obtain⟨x,rfl⟩:∃x:Nat,a=x:=⟨a.toNat,by omega⟩;obtain⟨y,rfl⟩:∃y:Nat,b=y:=⟨b.toNat,by omega⟩;have key:∀(m n:Fin 16),bits .or .u8 ((m.val:Int)*16) (n.val:Int)=16*(m.val:Int)+(n.val:Int):=by decide
 exact key ⟨x,by omega⟩ ⟨y,by omega⟩
theorem QX(c l:Int)(lb:Nat)(w:World)(b:w.cell? ⟨lb,0,none⟩=some (.int .u8 l)):Calls Tryz.prog 277 #[.int .u8 c,.pointer (some ⟨lb,0,none⟩)] w fun e w'=>e=.returned (.bool (!C9 c&&decide (l<=c)))∧w'=w:=by
 cases a:C9 c
 all_goals
  go_enter Tryz.func277,Tryz.ntmps277;go_wp2_with(go_at_call 253;refine(QR c _).mono ?_;rintro e w'⟨rfl,rfl⟩)
  all_goals go_ret
  all_goals exact⟨by simp[a],rfl⟩
theorem QY(c l:Int)(b:0<=c)(d:c<=255)(lb:Nat)(w:World)(j:w.cell? ⟨lb,0,none⟩=some (.int .u8 l)):Calls Tryz.prog 292 #[.int .u8 c,.pointer (some ⟨lb,0,none⟩)] w fun e w'=>e=.returned (.bool (decide (0<=Ah c)&&decide (l<=16*Ah c+15)))∧∃n,w'=w.drewN n:=by
 have hb:=Hw c;by_cases a:0<=Ah c
 ·have hd:decide (0<=Ah c)=true:=by simpa using a
  have f:=hb.2;have g:=J8 c true b d hd;have i:=J7 c b d a;have h:=Kz (Ah c) 15 a f (by omega) (by omega);generalize Ah c=x at*;go_enter Tryz.func292,Tryz.ntmps292;go_wp2_with fail;go_quiet (first|(go_at_call 219;exact CJ (g _))|(go_at_call 220;exact CJ (i _)));go_wp2_with fail;go_ret;exact⟨DB (by simp[hd]),_,rfl⟩
 ·have hd:decide (0<=Ah c)=false:=by simpa using a
  have g:=J8 c false b d hd;have k:Hid (¬0<=Ah c):=a;clear a hb;go_enter Tryz.func292,Tryz.ntmps292;go_wp2_with fail;go_quiet ((go_at_call 219;exact CJ (g _)));go_wp2_with fail;go_ret;exact⟨by rw[hd];rfl,_,rfl⟩
theorem QZ(c l a:Int)(d:0<=c)(f:c<=255)(g:0<=a)(h:a<=15)(k lb:Nat)(w:World)(o:w.cell? ⟨k,0,none⟩=some (.int .u8 a))(q:w.cell? ⟨lb,0,none⟩=some (.int .u8 l)):Calls Tryz.prog 293 #[.int .u8 c,.pointer (some ⟨k,0,none⟩),.pointer (some ⟨lb,0,none⟩)] w fun e w'=>e=.returned (.bool (decide (0<=Ah c)&&decide (l<=16*a+Ah c)))∧∃n,w'=w.drewN n:=by
 have hb:=Hw c;by_cases b:0<=Ah c
 ·have hd:decide (0<=Ah c)=true:=by simpa using b
  have i:=hb.2;have j:=J8 c true d f hd;have p:=J7 c d f b;have m:=Kz a (Ah c) g h b i;generalize Ah c=x at*;go_enter Tryz.func293,Tryz.ntmps293;go_wp2_with fail;go_quiet (first|(go_at_call 219;exact CJ (j _))|(go_at_call 220;exact CJ (p _)));go_wp2_with fail;go_ret;exact⟨DB (by simp[hd]),_,rfl⟩
 ·have hd:decide (0<=Ah c)=false:=by simpa using b
  have j:=J8 c false d f hd;clear b hb;go_enter Tryz.func293,Tryz.ntmps293;go_wp2_with fail;go_quiet ((go_at_call 219;exact CJ (j _)));go_wp2_with fail;go_ret;exact⟨by rw[hd];rfl,_,rfl⟩
theorem Qa(c:Int)(b:0<=c)(d:c<=255):decide (Lib.indexByte (ByteArray.data ⟨#[91,93,45,94]⟩).toList c.toNat.toUInt8<0)= !decide (c=91∨c=93∨c=45∨c=94):=by
 obtain⟨n,rfl⟩:∃n:Nat,c=n:=⟨c.toNat,by omega⟩;have a:n<256:=by omega
 have key:∀m:Fin 256,decide (Lib.indexByte (ByteArray.data ⟨#[91,93,45,94]⟩).toList ((m.val:Int)).toNat.toUInt8<0)= !decide ((m.val:Int)=91∨(m.val:Int)=93∨(m.val:Int)=45∨(m.val:Int)=94):=by decide
 exact key ⟨n,a⟩
theorem Qb(c l:Int)(d:0<=c)(f:c<=255)(lb:Nat)(w:World)(g:w.cell? ⟨lb,0,none⟩=some (.int .u8 l)):Calls Tryz.prog 300 #[.int .u8 c,.pointer (some ⟨lb,0,none⟩)] w fun e w'=>e=.returned (.bool (!decide (c=91∨c=93∨c=45∨c=94)&&decide (l<=c)))∧w'=w:=by
 have hi:=Qa c d f;by_cases b:Lib.indexByte (ByteArray.data ⟨#[91,93,45,94]⟩).toList c.toNat.toUInt8<0
 ·rw[BU b]at hi;rw[<-hi];clear hi;generalize a:Lib.indexByte (ByteArray.data ⟨#[91,93,45,94]⟩).toList c.toNat.toUInt8=x at*;go_enter Tryz.func300,Tryz.ntmps300;go_wp2_with(go_at_call 246;refine(H4 _ c _).mono ?_;rintro e w'⟨rfl,rfl⟩;rw[a]);go_ret;exact⟨by simp,rfl⟩
 ·rw[BS b]at hi;rw[<-hi];clear hi;generalize a:Lib.indexByte (ByteArray.data ⟨#[91,93,45,94]⟩).toList c.toNat.toUInt8=x at*;go_enter Tryz.func300,Tryz.ntmps300;go_wp2_with(go_at_call 246;refine(H4 _ c _).mono ?_;rintro e w'⟨rfl,rfl⟩;rw[a]);go_ret;exact⟨by simp,rfl⟩
theorem Qc(args:Array Value)(w:World):(callFunc 292 args).run Tryz.prog w=.ok (.enter 292 args) w:=by kernel_rfl
theorem Qd(args:Array Value)(w:World):(callFunc 293 args).run Tryz.prog w=.ok (.enter 293 args) w:=by kernel_rfl
theorem Qe(args:Array Value)(w:World):(callFunc 277 args).run Tryz.prog w=.ok (.enter 277 args) w:=by kernel_rfl
theorem Qf(args:Array Value)(w:World):(callFunc 300 args).run Tryz.prog w=.ok (.enter 300 args) w:=by kernel_rfl
theorem Ac(h:AA [] w w'){a:Addr}{v:Value}(b:w.cell? a=some v):w'.cell? a=some v:=
 (Ad (h.block a.block (BV w a b) (by simp))).trans b
theorem FG(h:AA [b] w w'){a:Addr}{v:Value}(hb:a.block≠b)(c:w.cell? a=some v):w'.cell? a=some v:=
 (Ad (h.block a.block (BV w a c) (by simpa using hb))).trans c
def I6(b:Nat)(p:QS)(w:World)(r:R Int)(e:Ending)(w':World):Prop:=
 AA [b] w w'∧match r with
  | .ok v j=>e=.returned (.int .u8 v)∧QB w' b {p with ix:=j}
  | .bad j=>e=fault j
theorem Qg(a:0<=c)(b:c<=255)(d:w.cell? ⟨lb,0,none⟩=some (.int .u8 l)):DY 292 #[.pointer (some ⟨lb,0,none⟩)] c (decide (0<=Ah c)&&decide (l<=16*Ah c+15)) w:=
 ⟨Qc,fun w1 f=>(QY c l a b lb w1 (Ac f d)).mono fun e w2⟨he,n,hw⟩=>⟨he,by rw[hw];exact(AG _ _).drewN n⟩⟩
theorem Qh{a:Int}(i:0<=c)(j:c<=255)(b:0<=a)(d:a<=15){f:Nat}(g:w.cell? ⟨f,0,none⟩=some (.int .u8 a))(k:w.cell? ⟨lb,0,none⟩=some (.int .u8 l)):DY 293 #[.pointer (some ⟨f,0,none⟩),.pointer (some ⟨lb,0,none⟩)] c (decide (0<=Ah c)&&decide (l<=16*a+Ah c)) w:=
 ⟨Qd,fun w1 h=>(QZ c l a i j b d f lb w1 (Ac h g) (Ac h k)).mono fun e w2⟨he,n,hw⟩=>⟨he,by rw[hw];exact(AG _ _).drewN n⟩⟩
theorem Qi(a:w.cell? ⟨lb,0,none⟩=some (.int .u8 l)):DY 277 #[.pointer (some ⟨lb,0,none⟩)] c (!C9 c&&decide (l<=c)) w:=
 ⟨Qe,fun w1 b=>(QX c l lb w1 (Ac b a)).mono fun e w2⟨he,hw⟩=>⟨he,by rw[hw];exact AG _ _⟩⟩
theorem Qj(a:0<=c)(b:c<=255)(d:w.cell? ⟨lb,0,none⟩=some (.int .u8 l)):DY 300 #[.pointer (some ⟨lb,0,none⟩)] c (!decide (c=91∨c=93∨c=45∨c=94)&&decide (l<=c)) w:=
 ⟨Qf,fun w1 f=>(Qb c l a b lb w1 (Ac f d)).mono fun e w2⟨he,hw⟩=>⟨he,by rw[hw];exact AG _ _⟩⟩
theorem H6(b:Nat)(p:QS)(F:Nat)(a:Array Value)(v:Bool)(w:World)(f:QB w b p)(h:p.s.size<=60)(hle:p.ix<=p.s.size)(hm:0<=p.cur->DY F a p.cur v w)(r:R Int)(i:r=if 0<=p.cur∧v=true then .ok p.cur (p.ix+1)else .bad p.ix):Calls Tryz.prog 218 #[.pointer (some ⟨b,0,none⟩),.func (.func F) #[] a] w (I6 b p w r):=by
 subst i;by_cases hlt:p.ix<p.s.size
 ·have c:0<=p.cur:=by show 0<=at' p.s p.ix;rw[Bd hlt];omega
  cases v
  ·rw[AK (by simp)];refine(QT b p F a w f h hlt (hm c)).mono ?_;rintro e w'⟨rfl,d⟩;exact⟨d,rfl⟩
  ·rw[AL ⟨c,rfl⟩];refine(Mo b p F a w f h hlt (hm c)).mono ?_;rintro e w'⟨rfl,j,d⟩;exact⟨d,rfl,j⟩
 ·have g:p.ix=p.s.size:=by omega
  have c:p.cur=-1:=Cu (by omega);rw[AK (by rw[c];omega)];refine(QU b p _ w f g).mono ?_;rintro e w'⟨rfl,d⟩;exact⟨d,rfl⟩
theorem boxed(b:Nat)(p:QS)(l:Int)(w:World)(a:QB w b p):QB (w.alloc (.cells #[.int .u8 l] 5)) b p∧(w.alloc (.cells #[.int .u8 l] 5)).cell? ⟨w.heap.size,0,none⟩=some (.int .u8 l)∧AA [b] w (w.alloc (.cells #[.int .u8 l] 5))∧w.heap.size≠b:=
 ⟨a.keep ((AG [] w).alloc _) (by simp),by simp,(AG [b] w).alloc _,by have:=a.lt;omega⟩
theorem Ms(s:ByteArray)(ahead:Int)(last:Bool)(least:Int)(i:Nat)(g:Int)(b:g=if last then ahead+Ah (at' s i)else 16*(ahead+Ah (at' s i))+15):Aw s ahead last least i=(if 0<=at' s i∧(decide (0<=Ah (at' s i))&&decide (least<=g))=true then .ok (Ah (at' s i)) (i+1)else .bad i):=by
 unfold Aw;rw[<-b];by_cases h:0<=Ah (at' s i)∧least<=g
 ·have c:0<=at' s i:=by
   by_cases a:0<=at' s i
   ·exact a
   ·exfalso;have:=h.1;unfold Ah at this;rw[AK (by omega),AK (by omega)]at this;omega
  rw[AK (by omega),AL ⟨c,by simp[h.1,h.2]⟩]
 ·rw[AL (by omega),AK (by rintro⟨_,a⟩;simp at a;exact h a)]
theorem Qk(b:Nat)(p:QS)(least:Int)(w:World)(O:QB w b p)(L:p.s.size<=60)(hle:p.ix<=p.s.size)(P:0<=least)(Q:least<=255):Calls Tryz.prog 276 #[.pointer (some ⟨b,0,none⟩),.int .u8 least] w (I6 b p w (Cv p.s least p.ix)):=by
 have R:∀(fn:Fn)(first cap:Array Value)(w:World),(Instr.makeFunc fn first cap).run Tryz.prog w=.ok (.func fn first cap) w:=fun _ _ _ _=>rfl
 obtain⟨B,M,m,C⟩:=boxed b p least w O;have a:=E8 p.s p.ix;have f:p.cur=at' p.s p.ix:=rfl;go_enter Tryz.func276,Tryz.ntmps276;go_wp2_with fail;generalize(w.alloc (.cells #[.int .u8 least] 5))=W at*;generalize w.heap.size=lb at*;have l:Aw p.s 0 false least p.ix=(if 0<=p.cur∧(decide (0<=Ah p.cur)&&decide (least<=16*Ah p.cur+15))=true then .ok (Ah p.cur) (p.ix+1)else .bad p.ix):=by
  have:=Ms p.s 0 false least p.ix (16*Ah (at' p.s p.ix)+15) (by simp);exact this
 refine(H6 b p 292 _ _ W B L hle (fun h=>Qg h (by omega) M) _ rfl).mono ?_;rintro e w1⟨g,c⟩;by_cases n:0<=p.cur∧(decide (0<=Ah p.cur)&&decide (least<=16*Ah p.cur+15))=true
 ·rw[AL n]at c l;obtain⟨rfl,D⟩:=c;have i:0<=Ah p.cur:=by have:=n.2;simp at this;exact this.1
  have q:=(Hw p.cur).2;have S:=J7 p.cur n.1 (by rw[f];omega) i;have r:=FG g C M;generalize Ah p.cur=x at*;clear f n a;go_wp2_with(first|(go_at_call 220;refine(S _).mono ?_;rintro e w1⟨rfl,rfl⟩));obtain⟨E,t,F,u⟩:=boxed b {p with ix:=p.ix+1} x w1 D;have G:=Ac ((AG [] w1).alloc (.cells #[.int .u8 x] 5)) r;generalize(w1.alloc (.cells #[.int .u8 x] 5))=T at*;generalize w1.heap.size=X at*;have v:p.ix+1<=p.s.size:=by
   have:=(Jz l).2.2.2.1;exact this
  have a:=E8 p.s (p.ix+1);have y:Aw p.s (16*x) true least (p.ix+1)=(if 0<=at' p.s (p.ix+1)∧(decide (0<=Ah (at' p.s (p.ix+1)))&&decide (least<=16*x+Ah (at' p.s (p.ix+1))))=true then .ok (Ah (at' p.s (p.ix+1))) (p.ix+2)else .bad (p.ix+1)):=
   Ms p.s (16*x) true least (p.ix+1) (16*x+Ah (at' p.s (p.ix+1))) (by simp)
  have H:Cv p.s least p.ix=(Aw p.s (16*x) true least (p.ix+1)).bind fun b k=> .ok (16*x+b) k:=by
   unfold Cv;rw[l];rfl
  refine(H6 b {p with ix:=p.ix+1} 293 _ _ T E L v (fun h=>Qh h a.2 i q t G) (if 0<=at' p.s (p.ix+1)∧(decide (0<=Ah (at' p.s (p.ix+1)))&&decide (least<=16*x+Ah (at' p.s (p.ix+1))))=true then .ok (at' p.s (p.ix+1)) (p.ix+2)else .bad (p.ix+1)) rfl).mono ?_;rintro e w3⟨hk3,d⟩;have z:AA [b] w w3:=((m.trans g).trans F).trans hk3;by_cases j:0<=at' p.s (p.ix+1)∧(decide (0<=Ah (at' p.s (p.ix+1)))&&decide (least<=16*x+Ah (at' p.s (p.ix+1))))=true
  ·rw[AL j]at y;rw[AL j]at d;obtain⟨rfl,I⟩:=d;have A:0<=Ah (at' p.s (p.ix+1)):=by have:=j.2;simp at this;exact this.1
   have J:=(Hw (at' p.s (p.ix+1))).2;have K:=J7 (at' p.s (p.ix+1)) j.1 a.2 A;have U:Hid (Cv p.s least p.ix=.ok (16*x+Ah (at' p.s (p.ix+1))) (p.ix+2)):=by show Cv p.s least p.ix=_;rw[H,y];rfl
   have V:=Kz x (Ah (at' p.s (p.ix+1))) i q A J;have N:=FG hk3 u t;clear l y H j a;go_wp2_with(first|(go_at_call 220;refine(K _).mono ?_;rintro e w3⟨rfl,rfl⟩));go_ret;refine⟨z,?_⟩;rw[U.o];exact⟨Eo (by first|rfl|exact V),I⟩
  ·rw[AK j]at y;rw[AK j]at d;subst d;simp only[fault];exact⟨rfl,z,by rw[H,y];rfl⟩
 ·rw[AK n]at c l;subst c;simp only[fault];exact⟨rfl,m.trans g,by unfold Cv;rw[l];rfl⟩
theorem Mu(b:Nat)(p:QS)(least:Int)(w:World)(H:QB w b p)(z:p.s.size<=60)(A:0<=least)(B:least<=255)(n:p.cur=92):Calls Tryz.prog 250 #[.pointer (some ⟨b,0,none⟩),.int .u8 least] w (I6 b p w (A9 p.s least (p.ix+1))):=by
 have I:∀(fn:Fn)(first cap:Array Value)(w:World),(Instr.makeFunc fn first cap).run Tryz.prog w=.ok (.func fn first cap) w:=fun _ _ _ _=>rfl
 obtain⟨C,J,D,q⟩:=boxed b p least w H;have hlt:p.ix<p.s.size:=Ap (by show 0<=p.cur;omega);have K:=fun w1 h=>Gx b p 92 (by omega) w1 h z n
 clear n;go_enter Tryz.func250,Tryz.ntmps250;go_wp2_with fail;generalize(w.alloc (.cells #[.int .u8 least] 5))=W at*;generalize w.heap.size=lb at*;refine(K _ C).mono ?_;rintro e w1⟨rfl,E,r⟩;have F:=FG r q J;go_wp2_with fail;refine(DJ b {p with ix:=p.ix+1} 120 (by omega) _ E hlt z).mono ?_;rintro e w2⟨rfl,f,t⟩;have G:=FG t q F;have g:AA [b] w w2:=(D.trans r).trans t;by_cases i:at' p.s (p.ix+1)=120
 ·have hd:decide (QS.cur {p with ix:=p.ix+1}=120)=true:=by simpa using(show QS.cur {p with ix:=p.ix+1}=120 from i)
  have k:QS.took {p with ix:=p.ix+1} 120={p with ix:=p.ix+2}:=by unfold QS.took;rw[AL (show QS.cur {p with ix:=p.ix+1}=120 from i)]
  rw[k]at f;have u:p.ix+1<p.s.size:=Ap (by omega);have x:Hid (A9 p.s least (p.ix+1)=Cv p.s least (p.ix+2)):=Kq i;clear i;rw[hd];go_wp2_with fail;refine(Qk b {p with ix:=p.ix+2} least _ f z u A B).mono ?_;rintro e w3⟨hk3,c⟩;cases y:Cv p.s least (p.ix+2)with
  |ok v j=>
   rw[show Cv (QS.s {p with ix:=p.ix+2}) least (QS.ix {p with ix:=p.ix+2})=.ok v j from y]at c;obtain⟨rfl,l⟩:=c;have m:Hid (A9 p.s least (p.ix+1)=.ok v j):=x.o.trans y;clear y;go_wp2_with fail;go_ret;refine⟨g.trans hk3,?_⟩;rw[m.o];exact⟨rfl,l⟩
  |bad j=>
   rw[show Cv (QS.s {p with ix:=p.ix+2}) least (QS.ix {p with ix:=p.ix+2})=.bad j from y]at c;subst c;simp only[fault];exact⟨rfl,g.trans hk3,by rw[x.o,y];rfl⟩
 ·have hd:decide (QS.cur {p with ix:=p.ix+1}=120)=false:=by simpa using(show¬QS.cur {p with ix:=p.ix+1}=120 from i)
  have k:QS.took {p with ix:=p.ix+1} 120={p with ix:=p.ix+1}:=by unfold QS.took;rw[AK (show¬QS.cur {p with ix:=p.ix+1}=120 from i)]
  rw[k]at f;have x:Hid (A9 p.s least (p.ix+1)=if 0<=at' p.s (p.ix+1)∧(!C9 (at' p.s (p.ix+1))&&decide (least<=at' p.s (p.ix+1)))=true then .ok (at' p.s (p.ix+1)) (p.ix+2)else .bad (p.ix+1)):=by
   show A9 p.s least (p.ix+1)=_;unfold A9;rw[AK i];by_cases d:at' p.s (p.ix+1)<0∨C9 (at' p.s (p.ix+1))=true∨at' p.s (p.ix+1)<least
   ·rw[AL d,AK];rintro⟨a,bb⟩;simp at bb;rcases d with h|h|h
    ·omega
    ·rw[h]at bb;cases bb.1
    ·omega
   ·rw[AK d,AL];refine⟨Int.not_lt.1 fun h=>d (AH h),?_⟩;have L:C9 (at' p.s (p.ix+1))=false:=Bool.eq_false_iff.2 fun h=>d (AE (AH h))
    have M:least<=at' p.s (p.ix+1):=Int.not_lt.1 fun h=>d (AE (AE h))
    simp[L,M]
  clear i;rw[hd];go_wp2_with fail;refine(H6 b {p with ix:=p.ix+1} 277 _ _ _ f z hlt (fun h=>Qi G) (if 0<=at' p.s (p.ix+1)∧(!C9 (at' p.s (p.ix+1))&&decide (least<=at' p.s (p.ix+1)))=true then .ok (at' p.s (p.ix+1)) (p.ix+2)else .bad (p.ix+1)) rfl).mono ?_;rintro e w3⟨hk3,c⟩;by_cases d:0<=at' p.s (p.ix+1)∧(!C9 (at' p.s (p.ix+1))&&decide (least<=at' p.s (p.ix+1)))=true
  ·rw[AL d]at c;obtain⟨rfl,l⟩:=c;have m:Hid (A9 p.s least (p.ix+1)=.ok (at' p.s (p.ix+1)) (p.ix+2)):=by show A9 p.s least (p.ix+1)=_;rw[x.o,AL d]
   clear d;go_wp2_with fail;go_ret;refine⟨g.trans hk3,?_⟩;rw[m.o];exact⟨rfl,l⟩
  ·rw[AK d]at c;subst c;simp only[fault];exact⟨rfl,g.trans hk3,by rw[x.o,AK d];rfl⟩
theorem Mv(b:Nat)(p:QS)(least:Int)(w:World)(C:QB w b p)(t:p.s.size<=60)(hle:p.ix<=p.s.size)(u:0<=least)(x:least<=255):Calls Tryz.prog 290 #[.pointer (some ⟨b,0,none⟩),.int .u8 least] w (I6 b p w (Ar p.s least p.ix)):=by
 have D:∀(fn:Fn)(first cap:Array Value)(w:World),(Instr.makeFunc fn first cap).run Tryz.prog w=.ok (.func fn first cap) w:=fun _ _ _ _=>rfl
 obtain⟨y,E,z,F⟩:=boxed b p least w C;have A:=E8 p.s p.ix;go_enter Tryz.func290,Tryz.ntmps290;go_wp2_with fail;generalize(w.alloc (.cells #[.int .u8 least] 5))=W at*;generalize w.heap.size=lb at*;refine(J5 b p 92 (by omega) _ y hle t).mono ?_;rintro e w1⟨rfl,m,n⟩;have B:=Ac n E;have d:AA [b] w w1:=z.trans (n.mono (by simp));by_cases i:at' p.s p.ix=92
 ·have hd:decide (p.cur=92)=true:=by simpa using(show p.cur=92 from i)
  have q:Hid (Ar p.s least p.ix=A9 p.s least (p.ix+1)):=by show Ar p.s least p.ix=_;unfold Ar;rw[AL i]
  have f:p.cur=92:=i;have G:=fun w1 h=>Mu b p least w1 h t u x f
  clear i f;rw[hd];go_wp2_with fail;refine(G _ m).mono ?_;rintro e w3⟨hk3,c⟩;cases r:A9 p.s least (p.ix+1)with
  |ok v j=>
   rw[r]at c;obtain⟨rfl,k⟩:=c;have l:Hid (Ar p.s least p.ix=.ok v j):=q.o.trans r;clear r;go_wp2_with fail;go_ret;refine⟨d.trans hk3,?_⟩;rw[l.o];exact⟨rfl,k⟩
  |bad j=>
   rw[r]at c;subst c;simp only[fault];exact⟨rfl,d.trans hk3,by rw[q.o,r];rfl⟩
 ·have hd:decide (p.cur=92)=false:=by simpa using(show¬p.cur=92 from i)
  have q:Hid (Ar p.s least p.ix=if 0<=at' p.s p.ix∧(!decide (at' p.s p.ix=91∨at' p.s p.ix=93∨at' p.s p.ix=45∨at' p.s p.ix=94)&&decide (least<=at' p.s p.ix))=true then .ok (at' p.s p.ix) (p.ix+1)else .bad p.ix):=by
   show Ar p.s least p.ix=_;unfold Ar;rw[AK i];by_cases g:at' p.s p.ix<0∨at' p.s p.ix=91∨at' p.s p.ix=93∨at' p.s p.ix=45∨at' p.s p.ix=94∨at' p.s p.ix<least
   ·rw[AL g,AK];rintro⟨a,bb⟩;simp at bb;omega
   ·rw[AK g,AL];refine⟨by omega,?_⟩;have H:¬(at' p.s p.ix=91∨at' p.s p.ix=93∨at' p.s p.ix=45∨at' p.s p.ix=94):=by omega
    have I:least<=at' p.s p.ix:=by omega
    simp only[BS H,BU I];rfl
  clear i;rw[hd];go_wp2_with fail;refine(H6 b p 300 _ _ _ m t hle (fun h=>Qj h A.2 B) (if 0<=at' p.s p.ix∧(!decide (at' p.s p.ix=91∨at' p.s p.ix=93∨at' p.s p.ix=45∨at' p.s p.ix=94)&&decide (least<=at' p.s p.ix))=true then .ok (at' p.s p.ix) (p.ix+1)else .bad p.ix) rfl).mono ?_;rintro e w3⟨hk3,c⟩;by_cases g:0<=at' p.s p.ix∧(!decide (at' p.s p.ix=91∨at' p.s p.ix=93∨at' p.s p.ix=45∨at' p.s p.ix=94)&&decide (least<=at' p.s p.ix))=true
  ·rw[AL g]at c;obtain⟨rfl,k⟩:=c;have l:Hid (Ar p.s least p.ix=.ok (at' p.s p.ix) (p.ix+1)):=by show Ar p.s least p.ix=_;rw[q.o,AL g]
   clear g;go_wp2_with fail;go_ret;refine⟨d.trans hk3,?_⟩;rw[l.o];exact⟨rfl,k⟩
  ·rw[AK g]at c;subst c;simp only[fault];exact⟨rfl,d.trans hk3,by rw[q.o,AK g];rfl⟩
