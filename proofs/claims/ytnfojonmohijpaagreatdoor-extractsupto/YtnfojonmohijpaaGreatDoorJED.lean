/-
  DERIVED. The reference's options. Conditions: the arguments lie in memory; all together they are not longer than a million bytes.
-/
import Derived.Test.YtnfojonmohijpaaGreatDoorJEG
set_option linter.all false
set_option maxRecDepth 100000
set_option maxHeartbeats 8000000
namespace Go.Proofs.YtnfojonmohijpaaGreatDoor
open Go.RowKit
variable{l:List ByteArray}
def Cr:=@Tryz.underlying187
def Im:ByteArray:=⟨#[99,105,110,111,118,120]⟩
theorem VT(u:UInt8)(w:World):Calls Tryz.prog 109 #[.string Im,.int .u8 (u.toNat:Int)] w fun e w'=>e=.returned (.bool (E4 u))∧w'=w:=by
 have h:=Gu Im (u.toNat:Int) w (by decide);have e:hasB Im (u.toNat:Int) Im.size=E4 u:=by
  have key:∀n:Fin 256,hasB Im (n.val:Int) Im.size=E4 (UInt8.ofNat n.val):=by decide+kernel
  have:=key ⟨u.toNat,u.toNat_lt⟩;simpa using this
 rw[e]at h;exact h
def BM(l:List ByteArray):Nat:=(l.map (·.size)).sum
theorem MB:∀(l:List ByteArray)(i:Nat),BM (l.take i)<=BM l
 |[],i=>by simp[BM]
 |a::l,0=>by simp[BM]
 |a::l,i+1=>by
  have:=MB l i;unfold BM at*;simp only[H7,D6,List.sum_cons];omega
theorem Kk{i:Nat}{s:ByteArray}(h:l[i]? =some s):BM (l.take (i+1))=BM (l.take i)+s.size:=by
 rw[Gj,h];simp[BM]
theorem PN{i:Nat}{s:ByteArray}(h:l[i]? =some s):BM (l.take i)+s.size<=BM l:=by
 rw[<-Kk h];exact MB _ _
def Io(L:List UInt8)(T:ByteArray)(F:Bool)(rest:Value)(bad:Bool):Array Value:=#[.string (AJ L),.string T,.bool F,rest,.bool bad]
theorem Bt(a b c d e:Value):(Tryz.prog.info? 187).map (·.size)=some (#[a,b,c,d,e]:Array Value).size:=by kernel_rfl
theorem Ej{a b c d e:Value}(f:a.oneCell'=true)(g:b.oneCell'=true)(h:c.oneCell'=true)(i:d.oneCell'=true)(j:e.oneCell'=true):(#[a,b,c,d,e]:Array Value).all (·.oneCell')=true:=by simp[f,g,h,i,j]
structure Ju (w wr : World) (g2 g3 : Nat) (l : List ByteArray) (i : Nat) (L : List UInt8) (T : ByteArray) (F bad : Bool) : Prop where
 op : Cm l i L T F bad
 len : L.length <= BM (l.take i)
 ile : i <= l.length
 row : wr.heap[g3]? = some (.cells #[.string (AJ L), .string T, .bool F, .slice none 0 0, .bool bad] 187 (0, 0))
 res : wr.heap[g2]? = some (.cells #[.string ⟨#[]⟩, .string ⟨#[]⟩, .bool false, .slice none 0 0, .bool false] 187 (0, 0))
 keep : AA [] w wr
def MC(l:List ByteArray)(w:World)(e:Ending)(w':World):Prop:=
 ∃i L T F bad rest,e=.returned (.agg (Io L T F rest bad))∧GA l i L T F bad∧BB w' rest (l.drop i)∧L.length<=BM l∧(F=true->T.size<=BM l)∧AA [] w w'
theorem BB.at{w:World}{va:Option Addr}{n c:Nat}(h:BB w (.slice va n c) l){k:Nat}{a:ByteArray}(b:l[k]? =some a):∃g o,va=some ⟨g,o,none⟩∧w.cell? ⟨g,o+k,none⟩=some (.string a):=by
 rcases h.rd with⟨rfl,_⟩|⟨g,o,c,d,e,_⟩
 ·simp at b
 ·cases d;exact⟨g,o,rfl,e k a b⟩
theorem VU(v:Value)(w:World)(B:BB w v []):Calls Tryz.prog 106 #[v] w (MC [] w):=by
 obtain⟨l,i⟩:∃l:List ByteArray,l=[]:=⟨_,rfl⟩;rw[<-i]at B⊢;have C:BM l<=1048576:=by rw[i];decide
 have r:l.length<=1048576:=by rw[i];decide
 have s:Hid (l=[]):=i;obtain⟨va,vc,rfl⟩:=B.sl;obtain⟨n,E⟩:=An l.length;rw[E]at B r⊢;have U:(n:Int)<=1048576:=by omega
 have HB:Hid (l.length=n∧BM l<=1048576∧n<=1048576):=⟨E,C,r⟩;have Y:Hid (BB w (.slice va n vc) l):=B;have D:AA [] w (((w.alloc (.cells #[.string ⟨#[]⟩,.string ⟨#[]⟩,.bool false,.slice none 0 0,.bool false] 187)).alloc (.cells #[.string ⟨#[]⟩,.string ⟨#[]⟩,.bool false,.slice none 0 0,.bool false] 187)).setRow (w.heap.size+1) #[.string ⟨#[]⟩,.string ⟨#[]⟩,.bool false,.slice none 0 0,.bool false]):=(((AG [] w).alloc _).alloc _).setRow (AE (by omega)) _;have I:((w.alloc (.cells #[.string ⟨#[]⟩,.string ⟨#[]⟩,.bool false,.slice none 0 0,.bool false] 187)).alloc (.cells #[.string ⟨#[]⟩,.string ⟨#[]⟩,.bool false,.slice none 0 0,.bool false] 187)).heap[w.heap.size+1]? =some (.cells #[.string ⟨#[]⟩,.string ⟨#[]⟩,.bool false,.slice none 0 0,.bool false] 187 (0,0)):=Df w _ _;have Q:((w.alloc (.cells #[.string ⟨#[]⟩,.string ⟨#[]⟩,.bool false,.slice none 0 0,.bool false] 187)).alloc (.cells #[.string ⟨#[]⟩,.string ⟨#[]⟩,.bool false,.slice none 0 0,.bool false] 187)).heap[w.heap.size]? =some (.cells #[.string ⟨#[]⟩,.string ⟨#[]⟩,.bool false,.slice none 0 0,.bool false] 187 (0,0)):=C2 w _ _;have q:(#[.string ⟨#[]⟩,.string ⟨#[]⟩,.bool false,.slice none 0 0,.bool false]:Array Value).all (·.oneCell')=true:=Ej rfl rfl rfl rfl rfl;obtain rfl:n=0:=by rw[<-E,i];rfl
 clear B C r E i;go_enter Tryz.func106,Tryz.ntmps106;go_upto_region 2 with(first|(refine Ae rfl 187 _ _ rfl (w.heap.size+1) _ rfl rfl _ _ I (Bt _ _ _ _ _) rfl q ?_))
 have t:(((w.alloc (.cells #[.string ⟨#[]⟩,.string ⟨#[]⟩,.bool false,.slice none 0 0,.bool false] 187)).alloc (.cells #[.string ⟨#[]⟩,.string ⟨#[]⟩,.bool false,.slice none 0 0,.bool false] 187)).setRow (w.heap.size+1) #[.string ⟨#[]⟩,.string ⟨#[]⟩,.bool false,.slice none 0 0,.bool false]).heap[w.heap.size+1]? =some (.cells #[.string ⟨#[]⟩,.string ⟨#[]⟩,.bool false,.slice none 0 0,.bool false] 187 (0,0)):=Aa _ _ _ _ _ _ I;have u:(((w.alloc (.cells #[.string ⟨#[]⟩,.string ⟨#[]⟩,.bool false,.slice none 0 0,.bool false] 187)).alloc (.cells #[.string ⟨#[]⟩,.string ⟨#[]⟩,.bool false,.slice none 0 0,.bool false] 187)).setRow (w.heap.size+1) #[.string ⟨#[]⟩,.string ⟨#[]⟩,.bool false,.slice none 0 0,.bool false]).heap[w.heap.size]? =some (.cells #[.string ⟨#[]⟩,.string ⟨#[]⟩,.bool false,.slice none 0 0,.bool false] 187 (0,0)):=by rw[setRow_other _ _ _ _ (by omega)];exact Q
 generalize((w.alloc (.cells #[.string ⟨#[]⟩,.string ⟨#[]⟩,.bool false,.slice none 0 0,.bool false] 187)).alloc (.cells #[.string ⟨#[]⟩,.string ⟨#[]⟩,.bool false,.slice none 0 0,.bool false] 187)).setRow (w.heap.size+1) #[.string ⟨#[]⟩,.string ⟨#[]⟩,.bool false,.slice none 0 0,.bool false]=X at*;obtain⟨g2,J⟩:=AQ w.heap.size;obtain⟨g3,K⟩:=AQ (w.heap.size+1);rw[<-K]at t⊢;rw[<-J]at u⊢;have A:Hid (g2=w.heap.size∧g3=w.heap.size+1):=⟨J,K⟩;clear Q I J K q;go_wp2_with fail;go_loopw [4] (fun V wr=>V=.int .i64 (0:Nat)∧Ju w wr g2 g3 l 0 [] ⟨#[]⟩ false false) (fun _ _=>0)
 case atStart=>exact⟨rfl,⟨Cm.start _ _,AY _,AY _,t,u,D⟩⟩
 case round=>
  clear u t D;obtain⟨rfl,O⟩:=hrel;obtain⟨L,G⟩:∃L:List UInt8,L=[]:=⟨_,rfl⟩;obtain⟨T,M⟩:∃T:ByteArray,T=⟨#[]⟩:=⟨_,rfl⟩;obtain⟨F,H⟩:∃F:Bool,F=false:=⟨_,rfl⟩;obtain⟨bad,j⟩:∃F:Bool,F=false:=⟨_,rfl⟩;have R:Hid (GA l 0 L T F bad):=by rw[G,M,H,j];exact O.op.left fun a S=>by rw[s.o]at S;simp at S
  have m:Hid (L.length<=BM l∧(F=true->T.size<=BM l)):=⟨by rw[G];exact AY _,fun h=>by rw[H]at h;cases h⟩;have b:wr.heap[g3]? =some (.cells #[.string (AJ L),.string T,.bool F,.slice none 0 0,.bool bad] 187 (0,0)):=by rw[G,M,H,j];exact O.row
  have d:=O.res;have p:=O.keep;clear O G M H j;have W:(0:Int)<=(vc:Int):=by omega
  cases va with
  |none=>
   have N:wr.frozen? ⟨g3,3,none⟩=false:=by simp[World.frozen?,b]
   have P:wr.cell? ⟨g3,3,none⟩=some (.slice none 0 0):=by rw[AU b];rfl
   have e:(wr.setCell ⟨g3,3,none⟩ (.slice none 0 vc)).heap[g3]? =some (.cells #[.string (AJ L),.string T,.bool F,.slice none 0 vc,.bool bad] 187 (0,0)):=by simp[World.setCell,Aq,b]
   have y:AA [g3] wr (wr.setCell ⟨g3,3,none⟩ (.slice none 0 vc)):=(AG [g3] wr).setCell (AH (by simp)) _;have c:=(y.block g2 (AN.1 d).1 (by have:=A.o;simp;omega)).trans d;have hk4:AA [] w (wr.setCell ⟨g3,3,none⟩ (.slice none 0 vc)):=p.setCell (AE (by have:=A.o;simp;omega)) _;have f:(#[.string (AJ L),.string T,.bool F,.slice none 0 vc,.bool bad]:Array Value).all (·.oneCell')=true:=Ej rfl rfl rfl rfl rfl;have z:Hid (∀Z,AA [] w Z->BB Z (.slice none 0 vc) (l.drop 0)):=fun Z _=>by rw[s.o];exact⟨by simp,AH ⟨rfl,_,_,rfl⟩,by simp⟩
   clear b d p;go_wp2_with(first|(refine As rfl 187 _ rfl g3 rfl _ _ _ _ e Cr rfl (Bt _ _ _ _ _) ?_)|(refine Ae rfl 187 _ _ rfl g2 _ rfl rfl _ _ c (Bt _ _ _ _ _) rfl f ?_));refine Ag (Au rfl _ _ g2 _ _ _ _ rfl (Aa _ _ _ _ _ _ c) Cr rfl (Bt _ _ _ _ _)) rfl ?_;have k:=hk4.setRow (g:=g2) (AE (by have:=A.o;omega)) #[.string (AJ L),.string T,.bool F,.slice none 0 vc,.bool bad];exact⟨0,L,T,F,bad,.slice none 0 vc,rfl,R.o,z.o _ k,m.o.1,m.o.2,k⟩
  |some x=>
   have N:wr.frozen? ⟨g3,3,none⟩=false:=by simp[World.frozen?,b]
   have P:wr.cell? ⟨g3,3,none⟩=some (.slice none 0 0):=by rw[AU b];rfl
   have e:(wr.setCell ⟨g3,3,none⟩ (.slice (some x) 0 vc)).heap[g3]? =some (.cells #[.string (AJ L),.string T,.bool F,.slice (some x) 0 vc,.bool bad] 187 (0,0)):=by simp[World.setCell,Aq,b]
   have y:AA [g3] wr (wr.setCell ⟨g3,3,none⟩ (.slice (some x) 0 vc)):=(AG [g3] wr).setCell (AH (by simp)) _;have c:=(y.block g2 (AN.1 d).1 (by have:=A.o;simp;omega)).trans d;have hk4:AA [] w (wr.setCell ⟨g3,3,none⟩ (.slice (some x) 0 vc)):=p.setCell (AE (by have:=A.o;simp;omega)) _;have f:(#[.string (AJ L),.string T,.bool F,.slice (some x) 0 vc,.bool bad]:Array Value).all (·.oneCell')=true:=Ej rfl rfl rfl rfl rfl;have z:Hid (∀Z,AA [] w Z->BB Z (.slice (some x) 0 vc) (l.drop 0)):=fun Z _=>by rw[s.o];exact⟨by simp,AH ⟨rfl,_,_,rfl⟩,by simp⟩
   clear b d p;go_wp2_with(first|(refine As rfl 187 _ rfl g3 rfl _ _ _ _ e Cr rfl (Bt _ _ _ _ _) ?_)|(refine Ae rfl 187 _ _ rfl g2 _ rfl rfl _ _ c (Bt _ _ _ _ _) rfl f ?_));refine Ag (Au rfl _ _ g2 _ _ _ _ rfl (Aa _ _ _ _ _ _ c) Cr rfl (Bt _ _ _ _ _)) rfl ?_;have k:=hk4.setRow (g:=g2) (AE (by have:=A.o;omega)) #[.string (AJ L),.string T,.bool F,.slice (some x) 0 vc,.bool bad];exact⟨0,L,T,F,bad,.slice (some x) 0 vc,rfl,R.o,z.o _ k,m.o.1,m.o.2,k⟩
theorem BB.tail{w Z:World}{d e n c:Nat}(h:BB w (.slice (some ⟨d,e,none⟩) n c) l)(i:Nat)(f:l.length=n)(hi:i<=n)(j:AA [] w Z):BB Z (.slice (some ⟨d,e+i,none⟩) (n-i) (c-i)) (l.drop i):=by
 rcases(h.keep j).rd with⟨rfl,_⟩|⟨g,o,q,m,p,r,s⟩
 ·have:n=0:=by rw[<-f];rfl
  subst this;exact⟨by simp,AH ⟨by simp,_,_,by rw[Nat.zero_sub]⟩,by simp⟩
 ·cases m;refine⟨by rw[Ey];have:=h.len;omega,AE ⟨d,e+i,c-i,by rw[Ey,f],fun k a b=>?_,by rw[Ey];omega,by omega⟩,fun a b=>h.sz a (List.mem_of_mem_drop b)⟩;rw[List.getElem?_drop]at b;have:=p (i+k) a b;rw[Nat.add_assoc];exact this
theorem VV(v:Value)(l:List ByteArray)(w:World)(hl:BB w v l)(aK:BM l<=1048576)(aD:l.length<=1048576)(aL:l≠[]):Calls Tryz.prog 106 #[v] w (MC l w):=by
 obtain⟨va,vc,rfl⟩:=hl.sl;obtain⟨n,hn⟩:=An l.length;rw[hn]at hl aD⊢;have bk:(n:Int)<=1048576:=by omega
 have HB:Hid (l.length=n∧BM l<=1048576∧n<=1048576):=⟨hn,aK,aD⟩;have HA:Hid (BB w (.slice va n vc) l):=hl;have aM:AA [] w (((w.alloc (.cells #[.string ⟨#[]⟩,.string ⟨#[]⟩,.bool false,.slice none 0 0,.bool false] 187)).alloc (.cells #[.string ⟨#[]⟩,.string ⟨#[]⟩,.bool false,.slice none 0 0,.bool false] 187)).setRow (w.heap.size+1) #[.string ⟨#[]⟩,.string ⟨#[]⟩,.bool false,.slice none 0 0,.bool false]):=(((AG [] w).alloc _).alloc _).setRow (AE (by omega)) _;have h3:((w.alloc (.cells #[.string ⟨#[]⟩,.string ⟨#[]⟩,.bool false,.slice none 0 0,.bool false] 187)).alloc (.cells #[.string ⟨#[]⟩,.string ⟨#[]⟩,.bool false,.slice none 0 0,.bool false] 187)).heap[w.heap.size+1]? =some (.cells #[.string ⟨#[]⟩,.string ⟨#[]⟩,.bool false,.slice none 0 0,.bool false] 187 (0,0)):=Df w _ _;have h2:((w.alloc (.cells #[.string ⟨#[]⟩,.string ⟨#[]⟩,.bool false,.slice none 0 0,.bool false] 187)).alloc (.cells #[.string ⟨#[]⟩,.string ⟨#[]⟩,.bool false,.slice none 0 0,.bool false] 187)).heap[w.heap.size]? =some (.cells #[.string ⟨#[]⟩,.string ⟨#[]⟩,.bool false,.slice none 0 0,.bool false] 187 (0,0)):=C2 w _ _;have ax:(#[.string ⟨#[]⟩,.string ⟨#[]⟩,.bool false,.slice none 0 0,.bool false]:Array Value).all (·.oneCell')=true:=Ej rfl rfl rfl rfl rfl;obtain⟨p,q,rfl,ay⟩:∃g o,va=some ⟨g,o,none⟩∧n<=vc:=by
  rcases hl.rd with⟨h,_⟩|⟨g,o,c,h1,_,h3,_⟩
  ·exact absurd h aL
  ·cases h1;exact⟨g,o,rfl,by omega⟩
 have aY:(n:Int)<=(vc:Int):=by omega
 have G:Hid (n<=vc):=ay;clear hl aK aD hn aL ay;go_enter Tryz.func106,Tryz.ntmps106;go_upto_region 2 with(first|(refine Ae rfl 187 _ _ rfl (w.heap.size+1) _ rfl rfl _ _ h3 (Bt _ _ _ _ _) rfl ax ?_))
 have aE:(((w.alloc (.cells #[.string ⟨#[]⟩,.string ⟨#[]⟩,.bool false,.slice none 0 0,.bool false] 187)).alloc (.cells #[.string ⟨#[]⟩,.string ⟨#[]⟩,.bool false,.slice none 0 0,.bool false] 187)).setRow (w.heap.size+1) #[.string ⟨#[]⟩,.string ⟨#[]⟩,.bool false,.slice none 0 0,.bool false]).heap[w.heap.size+1]? =some (.cells #[.string ⟨#[]⟩,.string ⟨#[]⟩,.bool false,.slice none 0 0,.bool false] 187 (0,0)):=Aa _ _ _ _ _ _ h3;have aF:(((w.alloc (.cells #[.string ⟨#[]⟩,.string ⟨#[]⟩,.bool false,.slice none 0 0,.bool false] 187)).alloc (.cells #[.string ⟨#[]⟩,.string ⟨#[]⟩,.bool false,.slice none 0 0,.bool false] 187)).setRow (w.heap.size+1) #[.string ⟨#[]⟩,.string ⟨#[]⟩,.bool false,.slice none 0 0,.bool false]).heap[w.heap.size]? =some (.cells #[.string ⟨#[]⟩,.string ⟨#[]⟩,.bool false,.slice none 0 0,.bool false] 187 (0,0)):=by rw[setRow_other _ _ _ _ (by omega)];exact h2
 generalize((w.alloc (.cells #[.string ⟨#[]⟩,.string ⟨#[]⟩,.bool false,.slice none 0 0,.bool false] 187)).alloc (.cells #[.string ⟨#[]⟩,.string ⟨#[]⟩,.bool false,.slice none 0 0,.bool false] 187)).setRow (w.heap.size+1) #[.string ⟨#[]⟩,.string ⟨#[]⟩,.bool false,.slice none 0 0,.bool false]=X at*;obtain⟨g2,e2⟩:=AQ w.heap.size;obtain⟨g3,e3⟩:=AQ (w.heap.size+1);rw[<-e3]at aE⊢;rw[<-e2]at aF⊢;have z:Hid (g2=w.heap.size∧g3=w.heap.size+1):=⟨e2,e3⟩;clear h2 h3 e2 e3 ax;go_wp2_with fail;go_loopw [4] (fun q4 wr=>∃(i:Nat)(L:List UInt8)(T:ByteArray)(F bad:Bool),q4=.int .i64 i∧Ju w wr g2 g3 l i L T F bad∧(F=true->T.size<=BM l)) (fun q4 _=>n-(intOf q4).toNat)
 case atStart=>exact⟨0,[],⟨#[]⟩,false,false,rfl,⟨Cm.start _ _,AY _,AY _,aE,aF,aM⟩,fun h=>by cases h⟩
 case round=>
  clear aF aE aM;obtain⟨i,L,T,F,bad,rfl,O,M⟩:=hrel;have HO:Hid (Ju w wr g2 g3 l i L T F bad∧(F=true->T.size<=BM l)):=⟨O,M⟩;have bm:(0:Int)<=(i:Int):=by omega
  have hin:(i:Int)<=(n:Int):=by have:=O.ile;have:=HB.o;omega
  have bn:(i:Int)<=(vc:Int):=by omega
  have d:=O.row;have f:=O.res;have m:=O.keep;have B:Hid (L.length<=BM l∧(F=true->T.size<=BM l)):=⟨BG O.len (MB _ _),M⟩;by_cases hlt:i<n
  rotate_left
  ·have aN:¬(i:Int)<(n:Int):=by omega
   have J:Hid (i<=n):=by show i<=n;omega
   have HR:Hid (GA l i L T F bad):=O.op.left fun a ha=>by have:=(BT.1 ha).1;have:=HB.o;omega
   clear O M hlt HO;by_cases aO:i<vc
   ·have az:((i:Nat):Int)<(vc:Int):=by omega
    have V:wr.frozen? ⟨g3,3,none⟩=false:=by simp[World.frozen?,d]
    have W:wr.cell? ⟨g3,3,none⟩=some (.slice none 0 0):=by rw[AU d];rfl
    have r:(wr.setCell ⟨g3,3,none⟩ (.slice (some ⟨p,q+(i),none⟩) (n-(i)) (vc-(i)))).heap[g3]? =some (.cells #[.string (AJ L),.string T,.bool F,.slice (some ⟨p,q+(i),none⟩) (n-(i)) (vc-(i)),.bool bad] 187 (0,0)):=by simp[World.setCell,Aq,d]
    have y:AA [g3] wr (wr.setCell ⟨g3,3,none⟩ (.slice (some ⟨p,q+(i),none⟩) (n-(i)) (vc-(i)))):=(AG [g3] wr).setCell (AH (by simp)) _;have j:=(y.block g2 (AN.1 f).1 (by have:=z.o;simp;omega)).trans f;have hk4:AA [] w (wr.setCell ⟨g3,3,none⟩ (.slice (some ⟨p,q+(i),none⟩) (n-(i)) (vc-(i)))):=m.setCell (AE (by have:=z.o;simp;omega)) _;have s:(#[.string (AJ L),.string T,.bool F,.slice (some ⟨p,q+(i),none⟩) (n-(i)) (vc-(i)),.bool bad]:Array Value).all (·.oneCell')=true:=Ej rfl rfl rfl rfl rfl;have D:Hid (∀Z,AA [] w Z->BB Z (.slice (some ⟨p,q+(i),none⟩) (n-(i)) (vc-(i))) (l.drop i)):=fun Z hZ=>HA.o.tail (i) HB.o.1 (by have:=J.o;omega) hZ
    clear d f m;go_wp2_with(first|(refine As rfl 187 _ rfl g3 rfl _ _ _ _ r Cr rfl (Bt _ _ _ _ _) ?_)|(refine Ae rfl 187 _ _ rfl g2 _ rfl rfl _ _ j (Bt _ _ _ _ _) rfl s ?_));refine Ag (Au rfl _ _ g2 _ _ _ _ rfl (Aa _ _ _ _ _ _ j) Cr rfl (Bt _ _ _ _ _)) rfl ?_;have x:=hk4.setRow (g:=g2) (AE (by have:=z.o;omega)) #[.string (AJ L),.string T,.bool F,.slice (some ⟨p,q+(i),none⟩) (n-(i)) (vc-(i)),.bool bad];exact⟨i,L,T,F,bad,.slice (some ⟨p,q+(i),none⟩) (n-(i)) (vc-(i)),rfl,HR.o,D.o _ x,B.o.1,B.o.2,x⟩
   ·have ae:i=vc:=by have:=G.o;have:=J.o;omega
    subst ae;have V:wr.frozen? ⟨g3,3,none⟩=false:=by simp[World.frozen?,d]
    have W:wr.cell? ⟨g3,3,none⟩=some (.slice none 0 0):=by rw[AU d];rfl
    have r:(wr.setCell ⟨g3,3,none⟩ (.slice (some ⟨p,q,none⟩) (n-(i)) 0)).heap[g3]? =some (.cells #[.string (AJ L),.string T,.bool F,.slice (some ⟨p,q,none⟩) (n-(i)) 0,.bool bad] 187 (0,0)):=by simp[World.setCell,Aq,d]
    have y:AA [g3] wr (wr.setCell ⟨g3,3,none⟩ (.slice (some ⟨p,q,none⟩) (n-(i)) 0)):=(AG [g3] wr).setCell (AH (by simp)) _;have j:=(y.block g2 (AN.1 f).1 (by have:=z.o;simp;omega)).trans f;have hk4:AA [] w (wr.setCell ⟨g3,3,none⟩ (.slice (some ⟨p,q,none⟩) (n-(i)) 0)):=m.setCell (AE (by have:=z.o;simp;omega)) _;have s:(#[.string (AJ L),.string T,.bool F,.slice (some ⟨p,q,none⟩) (n-(i)) 0,.bool bad]:Array Value).all (·.oneCell')=true:=Ej rfl rfl rfl rfl rfl;have D:Hid (∀Z,AA [] w Z->BB Z (.slice (some ⟨p,q,none⟩) (n-(i)) 0) (l.drop i)):=fun Z hZ=>⟨by rw[Ey];have:=HB.o;omega,AH ⟨FY (by have:=HB.o;have:=G.o;have:=J.o;omega),_,_,by rw[show n-(i)=0 by have:=G.o;have:=J.o;omega]⟩,fun b hb=>by rw[FY (by have:=HB.o;have:=G.o;have:=J.o;omega)]at hb;cases hb⟩
    clear d f m;go_wp2_with(first|(refine As rfl 187 _ rfl g3 rfl _ _ _ _ r Cr rfl (Bt _ _ _ _ _) ?_)|(refine Ae rfl 187 _ _ rfl g2 _ rfl rfl _ _ j (Bt _ _ _ _ _) rfl s ?_));refine Ag (Au rfl _ _ g2 _ _ _ _ rfl (Aa _ _ _ _ _ _ j) Cr rfl (Bt _ _ _ _ _)) rfl ?_;have x:=hk4.setRow (g:=g2) (AE (by have:=z.o;omega)) #[.string (AJ L),.string T,.bool F,.slice (some ⟨p,q,none⟩) (n-(i)) 0,.bool bad];exact⟨i,L,T,F,bad,.slice (some ⟨p,q,none⟩) (n-(i)) 0,rfl,HR.o,D.o _ x,B.o.1,B.o.2,x⟩
  have aN:(i:Int)<(n:Int):=by omega
  have J:Hid (i<n):=hlt;obtain⟨a,ha⟩:∃a,l[i]? =some a:=⟨_,Ax (by have:=HB.o;omega)⟩;obtain⟨_,_,e1,af⟩:=(HA.o.keep m).at ha;cases e1;have aP:Hid (l[i]? =some a):=ha;have has:=PN ha;have a8:(a.size:Int)<=1048576:=by have:=HB.o;omega
  by_cases ho:Co a
  rotate_left
  ·have HR:Hid (GA l i L T F bad):=O.op.left fun b hb=>by rw[ha]at hb;cases hb;exact ho
   clear O M hlt HO ha has;by_cases h1:1<a.size
   ·have aQ:(1:Int)<(a.size:Int):=by omega
    have h0:0<a.size:=by omega
    have hq:((a[0].toNat:Int)==45)=false:=by
     simp only[beq_eq_false_iff_ne,ne_eq];intro e;exact ho ⟨h1,by rw[Bd h0];exact e⟩
    have aZ:(0:Int)<(a.size:Int):=by omega
    clear ho h1;have V:wr.frozen? ⟨g3,3,none⟩=false:=by simp[World.frozen?,d]
    have W:wr.cell? ⟨g3,3,none⟩=some (.slice none 0 0):=by rw[AU d];rfl
    have r:(wr.setCell ⟨g3,3,none⟩ (.slice (some ⟨p,q+(i),none⟩) (n-(i)) (vc-(i)))).heap[g3]? =some (.cells #[.string (AJ L),.string T,.bool F,.slice (some ⟨p,q+(i),none⟩) (n-(i)) (vc-(i)),.bool bad] 187 (0,0)):=by simp[World.setCell,Aq,d]
    have y:AA [g3] wr (wr.setCell ⟨g3,3,none⟩ (.slice (some ⟨p,q+(i),none⟩) (n-(i)) (vc-(i)))):=(AG [g3] wr).setCell (AH (by simp)) _;have j:=(y.block g2 (AN.1 f).1 (by have:=z.o;simp;omega)).trans f;have hk4:AA [] w (wr.setCell ⟨g3,3,none⟩ (.slice (some ⟨p,q+(i),none⟩) (n-(i)) (vc-(i)))):=m.setCell (AE (by have:=z.o;simp;omega)) _;have s:(#[.string (AJ L),.string T,.bool F,.slice (some ⟨p,q+(i),none⟩) (n-(i)) (vc-(i)),.bool bad]:Array Value).all (·.oneCell')=true:=Ej rfl rfl rfl rfl rfl;have D:Hid (∀Z,AA [] w Z->BB Z (.slice (some ⟨p,q+(i),none⟩) (n-(i)) (vc-(i))) (l.drop i)):=fun Z hZ=>HA.o.tail (i) HB.o.1 (by have:=J.o;omega) hZ
    clear d f m;go_wp2_with(first|(refine As rfl 187 _ rfl g3 rfl _ _ _ _ r Cr rfl (Bt _ _ _ _ _) ?_)|(refine Ae rfl 187 _ _ rfl g2 _ rfl rfl _ _ j (Bt _ _ _ _ _) rfl s ?_));refine Ag (Au rfl _ _ g2 _ _ _ _ rfl (Aa _ _ _ _ _ _ j) Cr rfl (Bt _ _ _ _ _)) rfl ?_;have x:=hk4.setRow (g:=g2) (AE (by have:=z.o;omega)) #[.string (AJ L),.string T,.bool F,.slice (some ⟨p,q+(i),none⟩) (n-(i)) (vc-(i)),.bool bad];exact⟨i,L,T,F,bad,.slice (some ⟨p,q+(i),none⟩) (n-(i)) (vc-(i)),rfl,HR.o,D.o _ x,B.o.1,B.o.2,x⟩
   ·have aQ:¬(1:Int)<(a.size:Int):=by omega
    clear ho h1;have V:wr.frozen? ⟨g3,3,none⟩=false:=by simp[World.frozen?,d]
    have W:wr.cell? ⟨g3,3,none⟩=some (.slice none 0 0):=by rw[AU d];rfl
    have r:(wr.setCell ⟨g3,3,none⟩ (.slice (some ⟨p,q+(i),none⟩) (n-(i)) (vc-(i)))).heap[g3]? =some (.cells #[.string (AJ L),.string T,.bool F,.slice (some ⟨p,q+(i),none⟩) (n-(i)) (vc-(i)),.bool bad] 187 (0,0)):=by simp[World.setCell,Aq,d]
    have y:AA [g3] wr (wr.setCell ⟨g3,3,none⟩ (.slice (some ⟨p,q+(i),none⟩) (n-(i)) (vc-(i)))):=(AG [g3] wr).setCell (AH (by simp)) _;have j:=(y.block g2 (AN.1 f).1 (by have:=z.o;simp;omega)).trans f;have hk4:AA [] w (wr.setCell ⟨g3,3,none⟩ (.slice (some ⟨p,q+(i),none⟩) (n-(i)) (vc-(i)))):=m.setCell (AE (by have:=z.o;simp;omega)) _;have s:(#[.string (AJ L),.string T,.bool F,.slice (some ⟨p,q+(i),none⟩) (n-(i)) (vc-(i)),.bool bad]:Array Value).all (·.oneCell')=true:=Ej rfl rfl rfl rfl rfl;have D:Hid (∀Z,AA [] w Z->BB Z (.slice (some ⟨p,q+(i),none⟩) (n-(i)) (vc-(i))) (l.drop i)):=fun Z hZ=>HA.o.tail (i) HB.o.1 (by have:=J.o;omega) hZ
    clear d f m;go_wp2_with(first|(refine As rfl 187 _ rfl g3 rfl _ _ _ _ r Cr rfl (Bt _ _ _ _ _) ?_)|(refine Ae rfl 187 _ _ rfl g2 _ rfl rfl _ _ j (Bt _ _ _ _ _) rfl s ?_));refine Ag (Au rfl _ _ g2 _ _ _ _ rfl (Aa _ _ _ _ _ _ j) Cr rfl (Bt _ _ _ _ _)) rfl ?_;have x:=hk4.setRow (g:=g2) (AE (by have:=z.o;omega)) #[.string (AJ L),.string T,.bool F,.slice (some ⟨p,q+(i),none⟩) (n-(i)) (vc-(i)),.bool bad];exact⟨i,L,T,F,bad,.slice (some ⟨p,q+(i),none⟩) (n-(i)) (vc-(i)),rfl,HR.o,D.o _ x,B.o.1,B.o.2,x⟩
  have h1:1<a.size:=ho.1;have aQ:(1:Int)<(a.size:Int):=by omega
  have aZ:(0:Int)<(a.size:Int):=by omega
  have h0:0<a.size:=by omega
  have hq:((a[0].toNat:Int)==45)=true:=by
   have:=ho.2;rw[Bd h0]at this;simpa using this
  by_cases Q:a=D1
  ·have HR:Hid (GA l (i+1) L T F bad):=O.op.dd (by rw[<-Q];exact ha);have a1:(a.toList==[45,45])=true:=by rw[Ld];exact BU Q
   clear O M hlt HO ha has Q ho;by_cases aO:i+1<vc
   ·have az:((i+1:Nat):Int)<(vc:Int):=by omega
    have aR:(i:Int)+1<(vc:Int):=by omega
    have V:wr.frozen? ⟨g3,3,none⟩=false:=by simp[World.frozen?,d]
    have W:wr.cell? ⟨g3,3,none⟩=some (.slice none 0 0):=by rw[AU d];rfl
    have r:(wr.setCell ⟨g3,3,none⟩ (.slice (some ⟨p,q+(i+1),none⟩) (n-(i+1)) (vc-(i+1)))).heap[g3]? =some (.cells #[.string (AJ L),.string T,.bool F,.slice (some ⟨p,q+(i+1),none⟩) (n-(i+1)) (vc-(i+1)),.bool bad] 187 (0,0)):=by simp[World.setCell,Aq,d]
    have y:AA [g3] wr (wr.setCell ⟨g3,3,none⟩ (.slice (some ⟨p,q+(i+1),none⟩) (n-(i+1)) (vc-(i+1)))):=(AG [g3] wr).setCell (AH (by simp)) _;have j:=(y.block g2 (AN.1 f).1 (by have:=z.o;simp;omega)).trans f;have hk4:AA [] w (wr.setCell ⟨g3,3,none⟩ (.slice (some ⟨p,q+(i+1),none⟩) (n-(i+1)) (vc-(i+1)))):=m.setCell (AE (by have:=z.o;simp;omega)) _;have s:(#[.string (AJ L),.string T,.bool F,.slice (some ⟨p,q+(i+1),none⟩) (n-(i+1)) (vc-(i+1)),.bool bad]:Array Value).all (·.oneCell')=true:=Ej rfl rfl rfl rfl rfl;have D:Hid (∀Z,AA [] w Z->BB Z (.slice (some ⟨p,q+(i+1),none⟩) (n-(i+1)) (vc-(i+1))) (l.drop (i+1))):=fun Z hZ=>HA.o.tail (i+1) HB.o.1 (by have:=J.o;omega) hZ
    clear d f m;go_wp2_with(first|(refine As rfl 187 _ rfl g3 rfl _ _ _ _ r Cr rfl (Bt _ _ _ _ _) ?_)|(refine Ae rfl 187 _ _ rfl g2 _ rfl rfl _ _ j (Bt _ _ _ _ _) rfl s ?_));refine Ag (Au rfl _ _ g2 _ _ _ _ rfl (Aa _ _ _ _ _ _ j) Cr rfl (Bt _ _ _ _ _)) rfl ?_;have x:=hk4.setRow (g:=g2) (AE (by have:=z.o;omega)) #[.string (AJ L),.string T,.bool F,.slice (some ⟨p,q+(i+1),none⟩) (n-(i+1)) (vc-(i+1)),.bool bad];exact⟨i+1,L,T,F,bad,.slice (some ⟨p,q+(i+1),none⟩) (n-(i+1)) (vc-(i+1)),rfl,HR.o,D.o _ x,B.o.1,B.o.2,x⟩
   ·have ae:i+1=vc:=by have:=G.o;have:=J.o;omega
    subst ae;have V:wr.frozen? ⟨g3,3,none⟩=false:=by simp[World.frozen?,d]
    have W:wr.cell? ⟨g3,3,none⟩=some (.slice none 0 0):=by rw[AU d];rfl
    have r:(wr.setCell ⟨g3,3,none⟩ (.slice (some ⟨p,q,none⟩) (n-(i+1)) 0)).heap[g3]? =some (.cells #[.string (AJ L),.string T,.bool F,.slice (some ⟨p,q,none⟩) (n-(i+1)) 0,.bool bad] 187 (0,0)):=by simp[World.setCell,Aq,d]
    have y:AA [g3] wr (wr.setCell ⟨g3,3,none⟩ (.slice (some ⟨p,q,none⟩) (n-(i+1)) 0)):=(AG [g3] wr).setCell (AH (by simp)) _;have j:=(y.block g2 (AN.1 f).1 (by have:=z.o;simp;omega)).trans f;have hk4:AA [] w (wr.setCell ⟨g3,3,none⟩ (.slice (some ⟨p,q,none⟩) (n-(i+1)) 0)):=m.setCell (AE (by have:=z.o;simp;omega)) _;have s:(#[.string (AJ L),.string T,.bool F,.slice (some ⟨p,q,none⟩) (n-(i+1)) 0,.bool bad]:Array Value).all (·.oneCell')=true:=Ej rfl rfl rfl rfl rfl;have D:Hid (∀Z,AA [] w Z->BB Z (.slice (some ⟨p,q,none⟩) (n-(i+1)) 0) (l.drop (i+1))):=fun Z hZ=>⟨by rw[Ey];have:=HB.o;omega,AH ⟨FY (by have:=HB.o;have:=G.o;have:=J.o;omega),_,_,by rw[show n-(i+1)=0 by have:=G.o;have:=J.o;omega]⟩,fun b hb=>by rw[FY (by have:=HB.o;have:=G.o;have:=J.o;omega)]at hb;cases hb⟩
    clear d f m;go_wp2_with(first|(refine As rfl 187 _ rfl g3 rfl _ _ _ _ r Cr rfl (Bt _ _ _ _ _) ?_)|(refine Ae rfl 187 _ _ rfl g2 _ rfl rfl _ _ j (Bt _ _ _ _ _) rfl s ?_));refine Ag (Au rfl _ _ g2 _ _ _ _ rfl (Aa _ _ _ _ _ _ j) Cr rfl (Bt _ _ _ _ _)) rfl ?_;have x:=hk4.setRow (g:=g2) (AE (by have:=z.o;omega)) #[.string (AJ L),.string T,.bool F,.slice (some ⟨p,q,none⟩) (n-(i+1)) 0,.bool bad];exact⟨i+1,L,T,F,bad,.slice (some ⟨p,q,none⟩) (n-(i+1)) 0,rfl,HR.o,D.o _ x,B.o.1,B.o.2,x⟩
  have a1:(a.toList==[45,45])=false:=by rw[Ld];exact BS Q
  by_cases aa:a=Cx
  ·have a2:(a.toList==[45,116])=true:=by rw[Le];exact BU aa
   have am:l[i]? =some Cx:=by rw[<-aa];exact ha
   have an:wr.frozen? ⟨g3,4,none⟩=false:=by simp[World.frozen?,d]
   have a3:wr.frozen? ⟨g3,1,none⟩=false:=by simp[World.frozen?,d]
   have a4:wr.frozen? ⟨g3,2,none⟩=false:=by simp[World.frozen?,d]
   have ao:wr.cell? ⟨g3,4,none⟩=some (.bool bad):=by rw[AU d];rfl
   have a5:wr.cell? ⟨g3,1,none⟩=some (.string T):=by rw[AU d];rfl
   by_cases aA:i+1=n
   ·have aG:((i:Int)+1==(n:Int))=true:=by simp;omega
    have HR:Hid (GA l (i+1) L T F true):=(O.op.tpl0 am (by have:=HB.o;omega)).stop;have ag:(wr.setCell ⟨g3,4,none⟩ (.bool true)).heap[g3]? =some (.cells #[.string (AJ L),.string T,.bool F,.slice none 0 0,.bool true] 187 (0,0)):=by simp[World.setCell,Aq,d]
    have aB:AA [g3] wr (wr.setCell ⟨g3,4,none⟩ (.bool true)):=(AG [g3] wr).setCell (AH (by simp)) _;have ah:=(aB.block g2 (AN.1 f).1 (by have:=z.o;simp;omega)).trans f;have aC:AA [] w (wr.setCell ⟨g3,4,none⟩ (.bool true)):=m.setCell (AE (by have:=z.o;simp;omega)) _;clear O M hlt HO ha has Q ho am aa aA aB;go_upto_region 20 with(fail)
    clear d f m af;generalize wr.setCell ⟨g3,4,none⟩ (.bool true)=wr at*;have d:=ag;have f:=ah;have m:=aC;clear ag ah aC an a3 a4 ao a5;by_cases aO:i+1<vc
    ·have az:((i+1:Nat):Int)<(vc:Int):=by omega
     have aR:(i:Int)+1<(vc:Int):=by omega
     have V:wr.frozen? ⟨g3,3,none⟩=false:=by simp[World.frozen?,d]
     have W:wr.cell? ⟨g3,3,none⟩=some (.slice none 0 0):=by rw[AU d];rfl
     have r:(wr.setCell ⟨g3,3,none⟩ (.slice (some ⟨p,q+(i+1),none⟩) (n-(i+1)) (vc-(i+1)))).heap[g3]? =some (.cells #[.string (AJ L),.string T,.bool F,.slice (some ⟨p,q+(i+1),none⟩) (n-(i+1)) (vc-(i+1)),.bool true] 187 (0,0)):=by simp[World.setCell,Aq,d]
     have y:AA [g3] wr (wr.setCell ⟨g3,3,none⟩ (.slice (some ⟨p,q+(i+1),none⟩) (n-(i+1)) (vc-(i+1)))):=(AG [g3] wr).setCell (AH (by simp)) _;have j:=(y.block g2 (AN.1 f).1 (by have:=z.o;simp;omega)).trans f;have hk4:AA [] w (wr.setCell ⟨g3,3,none⟩ (.slice (some ⟨p,q+(i+1),none⟩) (n-(i+1)) (vc-(i+1)))):=m.setCell (AE (by have:=z.o;simp;omega)) _;have s:(#[.string (AJ L),.string T,.bool F,.slice (some ⟨p,q+(i+1),none⟩) (n-(i+1)) (vc-(i+1)),.bool true]:Array Value).all (·.oneCell')=true:=Ej rfl rfl rfl rfl rfl;have D:Hid (∀Z,AA [] w Z->BB Z (.slice (some ⟨p,q+(i+1),none⟩) (n-(i+1)) (vc-(i+1))) (l.drop (i+1))):=fun Z hZ=>HA.o.tail (i+1) HB.o.1 (by have:=J.o;omega) hZ
     clear d f m;go_wp2_with(first|(refine As rfl 187 _ rfl g3 rfl _ _ _ _ r Cr rfl (Bt _ _ _ _ _) ?_)|(refine Ae rfl 187 _ _ rfl g2 _ rfl rfl _ _ j (Bt _ _ _ _ _) rfl s ?_));refine Ag (Au rfl _ _ g2 _ _ _ _ rfl (Aa _ _ _ _ _ _ j) Cr rfl (Bt _ _ _ _ _)) rfl ?_;have x:=hk4.setRow (g:=g2) (AE (by have:=z.o;omega)) #[.string (AJ L),.string T,.bool F,.slice (some ⟨p,q+(i+1),none⟩) (n-(i+1)) (vc-(i+1)),.bool true];exact⟨i+1,L,T,F,true,.slice (some ⟨p,q+(i+1),none⟩) (n-(i+1)) (vc-(i+1)),rfl,HR.o,D.o _ x,B.o.1,B.o.2,x⟩
    ·have ae:i+1=vc:=by have:=G.o;have:=J.o;omega
     subst ae;have V:wr.frozen? ⟨g3,3,none⟩=false:=by simp[World.frozen?,d]
     have W:wr.cell? ⟨g3,3,none⟩=some (.slice none 0 0):=by rw[AU d];rfl
     have r:(wr.setCell ⟨g3,3,none⟩ (.slice (some ⟨p,q,none⟩) (n-(i+1)) 0)).heap[g3]? =some (.cells #[.string (AJ L),.string T,.bool F,.slice (some ⟨p,q,none⟩) (n-(i+1)) 0,.bool true] 187 (0,0)):=by simp[World.setCell,Aq,d]
     have y:AA [g3] wr (wr.setCell ⟨g3,3,none⟩ (.slice (some ⟨p,q,none⟩) (n-(i+1)) 0)):=(AG [g3] wr).setCell (AH (by simp)) _;have j:=(y.block g2 (AN.1 f).1 (by have:=z.o;simp;omega)).trans f;have hk4:AA [] w (wr.setCell ⟨g3,3,none⟩ (.slice (some ⟨p,q,none⟩) (n-(i+1)) 0)):=m.setCell (AE (by have:=z.o;simp;omega)) _;have s:(#[.string (AJ L),.string T,.bool F,.slice (some ⟨p,q,none⟩) (n-(i+1)) 0,.bool true]:Array Value).all (·.oneCell')=true:=Ej rfl rfl rfl rfl rfl;have D:Hid (∀Z,AA [] w Z->BB Z (.slice (some ⟨p,q,none⟩) (n-(i+1)) 0) (l.drop (i+1))):=fun Z hZ=>⟨by rw[Ey];have:=HB.o;omega,AH ⟨FY (by have:=HB.o;have:=G.o;have:=J.o;omega),_,_,by rw[show n-(i+1)=0 by have:=G.o;have:=J.o;omega]⟩,fun b hb=>by rw[FY (by have:=HB.o;have:=G.o;have:=J.o;omega)]at hb;cases hb⟩
     clear d f m;go_wp2_with(first|(refine As rfl 187 _ rfl g3 rfl _ _ _ _ r Cr rfl (Bt _ _ _ _ _) ?_)|(refine Ae rfl 187 _ _ rfl g2 _ rfl rfl _ _ j (Bt _ _ _ _ _) rfl s ?_));refine Ag (Au rfl _ _ g2 _ _ _ _ rfl (Aa _ _ _ _ _ _ j) Cr rfl (Bt _ _ _ _ _)) rfl ?_;have x:=hk4.setRow (g:=g2) (AE (by have:=z.o;omega)) #[.string (AJ L),.string T,.bool F,.slice (some ⟨p,q,none⟩) (n-(i+1)) 0,.bool true];exact⟨i+1,L,T,F,true,.slice (some ⟨p,q,none⟩) (n-(i+1)) 0,rfl,HR.o,D.o _ x,B.o.1,B.o.2,x⟩
   ·have aG:((i:Int)+1==(n:Int))=false:=by simp;omega
    have a9:(i:Int)+1<(n:Int):=by omega
    have ba:(0:Int)<=(i:Int)+1:=by omega
    obtain⟨t,ht⟩:∃t,l[i+1]? =some t:=⟨_,Ax (by have:=HB.o;omega)⟩;obtain⟨_,_,e1,aX⟩:=(HA.o.keep m).at ht;cases e1;have aS:=PN ht;have bc:(wr.setCell ⟨g3,1,none⟩ (.string t)).frozen? ⟨g3,2,none⟩=false:=by simp[World.frozen?,World.setCell,Aq,d]
    have aT:(wr.setCell ⟨g3,1,none⟩ (.string t)).heap[g3]? =some (.cells #[.string (AJ L),.string t,.bool F,.slice none 0 0,.bool bad] 187 (0,0)):=by simp[World.setCell,Aq,d]
    have bf:(wr.setCell ⟨g3,1,none⟩ (.string t)).cell? ⟨g3,2,none⟩=some (.bool F):=by rw[AU aT];rfl
    clear aT;have HN:Hid (Ju w ((wr.setCell ⟨g3,1,none⟩ (.string t)).setCell ⟨g3,2,none⟩ (.bool true)) g2 g3 l (i+2) L t true bad∧(true=true->t.size<=BM l)):=by
     refine⟨⟨O.op.tpl am ht,?_,by have:=HB.o;omega,by simp[World.setCell,Aq,d],?_,?_⟩,fun _=>by omega⟩
     ·rw[show i+2=i+1+1 from rfl,Kk ht,Kk ha];have:=O.len;omega
     ·have y:AA [g3] wr ((wr.setCell ⟨g3,1,none⟩ (.string t)).setCell ⟨g3,2,none⟩ (.bool true)):=((AG [g3] wr).setCell (AH (by simp)) _).setCell (AH (by simp)) _;exact(y.block g2 (AN.1 f).1 (by have:=z.o;simp;omega)).trans f
     ·exact(m.setCell (AE (by have:=z.o;simp;omega)) _).setCell (AE (by have:=z.o;simp;omega)) _
    clear O M hlt HO ha has Q ho am aa aA ht aS d f m;go_wp2_with fail;go_roundw
    case rel=>exact⟨i+2,L,t,true,bad,by go_num,HN.o.1,HN.o.2⟩
    case measure=>have:=J.o;simp[intOf];omega
  have a2:(a.toList==[45,116])=false:=by rw[Le];exact BS aa
  have aH:Hid (Co a∧a≠D1∧a≠Cx):=⟨ho,Q,aa⟩;have HL:Hid (Cm l i L T F bad∧L.length<=BM (l.take i)∧BM (l.take i)+a.size<=BM l∧(F=true->T.size<=BM l)):=⟨O.op,O.len,has,M⟩;clear O M hlt HO ha has Q ho aa;go_wp2_with fail;go_loopw [6] (fun q6 wq=>∃(k:Nat)(C:List UInt8)(A:Bool),q6=.int .i64 k∧1<=k∧k<=a.size∧F8 a L T F bad k C A∧C.length+1<=L.length+k∧wq.heap[g3]? =some (.cells #[.string (AJ C),.string T,.bool F,.slice none 0 0,.bool A] 187 (0,0))∧wq.heap[g2]? =some (.cells #[.string ⟨#[]⟩,.string ⟨#[]⟩,.bool false,.slice none 0 0,.bool false] 187 (0,0))∧AA [] w wq) (fun q6 _=>a.size-(intOf q6).toNat)
  case atStart=>exact⟨1,L,bad,rfl,AP _,by omega,F8.start _ _ _ _ _,AP _,d,f,m⟩
  case round=>
   clear d f m af;obtain⟨k,C,A,rfl,aU,a6,ap,aV,d,f,m⟩:=hrel;by_cases aq:k<a.size
   rotate_left
   ·have aW:¬(k:Int)<(a.size:Int):=by omega
    have a7:k=a.size:=by omega
    subst a7;have HN:Hid (Ju w wr g2 g3 l (i+1) C T F A∧(F=true->T.size<=BM l)):=⟨⟨HL.o.1.let' aP.o aH.o.1 aH.o.2.1 aH.o.2.2 ap,by rw[Kk aP.o];have:=HL.o.2.1;omega,by have:=HB.o;have:=J.o;omega,d,f,m⟩,HL.o.2.2.2⟩;clear d f m ap aq;go_wp2_with fail
    first
     |exact⟨⟨i+1,C,T,F,A,by go_num,HN.o.1,HN.o.2⟩,by have:=J.o;simp[intOf];omega⟩
     |(
      go_roundw
      case rel=>exact⟨i+1,C,T,F,A,by go_num,HN.o.1,HN.o.2⟩
      case measure=>have:=J.o;simp[intOf];omega)
   ·have aW:(k:Int)<(a.size:Int):=by omega
    have bh:(0:Int)<=(k:Int):=by omega
    have ar:=ap.go aq;have he:=MA aq;obtain⟨u,hu⟩:=An (a[k]);have ad:=VT u wr;rw[hu]at ar he;obtain⟨P,ai⟩:=AQ (k+1);have bo:IntKind.i64.wrap ((k:Int)+1)=(P:Int):=by rw[IntKind.wrap_i64];omega
    have bq:(k:Int)<=(P:Int):=by omega
    have bi:(P:Int)<=(a.size:Int):=by omega
    have HK:Hid (P=k+1∧k<a.size∧1<=k∧C.length+1<=L.length+k):=⟨ai,aq,aU,aV⟩;have bs:¬9223372036854775807<(AJ C).size+(a.extract k P).size:=by rw[Bp,Ef];have:=HL.o;have:=HB.o;omega
    have bj:(AJ C).size+(min P a.size-k)<=9223372036854775807:=by rw[Bp];have:=HL.o;have:=HB.o;omega
    rw[show k+1=P from ai.symm]at he ar;have HE:Hid (AJ C++a.extract k P=AJ (C++[u])):=by show AJ C++a.extract k P=AJ (C++[u]);rw[he];exact(Jt _ _).symm
    have au:Hid (F8 a L T F bad P (C++[u]) (A|| !E4 u)):=ar;have an:wr.frozen? ⟨g3,4,none⟩=false:=by simp[World.frozen?,d]
    have ao:wr.cell? ⟨g3,4,none⟩=some (.bool A):=by rw[AU d];rfl
    clear ap ar he ai aU a6 aV;cases aw:E4 u
    ·rw[aw]at ad au;have H:(wr.setCell ⟨g3,4,none⟩ (.bool true)).heap[g3]? =some (.cells #[.string (AJ C),.string T,.bool F,.slice none 0 0,.bool true] 187 (0,0)):=by simp[World.setCell,Aq,d]
     have y:AA [g3] wr (wr.setCell ⟨g3,4,none⟩ (.bool true)):=(AG [g3] wr).setCell (AH (by simp)) _;have I:=(y.block g2 (AN.1 f).1 (by have:=z.o;simp;omega)).trans f;have R:AA [] w (wr.setCell ⟨g3,4,none⟩ (.bool true)):=m.setCell (AE (by have:=z.o;simp;omega)) _;clear aw d f m y;go_upto_region 19 with(first|(go_at_call 109;refine ad.mono ?_;rintro e w'⟨rfl,aj⟩;rw[aj];clear aj))
     clear ad an ao;generalize wr.setCell ⟨g3,4,none⟩ (.bool true)=Y at*;have ak:AA [] Y Y.drew:=(AG [] Y).drewN 1;have N:Y.drew.heap[g3]? =some (.cells #[.string (AJ C),.string T,.bool F,.slice none 0 0,.bool true] 187 (0,0)):=H;have E:Y.drew.heap[g2]? =some (.cells #[.string ⟨#[]⟩,.string ⟨#[]⟩,.bool false,.slice none 0 0,.bool false] 187 (0,0)):=I;have S:=R.trans ak;refine wp_region_any (by kernel_rfl) ?_;change wpAny _ _ _ _ _ _ _ (World.drew _);generalize Y.drew=Z at*;clear H I R ak;have aI:Z.frozen? ⟨g3,0,none⟩=false:=by simp[World.frozen?,N]
     have aJ:Z.cell? ⟨g3,0,none⟩=some (.string (AJ C)):=by rw[AU N];rfl
     refine DD (i:=0) (v:=.pointer (some ⟨g3,0,none⟩)) rfl (by kernel_rfl) (by kernel_rfl) (by kernel_rfl) (fun _ _ _ h=>h) (AH ⟨by rfl,fun w=>by go_simp⟩) ?_;refine DD (i:=2) (v:=.string a) rfl (by kernel_rfl) (by kernel_rfl) (by kernel_rfl) (fun _ _ _ h=>h) (AH ⟨by rfl,fun w=>by go_simp⟩) ?_;refine DD (i:=3) (v:=.int .i64 k) rfl (by kernel_rfl) (by kernel_rfl) (by kernel_rfl) (fun _ _ _ h=>h) (AH ⟨by rfl,fun w=>by go_simp⟩) ?_;refine DD (i:=4) (v:=.int .i64 k) rfl (by kernel_rfl) (by kernel_rfl) (by kernel_rfl) (fun _ _ _ h=>h) (AH ⟨by rfl,fun w=>by go_simp⟩) ?_;refine DD (i:=5) (v:=.int .i64 P) rfl (by kernel_rfl) (by kernel_rfl) (by kernel_rfl) (fun _ _ _ h=>h) (AH ⟨by rfl,fun w=>by go_simp⟩) ?_;refine DD (i:=6) (v:=.string (a.extract k P)) rfl (by kernel_rfl) (by kernel_rfl) (by kernel_rfl) (fun _ _ _ h=>h) (AH ⟨by rfl,fun w=>by go_simp⟩) ?_;refine Dt (rs:=[1]) (by kernel_rfl) (by simp) ?_;refine Dh rfl (fun K hK=>?_) Ds;go_simp;refine hK _ _ ?_;clear hK K;refine DD (i:=7) (v:=.string (AJ C++a.extract k P)) rfl (by kernel_rfl) (by kernel_rfl) (by kernel_rfl) (fun _ _ _ h=>h) (AH ⟨by rfl,fun w=>by go_simp⟩) ?_;refine DD (i:=8) (v:=.pointer (some ⟨g3,0,none⟩)) rfl (by kernel_rfl) (by kernel_rfl) (by kernel_rfl) (fun _ _ _ h=>h) (AH ⟨by rfl,fun w=>by go_simp⟩) ?_;refine Dt (rs:=[9]) (by kernel_rfl) (by simp) ?_;refine Dh rfl (fun K hK=>?_) Ds;go_simp;refine hK _ _ ?_;clear hK K;refine wpAny_done (by kernel_rfl) ?_ _;rw[HE.o];have ab:(Z.setCell ⟨g3,0,none⟩ (.string (AJ (C++[u])))).heap[g3]? =some (.cells #[.string (AJ (C++[u])),.string T,.bool F,.slice none 0 0,.bool true] 187 (0,0)):=by simp[World.setCell,Aq,N]
     have U:AA [g3] Z (Z.setCell ⟨g3,0,none⟩ (.string (AJ (C++[u])))):=(AG [g3] Z).setCell (AH (by simp)) _;have ac:=(U.block g2 (AN.1 E).1 (by have:=z.o;simp;omega)).trans E;have al:AA [] w (Z.setCell ⟨g3,0,none⟩ (.string (AJ (C++[u])))):=S.setCell (AE (by have:=z.o;simp;omega)) _;clear N E S U aI aJ;go_wp2_with fail;go_roundw
     case rel=>exact⟨P,C++[u],true,by have:=HK.o;go_num,by have:=HK.o;omega,by have:=HK.o;omega,by have:=au.o;simpa using this,by have:=HK.o;simp;omega,ab,ac,al⟩
     case measure=>have:=HK.o;simp[intOf];omega
    ·rw[aw]at ad au;have H:=d;have I:=f;have R:=m;clear aw d f m;go_upto_region 19 with(first|(go_at_call 109;refine ad.mono ?_;rintro e w'⟨rfl,aj⟩;rw[aj];clear aj))
     clear ad an ao;generalize wr=Y at*;have ak:AA [] Y Y.drew:=(AG [] Y).drewN 1;have N:Y.drew.heap[g3]? =some (.cells #[.string (AJ C),.string T,.bool F,.slice none 0 0,.bool A] 187 (0,0)):=H;have E:Y.drew.heap[g2]? =some (.cells #[.string ⟨#[]⟩,.string ⟨#[]⟩,.bool false,.slice none 0 0,.bool false] 187 (0,0)):=I;have S:=R.trans ak;refine wp_region_any (by kernel_rfl) ?_;change wpAny _ _ _ _ _ _ _ (World.drew _);generalize Y.drew=Z at*;clear H I R ak;have aI:Z.frozen? ⟨g3,0,none⟩=false:=by simp[World.frozen?,N]
     have aJ:Z.cell? ⟨g3,0,none⟩=some (.string (AJ C)):=by rw[AU N];rfl
     refine DD (i:=0) (v:=.pointer (some ⟨g3,0,none⟩)) rfl (by kernel_rfl) (by kernel_rfl) (by kernel_rfl) (fun _ _ _ h=>h) (AH ⟨by rfl,fun w=>by go_simp⟩) ?_;refine DD (i:=2) (v:=.string a) rfl (by kernel_rfl) (by kernel_rfl) (by kernel_rfl) (fun _ _ _ h=>h) (AH ⟨by rfl,fun w=>by go_simp⟩) ?_;refine DD (i:=3) (v:=.int .i64 k) rfl (by kernel_rfl) (by kernel_rfl) (by kernel_rfl) (fun _ _ _ h=>h) (AH ⟨by rfl,fun w=>by go_simp⟩) ?_;refine DD (i:=4) (v:=.int .i64 k) rfl (by kernel_rfl) (by kernel_rfl) (by kernel_rfl) (fun _ _ _ h=>h) (AH ⟨by rfl,fun w=>by go_simp⟩) ?_;refine DD (i:=5) (v:=.int .i64 P) rfl (by kernel_rfl) (by kernel_rfl) (by kernel_rfl) (fun _ _ _ h=>h) (AH ⟨by rfl,fun w=>by go_simp⟩) ?_;refine DD (i:=6) (v:=.string (a.extract k P)) rfl (by kernel_rfl) (by kernel_rfl) (by kernel_rfl) (fun _ _ _ h=>h) (AH ⟨by rfl,fun w=>by go_simp⟩) ?_;refine Dt (rs:=[1]) (by kernel_rfl) (by simp) ?_;refine Dh rfl (fun K hK=>?_) Ds;go_simp;refine hK _ _ ?_;clear hK K;refine DD (i:=7) (v:=.string (AJ C++a.extract k P)) rfl (by kernel_rfl) (by kernel_rfl) (by kernel_rfl) (fun _ _ _ h=>h) (AH ⟨by rfl,fun w=>by go_simp⟩) ?_;refine DD (i:=8) (v:=.pointer (some ⟨g3,0,none⟩)) rfl (by kernel_rfl) (by kernel_rfl) (by kernel_rfl) (fun _ _ _ h=>h) (AH ⟨by rfl,fun w=>by go_simp⟩) ?_;refine Dt (rs:=[9]) (by kernel_rfl) (by simp) ?_;refine Dh rfl (fun K hK=>?_) Ds;go_simp;refine hK _ _ ?_;clear hK K;refine wpAny_done (by kernel_rfl) ?_ _;rw[HE.o];have ab:(Z.setCell ⟨g3,0,none⟩ (.string (AJ (C++[u])))).heap[g3]? =some (.cells #[.string (AJ (C++[u])),.string T,.bool F,.slice none 0 0,.bool A] 187 (0,0)):=by simp[World.setCell,Aq,N]
     have U:AA [g3] Z (Z.setCell ⟨g3,0,none⟩ (.string (AJ (C++[u])))):=(AG [g3] Z).setCell (AH (by simp)) _;have ac:=(U.block g2 (AN.1 E).1 (by have:=z.o;simp;omega)).trans E;have al:AA [] w (Z.setCell ⟨g3,0,none⟩ (.string (AJ (C++[u])))):=S.setCell (AE (by have:=z.o;simp;omega)) _;clear N E S U aI aJ;go_wp2_with fail;go_roundw
     case rel=>exact⟨P,C++[u],A,by have:=HK.o;go_num,by have:=HK.o;omega,by have:=HK.o;omega,by have:=au.o;simpa using this,by have:=HK.o;simp;omega,ab,ac,al⟩
     case measure=>have:=HK.o;simp[intOf];omega
theorem VW(v:Value)(l:List ByteArray)(w:World)(d:BB w v l)(b:BM l<=1048576)(c:l.length<=1048576):Calls Tryz.prog 106 #[v] w (MC l w):=by
 cases l with
 |nil=>exact VU v w d
 |cons a l=>exact VV v (a::l) w d b c (by simp)
