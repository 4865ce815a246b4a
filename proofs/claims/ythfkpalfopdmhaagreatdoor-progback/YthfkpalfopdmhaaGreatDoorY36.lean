/- Texts of the walk, packed. -/
import Derived.RangeFuncFrom
import Derived.RangeFuncCalls
import Derived.RangeFuncLeaves
import Derived.Test.YthfkpalfopdmhaaGreatDoorY22
import Derived.Test.YthfkpalfopdmhaaGreatDoorY15
import Derived.Test.YthfkpalfopdmhaaGreatDoorY03
import Derived.RangeFuncBound
import Derived.Shelf.Abstract
import Derived.Shelf.RegionOpen
import Derived.WalkKit
import Derived.OwnWalkIn
import Derived.TacticsInMore
import Derived.LoopNIn
import Derived.LoopIn
import Derived.Test.YthfkpalfopdmhaaGreatDoorY28
import Derived.Test.YthfkpalfopdmhaaGreatDoorY32
import Derived.Test.YthfkpalfopdmhaaGreatDoorY35
import Derived.Test.YthfkpalfopdmhaaGreatDoorY20
import Derived.Deep.RegionWith
import Derived.Deep.CutRange
import Derived.Test.YthfkpalfopdmhaaGreatDoorY33
import Derived.Test.YthfkpalfopdmhaaGreatDoorY00
namespace Go.Proofs.YthfkpalfopdmhaaGreatDoor
open Go Go.RowKit
def QFE (R:World→Prop):Exit→Act→World→Prop
 |.normal,_,W=>R W
 |.ret,_,_=>False
 |.exit _,_,_=>False
 |.goto _,_,_=>False
 |.panic _,_,_=>False
 |.outgrown,_,_=>False
def VO {σ α:Type} (F:Fence) (n:Nat) (P:Program) (gf:Nat) (lb:Array Value) (encs:α→Array Value) (I:σ→World→Prop) (Mv:σ→World→σ→World→Prop) (Nx:σ→α→σ→Prop) (s0 s1:σ):Prop:=
 ∀(l:Nat) (J:σ→World→Prop) (W:World),(∀s W1,J s W1→I s W1)→(∀s W1 s' W2,J s W1→Mv s W1 s' W2→J s' W2)→
  (∀s x s' W1,J s W1→Nx s x s'→YieldAt F (n-1) P l (encs x) W1 (fun e W2=>e=.returned (.bool true)∧J s' W2))→J s0 W→
  CallsIn F n P gf (#[.func (.yield l) #[] #[]]++lb) W (fun e W2=>(∃v,e=.returned v)∧J s1 W2)
theorem XH {σ α:Type} {F:Fence} {n:Nat} {P:Program} {g:Operand} {ps:Array Tmp} {assign body:Code} {Q:Exit→Act→World→Prop} {a:Act} {w:World}
  (hro:F.round=none) (h1:1≤n) {gf:Nat} {lb:Array Value} (hg:a.eval g=.func (.func gf) #[] lb) (hF:F.fn gf) (eg:∀args w,(callFunc gf args).run P w=.ok (.enter gf args) w)
  {encs:α→Array Value} (hps:∀x,(encs x).size=ps.size) {I:σ→World→Prop} {Mv:σ→World→σ→World→Prop} {Nx:σ→α→σ→Prop} {s0 s1:σ}
  (hseq:VO F (n-1) P gf lb encs I Mv Nx s0 s1)
  (hMvI:∀s W s' W',I s W→Mv s W s' W'→I s' W')
  (hMvO:∀s W s' W',I s W→Mv s W s' W'→∀(k:Nat) (o:Obj),W.heap[k]?=some o→o.isCells=false→W'.heap[k]?=some o)
  (hI:∀s W (k:Nat) (o o':Obj),I s W→w.heap.size≤k→W.heap[k]?=some o→o.isCells=false→I s (W.putObj k o'))
  (h0:∀o1 o2:Obj,I s0 ((w.alloc o1).alloc o2)) (a₁:α→Act)
  (hassign:∀(l:Nat) (x:α) (W:World) (K:Act→World→Prop),K (a₁ x) W→
   assign.wpIn (F.inRound l) (n-1-1) P (Exit.then K (fun _ _ _=>False)) {tmps:=(ps.zip (encs x)).foldl (fun t (p,v)=>t.setIfInBounds p v) a.tmps,defers:=[]} W)
  (hbody:∀(l:Nat) (s:σ) (x:α) (s':σ) (W:World),I s W→Nx s x s'→body.wpIn (F.inRound l) (n-1-1) P (QFE (fun W'=>KeepsOthers W W'∧I s' W')) (a₁ x) W)
  (hdone:∀(D:Nat) (W:World),w.heap.size≤D→I s1 W→W.heap[D]?=some (.deferred (some []))→Q .normal {a with defers:={target:=.collected D,args:=#[]}::a.defers} W):
  (Code.rangeFunc g ps assign body).wpIn F n P Q a w:=by
 refine wpIn_rangeFunc ?_
 intro fn hfn
 rw[hro]
 obtain⟨rec,hrec⟩:∃rec:LoopState→Option Code→Loop,rec=fun st pe=>{state:=st,pending:=pe,fn,tmps:=a.tmps,params:=ps,assign,body,defers:=w.heap.size}:=⟨_,rfl⟩
 obtain⟨X,hX⟩:∃X,(w.alloc (.deferred (some []))).alloc (.loop (rec .ready none))=X:=⟨_,rfl⟩
 obtain⟨D,hD⟩:∃D,w.heap.size=D:=⟨_,rfl⟩
 have xr:X.heap[D+1]?=some (.loop (rec .ready none)):=by
  have:=World.alloc_heap_new (w.alloc (.deferred (some []))) (.loop (rec .ready none))
  rw[World.size_alloc,hD,hX]at this
  exact this
 have xd:X.heap[D]?=some (.deferred (some [])):=by
  rw[←hX,←hD];exact(Below.heap_alloc _ _ _ (by simp)).trans (World.alloc_heap_new w _)
 let J:σ→World→Prop:=fun s W=>I s W∧W.heap[D+1]?=some (.loop (rec .ready none))∧W.heap[D]?=some (.deferred (some []))
 have hJ0:J s0 X:=⟨hX▸h0 _ _,xr,xd⟩
 have round:∀s x s' W1,J s W1→Nx s x s'→YieldAt F (n-1-1) P (D+1) (encs x) W1 (fun e W2=>e=.returned (.bool true)∧J s' W2):=by
  rintro s x s' W ⟨hi,hl,hd⟩ hx
  have hlt:D+1<W.heap.size:=(Array.getElem?_eq_some_iff.1 hl).1
  have hy:=run_yield (P:=P) (args:=encs x) hl (by rw[hrec];exact hps x)
  rw[hrec]at hy
  refine⟨fn,_,assign,body,hy,roundIn_of_wpIn hfn (hassign _ x W _ ⟨_,run_beginRound hl (by rw[hrec]),?_⟩)⟩
  have b1:(W.putObj (D+1) (.loop {rec .ready none with state:=.busy})).heap[D+1]?=some (.loop {rec .ready none with state:=.busy}):=World.putObj_heap_same hlt
  have b2:(W.putObj (D+1) (.loop {rec .ready none with state:=.busy})).heap[D]?=some (.deferred (some [])):=(World.putObj_heap_other (by omega)).trans hd
  refine wpIn_mono (hbody _ s x s' _ (hI s W _ _ _ hi (by omega) hl rfl) hx) ?_
  intro e a3 W3 hp
  cases e with
  |normal=>
   obtain⟨k3,i3⟩:=hp
   have l3:=k3.same _ _ b1 rfl
   have d3:=k3.same _ _ b2 rfl
   have hend:=run_endRound (P:=P) none l3
   have hlt3:=(Array.getElem?_eq_some_iff.1 l3).1
   refine⟨_,_,hend,rfl,hI s' W3 _ _ _ i3 (by omega) l3 rfl,?_,(World.putObj_heap_other (by omega)).trans d3⟩
   rw[World.putObj_heap_same hlt3,hrec]
   rfl
  |ret=>exact hp.elim
  |exit id=>exact hp.elim
  |goto t=>exact hp.elim
  |panic ch=>exact hp.elim
  |outgrown=>exact hp.elim
 refine⟨D+1,[{target:=.collected D,args:=#[]}],X,{target:=.fn (.func gf) lb,args:=#[.func (.yield (D+1)) #[] #[]]},X,gf,#[.func (.yield (D+1)) #[] #[]]++lb,X,?_,?_,?_,?_,fun _=>h1,?_⟩
 ·rw[←hX,hrec,←hD];exact run_enterLoop_outer _ _ _ _ _
 ·simp only[resolve,hg]
  simp[go_sem]
 ·intro f' hf'
  simp[Target.leads]at hf'
  subst hf'
  exact hF
 ·simp[invoke,go_sem,eg]
 ·refine(hseq (D+1) J X (fun s W h=>h.1) (fun s W1 s' W2 h hm=>⟨hMvI _ _ _ _ h.1 hm,hMvO _ _ _ _ h.1 hm _ _ h.2.1 rfl,hMvO _ _ _ _ h.1 hm _ _ h.2.2 rfl⟩) round hJ0).mono ?_
  rintro e W2 ⟨⟨v,rfl⟩,hi,hl,hd⟩
  refine⟨none,_,(by have:=run_endLoop (P:=P) hl (by rw[hrec];simp);rw[hrec]at this;exact this),?_⟩
  exact hdone D _ (by omega) (hI s1 W2 _ _ _ hi (by omega) hl rfl) ((World.putObj_heap_other (by omega)).trans hd)
end Go.Proofs.YthfkpalfopdmhaaGreatDoor
namespace Go.Proofs.YthfkpalfopdmhaaGreatDoor
open Go.RowKit Go.Shelf
attribute [local go_sem] Oper.semAt_some
def KD (s:List (List UInt8)):List UInt8:=s.flatMap DZ
abbrev StL:=List (List UInt8)×List (List UInt8)
def QB5 (B:Nat) (w:World):Nat:=match w.cell? ⟨B,0,none⟩with
 |some (.string u)=>u.size
 |_=>0
def AtL (B:Nat) (s:StL) (w:World):Prop:=w.heap[B]?=some (.cells #[.string ⟨(KD s.1).toArray⟩] 9 (0,0))
theorem AtL.cell {B:Nat} {s:StL} {w:World} (h:AtL B s w):w.cell? ⟨B,0,none⟩=some (.string ⟨(KD s.1).toArray⟩):=by rw[Lib.cell_of_heap h];rfl
theorem AtL.free {B:Nat} {s:StL} {w:World} (h:AtL B s w):w.frozen? ⟨B,0,none⟩=false:=Lib.frozen_of_heap h 0
theorem Tm {w:World} {B T:Nat} {u v:Value} (h:w.heap[B]?=some (.cells #[u] T (0,0))):(w.setCell ⟨B,0,none⟩ v).heap[B]?=some (.cells #[v] T (0,0)):=by
 obtain⟨hlt,hk⟩:=Array.getElem?_eq_some_iff.1 h
 show(w.heap.modify B _)[B]?=_
 rw[Array.getElem?_eq_getElem (by rw[Array.size_modify];exact hlt),Array.getElem_modify_self,hk]
 rfl
def MvL (B:Nat) (s:StL) (w:World) (s':StL) (w':World):Prop:=s'.2=s.2∧AG (fun q=>q=B) w w'∧AtL B s' w'
def NxL (rows:List (List UInt8)) (s:StL) (x:List UInt8) (s':StL):Prop:=s'=(s.1,s.2++[x])∧rows=s.2++x::s.1
theorem XI {r:List UInt8} (h:BV r) (t:List UInt8):Lib.indexByte (DZ r++t) 10=r.length:=by
 induction r with
 |nil=>rfl
 |cons b r ih=>
  have hb:(b==10)=false:=by simpa using h b (List.mem_cons_self ..)
  have ih':=ih (fun c hc=>h c (List.mem_cons_of_mem _ hc))
  have e:DZ (b::r)++t=b::(DZ r++t):=rfl
  rw[e,Lib.indexByte,hb,ih']
  have:((r.length:Int)== -1)=false:=by simp
  rw[this]
  simp
theorem left_at {B:Nat} {w:World} {l:List UInt8} (h:w.cell? ⟨B,0,none⟩=some (.string ⟨l.toArray⟩)):QB5 B w=l.length:=by
 unfold QB5;rw[h];simp[ByteArray.size]
theorem QB6 {B:Nat} {s s' d:List (List UInt8)} {w:World} (h:AtL B (s',d) w):MvL B (s',d) w (s,d) (w.setCell ⟨B,0,none⟩ (.string ⟨(KD s).toArray⟩)).drew:=by
 refine⟨rfl,?_,?_⟩
 ·exact AG.trans (Q:=fun q=>q=B) AG.set (AG.of (AD _)) (fun _ _ h=>h) (fun _ _ h=>h)
 ·exact Tm (u:=.string ⟨(KD s').toArray⟩) h
theorem QB7 (r:List UInt8) (t T:List UInt8) (h:DZ r++t=T):(⟨T.toArray⟩:ByteArray).extract 0 (r.length+1)=⟨(DZ r).toArray⟩∧(⟨T.toArray⟩:ByteArray).extract (r.length+1) T.length=⟨t.toArray⟩:=by
 subst h
 have hl:(DZ r).length=r.length+1:=by simp[DZ]
 constructor
 ·apply ByteArray.ext
  rw[ByteArray.data_extract]
  rw[←hl]
  simp
 ·apply ByteArray.ext
  rw[ByteArray.data_extract]
  rw[←hl]
  simp
set_option maxRecDepth 100000 in
set_option maxHeartbeats 4000000 in
theorem XJ (n:Nat) (hn:1≤n) (B:Nat) (rows:List (List UInt8)) (hr:∀r∈rows,BV r) (hl:(KD rows).length≤1000000000) (I:StL→World→Prop) (hI:∀s W,I s W→AtL B s W):
  VO Fence.wide n Tryz.prog 167 #[.pointer (some ⟨B,0,none⟩)] (fun r:List UInt8=>#[.string ⟨(DZ r).toArray⟩]) I (MvL B) (NxL rows) (rows,[]) ([],rows):=fun l J W hJI hMv hY h0=>by
 refine callsIn_of_wp Tryz.func167 rfl trivial ?_ rfl
 simp only[Tryz.ntmps167,List.size_toArray,List.length_cons,List.length_nil,Nat.reduceAdd,Nat.reduceSub,Array.replicate_succ,Array.replicate_zero,List.push_toArray,List.append_toArray,List.nil_append,List.cons_append]
 gi_wp2
 gi_loopw [] (fun wr=>∃s d,rows=d++s∧J (s,d) wr) (fun wr=>QB5 B wr)
 case atStart=>exact⟨rows,[],rfl,h0⟩
 case round=>
  obtain⟨s,d,hd,hj⟩:=hrel
  have hc:=(hI _ _ (hJI _ _ hj)).cell
  have hf:=(hI _ _ (hJI _ _ hj)).free
  cases s with
  |nil=>
   have hc':wr.cell? ⟨B,0,none⟩=some (.string ⟨#[]⟩):=hc
   have HJ:=AA (show J ([],rows) wr by rw[hd,List.append_nil];exact hj)
   clear hc hj hd
   gi_wp2
   go_end0
   exact⟨⟨_,rfl⟩,HJ.out⟩
  |cons r s=>
   have hc':wr.cell? ⟨B,0,none⟩=some (.string ⟨(DZ r++KD s).toArray⟩):=hc
   have hix:=XI (hr r (by rw[hd];simp)) (KD s)
   have hlen:(DZ r++KD s).length≤1000000000:=by
    refine Nat.le_trans ?_ hl
    rw[hd];simp only[KD,List.flatMap_append,List.flatMap_cons,List.length_append];omega
   have hll:(DZ r).length=r.length+1:=by simp[DZ]
   have HIX:=AA hix
   have HLL:=AA hll
   have HLEN:=AA hlen
   have HD:=AA hd
   have HJ:=AA hj
   obtain⟨T,hT⟩:∃T,DZ r++KD s=T:=⟨_,rfl⟩
   rw[hT]at hc' hix hlen
   have hpos:0<T.length:=by rw[←hT,List.length_append,hll];omega
   have hin:r.length+1≤T.length:=by rw[←hT,List.length_append,hll];omega
   have hst:(⟨T.toArray⟩:ByteArray).size=T.length:=by simp[ByteArray.size]
   have hwr:IntKind.i64.wrap ((r.length:Int)+1)=(r.length:Int)+1:=IntWalk.i64_in _ (by omega)
   have hge:(0:Int)≤(r.length:Int):=by omega
   have hge1:(0:Int)≤(r.length:Int)+1:=by omega
   have hto:((r.length:Int)+1).toNat=r.length+1:=by omega
   clear hc hd hj hl hll
   gi_wp2_with (refine⟨trivial,?_⟩;gi_at_call 168;refine(callsIn_wide.2 (Tryz.strings_IndexByte _ _ _)).mono ?_;rintro e w1 ⟨rfl,rfl⟩)
   obtain⟨hx1,hx2⟩:=QB7 r (KD s) T hT
   have hmx:Tryz.prog.follows .mixedOrders=true:=by kernel_rfl
   gi_region_with_o (fail)
   all_goals
    have HJ2:=AA (hMv _ _ _ _ HJ.out (QB6 (hI _ _ (hJI _ _ HJ.out)) (s:=s)))
    generalize(w1.setCell ⟨B,0,none⟩ (.string ⟨(KD s).toArray⟩)).drew=w2 at *
    obtain⟨fn,tmps,assign,body,hy,hR⟩:=hY (s,d) r (s,d++[r]) w2 HJ2.out ⟨rfl,HD.out⟩
    have HJI:=AA hJI
    have HI:=AA hI
    have HLF:=AA (left_at hc')
    clear hJI hI hMv hc' hf hY
    gi_wp2
    refine hR.mono ?_
    rintro e W3 ⟨rfl,hJ3⟩
    have HJ3:=AA hJ3
    clear hJ3
    gi_wp2
    go_roundw
    case rel=>exact⟨s,d++[r],by rw[HD.out];simp,HJ3.out⟩
    case measure=>
     rw[HLF.out,left_at (HI.out _ _ (HJI.out _ _ HJ3.out)).cell,←hT]
     simp[DZ]
     omega
set_option maxRecDepth 100000 in
set_option maxHeartbeats 4000000 in
theorem lines_any (u:ByteArray) (w:World):Calls Tryz.prog 117 #[.string u] w (fun e w'=>e=.returned (.func (.func 167) #[] #[.pointer (some ⟨w.heap.size,0,none⟩)])∧w'=w.alloc (.cells #[.string u] 9)):=by
 go_enter Tryz.func117,Tryz.ntmps117
 go_wp2_with fail
 go_ret
 exact⟨rfl,rfl⟩
end Go.Proofs.YthfkpalfopdmhaaGreatDoor
namespace Go.Proofs.YthfkpalfopdmhaaGreatDoor
open Go.RowKit
theorem Z1 {K:List Sv} {i j:Nat} {x:Sv} (h:K[i]?=some x) (hj:j<9):(CC K)[i*9+j]?=(Be x)[j]?:=by
 obtain⟨hi,rfl⟩:=List.getElem?_eq_some_iff.1 h
 have e:K=K.take i++([K[i]]++K.drop (i+1)):=by
  rw[List.singleton_append,←List.drop_eq_getElem_cons hi,List.take_append_drop]
 have hl:(CC (K.take i)).length=i*9:=by rw[J3,List.length_take,Nat.min_eq_left (by omega)]
 have e1:CC [K[i]]=Be K[i]:=by simp[CC]
 have hx:(Be K[i]).length=9:=rfl
 conv=>lhs;rw[e,E6,E6,e1]
 rw[List.getElem?_append_right (by omega),hl,Nat.add_sub_cancel_left,List.getElem?_append_left (by omega)]
theorem FR.read {w:World} {B:Nat} {v:Value} {M:List Stm} (h:FR w B v M):BI w v M:=by
 obtain⟨K,hM,⟨hl,hr⟩,hrd⟩:=h
 have hlen:M.length=K.length:=by rw[←hM,List.length_map]
 rcases hr with⟨rfl,h0⟩|⟨g,cap,cur,rfl,hB,hh,hc,hm,hs,ht⟩
 ·have:M=[]:=List.eq_nil_of_length_eq_zero (by omega)
  subst this
  exact V9 w
 ·refine⟨some ⟨g,0,none⟩,cap,by rw[hlen],by rw[hlen];exact hc,hm,fun i t hi=>?_⟩
  rw[←hM,List.getElem?_map]at hi
  cases hK:K[i]? with
  |none=>rw[hK]at hi;cases hi
  |some x=>
   rw[hK]at hi
   obtain rfl:x.s=t:=Option.some.inj hi
   obtain⟨r1,r2⟩:=hrd x (List.mem_of_getElem? hK)
   obtain⟨AE,cE,hvE,q1⟩:=r1.rd
   obtain⟨AF,cF,hvF,q2⟩:=r2.rd
   have hiK:=(List.getElem?_eq_some_iff.1 hK).1
   have hc9:∀j u,j<9→(Be x)[j]?=some u→w.cell? ⟨g,0+i*9+j,none⟩=some u:=by
    intro j u hj hu
    rw[Nat.zero_add,Lib.cell_of_heap hh]
    have h1:=Z1 hK hj
    rw[hu,←ht,List.getElem?_take,if_pos (by have:=Nat.mul_le_mul_right 9 hiK;omega),Array.getElem?_toList]at h1
    exact h1
   refine⟨g,0,AE,x.s.e.length,cE,AF,x.s.f.length,cF,rfl,(Array.getElem?_eq_some_iff.1 hh).1,hc9 0 _ (by omega) rfl,hc9 1 _ (by omega) rfl,hc9 2 _ (by omega) rfl,?_,?_,hc9 5 _ (by omega) rfl,hc9 6 _ (by omega) rfl,hc9 7 _ (by omega) rfl,hc9 8 _ (by omega) rfl,?_,?_⟩
   ·rw[←hvE];exact hc9 3 _ (by omega) rfl
   ·rw[←hvF];exact hc9 4 _ (by omega) rfl
   ·rw[←hvE];exact r1.rd
   ·rw[←hvF];exact r2.rd
theorem FR.form {w:World} {B:Nat} {v:Value} {M:List Stm} {n:Nat} (h:FR w B v M) (hn:M.length=n+1):∃g cap,v=.slice (some ⟨g,0,none⟩) (n+1) cap∧n+1≤cap∧cap≤9223372036854775807:=by
 obtain⟨K,hM,⟨hl,hr⟩,hrd⟩:=h
 have hlen:M.length=K.length:=by rw[←hM,List.length_map]
 rcases hr with⟨rfl,h0⟩|⟨g,cap,cur,rfl,hB,hh,hc,hm,hs,ht⟩
 ·omega
 ·unfold maxLen at hm
  exact⟨g,cap,by rw[←hlen,hn],by omega,by omega⟩
set_option maxRecDepth 100000 in
set_option maxHeartbeats 2000000 in
theorem QDy {F:Nat} (eg:Enters F) {q:Bool} {bx:Nat} {w:World} {x:(List UInt8)} (hbx:w.cell? ⟨bx,0,none⟩=some (.func (.func F) #[] #[])) (_hl:bx<w.heap.size)
  (hF:∀w',Below w.heap.size w w'→Calls Tryz.prog F #[.string ⟨x.toArray⟩] w' (AN q w')):Calls Tryz.prog 196 #[.string ⟨x.toArray⟩,.pointer (some ⟨bx,0,none⟩)] w (AN (!q) w):=by
 unfold Enters at eg
 have HF:=AA hF
 clear hF
 go_enter Tryz.func196,Tryz.ntmps196
 go_wp2_with fail
 refine(HF.out _ (Below.refl _ _)).mono ?_
 rintro e w1 ⟨rfl,hb⟩
 have HB:=AA hb
 clear hb
 go_wp2_with fail
 go_ret
 exact⟨rfl,HB.out⟩
set_option maxRecDepth 100000 in
set_option maxHeartbeats 2000000 in
theorem QDz {F:Nat} (eg:Enters F) {p:List UInt8→Bool} {L:List (List UInt8)} {v:Value} {w:World} {B bx:Nat} (h:C9 w B v L) (hl:L.length≤100000) (hbx:w.cell? ⟨bx,0,none⟩=some (.func (.func F) #[] #[])) (hlb:bx<w.heap.size)
  (hF:∀x∈L,∀w',Below w.heap.size w w'→Calls Tryz.prog F #[.string ⟨x.toArray⟩] w' (AN (p (x)) w')):Calls Tryz.prog 223 #[v,.func (.func 196) #[] #[.pointer (some ⟨bx,0,none⟩)]] w (QQ (!L.all (fun x=>p (x))) w):=by
 have HF:=AA hF
 have HO:=AA h
 have HG:=AA eg
 have HX:=AA hbx
 obtain⟨A,c,hv,hc,hm,hr⟩:=h.reads
 subst hv
 clear hr hF eg hbx
 go_enter Tryz.func223,Tryz.ntmps223
 go_wp2_with fail
 go_loopw [8] (fun i wr=>∃k:Nat,k≤L.length∧i=.int .i64 k∧(L.take k).all (fun x=>p (x))=true∧Below w.heap.size w wr) (fun i _=>L.length-(intOf i).toNat)
 case atStart=>exact⟨0,Nat.zero_le _,rfl,rfl,Below.refl _ _⟩
 case round=>
  obtain⟨k,hk,rfl,ha,hb⟩:=hrel
  have HA:=AA ha
  have HB:=AA hb
  clear ha
  by_cases hlt:k<L.length
  ·have hat:L[k]?=some L[k]:=List.getElem?_eq_getElem hlt
   have hin:=List.getElem_mem hlt
   generalize L[k]=a at *
   obtain⟨A',c',hv',_,_,hr'⟩:=(HO.out.on hb).reads
   obtain⟨rfl,_,rfl⟩:A=A'∧True∧c=c':=by simpa using hv'
   obtain⟨g,rfl,hgB,hg,x0⟩:=hr' k a hat
   clear hr' hv' hgB
   have HC:Hid (Calls Tryz.prog 196 #[.string ⟨a.toArray⟩,.pointer (some ⟨bx,0,none⟩)] wr (AN (!p (a)) wr)):=AA (QDy HG.out ((hb.cell (p:=⟨bx,0,none⟩) hlb).trans HX.out) (by have:=hb.size;omega) (fun w' h'=>HF.out a hin w' (AC hb h')))
   clear hb
   cases hw:p (a)with
   |true=>
    have HN:=AA (QO (p:=fun x=>p (x)) hat HA.out hw)
    have HW:=AA hw
    clear hat hw
    go_wp2_with fail
    refine HC.out.mono ?_
    rw[HW.out]
    rintro e w1 ⟨rfl,hb⟩
    have HB2:=AA (AC HB.out hb)
    clear hb
    go_wp2_with fail
    go_roundw
    case rel=>exact⟨k+1,by omega,by go_num,HN.out,HB2.out⟩
    case measure=>simp[intOf];omega
   |false=>
    have HN:=AA (QP (p:=fun x=>p (x)) hat hw)
    have HW:=AA hw
    clear hat hw
    go_wp2_with fail
    refine HC.out.mono ?_
    rw[HW.out]
    rintro e w1 ⟨rfl,hb⟩
    have HB2:=AA (AC HB.out hb)
    clear hb
    go_wp2_with fail
    go_ret
    exact⟨k,rfl,by rw[HN.out];simp,HB2.out⟩
  ·go_wp2_with fail
   go_ret
   have h1:=HA.out
   rw[List.take_of_length_le (by omega)]at h1
   exact⟨-1,rfl,by rw[h1];rfl,HB.out⟩
set_option maxRecDepth 100000 in
set_option maxHeartbeats 2000000 in
theorem QCD {F:Nat} (eg:Enters F) {p:List UInt8→Bool} {L:List (List UInt8)} {v:Value} {w:World} {B bx:Nat} (h:C9 w B v L) (hl:L.length≤100000) (hbx:w.cell? ⟨bx,0,none⟩=some (.func (.func F) #[] #[])) (hlb:bx<w.heap.size)
  (hF:∀x∈L,∀w',Below w.heap.size w w'→Calls Tryz.prog F #[.string ⟨x.toArray⟩] w' (AN (p (x)) w')):Calls Tryz.prog 195 #[v,.func (.func 196) #[] #[.pointer (some ⟨bx,0,none⟩)]] w (AN (!L.all (fun x=>p (x))) w):=by
 have HI:=AA (QDz eg h hl hbx hlb hF)
 clear h hF eg hbx
 go_enter Tryz.func195,Tryz.ntmps195
 go_wp2_with fail
 refine HI.out.mono ?_
 rintro e w1 ⟨n,rfl,hn,hb⟩
 have HB:=AA hb
 have HN:=AA hn
 clear hb hn
 go_wp2_with fail
 go_ret
 exact⟨AH HN.out,HB.out⟩
set_option maxRecDepth 100000 in
set_option maxHeartbeats 2000000 in
theorem QD0 {F:Nat} (eg:Enters F) (p:List UInt8→Bool) {L:List (List UInt8)} {v:Value} {w:World} {B:Nat} (h:C9 w B v L) (hl:L.length≤100000)
  (hF:∀x∈L,∀w',Below w.heap.size w w'→Calls Tryz.prog F #[.string ⟨x.toArray⟩] w' (AN (p (x)) w')):Calls Tryz.prog 154 #[v,.func (.func F) #[] #[]] w (AN (L.all (fun x=>p (x))) w):=by
 have HB0:Hid (Below w.heap.size w (w.alloc (.cells #[.func (.func F) #[] #[]] 33))):=AA ((Below.refl _ _).alloc (Nat.le_refl _) _)
 have HI:Hid (Calls Tryz.prog 195 #[v,.func (.func 196) #[] #[.pointer (some ⟨w.heap.size,0,none⟩)]] (w.alloc (.cells #[.func (.func F) #[] #[]] 33)) (AN (!L.all (fun x=>p (x))) (w.alloc (.cells #[.func (.func F) #[] #[]] 33)))):=
  AA (QCD eg (h.on HB0.out) hl (by simp) (by simp) (fun x hx w' h'=>hF x hx w' (AC HB0.out h')))
 clear h hF eg
 go_enter Tryz.func154,Tryz.ntmps154
 go_wp2_with fail
 refine HI.out.mono ?_
 rintro e w1 ⟨rfl,hb⟩
 have HB:=AA (AC HB0.out hb)
 clear hb
 go_wp2_with fail
 go_ret
 exact⟨AH (by simp),HB.out⟩
theorem BH {P:Nat→Prop} {w w':World} {p:Addr} {u:Value} (h:AG P w w') (hP:P p.block):AG P w (w'.setCell p u):=
 h.trans (Q:=fun q=>q=p.block) ⟨rfl,rfl,rfl,by simp[World.setCell],fun k _ hk=>Below.heap_setCell _ _ _ _ hk⟩ (fun _ _ h=>h) (fun k _ e=>e▸hP)
theorem As {w:World} {B T j:Nat} {cs:Array Value} {v:Value} (h:w.heap[B]?=some (.cells cs T (0,0))):(w.setCell ⟨B,j,none⟩ v).heap[B]?=some (.cells (cs.setIfInBounds j v) T (0,0)):=by
 obtain⟨hlt,hk⟩:=Array.getElem?_eq_some_iff.1 h
 show(w.heap.modify B _)[B]?=_
 rw[Array.getElem?_eq_getElem (by rw[Array.size_modify];exact hlt),Array.getElem_modify_self,hk]
 rfl
theorem CZ {w:World} {B C j:Nat} {v:Value} {o:Obj} (h:w.heap[B]?=some o) (hn:B≠C):(w.setCell ⟨C,j,none⟩ v).heap[B]?=some o:=by
 rw[Below.heap_setCell w ⟨C,j,none⟩ v B hn];exact h
theorem QCK {w:World} {d T:Nat} {a0 a1 a2 a3 a4 a5 a6 a7 a8:Value} (h:w.heap[d]?=some (.cells #[a0,a1,a2,a3,a4,a5,a6,a7,a8] T (0,0))) (u0 u1 u2 u3 u4 u5 u6 u7 u8:Value):((((((((((w.setCell ⟨d,0,none⟩ u0).setCell ⟨d,1,none⟩ u1).setCell ⟨d,2,none⟩ u2).setCell ⟨d,3,none⟩ u3).setCell ⟨d,4,none⟩ u4).setCell ⟨d,5,none⟩ u5).setCell ⟨d,6,none⟩ u6).setCell ⟨d,7,none⟩ u7).setCell ⟨d,8,none⟩ u8)).heap[d]?=some (.cells #[u0,u1,u2,u3,u4,u5,u6,u7,u8] T (0,0)):=by
 have h0:(w.setCell ⟨d,0,none⟩ u0).heap[d]?=some (.cells #[u0,a1,a2,a3,a4,a5,a6,a7,a8] T (0,0)):=As h
 have h1:((w.setCell ⟨d,0,none⟩ u0).setCell ⟨d,1,none⟩ u1).heap[d]?=some (.cells #[u0,u1,a2,a3,a4,a5,a6,a7,a8] T (0,0)):=As h0
 have h2:(((w.setCell ⟨d,0,none⟩ u0).setCell ⟨d,1,none⟩ u1).setCell ⟨d,2,none⟩ u2).heap[d]?=some (.cells #[u0,u1,u2,a3,a4,a5,a6,a7,a8] T (0,0)):=As h1
 have h3:((((w.setCell ⟨d,0,none⟩ u0).setCell ⟨d,1,none⟩ u1).setCell ⟨d,2,none⟩ u2).setCell ⟨d,3,none⟩ u3).heap[d]?=some (.cells #[u0,u1,u2,u3,a4,a5,a6,a7,a8] T (0,0)):=As h2
 have h4:(((((w.setCell ⟨d,0,none⟩ u0).setCell ⟨d,1,none⟩ u1).setCell ⟨d,2,none⟩ u2).setCell ⟨d,3,none⟩ u3).setCell ⟨d,4,none⟩ u4).heap[d]?=some (.cells #[u0,u1,u2,u3,u4,a5,a6,a7,a8] T (0,0)):=As h3
 have h5:((((((w.setCell ⟨d,0,none⟩ u0).setCell ⟨d,1,none⟩ u1).setCell ⟨d,2,none⟩ u2).setCell ⟨d,3,none⟩ u3).setCell ⟨d,4,none⟩ u4).setCell ⟨d,5,none⟩ u5).heap[d]?=some (.cells #[u0,u1,u2,u3,u4,u5,a6,a7,a8] T (0,0)):=As h4
 have h6:(((((((w.setCell ⟨d,0,none⟩ u0).setCell ⟨d,1,none⟩ u1).setCell ⟨d,2,none⟩ u2).setCell ⟨d,3,none⟩ u3).setCell ⟨d,4,none⟩ u4).setCell ⟨d,5,none⟩ u5).setCell ⟨d,6,none⟩ u6).heap[d]?=some (.cells #[u0,u1,u2,u3,u4,u5,u6,a7,a8] T (0,0)):=As h5
 have h7:((((((((w.setCell ⟨d,0,none⟩ u0).setCell ⟨d,1,none⟩ u1).setCell ⟨d,2,none⟩ u2).setCell ⟨d,3,none⟩ u3).setCell ⟨d,4,none⟩ u4).setCell ⟨d,5,none⟩ u5).setCell ⟨d,6,none⟩ u6).setCell ⟨d,7,none⟩ u7).heap[d]?=some (.cells #[u0,u1,u2,u3,u4,u5,u6,u7,a8] T (0,0)):=As h6
 have h8:(((((((((w.setCell ⟨d,0,none⟩ u0).setCell ⟨d,1,none⟩ u1).setCell ⟨d,2,none⟩ u2).setCell ⟨d,3,none⟩ u3).setCell ⟨d,4,none⟩ u4).setCell ⟨d,5,none⟩ u5).setCell ⟨d,6,none⟩ u6).setCell ⟨d,7,none⟩ u7).setCell ⟨d,8,none⟩ u8).heap[d]?=some (.cells #[u0,u1,u2,u3,u4,u5,u6,u7,u8] T (0,0)):=As h7
 exact h8
theorem QD7 {w:World} {d T:Nat} {a0 a1 a2 a3 a4 a5 a6 a7 a8:Value} (h:w.heap[d]?=some (.cells #[a0,a1,a2,a3,a4,a5,a6,a7,a8] T (0,0))) (u v:Value):((w.setCell ⟨d,3,none⟩ u).setCell ⟨d,4,none⟩ v).heap[d]?=some (.cells #[a0,a1,a2,u,v,a5,a6,a7,a8] T (0,0)):=by
 have h1:(w.setCell ⟨d,3,none⟩ u).heap[d]?=some (.cells #[a0,a1,a2,u,a4,a5,a6,a7,a8] T (0,0)):=As h
 exact As h1
theorem Z5 {b d:Nat} (w:World) (v u0 u1 u2 u3 u4 u5 u6 u7 u8:Value):AG (fun q=>q=b∨q=d) w ((((((((((w.setCell ⟨b,8,none⟩ v).setCell ⟨d,0,none⟩ u0).setCell ⟨d,1,none⟩ u1).setCell ⟨d,2,none⟩ u2).setCell ⟨d,3,none⟩ u3).setCell ⟨d,4,none⟩ u4).setCell ⟨d,5,none⟩ u5).setCell ⟨d,6,none⟩ u6).setCell ⟨d,7,none⟩ u7).setCell ⟨d,8,none⟩ u8):=(BH (BH (BH (BH (BH (BH (BH (BH (BH (BH (AG.refl _ _) (.inl rfl)) (.inr rfl)) (.inr rfl)) (.inr rfl)) (.inr rfl)) (.inr rfl)) (.inr rfl)) (.inr rfl)) (.inr rfl)) (.inr rfl))
def Z6 (x:Stm) (w:World) (e:Ending) (w':World):Prop:=∃u1 u2,e=.returned (Qp (bareS x) u1 u2)∧CE w' w.heap.size u1 (x.e.map bareN)∧CE w' w.heap.size u2 (x.f.map bareN)∧Below w.heap.size w w'
def VV (k:Int) (reg name:List UInt8) (e f:List Nod) (n body els pl:Int) (b d BY:Nat) (w wx:World):Prop:=∃A1 c1 A2 c2,wx.heap[b]?=some (.cells #[.int .i64 k,.string ⟨reg.toArray⟩,.string ⟨name.toArray⟩,.slice A1 e.length c1,.slice A2 f.length c2,.int .i64 n,.int .i64 body,.int .i64 els,.int .i64 pl] 44 (0,0))∧wx.heap[d]?=some (.cells #[.int .i64 0,.string ⟨#[]⟩,.string ⟨#[]⟩,.slice none 0 0,.slice none 0 0,.int .i64 0,.int .i64 0,.int .i64 0,.int .i64 0] 44 (0,0))∧CE wx BY (.slice A1 e.length c1) (e.map bareN)∧CE wx BY (.slice A2 f.length c2) (f.map bareN)∧Below w.heap.size w wx
theorem VV.drew {k:Int} {reg name:List UInt8} {e f:List Nod} {n body els pl:Int} {b d BY:Nat} {w wx:World} (h:VV k reg name e f n body els pl b d BY w wx):VV k reg name e f n body els pl b d BY w wx.drew:=by
 obtain⟨A1,c1,A2,c2,h1,h2,h3,h4,h5⟩:=h
 exact⟨A1,c1,A2,c2,h1,h2,h3.on (AD _),h4.on (AD _),AC h5 (AD _)⟩
set_option maxRecDepth 100000 in
set_option maxHeartbeats 8000000 in
theorem QFJ (x:Stm) {vE vF:Value} {w:World} (hE:BA w vE x.e) (hF:BA w vF x.f) (hl:x.e.length≤10000) (hl2:x.f.length≤10000):Calls Tryz.prog 97 #[Qp x vE vF] w (Z6 x w):=by
 obtain⟨k,reg,name,e,f,n,body,els,pl⟩:=x
 obtain⟨AE,cE,rfl,_⟩:=id hE
 obtain⟨AF,cF,rfl,_⟩:=id hF
 simp only at *
 have HL:=AA (And.intro hl hl2)
 clear hl hl2
 unfold Qp
 simp only
 have HB1:=AA ((Below.refl w.heap.size w).alloc (Nat.le_refl _) (.cells #[.int .i64 k,.string ⟨reg.toArray⟩,.string ⟨name.toArray⟩,.slice AE e.length cE,.slice AF f.length cF,.int .i64 n,.int .i64 body,.int .i64 els,.int .i64 pl] 44))
 have N1:=AA (heap_alloc_new w (.cells #[.int .i64 k,.string ⟨reg.toArray⟩,.string ⟨name.toArray⟩,.slice AE e.length cE,.slice AF f.length cF,.int .i64 n,.int .i64 body,.int .i64 els,.int .i64 pl] 44))
 go_enter Tryz.func97,Tryz.ntmps97
 go_upto_region 1 with(fail)
 obtain⟨b,hb⟩:∃b,w.heap.size=b:=⟨_,rfl⟩
 have hz:w.heap.size+1=(w.alloc (.cells #[.int .i64 k,.string ⟨reg.toArray⟩,.string ⟨name.toArray⟩,.slice AE e.length cE,.slice AF f.length cF,.int .i64 n,.int .i64 body,.int .i64 els,.int .i64 pl] 44)).heap.size:=by simp
 rw[hz]
 rw[hb]at N1⊢
 generalize w.alloc (.cells #[.int .i64 k,.string ⟨reg.toArray⟩,.string ⟨name.toArray⟩,.slice AE e.length cE,.slice AF f.length cF,.int .i64 n,.int .i64 body,.int .i64 els,.int .i64 pl] 44)=X at *
 have HN1X:=AA N1.out
 have HB2:=AA ((Below.refl X.heap.size X).alloc (Nat.le_refl _) (.cells #[.int .i64 0,.string ⟨#[]⟩,.string ⟨#[]⟩,.slice none 0 0,.slice none 0 0,.int .i64 0,.int .i64 0,.int .i64 0,.int .i64 0] 44))
 have N2:=AA (heap_alloc_new X (.cells #[.int .i64 0,.string ⟨#[]⟩,.string ⟨#[]⟩,.slice none 0 0,.slice none 0 0,.int .i64 0,.int .i64 0,.int .i64 0,.int .i64 0] 44))
 have N1':=AA ((HB2.out.block b (Array.getElem?_eq_some_iff.1 N1.out).1).trans N1.out)
 generalize X.alloc (.cells #[.int .i64 0,.string ⟨#[]⟩,.string ⟨#[]⟩,.slice none 0 0,.slice none 0 0,.int .i64 0,.int .i64 0,.int .i64 0,.int .i64 0] 44)=Y at *
 have HB:=AA (AC HB1.out HB2.out)
 have HEat:=AA (fun w' (h':Below Y.heap.size Y w')=>Tu ((hE.on HB.out).on h') HL.out.1)
 have HFat:=AA (fun w' (h':Below Y.heap.size Y w')=>Tu ((hF.on HB.out).on h') HL.out.2)
 have z3:Y.cell? ⟨b,3,none⟩=some (.slice AE e.length cE):=by rw[Lib.cell_of_heap N1'.out];rfl
 have z4:Y.cell? ⟨b,4,none⟩=some (.slice AF f.length cF):=by rw[Lib.cell_of_heap N1'.out];rfl
 have hlt:=(Array.getElem?_eq_some_iff.1 N1'.out).1
 have HLW:=AA (show w.heap.size≤b∧w.heap.size≤X.heap.size from⟨by omega,by omega⟩)
 clear N1 HB1 HB2 hz hE hF
 obtain⟨d,hd⟩:∃d,X.heap.size=d:=⟨_,rfl⟩
 rw[hd]at N2⊢
 have hne:b≠d:=by have:=(Array.getElem?_eq_some_iff.1 HN1X.out).1;omega
 have hlt1:=(Array.getElem?_eq_some_iff.1 N2.out).1
 have HLOW:Hid (w.heap.size≤b∧w.heap.size≤d):=AA (by have:=HLW.out;omega)
 go_cut []from 3 to 10 (fun wx=>VV k reg name e f n body els pl b d Y.heap.size w wx)
 case first=>
  go_region_with (first|(go_at_call 98;first
   |(refine(HEat.out _ (by first|exact Below.refl _ _|exact AD _)).mono ?_;rintro e1 w1 ⟨u1,rfl,ho1,hb1⟩;have hx1:=(hb1.block b hlt).trans N1'.out;have y4:w1.cell? ⟨b,4,none⟩=some (.slice AF f.length cF):=(by rw[Lib.cell_of_heap hx1];rfl);obtain⟨A1,c1,hv1, -, -, -⟩:=AX ho1;subst hv1)
   |(refine(HFat.out _ (by first|exact AC (AD _) hb1|exact AC (AC (AD _) hb1) (AD _))).mono ?_;rintro e2 w2 ⟨u2,rfl,ho2,hb2⟩;have hx2:=(hb2.block b (Array.getElem?_eq_some_iff.1 hx1).1).trans hx1;have hlt2:=(Array.getElem?_eq_some_iff.1 hx2).1;have x3:w2.cell? ⟨b,3,none⟩=some (.slice AE e.length cE):=(by rw[Lib.cell_of_heap hx2];rfl);have x4:w2.cell? ⟨b,4,none⟩=some (.slice AF f.length cF):=(by rw[Lib.cell_of_heap hx2];rfl);have f3:=Lib.frozen_of_heap hx2 3;have f4:=Lib.frozen_of_heap hx2 4;obtain⟨A2,c2,hv2, -, -, -⟩:=AX ho2;subst hv2)))
  all_goals
   have hd1:=(hb1.block d hlt1).trans N2.out
   have hd2:=(hb2.block d (Array.getElem?_eq_some_iff.1 hd1).1).trans hd1
   have hm1:(e.map bareN).length=e.length:=List.length_map _
   have hm2:(f.map bareN).length=f.length:=List.length_map _
   rw[hm1]at ho1
   rw[hm2]at ho2
   have HO1:CE w2 Y.heap.size (.slice A1 e.length c1) (e.map bareN):=by first|exact ho1.on hb2|exact(ho1.on (AD _)).on hb2
   have HO2:CE w2 Y.heap.size (.slice A2 f.length c2) (f.map bareN):=ho2.base (by have:=hb1.size;first|exact this|(simp;exact this))
   have HY2:Below Y.heap.size Y w2:=AC (by first|exact hb1|exact AC (AD _) hb1) (by first|exact hb2|exact AC (AD _) hb2)
   have hbY:=(Array.getElem?_eq_some_iff.1 N1'.out).1
   have hZ:((w2.setCell ⟨b,3,none⟩ (.slice A1 e.length c1)).setCell ⟨b,4,none⟩ (.slice A2 f.length c2)).heap[b]?=some (.cells #[.int .i64 k,.string ⟨reg.toArray⟩,.string ⟨name.toArray⟩,.slice A1 e.length c1,.slice A2 f.length c2,.int .i64 n,.int .i64 body,.int .i64 els,.int .i64 pl] 44 (0,0)):=QD7 hx2 _ _
   have hzd:((w2.setCell ⟨b,3,none⟩ (.slice A1 e.length c1)).setCell ⟨b,4,none⟩ (.slice A2 f.length c2)).heap[d]?=some (.cells #[.int .i64 0,.string ⟨#[]⟩,.string ⟨#[]⟩,.slice none 0 0,.slice none 0 0,.int .i64 0,.int .i64 0,.int .i64 0,.int .i64 0] 44 (0,0)):=CZ (CZ hd2 (fun h=>hne h.symm)) (fun h=>hne h.symm)
   have HKZ:AG (fun q=>q=b) w2 ((w2.setCell ⟨b,3,none⟩ (.slice A1 e.length c1)).setCell ⟨b,4,none⟩ (.slice A2 f.length c2)):=BH (BH (AG.refl _ _) rfl) rfl
   have HOZ1:=AW HO1 HKZ (fun q hq h=>by have:=(AM HO1 q hq).1;omega)
   have HOZ2:=AW HO2 HKZ (fun q hq h=>by have:=(AM HO2 q hq).1;omega)
   have HBZ:=(AC HB.out HY2).trans (HKZ.below (B:=w.heap.size) (fun k hk h=>by omega) (AC HB.out HY2).size)
   have HR:=AA (show VV k reg name e f n body els pl b d Y.heap.size w ((w2.setCell ⟨b,3,none⟩ (.slice A1 e.length c1)).setCell ⟨b,4,none⟩ (.slice A2 f.length c2))from⟨A1,c1,A2,c2,hZ,hzd,HOZ1,HOZ2,HBZ⟩)
   clear hZ hzd HKZ HOZ1 HOZ2 HBZ HY2 HO1 HO2 hx1 hx2 hd1 hd2 ho1 ho2 hb1 hb2
   go_wp2_with fail
   go_meet
   case rel=>first|exact HR.out|exact HR.out.drew
 case rest=>
  obtain⟨A1,c1,A2,c2,hZ,hzd,ho1,ho2,hbz⟩:=hcut
  generalize wc=Z at *
  have HO1Z:=AA ho1
  have HO2Z:=AA ho2
  have HBZ:=AA hbz
  have hYb:b<Y.heap.size∧d<Y.heap.size:=⟨hlt,hlt1⟩
  have HYB:=AA hYb
  have z0:Z.cell? ⟨b,0,none⟩=some (.int .i64 k):=by rw[Lib.cell_of_heap hZ];rfl
  have z1:Z.cell? ⟨b,1,none⟩=some (.string ⟨reg.toArray⟩):=by rw[Lib.cell_of_heap hZ];rfl
  have z2:Z.cell? ⟨b,2,none⟩=some (.string ⟨name.toArray⟩):=by rw[Lib.cell_of_heap hZ];rfl
  have z3:Z.cell? ⟨b,3,none⟩=some (.slice A1 e.length c1):=by rw[Lib.cell_of_heap hZ];rfl
  have z4:Z.cell? ⟨b,4,none⟩=some (.slice A2 f.length c2):=by rw[Lib.cell_of_heap hZ];rfl
  have z5:Z.cell? ⟨b,5,none⟩=some (.int .i64 n):=by rw[Lib.cell_of_heap hZ];rfl
  have z6:Z.cell? ⟨b,6,none⟩=some (.int .i64 body):=by rw[Lib.cell_of_heap hZ];rfl
  have z7:Z.cell? ⟨b,7,none⟩=some (.int .i64 els):=by rw[Lib.cell_of_heap hZ];rfl
  have z8:Z.cell? ⟨b,8,none⟩=some (.int .i64 pl):=by rw[Lib.cell_of_heap hZ];rfl
  have f8:=Lib.frozen_of_heap hZ 8
  have y0:Z.cell? ⟨d,0,none⟩=some (.int .i64 0):=by rw[Lib.cell_of_heap hzd];rfl
  have k0:=Lib.frozen_of_heap hzd 0
  have y1:Z.cell? ⟨d,1,none⟩=some (.string ⟨#[]⟩):=by rw[Lib.cell_of_heap hzd];rfl
  have k1:=Lib.frozen_of_heap hzd 1
  have y2:Z.cell? ⟨d,2,none⟩=some (.string ⟨#[]⟩):=by rw[Lib.cell_of_heap hzd];rfl
  have k2:=Lib.frozen_of_heap hzd 2
  have y3:Z.cell? ⟨d,3,none⟩=some (.slice none 0 0):=by rw[Lib.cell_of_heap hzd];rfl
  have k3:=Lib.frozen_of_heap hzd 3
  have y4:Z.cell? ⟨d,4,none⟩=some (.slice none 0 0):=by rw[Lib.cell_of_heap hzd];rfl
  have k4:=Lib.frozen_of_heap hzd 4
  have y5:Z.cell? ⟨d,5,none⟩=some (.int .i64 0):=by rw[Lib.cell_of_heap hzd];rfl
  have k5:=Lib.frozen_of_heap hzd 5
  have y6:Z.cell? ⟨d,6,none⟩=some (.int .i64 0):=by rw[Lib.cell_of_heap hzd];rfl
  have k6:=Lib.frozen_of_heap hzd 6
  have y7:Z.cell? ⟨d,7,none⟩=some (.int .i64 0):=by rw[Lib.cell_of_heap hzd];rfl
  have k7:=Lib.frozen_of_heap hzd 7
  have y8:Z.cell? ⟨d,8,none⟩=some (.int .i64 0):=by rw[Lib.cell_of_heap hzd];rfl
  have k8:=Lib.frozen_of_heap hzd 8
  have HF:=AA (QCK (CZ (j:=8) (v:=.int .i64 0) hzd (fun h=>hne h.symm)) (.int .i64 k) (.string ⟨reg.toArray⟩) (.string ⟨name.toArray⟩) (.slice A1 e.length c1) (.slice A2 f.length c2) (.int .i64 n) (.int .i64 body) (.int .i64 els) (.int .i64 0))
  have HKF:=AA (Z5 (b:=b) (d:=d) Z (.int .i64 0) (.int .i64 k) (.string ⟨reg.toArray⟩) (.string ⟨name.toArray⟩) (.slice A1 e.length c1) (.slice A2 f.length c2) (.int .i64 n) (.int .i64 body) (.int .i64 els) (.int .i64 0))
  clear hZ hzd ho1 ho2 hbz hYb N2 N1' HEat HFat hlt hlt1
  go_wp2_with fail
  generalize(((((((((Z.setCell ⟨b,8,none⟩ (.int .i64 0)).setCell ⟨d,0,none⟩ (.int .i64 k)).setCell ⟨d,1,none⟩ (.string ⟨reg.toArray⟩)).setCell ⟨d,2,none⟩ (.string ⟨name.toArray⟩)).setCell ⟨d,3,none⟩ (.slice A1 e.length c1)).setCell ⟨d,4,none⟩ (.slice A2 f.length c2)).setCell ⟨d,5,none⟩ (.int .i64 n)).setCell ⟨d,6,none⟩ (.int .i64 body)).setCell ⟨d,7,none⟩ (.int .i64 els)).setCell ⟨d,8,none⟩ (.int .i64 0)=V at *
  have v0:V.cell? ⟨d,0,none⟩=some (.int .i64 k):=by rw[Lib.cell_of_heap HF.out];rfl
  have v1:V.cell? ⟨d,1,none⟩=some (.string ⟨reg.toArray⟩):=by rw[Lib.cell_of_heap HF.out];rfl
  have v2:V.cell? ⟨d,2,none⟩=some (.string ⟨name.toArray⟩):=by rw[Lib.cell_of_heap HF.out];rfl
  have v3:V.cell? ⟨d,3,none⟩=some (.slice A1 e.length c1):=by rw[Lib.cell_of_heap HF.out];rfl
  have v4:V.cell? ⟨d,4,none⟩=some (.slice A2 f.length c2):=by rw[Lib.cell_of_heap HF.out];rfl
  have v5:V.cell? ⟨d,5,none⟩=some (.int .i64 n):=by rw[Lib.cell_of_heap HF.out];rfl
  have v6:V.cell? ⟨d,6,none⟩=some (.int .i64 body):=by rw[Lib.cell_of_heap HF.out];rfl
  have v7:V.cell? ⟨d,7,none⟩=some (.int .i64 els):=by rw[Lib.cell_of_heap HF.out];rfl
  have v8:V.cell? ⟨d,8,none⟩=some (.int .i64 0):=by rw[Lib.cell_of_heap HF.out];rfl
  clear z0 z1 z2 z3 z4 z5 z6 z7 z8 f8 y0 y1 y2 y3 y4 y5 y6 y7 y8 k0 k1 k2 k3 k4 k5 k6 k7 k8
  refine bodyPost_ret (v:=.agg #[.int .i64 k,.string ⟨reg.toArray⟩,.string ⟨name.toArray⟩,.slice A1 e.length c1,.slice A2 f.length c2,.int .i64 n,.int .i64 body,.int .i64 els,.int .i64 0]) (by simp[results,Tryz.results97,go_sem,v0,v1,v2,v3,v4,v5,v6,v7,v8]) rfl ?_
  have hlow:w.heap.size≤b∧w.heap.size≤d:=HLOW.out
  refine⟨.slice A1 e.length c1,.slice A2 f.length c2,rfl,?_,?_,?_⟩
  ·exact CE.base (AW HO1Z.out HKF.out (fun q hq h=>by have:=(AM HO1Z.out q hq).1;have:=HYB.out;omega)) HB.out.size
  ·exact CE.base (AW HO2Z.out HKF.out (fun q hq h=>by have:=(AM HO2Z.out q hq).1;have:=HYB.out;omega)) HB.out.size
  ·exact HBZ.out.trans (HKF.out.below (fun k hk h=>by omega) HBZ.out.size)
set_option maxRecDepth 100000 in
set_option maxHeartbeats 2000000 in
theorem QFL (s:List UInt8) (w:World):Calls Tryz.prog 95 #[.string ⟨s.toArray⟩] w (fun e w'=>e=.returned (.string ⟨s.toArray⟩)∧Below w.heap.size w w'):=by
 go_enter Tryz.func95,Tryz.ntmps95
 go_wp2_with fail
 go_ret
 exact⟨rfl,Below.refl _ _⟩
set_option maxRecDepth 100000 in
set_option maxHeartbeats 8000000 in
theorem QFM {K:List (List UInt8)} {v:Value} {w:World} {B:Nat} (h:C9 w B v K) (hl:K.length≤10000):
  Calls Tryz.prog 94 #[v,.func (.func 95) #[] #[]] w (fun e w'=>∃u,e=.returned u∧C9 w' w.heap.size u K∧Below w.heap.size w w'):=by
 obtain⟨i0,hi0,hz0,hz1,hz2⟩:=info_parts TV
 have HZ:=AA (show Tryz.prog.info? 9=some i0∧i0.zero=some (.string ⟨#[]⟩)∧i0.size=1∧i0.bytes=16 from⟨hi0,hz0,hz1,hz2⟩)
 have HO:=AA h
 obtain⟨A,c,rfl,hc,hm1,hr1⟩:=h.reads
 clear hi0 hz0 hz1 hz2 hr1 h
 go_enter Tryz.func94,Tryz.ntmps94
 go_wp2_with fail
 go_loopw [5,10] (fun all i wr=>∃k:Nat,k≤K.length∧i=.int .i64 k∧Below w.heap.size w wr∧C9 wr w.heap.size all (K.take k)) (fun _ i _=>K.length-(intOf i).toNat)
 case atStart=>exact⟨0,Nat.zero_le _,rfl,Below.refl _ _,Kv _ _⟩
 case round=>
  obtain⟨k,hk,rfl,hbel,hacc⟩:=hrel
  have HB:=AA hbel
  have HA:=AA hacc
  have hsz:=hbel.size
  by_cases hlt:k<K.length
  ·have ha:K[k]?=some K[k]:=List.getElem?_eq_getElem hlt
   generalize K[k]=a at *
   have HT:Hid (K.take (k+1)=K.take k++[a]):=AA (by rw[List.take_add_one,ha];rfl)
   have HN:Hid ((K.take k).length=k):=AA (by simp;omega)
   obtain⟨A2,c2,hv,_,_,hr⟩:=(HO.out.on hbel).reads
   obtain⟨rfl,_,rfl⟩:A=A2∧True∧c=c2:=by simpa using hv
   obtain⟨g,rfl, -,hg,x0⟩:=hr k a ha
   obtain⟨A3,c3,rfl, -, -, -⟩:=hacc.reads
   generalize K.take k=acc at *
   clear ha hr hv hbel hacc
   go_wp2_with fail
   refine(QFL a _).mono ?_
   rintro e w1 ⟨rfl,hb⟩
   have HB1:=AA (AC HB.out hb)
   have HA1:=AA (AW (P:=fun _=>False) HA.out (AG.of (hb)) (fun _ _=>id))
   have hsz1:=HB1.out.size
   have hk1:=hlt
   clear hb
   go_wp2_with (at_builtin;refine wpList_append_own _ rfl (.tmp 14) (.tmp 18) 38 rfl w.heap.size 9 i0 (.string ⟨#[]⟩) 1 16 Tryz.underlying38 HZ.out.1 HZ.out.2.1 HZ.out.2.2.1 HZ.out.2.2.2 rfl (by decide) _ acc.length (acc.map L8) rfl ?dO ⟨w1.heap.size,0,none⟩ 1 1 ([L8 a]) (by rfl) (by rfl) ?d1 ?d2 ?d3 ?d4 ?d5 ?_)
   case dO=>exact AW (P:=fun _=>False) HA1.out (AG.of ((Below.refl w1.heap.size w1).alloc (Nat.le_refl _) _)) (fun _ _=>id)
   case d1=>exact World.news_of_block (cs:=#[L8 a]) (alloc_at rfl)
   case d2=>exact Om _
   case d3=>rw[HN.out];unfold maxLen;omega
   case d4=>rw[HN.out];omega
   case d5=>simp;omega
   intro v5 w5 hown5 hgrow5 _
   have HB5:Hid (Below w.heap.size w w5):=AA ((HB1.out.alloc hsz1 _).grown hgrow5 (by simp;omega) (fun q hq=>(AM HA1.out q hq).1))
   have HA5:Hid (C9 w5 w.heap.size v5 (acc++[a])):=AA (by
    unfold C9
    rw[List.length_append]
    simpa using hown5)
   obtain⟨A5,n5,c5,rfl⟩:∃A n c,v5=.slice A n c:=by
    obtain⟨A,c,hv,_⟩:=AX hown5
    exact⟨A,_,c,hv⟩
   clear hown5 hgrow5
   go_wp2_with fail
   go_roundw
   case rel=>exact⟨k+1,by omega,by go_num,HB5.out,by rw[HT.out];exact HA5.out⟩
   case measure=>simp[intOf];omega
  ·have hkk:K.take k=K:=List.take_of_length_le (by omega)
   rw[hkk]at HA
   clear hbel hacc
   go_wp2_with fail
   go_ret
   exact⟨_,rfl,HA.out,HB.out⟩
end Go.Proofs.YthfkpalfopdmhaaGreatDoor
namespace Go.Proofs.YthfkpalfopdmhaaGreatDoor
open Go
def sumW {α:Type} (wt:α→Nat):List α→Nat
 |[]=>0
 |a::l=>wt a+1+sumW wt l
theorem NV {α:Type} (wt:α→Nat):∀l:List α,l.length≤sumW wt l
 |[]=>Nat.le_refl _
 |a::l=>by have:=NV wt l;simp only[List.length_cons,sumW];omega
theorem Qg {α:Type} (wt:α→Nat):∀(l:List α),∀a∈l,wt a≤sumW wt l
 |[],a,h=>by cases h
 |b::l,a,h=>by
  simp only[sumW]
  rcases List.mem_cons.1 h with rfl|h
  ·omega
  ·have:=Qg wt l a h;omega
theorem OG {α:Type}:∀l:List (List α),l.flatten.length≤sumW List.length l
 |[]=>Nat.le_refl _
 |a::l=>by have:=OG l;simp only[List.flatten_cons,List.length_append,sumW];omega
theorem KF {α:Type} {wt:α→Nat} {f:α→List UInt8} {c:Nat}:∀(l:List α),(∀a∈l,(f a).length≤c*(wt a+1))→(l.flatMap f).length≤c*sumW wt l
 |[],_=>Nat.zero_le _
 |a::l,h=>by
  have h1:=h a (List.mem_cons_self ..)
  have h2:=KF l (fun b hb=>h b (List.mem_cons_of_mem _ hb))
  rw[List.flatMap_cons,List.length_append,sumW,Nat.mul_add]
  omega
theorem KG {num:Bool} {L:List Tok}:∀(f i j:Nat) (l:List Cel),Bc num L f i=some (.ok l j)→i+l.length≤j:=by
 intro f
 induction f with
 |zero=>intro i j l h;cases h
 |succ f ih=>
  intro i j l h
  unfold Bc at h
  have ha:=Gy num L i
  rcases RS.obind_some h with⟨c,k,h1,h2⟩|⟨e,p,h1,h3⟩
  ·rw[Option.some.inj h1]at ha
   obtain⟨a1,a2⟩:=ha
   split at h2
   ·rcases RS.obind_some h2 with⟨r',k2,h3,h4⟩|⟨e,p,h3,h4⟩
    ·simp only[Option.some.injEq,RS.ok.injEq]at h4
     obtain⟨rfl,rfl⟩:=h4
     have:=ih _ _ _ h3
     simp only[List.length_cons];omega
    ·cases h4
   ·have am:=Ae L k [59]
    rcases RS.obind_some h2 with⟨r',k2,h3,h4⟩|⟨e,p,h3,h4⟩
    ·simp only[Option.some.injEq,RS.ok.injEq]at h4
     obtain⟨rfl,rfl⟩:=h4
     rw[Option.some.inj h3]at am
     have:=am.1
     simp only[List.length_cons,List.length_nil];omega
    ·cases h4
  ·cases h3
theorem Hu {α:Type} {L:List Tok} {kw:List UInt8} {p:Nat→Option (RS α)} {wt:α→Nat} (hp:∀(i:Nat) (a:α) (j:Nat),isB L i kw=true→p i=some (.ok a j)→i+(wt a+1)≤j):∀(f i j:Nat) (l:List α),Bj L kw p f i=some (.ok l j)→i+sumW wt l≤j:=by
 intro f
 induction f with
 |zero=>intro i j l h;cases h
 |succ f ih=>
  intro i j l h
  unfold Bj at h
  split at h
  ·rename_i hq
   rcases RS.obind_some h with⟨c,k,h1,h2⟩|⟨e,q,h1,h3⟩
   ·have ha:=hp _ _ _ hq h1
    rcases RS.obind_some h2 with⟨r',k2,h3,h4⟩|⟨e,q,h3,h4⟩
    ·simp only[Option.some.injEq,RS.ok.injEq]at h4
     obtain⟨rfl,rfl⟩:=h4
     have:=ih _ _ _ h3
     simp only[sumW];omega
    ·cases h4
   ·cases h3
  ·simp only[Option.some.injEq,RS.ok.injEq]at h
   obtain⟨rfl,rfl⟩:=h
   exact Nat.le_refl _
theorem XP {L:List Tok} {f i j:Nat} {l:List (List UInt8)} (h:GM L f i=some (.ok l j)):i+l.length≤j:=by
 unfold GM at h
 split at h
 ·rcases RS.obind_some h with⟨c,k,h1,h2⟩|⟨e,q,h1,h3⟩
  ·simp only[Option.some.injEq,RS.ok.injEq]at h2
   obtain⟨rfl,rfl⟩:=h2
   have:=KG _ _ _ _ h1
   rw[List.length_map];omega
  ·cases h3
 ·simp only[Option.some.injEq,RS.ok.injEq]at h
  obtain⟨rfl,rfl⟩:=h
  exact Nat.le_refl _
theorem SE {L:List Tok} {f i j:Nat} {name:List UInt8} {pl:Int} {t:Thr} (h:II L f i name pl=some (.ok t j)):i+t.regs.length≤j:=by
 unfold II at h
 have am:=Ae L i [123]
 rcases RS.obind_some h with⟨_,k,h1,h2⟩|⟨e,q,h1,h3⟩
 ·rw[Option.some.inj h1]at am
  rcases RS.obind_some h2 with⟨rs,k2,h3,h4⟩|⟨e,q,h3,h4⟩
  ·have ar:=XP h3
   have ar2:=Is am.2 h3
   rcases RS.obind_some h4 with⟨b,k3,h5,h6⟩|⟨e,q,h5,h6⟩
   ·have ab:=Gz ar2.2 h5
    simp only[Option.some.injEq,RS.ok.injEq]at h6
    obtain⟨rfl,rfl⟩:=h6
    have:=am.1
    have:=ab.1
    simp only;omega
   ·cases h6
  ·cases h4
 ·cases h3
theorem UC {L:List Tok} {f i j:Nat} {t:Thr} (h:DT L f i=some (.ok t j)):i+(t.regs.length+1)≤j:=by
 unfold DT at h
 have an:=Aq L (i+1)
 rcases RS.obind_some h with⟨s,k,h1,h2⟩|⟨e,q,h1,h3⟩
 ·rw[Option.some.inj h1]at an
  have:=SE h2
  have:=an.1
  omega
 ·cases h3
theorem XQ {L:List Tok} {f j:Nat} {p:Prg} (h:GW L f=some (.ok p j)):sumW List.length p.lines≤L.length∧p.vols.length≤L.length∧p.locks.length≤L.length∧sumW (fun t:Thr=>t.regs.length) p.threads≤L.length∧
  p.recs.length≤1∧(∀t∈p.recs,t.regs.length≤L.length)∧p.claims.length≤L.length:=by
 unfold GW at h
 rcases RS.obind_some h with⟨ls,i1,h1,h⟩|⟨e,q,_,h⟩
 case inr=>cases h
 rcases RS.obind_some h with⟨vs,i2,h2,h⟩|⟨e,q,_,h⟩
 case inr=>cases h
 rcases RS.obind_some h with⟨ks,i3,h3,h⟩|⟨e,q,_,h⟩
 case inr=>cases h
 rcases RS.obind_some h with⟨ts,i4,h4,h⟩|⟨e,q,_,h⟩
 case inr=>cases h
 rcases RS.obind_some h with⟨rs,i5,h5,h⟩|⟨e,q,_,h⟩
 case inr=>cases h
 rcases RS.obind_some h with⟨cs,i6,h6,h⟩|⟨e,q,_,h⟩
 case inr=>cases h
 unfold N7 at h1
 unfold Re at h2
 unfold N8 at h3
 unfold Jb at h4
 unfold LN at h6
 have a1:=BD (C0 true L f _) _ _ _ (Nat.zero_le _) h1
 have a2:=BD (C0 true L f _) _ _ _ a1.2 h2
 have a3:=BD (C0 false L f _) _ _ _ a2.2 h3
 have a4:=BD (D8 L f) _ _ _ a3.2 h4
 have a5:=Jh a4.2 h5
 have a6:=BD (FG L f) _ _ _ a5.2 h6
 have c1:=Hu (wt:=List.length) (fun i a j hq h=>by have:=KG _ _ _ _ h;omega) _ _ _ _ h1
 have c2:=Hu (wt:=List.length) (fun i a j hq h=>by have:=KG _ _ _ _ h;omega) _ _ _ _ h2
 have c3:=Hu (wt:=List.length) (fun i a j hq h=>by have:=KG _ _ _ _ h;omega) _ _ _ _ h3
 have c4:=Hu (wt:=fun t:Thr=>t.regs.length) (fun i a j hq h=>UC h) _ _ _ _ h4
 have c6:=Hu (wt:=fun _:Clm=>0) (fun i a j hq h=>by have:=(FG L f).ahead _ _ hq h;have:=this.1;omega) _ _ _ _ h6
 have f2:=OG vs
 have f3:=OG ks
 have n6:=NV (fun _:Clm=>0) cs
 have hr:rs.length≤1∧∀t∈rs,t.regs.length≤L.length:=by
  unfold KL at h5
  split at h5
  ·rcases RS.obind_some h5 with⟨t,k,g1,g2⟩|⟨e,q,g1,g2⟩
   ·simp only[Option.some.injEq,RS.ok.injEq]at g2
    obtain⟨rfl,rfl⟩:=g2
    have:=SE g1
    refine⟨Nat.le_refl _,fun t' ht=>?_⟩
    rw[List.mem_singleton.1 ht]
    have:=a5.2
    omega
   ·cases g2
  ·simp only[Option.some.injEq,RS.ok.injEq]at h5
   obtain⟨rfl,rfl⟩:=h5
   exact⟨Nat.zero_le _,fun t h=>by cases h⟩
 simp only[Option.some.injEq]at h
 unfold L6 at h
 split at h
 ·unfold badR at h;cases h
 ·simp only[RS.ok.injEq]at h
  obtain⟨rfl,rfl⟩:=h
  have:=a1.2;have:=a2.2;have:=a3.2;have:=a4.2;have:=a6.2
  exact⟨by simp only;omega,by simp only;omega,by simp only;omega,by simp only;omega,hr.1,hr.2,by simp only;omega⟩
theorem QCZ {L:List Stm} (h:CJ L=true):(bodyT L).length≤100000:=by
 obtain⟨k,hk,hg,hc,_,_,ht⟩:=DX h
 unfold bodyT
 rw[ht]
 have h1:=RQ k [32,32] hg
 have h2:k.count*(3*([32,32]:List UInt8).length+6*k.count+2000)≤40*(3*2+6*40+2000):=Nat.mul_le_mul hc (by simp only[List.length_cons,List.length_nil];omega)
 simp only at h1⊢
 omega
theorem VZ {c:Cel} {m:Int} (hm:m≤4294967296) (h:Aw m c=true):(EY c).length≤40:=by
 unfold Aw at h
 simp only[Bool.and_eq_true,decide_eq_true_eq]at h
 have hn:=EO h.1.1.1
 have hi:=Lib.itoa_length_le c.n (by omega) (by omega)
 unfold EY
 split
 ·simp;omega
 ·simp only[List.length_append,List.length_cons,List.length_nil];omega
theorem SG:∀(l:List Cel) {m:Int},m≤4294967296→l.all (Aw m)=true→(Ja l).length≤42*l.length
 |[],_,_,_=>Nat.zero_le _
 |[c],m,hm,h=>by
  have:=VZ hm (List.all_eq_true.1 h c (by simp))
  simp only[Ja,List.length_cons,List.length_nil];omega
 |c::d::l,m,hm,h=>by
  have h1:=VZ hm (List.all_eq_true.1 h c (by simp))
  rw[List.all_cons,Bool.and_eq_true]at h
  have h2:=SG (d::l) hm h.2
  simp only[Ja,List.length_append,List.length_cons,List.length_nil]at h2⊢
  omega
theorem NW {wd:List UInt8} (hw:wd.length≤6) {l:List Cel} {m:Int} (hm:m≤4294967296) (h:l.all (Aw m)=true):(rowT wd l).length≤42*(l.length+1):=by
 have:=SG l hm h
 unfold rowT
 simp only[List.length_append,List.length_cons,List.length_nil]
 omega
theorem Lh {wd:List UInt8} (hw:wd.length≤6) {l:List Cel} {m:Int} (hm:m≤4294967296) (h:l.all (Aw m)=true):(KI wd l).length≤42*(l.length+1):=by
 unfold KI
 split
 ·simp
 ·exact NW hw hm h
theorem Qh:∀(l:List (List UInt8)),l.all nameB=true→(namesT l).length≤18*l.length
 |[],_=>Nat.zero_le _
 |[c],h=>by
  have:=EO (List.all_eq_true.1 h c (by simp))
  simp only[namesT,List.length_cons,List.length_nil];omega
 |c::d::l,h=>by
  have h1:=EO (List.all_eq_true.1 h c (by simp))
  rw[List.all_cons,Bool.and_eq_true]at h
  have h2:=Qh (d::l) h.2
  simp only[namesT,List.length_append,List.length_cons,List.length_nil]at h2⊢
  omega
theorem SH {hd:List UInt8} (hh:hd.length≤30) {t:Thr} {b:Bool} (h:Bh b t=true):(Bf hd t).length≤100100*(t.regs.length+1):=by
 unfold Bh at h
 simp only[Bool.and_eq_true]at h
 have h1:=QCZ h.1.2
 have h2:=Qh _ h.2
 unfold Bf Rb
 have:Io.length=3:=rfl
 split<;>simp only[List.length_append,List.length_cons,List.length_nil]<;>omega
theorem QAB {c:Clm} (h:Ef c=true):(claimT c).length≤900:=by
 unfold Ef at h
 simp only[Bool.and_eq_true]at h
 obtain⟨x,_,h1,_,h3,h4,_⟩:=Gq h.2
 have:=RN h1 h3
 unfold claimT
 rw[h4]
 have:CH.length=6:=rfl
 simp only[List.length_append,List.length_cons,List.length_nil]
 omega
theorem XR {p:Prg} (h:BP p=true) {n:Nat} (hn:n≤4000) (hc:sumW List.length p.lines≤n∧p.vols.length≤n∧p.locks.length≤n∧sumW (fun t:Thr=>t.regs.length) p.threads≤n∧p.recs.length≤1∧(∀t∈p.recs,t.regs.length≤n)∧p.claims.length≤n):(Gu p).length≤900000000:=by
 unfold BP at h
 simp only[Bool.and_eq_true,decide_eq_true_eq]at h
 obtain⟨⟨⟨⟨⟨⟨h1,h2⟩,h3⟩,h4⟩,h5⟩,h6⟩,_⟩:=h
 obtain⟨c1,c2,c3,c4,c5,c6,c7⟩:=hc
 have t1:=KF (wt:=List.length) (f:=rowT FX) (c:=42) p.lines (fun l hl=>by
  have:=List.all_eq_true.1 h1 l hl
  unfold EC at this
  simp only[Bool.and_eq_true]at this
  exact NW (by decide) (m:=most32) (by decide) this.2)
 have t2:=Lh (wd:=Iz) (by decide) (m:=most32) (by decide) h3
 have t3:=Lh (wd:=Eo) (by decide) (m:=0) (by decide) h4
 have t4:=KF (wt:=fun t:Thr=>t.regs.length) (f:=threadT) (c:=100100) p.threads (fun t ht=>by
  have hk:=List.all_eq_true.1 h5 t ht
  have hn:t.name.length≤16:=by
   unfold Bh at hk
   simp only[Bool.and_eq_true]at hk
   exact EO hk.1.1.1
  exact SH (by simp only[List.length_append,List.length_cons];have:DJ.length=6:=rfl;omega) hk)
 have t5:(p.recs.flatMap (Bf BU)).length≤100100*(n+1):=by
  have hb:=fun t ht=>SH (hd:=BU) (by decide) (List.all_eq_true.1 h6 t ht)
  cases hr:p.recs with
  |nil=>simp
  |cons t l=>
   rw[hr]at c5 c6 hb
   have hl:l=[]:=List.eq_nil_of_length_eq_zero (by simp only[List.length_cons]at c5;omega)
   subst hl
   have h7:=hb t (by simp)
   have h8:=c6 t (by simp)
   have h9:100100*(t.regs.length+1)≤100100*(n+1):=Nat.mul_le_mul_left _ (by omega)
   simp only[List.flatMap_cons,List.flatMap_nil,List.append_nil]
   omega
 have t6:=KF (wt:=fun _:Clm=>0) (f:=claimT) (c:=900) p.claims (fun c hc=>by have:=QAB (List.all_eq_true.1 h2 c hc);omega)
 have s6:∀l:List Clm,sumW (fun _:Clm=>0) l=l.length:=fun l=>by
  induction l with
  |nil=>rfl
  |cons a l ih=>simp only[sumW,ih,List.length_cons];omega
 rw[s6]at t6
 have m1:42*sumW List.length p.lines≤42*n:=Nat.mul_le_mul_left _ c1
 have m4:100100*sumW (fun t:Thr=>t.regs.length) p.threads≤100100*n:=Nat.mul_le_mul_left _ c4
 unfold Gu
 simp only[List.length_append]
 omega
end Go.Proofs.YthfkpalfopdmhaaGreatDoor
