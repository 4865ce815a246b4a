/- Texts of the walk, packed. -/
import Derived.Test.YthfkpalfopdmhaaGreatDoorY32
import Derived.Test.YthfkpalfopdmhaaGreatDoorY36
import Derived.Test.YthfkpalfopdmhaaGreatDoorY29
import Derived.Deep.RegionHeld3
import Derived.Test.YthfkpalfopdmhaaGreatDoorY41
import Derived.Test.YthfkpalfopdmhaaGreatDoorY35
import Derived.Test.YthfkpalfopdmhaaGreatDoorY30
import Derived.Test.YthfkpalfopdmhaaGreatDoorY20
import Derived.Test.YthfkpalfopdmhaaGreatDoorY00
namespace Go.Proofs.YthfkpalfopdmhaaGreatDoor
open Go.RowKit Go.Shelf
attribute [local go_sem] Oper.semAt_some
theorem DW.len {u v:List UInt8} (h:DW u v):v.length≤3*u.length:=by
 obtain⟨rows,_,rfl,rfl⟩:=h
 induction rows with
 |nil=>simp
 |cons r l ih=>
  have ih':=ih (fun x hx=>by rename_i hh;exact hh x (List.mem_cons_of_mem _ hx))
  simp only[List.flatMap_cons,List.length_append,DZ,List.length_cons,List.length_nil]at ih'⊢
  omega
theorem QB8 {B b L:Nat} {bs:List Value} {w w':World} {cs:Array Value} {T:TypeId} (h:Lib.IsBuilder 93 5 B b bs w) (hk:AG (fun q=>q=L) w w') (hL:w.heap[L]?=some (.cells cs T (0,0))) (h1:T≠93) (h2:T≠5):Lib.IsBuilder 93 5 B b bs w':=by
 have key:∀p,Lib.BuilderAt 93 5 B b p bs w→Lib.BuilderAt 93 5 B b p bs w':=by
  rintro p ⟨k1,v,k2,k3,k4⟩
  have hlt:b<w.heap.size:=(Array.getElem?_eq_some_iff.1 k2).1
  have hbL:b≠L:=fun e=>by subst e;rw[hL]at k2;simp at k2;exact h1 k2.2
  refine⟨k1,v,by rw[hk.block b hlt hbL];exact k2,AW k3 hk (fun q hq e=>?_),k4⟩
  subst e
  obtain⟨_,cs',hh⟩:=AM k3 q hq
  rw[hL]at hh;simp at hh;exact h2 hh.2
 rcases h with h|h
 ·exact .inl (key _ h)
 ·exact .inr (key _ h)
def ID (d:List (List UInt8)):List UInt8:=[32,123,10]++d.flatMap (fun r=>[32,32]++DZ r)
structure JI (w:World) (L:Nat) (s:StL) (W:World):Prop where
 at':AtL L s W
 bld:Lib.IsBuilder 93 5 (w.heap.size+1) (w.heap.size+1) (Lib.byteCells (ID s.2)) W
 low:Below w.heap.size w W
theorem JI.put {w:World} {L:Nat} {s:StL} {W:World} (h:JI w L s W) {k:Nat} {o:Obj} (o':Obj) (hw:w.heap.size≤k) (hk:W.heap[k]?=some o) (ho:o.isCells=false):JI w L s (W.putObj k o'):=by
 have key:∀(q:Nat) (o2:Obj),W.heap[q]?=some o2→o2.isCells=true→(W.putObj k o').heap[q]?=some o2:=fun q o2 h2 hc=>by
  refine(World.putObj_heap_other (fun e=>?_)).trans h2
  subst e
  rw[hk]at h2
  cases h2
  rw[ho]at hc
  cases hc
 have kb:∀p,Lib.BuilderAt 93 5 (w.heap.size+1) (w.heap.size+1) p (Lib.byteCells (ID s.2)) W→Lib.BuilderAt 93 5 (w.heap.size+1) (w.heap.size+1) p (Lib.byteCells (ID s.2)) (W.putObj k o'):=by
  rintro p ⟨h1,v,h2,⟨h3,h4⟩,h5⟩
  refine⟨h1,v,key _ _ h2 rfl,⟨h3,?_⟩,h5⟩
  rcases h4 with h|⟨g,cap,cur,q1,q2,q3,q4⟩
  ·exact .inl h
  ·exact .inr ⟨g,cap,cur,q1,q2,key _ _ q3 rfl,q4⟩
 refine⟨key _ _ h.at' rfl,?_,h.low.grown (grownBy_putObj' W k o') h.low.size (fun q e=>by cases e;exact hw)⟩
 rcases h.bld with h|h
 ·exact .inl (kb _ h)
 ·exact .inr (kb _ h)
theorem JI.move {w:World} {L:Nat} {s s':StL} {W W':World} (h:JI w L s W) (hL:w.heap.size≤L) (hm:MvL L s W s' W'):JI w L s' W':=by
 obtain⟨h1,h2,h3⟩:=hm
 refine⟨h3,?_,h.low.trans (h2.below (fun k hk e=>by omega) h.low.size)⟩
 rw[h1]
 exact QB8 h.bld h2 h.at' (by decide) (by decide)
theorem VU {b:Nat} {W W':World} (h:Lib.OthersKept 5 (some b) W W') {c:Array Value} {T:TypeId} {fz:Nat×Nat} (hb:W.heap[b]?=some (.cells c T fz)) (hs:W.heap.size≤W'.heap.size):KeepsOthers W W':=
 ⟨hs,fun k o hk ho=>h k o hk (fun e=>by cases e;rw[hb]at hk;cases hk;cases ho) (fun c fz e=>by subst e;cases ho)⟩
theorem IX {B b:Nat} {bs:List Value} {w:World} (h:Lib.IsBuilder 93 5 B b bs w):∃c,w.heap[b]?=some (.cells c 93 (0,0)):=by
 rcases h with⟨_,v,h,_⟩|⟨_,v,h,_⟩<;>exact⟨_,h⟩
theorem Z3 (d:List (List UInt8)) (x:List UInt8):ID (d++[x])=ID d++([32,32]++DZ x):=by
 simp[ID]
theorem JI.next {w:World} {L n:Nat} {rows:List (List UInt8)} {s s':StL} {x:List UInt8} {W W':World} {e:Ending} (h:JI w L s W) (hL:w.heap.size+1<L) (hx:NxL rows s x s')
  (hw:TJ (w.heap.size+1) (w.heap.size+1) n (ID s.2++([32,32]++DZ x)) W e W'):KeepsOthers W W'∧JI w L s' W':=by
 obtain⟨rfl,hr⟩:=hx
 obtain⟨_,h1,h2,h3⟩:=hw
 obtain⟨c,hb⟩:=IX h.bld
 refine⟨VU h3 hb h2.size,?_,?_,h.low.trans (h2.mono (by omega))⟩
 ·exact h3 _ _ h.at' (fun e=>by cases e;omega) (fun c fz e=>by cases e)
 ·show Lib.IsBuilder 93 5 _ _ (Lib.byteCells (ID (s.2++[x]))) W'
  rw[Z3]
  exact h1
set_option maxRecDepth 100000 in
set_option maxHeartbeats 8000000 in
theorem Qf {x:Tv} {w:World} {B:Nat} {b:Bool} (hR:C9 w B x.vR x.t.regs) (hB:FR w B x.vB x.t.body) (hok:Bh b x.t=true) (hT:Tabs w) (hn:x.t.regs.length≤1000000) (hj:(FY x.t.regs).length≤1000000):
  Calls Tryz.prog 59 #[.agg #[.string ⟨x.t.name.toArray⟩,x.vR,x.vB,.int .i64 x.t.pl]] w (CG (Bf [] x.t) w):=by
 obtain⟨⟨name,regs,body,pl⟩,vR,vB⟩:=x
 simp only at *
 obtain⟨rows,hnl,hU,hV⟩:=VT hok
 have hs:CJ body=true:=by
  unfold Bh at hok
  simp only[Bool.and_eq_true]at hok
  exact hok.1.2
 have hsm:=NR hs
 have hU1:GF Io regs=QDn regs:=by unfold GF QDn;rw[Qd]
 have hU2:GF Io regs++showS body=KD rows:=by rw[hU1];exact hU
 have hl1:(GF Io regs).length≤1000010:=by
  unfold GF
  split
  ·simp
  ·simp only[List.length_append,List.length_cons,List.length_nil]
   have:Io.length=3:=rfl
   omega
 have hl2:(showS body).length≤1000000:=by
  obtain⟨k,hk,hg,hc,_,_,_⟩:=DX hs
  rw[←hk,KX hg.1 (by rw[hk];exact hs)]
  exact Ks hg hc (by simp)
 have hlU:(KD rows).length≤2000010:=by rw[←hU2,List.length_append];omega
 have hlV:=DW.len ⟨rows,hnl,hU,hV⟩
 rw[hU]at hlV
 have hlV2:(rows.flatMap (fun r=>[32,32]++DZ r)).length≤6000030:=by rw[←hV];unfold KD at hlU;omega
 have HE:Hid (Bf [] ⟨name,regs,body,pl⟩=ID rows++[125,10]):=AA (by
  unfold Bf ID
  rw[←hV]
  simp)
 have HLV:=AA hlV2
 have HLU:=AA hlU
 have HNL:=AA hnl
 have HU2:=AA hU2
 have HSM:=AA hsm
 have HT:=AA hT
 have HR:=AA hR
 have HS:=AA hB.read
 have HN:=AA hn
 have HJ:=AA hj
 have hcat:¬(9223372036854775807<(GF Io regs).length+(showS body).length):=by omega
 obtain⟨A1,c1,rfl, -⟩:=hR.reads
 obtain⟨A2,c2,rfl⟩:=hB.slice
 clear hl1 hl2 hlU hlV hlV2 hU hU1 hU2 hV hnl hs hsm hok hT hB hR hn hj
 have HF:=AA (Lib.fresh_isBuilder 93 5 (w.alloc (.cells #[.string ⟨name.toArray⟩,.slice A1 regs.length c1,.slice A2 body.length c2,.int .i64 pl] 41)))
 refine(callsIn_wide (n:=3)).1 ?_
 refine callsIn_of_wp_marks Tryz.func59 rfl trivial ?_ rfl
 simp only[Tryz.ntmps59,List.size_toArray,List.length_cons,List.length_nil,Nat.reduceAdd,Nat.reduceSub,Array.replicate_succ,Array.replicate_zero,List.push_toArray,List.append_toArray,List.nil_append,List.cons_append]
 gi_wp2_with (fail)
 have hz0:(w.alloc (.cells #[.string ⟨name.toArray⟩,.slice A1 regs.length c1,.slice A2 body.length c2,.int .i64 pl] 41)).heap.size=w.heap.size+1:=by simp
 rw[hz0]at HF
 have N1:=AA (((Below.refl (w.heap.size+1) _).alloc (by rw[hz0];exact Nat.le_refl _) (.cells #[.pointer none,.slice none 0 0] 93)).block w.heap.size (by omega) |>.trans (heap_alloc_new w (.cells #[.string ⟨name.toArray⟩,.slice A1 regs.length c1,.slice A2 body.length c2,.int .i64 pl] 41)))
 have HB0:=AA (BC w (.cells #[.string ⟨name.toArray⟩,.slice A1 regs.length c1,.slice A2 body.length c2,.int .i64 pl] 41) (.cells #[.pointer none,.slice none 0 0] 93))
 have hz2:w.heap.size+1≤((w.alloc (.cells #[.string ⟨name.toArray⟩,.slice A1 regs.length c1,.slice A2 body.length c2,.int .i64 pl] 41)).alloc (.cells #[.pointer none,.slice none 0 0] 93)).heap.size:=by simp
 generalize(w.alloc (.cells #[.string ⟨name.toArray⟩,.slice A1 regs.length c1,.slice A2 body.length c2,.int .i64 pl] 41)).alloc (.cells #[.pointer none,.slice none 0 0] 93)=X at *
 refine⟨trivial,(callsIn_wide.2 (EX (w.heap.size+1) (w.heap.size+1) [] [32,123,10] _ HF.out (by simp) hz2)).mono ?_⟩
 rintro e1 w1 ⟨rfl,hd,hb,ho⟩
 have N2:=ho _ _ N1.out (by simp) (by intro c fz e;cases e)
 have HB1:=AA (HB0.out.trans (hb.mono (by omega)))
 have HD1:=AA hd
 have x1:w1.cell? ⟨w.heap.size,1,none⟩=some (.slice A1 regs.length c1):=by rw[Lib.cell_of_heap N2];rfl
 have x2:w1.cell? ⟨w.heap.size,2,none⟩=some (.slice A2 body.length c2):=by rw[Lib.cell_of_heap N2];rfl
 have HC1:=AA (fun W' (h:Below w1.heap.size w1 W')=>K7 Io (HR.out.on (AC HB1.out h)) (Nat.le_trans HJ.out (by decide)) HN.out (by decide))
 have HC2:=AA (fun W' (h:Below w1.heap.size w1 W')=>ZJ _ _ W' (HS.out.on (AC HB1.out h)) HSM.out (HT.out.on (AC HB1.out h)))
 have hmx:Tryz.prog.follows .mixedOrders=true:=by kernel_rfl
 clear hz0 hd hb ho hz2 N1 HB0 HF
 have HN2:=AA N2
 have hlt:=(Array.getElem?_eq_some_iff.1 N2).1
 clear N2
 generalize GF Io regs=U1 at *
 generalize showS body=U2 at *
 gi_wp2_with (fail)
 refine wpIn_mono (Q:=NoPanic _) ?_ NoPanic.imp
 gi_region_with_o (refine⟨trivial,?_⟩;first
  |(gi_at_call 57;refine(callsIn_wide.2 (HC1.out _ (by first|exact Below.refl _ _|exact AD _))).mono ?_;rintro e2 w2 ⟨rfl,hb2⟩;have y2:w2.cell? ⟨w.heap.size,2,none⟩=some (.slice A2 body.length c2):=(by rw[Lib.cell_of_heap ((hb2.block _ hlt).trans HN2.out)];rfl))
  |(gi_at_call 118;refine(callsIn_wide.2 (HC2.out _ (by first|exact hb2|exact AC (AD _) hb2|exact AC hb2 (AD _)|exact AC (AC (AD _) hb2) (AD _)))).mono ?_;rintro e3 w3 ⟨rfl,hb3⟩)
  |(gi_at_call 117;refine(callsIn_wide.2 (lines_any _ _)).mono ?_;rintro e4 w4 ⟨rfl,rfl⟩))
 all_goals
  refine NoPanic.normal ?_
  have hb4:Below w1.heap.size w1 w3:=by first|exact AC hb2 hb3|exact AC (AC (AD _) hb2) hb3|exact AC hb2 (AC (AD _) hb3)|exact AC (AC (AD _) hb2) (AC (AD _) hb3)
  have HB4:=AA (AC HB1.out hb4)
  have HD4:=AA (Ly HD1.out hb4)
  have hU:(⟨U1.toArray⟩++⟨U2.toArray⟩:ByteArray)=⟨(KD rows).toArray⟩:=by rw[←HU2.out,Cb]
  rw[hU]
  have hL:=hb4.size
  clear hb2 hb3 hb4 hU x1 x2 y2 HC1 HC2 HN2 HB1 HD1 HR HS HT HSM HU2
  have hsz2:=hlt
  gi_wp2_with (fail)
  have hz4:(w3.alloc (.cells #[.string ⟨(KD rows).toArray⟩] 9)).heap.size=w3.heap.size+1:=by simp
  have hL2:w.heap.size+1<w3.heap.size:=by
   obtain⟨c,hb⟩:=IX HD4.out
   exact(Array.getElem?_eq_some_iff.1 hb).1
  have HL2:=AA hL2
  refine XH rfl (by omega) (gf:=167) (lb:=#[.pointer (some ⟨w3.heap.size,0,none⟩)]) rfl trivial (enters_of Tryz.func167 (by kernel_rfl) rfl) (encs:=fun r:List UInt8=>#[.string ⟨(DZ r).toArray⟩]) (fun _=>rfl) (I:=JI w w3.heap.size) (Mv:=MvL w3.heap.size) (Nx:=NxL rows) (s0:=(rows,[])) (s1:=([],rows))
   (XJ _ (by omega) _ rows HNL.out (Nat.le_trans HLU.out (by decide)) _ (fun s W h=>h.at')) (fun s W s' W' h hm=>h.move (by omega) hm) ?mvo ?hI ?h0
   (fun x=>{tmps:=#[.agg #[.string ⟨name.toArray⟩,.slice A1 regs.length c1,.slice A2 body.length c2,.int .i64 pl],.pointer (some ⟨w.heap.size,0,none⟩),.string ⟨#[]⟩,.pointer (some ⟨w.heap.size+1,0,none⟩),.string ⟨(DZ x).toArray⟩,.tuple #[.int .i64 3,.nilIface],.pointer (some ⟨w.heap.size,1,none⟩),.slice A1 regs.length c1,.string ⟨U1.toArray⟩,.pointer (some ⟨w.heap.size,2,none⟩),.slice A2 body.length c2,.string ⟨U2.toArray⟩,.string ⟨(KD rows).toArray⟩,.func (.func 167) #[] #[.pointer (some ⟨w3.heap.size,0,none⟩)],.string ⟨(DZ x).toArray⟩,undef,undef,undef,undef,undef],defers:=[]}) ?assign ?body ?done
  case mvo=>
   intro s W s' W' h hm k o hk ho
   refine(hm.2.1.block k (Array.getElem?_eq_some_iff.1 hk).1 (fun e=>?_)).trans hk
   subst e
   rw[h.at']at hk
   cases hk
   cases ho
  case hI=>
   intro s W k o o' h hk hh ho
   exact h.put o' (by omega) hh ho
  case h0=>
   intro o1 o2
   have h5:=BC (w3.alloc (.cells #[.string ⟨(KD rows).toArray⟩] 9)) o1 o2
   refine⟨(h5.block _ (by rw[hz4];omega)).trans (heap_alloc_new w3 _),?_,?_⟩
   ·exact Ly (Ly HD4.out ((Below.refl w3.heap.size w3).alloc (Nat.le_refl _) _)) h5
   ·exact AC (AC HB4.out ((Below.refl w3.heap.size w3).alloc (Nat.le_refl _) _)) h5
  case assign=>
   intro l x W K hK
   gi_wp2
   exact hK
  case body=>
   rintro l ⟨s1,s2⟩ x s' W hi hx
   have hbs:w.heap.size+1≤W.heap.size:=by
    obtain⟨c,hb⟩:=IX hi.bld
    exact Nat.le_of_lt (Array.getElem?_eq_some_iff.1 hb).1
   have hlen:(ID s2).length+([32,32]++DZ x).length≤1000000000:=by
    have:=HLV.out
    rw[hx.2]at this
    simp only[List.flatMap_append,List.flatMap_cons,List.length_append]at this
    simp only[ID,List.length_append,List.length_cons,List.length_nil]at this⊢
    omega
   have hll:(DZ x).length≤1000000000:=by rw[List.length_append]at hlen;omega
   have hcat:¬(9223372036854775807<2+(DZ x).length):=by omega
   have HC:=AA (JZ (w.heap.size+1) (w.heap.size+1) (ID s2) ([32,32]++DZ x) (w:=W) (Cb [32,32] (DZ x)) hi.bld hlen hbs)
   have HN:=AA (fun n e W' hw=>hi.next (n:=n) (e:=e) (W':=W') HL2.out hx hw)
   clear hi hx hbs hlen hll
   gi_wp2_with (fail)
   refine⟨trivial,(CallsIn.inRound l (callsIn_wide.2 HC.out)).mono ?_⟩
   rintro e W' hw
   have:=HN.out _ _ _ hw
   obtain⟨rfl, -⟩:=hw
   gi_wp2_with (fail)
   exact this
  case done=>
   intro D W hD hi hK
   have hD':w3.heap.size<D:=by rw[hz4]at hD;omega
   have hbs:w.heap.size+1≤W.heap.size:=by
    obtain⟨c,hb⟩:=IX hi.bld
    exact Nat.le_of_lt (Array.getElem?_eq_some_iff.1 hb).1
   have hlen:(ID rows).length+([125,10]:List UInt8).length≤1000000000:=by
    have:=HLV.out
    simp only[ID,List.length_append,List.length_cons,List.length_nil]at this⊢
    omega
   have HC:=AA (JZ (w.heap.size+1) (w.heap.size+1) (ID rows) [125,10] (u:=⟨#[125,10]⟩) (w:=W) rfl hi.bld hlen hbs)
   have HLW:=AA hi.low
   have HK:=AA hK
   clear hi hK hD hbs hlen
   gi_wp2_with (fail)
   refine⟨trivial,(callsIn_wide.2 HC.out).mono ?_⟩
   rintro e W2 ⟨rfl,h1,h2,h3⟩
   have HK2:=AA (h3 D _ HK.out (fun e=>by cases e;omega) (fun c fz e=>by cases e))
   have HB2:=AA (HLW.out.trans (h2.mono (by omega)))
   have HC2:=AA (Tryz.Builder_String_any_k (w.heap.size+1) (w.heap.size+1) _ _ (Lib.IsBuilderF.of h1) (Nat.le_trans (Nat.le_of_lt (by obtain⟨c,hb⟩:=IX h1;exact(Array.getElem?_eq_some_iff.1 hb).1)) (Nat.le_refl _)))
   clear h1 h2 h3
   gi_wp2_with (fail)
   refine⟨trivial,(callsIn_wide.2 HC2.out).mono ?_⟩
   rintro e W4 ⟨rfl, -,h5,h6⟩
   have hK4:=h6 D _ HK2.out (fun e=>by cases e;omega) (fun c fz e=>by cases e)
   have HB4':=AA (HB2.out.trans (h5.mono (by omega)))
   clear h5 h6
   gi_wp2_with (fail)
   refine⟨by simp,.inl ⟨_,_,rfl,run_takeDeferred hK4,?_⟩⟩
   refine⟨_,results_tmp rfl _ _ _,Bv rfl HE.out.symm (HB4'.out.trans (belowK_b (w:=w) (Nat.le_refl _) W4 D _ _ (by omega) hK4 rfl rfl))⟩
end Go.Proofs.YthfkpalfopdmhaaGreatDoor
namespace Go.Proofs.YthfkpalfopdmhaaGreatDoor
open Go.RowKit
theorem QCM {w:World} {d T:Nat} {a0 a1 a2 a3:Value} (h:w.heap[d]?=some (.cells #[a0,a1,a2,a3] T (0,0))) (u0 u1 u2 u3:Value):(((((w.setCell ⟨d,0,none⟩ u0).setCell ⟨d,1,none⟩ u1).setCell ⟨d,2,none⟩ u2).setCell ⟨d,3,none⟩ u3)).heap[d]?=some (.cells #[u0,u1,u2,u3] T (0,0)):=by
 have h0:(w.setCell ⟨d,0,none⟩ u0).heap[d]?=some (.cells #[u0,a1,a2,a3] T (0,0)):=As h
 have h1:((w.setCell ⟨d,0,none⟩ u0).setCell ⟨d,1,none⟩ u1).heap[d]?=some (.cells #[u0,u1,a2,a3] T (0,0)):=As h0
 have h2:(((w.setCell ⟨d,0,none⟩ u0).setCell ⟨d,1,none⟩ u1).setCell ⟨d,2,none⟩ u2).heap[d]?=some (.cells #[u0,u1,u2,a3] T (0,0)):=As h1
 have h3:((((w.setCell ⟨d,0,none⟩ u0).setCell ⟨d,1,none⟩ u1).setCell ⟨d,2,none⟩ u2).setCell ⟨d,3,none⟩ u3).heap[d]?=some (.cells #[u0,u1,u2,u3] T (0,0)):=As h2
 exact h3
theorem Z7 {b d:Nat} (w:World) (v u0 u1 u2 u3:Value):AG (fun q=>q=b∨q=d) w (((((w.setCell ⟨b,3,none⟩ v).setCell ⟨d,0,none⟩ u0).setCell ⟨d,1,none⟩ u1).setCell ⟨d,2,none⟩ u2).setCell ⟨d,3,none⟩ u3):=(BH (BH (BH (BH (BH (AG.refl _ _) (.inl rfl)) (.inr rfl)) (.inr rfl)) (.inr rfl)) (.inr rfl))
theorem QFN {w:World} {d T:Nat} {a0 a1 a2 a3:Value} (h:w.heap[d]?=some (.cells #[a0,a1,a2,a3] T (0,0))) (u:Value):(w.setCell ⟨d,1,none⟩ u).heap[d]?=some (.cells #[a0,u,a2,a3] T (0,0)):=As h
theorem QFO {w:World} {d T:Nat} {a0 a1 a2 a3:Value} (h:w.heap[d]?=some (.cells #[a0,a1,a2,a3] T (0,0))) (u:Value):(w.setCell ⟨d,2,none⟩ u).heap[d]?=some (.cells #[a0,a1,u,a3] T (0,0)):=As h
theorem LA {w:World} {b B:Nat} {cs:Array Value} {T:TypeId} {Ts:List TypeId} (h:w.heap[b]?=some (.cells cs T (0,0))) (hT:T∉Ts):Av (fun q=>q=b) w B Ts:=fun q cs' T' _ hh hT' e=>by
 subst e
 rw[h]at hh
 simp at hh
 exact hT (hh.2▸hT')
set_option maxRecDepth 100000 in
set_option maxHeartbeats 8000000 in
theorem QCN (x:Tv) {w:World} {B:Nat} (hR:C9 w B x.vR x.t.regs) (hB:FR w B x.vB x.t.body) (hl1:x.t.regs.length≤10000) (hl2:x.t.body.length≤10000) (hs:∀y∈x.t.body,y.e.length≤10000∧y.f.length≤10000):
  Calls Tryz.prog 39 #[.agg #[.string ⟨x.t.name.toArray⟩,x.vR,x.vB,.int .i64 x.t.pl]] w (fun e w'=>∃u1 u2,e=.returned (.agg #[.string ⟨x.t.name.toArray⟩,u1,u2,.int .i64 0])∧C9 w' w.heap.size u1 x.t.regs∧FR w' w.heap.size u2 (x.t.body.map bareS)∧Below w.heap.size w w'):=by
 obtain⟨⟨name,regs,body,pl⟩,vR,vB⟩:=x
 simp only at *
 obtain⟨AR,cR,hvR, -⟩:=hR.reads
 obtain⟨AB,cB,hvB⟩:=hB.slice
 subst hvR hvB
 have HS:=AA hs
 have h0:=BC w (.cells #[.string ⟨name.toArray⟩,.slice AR regs.length cR,.slice AB body.length cB,.int .i64 pl] 41) (.cells #[.string ⟨#[]⟩,.slice none 0 0,.slice none 0 0,.int .i64 0] 41)
 have HC1:=AA (QFM (hR.on h0) hl1)
 have HB0:=AA (hB.keepT (AG.of (P:=fun _=>False) h0) Av.none)
 have H0:=AA h0
 have N1:=AA (((Below.refl _ (w.alloc (.cells #[.string ⟨name.toArray⟩,.slice AR regs.length cR,.slice AB body.length cB,.int .i64 pl] 41))).alloc (Nat.le_refl _) (.cells #[.string ⟨#[]⟩,.slice none 0 0,.slice none 0 0,.int .i64 0] 41)).block w.heap.size (by simp) |>.trans (heap_alloc_new w (.cells #[.string ⟨name.toArray⟩,.slice AR regs.length cR,.slice AB body.length cB,.int .i64 pl] 41)))
 have N2:=AA (heap_alloc2_new w (.cells #[.string ⟨name.toArray⟩,.slice AR regs.length cR,.slice AB body.length cB,.int .i64 pl] 41) (.cells #[.string ⟨#[]⟩,.slice none 0 0,.slice none 0 0,.int .i64 0] 41))
 clear hs hR hB h0
 go_enter Tryz.func39,Tryz.ntmps39
 go_wp2_with fail
 obtain⟨b,hb⟩:∃b,w.heap.size=b:=⟨_,rfl⟩
 obtain⟨d,hd⟩:∃d,b+1=d:=⟨_,rfl⟩
 have hsz:((w.alloc (.cells #[.string ⟨name.toArray⟩,.slice AR regs.length cR,.slice AB body.length cB,.int .i64 pl] 41)).alloc (.cells #[.string ⟨#[]⟩,.slice none 0 0,.slice none 0 0,.int .i64 0] 41)).heap.size=d+1:=by simp;omega
 generalize((w.alloc (.cells #[.string ⟨name.toArray⟩,.slice AR regs.length cR,.slice AB body.length cB,.int .i64 pl] 41)).alloc (.cells #[.string ⟨#[]⟩,.slice none 0 0,.slice none 0 0,.int .i64 0] 41))=X at *
 rw[hb]at N1
 rw[hb,hd]at N2
 simp only[hb,hd]
 have hne:b≠d:=by omega
 refine HC1.out.mono ?_
 rintro e w1 ⟨u1,rfl,ho1,hb1⟩
 have hx1:=(hb1.block b (by omega)).trans N1.out
 have hd1:=(hb1.block d (by omega)).trans N2.out
 have c1':w1.cell? ⟨b,1,none⟩=some (.slice AR regs.length cR):=by rw[Lib.cell_of_heap hx1];rfl
 have f1':=Lib.frozen_of_heap hx1 1
 have c2':w1.cell? ⟨b,2,none⟩=some (.slice AB body.length cB):=by rw[Lib.cell_of_heap hx1];rfl
 have hbsz:=hb1.size
 obtain⟨A1,c1,rfl, -, -, -⟩:=AX ho1
 have hk1:AG (fun q=>q=b) w1 (w1.setCell ⟨b,1,none⟩ (.slice A1 regs.length c1)):=BH (AG.refl _ _) rfl
 have HC2:=AA (QD9 (((HB0.out.keepT (AG.of (P:=fun _=>False) hb1) Av.none)).keepT hk1 (LA hx1 (by decide))) hl2 HS.out)
 have HO1:=AA (ho1.keepT hk1 (LA hx1 (by decide)))
 have HX1:=AA (QFN hx1 (.slice A1 regs.length c1))
 have HD1:=AA (CZ (j:=1) (v:=.slice A1 regs.length c1) hd1 (fun h=>hne h.symm))
 have HBL:=AA ((H0.out.trans (hb1.mono H0.out.size)).trans (hk1.below (fun k hk h=>by omega) (by have:=H0.out.size;omega)))
 clear hb1 hx1 hd1 ho1 hk1 HC1 HB0 N1 N2 H0
 go_wp2_with fail
 generalize w1.setCell ⟨b,1,none⟩ (.slice A1 regs.length c1)=Y at *
 refine HC2.out.mono ?_
 rintro e w2 ⟨u2,rfl,ho2,hb2⟩
 have hx2:=(hb2.block b (Array.getElem?_eq_some_iff.1 HX1.out).1).trans HX1.out
 have hd2:=(hb2.block d (Array.getElem?_eq_some_iff.1 HD1.out).1).trans HD1.out
 have q2:w2.cell? ⟨b,2,none⟩=some (.slice AB body.length cB):=by rw[Lib.cell_of_heap hx2];rfl
 have g2:=Lib.frozen_of_heap hx2 2
 obtain⟨A2,c2,hv2⟩:=ho2.slice
 rw[List.length_map]at hv2
 subst hv2
 have hk2:AG (fun q=>q=b) w2 (w2.setCell ⟨b,2,none⟩ (.slice A2 body.length c2)):=BH (AG.refl _ _) rfl
 have HO1':=AA (((HO1.out.on hb2).keepT hk2 (LA hx2 (by decide))).base (B':=w.heap.size) (by rw[hsz];omega))
 have HO2':=AA ((ho2.keepT hk2 (LA hx2 (by decide))).base (B':=w.heap.size) HBL.out.size)
 have hZ:=QFO hx2 (.slice A2 body.length c2)
 have hzd:=CZ (j:=2) (v:=.slice A2 body.length c2) hd2 (fun h=>hne h.symm)
 have HBZ:=AA ((HBL.out.trans (hb2.mono HBL.out.size)).trans (hk2.below (fun k hk h=>by omega) ((HBL.out.trans (hb2.mono HBL.out.size)).size)))
 clear hb2 hx2 hd2 ho2 hk2 HC2 HO1 HX1 HD1 HBL c1' f1' c2'
 go_upto_region 3 with(fail)
 generalize w2.setCell ⟨b,2,none⟩ (.slice A2 body.length c2)=Z at *
 clear q2 g2
 have z0:Z.cell? ⟨b,0,none⟩=some (.string ⟨name.toArray⟩):=by rw[Lib.cell_of_heap hZ];rfl
 have z1:Z.cell? ⟨b,1,none⟩=some (.slice A1 regs.length c1):=by rw[Lib.cell_of_heap hZ];rfl
 have z2:Z.cell? ⟨b,2,none⟩=some (.slice A2 body.length c2):=by rw[Lib.cell_of_heap hZ];rfl
 have z3:Z.cell? ⟨b,3,none⟩=some (.int .i64 pl):=by rw[Lib.cell_of_heap hZ];rfl
 have f3:=Lib.frozen_of_heap hZ 3
 have y0:Z.cell? ⟨d,0,none⟩=some (.string ⟨#[]⟩):=by rw[Lib.cell_of_heap hzd];rfl
 have k0:=Lib.frozen_of_heap hzd 0
 have y1:Z.cell? ⟨d,1,none⟩=some (.slice none 0 0):=by rw[Lib.cell_of_heap hzd];rfl
 have k1:=Lib.frozen_of_heap hzd 1
 have y2:Z.cell? ⟨d,2,none⟩=some (.slice none 0 0):=by rw[Lib.cell_of_heap hzd];rfl
 have k2:=Lib.frozen_of_heap hzd 2
 have y3:Z.cell? ⟨d,3,none⟩=some (.int .i64 0):=by rw[Lib.cell_of_heap hzd];rfl
 have k3:=Lib.frozen_of_heap hzd 3
 have HF:=AA (QCM (CZ (j:=3) (v:=.int .i64 0) hzd (fun h=>hne h.symm)) (.string ⟨name.toArray⟩) (.slice A1 regs.length c1) (.slice A2 body.length c2) (.int .i64 0))
 have HKF:=AA (Z7 (b:=b) (d:=d) Z (.int .i64 0) (.string ⟨name.toArray⟩) (.slice A1 regs.length c1) (.slice A2 body.length c2) (.int .i64 0))
 have HZB:=AA hZ
 have HZD:=AA hzd
 clear hZ hzd
 go_wp2_with fail
 generalize((((Z.setCell ⟨b,3,none⟩ (.int .i64 0)).setCell ⟨d,0,none⟩ (.string ⟨name.toArray⟩)).setCell ⟨d,1,none⟩ (.slice A1 regs.length c1)).setCell ⟨d,2,none⟩ (.slice A2 body.length c2)).setCell ⟨d,3,none⟩ (.int .i64 0)=V at *
 have v0:V.cell? ⟨d,0,none⟩=some (.string ⟨name.toArray⟩):=by rw[Lib.cell_of_heap HF.out];rfl
 have v1:V.cell? ⟨d,1,none⟩=some (.slice A1 regs.length c1):=by rw[Lib.cell_of_heap HF.out];rfl
 have v2:V.cell? ⟨d,2,none⟩=some (.slice A2 body.length c2):=by rw[Lib.cell_of_heap HF.out];rfl
 have v3:V.cell? ⟨d,3,none⟩=some (.int .i64 0):=by rw[Lib.cell_of_heap HF.out];rfl
 clear z0 z1 z2 z3 f3 y0 y1 y2 y3 k0 k1 k2 k3
 refine bodyPost_ret (v:=.agg #[.string ⟨name.toArray⟩,.slice A1 regs.length c1,.slice A2 body.length c2,.int .i64 0]) (by simp[results,Tryz.results39,go_sem,v0,v1,v2,v3]) rfl ?_
 have hAv:Av (fun q=>q=b∨q=d) Z w.heap.size [9,44,46]:=fun q cs T _ hh hT e=>by
  rcases e with rfl|rfl
  ·rw[HZB.out]at hh;simp at hh;rw[←hh.2]at hT;revert hT;decide
  ·rw[HZD.out]at hh;simp at hh;rw[←hh.2]at hT;revert hT;decide
 exact⟨_,_,rfl,HO1'.out.keepT HKF.out (hAv.sub (by simp)),HO2'.out.keepT HKF.out (hAv.sub (by simp)),HBZ.out.trans (HKF.out.below (fun k hk h=>by omega) HBZ.out.size)⟩
theorem QCO:(Tryz.prog.info? 41).map (fun i=>(i.zero,i.size,i.bytes))=some (some (.agg #[.string ⟨#[]⟩,.slice none 0 0,.slice none 0 0,.int .i64 0]),4,72):=by kernel_rfl
theorem QEA {wa w5:World} {B:Nat} {v v5:Value} {K:List Tv} {x:Tv} (h:DY wa B v K) (hx:C9 wa B x.vR x.t.regs∧FR wa B x.vB x.t.body) (hg:wa.grownBy w5 v.ownBlock) (hr:w5.ownsRow B 41 4 v5 (K.length+1) (K.flatMap EQ++EQ x)):DY w5 B v5 (K++[x]):=by
 have hA:Av (fun q=>v.ownBlock=some q) wa B [9,44,46]:=fun q cs T hB hh hT hP=>by
  obtain⟨_,cs',h'⟩:=AM h.row q hP
  rw[h']at hh
  simp at hh
  rw[←hh.2]at hT
  revert hT
  decide
 have hk:AG (fun q=>v.ownBlock=some q) wa w5:=AG.grown hg
 refine⟨by rw[List.length_append,List.flatMap_append];simpa using hr,fun y hy=>?_⟩
 rcases List.mem_append.1 hy with hy|hy
 ·exact⟨(h.sub y hy).1.keepT hk (hA.sub (by simp)),(h.sub y hy).2.keepT hk (hA.sub (by simp))⟩
 ·simp at hy;subst hy;exact⟨hx.1.keepT hk (hA.sub (by simp)),hx.2.keepT hk (hA.sub (by simp))⟩
def IY (t:Thr):Prop:=t.regs.length≤10000∧t.body.length≤10000∧∀y∈t.body,y.e.length≤10000∧y.f.length≤10000
set_option maxRecDepth 100000 in
set_option maxHeartbeats 8000000 in
theorem QFP {K:List Tv} {v:Value} {w:World} {B:Nat} (h:DY w B v K) (hl:K.length≤10000) (hs:∀x∈K,IY x.t):
  Calls Tryz.prog 38 #[v,.func (.func 39) #[] #[]] w (fun e w'=>∃u,e=.returned u∧FT w' w.heap.size u (K.map (fun x=>Br x.t))∧Below w.heap.size w w'):=by
 obtain⟨i0,hi0,hz0,hz1,hz2⟩:=info_parts QCO
 have HZ:=AA (show Tryz.prog.info? 41=some i0∧i0.zero=some (.agg #[.string ⟨#[]⟩,.slice none 0 0,.slice none 0 0,.int .i64 0])∧i0.size=4∧i0.bytes=72 from⟨hi0,hz0,hz1,hz2⟩)
 have HO:=AA h
 have HS:=AA hs
 obtain⟨A,c,rfl,hc,hm1,hr1⟩:=h.reads
 clear hi0 hz0 hz1 hz2 hr1 h hs
 go_enter Tryz.func38,Tryz.ntmps38
 go_wp2_with fail
 go_loopw [5,10] (fun all i wr=>∃(k:Nat) (K':List Tv),k≤K.length∧i=.int .i64 k∧Below w.heap.size w wr∧DY wr w.heap.size all K'∧K'.map (·.t)=(K.take k).map (fun x=>Br x.t)) (fun _ i _=>K.length-(intOf i).toNat)
 case atStart=>exact⟨0,[],Nat.zero_le _,rfl,Below.refl _ _,⟨World.ownsRow_nil _ _ _ _,fun x h=>by cases h⟩,rfl⟩
 case round=>
  obtain⟨k,acc,hk,rfl,hbel,hacc,hmap⟩:=hrel
  have HB:=AA hbel
  have HA:=AA hacc
  have hsz:=hbel.size
  by_cases hlt:k<K.length
  ·have ha:K[k]?=some K[k]:=List.getElem?_eq_getElem hlt
   have hin:=List.getElem_mem hlt
   generalize K[k]=a at *
   have HT:Hid ((acc.map (·.t))++[Br a.t]=(K.take (k+1)).map (fun x=>Br x.t)):=AA (by rw[List.take_add_one,ha,List.map_append,hmap];rfl)
   have HN:Hid (acc.length=k):=AA (by have:=congrArg List.length hmap;simp at this;omega)
   have hA:=(Below.refl wr.heap.size wr).alloc (Nat.le_refl _) (.cells #[.string ⟨a.t.name.toArray⟩,a.vR,a.vB,.int .i64 a.t.pl] 41)
   have hsub:=(HO.out.on hbel).sub a hin
   have HC:=AA (QCN a (hsub.1.on hA) (hsub.2.keepT (AG.of (P:=fun _=>False) hA) Av.none) (HS.out a hin).1 (HS.out a hin).2.1 (HS.out a hin).2.2)
   have HAL:=AA hA
   obtain⟨A2,c2,hv,_,_,hr⟩:=(HO.out.on hbel).reads
   obtain⟨rfl,_,rfl⟩:A=A2∧True∧c=c2:=by simpa using hv
   obtain⟨g,rfl, -,hg,x0,x1,x2,x3⟩:=hr k a ha
   obtain⟨AE,cE,eE, -, -, -⟩:=hsub.1.reads
   obtain⟨AF,cF,eF⟩:=hsub.2.slice
   rw[eE]at x1 HC HAL
   rw[eF]at x2 HC HAL
   obtain⟨A3,c3,rfl, -, -, -⟩:=hacc.reads
   clear ha hr hv hbel hacc hmap hin eE eF hA hsub
   go_wp2_with fail
   refine HC.out.mono ?_
   rintro e w1 ⟨u1,u2,rfl,hu1,hu2,hb⟩
   have HB1:=AA ((AC HB.out HAL.out).trans (hb.mono (AC HB.out HAL.out).size))
   have hb2:=AC HAL.out hb
   have HA1:=AA (HA.out.on hb2)
   have hws:=(AC HB.out HAL.out).size
   have HU1:=AA (hu1.base (B':=w.heap.size) hws)
   have HU2:=AA (hu2.base (B':=w.heap.size) hws)
   have hsz1:=HB1.out.size
   obtain⟨A1,n1,c1,rfl⟩:∃A n c,u1=.slice A n c:=by
    obtain⟨A,c,hv,_⟩:=AX hu1
    exact⟨A,_,c,hv⟩
   obtain⟨A2,n2,c2,rfl⟩:∃A n c,u2=.slice A n c:=by
    obtain⟨A,c,hv⟩:=hu2.slice
    exact⟨A,_,c,hv⟩
   clear hb hb2 hu1 hu2 hws
   go_wp2_with (at_builtin;refine wpList_append_own _ rfl (.tmp 14) (.tmp 18) 24 rfl w.heap.size 41 i0 (.agg #[.string ⟨#[]⟩,.slice none 0 0,.slice none 0 0,.int .i64 0]) 4 72 Tryz.underlying24 HZ.out.1 HZ.out.2.1 HZ.out.2.2.1 HZ.out.2.2.2 rfl (by decide) _ acc.length (acc.flatMap EQ) rfl ?dO ⟨w1.heap.size,0,none⟩ 1 1 [.string ⟨a.t.name.toArray⟩,.slice A1 n1 c1,.slice A2 n2 c2,.int .i64 0] (by rfl) (by rfl) ?d1 ?d2 ?d3 ?d4 ?d5 ?_)
   case dO=>exact(HA1.out.on ((Below.refl w1.heap.size w1).alloc (Nat.le_refl _) _)).row
   case d1=>exact World.news_of_block (cs:=#[.string ⟨a.t.name.toArray⟩,.slice A1 n1 c1,.slice A2 n2 c2,.int .i64 0]) (alloc_at rfl)
   case d2=>intro y hy;simp at hy;rcases hy with rfl|rfl|rfl|rfl<;>rfl
   case d3=>rw[HN.out];unfold maxLen;omega
   case d4=>rw[HN.out];omega
   case d5=>simp;omega
   intro v5 w5 hown5 hgrow5 _
   have HB5:Hid (Below w.heap.size w w5):=AA ((HB1.out.alloc hsz1 _).grown hgrow5 (by simp;omega) (fun q hq=>(AM HA1.out.row q hq).1))
   have HA5:Hid (DY w5 w.heap.size v5 (acc++[⟨Br a.t,.slice A1 n1 c1,.slice A2 n2 c2⟩])):=AA (QEA (x:=⟨Br a.t,.slice A1 n1 c1,.slice A2 n2 c2⟩) (HA1.out.on ((Below.refl w1.heap.size w1).alloc (Nat.le_refl _) _)) ⟨HU1.out.on ((Below.refl w1.heap.size w1).alloc (Nat.le_refl _) _),HU2.out.keepT (AG.of (P:=fun _=>False) ((Below.refl w1.heap.size w1).alloc (Nat.le_refl _) _)) Av.none⟩ hgrow5 hown5)
   obtain⟨A5,n5,c5,rfl⟩:∃A n c,v5=.slice A n c:=by
    obtain⟨A,c,hv,_⟩:=AX hown5
    exact⟨A,_,c,hv⟩
   clear hown5 hgrow5
   go_wp2_with fail
   go_roundw
   case rel=>exact⟨k+1,_,by omega,by go_num,HB5.out,HA5.out,by rw[←HT.out,List.map_append];rfl⟩
   case measure=>simp[intOf];omega
  ·have hkk:K.take k=K:=List.take_of_length_le (by omega)
   rw[hkk]at hmap
   have HM:=AA hmap
   clear hbel hacc hmap hkk
   go_wp2_with fail
   go_ret
   exact⟨_,rfl,⟨acc,HA.out,HM.out⟩,HB.out⟩
theorem R9 {M:List Thr} {v:Value} {w:World} {B:Nat} (h:FT w B v M) (hl:M.length≤10000) (hs:∀x∈M,IY x):
  Calls Tryz.prog 38 #[v,.func (.func 39) #[] #[]] w (fun e w'=>∃u,e=.returned u∧FT w' w.heap.size u (M.map Br)∧Below w.heap.size w w'):=by
 obtain⟨K,hK,rfl⟩:=h
 have:=QFP hK (by rw[List.length_map]at hl;exact hl) (fun x hx=>hs _ (List.mem_map_of_mem hx))
 rw[List.map_map]
 exact this
theorem QCP:(Tryz.prog.info? 23).map (fun i=>(i.zero,i.size,i.bytes))=some (some (.slice none 0 0),1,24):=by kernel_rfl
theorem QEB {wa w5:World} {B:Nat} {v v5:Value} {K:List Lv} {x:Lv} (h:E9 wa B v K) (hx:CX wa B x.v x.l) (hg:wa.grownBy w5 v.ownBlock) (hr:w5.ownsRow B 23 1 v5 (K.length+1) (K.map (·.v)++[x.v])):E9 w5 B v5 (K++[x]):=by
 have hA:Av (fun q=>v.ownBlock=some q) wa B [48]:=fun q cs T hB hh hT hP=>by
  obtain⟨_,cs',h'⟩:=AM h.row q hP
  rw[h']at hh
  simp only[List.mem_singleton]at hT
  subst hT
  simp at hh
 have hk:AG (fun q=>v.ownBlock=some q) wa w5:=AG.grown hg
 refine⟨by rw[List.length_append,List.map_append];exact hr,fun y hy=>?_⟩
 rcases List.mem_append.1 hy with hy|hy
 ·exact(h.sub y hy).keepT hk hA
 ·simp at hy;subst hy;exact hx.keepT hk hA
set_option maxRecDepth 100000 in
set_option maxHeartbeats 8000000 in
theorem QFS {K:List Lv} {v:Value} {w:World} {B:Nat} (h:E9 w B v K) (hl:K.length≤10000) (hs:∀x∈K,x.l.length≤10000):
  Calls Tryz.prog 36 #[v,.func (.func 37) #[] #[]] w (fun e w'=>∃u,e=.returned u∧Ip w' w.heap.size u (K.map (fun x=>x.l.map bareCel))∧Below w.heap.size w w'):=by
 obtain⟨i0,hi0,hz0,hz1,hz2⟩:=info_parts QCP
 have HZ:=AA (show Tryz.prog.info? 23=some i0∧i0.zero=some (.slice none 0 0)∧i0.size=1∧i0.bytes=24 from⟨hi0,hz0,hz1,hz2⟩)
 have HO:=AA h
 have HS:=AA hs
 obtain⟨A,c,rfl,hc,hm1,hr1⟩:=h.reads
 clear hi0 hz0 hz1 hz2 hr1 h hs
 go_enter Tryz.func36,Tryz.ntmps36
 go_wp2_with fail
 go_loopw [5,10] (fun all i wr=>∃(k:Nat) (K':List Lv),k≤K.length∧i=.int .i64 k∧Below w.heap.size w wr∧E9 wr w.heap.size all K'∧K'.map (·.l)=(K.take k).map (fun x=>x.l.map bareCel)) (fun _ i _=>K.length-(intOf i).toNat)
 case atStart=>exact⟨0,[],Nat.zero_le _,rfl,Below.refl _ _,⟨World.ownsRow_nil _ _ _ _,fun x h=>by cases h⟩,rfl⟩
 case round=>
  obtain⟨k,acc,hk,rfl,hbel,hacc,hmap⟩:=hrel
  have HB:=AA hbel
  have HA:=AA hacc
  have hsz:=hbel.size
  by_cases hlt:k<K.length
  ·have ha:K[k]?=some K[k]:=List.getElem?_eq_getElem hlt
   have hin:=List.getElem_mem hlt
   generalize K[k]=a at *
   have HT:Hid ((acc.map (·.l))++[a.l.map bareCel]=(K.take (k+1)).map (fun x=>x.l.map bareCel)):=AA (by rw[List.take_add_one,ha,List.map_append,hmap];rfl)
   have HN:Hid (acc.length=k):=AA (by have:=congrArg List.length hmap;simp at this;omega)
   have HC:=AA (Tz ((HO.out.on hbel).sub a hin) (HS.out a hin))
   obtain⟨A2,c2,hv,_,_,hr⟩:=(HO.out.on hbel).reads
   obtain⟨rfl,_,rfl⟩:A=A2∧True∧c=c2:=by simpa using hv
   obtain⟨g,rfl, -,hg,x0⟩:=hr k a ha
   obtain⟨A3,c3,rfl, -, -, -⟩:=hacc.reads
   clear ha hr hv hbel hacc hmap hin
   go_wp2_with fail
   refine HC.out.mono ?_
   rintro e w1 ⟨u,rfl,hu,hb⟩
   have HB1:=AA (AC HB.out hb)
   have HA1:=AA (HA.out.on hb)
   have HU1:=AA (hu.base hsz)
   have hsz1:=HB1.out.size
   obtain⟨Au,cu,rfl, -, -, -⟩:=hu.reads
   generalize(a.l.map bareCel).length=nu at *
   clear hb hu
   go_wp2_with (at_builtin;refine wpList_append_own _ rfl (.tmp 14) (.tmp 18) 22 rfl w.heap.size 23 i0 (.slice none 0 0) 1 24 Tryz.underlying22 HZ.out.1 HZ.out.2.1 HZ.out.2.2.1 HZ.out.2.2.2 rfl (by decide) _ acc.length (acc.map (·.v)) rfl ?dO ⟨w1.heap.size,0,none⟩ 1 1 [.slice Au nu cu] (by rfl) (by rfl) ?d1 ?d2 ?d3 ?d4 ?d5 ?_)
   case dO=>exact(HA1.out.on ((Below.refl w1.heap.size w1).alloc (Nat.le_refl _) _)).row
   case d1=>exact World.news_of_block (cs:=#[.slice Au nu cu]) (alloc_at rfl)
   case d2=>intro y hy;simp at hy;subst hy;rfl
   case d3=>rw[HN.out];unfold maxLen;omega
   case d4=>rw[HN.out];omega
   case d5=>simp;omega
   intro v5 w5 hown5 hgrow5 _
   have HB5:Hid (Below w.heap.size w w5):=AA ((HB1.out.alloc hsz1 _).grown hgrow5 (by simp;omega) (fun q hq=>(AM HA1.out.row q hq).1))
   have HA5:Hid (E9 w5 w.heap.size v5 (acc++[⟨a.l.map bareCel,.slice Au nu cu⟩])):=AA (QEB (x:=⟨a.l.map bareCel,.slice Au nu cu⟩) (HA1.out.on ((Below.refl w1.heap.size w1).alloc (Nat.le_refl _) _)) (HU1.out.on ((Below.refl w1.heap.size w1).alloc (Nat.le_refl _) _)) hgrow5 hown5)
   obtain⟨A5,n5,c5,rfl⟩:∃A n c,v5=.slice A n c:=by
    obtain⟨A,c,hv,_⟩:=AX hown5
    exact⟨A,_,c,hv⟩
   clear hown5 hgrow5
   go_wp2_with fail
   go_roundw
   case rel=>exact⟨k+1,_,by omega,by go_num,HB5.out,HA5.out,by rw[←HT.out,List.map_append];rfl⟩
   case measure=>simp[intOf];omega
  ·have hkk:K.take k=K:=List.take_of_length_le (by omega)
   rw[hkk]at hmap
   have HM:=AA hmap
   clear hbel hacc hmap hkk
   go_wp2_with fail
   go_ret
   exact⟨_,rfl,⟨acc,HA.out,HM.out⟩,HB.out⟩
theorem QEC {K:List (List Cel)} {v:Value} {w:World} {B:Nat} (h:Ip w B v K) (hl:K.length≤10000) (hs:∀x∈K,x.length≤10000):
  Calls Tryz.prog 36 #[v,.func (.func 37) #[] #[]] w (fun e w'=>∃u,e=.returned u∧Ip w' w.heap.size u (K.map (·.map bareCel))∧Below w.heap.size w w'):=by
 obtain⟨K',hK,rfl⟩:=h
 have:=QFS hK (by rw[List.length_map]at hl;exact hl) (fun x hx=>hs _ (List.mem_map_of_mem hx))
 rw[List.map_map]
 exact this
set_option maxRecDepth 100000 in
set_option maxHeartbeats 4000000 in
theorem eqC {K M:List Cel} {v1 v2:Value} {w:World} {B1 B2:Nat} (q:Cel→Cel→Bool) (h1:CX w B1 v1 K) (h2:CX w B2 v2 M) (hl:K.length≤10000)
  (hF:∀a∈K,∀b∈M,∀w',Below w.heap.size w w'→Calls Tryz.prog 124 #[.agg #[.string ⟨a.name.toArray⟩,.int .i64 a.n,.int .i64 a.pl],.agg #[.string ⟨b.name.toArray⟩,.int .i64 b.n,.int .i64 b.pl]] w' (AN (q a b) w')):Calls Tryz.prog 123 #[v1,v2,.func (.func 124) #[] #[]] w (AN (Ad q K M) w):=by
 have HR1:=AA h1
 have HR2:=AA h2
 have HF:=AA hF
 obtain⟨A,c,rfl,hc,hm1,hr1⟩:=h1.reads
 obtain⟨A',c',rfl,hc',hm2,hr2⟩:=h2.reads
 clear hr1 hr2 hF h1 h2
 by_cases hL:K.length=M.length
 ·rw[←hL]at HR2 hc'⊢
  have HL:=AA hL
  have HM:=AA (show∀k,k<K.length→k<M.length by rw[hL];exact fun _ h=>h)
  clear hL
  go_enter Tryz.func123,Tryz.ntmps123
  go_wp2_with fail
  go_loopw [17] (fun i wr=>∃k:Nat,k≤K.length∧i=.int .i64 k∧Below w.heap.size w wr∧Ad q (K.take k) (M.take k)=true) (fun i _=>K.length-(intOf i).toNat)
  case atStart=>exact⟨0,Nat.zero_le _,rfl,Below.refl _ _,rfl⟩
  case round=>
   obtain⟨k,hk,rfl,hbel,hs⟩:=hrel
   have HS:=AA hs
   have HB:=AA hbel
   have hsz:=hbel.size
   clear hs
   by_cases hlt:k<K.length
   ·have hkm:=HM.out k hlt
    have ha:K[k]?=some K[k]:=List.getElem?_eq_getElem hlt
    have hb:M[k]?=some (M[k]'hkm):=List.getElem?_eq_getElem hkm
    generalize K[k]=a at *
    generalize M[k]'hkm=b at *
    have HC:=AA (fun w' (h':Below wr.heap.size wr w')=>HF.out a (List.mem_of_getElem? ha) b (List.mem_of_getElem? hb) w' (AC HB.out h'))
    obtain⟨A2,c2,hv,_,_,hr⟩:=(HR1.out.on hbel).reads
    obtain⟨rfl,_,rfl⟩:A=A2∧True∧c=c2:=by simpa using hv
    obtain⟨A2',c2',hv',_,_,hr'⟩:=(HR2.out.on hbel).reads
    obtain⟨rfl,rfl⟩:A'=A2'∧c'=c2':=by simp only[Value.slice.injEq]at hv';exact⟨hv'.1,hv'.2.2⟩
    obtain⟨g,rfl, -,hg,x0,x1,x2⟩:=hr k a ha
    obtain⟨g',rfl, -,hg',y0,y1,y2⟩:=hr' k b hb
    have HN:=AA (fun h=>DN (q:=q) ha hb h)
    have HY:=AA (CB (q:=q) ha hb)
    clear ha hb hr hr' hv hv' hbel
    cases e1:q a b with
    |false=>
     have HE:=AA e1
     clear e1
     go_wp2_with fail
     refine(HC.out _ (BC _ _ _)).mono ?_
     rw[HE.out]
     rintro e w1 ⟨rfl,hb⟩
     have HB2:=AA (((HB.out.alloc hsz _).alloc (by simp;omega) _).trans (hb.mono (by simp;omega)))
     clear hb
     go_wp2_with fail
     go_ret
     exact⟨AH (HN.out HE.out).symm,HB2.out⟩
    |true=>
     have HE:=AA e1
     clear e1
     go_wp2_with fail
     refine(HC.out _ (BC _ _ _)).mono ?_
     rw[HE.out]
     rintro e w1 ⟨rfl,hb⟩
     have HB2:=AA (((HB.out.alloc hsz _).alloc (by simp;omega) _).trans (hb.mono (by simp;omega)))
     clear hb
     go_wp2_with fail
     go_roundw
     case rel=>exact⟨k+1,by omega,by go_num,HB2.out,by rw[HY.out,HS.out,HE.out];rfl⟩
     case measure=>simp[intOf];omega
   ·have HQ:=AA (Cf (q:=q) (by omega) HL.out HS.out)
    clear hbel
    go_wp2_with fail
    go_ret
    exact⟨AH HQ.out.symm,HB.out⟩
 ·have HQ:=AA (Ce (q:=q) hL)
  have hd:((K.length:Int) != (M.length:Int))=true:=by simp;omega
  clear hL
  go_enter Tryz.func123,Tryz.ntmps123
  go_wp2_with fail
  go_ret
  exact⟨AH HQ.out.symm,Below.refl _ _⟩
set_option maxRecDepth 100000 in
set_option maxHeartbeats 4000000 in
theorem eqL {K M:List Lv} {v1 v2:Value} {w:World} {B1 B2:Nat} (q:Lv→Lv→Bool) (h1:E9 w B1 v1 K) (h2:E9 w B2 v2 M) (hl:K.length≤10000)
  (hF:∀a∈K,∀b∈M,∀w',Below w.heap.size w w'→Calls Tryz.prog 66 #[a.v,b.v] w' (AN (q a b) w')):Calls Tryz.prog 65 #[v1,v2,.func (.func 66) #[] #[]] w (AN (Ad q K M) w):=by
 have HR1:=AA h1
 have HR2:=AA h2
 have HF:=AA hF
 obtain⟨A,c,rfl,hc,hm1,hr1⟩:=h1.reads
 obtain⟨A',c',rfl,hc',hm2,hr2⟩:=h2.reads
 clear hr1 hr2 hF h1 h2
 by_cases hL:K.length=M.length
 ·rw[←hL]at HR2 hc'⊢
  have HL:=AA hL
  have HM:=AA (show∀k,k<K.length→k<M.length by rw[hL];exact fun _ h=>h)
  clear hL
  go_enter Tryz.func65,Tryz.ntmps65
  go_wp2_with fail
  go_loopw [17] (fun i wr=>∃k:Nat,k≤K.length∧i=.int .i64 k∧Below w.heap.size w wr∧Ad q (K.take k) (M.take k)=true) (fun i _=>K.length-(intOf i).toNat)
  case atStart=>exact⟨0,Nat.zero_le _,rfl,Below.refl _ _,rfl⟩
  case round=>
   obtain⟨k,hk,rfl,hbel,hs⟩:=hrel
   have HS:=AA hs
   have HB:=AA hbel
   have hsz:=hbel.size
   clear hs
   by_cases hlt:k<K.length
   ·have hkm:=HM.out k hlt
    have ha:K[k]?=some K[k]:=List.getElem?_eq_getElem hlt
    have hb:M[k]?=some (M[k]'hkm):=List.getElem?_eq_getElem hkm
    generalize K[k]=a at *
    generalize M[k]'hkm=b at *
    have HC:=AA (fun w' (h':Below wr.heap.size wr w')=>HF.out a (List.mem_of_getElem? ha) b (List.mem_of_getElem? hb) w' (AC HB.out h'))
    obtain⟨A2,c2,hv,_,_,hr⟩:=(HR1.out.on hbel).reads
    obtain⟨rfl,_,rfl⟩:A=A2∧True∧c=c2:=by simpa using hv
    obtain⟨A2',c2',hv',_,_,hr'⟩:=(HR2.out.on hbel).reads
    obtain⟨rfl,rfl⟩:A'=A2'∧c'=c2':=by simp only[Value.slice.injEq]at hv';exact⟨hv'.1,hv'.2.2⟩
    obtain⟨g,rfl, -,hg,x0⟩:=hr k a ha
    obtain⟨g',rfl, -,hg',y0⟩:=hr' k b hb
    have HN:=AA (fun h=>DN (q:=q) ha hb h)
    have HY:=AA (CB (q:=q) ha hb)
    clear ha hb hr hr' hv hv' hbel
    cases e1:q a b with
    |false=>
     have HE:=AA e1
     clear e1
     go_wp2_with fail
     refine(HC.out _ (Below.refl _ _)).mono ?_
     rw[HE.out]
     rintro e w1 ⟨rfl,hb⟩
     have HB2:=AA (AC HB.out hb)
     clear hb
     go_wp2_with fail
     go_ret
     exact⟨AH (HN.out HE.out).symm,HB2.out⟩
    |true=>
     have HE:=AA e1
     clear e1
     go_wp2_with fail
     refine(HC.out _ (Below.refl _ _)).mono ?_
     rw[HE.out]
     rintro e w1 ⟨rfl,hb⟩
     have HB2:=AA (AC HB.out hb)
     clear hb
     go_wp2_with fail
     go_roundw
     case rel=>exact⟨k+1,by omega,by go_num,HB2.out,by rw[HY.out,HS.out,HE.out];rfl⟩
     case measure=>simp[intOf];omega
   ·have HQ:=AA (Cf (q:=q) (by omega) HL.out HS.out)
    clear hbel
    go_wp2_with fail
    go_ret
    exact⟨AH HQ.out.symm,HB.out⟩
 ·have HQ:=AA (Ce (q:=q) hL)
  have hd:((K.length:Int) != (M.length:Int))=true:=by simp;omega
  clear hL
  go_enter Tryz.func65,Tryz.ntmps65
  go_wp2_with fail
  go_ret
  exact⟨AH HQ.out.symm,Below.refl _ _⟩
set_option maxRecDepth 100000 in
set_option maxHeartbeats 4000000 in
theorem eqT {K M:List Tv} {v1 v2:Value} {w:World} {B1 B2:Nat} (q:Tv→Tv→Bool) (h1:DY w B1 v1 K) (h2:DY w B2 v2 M) (hl:K.length≤10000)
  (hF:∀a∈K,∀b∈M,∀w',Below w.heap.size w w'→Calls Tryz.prog 68 #[.agg #[.string ⟨a.t.name.toArray⟩,a.vR,a.vB,.int .i64 a.t.pl],.agg #[.string ⟨b.t.name.toArray⟩,b.vR,b.vB,.int .i64 b.t.pl]] w' (AN (q a b) w')):Calls Tryz.prog 67 #[v1,v2,.func (.func 68) #[] #[]] w (AN (Ad q K M) w):=by
 have HR1:=AA h1
 have HR2:=AA h2
 have HF:=AA hF
 obtain⟨A,c,rfl,hc,hm1,hr1⟩:=h1.reads
 obtain⟨A',c',rfl,hc',hm2,hr2⟩:=h2.reads
 clear hr1 hr2 hF h1 h2
 by_cases hL:K.length=M.length
 ·rw[←hL]at HR2 hc'⊢
  have HL:=AA hL
  have HM:=AA (show∀k,k<K.length→k<M.length by rw[hL];exact fun _ h=>h)
  clear hL
  go_enter Tryz.func67,Tryz.ntmps67
  go_wp2_with fail
  go_loopw [17] (fun i wr=>∃k:Nat,k≤K.length∧i=.int .i64 k∧Below w.heap.size w wr∧Ad q (K.take k) (M.take k)=true) (fun i _=>K.length-(intOf i).toNat)
  case atStart=>exact⟨0,Nat.zero_le _,rfl,Below.refl _ _,rfl⟩
  case round=>
   obtain⟨k,hk,rfl,hbel,hs⟩:=hrel
   have HS:=AA hs
   have HB:=AA hbel
   have hsz:=hbel.size
   clear hs
   by_cases hlt:k<K.length
   ·have hkm:=HM.out k hlt
    have ha:K[k]?=some K[k]:=List.getElem?_eq_getElem hlt
    have hb:M[k]?=some (M[k]'hkm):=List.getElem?_eq_getElem hkm
    generalize K[k]=a at *
    generalize M[k]'hkm=b at *
    have HC:=AA (fun w' (h':Below wr.heap.size wr w')=>HF.out a (List.mem_of_getElem? ha) b (List.mem_of_getElem? hb) w' (AC HB.out h'))
    obtain⟨A2,c2,hv,_,_,hr⟩:=(HR1.out.on hbel).reads
    obtain⟨rfl,_,rfl⟩:A=A2∧True∧c=c2:=by simpa using hv
    obtain⟨A2',c2',hv',_,_,hr'⟩:=(HR2.out.on hbel).reads
    obtain⟨rfl,rfl⟩:A'=A2'∧c'=c2':=by simp only[Value.slice.injEq]at hv';exact⟨hv'.1,hv'.2.2⟩
    obtain⟨g,rfl, -,hg,x0,x1,x2,x3⟩:=hr k a ha
    obtain⟨g',rfl, -,hg',y0,y1,y2,y3⟩:=hr' k b hb
    have HN:=AA (fun h=>DN (q:=q) ha hb h)
    have HY:=AA (CB (q:=q) ha hb)
    obtain⟨AR,cR,eR, -, -, -⟩:=(HR1.out.sub a (List.mem_of_getElem? ha)).1.reads
    obtain⟨AB,cB,eB⟩:=(HR1.out.sub a (List.mem_of_getElem? ha)).2.slice
    obtain⟨BR,dR,fR, -, -, -⟩:=(HR2.out.sub b (List.mem_of_getElem? hb)).1.reads
    obtain⟨BB,dB,fB⟩:=(HR2.out.sub b (List.mem_of_getElem? hb)).2.slice
    simp only[eR,eB,fR,fB]at HC x1 x2 y1 y2
    clear eR eB fR fB
    clear ha hb hr hr' hv hv' hbel
    cases e1:q a b with
    |false=>
     have HE:=AA e1
     clear e1
     go_wp2_with fail
     refine(HC.out _ (BC _ _ _)).mono ?_
     rw[HE.out]
     rintro e w1 ⟨rfl,hb⟩
     have HB2:=AA (((HB.out.alloc hsz _).alloc (by simp;omega) _).trans (hb.mono (by simp;omega)))
     clear hb
     go_wp2_with fail
     go_ret
     exact⟨AH (HN.out HE.out).symm,HB2.out⟩
    |true=>
     have HE:=AA e1
     clear e1
     go_wp2_with fail
     refine(HC.out _ (BC _ _ _)).mono ?_
     rw[HE.out]
     rintro e w1 ⟨rfl,hb⟩
     have HB2:=AA (((HB.out.alloc hsz _).alloc (by simp;omega) _).trans (hb.mono (by simp;omega)))
     clear hb
     go_wp2_with fail
     go_roundw
     case rel=>exact⟨k+1,by omega,by go_num,HB2.out,by rw[HY.out,HS.out,HE.out];rfl⟩
     case measure=>simp[intOf];omega
   ·have HQ:=AA (Cf (q:=q) (by omega) HL.out HS.out)
    clear hbel
    go_wp2_with fail
    go_ret
    exact⟨AH HQ.out.symm,HB.out⟩
 ·have HQ:=AA (Ce (q:=q) hL)
  have hd:((K.length:Int) != (M.length:Int))=true:=by simp;omega
  clear hL
  go_enter Tryz.func67,Tryz.ntmps67
  go_wp2_with fail
  go_ret
  exact⟨AH HQ.out.symm,Below.refl _ _⟩
set_option maxRecDepth 100000 in
set_option maxHeartbeats 4000000 in
theorem eqM {K M:List Cv} {v1 v2:Value} {w:World} {B1 B2:Nat} (q:Cv→Cv→Bool) (h1:ER w B1 v1 K) (h2:ER w B2 v2 M) (hl:K.length≤10000)
  (hF:∀a∈K,∀b∈M,∀w',Below w.heap.size w w'→Calls Tryz.prog 70 #[.agg #[a.vE,.int .i64 a.c.pl],.agg #[b.vE,.int .i64 b.c.pl]] w' (AN (q a b) w')):Calls Tryz.prog 69 #[v1,v2,.func (.func 70) #[] #[]] w (AN (Ad q K M) w):=by
 have HR1:=AA h1
 have HR2:=AA h2
 have HF:=AA hF
 obtain⟨A,c,rfl,hc,hm1,hr1⟩:=h1.reads
 obtain⟨A',c',rfl,hc',hm2,hr2⟩:=h2.reads
 clear hr1 hr2 hF h1 h2
 by_cases hL:K.length=M.length
 ·rw[←hL]at HR2 hc'⊢
  have HL:=AA hL
  have HM:=AA (show∀k,k<K.length→k<M.length by rw[hL];exact fun _ h=>h)
  clear hL
  go_enter Tryz.func69,Tryz.ntmps69
  go_wp2_with fail
  go_loopw [17] (fun i wr=>∃k:Nat,k≤K.length∧i=.int .i64 k∧Below w.heap.size w wr∧Ad q (K.take k) (M.take k)=true) (fun i _=>K.length-(intOf i).toNat)
  case atStart=>exact⟨0,Nat.zero_le _,rfl,Below.refl _ _,rfl⟩
  case round=>
   obtain⟨k,hk,rfl,hbel,hs⟩:=hrel
   have HS:=AA hs
   have HB:=AA hbel
   have hsz:=hbel.size
   clear hs
   by_cases hlt:k<K.length
   ·have hkm:=HM.out k hlt
    have ha:K[k]?=some K[k]:=List.getElem?_eq_getElem hlt
    have hb:M[k]?=some (M[k]'hkm):=List.getElem?_eq_getElem hkm
    generalize K[k]=a at *
    generalize M[k]'hkm=b at *
    have HC:=AA (fun w' (h':Below wr.heap.size wr w')=>HF.out a (List.mem_of_getElem? ha) b (List.mem_of_getElem? hb) w' (AC HB.out h'))
    obtain⟨A2,c2,hv,_,_,hr⟩:=(HR1.out.on hbel).reads
    obtain⟨rfl,_,rfl⟩:A=A2∧True∧c=c2:=by simpa using hv
    obtain⟨A2',c2',hv',_,_,hr'⟩:=(HR2.out.on hbel).reads
    obtain⟨rfl,rfl⟩:A'=A2'∧c'=c2':=by simp only[Value.slice.injEq]at hv';exact⟨hv'.1,hv'.2.2⟩
    obtain⟨g,rfl, -,hg,x0,x1⟩:=hr k a ha
    obtain⟨g',rfl, -,hg',y0,y1⟩:=hr' k b hb
    have HN:=AA (fun h=>DN (q:=q) ha hb h)
    have HY:=AA (CB (q:=q) ha hb)
    obtain⟨AE,cE,eE, -, -, -⟩:=(HR1.out.sub a (List.mem_of_getElem? ha)).rd
    obtain⟨BE,dE,fE, -, -, -⟩:=(HR2.out.sub b (List.mem_of_getElem? hb)).rd
    simp only[eE,fE]at HC x0 y0
    clear eE fE
    clear ha hb hr hr' hv hv' hbel
    cases e1:q a b with
    |false=>
     have HE:=AA e1
     clear e1
     go_wp2_with fail
     refine(HC.out _ (BC _ _ _)).mono ?_
     rw[HE.out]
     rintro e w1 ⟨rfl,hb⟩
     have HB2:=AA (((HB.out.alloc hsz _).alloc (by simp;omega) _).trans (hb.mono (by simp;omega)))
     clear hb
     go_wp2_with fail
     go_ret
     exact⟨AH (HN.out HE.out).symm,HB2.out⟩
    |true=>
     have HE:=AA e1
     clear e1
     go_wp2_with fail
     refine(HC.out _ (BC _ _ _)).mono ?_
     rw[HE.out]
     rintro e w1 ⟨rfl,hb⟩
     have HB2:=AA (((HB.out.alloc hsz _).alloc (by simp;omega) _).trans (hb.mono (by simp;omega)))
     clear hb
     go_wp2_with fail
     go_roundw
     case rel=>exact⟨k+1,by omega,by go_num,HB2.out,by rw[HY.out,HS.out,HE.out];rfl⟩
     case measure=>simp[intOf];omega
   ·have HQ:=AA (Cf (q:=q) (by omega) HL.out HS.out)
    clear hbel
    go_wp2_with fail
    go_ret
    exact⟨AH HQ.out.symm,HB.out⟩
 ·have HQ:=AA (Ce (q:=q) hL)
  have hd:((K.length:Int) != (M.length:Int))=true:=by simp;omega
  clear hL
  go_enter Tryz.func69,Tryz.ntmps69
  go_wp2_with fail
  go_ret
  exact⟨AH HQ.out.symm,Below.refl _ _⟩
end Go.Proofs.YthfkpalfopdmhaaGreatDoor
