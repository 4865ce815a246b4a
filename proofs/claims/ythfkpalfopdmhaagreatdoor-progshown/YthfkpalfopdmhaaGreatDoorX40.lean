/- Texts of the walk, packed. -/
import Derived.Test.YthfkpalfopdmhaaGreatDoorX18
import Derived.Test.YthfkpalfopdmhaaGreatDoorX28
import Derived.Test.YthfkpalfopdmhaaGreatDoorX32
import Derived.Test.YthfkpalfopdmhaaGreatDoorX00
namespace Go.Proofs.YthfkpalfopdmhaaGreatDoor
open Go
theorem XF (l:List UInt8) (a:Nat):(AS l a).pl≤a+l.length:=by
 revert l a
 refine ML (fun a=>?_) (fun c r a h ih=>?_) (fun c r a h h2 ih=>?_) (fun c r a h h2 h3 ih=>?_) (fun c r a h h2 h3=>?_)
 ·exact Nat.zero_le _
 ·rw[AU r a h,List.length_cons];omega
 ·rw[JO r a h h2];have e:((c::r).takeWhile IF).length≤(c::r).length:=(List.takeWhile_sublist _).length_le;rw[List.length_drop]at ih;omega
 ·rw[Gj r a h h2 h3];unfold Found.pre;by_cases hl:(Ag (c::r)).text.length≤(c::r).length
  ·rw[List.length_drop]at ih;split
   ·exact Nat.zero_le _
   ·exact Nat.le_trans ih (by omega)
  ·rw[List.drop_eq_nil_of_le (by omega)];split
   ·exact Nat.zero_le _
   ·exact Nat.zero_le _
 ·rw[JP r a h h2 h3];show a≤_;omega
theorem QBz {L:List Tok} {f:Nat} {e pl:Int} (h:GX L f=some (.bad e pl)):e≠0:=by
 unfold GX OB Ri OC Je LQ at h;rcases RS.obind_some h with⟨ls,i1,h1,h⟩|⟨_,_,h1,hh⟩
 rotate_left
 ·cases hh;exact BD (C0 true L f _) _ _ _ (Nat.zero_le _) h1
 have a1:=BD (C0 true L f _) _ _ _ (Nat.zero_le _) h1;rcases RS.obind_some h with⟨vs,i2,h2,h⟩|⟨_,_,h2,hh⟩
 rotate_left
 ·cases hh;exact BD (C0 true L f _) _ _ _ a1.2 h2
 have a2:=BD (C0 true L f _) _ _ _ a1.2 h2;rcases RS.obind_some h with⟨ks,i3,h3,h⟩|⟨_,_,h3,hh⟩
 rotate_left
 ·cases hh;exact BD (C0 false L f _) _ _ _ a2.2 h3
 have a3:=BD (C0 false L f _) _ _ _ a2.2 h3;rcases RS.obind_some h with⟨ts,i4,h4,h⟩|⟨_,_,h4,hh⟩
 rotate_left
 ·cases hh;exact BD (D8 L f) _ _ _ a3.2 h4
 have a4:=BD (D8 L f) _ _ _ a3.2 h4;rcases RS.obind_some h with⟨rs,i5,h5,h⟩|⟨_,_,h5,hh⟩
 rotate_left
 ·cases hh;exact Jk a4.2 h5
 have a5:=Jk a4.2 h5;rcases RS.obind_some h with⟨cs,i6,h6,h⟩|⟨_,_,h6,hh⟩
 rotate_left
 ·cases hh;exact BD (FG L f) _ _ _ a5.2 h6
 have h:=Option.some.inj h;unfold L9 at h;split at h
 ·unfold badR at h;cases h;split<;>decide
 ·cases h
theorem QB0 (s:List UInt8) (hl:s.length≤4000):((Bm s).err≠0∧(Bm s).p=noPg∧0≤(Bm s).pl∧(Bm s).pl≤s.length)∨((Bm s).err=0∧(Bm s).pl=0∧BP (Bm s).p=true):=by
 unfold Bm;rw[if_neg (by omega)];by_cases he:(AS s 0).err=0
 ·rw[if_pos he];have hTF:TF s.length (AS s 0).toks:=(J3 s).2;generalize(AS s 0).toks=T at *;obtain⟨r,hr⟩:=MB T;rw[hr];show((Rj r).err≠0∧_)∨_;cases r with
  |ok p j=>exact .inr ⟨rfl,rfl,Wi hl hTF hr⟩
  |bad e pl=>
   have hw:=VD hTF _ _ hr e pl rfl;exact .inl ⟨QBz hr,rfl,hw.1,hw.2⟩
 ·rw[if_neg he];refine .inl ⟨he,rfl,?_,?_⟩
  ·exact Int.natCast_nonneg _
  ·have:=XF s 0;show((AS s 0).pl:Int)≤_;omega
theorem QGl {p:Prg} (h:BP p=true) (hl:(Ek p).length≤4000):∃q,Bm (Ek p)=⟨q,0,0⟩∧BP q=true∧Gw false p q=true∧Ek q=Ek p:=by
 obtain⟨q,h1,h2⟩:=ZS h hl;have hq:BP q=true:=by
  rcases QB0 (Ek p) hl with⟨e,_⟩|⟨_,_,e⟩
  ·rw[h1]at e;exact absurd rfl e
  ·rw[h1]at e;exact e
 exact⟨q,h1,hq,ZW h2.symm,Zw h hq h2⟩
end Go.Proofs.YthfkpalfopdmhaaGreatDoor
namespace Go.Proofs.YthfkpalfopdmhaaGreatDoor
open Go.RowKit
theorem Z0 {K:List Sv} {i j:Nat} {x:Sv} (h:K[i]?=some x) (hj:j<9):(CC K)[i*9+j]?=(Be x)[j]?:=by
 obtain⟨hi,rfl⟩:=List.getElem?_eq_some_iff.1 h;have e:K=K.take i++([K[i]]++K.drop (i+1)):=by
  rw[List.singleton_append,←List.drop_eq_getElem_cons hi,List.take_append_drop]
 have hl:(CC (K.take i)).length=i*9:=by rw[J6,List.length_take,Nat.min_eq_left (by omega)]
 have e1:CC [K[i]]=Be K[i]:=by simp[CC]
 have hx:(Be K[i]).length=9:=rfl
 conv=>lhs;rw[e,E6,E6,e1]
 rw[List.getElem?_append_right (by omega),hl,Nat.add_sub_cancel_left,List.getElem?_append_left (by omega)]
theorem Fh.read {w:World} {B:Nat} {v:Value} {M:List Stm} (h:Fh w B v M):BI w v M:=by
 obtain⟨K,hM,⟨hl,hr⟩,hrd⟩:=h;have hlen:M.length=K.length:=by rw[←hM,List.length_map]
 rcases hr with⟨rfl,h0⟩|⟨g,cap,cur,rfl,hB,hh,hc,hm,hs,ht⟩
 ·have:M=[]:=List.eq_nil_of_length_eq_zero (by omega);subst this;exact V9 w
 ·refine⟨some ⟨g,0,none⟩,cap,by rw[hlen],by rw[hlen];exact hc,hm,fun i t hi=>?_⟩;rw[←hM,List.getElem?_map]at hi;cases hK:K[i]? with
  |none=>rw[hK]at hi;cases hi
  |some x=>
   rw[hK]at hi;obtain rfl:x.s=t:=Option.some.inj hi;obtain⟨r1,r2⟩:=hrd x (List.mem_of_getElem? hK);obtain⟨AE,cE,hvE,q1⟩:=r1.rd;obtain⟨AF,cF,hvF,q2⟩:=r2.rd;have hiK:=(List.getElem?_eq_some_iff.1 hK).1;have hc9:∀j u,j<9→(Be x)[j]?=some u→w.cell? ⟨g,0+i*9+j,none⟩=some u:=by
    intro j u hj hu;rw[Nat.zero_add,Lib.cell_of_heap hh];have h1:=Z0 hK hj;rw[hu,←ht,List.getElem?_take,if_pos (by have:=Nat.mul_le_mul_right 9 hiK;omega),Array.getElem?_toList]at h1;exact h1
   refine⟨g,0,AE,x.s.e.length,cE,AF,x.s.f.length,cF,rfl,(Array.getElem?_eq_some_iff.1 hh).1,hc9 0 _ (by omega) rfl,hc9 1 _ (by omega) rfl,hc9 2 _ (by omega) rfl,?_,?_,hc9 5 _ (by omega) rfl,hc9 6 _ (by omega) rfl,hc9 7 _ (by omega) rfl,hc9 8 _ (by omega) rfl,?_,?_⟩
   ·rw[←hvE];exact hc9 3 _ (by omega) rfl
   ·rw[←hvF];exact hc9 4 _ (by omega) rfl
   ·rw[←hvE];exact r1.rd
   ·rw[←hvF];exact r2.rd
set_option maxRecDepth 100000 in
set_option maxHeartbeats 2000000 in
theorem QDp {F:Nat} (eg:Enters F) {q:Bool} {bx:Nat} {w:World} {x:Lv} (hbx:w.cell? ⟨bx,0,none⟩=some (.func (.func F) #[] #[])) (_hl:bx<w.heap.size)
  (hF:∀w',Below w.heap.size w w'→Calls Tryz.prog F #[x.v] w' (AN q w')):Calls Tryz.prog 100 #[x.v,.pointer (some ⟨bx,0,none⟩)] w (AN (!q) w):=by
 unfold Enters at eg;have HF:=AA hF;clear hF;go_enter Tryz.func100,Tryz.ntmps100;go_wp2_with fail
 refine(HF.out _ (Below.refl _ _)).mono ?_;rintro e w1 ⟨rfl,hb⟩;have HB:=AA hb;clear hb;go_wp2_with fail
 go_ret;exact⟨rfl,HB.out⟩
set_option maxRecDepth 100000 in
set_option maxHeartbeats 2000000 in
theorem QDq {F:Nat} (eg:Enters F) {p:List Cel→Bool} {L:List Lv} {v:Value} {w:World} {B bx:Nat} (h:E9 w B v L) (hl:L.length≤100000) (hbx:w.cell? ⟨bx,0,none⟩=some (.func (.func F) #[] #[])) (hlb:bx<w.heap.size)
  (hF:∀x∈L,∀w',Below w.heap.size w w'→Calls Tryz.prog F #[x.v] w' (AN (p (x.l)) w')):Calls Tryz.prog 149 #[v,.func (.func 100) #[] #[.pointer (some ⟨bx,0,none⟩)]] w (QT (!L.all (fun x=>p (x.l))) w):=by
 have HF:=AA hF;have HO:=AA h;have HG:=AA eg;have HX:=AA hbx;obtain⟨A,c,hv,hc,hm,hr⟩:=h.reads;subst hv;clear hr hF eg hbx;go_enter Tryz.func149,Tryz.ntmps149;go_wp2_with fail
 go_loopw [8] (fun i wr=>∃k:Nat,k≤L.length∧i=.int .i64 k∧(L.take k).all (fun x=>p (x.l))=true∧Below w.heap.size w wr) (fun i _=>L.length-(intOf i).toNat)
 case atStart=>exact⟨0,Nat.zero_le _,rfl,rfl,Below.refl _ _⟩
 case round=>
  obtain⟨k,hk,rfl,ha,hb⟩:=hrel;have HA:=AA ha;have HB:=AA hb;clear ha;by_cases hlt:k<L.length
  ·have hat:L[k]?=some L[k]:=List.getElem?_eq_getElem hlt;have hin:=List.getElem_mem hlt;generalize L[k]=a at *;obtain⟨A',c',hv',_,_,hr'⟩:=(HO.out.on hb).reads;obtain⟨rfl,_,rfl⟩:A=A'∧True∧c=c':=by simpa using hv'
   obtain⟨g,rfl,hgB,hg,x0⟩:=hr' k a hat;clear hr' hv' hgB;have HC:Hid (Calls Tryz.prog 100 #[a.v,.pointer (some ⟨bx,0,none⟩)] wr (AN (!p (a.l)) wr)):=AA (QDp HG.out ((hb.cell (p:=⟨bx,0,none⟩) hlb).trans HX.out) (by have:=hb.size;omega) (fun w' h'=>HF.out a hin w' (AC hb h')));clear hb;cases hw:p (a.l)with
   |true=>
    have HN:=AA (QR (p:=fun x=>p (x.l)) hat HA.out hw);have HW:=AA hw;clear hat hw;go_wp2_with fail
    refine HC.out.mono ?_;rw[HW.out];rintro e w1 ⟨rfl,hb⟩;have HB2:=AA (AC HB.out hb);clear hb;go_wp2_with fail
    go_roundw;case rel=>exact⟨k+1,by omega,by go_num,HN.out,HB2.out⟩
    case measure=>simp[intOf];omega
   |false=>
    have HN:=AA (QS (p:=fun x=>p (x.l)) hat hw);have HW:=AA hw;clear hat hw;go_wp2_with fail
    refine HC.out.mono ?_;rw[HW.out];rintro e w1 ⟨rfl,hb⟩;have HB2:=AA (AC HB.out hb);clear hb;go_wp2_with fail
    go_ret;exact⟨k,rfl,by rw[HN.out];simp,HB2.out⟩
  ·go_wp2_with fail
   go_ret;have h1:=HA.out;rw[List.take_of_length_le (by omega)]at h1;exact⟨-1,rfl,by rw[h1];rfl,HB.out⟩
set_option maxRecDepth 100000 in
set_option maxHeartbeats 2000000 in
theorem QB8 {F:Nat} (eg:Enters F) {p:List Cel→Bool} {L:List Lv} {v:Value} {w:World} {B bx:Nat} (h:E9 w B v L) (hl:L.length≤100000) (hbx:w.cell? ⟨bx,0,none⟩=some (.func (.func F) #[] #[])) (hlb:bx<w.heap.size)
  (hF:∀x∈L,∀w',Below w.heap.size w w'→Calls Tryz.prog F #[x.v] w' (AN (p (x.l)) w')):Calls Tryz.prog 99 #[v,.func (.func 100) #[] #[.pointer (some ⟨bx,0,none⟩)]] w (AN (!L.all (fun x=>p (x.l))) w):=by
 have HI:=AA (QDq eg h hl hbx hlb hF);clear h hF eg hbx;go_enter Tryz.func99,Tryz.ntmps99;go_wp2_with fail
 refine HI.out.mono ?_;rintro e w1 ⟨n,rfl,hn,hb⟩;have HB:=AA hb;have HN:=AA hn;clear hb hn;go_wp2_with fail
 go_ret;exact⟨AH HN.out,HB.out⟩
set_option maxRecDepth 100000 in
set_option maxHeartbeats 2000000 in
theorem QDr {F:Nat} (eg:Enters F) (p:List Cel→Bool) {L:List Lv} {v:Value} {w:World} {B:Nat} (h:E9 w B v L) (hl:L.length≤100000)
  (hF:∀x∈L,∀w',Below w.heap.size w w'→Calls Tryz.prog F #[x.v] w' (AN (p (x.l)) w')):Calls Tryz.prog 42 #[v,.func (.func F) #[] #[]] w (AN (L.all (fun x=>p (x.l))) w):=by
 have HB0:Hid (Below w.heap.size w (w.alloc (.cells #[.func (.func F) #[] #[]] 80))):=AA ((Below.refl _ _).alloc (Nat.le_refl _) _);have HI:Hid (Calls Tryz.prog 99 #[v,.func (.func 100) #[] #[.pointer (some ⟨w.heap.size,0,none⟩)]] (w.alloc (.cells #[.func (.func F) #[] #[]] 80)) (AN (!L.all (fun x=>p (x.l))) (w.alloc (.cells #[.func (.func F) #[] #[]] 80)))):=
  AA (QB8 eg (h.on HB0.out) hl (by simp) (by simp) (fun x hx w' h'=>hF x hx w' (AC HB0.out h')))
 clear h hF eg;go_enter Tryz.func42,Tryz.ntmps42;go_wp2_with fail
 refine HI.out.mono ?_;rintro e w1 ⟨rfl,hb⟩;have HB:=AA (AC HB0.out hb);clear hb;go_wp2_with fail
 go_ret;exact⟨AH (by simp),HB.out⟩
set_option maxRecDepth 100000 in
set_option maxHeartbeats 2000000 in
theorem QDu {F:Nat} (eg:Enters F) {q:Bool} {bx:Nat} {w:World} {x:Cv} (hbx:w.cell? ⟨bx,0,none⟩=some (.func (.func F) #[] #[])) (hl:bx<w.heap.size)
  (hF:∀w',Below w.heap.size w w'→Calls Tryz.prog F #[.agg #[x.vE,.int .i64 x.c.pl]] w' (AN q w')):Calls Tryz.prog 109 #[.agg #[x.vE,.int .i64 x.c.pl],.pointer (some ⟨bx,0,none⟩)] w (AN (!q) w):=by
 unfold Enters at eg;have HF:=AA hF;clear hF;go_enter Tryz.func109,Tryz.ntmps109;go_wp2_with fail
 refine(HF.out _ ((Below.refl _ _).alloc (Nat.le_refl _) _)).mono ?_;rintro e w1 ⟨rfl,hb⟩;have HB:=AA (Gm hb);clear hb;go_wp2_with fail
 go_ret;exact⟨rfl,HB.out⟩
set_option maxRecDepth 100000 in
set_option maxHeartbeats 2000000 in
theorem QDv {F:Nat} (eg:Enters F) {p:Clm→Bool} {L:List Cv} {v:Value} {w:World} {B bx:Nat} (h:ER w B v L) (hl:L.length≤100000) (hbx:w.cell? ⟨bx,0,none⟩=some (.func (.func F) #[] #[])) (hlb:bx<w.heap.size)
  (hF:∀x∈L,∀w',Below w.heap.size w w'→Calls Tryz.prog F #[.agg #[x.vE,.int .i64 x.c.pl]] w' (AN (p (x.c)) w')):Calls Tryz.prog 156 #[v,.func (.func 109) #[] #[.pointer (some ⟨bx,0,none⟩)]] w (QT (!L.all (fun x=>p (x.c))) w):=by
 have HF:=AA hF;have HO:=AA h;have HG:=AA eg;have HX:=AA hbx;obtain⟨A,c,hv,hc,hm,hr⟩:=h.reads;subst hv;clear hr hF eg hbx;go_enter Tryz.func156,Tryz.ntmps156;go_wp2_with fail
 go_loopw [8] (fun i wr=>∃k:Nat,k≤L.length∧i=.int .i64 k∧(L.take k).all (fun x=>p (x.c))=true∧Below w.heap.size w wr) (fun i _=>L.length-(intOf i).toNat)
 case atStart=>exact⟨0,Nat.zero_le _,rfl,rfl,Below.refl _ _⟩
 case round=>
  obtain⟨k,hk,rfl,ha,hb⟩:=hrel;have HA:=AA ha;have HB:=AA hb;clear ha;by_cases hlt:k<L.length
  ·have hat:L[k]?=some L[k]:=List.getElem?_eq_getElem hlt;have hin:=List.getElem_mem hlt;generalize L[k]=a at *;obtain⟨A',c',hv',_,_,hr'⟩:=(HO.out.on hb).reads;obtain⟨rfl,_,rfl⟩:A=A'∧True∧c=c':=by simpa using hv'
   obtain⟨g,rfl,hgB,hg,x0,x1⟩:=hr' k a hat;clear hr' hv' hgB;have HC:Hid (Calls Tryz.prog 109 #[.agg #[a.vE,.int .i64 a.c.pl],.pointer (some ⟨bx,0,none⟩)] wr (AN (!p (a.c)) wr)):=AA (QDu HG.out ((hb.cell (p:=⟨bx,0,none⟩) hlb).trans HX.out) (by have:=hb.size;omega) (fun w' h'=>HF.out a hin w' (AC hb h')));clear hb;cases hw:p (a.c)with
   |true=>
    have HN:=AA (QR (p:=fun x=>p (x.c)) hat HA.out hw);have HW:=AA hw;clear hat hw;go_wp2_with fail
    refine HC.out.mono ?_;rw[HW.out];rintro e w1 ⟨rfl,hb⟩;have HB2:=AA (AC HB.out hb);clear hb;go_wp2_with fail
    go_roundw;case rel=>exact⟨k+1,by omega,by go_num,HN.out,HB2.out⟩
    case measure=>simp[intOf];omega
   |false=>
    have HN:=AA (QS (p:=fun x=>p (x.c)) hat hw);have HW:=AA hw;clear hat hw;go_wp2_with fail
    refine HC.out.mono ?_;rw[HW.out];rintro e w1 ⟨rfl,hb⟩;have HB2:=AA (AC HB.out hb);clear hb;go_wp2_with fail
    go_ret;exact⟨k,rfl,by rw[HN.out];simp,HB2.out⟩
  ·go_wp2_with fail
   go_ret;have h1:=HA.out;rw[List.take_of_length_le (by omega)]at h1;exact⟨-1,rfl,by rw[h1];rfl,HB.out⟩
set_option maxRecDepth 100000 in
set_option maxHeartbeats 2000000 in
theorem QCA {F:Nat} (eg:Enters F) {p:Clm→Bool} {L:List Cv} {v:Value} {w:World} {B bx:Nat} (h:ER w B v L) (hl:L.length≤100000) (hbx:w.cell? ⟨bx,0,none⟩=some (.func (.func F) #[] #[])) (hlb:bx<w.heap.size)
  (hF:∀x∈L,∀w',Below w.heap.size w w'→Calls Tryz.prog F #[.agg #[x.vE,.int .i64 x.c.pl]] w' (AN (p (x.c)) w')):Calls Tryz.prog 108 #[v,.func (.func 109) #[] #[.pointer (some ⟨bx,0,none⟩)]] w (AN (!L.all (fun x=>p (x.c))) w):=by
 have HI:=AA (QDv eg h hl hbx hlb hF);clear h hF eg hbx;go_enter Tryz.func108,Tryz.ntmps108;go_wp2_with fail
 refine HI.out.mono ?_;rintro e w1 ⟨n,rfl,hn,hb⟩;have HB:=AA hb;have HN:=AA hn;clear hb hn;go_wp2_with fail
 go_ret;exact⟨AH HN.out,HB.out⟩
set_option maxRecDepth 100000 in
set_option maxHeartbeats 2000000 in
theorem QDw {F:Nat} (eg:Enters F) (p:Clm→Bool) {L:List Cv} {v:Value} {w:World} {B:Nat} (h:ER w B v L) (hl:L.length≤100000)
  (hF:∀x∈L,∀w',Below w.heap.size w w'→Calls Tryz.prog F #[.agg #[x.vE,.int .i64 x.c.pl]] w' (AN (p (x.c)) w')):Calls Tryz.prog 50 #[v,.func (.func F) #[] #[]] w (AN (L.all (fun x=>p (x.c))) w):=by
 have HB0:Hid (Below w.heap.size w (w.alloc (.cells #[.func (.func F) #[] #[]] 86))):=AA ((Below.refl _ _).alloc (Nat.le_refl _) _);have HI:Hid (Calls Tryz.prog 108 #[v,.func (.func 109) #[] #[.pointer (some ⟨w.heap.size,0,none⟩)]] (w.alloc (.cells #[.func (.func F) #[] #[]] 86)) (AN (!L.all (fun x=>p (x.c))) (w.alloc (.cells #[.func (.func F) #[] #[]] 86)))):=
  AA (QCA eg (h.on HB0.out) hl (by simp) (by simp) (fun x hx w' h'=>hF x hx w' (AC HB0.out h')))
 clear h hF eg;go_enter Tryz.func50,Tryz.ntmps50;go_wp2_with fail
 refine HI.out.mono ?_;rintro e w1 ⟨rfl,hb⟩;have HB:=AA (AC HB0.out hb);clear hb;go_wp2_with fail
 go_ret;exact⟨AH (by simp),HB.out⟩
set_option maxRecDepth 100000 in
set_option maxHeartbeats 2000000 in
theorem QDx {F:Nat} (eg:Enters F) {q:Bool} {bx:Nat} {w:World} {x:(List UInt8)} (hbx:w.cell? ⟨bx,0,none⟩=some (.func (.func F) #[] #[])) (_hl:bx<w.heap.size)
  (hF:∀w',Below w.heap.size w w'→Calls Tryz.prog F #[.string ⟨x.toArray⟩] w' (AN q w')):Calls Tryz.prog 196 #[.string ⟨x.toArray⟩,.pointer (some ⟨bx,0,none⟩)] w (AN (!q) w):=by
 unfold Enters at eg;have HF:=AA hF;clear hF;go_enter Tryz.func196,Tryz.ntmps196;go_wp2_with fail
 refine(HF.out _ (Below.refl _ _)).mono ?_;rintro e w1 ⟨rfl,hb⟩;have HB:=AA hb;clear hb;go_wp2_with fail
 go_ret;exact⟨rfl,HB.out⟩
set_option maxRecDepth 100000 in
set_option maxHeartbeats 2000000 in
theorem QDy {F:Nat} (eg:Enters F) {p:List UInt8→Bool} {L:List (List UInt8)} {v:Value} {w:World} {B bx:Nat} (h:C9 w B v L) (hl:L.length≤100000) (hbx:w.cell? ⟨bx,0,none⟩=some (.func (.func F) #[] #[])) (hlb:bx<w.heap.size)
  (hF:∀x∈L,∀w',Below w.heap.size w w'→Calls Tryz.prog F #[.string ⟨x.toArray⟩] w' (AN (p (x)) w')):Calls Tryz.prog 223 #[v,.func (.func 196) #[] #[.pointer (some ⟨bx,0,none⟩)]] w (QT (!L.all (fun x=>p (x))) w):=by
 have HF:=AA hF;have HO:=AA h;have HG:=AA eg;have HX:=AA hbx;obtain⟨A,c,hv,hc,hm,hr⟩:=h.reads;subst hv;clear hr hF eg hbx;go_enter Tryz.func223,Tryz.ntmps223;go_wp2_with fail
 go_loopw [8] (fun i wr=>∃k:Nat,k≤L.length∧i=.int .i64 k∧(L.take k).all (fun x=>p (x))=true∧Below w.heap.size w wr) (fun i _=>L.length-(intOf i).toNat)
 case atStart=>exact⟨0,Nat.zero_le _,rfl,rfl,Below.refl _ _⟩
 case round=>
  obtain⟨k,hk,rfl,ha,hb⟩:=hrel;have HA:=AA ha;have HB:=AA hb;clear ha;by_cases hlt:k<L.length
  ·have hat:L[k]?=some L[k]:=List.getElem?_eq_getElem hlt;have hin:=List.getElem_mem hlt;generalize L[k]=a at *;obtain⟨A',c',hv',_,_,hr'⟩:=(HO.out.on hb).reads;obtain⟨rfl,_,rfl⟩:A=A'∧True∧c=c':=by simpa using hv'
   obtain⟨g,rfl,hgB,hg,x0⟩:=hr' k a hat;clear hr' hv' hgB;have HC:Hid (Calls Tryz.prog 196 #[.string ⟨a.toArray⟩,.pointer (some ⟨bx,0,none⟩)] wr (AN (!p (a)) wr)):=AA (QDx HG.out ((hb.cell (p:=⟨bx,0,none⟩) hlb).trans HX.out) (by have:=hb.size;omega) (fun w' h'=>HF.out a hin w' (AC hb h')));clear hb;cases hw:p (a)with
   |true=>
    have HN:=AA (QR (p:=fun x=>p (x)) hat HA.out hw);have HW:=AA hw;clear hat hw;go_wp2_with fail
    refine HC.out.mono ?_;rw[HW.out];rintro e w1 ⟨rfl,hb⟩;have HB2:=AA (AC HB.out hb);clear hb;go_wp2_with fail
    go_roundw;case rel=>exact⟨k+1,by omega,by go_num,HN.out,HB2.out⟩
    case measure=>simp[intOf];omega
   |false=>
    have HN:=AA (QS (p:=fun x=>p (x)) hat hw);have HW:=AA hw;clear hat hw;go_wp2_with fail
    refine HC.out.mono ?_;rw[HW.out];rintro e w1 ⟨rfl,hb⟩;have HB2:=AA (AC HB.out hb);clear hb;go_wp2_with fail
    go_ret;exact⟨k,rfl,by rw[HN.out];simp,HB2.out⟩
  ·go_wp2_with fail
   go_ret;have h1:=HA.out;rw[List.take_of_length_le (by omega)]at h1;exact⟨-1,rfl,by rw[h1];rfl,HB.out⟩
set_option maxRecDepth 100000 in
set_option maxHeartbeats 2000000 in
theorem QCB {F:Nat} (eg:Enters F) {p:List UInt8→Bool} {L:List (List UInt8)} {v:Value} {w:World} {B bx:Nat} (h:C9 w B v L) (hl:L.length≤100000) (hbx:w.cell? ⟨bx,0,none⟩=some (.func (.func F) #[] #[])) (hlb:bx<w.heap.size)
  (hF:∀x∈L,∀w',Below w.heap.size w w'→Calls Tryz.prog F #[.string ⟨x.toArray⟩] w' (AN (p (x)) w')):Calls Tryz.prog 195 #[v,.func (.func 196) #[] #[.pointer (some ⟨bx,0,none⟩)]] w (AN (!L.all (fun x=>p (x))) w):=by
 have HI:=AA (QDy eg h hl hbx hlb hF);clear h hF eg hbx;go_enter Tryz.func195,Tryz.ntmps195;go_wp2_with fail
 refine HI.out.mono ?_;rintro e w1 ⟨n,rfl,hn,hb⟩;have HB:=AA hb;have HN:=AA hn;clear hb hn;go_wp2_with fail
 go_ret;exact⟨AH HN.out,HB.out⟩
set_option maxRecDepth 100000 in
set_option maxHeartbeats 2000000 in
theorem QDz {F:Nat} (eg:Enters F) (p:List UInt8→Bool) {L:List (List UInt8)} {v:Value} {w:World} {B:Nat} (h:C9 w B v L) (hl:L.length≤100000)
  (hF:∀x∈L,∀w',Below w.heap.size w w'→Calls Tryz.prog F #[.string ⟨x.toArray⟩] w' (AN (p (x)) w')):Calls Tryz.prog 154 #[v,.func (.func F) #[] #[]] w (AN (L.all (fun x=>p (x))) w):=by
 have HB0:Hid (Below w.heap.size w (w.alloc (.cells #[.func (.func F) #[] #[]] 33))):=AA ((Below.refl _ _).alloc (Nat.le_refl _) _);have HI:Hid (Calls Tryz.prog 195 #[v,.func (.func 196) #[] #[.pointer (some ⟨w.heap.size,0,none⟩)]] (w.alloc (.cells #[.func (.func F) #[] #[]] 33)) (AN (!L.all (fun x=>p (x))) (w.alloc (.cells #[.func (.func F) #[] #[]] 33)))):=
  AA (QCB eg (h.on HB0.out) hl (by simp) (by simp) (fun x hx w' h'=>hF x hx w' (AC HB0.out h')))
 clear h hF eg;go_enter Tryz.func154,Tryz.ntmps154;go_wp2_with fail
 refine HI.out.mono ?_;rintro e w1 ⟨rfl,hb⟩;have HB:=AA (AC HB0.out hb);clear hb;go_wp2_with fail
 go_ret;exact⟨AH (by simp),HB.out⟩
end Go.Proofs.YthfkpalfopdmhaaGreatDoor
namespace Go.Proofs.YthfkpalfopdmhaaGreatDoor
open Go
def sumW {α:Type} (wt:α→Nat):List α→Nat
 |[]=>0
 |a::l=>wt a+1+sumW wt l
theorem NX {α:Type} (wt:α→Nat):∀l:List α,l.length≤sumW wt l
 |[]=>Nat.le_refl _
 |a::l=>by have:=NX wt l;simp only[List.length_cons,sumW];omega
theorem Qj {α:Type} (wt:α→Nat):∀(l:List α),∀a∈l,wt a≤sumW wt l
 |[],a,h=>by cases h
 |b::l,a,h=>by
  simp only[sumW];rcases List.mem_cons.1 h with rfl|h
  ·omega
  ·have:=Qj wt l a h;omega
theorem OJ {α:Type}:∀l:List (List α),l.flatten.length≤sumW List.length l
 |[]=>Nat.le_refl _
 |a::l=>by have:=OJ l;simp only[List.flatten_cons,List.length_append,sumW];omega
theorem KI {α:Type} {wt:α→Nat} {f:α→List UInt8} {c:Nat}:∀(l:List α),(∀a∈l,(f a).length≤c*(wt a+1))→(l.flatMap f).length≤c*sumW wt l
 |[],_=>Nat.zero_le _
 |a::l,h=>by
  have h1:=h a (List.mem_cons_self ..);have h2:=KI l (fun b hb=>h b (List.mem_cons_of_mem _ hb));rw[List.flatMap_cons,List.length_append,sumW,Nat.mul_add];omega
theorem KJ {num:Bool} {L:List Tok}:∀(f i j:Nat) (l:List Cel),Bc num L f i=some (.ok l j)→i+l.length≤j:=by
 intro f
 induction f with
 |zero=>intro i j l h;cases h
 |succ f ih=>
  intro i j l h;unfold Bc at h;have ha:=Gz num L i;rcases RS.obind_some h with⟨c,k,h1,h2⟩|⟨e,p,h1,h3⟩
  ·rw[Option.some.inj h1]at ha;obtain⟨a1,a2⟩:=ha;split at h2
   ·rcases RS.obind_some h2 with⟨r',k2,h3,h4⟩|⟨e,p,h3,h4⟩
    ·simp only[Option.some.injEq,RS.ok.injEq]at h4;obtain⟨rfl,rfl⟩:=h4;have:=ih _ _ _ h3;simp only[List.length_cons];omega
    ·cases h4
   ·have am:=Ae L k [59];rcases RS.obind_some h2 with⟨r',k2,h3,h4⟩|⟨e,p,h3,h4⟩
    ·simp only[Option.some.injEq,RS.ok.injEq]at h4;obtain⟨rfl,rfl⟩:=h4;rw[Option.some.inj h3]at am;have:=am.1;simp only[List.length_cons,List.length_nil];omega
    ·cases h4
  ·cases h3
theorem Hv {α:Type} {L:List Tok} {kw:List UInt8} {p:Nat→Option (RS α)} {wt:α→Nat} (hp:∀(i:Nat) (a:α) (j:Nat),isB L i kw=true→p i=some (.ok a j)→i+(wt a+1)≤j):∀(f i j:Nat) (l:List α),Bj L kw p f i=some (.ok l j)→i+sumW wt l≤j:=by
 intro f
 induction f with
 |zero=>intro i j l h;cases h
 |succ f ih=>
  intro i j l h;unfold Bj at h;split at h
  ·rename_i hq
   rcases RS.obind_some h with⟨c,k,h1,h2⟩|⟨e,q,h1,h3⟩
   ·have ha:=hp _ _ _ hq h1;rcases RS.obind_some h2 with⟨r',k2,h3,h4⟩|⟨e,q,h3,h4⟩
    ·simp only[Option.some.injEq,RS.ok.injEq]at h4;obtain⟨rfl,rfl⟩:=h4;have:=ih _ _ _ h3;simp only[sumW];omega
    ·cases h4
   ·cases h3
  ·simp only[Option.some.injEq,RS.ok.injEq]at h;obtain⟨rfl,rfl⟩:=h;exact Nat.le_refl _
theorem XP {L:List Tok} {f i j:Nat} {l:List (List UInt8)} (h:GM L f i=some (.ok l j)):i+l.length≤j:=by
 unfold GM at h;split at h
 ·rcases RS.obind_some h with⟨c,k,h1,h2⟩|⟨e,q,h1,h3⟩
  ·simp only[Option.some.injEq,RS.ok.injEq]at h2;obtain⟨rfl,rfl⟩:=h2;have:=KJ _ _ _ _ h1;rw[List.length_map];omega
  ·cases h3
 ·simp only[Option.some.injEq,RS.ok.injEq]at h;obtain⟨rfl,rfl⟩:=h;exact Nat.le_refl _
theorem SI {L:List Tok} {f i j:Nat} {name:List UInt8} {pl:Int} {t:Thr} (h:IJ L f i name pl=some (.ok t j)):i+t.regs.length≤j:=by
 unfold IJ at h;have am:=Ae L i [123];rcases RS.obind_some h with⟨_,k,h1,h2⟩|⟨e,q,h1,h3⟩
 ·rw[Option.some.inj h1]at am;rcases RS.obind_some h2 with⟨rs,k2,h3,h4⟩|⟨e,q,h3,h4⟩
  ·have ar:=XP h3;have ar2:=Iw am.2 h3;rcases RS.obind_some h4 with⟨b,k3,h5,h6⟩|⟨e,q,h5,h6⟩
   ·have ab:=G0 ar2.2 h5;simp only[Option.some.injEq,RS.ok.injEq]at h6;obtain⟨rfl,rfl⟩:=h6;have:=am.1;have:=ab.1;simp only;omega
   ·cases h6
  ·cases h4
 ·cases h3
theorem UE {L:List Tok} {f i j:Nat} {t:Thr} (h:DT L f i=some (.ok t j)):i+(t.regs.length+1)≤j:=by
 unfold DT at h;have an:=Aq L (i+1);rcases RS.obind_some h with⟨s,k,h1,h2⟩|⟨e,q,h1,h3⟩
 ·rw[Option.some.inj h1]at an;have:=SI h2;have:=an.1;omega
 ·cases h3
theorem XQ {L:List Tok} {f j:Nat} {p:Prg} (h:GX L f=some (.ok p j)):sumW List.length p.lines≤L.length∧p.vols.length≤L.length∧p.locks.length≤L.length∧sumW (fun t:Thr=>t.regs.length) p.threads≤L.length∧
  p.recs.length≤1∧(∀t∈p.recs,t.regs.length≤L.length)∧p.claims.length≤L.length:=by
 unfold GX at h;rcases RS.obind_some h with⟨ls,i1,h1,h⟩|⟨e,q,_,h⟩;case inr=>cases h
 rcases RS.obind_some h with⟨vs,i2,h2,h⟩|⟨e,q,_,h⟩;case inr=>cases h
 rcases RS.obind_some h with⟨ks,i3,h3,h⟩|⟨e,q,_,h⟩;case inr=>cases h
 rcases RS.obind_some h with⟨ts,i4,h4,h⟩|⟨e,q,_,h⟩;case inr=>cases h
 rcases RS.obind_some h with⟨rs,i5,h5,h⟩|⟨e,q,_,h⟩;case inr=>cases h
 rcases RS.obind_some h with⟨cs,i6,h6,h⟩|⟨e,q,_,h⟩;case inr=>cases h
 unfold OB at h1;unfold Ri at h2;unfold OC at h3;unfold Je at h4;unfold LQ at h6;have a1:=BD (C0 true L f _) _ _ _ (Nat.zero_le _) h1;have a2:=BD (C0 true L f _) _ _ _ a1.2 h2;have a3:=BD (C0 false L f _) _ _ _ a2.2 h3;have a4:=BD (D8 L f) _ _ _ a3.2 h4;have a5:=Jk a4.2 h5;have a6:=BD (FG L f) _ _ _ a5.2 h6;have c1:=Hv (wt:=List.length) (fun i a j hq h=>by have:=KJ _ _ _ _ h;omega) _ _ _ _ h1;have c2:=Hv (wt:=List.length) (fun i a j hq h=>by have:=KJ _ _ _ _ h;omega) _ _ _ _ h2
 have c3:=Hv (wt:=List.length) (fun i a j hq h=>by have:=KJ _ _ _ _ h;omega) _ _ _ _ h3;have c4:=Hv (wt:=fun t:Thr=>t.regs.length) (fun i a j hq h=>UE h) _ _ _ _ h4;have c6:=Hv (wt:=fun _:Clm=>0) (fun i a j hq h=>by have:=(FG L f).ahead _ _ hq h;have:=this.1;omega) _ _ _ _ h6;have f2:=OJ vs;have f3:=OJ ks;have n6:=NX (fun _:Clm=>0) cs;have hr:rs.length≤1∧∀t∈rs,t.regs.length≤L.length:=by
  unfold KP at h5;split at h5
  ·rcases RS.obind_some h5 with⟨t,k,g1,g2⟩|⟨e,q,g1,g2⟩
   ·simp only[Option.some.injEq,RS.ok.injEq]at g2;obtain⟨rfl,rfl⟩:=g2;have:=SI g1;refine⟨Nat.le_refl _,fun t' ht=>?_⟩;rw[List.mem_singleton.1 ht];have:=a5.2;omega
   ·cases g2
  ·simp only[Option.some.injEq,RS.ok.injEq]at h5;obtain⟨rfl,rfl⟩:=h5;exact⟨Nat.zero_le _,fun t h=>by cases h⟩
 simp only[Option.some.injEq]at h;unfold L9 at h;split at h
 ·unfold badR at h;cases h
 ·simp only[RS.ok.injEq]at h;obtain⟨rfl,rfl⟩:=h;have:=a1.2;have:=a2.2;have:=a3.2;have:=a4.2;have:=a6.2;exact⟨by simp only;omega,by simp only;omega,by simp only;omega,by simp only;omega,hr.1,hr.2,by simp only;omega⟩
theorem QCY {L:List Stm} (h:CH L=true):(bodyT L).length≤100000:=by
 obtain⟨k,hk,hg,hc,_,_,ht⟩:=DX h;unfold bodyT;rw[ht];have h1:=RV k [32,32] hg;have h2:k.count*(3*([32,32]:List UInt8).length+6*k.count+2000)≤40*(3*2+6*40+2000):=Nat.mul_le_mul hc (by simp only[List.length_cons,List.length_nil];omega);simp only at h1⊢;omega
theorem VZ {c:Cel} {m:Int} (hm:m≤4294967296) (h:Aw m c=true):(EY c).length≤40:=by
 unfold Aw at h;simp only[Bool.and_eq_true,decide_eq_true_eq]at h;have hn:=EO h.1.1.1;have hi:=Lib.itoa_length_le c.n (by omega) (by omega);unfold EY;split
 ·simp;omega
 ·simp only[List.length_append,List.length_cons,List.length_nil];omega
theorem SJ:∀(l:List Cel) {m:Int},m≤4294967296→l.all (Aw m)=true→(Jd l).length≤42*l.length
 |[],_,_,_=>Nat.zero_le _
 |[c],m,hm,h=>by
  have:=VZ hm (List.all_eq_true.1 h c (by simp));simp only[Jd,List.length_cons,List.length_nil];omega
 |c::d::l,m,hm,h=>by
  have h1:=VZ hm (List.all_eq_true.1 h c (by simp));rw[List.all_cons,Bool.and_eq_true]at h;have h2:=SJ (d::l) hm h.2;simp only[Jd,List.length_append,List.length_cons,List.length_nil]at h2⊢;omega
theorem NY {wd:List UInt8} (hw:wd.length≤6) {l:List Cel} {m:Int} (hm:m≤4294967296) (h:l.all (Aw m)=true):(rowT wd l).length≤42*(l.length+1):=by
 have:=SJ l hm h;unfold rowT;simp only[List.length_append,List.length_cons,List.length_nil];omega
theorem Lm {wd:List UInt8} (hw:wd.length≤6) {l:List Cel} {m:Int} (hm:m≤4294967296) (h:l.all (Aw m)=true):(KN wd l).length≤42*(l.length+1):=by
 unfold KN;split
 ·simp
 ·exact NY hw hm h
theorem Qk:∀(l:List (List UInt8)),l.all nameB=true→(namesT l).length≤18*l.length
 |[],_=>Nat.zero_le _
 |[c],h=>by
  have:=EO (List.all_eq_true.1 h c (by simp));simp only[namesT,List.length_cons,List.length_nil];omega
 |c::d::l,h=>by
  have h1:=EO (List.all_eq_true.1 h c (by simp));rw[List.all_cons,Bool.and_eq_true]at h;have h2:=Qk (d::l) h.2;simp only[namesT,List.length_append,List.length_cons,List.length_nil]at h2⊢;omega
theorem SK {hd:List UInt8} (hh:hd.length≤30) {t:Thr} {b:Bool} (h:Bh b t=true):(Bf hd t).length≤100100*(t.regs.length+1):=by
 unfold Bh at h;simp only[Bool.and_eq_true]at h;have h1:=QCY h.1.2;have h2:=Qk _ h.2;unfold Bf Rh;have:Ir.length=3:=rfl;split<;>simp only[List.length_append,List.length_cons,List.length_nil]<;>omega
theorem QAA {c:Clm} (h:Ef c=true):(claimT c).length≤900:=by
 unfold Ef at h;simp only[Bool.and_eq_true]at h;obtain⟨x,_,h1,_,h3,h4,_⟩:=Gs h.2;have:=RQ h1 h3;unfold claimT;rw[h4];have:CG.length=6:=rfl;simp only[List.length_append,List.length_cons,List.length_nil];omega
theorem XR {p:Prg} (h:BP p=true) {n:Nat} (hn:n≤4000) (hc:sumW List.length p.lines≤n∧p.vols.length≤n∧p.locks.length≤n∧sumW (fun t:Thr=>t.regs.length) p.threads≤n∧p.recs.length≤1∧(∀t∈p.recs,t.regs.length≤n)∧p.claims.length≤n):(Gv p).length≤900000000:=by
 unfold BP at h;simp only[Bool.and_eq_true,decide_eq_true_eq]at h;obtain⟨⟨⟨⟨⟨⟨h1,h2⟩,h3⟩,h4⟩,h5⟩,h6⟩,_⟩:=h;obtain⟨c1,c2,c3,c4,c5,c6,c7⟩:=hc;have t1:=KI (wt:=List.length) (f:=rowT FX) (c:=42) p.lines (fun l hl=>by
  have:=List.all_eq_true.1 h1 l hl;unfold EC at this;simp only[Bool.and_eq_true]at this;exact NY (by decide) (m:=most32) (by decide) this.2)
 have t2:=Lm (wd:=I2) (by decide) (m:=most32) (by decide) h3;have t3:=Lm (wd:=Eo) (by decide) (m:=0) (by decide) h4;have t4:=KI (wt:=fun t:Thr=>t.regs.length) (f:=threadT) (c:=100100) p.threads (fun t ht=>by
  have hk:=List.all_eq_true.1 h5 t ht;have hn:t.name.length≤16:=by
   unfold Bh at hk;simp only[Bool.and_eq_true]at hk;exact EO hk.1.1.1
  exact SK (by simp only[List.length_append,List.length_cons];have:DJ.length=6:=rfl;omega) hk)
 have t5:(p.recs.flatMap (Bf BU)).length≤100100*(n+1):=by
  have hb:=fun t ht=>SK (hd:=BU) (by decide) (List.all_eq_true.1 h6 t ht)
  cases hr:p.recs with
  |nil=>simp
  |cons t l=>
   rw[hr]at c5 c6 hb;have hl:l=[]:=List.eq_nil_of_length_eq_zero (by simp only[List.length_cons]at c5;omega);subst hl;have h7:=hb t (by simp);have h8:=c6 t (by simp);have h9:100100*(t.regs.length+1)≤100100*(n+1):=Nat.mul_le_mul_left _ (by omega);simp only[List.flatMap_cons,List.flatMap_nil,List.append_nil];omega
 have t6:=KI (wt:=fun _:Clm=>0) (f:=claimT) (c:=900) p.claims (fun c hc=>by have:=QAA (List.all_eq_true.1 h2 c hc);omega);have s6:∀l:List Clm,sumW (fun _:Clm=>0) l=l.length:=fun l=>by
  induction l with
  |nil=>rfl
  |cons a l ih=>simp only[sumW,ih,List.length_cons];omega
 rw[s6]at t6;have m1:42*sumW List.length p.lines≤42*n:=Nat.mul_le_mul_left _ c1;have m4:100100*sumW (fun t:Thr=>t.regs.length) p.threads≤100100*n:=Nat.mul_le_mul_left _ c4;unfold Gv;simp only[List.length_append];omega
end Go.Proofs.YthfkpalfopdmhaaGreatDoor
