/- Texts of the walk, packed. -/
import Derived.Test.YthfkpalfopdmhaaGreatDoorW41
import Derived.Test.YthfkpalfopdmhaaGreatDoorW00
namespace Go.Proofs.YthfkpalfopdmhaaGreatDoor
open Go.RowKit
set_option maxRecDepth 100000 in
set_option maxHeartbeats 64000000 in
theorem PG (A:Option Addr) (n c:Nat) (R:Nat->Jj) (w:World) (hA:Vi w A n R):Calls Tryz.prog 34 #[.slice A n c] w (QFI (FI R (min n 4)) w):=by
 obtain⟨i0,hi,hz0,hz1,hz2⟩:=info_parts V9;have HZ:=AA (show Tryz.prog.info? 41=some i0/\i0.zero=some (.agg #[.string ⟨#[]⟩,.slice none 0 0,.slice none 0 0,.int .i64 0])/\i0.size=4/\i0.bytes=72 from⟨hi,hz0,hz1,hz2⟩);obtain⟨i1,hj,hy0,hy1,hy2⟩:=info_parts PU;have HY:=AA (show Tryz.prog.info? 9=some i1/\i1.zero=some (.string ⟨#[]⟩)/\i1.size=1/\i1.bytes=16 from⟨hj,hy0,hy1,hy2⟩);have HA:=AA hA;clear hi hz0 hz1 hz2 hj hy0 hy1 hy2 hA;go_enter Tryz.func34,Tryz.ntmps34;go_wp2_with fail
 go_loopw [3,4] (fun v x wr=>∃(k:Nat) (K:List Tv),k<=n/\k<=4/\x=.int .i64 k/\Ci wr w.heap.size v K/\K.map (·.t)=FI R k/\Below w.heap.size w wr) (fun _ x _=>4-(intOf x).toNat)
 case atStart=>exact⟨0,[],Nat.zero_le _,Nat.zero_le _,rfl,QA5 w,rfl,(Below.refl _ _).alloc (Nat.le_refl _) _⟩
 case round=>
  obtain⟨k,K,hkn,hk4,rfl,hown,hmap,hbel⟩:=hrel;obtain⟨wx,hwx⟩:∃x:World,x=wr:=⟨_,rfl⟩
  subst hwx;have HO:=AA hown;have HB:=AA hbel;have hsz:=hbel.size;have HKL:Hid (K.length=k):=AA (by have:=congrArg List.length hmap;rw[List.length_map,Lm]at this;exact this);have HMP:=AA hmap;obtain⟨A0,c0,rfl, -, -, -⟩:=hown.reads;by_cases hlt:k<n
  ·by_cases hl6:k<4
   ·obtain⟨b,off,hAA,hbl,y0,y1,y2,y3,hw,hs⟩:=HA.out.on hbel k hlt;subst hAA;have HS:=AA (XV R k);have HW:=AA hw;have HST:=AA hs;clear hown hmap hbel hw hs;generalize R k=r at *;have HC:=AA (fun W' (hb:Below wx.heap.size wx W')=>QCF r.AB r.nB r.cB r.RB W' (HST.out.on hb));have HX:=AA (fun W' (hb:Below wx.heap.size wx W')=>(show W'.cell? ⟨b,off+k*4,none⟩=some (.string r.name)/\W'.cell? ⟨b,off+k*4+2,none⟩=some (.slice r.AB r.nB r.cB)/\W'.cell? ⟨b,off+k*4+3,none⟩=some (.int .i64 r.pl)from
     ⟨(hb.cell (p:=⟨b,off+k*4,none⟩) hbl).trans y0,(hb.cell (p:=⟨b,off+k*4+2,none⟩) hbl).trans y2,(hb.cell (p:=⟨b,off+k*4+3,none⟩) hbl).trans y3⟩))
    have HX1:=AA (fun W' (hb:Below wx.heap.size wx W')=>(hb.cell (p:=⟨b,off+k*4+1,none⟩) hbl).trans y1);have S0:=HX.out wx (Below.refl _ _);have hk0:(0:Int)<=(k:Int):=by omega
    have hkn':(k:Int)<(n:Int):=by omega
    have hm0:(0:Int)<=min (r.name.size:Int) 40:=by omega
    have hm1:min (r.name.size:Int) 40<=(r.name.size:Int):=by omega
    have HBZ:=AA (QDQ wx);have HBF:=AA (QGi wx);clear y0 y1 y2 y3;go_upto_region 5 with(fail)
    go_cut [5]from 8 to 84 (fun t wj=>∃bb:Nat,t=.pointer (some ⟨bb,0,none⟩)/\AtT wx bb r 0 wj)
    case first=>
     go_wp2_with fail
     go_region_held3 (fun w'=>w'.cell? ⟨b,off+k*4,none⟩=some (.string r.name)/\w'.cell? ⟨b,off+k*4+2,none⟩=some (.slice r.AB r.nB r.cB)/\w'.cell? ⟨b,off+k*4+3,none⟩=some (.int .i64 r.pl)) (first|with_reducible assumption|exact S0|exact HX.out _ HBZ.out|exact HX.out _ (B1.alloc (by have:=B1.size;omega) _)|exact HX.out _ (((((B1.setCell (by exact Nat.le_refl _) _).setCell (by exact Nat.le_refl _) _).setCell (by exact Nat.le_refl _) _).setCell (by exact Nat.le_refl _) _)))
      (first
      |(go_at_call_of 91 (Value.slice r.AB r.nB r.cB);refine(HC.out _ (by exact HBZ.out)).mono ?_;rintro e1 w1 ⟨v1,rfl,o1,⟨g1,c1,rfl⟩,hb1⟩;have B1:Below wx.heap.size wx w1:=AC HBZ.out hb1;have S1:=HX.out w1 B1;have hx1:=(hb1.block wx.heap.size (QFJ wx)).trans HBF.out;have y0:w1.cell? ⟨wx.heap.size,0,none⟩=some (.string ⟨#[]⟩):=(by rw[Lib.cell_of_heap hx1];rfl);have y1:w1.cell? ⟨wx.heap.size,1,none⟩=some (.slice none 0 0):=(by rw[Lib.cell_of_heap hx1];rfl);have y2:w1.cell? ⟨wx.heap.size,2,none⟩=some (.slice none 0 0):=(by rw[Lib.cell_of_heap hx1];rfl);have y3:w1.cell? ⟨wx.heap.size,3,none⟩=some (.int .i64 0):=(by rw[Lib.cell_of_heap hx1];rfl);have z0:w1.frozen? ⟨wx.heap.size,0,none⟩=false:=Lib.frozen_of_heap hx1 0;have z1:w1.frozen? ⟨wx.heap.size,1,none⟩=false:=Lib.frozen_of_heap hx1 1;have z2:w1.frozen? ⟨wx.heap.size,2,none⟩=false:=Lib.frozen_of_heap hx1 2;have z3:w1.frozen? ⟨wx.heap.size,3,none⟩=false:=Lib.frozen_of_heap hx1 3;have ATA:=AA (QG2 B1 hx1 o1 HBZ.out.size))
      |(go_at_call_of 91 (Value.slice r.AB r.nB r.cB);refine(HC.out _ (by first|exact Below.refl _ _|exact AD _)).mono ?_;rintro e1 w1 ⟨v1,rfl,o1,⟨g1,c1,rfl⟩,hb1⟩;have B1:Below wx.heap.size wx w1:=(by first|exact hb1|exact AC (AD _) hb1);have S1:=HX.out w1 B1;have ATB:=AA (QG3 B1 o1 (Nat.le_refl _))))
     all_goals
      go_wp2_with fail
      go_meet;case rel=>first|exact⟨_,rfl,ATA.out⟩|exact⟨_,rfl,ATB.out⟩
    case rest=>
     obtain⟨bb,rfl,hat⟩:=hcut;clear HX S0 HBZ HBF hm0 hm1 HC;have HAT:=AA hat;clear hat;go_wp2_with fail
     go_loopw [6] (fun x wj=>∃j:Nat,j<=r.nR/\j<=6/\x=.int .i64 j/\AtT wx bb r j wj) (fun x _=>6-(intOf x).toNat)
     case atStart=>exact⟨0,Nat.zero_le _,Nat.zero_le _,rfl,HAT.out⟩
     case round=>
      obtain⟨j,hjn,hj6,rfl,hat⟩:=hrel;obtain⟨wj,hwj0⟩:∃x:World,x=wr:=⟨_,rfl⟩
      subst hwj0;have hjl:=OZ r.RR j;have p1:=HX1.out wj (by obtain⟨_,_,h⟩:=hat;exact h.low);have hj0:(0:Int)<=(j:Int):=by omega
      by_cases hjj:j<r.nR/\j<6
      ·obtain⟨hjlt,hj5⟩:=hjj;obtain⟨vR,vB,hbox⟩:=hat;obtain⟨b2,off2,hAR,hbl2,s0⟩:=HW.out.on hbox.low j hjlt;have HBX:=AA hbox;have HSS:=AA (fun W' (hb:Below wx.heap.size wx W')=>(show W'.cell? ⟨b,off+k*4+1,none⟩=some (.slice (some ⟨b2,off2,none⟩) r.nR r.cR)/\W'.cell? ⟨b2,off2+j,none⟩=some (.string (r.RR j).s)from
        ⟨by rw[<-hAR];exact HX1.out W' hb,by
         obtain⟨b3,off3,h1,_,h2⟩:=(HW.out.on hb) j hjlt;rw[hAR]at h1;simp only[Option.some.injEq,Addr.mk.injEq,and_true]at h1;obtain⟨rfl,rfl⟩:=h1;exact h2⟩))
       rw[hAR]at p1;have S0:=HSS.out wj hbox.low;obtain⟨A1,c1,rfl, -, -, -⟩:=hbox.regs.reads;have z1:wj.cell? ⟨bb,1,none⟩=some (.slice A1 (GK r.RR j).length c1):=by rw[Lib.cell_of_heap hbox.cs];rfl
       have f1:wj.frozen? ⟨bb,1,none⟩=false:=Lib.frozen_of_heap hbox.cs 1;rw[hjl]at z1 HBX;have hbl:bb<wj.heap.size:=(Array.getElem?_eq_some_iff.1 hbox.cs).1;have HNO:Hid (∀q,(Value.slice A1 j c1).ownBlock=some q->q≠bb):=AA (fun q hq e=>by
        obtain⟨_,cs,h5⟩:=AI HBX.out.regs q hq;rw[e,HBX.out.cs]at h5;simp at h5)
       have hrow:wj.ownsRow wx.heap.size 9 1 (.slice A1 j c1) j ((GK r.RR j).map strV):=by have h:=HBX.out.regs;unfold CS at h;rw[hjl]at h;exact h
       have HROW:=AA hrow;have hjn2:(j:Int)<(r.nR:Int):=by omega
       have hwxj:=hbox.low.size;have HWX:=AA hwxj;have BA:Below wx.heap.size wx (wj.drew.alloc (.cells #[.string ((r.RR j).s.extract 0 (min ((r.RR j).s.size:Int) 40).toNat)] 9)):=(hbox.low.trans ((AD wj).mono hbox.low.size)).alloc hbox.low.size _;have hm0:(0:Int)<=min ((r.RR j).s.size:Int) 40:=by omega
       have hm1:min ((r.RR j).s.size:Int) 40<=((r.RR j).s.size:Int):=by omega
       have HS8:Hid (wx.heap.size<=bb):=AA hbox.bx;clear hbox s0 hrow hwxj hjl p1;go_upto_region 9 with(fail)
       refine Md (fun J hJ=>?_)
       go_cut []from 43 to 80 (fun wy=>AtT wx bb r (j+1) wy)
       case first=>
        have S0d:=HSS.out _ (RN HBX.out.low);have S0A:=HSS.out ((wj.alloc (.cells #[.string ((r.RR j).s.extract 0 (min ((r.RR j).s.size:Int) 40).toNat)] 9)).drew) BA;go_wp2_with fail
        refine wp_region_held_drew (S:=(fun w'=>w'.cell? ⟨b,off+k*4+1,none⟩=some (.slice (some ⟨b2,off2,none⟩) r.nR r.cR)/\w'.cell? ⟨b2,off2+j,none⟩=some (.string (r.RR j).s))) (by kernel_rfl) (S0d) (fun hH=>?_);refine JD (v:=?_) 0 rfl (by kernel_rfl) (fun _ _ _ h=>h) hH (by rfl) ?_ ?_
        rotate_left
        ·(rintro wq ⟨s0,s1⟩;go_simp<;>with_reducible rfl)
        refine JD (v:=?_) 2 rfl (by kernel_rfl) (fun _ _ _ h=>h) hH (by rfl) ?_ ?_
        rotate_left
        ·(rintro wq ⟨s0,s1⟩;go_simp<;>with_reducible rfl)
        refine JD (v:=?_) 3 rfl (by kernel_rfl) (fun _ _ _ h=>h) hH (by rfl) ?_ ?_
        rotate_left
        ·(rintro wq ⟨s0,s1⟩;go_simp<;>with_reducible rfl)
        try simp only[Act.put,List.setIfInBounds_toArray,List.set_cons_zero,List.set_cons_succ]
        refine JD (v:=?_) 4 rfl (by kernel_rfl) (fun _ _ _ h=>h) hH (by rfl) ?_ ?_
        rotate_left
        ·(rintro wq ⟨s0,s1⟩;go_simp<;>with_reducible rfl)
        refine JD (v:=?_) 5 rfl (by kernel_rfl) (fun _ _ _ h=>h) hH (by rfl) ?_ ?_
        rotate_left
        ·(rintro wq ⟨s0,s1⟩;go_simp<;>with_reducible rfl)
        refine JD (v:=?_) 6 rfl (by kernel_rfl) (fun _ _ _ h=>h) hH (by rfl) ?_ ?_
        rotate_left
        ·(rintro wq ⟨s0,s1⟩;go_simp<;>with_reducible rfl)
        try simp only[Act.put,List.setIfInBounds_toArray,List.set_cons_zero,List.set_cons_succ]
        refine JD (v:=?_) 7 rfl (by kernel_rfl) (fun _ _ _ h=>h) hH (by rfl) ?_ ?_
        rotate_left
        ·(rintro wq ⟨s0,s1⟩;go_simp<;>with_reducible rfl)
        refine JD (v:=?_) 8 rfl (by kernel_rfl) (fun _ _ _ h=>h) hH (by rfl) ?_ ?_
        rotate_left
        ·(rintro wq ⟨s0,s1⟩;go_simp<;>with_reducible rfl)
        refine JD (v:=?_) 9 rfl (by kernel_rfl) (fun _ _ _ h=>h) hH (by rfl) ?_ ?_
        rotate_left
        ·(rintro wq ⟨s0,s1⟩;go_simp<;>with_reducible rfl)
        try simp only[Act.put,List.setIfInBounds_toArray,List.set_cons_zero,List.set_cons_succ]
        refine JD (v:=?_) 10 rfl (by kernel_rfl) (fun _ _ _ h=>h) hH (by rfl) ?_ ?_
        rotate_left
        ·(rintro wq ⟨s0,s1⟩;go_simp<;>with_reducible rfl)
        refine JD (v:=?_) 11 rfl (by kernel_rfl) (fun _ _ _ h=>h) hH (by rfl) ?_ ?_
        rotate_left
        ·(rintro wq ⟨s0,s1⟩;go_simp<;>with_reducible rfl)
        refine JD (v:=?_) 12 rfl (by kernel_rfl) (fun _ _ _ h=>h) hH (by rfl) ?_ ?_
        rotate_left
        ·(rintro wq ⟨s0,s1⟩;go_simp<;>with_reducible rfl)
        try simp only[Act.put,List.setIfInBounds_toArray,List.set_cons_zero,List.set_cons_succ]
        refine JD (v:=?_) 13 rfl (by kernel_rfl) (fun _ _ _ h=>h) hH (by rfl) ?_ ?_
        rotate_left
        ·(rintro wq ⟨s0,s1⟩;go_simp<;>with_reducible rfl)
        refine JD (v:=?_) 14 rfl (by kernel_rfl) (fun _ _ _ h=>h) hH (by rfl) ?_ ?_
        rotate_left
        ·(rintro wq ⟨s0,s1⟩;go_simp<;>with_reducible rfl)
        refine JD (v:=?_) 15 rfl (by kernel_rfl) (fun _ _ _ h=>h) hH (by rfl) ?_ ?_
        rotate_left
        ·(rintro wq ⟨s0,s1⟩;go_simp<;>with_reducible rfl)
        try simp only[Act.put,List.setIfInBounds_toArray,List.set_cons_zero,List.set_cons_succ]
        refine JD (v:=?_) 16 rfl (by kernel_rfl) (fun _ _ _ h=>h) hH (by rfl) ?_ ?_
        rotate_left
        ·(rintro wq ⟨s0,s1⟩;go_simp<;>with_reducible rfl)
        refine JD (v:=?_) 17 rfl (by kernel_rfl) (fun _ _ _ h=>h) hH (by rfl) ?_ ?_
        rotate_left
        ·(rintro wq ⟨s0,s1⟩;go_simp<;>with_reducible rfl)
        refine JD (v:=?_) 18 rfl (by kernel_rfl) (fun _ _ _ h=>h) hH (by rfl) ?_ ?_
        rotate_left
        ·(rintro wq ⟨s0,s1⟩;go_simp<;>with_reducible rfl)
        try simp only[Act.put,List.setIfInBounds_toArray,List.set_cons_zero,List.set_cons_succ]
        refine JD (v:=?_) 19 rfl (by kernel_rfl) (fun _ _ _ h=>h) hH (by rfl) ?_ ?_
        rotate_left
        ·(rintro wq ⟨s0,s1⟩;go_simp<;>with_reducible rfl)
        refine JD (v:=?_) 20 rfl (by kernel_rfl) (fun _ _ _ h=>h) hH (by rfl) ?_ ?_
        rotate_left
        ·(rintro wq ⟨s0,s1⟩;go_simp<;>with_reducible rfl)
        try simp only[Act.put,List.setIfInBounds_toArray,List.set_cons_zero,List.set_cons_succ]
        refine wpAnyH_ready (rs:=[1,21]) (by kernel_rfl) (by simp) ?_;refine AllReadyH.cons (EM rfl) (fun Kq hKq=>?_) ?_
        focus
         go_simp
         refine hKq.out _ _ ?_ (fun hH=>?_)
         ·with_reducible assumption
         clear hKq Kq;try simp only[Act.put,List.setIfInBounds_toArray,List.set_cons_zero,List.set_cons_succ]
         try simp only[Act.put,List.setIfInBounds_toArray,List.set_cons_zero,List.set_cons_succ]
         refine wpAnyH_ready (rs:=[21]) (by kernel_rfl) (by simp) ?_;refine AllReadyH.cons (EM rfl) (fun Kq hKq=>?_) ?_
         focus
          go_simp
          refine hKq.out _ _ ?_ (fun hH=>?_)
          ·with_reducible assumption
          clear hKq Kq;try simp only[Act.put,List.setIfInBounds_toArray,List.set_cons_zero,List.set_cons_succ]
          try simp only[Act.put,List.setIfInBounds_toArray,List.set_cons_zero,List.set_cons_succ]
         rotate_left
         exact AllReadyH.nil
        rotate_left
        refine AllReadyH.cons (EM rfl) (fun Kq hKq=>?_) ?_
        focus
         go_simp
         refine hKq.out _ _ ?_ (fun hH=>?_)
         ·with_reducible assumption
         clear hKq Kq;try simp only[Act.put,List.setIfInBounds_toArray,List.set_cons_zero,List.set_cons_succ]
         try simp only[Act.put,List.setIfInBounds_toArray,List.set_cons_zero,List.set_cons_succ]
         refine wpAnyH_ready (rs:=[1]) (by kernel_rfl) (by simp) ?_;refine AllReadyH.cons (EM rfl) (fun Kq hKq=>?_) ?_
         focus
          go_simp
          refine hKq.out _ _ ?_ (fun hH=>?_)
          ·with_reducible assumption
          clear hKq Kq;try simp only[Act.put,List.setIfInBounds_toArray,List.set_cons_zero,List.set_cons_succ]
          try simp only[Act.put,List.setIfInBounds_toArray,List.set_cons_zero,List.set_cons_succ]
         rotate_left
         exact AllReadyH.nil
        rotate_left
        exact AllReadyH.nil;all_goals
         try simp only[Act.put,List.setIfInBounds_toArray,List.set_cons_zero,List.set_cons_succ]
         refine wpAnyH_ready (rs:=[22]) (by kernel_rfl) (by simp) ?_;refine AllReadyH.cons (EM rfl) (fun Kq hKq=>?_) ?_
         focus
          (refine step_append_lies _ rfl (.tmp 58) (.tmp 78) 38 rfl wx.heap.size 9 i1 (.string ⟨#[]⟩) 1 16 Tryz.underlying38 HY.out.1 HY.out.2.1 HY.out.2.2.1 HY.out.2.2.2 rfl (by decide) (.slice A1 j c1) j ((GK r.RR j).map strV) (by rfl) (PW HROW.out) ⟨wj.heap.size,0,none⟩ 1 1 [.string ((r.RR j).s.extract 0 (min ((r.RR j).s.size:Int) 40).toNat)] (by rfl) (by rfl) (World.news_of_block (cs:=#[.string ((r.RR j).s.extract 0 (min ((r.RR j).s.size:Int) 40).toNat)]) (Qh wj _)) QG4 (by decide) (by unfold maxLen;omega) (by omega) (Jc HWX.out) (wj.heap.size+1) (by simp) ?_;intro g5 cap w5 hown5 hgrow5 hat5 hlt5;have B5:Below wx.heap.size wx w5:=BA.grown hgrow5 (Jc HWX.out) (fun q hq=>(AI HROW.out q hq).1);obtain⟨d5,e5⟩:=cell_grown hgrow5 HNO.out hbl z1 f1;have hg5:bb<w5.heap.size:=Nat.lt_of_lt_of_le hbl (Nat.le_trans (by simp) hgrow5.size);have SB5:=HSS.out _ B5;have SC5:=HSS.out _ (B5.setCell HS8.out (p:=⟨bb,1,none⟩) (.slice (some ⟨g5,0,none⟩) (j+1) cap));have ATM:=AA (HBX.out.more hgrow5 hown5))
          try go_simp
          refine hKq.out _ _ ?_ (fun hH=>?_)
          ·with_reducible assumption
          clear hKq Kq;try simp only[Act.put,List.setIfInBounds_toArray,List.set_cons_zero,List.set_cons_succ]
          refine JD (v:=?_) 23 rfl (by kernel_rfl) (fun _ _ _ h=>h) hH (by rfl) ?_ ?_
          rotate_left
          ·(rintro wq ⟨s0,s1⟩;go_simp<;>with_reducible rfl)
          try simp only[Act.put,List.setIfInBounds_toArray,List.set_cons_zero,List.set_cons_succ]
          try simp only[Act.put,List.setIfInBounds_toArray,List.set_cons_zero,List.set_cons_succ]
          refine wpAnyH_ready (rs:=[24]) (by kernel_rfl) (by simp) ?_;refine AllReadyH.cons (EM rfl) (fun Kq hKq=>?_) ?_
          focus
           go_simp
           refine hKq.out _ _ ?_ (fun hH=>?_)
           ·with_reducible assumption
           clear hKq Kq;try simp only[Act.put,List.setIfInBounds_toArray,List.set_cons_zero,List.set_cons_succ]
           refine wpAnyH_done (by kernel_rfl) ?_ _;go_wp2_with fail
           go_meet;case rel=>exact ATM.out
          exact AllReadyH.nil
         exact AllReadyH.nil
       case rest=>
        refine hJ _ _ ?_;have HCT:=AA hcut;clear hcut hJ S0 BA;go_wp2_with fail
        go_roundw;case rel=>exact⟨j+1,by omega,by omega,by go_num,HCT.out⟩
        case measure=>simp[intOf];omega
      ·rcases(show(j<r.nR/\¬j<6)\/¬j<r.nR by omega)with⟨hjlt,hj5⟩|hjlt;all_goals
        have HE:Hid (min r.nR 6=j):=AA (by omega);obtain⟨vR,vB,hbox⟩:=hat;obtain⟨A1,c1,rfl, -, -, -⟩:=hbox.regs.reads;rw[hjl]at hbox;obtain⟨AB,cB,rfl⟩:=hbox.body.slice;have z0:wj.cell? ⟨bb,0,none⟩=some (.string (r.name.extract 0 (min (r.name.size:Int) 40).toNat)):=by rw[Lib.cell_of_heap hbox.cs];rfl
        have z1:wj.cell? ⟨bb,1,none⟩=some (.slice A1 j c1):=by rw[Lib.cell_of_heap hbox.cs];rfl
        have z2:wj.cell? ⟨bb,2,none⟩=some (.slice AB (IF r.RB (min r.nB 50)).length cB):=by rw[Lib.cell_of_heap hbox.cs];rfl
        have z3:wj.cell? ⟨bb,3,none⟩=some (.int .i64 r.pl):=by rw[Lib.cell_of_heap hbox.cs];rfl
        have hj7:=hbox.low.size;have HBX:=AA hbox;have HOJ:=AA (HO.out.on hbox.low);have hwj:w.heap.size<=wj.heap.size:=by omega
        have hK4:K.length<=3:=by have:=HKL.out;omega
        clear hbox
        go_wp2_with (at_builtin;refine wpList_append_own _ rfl (.tmp 81) (.tmp 83) 24 rfl w.heap.size 41 i0 (.agg #[.string ⟨#[]⟩,.slice none 0 0,.slice none 0 0,.int .i64 0]) 4 72 Tryz.underlying24 HZ.out.1 HZ.out.2.1 HZ.out.2.2.1 HZ.out.2.2.2 rfl (by decide) _ K.length (K.flatMap DI) rfl (HOJ.out.on ((Below.refl wj.heap.size wj).alloc (Nat.le_refl _) _)).row ⟨wj.heap.size,0,none⟩ 1 1 [.string (r.name.extract 0 (min (r.name.size:Int) 40).toNat),.slice A1 j c1,.slice AB (IF r.RB (min r.nB 50)).length cB,.int .i64 r.pl] (by rfl) (by rfl) (World.news_of_block (cs:=#[.string (r.name.extract 0 (min (r.name.size:Int) 40).toNat),.slice A1 j c1,.slice AB (IF r.RB (min r.nB 50)).length cB,.int .i64 r.pl]) (heap_alloc_new wj _)) UX (by unfold maxLen;omega) (by omega) (by simp;omega) ?_)
        intro v5 w5 hown5 hgrow5 _;have hal:Below wj.heap.size wj (wj.alloc (.cells #[.string (r.name.extract 0 (min (r.name.size:Int) 40).toNat),.slice A1 j c1,.slice AB (IF r.RB (min r.nB 50)).length cB,.int .i64 r.pl] 41)):=(Below.refl _ _).alloc (Nat.le_refl _) _;have HB5:Hid (Below w.heap.size w w5):=AA (((HB.out.trans (HBX.out.low.mono hsz)).alloc hwj _).grown hgrow5 (by simp;omega) (fun q hq=>(AI HOJ.out.row q hq).1));have HA5:Hid (Ci w5 w.heap.size v5 (K++[⟨Gq r,.slice A1 j c1,.slice AB (IF r.RB (min r.nB 50)).length cB⟩])):=AA (Ym (x:=⟨Gq r,.slice A1 j c1,.slice AB (IF r.RB (min r.nB 50)).length cB⟩) (HOJ.out.on hal)
         ⟨by show CS _ _ _ (GK r.RR (min r.nR 6));rw[HE.out];exact(HBX.out.regs.base hsz).on hal,(HBX.out.body.base hsz).keepT (AG.of (P:=fun _=>False) hal) Av.none⟩ hgrow5 (by rw[show DI ⟨Gq r,.slice A1 j c1,.slice AB (IF r.RB (min r.nB 50)).length cB⟩=[.string (r.name.extract 0 (min (r.name.size:Int) 40).toNat),.slice A1 j c1,.slice AB (IF r.RB (min r.nB 50)).length cB,.int .i64 r.pl]from by simp only[DI,Gq];rw[LF]];exact hown5))
        obtain⟨A5,n5,c5,rfl⟩:∃A n c,v5=.slice A n c:=by
         obtain⟨A,c,hv,_⟩:=AS hown5;exact⟨A,_,c,hv⟩
        clear hown5 hgrow5 hal z0 z1 z2 z3;go_wp2_with fail
        go_roundw;case rel=>exact⟨k+1,_,by omega,by omega,by go_num,HA5.out,by rw[List.map_append,HMP.out,HS.out];rfl,HB5.out⟩
        case measure=>simp[intOf];omega
   ·have HE:Hid (min n 4=k):=AA (by omega);clear hbel hown hmap;go_wp2_with fail
    go_ret;exact⟨_,rfl,⟨K,HO.out,by rw[HE.out];exact HMP.out⟩,HB.out⟩
  ·have HE:Hid (min n 4=k):=AA (by omega);clear hbel hown hmap;go_wp2_with fail
   go_ret;exact⟨_,rfl,⟨K,HO.out,by rw[HE.out];exact HMP.out⟩,HB.out⟩
end Go.Proofs.YthfkpalfopdmhaaGreatDoor
