/- Texts of the walk, packed. -/
import Derived.Test.YthfkpalfopdmhaaGreatDoorY21
import Derived.Test.YthfkpalfopdmhaaGreatDoorY20
import Derived.Test.YthfkpalfopdmhaaGreatDoorY03
import Derived.Test.YthfkpalfopdmhaaGreatDoorY17
import Derived.Test.YthfkpalfopdmhaaGreatDoorY22
import Derived.Test.YthfkpalfopdmhaaGreatDoorY00
namespace Go.Proofs.YthfkpalfopdmhaaGreatDoor
open Go.RowKit
def NC:List (List (List UInt8)):=[[],[[114],[61],[101],[59]],[[108,111,97,100],[114],[61],[110],[59]],[[115,116,111,114,101],[110],[61],[101],[59]],[[99,97,115],[114],[61],[110],[44],[101],[44],[102],[59]],[[102,108,117,115,104],[110],[59]],[[111,112,116],[110],[59]],[[115,102,101,110,99,101],[59]],[[109,102,101,110,99,101],[59]],[[116,97,107,101],[110],[59]],[[103,105,118,101],[110],[59]],[[105,102],[101],[98]],[[108,111,111,112],[107],[98]],[[98,114,101,97,107],[59]],[[99,104,101,99,107],[101],[59]]]
def BS (n:Nat):List (List UInt8):=NC.getD n []
theorem ND {n:Nat} (h:n<15):Lib.fields (CS n)=BS n:=by
 have:∀n:Fin 15,Lib.fields (CS n.1)=BS n.1:=by decide
 exact this ⟨n,h⟩
theorem OT {n:Nat} (h:n<15):∀(j:Nat) b,(CS n)[j]?=some b→b.toNat<128:=by
 have:∀n:Fin 15,(CS n.1).all (fun b=>decide (b.toNat<128))=true:=by decide
 intro j b hj
 exact of_decide_eq_true (List.all_eq_true.1 (this ⟨n,h⟩) b (List.mem_of_getElem? hj))
theorem Nz {n:Nat} (h:n<15):(CS n).length≤20:=by
 have:∀n:Fin 15,(CS n.1).length≤20:=by decide
 exact this ⟨n,h⟩
theorem N3 {n:Nat} (h:n<15):(BS n).length≤9:=by
 have:∀n:Fin 15,(BS n.1).length≤9:=by decide
 exact this ⟨n,h⟩
theorem Uk {n k:Nat} (h:n<15) {wd:List UInt8} (hw:(BS n)[k]?=some wd):wd.length≤6:=by
 have:∀n:Fin 15,(BS n.1).all (fun t=>decide (t.length≤6))=true:=by decide
 exact of_decide_eq_true (List.all_eq_true.1 (this ⟨n,h⟩) wd (List.mem_of_getElem? hw))
def Px (x:Stm) (wd:List UInt8):List UInt8:=
 if wd=[114]then x.reg else if wd=[110]then x.name else if wd=[101]then Bi x.e else if wd=[102]then Bi x.f else if wd=[107]then Lib.itoa x.n else wd
def WJ (k:Nat) (wd:List UInt8):Bool:=decide (0<k)&&!decide (wd=[59])&&!decide (wd=[44])
def Le (x:Stm) (blk:List UInt8) (k:Nat) (wd:List UInt8):List UInt8:=(if WJ k wd=true then[32]else[])++(if wd=[98]then blk else Px x wd)
def A8 (ws:List (List UInt8)) (x:Stm) (blk:List UInt8):Nat→List UInt8
 |0=>[]
 |k+1=>A8 ws x blk k++Le x blk k (ws.getD k [])
theorem TB {ws:List (List UInt8)} {k:Nat} {wd:List UInt8} (h:ws[k]?=some wd) (x:Stm) (blk:List UInt8):A8 ws x blk (k+1)=A8 ws x blk k++Le x blk k wd:=by
 show _++Le x blk k (ws.getD k [])=_
 rw[List.getD_eq_getElem?_getD,h];rfl
theorem WL {x:Stm} {n:Nat} (hk:x.kind=n) (h1:1≤n) (h2:n≤14) (blk:List UInt8):A8 (BS n) x blk (BS n).length=I1 x++(if GR x.kind then 32::blk else[59]):=by
 have:n=1∨n=2∨n=3∨n=4∨n=5∨n=6∨n=7∨n=8∨n=9∨n=10∨n=11∨n=12∨n=13∨n=14:=by omega
 rcases this with rfl|rfl|rfl|rfl|rfl|rfl|rfl|rfl|rfl|rfl|rfl|rfl|rfl|rfl<;>
  simp[BS,NC,A8,Le,WJ,Px,I1,hk,GR,Jo,CO]
def H5 (ind:List UInt8) (t:Bk):List UInt8:=[123,10]++(Bw (ind++[32,32]) t++(ind++[125]))
def J6 (ind:List UInt8) (b e:Bk):List UInt8:=H5 ind b++(if 0<e.count then[32,101,108,115,101,32]++H5 ind e else[])
theorem WM {s:Stm} {n:Nat} (hk:s.kind=n) (h1:1≤n) (h2:n≤14) (ind:List UInt8) (b e r:Bk):Bw ind (.cons s b e r)=ind++(A8 (BS n) s (J6 ind b e) (BS n).length++([10]++Bw ind r)):=by
 rw[WL hk h1 h2]
 by_cases hb:GR s.kind
 ·simp only[Bw,J6,H5,if_pos hb]
  by_cases he:0<e.count
  ·simp[if_pos he,FU]
  ·simp[if_neg he]
 ·simp only[Bw,if_neg hb];simp
def QDC (L M N:List Stm) (W w:World) (e:Ending) (w':World):Prop:=
 ∃v1 v2 v3,e=.returned (.tuple #[v1,v2,v3])∧BI W v1 L∧BI W v2 M∧BI W v3 N∧Below w.heap.size w w'
set_option maxRecDepth 100000 in
set_option maxHeartbeats 4000000 in
theorem QDD (v:Value) (x:Stm) (r:List Stm) (W w:World) (h:BI W v (x::r)) (hbw:Below W.heap.size W w) (hh:JE x r.length) (hl:r.length≤10000):Calls Tryz.prog 205 #[v] w (QDC (Dv x r) (Dl x r) (Dw x r) W w):=by
 have HL:=AA h
 obtain⟨A,c,rfl,hc,hm,hr⟩:=h
 obtain⟨g,o,AE,nE,cE,AF,nF,cF,rfl,h9⟩:=hr 0 x rfl
 have h9:=h9.on hbw
 clear hbw
 obtain⟨lt9,x0,x1,x2,x3,x4,x5,x6,x7,x8,_,_⟩:=h9
 clear hr x0 x1 x2 x3 x4 x5 x8
 obtain⟨h1,h2,h3,_⟩:=hh
 obtain⟨b,hb⟩:∃b:Nat,x.body=b:=⟨x.body.toNat,by omega⟩
 obtain⟨e,he⟩:∃e:Nat,x.els=e:=⟨x.els.toNat,by omega⟩
 rw[hb]at x6 h3
 rw[he]at x7 h3
 have HB:=AA hb
 have HE:=AA he
 clear hb he h1 h2
 have hlen:(x::r).length=r.length+1:=rfl
 rw[hlen]at hc⊢
 have hbe:b+e≤r.length:=by omega
 unfold maxLen at hm
 simp only[Nat.zero_mul,Nat.add_zero]at x6 x7
 have i1:IntKind.i64.wrap (1+(b:Int))=1+b:=IntWalk.i64_in _ (by omega)
 have i2:IntKind.i64.wrap (1+(b:Int)+e)=1+b+e:=IntWalk.i64_in _ (by omega)
 go_enter Tryz.func205,Tryz.ntmps205
 go_wp2_with fail
 go_quiet (fail)
 generalize hA1:(if c=1 then some (⟨g,o,none⟩:Addr)else some ⟨g,o+9,none⟩)=A1
 generalize hA2:(if c=1+b then some (⟨g,o,none⟩:Addr)else some ⟨g,o+(1+b)*9,none⟩)=A2
 generalize hA3:(if c=1+b+e then some (⟨g,o,none⟩:Addr)else some ⟨g,o+(1+b+e)*9,none⟩)=A3
 have eb:x.body.toNat=b:=by have:=HB.out;omega
 have ee:x.els.toNat=e:=by have:=HE.out;omega
 have g1:BI W (.slice A1 (1+b-1) (c-1)) (Dv x r):=HL.out.cutAt (k:=1) (j:=1+b) (by omega) (by rw[hlen];omega) rfl rfl (fun hk=>by rw[←hA1,if_neg (by omega),Nat.one_mul]) (by unfold Dv;rw[eb,Nat.add_comm 1 b];rfl)
 have g2:BI W (.slice A2 (1+b+e-(1+b)) (c-(1+b))) (Dl x r):=HL.out.cutAt (k:=1+b) (j:=1+b+e) (by omega) (by rw[hlen];omega) rfl rfl (fun hk=>by rw[←hA2,if_neg (by omega)]) (by
  unfold Dl;rw[eb,ee,show 1+b+e=(b+e)+1 from by omega,Nat.add_comm 1 b]
  show _=(r.take (b+e)).drop b
  rw[List.drop_take];congr 1;omega)
 have g3:BI W (.slice A3 (r.length+1-(1+b+e)) (c-(1+b+e))) (Dw x r):=HL.out.cutAt (k:=1+b+e) (j:=r.length+1) (by omega) (by rw[hlen];omega) rfl rfl (fun hk=>by rw[←hA3,if_neg (by omega)]) (by
  unfold Dw;rw[eb,ee,show 1+b+e=(b+e)+1 from by omega]
  show _=((r.take r.length).drop (b+e))
  rw[List.take_length])
 have G1:=AA g1
 have G2:=AA g2
 have G3:=AA g3
 clear g1 g2 g3 hA1 hA2 hA3
 go_wp2_with fail
 refine bodyPost_ret (v:=.tuple #[.slice A1 (1+b-1) (c-1),.slice A2 (1+b+e-(1+b)) (c-(1+b)),.slice A3 (r.length+1-(1+b+e)) (c-(1+b+e))]) (by simp[results,Tryz.results205,go_sem]) rfl ?_
 exact⟨_,_,_,rfl,G1.out,G2.out,G3.out,AO _ _⟩
theorem Xf {x:Stm} (h:Dy x=true):x.reg.length≤16∧x.name.length≤16∧(Bi x.e).length≤840∧(Bi x.f).length≤840∧(x.e.length≤10000∧Fa x.e)∧(x.f.length≤10000∧Fa x.f)∧0≤x.n∧x.n≤8:=by
 obtain⟨k,hk,h1,h2⟩:=Hj h
 obtain⟨_,_,_,hr,hn,he,hf,ht⟩:=J2 hk h
 have nil0:(Bi []).length≤840:=by decide
 have nilN:([]:List Nod).length≤10000∧Fa []:=⟨by simp,fun a ha=>by cases ha⟩
 refine⟨?_,?_,?_,?_,?_,?_,?_⟩
 ·split at hr
  ·exact EO hr
  ·rw[List.isEmpty_iff.1 hr];simp
 ·split at hn
  ·exact EO hn
  ·rw[List.isEmpty_iff.1 hn];simp
 ·split at he
  ·exact J5 he
  ·rw[List.isEmpty_iff.1 he];exact nil0
 ·split at hf
  ·exact J5 hf
  ·rw[List.isEmpty_iff.1 hf];exact nil0
 ·split at he
  ·exact I3 he
  ·rw[List.isEmpty_iff.1 he];exact nilN
 ·split at hf
  ·exact I3 hf
  ·rw[List.isEmpty_iff.1 hf];exact nilN
 ·split at ht
  ·simp at ht;omega
  ·simp at ht;omega
set_option maxRecDepth 100000 in
set_option maxHeartbeats 4000000 in
theorem QDE (x:Stm) (AE:Option Addr) (nE cE:Nat) (AF:Option Addr) (nF cF:Nat) (w:World):Calls Tryz.prog 207 #[.string ⟨[114].toArray⟩,.agg #[.int .i64 x.kind,.string ⟨x.reg.toArray⟩,.string ⟨x.name.toArray⟩,.slice AE nE cE,.slice AF nF cF,.int .i64 x.n,.int .i64 x.body,.int .i64 x.els,.int .i64 x.pl]] w (CG x.reg w):=by
 go_enter Tryz.func207,Tryz.ntmps207
 go_upto_region 1 with(fail)
 have hbx:=(Below.refl w.heap.size w).alloc (Nat.le_refl _) (.cells #[.int .i64 x.kind,.string ⟨x.reg.toArray⟩,.string ⟨x.name.toArray⟩,.slice AE nE cE,.slice AF nF cF,.int .i64 x.n,.int .i64 x.body,.int .i64 x.els,.int .i64 x.pl] 44)
 have HB0:=AA hbx
 have N9:=AA (Ed w (.int .i64 x.kind) (.string ⟨x.reg.toArray⟩) (.string ⟨x.name.toArray⟩) (.slice AE nE cE) (.slice AF nF cF) (.int .i64 x.n) (.int .i64 x.body) (.int .i64 x.els) (.int .i64 x.pl) 44)
 clear hbx
 generalize w.alloc (.cells #[.int .i64 x.kind,.string ⟨x.reg.toArray⟩,.string ⟨x.name.toArray⟩,.slice AE nE cE,.slice AF nF cF,.int .i64 x.n,.int .i64 x.body,.int .i64 x.els,.int .i64 x.pl] 44)=W at *
 obtain⟨hW,y0,y1,y2,y3,y4,y5,_,_,_⟩:=N9.out
 go_wp2_with fail
 go_ret
 exact⟨rfl,HB0.out⟩
set_option maxRecDepth 100000 in
set_option maxHeartbeats 4000000 in
theorem QDF (x:Stm) (AE:Option Addr) (nE cE:Nat) (AF:Option Addr) (nF cF:Nat) (w:World):Calls Tryz.prog 207 #[.string ⟨[110].toArray⟩,.agg #[.int .i64 x.kind,.string ⟨x.reg.toArray⟩,.string ⟨x.name.toArray⟩,.slice AE nE cE,.slice AF nF cF,.int .i64 x.n,.int .i64 x.body,.int .i64 x.els,.int .i64 x.pl]] w (CG x.name w):=by
 go_enter Tryz.func207,Tryz.ntmps207
 go_upto_region 1 with(fail)
 have hbx:=(Below.refl w.heap.size w).alloc (Nat.le_refl _) (.cells #[.int .i64 x.kind,.string ⟨x.reg.toArray⟩,.string ⟨x.name.toArray⟩,.slice AE nE cE,.slice AF nF cF,.int .i64 x.n,.int .i64 x.body,.int .i64 x.els,.int .i64 x.pl] 44)
 have HB0:=AA hbx
 have N9:=AA (Ed w (.int .i64 x.kind) (.string ⟨x.reg.toArray⟩) (.string ⟨x.name.toArray⟩) (.slice AE nE cE) (.slice AF nF cF) (.int .i64 x.n) (.int .i64 x.body) (.int .i64 x.els) (.int .i64 x.pl) 44)
 clear hbx
 generalize w.alloc (.cells #[.int .i64 x.kind,.string ⟨x.reg.toArray⟩,.string ⟨x.name.toArray⟩,.slice AE nE cE,.slice AF nF cF,.int .i64 x.n,.int .i64 x.body,.int .i64 x.els,.int .i64 x.pl] 44)=W at *
 obtain⟨hW,y0,y1,y2,y3,y4,y5,_,_,_⟩:=N9.out
 go_wp2_with fail
 go_ret
 exact⟨rfl,HB0.out⟩
set_option maxRecDepth 100000 in
set_option maxHeartbeats 4000000 in
theorem QDG (x:Stm) (AE:Option Addr) (nE cE:Nat) (AF:Option Addr) (nF cF:Nat) (w:World) (hE:BA w (.slice AE nE cE) x.e) (hl:x.e.length≤10000) (hs:Fa x.e) (ht:Tabs w):Calls Tryz.prog 207 #[.string ⟨[101].toArray⟩,.agg #[.int .i64 x.kind,.string ⟨x.reg.toArray⟩,.string ⟨x.name.toArray⟩,.slice AE nE cE,.slice AF nF cF,.int .i64 x.n,.int .i64 x.body,.int .i64 x.els,.int .i64 x.pl]] w (CG (Bi x.e) w):=by
 go_enter Tryz.func207,Tryz.ntmps207
 go_upto_region 1 with(fail)
 have hbx:=(Below.refl w.heap.size w).alloc (Nat.le_refl _) (.cells #[.int .i64 x.kind,.string ⟨x.reg.toArray⟩,.string ⟨x.name.toArray⟩,.slice AE nE cE,.slice AF nF cF,.int .i64 x.n,.int .i64 x.body,.int .i64 x.els,.int .i64 x.pl] 44)
 have HB0:=AA hbx
 have HR:=AA (hE.on hbx)
 have HT:=AA (ht.on hbx)
 clear hE ht
 have N9:=AA (Ed w (.int .i64 x.kind) (.string ⟨x.reg.toArray⟩) (.string ⟨x.name.toArray⟩) (.slice AE nE cE) (.slice AF nF cF) (.int .i64 x.n) (.int .i64 x.body) (.int .i64 x.els) (.int .i64 x.pl) 44)
 clear hbx
 generalize w.alloc (.cells #[.int .i64 x.kind,.string ⟨x.reg.toArray⟩,.string ⟨x.name.toArray⟩,.slice AE nE cE,.slice AF nF cF,.int .i64 x.n,.int .i64 x.body,.int .i64 x.els,.int .i64 x.pl] 44)=W at *
 obtain⟨hW,y0,y1,y2,y3,y4,y5,_,_,_⟩:=N9.out
 go_wp2_with fail
 refine(PL _ x.e _ HR.out hl hs HT.out).mono ?_
 rintro e w1 ⟨rfl,hb⟩
 go_wp2_with fail
 go_ret
 exact⟨rfl,AC HB0.out hb⟩
set_option maxRecDepth 100000 in
set_option maxHeartbeats 4000000 in
theorem QDH (x:Stm) (AE:Option Addr) (nE cE:Nat) (AF:Option Addr) (nF cF:Nat) (w:World) (hE:BA w (.slice AF nF cF) x.f) (hl:x.f.length≤10000) (hs:Fa x.f) (ht:Tabs w):Calls Tryz.prog 207 #[.string ⟨[102].toArray⟩,.agg #[.int .i64 x.kind,.string ⟨x.reg.toArray⟩,.string ⟨x.name.toArray⟩,.slice AE nE cE,.slice AF nF cF,.int .i64 x.n,.int .i64 x.body,.int .i64 x.els,.int .i64 x.pl]] w (CG (Bi x.f) w):=by
 go_enter Tryz.func207,Tryz.ntmps207
 go_upto_region 1 with(fail)
 have hbx:=(Below.refl w.heap.size w).alloc (Nat.le_refl _) (.cells #[.int .i64 x.kind,.string ⟨x.reg.toArray⟩,.string ⟨x.name.toArray⟩,.slice AE nE cE,.slice AF nF cF,.int .i64 x.n,.int .i64 x.body,.int .i64 x.els,.int .i64 x.pl] 44)
 have HB0:=AA hbx
 have HR:=AA (hE.on hbx)
 have HT:=AA (ht.on hbx)
 clear hE ht
 have N9:=AA (Ed w (.int .i64 x.kind) (.string ⟨x.reg.toArray⟩) (.string ⟨x.name.toArray⟩) (.slice AE nE cE) (.slice AF nF cF) (.int .i64 x.n) (.int .i64 x.body) (.int .i64 x.els) (.int .i64 x.pl) 44)
 clear hbx
 generalize w.alloc (.cells #[.int .i64 x.kind,.string ⟨x.reg.toArray⟩,.string ⟨x.name.toArray⟩,.slice AE nE cE,.slice AF nF cF,.int .i64 x.n,.int .i64 x.body,.int .i64 x.els,.int .i64 x.pl] 44)=W at *
 obtain⟨hW,y0,y1,y2,y3,y4,y5,_,_,_⟩:=N9.out
 go_wp2_with fail
 refine(PL _ x.f _ HR.out hl hs HT.out).mono ?_
 rintro e w1 ⟨rfl,hb⟩
 go_wp2_with fail
 go_ret
 exact⟨rfl,AC HB0.out hb⟩
set_option maxRecDepth 100000 in
set_option maxHeartbeats 4000000 in
theorem QDI (x:Stm) (AE:Option Addr) (nE cE:Nat) (AF:Option Addr) (nF cF:Nat) (w:World) (hn0:0≤x.n) (hn1:x.n≤8) (ht:Tabs w):Calls Tryz.prog 207 #[.string ⟨[107].toArray⟩,.agg #[.int .i64 x.kind,.string ⟨x.reg.toArray⟩,.string ⟨x.name.toArray⟩,.slice AE nE cE,.slice AF nF cF,.int .i64 x.n,.int .i64 x.body,.int .i64 x.els,.int .i64 x.pl]] w (CG (Lib.itoa x.n) w):=by
 go_enter Tryz.func207,Tryz.ntmps207
 go_upto_region 1 with(fail)
 have hbx:=(Below.refl w.heap.size w).alloc (Nat.le_refl _) (.cells #[.int .i64 x.kind,.string ⟨x.reg.toArray⟩,.string ⟨x.name.toArray⟩,.slice AE nE cE,.slice AF nF cF,.int .i64 x.n,.int .i64 x.body,.int .i64 x.els,.int .i64 x.pl] 44)
 have HB0:=AA hbx
 have HT:=AA (ht.on hbx)
 clear ht
 have N9:=AA (Ed w (.int .i64 x.kind) (.string ⟨x.reg.toArray⟩) (.string ⟨x.name.toArray⟩) (.slice AE nE cE) (.slice AF nF cF) (.int .i64 x.n) (.int .i64 x.body) (.int .i64 x.els) (.int .i64 x.pl) 44)
 clear hbx
 generalize w.alloc (.cells #[.int .i64 x.kind,.string ⟨x.reg.toArray⟩,.string ⟨x.name.toArray⟩,.slice AE nE cE,.slice AF nF cF,.int .i64 x.n,.int .i64 x.body,.int .i64 x.els,.int .i64 x.pl] 44)=W at *
 obtain⟨hW,y0,y1,y2,y3,y4,y5,_,_,_⟩:=N9.out
 go_wp2_with fail
 refine(Nb x.n (by omega) (by omega) _ HT.out).mono ?_
 rintro e w1 ⟨rfl,hb⟩
 go_wp2_with fail
 go_ret
 exact⟨rfl,AC HB0.out hb⟩
set_option maxRecDepth 100000 in
set_option maxHeartbeats 4000000 in
theorem QDJ (x:Stm) (wd:List UInt8) (AE:Option Addr) (nE cE:Nat) (AF:Option Addr) (nF cF:Nat) (w:World) (h1:(wd==[114])=false) (h2:(wd==[110])=false) (h3:(wd==[101])=false) (h4:(wd==[102])=false) (h5:(wd==[107])=false):Calls Tryz.prog 207 #[.string ⟨wd.toArray⟩,.agg #[.int .i64 x.kind,.string ⟨x.reg.toArray⟩,.string ⟨x.name.toArray⟩,.slice AE nE cE,.slice AF nF cF,.int .i64 x.n,.int .i64 x.body,.int .i64 x.els,.int .i64 x.pl]] w (CG wd w):=by
 go_enter Tryz.func207,Tryz.ntmps207
 go_upto_region 1 with(fail)
 have hbx:=(Below.refl w.heap.size w).alloc (Nat.le_refl _) (.cells #[.int .i64 x.kind,.string ⟨x.reg.toArray⟩,.string ⟨x.name.toArray⟩,.slice AE nE cE,.slice AF nF cF,.int .i64 x.n,.int .i64 x.body,.int .i64 x.els,.int .i64 x.pl] 44)
 have HB0:=AA hbx
 have N9:=AA (Ed w (.int .i64 x.kind) (.string ⟨x.reg.toArray⟩) (.string ⟨x.name.toArray⟩) (.slice AE nE cE) (.slice AF nF cF) (.int .i64 x.n) (.int .i64 x.body) (.int .i64 x.els) (.int .i64 x.pl) 44)
 clear hbx
 generalize w.alloc (.cells #[.int .i64 x.kind,.string ⟨x.reg.toArray⟩,.string ⟨x.name.toArray⟩,.slice AE nE cE,.slice AF nF cF,.int .i64 x.n,.int .i64 x.body,.int .i64 x.els,.int .i64 x.pl] 44)=W at *
 obtain⟨hW,y0,y1,y2,y3,y4,y5,_,_,_⟩:=N9.out
 go_wp2_with fail
 go_ret
 exact⟨rfl,HB0.out⟩
theorem LI (x:Stm) (wd:List UInt8) (AE:Option Addr) (nE cE:Nat) (AF:Option Addr) (nF cF:Nat) (w:World) (hE:BA w (.slice AE nE cE) x.e) (hF:BA w (.slice AF nF cF) x.f) (hf:Dy x=true) (ht:Tabs w):Calls Tryz.prog 207 #[.string ⟨wd.toArray⟩,.agg #[.int .i64 x.kind,.string ⟨x.reg.toArray⟩,.string ⟨x.name.toArray⟩,.slice AE nE cE,.slice AF nF cF,.int .i64 x.n,.int .i64 x.body,.int .i64 x.els,.int .i64 x.pl]] w (CG (Px x wd) w):=by
 obtain⟨_,_,_,_,⟨g1,g2⟩,⟨g3,g4⟩,g5,g6⟩:=Xf hf
 unfold Px
 split
 ·rename_i h;subst h;exact QDE x AE nE cE AF nF cF w
 split
 ·rename_i h;subst h;exact QDF x AE nE cE AF nF cF w
 split
 ·rename_i h;subst h;exact QDG x AE nE cE AF nF cF w hE g1 g2 ht
 split
 ·rename_i h;subst h;exact QDH x AE nE cE AF nF cF w hF g3 g4 ht
 split
 ·rename_i h;subst h;exact QDI x AE nE cE AF nF cF w g5 g6 ht
 ·rename_i h1 h2 h3 h4 h5
  exact QDJ x wd AE nE cE AF nF cF w (beq_eq_false_iff_ne.2 h1) (beq_eq_false_iff_ne.2 h2) (beq_eq_false_iff_ne.2 h3) (beq_eq_false_iff_ne.2 h4) (beq_eq_false_iff_ne.2 h5)
end Go.Proofs.YthfkpalfopdmhaaGreatDoor
namespace Go.Proofs.YthfkpalfopdmhaaGreatDoor
open Go
theorem Py {α β γ:Type} (r:RS α) (k:α→Nat→RS β) (h:β→Nat→Option (RS γ)):RS.obind (some (r.bind k)) h=RS.obind (some r) (fun a j=>RS.obind (some (k a j)) h):=by cases r<;>rfl
theorem I5 {α β γ:Type} (r:Option (RS α)) (k:α→Nat→Option (RS β)) (h:β→Nat→Option (RS γ)):RS.obind (RS.obind r k) h=RS.obind r (fun a j=>RS.obind (k a j) h):=by
 rcases r with _|⟨a,q⟩|⟨e,p⟩<;>rfl
def Pz (row:CU) (L:List Tok) (d l:Nat) (wd:List UInt8) (o:V7) (i:Nat):Option (RS V7):=
 if wd=[114]then RS.obind (some (BW L i)) fun r j=>some (.ok ⟨{o.s with reg:=r},o.b,o.e⟩ j)
 else if wd=[110]then RS.obind (some (BW L i)) fun r j=>some (.ok ⟨{o.s with name:=r},o.b,o.e⟩ j)
 else if wd=[101]then RS.obind (some (exprP L i)) fun r j=>some (.ok ⟨{o.s with e:=r},o.b,o.e⟩ j)
 else if wd=[102]then RS.obind (some (exprP L i)) fun r j=>some (.ok ⟨{o.s with f:=r},o.b,o.e⟩ j)
 else if wd=[107]then RS.obind (some (Dc L i)) fun r j=>some (.ok ⟨{o.s with n:=r},o.b,o.e⟩ j)
 else if wd=[98]then RS.obind (Bz row L i (d+1) (Yo o.s.kind.toNat l)) fun b j=>RS.obind (Df row L o.s.kind.toNat j (d+1) (Yo o.s.kind.toNat l)) fun e j=>some (.ok ⟨{o.s with body:=b.count,els:=e.count},b,e⟩ j)
 else RS.obind (some (Bg L i wd)) fun _ j=>some (.ok o j)
def Kt (row:CU) (L:List Tok) (d l:Nat):List (List UInt8)→V7→Nat→Option (RS V7)
 |[],o,i=>some (.ok o i)
 |wd::ws,o,i=>RS.obind (Pz row L d l wd o i) (fun o j=>Kt row L d l ws o j)
theorem NE {L:List Tok} {i:Nat} {s:List UInt8} (h:isB L i s=true):Bg L i s=.ok () (i+1):=by unfold Bg;rw[if_pos h]
set_option maxHeartbeats 4000000 in
theorem Y6 (row:CU) (L:List Tok) (i d l:Nat) (h:¬(Ao L i=13∧l=0)):Kt row L d l (BS (Ao L i)) ⟨GU (Ao L i) (AT L i),.nil,.nil⟩ i=GO row L i d l:=by
 unfold GO
 rw[if_neg h]
 rcases FO L i with hk|⟨h1,h2,h3⟩
 ·rw[hk]
  simp[BS,NC,Kt,Pz,DC,Py,I5,GU,GR]
 ·generalize Ao L i=k at *
  have:k=2∨k=3∨k=4∨k=5∨k=6∨k=7∨k=8∨k=9∨k=10∨k=11∨k=12∨k=13∨k=14:=by omega
  rcases this with rfl|rfl|rfl|rfl|rfl|rfl|rfl|rfl|rfl|rfl|rfl|rfl|rfl<;>
  ·simp only[CO,List.getD_cons_succ,List.getD_cons_zero]at h3
   have hm:=NE h3
   simp[BS,NC,Kt,Pz,DC,Py,I5,GU,GR,hm]
theorem TC {L:List Tok} {i:Nat} (h:Dh L i=true):Ao L i=1:=by
 rcases FO L i with hk|⟨h1,h2,h3⟩
 ·exact hk
 ·exfalso
  obtain⟨t,ht,hi,hp⟩:∃t,L[i]?=some t∧i<L.length∧nameB t.text=true:=by
   unfold Dh at h
   cases hn:nameAt L i with
   |none=>rw[hn]at h;simp at h
   |some s=>
    have hl:=(IT hn).1
    refine⟨L[i],List.getElem?_eq_getElem hl,hl,?_⟩
    have h4:=(IT hn).2
    unfold nameAt at hn
    rw[List.getElem?_eq_getElem hl]at hn
    simp only at hn
    split at hn
    ·simp at hn;rw[hn];exact h4
    ·cases hn
  have h5:=QA7 h3 ht
  rw[h5]at hp
  have:∀k:Fin 15,2≤k.1→nameB (CO.getD k.1 [])=false:=by decide
  rw[this ⟨Ao L i,by omega⟩ h1]at hp;cases hp
def IB (L:List Tok) (i l:Nat):Nat:=if Ao L i=1 then(if Dh L i=true then 1 else 0)else if Ao L i=13∧l=0 then 0 else Ao L i
theorem Ul {L:List Tok} {i:Nat} (l:Nat) (h:Dh L i=true):IB L i l=1:=by unfold IB;rw[if_pos (TC h),if_pos h]
def Ik (k:Nat):List UInt8:=if k=1 then[114]else CO.getD k []
theorem QEq:∀a b:Fin 15,2≤a.1→2≤b.1→CO.getD a.1 []=CO.getD b.1 []→a=b:=by decide
theorem QGf:∀a:Fin 15,2≤a.1→CO.getD a.1 []≠[]:=by decide
theorem Y7 {L:List Tok} {i k:Nat} (h1:2≤k) (h2:k≤14) (h:isB L i (CO.getD k [])=true):Ao L i=k:=by
 rcases FO L i with hk|⟨g1,g2,g3⟩
 ·exfalso
  unfold Ao at hk
  cases hf:(List.range 15).find? (fun k=>decide (2≤k)&&isB L i (CO.getD k []))with
  |none=>
   have:=List.find?_eq_none.1 hf k (List.mem_range.2 (by omega))
   simp only[h,Bool.and_true,decide_eq_true_eq]at this
   exact this h1
  |some m=>
   have h3:=List.find?_some hf
   rw[hf]at hk
   simp only[Bool.and_eq_true,decide_eq_true_eq]at h3
   simp only[Option.getD_some]at hk
   omega
 ·have:=QEq ⟨Ao L i,by omega⟩ ⟨k,by omega⟩ g1 h1 (Xg g3 h)
  simpa using this
theorem OU {L:List Tok} {i k l:Nat} (h1:2≤k) (h2:k≤14) (h:isB L i (CO.getD k [])=true):IB L i l=if k=13∧l=0 then 0 else k:=by
 have hk:=Y7 h1 h2 h
 unfold IB
 rw[hk,if_neg (by omega)]
theorem P0 {L:List Tok} {i l:Nat} (hn:Dh L i=false) (h:∀k,2≤k→k≤14→isB L i (CO.getD k [])=false):IB L i l=0:=by
 unfold IB
 rcases FO L i with hk|⟨g1,g2,g3⟩
 ·rw[if_pos hk,hn];rfl
 ·rw[h _ g1 g2]at g3;cases g3
theorem Um {L:List Tok} {i l:Nat} (hn:Dh L i=false) (h:isB L i []=true):IB L i l=0:=by
 refine P0 hn fun k h1 h2=>?_
 cases hb:isB L i (CO.getD k [])with
 |false=>rfl
 |true=>exact absurd (Xg hb h) (QGf ⟨k,by omega⟩ h1)
theorem WN {L:List Tok} {i:Nat} (h:Dh L i=false):BW L i=badR L i 5:=by
 unfold Dh at h
 unfold BW
 cases hn:nameAt L i with
 |none=>rfl
 |some s=>rw[hn]at h;simp at h
theorem WO {row:CU} {L:List Tok} {i d l:Nat} (h:IB L i l=0):GO row L i d l=some (badR L i 5):=by
 unfold IB at h
 unfold GO
 rcases FO L i with hk|⟨g1,g2,g3⟩
 ·rw[if_neg (by omega),if_pos hk,hk]
  rw[if_pos hk]at h
  cases hn:Dh L i with
  |true=>rw[hn]at h;simp at h
  |false=>
   rw[DC,if_pos rfl,WN hn]
   rfl
 ·rw[if_neg (by omega)]at h
  split at h
  ·rename_i hh;rw[if_pos hh]
  ·omega
theorem Y8 {L:List Tok} {i l:Nat} (h:IB L i l≠0):IB L i l=Ao L i∧¬(Ao L i=13∧l=0)∧1≤Ao L i∧Ao L i≤14∧i<L.length:=by
 have hr:=PY L i
 unfold IB at h⊢
 split at h
 ·rename_i hk
  rw[if_pos hk]
  split at h
  ·rename_i hn
   rw[if_pos hn,hk]
   refine⟨rfl,by omega,by omega,by omega,?_⟩
   unfold Dh at hn
   cases hx:nameAt L i with
   |none=>rw[hx]at hn;simp at hn
   |some s=>exact(IT hx).1
  ·exact absurd rfl h
 ·rename_i hk
  rw[if_neg hk]
  split at h
  ·exact absurd rfl h
  ·rename_i hh
   rw[if_neg hh]
   rcases FO L i with h1|⟨_,_,g3⟩
   ·exact absurd h1 hk
   ·exact⟨rfl,hh,hr.1,hr.2,Bt g3⟩
def NF (row:CU):Prop:=∀i d l b j,row i d l=some (.ok b j)→i+b.count≤j
theorem P5 {L:List Tok} {i j:Nat} {s:List UInt8} {u:Unit} (h:Bg L i s=.ok u j):j=i+1:=by
 unfold Bg at h
 split at h
 ·simp at h;exact h.symm
 ·unfold badR at h;cases h
theorem OV {row:CU} (hr:NF row) {L:List Tok} {i d l j:Nat} {b:Bk} (h:Bz row L i d l=some (.ok b j)):i+b.count+2≤j:=by
 unfold Bz at h
 split at h
 ·unfold badR at h;cases h
 ·rcases RS.obind_some h with⟨_,j1,h1,h2⟩|⟨e,p,h1,h2⟩
  ·have a1:=P5 (Option.some.inj h1)
   rcases RS.obind_some h2 with⟨b',j2,h3,h4⟩|⟨e,p,h3,h4⟩
   ·have a2:=hr _ _ _ _ _ h3
    rcases RS.obind_some h4 with⟨_,j3,h5,h6⟩|⟨e,p,h5,h6⟩
    ·have a3:=P5 (Option.some.inj h5)
     simp only[Option.some.injEq,RS.ok.injEq]at h6
     obtain⟨rfl,rfl⟩:=h6
     omega
    ·cases h6
   ·cases h4
  ·cases h2
theorem WP {row:CU} (hr:NF row) {L:List Tok} {k i d l j:Nat} {b:Bk} (h:Df row L k i d l=some (.ok b j)):i+b.count≤j:=by
 unfold Df at h
 split at h
 ·have:=OV hr h;omega
 ·simp only[Option.some.injEq,RS.ok.injEq]at h
  obtain⟨rfl,rfl⟩:=h
  exact Nat.le_refl _
theorem RR {row:CU} (hr:NF row) {L:List Tok} {i d l j:Nat} {o:V7} (h:GO row L i d l=some (.ok o j)):i+1+o.b.count+o.e.count≤j:=by
 unfold GO at h
 split at h
 ·unfold badR at h;cases h
 ·have a1:=G7 L i
  unfold Dz at a1
  rcases RS.obind_some h with⟨s,j1,h1,h2⟩|⟨e,p,h1,h2⟩
  ·rw[Option.some.inj h1]at a1
   have b1:=a1.1
   split at h2
   ·rcases RS.obind_some h2 with⟨_,j2,h3,h4⟩|⟨e,p,h3,h4⟩
    ·have a3:=P5 (Option.some.inj h3)
     simp only[Option.some.injEq,RS.ok.injEq]at h4
     obtain⟨rfl,rfl⟩:=h4
     simp only[Bk.count];omega
    ·cases h4
   ·rcases RS.obind_some h2 with⟨b,j2,h3,h4⟩|⟨e,p,h3,h4⟩
    ·have a2:=OV hr h3
     rcases RS.obind_some h4 with⟨e,j3,h5,h6⟩|⟨e,p,h5,h6⟩
     ·have a3:=WP hr h5
      simp only[Option.some.injEq,RS.ok.injEq]at h6
      obtain⟨rfl,rfl⟩:=h6
      simp only;omega
     ·cases h6
    ·cases h4
  ·cases h2
theorem Y9 (L:List Tok):∀f,NF (Ci L f):=by
 intro f
 induction f with
 |zero=>intro i d l b j h;simp[Ci]at h
 |succ f ih=>
  intro i d l b j h
  rw[DI]at h
  split at h
  ·simp only[Option.some.injEq,RS.ok.injEq]at h
   obtain⟨rfl,rfl⟩:=h
   exact Nat.le_refl _
  ·rcases RS.obind_some h with⟨o,j1,h1,h2⟩|⟨e,p,h1,h2⟩
   ·have a1:=RR ih h1
    rcases RS.obind_some h2 with⟨t,j2,h3,h4⟩|⟨e,p,h3,h4⟩
    ·have a2:=ih _ _ _ _ _ h3
     simp only[Option.some.injEq,RS.ok.injEq]at h4
     obtain⟨rfl,rfl⟩:=h4
     simp only[Bk.count];omega
    ·cases h4
   ·cases h2
end Go.Proofs.YthfkpalfopdmhaaGreatDoor
