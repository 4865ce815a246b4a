/- Texts of the walk, packed. -/
import Derived.Test.YthfkpalfopdmhaaGreatDoorX26
import Derived.Deep.AppendLies
import Derived.Deep.RegionLaw
import Derived.Deep.Cut
import Derived.Test.YthfkpalfopdmhaaGreatDoorX00
namespace Go.Proofs.YthfkpalfopdmhaaGreatDoor
open Go.RowKit
theorem N7 {L:List Tok} {i:Nat} {t:Tok} (h:L[i]?=some t):AT L i=t.pl:=by
 unfold AT;rw[if_pos (by omega),Int.toNat_natCast,h]
def sv0 (k:Int) (pl:Int):Sv:=⟨GV k pl,.slice none 0 0,.slice none 0 0⟩
section
variable {L:List Tok} {W0:World} {g:Nat} {lv:Value} {i d l m:Nat} {pl:Int} {K:List Sv} {kv:Value} {w:World} {b:Nat} {x:Sv}
theorem Uw {cur:Array Value} {K:List Sv} (h:cur.toList.take (K.length*9)=CC K):K.length*9≤cur.size:=by
 have h1:=congrArg List.length h;rw[List.length_take,J6]at h1;have h2:cur.toList.length=cur.size:=by simp
 omega
theorem QBA {P Q:List Sv} {x y:Sv} {cur:Array Value} (h:cur.toList.take ((P++[x]++Q).length*9)=CC (P++[x]++Q)) (a0 a1 a2 a3 a4 a5 a6 a7 a8:Value) (hy:Be y=[a0,a1,a2,a3,a4,a5,a6,a7,a8]):
  (((((((((cur.setIfInBounds (P.length*9) a0).setIfInBounds (P.length*9+1) a1).setIfInBounds (P.length*9+2) a2).setIfInBounds (P.length*9+3) a3).setIfInBounds (P.length*9+4) a4).setIfInBounds (P.length*9+5) a5).setIfInBounds (P.length*9+6) a6).setIfInBounds (P.length*9+7) a7).setIfInBounds (P.length*9+8) a8).toList.take ((P++[y]++Q).length*9)=CC (P++[y]++Q):=by
 have hl:(P++[y]++Q).length=(P++[x]++Q).length:=by simp
 rw[hl];apply List.ext_getElem?;intro j;have hx:(Be x).length=9:=rfl;have hp:=J6 P;have e1:CC (P++[x]++Q)=CC P++(Be x++CC Q):=by rw[E6,E6,List.append_assoc];simp[CC]
 have e2:CC (P++[y]++Q)=CC P++(Be y++CC Q):=by rw[E6,E6,List.append_assoc];simp[CC]
 have hsz:=Uw h;have hN:(P++[x]++Q).length*9=P.length*9+9+Q.length*9:=by simp only[List.length_append,List.length_cons,List.length_nil];omega
 have hj:=congrArg (fun l=>l[j]?) h;simp only[List.getElem?_take,Array.getElem?_toList]at hj;rw[List.getElem?_take,Array.getElem?_toList];simp only[Array.getElem?_setIfInBounds,Array.size_setIfInBounds];rw[e1]at hj;rw[e2,hy];by_cases h1:j<P.length*9
 ·rw[List.getElem?_append_left (by omega)]at hj⊢;rw[if_pos (by omega)]at hj⊢;rw[←hj];simp only[show¬(P.length*9=j)from by omega,show¬(P.length*9+1=j)from by omega,show¬(P.length*9+2=j)from by omega,show¬(P.length*9+3=j)from by omega,show¬(P.length*9+4=j)from by omega,show¬(P.length*9+5=j)from by omega,show¬(P.length*9+6=j)from by omega,show¬(P.length*9+7=j)from by omega,show¬(P.length*9+8=j)from by omega,if_false]
 ·rw[List.getElem?_append_right (by omega)]at hj⊢;by_cases h2:j<P.length*9+9
  ·rw[if_pos (by omega)];obtain⟨q,rfl⟩:∃q,j=P.length*9+q:=⟨j-P.length*9,by omega⟩
   have hq:q=0∨q=1∨q=2∨q=3∨q=4∨q=5∨q=6∨q=7∨q=8:=by omega
   have hsz2:P.length*9+q<cur.size:=by omega
   rw[hp,Nat.add_sub_cancel_left,List.getElem?_append_left (by simp only[List.length_cons,List.length_nil];omega)];clear hj;rcases hq with rfl|rfl|rfl|rfl|rfl|rfl|rfl|rfl|rfl<;>simp[show P.length*9+8<cur.size from by omega,show P.length*9+7<cur.size from by omega,show P.length*9+6<cur.size from by omega,show P.length*9+5<cur.size from by omega,show P.length*9+4<cur.size from by omega,show P.length*9+3<cur.size from by omega,show P.length*9+2<cur.size from by omega,show P.length*9+1<cur.size from by omega,show P.length*9<cur.size from by omega]
  ·rw[List.getElem?_append_right (by rw[hx];omega),hx]at hj;rw[List.getElem?_append_right (by simp only[List.length_cons,List.length_nil];omega)];simp only[List.length_cons,List.length_nil];rw[←hj];simp only[show¬(P.length*9=j)from by omega,show¬(P.length*9+1=j)from by omega,show¬(P.length*9+2=j)from by omega,show¬(P.length*9+3=j)from by omega,show¬(P.length*9+4=j)from by omega,show¬(P.length*9+5=j)from by omega,show¬(P.length*9+6=j)from by omega,show¬(P.length*9+7=j)from by omega,show¬(P.length*9+8=j)from by omega,if_false]
theorem Dm.fill {P Q:List Sv} {y:Sv} {gq cap:Nat} (h:Dm L W0 g lv i d l m pl (P++[x]++Q) (.slice (some ⟨gq,0,none⟩) (P++[x]++Q).length cap) w) (hre:CY W0.heap.size w y.vE y.s.e) (hrf:CY W0.heap.size w y.vF y.s.f) {p:Nat} (hp:p=P.length) {a0 a1 a2 a3 a4 a5 a6 a7 a8:Value} (hy:Be y=[a0,a1,a2,a3,a4,a5,a6,a7,a8]) {w':World}
  (hw:w'=(((((((((w.setCell ⟨gq,p*9,none⟩ a0).setCell ⟨gq,p*9+1,none⟩ a1).setCell ⟨gq,p*9+2,none⟩ a2).setCell ⟨gq,p*9+3,none⟩ a3).setCell ⟨gq,p*9+4,none⟩ a4).setCell ⟨gq,p*9+5,none⟩ a5).setCell ⟨gq,p*9+6,none⟩ a6).setCell ⟨gq,p*9+7,none⟩ a7).setCell ⟨gq,p*9+8,none⟩ a8)):
  Dm L W0 g lv i d l m pl (P++[y]++Q) (.slice (some ⟨gq,0,none⟩) (P++[x]++Q).length cap) w'∧AG (fun k=>k=gq) w w':=by
 subst hp;have k1:∀{u:World} {j:Nat} {v:Value},AG (fun k=>k=gq) w u→AG (fun k=>k=gq) w (u.setCell ⟨gq,j,none⟩ v):=fun h=>h.trans AG.set (fun _ _ h=>h) (fun _ _ h=>h)
 have hk:AG (fun k=>k=gq) w w':=by rw[hw];exact k1 (k1 (k1 (k1 (k1 (k1 (k1 (k1 (k1 (AG.refl _ _)))))))))
 obtain⟨hgg,hlt,hB⟩:=h.own_ne gq rfl;have hm:∀q cs fr,w.heap[q]?=some (.cells cs 46 fr)→¬(q=gq):=fun q cs fr hh e=>h.mine_nodes q cs fr hh (.inr (by rw[e];rfl))
 refine⟨⟨h.low.trans (hk.below (fun k hk e=>by omega) h.low.size),h.gB,by rw[hk.block g h.lt (fun e=>hgg e.symm)];exact h.blk,?_,?_,?_,h.il,h.mi,h.dd,h.ll⟩,hk⟩
 ·refine⟨by rw[J6],?_⟩;have hl:(P++[y]++Q).length=(P++[x]++Q).length:=by simp
  rcases h.row.2 with⟨h0,_⟩|⟨g',cap',cur,h1,h2,h3,h4,h5,h6,h7⟩
  ·cases h0
  ·simp only[Value.slice.injEq,Option.some.injEq,Addr.mk.injEq]at h1;obtain⟨⟨rfl,_⟩,_,rfl⟩:=h1;refine .inr ⟨gq,cap,_,by rw[hl],h2,by rw[hw];exact Am (Am (Am (Am (Am (Am (Am (Am (Am h3)))))))),by omega,h5,by simpa using h6,QBA h7 a0 a1 a2 a3 a4 a5 a6 a7 a8 hy⟩
 ·intro z hz;have hz':z∈P++[x]++Q∨z=y:=by
   simp only[List.mem_append,List.mem_cons,List.not_mem_nil,or_false]at hz⊢;rcases hz with(hz|hz)|hz
   ·exact .inl (.inl (.inl hz))
   ·exact .inr hz
   ·exact .inl (.inr hz)
  rcases hz' with hz|rfl
  ·obtain⟨r1,r2⟩:=h.rds z hz;exact⟨r1.keep hk hm,r2.keep hk hm⟩
  ·exact⟨hre.keep hk hm,hrf.keep hk hm⟩
 ·rw[←h.len];simp
theorem QDK:(Tryz.prog.info? 44).map (fun i=>(i.zero,i.size,i.bytes))=some (some (.agg #[.int .i64 0,.string ⟨#[]⟩,.string ⟨#[]⟩,.slice none 0 0,.slice none 0 0,.int .i64 0,.int .i64 0,.int .i64 0,.int .i64 0]),9,120):=by kernel_rfl
theorem AG.grown {w w':World} {row:Option Nat} (h:w.grownBy w' row):AG (fun k=>row=some k) w w':=⟨h.os,h.tape,h.output,h.size,fun k hk hg=>h.block k hk (fun e=>hg e.symm)⟩
theorem QEr {x:Sv} (hE:∃A n c,x.vE=.slice A n c) (hF:∃A n c,x.vF=.slice A n c):∀u∈Be x,u.oneCell'=true:=by
 obtain⟨A,n,c,h1⟩:=hE;obtain⟨A2,n2,c2,h2⟩:=hF;intro u hu;simp only[Be,h1,h2,List.mem_cons,List.not_mem_nil,or_false]at hu;rcases hu with rfl|rfl|rfl|rfl|rfl|rfl|rfl|rfl|rfl<;>rfl
theorem QDL {B n:Nat} {v:Value} {xs:List Value} {o:Obj} (h:w.ownsRow B 44 9 v n xs):(w.drew.alloc o).ownsRow B 44 9 v n xs:=Kt (P:=fun _=>False) h (AG.of ((AD w).alloc (Nat.le_refl _) o)) (fun _ _ h=>h)
theorem cell_grown {o:Obj} {w5:World} {v:Value} {j:Nat} (hg:(w.drew.alloc o).grownBy w5 kv.ownBlock) (hkv:∀q,kv.ownBlock=some q→q≠g) (hl:g<w.heap.size) (c:w.cell? ⟨g,j,none⟩=some v) (f:w.frozen? ⟨g,j,none⟩=false):w5.cell? ⟨g,j,none⟩=some v∧w5.frozen? ⟨g,j,none⟩=false:=by
 have hb:Below w.heap.size w (w.drew.alloc o):=(AD w).alloc (Nat.le_refl _) o;have e:=hg.block g (Nat.lt_of_lt_of_le hl hb.size) (fun e=>hkv g e.symm rfl);have e2:=hb.block g hl;exact⟨by rw[World.cell?_of_block (a:=⟨g,j,none⟩) (e.trans e2)];exact c,by rw[World.frozen?_of_block (a:=⟨g,j,none⟩) (e.trans e2)];exact f⟩
theorem NJ {B:Nat} {o:Obj} (h:B≤w.heap.size):B≤(w.drew.alloc o).heap.size:=by simp;omega
theorem TJ (w:World) (o:Obj):(w.drew.alloc o).heap[w.heap.size]?=some o:=heap_alloc_new w.drew o
theorem Dm.more (h:Dm L W0 g lv i d l m pl K kv w) (hm:m<40) (hmi:m+1≤i) (hil:i≤L.length) {w2 w5:World} {g5 cap:Nat} (hre:CY W0.heap.size w5 x.vE x.s.e) (hrf:CY W0.heap.size w5 x.vF x.s.f) (h2:AG (fun k=>k=g) w w2)
  (h2b:w2.heap[g]?=some (.cells #[lv,.int .i64 i,.int .i64 d,.int .i64 l,.int .i64 ((m+1:Nat):Int),kv,.int .i64 pl] 255 (0,0)))
  (hown:w5.ownsRow W0.heap.size 44 9 (.slice (some ⟨g5,0,none⟩) (K.length+1) cap) (K.length+1) (CC K++Be x)) (hg:w2.grownBy w5 kv.ownBlock) (hat:kv.ownBlock=some g5∨w.heap.size≤g5) (hgg:g5≠g):
  Dm L W0 g lv i d l (m+1) pl (K++[x]) (.slice (some ⟨g5,0,none⟩) (K.length+1) cap) (w5.setCell ⟨g,5,none⟩ (.slice (some ⟨g5,0,none⟩) (K.length+1) cap))∧AG (Mine g kv) w (w5.setCell ⟨g,5,none⟩ (.slice (some ⟨g5,0,none⟩) (K.length+1) cap))∧Dq kv (.slice (some ⟨g5,0,none⟩) (K.length+1) cap) w:=by
 have hkv:∀q,kv.ownBlock=some q→q≠g:=fun q hq=>(h.own_ne q hq).1
 have hg5:w5.heap[g]?=some (.cells #[lv,.int .i64 i,.int .i64 d,.int .i64 l,.int .i64 ((m+1:Nat):Int),kv,.int .i64 pl] 255 (0,0)):=by
  rw[hg.block g (Array.getElem?_eq_some_iff.1 h2b).1 (fun e=>hkv g e.symm rfl)];exact h2b
 have k5:AG (Mine g kv) w w5:=h2.trans (AG.grown hg) (fun _ _ h=>.inl h) (fun _ _ h=>.inr h);have k6:AG (Mine g kv) w (w5.setCell ⟨g,5,none⟩ (.slice (some ⟨g5,0,none⟩) (K.length+1) cap)):=k5.trans AG.set (fun _ _ h=>h) (fun _ _ h=>.inl h);have kg:AG (fun k=>k=g) w5 (w5.setCell ⟨g,5,none⟩ (.slice (some ⟨g5,0,none⟩) (K.length+1) cap)):=AG.set;have hl:=h.len;have hn5:∀q cs fr,w5.heap[q]?=some (.cells cs 46 fr)→¬(q=g):=fun q cs fr hh e=>by rw[e,hg5]at hh;simp at hh
 refine⟨⟨h.low.trans (k6.below h.mine_low h.low.size),h.gB,Am hg5,?_,?_,?_,?_,hmi,h.dd,h.ll⟩,k6,?_⟩
 ·rw[E6,List.length_append];have e1:CC [x]=Be x:=by simp[CC]
  rw[e1];exact Kt hown kg (fun q hq e=>hgg (by simp[Value.ownBlock]at hq;rw[hq,e]))
 ·intro y hy;rcases List.mem_append.1 hy with h1|h1
  ·obtain⟨r1,r2⟩:=h.rds y h1;exact⟨(r1.keep k6 h.mine_nodes),(r2.keep k6 h.mine_nodes)⟩
  ·simp at h1;subst h1;exact⟨hre.keep kg hn5,hrf.keep kg hn5⟩
 ·rw[List.length_append,hl];simp only[List.length_cons,List.length_nil];omega
 ·exact .inl hil
 ·intro q hq;simp[Value.ownBlock]at hq;subst hq;exact hat
structure QGg (L:List Tok) (W0:World) (g:Nat) (lv:Value) (i d l m:Nat) (K:List Sv) (kv:Value) (b:Nat) (x:Sv) (w wx:World):Prop where
 go:∃pl1 kv1,ID L W0 g lv i (d+1) l (m+1) pl1 (K++(if m<40 then[x]else[])) kv1 b x wx∧Dq kv kv1 w
 keep:AG (Mine g kv) w wx
 fresh:w.heap.size≤b
theorem TK {wd:List UInt8} {s s':Stm} {j:Nat} (h:plainW L wd s i=.ok s' j):s'.kind=s.kind∧s'.els=s.els:=by
 unfold plainW at h
 repeat' split at h
 all_goals
  obtain⟨a,j1,_,h2⟩:=Ar h;simp only[RS.ok.injEq]at h2;rw[←h2.1];exact⟨rfl,rfl⟩
theorem FQ {α β:Type} {r:RS α} {f:α→β} {e p:Int} (h:(r.bind fun a j=>RS.ok (f a) j)=.bad e p):r=.bad e p:=by
 cases r with
 |ok a j=>cases h
 |bad e' p'=>simpa using h
theorem IX {α:Type} {r:RS α} {e p:Int} (h:Ec L i r) (hr:r=.bad e p):e≠0:=by subst hr;exact h
theorem WT {wd:List UInt8} {s:Stm} {e p:Int} (h:plainW L wd s i=.bad e p):e≠0:=by
 unfold plainW at h;split at h
 ·exact IX (Aq L i) (FQ h)
 split at h
 ·exact IX (Aq L i) (FQ h)
 split at h
 ·exact IX (BQ L i) (FQ h)
 split at h
 ·exact IX (BQ L i) (FQ h)
 split at h
 ·exact IX (I5 L i) (FQ h)
 exact IX (Ae L i wd) (FQ h)
theorem TL {r:RS (Bk×Bk)} {e:Ending} {w':World} (h:Jb L W0 g lv d l m K kv b x w r e w'):∃n,e=.returned (.int .i64 n):=by
 unfold Jb at h;split at h
 ·exact⟨_,h.1⟩
 ·exact⟨_,h.1⟩
set_option maxRecDepth 100000 in
set_option maxHeartbeats 4000000 in
theorem Rb {row:CU} (hs:Src L W0 lv) (hB:Gu L W0 g lv row) (h:ID L W0 g lv i (d+1) l m pl K kv b x w) (hl:l≤d) {kn:Nat} (hk:x.s.kind=kn) (hk2:kn=11∨kn=12) (he:x.s.els=0) {r:RS (Bk×Bk)} (hr:P9 row L d l kn i=some r):
  Calls Tryz.prog 280 #[.pointer (some ⟨g,0,none⟩),.string ⟨#[98]⟩,.pointer (some ⟨b,0,none⟩)] w (Jb L W0 g lv d l m K kv b x w r):=by
 have HC:Hid (Calls Tryz.prog 291 #[.pointer (some ⟨g,0,none⟩),.pointer (some ⟨b,0,none⟩)] w (Jb L W0 g lv d l m K kv b x w r)):=AA (by
  rcases hk2 with rfl|rfl
  ·exact ZC hs hB h hk he hr
  ·exact Uu hB h hl hk he hr)
 clear hs hB h hl hk hk2 he hr;go_enter Tryz.func280,Tryz.ntmps280;go_wp2_with fail
 refine HC.out.mono ?_;intro e w1 hp;have HP:=AA hp;obtain⟨n,rfl⟩:=TL hp;clear hp;go_wp2_with fail
 go_ret;exact HP.out
theorem WU {n k:Nat} (h:n<15) (hw:(BS n)[k]?=some [98]):k+1=(BS n).length∧(n=11∨n=12):=by
 have:∀n:Fin 15,∀k:Fin 9,(BS n.1)[k.1]?=some [98]→k.1+1=(BS n.1).length∧(n.1=11∨n.1=12):=by decide
 have hk:=(List.getElem?_eq_some_iff.1 hw).1;have hl:=N6 h;exact this ⟨n,h⟩ ⟨k,by omega⟩ hw
def Xi (L:List Tok) (W0:World) (g:Nat) (lv:Value) (d l m:Nat) (kv:Value) (K1:List Sv) (b:Nat) (w:World) (row:CU) (ws:List (List UInt8)) (kn:Nat) (r:RS V7) (fb:Nat) (k:Nat) (wq:World):Prop:=
 ∃(o:V7) (i':Nat) (pl':Int) (K':List Sv) (kv':Value) (vE vF:Value),ID L W0 g lv i' (d+1) l (m+1+o.b.count+o.e.count) pl' (K1++K') kv' b ⟨o.s,vE,vF⟩ wq∧K'.map (·.s)=(o.b.flat++o.e.flat).take (40-K1.length)∧Dq kv kv' w∧AG (Mine g kv) w wq∧Kw row L d l (ws.drop k) o i'=some r∧(k<ws.length→o.b=.nil∧o.e=.nil∧o.s.els=0)∧o.s.kind=kn∧∃fr,wq.heap[fb]?=some (.cells (ws.map fun l=>Value.string ⟨l.toArray⟩).toArray 9 fr)
theorem ID.not_words (h:ID L W0 g lv i d l m pl K kv b x w) {fb:Nat} {cs:Array Value} {fr:Nat×Nat} (hf:w.heap[fb]?=some (.cells cs 9 fr)):fb≠g∧fb≠b∧¬Mine g kv fb:=by
 have h1:fb≠g:=fun e=>by rw[e,h.st.blk]at hf;simp at hf
 refine⟨h1,fun e=>by rw[e,h.blk]at hf;simp at hf,?_⟩;rintro(e|e)
 ·exact h1 e
 ·obtain⟨_,cs',hh⟩:=Pm h.st.row fb e;rw[hh]at hf;simp at hf
theorem ZD {α:Type} {l:List α} {k:Nat} {a:α} (h:l[k]?=some a):l.drop k=a::l.drop (k+1):=by
 obtain⟨hk,rfl⟩:=List.getElem?_eq_some_iff.1 h;exact List.drop_eq_getElem_cons hk
set_option maxRecDepth 100000 in
set_option maxHeartbeats 8000000 in
theorem one_step {row:CU} (hs:Src L W0 lv) (hB:Gu L W0 g lv row):Xh L W0 g lv row:=by
 intro i d l m pl K kv w r h hmi hil hld hr;have HS:=AA h;have HC:=AA hs;have HBL:=AA hB;have hlen:=hs.len;by_cases hz:IC L i l=0
 ·obtain⟨er,her⟩:∃er:Int,(if i<L.length then 5 else 6)=er:=⟨_,rfl⟩
  have hne0:er≠0:=by rw[←her];split<;>decide
  have HER:=AA her;have h3:r=.bad er (AT L i):=by
   rw[WO hz]at hr;unfold badR at hr;rw[her]at hr;exact(Option.some.inj hr).symm
  subst h3;have HZ:=AA hz;clear h hs hB hr hz her;go_enter Tryz.func262,Tryz.ntmps262;go_wp2_with fail
  refine(QEP HC.out HS.out).mono ?_;rw[HZ.out];rintro e w1 ⟨rfl,hb1⟩;have HB1:=AA hb1;have HS1:=AA (HS.out.on hb1);clear hb1;go_wp2_with fail
  refine(Ny HC.out HS1.out).mono ?_;rw[HER.out];rintro e w2 ⟨rfl,hs2,hk2⟩;have HS2:=AA hs2;have HK2:=AA hk2;clear hs2 hk2;go_wp2_with fail
  go_ret;exact⟨rfl,hne0,HS2.out.bad,(AG.of (P:=Mine g kv) HB1.out).trans HK2.out (fun _ _ h=>h) (fun _ _ h=>.inl h)⟩
 obtain⟨hz1,hz2,hz3,hz4,hz5⟩:=Y7 hz;rw[←Y5 row L i d l hz2]at hr;obtain⟨t,ht⟩:∃t,L[i]?=some t:=⟨L[i],List.getElem?_eq_getElem hz5⟩
 rw[N7 ht]at hr;obtain⟨kn,hkn⟩:∃kn,Ao L i=kn:=⟨_,rfl⟩
 rw[hkn]at hr hz1 hz3 hz4;have HZ:=AA hz1;have HR:=AA hr;have HT:=AA ht;clear h hs hB hr hz hz1 hz2 ht hkn;go_enter Tryz.func262,Tryz.ntmps262;go_wp2_with fail
 refine(QEP HC.out HS.out).mono ?_;rw[HZ.out];rintro e w1 ⟨rfl,hb1⟩;have HB1:=AA hb1;have HS1:=AA (HS.out.on hb1);clear hb1;have hk0:((kn:Int)==0)=false:=by simp;omega
 obtain⟨tb,tc,rfl,hc,hb0,hb00,t0,t1,t2,t3⟩:=HS1.out.tok HC.out HT.out;have hgl:=HS1.out.lt;have c0:=HS1.out.c0;have c1:=HS1.out.c1;have c4:=HS1.out.c4;have f4:=HS1.out.fz 4;have hi0:(0:Int)≤(i:Int):=by omega
 have hi1:(i:Int)<(L.length:Int):=by omega
 have hw1:IntKind.i64.wrap ((m:Int)+1)=(m:Int)+1:=IntWalk.i64_in _ (by omega);clear t0 t1 t2;obtain⟨i0,hi,hz0,hz1,hz2⟩:=info_parts QDK;have HZI:=AA (show Tryz.prog.info? 44=some i0∧i0.zero=some (.agg #[.int .i64 0,.string ⟨#[]⟩,.string ⟨#[]⟩,.slice none 0 0,.slice none 0 0,.int .i64 0,.int .i64 0,.int .i64 0,.int .i64 0])∧i0.size=9∧i0.bytes=120 from⟨hi,hz0,hz1,hz2⟩);clear hi hz0 hz1 hz2;go_upto_region 4 with(fail)
 go_region
 go_upto_if 42 with(fail)
 obtain⟨X,hX⟩:∃X,((w1.setCell ⟨g,4,none⟩ (.int .i64 ((m:Int)+1))).alloc (.cells #[.int .i64 kn,.string ⟨#[]⟩,.string ⟨#[]⟩,.slice none 0 0,.slice none 0 0,.int .i64 0,.int .i64 0,.int .i64 0,.int .i64 t.pl] 44)).drew=X:=⟨_,rfl⟩
 rw[hX];obtain⟨b,hb⟩:∃b,w1.heap.size=b:=⟨_,rfl⟩
 rw[hb];have hXk:AG (fun k=>k=g) w1 X:=by
  rw[←hX];refine(AG.set (g:=g) (j:=4) (w:=w1)).trans (AG.of (P:=fun _=>False) (w:=w1.setCell ⟨g,4,none⟩ (.int .i64 ((m:Int)+1))) ?_) (fun _ _ h=>h) (fun _ _ h=>h.elim);exact((Below.refl _ _).alloc (Nat.le_refl _) _).trans (EM _ _)
 have hXg:X.heap[g]?=some (.cells #[.slice (some ⟨tb,0,none⟩) L.length tc,.int .i64 i,.int .i64 ((d+1:Nat):Int),.int .i64 l,.int .i64 ((m+1:Nat):Int),kv,.int .i64 pl] 255 (0,0)):=by
  rw[←hX];show((w1.setCell ⟨g,4,none⟩ (.int .i64 ((m:Int)+1))).alloc _).heap[g]?=_;rw[((Below.refl (w1.setCell ⟨g,4,none⟩ (.int .i64 ((m:Int)+1))).heap.size _).alloc (Nat.le_refl _) _).block g (by simpa using hgl),Am HS1.out.blk];simp
 have hXb:X.heap[b]?=some (.cells (Be (sv0 kn t.pl)).toArray 44 (0,0)):=by
  rw[←hX,←hb];show((w1.setCell ⟨g,4,none⟩ (.int .i64 ((m:Int)+1))).alloc _).heap[w1.heap.size]?=_;have e:w1.heap.size=(w1.setCell ⟨g,4,none⟩ (.int .i64 ((m:Int)+1))).heap.size:=by simp
  rw[e,heap_alloc_new];rfl
 have hbf:w.heap.size≤b:=by rw[←hb];exact HB1.out.size
 have hbX:b<X.heap.size:=(Array.getElem?_eq_some_iff.1 hXb).1;have hgX:g<X.heap.size:=(Array.getElem?_eq_some_iff.1 hXg).1;have HXK:=AA hXk;have HXG:=AA hXg;have HXB:=AA hXb;have hneb:¬b=g:=by omega
 have hneg:¬g=b:=by omega
 have HAS:Hid (H5 W0 g kv b):=AA ⟨hneb,fun e=>by have:=(HS1.out.own_ne b e).2.1;omega,by have:=HS1.out.low.size;omega⟩;have HKW:Hid (AG (Mine g kv) w X):=AA ((AG.of (P:=Mine g kv) HB1.out).trans hXk (fun _ _ h=>h) (fun _ _ h=>.inl h));clear hX hb hXk t3 c0 c1 c4 f4 hgl hb0
 go_cut [6,41]from 42 to 52 (fun a c wx=>a=.bool (decide ((m:Int)<40))∧c=.bool (decide ((m:Int)<40))∧QGg L W0 g (.slice (some ⟨tb,0,none⟩) L.length tc) i d l m K kv b (sv0 kn t.pl) w wx)
 case first=>
  by_cases hm:m<40
  ·have hmI:(m:Int)<40:=by omega
   have c5:X.cell? ⟨g,5,none⟩=some kv:=by rw[Lib.cell_of_heap hXg];rfl
   have f5:X.frozen? ⟨g,5,none⟩=false:=Lib.frozen_of_heap hXg 5;have z0:X.cell? ⟨b,0,none⟩=some (.int .i64 kn):=by rw[Lib.cell_of_heap hXb];rfl
   have z1:X.cell? ⟨b,1,none⟩=some (.string ⟨#[]⟩):=by rw[Lib.cell_of_heap hXb];rfl
   have z2:X.cell? ⟨b,2,none⟩=some (.string ⟨#[]⟩):=by rw[Lib.cell_of_heap hXb];rfl
   have z3:X.cell? ⟨b,3,none⟩=some (.slice none 0 0):=by rw[Lib.cell_of_heap hXb];rfl
   have z4:X.cell? ⟨b,4,none⟩=some (.slice none 0 0):=by rw[Lib.cell_of_heap hXb];rfl
   have z5:X.cell? ⟨b,5,none⟩=some (.int .i64 0):=by rw[Lib.cell_of_heap hXb];rfl
   have z6:X.cell? ⟨b,6,none⟩=some (.int .i64 0):=by rw[Lib.cell_of_heap hXb];rfl
   have z7:X.cell? ⟨b,7,none⟩=some (.int .i64 0):=by rw[Lib.cell_of_heap hXb];rfl
   have z8:X.cell? ⟨b,8,none⟩=some (.int .i64 t.pl):=by rw[Lib.cell_of_heap hXb];rfl
   have hKl:=HS1.out.len;have hK40:K.length≤40:=by omega
   clear hKl;have HROW:Hid (X.ownsRow W0.heap.size 44 9 kv K.length (CC K)):=AA (Kt HS1.out.row HXK.out (fun q hq e=>(HS1.out.own_ne q hq).1 e));have HWB:Hid (W0.heap.size≤X.heap.size):=AA (Nat.le_trans HS1.out.low.size HXK.out.size);have HNO:Hid (∀q,kv.ownBlock=some q→q≠g):=AA (fun q hq=>(HS1.out.own_ne q hq).1);clear hXg hXb;go_wp2_with fail
   go_region_law (refine step_append_lies _ rfl (.tmp 47) (.tmp 49) 39 rfl W0.heap.size 44 i0 (.agg #[.int .i64 0,.string ⟨#[]⟩,.string ⟨#[]⟩,.slice none 0 0,.slice none 0 0,.int .i64 0,.int .i64 0,.int .i64 0,.int .i64 0]) 9 120 Tryz.underlying39 HZI.out.1 HZI.out.2.1 HZI.out.2.2.1 HZI.out.2.2.2 rfl (by decide) kv K.length (CC K) (by rfl) (QDL HROW.out) ⟨X.heap.size,0,none⟩ 1 1 (Be (sv0 kn t.pl)) (by rfl) (by rfl) (World.news_of_block (cs:=(Be (sv0 kn t.pl)).toArray) (TJ X _)) (QEr ⟨_,_,_,rfl⟩ ⟨_,_,_,rfl⟩) (by decide) (by unfold maxLen;omega) (by omega) (NJ HWB.out) (X.heap.size+1) (by simp) ?_;intro g5 cap w5 hown5 hgrow5 hat5 hlt5;obtain⟨d5,e5⟩:=cell_grown hgrow5 HNO.out hgX c5 f5;have hg5:g<w5.heap.size:=Nat.lt_of_lt_of_le hgX (Nat.le_trans (by simp) hgrow5.size))
   all_goals
    have HOW:=AA hown5;have HGR:=AA hgrow5;have HAT:=AA hat5;clear hown5 hgrow5 hat5;go_wp2_with fail
    go_meet;case rel=>
     refine⟨congrArg Value.bool (decide_eq_true hmI).symm,congrArg Value.bool (decide_eq_true hmI).symm,?_⟩;have hk2:AG (fun k=>k=g) X (X.drew.alloc (.cells (Be (sv0 kn t.pl)).toArray 44)):=AG.of ((AD X).alloc (Nat.le_refl _) _);have hk3:=HXK.out.trans hk2 (R:=fun k=>k=g) (fun _ _ h=>h) (fun _ _ h=>h);have hgf:g5≠g:=by
      rcases HAT.out with h1|h1
      ·exact HNO.out g5 h1
      ·omega
     have hge:kv.ownBlock=some g5∨w1.heap.size≤g5:=by
      rcases HAT.out with h1|h1
      ·exact .inl h1
      ·exact .inr (by have:=HXK.out.size;omega)
     obtain⟨q1,q2,q3⟩:=HS1.out.more (x:=sv0 kn t.pl) hm hmi hil (IW _ _) (IW _ _) hk3 (by rw[((AD X).alloc (Nat.le_refl _) _).block g hgX];exact HXG.out) HOW.out HGR.out hge hgf;have hX5:AG (Mine g kv) X (w5.setCell ⟨g,5,none⟩ (.slice (some ⟨g5,0,none⟩) (K.length+1) cap)):=((hk2.trans (AG.grown HGR.out) (R:=Mine g kv) (fun _ _ h=>.inl h) (fun _ _ h=>.inr h))).trans AG.set (fun _ _ h=>h) (fun _ _ h=>.inl h)
     refine⟨⟨pl,_,⟨by rw[if_pos hm];exact q1,by rw[hX5.block b hbX HAS.out.not_mine];exact HXB.out,IW _ _,IW _ _,?_⟩,(Dq.refl kv w).trans q3 HB1.out.size⟩,HKW.out.trans hX5 (fun _ _ h=>h) (fun _ _ h=>h),hbf⟩;refine⟨HAS.out.ne,fun e=>?_,HAS.out.low⟩;simp[Value.ownBlock]at e;subst e;rcases HAT.out with h1|h1
     ·exact HAS.out.own h1
     ·omega
  ·have hmI:¬(m:Int)<40:=by omega
   clear hXg hXb;go_wp2_with fail
   go_meet;case rel=>
    refine⟨rfl,rfl,?_⟩;have hst:=HS1.out.put (m':=m+1) (d':=d+1) (l':=l) (i':=i) (pl':=pl) HXK.out HXG.out (by omega) (.inl hil) hmi HS1.out.dd HS1.out.ll;exact⟨⟨pl,kv,⟨by rw[if_neg hm,List.append_nil];exact hst,HXB.out,IW _ _,IW _ _,HAS.out⟩,Dq.refl _ _⟩,HKW.out,hbf⟩
 case rest=>
  obtain⟨rfl,rfl,hbeg⟩:=hcut;obtain⟨⟨pl1,kv1,hx1,ho1⟩,hk1,_⟩:=hbeg;have HX1:=AA hx1;have HO1:=AA ho1;have HK1:=AA hk1;clear hx1 ho1 hk1 hXg hXb HXK HXG HXB HKW hbX hgX;obtain⟨K1,hK1⟩:∃K1,K++(if m<40 then[sv0 kn t.pl]else[])=K1:=⟨_,rfl⟩
  rw[hK1]at HX1;have HKK:=AA hK1;have hkn15:kn<15:=by omega
  have HTW:=AA (HX1.out.st.tabs HC.out);have hcl:=HTW.out.form hkn15;have htl:=HTW.out.lt;have hfl:=N5 hkn15;have hki:(kn:Int)<15:=by omega
  have hki0:(0:Int)≤(kn:Int):=by omega
  clear hK1;go_wp2_with fail
  refine(Tryz.strings_Fields ⟨(CS kn).toArray⟩ _ (by show(CS kn).length<_;omega) (by simpa using OW hkn15) HTW.out.space).mono ?_;rw[show(ByteArray.mk (CS kn).toArray).data.toList=CS kn from by simp,NF hkn15];rintro e4 w4 ⟨rfl,rfl⟩;have hb4:=(Below.refl wc.heap.size wc).alloc (Nat.le_refl _) (.cells ((BS kn).map fun l=>Value.string ⟨l.toArray⟩).toArray 9)
  have HL0:Hid (Xi L W0 g (.slice (some ⟨tb,0,none⟩) L.length tc) d l m kv K1 b w row (BS kn) kn r wc.heap.size 0 (wc.alloc (.cells ((BS kn).map fun l=>Value.string ⟨l.toArray⟩).toArray 9))):=AA ⟨⟨GV kn t.pl,.nil,.nil⟩,i,pl1,[],kv1,_,_,by rw[List.append_nil];exact HX1.out.on hb4,by simp[Bk.flat],HO1.out,HK1.out.trans (AG.of (P:=fun _=>False) hb4) (fun _ _ h=>h) (fun _ _ h=>h.elim),HR.out,fun _=>⟨rfl,rfl,rfl⟩,rfl,(0,0),heap_alloc_new wc _⟩;have HWL:=AA (show∀k wd,(BS kn)[k]?=some wd→wd.length≤6 from fun k wd h=>Ul hkn15 h)
  have HWB:=AA (show∀k,(BS kn)[k]?=some [98]→k+1=(BS kn).length∧(kn=11∨kn=12)from fun k h=>WU hkn15 h);have hwl:=N6 hkn15;generalize hw4:wc.alloc (.cells ((BS kn).map fun l=>Value.string ⟨l.toArray⟩).toArray 9)=w4 at *;generalize hfbq:wc.heap.size=fb at *;generalize hws:BS kn=ws at *;clear hw4 hfbq hws hcl htl hfl HTW hb4 HX1 HO1 HK1 HR;obtain⟨n,hn⟩:∃n,ws.length=n:=⟨_,rfl⟩
  have HN:=AA hn;rw[hn]at hwl⊢;clear hn;go_wp2_with fail
  go_loopw [58] (fun j wq=>∃k:Nat,k≤n∧j=.int .i64 k∧Xi L W0 g (.slice (some ⟨tb,0,none⟩) L.length tc) d l m kv K1 b w row ws kn r fb k wq) (fun j _=>n-(intOf j).toNat)
  case atStart=>exact⟨0,Nat.zero_le _,rfl,HL0.out⟩
  case round=>
   obtain⟨k,hk,rfl,o,i',pl',K',kv',vE,vF,hst,hmp,hon,hkp,hwp,hnl,hkd,fr,hfb⟩:=hrel;have HST:=AA hst;have HMP:=AA hmp;have HON:=AA hon;have HKP:=AA hkp;have HNL:=AA hnl;have HKD:=AA hkd;have HFB:=AA hfb;have hfbl:fb<wr.heap.size:=(Array.getElem?_eq_some_iff.1 hfb).1;have hw1k:IntKind.i64.wrap ((k:Int)+1)=(k:Int)+1:=IntWalk.i64_in _ (by omega);obtain⟨nw1,nw2,nw3⟩:=hst.not_words hfb;clear hst hmp hon hkp hnl hkd;rcases Nat.lt_or_ge k n with hlt|hge;case inl=>
    obtain⟨wd,hwd⟩:∃wd,ws[k]?=some wd:=⟨ws[k]'(by rw[HN.out];omega),List.getElem?_eq_getElem _⟩
    have hcw:wr.cell? ⟨fb,k,none⟩=some (.string ⟨wd.toArray⟩):=by rw[cell_of_row wr fb k _ _ fr hfb];simp[hwd]
    rw[ZD hwd]at hwp;have hwp:RS.obind (P6 row L d l wd o i') (fun o j=>Kw row L d l (ws.drop (k+1)) o j)=some r:=hwp;clear hfb;by_cases cb:wd=[98]
    ·subst cb;obtain⟨hlast,h1112⟩:=HWB.out k hwd;rw[HN.out]at hlast;obtain⟨on1,on2,on3⟩:=HNL.out (by rw[HN.out];omega);have HKX:=HKD.out;have hwp2:RS.obind (P9 row L d l kn i') (fun tu j=>Kw row L d l (ws.drop (k+1)) ⟨{o.s with body:=tu.1.count,els:=tu.2.count},tu.1,tu.2⟩ j)=some r:=by
      rw[←hwp];unfold P6 P9;simp only[List.cons.injEq,and_true,show¬((98:UInt8)=114)from by decide,show¬((98:UInt8)=110)from by decide,show¬((98:UInt8)=101)from by decide,show¬((98:UInt8)=102)from by decide,show¬((98:UInt8)=107)from by decide,if_false,if_true,I8,RS.obind_ok,HKX,Int.toNat_natCast]
     have hcnt:m+1+o.b.count+o.e.count=m+1:=by rw[on1,on2];rfl
     have hKn:K'=[]:=by have:=HMP.out;rw[on1,on2]at this;simpa[Bk.flat]using this
     subst hKn;rw[hcnt,List.append_nil]at HST;clear hwp hwd;rcases RS.obind_some hwp2 with⟨tu,j2,g1,g2⟩|⟨er,p,g1,rfl⟩
     ·have HB6:=AA g1;have HW2:=AA g2;have HE3:=AA on3;clear g1 g2 hwp2 on1 on2 on3 HKX;go_wp2_with fail
      refine(Rb HC.out HBL.out HST.out hld HKD.out h1112 HE3.out HB6.out).mono ?_;rintro e6 w6 ⟨rfl,⟨pl6,K6,kv6,hx6,hm6,ho6⟩,hk6⟩;have HREL:Hid (Xi L W0 g (.slice (some ⟨tb,0,none⟩) L.length tc) d l m kv K1 b w row ws kn r fb (k+1) w6):=AA ⟨⟨{o.s with body:=tu.1.count,els:=tu.2.count},tu.1,tu.2⟩,j2,pl6,K6,kv6,vE,vF,hx6,hm6,HON.out.trans ho6 HKP.out.size,HKP.out.trans hk6 (fun _ _ h=>h) (fun q hq h=>by
       rcases h with h|h
       ·exact Mine.onward HON.out q hq h
       ·omega),HW2.out,fun h=>absurd h (by rw[HN.out];omega),HKD.out,fr,by rw[hk6.block fb hfbl (fun h=>h.elim nw3 nw2)];exact HFB.out⟩
      clear hx6 hm6 ho6 hk6;go_wp2_with fail
      go_roundw;case rel=>exact⟨k+1,by omega,by go_num,HREL.out⟩
      case measure=>simp[intOf];omega
     ·have HB6:=AA g1;have HE3:=AA on3;clear g1 hwp2 on1 on2 on3 HKX;go_wp2_with fail
      refine(Rb HC.out HBL.out HST.out hld HKD.out h1112 HE3.out HB6.out).mono ?_;rintro e6 w6 ⟨rfl,hne0,hba,hk6⟩;have hz2:(er != 0)=true:=by simp[hne0]
      have HRES:Hid (Oi L W0 g (.slice (some ⟨tb,0,none⟩) L.length tc) d l m K kv w (.bad er p) (.returned (.int .i64 er)) w6):=AA ⟨rfl,hne0,hba,HKP.out.trans hk6 (fun _ _ h=>h) (fun q hq h=>by
       rcases h with h|h
       ·exact Mine.onward HON.out q hq h
       ·omega)⟩
      clear hba hk6 hne0;go_wp2_with fail
      go_ret;exact HRES.out
    ·rw[Uo row L d l o i' cb,I8]at hwp;clear hwd;cases hpw:plainW L wd o.s i' with
     |ok s' j'=>
      rw[hpw]at hwp;have HW2:Hid (Kw row L d l (ws.drop (k+1)) ⟨s',o.b,o.e⟩ j'=some r):=AA hwp;obtain⟨e1,e2⟩:=TK hpw;have HE1:=AA e1;have HE2:=AA e2;have HPW:=AA hpw;clear hwp hpw e1 e2;go_wp2_with fail
      refine(OZ HC.out HST.out cb).mono ?_;show∀e w',Reads (plainW L wd o.s i') _ _ _ _ _ e w'→_;rw[HPW.out];rintro e6 w6 ⟨rfl,⟨vE6,vF6,pl6,hx6⟩,hk6⟩;have HREL:Hid (Xi L W0 g (.slice (some ⟨tb,0,none⟩) L.length tc) d l m kv K1 b w row ws kn r fb (k+1) w6):=AA ⟨⟨s',o.b,o.e⟩,j',pl6,K',kv',vE6,vF6,hx6,HMP.out,HON.out,HKP.out.trans hk6 (fun _ _ h=>h) (fun q hq h=>by
       rcases h with h|h
       ·exact .inl h
       ·omega),HW2.out,fun h=>by
        obtain⟨n1,n2,n3⟩:=HNL.out (by omega);exact⟨n1,n2,by rw[←n3];exact HE2.out⟩,HE1.out.trans HKD.out,fr,by rw[hk6.block fb hfbl (fun h=>h.elim nw1 nw2)];exact HFB.out⟩
      clear hx6 hk6;go_wp2_with fail
      go_roundw;case rel=>exact⟨k+1,by omega,by go_num,HREL.out⟩
      case measure=>simp[intOf];omega
     |bad er p=>
      rw[hpw]at hwp;obtain rfl:RS.bad er p=r:=Option.some.inj hwp;have hne0:=WT hpw;have hz2:(er != 0)=true:=by simp[hne0]
      have HPW:=AA hpw;have HNE:=AA hne0;clear hwp hpw hne0;go_wp2_with fail
      refine(OZ HC.out HST.out cb).mono ?_;show∀e w',Reads (plainW L wd o.s i') _ _ _ _ _ e w'→_;rw[HPW.out];rintro e6 w6 ⟨rfl,hba,hk6⟩;have HRES:Hid (Oi L W0 g (.slice (some ⟨tb,0,none⟩) L.length tc) d l m K kv w (.bad er p) (.returned (.int .i64 er)) w6):=AA ⟨rfl,HNE.out,hba,HKP.out.trans hk6 (fun _ _ h=>h) (fun q hq h=>by
       rcases h with h|h
       ·exact .inl h
       ·omega)⟩
      clear hba hk6;go_wp2_with fail
      go_ret;exact HRES.out
   case inr=>
    obtain rfl:k=n:=by omega
    rw[List.drop_eq_nil_of_le (by rw[HN.out];exact Nat.le_refl _)]at hwp;obtain rfl:RS.ok o i'=r:=Option.some.inj hwp;clear hwp hfb;by_cases hm:m<40
    ·have hmI:(m:Int)<40:=by omega
     have hKK:=HKK.out;rw[if_pos hm]at hKK;have hKl:=HS1.out.len;have hKm:K.length=m:=by omega
     have hgl:=HST.out.st.lt;have c5:=HST.out.st.c5;have hbl:=HST.out.lt;obtain⟨gq,cap,cur,hkv,hgq,hB,hcap,hrow⟩:∃gq cap cur,kv'=.slice (some ⟨gq,0,none⟩) (K1++K').length cap∧wr.heap[gq]?=some (.cells cur 44 (0,0))∧W0.heap.size≤gq∧cur.size=cap*9∧cur.toList.take ((K1++K').length*9)=CC (K1++K'):=by
      rcases HST.out.st.row.2 with⟨_,h0⟩|⟨gq,cap,cur,h1,h2,h3,h4,h5,h6,h7⟩
      ·rw[←hKK]at h0;simp at h0
      ·exact⟨gq,cap,cur,h1,h3,h2,h6,h7⟩
     have hKN:m<(K1++K').length:=by rw[←hKK];simp only[List.length_append,List.length_cons,List.length_nil];omega
     have hcur:∀j,j<9→∃v,wr.cell? ⟨gq,m*9+j,none⟩=some v:=by
      intro j hj;have hlt:m*9+j<cur.size:=by
       have h1:=Uw hrow;have h2:m*9+9≤(K1++K').length*9:=by have:=Nat.mul_le_mul_right 9 (Nat.succ_le_of_lt hKN);omega
       omega
      exact⟨cur[m*9+j],by rw[Lib.cell_of_heap hgq];simp[hlt]⟩
     obtain⟨v0,u0⟩:=hcur 0 (by omega);obtain⟨v1,u1⟩:=hcur 1 (by omega);obtain⟨v2,u2⟩:=hcur 2 (by omega);obtain⟨v3,u3⟩:=hcur 3 (by omega);obtain⟨v4,u4⟩:=hcur 4 (by omega);obtain⟨v5,u5⟩:=hcur 5 (by omega);obtain⟨v6,u6⟩:=hcur 6 (by omega);obtain⟨v7,u7⟩:=hcur 7 (by omega);obtain⟨v8,u8⟩:=hcur 8 (by omega);have y0:=Lib.frozen_of_heap hgq (m*9);have y1:=Lib.frozen_of_heap hgq (m*9+1);have y2:=Lib.frozen_of_heap hgq (m*9+2);have y3:=Lib.frozen_of_heap hgq (m*9+3);have y4:=Lib.frozen_of_heap hgq (m*9+4);have y5:=Lib.frozen_of_heap hgq (m*9+5);have y6:=Lib.frozen_of_heap hgq (m*9+6);have y7:=Lib.frozen_of_heap hgq (m*9+7)
     have y8:=Lib.frozen_of_heap hgq (m*9+8);have hblk:=HST.out.blk;have z0:wr.cell? ⟨b,0,none⟩=some (.int .i64 o.s.kind):=by rw[Lib.cell_of_heap hblk];rfl
     have z1:wr.cell? ⟨b,1,none⟩=some (.string ⟨o.s.reg.toArray⟩):=by rw[Lib.cell_of_heap hblk];rfl
     have z2:wr.cell? ⟨b,2,none⟩=some (.string ⟨o.s.name.toArray⟩):=by rw[Lib.cell_of_heap hblk];rfl
     have z3:wr.cell? ⟨b,3,none⟩=some vE:=by rw[Lib.cell_of_heap hblk];rfl
     have z4:wr.cell? ⟨b,4,none⟩=some vF:=by rw[Lib.cell_of_heap hblk];rfl
     have z5:wr.cell? ⟨b,5,none⟩=some (.int .i64 o.s.n):=by rw[Lib.cell_of_heap hblk];rfl
     have z6:wr.cell? ⟨b,6,none⟩=some (.int .i64 o.s.body):=by rw[Lib.cell_of_heap hblk];rfl
     have z7:wr.cell? ⟨b,7,none⟩=some (.int .i64 o.s.els):=by rw[Lib.cell_of_heap hblk];rfl
     have z8:wr.cell? ⟨b,8,none⟩=some (.int .i64 o.s.pl):=by rw[Lib.cell_of_heap hblk];rfl
     obtain⟨AE,nE,cE,hvE⟩:∃A n c,vE=.slice A n c:=by obtain⟨A,c,h,_⟩:=HST.out.re.rd;exact⟨A,_,c,h⟩
     obtain⟨AF,nF,cF,hvF⟩:∃A n c,vF=.slice A n c:=by obtain⟨A,c,h,_⟩:=HST.out.rf.rd;exact⟨A,_,c,h⟩
     have HGQ:=AA hgq;have HROW:=AA hrow;have HKv:=AA hkv;have HKQ:=AA hKK;have hgql:gq<wr.heap.size:=(Array.getElem?_eq_some_iff.1 hgq).1;rw[hkv]at c5;rw[hvE]at z3;rw[hvF]at z4;obtain⟨NN,hNN⟩:∃NN,(K1++K').length=NN:=⟨_,rfl⟩
     rw[hNN]at c5 hKN;have HNN:=AA hNN;have hmi0:(0:Int)≤(m:Int):=by omega
     have hmi1:(m:Int)<(NN:Int):=by omega
     simp only[Nat.add_zero]at u0;clear hcur hblk hgq hrow hkv hKK hKl hNN hcap hB;go_wp2_with fail
     go_region
     go_wp2_with fail
     go_ret;have hst2:=HST.out.st;rw[HKv.out,←HKQ.out]at hst2;have hKP:K++[sv0 kn t.pl]++K'=K1++K':=by rw[HKQ.out]
     obtain⟨q1,q2⟩:=hst2.fill (y:=⟨o.s,vE,vF⟩) HST.out.re HST.out.rf hKm.symm (by rw[hvE,hvF];rfl) rfl;have hmine:∀q,q<w.heap.size→q=gq→Mine g kv q:=by
      intro q hq e;exact Mine.onward HON.out q hq (.inr (by rw[HKv.out,e];rfl))
     refine⟨rfl,⟨pl',⟨o.s,vE,vF⟩::K',.slice (some ⟨gq,0,none⟩) (K++[sv0 kn t.pl]++K').length cap,?_,?_,?_⟩,?_⟩
     ·have q3:=q1.on (AD _);rw[List.append_assoc]at q3;exact q3
     ·have hK1:=congrArg List.length HKQ.out;simp only[List.length_append,List.length_cons,List.length_nil]at hK1;rw[List.map_cons,HMP.out,show 40-K.length=(40-K1.length)+1 from by omega,List.take_succ_cons]
     ·rw[hKP,←HKv.out];exact HON.out
     ·exact(HKP.out.trans q2 (R:=Mine g kv) (fun _ _ h=>h) hmine).trans (AG.of (P:=fun _=>False) (AD _)) (fun _ _ h=>h) (fun _ _ h=>h.elim)
    ·have hmI:¬(m:Int)<40:=by omega
     have HRES:Hid (Oi L W0 g (.slice (some ⟨tb,0,none⟩) L.length tc) d l m K kv w (.ok o i') (.returned (.int .i64 0)) wr):=AA (by
      have hKK:=HKK.out;rw[if_neg hm,List.append_nil]at hKK;subst hKK;have hl40:=HS1.out.len;have:40-K.length=0:=by omega
      refine⟨rfl,⟨pl',K',kv',HST.out.st,?_,HON.out⟩,HKP.out⟩;rw[HMP.out,this,List.take_zero,List.take_zero])
     go_wp2_with fail
     go_ret;exact HRES.out
end
end Go.Proofs.YthfkpalfopdmhaaGreatDoor
