/- Texts of the walk, packed. -/
import Derived.Test.YthfkpalfopdmhaaGreatDoorW22
import Derived.Test.YthfkpalfopdmhaaGreatDoorW20
import Derived.Test.YthfkpalfopdmhaaGreatDoorW00
namespace Go.Proofs.YthfkpalfopdmhaaGreatDoor
open Go.RowKit
def plainW (L:List Tok) (wd:List UInt8) (s:Stm) (i:Nat):RS Stm:=
 if wd=[114]then(Bd L i).bind fun r j=>.ok {s with reg:=r} j
 else if wd=[110]then(Bd L i).bind fun r j=>.ok {s with name:=r} j
 else if wd=[101]then(exprP L i).bind fun r j=>.ok {s with e:=r} j
 else if wd=[102]then(exprP L i).bind fun r j=>.ok {s with f:=r} j
 else if wd=[107]then(EQ L i).bind fun r j=>.ok {s with n:=r} j
 else(Bo L i wd).bind fun _ j=>.ok s j
theorem Dl {α β γ:Type} (r:RS α) (k:α->Nat->RS β) (h:β->Nat->Option (RS γ)) (h':α->Nat->Option (RS γ)) (hh:∀a j,h' a j=RS.obind (some (k a j)) h):RS.obind (some r) h'=RS.obind (some (r.bind k)) h:=by
 cases r with
 |ok a j=>exact hh a j
 |bad e p=>rfl
theorem VU (row:DF) (L:List Tok) (d l:Nat) {wd:List UInt8} (o:YG) (i:Nat) (h:wd≠[98]):Qd row L d l wd o i=RS.obind (some (plainW L wd o.s i)) fun s j=>some (.ok ⟨s,o.b,o.e⟩ j):=by
 unfold Qd plainW;split
 ·exact Dl _ _ _ _ fun _ _=>rfl
 split
 ·exact Dl _ _ _ _ fun _ _=>rfl
 split
 ·exact Dl _ _ _ _ fun _ _=>rfl
 split
 ·exact Dl _ _ _ _ fun _ _=>rfl
 split
 ·exact Dl _ _ _ _ fun _ _=>rfl
 exact Dl _ _ _ _ fun _ _=>rfl
structure IA (L:List Tok) (W0:World) (g:Nat) (lv:Value) (i d l m:Nat) (pl:Int) (K:List Sv) (kv:Value) (b:Nat) (x:Sv) (w:World):Prop where
 st:Dc L W0 g lv i d l m pl K kv w
 blk:w.heap[b]?=some (.cells (A8 x).toArray 44 (0,0))
 re:B0 W0.heap.size w x.vE x.s.e
 rf:B0 W0.heap.size w x.vF x.s.f
 sd:Hu W0 g kv b
section
variable {L:List Tok} {W0:World} {g:Nat} {lv:Value} {i d l m:Nat} {pl:Int} {K:List Sv} {kv:Value} {w:World} {b:Nat} {x:Sv}
theorem Reads.ret {α:Type} {r:RS α} {ok:α->Nat->World->Prop} {P:Nat->Prop} {e:Ending} {w':World} (h:Reads r ok g lv P w e w'):∃n,e=.returned (.int .i64 n):=by
 unfold Reads at h;split at h
 ·exact⟨_,h.1⟩
 ·exact⟨_,h.1⟩
theorem Reads.bind {α β:Type} {r:RS α} {ok:α->Nat->World->Prop} {ok':β->Nat->World->Prop} {P:Nat->Prop} {e:Ending} {w':World} {f:α->β} (h:Reads r ok g lv P w e w') (hk:∀a j,AG P w w'->ok a j w'->ok' (f a) j w'):Reads (r.bind fun a j=>.ok (f a) j) ok' g lv P w e w':=by
 cases r with
 |ok a j=>exact⟨h.1,hk a j h.2.2 h.2.1,h.2.2⟩
 |bad er p=>exact h
abbrev QGu (L:List Tok) (W0:World) (g:Nat) (lv:Value) (d l m:Nat) (K:List Sv) (kv:Value) (b:Nat):Stm->Nat->World->Prop:=fun s j w'=>∃vE vF pl',IA L W0 g lv j d l m pl' K kv b ⟨s,vE,vF⟩ w'
abbrev Hw (L:List Tok) (W0:World) (g:Nat) (lv:Value) (i d l m:Nat) (K:List Sv) (kv:Value) (b:Nat) (s:Stm) (wd:List UInt8) (w:World):Ending->World->Prop:=
 Reads (plainW L wd s i) (QGu L W0 g lv d l m K kv b) g lv (fun k=>k=g\/k=b) w
theorem IA.nodes (h:IA L W0 g lv i d l m pl K kv b x w):∀q cs fr,w.heap[q]?=some (.cells cs 46 fr)->¬(q=g\/q=b):=NS h.st h.blk
set_option maxRecDepth 100000 in
set_option maxHeartbeats 4000000 in
theorem QB2 (hs:Src L W0 lv) (h:IA L W0 g lv i d l m pl K kv b x w):Calls Tryz.prog 280 #[.pointer (some ⟨g,0,none⟩),.string ⟨#[114]⟩,.pointer (some ⟨b,0,none⟩)] w (Hw L W0 g lv i d l m K kv b x.s [114] w):=by
 have HC:=AA hs;have HX:=AA h;have hlt:=(Array.getElem?_eq_some_iff.1 h.blk).1;clear h hs;go_enter Tryz.func280,Tryz.ntmps280;go_wp2_with fail
 refine(QFb HC.out HX.out.st HX.out.blk HX.out.sd (j:=1) (old:=.string ⟨x.s.reg.toArray⟩) rfl).mono ?_;intro e w1 hr;have HF:Hid (Hw L W0 g lv i d l m K kv b x.s [114] w e w1):=AA (hr.bind (f:=fun r=>({x.s with reg:=r}:Stm)) fun a j hk ho=>⟨x.vE,x.vF,pl,ho.1,ho.2,HX.out.re.keep hk HX.out.nodes,HX.out.rf.keep hk HX.out.nodes,HX.out.sd⟩);obtain⟨n,rfl⟩:=hr.ret;clear hr;go_wp2_with fail
 go_ret;exact HF.out
set_option maxRecDepth 100000 in
set_option maxHeartbeats 4000000 in
theorem Zw (hs:Src L W0 lv) (h:IA L W0 g lv i d l m pl K kv b x w):Calls Tryz.prog 280 #[.pointer (some ⟨g,0,none⟩),.string ⟨#[110]⟩,.pointer (some ⟨b,0,none⟩)] w (Hw L W0 g lv i d l m K kv b x.s [110] w):=by
 have HC:=AA hs;have HX:=AA h;have hlt:=(Array.getElem?_eq_some_iff.1 h.blk).1;clear h hs;go_enter Tryz.func280,Tryz.ntmps280;go_wp2_with fail
 refine(QFb HC.out HX.out.st HX.out.blk HX.out.sd (j:=2) (old:=.string ⟨x.s.name.toArray⟩) rfl).mono ?_;intro e w1 hr;have HF:Hid (Hw L W0 g lv i d l m K kv b x.s [110] w e w1):=AA (hr.bind (f:=fun r=>({x.s with name:=r}:Stm)) fun a j hk ho=>⟨x.vE,x.vF,pl,ho.1,ho.2,HX.out.re.keep hk HX.out.nodes,HX.out.rf.keep hk HX.out.nodes,HX.out.sd⟩);obtain⟨n,rfl⟩:=hr.ret;clear hr;go_wp2_with fail
 go_ret;exact HF.out
set_option maxRecDepth 100000 in
set_option maxHeartbeats 4000000 in
theorem XD (hs:Src L W0 lv) (h:IA L W0 g lv i d l m pl K kv b x w):Calls Tryz.prog 280 #[.pointer (some ⟨g,0,none⟩),.string ⟨#[101]⟩,.pointer (some ⟨b,0,none⟩)] w (Hw L W0 g lv i d l m K kv b x.s [101] w):=by
 have HC:=AA hs;have HX:=AA h;have hlt:=(Array.getElem?_eq_some_iff.1 h.blk).1;clear h hs;go_enter Tryz.func280,Tryz.ntmps280;go_wp2_with fail
 refine(QFc HC.out HX.out.st HX.out.blk HX.out.sd (j:=3) (old:=x.vE) rfl).mono ?_;intro e w1 hr;have HF:Hid (Hw L W0 g lv i d l m K kv b x.s [101] w e w1):=AA (hr.bind (f:=fun r=>({x.s with e:=r}:Stm)) fun a j hk ho=>by
  obtain⟨v,h1,h2,h3⟩:=ho;exact⟨v,x.vF,pl,h1,h2,h3,HX.out.rf.keep hk HX.out.nodes,HX.out.sd⟩)
 obtain⟨n,rfl⟩:=hr.ret;clear hr;go_wp2_with fail
 go_ret;exact HF.out
set_option maxRecDepth 100000 in
set_option maxHeartbeats 4000000 in
theorem VV (hs:Src L W0 lv) (h:IA L W0 g lv i d l m pl K kv b x w):Calls Tryz.prog 280 #[.pointer (some ⟨g,0,none⟩),.string ⟨#[102]⟩,.pointer (some ⟨b,0,none⟩)] w (Hw L W0 g lv i d l m K kv b x.s [102] w):=by
 have HC:=AA hs;have HX:=AA h;have hlt:=(Array.getElem?_eq_some_iff.1 h.blk).1;clear h hs;go_enter Tryz.func280,Tryz.ntmps280;go_wp2_with fail
 refine(QFc HC.out HX.out.st HX.out.blk HX.out.sd (j:=4) (old:=x.vF) rfl).mono ?_;intro e w1 hr;have HF:Hid (Hw L W0 g lv i d l m K kv b x.s [102] w e w1):=AA (hr.bind (f:=fun r=>({x.s with f:=r}:Stm)) fun a j hk ho=>by
  obtain⟨v,h1,h2,h3⟩:=ho;exact⟨x.vE,v,pl,h1,h2,HX.out.re.keep hk HX.out.nodes,h3,HX.out.sd⟩)
 obtain⟨n,rfl⟩:=hr.ret;clear hr;go_wp2_with fail
 go_ret;exact HF.out
set_option maxRecDepth 100000 in
set_option maxHeartbeats 4000000 in
theorem VW (hs:Src L W0 lv) (h:IA L W0 g lv i d l m pl K kv b x w):Calls Tryz.prog 280 #[.pointer (some ⟨g,0,none⟩),.string ⟨#[107]⟩,.pointer (some ⟨b,0,none⟩)] w (Hw L W0 g lv i d l m K kv b x.s [107] w):=by
 have HC:=AA hs;have HX:=AA h;have hlt:=(Array.getElem?_eq_some_iff.1 h.blk).1;clear h hs;go_enter Tryz.func280,Tryz.ntmps280;go_wp2_with fail
 refine(QEE HC.out HX.out.st HX.out.blk HX.out.sd (j:=5) (old:=.int .i64 x.s.n) rfl).mono ?_;intro e w1 hr;have HF:Hid (Hw L W0 g lv i d l m K kv b x.s [107] w e w1):=AA (hr.bind (f:=fun r=>({x.s with n:=r}:Stm)) fun a j hk ho=>⟨x.vE,x.vF,pl,ho.1,ho.2,HX.out.re.keep hk HX.out.nodes,HX.out.rf.keep hk HX.out.nodes,HX.out.sd⟩);obtain⟨n,rfl⟩:=hr.ret;clear hr;go_wp2_with fail
 go_ret;exact HF.out
theorem IA.keepg (h:IA L W0 g lv i d l m pl K kv b x w) {w':World} {i':Nat} {pl':Int} (hs:Dc L W0 g lv i' d l m pl' K kv w') (hk:AG (fun k=>k=g) w w'):IA L W0 g lv i' d l m pl' K kv b x w':=by
 have hlt:=(Array.getElem?_eq_some_iff.1 h.blk).1;have hn:∀q cs fr,w.heap[q]?=some (.cells cs 46 fr)->¬(q=g):=fun q cs fr hh e=>h.nodes q cs fr hh (.inl e)
 exact⟨hs,by rw[hk.block b hlt h.sd.ne];exact h.blk,h.re.keep hk hn,h.rf.keep hk hn,h.sd⟩
theorem AG.orb {P Q:Nat->Prop} {w w':World} (h:AG P w w'):AG (fun k=>P k\/Q k) w w':=h.mono fun _ _ h=>.inl h
set_option maxRecDepth 100000 in
set_option maxHeartbeats 4000000 in
theorem Zx (hs:Src L W0 lv) (h:IA L W0 g lv i d l m pl K kv b x w) {wd:List UInt8} (n1:wd≠[114]) (n2:wd≠[110]) (n3:wd≠[101]) (n4:wd≠[102]) (n5:wd≠[107]) (n6:wd≠[98]):Calls Tryz.prog 280 #[.pointer (some ⟨g,0,none⟩),.string ⟨wd.toArray⟩,.pointer (some ⟨b,0,none⟩)] w (Hw L W0 g lv i d l m K kv b x.s wd w):=by
 have HC:=AA hs;have HX:=AA h;have e1:(wd==[114])=false:=beq_eq_false_iff_ne.2 n1;have e2:(wd==[110])=false:=beq_eq_false_iff_ne.2 n2;have e3:(wd==[101])=false:=beq_eq_false_iff_ne.2 n3;have e4:(wd==[102])=false:=beq_eq_false_iff_ne.2 n4;have e5:(wd==[107])=false:=beq_eq_false_iff_ne.2 n5;have e6:(wd==[98])=false:=beq_eq_false_iff_ne.2 n6;have hpw:plainW L wd x.s i=(Bo L i wd).bind fun _ j=>.ok x.s j:=by unfold plainW;rw[if_neg n1,if_neg n2,if_neg n3,if_neg n4,if_neg n5]
 have hgl:=h.st.lt;have c0:=h.st.c0;have c1:=h.st.c1;have f1:=h.st.fz 1;have hlen:=hs.len;clear h hs n1 n2 n3 n4 n5 n6;cases hq:isB L i wd with
 |false=>
  have HI:=AA hq;obtain⟨er,her⟩:∃er:Int,(if i<L.length then 5 else 6)=er:=⟨_,rfl⟩
  have HER:=AA her;have HP:Hid (plainW L wd x.s i=.bad er (AN L i)):=AA (by rw[hpw];unfold Bo badR;rw[if_neg (by rw[hq];simp),her];rfl);clear hq her hpw;go_enter Tryz.func280,Tryz.ntmps280;go_wp2_with fail
  go_region_held3 (fun w'=>w'.cell? ⟨g,0,none⟩=some lv/\w'.cell? ⟨g,1,none⟩=some (.int .i64 i)/\Below w.heap.size w w')
   (first|exact⟨c0,c1,Below.refl _ _⟩|exact⟨c0,c1,AD _⟩|exact H6 (w1:=w.drew) hgl ⟨c0,c1,AD _⟩ hb1)
   (first|(go_at_call 77;refine(GG HI.out lv _ ((HX.out.st.on (AD _)).toks HC.out)).mono ?_;rintro e w1 ⟨rfl,hb1⟩))
  have HB:=AA (AC (AD w) hb1);have HS1:=AA (HX.out.st.on HB.out);have HK1:=AA (AG.of (P:=fun k=>k=g\/k=b) HB.out);clear hb1 c0 c1;go_wp2_with fail
  refine(OO HC.out HS1.out).mono ?_;rw[HER.out];intro e w2 hf;have HF:=AA (hf.reads (ok:=QGu L W0 g lv d l m K kv b) HP.out HK1.out (.inl rfl));obtain⟨rfl,_,_⟩:=hf;go_wp2_with fail
  go_ret;exact HF.out
 |true=>
  have HI:=AA hq;have HP:Hid (plainW L wd x.s i=.ok x.s (i+1)):=AA (by rw[hpw,NY hq];rfl);have hil:=Bl hq;clear hq hpw;go_enter Tryz.func280,Tryz.ntmps280;go_wp2_with fail
  go_region_held3 (fun w'=>w'.cell? ⟨g,0,none⟩=some lv/\w'.cell? ⟨g,1,none⟩=some (.int .i64 i)/\Below w.heap.size w w')
   (first|exact⟨c0,c1,Below.refl _ _⟩|exact⟨c0,c1,AD _⟩|exact H6 (w1:=w.drew) hgl ⟨c0,c1,AD _⟩ hb1)
   (first|(go_at_call 77;refine(GG HI.out lv _ ((HX.out.st.on (AD _)).toks HC.out)).mono ?_;rintro e w1 ⟨rfl,hb1⟩))
  have HB:=AA (AC (AD w) hb1);have HS1:=AA (HX.out.st.on HB.out);clear hb1 c0 c1 hgl f1;have hgl:=HS1.out.lt;have c1:=HS1.out.c1;have f1:=HS1.out.fz 1;have hw1:IntKind.i64.wrap ((i:Int)+1)=(i:Int)+1:=IntWalk.i64_in _ (by omega);go_wp2_with fail
  go_ret;show Reads _ _ _ _ _ _ _ _;rw[HP.out];have hmi:=HS1.out.mi;have hk:=(AG.of (P:=fun k=>k=g) HB.out).trans (AG.set (g:=g) (j:=1) (v:=.int .i64 ((i+1:Nat):Int))) (fun _ _ h=>h) (fun _ _ h=>h);exact⟨rfl,⟨x.vE,x.vF,pl,HX.out.keepg (HS1.out.set1 (j:=i+1) (by omega) (by omega)) hk⟩,hk.orb⟩
theorem O7 (hs:Src L W0 lv) (h:IA L W0 g lv i d l m pl K kv b x w) {wd:List UInt8} (hb:wd≠[98]):Calls Tryz.prog 280 #[.pointer (some ⟨g,0,none⟩),.string ⟨wd.toArray⟩,.pointer (some ⟨b,0,none⟩)] w (Hw L W0 g lv i d l m K kv b x.s wd w):=by
 by_cases n1:wd=[114]
 ·subst n1;exact QB2 hs h
 by_cases n2:wd=[110]
 ·subst n2;exact Zw hs h
 by_cases n3:wd=[101]
 ·subst n3;exact XD hs h
 by_cases n4:wd=[102]
 ·subst n4;exact VV hs h
 by_cases n5:wd=[107]
 ·subst n5;exact VW hs h
 exact Zx hs h n1 n2 n3 n4 n5 hb
end
end Go.Proofs.YthfkpalfopdmhaaGreatDoor
