/- Texts of the walk, packed. -/
import Derived.Test.YthfkpalfopdmhaaGreatDoorW27
import Derived.Test.YthfkpalfopdmhaaGreatDoorW15
import Derived.Test.YthfkpalfopdmhaaGreatDoorW25
import Derived.Test.YthfkpalfopdmhaaGreatDoorW20
import Derived.Test.YthfkpalfopdmhaaGreatDoorW05
import Derived.Test.YthfkpalfopdmhaaGreatDoorW01
import Derived.Test.YthfkpalfopdmhaaGreatDoorW28
import Derived.Test.YthfkpalfopdmhaaGreatDoorW00
namespace Go.Proofs.YthfkpalfopdmhaaGreatDoor
open Go.RowKit
structure Ni where
 name:ByteArray
 n:Int
 pl:Int
def PK (w:World) (A:Option Addr) (n:Nat) (R:Nat->Ni):Prop:=
 ∀i,i<n->∃b off,A=some ⟨b,off,none⟩/\b<w.heap.size/\w.cell? ⟨b,off+i*3,none⟩=some (.string (R i).name)/\w.cell? ⟨b,off+i*3+1,none⟩=some (.int .i64 (R i).n)/\w.cell? ⟨b,off+i*3+2,none⟩=some (.int .i64 (R i).pl)
theorem PK.on {w w':World} {A:Option Addr} {n:Nat} {R:Nat->Ni} (h:PK w A n R) (hb:Below w.heap.size w w'):PK w' A n R:=by
 intro i hi;obtain⟨b,off,hA,hbl,h0,h1,h2⟩:=h i hi;have e:∀o,w'.cell? ⟨b,o,none⟩=w.cell? ⟨b,o,none⟩:=fun o=>hb.cell (p:=⟨b,o,none⟩) hbl
 exact⟨b,off,hA,Nat.lt_of_lt_of_le hbl hb.size,(e _).trans h0,(e _).trans h1,(e _).trans h2⟩
structure UF where
 s:ByteArray
def Vh (w:World) (A:Option Addr) (n:Nat) (R:Nat->UF):Prop:=
 ∀i,i<n->∃b off,A=some ⟨b,off,none⟩/\b<w.heap.size/\w.cell? ⟨b,off+i,none⟩=some (.string (R i).s)
theorem Vh.on {w w':World} {A:Option Addr} {n:Nat} {R:Nat->UF} (h:Vh w A n R) (hb:Below w.heap.size w w'):Vh w' A n R:=by
 intro i hi;obtain⟨b,off,hA,hbl,h0⟩:=h i hi;have e:∀o,w'.cell? ⟨b,o,none⟩=w.cell? ⟨b,o,none⟩:=fun o=>hb.cell (p:=⟨b,o,none⟩) hbl
 exact⟨b,off,hA,Nat.lt_of_lt_of_le hbl hb.size,(e _).trans h0⟩
structure UG where
 A:Option Addr
 n:Nat
 c:Nat
 R:Nat->Ni
def QAG (w:World) (A:Option Addr) (n:Nat) (R:Nat->UG):Prop:=
 ∀i,i<n->∃b off,A=some ⟨b,off,none⟩/\b<w.heap.size/\w.cell? ⟨b,off+i,none⟩=some (.slice (R i).A (R i).n (R i).c)/\PK w (R i).A (R i).n (R i).R
theorem QAG.on {w w':World} {A:Option Addr} {n:Nat} {R:Nat->UG} (h:QAG w A n R) (hb:Below w.heap.size w w'):QAG w' A n R:=by
 intro i hi;obtain⟨b,off,hA,hbl,h0,s0⟩:=h i hi;have e:∀o,w'.cell? ⟨b,o,none⟩=w.cell? ⟨b,o,none⟩:=fun o=>hb.cell (p:=⟨b,o,none⟩) hbl
 exact⟨b,off,hA,Nat.lt_of_lt_of_le hbl hb.size,(e _).trans h0,s0.on hb⟩
structure Jj where
 name:ByteArray
 AR:Option Addr
 nR:Nat
 cR:Nat
 RR:Nat->UF
 AB:Option Addr
 nB:Nat
 cB:Nat
 RB:Nat->RawS
 pl:Int
def Vi (w:World) (A:Option Addr) (n:Nat) (R:Nat->Jj):Prop:=
 ∀i,i<n->∃b off,A=some ⟨b,off,none⟩/\b<w.heap.size/\w.cell? ⟨b,off+i*4,none⟩=some (.string (R i).name)/\w.cell? ⟨b,off+i*4+1,none⟩=some (.slice (R i).AR (R i).nR (R i).cR)/\w.cell? ⟨b,off+i*4+2,none⟩=some (.slice (R i).AB (R i).nB (R i).cB)/\w.cell? ⟨b,off+i*4+3,none⟩=some (.int .i64 (R i).pl)/\Vh w (R i).AR (R i).nR (R i).RR/\UA w (R i).AB (R i).nB (R i).RB
theorem Vi.on {w w':World} {A:Option Addr} {n:Nat} {R:Nat->Jj} (h:Vi w A n R) (hb:Below w.heap.size w w'):Vi w' A n R:=by
 intro i hi;obtain⟨b,off,hA,hbl,h0,h1,h2,h3,s0,s1⟩:=h i hi;have e:∀o,w'.cell? ⟨b,o,none⟩=w.cell? ⟨b,o,none⟩:=fun o=>hb.cell (p:=⟨b,o,none⟩) hbl
 exact⟨b,off,hA,Nat.lt_of_lt_of_le hbl hb.size,(e _).trans h0,(e _).trans h1,(e _).trans h2,(e _).trans h3,s0.on hb,s1.on hb⟩
structure UH where
 AE:Option Addr
 nE:Nat
 cE:Nat
 RE:Nat->Nb
 pl:Int
def QAH (w:World) (A:Option Addr) (n:Nat) (R:Nat->UH):Prop:=
 ∀i,i<n->∃b off,A=some ⟨b,off,none⟩/\b<w.heap.size/\w.cell? ⟨b,off+i*2,none⟩=some (.slice (R i).AE (R i).nE (R i).cE)/\w.cell? ⟨b,off+i*2+1,none⟩=some (.int .i64 (R i).pl)/\MN w (R i).AE (R i).nE (R i).RE
theorem QAH.on {w w':World} {A:Option Addr} {n:Nat} {R:Nat->UH} (h:QAH w A n R) (hb:Below w.heap.size w w'):QAH w' A n R:=by
 intro i hi;obtain⟨b,off,hA,hbl,h0,h1,s0⟩:=h i hi;have e:∀o,w'.cell? ⟨b,o,none⟩=w.cell? ⟨b,o,none⟩:=fun o=>hb.cell (p:=⟨b,o,none⟩) hbl
 exact⟨b,off,hA,Nat.lt_of_lt_of_le hbl hb.size,(e _).trans h0,(e _).trans h1,s0.on hb⟩
structure MR where
 aL:Option Addr
 nL:Nat
 cL:Nat
 rL:Nat->UG
 aV:Option Addr
 nV:Nat
 cV:Nat
 rV:Nat->Ni
 aK:Option Addr
 nK:Nat
 cK:Nat
 rK:Nat->Ni
 aT:Option Addr
 nT:Nat
 cT:Nat
 rT:Nat->Jj
 aO:Option Addr
 nO:Nat
 cO:Nat
 rO:Nat->Jj
 aM:Option Addr
 nM:Nat
 cM:Nat
 rM:Nat->UH
structure QAI (w:World) (p:MR):Prop where
 l:QAG w p.aL p.nL p.rL
 v:PK w p.aV p.nV p.rV
 k:PK w p.aK p.nK p.rK
 t:Vi w p.aT p.nT p.rT
 o:Vi w p.aO p.nO p.rO
 m:QAH w p.aM p.nM p.rM
theorem QAI.on {w w':World} {p:MR} (h:QAI w p) (hb:Below w.heap.size w w'):QAI w' p:=⟨h.l.on hb,h.v.on hb,h.k.on hb,h.t.on hb,h.o.on hb,h.m.on hb⟩
def QAJ (p:MR):Value:=.agg #[.slice p.aL p.nL p.cL,.slice p.aV p.nV p.cV,.slice p.aK p.nK p.cK,.slice p.aT p.nT p.cT,.slice p.aO p.nO p.cO,.slice p.aM p.nM p.cM]
def MS (r:Ni):Cel:=⟨IB r.name,r.n,r.pl⟩
def EK (R:Nat->Ni) (k:Nat):List Cel:=(List.range k).map fun i=>MS (R i)
def GK (R:Nat->UF) (k:Nat):List (List UInt8):=(List.range k).map fun i=>IB (R i).s
def Gq (r:Jj):Thr:=⟨IB r.name,GK r.RR (min r.nR 6),IF r.RB (min r.nB 50),r.pl⟩
def FI (R:Nat->Jj) (k:Nat):List Thr:=(List.range k).map fun i=>Gq (R i)
def Jk (R:Nat->UG) (k:Nat):List (List Cel):=(List.range k).map fun i=>EK (R i).R (min (R i).n 8)
def KZ (R:Nat->UH) (k:Nat):List Clm:=(List.range k).map fun i=>⟨Gn (R i).RE (min (R i).nE 60),(R i).pl⟩
def Nj (p:MR):Prg:=⟨Jk p.rL (min p.nL 6),EK p.rV (min p.nV 8),EK p.rK (min p.nK 8),FI p.rT (min p.nT 4),FI p.rO (min p.nO 4),KZ p.rM (min p.nM 6)⟩
theorem XT (R:Nat->Ni) (k:Nat):EK R (k+1)=EK R k++[MS (R k)]:=by simp[EK,List.range_succ]
theorem IW (R:Nat->Ni) (k:Nat):(EK R k).length=k:=by simp[EK]
theorem XU (R:Nat->UF) (k:Nat):GK R (k+1)=GK R k++[IB (R k).s]:=by simp[GK,List.range_succ]
theorem OZ (R:Nat->UF) (k:Nat):(GK R k).length=k:=by simp[GK]
theorem XV (R:Nat->Jj) (k:Nat):FI R (k+1)=FI R k++[Gq (R k)]:=by simp[FI,List.range_succ]
theorem Lm (R:Nat->Jj) (k:Nat):(FI R k).length=k:=by simp[FI]
theorem XW (R:Nat->UG) (k:Nat):Jk R (k+1)=Jk R k++[EK (R k).R (min (R k).n 8)]:=by simp[Jk,List.range_succ]
theorem Oa (R:Nat->UG) (k:Nat):(Jk R k).length=k:=by simp[Jk]
theorem XX (R:Nat->UH) (k:Nat):KZ R (k+1)=KZ R k++[⟨Gn (R k).RE (min (R k).nE 60),(R k).pl⟩]:=by simp[KZ,List.range_succ]
theorem Ob (R:Nat->UH) (k:Nat):(KZ R k).length=k:=by simp[KZ]
end Go.Proofs.YthfkpalfopdmhaaGreatDoor
namespace Go.Proofs.YthfkpalfopdmhaaGreatDoor
open Go
theorem Sj {x:Stm} (h:EY x=true):Fb x:=by
 obtain⟨h1,h2,_,_,h5,h6,_⟩:=YK h;exact⟨by omega,by omega,h5.1,h6.1,h5.2,h6.2⟩
theorem Np {L:List Stm} (h:CP L=true):∀x∈L,Fb x:=by
 obtain⟨b,rfl,g1,_⟩:=Dq h;exact fun x hx=>Sj (List.all_eq_true.1 g1.2 x hx)
end Go.Proofs.YthfkpalfopdmhaaGreatDoor
namespace Go.Proofs.YthfkpalfopdmhaaGreatDoor
open Go.RowKit
def Enters (F:Nat):Prop:=∀(args:Array Value) (w:World),(callFunc F args).run Tryz.prog w=.ok (.enter F args) w
theorem Q3 {α:Type} {p:α->Bool} {L:List α} {k:Nat} {a:α} (h:L[k]?=some a) (ha:(L.take k).all p=true) (hp:p a=true):(L.take (k+1)).all p=true:=by
 rw[List.take_add_one,h,List.all_append,ha];simp[hp]
theorem Q4 {α:Type} {p:α->Bool} {L:List α} {k:Nat} {a:α} (h:L[k]?=some a) (hp:p a=false):L.all p=false:=by
 rw[List.all_eq_false];exact⟨a,List.mem_of_getElem? h,by simp[hp]⟩
def Q5 (b:Bool) (w:World) (e:Ending) (w':World):Prop:=∃n:Int,e=.returned (.int .i64 n)/\decide (0<=n)=b/\Below w.heap.size w w'
set_option maxRecDepth 100000 in
set_option maxHeartbeats 2000000 in
theorem QEq {F:Nat} (eg:Enters F) {q:Bool} {bx:Nat} {w:World} {x:Tv} (hbx:w.cell? ⟨bx,0,none⟩=some (.func (.func F) #[] #[])) (hl:bx<w.heap.size)
  (hF:∀w',Below w.heap.size w w'->Calls Tryz.prog F #[.agg #[.string ⟨x.t.name.toArray⟩,x.vR,x.vB,.int .i64 x.t.pl]] w' (AK q w')):Calls Tryz.prog 106 #[.agg #[.string ⟨x.t.name.toArray⟩,x.vR,x.vB,.int .i64 x.t.pl],.pointer (some ⟨bx,0,none⟩)] w (AK (!q) w):=by
 unfold Enters at eg;have HF:=AA hF;clear hF;go_enter Tryz.func106,Tryz.ntmps106;go_wp2_with fail
 refine(HF.out _ ((Below.refl _ _).alloc (Nat.le_refl _) _)).mono ?_;rintro e w1 ⟨rfl,hb⟩;have HB:=AA (Gg hb);clear hb;go_wp2_with fail
 go_ret;exact⟨rfl,HB.out⟩
set_option maxRecDepth 100000 in
set_option maxHeartbeats 2000000 in
theorem QEr {F:Nat} (eg:Enters F) {p:Thr->Bool} {L:List Tv} {v:Value} {w:World} {B bx:Nat} (h:Ci w B v L) (hl:L.length<=100000) (hbx:w.cell? ⟨bx,0,none⟩=some (.func (.func F) #[] #[])) (hlb:bx<w.heap.size)
  (hF:∀x∈L,∀w',Below w.heap.size w w'->Calls Tryz.prog F #[.agg #[.string ⟨x.t.name.toArray⟩,x.vR,x.vB,.int .i64 x.t.pl]] w' (AK (p (x.t)) w')):Calls Tryz.prog 153 #[v,.func (.func 106) #[] #[.pointer (some ⟨bx,0,none⟩)]] w (Q5 (!L.all (fun x=>p (x.t))) w):=by
 have HF:=AA hF;have HO:=AA h;have HG:=AA eg;have HX:=AA hbx;obtain⟨A,c,hv,hc,hm,hr⟩:=h.reads;subst hv;clear hr hF eg hbx;go_enter Tryz.func153,Tryz.ntmps153;go_wp2_with fail
 go_loopw [8] (fun i wr=>∃k:Nat,k<=L.length/\i=.int .i64 k/\(L.take k).all (fun x=>p (x.t))=true/\Below w.heap.size w wr) (fun i _=>L.length-(intOf i).toNat)
 case atStart=>exact⟨0,Nat.zero_le _,rfl,rfl,Below.refl _ _⟩
 case round=>
  obtain⟨k,hk,rfl,ha,hb⟩:=hrel;have HA:=AA ha;have HB:=AA hb;clear ha;by_cases hlt:k<L.length
  ·have hat:L[k]?=some L[k]:=List.getElem?_eq_getElem hlt;have hin:=List.getElem_mem hlt;generalize L[k]=a at *;obtain⟨A',c',hv',_,_,hr'⟩:=(HO.out.on hb).reads;obtain⟨rfl,_,rfl⟩:A=A'/\True/\c=c':=by simpa using hv'
   obtain⟨g,rfl,hgB,hg,x0,x1,x2,x3⟩:=hr' k a hat;clear hr' hv' hgB;have HC:Hid (Calls Tryz.prog 106 #[.agg #[.string ⟨a.t.name.toArray⟩,a.vR,a.vB,.int .i64 a.t.pl],.pointer (some ⟨bx,0,none⟩)] wr (AK (!p (a.t)) wr)):=AA (QEq HG.out ((hb.cell (p:=⟨bx,0,none⟩) hlb).trans HX.out) (by have:=hb.size;omega) (fun w' h'=>HF.out a hin w' (AC hb h')));clear hb;cases hw:p (a.t)with
   |true=>
    have HN:=AA (Q3 (p:=fun x=>p (x.t)) hat HA.out hw);have HW:=AA hw;clear hat hw;go_wp2_with fail
    refine HC.out.mono ?_;rw[HW.out];rintro e w1 ⟨rfl,hb⟩;have HB2:=AA (AC HB.out hb);clear hb;go_wp2_with fail
    go_roundw;case rel=>exact⟨k+1,by omega,by go_num,HN.out,HB2.out⟩
    case measure=>simp[intOf];omega
   |false=>
    have HN:=AA (Q4 (p:=fun x=>p (x.t)) hat hw);have HW:=AA hw;clear hat hw;go_wp2_with fail
    refine HC.out.mono ?_;rw[HW.out];rintro e w1 ⟨rfl,hb⟩;have HB2:=AA (AC HB.out hb);clear hb;go_wp2_with fail
    go_ret;exact⟨k,rfl,by rw[HN.out];simp,HB2.out⟩
  ·go_wp2_with fail
   go_ret;have h1:=HA.out;rw[List.take_of_length_le (by omega)]at h1;exact⟨-1,rfl,by rw[h1];rfl,HB.out⟩
set_option maxRecDepth 100000 in
set_option maxHeartbeats 2000000 in
theorem QCg {F:Nat} (eg:Enters F) {p:Thr->Bool} {L:List Tv} {v:Value} {w:World} {B bx:Nat} (h:Ci w B v L) (hl:L.length<=100000) (hbx:w.cell? ⟨bx,0,none⟩=some (.func (.func F) #[] #[])) (hlb:bx<w.heap.size)
  (hF:∀x∈L,∀w',Below w.heap.size w w'->Calls Tryz.prog F #[.agg #[.string ⟨x.t.name.toArray⟩,x.vR,x.vB,.int .i64 x.t.pl]] w' (AK (p (x.t)) w')):Calls Tryz.prog 105 #[v,.func (.func 106) #[] #[.pointer (some ⟨bx,0,none⟩)]] w (AK (!L.all (fun x=>p (x.t))) w):=by
 have HI:=AA (QEr eg h hl hbx hlb hF);clear h hF eg hbx;go_enter Tryz.func105,Tryz.ntmps105;go_wp2_with fail
 refine HI.out.mono ?_;rintro e w1 ⟨n,rfl,hn,hb⟩;have HB:=AA hb;have HN:=AA hn;clear hb hn;go_wp2_with fail
 go_ret;exact⟨AH HN.out,HB.out⟩
set_option maxRecDepth 100000 in
set_option maxHeartbeats 2000000 in
theorem Yb {F:Nat} (eg:Enters F) (p:Thr->Bool) {L:List Tv} {v:Value} {w:World} {B:Nat} (h:Ci w B v L) (hl:L.length<=100000)
  (hF:∀x∈L,∀w',Below w.heap.size w w'->Calls Tryz.prog F #[.agg #[.string ⟨x.t.name.toArray⟩,x.vR,x.vB,.int .i64 x.t.pl]] w' (AK (p (x.t)) w')):Calls Tryz.prog 47 #[v,.func (.func F) #[] #[]] w (AK (L.all (fun x=>p (x.t))) w):=by
 have HB0:Hid (Below w.heap.size w (w.alloc (.cells #[.func (.func F) #[] #[]] 84))):=AA ((Below.refl _ _).alloc (Nat.le_refl _) _);have HI:Hid (Calls Tryz.prog 105 #[v,.func (.func 106) #[] #[.pointer (some ⟨w.heap.size,0,none⟩)]] (w.alloc (.cells #[.func (.func F) #[] #[]] 84)) (AK (!L.all (fun x=>p (x.t))) (w.alloc (.cells #[.func (.func F) #[] #[]] 84)))):=
  AA (QCg eg (h.on HB0.out) hl (by simp) (by simp) (fun x hx w' h'=>hF x hx w' (AC HB0.out h')))
 clear h hF eg;go_enter Tryz.func47,Tryz.ntmps47;go_wp2_with fail
 refine HI.out.mono ?_;rintro e w1 ⟨rfl,hb⟩;have HB:=AA (AC HB0.out hb);clear hb;go_wp2_with fail
 go_ret;exact⟨AH (by simp),HB.out⟩
theorem RH (c:UInt8) (w:World):Calls Tryz.prog 74 #[.int .u8 c.toNat] w (Lu (Hn c) w):=by
 go_enter Tryz.func74,Tryz.ntmps74
 go_wp2
 all_goals
  go_ret;refine⟨AH ?_,rfl⟩;rw[Bool.eq_iff_iff];simp[Hn];omega
theorem Lr (c:UInt8) (w:World):Calls Tryz.prog 71 #[.int .u8 c.toNat] w (Lu (Eu c) w):=by
 go_enter Tryz.func71,Tryz.ntmps71
 go_wp2
 all_goals
  go_ret;refine⟨AH ?_,rfl⟩;rw[Bool.eq_iff_iff];simp[Eu];omega
set_option maxHeartbeats 1000000 in
theorem Xs (s:ByteArray) (w:World) (hs:s.size<=100000):Calls Tryz.prog 73 #[.string s,.func (.func 74) #[] #[]] w (TP (s.data.toList.takeWhile Hn) w):=by
 go_enter Tryz.func73,Tryz.ntmps73;go_wp2_with fail
 go_loop [5] (fun i=>∃k:Nat,k<=s.size/\i=.int .i64 k/\(s.data.toList.take k).all Hn=true) (fun i=>s.size-(intOf i).toNat)
 case atStart=>exact⟨0,Nat.zero_le _,rfl,rfl⟩
 case round=>
  obtain⟨k,hk,rfl,ha⟩:=hrel;have HA:=AA ha;clear ha;by_cases hlt:k<s.size
  ·cases hp:Hn (s[k]'hlt)with
   |true=>
    have HS:=AA (Pm Hn s k hlt HA.out hp);have HP:=AA hp;clear hp;go_wp2_with fail
    refine(RH (s[k]'hlt) _).mono ?_
    rw[HP.out];rintro e w' ⟨rfl,rfl⟩;go_wp2_with fail
    go_round;case rel=>exact⟨k+1,by omega,by go_num,HS.out⟩
    case measure=>simp[intOf];omega
   |false=>
    have HS:=AA (L1 Hn s k hlt HA.out hp);have HP:=AA hp;clear hp;go_wp2_with fail
    refine(RH (s[k]'hlt) _).mono ?_
    rw[HP.out];rintro e w' ⟨rfl,rfl⟩;go_wp2_with fail
    go_ret;exact IN rfl (FP s k) HS.out
  ·have HS:=AA (OA Hn s k hlt HA.out);go_wp2_with fail
   go_ret;exact IN rfl (FP s k) HS.out
set_option maxHeartbeats 1000000 in
theorem S8 (s:ByteArray) (w:World) (hs:s.size<=100000):Calls Tryz.prog 73 #[.string s,.func (.func 131) #[] #[]] w (TP (s.data.toList.takeWhile digB) w):=by
 go_enter Tryz.func73,Tryz.ntmps73;go_wp2_with fail
 go_loop [5] (fun i=>∃k:Nat,k<=s.size/\i=.int .i64 k/\(s.data.toList.take k).all digB=true) (fun i=>s.size-(intOf i).toNat)
 case atStart=>exact⟨0,Nat.zero_le _,rfl,rfl⟩
 case round=>
  obtain⟨k,hk,rfl,ha⟩:=hrel;have HA:=AA ha;clear ha;by_cases hlt:k<s.size
  ·cases hp:digB (s[k]'hlt)with
   |true=>
    have HS:=AA (Pm digB s k hlt HA.out hp);have HP:=AA hp;clear hp;go_wp2_with fail
    refine(JP (s[k]'hlt) _).mono ?_
    rw[HP.out];rintro e w' ⟨rfl,rfl⟩;go_wp2_with fail
    go_round;case rel=>exact⟨k+1,by omega,by go_num,HS.out⟩
    case measure=>simp[intOf];omega
   |false=>
    have HS:=AA (L1 digB s k hlt HA.out hp);have HP:=AA hp;clear hp;go_wp2_with fail
    refine(JP (s[k]'hlt) _).mono ?_
    rw[HP.out];rintro e w' ⟨rfl,rfl⟩;go_wp2_with fail
    go_ret;exact IN rfl (FP s k) HS.out
  ·have HS:=AA (OA digB s k hlt HA.out);go_wp2_with fail
   go_ret;exact IN rfl (FP s k) HS.out
set_option maxRecDepth 100000 in
set_option maxHeartbeats 4000000 in
theorem eqR {K M:List (List UInt8)} {v1 v2:Value} {w:World} {B1 B2:Nat} (h1:CS w B1 v1 K) (h2:CS w B2 v2 M) (hl:K.length<=10000):Calls Tryz.prog 125 #[v1,v2] w (AK (Ot K M) w):=by
 obtain⟨A,c,rfl,hc,hm1,hr1⟩:=h1.reads;obtain⟨A',c',rfl,hc',hm2,hr2⟩:=h2.reads;have HR1:=AA hr1;have HR2:=AA hr2;clear hr1 hr2 h1 h2;unfold Ot;by_cases hL:K.length=M.length
 ·rw[<-hL]at hc'⊢;have HL:=AA hL;have HM:=AA (show∀k,k<K.length->k<M.length by rw[hL];exact fun _ h=>h);clear hL;go_enter Tryz.func125,Tryz.ntmps125;go_wp2_with fail
  go_loopw [13] (fun i wr=>∃k n:Nat,k<=K.length/\i=.int .i64 k/\wr=w.drewN n/\Ae (fun a b=>a==b) (K.take k) (M.take k)=true) (fun i _=>K.length-(intOf i).toNat)
  case atStart=>exact⟨0,0,Nat.zero_le _,rfl,rfl,rfl⟩
  case round=>
   obtain⟨k,n,hk,rfl,rfl,hs⟩:=hrel;have HS:=AA hs;clear hs;by_cases hlt:k<K.length
   ·have hkm:=HM.out k hlt;have ha:K[k]?=some K[k]:=List.getElem?_eq_getElem hlt;have hb:M[k]?=some (M[k]'hkm):=List.getElem?_eq_getElem hkm
    generalize K[k]=a at *;generalize M[k]'hkm=b at *
    obtain⟨g,rfl, -,hg,x0⟩:=HR1.out k a ha;obtain⟨g',rfl, -,hg',y0⟩:=HR2.out k b hb;have HN:=AA (fun h=>DD (q:=fun a b=>a==b) ha hb h);have HY:=AA (Bz (q:=fun a b=>a==b) ha hb);clear ha hb;cases e1:(a==b)with
    |false=>
     have HQ:=AA e1;go_wp2_with fail
     go_quiet (fail)
     go_wp2_with fail
     go_ret;exact⟨AH (HN.out HQ.out).symm,G4 _ _ _⟩
    |true=>
     have HQ:=AA e1;go_wp2_with fail
     go_quiet (fail)
     go_wp2_with fail
     go_roundw;case rel=>exact⟨k+1,_,by omega,by go_num,rfl,by rw[HY.out,HS.out,HQ.out];rfl⟩
     case measure=>simp[intOf];omega
   ·have HQ:=AA (Cb (q:=fun a b=>a==b) (by omega) HL.out HS.out);go_wp2_with fail
    go_ret;exact⟨AH HQ.out.symm,AM _ _⟩
 ·have HQ:=AA (CZ (q:=fun a b:List UInt8=>a==b) hL);have hd:((K.length:Int) != (M.length:Int))=true:=by simp;omega
  clear hL;go_enter Tryz.func125,Tryz.ntmps125;go_wp2_with fail
  go_ret;exact⟨AH HQ.out.symm,Below.refl _ _⟩
theorem WB (a b:Cel):CG false a b=(a.name==b.name&&a.n==b.n):=by unfold CG;simp
set_option maxRecDepth 100000 in
set_option maxHeartbeats 4000000 in
theorem QGj (a b:Cel) (w:World):Calls Tryz.prog 124 #[.agg #[.string ⟨a.name.toArray⟩,.int .i64 a.n,.int .i64 a.pl],.agg #[.string ⟨b.name.toArray⟩,.int .i64 b.n,.int .i64 b.pl]] w (AK (CG false a b) w):=by
 have HV:=AA (WB a b);cases e1:(a.name==b.name)with
 |false=>
  have HQ:Hid (CG false a b=false):=AA (by rw[HV.out,e1];rfl);go_enter Tryz.func124,Tryz.ntmps124;go_wp2_with fail
  go_ret;exact⟨AH HQ.out.symm,A7 _ _ _⟩
 |true=>
  have HQ:Hid (CG false a b=(a.n==b.n)):=AA (by rw[HV.out,e1];rfl);go_enter Tryz.func124,Tryz.ntmps124;go_wp2_with fail
  go_ret;exact⟨AH HQ.out.symm,A7 _ _ _⟩
set_option maxRecDepth 100000 in
set_option maxHeartbeats 4000000 in
theorem Um (p:Bool) {v1 v2:Value} {L M:List Cel} {w:World} {B B':Nat} (h1:Bw w B v1 L) (h2:Bw w B' v2 M) (hl:L.length<=10000):
  Calls Tryz.prog 30 #[v1,v2,.bool p] w (Ul (Ae (CG p) L M) w):=by
 obtain⟨A,c,rfl,hc,_,hr1⟩:=h1.reads;obtain⟨A',c',rfl,hc',_,hr2⟩:=h2.reads;have HR1:=AA hr1;have HR2:=AA hr2;clear hr1 hr2 h1 h2;by_cases hL:L.length=M.length
 ·rw[<-hL];have HL:=AA hL;have hkM:∀k,k<L.length->k<M.length:=by rw[hL];exact fun _ h=>h
  have HM:=AA hkM;clear hL hkM;go_enter Tryz.func30,Tryz.ntmps30;go_wp2_with fail
  go_loopw [7] (fun i wr=>∃k n:Nat,k<=L.length/\i=.int .i64 k/\wr=w.drewN n/\Ae (CG p) (L.take k) (M.take k)=true) (fun i _=>L.length-(intOf i).toNat)
  case atStart=>exact⟨0,0,Nat.zero_le _,rfl,rfl,rfl⟩
  case round=>
   obtain⟨k,n,hk,rfl,rfl,hs⟩:=hrel;have HS:=AA hs;clear hs;by_cases hlt:k<L.length
   ·have hkm:=HM.out k hlt;have ha:L[k]?=some L[k]:=List.getElem?_eq_getElem hlt;have hb:M[k]?=some (M[k]'hkm):=List.getElem?_eq_getElem hkm
    generalize L[k]=a at *;generalize M[k]'hkm=b at *
    obtain⟨g,rfl,_,hg,x0,x1,x2⟩:=HR1.out k a ha;obtain⟨g',rfl,_,hg',y0,y1,y2⟩:=HR2.out k b hb;have HN:=AA (fun h=>DD (q:=CG p) ha hb h);have HY:=AA (Bz (q:=CG p) ha hb);clear ha hb;cases e1:(a.name==b.name)with
    |false=>
     have HQ:Hid (CG p a b=false):=AA (by unfold CG;simp at e1;simp[e1]);go_wp2_with fail
     go_quiet (fail)
     go_wp2_with fail
     go_ret;exact⟨AH (HN.out HQ.out).symm,I0 _ _ _⟩
    |true=>
     cases e2:(a.n != b.n)with
     |true=>
      have HQ:Hid (CG p a b=false):=AA (by unfold CG;simp at e2;simp[e2]);go_wp2_with fail
      go_quiet (fail)
      go_wp2_with fail
      go_ret;exact⟨AH (HN.out HQ.out).symm,I0 _ _ _⟩
     |false=>
      cases p with
      |false=>
       have HQ:Hid (CG false a b=true):=AA (by unfold CG;simp at e1 e2;simp[e1,e2]);go_wp2_with fail
       go_quiet (fail)
       go_wp2_with fail
       go_roundw;case rel=>exact⟨k+1,_,by omega,by go_num,rfl,by rw[HY.out,HS.out,HQ.out];rfl⟩
       case measure=>simp[intOf];omega
      |true=>
       cases e3:(a.pl != b.pl)with
       |true=>
        have HQ:Hid (CG true a b=false):=AA (by unfold CG;simp at e3;simp[e3]);go_wp2_with fail
        go_quiet (fail)
        go_wp2_with fail
        go_ret;exact⟨AH (HN.out HQ.out).symm,I0 _ _ _⟩
       |false=>
        have HQ:Hid (CG true a b=true):=AA (by unfold CG;simp at e1 e2 e3;simp[e1,e2,e3]);go_wp2_with fail
        go_quiet (fail)
        go_wp2_with fail
        go_roundw;case rel=>exact⟨k+1,_,by omega,by go_num,rfl,by rw[HY.out,HS.out,HQ.out];rfl⟩
        case measure=>simp[intOf];omega
   ·have HQ:=AA (Cb (by omega) HL.out HS.out);go_wp2_with fail
    go_ret;exact⟨AH HQ.out.symm,⟨_,rfl⟩⟩
 ·have HQ:=AA (CZ (q:=CG p) hL);have hd:((L.length:Int) != (M.length:Int))=true:=by simp;omega
  clear hL;go_enter Tryz.func30,Tryz.ntmps30;go_wp2_with fail
  go_ret;exact⟨AH HQ.out.symm,⟨0,rfl⟩⟩
end Go.Proofs.YthfkpalfopdmhaaGreatDoor
