/- Texts of the walk, packed. -/
import Derived.Test.YthfkpalfopdmhaaGreatDoorW14
import Derived.Test.YthfkpalfopdmhaaGreatDoorW13
import Derived.Test.YthfkpalfopdmhaaGreatDoorW03
import Derived.Test.YthfkpalfopdmhaaGreatDoorW11
import Derived.Laws.EntriesVeiled
import Derived.Test.YthfkpalfopdmhaaGreatDoorW00
namespace Go.Proofs.YthfkpalfopdmhaaGreatDoor
open Go.RowKit
theorem QBt (l:List UInt8) (w:World) (h:l.length<=100000):Calls Tryz.prog 103 #[.string ⟨l.toArray⟩] w (AK (nameB l) w):=by
 have:=name_any ⟨l.toArray⟩ w (by show l.toArray.size<=100000;simpa using h);simpa using this
set_option maxHeartbeats 1000000 in
theorem q74 {g:Nat} {l:List UInt8} (w:World) (hc:w.cell? ⟨g,1,none⟩=some (.string ⟨l.toArray⟩)) (hl:l.length<=100000):Calls Tryz.prog 239 #[.pointer (some ⟨g,0,none⟩)] w (AK (nameB l) w):=by
 go_enter Tryz.func239,Tryz.ntmps239;go_wp2_with fail
 refine(QBt l _ hl).mono ?_;rintro e w' ⟨rfl,hb⟩;go_wp2_with fail
 go_ret;exact⟨rfl,hb⟩
set_option maxHeartbeats 1000000 in
theorem q77 {g:Nat} {l:List UInt8} (w:World) (hc:w.cell? ⟨g,2,none⟩=some (.string ⟨l.toArray⟩)) (hl:l.length<=100000):Calls Tryz.prog 241 #[.pointer (some ⟨g,0,none⟩)] w (AK (nameB l) w):=by
 go_enter Tryz.func241,Tryz.ntmps241;go_wp2_with fail
 refine(QBt l _ hl).mono ?_;rintro e w' ⟨rfl,hb⟩;go_wp2_with fail
 go_ret;exact⟨rfl,hb⟩
set_option maxHeartbeats 1000000 in
theorem q76 {g:Nat} {l:List UInt8} (w:World) (hc:w.cell? ⟨g,1,none⟩=some (.string ⟨l.toArray⟩)):Calls Tryz.prog 240 #[.pointer (some ⟨g,0,none⟩)] w (AK l.isEmpty w):=by
 cases l with
 |nil=>
  go_enter Tryz.func240,Tryz.ntmps240;go_wp2_with fail
  go_ret;exact⟨rfl,Below.refl _ _⟩
 |cons a t=>
  go_enter Tryz.func240,Tryz.ntmps240;go_wp2_with fail
  go_ret;exact⟨AH (by simp),Below.refl _ _⟩
set_option maxHeartbeats 1000000 in
theorem q78 {g:Nat} {l:List UInt8} (w:World) (hc:w.cell? ⟨g,2,none⟩=some (.string ⟨l.toArray⟩)):Calls Tryz.prog 242 #[.pointer (some ⟨g,0,none⟩)] w (AK l.isEmpty w):=by
 cases l with
 |nil=>
  go_enter Tryz.func242,Tryz.ntmps242;go_wp2_with fail
  go_ret;exact⟨rfl,Below.refl _ _⟩
 |cons a t=>
  go_enter Tryz.func242,Tryz.ntmps242;go_wp2_with fail
  go_ret;exact⟨AH (by simp),Below.refl _ _⟩
set_option maxHeartbeats 1000000 in
theorem q79 {g:Nat} {v:Value} {L:List Nod} (w:World) (hc:w.cell? ⟨g,3,none⟩=some v) (hr:Ax w v L) (hl:L.length<=10000) (hs:Ej L):Calls Tryz.prog 243 #[.pointer (some ⟨g,0,none⟩)] w (AK (Bm L) w):=by
 obtain⟨A,c,rfl,_⟩:=id hr;go_enter Tryz.func243,Tryz.ntmps243;go_wp2_with fail
 refine(JU _ L _ hr hl hs).mono ?_;rintro e w' ⟨rfl,hb⟩;go_wp2_with fail
 go_ret;exact⟨rfl,hb⟩
set_option maxHeartbeats 1000000 in
theorem q82 {g:Nat} {v:Value} {L:List Nod} (w:World) (hc:w.cell? ⟨g,4,none⟩=some v) (hr:Ax w v L) (hl:L.length<=10000) (hs:Ej L):Calls Tryz.prog 245 #[.pointer (some ⟨g,0,none⟩)] w (AK (Bm L) w):=by
 obtain⟨A,c,rfl,_⟩:=id hr;go_enter Tryz.func245,Tryz.ntmps245;go_wp2_with fail
 refine(JU _ L _ hr hl hs).mono ?_;rintro e w' ⟨rfl,hb⟩;go_wp2_with fail
 go_ret;exact⟨rfl,hb⟩
set_option maxHeartbeats 1000000 in
theorem q81 {g:Nat} {v:Value} {L:List Nod} (w:World) (hc:w.cell? ⟨g,3,none⟩=some v) (hr:Ax w v L):Calls Tryz.prog 244 #[.pointer (some ⟨g,0,none⟩)] w (AK L.isEmpty w):=by
 obtain⟨A,c,rfl,_⟩:=id hr;clear hr;cases L with
 |nil=>
  go_enter Tryz.func244,Tryz.ntmps244;go_wp2_with fail
  go_ret;exact⟨rfl,Below.refl _ _⟩
 |cons a t=>
  go_enter Tryz.func244,Tryz.ntmps244;go_wp2_with fail
  go_ret;exact⟨AH (by simp;omega),Below.refl _ _⟩
set_option maxHeartbeats 1000000 in
theorem q83 {g:Nat} {v:Value} {L:List Nod} (w:World) (hc:w.cell? ⟨g,4,none⟩=some v) (hr:Ax w v L):Calls Tryz.prog 246 #[.pointer (some ⟨g,0,none⟩)] w (AK L.isEmpty w):=by
 obtain⟨A,c,rfl,_⟩:=id hr;clear hr;cases L with
 |nil=>
  go_enter Tryz.func246,Tryz.ntmps246;go_wp2_with fail
  go_ret;exact⟨rfl,Below.refl _ _⟩
 |cons a t=>
  go_enter Tryz.func246,Tryz.ntmps246;go_wp2_with fail
  go_ret;exact⟨AH (by simp;omega),Below.refl _ _⟩
set_option maxHeartbeats 1000000 in
theorem MK (n:Int) (w:World):Calls Tryz.prog 248 #[.int .i64 n] w (AK (decide (1<=n)&&decide (n<=8)) w):=by
 by_cases h:1<=n
 ·go_enter Tryz.func248,Tryz.ntmps248;go_wp2_with fail
  go_ret;exact⟨AH (by simp[h]),Below.refl _ _⟩
 ·go_enter Tryz.func248,Tryz.ntmps248;go_wp2_with fail
  go_ret;exact⟨AH (by simp;omega),Below.refl _ _⟩
set_option maxHeartbeats 1000000 in
theorem q84 {g:Nat} {n:Int} (w:World) (hc:w.cell? ⟨g,5,none⟩=some (.int .i64 n)):Calls Tryz.prog 247 #[.pointer (some ⟨g,0,none⟩)] w (AK (decide (1<=n)&&decide (n<=8)) w):=by
 go_enter Tryz.func247,Tryz.ntmps247;go_wp2_with fail
 refine(MK n _).mono ?_;rintro e w' ⟨rfl,hb⟩;go_wp2_with fail
 go_ret;exact⟨rfl,hb⟩
set_option maxHeartbeats 1000000 in
theorem q86 {g:Nat} {n:Int} (w:World) (hc:w.cell? ⟨g,5,none⟩=some (.int .i64 n)):Calls Tryz.prog 249 #[.pointer (some ⟨g,0,none⟩)] w (AK (decide (n=0)) w):=by
 go_enter Tryz.func249,Tryz.ntmps249;go_wp2_with fail
 go_ret;exact⟨AH (Bool.eq_iff_iff.2 (by simp)),Below.refl _ _⟩
set_option maxHeartbeats 1000000 in
theorem q87 {g:Nat} {n m:Int} (w:World) (hc:w.cell? ⟨g,6,none⟩=some (.int .i64 n)) (hd:w.cell? ⟨g,7,none⟩=some (.int .i64 m)):Calls Tryz.prog 250 #[.pointer (some ⟨g,0,none⟩)] w (AK (decide (0<=n)&&decide (0<=m)) w):=by
 by_cases h:0<=n
 ·go_enter Tryz.func250,Tryz.ntmps250;go_wp2_with fail
  go_ret;exact⟨AH (by simp[h]),Below.refl _ _⟩
 ·go_enter Tryz.func250,Tryz.ntmps250;go_wp2_with fail
  go_ret;exact⟨AH (by simp;omega),Below.refl _ _⟩
set_option maxHeartbeats 1000000 in
theorem q88 {g:Nat} {n m:Int} (w:World) (hc:w.cell? ⟨g,6,none⟩=some (.int .i64 n)) (hd:w.cell? ⟨g,7,none⟩=some (.int .i64 m)):Calls Tryz.prog 251 #[.pointer (some ⟨g,0,none⟩)] w (AK (decide (n=0)&&decide (m=0)) w):=by
 by_cases h:n=0
 ·have h2:(n==0)=true:=by simp[h]
  have H:=AA h;clear h;go_enter Tryz.func251,Tryz.ntmps251;go_wp2_with fail
  go_ret;exact⟨AH (by rw[H.out];exact Bool.eq_iff_iff.2 (by simp)),Below.refl _ _⟩
 ·have h2:(n==0)=false:=by simp[h]
  go_enter Tryz.func251,Tryz.ntmps251;go_wp2_with fail
  go_ret;exact⟨AH (by simp[h]),Below.refl _ _⟩
def QFa (x:Stm):Nat->Bool
 |0=>nameB x.reg
 |1=>nameB x.name
 |2=>Bm x.e
 |3=>Bm x.f
 |4=>decide (1<=x.n)&&decide (x.n<=8)
 |_=>decide (0<=x.body)&&decide (0<=x.els)
def QBu (x:Stm):Nat->Bool
 |0=>x.reg.isEmpty
 |1=>x.name.isEmpty
 |2=>x.e.isEmpty
 |3=>x.f.isEmpty
 |4=>decide (x.n=0)
 |_=>decide (x.body=0)&&decide (x.els=0)
def QF2:Nat->UInt8
 |0=>114
 |1=>110
 |2=>101
 |3=>102
 |4=>107
 |_=>98
def Fz (x:Stm) (k:Nat):Bool:=if Ie x.kind (QF2 k)then QFa x k else QBu x k
def Zg (x:Stm):Bool:=decide (0<x.kind)&&decide (x.kind<15)&&decide (0<=x.pl)&&decide (x.pl<=4000)
def ownB (x:Stm):Bool:=Zg x&&((List.range 6).all (Fz x)&&(decide (x.els=0)||decide (x.kind=11)))
theorem YJ {k:Int} (h1:0<k) (h2:k<15):Ie k 98=decide (Hq k):=by
 obtain⟨n,rfl⟩:∃n:Nat,k=n:=⟨k.toNat,by omega⟩
 have:∀n:Fin 15,Ie (n.1:Int) 98=decide (Hq (n.1:Int)):=by decide
 exact this ⟨n,by omega⟩
theorem Tn (x:Stm):ownB x=(EY x&&(if Hq x.kind then decide (0<=x.body)&&decide (0<=x.els)else decide (x.body=0)&&decide (x.els=0))&&(decide (x.els=0)||decide (x.kind=11))):=by
 unfold ownB Zg EY;by_cases h1:0<x.kind
 ·by_cases h2:x.kind<15
  ·have hb:=YJ h1 h2;have e1:decide (1<=x.kind)=true:=decide_eq_true (by omega);have e2:decide (x.kind<=14)=true:=decide_eq_true (by omega);have e3:decide (0<x.kind)=true:=decide_eq_true h1;have e4:decide (x.kind<15)=true:=decide_eq_true h2;have er:List.range 6=[0,1,2,3,4,5]:=by decide
   rw[e1,e2,e3,e4,er];simp only[List.all_cons,List.all_nil,Fz,QF2,QFa,QBu,hb,decide_eq_true_eq,Bool.and_true,Bool.true_and,Bool.and_assoc]
  ·have e2:decide (x.kind<=14)=false:=decide_eq_false (by omega);have e4:decide (x.kind<15)=false:=decide_eq_false h2;rw[e2,e4];simp
 ·have e1:decide (1<=x.kind)=false:=decide_eq_false (by omega);have e3:decide (0<x.kind)=false:=decide_eq_false h1;rw[e1,e3];simp
theorem OQ (l:List UInt8) (c:UInt8):decide (0<=Lib.indexByte l c)=l.any (fun x=>x==c):=by
 induction l with
 |nil=>rfl
 |cons b l ih=>
  have hg:=Lib.indexByte_ge l c;rw[List.any_cons,<-ih];show decide (0<=(if b==c then(0:Int)else if Lib.indexByte l c== -1 then -1 else Lib.indexByte l c+1))=_;by_cases h:b==c
  ·rw[if_pos h,h];rfl
  ·rw[if_neg h,Bool.not_eq_true]at *;rw[h];by_cases h2:Lib.indexByte l c== -1
   ·rw[if_pos h2];have:Lib.indexByte l c= -1:=by simpa using h2
    rw[this];rfl
   ·rw[if_neg h2];have:Lib.indexByte l c≠ -1:=by simpa using h2
    simp only[Bool.false_or];exact Bool.eq_iff_iff.2 (by simp only[decide_eq_true_eq];omega)
theorem Cc {k:Nat} (hk:k<15) (c:UInt8) (w:World):Calls Tryz.prog 225 #[.string ⟨(Dh k).toArray⟩,.string ⟨#[c]⟩] w (Lu (Ie k c) w):=by
 refine(Tryz.strings_Contains_one _ c w).mono ?_;rintro e w' ⟨rfl,rfl⟩;refine⟨AH ?_,rfl⟩;rw[OQ];unfold Ie;rw[Ww hk]
structure QBv (w:World) (g:Nat) (x:Stm) (vE vF:Value):Prop where
 nine:Zd w g (.int .i64 x.kind) (.string ⟨x.reg.toArray⟩) (.string ⟨x.name.toArray⟩) vE vF (.int .i64 x.n) (.int .i64 x.body) (.int .i64 x.els) (.int .i64 x.pl)
 re:Ax w vE x.e
 rf:Ax w vF x.f
 small:Fb x
theorem QBv.on {w w':World} {g:Nat} {x:Stm} {vE vF:Value} (h:QBv w g x vE vF) (hb:Below w.heap.size w w'):QBv w' g x vE vF:=⟨h.nine.on hb,h.re.on hb,h.rf.on hb,h.small⟩
def QHM (k:Nat) (has:Bool):Nat:=([239,240,241,242,243,244,245,246,247,249,250,251]:List Nat).getD (2*k+(if has then 0 else 1)) 0
theorem EG {w:World} {g:Nat} {x:Stm} {vE vF:Value} (h:QBv w g x vE vF) (k:Nat) (hk:k<6) (q:Bool) (hq:Ie x.kind (QF2 k)=q):Calls Tryz.prog (QHM k q) #[.pointer (some ⟨g,0,none⟩)] w (AK (Fz x k) w):=by
 obtain⟨⟨_,c0,c1,c2,c3,c4,c5,c6,c7,c8⟩,re,rf,s1,s2,s3,s4,s5,s6⟩:=h;have:k=0\/k=1\/k=2\/k=3\/k=4\/k=5:=by omega
 unfold Fz;rw[hq];rcases this with rfl|rfl|rfl|rfl|rfl|rfl<;>cases q
 ·exact q76 w c1
 ·exact q74 w c1 s1
 ·exact q78 w c2
 ·exact q77 w c2 s2
 ·exact q81 w c3 re
 ·exact q79 w c3 re s3 s5
 ·exact q83 w c4 rf
 ·exact q82 w c4 rf s4 s6
 ·exact q86 w c5
 ·exact q84 w c5
 ·exact q88 w c6 c7
 ·exact q87 w c6 c7
theorem QV (f:Nat->Bool) (k:Nat):(List.range (k+1)).all f=((List.range k).all f&&f k):=by
 rw[List.range_succ,List.all_append];simp
theorem Eb {f:Nat->Bool} {k:Nat} (hk:k<6) (h:f k=false):(List.range 6).all f=false:=by
 rw[List.all_eq_false];exact⟨k,List.mem_range.2 hk,by rw[h];simp⟩
theorem QD7 (g:Nat) (w:World):(Instr.index 261 (.agg #[.string ⟨#[114]⟩,.func (.func 239) #[] #[.pointer (some ⟨g,0,none⟩)],.func (.func 240) #[] #[.pointer (some ⟨g,0,none⟩)],.string ⟨#[110]⟩,.func (.func 241) #[] #[.pointer (some ⟨g,0,none⟩)],.func (.func 242) #[] #[.pointer (some ⟨g,0,none⟩)],.string ⟨#[101]⟩,.func (.func 243) #[] #[.pointer (some ⟨g,0,none⟩)],.func (.func 244) #[] #[.pointer (some ⟨g,0,none⟩)],.string ⟨#[102]⟩,.func (.func 245) #[] #[.pointer (some ⟨g,0,none⟩)],.func (.func 246) #[] #[.pointer (some ⟨g,0,none⟩)],.string ⟨#[107]⟩,.func (.func 247) #[] #[.pointer (some ⟨g,0,none⟩)],.func (.func 249) #[] #[.pointer (some ⟨g,0,none⟩)],.string ⟨#[98]⟩,.func (.func 250) #[] #[.pointer (some ⟨g,0,none⟩)],.func (.func 251) #[] #[.pointer (some ⟨g,0,none⟩)]]) (.int .i64 0)).run Tryz.prog w=.ok (.agg #[.string ⟨#[114]⟩,.func (.func 239) #[] #[.pointer (some ⟨g,0,none⟩)],.func (.func 240) #[] #[.pointer (some ⟨g,0,none⟩)]]) w:=by kernel_rfl
theorem QD8 (g:Nat) (w:World):(Instr.index 261 (.agg #[.string ⟨#[114]⟩,.func (.func 239) #[] #[.pointer (some ⟨g,0,none⟩)],.func (.func 240) #[] #[.pointer (some ⟨g,0,none⟩)],.string ⟨#[110]⟩,.func (.func 241) #[] #[.pointer (some ⟨g,0,none⟩)],.func (.func 242) #[] #[.pointer (some ⟨g,0,none⟩)],.string ⟨#[101]⟩,.func (.func 243) #[] #[.pointer (some ⟨g,0,none⟩)],.func (.func 244) #[] #[.pointer (some ⟨g,0,none⟩)],.string ⟨#[102]⟩,.func (.func 245) #[] #[.pointer (some ⟨g,0,none⟩)],.func (.func 246) #[] #[.pointer (some ⟨g,0,none⟩)],.string ⟨#[107]⟩,.func (.func 247) #[] #[.pointer (some ⟨g,0,none⟩)],.func (.func 249) #[] #[.pointer (some ⟨g,0,none⟩)],.string ⟨#[98]⟩,.func (.func 250) #[] #[.pointer (some ⟨g,0,none⟩)],.func (.func 251) #[] #[.pointer (some ⟨g,0,none⟩)]]) (.int .i64 1)).run Tryz.prog w=.ok (.agg #[.string ⟨#[110]⟩,.func (.func 241) #[] #[.pointer (some ⟨g,0,none⟩)],.func (.func 242) #[] #[.pointer (some ⟨g,0,none⟩)]]) w:=by kernel_rfl
theorem QD9 (g:Nat) (w:World):(Instr.index 261 (.agg #[.string ⟨#[114]⟩,.func (.func 239) #[] #[.pointer (some ⟨g,0,none⟩)],.func (.func 240) #[] #[.pointer (some ⟨g,0,none⟩)],.string ⟨#[110]⟩,.func (.func 241) #[] #[.pointer (some ⟨g,0,none⟩)],.func (.func 242) #[] #[.pointer (some ⟨g,0,none⟩)],.string ⟨#[101]⟩,.func (.func 243) #[] #[.pointer (some ⟨g,0,none⟩)],.func (.func 244) #[] #[.pointer (some ⟨g,0,none⟩)],.string ⟨#[102]⟩,.func (.func 245) #[] #[.pointer (some ⟨g,0,none⟩)],.func (.func 246) #[] #[.pointer (some ⟨g,0,none⟩)],.string ⟨#[107]⟩,.func (.func 247) #[] #[.pointer (some ⟨g,0,none⟩)],.func (.func 249) #[] #[.pointer (some ⟨g,0,none⟩)],.string ⟨#[98]⟩,.func (.func 250) #[] #[.pointer (some ⟨g,0,none⟩)],.func (.func 251) #[] #[.pointer (some ⟨g,0,none⟩)]]) (.int .i64 2)).run Tryz.prog w=.ok (.agg #[.string ⟨#[101]⟩,.func (.func 243) #[] #[.pointer (some ⟨g,0,none⟩)],.func (.func 244) #[] #[.pointer (some ⟨g,0,none⟩)]]) w:=by kernel_rfl
theorem QEA (g:Nat) (w:World):(Instr.index 261 (.agg #[.string ⟨#[114]⟩,.func (.func 239) #[] #[.pointer (some ⟨g,0,none⟩)],.func (.func 240) #[] #[.pointer (some ⟨g,0,none⟩)],.string ⟨#[110]⟩,.func (.func 241) #[] #[.pointer (some ⟨g,0,none⟩)],.func (.func 242) #[] #[.pointer (some ⟨g,0,none⟩)],.string ⟨#[101]⟩,.func (.func 243) #[] #[.pointer (some ⟨g,0,none⟩)],.func (.func 244) #[] #[.pointer (some ⟨g,0,none⟩)],.string ⟨#[102]⟩,.func (.func 245) #[] #[.pointer (some ⟨g,0,none⟩)],.func (.func 246) #[] #[.pointer (some ⟨g,0,none⟩)],.string ⟨#[107]⟩,.func (.func 247) #[] #[.pointer (some ⟨g,0,none⟩)],.func (.func 249) #[] #[.pointer (some ⟨g,0,none⟩)],.string ⟨#[98]⟩,.func (.func 250) #[] #[.pointer (some ⟨g,0,none⟩)],.func (.func 251) #[] #[.pointer (some ⟨g,0,none⟩)]]) (.int .i64 3)).run Tryz.prog w=.ok (.agg #[.string ⟨#[102]⟩,.func (.func 245) #[] #[.pointer (some ⟨g,0,none⟩)],.func (.func 246) #[] #[.pointer (some ⟨g,0,none⟩)]]) w:=by kernel_rfl
theorem QEB (g:Nat) (w:World):(Instr.index 261 (.agg #[.string ⟨#[114]⟩,.func (.func 239) #[] #[.pointer (some ⟨g,0,none⟩)],.func (.func 240) #[] #[.pointer (some ⟨g,0,none⟩)],.string ⟨#[110]⟩,.func (.func 241) #[] #[.pointer (some ⟨g,0,none⟩)],.func (.func 242) #[] #[.pointer (some ⟨g,0,none⟩)],.string ⟨#[101]⟩,.func (.func 243) #[] #[.pointer (some ⟨g,0,none⟩)],.func (.func 244) #[] #[.pointer (some ⟨g,0,none⟩)],.string ⟨#[102]⟩,.func (.func 245) #[] #[.pointer (some ⟨g,0,none⟩)],.func (.func 246) #[] #[.pointer (some ⟨g,0,none⟩)],.string ⟨#[107]⟩,.func (.func 247) #[] #[.pointer (some ⟨g,0,none⟩)],.func (.func 249) #[] #[.pointer (some ⟨g,0,none⟩)],.string ⟨#[98]⟩,.func (.func 250) #[] #[.pointer (some ⟨g,0,none⟩)],.func (.func 251) #[] #[.pointer (some ⟨g,0,none⟩)]]) (.int .i64 4)).run Tryz.prog w=.ok (.agg #[.string ⟨#[107]⟩,.func (.func 247) #[] #[.pointer (some ⟨g,0,none⟩)],.func (.func 249) #[] #[.pointer (some ⟨g,0,none⟩)]]) w:=by kernel_rfl
theorem QEC (g:Nat) (w:World):(Instr.index 261 (.agg #[.string ⟨#[114]⟩,.func (.func 239) #[] #[.pointer (some ⟨g,0,none⟩)],.func (.func 240) #[] #[.pointer (some ⟨g,0,none⟩)],.string ⟨#[110]⟩,.func (.func 241) #[] #[.pointer (some ⟨g,0,none⟩)],.func (.func 242) #[] #[.pointer (some ⟨g,0,none⟩)],.string ⟨#[101]⟩,.func (.func 243) #[] #[.pointer (some ⟨g,0,none⟩)],.func (.func 244) #[] #[.pointer (some ⟨g,0,none⟩)],.string ⟨#[102]⟩,.func (.func 245) #[] #[.pointer (some ⟨g,0,none⟩)],.func (.func 246) #[] #[.pointer (some ⟨g,0,none⟩)],.string ⟨#[107]⟩,.func (.func 247) #[] #[.pointer (some ⟨g,0,none⟩)],.func (.func 249) #[] #[.pointer (some ⟨g,0,none⟩)],.string ⟨#[98]⟩,.func (.func 250) #[] #[.pointer (some ⟨g,0,none⟩)],.func (.func 251) #[] #[.pointer (some ⟨g,0,none⟩)]]) (.int .i64 5)).run Tryz.prog w=.ok (.agg #[.string ⟨#[98]⟩,.func (.func 250) #[] #[.pointer (some ⟨g,0,none⟩)],.func (.func 251) #[] #[.pointer (some ⟨g,0,none⟩)]]) w:=by kernel_rfl
set_option maxRecDepth 100000 in
set_option maxHeartbeats 8000000 in
theorem QED (x:Stm) (vE vF:Value) (w:World) (hE:Ax w vE x.e) (hF:Ax w vF x.f) (hs:Fb x) (ht:Tabs w):Calls Tryz.prog 224 #[Rb x vE vF] w (AK (ownB x) w):=by
 obtain⟨AE,cE,rfl,_⟩:=id hE;obtain⟨AF,cF,rfl,_⟩:=id hF;unfold Rb;have HB:=AA ((Below.refl w.heap.size w).alloc (Nat.le_refl _) (.cells #[.int .i64 x.kind,.string ⟨x.reg.toArray⟩,.string ⟨x.name.toArray⟩,.slice AE x.e.length cE,.slice AF x.f.length cF,.int .i64 x.n,.int .i64 x.body,.int .i64 x.els,.int .i64 x.pl] 44))
 have HS:Hid (QBv (w.alloc (.cells #[.int .i64 x.kind,.string ⟨x.reg.toArray⟩,.string ⟨x.name.toArray⟩,.slice AE x.e.length cE,.slice AF x.f.length cF,.int .i64 x.n,.int .i64 x.body,.int .i64 x.els,.int .i64 x.pl] 44)) w.heap.size x (.slice AE x.e.length cE) (.slice AF x.f.length cF)):=AA ⟨Ea _ _ _ _ _ _ _ _ _ _ _,hE.on HB.out,hF.on HB.out,hs⟩;have HT:=AA (ht.on HB.out);clear hE hF hs ht;obtain⟨kd,reg,name,e,f,nn,body,els,pl⟩:=x;simp only at *;by_cases hk:Zg ⟨kd,reg,name,e,f,nn,body,els,pl⟩=true
 ·obtain⟨n,rfl⟩:∃n:Nat,kd=n:=⟨kd.toNat,by unfold Zg at hk;simp at hk;omega⟩
  have HO:Hid (ownB ⟨n,reg,name,e,f,nn,body,els,pl⟩=((List.range 6).all (Fz ⟨n,reg,name,e,f,nn,body,els,pl⟩)&&(decide (els=0)||decide ((n:Int)=11)))):=AA (by unfold ownB;rw[hk];simp);unfold Zg at hk;simp only[Bool.and_eq_true,decide_eq_true_eq]at hk;obtain⟨⟨⟨k1,k2⟩,k3⟩,k4⟩:=hk;have n1:¬(n:Int)<=0:=by omega
  have n2:¬15<=(n:Int):=by omega
  have n3:¬pl<0:=by omega
  have n4:¬4000<pl:=by omega
  have hmf:=mkf;generalize hV:ownB ⟨n,reg,name,e,f,nn,body,els,pl⟩=V at *;clear hV;go_enter Tryz.func224,Tryz.ntmps224;go_upto_region 3 with(fail)
  generalize w.alloc (.cells #[.int .i64 (n:Int),.string ⟨reg.toArray⟩,.string ⟨name.toArray⟩,.slice AE e.length cE,.slice AF f.length cF,.int .i64 nn,.int .i64 body,.int .i64 els,.int .i64 pl] 44)=X at *;go_wp2_with fail
  go_loopw [43] (fun i wr=>∃k:Nat,k<=6/\i=.int .i64 k/\(List.range k).all (Fz ⟨n,reg,name,e,f,nn,body,els,pl⟩)=true/\Below X.heap.size X wr) (fun i _=>6-(intOf i).toNat)
  case atStart=>exact⟨0,by omega,rfl,rfl,Below.refl _ _⟩
  case round=>
   obtain⟨k,hk,rfl,ha,hb⟩:=hrel;have HA:=AA ha;have HBR:=AA hb;have HSR:=AA (HS.out.on hb);have HTR:=AA (HT.out.on hb);have htl:=HTR.out.lt;have hcl:=HTR.out.own (k:=n) (by omega);obtain⟨hlt,c0,_,_,_,_,_,_,c7,_⟩:=HSR.out.nine;clear ha hb;by_cases hlt6:k<6
   ·have HQ:=AA (fun q hq=>EG HSR.out k hlt6 q hq);have HR:=AA (QV (Fz ⟨n,reg,name,e,f,nn,body,els,pl⟩) k);have hk6:k=0\/k=1\/k=2\/k=3\/k=4\/k=5:=by omega
    rcases hk6 with rfl|rfl|rfl|rfl|rfl|rfl
    ·have hix:=QD7 w.heap.size;go_upto_region 7 with(fail)
     have HBA:=AA ((Below.refl wr.heap.size wr).alloc (Nat.le_refl _) (.cells #[.string ⟨#[114]⟩,.func (.func 239) #[] #[.pointer (some ⟨w.heap.size,0,none⟩)],.func (.func 240) #[] #[.pointer (some ⟨w.heap.size,0,none⟩)]] 260));have d0:(wr.alloc (.cells #[.string ⟨#[114]⟩,.func (.func 239) #[] #[.pointer (some ⟨w.heap.size,0,none⟩)],.func (.func 240) #[] #[.pointer (some ⟨w.heap.size,0,none⟩)]] 260)).cell? ⟨wr.heap.size,0,none⟩=some (.string ⟨#[114]⟩):=by simp
     have d1:(wr.alloc (.cells #[.string ⟨#[114]⟩,.func (.func 239) #[] #[.pointer (some ⟨w.heap.size,0,none⟩)],.func (.func 240) #[] #[.pointer (some ⟨w.heap.size,0,none⟩)]] 260)).cell? ⟨wr.heap.size,1,none⟩=some (.func (.func 239) #[] #[.pointer (some ⟨w.heap.size,0,none⟩)]):=by simp
     have e0:(wr.alloc (.cells #[.string ⟨#[114]⟩,.func (.func 239) #[] #[.pointer (some ⟨w.heap.size,0,none⟩)],.func (.func 240) #[] #[.pointer (some ⟨w.heap.size,0,none⟩)]] 260)).cell? ⟨w.heap.size,0,none⟩=some (.int .i64 n):=(HBA.out.cell (p:=⟨w.heap.size,0,none⟩) hlt).trans c0;have e1:(wr.alloc (.cells #[.string ⟨#[114]⟩,.func (.func 239) #[] #[.pointer (some ⟨w.heap.size,0,none⟩)],.func (.func 240) #[] #[.pointer (some ⟨w.heap.size,0,none⟩)]] 260)).cell? ⟨3,n,none⟩=some (.string ⟨(Dh n).toArray⟩):=(HBA.out.cell (p:=⟨3,n,none⟩) (by show 3<_;omega)).trans hcl;clear c0 hcl c7 hix
     generalize wr.alloc (.cells #[.string ⟨#[114]⟩,.func (.func 239) #[] #[.pointer (some ⟨w.heap.size,0,none⟩)],.func (.func 240) #[] #[.pointer (some ⟨w.heap.size,0,none⟩)]] 260)=Y at *;have HQ2:=AA (HSR.out.on HBA.out);clear HQ;cases hq:Ie n 114 with
     |true=>
      have HC:=AA hq;have HQ:=AA (EG (HQ2.out.on (AD Y)) 0 hlt6 true hq);clear hq;go_region_held3 (fun w'=>w'.cell? ⟨w.heap.size,0,none⟩=some (.int .i64 n)/\w'.cell? ⟨3,n,none⟩=some (.string ⟨(Dh n).toArray⟩)/\w'.cell? ⟨wr.heap.size,0,none⟩=some (.string ⟨#[114]⟩)/\Below Y.heap.size Y w')
       (first|exact⟨e0,e1,d0,Below.refl _ _⟩|exact⟨e0,e1,d0,AD _⟩)
       (first|(go_at_call 225;refine(Cc (k:=n) (by omega) 114 _).mono ?_;rw[HC.out];rintro e w' ⟨rfl,rfl⟩))
      clear e0 e1 d0;go_wp2_with fail
      refine HQ.out.mono ?_;generalize hv:Fz ⟨n,reg,name,e,f,nn,body,els,pl⟩ 0=qv at *;rintro e' w2 ⟨rfl,hb2⟩;have HB2:=AA (AC HBR.out (AC HBA.out (AC (AD Y) hb2)));clear hb2;cases qv with
      |false=>
       have HN:Hid (V=false):=AA (by rw[HO.out,Eb (k:=0) (by omega) hv];rfl);clear hv;go_wp2_with fail
       go_ret;exact⟨AH HN.out.symm,AC HB.out HB2.out⟩
      |true=>
       have HN:Hid ((List.range 1).all (Fz ⟨n,reg,name,e,f,nn,body,els,pl⟩)=true):=AA (by rw[HR.out,HA.out];rfl);clear hv;go_wp2_with fail
       go_roundw;case rel=>exact⟨1,by omega,by go_num,HN.out,HB2.out⟩
       case measure=>simp[intOf]
     |false=>
      have HC:=AA hq;have HQ:=AA (EG (HQ2.out.on (AD Y)) 0 hlt6 false hq);clear hq;go_region_held3 (fun w'=>w'.cell? ⟨w.heap.size,0,none⟩=some (.int .i64 n)/\w'.cell? ⟨3,n,none⟩=some (.string ⟨(Dh n).toArray⟩)/\w'.cell? ⟨wr.heap.size,0,none⟩=some (.string ⟨#[114]⟩)/\Below Y.heap.size Y w')
       (first|exact⟨e0,e1,d0,Below.refl _ _⟩|exact⟨e0,e1,d0,AD _⟩)
       (first|(go_at_call 225;refine(Cc (k:=n) (by omega) 114 _).mono ?_;rw[HC.out];rintro e w' ⟨rfl,rfl⟩))
      clear e0 e1 d0;go_wp2_with fail
      refine HQ.out.mono ?_;generalize hv:Fz ⟨n,reg,name,e,f,nn,body,els,pl⟩ 0=qv at *;rintro e' w2 ⟨rfl,hb2⟩;have HB2:=AA (AC HBR.out (AC HBA.out (AC (AD Y) hb2)));clear hb2;cases qv with
      |false=>
       have HN:Hid (V=false):=AA (by rw[HO.out,Eb (k:=0) (by omega) hv];rfl);clear hv;go_wp2_with fail
       go_ret;exact⟨AH HN.out.symm,AC HB.out HB2.out⟩
      |true=>
       have HN:Hid ((List.range 1).all (Fz ⟨n,reg,name,e,f,nn,body,els,pl⟩)=true):=AA (by rw[HR.out,HA.out];rfl);clear hv;go_wp2_with fail
       go_roundw;case rel=>exact⟨1,by omega,by go_num,HN.out,HB2.out⟩
       case measure=>simp[intOf]
    ·have hix:=QD8 w.heap.size;go_upto_region 7 with(fail)
     have HBA:=AA ((Below.refl wr.heap.size wr).alloc (Nat.le_refl _) (.cells #[.string ⟨#[110]⟩,.func (.func 241) #[] #[.pointer (some ⟨w.heap.size,0,none⟩)],.func (.func 242) #[] #[.pointer (some ⟨w.heap.size,0,none⟩)]] 260));have d0:(wr.alloc (.cells #[.string ⟨#[110]⟩,.func (.func 241) #[] #[.pointer (some ⟨w.heap.size,0,none⟩)],.func (.func 242) #[] #[.pointer (some ⟨w.heap.size,0,none⟩)]] 260)).cell? ⟨wr.heap.size,0,none⟩=some (.string ⟨#[110]⟩):=by simp
     have d1:(wr.alloc (.cells #[.string ⟨#[110]⟩,.func (.func 241) #[] #[.pointer (some ⟨w.heap.size,0,none⟩)],.func (.func 242) #[] #[.pointer (some ⟨w.heap.size,0,none⟩)]] 260)).cell? ⟨wr.heap.size,1,none⟩=some (.func (.func 241) #[] #[.pointer (some ⟨w.heap.size,0,none⟩)]):=by simp
     have e0:(wr.alloc (.cells #[.string ⟨#[110]⟩,.func (.func 241) #[] #[.pointer (some ⟨w.heap.size,0,none⟩)],.func (.func 242) #[] #[.pointer (some ⟨w.heap.size,0,none⟩)]] 260)).cell? ⟨w.heap.size,0,none⟩=some (.int .i64 n):=(HBA.out.cell (p:=⟨w.heap.size,0,none⟩) hlt).trans c0;have e1:(wr.alloc (.cells #[.string ⟨#[110]⟩,.func (.func 241) #[] #[.pointer (some ⟨w.heap.size,0,none⟩)],.func (.func 242) #[] #[.pointer (some ⟨w.heap.size,0,none⟩)]] 260)).cell? ⟨3,n,none⟩=some (.string ⟨(Dh n).toArray⟩):=(HBA.out.cell (p:=⟨3,n,none⟩) (by show 3<_;omega)).trans hcl;clear c0 hcl c7 hix
     generalize wr.alloc (.cells #[.string ⟨#[110]⟩,.func (.func 241) #[] #[.pointer (some ⟨w.heap.size,0,none⟩)],.func (.func 242) #[] #[.pointer (some ⟨w.heap.size,0,none⟩)]] 260)=Y at *;have HQ2:=AA (HSR.out.on HBA.out);clear HQ;cases hq:Ie n 110 with
     |true=>
      have HC:=AA hq;have HQ:=AA (EG (HQ2.out.on (AD Y)) 1 hlt6 true hq);clear hq;go_region_held3 (fun w'=>w'.cell? ⟨w.heap.size,0,none⟩=some (.int .i64 n)/\w'.cell? ⟨3,n,none⟩=some (.string ⟨(Dh n).toArray⟩)/\w'.cell? ⟨wr.heap.size,0,none⟩=some (.string ⟨#[110]⟩)/\Below Y.heap.size Y w')
       (first|exact⟨e0,e1,d0,Below.refl _ _⟩|exact⟨e0,e1,d0,AD _⟩)
       (first|(go_at_call 225;refine(Cc (k:=n) (by omega) 110 _).mono ?_;rw[HC.out];rintro e w' ⟨rfl,rfl⟩))
      clear e0 e1 d0;go_wp2_with fail
      refine HQ.out.mono ?_;generalize hv:Fz ⟨n,reg,name,e,f,nn,body,els,pl⟩ 1=qv at *;rintro e' w2 ⟨rfl,hb2⟩;have HB2:=AA (AC HBR.out (AC HBA.out (AC (AD Y) hb2)));clear hb2;cases qv with
      |false=>
       have HN:Hid (V=false):=AA (by rw[HO.out,Eb (k:=1) (by omega) hv];rfl);clear hv;go_wp2_with fail
       go_ret;exact⟨AH HN.out.symm,AC HB.out HB2.out⟩
      |true=>
       have HN:Hid ((List.range 2).all (Fz ⟨n,reg,name,e,f,nn,body,els,pl⟩)=true):=AA (by rw[HR.out,HA.out];rfl);clear hv;go_wp2_with fail
       go_roundw;case rel=>exact⟨2,by omega,by go_num,HN.out,HB2.out⟩
       case measure=>simp[intOf]
     |false=>
      have HC:=AA hq;have HQ:=AA (EG (HQ2.out.on (AD Y)) 1 hlt6 false hq);clear hq;go_region_held3 (fun w'=>w'.cell? ⟨w.heap.size,0,none⟩=some (.int .i64 n)/\w'.cell? ⟨3,n,none⟩=some (.string ⟨(Dh n).toArray⟩)/\w'.cell? ⟨wr.heap.size,0,none⟩=some (.string ⟨#[110]⟩)/\Below Y.heap.size Y w')
       (first|exact⟨e0,e1,d0,Below.refl _ _⟩|exact⟨e0,e1,d0,AD _⟩)
       (first|(go_at_call 225;refine(Cc (k:=n) (by omega) 110 _).mono ?_;rw[HC.out];rintro e w' ⟨rfl,rfl⟩))
      clear e0 e1 d0;go_wp2_with fail
      refine HQ.out.mono ?_;generalize hv:Fz ⟨n,reg,name,e,f,nn,body,els,pl⟩ 1=qv at *;rintro e' w2 ⟨rfl,hb2⟩;have HB2:=AA (AC HBR.out (AC HBA.out (AC (AD Y) hb2)));clear hb2;cases qv with
      |false=>
       have HN:Hid (V=false):=AA (by rw[HO.out,Eb (k:=1) (by omega) hv];rfl);clear hv;go_wp2_with fail
       go_ret;exact⟨AH HN.out.symm,AC HB.out HB2.out⟩
      |true=>
       have HN:Hid ((List.range 2).all (Fz ⟨n,reg,name,e,f,nn,body,els,pl⟩)=true):=AA (by rw[HR.out,HA.out];rfl);clear hv;go_wp2_with fail
       go_roundw;case rel=>exact⟨2,by omega,by go_num,HN.out,HB2.out⟩
       case measure=>simp[intOf]
    ·have hix:=QD9 w.heap.size;go_upto_region 7 with(fail)
     have HBA:=AA ((Below.refl wr.heap.size wr).alloc (Nat.le_refl _) (.cells #[.string ⟨#[101]⟩,.func (.func 243) #[] #[.pointer (some ⟨w.heap.size,0,none⟩)],.func (.func 244) #[] #[.pointer (some ⟨w.heap.size,0,none⟩)]] 260));have d0:(wr.alloc (.cells #[.string ⟨#[101]⟩,.func (.func 243) #[] #[.pointer (some ⟨w.heap.size,0,none⟩)],.func (.func 244) #[] #[.pointer (some ⟨w.heap.size,0,none⟩)]] 260)).cell? ⟨wr.heap.size,0,none⟩=some (.string ⟨#[101]⟩):=by simp
     have d1:(wr.alloc (.cells #[.string ⟨#[101]⟩,.func (.func 243) #[] #[.pointer (some ⟨w.heap.size,0,none⟩)],.func (.func 244) #[] #[.pointer (some ⟨w.heap.size,0,none⟩)]] 260)).cell? ⟨wr.heap.size,1,none⟩=some (.func (.func 243) #[] #[.pointer (some ⟨w.heap.size,0,none⟩)]):=by simp
     have e0:(wr.alloc (.cells #[.string ⟨#[101]⟩,.func (.func 243) #[] #[.pointer (some ⟨w.heap.size,0,none⟩)],.func (.func 244) #[] #[.pointer (some ⟨w.heap.size,0,none⟩)]] 260)).cell? ⟨w.heap.size,0,none⟩=some (.int .i64 n):=(HBA.out.cell (p:=⟨w.heap.size,0,none⟩) hlt).trans c0;have e1:(wr.alloc (.cells #[.string ⟨#[101]⟩,.func (.func 243) #[] #[.pointer (some ⟨w.heap.size,0,none⟩)],.func (.func 244) #[] #[.pointer (some ⟨w.heap.size,0,none⟩)]] 260)).cell? ⟨3,n,none⟩=some (.string ⟨(Dh n).toArray⟩):=(HBA.out.cell (p:=⟨3,n,none⟩) (by show 3<_;omega)).trans hcl;clear c0 hcl c7 hix
     generalize wr.alloc (.cells #[.string ⟨#[101]⟩,.func (.func 243) #[] #[.pointer (some ⟨w.heap.size,0,none⟩)],.func (.func 244) #[] #[.pointer (some ⟨w.heap.size,0,none⟩)]] 260)=Y at *;have HQ2:=AA (HSR.out.on HBA.out);clear HQ;cases hq:Ie n 101 with
     |true=>
      have HC:=AA hq;have HQ:=AA (EG (HQ2.out.on (AD Y)) 2 hlt6 true hq);clear hq;go_region_held3 (fun w'=>w'.cell? ⟨w.heap.size,0,none⟩=some (.int .i64 n)/\w'.cell? ⟨3,n,none⟩=some (.string ⟨(Dh n).toArray⟩)/\w'.cell? ⟨wr.heap.size,0,none⟩=some (.string ⟨#[101]⟩)/\Below Y.heap.size Y w')
       (first|exact⟨e0,e1,d0,Below.refl _ _⟩|exact⟨e0,e1,d0,AD _⟩)
       (first|(go_at_call 225;refine(Cc (k:=n) (by omega) 101 _).mono ?_;rw[HC.out];rintro e w' ⟨rfl,rfl⟩))
      clear e0 e1 d0;go_wp2_with fail
      refine HQ.out.mono ?_;generalize hv:Fz ⟨n,reg,name,e,f,nn,body,els,pl⟩ 2=qv at *;rintro e' w2 ⟨rfl,hb2⟩;have HB2:=AA (AC HBR.out (AC HBA.out (AC (AD Y) hb2)));clear hb2;cases qv with
      |false=>
       have HN:Hid (V=false):=AA (by rw[HO.out,Eb (k:=2) (by omega) hv];rfl);clear hv;go_wp2_with fail
       go_ret;exact⟨AH HN.out.symm,AC HB.out HB2.out⟩
      |true=>
       have HN:Hid ((List.range 3).all (Fz ⟨n,reg,name,e,f,nn,body,els,pl⟩)=true):=AA (by rw[HR.out,HA.out];rfl);clear hv;go_wp2_with fail
       go_roundw;case rel=>exact⟨3,by omega,by go_num,HN.out,HB2.out⟩
       case measure=>simp[intOf]
     |false=>
      have HC:=AA hq;have HQ:=AA (EG (HQ2.out.on (AD Y)) 2 hlt6 false hq);clear hq;go_region_held3 (fun w'=>w'.cell? ⟨w.heap.size,0,none⟩=some (.int .i64 n)/\w'.cell? ⟨3,n,none⟩=some (.string ⟨(Dh n).toArray⟩)/\w'.cell? ⟨wr.heap.size,0,none⟩=some (.string ⟨#[101]⟩)/\Below Y.heap.size Y w')
       (first|exact⟨e0,e1,d0,Below.refl _ _⟩|exact⟨e0,e1,d0,AD _⟩)
       (first|(go_at_call 225;refine(Cc (k:=n) (by omega) 101 _).mono ?_;rw[HC.out];rintro e w' ⟨rfl,rfl⟩))
      clear e0 e1 d0;go_wp2_with fail
      refine HQ.out.mono ?_;generalize hv:Fz ⟨n,reg,name,e,f,nn,body,els,pl⟩ 2=qv at *;rintro e' w2 ⟨rfl,hb2⟩;have HB2:=AA (AC HBR.out (AC HBA.out (AC (AD Y) hb2)));clear hb2;cases qv with
      |false=>
       have HN:Hid (V=false):=AA (by rw[HO.out,Eb (k:=2) (by omega) hv];rfl);clear hv;go_wp2_with fail
       go_ret;exact⟨AH HN.out.symm,AC HB.out HB2.out⟩
      |true=>
       have HN:Hid ((List.range 3).all (Fz ⟨n,reg,name,e,f,nn,body,els,pl⟩)=true):=AA (by rw[HR.out,HA.out];rfl);clear hv;go_wp2_with fail
       go_roundw;case rel=>exact⟨3,by omega,by go_num,HN.out,HB2.out⟩
       case measure=>simp[intOf]
    ·have hix:=QEA w.heap.size;go_upto_region 7 with(fail)
     have HBA:=AA ((Below.refl wr.heap.size wr).alloc (Nat.le_refl _) (.cells #[.string ⟨#[102]⟩,.func (.func 245) #[] #[.pointer (some ⟨w.heap.size,0,none⟩)],.func (.func 246) #[] #[.pointer (some ⟨w.heap.size,0,none⟩)]] 260));have d0:(wr.alloc (.cells #[.string ⟨#[102]⟩,.func (.func 245) #[] #[.pointer (some ⟨w.heap.size,0,none⟩)],.func (.func 246) #[] #[.pointer (some ⟨w.heap.size,0,none⟩)]] 260)).cell? ⟨wr.heap.size,0,none⟩=some (.string ⟨#[102]⟩):=by simp
     have d1:(wr.alloc (.cells #[.string ⟨#[102]⟩,.func (.func 245) #[] #[.pointer (some ⟨w.heap.size,0,none⟩)],.func (.func 246) #[] #[.pointer (some ⟨w.heap.size,0,none⟩)]] 260)).cell? ⟨wr.heap.size,1,none⟩=some (.func (.func 245) #[] #[.pointer (some ⟨w.heap.size,0,none⟩)]):=by simp
     have e0:(wr.alloc (.cells #[.string ⟨#[102]⟩,.func (.func 245) #[] #[.pointer (some ⟨w.heap.size,0,none⟩)],.func (.func 246) #[] #[.pointer (some ⟨w.heap.size,0,none⟩)]] 260)).cell? ⟨w.heap.size,0,none⟩=some (.int .i64 n):=(HBA.out.cell (p:=⟨w.heap.size,0,none⟩) hlt).trans c0;have e1:(wr.alloc (.cells #[.string ⟨#[102]⟩,.func (.func 245) #[] #[.pointer (some ⟨w.heap.size,0,none⟩)],.func (.func 246) #[] #[.pointer (some ⟨w.heap.size,0,none⟩)]] 260)).cell? ⟨3,n,none⟩=some (.string ⟨(Dh n).toArray⟩):=(HBA.out.cell (p:=⟨3,n,none⟩) (by show 3<_;omega)).trans hcl;clear c0 hcl c7 hix
     generalize wr.alloc (.cells #[.string ⟨#[102]⟩,.func (.func 245) #[] #[.pointer (some ⟨w.heap.size,0,none⟩)],.func (.func 246) #[] #[.pointer (some ⟨w.heap.size,0,none⟩)]] 260)=Y at *;have HQ2:=AA (HSR.out.on HBA.out);clear HQ;cases hq:Ie n 102 with
     |true=>
      have HC:=AA hq;have HQ:=AA (EG (HQ2.out.on (AD Y)) 3 hlt6 true hq);clear hq;go_region_held3 (fun w'=>w'.cell? ⟨w.heap.size,0,none⟩=some (.int .i64 n)/\w'.cell? ⟨3,n,none⟩=some (.string ⟨(Dh n).toArray⟩)/\w'.cell? ⟨wr.heap.size,0,none⟩=some (.string ⟨#[102]⟩)/\Below Y.heap.size Y w')
       (first|exact⟨e0,e1,d0,Below.refl _ _⟩|exact⟨e0,e1,d0,AD _⟩)
       (first|(go_at_call 225;refine(Cc (k:=n) (by omega) 102 _).mono ?_;rw[HC.out];rintro e w' ⟨rfl,rfl⟩))
      clear e0 e1 d0;go_wp2_with fail
      refine HQ.out.mono ?_;generalize hv:Fz ⟨n,reg,name,e,f,nn,body,els,pl⟩ 3=qv at *;rintro e' w2 ⟨rfl,hb2⟩;have HB2:=AA (AC HBR.out (AC HBA.out (AC (AD Y) hb2)));clear hb2;cases qv with
      |false=>
       have HN:Hid (V=false):=AA (by rw[HO.out,Eb (k:=3) (by omega) hv];rfl);clear hv;go_wp2_with fail
       go_ret;exact⟨AH HN.out.symm,AC HB.out HB2.out⟩
      |true=>
       have HN:Hid ((List.range 4).all (Fz ⟨n,reg,name,e,f,nn,body,els,pl⟩)=true):=AA (by rw[HR.out,HA.out];rfl);clear hv;go_wp2_with fail
       go_roundw;case rel=>exact⟨4,by omega,by go_num,HN.out,HB2.out⟩
       case measure=>simp[intOf]
     |false=>
      have HC:=AA hq;have HQ:=AA (EG (HQ2.out.on (AD Y)) 3 hlt6 false hq);clear hq;go_region_held3 (fun w'=>w'.cell? ⟨w.heap.size,0,none⟩=some (.int .i64 n)/\w'.cell? ⟨3,n,none⟩=some (.string ⟨(Dh n).toArray⟩)/\w'.cell? ⟨wr.heap.size,0,none⟩=some (.string ⟨#[102]⟩)/\Below Y.heap.size Y w')
       (first|exact⟨e0,e1,d0,Below.refl _ _⟩|exact⟨e0,e1,d0,AD _⟩)
       (first|(go_at_call 225;refine(Cc (k:=n) (by omega) 102 _).mono ?_;rw[HC.out];rintro e w' ⟨rfl,rfl⟩))
      clear e0 e1 d0;go_wp2_with fail
      refine HQ.out.mono ?_;generalize hv:Fz ⟨n,reg,name,e,f,nn,body,els,pl⟩ 3=qv at *;rintro e' w2 ⟨rfl,hb2⟩;have HB2:=AA (AC HBR.out (AC HBA.out (AC (AD Y) hb2)));clear hb2;cases qv with
      |false=>
       have HN:Hid (V=false):=AA (by rw[HO.out,Eb (k:=3) (by omega) hv];rfl);clear hv;go_wp2_with fail
       go_ret;exact⟨AH HN.out.symm,AC HB.out HB2.out⟩
      |true=>
       have HN:Hid ((List.range 4).all (Fz ⟨n,reg,name,e,f,nn,body,els,pl⟩)=true):=AA (by rw[HR.out,HA.out];rfl);clear hv;go_wp2_with fail
       go_roundw;case rel=>exact⟨4,by omega,by go_num,HN.out,HB2.out⟩
       case measure=>simp[intOf]
    ·have hix:=QEB w.heap.size;go_upto_region 7 with(fail)
     have HBA:=AA ((Below.refl wr.heap.size wr).alloc (Nat.le_refl _) (.cells #[.string ⟨#[107]⟩,.func (.func 247) #[] #[.pointer (some ⟨w.heap.size,0,none⟩)],.func (.func 249) #[] #[.pointer (some ⟨w.heap.size,0,none⟩)]] 260));have d0:(wr.alloc (.cells #[.string ⟨#[107]⟩,.func (.func 247) #[] #[.pointer (some ⟨w.heap.size,0,none⟩)],.func (.func 249) #[] #[.pointer (some ⟨w.heap.size,0,none⟩)]] 260)).cell? ⟨wr.heap.size,0,none⟩=some (.string ⟨#[107]⟩):=by simp
     have d1:(wr.alloc (.cells #[.string ⟨#[107]⟩,.func (.func 247) #[] #[.pointer (some ⟨w.heap.size,0,none⟩)],.func (.func 249) #[] #[.pointer (some ⟨w.heap.size,0,none⟩)]] 260)).cell? ⟨wr.heap.size,1,none⟩=some (.func (.func 247) #[] #[.pointer (some ⟨w.heap.size,0,none⟩)]):=by simp
     have e0:(wr.alloc (.cells #[.string ⟨#[107]⟩,.func (.func 247) #[] #[.pointer (some ⟨w.heap.size,0,none⟩)],.func (.func 249) #[] #[.pointer (some ⟨w.heap.size,0,none⟩)]] 260)).cell? ⟨w.heap.size,0,none⟩=some (.int .i64 n):=(HBA.out.cell (p:=⟨w.heap.size,0,none⟩) hlt).trans c0;have e1:(wr.alloc (.cells #[.string ⟨#[107]⟩,.func (.func 247) #[] #[.pointer (some ⟨w.heap.size,0,none⟩)],.func (.func 249) #[] #[.pointer (some ⟨w.heap.size,0,none⟩)]] 260)).cell? ⟨3,n,none⟩=some (.string ⟨(Dh n).toArray⟩):=(HBA.out.cell (p:=⟨3,n,none⟩) (by show 3<_;omega)).trans hcl;clear c0 hcl c7 hix
     generalize wr.alloc (.cells #[.string ⟨#[107]⟩,.func (.func 247) #[] #[.pointer (some ⟨w.heap.size,0,none⟩)],.func (.func 249) #[] #[.pointer (some ⟨w.heap.size,0,none⟩)]] 260)=Y at *;have HQ2:=AA (HSR.out.on HBA.out);clear HQ;cases hq:Ie n 107 with
     |true=>
      have HC:=AA hq;have HQ:=AA (EG (HQ2.out.on (AD Y)) 4 hlt6 true hq);clear hq;go_region_held3 (fun w'=>w'.cell? ⟨w.heap.size,0,none⟩=some (.int .i64 n)/\w'.cell? ⟨3,n,none⟩=some (.string ⟨(Dh n).toArray⟩)/\w'.cell? ⟨wr.heap.size,0,none⟩=some (.string ⟨#[107]⟩)/\Below Y.heap.size Y w')
       (first|exact⟨e0,e1,d0,Below.refl _ _⟩|exact⟨e0,e1,d0,AD _⟩)
       (first|(go_at_call 225;refine(Cc (k:=n) (by omega) 107 _).mono ?_;rw[HC.out];rintro e w' ⟨rfl,rfl⟩))
      clear e0 e1 d0;go_wp2_with fail
      refine HQ.out.mono ?_;generalize hv:Fz ⟨n,reg,name,e,f,nn,body,els,pl⟩ 4=qv at *;rintro e' w2 ⟨rfl,hb2⟩;have HB2:=AA (AC HBR.out (AC HBA.out (AC (AD Y) hb2)));clear hb2;cases qv with
      |false=>
       have HN:Hid (V=false):=AA (by rw[HO.out,Eb (k:=4) (by omega) hv];rfl);clear hv;go_wp2_with fail
       go_ret;exact⟨AH HN.out.symm,AC HB.out HB2.out⟩
      |true=>
       have HN:Hid ((List.range 5).all (Fz ⟨n,reg,name,e,f,nn,body,els,pl⟩)=true):=AA (by rw[HR.out,HA.out];rfl);clear hv;go_wp2_with fail
       go_roundw;case rel=>exact⟨5,by omega,by go_num,HN.out,HB2.out⟩
       case measure=>simp[intOf]
     |false=>
      have HC:=AA hq;have HQ:=AA (EG (HQ2.out.on (AD Y)) 4 hlt6 false hq);clear hq;go_region_held3 (fun w'=>w'.cell? ⟨w.heap.size,0,none⟩=some (.int .i64 n)/\w'.cell? ⟨3,n,none⟩=some (.string ⟨(Dh n).toArray⟩)/\w'.cell? ⟨wr.heap.size,0,none⟩=some (.string ⟨#[107]⟩)/\Below Y.heap.size Y w')
       (first|exact⟨e0,e1,d0,Below.refl _ _⟩|exact⟨e0,e1,d0,AD _⟩)
       (first|(go_at_call 225;refine(Cc (k:=n) (by omega) 107 _).mono ?_;rw[HC.out];rintro e w' ⟨rfl,rfl⟩))
      clear e0 e1 d0;go_wp2_with fail
      refine HQ.out.mono ?_;generalize hv:Fz ⟨n,reg,name,e,f,nn,body,els,pl⟩ 4=qv at *;rintro e' w2 ⟨rfl,hb2⟩;have HB2:=AA (AC HBR.out (AC HBA.out (AC (AD Y) hb2)));clear hb2;cases qv with
      |false=>
       have HN:Hid (V=false):=AA (by rw[HO.out,Eb (k:=4) (by omega) hv];rfl);clear hv;go_wp2_with fail
       go_ret;exact⟨AH HN.out.symm,AC HB.out HB2.out⟩
      |true=>
       have HN:Hid ((List.range 5).all (Fz ⟨n,reg,name,e,f,nn,body,els,pl⟩)=true):=AA (by rw[HR.out,HA.out];rfl);clear hv;go_wp2_with fail
       go_roundw;case rel=>exact⟨5,by omega,by go_num,HN.out,HB2.out⟩
       case measure=>simp[intOf]
    ·have hix:=QEC w.heap.size;go_upto_region 7 with(fail)
     have HBA:=AA ((Below.refl wr.heap.size wr).alloc (Nat.le_refl _) (.cells #[.string ⟨#[98]⟩,.func (.func 250) #[] #[.pointer (some ⟨w.heap.size,0,none⟩)],.func (.func 251) #[] #[.pointer (some ⟨w.heap.size,0,none⟩)]] 260));have d0:(wr.alloc (.cells #[.string ⟨#[98]⟩,.func (.func 250) #[] #[.pointer (some ⟨w.heap.size,0,none⟩)],.func (.func 251) #[] #[.pointer (some ⟨w.heap.size,0,none⟩)]] 260)).cell? ⟨wr.heap.size,0,none⟩=some (.string ⟨#[98]⟩):=by simp
     have d1:(wr.alloc (.cells #[.string ⟨#[98]⟩,.func (.func 250) #[] #[.pointer (some ⟨w.heap.size,0,none⟩)],.func (.func 251) #[] #[.pointer (some ⟨w.heap.size,0,none⟩)]] 260)).cell? ⟨wr.heap.size,1,none⟩=some (.func (.func 250) #[] #[.pointer (some ⟨w.heap.size,0,none⟩)]):=by simp
     have e0:(wr.alloc (.cells #[.string ⟨#[98]⟩,.func (.func 250) #[] #[.pointer (some ⟨w.heap.size,0,none⟩)],.func (.func 251) #[] #[.pointer (some ⟨w.heap.size,0,none⟩)]] 260)).cell? ⟨w.heap.size,0,none⟩=some (.int .i64 n):=(HBA.out.cell (p:=⟨w.heap.size,0,none⟩) hlt).trans c0;have e1:(wr.alloc (.cells #[.string ⟨#[98]⟩,.func (.func 250) #[] #[.pointer (some ⟨w.heap.size,0,none⟩)],.func (.func 251) #[] #[.pointer (some ⟨w.heap.size,0,none⟩)]] 260)).cell? ⟨3,n,none⟩=some (.string ⟨(Dh n).toArray⟩):=(HBA.out.cell (p:=⟨3,n,none⟩) (by show 3<_;omega)).trans hcl;clear c0 hcl c7 hix
     generalize wr.alloc (.cells #[.string ⟨#[98]⟩,.func (.func 250) #[] #[.pointer (some ⟨w.heap.size,0,none⟩)],.func (.func 251) #[] #[.pointer (some ⟨w.heap.size,0,none⟩)]] 260)=Y at *;have HQ2:=AA (HSR.out.on HBA.out);clear HQ;cases hq:Ie n 98 with
     |true=>
      have HC:=AA hq;have HQ:=AA (EG (HQ2.out.on (AD Y)) 5 hlt6 true hq);clear hq;go_region_held3 (fun w'=>w'.cell? ⟨w.heap.size,0,none⟩=some (.int .i64 n)/\w'.cell? ⟨3,n,none⟩=some (.string ⟨(Dh n).toArray⟩)/\w'.cell? ⟨wr.heap.size,0,none⟩=some (.string ⟨#[98]⟩)/\Below Y.heap.size Y w')
       (first|exact⟨e0,e1,d0,Below.refl _ _⟩|exact⟨e0,e1,d0,AD _⟩)
       (first|(go_at_call 225;refine(Cc (k:=n) (by omega) 98 _).mono ?_;rw[HC.out];rintro e w' ⟨rfl,rfl⟩))
      clear e0 e1 d0;go_wp2_with fail
      refine HQ.out.mono ?_;generalize hv:Fz ⟨n,reg,name,e,f,nn,body,els,pl⟩ 5=qv at *;rintro e' w2 ⟨rfl,hb2⟩;have HB2:=AA (AC HBR.out (AC HBA.out (AC (AD Y) hb2)));clear hb2;cases qv with
      |false=>
       have HN:Hid (V=false):=AA (by rw[HO.out,Eb (k:=5) (by omega) hv];rfl);clear hv;go_wp2_with fail
       go_ret;exact⟨AH HN.out.symm,AC HB.out HB2.out⟩
      |true=>
       have HN:Hid ((List.range 6).all (Fz ⟨n,reg,name,e,f,nn,body,els,pl⟩)=true):=AA (by rw[HR.out,HA.out];rfl);clear hv;go_wp2_with fail
       go_roundw;case rel=>exact⟨6,by omega,by go_num,HN.out,HB2.out⟩
       case measure=>simp[intOf]
     |false=>
      have HC:=AA hq;have HQ:=AA (EG (HQ2.out.on (AD Y)) 5 hlt6 false hq);clear hq;go_region_held3 (fun w'=>w'.cell? ⟨w.heap.size,0,none⟩=some (.int .i64 n)/\w'.cell? ⟨3,n,none⟩=some (.string ⟨(Dh n).toArray⟩)/\w'.cell? ⟨wr.heap.size,0,none⟩=some (.string ⟨#[98]⟩)/\Below Y.heap.size Y w')
       (first|exact⟨e0,e1,d0,Below.refl _ _⟩|exact⟨e0,e1,d0,AD _⟩)
       (first|(go_at_call 225;refine(Cc (k:=n) (by omega) 98 _).mono ?_;rw[HC.out];rintro e w' ⟨rfl,rfl⟩))
      clear e0 e1 d0;go_wp2_with fail
      refine HQ.out.mono ?_;generalize hv:Fz ⟨n,reg,name,e,f,nn,body,els,pl⟩ 5=qv at *;rintro e' w2 ⟨rfl,hb2⟩;have HB2:=AA (AC HBR.out (AC HBA.out (AC (AD Y) hb2)));clear hb2;cases qv with
      |false=>
       have HN:Hid (V=false):=AA (by rw[HO.out,Eb (k:=5) (by omega) hv];rfl);clear hv;go_wp2_with fail
       go_ret;exact⟨AH HN.out.symm,AC HB.out HB2.out⟩
      |true=>
       have HN:Hid ((List.range 6).all (Fz ⟨n,reg,name,e,f,nn,body,els,pl⟩)=true):=AA (by rw[HR.out,HA.out];rfl);clear hv;go_wp2_with fail
       go_roundw;case rel=>exact⟨6,by omega,by go_num,HN.out,HB2.out⟩
       case measure=>simp[intOf]
   ·obtain rfl:k=6:=by omega
    have HV:Hid (V=(decide (els=0)||decide ((n:Int)=11))):=AA (by rw[HO.out,HA.out];rfl);by_cases he:els=0
    ·have he2:(els==0)=true:=by simp[he]
     have HN:Hid (V=true):=AA (by rw[HV.out,decide_eq_true he];rfl);clear he;go_wp2_with fail
     go_ret;exact⟨AH HN.out.symm,AC HB.out HBR.out⟩
    ·have he2:(els==0)=false:=by simp[he]
     have HN:Hid (V=((n:Int)==11)):=AA (by rw[HV.out,decide_eq_false he];exact Bool.eq_iff_iff.2 (by simp));clear he;go_wp2_with fail
     go_ret;exact⟨AH HN.out.symm,AC HB.out HBR.out⟩
 ·have HN:Hid (ownB ⟨kd,reg,name,e,f,nn,body,els,pl⟩=false):=AA (by
   unfold ownB;rw[Bool.not_eq_true]at hk;rw[hk];rfl)
  rw[HN.out];unfold Zg at hk;simp only[Bool.and_eq_true,decide_eq_true_eq]at hk;clear HS HT HN;by_cases k1:kd<=0
  ·clear hk;go_enter Tryz.func224,Tryz.ntmps224;go_wp2_with fail
   go_ret;exact⟨rfl,HB.out⟩
  ·by_cases k2:15<=kd
   ·clear hk;go_enter Tryz.func224,Tryz.ntmps224;go_wp2_with fail
    go_ret;exact⟨rfl,HB.out⟩
   ·by_cases k3:pl<0
    ·clear hk;go_enter Tryz.func224,Tryz.ntmps224;go_wp2_with fail
     go_ret;exact⟨rfl,HB.out⟩
    ·have k4:4000<pl:=by omega
     clear hk;go_enter Tryz.func224,Tryz.ntmps224;go_wp2_with fail
     go_ret;exact⟨rfl,HB.out⟩
end Go.Proofs.YthfkpalfopdmhaaGreatDoor
