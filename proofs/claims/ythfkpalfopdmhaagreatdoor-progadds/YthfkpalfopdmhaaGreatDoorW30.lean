/- Texts of the walk, packed. -/
import Derived.Test.YthfkpalfopdmhaaGreatDoorCards
import Derived.Test.YthfkpalfopdmhaaGreatDoorTie
import Derived.Test.YthfkpalfopdmhaaGreatDoorW07
import Derived.ProofKit
import Derived.OpenShut
import Derived.ShutString
import Derived.ChangeOld
import Derived.Below
import Derived.Deep.DeepHandedRow
import Derived.Deep.DeepWitnessRowRef
import Derived.Deep.DeepLaidRun
import Derived.Lib.LaidTab
import Derived.Stop.LaidErr
import Derived.Test.YthfkpalfopdmhaaGreatDoorW00
namespace Go.Proofs.YthfkpalfopdmhaaGreatDoor
open Go.ChangeShapes Go.WideShapes Go.ChangeAt Go.RowKit
theorem own:ownKnob Tryz.prog.godebug=none:=by kernel_rfl
theorem QHQ:Tryz.prog.globalNamed (Tryz.prog.globals[3]?.map (·.name)).get!=some 3:=by kernel_rfl
theorem QDe:(Tryz.prog.globals[3]?).map (·.type)=some 216:=by kernel_rfl
theorem QHH:Tryz.prog.globalNamed (Tryz.prog.globals[2]?.map (·.name)).get!=some 2:=by kernel_rfl
theorem QBB:(Tryz.prog.globals[2]?).map (·.type)=some 216:=by kernel_rfl
theorem QHI:Tryz.prog.globalNamed (Tryz.prog.globals[0]?.map (·.name)).get!=some 0:=by kernel_rfl
theorem QBC:(Tryz.prog.globals[0]?).map (·.type)=some 180:=by kernel_rfl
theorem QHJ:Tryz.prog.globalNamed (Tryz.prog.globals[1]?.map (·.name)).get!=some 1:=by kernel_rfl
theorem QBD:(Tryz.prog.globals[1]?).map (·.type)=some 189:=by kernel_rfl
theorem QFr:Tryz.prog.globalNamed (Tryz.prog.globals[7]?.map (·.name)).get!=some 7:=by kernel_rfl
theorem QBE:(Tryz.prog.globals[7]?).map (·.type)=some 278:=by kernel_rfl
theorem QDf:(Tryz.prog.globals[8]?).map (·.type)=some 281:=by kernel_rfl
theorem X7:(Tryz.prog.globals[4]?).map (·.type)=some 247:=by kernel_rfl
theorem WG:Tryz.prog.cellsOf 216=15:=by kernel_rfl
theorem QDg:Tryz.prog.cellsOf 180=16:=by kernel_rfl
theorem QDh:Tryz.prog.cellsOf 189=19:=by kernel_rfl
theorem QDi:Tryz.prog.cellsOf 278=16:=by kernel_rfl
theorem QDj:Tryz.prog.cellsOf 281=20:=by kernel_rfl
theorem QDk:Tryz.prog.cellsOf 247=256:=by kernel_rfl
theorem QDl:Tryz.prog.cellsOf 264=1:=by kernel_rfl
theorem cells9:Tryz.prog.cellsOf 9=1:=by kernel_rfl
theorem cells5:Tryz.prog.cellsOf 5=1:=by kernel_rfl
theorem cells3:Tryz.prog.cellsOf 3=1:=by kernel_rfl
def PZ {H:Type} (ss:List (List UInt8)):DataW H:=.agg (ss.map fun s=>.lit (.string s))
theorem one_cell {cs:List Value} {i:Nat} {v:Value} (h:(cs.drop (i*1)).take 1=[v]):cs[i]?=some v:=by
 rw[Nat.mul_one]at h;have h1:((cs.drop i).take 1)[0]?=some v:=by rw[h];rfl
 rw[List.getElem?_take,if_pos (by decide),List.getElem?_drop]at h1;exact h1
theorem QBF {H:Type} {enc:TypeId×Value->H} {P:Program} {w:World} {base:Nat} {sp:Nat->Bool} {held:Bool} {fuel:Nat} {t e:TypeId} {n:Nat} {cs:List Value} {ss:List (List UInt8)} {p:List MemPlace}
  (ht:P.underlying t=some (.array n e)) (he:P.underlying e=some .string) (hce:P.cellsOf e=1) (hct:P.cellsOf t=n)
  (h:DataW.trod enc P w base sp held fuel t cs=some (PZ ss,p)):cs=ss.map fun s=>Value.string ⟨s.toArray⟩:=by
 obtain⟨xs,m,_,hx,hcl,hxl,hat⟩:=DataW.trod_array ht h;have hd:ss.map (fun s=>(DataW.lit (.string s):DataW H))=xs.map (·.1):=by
  have h1:PZ ss=DataW.agg (xs.map (·.1)):=congrArg Prod.fst hx;unfold PZ at h1;injection h1
 have hsl:ss.length=n:=by rw[<-hxl,<-List.length_map (f:=fun s=>(DataW.lit (.string s):DataW H)),hd,List.length_map]
 refine List.ext_getElem? fun i=>?_
 rcases Nat.lt_or_ge i n with hi|hi
 ·have hxi:xs[i]?=some (xs[i]'(by omega)):=List.getElem?_eq_getElem (by omega)
  have h2:=hat i hi;rw[hce,hxi]at h2;obtain⟨z,hz,hy,_⟩:=DataW.trod_string he h2;have h3:(ss.map (fun s=>(DataW.lit (.string s):DataW H)))[i]?=some (DataW.lit (.string z.data.toList)):=by
   rw[hd,List.getElem?_map,hxi,hy];rfl
  have hsi:ss[i]?=some (ss[i]'(by omega)):=List.getElem?_eq_getElem (by omega)
  rw[List.getElem?_map,hsi]at h3;have h4:ss[i]'(by omega)=z.data.toList:=by
   injection h3 with h3;injection h3 with h3;injection h3
  rw[one_cell hz,List.getElem?_map,hsi,h4];cases z;simp
 ·rw[List.getElem?_eq_none (by omega),List.getElem?_eq_none (by rw[List.length_map];omega)]
theorem TJ {W:World} {name:String} {g:Nat} {cs:Array Value} (hg:Tryz.prog.globalNamed name=some g) (h:W.var? Tryz.prog name=some cs):∃t fr,W.heap[g]?=some (.cells cs t fr):=by
 unfold World.var? at h;rw[hg]at h;simp only[Option.bind_some]at h;split at h
 ·rename_i cs' t fr hh
  have e:cs'=cs:=Option.some.inj h;exact⟨t,fr,by rw[hh,e]⟩
 ·cases h
theorem Ls {W:World} {g:Nat} {t:TypeId} {n:Nat} {name:String} {ss:List (List UInt8)} {rest:List (String×DataW Unit)} (hg:Tryz.prog.globalNamed name=some g) (ht:(Tryz.prog.globals[g]?).map (·.type)=some t) (hu:Tryz.prog.underlying t=some (.array n 9)) (hc:Tryz.prog.cellsOf t=n) (h:laidMet Tryz.prog ((name,PZ ss)::rest) W):∃t fr,W.heap[g]?=some (.cells (ss.map fun s=>Value.string ⟨s.toArray⟩).toArray t fr):=by
 obtain⟨ps,⟨g',t',cs,fuel,p,q,hg',ht',hvar,hd,_,_⟩,_⟩:=h;obtain rfl:=Option.some.inj (hg.symm.trans hg');obtain rfl:=Option.some.inj (ht.symm.trans ht');have hcs:=QBF hu Tryz.underlying9 cells9 hc hd;obtain⟨t2,fr,hb⟩:=TJ hg hvar;exact⟨t2,fr,by rw[hb,show cs=(ss.map fun s=>Value.string ⟨s.toArray⟩).toArray from by rw[<-hcs]]⟩
set_option maxRecDepth 100000 in
theorem table {W:World} (h:laidMetH Tryz.prog Rows.progBackRow.laid W):Tabs W:=by
 have h2:=laidMet.tail (laidMet.tail (show laidMet Tryz.prog Rows.progBackRow.laid W from h));have h5:=laidMet.tail (laidMet.tail (laidMet.tail h2));have h6:=laidMet.tail h5;have h7:=laidMet.tail h6;have h8:=laidMet.tail h7;have h9:=laidMet.tail h8;have h10:=laidMet.tail h9;refine⟨?_,?_,?_,?_,?_,?_,?_⟩
 ·exact Ls (ss:=P9) (rest:=Rows.progBackRow.laid.drop 10) QHQ QDe Tryz.underlying216 WG h9
 ·exact Ls (ss:=QA) (rest:=Rows.progBackRow.laid.drop 11) QHH QBB Tryz.underlying216 WG h10
 ·exact Lib.tabIs_of_head (rest:=Rows.progBackRow.laid.drop 6) QBT X7 Tryz.underlying247 Tryz.underlying5 cells5 QDk h5
 ·exact Ls (ss:=Ib) (rest:=Rows.progBackRow.laid.drop 8) QHI QBC Tryz.underlying180 QDg h7
 ·have h8':laidMet Tryz.prog (((Tryz.prog.globals[7]?.map (·.name)).get!,Lib.tabData .i64 Po)::Rows.progBackRow.laid.drop 9) W:=h8;exact TJ QFr (Lib.tabIs_of_head QFr QBE Tryz.underlying278 Tryz.underlying3 cells3 QDi h8')
 ·exact Ls (ss:=Bg) (rest:=Rows.progBackRow.laid.drop 7) QHJ QBD Tryz.underlying189 QDh h6
 ·exact Lib.tabIs_of_head (rest:=Rows.progBackRow.laid.drop 3) QFw QDf Tryz.underlying281 Tryz.underlying264 QDl QDj h2
def X8:DataW Unit->List Value
 |.lit (.int k z)=>[.int k z]
 |.lit (.string s)=>[.string ⟨s.toArray⟩]
 |_=>[]
def TK:DataW Unit->List Value
 |.agg ps=>ps.flatMap X8
 |d=>X8 d
def QHK:DataW Unit->List Value
 |.agg ps=>ps.flatMap TK
 |d=>X8 d
def fill (c:Array Value) (o:Obj):Obj:=match o with
 |.cells _ t frozen=>.cells c t frozen
 |o=>o
def r16:Array Value:=(([9,13,1,32,133,101,160,5760,5600,8192,8202,1,8232,8233,1,8239,8287,48,12288,12288,1]:List Int).map fun z=>Value.int .u16 z).toArray
noncomputable def laidWorld (os:Os):World:=
 {World.holding Tryz.prog os ⟨#[],#[],[]⟩with heap:=(((((((((((((((World.holding Tryz.prog os ⟨#[],#[],[]⟩).heap.modify 0 (fill Kw)).modify 1 (fill Kx)).modify 2 (fill GE)).modify 3 (fill OC)).modify 4 (fill (TK Rows.laid_strings_asciiSpace).toArray)).modify 6 (fill #[.pointer (some ⟨19,0,none⟩)])).modify 7 (fill P8)).modify 8 (fill (TK Rows.laid_internal_strconv_uint64pow10).toArray)).modify 9 (fill (TK Rows.laid_unicode_utf8_first).toArray)).modify 10 (fill (QHK Rows.laid_unicode_utf8_acceptRanges).toArray)).modify 11 (fill (TK Rows.laid_math_bits_deBruijn32tab).toArray)).modify 12 (fill (TK Rows.laid_math_bits_deBruijn64tab).toArray)).push (.cells #[.slice (some ⟨20,0,none⟩) 7 7,.slice none 0 0,.int .i64 2] 288)).push (.cells r16 291))}
end Go.Proofs.YthfkpalfopdmhaaGreatDoor
