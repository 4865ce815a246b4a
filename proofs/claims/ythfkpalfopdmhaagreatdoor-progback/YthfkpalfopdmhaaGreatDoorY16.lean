/- Texts of the walk, packed. -/
import Derived.Test.YthfkpalfopdmhaaGreatDoorY05
import Derived.Test.YthfkpalfopdmhaaGreatDoorY02
import Derived.Test.YthfkpalfopdmhaaGreatDoorY03
import Derived.Lib.Builder
import Derived.Lib.OthersKept
import Derived.Lib.AppendStr
import Derived.Lib.AppendIntMem
import Derived.Lib.UnsafeStr
import Derived.WalkKit
import Derived.Laws.Externs
import Derived.Test.YthfkpalfopdmhaaGreatDoorY15
import Derived.Test.YthfkpalfopdmhaaGreatDoorY14
import Derived.Test.YthfkpalfopdmhaaGreatDoorY01
import Derived.Test.YthfkpalfopdmhaaGreatDoorY00
namespace Go.Proofs.YthfkpalfopdmhaaGreatDoor
open Go.RowKit
theorem QER:(Tryz.prog.info? 93).map (fun i=>i.size)=some 2:=by kernel_rfl
set_option maxHeartbeats 1000000 in
set_option maxRecDepth 100000 in
theorem WZ (b:Nat) (w:World) (h0:w.cell? ⟨b,0,none⟩=some (.pointer (some ⟨b,0,none⟩))):
  Calls Tryz.prog 114 #[.pointer (some ⟨b,0,none⟩)] w fun e w'=>e=.returned (.tuple #[])∧w'=w:=by
 obtain⟨j,hj,_⟩:=Option.map_eq_some_iff.1 QER
 go_enter Tryz.func114,Tryz.ntmps114
 go_wp2
 rw[Lib.run_neq_ptr_same w _ Tryz.underlying91 hj]
 go_wp2
 go_end0
 exact⟨rfl,rfl⟩
set_option maxHeartbeats 1000000 in
set_option maxRecDepth 100000 in
theorem Ux (b:Nat) (w:World) (h0:w.cell? ⟨b,0,none⟩=some (.pointer none)) (hsh:w.shape? b=some (93,2)) (hfz:w.frozen? ⟨b,0,none⟩=false):
  Calls Tryz.prog 114 #[.pointer (some ⟨b,0,none⟩)] w fun e w'=>e=.returned (.tuple #[])∧w'=w.setCell ⟨b,0,none⟩ (.pointer (some ⟨b,0,none⟩)):=by
 obtain⟨j,hj,hjs⟩:=Option.map_eq_some_iff.1 QER
 go_enter Tryz.func114,Tryz.ntmps114
 go_wp2
 rw[Lib.run_to_unsafe w ⟨b,0,none⟩ Tryz.underlying91 Tryz.underlying176 hj (by rw[hjs];decide) hsh (Nat.zero_lt_succ 1)]
 simp only[Result.andThen]
 rw[Oper.upon_value]
 go_wp2
 rw[run_callFunc_extern Tryz.func164 (by kernel_rfl) (by kernel_rfl) (by kernel_rfl) (e:=Extern.AbiNoEscape.same) (by kernel_rfl)]
 rw[Lib.run_noEscape]
 simp only[Result.andThen]
 rw[Oper.upon_value]
 go_wp2
 rw[Lib.run_from_unsafe w ⟨b,0,none⟩ Tryz.underlying176 Tryz.underlying91 hj hsh (by kernel_rfl)]
 simp only[Result.andThen]
 rw[Oper.upon_value]
 go_wp2
 go_end0
 exact⟨rfl,rfl⟩
theorem check_any (B b:Nat) (bs:List Value) (w:World) (h:Lib.IsBuilder 93 5 B b bs w):
  Calls Tryz.prog 114 #[.pointer (some ⟨b,0,none⟩)] w fun e w'=>e=.returned (.tuple #[])∧(Lib.BuilderAt 93 5 B b (.pointer (some ⟨b,0,none⟩)) bs w'∧Below B w w'∧Lib.OthersKept 5 (some b) w w'):=by
 rcases h with h|h
 ·refine(Ux b w h.cell0 h.shape h.frozen0).mono ?_
  rintro e w' ⟨rfl,rfl⟩
  exact⟨rfl,h.used _,(Below.refl B w).setCell (p:=⟨b,0,none⟩) h.1 _,(Lib.OthersKept.refl 5 (some b) w).setCell ⟨b,0,none⟩ rfl _⟩
 ·refine(WZ b w h.cell0).mono ?_
  rintro e w' ⟨rfl,rfl⟩
  exact⟨rfl,h,Below.refl B _,Lib.OthersKept.refl 5 (some b) _⟩
theorem QBD {w:World} {B:Nat} {e:TypeId} {v:Value} {n:Nat} {xs:List Value} (h:w.ownsRow B e 1 v n xs):∀g,v.ownBlock=some g→∃c fz,w.heap[g]?=some (.cells c e fz):=by
 intro g hg
 rcases h.2 with⟨rfl,_⟩|⟨g',cap,cur,rfl,_,hgg,_⟩
 ·simp[Value.ownBlock]at hg
 ·simp[Value.ownBlock]at hg
  subst hg
  exact⟨cur,(0,0),hgg⟩
theorem infoByte:(Tryz.prog.info? 5).map (fun i=>(i.zero,i.size,i.bytes))=some (some (.int .u8 0),1,1):=by kernel_rfl
set_option maxHeartbeats 2000000 in
set_option maxRecDepth 100000 in
theorem write_any (B b:Nat) (bs:List Value) (s:ByteArray) (w:World) (h:Lib.IsBuilder 93 5 B b bs w) (hlen:bs.length+s.size≤140737488355328) (hBw:B≤w.heap.size):
  Calls Tryz.prog 56 #[.pointer (some ⟨b,0,none⟩),.string s] w fun e w'=>e=.returned (.tuple #[.int .i64 s.size,.nilIface])∧(Lib.BuilderAt 93 5 B b (.pointer (some ⟨b,0,none⟩)) (bs++Lib.strCells s) w'∧Below B w w'∧Lib.OthersKept 5 (some b) w w'):=by
 obtain⟨i0,hi,hz0,hz1,hz2⟩:=info_parts infoByte
 go_enter Tryz.func56,Tryz.ntmps56
 go_wp2_with (go_at_call 114;refine(check_any B b bs _ h).mono ?_)
 rintro e w1 ⟨rfl,h1,hb1,ho1⟩
 obtain⟨hB,v,hbk,hown,hne⟩:=h1
 have c0:w1.cell? ⟨b,0,none⟩=some (.pointer (some ⟨b,0,none⟩)):=by rw[Lib.cell_of_heap hbk];rfl
 have c1:w1.cell? ⟨b,1,none⟩=some v:=by rw[Lib.cell_of_heap hbk];rfl
 go_wp2_with (at_builtin;refine Lib.wpList_append_own_string _ rfl _ _ 51 9 rfl B 5 i0 Tryz.underlying51 Tryz.underlying9 hi hz0 hz1 hz2 _ _ _ rfl hown s rfl ?c3 ?c4 ?c5 ?_)
 case c3=>unfold maxLen;omega
 case c4=>omega
 case c5=>have:=hb1.size;omega
 intro v' w2 hown' hgrow _
 have hlt:b<w1.heap.size:=by
  rcases Nat.lt_or_ge b w1.heap.size with h'|h'
  ·exact h'
  ·simp[Array.getElem?_eq_none h']at hbk
 have hb2:w2.heap[b]?=some (.cells #[.pointer (some ⟨b,0,none⟩),v] 93 (0,0)):=by
  rw[hgrow.block b hlt (fun e=>hne e.symm)]
  exact hbk
 have d0:w2.cell? ⟨b,0,none⟩=some (.pointer (some ⟨b,0,none⟩)):=by rw[Lib.cell_of_heap hb2];rfl
 have d1:w2.cell? ⟨b,1,none⟩=some v:=by rw[Lib.cell_of_heap hb2];rfl
 have f1:w2.frozen? ⟨b,1,none⟩=false:=Lib.frozen_of_heap hb2 1
 obtain⟨ao,n',cap,rfl⟩:∃ao n' cap,v'=.slice ao n' cap:=by
  rcases hown'.2 with⟨hv,_⟩|⟨g,cap,cur,hv,_⟩
  ·exact⟨_,_,_,hv⟩
  ·exact⟨_,_,_,hv⟩
 go_wp2
 go_ret2
 refine⟨rfl,?_,?_,?_⟩
 ·exact Lib.BuilderAt.put (T:=93) (e:=5) hB hb2 (bs':=bs++Lib.strCells s) (by simpa[Lib.strCells_length]using hown') (by decide)
 ·exact(hb1.grown hgrow (by have:=hb1.size;omega) (fun k hk=>(hown.lt k hk).1)).setCell (p:=⟨b,1,none⟩) hB _
 ·exact(ho1.grown hgrow (QBD hown)).setCell ⟨b,1,none⟩ rfl _
theorem Ly {B b:Nat} {bs:List Value} {w w':World} (h:Lib.IsBuilder 93 5 B b bs w) (hb:Below w.heap.size w w'):Lib.IsBuilder 93 5 B b bs w':=by
 have key:∀p,Lib.BuilderAt 93 5 B b p bs w→Lib.BuilderAt 93 5 B b p bs w':=by
  rintro p ⟨h1,v,h2,h3,h4⟩
  have hlt:b<w.heap.size:=(Array.getElem?_eq_some_iff.1 h2).1
  refine⟨h1,v,by rw[hb.block b hlt];exact h2,⟨h3.1,?_⟩,h4⟩
  rcases h3.2 with h|⟨g,cap,cur,q1,q2,q3,q4⟩
  ·exact .inl h
  ·exact .inr ⟨g,cap,cur,q1,q2,by rw[hb.block g (Array.getElem?_eq_some_iff.1 q3).1];exact q3,q4⟩
 rcases h with h|h
 ·exact .inl (key _ h)
 ·exact .inr (key _ h)
def TJ (B b n:Nat) (l:List UInt8) (w:World) (e:Ending) (w':World):Prop:=
 e=.returned (.tuple #[.int .i64 n,.nilIface])∧Lib.IsBuilder 93 5 B b (Lib.byteCells l) w'∧Below B w w'∧Lib.OthersKept 5 (some b) w w'
theorem EX (B b:Nat) (l s:List UInt8) (w:World) (h:Lib.IsBuilder 93 5 B b (Lib.byteCells l) w) (hlen:l.length+s.length≤1000000000) (hBw:B≤w.heap.size):
  Calls Tryz.prog 56 #[.pointer (some ⟨b,0,none⟩),.string ⟨s.toArray⟩] w (TJ B b s.length (l++s) w):=by
 refine(write_any B b (Lib.byteCells l) ⟨s.toArray⟩ w h ?_ hBw).mono ?_
 ·have:(⟨s.toArray⟩:ByteArray).size=s.length:=rfl
  rw[Lib.byteCells_length,this];omega
 ·rintro e w' ⟨rfl,h1,h2,h3⟩
  refine⟨rfl,.inr ?_,h2,h3⟩
  have e1:Lib.byteCells (l++s)=Lib.byteCells l++Lib.strCells ⟨s.toArray⟩:=by simp[Lib.byteCells,Lib.strCells_toArray]
  rw[e1];exact h1
end Go.Proofs.YthfkpalfopdmhaaGreatDoor
namespace Go.Proofs.YthfkpalfopdmhaaGreatDoor
open Go
def Bk.app:Bk→Bk→Bk
 |.nil,c=>c
 |.cons s b e r,c=>.cons s b e (r.app c)
structure Cel where
 name:List UInt8
 n:Int
 pl:Int
deriving DecidableEq
structure Thr where
 name:List UInt8
 regs:List (List UInt8)
 body:List Stm
 pl:Int
deriving DecidableEq
structure Clm where
 e:List Nod
 pl:Int
deriving DecidableEq
structure Prg where
 lines:List (List Cel)
 vols:List Cel
 locks:List Cel
 threads:List Thr
 recs:List Thr
 claims:List Clm
deriving DecidableEq
def noPg:Prg:=⟨[],[],[],[],[],[]⟩
def La (n:Int):Bool:=decide (0≤n)&&decide (n≤4000)
def most32:Int:=4294967296
def Aw (most:Int) (c:Cel):Bool:=nameB c.name&&decide (0≤c.n)&&decide (c.n≤most)&&La c.pl
def Bh (named:Bool) (t:Thr):Bool:=(if named then nameB t.name else t.name.isEmpty)&&La t.pl&&CJ t.body&&t.regs.all nameB
def Ef (c:Clm):Bool:=La c.pl&&BZ c.e
def EC (l:List Cel):Bool:=!l.isEmpty&&l.all (Aw most32)
def BP (p:Prg):Bool:=p.lines.all EC&&p.claims.all Ef&&p.vols.all (Aw most32)&&p.locks.all (Aw 0)&&p.threads.all (Bh true)&&p.recs.all (Bh false)&&decide (p.recs.length≤1)
def FX:List UInt8:=[108,105,110,101]
def Iz:List UInt8:=[118,111,108]
def Eo:List UInt8:=[108,111,99,107]
def DJ:List UInt8:=[116,104,114,101,97,100]
def BU:List UInt8:=[114,101,99,111,118,101,114]
def CH:List UInt8:=[97,108,119,97,121,115]
def Io:List UInt8:=[114,101,103]
def EY (c:Cel):List UInt8:=c.name++(if c.n=0 then[]else[32,61,32]++Lib.itoa c.n)
def Ja:List Cel→List UInt8
 |[]=>[]
 |[c]=>EY c
 |c::d::l=>EY c++([44,32]++Ja (d::l))
def rowT (w:List UInt8) (l:List Cel):List UInt8:=w++(32::(Ja l++[59,10]))
def namesT:List (List UInt8)→List UInt8
 |[]=>[]
 |[c]=>c
 |c::d::l=>c++([44,32]++namesT (d::l))
def Rb (l:List (List UInt8)):List UInt8:=if l.isEmpty then[]else[32,32]++(Io++(32::(namesT l++[59,10])))
def bodyT (l:List Stm):List UInt8:=match Dx l with
 |some b=>Bw [32,32] b
 |none=>[]
def Bf (head:List UInt8) (t:Thr):List UInt8:=head++([32,123,10]++(Rb t.regs++(bodyT t.body++[125,10])))
def threadT (t:Thr):List UInt8:=Bf (DJ++(32::t.name)) t
def claimT (c:Clm):List UInt8:=CH++(32::(Bi c.e++[59,10]))
def KI (w:List UInt8) (l:List Cel):List UInt8:=if l.isEmpty then[]else rowT w l
def Gu (p:Prg):List UInt8:=p.lines.flatMap (rowT FX)++(KI Iz p.vols++(KI Eo p.locks++(p.threads.flatMap threadT++(p.recs.flatMap (Bf BU)++p.claims.flatMap claimT))))
def Ek (p:Prg):List UInt8:=if BP p=true then Gu p else[]
def B8 (pl:Bool) (a b:Cel):Bool:=a.name==b.name&&a.n==b.n&&(!pl||a.pl==b.pl)
def B0 (pl:Bool) (a b:Thr):Bool:=a.name==b.name&&MV a.regs b.regs&&Jv pl a.body b.body&&(!pl||a.pl==b.pl)
def E7 (pl:Bool) (a b:Clm):Bool:=ET pl a.e b.e&&(!pl||a.pl==b.pl)
def Gv (pl:Bool) (p q:Prg):Bool:=Ad (Ad (B8 pl)) p.lines q.lines&&Ad (B8 pl) p.vols q.vols&&Ad (B8 pl) p.locks q.locks&&Ad (B0 pl) p.threads q.threads&&Ad (B0 pl) p.recs q.recs&&Ad (E7 pl) p.claims q.claims
def bareCel (c:Cel):Cel:={c with pl:=0}
def Br (t:Thr):Thr:={t with body:=t.body.map bareS,pl:=0}
def DR (c:Clm):Clm:=⟨c.e.map bareN,0⟩
def Cm (p:Prg):Prg:=⟨p.lines.map (·.map bareCel),p.vols.map bareCel,p.locks.map bareCel,p.threads.map Br,p.recs.map Br,p.claims.map DR⟩
def numAt (L:List Tok) (i:Nat):Option Int:=match L[i]? with
 |some t=>if t.kind=2 then some t.n else none
 |none=>none
def Fj (num:Bool) (L:List Tok) (i:Nat):RS Cel:=(BW L i).bind fun s j=>
 if num=true∧isB L j [61]=true then(match numAt L (j+1)with
  |some n=>.ok ⟨s,n,AT L i⟩ (j+2)
  |none=>badR L (j+1) 5)
 else .ok ⟨s,0,AT L i⟩ j
def Bc (num:Bool) (L:List Tok):Nat→Nat→Option (RS (List Cel))
 |0,_=>none
 |f+1,i=>RS.obind (some (Fj num L i)) fun c j=>
  if isB L j [44]=true then RS.obind (Bc num L f (j+1)) fun r k=>some (.ok (c::r) k)
  else RS.obind (some (Bg L j [59])) fun _ k=>some (.ok [c] k)
def Fo (L:List Tok) (f i opn:Nat):Option (RS (List Stm)):=RS.obind (Ci L f i 0 0) fun b j=>RS.obind (some (Bg L j [125])) fun _ k=>
 if 40<b.count then some (.bad 2 (AT L opn))else some (.ok b.flat k)
def GM (L:List Tok) (f i:Nat):Option (RS (List (List UInt8))):=if isB L i Io=true then RS.obind (Bc false L f (i+1)) fun l k=>some (.ok (l.map (·.name)) k)else some (.ok [] i)
def II (L:List Tok) (f i:Nat) (name:List UInt8) (pl:Int):Option (RS Thr):=RS.obind (some (Bg L i [123])) fun _ j=>RS.obind (GM L f j) fun rs k=>RS.obind (Fo L f k i) fun b m=>some (.ok ⟨name,rs,b,pl⟩ m)
def E8 (L:List Tok) (i:Nat) (pl:Int):RS Clm:=(exprP L i).bind fun e j=>(Bg L j [59]).bind fun _ k=>.ok ⟨e,pl⟩ k
def Bj {α:Type} (L:List Tok) (kw:List UInt8) (p:Nat→Option (RS α)):Nat→Nat→Option (RS (List α))
 |0,_=>none
 |f+1,i=>if isB L i kw=true then RS.obind (p i) fun a j=>RS.obind (Bj L kw p f j) fun r k=>some (.ok (a::r) k)else some (.ok [] i)
def N7 (L:List Tok) (f i:Nat):Option (RS (List (List Cel))):=Bj L FX (fun i=>Bc true L f (i+1)) f i
def Re (L:List Tok) (f i:Nat):Option (RS (List (List Cel))):=Bj L Iz (fun i=>Bc true L f (i+1)) f i
def N8 (L:List Tok) (f i:Nat):Option (RS (List (List Cel))):=Bj L Eo (fun i=>Bc false L f (i+1)) f i
def DT (L:List Tok) (f i:Nat):Option (RS Thr):=RS.obind (some (BW L (i+1))) fun s j=>II L f j s (AT L (i+1))
def Jb (L:List Tok) (f i:Nat):Option (RS (List Thr)):=Bj L DJ (DT L f) f i
def KL (L:List Tok) (f i:Nat):Option (RS (List Thr)):=if isB L i BU=true then RS.obind (II L f (i+1) [] (AT L i)) fun t j=>some (.ok [t] j)else some (.ok [] i)
def LN (L:List Tok) (f i:Nat):Option (RS (List Clm)):=Bj L CH (fun i=>some (E8 L (i+1) (AT L i))) f i
def L6 (L:List Tok) (i:Nat) (p:Prg):RS Prg:=if i<L.length then badR L i 5 else .ok p i
def GW (L:List Tok) (f:Nat):Option (RS Prg):=
 RS.obind (N7 L f 0) fun ls i1=>RS.obind (Re L f i1) fun vs i2=>RS.obind (N8 L f i2) fun ks i3=>RS.obind (Jb L f i3) fun ts i4=>RS.obind (KL L f i4) fun rs i5=>RS.obind (LN L f i5) fun cs i6=>
  some (L6 L i6 ⟨ls,vs.flatten,ks.flatten,ts,rs,cs⟩)
structure ParsedP where
 p:Prg
 err:Int
 pl:Int
def Rf:RS Prg→ParsedP
 |.ok p _=>⟨p,0,0⟩
 |.bad e pl=>⟨noPg,e,pl⟩
def Bm (s:List UInt8):ParsedP:=if 4000<s.length then⟨noPg,2,4000⟩
 else if(AS s 0).err=0 then Rf ((GW (AS s 0).toks ((AS s 0).toks.length+1)).getD (.bad 0 0))else⟨noPg,(AS s 0).err,(AS s 0).pl⟩
def DV (c:Cel):List Tok:=wd c.name::(if c.n=0 then[]else[sg 61,⟨2,Lib.itoa c.n,c.n,0⟩])
def Eg:List Cel→List Tok
 |[]=>[]
 |[c]=>DV c
 |c::d::l=>DV c++(sg 44::Eg (d::l))
def Ft (w:List UInt8) (l:List Cel):List Tok:=wd w::(Eg l++[sg 59])
def Jd (w:List UInt8) (l:List Cel):List Tok:=if l.isEmpty then[]else Ft w l
def Rh (l:List (List UInt8)):List Tok:=Eg (l.map fun s=>⟨s,0,0⟩)
def NI (l:List (List UInt8)):List Tok:=if l.isEmpty then[]else wd Io::(Rh l++[sg 59])
def FA (l:List Stm):List Tok:=match Dx l with
 |some b=>Dn b
 |none=>[]
def Je (t:Thr):List Tok:=sg 123::(NI t.regs++(FA t.body++[sg 125]))
def FC (t:Thr):List Tok:=wd DJ::(wd t.name::Je t)
def I7 (t:Thr):List Tok:=wd BU::Je t
def Dt (c:Clm):List Tok:=wd CH::(Hl c.e++[sg 59])
def QH (p:Prg):List Tok:=p.lines.flatMap (Ft FX)++(Jd Iz p.vols++(Jd Eo p.locks++(p.threads.flatMap FC++(p.recs.flatMap I7++p.claims.flatMap Dt))))
theorem LO {most:Int} {c:Cel} (h:Aw most c=true):nameB c.name=true∧0≤c.n∧c.n≤most∧0≤c.pl∧c.pl≤4000:=by
 unfold Aw La at h
 simp only[Bool.and_eq_true,decide_eq_true_eq]at h
 exact⟨h.1.1.1,h.1.1.2,h.1.2,h.2.1,h.2.2⟩
theorem KA {c:Cel} (h:Aw 0 c=true):Aw most32 c=true:=by
 unfold Aw at *
 simp only[Bool.and_eq_true,decide_eq_true_eq]at *
 exact⟨⟨h.1.1,by unfold most32;omega⟩,h.2⟩
theorem QBP {c:Cel} (h:Aw most32 c=true):Sc (EY c) (DV c):=by
 obtain⟨h1,h2,h3,_⟩:=LO h
 unfold EY DV
 split
 ·rw[List.append_nil];exact G8 h1
 ·exact(G8 h1).appS (QA.appS (QBI h2 h3)) (Ku _)
theorem Xl:∀l:List Cel,l.all (Aw most32)=true→Sc (Ja l) (Eg l)
 |[],_=>N6.sc
 |[c],h=>by
  simp only[List.all_cons,List.all_nil,Bool.and_true]at h
  exact QBP h
 |c::d::l,h=>by
  rw[List.all_cons,Bool.and_eq_true]at h
  exact(QBP h.1).appS (QB.appS (Xl (d::l) h.2)) (QEt _)
theorem Xm:Jp [59,10] [sg 59]:=LL ((I6 (c:=59) (by simp)).app (EP (p:=[10]) (by decide))) rfl
theorem Wg {w:List UInt8} (hw:MK w=true) {l:List Cel} (h:l.all (Aw most32)=true):Jp (rowT w l) (Ft w l):=by
 have h1:=(Xl l h).app Xm (QEu _)
 have h2:=(EP (p:=[32]) (by decide)).app h1
 exact(J8 hw).app h2 (Ku _)
theorem NJ {α:Type} {f:α→List UInt8} {g:α→List Tok}:∀l:List α,(∀a∈l,Jp (f a) (g a))→Jp (l.flatMap f) (l.flatMap g)
 |[],_=>N6
 |a::l,h=>by
  rw[List.flatMap_cons,List.flatMap_cons]
  exact(h a (by simp)).app (NJ l fun b hb=>h b (by simp[hb]))
theorem Xn {w:List UInt8} (hw:MK w=true) {l:List Cel} (h:l.all (Aw most32)=true):Jp (KI w l) (Jd w l):=by
 unfold KI Jd
 split
 ·exact N6
 ·exact Wg hw h
theorem QI:∀l:List (List UInt8),namesT l=Ja (l.map fun s=>⟨s,0,0⟩)
 |[]=>rfl
 |[c]=>by simp[namesT,Ja,EY]
 |c::d::l=>by
  have:=QI (d::l)
  simp only[List.map_cons]at this⊢
  unfold namesT Ja
  rw[this]
  simp[EY]
theorem U5 {l:List (List UInt8)} (h:l.all nameB=true):(l.map fun s=>(⟨s,0,0⟩:Cel)).all (Aw 0)=true:=by
 rw[List.all_map,List.all_eq_true]at *
 intro s hs
 have:=h s hs
 simp[Aw,La,this]
theorem QDV {l:List (List UInt8)} (h:l.all nameB=true):Jp (Rb l) (NI l):=by
 unfold Rb NI Rh
 split
 ·exact N6
 ·have h0:(l.map fun s=>(⟨s,0,0⟩:Cel)).all (Aw most32)=true:=by
   have:=U5 h
   rw[List.all_eq_true]at *
   exact fun c hc=>KA (this c hc)
  rw[QI]
  exact(EP (p:=[32,32]) (by decide)).app (Wg (w:=Io) (by decide) h0)
theorem IW {named:Bool} {t:Thr} (h:Bh named t=true):(if named then nameB t.name else t.name.isEmpty)=true∧0≤t.pl∧t.pl≤4000∧CJ t.body=true∧t.regs.all nameB=true:=by
 unfold Bh La at h
 simp only[Bool.and_eq_true,decide_eq_true_eq]at h
 exact⟨h.1.1.1,h.1.1.2.1,h.1.1.2.2,h.1.2,h.2⟩
theorem QDW {l:List Stm} (h:CJ l=true):Jp (bodyT l) (FA l):=by
 obtain⟨b,rfl,g1,g2,g3,g4,g5⟩:=DX h
 unfold bodyT FA
 rw[g5]
 exact QBJ b [32,32] g1 (by decide)
theorem QBQ {head:List UInt8} {T:List Tok} {named:Bool} {t:Thr} (hh:Sc head T) (h:Bh named t=true):Jp (Bf head t) (T++Je t):=by
 obtain⟨_,_,_,h4,h5⟩:=IW h
 have nl:Jp [10] []:=EP (by decide)
 have ob:Jp [32,123,10] [sg 123]:=((EP (p:=[32]) (by decide)).app (I6 (c:=123) (by simp))).app nl
 have cb:Jp [125,10] [sg 125]:=(I6 (c:=125) (by simp)).app nl
 exact hh.app (ob.app ((QDV h5).app ((QDW h4).app cb))) (Ku _)
theorem ZO {t:Thr} (h:Bh true t=true):Jp (threadT t) (FC t):=by
 have h1:=(IW h).1
 exact QBQ (T:=[wd DJ,wd t.name]) ((J8 (l:=DJ) (by decide)).appS (QC (G8 h1)) (Ku _)) h
theorem QEv {t:Thr} (h:Bh false t=true):Jp (Bf BU t) (I7 t):=QBQ (T:=[wd BU]) (J8 (l:=BU) (by decide)) h
theorem QBR {c:Clm} (h:Ef c=true):Jp (claimT c) (Dt c):=by
 unfold Ef at h
 rw[Bool.and_eq_true]at h
 have h1:=(LK h.2).app Xm (QEu _)
 have h2:=(EP (p:=[32]) (by decide)).app h1
 exact(J8 (l:=CH) (by decide)).app h2 (Ku _)
theorem Kw {p:Prg} (h:BP p=true):p.lines.all EC=true∧p.claims.all Ef=true∧p.vols.all (Aw most32)=true∧p.locks.all (Aw 0)=true∧p.threads.all (Bh true)=true∧p.recs.all (Bh false)=true∧p.recs.length≤1:=by
 unfold BP at h
 simp only[Bool.and_eq_true,decide_eq_true_eq]at h
 exact⟨h.1.1.1.1.1.1,h.1.1.1.1.1.2,h.1.1.1.1.2,h.1.1.1.2,h.1.1.2,h.1.2,h.2⟩
theorem QDX {p:Prg} (h:BP p=true):Jp (Gu p) (QH p):=by
 obtain⟨h1,h2,h3,h4,h5,h6,_⟩:=Kw h
 rw[List.all_eq_true]at h1 h2 h5 h6
 have h4':p.locks.all (Aw most32)=true:=by
  rw[List.all_eq_true]at *
  exact fun c hc=>KA (h4 c hc)
 refine(NJ _ fun l hl=>?_).app ((Xn (by decide) h3).app ((Xn (by decide) h4').app ((NJ _ fun t ht=>ZO (h5 t ht)).app ((NJ _ fun t ht=>QEv (h6 t ht)).app (NJ _ fun c hc=>QBR (h2 c hc))))))
 have:=h1 l hl
 unfold EC at this
 rw[Bool.and_eq_true]at this
 exact Wg (by decide) this.2
theorem ZP {p:Prg} (h:BP p=true):∃T,T.map Tok.bare=QH p∧AS (Ek p) 0=.fine T:=by
 obtain⟨T,h1,h2⟩:=QDX h [] 0
 refine⟨T,h1,?_⟩
 unfold Ek
 rw[if_pos h]
 rw[List.append_nil,JJ,Ox,List.append_nil]at h2
 exact h2
theorem Aj.le {L:List Tok} {i:Nat} {t:Tok} {T:List Tok} (h:Aj L i (t::T)):i<L.length:=by
 obtain⟨t',h1,_⟩:=h.head
 exact(List.getElem?_eq_some_iff.1 h1).1
def Fv (ks:List (List UInt8)) (R:List Tok):Prop:=R=[]∨∃k∈ks,∃T,R=wd k::T
theorem Jf {ks:List (List UInt8)} {R:List Tok} (h:Fv ks R) {kw:List UInt8} (hk:kw∉ks) {L:List Tok} {i:Nat} (hF:Aj L i R):isB L i kw=false:=by
 rcases h with rfl|⟨k,hks,T,rfl⟩
 ·exact Xb hF _
 ·rw[Bo hF]
  show(((1:Int)==1||(1:Int)==3)&&(k==kw))=false
  have:(k==kw)=false:=beq_eq_false_iff_ne.2 (fun e=>hk (e▸hks))
  rw[this];rfl
theorem Xo {L:List Tok} {i:Nat} {k:List UInt8} {R:List Tok} (hF:Aj L i (wd k::R)):isB L i k=true:=by
 rw[Bo hF]
 show(((1:Int)==1||(1:Int)==3)&&(k==k))=true
 simp
theorem LP {ks:List (List UInt8)} {S R:List Tok} (h1:Fv ks S) (h2:Fv ks R):Fv ks (S++R):=by
 rcases h1 with rfl|⟨k,hk,T,rfl⟩
 ·exact h2
 ·exact .inr ⟨k,hk,T++R,rfl⟩
theorem Ir {α:Type} {ks:List (List UInt8)} {g:α→List Tok} {k:List UInt8} (hk:k∈ks) (hg:∀a,∃T,g a=wd k::T) (l:List α):Fv ks (l.flatMap g):=by
 cases l with
 |nil=>exact .inl rfl
 |cons a l=>
  obtain⟨T,h⟩:=hg a
  exact .inr ⟨k,hk,T++l.flatMap g,by rw[List.flatMap_cons,h];rfl⟩
theorem U6 {num:Bool} {c:Cel} (hc:Aw most32 c=true) (hn:num=true∨c.n=0) {L:List Tok} {i:Nat} {x:UInt8} {R:List Tok} (hx:x=44∨x=59) (hF:Aj L i (DV c++sg x::R)):
  ∃c',Fj num L i=.ok c' (i+(DV c).length)∧bareCel c'=bareCel c∧Aj L (i+(DV c).length) (sg x::R):=by
 obtain⟨h1,_⟩:=LO hc
 have hend:=hF.app
 by_cases h0:c.n=0
 ·have ht:DV c=[wd c.name]:=by unfold DV;rw[if_pos h0]
  rw[ht]at hF hend⊢
  obtain⟨e1,hF1⟩:=G9 h1 hF
  refine⟨⟨c.name,0,AT L i⟩,?_,by unfold bareCel;simp[h0],hend⟩
  unfold Fj
  rw[e1,RS.bind_ok]
  have hq:isB L ((i+1:Nat):Int) [61]=false:=by
   rw[Bo hF1]
   rcases hx with rfl|rfl<;>rfl
  rw[if_neg (by rw[hq];simp)]
  rfl
 ·have ht:DV c=[wd c.name,sg 61,⟨2,Lib.itoa c.n,c.n,0⟩]:=by unfold DV;rw[if_neg h0]
  have hnum:num=true:=by rcases hn with h|h;exact h;exact absurd h h0
  rw[ht]at hF hend⊢
  obtain⟨e1,hF1⟩:=G9 h1 hF
  have hq:isB L ((i+1:Nat):Int) [61]=true:=by rw[Bo hF1];rfl
  obtain⟨_,_,_,hF2⟩:=Aj.head hF1
  obtain⟨t',g1,g2,_⟩:=Aj.head hF2
  have hna:numAt L (i+1+1)=some c.n:=by
   unfold numAt
   rw[g1]
   have hk:t'.kind=2:=congrArg Tok.kind g2
   have hv:t'.n=c.n:=congrArg Tok.n g2
   simp[hk,hv]
  refine⟨⟨c.name,c.n,AT L i⟩,?_,by unfold bareCel;rfl,hend⟩
  unfold Fj
  rw[e1,RS.bind_ok,if_pos ⟨hnum,hq⟩,hna]
  rfl
theorem Ri {num:Bool}:∀(l:List Cel),l≠[]→l.all (Aw most32)=true→(num=true∨∀c∈l,c.n=0)→∀(L:List Tok) (i f:Nat) (R:List Tok),Aj L i (Eg l++sg 59::R)→L.length+1≤f+i→
  ∃l',Bc num L f i=some (.ok l' (i+(Eg l).length+1))∧l'.map bareCel=l.map bareCel∧Aj L (i+(Eg l).length+1) R
 |[],h,_,_,_,_,_,_,_,_=>absurd rfl h
 |[c],_,hc,hn,L,i,f,R,hF,hf=>by
  simp only[List.all_cons,List.all_nil,Bool.and_true]at hc
  unfold Eg at hF⊢
  obtain⟨c',e1,e2,hF1⟩:=U6 (num:=num) hc (hn.imp id fun h=>h c (by simp)) (.inr rfl) hF
  obtain⟨e3,hF2⟩:=FS hF1
  have hlt:=hF1.le
  cases f with
  |zero=>omega
  |succ f=>
   refine⟨[c'],?_,by simp[e2],hF2⟩
   unfold Bc
   rw[e1,RS.obind_ok]
   have hq:isB L ((i+(DV c).length:Nat):Int) [44]=false:=by rw[Bo hF1];rfl
   rw[if_neg (by rw[hq];simp),e3,RS.obind_ok]
 |c::d::l,_,hc,hn,L,i,f,R,hF,hf=>by
  rw[List.all_cons,Bool.and_eq_true]at hc
  have ht:Eg (c::d::l)=DV c++(sg 44::Eg (d::l)):=rfl
  rw[ht]at hF⊢
  rw[List.append_assoc,List.cons_append]at hF
  obtain⟨c',e1,e2,hF1⟩:=U6 (num:=num) hc.1 (hn.imp id fun h=>h c (by simp)) (.inl rfl) hF
  have hlt:=hF1.le
  obtain⟨_,_,_,hF2⟩:=Aj.head hF1
  cases f with
  |zero=>omega
  |succ f=>
   have hcl:0<(DV c).length:=by unfold DV;simp
   obtain⟨l',r1,r2,r3⟩:=Ri (d::l) (by simp) hc.2 (hn.imp id fun h=>fun x hx=>h x (by simp[hx])) L (i+(DV c).length+1) f R hF2 (by omega)
   have hj:i+(DV c).length+1+(Eg (d::l)).length+1=i+(DV c++(sg 44::Eg (d::l))).length+1:=by simp only[List.length_append,List.length_cons];omega
   rw[hj]at r1 r3
   refine⟨c'::l',?_,by rw[List.map_cons,List.map_cons,e2,r2],r3⟩
   unfold Bc
   rw[e1,RS.obind_ok]
   have hq:isB L ((i+(DV c).length:Nat):Int) [44]=true:=by rw[Bo hF1];rfl
   rw[if_pos hq,r1,RS.obind_ok]
theorem LQ {num:Bool} {w:List UInt8} {l:List Cel} (hl:l≠[]) (hc:l.all (Aw most32)=true) (hn:num=true∨∀c∈l,c.n=0) {L:List Tok} {i f:Nat} {R:List Tok} (hF:Aj L i (Ft w l++R)) (hf:L.length+1≤f+i):
  isB L i w=true∧∃l' j,Bc num L f (i+1)=some (.ok l' j)∧l'.map bareCel=l.map bareCel∧Aj L j R∧i<j∧j≤L.length:=by
 unfold Ft at hF
 rw[List.cons_append,List.append_assoc]at hF
 have hk:=Xo hF
 obtain⟨_,_,_,hF1⟩:=Aj.head hF
 obtain⟨l',r1,r2,r3⟩:=Ri (num:=num) l hl hc hn L (i+1) f R hF1 (by omega)
 have hlt:=(Aj.app hF1).le
 exact⟨hk,l',_,r1,r2,r3,by omega,by omega⟩
theorem Gx {α β:Type} {kw:List UInt8} {p:Nat→Option (RS α)} {g:α→β} {toks:α→List Tok} {L:List Tok}:∀(l:List α),(∀a∈l,∀i R,Aj L i (toks a++R)→i≤L.length→isB L i kw=true∧∃a' j,p i=some (.ok a' j)∧g a'=g a∧Aj L j R∧i<j∧j≤L.length)→
  ∀(i f:Nat) (R:List Tok),Aj L i (l.flatMap toks++R)→(∀j,Aj L j R→isB L j kw=false)→L.length+1≤f+i→i≤L.length→∃l' j,Bj L kw p f i=some (.ok l' j)∧l'.map g=l.map g∧Aj L j R∧i≤j∧j≤L.length
 |[],_,i,f,R,hF,hR,hf,hi=>by
  cases f with
  |zero=>omega
  |succ f=>
   refine⟨[],i,?_,rfl,hF,Nat.le_refl _,hi⟩
   unfold Bj
   rw[if_neg (by rw[hR i hF];simp)]
 |a::l,h,i,f,R,hF,hR,hf,hi=>by
  rw[List.flatMap_cons,List.append_assoc]at hF
  obtain⟨hk,a',j,h1,h2,h3,h4,h5⟩:=h a (by simp) i _ hF hi
  cases f with
  |zero=>omega
  |succ f=>
   obtain⟨l',k,r1,r2,r3,r4,r5⟩:=Gx l (fun b hb=>h b (by simp[hb])) j f R h3 hR (by omega) h5
   refine⟨a'::l',k,?_,by rw[List.map_cons,List.map_cons,h2,r2],r3,by omega,r5⟩
   unfold Bj
   rw[if_pos hk,h1,RS.obind_ok,r1,RS.obind_ok]
theorem QEw:∀k:Fin 15,2≤k.1→(CO.getD k.1 []==Io)=false:=by decide
theorem QBS {s:List UInt8} (h:nameB s=true):(s==Io)=false:=by
 cases hq:s==Io with
 |false=>rfl
 |true=>rw[eq_of_beq hq]at h;revert h;decide
theorem U7 {x:Stm} (h:Dy x=true):∃u T,Hn x=wd u::T∧(u==Io)=false:=by
 obtain⟨k,hk,h1,h2⟩:=Hj h
 obtain⟨_,_,_,hr,_⟩:=J2 hk h
 have kwr:∀k:Nat,2≤k→k≤14→(Jo (k:Nat)==Io)=false:=fun k h1 h2=>by
  have:=QEw ⟨k,by omega⟩ h1
  simpa[Jo]using this
 unfold Hn
 rw[hk]
 have hkk:k=1∨k=2∨k=3∨k=4∨(k=11∨k=14)∨k=12∨(k=7∨k=8∨k=13)∨(k=5∨k=6∨k=9∨k=10):=by omega
 rcases hkk with rfl|rfl|rfl|rfl|h|rfl|h|h
 ·exact⟨_,_,rfl,QBS hr⟩
 ·exact⟨_,_,rfl,kwr 2 (by omega) (by omega)⟩
 ·exact⟨_,_,rfl,kwr 3 (by omega) (by omega)⟩
 ·exact⟨_,_,rfl,kwr 4 (by omega) (by omega)⟩
 ·rw[if_neg (by omega),if_neg (by omega),if_neg (by omega),if_neg (by omega),if_pos (by omega)]
  exact⟨_,_,rfl,kwr k (by omega) h2⟩
 ·exact⟨_,_,rfl,kwr 12 (by omega) (by omega)⟩
 ·rw[if_neg (by omega),if_neg (by omega),if_neg (by omega),if_neg (by omega),if_neg (by omega),if_neg (by omega),if_pos (by omega)]
  exact⟨_,_,rfl,kwr k (by omega) h2⟩
 ·rw[if_neg (by omega),if_neg (by omega),if_neg (by omega),if_neg (by omega),if_neg (by omega),if_neg (by omega),if_neg (by omega)]
  exact⟨_,_,rfl,kwr k (by omega) h2⟩
theorem ZQ {l:List Stm} (h:CJ l=true) {L:List Tok} {i f opn:Nat} {R:List Tok} (hF:Aj L i (FA l++sg 125::R)) (hi:i≤L.length) (hf:L.length+1≤f+i):
  ∃l',Fo L f i opn=some (.ok l' (i+(FA l).length+1))∧l'.map bareS=l.map bareS∧Aj L (i+(FA l).length+1) R∧i+(FA l).length+1≤L.length:=by
 obtain⟨b,rfl,g1,g2,g3,g4,g5⟩:=DX h
 unfold FA at hF⊢
 rw[g5]at hF⊢
 simp only at hF⊢
 obtain⟨b',f',q,r⟩:=QBN b L i 0 0 R g1 g3 (by omega) hF
 obtain⟨rt,ht⟩:=Nr L f i 0 0 hi (by omega)
 have e:rt=.ok b' (i+(Dn b).length):=by
  have h1:=Ij L (Nat.le_max_left f f') _ _ _ _ ht
  have h2:=Ij L (Nat.le_max_right f f') _ _ _ _ r
  rw[h1]at h2
  exact Option.some.inj h2
 subst e
 have hend:=Aj.app hF
 obtain⟨e3,hF3⟩:=FS hend
 have hlt:=hend.le
 refine⟨b'.flat,?_,by rw[←Im,←Im,q],hF3,by omega⟩
 unfold Fo
 rw[ht,RS.obind_ok,e3,RS.obind_ok,if_neg (by rw[L2 q];omega)]
theorem ZR (l:List (List UInt8)) (m:List Cel) (h:m.map bareCel=(l.map fun s=>(⟨s,0,0⟩:Cel)).map bareCel):m.map (·.name)=l:=by
 have h1:=congrArg (List.map Cel.name) h
 simpa[List.map_map,Function.comp_def,bareCel]using h1
theorem U8 {named:Bool} {t:Thr} (h:Bh named t=true) {L:List Tok} {i f:Nat} {R:List Tok} (hF:Aj L i (Je t++R)) (hf:L.length+1≤f+i) (name:List UInt8) (pl:Int) (hn:name=t.name):
  ∃t' j,II L f i name pl=some (.ok t' j)∧Br t'=Br t∧Aj L j R∧i<j∧j≤L.length:=by
 obtain⟨_,_,_,h4,h5⟩:=IW h
 unfold Je at hF
 rw[List.cons_append,List.append_assoc,List.append_assoc]at hF
 obtain⟨e1,hF1⟩:=FS hF
 have hlt:=hF.le
 have hregs:∃k,GM L f (i+1)=some (.ok t.regs k)∧Aj L k (FA t.body++([sg 125]++R))∧i+1≤k∧k≤L.length:=by
  unfold NI at hF1
  by_cases he:t.regs.isEmpty=true
  ·rw[if_pos he,List.nil_append]at hF1
   have hq:isB L ((i+1:Nat):Int) Io=false:=by
    obtain⟨b,hb,g1,g2,g3,g4,g5⟩:=DX h4
    unfold FA at hF1
    rw[g5]at hF1
    simp only at hF1
    cases b with
    |nil=>rw[Bo (t:=sg 125) hF1];rfl
    |cons s b1 e1 r1=>
     obtain⟨_,_,_,_,g6,_⟩:=Gs.1 g1
     obtain⟨u,T,w1,w2⟩:=U7 g6
     unfold Dn at hF1
     rw[w1]at hF1
     simp only[List.cons_append]at hF1
     rw[Bo hF1]
     show(((1:Int)==1||(1:Int)==3)&&(u==Io))=false
     rw[w2];rfl
   refine⟨i+1,?_,hF1,Nat.le_refl _,by omega⟩
   unfold GM
   rw[if_neg (by rw[hq];simp),List.isEmpty_iff.1 he]
  ·rw[if_neg he]at hF1
   have hne:(t.regs.map fun s=>(⟨s,0,0⟩:Cel))≠[]:=by
    intro e
    apply he
    rw[List.isEmpty_iff]
    simpa using e
   have h0:(t.regs.map fun s=>(⟨s,0,0⟩:Cel)).all (Aw most32)=true:=by
    have:=U5 h5
    rw[List.all_eq_true]at *
    exact fun c hc=>KA (this c hc)
   obtain⟨hk,l',j,r1,r2,r3,r4,r5⟩:=LQ (num:=false) (w:=Io) hne h0 (.inr (by simp)) (i:=i+1) (f:=f) (R:=FA t.body++([sg 125]++R)) hF1 (by omega)
   refine⟨j,?_,r3,by omega,r5⟩
   unfold GM
   rw[if_pos hk,r1,RS.obind_ok,ZR _ _ r2]
 obtain⟨k,r1,r2,r3,r4⟩:=hregs
 obtain⟨l',s1,s2,s3,s4⟩:=ZQ h4 (opn:=i) (f:=f) r2 r4 (by omega)
 refine⟨⟨name,t.regs,l',pl⟩,_,?_,?_,s3,by omega,s4⟩
 ·unfold II
  rw[e1,RS.obind_ok,r1,RS.obind_ok,s1,RS.obind_ok]
 ·unfold Br
  rw[hn]
  simp[s2]
theorem U9 {t:Thr} (h:Bh true t=true) {L:List Tok} {i f:Nat} {R:List Tok} (hF:Aj L i (FC t++R)) (hf:L.length+1≤f+i):
  isB L i DJ=true∧∃t' j,DT L f i=some (.ok t' j)∧Br t'=Br t∧Aj L j R∧i<j∧j≤L.length:=by
 unfold FC at hF
 rw[List.cons_append,List.cons_append]at hF
 have hk:=Xo hF
 obtain⟨_,_,_,hF1⟩:=Aj.head hF
 obtain⟨e1,hF2⟩:=G9 (IW h).1 hF1
 obtain⟨t',j,r1,r2,r3,r4,r5⟩:=U8 h hF2 (f:=f) (by omega) t.name (AT L ((i+1:Nat):Int)) rfl
 refine⟨hk,t',j,?_,r2,r3,by omega,r5⟩
 unfold DT
 rw[e1,RS.obind_ok]
 exact r1
theorem QBT {t:Thr} (h:Bh false t=true) {L:List Tok} {i f:Nat} {R:List Tok} (hF:Aj L i (I7 t++R)) (hf:L.length+1≤f+i):
  ∃t' j,KL L f i=some (.ok [t'] j)∧Br t'=Br t∧Aj L j R∧i<j∧j≤L.length:=by
 unfold I7 at hF
 rw[List.cons_append]at hF
 have hk:=Xo hF
 obtain⟨_,_,_,hF1⟩:=Aj.head hF
 have hn:t.name=[]:=List.isEmpty_iff.1 (IW h).1
 obtain⟨t',j,r1,r2,r3,r4,r5⟩:=U8 h hF1 (f:=f) (by omega) [] (AT L i) hn.symm
 refine⟨t',j,?_,r2,r3,by omega,r5⟩
 unfold KL
 rw[if_pos hk,r1,RS.obind_ok]
theorem Wh {c:Clm} (h:Ef c=true) {L:List Tok} {i:Nat} {R:List Tok} (hF:Aj L i (Dt c++R)):
  isB L i CH=true∧∃c' j,some (E8 L (i+1) (AT L i))=some (.ok c' j)∧DR c'=DR c∧Aj L j R∧i<j∧j≤L.length:=by
 unfold Ef at h
 rw[Bool.and_eq_true]at h
 unfold Dt at hF
 rw[List.cons_append,List.append_assoc]at hF
 have hk:=Xo hF
 obtain⟨_,_,_,hF1⟩:=Aj.head hF
 obtain⟨l',e2,e1⟩:=LM h.2 (.inl rfl) hF1
 have e3:=Aj.app hF1
 obtain⟨e4,hF3⟩:=FS e3
 have hlt:=e3.le
 refine⟨hk,⟨l',AT L i⟩,_,?_,by unfold DR;rw[e2],hF3,by omega,by omega⟩
 unfold E8
 rw[e1,RS.bind_ok,e4,RS.bind_ok]
theorem Rj (w:List UInt8) (l:List Cel):Jd w l=(if l.isEmpty then[]else[l]).flatMap (Ft w):=by
 unfold Jd
 split
 ·rfl
 ·simp
theorem NK {l:List Cel} {ls:List (List Cel)} (h:ls.map (·.map bareCel)=(if l.isEmpty then[]else[l]).map (·.map bareCel)):ls.flatten.map bareCel=l.map bareCel:=by
 have h1:=congrArg List.flatten h
 rw[←List.map_flatten,←List.map_flatten]at h1
 rw[h1]
 split
 ·rename_i he;rw[List.isEmpty_iff.1 he];rfl
 ·simp
theorem ZS {p:Prg} (h:BP p=true) {T:List Tok} (hT:T.map Tok.bare=QH p):∃p' j,GW T (T.length+1)=some (.ok p' j)∧Cm p'=Cm p:=by
 obtain⟨h1,h2,h3,h4,h5,h6,h7⟩:=Kw h
 have hF:Aj T 0 (QH p):=by unfold Aj;rw[List.drop_zero,hT]
 unfold QH at hF
 rw[Rj,Rj]at hF
 rw[List.all_eq_true]at h1 h2 h5 h6
 have f6:Fv [CH] (p.claims.flatMap Dt):=Ir (by simp) (fun _=>⟨_,rfl⟩) _
 have up:∀{ks ks':List (List UInt8)} {R:List Tok},(∀k∈ks,k∈ks')→Fv ks R→Fv ks' R:=fun hs hR=>hR.imp id (fun⟨k,hk,T,e⟩=>⟨k,hs k hk,T,e⟩)
 have f5:Fv [BU,CH] (p.recs.flatMap I7++p.claims.flatMap Dt):=LP (Ir (k:=BU) (by simp) (fun _=>⟨_,rfl⟩) _) (up (by simp) f6)
 have f4:Fv [DJ,BU,CH] (p.threads.flatMap FC++(p.recs.flatMap I7++p.claims.flatMap Dt)):=LP (Ir (k:=DJ) (by simp) (fun _=>⟨_,rfl⟩) _) (up (by simp) f5)
 have f3:Fv [Eo,DJ,BU,CH] ((if p.locks.isEmpty then[]else[p.locks]).flatMap (Ft Eo)++(p.threads.flatMap FC++(p.recs.flatMap I7++p.claims.flatMap Dt))):=LP (Ir (k:=Eo) (by simp) (fun _=>⟨_,rfl⟩) _) (up (by simp) f4)
 have f2:Fv [Iz,Eo,DJ,BU,CH] ((if p.vols.isEmpty then[]else[p.vols]).flatMap (Ft Iz)++((if p.locks.isEmpty then[]else[p.locks]).flatMap (Ft Eo)++(p.threads.flatMap FC++(p.recs.flatMap I7++p.claims.flatMap Dt)))):=LP (Ir (k:=Iz) (by simp) (fun _=>⟨_,rfl⟩) _) (up (by simp) f3)
 obtain⟨ls,i1,a1,a2,a3,a4,a5⟩:=Gx (kw:=FX) (p:=fun i=>Bc true T (T.length+1) (i+1)) (g:=fun l:List Cel=>l.map bareCel) (toks:=Ft FX) p.lines (fun l hl i R hF hi=>by
  have hh:=h1 l hl
  unfold EC at hh
  rw[Bool.and_eq_true]at hh
  have hne:l≠[]:=by intro e;rw[e]at hh;simp at hh
  exact LQ hne hh.2 (.inl rfl) hF (by omega)) 0 (T.length+1) _ hF (fun j hj=>Jf f2 (by decide) hj) (by omega) (by omega)
 obtain⟨vs,i2,b1,b2,b3,b4,b5⟩:=Gx (kw:=Iz) (p:=fun i=>Bc true T (T.length+1) (i+1)) (g:=fun l:List Cel=>l.map bareCel) (toks:=Ft Iz) (if p.vols.isEmpty then[]else[p.vols]) (fun l hl i R hF hi=>by
  split at hl
  ·cases hl
  ·rename_i he
   simp at hl
   subst hl
   exact LQ (fun e=>he (by rw[e];rfl)) h3 (.inl rfl) hF (by omega)) i1 (T.length+1) _ a3 (fun j hj=>Jf f3 (by decide) hj) (by omega) a5
 obtain⟨ks,i3,c1,c2,c3,c4,c5⟩:=Gx (kw:=Eo) (p:=fun i=>Bc false T (T.length+1) (i+1)) (g:=fun l:List Cel=>l.map bareCel) (toks:=Ft Eo) (if p.locks.isEmpty then[]else[p.locks]) (fun l hl i R hF hi=>by
  split at hl
  ·cases hl
  ·rename_i he
   simp at hl
   subst hl
   rw[List.all_eq_true]at h4
   exact LQ (fun e=>he (by rw[e];rfl)) (by rw[List.all_eq_true];exact fun c hc=>KA (h4 c hc)) (.inr fun c hc=>by have:=LO (h4 c hc);omega) hF (by omega)) i2 (T.length+1) _ b3 (fun j hj=>Jf f4 (by decide) hj) (by omega) b5
 obtain⟨ts,i4,d1,d2,d3,d4,d5⟩:=Gx (kw:=DJ) (p:=DT T (T.length+1)) (g:=Br) (toks:=FC) p.threads (fun t ht i R hF hi=>U9 (h5 t ht) hF (by omega)) i3 (T.length+1) _ c3 (fun j hj=>Jf f5 (by decide) hj) (by omega) c5
 have hrec:∃rs i5,KL T (T.length+1) i4=some (.ok rs i5)∧rs.map Br=p.recs.map Br∧Aj T i5 (p.claims.flatMap Dt)∧i4≤i5∧i5≤T.length:=by
  match hp:p.recs,h7 with
  |[],_=>
   rw[hp]at d3
   rw[List.flatMap_nil,List.nil_append]at d3
   refine⟨[],i4,?_,rfl,d3,Nat.le_refl _,d5⟩
   unfold KL
   rw[if_neg (by rw[Jf f6 (by decide) d3];simp)]
  |[t],_=>
   rw[hp]at d3
   rw[List.flatMap_cons,List.flatMap_nil,List.append_nil]at d3
   obtain⟨t',j,r1,r2,r3,r4,r5⟩:=QBT (h6 t (by rw[hp];simp)) d3 (f:=T.length+1) (by omega)
   exact⟨[t'],j,r1,by simp[r2],r3,by omega,r5⟩
  |a::b::l,h7=>simp at h7
 obtain⟨rs,i5,e1,e2,e3,e4,e5⟩:=hrec
 have e3':Aj T i5 (p.claims.flatMap Dt++[]):=by rw[List.append_nil];exact e3
 obtain⟨cs,i6,g1,g2,g3,g4,g5⟩:=Gx (kw:=CH) (p:=fun i=>some (E8 T (i+1) (AT T i))) (g:=DR) (toks:=Dt) p.claims (fun c hc i R hF hi=>Wh (h2 c hc) hF) i5 (T.length+1) [] e3' (fun j hj=>Xb hj _) (by omega) e5
 refine⟨⟨ls,vs.flatten,ks.flatten,ts,rs,cs⟩,i6,?_,?_⟩
 ·unfold GW N7 Re N8 Jb LN
  rw[a1,RS.obind_ok,b1,RS.obind_ok,c1,RS.obind_ok,d1,RS.obind_ok,e1,RS.obind_ok,g1,RS.obind_ok]
  unfold L6
  have:=Aj.none g3
  rw[if_neg (by omega)]
 ·unfold Cm
  simp only[Prg.mk.injEq]
  exact⟨a2,NK b2,NK c2,d2,e2,g2⟩
theorem ZT {p:Prg} (h:BP p=true) (hl:(Ek p).length≤4000):∃p',Bm (Ek p)=⟨p',0,0⟩∧Cm p'=Cm p:=by
 obtain⟨T,h1,h2⟩:=ZP h
 obtain⟨p',j,h3,h4⟩:=ZS h h1
 refine⟨p',?_,h4⟩
 unfold Bm
 rw[if_neg (by omega),h2]
 show(if(0:Int)=0 then Rf ((GW T (T.length+1)).getD (.bad 0 0))else _)=_
 rw[if_pos rfl,h3]
 rfl
theorem Xp {n:Nat} {L:List Tok} (hn:n≤4000) (hL:TF n L) (i:Int):La (AT L i)=true:=by
 have:=Ko (n:=n) (fun t ht=>(hL t ht).1) i
 unfold La
 simp only[Bool.and_eq_true,decide_eq_true_eq]
 omega
def TM (num:Bool):Int:=if num then most32 else 0
theorem ZU {n:Nat} {L:List Tok} (hL:TF n L) {i:Nat} {m:Int} (h:numAt L i=some m):0≤m∧m≤most32:=by
 unfold numAt at h
 split at h
 ·rename_i t ht
  split at h
  ·simp at h
   subst h
   exact(hL t (List.mem_of_getElem? ht)).2
  ·cases h
 ·cases h
theorem QEx {n:Nat} {L:List Tok} (hn:n≤4000) (hL:TF n L) {num:Bool} {i j:Nat} {c:Cel} (h:Fj num L i=.ok c j):Aw (TM num) c=true:=by
 unfold Fj at h
 obtain⟨s,k,h1,h2⟩:=Ar h
 have hs:=IG h1
 have hp:=Xp hn hL i
 split at h2
 ·rename_i hc
  split at h2
  ·rename_i m hm
   obtain⟨g1,g2⟩:=ZU hL hm
   simp only[RS.ok.injEq]at h2
   rw[←h2.1]
   unfold Aw TM
   rw[hc.1]
   simp[hs,hp,g1,g2]
  ·unfold badR at h2;cases h2
 ·simp only[RS.ok.injEq]at h2
  rw[←h2.1]
  unfold Aw TM
  cases num<;>simp[hs,hp,most32]
theorem Oi {n:Nat} {L:List Tok} (hn:n≤4000) (hL:TF n L) {num:Bool}:∀(f i j:Nat) (l:List Cel),Bc num L f i=some (.ok l j)→l≠[]∧l.all (Aw (TM num))=true:=by
 intro f
 induction f with
 |zero=>intro i j l h;cases h
 |succ f ih=>
  intro i j l h
  unfold Bc at h
  rcases RS.obind_some h with⟨c,k,h1,h2⟩|⟨e,p,_,h2⟩
  ·have hc:=QEx hn hL (Option.some.inj h1)
   split at h2
   ·rcases RS.obind_some h2 with⟨r,k2,h3,h4⟩|⟨e,p,_,h4⟩
    ·obtain⟨_,g2⟩:=ih _ _ _ h3
     have:=Option.some.inj h4
     simp only[RS.ok.injEq]at this
     rw[←this.1]
     exact⟨by simp,by rw[List.all_cons,hc,g2];rfl⟩
    ·cases h4
   ·rcases RS.obind_some h2 with⟨r,k2,h3,h4⟩|⟨e,p,_,h4⟩
    ·have:=Option.some.inj h4
     simp only[RS.ok.injEq]at this
     rw[←this.1]
     exact⟨by simp,by rw[List.all_cons,hc];rfl⟩
    ·cases h4
  ·cases h2
theorem Kx {α:Type} {L:List Tok} {kw:List UInt8} {p:Nat→Option (RS α)} {Q:α→Prop} (hp:∀i a j,p i=some (.ok a j)→Q a):∀(f i j:Nat) (l:List α),Bj L kw p f i=some (.ok l j)→∀a∈l,Q a:=by
 intro f
 induction f with
 |zero=>intro i j l h;cases h
 |succ f ih=>
  intro i j l h
  unfold Bj at h
  split at h
  ·rcases RS.obind_some h with⟨c,k,h1,h2⟩|⟨e,q,_,h2⟩
   ·rcases RS.obind_some h2 with⟨r,k2,h3,h4⟩|⟨e,q,_,h4⟩
    ·have:=Option.some.inj h4
     simp only[RS.ok.injEq]at this
     rw[←this.1]
     intro a ha
     rcases List.mem_cons.1 ha with rfl|ha
     ·exact hp _ _ _ h1
     ·exact ih _ _ _ h3 a ha
    ·cases h4
   ·cases h2
  ·have:=Option.some.inj h
   simp only[RS.ok.injEq]at this
   rw[←this.1]
   intro a ha
   cases ha
theorem QDY {n:Nat} {L:List Tok} (hn:n≤4000) (hL:TF n L) {f i o j:Nat} {l:List Stm} (h:Fo L f i o=some (.ok l j)):CJ l=true:=by
 unfold Fo at h
 rcases RS.obind_some h with⟨b,k,h1,h2⟩|⟨e,q,_,h2⟩
 ·obtain⟨g1,g2,g3⟩:=QEm hn hL f _ _ _ _ _ (by omega) h1
  rcases RS.obind_some h2 with⟨_,k2,h3,h4⟩|⟨e,q,_,h4⟩
  ·split at h4
   ·cases h4
   ·rename_i hc
    have:=Option.some.inj h4
    simp only[RS.ok.injEq]at this
    rw[←this.1]
    exact OM g1 (by omega) g2 (by omega)
  ·cases h4
 ·cases h2
theorem QBU {n:Nat} {L:List Tok} (hn:n≤4000) (hL:TF n L) {f i j:Nat} {name:List UInt8} {pl:Int} {t:Thr} (h:II L f i name pl=some (.ok t j)) (named:Bool) (hnm:(if named then nameB name else name.isEmpty)=true) (hp:La pl=true):Bh named t=true:=by
 unfold II at h
 rcases RS.obind_some h with⟨_,k,h1,h2⟩|⟨e,q,_,h2⟩
 ·rcases RS.obind_some h2 with⟨rs,k2,h3,h4⟩|⟨e,q,_,h4⟩
  ·rcases RS.obind_some h4 with⟨b,k3,h5,h6⟩|⟨e,q,_,h6⟩
   ·have hr:=QDY hn hL h5
    have hg:rs.all nameB=true:=by
     unfold GM at h3
     split at h3
     ·rcases RS.obind_some h3 with⟨l,k4,h7,h8⟩|⟨e,q,_,h8⟩
      ·obtain⟨_,g2⟩:=Oi hn hL _ _ _ _ h7
       have:=Option.some.inj h8
       simp only[RS.ok.injEq]at this
       rw[←this.1,List.all_map,List.all_eq_true]
       rw[List.all_eq_true]at g2
       exact fun c hc=>(LO (g2 c hc)).1
      ·cases h8
     ·have:=Option.some.inj h3
      simp only[RS.ok.injEq]at this
      rw[←this.1];rfl
    have:=Option.some.inj h6
    simp only[RS.ok.injEq]at this
    rw[←this.1]
    unfold Bh
    simp only[hnm,hp,hr,hg,Bool.and_self]
   ·cases h6
  ·cases h4
 ·cases h2
theorem Wi {n:Nat} {T:List Tok} (hn:n≤4000) (hL:TF n T) {f j:Nat} {p:Prg} (h:GW T f=some (.ok p j)):BP p=true:=by
 unfold GW at h
 rcases RS.obind_some h with⟨ls,i1,h1,h⟩|⟨e,q,_,h⟩
 case inr=>cases h
 rcases RS.obind_some h with⟨vs,i2,h2,h⟩|⟨e,q,_,h⟩
 case inr=>cases h
 rcases RS.obind_some h with⟨ks,i3,h3,h⟩|⟨e,q,_,h⟩
 case inr=>cases h
 rcases RS.obind_some h with⟨ts,i4,h4,h⟩|⟨e,q,_,h⟩
 case inr=>cases h
 rcases RS.obind_some h with⟨rs,i5,h5,h⟩|⟨e,q,_,h⟩
 case inr=>cases h
 rcases RS.obind_some h with⟨cs,i6,h6,h⟩|⟨e,q,_,h⟩
 case inr=>cases h
 have he:=Option.some.inj h
 unfold L6 at he
 split at he
 ·unfold badR at he;cases he
 simp only[RS.ok.injEq]at he
 rw[←he.1]
 have g1:=Kx (Q:=fun l=>EC l=true) (fun i a j h=>by
  obtain⟨q1,q2⟩:=Oi hn hL _ _ _ _ h
  unfold EC
  have:a.isEmpty=false:=by cases a with
   |nil=>exact absurd rfl q1
   |cons x l=>rfl
  rw[this]
  exact q2) _ _ _ _ h1
 have g2:=Kx (Q:=fun l=>l.all (Aw most32)=true) (fun i a j h=>(Oi hn hL _ _ _ _ h).2) _ _ _ _ h2
 have g3:=Kx (Q:=fun l=>l.all (Aw 0)=true) (fun i a j h=>(Oi hn hL _ _ _ _ h).2) _ _ _ _ h3
 have g4:=Kx (Q:=fun t=>Bh true t=true) (fun i a j h=>by
  unfold DT at h
  rcases RS.obind_some h with⟨s,k,q1,q2⟩|⟨e,q,_,q2⟩
  ·exact QBU hn hL q2 true (IG (Option.some.inj q1)) (Xp hn hL _)
  ·cases q2) _ _ _ _ h4
 have g5:rs.all (Bh false)=true∧rs.length≤1:=by
  unfold KL at h5
  split at h5
  ·rcases RS.obind_some h5 with⟨t,k,q1,q2⟩|⟨e,q,_,q2⟩
   ·have:=Option.some.inj q2
    simp only[RS.ok.injEq]at this
    rw[←this.1]
    have:=QBU hn hL q1 false rfl (Xp hn hL _)
    exact⟨by rw[List.all_cons,this];rfl,by simp⟩
   ·cases q2
  ·have:=Option.some.inj h5
   simp only[RS.ok.injEq]at this
   rw[←this.1]
   exact⟨rfl,by simp⟩
 have g6:=Kx (Q:=fun c=>Ef c=true) (fun i a j h=>by
  have h:=Option.some.inj h
  unfold E8 at h
  obtain⟨l,k,q1,q2⟩:=Ar h
  obtain⟨_,k2,q3,q4⟩:=Ar q2
  simp only[RS.ok.injEq]at q4
  rw[←q4.1]
  unfold Ef
  rw[LG hn hL q1,Xp hn hL]
  rfl) _ _ _ _ h6
 have fl:∀{m:Int} {l:List (List Cel)},(∀a∈l,a.all (Aw m)=true)→l.flatten.all (Aw m)=true:=by
  intro m l hl
  rw[List.all_eq_true]
  intro c hc
  obtain⟨a,ha,hca⟩:=List.mem_flatten.1 hc
  exact List.all_eq_true.1 (hl a ha) c hca
 unfold BP
 simp only[Bool.and_eq_true,decide_eq_true_eq]
 exact⟨⟨⟨⟨⟨⟨List.all_eq_true.2 g1,List.all_eq_true.2 g6⟩,fl g2⟩,fl g3⟩,List.all_eq_true.2 g4⟩,g5.1⟩,g5.2⟩
def GY {α:Type} (n:Nat) (r:RS α):Prop:=∀e p,r=.bad e p→0≤p∧p≤n
theorem An {α:Type} (n:Nat) (a:α) (j:Nat):GY n (RS.ok a j):=fun e p h=>by cases h
theorem EZ {α:Type} {n:Nat} {L:List Tok} (h:TF n L) (i:Nat) (er:Int):GY n (badR L i er:RS α):=by
 intro e p hp
 unfold badR at hp
 simp only[RS.bad.injEq]at hp
 rw[←hp.2]
 exact Ko (fun t ht=>(h t ht).1) i
theorem CM {n:Nat} {L:List Tok} (h:TF n L) (i:Nat) (s:List UInt8):GY n (Bg L i s):=by
 unfold Bg;split
 ·exact An _ _ _
 ·exact EZ h _ _
theorem D7 {n:Nat} {L:List Tok} (h:TF n L) (i:Nat):GY n (BW L i):=by
 unfold BW;split
 ·exact An _ _ _
 ·exact EZ h _ _
theorem TN {n:Nat} {L:List Tok} (h:TF n L) (i:Nat):GY n (Dc L i):=by
 unfold Dc
 repeat' split
 ·exact An _ _ _
 ·exact EZ h _ _
 ·exact EZ h _ _
 ·exact EZ h _ _
theorem GN {n:Nat} {L:List Tok} (h:TF n L) (i:Nat):GY n (exprP L i):=by
 have hpl:=Ko (n:=n) (fun t ht=>(h t ht).1)
 intro e p hp
 unfold exprP at hp
 split at hp
 ·cases hp
 ·simp only[RS.bad.injEq]at hp
  rw[←hp.2,IQ]
  cases hq:F9 L i with
  |bad e j=>exact hpl j
  |ok x j=>
   by_cases hd:12<x.deep
   ·rw[Lu hd];exact hpl _
   ·by_cases hs:40<x.size
    ·rw[Np hd hs];exact hpl _
    ·rw[Mc hd hs];exact⟨Int.le_refl _,by show(0:Int)≤n;omega⟩
theorem GY.bind {α β:Type} {n:Nat} {r:RS α} {k:α→Nat→RS β} (h:GY n r) (hk:∀a j,GY n (k a j)):GY n (r.bind k):=by
 cases r with
 |ok a j=>exact hk a j
 |bad e p=>intro e' p' hp;simp only[RS.bind_bad,RS.bad.injEq]at hp;rw[←hp.2];exact h e p rfl
theorem TO {n:Nat} {L:List Tok} (h:TF n L) (k:Nat) (pl:Int) (i:Nat):GY n (DC L k pl i):=by
 unfold DC
 repeat' split
 ·exact(D7 h i).bind fun _ j=>(CM h j _).bind fun _ j=>(GN h j).bind fun _ j=>An _ _ _
 ·exact(D7 h i).bind fun _ j=>(CM h j _).bind fun _ j=>(D7 h j).bind fun _ j=>An _ _ _
 ·exact(D7 h i).bind fun _ j=>(CM h j _).bind fun _ j=>(GN h j).bind fun _ j=>An _ _ _
 ·exact(D7 h i).bind fun _ j=>(CM h j _).bind fun _ j=>(D7 h j).bind fun _ j=>(CM h j _).bind fun _ j=>(GN h j).bind fun _ j=>(CM h j _).bind fun _ j=>(GN h j).bind fun _ j=>An _ _ _
 ·exact(D7 h i).bind fun _ j=>An _ _ _
 ·exact(GN h i).bind fun _ j=>An _ _ _
 ·exact(TN h i).bind fun _ j=>An _ _ _
 ·exact An _ _ _
def DK {α:Type} (n:Nat) (o:Option (RS α)):Prop:=∀r,o=some r→GY n r
theorem DK.obind {α β:Type} {n:Nat} {o:Option (RS α)} {k:α→Nat→Option (RS β)} (h:DK n o) (hk:∀a j,DK n (k a j)):DK n (RS.obind o k):=by
 intro r hr
 rcases RS.obind_some hr with⟨a,j,h1,h2⟩|⟨e,p,h1,rfl⟩
 ·exact hk a j r h2
 ·intro e' p' hp;simp only[RS.bad.injEq]at hp;rw[←hp.2];exact h _ h1 e p rfl
theorem AY {α:Type} {n:Nat} {r:RS α} (h:GY n r):DK n (some r):=fun r' hr=>by rw[←Option.some.inj hr];exact h
theorem NL {n:Nat} {L:List Tok} (h:TF n L) {row:CU} (hr:∀i d l,DK n (row i d l)) (i d l:Nat):DK n (Bz row L i d l):=by
 unfold Bz
 split
 ·exact AY (EZ h _ _)
 ·exact(AY (CM h _ _)).obind fun _ j=>(hr _ _ _).obind fun _ j=>(AY (CM h _ _)).obind fun _ j=>AY (An _ _ _)
theorem VA {n:Nat} {L:List Tok} (h:TF n L) {row:CU} (hr:∀i d l,DK n (row i d l)) (k i d l:Nat):DK n (Df row L k i d l):=by
 unfold Df
 split
 ·exact NL h hr _ _ _
 ·exact AY (An _ _ _)
theorem Wj {n:Nat} {L:List Tok} (h:TF n L) {row:CU} (hr:∀i d l,DK n (row i d l)) (i d l:Nat):DK n (GO row L i d l):=by
 unfold GO
 split
 ·exact AY (EZ h _ _)
 ·refine(AY (TO h _ _ _)).obind fun s j=>?_
  split
  ·exact(AY (CM h _ _)).obind fun _ j=>AY (An _ _ _)
  ·exact(NL h hr _ _ _).obind fun _ j=>(VA h hr _ _ _ _).obind fun _ j=>AY (An _ _ _)
theorem Wl {n:Nat} {L:List Tok} (h:TF n L):∀f i d l,DK n (Ci L f i d l):=by
 intro f
 induction f with
 |zero=>intro i d l r hr;simp[Ci]at hr
 |succ f ih=>
  intro i d l
  rw[DI]
  split
  ·exact AY (An _ _ _)
  ·exact(Wj h ih _ _ _).obind fun _ j=>(ih _ _ _).obind fun _ j=>AY (An _ _ _)
end Go.Proofs.YthfkpalfopdmhaaGreatDoor
namespace Go.Proofs.YthfkpalfopdmhaaGreatDoor
open Go.RowKit
theorem QY (c:UInt8) (w:World):Calls Tryz.prog 74 #[.int .u8 c.toNat] w (Ld (IE c) w):=by
 go_enter Tryz.func74,Tryz.ntmps74
 go_wp2
 all_goals
  go_ret
  refine⟨AH ?_,rfl⟩
  rw[Bool.eq_iff_iff];simp[IE];omega
theorem LU (c:UInt8) (w:World):Calls Tryz.prog 71 #[.int .u8 c.toNat] w (Ld (Es c) w):=by
 go_enter Tryz.func71,Tryz.ntmps71
 go_wp2
 all_goals
  go_ret
  refine⟨AH ?_,rfl⟩
  rw[Bool.eq_iff_iff];simp[Es];omega
set_option maxHeartbeats 1000000 in
theorem W7 (s:ByteArray) (w:World) (hs:s.size≤100000):Calls Tryz.prog 73 #[.string s,.func (.func 74) #[] #[]] w (SQ (s.data.toList.takeWhile IE) w):=by
 go_enter Tryz.func73,Tryz.ntmps73
 go_wp2_with fail
 go_loop [5] (fun i=>∃k:Nat,k≤s.size∧i=.int .i64 k∧(s.data.toList.take k).all IE=true) (fun i=>s.size-(intOf i).toNat)
 case atStart=>exact⟨0,Nat.zero_le _,rfl,rfl⟩
 case round=>
  obtain⟨k,hk,rfl,ha⟩:=hrel
  have HA:=AA ha
  clear ha
  by_cases hlt:k<s.size
  ·cases hp:IE (s[k]'hlt)with
   |true=>
    have HS:=AA (O1 IE s k hlt HA.out hp)
    have HP:=AA hp
    clear hp
    go_wp2_with fail
    refine(QY (s[k]'hlt) _).mono ?_
    rw[HP.out]
    rintro e w' ⟨rfl,rfl⟩
    go_wp2_with fail
    go_round
    case rel=>exact⟨k+1,by omega,by go_num,HS.out⟩
    case measure=>simp[intOf];omega
   |false=>
    have HS:=AA (Lj IE s k hlt HA.out hp)
    have HP:=AA hp
    clear hp
    go_wp2_with fail
    refine(QY (s[k]'hlt) _).mono ?_
    rw[HP.out]
    rintro e w' ⟨rfl,rfl⟩
    go_wp2_with fail
    go_ret
    exact IM rfl (FM s k) HS.out
  ·have HS:=AA (NY IE s k hlt HA.out)
   go_wp2_with fail
   go_ret
   exact IM rfl (FM s k) HS.out
set_option maxHeartbeats 1000000 in
theorem Rt (s:ByteArray) (w:World) (hs:s.size≤100000):Calls Tryz.prog 73 #[.string s,.func (.func 131) #[] #[]] w (SQ (s.data.toList.takeWhile digB) w):=by
 go_enter Tryz.func73,Tryz.ntmps73
 go_wp2_with fail
 go_loop [5] (fun i=>∃k:Nat,k≤s.size∧i=.int .i64 k∧(s.data.toList.take k).all digB=true) (fun i=>s.size-(intOf i).toNat)
 case atStart=>exact⟨0,Nat.zero_le _,rfl,rfl⟩
 case round=>
  obtain⟨k,hk,rfl,ha⟩:=hrel
  have HA:=AA ha
  clear ha
  by_cases hlt:k<s.size
  ·cases hp:digB (s[k]'hlt)with
   |true=>
    have HS:=AA (O1 digB s k hlt HA.out hp)
    have HP:=AA hp
    clear hp
    go_wp2_with fail
    refine(JP (s[k]'hlt) _).mono ?_
    rw[HP.out]
    rintro e w' ⟨rfl,rfl⟩
    go_wp2_with fail
    go_round
    case rel=>exact⟨k+1,by omega,by go_num,HS.out⟩
    case measure=>simp[intOf];omega
   |false=>
    have HS:=AA (Lj digB s k hlt HA.out hp)
    have HP:=AA hp
    clear hp
    go_wp2_with fail
    refine(JP (s[k]'hlt) _).mono ?_
    rw[HP.out]
    rintro e w' ⟨rfl,rfl⟩
    go_wp2_with fail
    go_ret
    exact IM rfl (FM s k) HS.out
  ·have HS:=AA (NY digB s k hlt HA.out)
   go_wp2_with fail
   go_ret
   exact IM rfl (FM s k) HS.out
end Go.Proofs.YthfkpalfopdmhaaGreatDoor
