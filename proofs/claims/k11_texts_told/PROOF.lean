import PyProof.Rows.All
import Wide.All
import OpenK.AllK
import Wide.FinOn
import PyProof.NeKinds
import HandS.ForMost
import HandS.IsInst
import HandS.Wide
import HandS.Walk
import HandS.More
import HandS.Flow
import KE.KUnpack
import PyProof.ReprRoads
import HandS.Exc
import PyProof.ReprLen
import PyProof.StrLawsRepr
import PyProof.EqAt
import PyProof.EqKinds
import PyProof.TupleCall
import KE.KExcSuper
import KE.KExcLine
import HandS.ForExc
import PyProof.StrOps2
import KE.KUnpackStar
import HandS.Star
import HandS.ExcIs
import HandS.DeepEq
import HandS.Zip
import KE.GoesEnum
import KE.GoesZip
import KE.GoesMore
import PyProof.Rows.StrRev
import HandS.ListItems
import HandS.Conv
import KE.KDictZip
import PyProof.ListNew
import PySem.Challenge.RW_reflows_k11_texts_told
import HandS.TupLe
set_option Elab.async false
set_option linter.all false
set_option maxRecDepth 100000
namespace PySem.SeqAt
open AutoSeq1 (wpAny_loadPart')
open MeetsSeq
theorem dict_ne_declines_tuple (l b : Addr) (items2 : Array Value) (es : Array DictEntry) (n n2 : Nat) (dd dd2 : Option Addr) (sl sl2 : Array (Option Value)) :
    Meets (Builtin.«dict.__ne__» ⟨[.ref l, .ref b], []⟩) (fun _ R s => s.heap.get? l = some { cls := .type "dict", dict := dd, data := .dict es n, slots := sl } ∧ s.heap.get? b = some { cls := .type "tuple", dict := dd2, data := .seq items2 n2, slots := sl2 } ∧ R (.ok (.ret .notImplemented)) s) :=
  .of_wp fun prog w A R s h => by obtain ⟨hp, g, d, tk, os⟩ := s; obtain ⟨hl, hb, h⟩ := h; have f1 := F.sub_tuple_dict; wp_walk using wpAny_loadPart' hl, wpAny_loadPart' hb; exact ⟨_, rfl, h⟩
theorem tuple_ne_declines_dict (l b : Addr) (items : Array Value) (es : Array DictEntry) (n n2 : Nat) (dd dd2 : Option Addr) (sl sl2 : Array (Option Value)) :
    Meets (Builtin.«tuple.__ne__» ⟨[.ref l, .ref b], []⟩) (fun _ R s => s.heap.get? l = some { cls := .type "tuple", dict := dd, data := .seq items n, slots := sl } ∧ s.heap.get? b = some { cls := .type "dict", dict := dd2, data := .dict es n2, slots := sl2 } ∧ R (.ok (.ret .notImplemented)) s) :=
  .of_wp fun prog w A R s h => by obtain ⟨hp, g, d, tk, os⟩ := s; obtain ⟨hl, hb, h⟩ := h; have f1 := F.sub_dict_tuple; wp_walk using wpAny_loadPart' hl, wpAny_loadPart' hb; exact ⟨_, rfl, h⟩
end PySem.SeqAt
namespace RV
open PySem PySem.Spec PyProof.Rows L2 PySem.SeqAt
section
variable {X : Cx}
/-- a dict is no tuple -/
def rNeDT (K : PySem.W.Frag) : R2 := fun x y H Q => ∃ a b kvs xs, x = .ref a ∧ y = .ref b ∧ H a = some (.dK kvs) ∧ H b = some (.tup xs) ∧ Q (.bl true) H
theorem op_ne_dt (hu : X.A.units < cLine) : OpR X (compareOp .NotEq) (rNeDT X.K) := by
  intro pins s σ H x y v u Q I rx ry h
  obtain ⟨a, b, kvs, xs, rfl, rfl, ha, hb, q⟩ := h
  cases (show v = Value.ref a from rx)
  cases (show u = Value.ref b from ry)
  have nab : a ≠ b := ne_of ha hb (by intro z; cases z)
  obtain ⟨_, _, vs, _, o, es, ep, h1, h2, h3, _⟩ := (show ObjOk X.prog X.w H s.heap a (.dK kvs) from I.hok a _ ha)
  obtain ⟨_, its, rv, o2, g1, g2, n2, g3⟩ := (show ObjOk X.prog X.w H s.heap b (.tup xs) from I.hok b _ hb)
  obtain ⟨c1, d1, e1, s1⟩ := o
  obtain ⟨c2, d2, e2, s2⟩ := o2
  have h21 : c1 = .type "dict" := h2.1
  simp only at h21 h3 g2 g3
  subst h21 h3 g2 g3
  exact (rc_ne_decline_or (k := false) ⟨_, h1, rfl⟩ ⟨_, g1, rfl⟩ (by decide) F.sub_tuple_dict F.slot_dict_ne F.slot_tuple_ne_refl
    (fun _ hq => call_meets F.slot_dict_ne ⟨_, h1, rfl⟩ F.entry_dict_ne (F.args_dict_ne_2 _ _) (dict_ne_declines_tuple a b _ _ _ _ _ _ _ _) ⟨h1, g1, hq⟩)
    (fun _ hq => call_meets F.slot_tuple_ne_refl ⟨_, g1, rfl⟩ F.entry_tuple_ne (F.args_tuple_ne_2 _ _) (tuple_ne_declines_dict b a _ _ _ _ _ _ _ _) ⟨g1, h1, hq⟩)
    (fun _ hq => wpAny_isSame_ref_other nab h1 g1 (by simp) hq) (.inr hu) ⟨.bl true, H, I, rfl, q⟩)
/-- != of data, or of a dict and a tuple -/
theorem op_neA (hu : X.A.units + 64 < cLine) : OpR X (compareOp .NotEq) (fun x y H Q => rNeD X.K x y H Q ∨ rNeDT X.K x y H Q) := (op_neD hu).or (op_ne_dt (by omega))
end
end RV

namespace RV
open PySem PySem.Spec PyProof.Rows L2 TL
/-! ### heaps -/
/-- all that was tracked, but what stands at p, is as it was -/
def Sam (p : Addr) (H H' : Hp) : Prop := ∀ b o, b ≠ p → H b = some o → H' b = some o
theorem Sam.refl (p : Addr) (H : Hp) : Sam p H H := fun _ _ _ h => h
theorem Sam.trans {p : Addr} {H H1 H2 : Hp} (a : Sam p H H1) (b : Sam p H1 H2) : Sam p H H2 := fun c o n h => b c o n (a c o n h)
theorem Sam.new {p l : Addr} {o : HO} {H H1 : Hp} (a : Sam p H H1) (n : H1 l = none) : Sam p H (upd H1 l o) := fun c u nc h => by
  have e := a c u nc h
  rw [upd_ne (ne_of_none e n)]
  exact e
theorem Sam.box {p : Addr} {o : HO} {H H1 : Hp} (a : Sam p H H1) : Sam p H (upd H1 p o) := fun c u nc h => by
  rw [upd_ne nc]
  exact a c u nc h
theorem same_new {H H1 : Hp} {p : Addr} {o : HO} (s : Same H H1) (h : H1 p = none) : Same H (upd H1 p o) := fun b x e => by
  have e1 := s b x e
  rw [upd_ne (ne_of_none e1 h)]
  exact e1
/-- p is new behind H: what is said of H holds on whatever stands at p -/
theorem same_sam {H H1 H2 : Hp} {p : Addr} (n : H p = none) (a : Same H H1) (b : Sam p H1 H2) : Same H H2 := fun c o h => b c o (ne_of_none h n) (a c o h)
theorem keep_new {H : Hp} {p q : Addr} {o u : HO} (h : H q = some u) (n : H p = none) : upd H p o q = some u := by
  rw [upd_ne (ne_of_none h n)]
  exact h
/-! ### the box of drawn digits -/
def BoxAt (H : Hp) (p : Addr) (n : Int) : Prop := ∃ a b c : Int, H p = some (.lst [.int a, .int b, .int c]) ∧ 0 ≤ a ∧ 0 ≤ b ∧ b < 2147483629 ∧ 0 ≤ c ∧ c ≤ n
theorem BoxAt.new {H : Hp} {p l : Addr} {n : Int} {o : HO} (b : BoxAt H p n) (h : H l = none) : BoxAt (upd H l o) p n := by
  obtain ⟨a, b, c, e, r⟩ := b
  exact ⟨a, b, c, keep_new e h, r⟩
theorem BoxAt.mono {H : Hp} {p : Addr} {n m : Int} (b : BoxAt H p n) (h : n ≤ m) : BoxAt H p m := by
  obtain ⟨a, b, c, e, h1, h2, h3, h4, h5⟩ := b
  exact ⟨a, b, c, e, h1, h2, h3, h4, Int.le_trans h5 h⟩
theorem BoxAt.ne {H : Hp} {p l : Addr} {n : Int} (b : BoxAt H p n) (h : H l = none) : p ≠ l := by
  obtain ⟨a, b, c, e, r⟩ := b
  exact ne_of_none e h
def spCell (K : PySem.W.Frag) : Sp := fun vs H Q _ => ∃ (l : Addr) (ns : List Int) (j : Nat), vs = [.ref l, .int (j : Int)] ∧ SqL K H l (ns.map V.int) ∧ j ≤ 1000 ∧ ∀ z : Int, Q (.int z) H
def spBox : Sp := fun vs H Q _ => ∃ z : Int, vs = [.int z] ∧ ∀ p (a : Int) (b : Int), H p = none → 0 ≤ a → 0 ≤ b → b < 2147483629 → Q (.ref p) (upd H p (.lst [.int a, .int b, .int 0]))
def spTake : Sp := fun vs H Q _ => ∃ (p : Addr) (m n : Int), vs = [.ref p, .int m] ∧ 1 ≤ m ∧ m.natAbs < 2 ^ 200 ∧ n ≤ 1000000 ∧ BoxAt H p n ∧
  ∀ d o, 0 ≤ d → d < m → BoxAt (upd H p o) p (n + 1) → Q (.int d) (upd H p o)
/-! ### kinds of values -/
inductive Ty7 (H : Hp) : V → String → Prop where
  | non : Ty7 H .non "NoneType"
  | bl (b : Bool) : Ty7 H (.bl b) "bool"
  | int (i : Int) : Ty7 H (.int i) "int"
  | str (z : Str) (h : z.length ≤ 100000) : Ty7 H (.str z) "str"
  | lst {a : Addr} {xs : List V} (e : H a = some (.lst xs)) : Ty7 H (.ref a) "list"
  | tup {a : Addr} {xs : List V} (e : H a = some (.tup xs)) : Ty7 H (.ref a) "tuple"
  | dct {a : Addr} {kvs : List (Key × V)} (e : H a = some (.dK kvs)) : Ty7 H (.ref a) "dict"
theorem Ty7.x {K : PySem.W.Frag} {H : Hp} {v : V} {t : String} (h : Ty7 H v t) : TyX K H v (.type t) := by
  cases h with
  | non => exact .base .non
  | bl b => exact .base (.bl b)
  | int i => exact .base (.int i)
  | str z => exact .base (.str z)
  | lst e => exact .base (.lst e)
  | tup e => exact .base (.tup e)
  | dct e => exact .base (.dK e)
theorem Ty7.up {H H' : Hp} {v : V} {t : String} (h : Ty7 H v t) (s : Same H H') : Ty7 H' v t := by
  cases h with
  | non => exact .non
  | bl b => exact .bl b
  | int i => exact .int i
  | str z l => exact .str z l
  | lst e => exact .lst (s _ _ e)
  | tup e => exact .tup (s _ _ e)
  | dct e => exact .dct (s _ _ e)
theorem Ty7.new {H : Hp} {v : V} {t : String} {p : Addr} {o : HO} (h : Ty7 H v t) (n : H p = none) : Ty7 (upd H p o) v t := h.up (same_new (Same.refl H) n)
def isStrV : V → Bool
  | .str _ => true
  | _ => false
def isIntV : V → Bool
  | .int _ => true
  | _ => false
def isBlV : V → Bool
  | .bl _ => true
  | _ => false
/-- kitB among the seven kinds -/
theorem kit_int {H : Hp} {v : V} {t : String} (h : Ty7 H v t) : kitB t "int" = some (isIntV v || isBlV v) := by
  cases h <;> first | (show _ = some true; decide +kernel) | (show _ = some false; decide +kernel)
theorem kit_bool {H : Hp} {v : V} {t : String} (h : Ty7 H v t) : kitB t "bool" = some (isBlV v) := by
  cases h <;> first | (show _ = some true; decide +kernel) | (show _ = some false; decide +kernel)
theorem kit_str {H : Hp} {v : V} {t : String} (h : Ty7 H v t) : kitB t "str" = some (isStrV v) := by
  cases h <;> first | (show _ = some true; decide +kernel) | (show _ = some false; decide +kernel)
theorem kit_tuple {H : Hp} {v : V} {t : String} (h : Ty7 H v t) : kitB t "tuple" = some (t == "tuple") := by
  cases h <;> decide +kernel
theorem kit_list {H : Hp} {v : V} {t : String} (h : Ty7 H v t) : kitB t "list" = some (t == "list") := by
  cases h <;> decide +kernel
/-! ### sizes -/
theorem sz {n : Nat} (h : n ≤ 200000) : n < sizeLine := Nat.lt_of_le_of_lt h (by decide)
theorem szl {n : Nat} (h : n ≤ 200000) : n ≤ sizeLine := Nat.le_of_lt (sz h)
theorem len_list (z : Str) : z.cps.toList.length = z.length := by simp [Str.length]
/-! ### words, marks -/
def onlyS (z cs : Str) : Bool := z.cps.toList.all fun c => decide (c ∈ cs.cps.toList)
def spOnly : Sp := fun vs H Q _ => ∃ z cs : Str, vs = [.str z, .str cs] ∧ z.length ≤ 100000 ∧ ∀ H', Same H H' → Q (.bl (onlyS z cs)) H'
def spWhole : Sp := fun vs H Q _ => ∃ (v : V) (t : String), vs = [v] ∧ Ty7 H v t ∧ Q (.bl (isIntV v)) H
def inI (v : V) (lo hi : Int) : Bool := match v with
  | .int i => decide (lo ≤ i) && decide (i ≤ hi)
  | _ => false
def spIsInteger : Sp := fun vs H Q _ => ∃ (v : V) (t : String) (lo hi : Int), vs = [v, .int lo, .int hi] ∧ Ty7 H v t ∧ Q (.bl (inI v lo hi)) H
def abc : Str := Str.ofString "abcdefghijklmnopqrstuvwxyz"
def wordS (z : Str) : Bool := decide (1 ≤ z.length) && decide (z.length ≤ 30) && onlyS z abc
def wordV : V → Bool
  | .str z => wordS z
  | _ => false
def spIsWord : Sp := fun vs H Q _ => ∃ (v : V) (t : String), vs = [v] ∧ Ty7 H v t ∧ ∀ H', Same H H' → Q (.bl (wordV v)) H'
def markS (z : Str) : Bool := decide (z ∈ ([" ", "#0", "#1", "#2", "#3", "|0", "|1", "|2", "|3", "/0", "/1", "/2", "/3"] : List Str))
def markV : V → Bool
  | .str z => markS z
  | _ => false
def spIsMark : Sp := fun vs H Q _ => ∃ (v : V) (t : String), vs = [v] ∧ Ty7 H v t ∧ Q (.bl (markV v)) H
/-- a tuple of a mark and a word -/
inductive Tok7 (H : Hp) : V → Bool → Prop where
  | odd {v : V} {t : String} (h : Ty7 H v t) (n : (t == "tuple") = false) : Tok7 H v false
  | len {a : Addr} {xs : List V} (e : H a = some (.tup xs)) (n : xs.length ≠ 2) : Tok7 H (.ref a) false
  | two {a : Addr} {x y : V} {s t : String} (e : H a = some (.tup [x, y])) (hx : Ty7 H x s) (hy : Ty7 H y t) : Tok7 H (.ref a) (markV x && wordV y)
def spIsToken : Sp := fun vs H Q _ => ∃ (v : V) (b : Bool), vs = [v] ∧ Tok7 H v b ∧ ∀ H', Same H H' → Q (.bl b) H'
/-! ### the law's readings of words and marks -/
theorem abc_list : abc.cps.toList = [97, 98, 99, 100, 101, 102, 103, 104, 105, 106, 107, 108, 109, 110, 111, 112, 113, 114, 115, 116, 117, 118, 119, 120, 121, 122] := by decide +kernel
theorem mem_abc (c : Nat) : c ∈ abc.cps.toList ↔ 97 ≤ c ∧ c ≤ 122 := by
  rw [abc_list]
  simp only [List.mem_cons, List.not_mem_nil, or_false]
  omega
def lawMarkS (z : Str) : Bool := decide (z = Str.ofString " ") || (decide (z.length = 2) && (match z.cps.toList with
  | c :: d :: _ => (decide (c = 35) || decide (c = 124) || decide (c = 47)) && (decide (d = 48) || decide (d = 49) || decide (d = 50) || decide (d = 51))
  | _ => false))
theorem str_eq {z : Str} {s : String} {l : List Nat} (h : (Str.ofString s).cps.toList = l) : (z = Str.ofString s) ↔ z.cps.toList = l := by
  constructor
  · intro e
    rw [e, h]
  · intro e
    rw [← h] at e
    have e2 : z.cps = (Str.ofString s).cps := Array.ext' e
    cases z
    cases q : Str.ofString s
    rw [q] at e2
    exact congrArg Str.mk e2
theorem markS_iff (z : Str) : markS z = true ↔ (z.cps.toList = [32] ∨ ∃ c d, z.cps.toList = [c, d] ∧ (c = 35 ∨ c = 124 ∨ c = 47) ∧ (d = 48 ∨ d = 49 ∨ d = 50 ∨ d = 51)) := by
  unfold markS
  rw [decide_eq_true_eq]
  simp only [List.mem_cons, List.not_mem_nil, or_false]
  rw [str_eq (s := " ") (l := [32]) (by decide +kernel), str_eq (s := "#0") (l := [35, 48]) (by decide +kernel), str_eq (s := "#1") (l := [35, 49]) (by decide +kernel), str_eq (s := "#2") (l := [35, 50]) (by decide +kernel), str_eq (s := "#3") (l := [35, 51]) (by decide +kernel),
    str_eq (s := "|0") (l := [124, 48]) (by decide +kernel), str_eq (s := "|1") (l := [124, 49]) (by decide +kernel), str_eq (s := "|2") (l := [124, 50]) (by decide +kernel), str_eq (s := "|3") (l := [124, 51]) (by decide +kernel),
    str_eq (s := "/0") (l := [47, 48]) (by decide +kernel), str_eq (s := "/1") (l := [47, 49]) (by decide +kernel), str_eq (s := "/2") (l := [47, 50]) (by decide +kernel), str_eq (s := "/3") (l := [47, 51]) (by decide +kernel)]
  constructor
  · rintro (h | h | h | h | h | h | h | h | h | h | h | h | h)
    · exact .inl h
    all_goals exact .inr ⟨_, _, h, by decide, by decide⟩
  · rintro (h | ⟨c, d, h, hc, hd⟩)
    · exact .inl h
    · rw [h]
      rcases hc with rfl | rfl | rfl <;> rcases hd with rfl | rfl | rfl | rfl <;> simp
/-! ### items, joins -/
theorem atI_all {xs : List V} {P : V → Prop} (h : ∀ x ∈ xs, P x) {d : Int} (h0 : 0 ≤ d) (h1 : d < xs.length) : ∃ v, atI xs d = some v ∧ P v := by
  obtain ⟨j, rfl⟩ : ∃ j : Nat, d = j := ⟨d.toNat, by omega⟩
  have hj : j < xs.length := by omega
  exact ⟨xs[j], atI_nat (List.getElem?_eq_getElem hj), h _ (List.getElem_mem hj)⟩
theorem atI_alln {xs : List Nat} {d : Int} (h0 : 0 ≤ d) (h1 : d < xs.length) : ∃ c, atI xs d = some c ∧ c ∈ xs := by
  obtain ⟨j, rfl⟩ : ∃ j : Nat, d = j := ⟨d.toNat, by omega⟩
  have hj : j < xs.length := by omega
  exact ⟨xs[j], atI_nat (List.getElem?_eq_getElem hj), List.getElem_mem hj⟩
def signs (l : List Nat) : List Str := l.map fun c => ⟨#[c]⟩
theorem joinL_signs : ∀ l : List Nat, joinL [] ((signs l).map tl) = l
  | [] => rfl
  | [c] => rfl
  | c :: d :: r => by
    have ih := joinL_signs (d :: r)
    show [c] ++ ([] ++ joinL [] ((signs (d :: r)).map tl)) = c :: d :: r
    rw [ih]
    rfl
theorem join_signs (l : List Nat) : Txt.join (Str.ofString "") (signs l) = ⟨l.toArray⟩ := by
  have e : tl (Txt.join (Str.ofString "") (signs l)) = l := by
    rw [join_eq, tl_join]
    exact joinL_signs l
  have e2 : (Txt.join (Str.ofString "") (signs l)).cps = l.toArray := Array.ext' (by rw [show (Txt.join (Str.ofString "") (signs l)).cps.toList = l from e])
  cases q : Txt.join (Str.ofString "") (signs l)
  rw [q] at e2
  exact congrArg Str.mk e2
theorem signs_sum (l : List Nat) : ((signs l).map (·.length)).sum = l.length := by
  induction l with
  | nil => rfl
  | cons c r ih =>
    show 1 + ((signs r).map (·.length)).sum = r.length + 1
    omega
theorem signs_len (l : List Nat) : (signs l).length = l.length := by simp [signs]
theorem len_mk (l : List Nat) : (⟨l.toArray⟩ : Str).length = l.length := by simp [Str.length]
theorem len_app (a b : Str) : (a ++ b).length = a.length + b.length := by
  show (a.cps ++ b.cps).size = _
  rw [Array.size_append]
  rfl
theorem len_one (c : Nat) : (⟨#[c]⟩ : Str).length = 1 := rfl
/-! ### plain texts -/
def Asc (z : Str) : Prop := ∀ c ∈ z.cps.toList, c < 128
theorem asc_app {a b : Str} (ha : Asc a) (hb : Asc b) : Asc (a ++ b) := fun c h => by
  rw [show (a ++ b).cps.toList = a.cps.toList ++ b.cps.toList from tl_append a b] at h
  exact (List.mem_append.mp h).elim (ha c) (hb c)
theorem asc_cut {a : Str} (h : Asc a) (lo hi : Option Int) : Asc (cutS a lo hi) := fun c hc => by
  have e : c ∈ (a.cps.toList.drop (HT.sIx a.length 0 lo)).take (HT.sIx a.length a.length hi - HT.sIx a.length 0 lo) := by
    simpa [cutS] using hc
  exact h c (List.mem_of_mem_drop (List.mem_of_mem_take e))
theorem asc_one {c : Nat} (h : c < 128) : Asc ⟨#[c]⟩ := fun d hd => by
  have : d = c := by simpa using hd
  omega
theorem asc_lit {s : String} (h : (Str.ofString s).cps.toList.all (· < 128) = true) : Asc (Str.ofString s) := fun c hc => of_decide_eq_true (List.all_eq_true.mp h c hc)
theorem asc_mk {l : List Nat} (h : ∀ c ∈ l, c < 128) : Asc ⟨l.toArray⟩ := fun c hc => h c (by simpa using hc)
def spNumber : Sp := fun vs H Q _ => ∃ (p : Addr) (n : Int), vs = [.ref p] ∧ n ≤ 100000 ∧ BoxAt H p n ∧ ∀ (z : Int) H', z.natAbs < 2 ^ 133 → Sam p H H' → BoxAt H' p (n + 10) → Q (.int z) H'
def spString : Sp := fun vs H Q _ => ∃ (p : Addr) (n : Int), vs = [.ref p] ∧ n ≤ 100000 ∧ BoxAt H p n ∧ ∀ (z : Str) H', z.length ≤ 200 → Asc z → Sam p H H' → BoxAt H' p (n + 20) → Q (.str z) H'
def spIsMarkL : Sp := fun vs H Q _ => ∃ z : Str, vs = [.str z] ∧ z.length ≤ 200 ∧ Asc z ∧ ∀ H', Same H H' → Q (.bl (markS z)) H'
def spIsWordL : Sp := fun vs H Q _ => ∃ z : Str, vs = [.str z] ∧ z.length ≤ 200 ∧ Asc z ∧ ∀ H', Same H H' → Q (.bl (wordS z)) H'
def spIs : Sp := fun vs H Q _ => ∃ a b : Bool, vs = [.bl a, .bl b] ∧ Q (.bl (decide (a = b))) H
/-! ### one sign among written ones -/
theorem one_eq {c k : Nat} {s : String} (h : (Str.ofString s).cps.toList = [k]) : (Str.ofString s == (⟨#[c]⟩ : Str)) = decide (c = k) := by
  rw [Bool.eq_iff_iff, beq_iff_eq, decide_eq_true_eq]
  constructor
  · intro e
    rw [e] at h
    exact (List.cons.inj (show [c] = [k] from h)).1
  · intro e
    refine ext_tl ?_
    rw [show tl (Str.ofString s) = [k] from h, e]
def eqv_strs_nil : ∀ l : List Str, PyData.eqv (.list (l.map PyData.str)) (.list []) = decide (l = [])
  | [] => by simp [PyData.eqv, PyData.eqvAll]
  | _ :: _ => by simp [PyData.eqv, PyData.eqvAll]
theorem lay_strs : ∀ l : List Str, (∀ z ∈ l, PyData.strOk z = true) → PyData.canLayAll0 (l.map PyData.str) = true
  | [], _ => by simp [PyData.canLayAll0]
  | z :: r, h => by
    simp only [List.map_cons, PyData.canLayAll0, PyData.canLay0, Bool.and_eq_true]
    exact ⟨h z (by simp), lay_strs r fun y hy => h y (by simp [hy])⟩
theorem dep_strs : ∀ l : List Str, PyData.depthAll (l.map PyData.str) = 0
  | [] => by simp [PyData.depthAll]
  | z :: r => by
    have := dep_strs r
    simp only [List.map_cons, PyData.depthAll, PyData.depth]
    omega
theorem shaped_strs (l : List Str) (h : ∀ z ∈ l, PyData.strOk z = true) : SeqAt.shaped (.list (l.map PyData.str)) = true := by
  have h2 : PyData.depth (.list (l.map PyData.str)) ≤ 64 := by
    simp only [PyData.depth]
    rw [dep_strs]
    omega
  show (PyData.canLay0 (.list (l.map PyData.str)) && decide (PyData.depth (.list (l.map PyData.str)) ≤ 64)) = true
  rw [Bool.and_eq_true]
  exact ⟨by simp only [PyData.canLay0]; exact lay_strs l h, decide_eq_true h2⟩
theorem dp_strs {K : PySem.W.Frag} {H : Hp} : ∀ l : List Str, DpAll K H (l.map V.str) (l.map PyData.str)
  | [] => .nil
  | z :: r => .cons (.str z) (dp_strs r)
theorem strOk_asc {z : Str} (h : Asc z) : PyData.strOk z = true := by
  unfold PyData.strOk
  rw [Array.all_eq_true']
  intro c hc
  have := h c (by simpa using hc)
  exact decide_eq_true (by omega)
def spLaw (K : PySem.W.Frag) : Sp := fun vs H Q _ => ∃ (a : Addr) (ns : List Int), vs = [.ref a] ∧ SqL K H a (ns.map V.int) ∧ ns.length ≤ 63 ∧ ∀ H', Q (.bl true) H'
theorem log_of {z : Int} {k : Nat} (h : z.natAbs < 2 ^ k) (h0 : 0 < k) (hk : k ≤ 1920) : z.natAbs.log2 < 1920 := Nat.lt_of_lt_of_le (PySem.Flt.log2_lt_of h0 h) hk
/-- a value of one of the seven kinds that is no int -/
def NoInt (H : Hp) (v : V) : Prop := ∃ t, Ty7 H v t ∧ isIntV v = false
theorem inI_no {v : V} {lo hi : Int} (h : isIntV v = false) : inI v lo hi = false := by
  cases v with
  | int i => exact absurd (show true = false from h) (fun e => nomatch e)
  | _ => rfl
end RV

namespace RV
open PySem PySem.Spec PyProof.Rows L2 TL
theorem andV_go {ta tb : TE} {σ : L2.St} {H : Hp} {Q : VK} {c d : Bool} (ha : ∀ Q' : VK, (∀ H', Same H H' → Q' (.bl c) H') → ta σ H Q') (hb : ∀ (H' : Hp) (Q' : VK), Same H H' → (∀ H'', Same H' H'' → Q' (.bl d) H'') → tb σ H' Q')
    (k : ∀ H', Same H H' → Q (.bl (c && d)) H') : tAndV ta tb σ H Q := by
  refine ha _ fun H1 s1 => ⟨c, rfl, ?_⟩
  cases c with
  | true => exact iteT (hb H1 _ s1 fun H2 s2 => k H2 (s1.trans s2))
  | false => exact iteF (k H1 s1)
theorem BoxAt.up {H H' : Hp} {p : Addr} {n : Int} (b : BoxAt H p n) (s : Same H H') : BoxAt H' p n := by
  obtain ⟨x, y, z, e, r⟩ := b
  exact ⟨x, y, z, s _ _ e, r⟩
theorem Tok7.up {H H' : Hp} {v : V} {b : Bool} (h : Tok7 H v b) (s : Same H H') : Tok7 H' v b := by
  cases h with
  | odd h n => exact .odd (h.up s) n
  | len e n => exact .len (s _ _ e) n
  | two e hx hy => exact .two (s _ _ e) (hx.up s) (hy.up s)
theorem Tok7.eq {H : Hp} {v : V} {b c : Bool} (h : Tok7 H v b) (e : b = c) : Tok7 H v c := e ▸ h
theorem keep_box {H : Hp} {p q : Addr} {o u : HO} (h : H q = some u) (n : q ≠ p) : upd H p o q = some u := by
  rw [upd_ne n]
  exact h
/-- what the last loop's items are -/
inductive Odd7 (H : Hp) : V → Prop where
  | non : Odd7 H .non
  | bl (b : Bool) : Odd7 H (.bl b)
  | int (z : Int) : Odd7 H (.int z)
  | lst {a : Addr} {l : List Str} (e : H a = some (.lst (l.map V.str))) (o : ∀ z ∈ l, Asc z) : Odd7 H (.ref a)
  | one {a : Addr} {z : Str} (e : H a = some (.tup [V.str z])) (o : Asc z) : Odd7 H (.ref a)
  | two {a : Addr} (e : H a = some (.tup [V.str (Str.ofString "#0"), V.str (Str.ofString "a")])) : Odd7 H (.ref a)
  | dct {a : Addr} {kvs : List (Key × V)} (e : H a = some (.dK kvs)) : Odd7 H (.ref a)
theorem shaped_tups (l : List Str) (h : ∀ z ∈ l, PyData.strOk z = true) : SeqAt.shaped (.tuple (l.map PyData.str)) = true := by
  have h2 : PyData.depth (.tuple (l.map PyData.str)) ≤ 64 := by
    simp only [PyData.depth]
    rw [dep_strs]
    omega
  show (PyData.canLay0 (.tuple (l.map PyData.str)) && decide (PyData.depth (.tuple (l.map PyData.str)) ≤ 64)) = true
  rw [Bool.and_eq_true]
  exact ⟨by simp only [PyData.canLay0]; exact lay_strs l h, decide_eq_true h2⟩
/-- the keys of a written dict -/
def KeysAre : List DictEntry → List Str → Prop
  | [], [] => True
  | e :: r, k :: ks => (∃ t, e.key = .str k t) ∧ KeysAre r ks
  | _, _ => False
theorem keys_find : ∀ {l : List DictEntry} {ks : List Str} (z : Str), KeysAre l ks → (l.find? (·.key.isStr z)).isSome = decide (z ∈ ks) ∧ l.any (·.refKey) = false
  | [], [], z, _ => ⟨by simp, rfl⟩
  | e :: r, k :: ks, z, h => by
    obtain ⟨⟨t, h1⟩, h2⟩ := h
    obtain ⟨i1, i2⟩ := keys_find (l := r) (ks := ks) z h2
    have e1 : e.key.isStr z = decide (z = k) := by
      rw [h1, Bool.eq_iff_iff, decide_eq_true_eq]
      show (k == z) = true ↔ _
      rw [beq_iff_eq]
      exact eq_comm
    have e2 : e.refKey = false := by
      unfold DictEntry.refKey
      rw [h1]
    constructor
    · rw [List.find?_cons, e1]
      by_cases c : z = k
      · rw [decide_eq_true c]
        simp [c]
      · rw [decide_eq_false c, i1]
        simp [c]
    · rw [List.any_cons, e2, i2]
      rfl
theorem nsIn_keys {K : PySem.W.Frag} {d : Addr} {es : Array DictEntry} {n : Nat} {ks : List Str} (lk : K.lookup d = some ⟨.type "dict", none, .dict es n, #[]⟩) (h : KeysAre es.toList ks) (z : Str) :
    ∃ r, PySem.W.nsIn K d z = some r ∧ r.isSome = decide (z ∈ ks) := by
  obtain ⟨h1, h2⟩ := keys_find z h
  unfold PySem.W.nsIn
  rw [lk]
  cases q : es.toList.find? (·.key.isStr z) with
  | some e =>
    rw [q] at h1
    exact ⟨some e.val, by simp only [q], h1⟩
  | none =>
    rw [q] at h1
    refine ⟨none, ?_, h1⟩
    simp only [q]
    rw [h2]
    rfl
theorem take_small (X c : Int) (h0 : 0 ≤ c) (h1 : c ≤ 1000001) : (X.fmod 2147483647 + 104729 * c).natAbs < 2 ^ 64 := by
  rw [Int.fmod_eq_emod_of_nonneg _ (by decide)]
  have z1 := Int.emod_nonneg X (show (2147483647 : Int) ≠ 0 by decide)
  have z2 := Int.emod_lt_of_pos X (show (0 : Int) < 2147483647 by decide)
  omega
end RV
namespace RV
open PySem PySem.Spec PyProof.Rows L2 TL
theorem pg_tupK {X : Cx} {K : PySem.W.Frag} {es : List Expr} {k : Nat} {t : TGs} {n : Nat} {pos : Pos} (hK : X.K = K) (hc : X.calm = true) (h : PGs X es t)
    (hn : (assignEach es X.env).length = n := by rfl) (hst : (assignEach es X.env).findIdx? (·.1) = none := by rfl) : PG X (.Tuple es k pos) (gTup K n t) := by
  subst hK
  exact pg_tup hc h hn hst
/-- a, b = a list of that length -/
def gLst (K : PySem.W.Frag) (n : Nat) (t : TGs) : TG := fun v σ H Q => ∃ a xs, v = .ref a ∧ SqL K H a xs ∧ xs.length = n ∧ t xs σ H Q
theorem pg_lstK {X : Cx} {K : PySem.W.Frag} {es : List Expr} {k : Nat} {t : TGs} {n : Nat} {pos : Pos} (hK : X.K = K) (hc : X.calm = true) (h : PGs X es t)
    (hn : (assignEach es X.env).length = n := by rfl) (hst : (assignEach es X.env).findIdx? (·.1) = none := by rfl) : PG X (.Tuple es k pos) (gLst K n t) := by
  subst hK
  refine ⟨fun pins s σ H v u Q I r hw => ?_⟩
  obtain ⟨a, xs, e1, hq, hl, hw⟩ := hw
  subst e1
  cases r
  obtain ⟨its, rv, ht, hz⟩ := I.list hq
  rw [assign_Tuple]
  refine wpAny_bind (wpAny_standAt ?_)
  unfold unpack
  rw [show (assignEach es X.env).length = its.toArray.size from by simp [hn, ← hl, rv.length], hst]
  refine wpAny_bind (wpAny_holding (PySem.W.kun_itemsOf (I.ok.hd hc) ht.isList fun h' hx => ?_))
  have I1 : Inv X pins σ H { s with heap := h' } := I.kept (t' := s.toks) fun b o e => hx b o (Nat.ne_of_lt (Heap.lt_size e)) e
  exact h.run pins _ σ H xs _ Q I1 (by simpa using rv) hw
end RV

/-! defs that show data (repr): their promise asks that no showing is under way -/
namespace RV
open PySem PySem.Spec PyProof.Rows L2
structure FnG (P : Program) (w : World) (K : PySem.W.Frag) (mg : Str → Option Value) (base : Heap) (CX : CXT) (k : Nat) (f : Addr) (fd : FuncData) (ps : List Str) (sp : Sp) : Prop where
  lenG : ∀ vs H Q E, sp vs H Q E → vs.length = ps.length
  runG : ∀ (A : Around) (outer : List Env) (s : Shared) (H : Hp) (args : Args) (us : List Value) (vs : List V) (Q : VK) (E : XK),
    A.guards = some [] → Room k A → Env0 P w K mg base A outer s H → BindsTo s fd args (ps.zip us) → Vals vs us → sp vs H Q E →
    codeAny (model P w) A (.call (.ref f) args) (CR CX outer P w H s Q E) s
section
variable {P : Program} {w : World} {K : PySem.W.Frag} {mg : Str → Option Value} {base : Heap} {CX : CXT} {k : Nat} {f : Addr} {fd : FuncData} {ps : List Str} {sp : Sp}
theorem gOf (F : FnOk P w K mg base CX k f fd ps sp) : FnG P w K mg base CX k f fd ps sp :=
  ⟨F.len, fun A outer s H args us vs Q E _ => F.run A outer s H args us vs Q E⟩
theorem FnG.mono {j : Nat} (F : FnG P w K mg base CX j f fd ps sp) (h : j ≤ k) : FnG P w K mg base CX k f fd ps sp :=
  ⟨F.lenG, fun A outer s H args us vs Q E g r => F.runG A outer s H args us vs Q E g (r.mono h)⟩
/-- the end of a def's body as the end of its call -/
theorem backG {A : Around} {outer : List Env} {s : Shared} {H : Hp} {Q : VK} {E : XK} {N : List Str} {qual : Str} {scope : Scope} {cdv : Value} {fl : Flow} {s' : Shared}
    (h : SP (cxOf CX P w K mg base N qual scope f cdv A outer s H E) [] { nx := fun _ H' => Q .non H', rt := Q } fl s') :
    CR CX outer P w H s Q E (.ok (.ret (match (generalizing := false) fl with | .ret v => v | _ => .none))) s' := by
  cases fl with
  | next =>
    obtain ⟨_, H', J, q⟩ := h
    exact ⟨.non, H', J.os, J.bare, J.base, J.hok, rfl, q⟩
  | ret u =>
    obtain ⟨v, _, H', J, rv, q⟩ := h
    exact ⟨v, H', J.os, J.bare, J.base, J.hok, rv, q⟩
  | brk =>
    obtain ⟨_, _, _, q⟩ := h
    exact False.elim q
  | cont =>
    obtain ⟨_, _, _, q⟩ := h
    exact False.elim q
/-- a def of the text, its promise for calls while nothing is shown -/
theorem okG {x qual : Str} {st : Stmt} {N : List Str} (F : Fun K x qual st f fd) (S : FnScope N ps (defScope st)) (len : ∀ vs H Q E, sp vs H Q E → vs.length = ps.length)
    (hb : ∀ (cdv : Value) (A : Around) (outer : List Env) (s : Shared) (H : Hp) (vs : List V) (Q : VK) (E : XK), A.guards = some [] → Room k (A.deeper (envOfC qual (defScope st) s.heap.objs.size f cdv)) → sp vs H Q E →
      ∃ t, PSs (cxOf CX P w K mg base N qual (defScope st) f cdv A outer s H E).nox (defBody st) t ∧ t { nx := fun _ H' => Q .non H', rt := Q } (start N vs) H) : FnG P w K mg base CX (k + 1) f fd ps sp := by
  obtain ⟨oc, od, kV, doc, pm, an, cdv, ct, osl, rfl, lk, hcd⟩ := F.ex
  constructor
  · exact len
  intro A outer s H args us vs Q E hgu room en bnd rel pre
  have stay : ∀ b o, base.get? b = some o → s.heap.get? b = some o := fun b o e => (en.bs b o e).1
  have locals : ∀ y ∈ ps.zip us, (defScope st).names.lookup y.1 = some .local ∨ ((defScope st).names.lookup y.1 = some .cell ∧ ((cellsFrom (s.heap.objs.size + 1) (defScope st).names []).lookup y.1).isSome = true) := by
    rintro ⟨n, v⟩ hy
    exact (S.par n (List.of_mem_zip hy).1).imp id fun q => ⟨q, PySem.W.cellsFrom_some _ _ _ (.inl q)⟩
  have inK := en.mod.kin.keeps stay
  apply codeAny_call_function room.depth (inK _ _ lk) rfl S.co S.gen rfl (PySem.W.codeRec_of inK hcd) (bnd _ _ _ _ _)
  apply wpAny_newFunctionEnv_cells S.kind locals
  rintro env rfl s1 made
  obtain ⟨t, walks, holds⟩ := hb cdv A outer s H vs Q E hgu (room.deeper _) pre
  constructor
  · exact (en.mod.nolimit.keeps stay).keeps made.toInCall.keep
  apply codeAny_func
  exact wpAny_mono (walks.nox.run [] s1 (start N vs) H _ (inv_start S room.hd en (len _ _ _ _ pre) rel made) holds) (fun _ _ z => backG z) fun _ _ z => z
end
section
variable {X : Cx} {CX : CXT} {k : Nat} {f : Addr} {fd : FuncData} {ps : List Str} {sp : Sp} {ds : List Value} {dvs : List V} {E : XK}
/-- such a def called, from where nothing is shown -/
theorem runG {pins : List (Addr × Obj)} {σ : L2.St} {H : Hp} {s : Shared} {Q : VK} {us : List Value} {vs : List V} (hgu : X.A.guards = some []) (F : FnG X.prog X.w X.K X.mg X.base CX k f fd ps sp) (hr : Room k X.A) (hb : Binds X.K fd ps ds) (hd : Vals dvs ds) (hx : Passes CX X E)
    (I : Inv X pins σ H s) (rel : Vals vs us) (pre : sp (vs ++ dvs) H Q E) : wpAny (model X.prog X.w) X.A (call (.ref f) us) (EP X pins σ Q) X.xe s := by
  have all : Vals (vs ++ dvs) (us ++ ds) := rel.append hd
  have n : (us ++ ds).length = ps.length := all.length.symm.trans (F.lenG _ _ _ _ pre)
  apply wpAny_call
  apply codeAny_mono (F.runG X.A X.stack s H ⟨us, []⟩ (us ++ ds) (vs ++ dvs) Q E hgu hr I.env0 (hb s us I.kIn n) all pre)
  intro res s' z
  match res, z with
  | .error e, z => exact hx pins σ H s e s' I z
  | .ok (.ret u), z => exact I.after z
  | .ok .next, z => exact False.elim z
  | .ok .brk, z => exact False.elim z
  | .ok .cont, z => exact False.elim z
theorem pe_callG {x : Str} {e : Expr} {es : List Expr} {p pos : Pos} {t : TA} (hgu : X.A.guards = some []) (F : FnG X.prog X.w X.K X.mg X.base CX k f fd ps sp) (hr : Room k X.A) (hg : Gl X x) (hm : X.mg x = some (.ref f)) (hk : PySem.W.keepIn X.K (.ref f) = true) (hb : Binds X.K fd ps ds) (hd : Vals dvs ds) (hx : Passes CX X E)
    (ha : PA X (e :: es) t) (hdb : (x == ("__debug__" : Str)) = false := by decide) (he : starEach (e :: es) X.env = (false, eval e X.env) :: starEach es X.env := by rfl) (hpl : (backTo pos (starEach es X.env)).any (·.1) = false := by rfl) :
    PE X (.Call (.Name x p) (e :: es) [] pos) (tCall sp dvs E t) := by
  constructor
  intro pins s σ H Q I h
  apply wpAny_Call_Name_kw
  apply ld_glob I hg hm _ hdb
  apply PySem.W.callWith_K (h₀ := X.base) I.ok.mod.kin hk _ he hpl
  exact thn (ha.run pos pins s σ H _ I h) fun us s1 ⟨vs, H1, I1, r, q⟩ => ⟨I1.kIn, runG hgu F hr hb hd hx I1 r q⟩
end
end RV

/-! repr of data -/
namespace RV
open PySem PySem.Spec PyProof.Rows L2
mutual
/-- v stands for the data d, all of whose objects are tracked -/
inductive Dx (H : Hp) : V → PyData → Prop
  | non : Dx H .non .none
  | bl (b : Bool) : Dx H (.bl b) (.bool b)
  | int (i : Int) : Dx H (.int i) (.int i)
  | str (x : Str) : Dx H (.str x) (.str x)
  | lst {a : Addr} {xs : List V} {ds : List PyData} : H a = some (.lst xs) → DxAll H xs ds → Dx H (.ref a) (.list ds)
  | tup {a : Addr} {xs : List V} {ds : List PyData} : H a = some (.tup xs) → DxAll H xs ds → Dx H (.ref a) (.tuple ds)
  | dct0 {a : Addr} : H a = some (.dK []) → Dx H (.ref a) (.dict [])
inductive DxAll (H : Hp) : List V → List PyData → Prop
  | nil : DxAll H [] []
  | cons {v : V} {vs : List V} {d : PyData} {ds : List PyData} : Dx H v d → DxAll H vs ds → DxAll H (v :: vs) (d :: ds)
end
mutual
theorem Dx.up {H H' : Hp} (s : Same H H') : ∀ (d : PyData) (v : V), Dx H v d → Dx H' v d
  | .none, _, h => by cases h; exact .non
  | .bool b, _, h => by cases h; exact .bl b
  | .int i, _, h => by cases h; exact .int i
  | .str x, _, h => by cases h; exact .str x
  | .list ds, _, h => by
    cases h with
    | lst e r => exact .lst (s _ _ e) (DxAll.up s ds _ r)
  | .tuple ds, _, h => by
    cases h with
    | tup e r => exact .tup (s _ _ e) (DxAll.up s ds _ r)
  | .dict _, _, h => by
    cases h with
    | dct0 e => exact .dct0 (s _ _ e)
theorem DxAll.up {H H' : Hp} (s : Same H H') : ∀ (ds : List PyData) (vs : List V), DxAll H vs ds → DxAll H' vs ds
  | [], _, h => by cases h; exact .nil
  | d :: ds, _, h => by
    cases h with
    | cons h1 h2 => exact .cons (Dx.up s d _ h1) (DxAll.up s ds _ h2)
end
/-- the table of modules stands where it stood: nothing of the law's is there -/
def SysAt (H : Hp) : Prop := ∃ o, H sysModules = some (.frz o (.ext fun _ => True))
theorem SysAt.up {H H' : Hp} (h : SysAt H) (s : Same H H') : SysAt H' := by
  obtain ⟨o, e⟩ := h
  exact ⟨o, s _ _ e⟩
section
variable {X : Cx} {pins : List (Addr × Obj)} {σ : L2.St} {H : Hp} {s : Shared}
theorem not_sys (hs : SysAt H) {a : Addr} {u : HO} (e : H a = some u) (d : ∀ o, u ≠ .frz o (.ext fun _ => True)) : a ≠ sysModules := fun z => by
  obtain ⟨o, k⟩ := hs
  rw [z, k] at e
  exact d o (Option.some.inj e).symm
mutual
theorem Dx.reads (I : L2.Inv X pins σ H s) (hs : SysAt H) : ∀ (d : PyData) (v : V) (u : Value), Dx H v d → RelV v u → ∃ as, Reads s.heap u d as ∧ sysModules ∉ as
  | .none, _, _, h, r => by
    cases h
    cases r
    exact ⟨_, Reads.none, by simp⟩
  | .bool b, _, _, h, r => by
    cases h
    cases r
    exact ⟨_, Reads.bool b, by simp⟩
  | .int i, _, _, h, r => by
    cases h
    obtain ⟨t, rfl⟩ := r
    exact ⟨_, Reads.int i t, by simp⟩
  | .str x, _, _, h, r => by
    cases h
    obtain ⟨t, rfl⟩ := r
    exact ⟨_, Reads.str x t, by simp⟩
  | .list ds, _, _, h, r => by
    cases h with
    | lst e ha =>
      cases r
      obtain ⟨its, rv, ⟨o, n, ho, hc, _, hd⟩, _⟩ := I.list (SqL.of e)
      obtain ⟨as, hr, na⟩ := Dx.readsAll I hs ds _ its ha rv
      exact ⟨_, Reads.list ho hc hd hr, by simp [na, (not_sys hs e (fun o z => by cases z)).symm]⟩
  | .tuple ds, _, _, h, r => by
    cases h with
    | tup e ha =>
      cases r
      obtain ⟨its, rv, ⟨o, ho, hc, n, hd⟩, _⟩ := I.tuple (SqT.of e)
      obtain ⟨as, hr, na⟩ := Dx.readsAll I hs ds _ its ha rv
      exact ⟨_, Reads.tuple ho hc hd hr, na⟩
  | .dict _, _, _, h, r => by
    cases h with
    | @dct0 a e =>
      cases r
      obtain ⟨_, _, vs, kv, o, es, ep, h1, h2, h3, h4, h5, _⟩ := (show ObjOk X.prog X.w H s.heap a (.dK []) from I.hok a _ e)
      cases kv
      have e0 : es.toList = [] := by
        cases q : es.toList with
        | nil => rfl
        | cons x r =>
          rw [q] at h5
          cases h5
      refine ⟨_, Reads.dict (kvs := []) (as := []) (bs := []) h1 h2.1 h3 ?_ ?_, by simp [(not_sys hs e (fun o z => by cases z)).symm]⟩
      · rw [e0]
        exact .nil
      · rw [e0]
        exact .nil
theorem Dx.readsAll (I : L2.Inv X pins σ H s) (hs : SysAt H) : ∀ (ds : List PyData) (vs : List V) (us : List Value), DxAll H vs ds → Vals vs us → ∃ as, ReadsAll s.heap us ds as ∧ sysModules ∉ as
  | [], _, _, h, r => by
    cases h
    cases r
    exact ⟨_, ReadsAll.nil, by simp⟩
  | d :: ds, _, _, h, r => by
    cases h with
    | cons h1 h2 =>
      cases r with
      | cons r1 r2 =>
        obtain ⟨as, q1, n1⟩ := Dx.reads I hs d _ _ h1 r1
        obtain ⟨bs, q2, n2⟩ := Dx.readsAll I hs ds _ _ h2 r2
        exact ⟨_, ReadsAll.cons q1 q2, by simp [n1, n2]⟩
end
end
mutual
/-- room that the shown text has -/
def cost : PyData → Nat
  | .none => 4
  | .bool _ => 5
  | .int _ => 1921
  | .str x => 10 * x.length + 2
  | .list xs | .tuple xs => costAll xs + 3
  | .dict _ => 2
def costAll : List PyData → Nat
  | [] => 0
  | x :: xs => cost x + 2 + costAll xs
end
mutual
/-- data that can be shown: texts of plain signs, no great ints, dicts that are empty -/
def plainD : PyData → Prop
  | .none | .bool _ => True
  | .int i => i.natAbs.log2 < 1920
  | .str x => ∀ c ∈ x.cps.toList, c < 128
  | .list xs | .tuple xs => plainAll xs
  | .dict kvs => kvs = []
def plainAll : List PyData → Prop
  | [] => True
  | x :: xs => plainD x ∧ plainAll xs
end
mutual
theorem plain_show : ∀ d : PyData, plainD d → d.showable = true
  | .none, _ => by simp [PyData.showable]
  | .bool _, _ => by simp [PyData.showable]
  | .int i, h => by simpa [PyData.showable, plainD] using h
  | .str _, _ => by simp [PyData.showable]
  | .list xs, h => by
    simp only [PyData.showable]
    exact plain_showAll xs (by simpa only [plainD] using h)
  | .tuple xs, h => by
    simp only [PyData.showable]
    exact plain_showAll xs (by simpa only [plainD] using h)
  | .dict kvs, h => by
    simp only [plainD] at h
    subst h
    simp [PyData.showable, PyData.showableKv]
theorem plain_showAll : ∀ ds : List PyData, plainAll ds → PyData.showableAll ds = true
  | [], _ => by simp [PyData.showableAll]
  | d :: ds, h => by
    simp only [plainAll] at h
    simp only [PyData.showableAll, Bool.and_eq_true]
    exact ⟨plain_show d h.1, plain_showAll ds h.2⟩
end
mutual
theorem shown_cost : ∀ d : PyData, plainD d → d.shown.length ≤ cost d
  | .none, _ => by
    simp only [PyData.shown, cost]
    decide +kernel
  | .bool b, _ => by
    simp only [PyData.shown, cost]
    cases b <;> decide +kernel
  | .int i, h => by
    simp only [plainD] at h
    simp only [PyData.shown, cost]
    exact int_text_len_1921 h
  | .str x, h => by
    simp only [plainD] at h
    simp only [PyData.shown, cost]
    exact PySem.StrLaws.reprText_len x fun c hc => Nat.lt_trans (h c hc) (by decide)
  | .list xs, h => by
    simp only [plainD] at h
    simp only [PyData.shown, cost]
    have h1 := listText_len_le (PyData.shownAll xs)
    have h2 := shown_costAll xs h
    omega
  | .tuple xs, h => by
    simp only [plainD] at h
    simp only [PyData.shown, cost]
    have h1 := tupleText_len_le (PyData.shownAll xs)
    have h2 := shown_costAll xs h
    omega
  | .dict kvs, h => by
    simp only [plainD] at h
    subst h
    simp only [PyData.shown, cost]
    decide +kernel
theorem shown_costAll : ∀ ds : List PyData, plainAll ds → ((PyData.shownAll ds).map (·.length)).sum + 2 * (PyData.shownAll ds).length ≤ costAll ds
  | [], _ => by simp [PyData.shownAll, costAll]
  | d :: ds, h => by
    simp only [plainAll] at h
    have h1 := shown_cost d h.1
    have h2 := shown_costAll ds h.2
    simp only [PyData.shownAll, costAll, List.map_cons, List.sum_cons, List.length_cons]
    omega
end
section
variable {X : Cx}
def rRep : List V → Hp → VK → Prop := fun xs H Q => ∃ v d, xs = [v] ∧ SysAt H ∧ Dx H v d ∧ d.depth ≤ 60 ∧ plainD d ∧ cost d ≤ sizeLine ∧ Q (.str d.shown) H
theorem call_repr (hgu : X.A.guards = some []) (hu : X.A.units + 64 < cLine) : CallR X (.builtin "repr") rRep := by
  intro pins s σ H xs us Q I r h
  obtain ⟨v, d, rfl, hs, dx, dep, pl, co, q⟩ := h
  obtain ⟨u, rfl, ru⟩ := vals1 r
  have sz := Nat.le_trans (shown_cost d pl) co
  have fin : ∀ (h' : Heap) (u : Tok) (tk : Nat), (∀ b o, s.heap.get? b = some o → h'.get? b = some o) → EP X pins σ Q (.str d.shown u) { s with heap := h', toks := tk } :=
    fun h' u tk hk => ⟨.str d.shown, H, I.kept hk, ⟨u, rfl⟩, q⟩
  have ref : ∀ a, u = .ref a → wpAny (model X.prog X.w) X.A (call (.builtin "repr") [u]) (EP X pins σ Q) X.xe s := fun a e => by
    subst e
    obtain ⟨as, rd, ns⟩ := Dx.reads I hs d v _ dx ru
    exact repr_of_reads' rd (plain_show d pl) (fun _ => ns) hgu (by omega) (fun _ _ e => e) fin sz
  cases dx with
  | non =>
    cases ru
    exact PySem.P.repr_of_none (fin s.heap _ _ fun _ _ e => e)
  | bl b =>
    cases ru
    cases b <;> exact PySem.P.repr_of_bool (fin s.heap _ _ fun _ _ e => e)
  | int i =>
    obtain ⟨t, rfl⟩ := ru
    exact PySem.P.repr_of_int pl (fin s.heap _ _ fun _ _ e => e)
  | str x =>
    obtain ⟨t, rfl⟩ := ru
    exact PySem.P.repr_of_str (fin s.heap _ _ fun _ _ e => e) sz
  | lst e r => exact ref _ ru
  | tup e r => exact ref _ ru
  | dct0 e => exact ref _ ru
end
end RV

set_option maxHeartbeats 2000000
/-! own exceptions over ValueError (through own classes) whose __init__ says super().__init__('..') and then stores its one argument -/
namespace PySem
namespace SupX
open PySem.W PySem.Calls PyProof.Rows PySem.HandSPX
def supA (fld : Str) (p1 p2 : Pos) : Arguments := { posonlyargs := [], args := [{ arg := "self", annotation := none, pos := p1 }, { arg := fld, annotation := none, pos := p2 }], vararg := none, kwonlyargs := [], kw_defaults := [], kwarg := none, defaults := [] }
def supB (msg fld : Str) (k0 : Nat) (a1 a2 a3 a4 a5 a6 q1 q2 q3 q4 : Pos) : List Stmt :=
  [.Expr (.Call (.Attribute (.Call (.Name "super" a1) [] [] a2) "__init__" a3) [.Constant (.str msg) k0 a4] [] a5) a6, .Assign [.Attribute (.Name "self" q1) fld q2] (.Name fld q3) q4]
def supS (fld : Str) : Scope := { kind := .function, names := [(PySem.Str.ofString "self", .local), (fld, .local), (PySem.Str.ofString "__class__", .free), (PySem.Str.ofString "super", .globalImplicit)], isGenerator := false, isCoroutine := false, more := [] }
/-- a field's name -/
structure Fld (fld : Str) : Prop where
  loc : (supS fld).names.lookup fld = some .local
  cls : (supS fld).names.lookup (PySem.Str.ofString "__class__") = some NameKind.free
  sup : (supS fld).names.lookup (PySem.Str.ofString "super") = some NameKind.globalImplicit
  nd : (fld == ("__debug__" : Str)) = false
  ns : (PySem.Str.ofString "self" == fld) = false
  bd : ∀ (qual : Str) (B : List Stmt) (doc pm : Value) (an : Option Addr) (cda ct : Value) (cc : Addr) (p1 p2 : Pos) (a b : Value), bindArgs (ksFn "__init__" qual (supA fld p1 p2) B (supS fld) .none .none doc pm an cda ct cc) ⟨[a, b], []⟩ = pure [(PySem.Str.ofString "self", a), (fld, b)]
/-- what the written part says of the class x, at C, and of its __init__, at fI -/
structure SupTxt (prog : Program) (K : Frag) (mg : Str → Option Value) (x qual fld msg : Str) (C fI : Addr) : Prop where
  gC : mg x = some (.ref C)
  cls : ∃ nm q N bs bm sn sub ab col dd k0 k1 k2 k3 k5, K.lookup C = some (excClassObj nm q C N bs bm true sn sub ab col dd k0 k1 k2 k3 k5 "ValueError.__new__") ∧ refsVE bm = true
  sa : findIn K (.ref C) "__setattr__" = some (some (.builtin "object.__setattr__"))
  ga : findIn K (.ref C) "__getattribute__" = some (some (.builtin "BaseException.__getattribute__"))
  gg : findIn K (.ref C) "__getattr__" = some none
  noN : findIn K (.ref C) fld = some none
  iC : findIn K (.ref C) "__init__" = some (some (.ref fI))
  tC : typeIn K (.ref fI) = some (.type "function")
  kC : keepIn K (.ref C) = true
  exC : subIn K (.ref C) (.type "BaseException") = some true
  veC : subIn K (.ref C) (.type "ValueError") = some true
  meC : mroIn K C (.ref C) = some true
  tyC : typeIn K (.ref C) = some (.type "type")
  hdC : hasDictIn K C = true
  te : exmOne K (.ref C) (.ref C) = some true
  su : ks_superIn K C C "__init__" = some (some (.builtin "ValueError.__init__"))
  xi : excInitIn K C veTail "ValueError.__new__" = true
  tp : nsIn K cStatics "thirdparty.any" = some none
  sm : mg "super" = none
  fn : ∃ (oc : Value) (od : Option Addr) (doc pm : Value) (an : Option Addr) (cda cc : Addr) (ct : Value) (osl : Array (Option Value)) (k0 : Nat) (p1 p2 a1 a2 a3 a4 a5 a6 q1 q2 q3 q4 : Pos) (cl : Value) (cld : Option Addr) (csl : Array (Option Value)) (ccl : Value) (cdd : Option Addr) (vs : Array Value) (ccs : Array (Option Value)) (file : Str) (tf : Tok),
    K.lookup fI = some ⟨oc, od, .func (ksFn "__init__" qual (supA fld p1 p2) (supB msg fld k0 a1 a2 a3 a4 a5 a6 q1 q2 q3 q4) (supS fld) .none .none doc pm an (.ref cda) ct cc), osl⟩ ∧ codeIn K (.ref cda) qual = true ∧
    K.lookup cc = some ⟨cl, cld, .cell (some (.ref C)), csl⟩ ∧ K.lookup cda = some ⟨ccl, cdd, .fields vs, ccs⟩ ∧ vs[2]? = some (.str file tf) ∧ ((prog.main.file : Str) == file) = true ∧ (a3.endLine == a5.line) = true
  top : (prog.main.scope.names.lookup ("super" : Str)).isSome = false
theorem one_size (v : Value) : [v].length ≤ sizeLine := by
  rw [sizeLine_eq]
  exact (by decide : 1 ≤ 16777216)
/-- what __init__ leaves of a fresh exception at x -/
structure InitEnd (fld : Str) (h h' : Heap) (x C dx t1 : Addr) (v : Value) : Prop where
  keep : ∀ b o, b ≠ x → h.get? b = some o → h'.get? b = some o
  obj : h'.get? x = some { cls := .ref C, dict := some dx, data := .fields #[.ref t1, .none, .none, .none, .bool false, .none] }
  dbig : h.objs.size ≤ dx
  dne : dx ≠ x
  ns : h'.Ns1 dx (fun y => if y = fld then some v else none)
/-- the call super().__init__('..') as its steps -/
theorem sup_call {a1 a2 a3 a5 : Pos} (hline : (a3.endLine == a5.line) = true) (e : Expr) (env : Env) (he : methodCallForm 1 (backTo a5 (starEach [e] env)) [] = true) : eval (.Call (.Attribute (.Call (.Name "super" a1) [] [] a2) "__init__" a3) [e] [] a5) env = (do
      let ov ← attributeBase (.Call (.Name "super" a1) [] [] a2) "__init__" env (eval (.Call (.Name "super" a1) [] [] a2) env)
      standAt a3.atName
      let (f, first) ← holding [ov] (getMethod ov "__init__" (do return (← importBound (.Call (.Name "super" a1) [] [] a2) env).getD true))
      callWith a5 f first (backTo a5 (starEach [e] env)) []) := by
  show (do
      let ov ← attributeBase (.Call (.Name "super" a1) [] [] a2) "__init__" env (eval (.Call (.Name "super" a1) [] [] a2) env)
      standAt a3.atName
      methodCall (.Call (.Name "super" a1) [] [] a2) "__init__" a3 a5 env ov 1 (backTo a5 (starEach [e] env)) []) = _
  unfold methodCall methodCallPos calleeOf
  simp only [he, hline, Bool.not_true, Bool.false_or, if_true, pure_bind]
/-- a made exception -/
structure OwnMade (fld : Str) (h h' : Heap) (e C d : Addr) (v : Value) : Prop where
  keep : ∀ b o, h.get? b = some o → h'.get? b = some o
  new : h.objs.size ≤ e
  obj : ∃ oe vs, h'.get? e = some oe ∧ oe.cls = .ref C ∧ oe.dict = some d ∧ oe.data = .fields vs ∧ vs[1]? = some .none
  dbig : h.objs.size ≤ d
  dne : d ≠ e
  ns : h'.Ns1 d (fun y => if y = fld then some v else none)
section
variable {prog : Program} {w : World} {A : Around} {E : Value → Shared → Prop} {R : Result → Shared → Prop} {s : Shared} {K : Frag} {mg mb : Str → Option Value} {x qual fld msg : Str} {C fI : Addr}
theorem sup_init (T : SupTxt prog K mg x qual fld msg C fI) (Fd : Fld fld) {x t0 : Addr} {v : Value} (X : K.In s.heap) (hg : s.heap.Ns mainGlobals mg) (hb : s.heap.Ns builtinsNs mb) (hbb : ∀ x : Str, x ≠ "__name__" → mb x = bootBuiltins x) (hlim : s.heap.NoLimit) (hx : s.heap.get? x = some (excO C t0)) (hnx : K.lookup x = none) (hroom : A.depth < recursionLimit)
    (hq : ∀ h' tk dx t1, InitEnd fld s.heap h' x C dx t1 v → R (.ok (.ret .none)) { s with heap := h', toks := tk }) :
    codeAny (model prog w) A (.call (.ref fI) ⟨[.ref x, v], []⟩) R s := by
  obtain ⟨oc, od, doc, pm, an, cda, cc, ct, osl, k0, p1, p2, a1, a2, a3, a4, a5, a6, q1, q2, q3, q4, cl, cld, csl, ccl, cdd, vs, ccs, file, tf, ho, hcd, hcell, hcode, hvs, hfile, hline⟩ := T.fn
  obtain ⟨nm, q, N, bs, bm, sn, sub, ab, col, dd, z0, z1, z2, z3, z5, hC, hbm⟩ := T.cls
  have hcl : clsIn K C = some { name := nm, bases := bs, mro := .ref C :: bm, ns := N, qualname := q, hasDict := true, slotNames := sn, subclasses := sub, abstract := ab, collection := col, hasDel := false } := by unfold clsIn; rw [hC] <;> rfl
  have hself : (List.reverse [(PySem.Str.ofString "self", Value.ref x), (fld, v)]).lookup (PySem.Str.ofString "self") = some (.ref x) := by
    show List.lookup (PySem.Str.ofString "self") [(fld, v), (PySem.Str.ofString "self", Value.ref x)] = _
    simp [List.lookup, Fd.ns]
  have hfld : (List.reverse [(PySem.Str.ofString "self", Value.ref x), (fld, v)]).lookup fld = some v := by
    show List.lookup fld [(fld, v), (PySem.Str.ofString "self", Value.ref x)] = _
    simp [List.lookup]
  refine ks_codeAny_call_defAt (fd := ksFn "__init__" qual (supA fld p1 p2) (supB msg fld k0 a1 a2 a3 a4 a5 a6 q1 q2 q3 q4) (supS fld) .none .none doc pm an (.ref cda) ct cc) (body := supB msg fld k0 a1 a2 a3 a4 a5 a6 q1 q2 q3 q4)
    (binds := [(PySem.Str.ofString "self", .ref x), (fld, v)]) hroom (X _ _ ho) rfl hlim (codeRec_of X hcd) rfl (BindsTo.of_eq (Fd.bd _ _ _ _ _ _ _ _ _ _ _ _)) (fun y hy => ?_) (fun y hy => ?_) (fun h₁ hns k => ?_) rfl rfl rfl
  · simp only [ksFn, fnX, supS, List.mem_cons, List.not_mem_nil, or_false] at hy
    rcases hy with rfl | rfl | rfl | rfl <;> (intro z; cases z)
  · simp only [List.mem_cons, List.not_mem_nil, or_false] at hy
    rcases hy with rfl | rfl
    · rfl
    · exact Fd.loc
  obtain ⟨hh, g, d, tk, os⟩ := s
  have hL : hh.objs.size ≠ x := Nat.ne_of_gt (Heap.lt_size hx)
  have X₁ : K.In h₁ := X.keeps k
  have hx₁ := k _ _ hx
  -- the frame, over all but the exception
  have X₀ : K.In (hideAll hh [x]) := fun b o e => hideAll_get [x] (X b o e) (fun z => by
    rw [List.mem_singleton] at z
    rw [z, hnx] at e
    cases e)
  have F₁ : Fr (hideAll hh [x]) hh.objs.size h₁ (fun y => (List.reverse [(PySem.Str.ofString "self", Value.ref x), (fld, v)]).lookup y) := ⟨hns, fun b o e => k b o (of_hideAll _ e), Nat.le_of_eq (hideAll_size _ _)⟩
  have N₁ : News (hideAll hh [x]) hh.objs.size h₁ [(x, excObj C t0 none .none)] := fun p hp => by
    rw [List.mem_singleton] at hp
    subst hp
    exact ⟨hx₁, fun z => hL z.symm, hideAll_none [x] (List.mem_singleton.mpr rfl)⟩
  show _root_.PySem.wpAt (model prog w) (A.deeper (ksEnv qual (supS fld) hh.objs.size fI (.ref cda) cc)) (.func (supB msg fld k0 a1 a2 a3 a4 a5 a6 q1 q2 q3 q4) (ksEnv qual (supS fld) hh.objs.size fI (.ref cda) cc)) (execs (supB msg fld k0 a1 a2 a3 a4 a5 a6 q1 q2 q3 q4) (ksEnv qual (supS fld) hh.objs.size fI (.ref cda) cc)) _ _ _
  refine ks_wpAt_execs_cons (ks_wpAt_Expr_any (ks_wpAt_MethodCall ?_ (sup_call hline _ _ rfl)))
  refine ks_wpAt_super_base (env := ksEnv qual (supS fld) hh.objs.size fI (.ref cda) cc) Fd.sup Fd.cls (by decide) rfl (X₁ _ _ ho) rfl rfl rfl (X₁ _ _ hcode) rfl hvs hfile T.top ?_
  refine ks_loadName_global rfl Fd.sup (loadGlobal_builtin (env := ksEnv qual (supS fld) hh.objs.size fI (.ref cda) cc) (hg.keeps k) T.sm (hb.keeps k) ((hbb _ (by decide +kernel)).trans PyProof.Rows.Boot.«super») ⟨rfl, ?_⟩)
  refine wpAny_loadName_free rfl Fd.cls rfl ⟨_, X₁ _ _ hcell, rfl⟩ ?_
  refine wpAny_loadName_local rfl rfl hns hself ?_
  refine ks_wpAny_isType_cls (X₁ _ _ hC) rfl ⟨rfl, ?_⟩
  refine ks_wpAny_call_super (X₁ _ _ hC) rfl hx₁ rfl (fun c e => by cases e) (looks_mroIn X₁ T.meC) (fun h₂ hso k₂ => ?_)
  obtain ⟨F₂, N₂, l₂⟩ := ks_newsPush (s := ⟨h₁, g, d, tk + 2, os⟩) F₁ N₁ rfl hso k₂
  have I₂ : InstAt h₂ x (excObj C t0 none .none) C none := ⟨(N₂ (x, excObj C t0 none .none) (by simp)).1, rfl, rfl, trivial⟩
  refine kxs_method (s := ⟨h₂, g, d, _, os⟩) kxs_ValueError F₂ X₀ N₂ (so := h₁.objs.size) (D := C) (by simp) I₂ T.tp T.su T.veC (by decide) (fun u h₃ F₃ N₃ l₃ => ?_)
  refine kxs_callWith1 (s := ⟨h₃, g, d, _, os⟩) N₃ (u := u) (i := "ValueError.__init__") (x := x) (by simp) ?_
  show wpAny _ _ (spliced ((false, eval (Expr.Constant (Const.str msg) k0 a4) (ksEnv qual (supS fld) hh.objs.size fI (.ref cda) cc)) :: [])) _ _ _
  refine Calls.spliced_cons (Calls.Constant_str (Calls.spliced_nil ⟨(N₃ (u, kxs_mw "ValueError.__init__" x) (by simp)).1, ?_⟩))
  refine kxs_call (s := ⟨h₃, g, d, _, os⟩) (u := u) (x := x) (t := t0) (dv := none) (c2 := .none) F₃ X₀ N₃ F.excBase_ValueError T.xi (by simp) (.tail ?_ (.tail ?_ (.head fun p hp => by cases hp))) (one_size _) (fun t1 h₄ F₄ N₄ l₄ => ?_)
  · exact fun z => absurd (l₃ (x, excObj C t0 none .none) (by simp)) (by rw [← z]; exact Nat.lt_irrefl _)
  · exact fun z => absurd (l₂ (x, excObj C t0 none .none) (by simp)) (by rw [← z]; exact Nat.lt_irrefl _)
  -- self.f = f
  have hx₄ : h₄.get? x = some (excO C t1) := (N₄ (x, excObj C t1 none .none) (by simp)).1
  have keep₄ : ∀ b o, b ≠ x → hh.get? b = some o → h₄.get? b = some o := fun b o hb e => F₄.keep b o (hideAll_get [x] e (fun z => hb (List.mem_singleton.mp z)))
  have X₄ : K.In h₄ := X₀.keeps F₄.keep
  refine ks_wpAt_execs_cons (ks_wpAt_Assign_Attr (wpAt_of_wpAny ?_) rfl)
  · refine wpAny_Name (wpAny_loadName_local (env := ksEnv qual (supS fld) hh.objs.size fI (.ref cda) cc) rfl Fd.loc F₄.ns hfld ?_) Fd.nd
    refine wpAny_Name (wpAny_loadName_local (env := ksEnv qual (supS fld) hh.objs.size fI (.ref cda) cc) rfl rfl F₄.ns hself ?_) (by decide)
    refine set_plain X₄ (ox := excO C t1) (od := none) ⟨hx₄, rfl, rfl, trivial⟩ T.sa ?_
    refine exc_osa X₄ hx₄ hcl (show refsVE (.ref C :: bm) = true from hbm) rfl T.noN (fun h₅ tk₅ dx k₅ dn dne hx₅ hn₅ => ?_)
    refine wpAt_of_wpAny (wpAny_execs_nil (hq h₅ tk₅ dx t1 ⟨fun b o hb e => k₅ b o hb (keep₄ b o hb e), hx₅, ?_, dne, hn₅⟩))
    exact Nat.le_of_lt (Nat.lt_of_lt_of_le F₄.ns.lt dn)
theorem sup_made (T : SupTxt prog K mg x qual fld msg C fI) (Fd : Fld fld) {v : Value} (X : K.In s.heap) (hg : s.heap.Ns mainGlobals mg) (hb : s.heap.Ns builtinsNs mb) (hbb : ∀ x : Str, x ≠ "__name__" → mb x = bootBuiltins x) (hlim : s.heap.NoLimit) (hroom : A.depth + 1 < recursionLimit)
    (hq : ∀ h' tk e d, OwnMade fld s.heap h' e C d v → R (.ok (.ret (.ref e))) { s with heap := h', toks := tk }) :
    codeAny (model prog w) A (.call (.ref C) ⟨[v], []⟩) R s := by
  obtain ⟨nm, q, N, bs, bm, sn, sub, ab, col, dd, k0, k1, k2, k3, k5, hC, hbm⟩ := T.cls
  obtain ⟨hp, g, dr, tk, os⟩ := s
  have k : ∀ b o, hp.get? b = some o → ((hp.push (kdv_tup [v])).push (excO C hp.objs.size)).get? b = some o := fun b o e => Heap.get?_push_of_some _ (Heap.get?_push_of_some _ e)
  have hget : ((hp.push (kdv_tup [v])).push (excO C hp.objs.size)).get? (hp.objs.size + 1) = some (excO C hp.objs.size) := by heap_get
  have hnx : K.lookup (hp.objs.size + 1) = none := by
    cases e : K.lookup (hp.objs.size + 1) with
    | none => rfl
    | some o =>
      have z : hp.get? (hp.objs.size + 1) = some o := X _ _ e
      exact absurd (Nat.lt_of_succ_lt (Heap.lt_size z)) (Nat.lt_irrefl _)
  refine call_own F.excBase_ValueError (fun X => refsVE_contains X bm hbm) (X _ _ hC) (looks_findIn X T.iC) (fun self => bind_fn X self T.tC) (one_size v) ?_
  refine sup_init (s := ⟨(hp.push (kdv_tup [v])).push (excO C hp.objs.size), g, dr, tk, os⟩) T Fd (X.keeps k) (hg.keeps k) (hb.keeps k) hbb (hlim.keeps k) hget hnx ?_ fun h' tk' dx t1 ⟨k', hx, dn, dne, hns⟩ => ?_
  · show A.depth + 1 < recursionLimit
    exact hroom
  · have old : ∀ b o, hp.get? b = some o → h'.get? b = some o := fun b o e => k' b o (Nat.ne_of_lt (Nat.lt_succ_of_lt (Heap.lt_size e))) (k b o e)
    have z : hp.objs.size + 1 + 1 ≤ dx := by
      first
        | (simpa only [Heap.size_push] using dn)
        | exact dn
        | (have q := dn; rw [Heap.size_push, Heap.size_push] at q; exact q)
    exact ⟨rfl, hq h' tk' (hp.objs.size + 1) dx ⟨old, Nat.le_succ _, ⟨_, _, hx, rfl, rfl, rfl, rfl⟩, Nat.le_trans (Nat.le_trans (Nat.le_succ _) (Nat.le_succ _)) z, dne, hns⟩⟩
end
end SupX
end PySem
namespace RV
open PySem PySem.Spec PyProof.Rows L2
theorem relO_sup {fld : Str} {v : V} {v' : Value} (r : RelV v v') (f : Str) : RelO (List.lookup f [(fld, v)]) (if f = fld then some v' else none) := by
  by_cases hw : f = fld
  · subst hw
    rw [if_pos rfl]
    have q : List.lookup f [(f, v)] = some v := by simp [List.lookup]
    rw [q]
    exact r
  · rw [if_neg hw]
    have qw : (f == fld) = false := by simpa using hw
    have q2 : List.lookup f [(fld, v)] = none := by simp [List.lookup, qw]
    rw [q2]
    trivial
section
variable {X : Cx} {x qual fld msg : Str} {C fI : Addr}
/-- x(e) -/
def tMkSup (fld : Str) (C : Addr) (ta : TA) : L2.St → Hp → XK → Prop := fun σ H Q => ta σ H fun vs H1 => ∃ v, vs = [v] ∧ ∀ d, H1 d = none → Q (.ref C) (some d) (upd H1 d (.xd [(fld, v)]))
theorem pmk_sup {a : Expr} {ta : TA} {p pos : Pos} {k : Nat} (T : PySem.SupX.SupTxt X.prog X.K X.mg x qual fld msg C fI) (Fd : PySem.SupX.Fld fld) (hr : Room k X.A) (ha : PA X [a] ta) (hg : Gl X x := by rfl)
    (he : starEach (a :: []) X.env = (false, eval a X.env) :: starEach [] X.env := by rfl) (hpl : (backTo pos (starEach [] X.env)).any (·.1) = false := by rfl) (hdb : (x == ("__debug__" : Str)) = false := by decide) :
    PMk X (.Call (.Name x p) [a] [] pos) (tMkSup fld C ta) := by
  intro pins s σ H Q I h
  refine wpAny_Call_Name_kw (ld_glob I hg T.gC ?_ hdb)
  refine PySem.W.callWith_K (h₀ := X.base) I.ok.mod.kin T.kC (thn (ha.run pos pins s σ H _ I h) fun us s1 hh => ?_) he hpl
  obtain ⟨vs, H1, I1, r1, v, ev, q1⟩ := hh
  subst ev
  refine ⟨I1.kIn, ?_⟩
  cases r1 with
  | cons rv rn =>
    rename_i v' us'
    cases rn
    show wpAny _ _ (call (.ref C) [v']) _ _ _
    have hlim := I1.nolimit
    have kb : ∀ b o, X.base.get? b = some o → s1.heap.get? b = some o := fun b o e => (I1.env0.bs b o e).1
    obtain ⟨mb, hb, hbb⟩ := I1.ok.mod.blt
    have hglob := I1.ok.mod.glob.keeps kb
    have hbl := hb.keeps kb
    obtain ⟨hp, g, dr, tk, os⟩ := s1
    refine wpAny_call (PySem.SupX.sup_made T Fd I1.kIn hglob hbl hbb hlim (by have := hr.dp; omega) fun h' tk' e d M => ?_)
    show MkP X pins σ Q (.ref e) ⟨h', g, dr, tk', os⟩
    obtain ⟨oe, fv, hoe, hc, hd, hdat, h1⟩ := M.obj
    have hns := M.ns
    obtain ⟨G', g1, g2⟩ := restrict h' fun b => decide (b ≠ e)
    have gk : ∀ b, b ≠ e → G'.get? b = h'.get? b := fun b hb => g1 b (decide_eq_true hb)
    have ge : G'.get? e = none := g2 e (by simp)
    have old : ∀ b o, hp.get? b = some o → G'.get? b = some o := fun b o q => (gk b (Nat.ne_of_lt (Nat.lt_of_lt_of_le (Heap.lt_size q) M.new))).trans (M.keep b o q)
    have ob : ObjOk X.prog X.w (upd H1 d (.xd [(fld, v)])) G' d (.xd [(fld, v)]) :=
      ⟨_, hns.at (fun o q => (gk d M.dne).trans q), fun f => relO_sup rv f⟩
    have J : Inv X pins σ (upd H1 d (.xd [(fld, v)])) ⟨G', g, dr, tk', os⟩ := I1.laid (t' := tk') old M.dbig ob
    refine ⟨e, oe, fv, ⟨G', g, dr, tk', os⟩, _, .ref C, some d, rfl, J, fun b o q => ?_, ge, hoe, ⟨hc, hd⟩, hdat, h1, ?_, rfl, I1.bare, raises_own T.exC T.tyC, q1 d (I1.hok.fresh M.dbig)⟩
    · by_cases hb : b = e
      · have q' : G'.get? b = some o := q
        rw [hb, ge] at q'; cases q'
      · exact (gk b hb).symm.trans q
    · rw [upd_ne (Ne.symm M.dne)]
      exact I1.hok.fresh M.new
/-- raise x(e) -/
def tRaiseSup (fld : Str) (C : Addr) (W : WX) (ta : TA) : TS := fun _ σ H => tMkSup fld C ta σ H fun cls d H' => W cls d σ H'
theorem ps_raiseSup {a : Expr} {ta : TA} {W : WX} {p pos pos2 : Pos} {k : Nat} (hc : X.calm = true) (T : PySem.SupX.SupTxt X.prog X.K X.mg x qual fld msg C fI) (Fd : PySem.SupX.Fld fld) (hr : Room k X.A) (tk : Takes X W) (ha : PA X [a] ta) (hg : Gl X x := by rfl)
    (he : starEach (a :: []) X.env = (false, eval a X.env) :: starEach [] X.env := by rfl) (hpl : (backTo pos (starEach [] X.env)).any (·.1) = false := by rfl) (hdb : (x == ("__debug__" : Str)) = false := by decide) :
    PS X (.Raise (some (.Call (.Name x p) [a] [] pos)) none pos2) (tRaiseSup fld C W ta) := ps_raise hc tk (pmk_sup T Fd hr ha hg he hpl hdb)
/-- e.f, e the exception that the suite holds (at a; its class cls, its dict d) -/
def tBySup (fld : Str) (C : Addr) (a : Addr) (cls : Value) (d : Option Addr) (te : TE) : TE := fun σ H Q => te σ H fun x H1 => x = .ref a ∧ cls = .ref C ∧ ∃ (dd : Addr) (v : V), d = some dd ∧ H1 dd = some (.xd [(fld, v)]) ∧ Q v H1
theorem pe_bySup {a : Addr} {oe : Obj} {cls : Value} {d : Option Addr} {pn : List (Addr × Obj)} {e : Expr} {te : TE} {pos : Pos} (T : PySem.SupX.SupTxt X.prog X.K X.mg x qual fld msg C fI) (hz : Zc cls d oe) (hf : ∃ vs, oe.data = .fields vs) (he : PE (X.suite a ((a, oe) :: pn)) e te)
    (hb : attributeBase e fld X.env (eval e X.env) = eval e X.env := by rfl) :
    PE (X.suite a ((a, oe) :: pn)) (.Attribute e fld pos) (tBySup fld C a cls d te) := by
  refine ⟨fun pins s σ H Q I h => ?_⟩
  refine attr_of hb (thn (he.run pins s σ H _ I h) fun u s1 hh => ?_)
  obtain ⟨x, H1, I1, rx, ex, ec, dd, v, ed, ea, q⟩ := hh
  subst ex
  obtain rfl : u = Value.ref a := rx
  subst ec
  subst ed
  obtain ⟨ha, _⟩ := I1.pin (a, oe) (List.mem_append_left _ List.mem_cons_self)
  obtain ⟨vs, hd⟩ := hf
  have hx : ObjOk X.prog X.w H1 s1.heap dd (.xd [(fld, v)]) := I1.hok dd _ ea
  obtain ⟨mA, hns, hr⟩ := hx
  obtain ⟨od, ho, hl⟩ := lookIn_ns hns
  have l : List.lookup fld [(fld, v)] = some v := by simp [List.lookup]
  obtain ⟨u, hu, ru⟩ := RelO.some_of (v := v) (o := mA fld) (by rw [← l]; exact hr fld)
  have J : PySem.W.InstAt s1.heap a oe C (some od) := ⟨ha, hz.1, by unfold PySem.W.notCls; rw [hd] <;> rfl, by rw [hz.2]; exact ho⟩
  exact HandSPX.exc_get I1.kIn J T.ga T.gg T.exC (PySem.W.findObj_own T.hdC T.noN rfl (by rw [hl, hu])) (handed_of ru) ⟨v, H1, I1.tok _, ru, q⟩
end
end RV
namespace RV
open PySem PySem.Spec PyProof.Rows L2
/-- an error of the class at S is what «except S» names -/
theorem exm_self {K : PySem.W.Frag} {S : Addr} (h1 : PySem.W.subIn K (.ref S) (.type "BaseException") = some true) (h2 : PySem.W.isClsIn K S = true) (h3 : PySem.W.typeIn K (.ref S) = some (.type "type")) (h4 : PySem.W.subIn K (.ref S) (.ref S) = some true) :
    PySem.W.exmOne K (.ref S) (.ref S) = some true := by
  have e1 : (PySem.W.subIn K (.ref S) (.type "BaseException") == some true) = true := by rw [h1] <;> rfl
  have e2 : ((PySem.W.clsIn K S).isSome && PySem.W.typeIn K (.ref S) == some (.type "type")) = true := by
    have h2' : (PySem.W.clsIn K S).isSome = true := h2
    rw [h2', h3] <;> rfl
  show (if (PySem.W.subIn K (.ref S) (.type "BaseException") == some true) = true then (if ((PySem.W.clsIn K S).isSome && PySem.W.typeIn K (.ref S) == some (.type "type")) = true then PySem.W.subIn K (.ref S) (.ref S) else none) else none) = some true
  rw [if_pos e1, if_pos e2]
  exact h4
end RV
namespace RV
open PySem
theorem fld_value : SupX.Fld "value" := ⟨rfl, rfl, rfl, by decide, by decide, fun _ _ _ _ _ _ _ _ _ _ _ _ => rfl⟩
theorem fld_line : SupX.Fld "line" := ⟨rfl, rfl, rfl, by decide, by decide, fun _ _ _ _ _ _ _ _ _ _ _ _ => rfl⟩
end RV

/-! a law's own call, its def's promise being one for calls while nothing is shown -/
namespace RV
open PySem PySem.Spec PyProof.Rows L2
section
variable {P : Program} {w : World} {K : PySem.W.Frag} {mg mb : Str → Option Value} {a : Addr} {s₁ : Shared} {H : Hp} {vs : List Value} {ns : List Int}
/-- what is tracked when the law begins: the script, and that the table of modules stands; both are only read -/
structure One (P : Program) (w : World) (K : PySem.W.Frag) (a : Addr) (vs : List Value) (h : Heap) (H : Hp) : Prop where
  here : h.get? a = some { cls := .type "list", data := .seq vs.toArray }
  two : ∀ b, b ≠ a → b ≠ sysModules → H b = none
  froz : ∀ b u, H b = some u → ∃ o t, u = .frz o t
  apart : ∀ b, H b ≠ none → K.lookup b = none
  hok : HOk P w H h
theorem One.map (O : One P w K a vs s₁.heap H) {b : Addr} {m : Str → Option Value} (n : s₁.heap.Ns b m) (nb : b ≠ sysModules) : (hidT s₁.heap H).Ns b m := by
  obtain ⟨o, es, k, e, d, more⟩ := n
  have na : b ≠ a := by
    rintro rfl
    rw [O.here] at e
    cases e
    cases d
  exact ⟨o, es, k, hidT_get e (O.two b na nb), d, more⟩
theorem One.inK (O : One P w K a vs s₁.heap H) (X : K.In s₁.heap) : K.In (hidT s₁.heap H) := by
  intro b o e
  apply hidT_get (X b o e)
  cases q : H b with
  | none => rfl
  | some u =>
    have none_ := O.apart b (by rw [q]; exact Option.some_ne_none u)
    rw [none_] at e
    cases e
theorem One.env (O : One P w K a vs s₁.heap H) (X : K.In s₁.heap) (hns : s₁.heap.Ns mainGlobals mg) (hb : s₁.heap.Ns builtinsNs mb) (hbb : ∀ x : Str, x ≠ "__name__" → mb x = bootBuiltins x) (hlim : s₁.heap.NoLimit) (hg : s₁.gens = #[]) :
    Env0 P w K mg (hidT s₁.heap H) callerA [] s₁ H where
  frames := rfl
  mod := ⟨O.inK X, O.map hns (by decide), ⟨mb, O.map hb (by decide), hbb⟩, by
    obtain ⟨mc, h1, h2⟩ := hlim
    exact ⟨mc, O.map h1 (by decide), h2⟩⟩
  bs := fun _ _ e => of_hidT e
  bsz := by rw [hidT_size]; exact Nat.le_refl _
  funs := trivial
  frf := fun b z => by cases z
  hok := O.hok
  bare := .of_eq hg
/-- the call's end, as the row wants it -/
theorem One.done (O : One P w K a vs s₁.heap H) {E : XK} {r : Result} {s' : Shared} (h : CR CX0 [] P w H s₁ (fun v _ => v = .bl true) E r s') :
    r = .ok (.ret (.bool true)) ∧ OldK s₁.heap s'.heap ∧ s'.os = s₁.os ∧ AllBare s'.gens := by
  match r, h with
  | .error _, h => exact h.elim
  | .ok .next, h => exact h.elim
  | .ok .brk, h => exact h.elim
  | .ok .cont, h => exact h.elim
  | .ok (.ret u), h =>
    obtain ⟨v, H', os, bare, un, hok', rel, rfl⟩ := h
    obtain rfl : u = Value.bool true := rel
    refine ⟨rfl, OldK.of_keep ?_, os, bare⟩
    intro b o e
    cases q : H b with
    | none => exact un.keep b o e q (fun y => by cases y) (by simp)
    | some t =>
      obtain ⟨ob, xs, rfl⟩ := O.froz b t q
      have here := (O.hok b _ q).1
      have there := (hok' b _ (un.frzs b ob _ q)).1
      rw [here] at e
      cases e
      exact there
end
/-- nothing is tracked but the script -/
theorem walkG {l : PySem.W.OpenLaw} {n k : Nat} {q : Program} {loose : List Str} {XP : (Str → Option Value) → Heap → Prop} {YP : World → Heap → Prop} {d : DefRec} {K : Params → PySem.W.Frag} {sp : World → Sp} {x : Str}
    (hn : l.most = some n) (hn2 : n ≤ sizeLine) (hdf : d.params.defaults = []) (hr : Room k callerA) (hY : ∀ (w : World) (h : Heap), YP w h → (K w.params).In h)
    (F : ∀ (w : World) (mg : Str → Option Value) (fa : Addr) (h : Heap), (K w.params).In h → h.Ns mainGlobals mg → mg d.name = some (.ref fa) →
      ∃ fd : FuncData, (∀ (s : Shared) (u : Value), BindsTo s fd ⟨[u], []⟩ [(x, u)]) ∧ ∀ base : Heap, (K w.params).In base → base.Ns mainGlobals mg → FnG l.prog w (K w.params) mg base CX0 k fa fd [x] (sp w))
    (hi : importsNone q = true) (hK : ∀ P : Params, (K P).lookup sysModules = none)
    (hsp : ∀ (w : World) (H : Hp) (a : Addr) (ns : List Int), ns.length ≤ n → SysAt H → SqL (K w.params) H a (ns.map V.int) → sp w [.ref a] H (fun v _ => v = .bl true) fun _ _ _ => False) :
    PySem.W.WalkO q loose XP YP l.row.toRowW d [] (fun f vs => PySem.call f vs) := by
  refine Att.attach_call hn hdf fun w s₀ s₁ mg mb fa o pm cd doc a vs ns G Y ho hd hcd hmg hobj hints hlen hg => ?_
  obtain ⟨fd, bnd, FF⟩ := F w mg fa _ (hY w _ Y) G.T.g hmg
  have lenv := hints.length
  have small : ns.length ≤ sizeLine := Nat.le_trans hlen hn2
  obtain ⟨mm, ⟨om, esm, km, em, dm, _⟩, _⟩ := (G.T.seer hi).mods
  have sa : sysModules ≠ a := by
    rintro rfl
    rw [em] at hobj
    cases hobj
    cases dm
  have go : ∀ H : Hp, One l.prog w (K w.params) a vs s₁.heap H → SysAt H → SqL (K w.params) H a (ns.map V.int) →
      codeAny (model l.prog w) callerA (.call (.ref fa) ⟨[.ref a], []⟩) (fun r s' => r = .ok (.ret (.bool true)) ∧ OldK s₁.heap s'.heap ∧ s'.os = s₁.os ∧ AllBare s'.gens) s₁ := fun H O sy S =>
    codeAny_mono ((FF _ (O.inK (hY w _ Y)) (O.map G.T.g (by decide))).runG callerA [] s₁ H ⟨[.ref a], []⟩ [.ref a] [.ref a] _ _ rfl hr (O.env (hY w _ Y) G.T.g G.T.b G.T.builtins G.T.nolimit hg) (bnd s₁ (.ref a)) (.cons rfl .nil) (hsp w H a ns hlen sy S))
      fun _ _ h => O.done h
  have sysok : ∀ H : Hp, ObjOk l.prog w H s₁.heap sysModules (.frz om (.ext fun _ => True)) := fun H => ⟨em, trivial, ⟨om, em⟩, fun _ _ _ _ => trivial⟩
  by_cases inK : (K w.params).lookup a = none
  · refine go (fun b => if b = a then some (.frz { cls := .type "list", data := .seq vs.toArray } (.lst (ns.map V.int))) else if b = sysModules then some (.frz om (.ext fun _ => True)) else none) ⟨hobj, fun b z y => by simp only [if_neg z, if_neg y], fun b u e => ?_, fun b z => ?_, fun b u e => ?_⟩ ⟨om, by simp only [if_neg sa, if_pos]⟩ (.inl (.inr ⟨_, if_pos rfl⟩))
    · by_cases z : b = a
      · simp only [if_pos z] at e
        cases e
        exact ⟨_, _, rfl⟩
      · by_cases y : b = sysModules
        · simp only [if_neg z, if_pos y] at e
          cases e
          exact ⟨_, _, rfl⟩
        · simp only [if_neg z, if_neg y] at e
          cases e
    · by_cases y : b = a
      · rw [y]
        exact inK
      · by_cases x : b = sysModules
        · rw [x]
          exact hK _
        · exact absurd (by simp only [if_neg y, if_neg x]) z
    · by_cases z : b = a
      · simp only [if_pos z] at e
        cases e
        subst z
        exact ⟨hobj, by rw [List.length_map]; exact small, vs, _, vals_ints hints, hobj⟩
      · by_cases y : b = sysModules
        · simp only [if_neg z, if_pos y] at e
          cases e
          rw [y]
          exact sysok _
        · simp only [if_neg z, if_neg y] at e
          cases e
  · obtain ⟨ob, look⟩ := Option.ne_none_iff_exists'.mp inK
    have e := hY w _ Y a ob look
    rw [hobj] at e
    cases e
    refine go (fun b => if b = sysModules then some (.frz om (.ext fun _ => True)) else none) ⟨hobj, fun b z y => by simp only [if_neg y], fun b u e => ?_, fun b z => ?_, fun b u e => ?_⟩ ⟨om, by simp only [if_pos]⟩ (.inr ⟨_, vs.toArray, _, look, rfl, rfl, rfl, by rw [List.size_toArray, lenv]; exact small, by simpa using vals_ints hints⟩)
    · by_cases y : b = sysModules
      · simp only [if_pos y] at e
        cases e
        exact ⟨_, _, rfl⟩
      · simp only [if_neg y] at e
        cases e
    · by_cases x : b = sysModules
      · rw [x]
        exact hK _
      · exact absurd (by simp only [if_neg x]) z
    · by_cases y : b = sysModules
      · simp only [if_pos y] at e
        cases e
        rw [y]
        exact sysok _
      · simp only [if_neg y] at e
        cases e
def spLawS (K : PySem.W.Frag) : Sp := fun vs H Q _ => ∃ (a : Addr) (ns : List Int), vs = [.ref a] ∧ SysAt H ∧ SqL K H a (ns.map V.int) ∧ ns.length ≤ 63 ∧ ∀ H', Q (.bl true) H'
end RV

namespace RV
open PySem PySem.Spec PyProof.Rows L2 TL
/-! ### lists or tuples -/
/-- a list or a tuple of these stands at a -/
def SqA (H : Hp) (a : Addr) (xs : List V) : Prop := H a = some (.lst xs) ∨ H a = some (.tup xs)
theorem SqA.up {H H' : Hp} {a : Addr} {xs : List V} (h : SqA H a xs) (s : Same H H') : SqA H' a xs := h.elim (fun e => .inl (s _ _ e)) fun e => .inr (s _ _ e)
theorem SqA.sqx {K : PySem.W.Frag} {H : Hp} {a : Addr} {xs : List V} (h : SqA H a xs) : SqL K H a xs ∨ SqT K H a xs := h.elim (fun e => .inl (SqL.of e)) fun e => .inr (SqT.of e)
def iSeq (tl : TE) : TI := fun σ H R => tl σ H fun x H1 => ∃ a xs, x = .ref a ∧ SqA H1 a xs ∧
  ∀ (J : It) (G : Hp → Prop), Walk J xs.length G (YAt xs) → (∀ H' : Hp, (∀ o, H1 a = some o → H' a = some o) → G H') → R J H1
section
variable {X : Cx} {tg : Expr}
theorem pi_seq {l : Expr} {tl : TE} (hl : PE X l tl) : PI X tg l (iSeq tl) := by
  refine ⟨fun pins s σ H R I h => ?_⟩
  refine thn (hl.run pins s σ H _ I h) fun v s1 ⟨x, H1, I1, r1, q1⟩ => ?_
  obtain ⟨a, xs, e, hq, q⟩ := q1
  subst e
  cases r1
  rcases hq with hq | hq
  · have hS : SqL X.K H1 a xs := SqL.of hq
    obtain ⟨its, rv, p, hz⟩ := I1.list hS
    refine wpAny_pyIter_list p.isList ?_
    refine ⟨s1.heap.objs.size, [s1.heap.objs.size], _, _, H1, rfl, I1.kept (t' := s1.toks) fun b o e => Heap.get?_push_of_some _ e, turn_list a _, ⟨_, Heap.get?_push_size _ rfl, rfl, rfl⟩, fun b hb => ?_, q _ _ walk_list fun H' k => SqL.of (k _ hq)⟩
    have e : b = s1.heap.objs.size := by simpa using hb
    subst e
    exact I1.fpOk (Nat.le_refl _) (I1.hok.fresh (Nat.le_refl _))
  · have hS : SqT X.K H1 a xs := SqT.of hq
    obtain ⟨its, rv, p, hz⟩ := I1.tuple hS
    refine wpAny_pyIter_tuple (show s1.heap.IsTuple a its.toArray from p) ?_
    refine ⟨s1.heap.objs.size, [s1.heap.objs.size], _, _, H1, rfl, I1.kept (t' := s1.toks) fun b o e => Heap.get?_push_of_some _ e, turn_tuple a _, ⟨_, Heap.get?_push_size _ rfl, rfl, rfl⟩, fun b hb => ?_, q _ _ walk_tup fun H' k => SqT.of (k _ hq)⟩
    have e : b = s1.heap.objs.size := by simpa using hb
    subst e
    exact I1.fpOk (Nat.le_refl _) (I1.hok.fresh (Nat.le_refl _))
end
/-! ### tokens, texts in the heap -/
abbrev Tk := Str × Str
def TkAt (H : Hp) (v : V) (t : Tk) : Prop := ∃ a, v = .ref a ∧ H a = some (.tup [.str t.1, .str t.2])
theorem TkAt.up {H H' : Hp} {v : V} {t : Tk} (h : TkAt H v t) (s : Same H H') : TkAt H' v t := by
  obtain ⟨a, e, q⟩ := h
  exact ⟨a, e, s _ _ q⟩
inductive TxL (H : Hp) : List V → List Tk → Prop
  | nil : TxL H [] []
  | cons {v : V} {t : Tk} {vs : List V} {ts : List Tk} : TkAt H v t → TxL H vs ts → TxL H (v :: vs) (t :: ts)
namespace TxL
variable {H H' : Hp}
theorem up (s : Same H H') : ∀ {vs : List V} {ts : List Tk}, TxL H vs ts → TxL H' vs ts
  | _, _, .nil => .nil
  | _, _, .cons h r => .cons (h.up s) (r.up s)
theorem length : ∀ {vs : List V} {ts : List Tk}, TxL H vs ts → vs.length = ts.length
  | _, _, .nil => rfl
  | _, _, .cons h r => by simp [r.length]
theorem get : ∀ {vs : List V} {ts : List Tk}, TxL H vs ts → ∀ {i : Nat} {v : V}, vs[i]? = some v → ∃ t, ts[i]? = some t ∧ TkAt H v t
  | _, _, .nil, i, v, e => by simp at e
  | _, _, .cons (t := t) h r, 0, v, e => ⟨t, by simp, by
    have e2 := Option.some.inj e
    subst e2
    exact h⟩
  | _, _, .cons h r, i + 1, v, e => by
    obtain ⟨t, q, k⟩ := r.get (i := i) (v := v) (by simpa using e)
    exact ⟨t, by simpa using q, k⟩
theorem append : ∀ {vs ws : List V} {ts us : List Tk}, TxL H vs ts → TxL H ws us → TxL H (vs ++ ws) (ts ++ us)
  | _, _, _, _, .nil, h => h
  | _, _, _, _, .cons a r, h => .cons a (r.append h)
theorem take : ∀ {vs : List V} {ts : List Tk}, TxL H vs ts → ∀ n, TxL H (vs.take n) (ts.take n)
  | _, _, .nil, n => by simpa using TxL.nil
  | _, _, .cons a r, 0 => .nil
  | _, _, .cons a r, n + 1 => .cons a (r.take n)
theorem drop : ∀ {vs : List V} {ts : List Tk}, TxL H vs ts → ∀ n, TxL H (vs.drop n) (ts.drop n)
  | _, _, .nil, n => by simpa using TxL.nil
  | _, _, .cons a r, 0 => .cons a r
  | _, _, .cons a r, n + 1 => r.drop n
theorem one {v : V} {t : Tk} (h : TkAt H v t) : TxL H [v] [t] := .cons h .nil
end TxL
/-! ### texts -/
def tokS (t : Tk) : Bool := markS t.1 && wordS t.2
def headPar : List Tk → Bool
  | [] => true
  | t :: _ => decide (t.1.cps.toList.head? = some 35)
def textS (ts : List Tk) : Bool := ts.all tokS && headPar ts
/-- what is_text says of a value -/
inductive TextV (H : Hp) : V → Bool → Prop
  | odd {v : V} {t : String} (h : Ty7 H v t) (n1 : (t == "list") = false) (n2 : (t == "tuple") = false) : TextV H v false
  | bad {a : Addr} {xs : List V} {bs : List Bool} (s : SqA H a xs) (z : xs.length ≤ 100000) (n : bs.length = xs.length) (h : ∀ (i : Nat) (x : V) (b : Bool), xs[i]? = some x → bs[i]? = some b → Tok7 H x b) (f : bs.all id = false) : TextV H (.ref a) false
  | ok {a : Addr} {xs : List V} {ts : List Tk} (s : SqA H a xs) (z : xs.length ≤ 100000) (h : TxL H xs ts) (l : ∀ t ∈ ts, tokS t = true) : TextV H (.ref a) (headPar ts)
theorem TextV.up {H H' : Hp} {v : V} {b : Bool} (h : TextV H v b) (s : Same H H') : TextV H' v b := by
  cases h with
  | odd h n1 n2 => exact .odd (h.up s) n1 n2
  | bad q z n h f => exact .bad (q.up s) z n (fun i x b hx hb => (h i x b hx hb).up s) f
  | ok q z h l => exact .ok (q.up s) z (h.up s) l
theorem TextV.eq {H : Hp} {v : V} {b c : Bool} (h : TextV H v b) (e : b = c) : TextV H v c := e ▸ h
/-- a list or a tuple of pairs of strings -/
theorem TextV.of {H : Hp} {a : Addr} {xs : List V} {ts : List Tk} (s : SqA H a xs) (z : xs.length ≤ 100000) (h : TxL H xs ts) (l : ∀ t ∈ ts, t.1.length ≤ 100000 ∧ t.2.length ≤ 100000) : TextV H (.ref a) (textS ts) := by
  unfold textS
  cases q : ts.all tokS with
  | true => exact .ok s z h fun t ht => List.all_eq_true.mp q t ht
  | false =>
    refine .bad (bs := ts.map tokS) s z (by simp [h.length]) (fun i x b hx hb => ?_) (by simpa [List.all_map] using q)
    obtain ⟨t, ht, a, rfl, e⟩ := h.get hx
    have lt := l t (List.mem_of_getElem? ht)
    rw [List.getElem?_map, ht] at hb
    have e2 : tokS t = b := by simpa using hb
    exact (Tok7.two e (.str t.1 lt.1) (.str t.2 lt.2)).eq e2
/-! ### writings -/
def isAbc (c : Nat) : Bool := decide (97 ≤ c) && decide (c ≤ 122)
abbrev LT := List Nat × List Nat
/-- the pairs of a writing -/
def markOf : List Nat → List Nat
  | [] => []
  | c :: r => if c = 32 then [c] else c :: r.take 1
def restOf : List Nat → List Nat
  | [] => []
  | c :: r => if c = 32 then r else r.drop 1
theorem rest_le : ∀ l : List Nat, l ≠ [] → (restOf l).length < l.length
  | [], h => absurd rfl h
  | c :: r, _ => by
    show (if c = 32 then r else r.drop 1).length < r.length + 1
    split
    · omega
    · rw [List.length_drop]
      omega
theorem mark_rest : ∀ l : List Nat, markOf l ++ restOf l = l
  | [] => rfl
  | c :: r => by
    show (if c = 32 then [c] else c :: r.take 1) ++ (if c = 32 then r else r.drop 1) = c :: r
    split
    · rfl
    · rw [List.cons_append, List.take_append_drop]
theorem dropWhile_le (p : Nat → Bool) : ∀ l : List Nat, (l.dropWhile p).length ≤ l.length
  | [] => by simp
  | c :: r => by
    rw [List.dropWhile_cons]
    split
    · have := dropWhile_le p r
      simp
      omega
    · simp
def pairsL (l : List Nat) : List LT :=
  if h : l = [] then [] else (markOf l, (restOf l).takeWhile isAbc) :: pairsL ((restOf l).dropWhile isAbc)
termination_by l.length
decreasing_by
  have := rest_le l h
  have := dropWhile_le isAbc (restOf l)
  omega
theorem pairsL_nil : pairsL [] = [] := by
  rw [pairsL]
  simp
theorem pairsL_ne {l : List Nat} (h : l ≠ []) : pairsL l = (markOf l, (restOf l).takeWhile isAbc) :: pairsL ((restOf l).dropWhile isAbc) := by
  rw [pairsL, dif_neg h]
def flatL : List LT → List Nat
  | [] => []
  | t :: r => t.1 ++ (t.2 ++ flatL r)
theorem flatL_app : ∀ a b : List LT, flatL (a ++ b) = flatL a ++ flatL b
  | [], b => rfl
  | t :: r, b => by simp [flatL, flatL_app r b]
theorem flat_pairs : ∀ (n : Nat) (l : List Nat), l.length ≤ n → flatL (pairsL l) = l
  | 0, l, h => by
    have e : l = [] := List.length_eq_zero_iff.mp (by omega)
    subst e
    rw [pairsL_nil]
    rfl
  | n + 1, l, h => by
    by_cases e : l = []
    · subst e
      rw [pairsL_nil]
      rfl
    · rw [pairsL_ne e]
      show markOf l ++ ((restOf l).takeWhile isAbc ++ flatL (pairsL ((restOf l).dropWhile isAbc))) = l
      have h1 := rest_le l e
      have h2 := dropWhile_le isAbc (restOf l)
      rw [flat_pairs n _ (by omega), List.takeWhile_append_dropWhile, mark_rest]
/-- marks and words by their signs -/
def isMarkL (m : List Nat) : Prop := m = [32] ∨ ∃ c d, m = [c, d] ∧ (c = 35 ∨ c = 124 ∨ c = 47) ∧ (d = 48 ∨ d = 49 ∨ d = 50 ∨ d = 51)
def isWordL (w : List Nat) : Prop := w ≠ [] ∧ ∀ c ∈ w, isAbc c = true
theorem takeWhile_all {p : Nat → Bool} : ∀ {w r : List Nat}, (∀ c ∈ w, p c = true) → (r = [] ∨ ∃ c t, r = c :: t ∧ p c = false) → (w ++ r).takeWhile p = w ∧ (w ++ r).dropWhile p = r
  | [], r, _, h => by
    rcases h with rfl | ⟨c, t, rfl, hc⟩
    · simp
    · simp [List.takeWhile_cons, List.dropWhile_cons, hc]
  | c :: w, r, hw, h => by
    obtain ⟨a, b⟩ := takeWhile_all (p := p) (w := w) (r := r) (fun d hd => hw d (by simp [hd])) h
    have hc := hw c (by simp)
    simp [List.takeWhile_cons, List.dropWhile_cons, hc, a, b]
theorem mark_head {m : List Nat} (h : isMarkL m) : ∃ c t, m = c :: t ∧ isAbc c = false ∧ ∀ r, markOf (m ++ r) = m ∧ restOf (m ++ r) = r := by
  rcases h with rfl | ⟨c, d, rfl, hc, hd⟩
  · exact ⟨32, [], rfl, by decide, fun r => ⟨rfl, rfl⟩⟩
  · refine ⟨c, [d], rfl, ?_, fun r => ?_⟩
    · rcases hc with rfl | rfl | rfl <;> decide
    · have n : c ≠ 32 := by rcases hc with rfl | rfl | rfl <;> decide
      show (if c = 32 then [c] else c :: (d :: r).take 1) = [c, d] ∧ (if c = 32 then d :: r else (d :: r).drop 1) = r
      rw [if_neg n, if_neg n]
      exact ⟨rfl, rfl⟩
def validL (ts : List LT) : Prop := ∀ t ∈ ts, isMarkL t.1 ∧ isWordL t.2
theorem flat_head {ts : List LT} (h : validL ts) : flatL ts = [] ∨ ∃ c t, flatL ts = c :: t ∧ isAbc c = false := by
  cases ts with
  | nil => exact .inl rfl
  | cons t r =>
    obtain ⟨c, u, e, hc, _⟩ := mark_head (h t (by simp)).1
    exact .inr ⟨c, _, by show t.1 ++ _ = _; rw [e]; rfl, hc⟩
theorem pairs_flat : ∀ {ts : List LT}, validL ts → pairsL (flatL ts) = ts
  | [], _ => pairsL_nil
  | t :: r, h => by
    obtain ⟨hm, hw⟩ := h t (by simp)
    have hr : validL r := fun u hu => h u (by simp [hu])
    obtain ⟨c, u, e, hc, hh⟩ := mark_head hm
    have ne : t.1 ++ (t.2 ++ flatL r) ≠ [] := by rw [e]; simp
    show pairsL (t.1 ++ (t.2 ++ flatL r)) = t :: r
    obtain ⟨h1, h2⟩ := hh (t.2 ++ flatL r)
    obtain ⟨h3, h4⟩ := takeWhile_all (p := isAbc) (w := t.2) (r := flatL r) hw.2 (flat_head hr)
    rw [pairsL_ne ne, h1, h2, h3, h4, pairs_flat hr]
/-! ### the law's reader -/
def stepL (ps : List LT) (c : Nat) : List LT := match ps.getLast? with
  | none => ps ++ [([c], [])]
  | some t => if isAbc c then ps.dropLast ++ [(t.1, t.2 ++ [c])] else if (t.1 = [35] ∨ t.1 = [124] ∨ t.1 = [47]) ∧ t.2 = [] then ps.dropLast ++ [(t.1 ++ [c], t.2)] else ps ++ [([c], [])]
def readL (l : List Nat) : List LT := l.foldl stepL []
theorem last_split {ps : List LT} {t : LT} (h : ps.getLast? = some t) : ps = ps.dropLast ++ [t] := by
  have ne : ps ≠ [] := by
    intro e
    rw [e] at h
    cases h
  have e := List.dropLast_concat_getLast ne
  rw [List.getLast?_eq_getLast ne] at h
  rw [← Option.some.inj h]
  exact e.symm
theorem flat_step (ps : List LT) (c : Nat) : flatL (stepL ps c) = flatL ps ++ [c] := by
  unfold stepL
  cases q : ps.getLast? with
  | none => simp [flatL_app, flatL]
  | some t =>
    have e := last_split q
    have e2 : flatL ps = flatL ps.dropLast ++ (t.1 ++ t.2) := by
      have z := congrArg flatL e
      rw [flatL_app] at z
      simpa [flatL] using z
    simp only
    split
    · rw [flatL_app, e2]
      simp [flatL]
    · split
      · rename_i h
        rw [flatL_app, e2]
        simp [flatL, h.2]
      · rw [flatL_app]
        simp [flatL]
theorem flat_fold : ∀ (l : List Nat) (ps : List LT), flatL (l.foldl stepL ps) = flatL ps ++ l
  | [], ps => by simp
  | c :: r, ps => by
    rw [List.foldl_cons, flat_fold r, flat_step]
    simp
theorem flat_read (l : List Nat) : flatL (readL l) = l := by
  unfold readL
  rw [flat_fold]
  rfl
theorem step_letter {ps : List LT} {m w : List Nat} {c : Nat} (h : isAbc c = true) : stepL (ps ++ [(m, w)]) c = ps ++ [(m, w ++ [c])] := by
  unfold stepL
  simp [h]
theorem fold_word : ∀ {w : List Nat} {ps : List LT} {m v : List Nat}, (∀ c ∈ w, isAbc c = true) → w.foldl stepL (ps ++ [(m, v)]) = ps ++ [(m, v ++ w)]
  | [], ps, m, v, _ => by simp
  | c :: r, ps, m, v, h => by
    rw [List.foldl_cons, step_letter (h c (by simp)), fold_word fun d hd => h d (by simp [hd])]
    simp
/-- the last pair, if there is one, has a word -/
def lastOk (ps : List LT) : Prop := ∀ t, ps.getLast? = some t → t.2 ≠ []
theorem step_open {ps : List LT} {c : Nat} (hp : lastOk ps) (h : isAbc c = false) : stepL ps c = ps ++ [([c], [])] := by
  unfold stepL
  cases q : ps.getLast? with
  | none => rfl
  | some t =>
    simp only [h]
    rw [if_neg (by decide), if_neg (fun z => hp t q z.2)]
theorem fold_token {ps : List LT} {t : LT} (hp : lastOk ps) (hm : isMarkL t.1) (hw : isWordL t.2) : (t.1 ++ t.2).foldl stepL ps = ps ++ [t] := by
  rw [List.foldl_append]
  have e : t.1.foldl stepL ps = ps ++ [(t.1, [])] := by
    rcases hm with e | ⟨c, d, e, hc, hd⟩
    · rw [e]
      show stepL ps 32 = _
      exact step_open hp (by decide)
    · rw [e]
      show stepL (stepL ps c) d = _
      have n : isAbc c = false := by rcases hc with rfl | rfl | rfl <;> decide
      have n2 : isAbc d = false := by rcases hd with rfl | rfl | rfl | rfl <;> decide
      rw [step_open hp n]
      unfold stepL
      simp only [List.getLast?_append, List.getLast?_singleton, Option.some_or, n2]
      rw [if_neg (by decide), if_pos (by rcases hc with rfl | rfl | rfl <;> simp)]
      simp
  rw [e, fold_word hw.2]
  simp
theorem fold_flat : ∀ {ts ps : List LT}, lastOk ps → validL ts → (flatL ts).foldl stepL ps = ps ++ ts
  | [], ps, _, _ => by simp [flatL]
  | t :: r, ps, hp, h => by
    obtain ⟨hm, hw⟩ := h t (by simp)
    show (t.1 ++ (t.2 ++ flatL r)).foldl stepL ps = _
    rw [← List.append_assoc, List.foldl_append, fold_token hp hm hw, fold_flat (fun u hu => ?_) fun u hu => h u (by simp [hu])]
    · simp
    · simp only [List.getLast?_append, List.getLast?_singleton, Option.some_or, Option.some.injEq] at hu
      rw [← hu]
      exact hw.1
theorem read_flat {ts : List LT} (h : validL ts) : readL (flatL ts) = ts := by
  unfold readL
  rw [fold_flat (fun t e => by cases e) h]
  rfl
/-- both readers agree -/
theorem readers {l : List Nat} : (validL (pairsL l) → readL l = pairsL l) ∧ (validL (readL l) → pairsL l = readL l) := by
  constructor
  · intro h
    have e := flat_pairs l.length l (Nat.le_refl _)
    have z := read_flat h
    rw [e] at z
    exact z
  · intro h
    have z := pairs_flat h
    rw [flat_read] at z
    exact z
end RV

namespace RV
open PySem PySem.Spec PyProof.Rows L2 TL
theorem same_old {H H1 : Hp} {D : Addr} {o : HO} (s : Same H H1) (n : H D = none) : Same H (upd H1 D o) := fun b x e => by
  rw [upd_ne (ne_of_none e n)]
  exact s b x e
/-- a comprehension whose items are known ahead, each made without a change of what stands -/
theorem lc_vals {J : It} {G : Hp → Prop} {xs : List V} (w : Walk J xs.length G (YAt xs)) {g : TG} {tt : TT} {te : TE} {vs : List Nat} {σ : L2.St} {H1 : Hp} {D : Addr} {Qd : Hp → Prop} (ys : List V) (hl : ys.length = xs.length) (hz : xs.length < sizeLine)
    (hD : H1 D = none) (hG : ∀ H', Same H1 H' → G H')
    (hs : ∀ (i : Nat) (x y : V) (H : Hp) (Q : VK) (Pe : Hp → Prop), xs[i]? = some x → ys[i]? = some y → Same H1 H → (∀ H', Same H H' → Q y H') → g x (wipe σ vs) H fun σ2 H2 => wipe σ2 vs = wipe σ vs ∧ tt σ2 H2 fun b H3 => if b = true then te σ2 H3 Q else Pe H3)
    (hd : ∀ H', Same H1 H' → H' D = some (.lst ys) → Qd H') :
    ∃ W : Nat → Nat → Hp → Prop, (∃ m, W 0 m (upd H1 D (.lst []))) ∧ ∀ i m H, W i m H →
      (J.stop i H ∧ Qd H) ∨ (J.go i H ∧ ∃ Nx : Hp → Prop, (∀ H', Nx H' → ∃ m', m' < m ∧ W (i + 1) m' H') ∧ ∀ x H', J.yld i H x H' → g x (wipe σ vs) H' fun σ2 H2 => wipe σ2 vs = wipe σ vs ∧ tt σ2 H2 fun b H3 =>
        if b = true then te σ2 H3 fun y H4 => ∃ acc, H4 D = some (.lst acc) ∧ acc.length < sizeLine ∧ Nx (upd H4 D (.lst (acc ++ [y]))) else Nx H3) := by
  refine lc_it w (fun i H => Same H1 H ∧ H D = some (.lst (ys.take i))) ⟨same_old (Same.refl _) hD, by rw [upd_same]; rfl⟩ (fun i H _ h => hG H h.1) (fun i x H H' hi hP hY => ?_) (fun H hP => ?_)
  · obtain ⟨rfl, hx⟩ := hY
    have hi2 : i < ys.length := by omega
    refine hs i x ys[i] _ _ _ hx (List.getElem?_eq_getElem hi2) hP.1 fun H4 s4 => ?_
    refine ⟨_, s4 _ _ hP.2, by rw [List.length_take]; omega, same_old (hP.1.trans s4) hD, ?_⟩
    rw [upd_same, List.take_add_one, List.getElem?_eq_getElem hi2]
    rfl
  · refine hd H hP.1 ?_
    rw [hP.2, ← hl, List.take_length]
theorem kit_lt {K : PySem.W.Frag} {H : Hp} {v : V} {t : String} (h : Ty7 H v t) : PySem.W.kitAny K (.type t) [.type "list", .type "tuple"] = some (t == "list" || t == "tuple") := by
  refine kitAny_cons (b := t == "list") (kit_ty (kit_list h)) (fun e => ?_) (fun e => by rw [e]; rfl)
  refine kitAny_cons (b := t == "tuple") (kit_ty (kit_tuple h)) (fun e2 => ?_) (fun e2 => by rw [e2, Bool.or_true])
  rw [e, e2]
  rfl
def pair_lt : Paired ClsV [V.ty "list", V.ty "tuple"] [.type "list", .type "tuple"] := .cons (.ty _) (.cons (.ty _) .nil)
theorem SqA.ty {H : Hp} {a : Addr} {xs : List V} (h : SqA H a xs) : ∃ t, Ty7 H (.ref a) t ∧ (t == "list" || t == "tuple") = true := h.elim (fun e => ⟨_, .lst e, by decide⟩) fun e => ⟨_, .tup e, by decide⟩
/-- what _is_mark_row says -/
inductive RowV (H : Hp) : V → Bool → Prop
  | odd {v : V} {t : String} (h : Ty7 H v t) (n : (t == "list" || t == "tuple") = false) : RowV H v false
  | bad {a : Addr} {xs : List V} (s : SqA H a xs) (z : xs.length ≤ 100000) (h : ∀ x ∈ xs, ∃ t, Ty7 H x t) (f : (xs.map markV).all id = false) : RowV H (.ref a) false
  | ok {a : Addr} {ms : List Str} (s : SqA H a (ms.map V.str)) (z : ms.length ≤ 100000) (l : ∀ m ∈ ms, markS m = true) : RowV H (.ref a) (match ms with
    | [] => true
    | m :: _ => decide (m.cps.toList.head? = some 35))
theorem markS_len {z : Str} (h : markS z = true) : z.length ≤ 2 := by
  rcases (markS_iff z).mp h with e | ⟨c, d, e, _⟩
  · rw [← len_list, e]
    decide
  · rw [← len_list, e]
    exact Nat.le_refl 2
theorem wordS_len {z : Str} (h : wordS z = true) : z.length ≤ 30 := by
  unfold wordS at h
  rw [Bool.and_eq_true, Bool.and_eq_true] at h
  exact of_decide_eq_true h.1.2
def spKindOf : Sp := fun vs H Q _ => ∃ (z : Str) (c : Nat) (r : List Nat), vs = [.str z] ∧ markS z = true ∧ z.cps.toList = c :: r ∧ Q (.str ⟨#[c]⟩) H
def spMarkRow : Sp := fun vs H Q _ => ∃ (v : V) (b : Bool), vs = [v] ∧ RowV H v b ∧ ∀ H', Same H H' → Q (.bl b) H'
def spIsText : Sp := fun vs H Q _ => ∃ (v : V) (b : Bool), vs = [v] ∧ TextV H v b ∧ ∀ H', Same H H' → Q (.bl b) H'
/-- the error's field -/
def FldAt (H : Hp) (d : Addr) (f : Str) (v : V) : Prop := H d = some (.xd [(f, v)])
def spCheck (C : Addr) : Sp := fun vs H Q E => ∃ (v : V) (b : Bool), vs = [v] ∧ TextV H v b ∧ (b = true → ∀ H', Same H H' → Q .non H') ∧ (b = false → ∀ H' d, Same H H' → FldAt H' d "value" v → E (.ref C) (some d) H')
end RV
namespace RV
open PySem PySem.Spec PyProof.Rows L2 TL
theorem SqA.len {K : PySem.W.Frag} {H : Hp} {a : Addr} {xs : List V} (h : SqA H a xs) : LenV K (.ref a) H xs.length := h.elim (fun e => .inl ⟨_, SqL.of e, rfl⟩) fun e => .inr ⟨_, SqT.of e, rfl⟩
theorem SqA.ix {K : PySem.W.Frag} {H : Hp} {a : Addr} {xs : List V} {i : Int} {v : V} {Q : VK} (h : SqA H a xs) (e : atI xs i = some v) (q : Q v H) : rIx K (.ref a) (.int i) H Q :=
  h.elim (fun z => .inl ⟨a, xs, i, v, rfl, rfl, SqL.of z, e, q⟩) fun z => .inr (.inl ⟨a, xs, i, v, rfl, rfl, SqT.of z, e, q⟩)
end RV
namespace RV
open PySem PySem.Spec PyProof.Rows L2 TL
/-! ### tokens by their signs -/
def ltk (t : Tk) : LT := (t.1.cps.toList, t.2.cps.toList)
def stk (u : LT) : Tk := (⟨u.1.toArray⟩, ⟨u.2.toArray⟩)
theorem st_lt (t : Tk) : stk (ltk t) = t := by
  obtain ⟨⟨a⟩, ⟨b⟩⟩ := t
  simp [stk, ltk]
theorem lt_st (u : LT) : ltk (stk u) = u := by simp [stk, ltk]
theorem map_lt_st (us : List LT) : (us.map stk).map ltk = us := by
  rw [List.map_map]
  conv => rhs; rw [← List.map_id us]
  exact List.map_congr_left fun u _ => lt_st u
theorem map_st_lt (us : List Tk) : (us.map ltk).map stk = us := by
  rw [List.map_map]
  conv => rhs; rw [← List.map_id us]
  exact List.map_congr_left fun u _ => st_lt u
theorem abc_is (c : Nat) : decide (c ∈ abc.cps.toList) = isAbc c := by
  rw [Bool.eq_iff_iff, decide_eq_true_eq, mem_abc]
  simp [isAbc]
theorem tokS_iff (t : Tk) : tokS t = true ↔ isMarkL (ltk t).1 ∧ isWordL (ltk t).2 ∧ t.2.length ≤ 30 := by
  unfold tokS wordS onlyS
  rw [Bool.and_eq_true, Bool.and_eq_true, Bool.and_eq_true, markS_iff, List.all_eq_true, decide_eq_true_eq, decide_eq_true_eq]
  constructor
  · rintro ⟨h1, ⟨h2, h3⟩, h4⟩
    refine ⟨h1, ⟨?_, fun c hc => ?_⟩, h3⟩
    · intro e
      rw [← len_list] at h2
      have e2 : t.2.cps.toList = [] := e
      rw [e2] at h2
      exact absurd h2 (by decide)
    · rw [← abc_is]
      exact h4 c hc
  · rintro ⟨h1, ⟨h2, h4⟩, h3⟩
    refine ⟨h1, ⟨?_, h3⟩, fun c hc => ?_⟩
    · rw [← len_list]
      exact List.length_pos_iff.mpr h2
    · rw [abc_is]
      exact h4 c hc
theorem valid_of {ts : List Tk} (h : ∀ t ∈ ts, tokS t = true) : validL (ts.map ltk) := fun u hu => by
  obtain ⟨t, ht, rfl⟩ := List.mem_map.mp hu
  obtain ⟨a, b, _⟩ := (tokS_iff t).mp (h t ht)
  exact ⟨a, b⟩
/-- the writing of a text -/
def flatS (ts : List Tk) : Str := ⟨(flatL (ts.map ltk)).toArray⟩
/-- what a writing comes apart into -/
def pairsS (z : Str) : List Tk := (pairsL z.cps.toList).map stk
theorem pairs_write {ts : List Tk} (h : ∀ t ∈ ts, tokS t = true) : pairsS (flatS ts) = ts := by
  unfold pairsS flatS
  show (pairsL ((flatL (ts.map ltk)).toArray.toList)).map stk = ts
  rw [List.toList_toArray, pairs_flat (valid_of h), map_st_lt]
theorem joinL_flat : ∀ l : List (List Nat), joinL [] l = l.flatten
  | [] => rfl
  | [c] => by simp [joinL]
  | c :: d :: r => by
    have ih := joinL_flat (d :: r)
    show c ++ ([] ++ joinL [] (d :: r)) = (c :: d :: r).flatten
    rw [ih]
    simp
theorem join_flat (l : List Str) : Txt.join (Str.ofString "") l = ⟨((l.map tl).flatten).toArray⟩ := by
  have e : tl (Txt.join (Str.ofString "") l) = (l.map tl).flatten := by
    rw [join_eq, tl_join]
    exact joinL_flat _
  refine ext_tl ?_
  rw [e]
theorem flat_eq : ∀ ts : List Tk, ((ts.map fun t => t.1 ++ t.2).map tl).flatten = flatL (ts.map ltk)
  | [] => rfl
  | t :: r => by
    have ih := flat_eq r
    simp only [List.map_cons, List.flatten_cons, flatL, tl_append]
    rw [ih]
    show (t.1.cps.toList ++ t.2.cps.toList) ++ _ = t.1.cps.toList ++ (t.2.cps.toList ++ _)
    rw [List.append_assoc]
theorem join_write (ts : List Tk) : Txt.join (Str.ofString "") (ts.map fun t => t.1 ++ t.2) = flatS ts := by
  rw [join_flat, flat_eq]
  rfl
theorem flat_len : ∀ {ts : List Tk}, (∀ t ∈ ts, tokS t = true) → (flatL (ts.map ltk)).length ≤ 32 * ts.length ∧ ((ts.map fun t => t.1 ++ t.2).map (·.length)).sum ≤ 32 * ts.length
  | [], _ => ⟨Nat.le_refl _, Nat.le_refl _⟩
  | t :: r, h => by
    obtain ⟨h1, h2⟩ := flat_len (ts := r) fun u hu => h u (by simp [hu])
    have lt := h t (by simp)
    unfold tokS at lt
    rw [Bool.and_eq_true] at lt
    have m1 := markS_len lt.1
    have m2 := wordS_len lt.2
    have e1 := len_list t.1
    have e2 := len_list t.2
    have e3 := len_app t.1 t.2
    constructor
    · show ((t.1.cps.toList) ++ (t.2.cps.toList ++ flatL (r.map ltk))).length ≤ 32 * (r.length + 1)
      rw [List.length_append, List.length_append]
      omega
    · show (t.1 ++ t.2).length + ((r.map fun t => t.1 ++ t.2).map (·.length)).sum ≤ 32 * (r.length + 1)
      omega
/-! ### walks of the letters -/
theorem tw_end {p : Nat → Bool} : ∀ {R : List Nat} {k : Nat}, k ≤ (R.takeWhile p).length → (∀ c, R[k]? = some c → p c = false) → k = (R.takeWhile p).length
  | [], k, h, _ => by simpa using h
  | c :: r, k, h, hk => by
    rw [List.takeWhile_cons] at h ⊢
    cases q : p c with
    | false =>
      rw [q] at h
      simpa using h
    | true =>
      rw [q] at h
      cases k with
      | zero =>
        have := hk c (by simp)
        rw [q] at this
        cases this
      | succ k =>
        have := tw_end (R := r) (k := k) (by simpa using h) fun d hd => hk d (by simpa using hd)
        simpa using this
theorem tw_next {p : Nat → Bool} : ∀ {R : List Nat} {k c : Nat}, k ≤ (R.takeWhile p).length → R[k]? = some c → p c = true → k + 1 ≤ (R.takeWhile p).length
  | [], k, c, h, e, _ => by simp at e
  | d :: r, k, c, h, e, hc => by
    rw [List.takeWhile_cons] at h ⊢
    cases q : p d with
    | false =>
      rw [q] at h
      have k0 : k = 0 := by simpa using h
      subst k0
      have e2 : d = c := by simpa using e
      rw [e2, hc] at q
      cases q
    | true =>
      rw [q] at h
      cases k with
      | zero => simp
      | succ k =>
        have := tw_next (R := r) (k := k) (by simpa using h) (by simpa using e) hc
        simpa using this
theorem tw_take {p : Nat → Bool} (R : List Nat) : R.take (R.takeWhile p).length = R.takeWhile p := by
  have e := List.takeWhile_append_dropWhile (p := p) (l := R)
  have q : ∀ a b : List Nat, (a ++ b).take a.length = a := fun a b => by simp
  have z := q (R.takeWhile p) (R.dropWhile p)
  rw [e] at z
  exact z
theorem tw_drop {p : Nat → Bool} (R : List Nat) : R.drop (R.takeWhile p).length = R.dropWhile p := by
  have e := List.takeWhile_append_dropWhile (p := p) (l := R)
  have q : ∀ a b : List Nat, (a ++ b).drop a.length = b := fun a b => by simp
  have z := q (R.takeWhile p) (R.dropWhile p)
  rw [e] at z
  exact z
/-- a slice from a to b, both not below 0 -/
theorem cut_nat (z : Str) (a b : Nat) : cutS z (some (a : Int)) (some (b : Int)) = ⟨((z.cps.toList.drop a).take (b - a)).toArray⟩ := by
  unfold cutS
  rw [HT.sIx_nat, HT.sIx_nat]
  have n := len_list z
  revert n
  generalize z.cps.toList = L
  intro n
  rw [← n]
  congr 2
  by_cases h : a ≤ L.length
  · rw [Nat.min_eq_left h]
    by_cases h2 : b ≤ L.length
    · rw [Nat.min_eq_left h2]
    · rw [Nat.min_eq_right (by omega), List.take_of_length_le (by rw [List.length_drop]; omega), List.take_of_length_le (by rw [List.length_drop]; omega)]
  · rw [show min a L.length = L.length from by omega, List.drop_of_length_le (Nat.le_refl _), List.drop_of_length_le (by omega)]
    simp
/-! ### promises -/
/-- the way out by the error of class C that holds v -/
def OutE (C : Addr) (v : V) (E : XK) (H : Hp) : Prop := ∀ H' d, Same H H' → FldAt H' d "value" v → E (.ref C) (some d) H'
theorem OutE.up {C : Addr} {v : V} {E : XK} {H H' : Hp} (h : OutE C v E H) (s : Same H H') : OutE C v E H' := fun H2 d s2 f => h H2 d (s.trans s2) f
def spWrite (C : Addr) : Sp := fun vs H Q E => ∃ v : V, vs = [v] ∧ ((TextV H v false ∧ OutE C v E H) ∨
  ∃ (a : Addr) (xs : List V) (ts : List Tk), v = .ref a ∧ SqA H a xs ∧ TxL H xs ts ∧ (∀ t ∈ ts, tokS t = true) ∧ headPar ts = true ∧ ts.length ≤ 3000 ∧ ∀ H', Same H H' → Q (.str (flatS ts)) H')
def spPair : Sp := fun vs H Q _ => ∃ (z : Str) (s : Nat), vs = [.str z, .int (s : Int)] ∧ z.length ≤ 90000 ∧ z.cps.toList.drop s ≠ [] ∧
  ∀ t H', Same H H' → H t = none → H' t = some (.tup [.str ⟨(markOf (z.cps.toList.drop s)).toArray⟩, .str ⟨((restOf (z.cps.toList.drop s)).takeWhile isAbc).toArray⟩]) → Q (.ref t) H'
def spRead (C : Addr) : Sp := fun vs H Q E => ∃ v : V, vs = [v] ∧ ((∃ t, Ty7 H v t ∧ isStrV v = false ∧ OutE C v E H) ∨
  ∃ z : Str, v = .str z ∧ z.length ≤ 90000 ∧ (textS (pairsS z) = false → OutE C v E H) ∧ (textS (pairsS z) = true → ∀ D H' xs, Same H H' → H D = none → H' D = some (.lst xs) → TxL H' xs (pairsS z) → Q (.ref D) H'))
end RV
namespace RV
open PySem PySem.Spec PyProof.Rows L2 TL
theorem TxL.sam {H H' : Hp} {D : Addr} {l : List V} (s : Sam D H H') (hD : H D = some (.lst l)) : ∀ {vs : List V} {ts : List Tk}, TxL H vs ts → TxL H' vs ts
  | _, _, .nil => .nil
  | _, _, .cons h r => by
    obtain ⟨a, e, q⟩ := h
    exact .cons ⟨a, e, s _ _ (ne_of q hD (by intro z; cases z)) q⟩ (r.sam s hD)
theorem flat_mem {ts : List LT} {t : LT} (h : t ∈ ts) : t.1.length + t.2.length ≤ (flatL ts).length := by
  induction ts with
  | nil => cases h
  | cons u r ih =>
    show _ ≤ (u.1 ++ (u.2 ++ flatL r)).length
    rw [List.length_append, List.length_append]
    rcases List.mem_cons.mp h with rfl | h
    · omega
    · have := ih h
      omega
theorem flat_size : ∀ {ts : List LT}, (∀ t ∈ ts, t.1 ≠ []) → ts.length ≤ (flatL ts).length
  | [], _ => Nat.le_refl _
  | u :: r, h => by
    have := flat_size (ts := r) fun t ht => h t (by simp [ht])
    have h0 := List.length_pos_iff.mpr (h u (by simp))
    show r.length + 1 ≤ (u.1 ++ (u.2 ++ flatL r)).length
    rw [List.length_append, List.length_append]
    omega
theorem markOf_ne {l : List Nat} (h : l ≠ []) : markOf l ≠ [] := by
  cases l with
  | nil => exact absurd rfl h
  | cons c r =>
    show (if c = 32 then [c] else c :: r.take 1) ≠ []
    split <;> simp
theorem pair_drop (L : List Nat) (n : Nat) : L.drop (n + (markOf (L.drop n)).length + ((restOf (L.drop n)).takeWhile isAbc).length) = (restOf (L.drop n)).dropWhile isAbc := by
  rw [Nat.add_assoc, ← List.drop_drop]
  have e := mark_rest (L.drop n)
  revert e
  generalize L.drop n = l
  intro e
  have q : ∀ a b : List Nat, (a ++ b).drop a.length = b := fun a b => by simp
  have z := q (markOf l) (restOf l)
  rw [e] at z
  rw [← List.drop_drop, z, tw_drop]
theorem pair_len (l : List Nat) : (markOf l).length + ((restOf l).takeWhile isAbc).length ≤ l.length := by
  have e := congrArg List.length (mark_rest l)
  have f := congrArg List.length (List.takeWhile_append_dropWhile (p := isAbc) (l := restOf l))
  rw [List.length_append] at e f
  omega
end RV
namespace RV
open PySem PySem.Spec PyProof.Rows L2 TL
/-! ### drawn marks, words, texts -/
theorem Sam.box_at {p : Addr} {H H1 H' : Hp} {n : Int} (_ : BoxAt H' p n) (a : Sam p H H1) (b : Sam p H1 H') : Sam p H H' := a.trans b
theorem Sam.up {p : Addr} {H H1 H2 : Hp} (a : Sam p H H1) (b : Same H1 H2) : Sam p H H2 := fun c o n h => b c o (a c o n h)
def marks13 : List Str := [" ", "#0", "#1", "#2", "#3", "|0", "|1", "|2", "|3", "/0", "/1", "/2", "/3"]
theorem markS_13 (z : Str) : markS z = decide (z ∈ marks13) := rfl
def spAllMarks : Sp := fun vs H Q _ => vs = [] ∧ ∀ D, H D = none → Q (.ref D) (upd H D (.lst (marks13.map V.str)))
def spMark : Sp := fun vs H Q _ => ∃ (p : Addr) (n : Int), vs = [.ref p] ∧ n ≤ 900000 ∧ BoxAt H p n ∧ ∀ m H', markS m = true → Sam p H H' → BoxAt H' p (n + 3) → Q (.str m) H'
def spWord : Sp := fun vs H Q _ => ∃ (p : Addr) (most n : Int), vs = [.ref p, .int most] ∧ 1 ≤ most ∧ most ≤ 30 ∧ n ≤ 900000 ∧ BoxAt H p n ∧ ∀ z H', wordS z = true → Sam p H H' → BoxAt H' p (n + 35) → Q (.str z) H'
def spTextD : Sp := fun vs H Q _ => ∃ (p : Addr) (many : Nat) (most n : Int), vs = [.ref p, .int (many : Int), .int most] ∧ many ≤ 300 ∧ 1 ≤ most ∧ most ≤ 30 ∧ n ≤ 800000 ∧ BoxAt H p n ∧
  ∀ D H' xs ts, H D = none → Sam p H H' → D ≠ p → BoxAt H' p (n + 40 * many) → H' D = some (.lst xs) → TxL H' xs ts → (∀ t ∈ ts, tokS t = true) → headPar ts = true → ts.length = many → Q (.ref D) H'
theorem markS_asc {m : Str} (h : markS m = true) : Asc m := by
  rcases (markS_iff m).mp h with e | ⟨c, d, e, hc, hd⟩
  · intro x hx
    rw [e] at hx
    have := List.mem_singleton.mp hx
    omega
  · intro x hx
    rw [e] at hx
    simp only [List.mem_cons, List.not_mem_nil, or_false] at hx
    omega
theorem wordS_asc {z : Str} (h : wordS z = true) : Asc z := by
  intro c hc
  unfold wordS onlyS at h
  rw [Bool.and_eq_true] at h
  have := List.all_eq_true.mp h.2 c hc
  rw [abc_is] at this
  simp [isAbc] at this
  omega
theorem wordS_mk {l : List Nat} (h : ∀ c ∈ l, isAbc c = true) (h1 : 1 ≤ l.length) (h2 : l.length ≤ 30) : wordS ⟨l.toArray⟩ = true := by
  unfold wordS onlyS
  rw [len_mk, decide_eq_true h1, decide_eq_true h2]
  simp only [Bool.and_self, Bool.true_and]
  rw [List.all_eq_true]
  intro c hc
  rw [abc_is]
  exact h c (by simpa using hc)
end RV
namespace RV
open PySem PySem.Spec PyProof.Rows L2 TL
theorem samNone {p D : Addr} {H H1 : Hp} (s : Sam p H H1) (n : D ≠ p) (h : H1 D = none) : H D = none := by
  cases e : H D with
  | none => rfl
  | some u =>
    rw [s D u n e] at h
    cases h
theorem sameNone {D : Addr} {H H1 : Hp} (s : Same H H1) (h : H1 D = none) : H D = none := by
  cases e : H D with
  | none => rfl
  | some u =>
    rw [s D u e] at h
    cases h
theorem Sam.old {p D : Addr} {H H1 : Hp} {o : HO} (s : Sam p H H1) (h : H D = none) : Sam p H (upd H1 D o) := fun c u nc e => by
  rw [upd_ne (ne_of_none e h)]
  exact s c u nc e
theorem BoxAt.off {H : Hp} {p D : Addr} {n : Int} {o : HO} (b : BoxAt H p n) (h : D ≠ p) : BoxAt (upd H D o) p n := by
  obtain ⟨x, y, z, e, r⟩ := b
  exact ⟨x, y, z, by rw [upd_ne h.symm]; exact e, r⟩
end RV
namespace RV
open PySem PySem.Spec PyProof.Rows L2 TL
theorem ite_tail {c A B T : Prop} [Decidable c] (h : T) (a : PLift T → c → A) (b : PLift T → ¬ c → B) : if c then A else B := ite2 (a ⟨h⟩) (b ⟨h⟩)
theorem sig_as {N : L2.St → Hp → Prop} {σ σ' : L2.St} {H : Hp} (e : σ = σ') (h : N σ' H) : N σ H := e ▸ h
theorem with_tail {T G : Prop} (h : T) (m : PLift T → G) : G := m ⟨h⟩
end RV
namespace RV
open PySem PySem.Spec PyProof.Rows L2 TL
theorem sig_set {i : Nat} {v : V} {σ σ' : L2.St} {H : Hp} {Q : L2.St → Hp → Prop} (e : σ.set i (some v) = σ') (h : Q σ' H) : gName i v σ H Q := by
  show Q (σ.set i (some v)) H
  rw [e]
  exact h
end RV
namespace RV
open PySem PySem.Spec PyProof.Rows L2 TL
theorem heap_as {N : Hp → Prop} {H H' : Hp} (e : H = H') (h : N H') : N H := e ▸ h
end RV

namespace RV
open PySem PySem.Spec PyProof.Rows L2 TL
theorem inV_strs (m : Str) (ms : List Str) : inV (.str m) (ms.map V.str) = decide (m ∈ ms) := by
  unfold inV
  rw [List.any_map, Bool.eq_iff_iff, List.any_eq_true, decide_eq_true_eq]
  constructor
  · rintro ⟨y, hy, e⟩
    have e2 : (y == m) = true := e
    rw [← beq_iff_eq.mp e2]
    exact hy
  · intro h
    exact ⟨m, h, beq_iff_eq.mpr rfl⟩
/-- rows: lists of a mark and a word, each at an address of its own -/
inductive RwL (H : Hp) : List Addr → List LT → Prop
  | nil : RwL H [] []
  | cons {a : Addr} {t : LT} {as : List Addr} {ts : List LT} : H a = some (.lst [.str (stk t).1, .str (stk t).2]) → RwL H as ts → RwL H (a :: as) (t :: ts)
namespace RwL
theorem up {H H' : Hp} (s : Same H H') : ∀ {as : List Addr} {ts : List LT}, RwL H as ts → RwL H' as ts
  | _, _, .nil => .nil
  | _, _, .cons h r => .cons (s _ _ h) (r.up s)
theorem off {H : Hp} {p : Addr} {o : HO} : ∀ {as : List Addr} {ts : List LT}, p ∉ as → RwL H as ts → RwL (upd H p o) as ts
  | _, _, _, .nil => .nil
  | _, _, n, .cons h r => .cons (by
    rw [upd_ne (fun e => n (by rw [← e]; exact List.mem_cons_self))]
    exact h) (r.off fun e => n (List.mem_cons_of_mem _ e))
theorem length {H : Hp} : ∀ {as : List Addr} {ts : List LT}, RwL H as ts → as.length = ts.length
  | _, _, .nil => rfl
  | _, _, .cons h r => by simp [r.length]
theorem append {H : Hp} : ∀ {as bs : List Addr} {ts us : List LT}, RwL H as ts → RwL H bs us → RwL H (as ++ bs) (ts ++ us)
  | _, _, _, _, .nil, h => h
  | _, _, _, _, .cons a r, h => .cons a (r.append h)
theorem get {H : Hp} : ∀ {as : List Addr} {ts : List LT}, RwL H as ts → ∀ {i : Nat} {a : Addr}, as[i]? = some a → ∃ t, ts[i]? = some t ∧ H a = some (.lst [.str (stk t).1, .str (stk t).2])
  | _, _, .nil, i, a, e => by simp at e
  | _, _, .cons (t := t) h r, 0, a, e => ⟨t, by simp, by
    have e2 := Option.some.inj e
    subst e2
    exact h⟩
  | _, _, .cons h r, i + 1, a, e => by
    obtain ⟨t, q, k⟩ := r.get (i := i) (a := a) (by simpa using e)
    exact ⟨t, by simpa using q, k⟩
/-- the last row -/
theorem last {H : Hp} {as : List Addr} {ts : List LT} {t : LT} (h : RwL H as ts) (e : ts.getLast? = some t) : ∃ bs a, as = bs ++ [a] ∧ RwL H bs ts.dropLast ∧ H a = some (.lst [.str (stk t).1, .str (stk t).2]) := by
  induction h with
  | nil => cases e
  | @cons a u as ts hu r ih =>
    cases ts with
    | nil =>
      cases r
      have e2 : u = t := Option.some.inj e
      subst e2
      exact ⟨[], a, rfl, .nil, hu⟩
    | cons v ts =>
      obtain ⟨bs, b, e2, h2, h3⟩ := ih (by simpa using e)
      exact ⟨a :: bs, b, by rw [e2]; rfl, .cons hu h2, h3⟩
end RwL
/-- what the law's reader makes of a writing -/
def readS (z : Str) : List Tk := (readL z.cps.toList).map stk
theorem textS_valid {ts : List LT} (h : textS (ts.map stk) = true) : validL ts := by
  unfold textS at h
  rw [Bool.and_eq_true] at h
  have v := valid_of (ts := ts.map stk) fun t ht => List.all_eq_true.mp h.1 t ht
  rw [map_lt_st] at v
  exact v
theorem readers1 {z : Str} (h : textS (pairsS z) = true) : readS z = pairsS z := by
  unfold readS pairsS at *
  rw [readers.1 (textS_valid h)]
theorem readers2 {z : Str} (h : textS (readS z) = true) : pairsS z = readS z := by
  unfold readS pairsS at *
  rw [readers.2 (textS_valid h)]
theorem readers_ok (z : Str) : textS (pairsS z) = textS (readS z) := by
  cases h : textS (pairsS z) with
  | true => rw [readers1 h, h]
  | false =>
    cases h2 : textS (readS z) with
    | false => rfl
    | true =>
      rw [readers2 h2, h2] at h
      cases h
/-- words of the reader's rows are letters alone -/
def wordsAbc (ps : List LT) : Prop := ∀ t ∈ ps, ∀ c ∈ t.2, isAbc c = true
theorem words_step {ps : List LT} {c : Nat} (h : wordsAbc ps) : wordsAbc (stepL ps c) := by
  unfold stepL
  cases q : ps.getLast? with
  | none =>
    intro t ht d hd
    rcases List.mem_append.mp ht with h1 | h1
    · exact h t h1 d hd
    · rw [List.mem_singleton.mp h1] at hd
      cases hd
  | some u =>
    have e := last_split q
    have hu : u ∈ ps := by rw [e]; simp
    have hd0 : ∀ t ∈ ps.dropLast, ∀ d ∈ t.2, isAbc d = true := fun t ht => h t (List.dropLast_subset ps ht)
    simp only
    split
    · rename_i hc
      intro t ht d hd
      rcases List.mem_append.mp ht with h1 | h1
      · exact hd0 t h1 d hd
      · rw [List.mem_singleton.mp h1] at hd
        rcases List.mem_append.mp hd with h2 | h2
        · exact h u hu d h2
        · rw [List.mem_singleton.mp h2]
          exact hc
    · split
      · intro t ht d hd
        rcases List.mem_append.mp ht with h1 | h1
        · exact hd0 t h1 d hd
        · rw [List.mem_singleton.mp h1] at hd
          exact h u hu d hd
      · intro t ht d hd
        rcases List.mem_append.mp ht with h1 | h1
        · exact h t h1 d hd
        · rw [List.mem_singleton.mp h1] at hd
          cases hd
theorem words_read : ∀ (l : List Nat) (ps : List LT), wordsAbc ps → wordsAbc (l.foldl stepL ps)
  | [], ps, h => h
  | c :: r, ps, h => words_read r _ (words_step h)
/-- one row is right -/
def rowOk (i : Nat) (t : Tk) : Bool := markS t.1 && (decide (1 ≤ t.2.length) && decide (t.2.length ≤ 30)) && (decide (i ≠ 0) || decide (t.1.cps.toList.head? = some 35))
theorem row_tok {ps : List LT} (h : wordsAbc ps) {t : LT} (ht : t ∈ ps) : tokS (stk t) = (markS (stk t).1 && (decide (1 ≤ (stk t).2.length) && decide ((stk t).2.length ≤ 30))) := by
  unfold tokS wordS
  have e : onlyS (stk t).2 abc = true := by
    unfold onlyS
    rw [List.all_eq_true]
    intro c hc
    rw [abc_is]
    exact h t ht c (by simpa [stk] using hc)
  rw [e, Bool.and_true]
theorem rows_bad {ps : List LT} (h : wordsAbc ps) {i : Nat} {t : LT} (hi : ps[i]? = some t) (hb : rowOk i (stk t) = false) : textS (ps.map stk) = false := by
  have ht := List.mem_of_getElem? hi
  have e := row_tok h ht
  unfold rowOk at hb
  rw [← e] at hb
  unfold textS
  rw [Bool.and_eq_false_iff]
  cases q : tokS (stk t) with
  | false =>
    left
    rw [List.all_eq_false]
    exact ⟨stk t, List.mem_map_of_mem ht, by rw [q]; exact Bool.false_ne_true⟩
  | true =>
    right
    rw [q, Bool.true_and, Bool.or_eq_false_iff, decide_eq_false_iff_not, Decidable.not_not] at hb
    obtain ⟨rfl, h2⟩ := hb
    cases ps with
    | nil => cases hi
    | cons u r =>
      have e2 : u = t := Option.some.inj hi
      subst e2
      exact h2
theorem rows_good {ps : List LT} (h : wordsAbc ps) (hg : ∀ i t, ps[i]? = some t → rowOk i (stk t) = true) : textS (ps.map stk) = true := by
  unfold textS
  rw [Bool.and_eq_true]
  constructor
  · rw [List.all_eq_true]
    intro u hu
    obtain ⟨t, ht, rfl⟩ := List.mem_map.mp hu
    obtain ⟨i, hi⟩ := List.getElem?_of_mem ht
    have := hg i t hi
    unfold rowOk at this
    rw [← row_tok h ht, Bool.and_eq_true] at this
    exact this.1
  · cases ps with
    | nil => rfl
    | cons t r =>
      have := hg 0 t rfl
      unfold rowOk at this
      rw [Bool.and_eq_true] at this
      simpa [headPar] using this.2
def spLawRead : Sp := fun vs H Q _ => ∃ z : Str, vs = [.str z] ∧ z.length ≤ 50000 ∧ (textS (readS z) = false → ∀ H', Same H H' → Q .non H') ∧ (textS (readS z) = true → ∀ D H' xs, H D = none → Same H H' → H' D = some (.lst xs) → TxL H' xs (readS z) → Q (.ref D) H')
end RV
namespace RV
open PySem PySem.Spec PyProof.Rows L2 TL
theorem empty_str : Str.ofString "" = (⟨#[]⟩ : Str) := by decide +kernel
theorem app_one (l : List Nat) (c : Nat) : (⟨l.toArray⟩ ++ ⟨#[c]⟩ : Str) = ⟨(l ++ [c]).toArray⟩ := by
  refine ext_tl ?_
  rw [tl_append]
theorem step_none {ps : List LT} {c : Nat} (h : ps.getLast? = none) : stepL ps c = ps ++ [([c], [])] := by
  unfold stepL
  rw [h]
theorem step_abc {ps : List LT} {c : Nat} {t : LT} (h : ps.getLast? = some t) (hc : isAbc c = true) : stepL ps c = ps.dropLast ++ [(t.1, t.2 ++ [c])] := by
  unfold stepL
  rw [h]
  simp only
  rw [if_pos hc]
theorem step_mark {ps : List LT} {c : Nat} {t : LT} (h : ps.getLast? = some t) (hc : isAbc c = false) (hm : (t.1 = [35] ∨ t.1 = [124] ∨ t.1 = [47]) ∧ t.2 = []) : stepL ps c = ps.dropLast ++ [(t.1 ++ [c], t.2)] := by
  unfold stepL
  rw [h]
  simp only
  rw [if_neg (by rw [hc]; exact Bool.false_ne_true), if_pos hm]
theorem step_new {ps : List LT} {c : Nat} {t : LT} (h : ps.getLast? = some t) (hc : isAbc c = false) (hm : ¬((t.1 = [35] ∨ t.1 = [124] ∨ t.1 = [47]) ∧ t.2 = [])) : stepL ps c = ps ++ [([c], [])] := by
  unfold stepL
  rw [h]
  simp only
  rw [if_neg (by rw [hc]; exact Bool.false_ne_true), if_neg hm]
theorem mk_eq (l k : List Nat) : ((⟨l.toArray⟩ : Str) = ⟨k.toArray⟩) ↔ l = k := by
  constructor
  · intro h
    have e := congrArg (fun z : Str => z.cps.toList) h
    simpa using e
  · intro h
    rw [h]
theorem sign3 (l : List Nat) : (⟨l.toArray⟩ : Str) ∈ ([Str.ofString "#", Str.ofString "|", Str.ofString "/"] : List Str) ↔ (l = [35] ∨ l = [124] ∨ l = [47]) := by
  rw [show Str.ofString "#" = (⟨[35].toArray⟩ : Str) from by decide +kernel, show Str.ofString "|" = (⟨[124].toArray⟩ : Str) from by decide +kernel, show Str.ofString "/" = (⟨[47].toArray⟩ : Str) from by decide +kernel]
  simp only [List.mem_cons, List.not_mem_nil, or_false, mk_eq]
theorem last_none {as : List Addr} {ps : List LT} {H : Hp} (h : RwL H as ps) (q : ps.getLast? = none) : as = [] := by
  have e : ps = [] := List.getLast?_eq_none_iff.mp q
  subst e
  cases h
  rfl
end RV
namespace RV
open PySem PySem.Spec PyProof.Rows L2 TL
theorem step_len (ps : List LT) (c : Nat) : (stepL ps c).length ≤ ps.length + 1 := by
  cases q : ps.getLast? with
  | none =>
    rw [step_none q]
    simp
  | some t =>
    have e := congrArg List.length (last_split q)
    unfold stepL
    rw [q]
    simp only
    split
    · simp at e ⊢
      try omega
    · split
      · simp at e ⊢
        try omega
      · simp
theorem fold_len : ∀ (l : List Nat) (ps : List LT), (l.foldl stepL ps).length ≤ ps.length + l.length
  | [], ps => by simp
  | c :: r, ps => by
    have h1 := fold_len r (stepL ps c)
    have h2 := step_len ps c
    rw [List.foldl_cons, List.length_cons]
    omega
end RV
namespace RV
open PySem PySem.Spec PyProof.Rows L2 TL
def ToldErr (H : Hp) (v : V) (Q : VK) : Prop := ∀ R H', Same H H' → H R = none → H' R = some (.lst [.str (Str.ofString "text"), v]) → Q (.ref R) H'
def ToldStr (H : Hp) (s : Str) (Q : VK) : Prop := ∀ R H', Same H H' → H R = none → H' R = some (.lst [.str (Str.ofString "told"), .str s]) → Q (.ref R) H'
def ToldText (H : Hp) (ts : List Tk) (Q : VK) : Prop := ∀ R D H' xs, Same H H' → H R = none → H D = none → R ≠ D → H' R = some (.lst [.str (Str.ofString "told"), .ref D]) → H' D = some (.lst xs) → TxL H' xs ts → Q (.ref R) H'
inductive Told (H : Hp) (Q : VK) : Int → V → Prop
  | wno {v : V} (h : TextV H v false) (q : ToldErr H v Q) : Told H Q 0 v
  | wyes {a : Addr} {xs : List V} {ts : List Tk} (s : SqA H a xs) (h : TxL H xs ts) (k : ∀ t ∈ ts, tokS t = true) (p : headPar ts = true) (l : ts.length ≤ 3000) (q : ToldStr H (flatS ts) Q) : Told H Q 0 (.ref a)
  | rno {v : V} {t : String} (h : Ty7 H v t) (n : isStrV v = false) (q : ToldErr H v Q) : Told H Q 1 v
  | rstr {z : Str} (l : z.length ≤ 90000) (q1 : textS (pairsS z) = false → ToldErr H (.str z) Q) (q2 : textS (pairsS z) = true → ToldText H (pairsS z) Q) : Told H Q 1 (.str z)
def spTold : Sp := fun vs H Q _ => ∃ (way : Int) (v : V), vs = [.int way, v] ∧ Told H Q way v
end RV

namespace RV
open PySem PySem.Spec PyProof.Rows L2 TL
def repS (x : Str) (k : Nat) : Str := ⟨(List.replicate k x.cps.toList).flatten.toArray⟩
theorem fold_rep (a : Array Nat) : ∀ (k : Nat) (acc : Array Nat), (List.replicate k a).foldl (fun x y => x ++ y) acc = acc ++ (List.replicate k a.toList).flatten.toArray
  | 0, acc => by simp
  | k + 1, acc => by
    rw [List.replicate_succ, List.foldl_cons, fold_rep a k, List.replicate_succ, List.flatten_cons]
    apply Array.ext'
    simp
/-- s * k -/
def rMulS : R2 := fun x y H Q => ∃ (z : Str) (k : Nat), x = .str z ∧ y = .int (k : Int) ∧ z.length ≤ 200 ∧ k ≤ 1000 ∧ Q (.str (repS z k)) H
theorem op_mul_str {X : Cx} : OpR X (binaryOp .Mult) rMulS := by
  intro pins s σ H x y v u Q I rx ry h
  obtain ⟨z, k, rfl, rfl, hz, hk, q⟩ := h
  obtain ⟨t, rfl⟩ := rx
  obtain ⟨t', rfl⟩ := ry
  have hs : sizeLine = 16777216 := sizeLine_eq
  have hl : z.length * k ≤ 200000 := Nat.mul_le_mul hz hk
  refine PySem.P.mul_str (by rw [decide_eq_false (by omega), decide_eq_false (by omega)]; rfl) (fun h1 h2 => ?_) (fun h1 h2 => ?_) ?_
  · have k1 : 1 ≤ k := by omega
    have : (1000 : Int) ≤ (2 ^ 63 - 1) / (k : Int) := by
      rw [Int.le_ediv_iff_mul_le (by omega)]
      omega
    omega
  · unfold Builtin.Str.tooLong
    rw [Int.toNat_natCast]
    exact decide_eq_false (by omega)
  · have fin : ∀ y : Str, y = repS z k → ∀ t tk, EP X pins σ Q (.str y t) { s with toks := tk } := fun y e t tk => ⟨.str y, H, I.tok _, ⟨t, rfl⟩, by rw [e]; exact q⟩
    by_cases h1 : (k : Int) < 1
    · rw [if_pos h1]
      refine ⟨by decide, fin _ ?_ _ _⟩
      have k0 : k = 0 := by omega
      subst k0
      rfl
    · rw [if_neg h1]
      by_cases h2 : (((k : Int) == 1) || (z.length == 0)) = true
      · rw [if_pos h2]
        have e : z = repS z k := by
          rcases Bool.or_eq_true _ _ ▸ h2 with h3 | h3
          · have k1 : k = 1 := by
              have := beq_iff_eq.mp h3
              omega
            subst k1
            unfold repS
            refine ext_tl ?_
            simp [tl]
          · have z0 : z.cps.toList = [] := List.length_eq_zero_iff.mp ((len_list z).trans (beq_iff_eq.mp h3))
            unfold repS
            refine ext_tl ?_
            simp [tl, z0]
        exact fin z e _ _
      · rw [if_neg h2]
        refine ⟨?_, fin _ ?_ _ _⟩
        · rw [Int.toNat_natCast, fold_rep]
          refine szl ?_
          have e : (⟨#[] ++ (List.replicate k z.cps.toList).flatten.toArray⟩ : Str).length = k * z.length := by
            show (#[] ++ (List.replicate k z.cps.toList).flatten.toArray : Array Nat).size = _
            rw [← len_list z]
            simp [List.length_flatten]
          rw [e, Nat.mul_comm]
          exact hl
        · rw [Int.toNat_natCast, fold_rep]
          unfold repS
          simp
end RV

/-! what is shown of texts and tellings; the state of the law's body -/
namespace RV
open PySem PySem.Spec PyProof.Rows L2 TL
def dTk (t : Tk) : PyData := .tuple [.str t.1, .str t.2]
def dTx (ts : List Tk) : PyData := .list (ts.map dTk)
theorem dx_tx {H : Hp} : ∀ {xs : List V} {ts : List Tk}, TxL H xs ts → DxAll H xs (ts.map dTk)
  | _, _, .nil => .nil
  | _, _, .cons h r => by
    obtain ⟨a, rfl, e⟩ := h
    exact .cons (.tup e (.cons (.str _) (.cons (.str _) .nil))) (dx_tx r)
/-- a token that can be shown -/
def tokA (t : Tk) : Prop := Asc t.1 ∧ Asc t.2 ∧ t.1.length ≤ 100 ∧ t.2.length ≤ 100
theorem tokS_A {t : Tk} (h : tokS t = true) : tokA t := by
  unfold tokS at h
  rw [Bool.and_eq_true] at h
  have m1 := markS_len h.1
  have m2 := wordS_len h.2
  exact ⟨markS_asc h.1, wordS_asc h.2, by omega, by omega⟩
theorem depthAll_tk : ∀ ts : List Tk, PyData.depthAll (ts.map dTk) ≤ 1
  | [] => by simp [PyData.depthAll]
  | t :: r => by
    have := depthAll_tk r
    simp only [List.map_cons, PyData.depthAll, dTk, PyData.depth]
    omega
theorem plainAll_tk : ∀ {ts : List Tk}, (∀ t ∈ ts, tokA t) → plainAll (ts.map dTk)
  | [], _ => by simp [plainAll]
  | t :: r, h => by
    obtain ⟨h1, h2, _⟩ := h t (by simp)
    simp only [List.map_cons, plainAll, dTk, plainD]
    exact ⟨⟨h1, h2, trivial⟩, plainAll_tk fun u hu => h u (by simp [hu])⟩
theorem costAll_tk : ∀ {ts : List Tk}, (∀ t ∈ ts, tokA t) → costAll (ts.map dTk) ≤ 2020 * ts.length
  | [], _ => by simp [costAll]
  | t :: r, h => by
    obtain ⟨_, _, h1, h2⟩ := h t (by simp)
    have := costAll_tk (ts := r) fun u hu => h u (by simp [hu])
    simp only [List.map_cons, costAll, dTk, cost, List.length_cons]
    omega
/-- data that can be shown, with room left -/
structure ShD (H : Hp) (v : V) (d : PyData) : Prop where
  dx : Dx H v d
  dp : d.depth ≤ 50
  pl : plainD d
  co : cost d ≤ 15000000
theorem ShD.up {H H' : Hp} {v : V} {d : PyData} (h : ShD H v d) (s : Same H H') : ShD H' v d := ⟨Dx.up s d v h.dx, h.dp, h.pl, h.co⟩
theorem ShD.tx {H : Hp} {D : Addr} {xs : List V} {ts : List Tk} (e : H D = some (.lst xs)) (tx : TxL H xs ts) (ha : ∀ t ∈ ts, tokA t) (l : ts.length ≤ 7000) : ShD H (.ref D) (dTx ts) := by
  have h1 := depthAll_tk ts
  have h2 := plainAll_tk ha
  have h3 := costAll_tk ha
  refine ⟨.lst e (dx_tx tx), ?_, h2, ?_⟩
  · simp only [dTx, PyData.depth]
    omega
  · simp only [dTx, cost]
    omega
theorem ShD.str {H : Hp} {z : Str} (h : Asc z) (l : z.length ≤ 1000000) : ShD H (.str z) (.str z) := ⟨.str z, by simp [PyData.depth], h, by simp only [cost]; omega⟩
theorem ShD.non {H : Hp} : ShD H .non .none := ⟨.non, by simp [PyData.depth], trivial, by simp only [cost]; omega⟩
theorem ShD.bl {H : Hp} (b : Bool) : ShD H (.bl b) (.bool b) := ⟨.bl b, by simp [PyData.depth], trivial, by simp only [cost]; omega⟩
theorem ShD.int {H : Hp} {i : Int} (h : i.natAbs.log2 < 1920) : ShD H (.int i) (.int i) := ⟨.int i, by simp [PyData.depth], h, by simp only [cost]; omega⟩
/-- a list of two: a word, and what can be shown -/
theorem ShD.two {H : Hp} {R : Addr} {k : Str} {v : V} {d : PyData} (e : H R = some (.lst [.str k, v])) (h : ShD H v d) (hk : Asc k) (lk : k.length ≤ 100) : Dx H (.ref R) (.list [.str k, d]) ∧ (PyData.list [.str k, d]).depth ≤ 60 ∧ plainD (.list [.str k, d]) ∧ cost (.list [.str k, d]) ≤ sizeLine := by
  have h1 := h.dp
  have h2 := h.co
  have hs : sizeLine = 16777216 := sizeLine_eq
  refine ⟨.lst e (.cons (.str k) (.cons h.dx .nil)), ?_, ⟨hk, h.pl, trivial⟩, ?_⟩
  · simp only [PyData.depth, PyData.depthAll]
    omega
  · simp only [cost, costAll]
    omega
theorem asc_told : Asc (Str.ofString "told") := asc_lit (by decide +kernel)
theorem asc_text : Asc (Str.ofString "text") := asc_lit (by decide +kernel)
theorem len_told : (Str.ofString "told").length ≤ 100 := by decide +kernel
theorem len_text : (Str.ofString "text").length ≤ 100 := by decide +kernel
/-- the law's state: the box at p, its text at T -/
structure Stt (H0 : Hp) (p T : Addr) (xs : List V) (ts : List Tk) (n : Int) (H : Hp) : Prop where
  ss : Sam p H0 H
  bx : BoxAt H p n
  tn : T ≠ p
  et : H T = some (.lst xs)
  tx : TxL H xs ts
  sy : SysAt H
theorem SysAt.sam {H H' : Hp} {p : Addr} {n : Int} (h : SysAt H) (b : BoxAt H p n) (s : Sam p H H') : SysAt H' := by
  obtain ⟨x, y, z, e, _⟩ := b
  obtain ⟨o, k⟩ := h
  exact ⟨o, s _ _ (not_sys ⟨o, k⟩ e (fun o z => by cases z)).symm k⟩
theorem Stt.same {H0 H H' : Hp} {p T : Addr} {xs : List V} {ts : List Tk} {n : Int} (z : Stt H0 p T xs ts n H) (s : Same H H') : Stt H0 p T xs ts n H' :=
  ⟨z.ss.up s, z.bx.up s, z.tn, s _ _ z.et, z.tx.up s, z.sy.up s⟩
theorem Stt.sam {H0 H H' : Hp} {p T : Addr} {xs : List V} {ts : List Tk} {n m : Int} (z : Stt H0 p T xs ts n H) (s : Sam p H H') (b : BoxAt H' p m) : Stt H0 p T xs ts m H' := by
  obtain ⟨x, y, w, e, _⟩ := id z.bx
  exact ⟨z.ss.trans s, b, z.tn, s _ _ z.tn z.et, z.tx.sam s e, z.sy.sam z.bx s⟩
theorem Stt.take {H0 H : Hp} {p T : Addr} {xs : List V} {ts : List Tk} {n m : Int} {o : HO} (z : Stt H0 p T xs ts n H) (b : BoxAt (upd H p o) p m) : Stt H0 p T xs ts m (upd H p o) := z.sam (Sam.box (Sam.refl _ _)) b
theorem Stt.mono {H0 H : Hp} {p T : Addr} {xs : List V} {ts : List Tk} {n m : Int} (z : Stt H0 p T xs ts n H) (h : n ≤ m) : Stt H0 p T xs ts m H := ⟨z.ss, z.bx.mono h, z.tn, z.et, z.tx, z.sy⟩
theorem cutS_len (z : Str) (lo hi : Option Int) : (cutS z lo hi).length ≤ z.length := by
  unfold cutS
  rw [len_mk, List.length_take, List.length_drop, len_list]
  omega
theorem cut_sum (z : Str) {a b : Int} (ha : 0 ≤ a) (hb : 0 ≤ b) : (cutS z none (some a)).length + (cutS z (some (a + b)) none).length ≤ z.length := by
  obtain ⟨m, rfl⟩ : ∃ m : Nat, a = m := ⟨a.toNat, by omega⟩
  obtain ⟨k, e⟩ : ∃ k : Nat, (m : Int) + b = k := ⟨((m : Int) + b).toNat, by omega⟩
  rw [e]
  have e1 : (cutS z none (some (m : Int))).length = min m z.length := by
    unfold cutS
    rw [HT.sIx_nat, HT.sIx_none]
    show ((List.take _ _).toArray).size = _
    rw [List.size_toArray, List.length_take, List.length_drop, len_list]
    omega
  have e2 : (cutS z (some (k : Int)) none).length = z.length - min k z.length := by
    unfold cutS
    rw [HT.sIx_nat, HT.sIx_none]
    show ((List.take _ _).toArray).size = _
    rw [List.size_toArray, List.length_take, List.length_drop, len_list]
    omega
  omega
def cutT (ts : List Tk) (lo hi : Option Int) : List Tk := (ts.drop (HT.sIx ts.length 0 lo)).take (HT.sIx ts.length ts.length hi - HT.sIx ts.length 0 lo)
theorem TxL.cut {H : Hp} {xs : List V} {ts : List Tk} (h : TxL H xs ts) (lo hi : Option Int) : TxL H (cutV xs lo hi) (cutT ts lo hi) := by
  unfold cutV cutT
  rw [h.length]
  exact (h.drop _).take _
theorem cutT_mem {ts : List Tk} {lo hi : Option Int} {t : Tk} (h : t ∈ cutT ts lo hi) : t ∈ ts := List.mem_of_mem_drop (List.mem_of_mem_take h)
theorem cutT_len (ts : List Tk) (lo hi : Option Int) : (cutT ts lo hi).length ≤ ts.length := by
  unfold cutT
  rw [List.length_take, List.length_drop]
  omega
theorem asc_flat {ts : List Tk} (h : ∀ t ∈ ts, tokS t = true) : Asc (flatS ts) := by
  refine asc_mk ?_
  induction ts with
  | nil => intro c hc; cases hc
  | cons t r ih =>
    intro c hc
    have ht := tokS_A (h t (by simp))
    rcases List.mem_append.mp (show c ∈ (ltk t).1 ++ ((ltk t).2 ++ flatL (r.map ltk)) from hc) with h1 | h1
    · exact ht.1 c h1
    · rcases List.mem_append.mp h1 with h2 | h2
      · exact ht.2.1 c h2
      · exact ih (fun u hu => h u (by simp [hu])) c h2
theorem flatS_len {ts : List Tk} (h : ∀ t ∈ ts, tokS t = true) : (flatS ts).length ≤ 32 * ts.length := by
  unfold flatS
  rw [len_mk]
  exact (flat_len h).1
theorem asc_rep {z : Str} (h : Asc z) (k : Nat) : Asc (repS z k) := by
  unfold repS
  refine asc_mk fun c hc => ?_
  obtain ⟨l, hl, hc2⟩ := List.mem_flatten.mp hc
  rw [(List.mem_replicate.mp hl).2] at hc2
  exact h c hc2
theorem rep_len (z : Str) (k : Nat) : (repS z k).length = k * z.length := by
  unfold repS
  rw [len_mk, ← len_list z]
  simp [List.length_flatten]
/-- what the law gives that is no string -/
def OddV (H : Hp) (v : V) : Prop := ∃ t d, Ty7 H v t ∧ isStrV v = false ∧ ShD H v d
inductive BadV (H0 H : Hp) : V → Prop
  | str (z : Str) (h : Asc z) (l : z.length ≤ 50000) : BadV H0 H (.str z)
  | non : BadV H0 H .non
  | int : BadV H0 H (.int 0)
  | lst {a : Addr} {xs : List V} {ts : List Tk} (e : H a = some (.lst xs)) (tx : TxL H xs ts) (ha : ∀ t ∈ ts, tokA t) (l : ts.length ≤ 1000) (f : textS ts = false) (n : H0 a = none) : BadV H0 H (.ref a)
theorem BadV.tx {H0 H : Hp} {v : V} (h : BadV H0 H v) : TextV H v false := by
  cases h with
  | str z h l => exact .odd (.str z (by omega)) rfl rfl
  | non => exact .odd .non rfl rfl
  | int => exact .odd (.int 0) rfl rfl
  | lst e tx ha l f n =>
    have lx := tx.length
    exact (TextV.of (.inl e) (by omega) tx fun t ht => by
      have := ha t ht
      exact ⟨by have := this.2.2.1; omega, by have := this.2.2.2; omega⟩).eq f
theorem dx_app {H : Hp} : ∀ {xs ys : List V} {ds es : List PyData}, DxAll H xs ds → DxAll H ys es → DxAll H (xs ++ ys) (ds ++ es)
  | _, _, _, _, .nil, h => h
  | _, _, _, _, .cons a r, h => .cons a (dx_app r h)
theorem depth_app : ∀ ds es : List PyData, PyData.depthAll (ds ++ es) = max (PyData.depthAll ds) (PyData.depthAll es)
  | [], es => by simp [PyData.depthAll]
  | d :: r, es => by
    simp only [List.cons_append, PyData.depthAll, depth_app r es]
    omega
theorem plain_app : ∀ {ds es : List PyData}, plainAll ds → plainAll es → plainAll (ds ++ es)
  | [], _, _, h => h
  | _ :: _, _, h1, h => by
    simp only [plainAll] at h1
    simp only [List.cons_append, plainAll]
    exact ⟨h1.1, plain_app h1.2 h⟩
theorem cost_app : ∀ ds es : List PyData, costAll (ds ++ es) = costAll ds + costAll es
  | [], es => by simp [costAll]
  | d :: r, es => by
    simp only [List.cons_append, costAll, cost_app r es]
    omega
theorem ShD.late {H : Hp} {D : Addr} {xs : List V} {ts : List Tk} {k : Str} (e : H D = some (.lst (xs ++ [.str k]))) (tx : TxL H xs ts) (ha : ∀ t ∈ ts, tokA t) (l : ts.length ≤ 7000) (hk : Asc k) (lk : k.length ≤ 100) : ShD H (.ref D) (.list (ts.map dTk ++ [.str k])) := by
  have h1 := depthAll_tk ts
  have h2 := plainAll_tk ha
  have h3 := costAll_tk ha
  refine ⟨.lst e (dx_app (dx_tx tx) (.cons (.str k) .nil)), ?_, plain_app h2 ⟨hk, trivial⟩, ?_⟩
  · simp only [PyData.depth, depth_app, PyData.depthAll]
    omega
  · simp only [cost, cost_app, costAll]
    omega
theorem ShD.one {H : Hp} {D : Addr} {k : Str} (e : H D = some (.lst [.str k])) (hk : Asc k) (lk : k.length ≤ 10000) : ShD H (.ref D) (.list [.str k]) := by
  refine ⟨.lst e (.cons (.str k) .nil), ?_, ⟨hk, trivial⟩, ?_⟩
  · simp only [PyData.depth, PyData.depthAll]
    omega
  · simp only [cost, costAll]
    omega
theorem ShD.oneT {H : Hp} {D : Addr} {k : Str} (e : H D = some (.tup [.str k])) (hk : Asc k) (lk : k.length ≤ 10000) : ShD H (.ref D) (.tuple [.str k]) := by
  refine ⟨.tup e (.cons (.str k) .nil), ?_, ⟨hk, trivial⟩, ?_⟩
  · simp only [PyData.depth, PyData.depthAll]
    omega
  · simp only [cost, costAll]
    omega
theorem ShD.d0 {H : Hp} {D : Addr} (e : H D = some (.dK [])) : ShD H (.ref D) (.dict []) := ⟨.dct0 e, by decide, by simp only [plainD], by simp only [cost]; omega⟩
theorem textS_app {a b : List Tk} {t : Tk} (h : tokS t = false) : textS (a ++ [t] ++ b) = false := by
  unfold textS
  rw [Bool.and_eq_false_iff]
  left
  rw [List.all_eq_false]
  exact ⟨t, by simp, by rw [h]; exact Bool.false_ne_true⟩
theorem pairs_len (z : Str) : (pairsS z).length ≤ z.length := by
  unfold pairsS
  rw [List.length_map]
  have h : ∀ (n : Nat) (l : List Nat), l.length ≤ n → (pairsL l).length ≤ l.length := by
    intro n
    induction n with
    | zero =>
      intro l hl
      have e : l = [] := List.length_eq_zero_iff.mp (by omega)
      subst e
      rw [pairsL_nil]
      exact Nat.le_refl _
    | succ n ih =>
      intro l hl
      by_cases e : l = []
      · subst e
        rw [pairsL_nil]
        exact Nat.le_refl _
      · rw [pairsL_ne e, List.length_cons]
        have h1 := rest_le l e
        have h2 := dropWhile_le isAbc (restOf l)
        have := ih ((restOf l).dropWhile isAbc) (by omega)
        omega
  have := h _ z.cps.toList (Nat.le_refl _)
  rw [len_list] at this
  exact this
def spRight : Sp := fun vs H Q _ => ∃ p : Addr, vs = [.ref p] ∧ BoxAt H p 0 ∧ SysAt H ∧ ∀ H', Sam p H H' → Q (.bl true) H'
end RV

/-! a, *b = list -/
namespace RV
open PySem PySem.Spec PyProof.Rows L2 TL
section
variable {prog : Program} {w : World} {A : Around} {E : Value → Shared → Prop} {s : Shared}
theorem unpack_starL {l : Addr} {items : Array Value} {n i : Nat} {Q : List Value → Shared → Prop} (hl : s.heap.IsList l items) (hh : A.handled = none) (hi : i < n) (hn : n ≤ items.size + 1) (hz : items.size ≤ sizeLine)
    (h : ∀ h₂ tk, Heap.ExtBut s.heap.objs.size s.heap h₂ → Q (items.toList.take i ++ [.ref h₂.objs.size] ++ (items.toList.drop i).drop (items.size + 1 - n)) { s with heap := h₂.push { cls := .type "list", data := .seq ((items.toList.drop i).take (items.size + 1 - n)).toArray }, toks := tk }) :
    wpAny (model prog w) A (unpackItems (.ref l) n (some i)) Q E s := by
  have hlt : l ≠ s.heap.objs.size := by obtain ⟨o, ho, _⟩ := hl; exact Nat.ne_of_lt (Heap.lt_size ho)
  unfold unpackItems
  refine wpAny_bind ?_
  unfold notIterableAtAll
  refine wpAny_bind (wpAny_specialOf hl.typeIs PySem.F.slot_list_iter.lookup ?_)
  refine wpAny_pure ?_
  simp only [Bool.false_eq_true, if_false]
  refine wpAny_bind (wpAny_holding (wpAny_pyIter_list hl ?_))
  refine wpAny_bind (wpAny_holding (PySem.W.kun_draw hlt i 0 _ _ ⟨_, Heap.get?_push_size _ rfl, rfl, rfl⟩ (hl.push _) (by omega) fun h₁ hit₁ hs₁ => ?_))
  have hl₁ : h₁.IsList l items := (hl.push _).extBut hs₁.extBut hlt
  rw [Nat.zero_add] at hit₁
  have hit₁' := hit₁
  obtain ⟨oi, hoi, _⟩ := hit₁'
  have hl₁' := hl₁
  obtain ⟨ol, hol, _⟩ := hl₁'
  rw [List.drop_zero]
  have hfl : (items.toList.take i).length = i := by rw [List.length_take, Array.length_toList]; omega
  rw [if_neg (show ¬ ((items.toList.take i).length < i) by rw [hfl]; omega)]
  refine wpAny_bind (wpAny_holding (PySem.W.kun_collect (s := { s with heap := h₁ }) (T := "list_iterator") (.inr (.inr (.inl rfl))) (Walks.list (A := A.in1) hh s.heap.objs.size l hlt items) (fun j u st => st.1.typeIs) (k := i) (by omega) ⟨hit₁, hl₁⟩ (Heap.lt_size hoi) (Heap.lt_size hol) (fun h₂ tk hk => ?_) hz))
  have hrl : (items.toList.drop i).length = items.size - i := by rw [List.length_drop, Array.length_toList]
  have hmid : (items.toList.drop i).length - (n - 1 - i) = items.size + 1 - n := by rw [hrl]; omega
  show wpAny _ _ (if (items.toList.drop i).length < n - 1 - i then _ else _) _ _ _
  rw [if_neg (by rw [hrl]; omega)]
  show wpAny _ _ (newList ((items.toList.drop i).take ((items.toList.drop i).length - (n - 1 - i))) >>= fun d => pure (items.toList.take i ++ [d] ++ (items.toList.drop i).drop ((items.toList.drop i).length - (n - 1 - i)))) _ _ _
  rw [hmid]
  have he : Heap.ExtBut s.heap.objs.size s.heap h₂ := fun b o hb e => hk b o hb (hs₁.extBut b o hb (Heap.get?_push_of_some _ e))
  exact wpAny_bind (wpAny_newList (wpAny_pure (h h₂ tk he)) (by rw [List.length_take, hrl]; omega))
end
section
variable {X : Cx}
theorem pgs_star {t : Expr} {p : Pos} {es : List Expr} {g : TG} {u : TGs} (h1 : PG X t g) (h2 : PGs X es u)
    (hs : (assignEach (.Starred t p :: es) X.env).map (·.2) = assign t X.env :: (assignEach es X.env).map (·.2) := by rfl) : PGs X (.Starred t p :: es) (gCons g u) := by
  refine ⟨fun pins s σ H vs us Q I r h => ?_⟩
  obtain ⟨v, vr, e1, h⟩ := h
  subst e1
  cases r with
  | cons r rr =>
    rw [hs]
    refine assignInOrder_cons (thn (h1.run pins s σ H _ _ _ I r h) fun _ s1 ⟨σ1, H1, I1, q1⟩ => ?_)
    exact h2.run pins s1 σ1 H1 _ _ Q I1 rr q1
theorem vals_take {vs : List V} {us : List Value} (h : Vals vs us) : ∀ n, Vals (vs.take n) (us.take n) := by
  induction h with
  | nil => intro n; simp; exact .nil
  | cons a r ih =>
    intro n
    cases n with
    | zero => exact .nil
    | succ n => exact .cons a (ih n)
theorem vals_drop {vs : List V} {us : List Value} (h : Vals vs us) : ∀ n, Vals (vs.drop n) (us.drop n) := by
  induction h with
  | nil => intro n; simp; exact .nil
  | cons a r ih =>
    intro n
    cases n with
    | zero => exact .cons a r
    | succ n => exact ih n
/-- a, .., *b, .. = a list -/
def gStar (K : PySem.W.Frag) (n i : Nat) (t : TGs) : TG := fun v σ H Q => ∃ a xs, v = .ref a ∧ SqL K H a xs ∧ n ≤ xs.length + 1 ∧
  ∀ D, H D = none → t (xs.take i ++ [.ref D] ++ (xs.drop i).drop (xs.length + 1 - n)) σ (upd H D (.lst ((xs.drop i).take (xs.length + 1 - n)))) Q
theorem pg_starK {K : PySem.W.Frag} {es : List Expr} {k : Nat} {t : TGs} {n i : Nat} {pos : Pos} (hK : X.K = K) (hc : X.calm = true) (h : PGs X es t)
    (hi : i < n := by decide) (hn : (assignEach es X.env).length = n := by rfl) (hst : (assignEach es X.env).findIdx? (·.1) = some i := by rfl) : PG X (.Tuple es k pos) (gStar K n i t) := by
  subst hK
  refine ⟨fun pins s σ H v u Q I r hw => ?_⟩
  obtain ⟨a, xs, e1, hq, hl, hw⟩ := hw
  subst e1
  cases r
  obtain ⟨its, rv, ht, hz⟩ := I.list hq
  rw [assign_Tuple]
  refine wpAny_bind (wpAny_standAt ?_)
  unfold unpack
  rw [hn, hst]
  have el := rv.length
  refine wpAny_bind (wpAny_holding (unpack_starL ht.isList (I.ok.hd hc) hi (by rw [List.size_toArray]; omega) (by rw [List.size_toArray]; omega) fun h₂ tk he => ?_))
  have I1 : Inv X pins σ H { s with heap := h₂, toks := tk } := I.kept fun b o e => he b o (Nat.ne_of_lt (Heap.lt_size e)) e
  have I2 := I1.lnew (t' := tk) (vals_take (vals_drop rv i) (xs.length + 1 - n)) (by rw [List.length_take, List.length_drop]; omega)
  have es2 : its.toArray.size = xs.length := by rw [List.size_toArray, el]
  rw [es2]
  refine h.run pins _ σ _ _ _ Q I2 ?_ (hw h₂.objs.size I1.fresh)
  exact ((vals_take (by simpa using rv) i).append (.cons (show RelV (V.ref h₂.objs.size) (Value.ref h₂.objs.size) from rfl) .nil)).append (vals_drop (vals_drop (by simpa using rv) i) (xs.length + 1 - n))
end
end RV

/-! lines of pages -/
namespace RV
open PySem PySem.Spec PyProof.Rows L2 TL
def spc : Str := Str.ofString " "
theorem spc_mk : spc = ⟨#[32]⟩ := by decide +kernel
theorem spc_tl : tl spc = [32] := by decide +kernel
def mkS (l : List Nat) : Str := ⟨l.toArray⟩
theorem tl_mk (l : List Nat) : tl (mkS l) = l := by simp [tl, mkS]
theorem mk_tl (z : Str) : mkS (tl z) = z := ext_tl (tl_mk _)
theorem len_tl (z : Str) : (tl z).length = z.length := len_list z
def isSp (c : Nat) : Bool := decide (c = 32)
/-- what stands between single spaces -/
def wsplit (z : Str) : List Str := Txt.split z spc
theorem join_txt (y : Str) (ps : List Str) : tl (Txt.join y ps) = joinL (tl y) (ps.map tl) := by rw [join_eq, tl_join]
theorem wsplit_free (z : Str) : ∀ p ∈ wsplit z, 32 ∉ tl p := by
  unfold wsplit
  rw [spc_mk]
  exact PySem.StrLaws.split_free z 32
theorem wsplit_join (z : Str) : joinL [32] ((wsplit z).map tl) = tl z := by
  have e := congrArg tl (PySem.StrLaws.join_split z spc)
  rw [← spc_tl, ← tl_join]
  exact e
theorem joinL_snoc : ∀ {ps : List (List Nat)} (q : List Nat), ps ≠ [] → joinL [32] (ps ++ [q]) = joinL [32] ps ++ ([32] ++ q)
  | [], _, h => absurd rfl h
  | [a], q, _ => rfl
  | a :: b :: r, q, _ => by
    have ih := joinL_snoc (ps := b :: r) q (by simp)
    show a ++ ([32] ++ joinL [32] ((b :: r) ++ [q])) = (a ++ ([32] ++ joinL [32] (b :: r))) ++ ([32] ++ q)
    rw [ih]
    simp
theorem wsplit_ne (z : Str) : wsplit z ≠ [] := fun e => by
  have h := wsplit_join z
  rw [e] at h
  have z0 : tl z = [] := h.symm
  have : wsplit z = [Str.ofString ""] := by
    rw [← mk_tl z, z0]
    decide +kernel
  rw [e] at this
  cases this
theorem wsplit_of {ps : List Str} (hne : ps ≠ []) (hp : ∀ p ∈ ps, 32 ∉ tl p) {z : Str} (e : joinL [32] (ps.map tl) = tl z) : wsplit z = ps := by
  have h := split_join (y := spc) (s := 32) (S := []) spc_tl (by decide +kernel) hne hp
  have e2 : Txt.join spc ps = z := ext_tl (by rw [join_txt, spc_tl, e])
  rw [e2] at h
  exact h
/-- a space put behind -/
theorem wsplit_snoc (l : List Nat) : wsplit (mkS (l ++ [32])) = wsplit (mkS l) ++ [Str.ofString ""] := by
  refine wsplit_of (by simp) (fun p hp => ?_) ?_
  · rcases List.mem_append.mp hp with h | h
    · exact wsplit_free _ p h
    · rw [List.mem_singleton.mp h]
      decide +kernel
  · rw [List.map_append, List.map_cons, List.map_nil, joinL_snoc _ (by simpa using wsplit_ne _), wsplit_join, tl_mk, tl_mk, show tl (Str.ofString "") = [] from by decide +kernel]
    simp
/-- an empty part at the end, not alone: a space stands at the end -/
theorem wsplit_last {z : Str} {ps : List Str} (h : wsplit z = ps ++ [Str.ofString ""]) (hne : ps ≠ []) : ∃ l, tl z = l ++ [32] ∧ wsplit (mkS l) = ps := by
  have j := wsplit_join z
  rw [h, List.map_append, List.map_cons, List.map_nil, joinL_snoc _ (by simpa using hne), show tl (Str.ofString "") = [] from by decide +kernel] at j
  refine ⟨joinL [32] (ps.map tl), by rw [← j]; simp, wsplit_of hne (fun p hp => wsplit_free z p (by rw [h]; exact List.mem_append_left _ hp)) (by rw [tl_mk])⟩
/-! spaces ahead and behind -/
def lead (l : List Nat) : Nat := (l.takeWhile isSp).length
def body (l : List Nat) : List Nat := l.dropWhile isSp
theorem body_drop (l : List Nat) : l.drop (lead l) = body l := tw_drop l
theorem lead_le (l : List Nat) : lead l ≤ l.length := by
  have e := congrArg List.length (List.takeWhile_append_dropWhile (p := isSp) (l := l))
  rw [List.length_append] at e
  unfold lead
  omega
theorem body_head (l : List Nat) : body l = [] ∨ ∃ c r, body l = c :: r ∧ isSp c = false := by
  unfold body
  induction l with
  | nil => exact .inl rfl
  | cons c r ih =>
    rw [List.dropWhile_cons]
    cases q : isSp c with
    | true => simpa using ih
    | false => exact .inr ⟨c, r, by simp, q⟩
theorem contains_sp (c : Nat) : (spc.cps.contains c) = isSp c := by
  rw [spc_mk, Bool.eq_iff_iff, Array.contains_iff_mem]
  simp [isSp]
theorem lstrip_body (z : Str) : Txt.lstripChars z spc = mkS (body (tl z)) := by
  refine ext_tl ?_
  rw [tl_mk]
  have e : (fun c => spc.cps.contains c) = isSp := funext contains_sp
  unfold Txt.lstripChars Txt.stripBy
  have f : (PySem.Builtin.Str.strSub z (tl z |>.takeWhile isSp).length z.length).cps.toList = body (tl z) := by
    rw [PySem.StrLaws.strSub_toList]
    show ((tl z).drop ((tl z).takeWhile isSp).length).take _ = body (tl z)
    rw [List.take_of_length_le (by rw [List.length_drop, len_tl]; exact Nat.le_refl _)]
    exact tw_drop (p := isSp) (tl z)
  split
  · rename_i h
    unfold stripSame stripLo at h
    rw [Bool.and_eq_true, if_pos rfl, beq_iff_eq] at h
    have h0 : ((tl z).takeWhile isSp).length = 0 := by
      rw [← e]
      exact h.1
    unfold body
    rw [← tw_drop (p := isSp) (tl z), h0]
    rfl
  · unfold stripped stripLo stripHi
    rw [if_pos rfl, if_neg Bool.false_ne_true]
    rw [← e] at f
    exact f
/-- without the spaces at the end -/
def rbody (l : List Nat) : List Nat := (body l).take ((body l).length - ((body l).reverse.takeWhile isSp).length)
theorem strip_body (z : Str) : Txt.stripChars z spc = mkS (rbody (tl z)) := by
  refine ext_tl ?_
  rw [tl_mk]
  have e : (fun c => spc.cps.contains c) = isSp := funext contains_sp
  have key : ∀ lo hi : Nat, lo = lead (tl z) → hi = z.length - (((tl z).drop lo).reverse.takeWhile isSp).length → (PySem.Builtin.Str.strSub z lo hi).cps.toList = rbody (tl z) := by
    rintro lo hi rfl rfl
    rw [PySem.StrLaws.strSub_toList]
    show ((tl z).drop (lead (tl z))).take _ = _
    rw [body_drop]
    unfold rbody
    congr 1
    have h1 := lead_le (tl z)
    have h2 := congrArg List.length (body_drop (tl z))
    rw [List.length_drop] at h2
    have h3 := len_tl z
    omega
  unfold Txt.stripChars Txt.stripBy
  split
  · rename_i h
    unfold stripSame at h
    rw [Bool.and_eq_true, beq_iff_eq, beq_iff_eq] at h
    have k := key (stripLo (fun c => spc.cps.contains c) true z) (stripHi (fun c => spc.cps.contains c) true z (stripLo (fun c => spc.cps.contains c) true z)) (by rw [e]; rfl) (by rw [e]; rfl)
    rw [show stripHi (fun c => spc.cps.contains c) true z (stripLo (fun c => spc.cps.contains c) true z) = z.length from h.2, show stripLo (fun c => spc.cps.contains c) true z = 0 from h.1, PySem.StrLaws.strSub_toList] at k
    rw [← k]
    show tl z = ((tl z).drop 0).take (z.length - 0)
    rw [List.drop_zero, List.take_of_length_le (by rw [len_tl]; omega)]
  · have e2 : spc.cps.contains = isSp := e
    unfold stripped
    rw [e2]
    exact key _ _ rfl rfl
theorem rbody_plain {l : List Nat} {u : List Nat} {c : Nat} (h : body l = u ++ [c]) (hc : isSp c = false) : rbody l = u ++ [c] := by
  unfold rbody
  rw [h, List.reverse_append]
  simp [hc]
  exact List.take_of_length_le (by simp)
theorem rbody_space {l : List Nat} {u : List Nat} {c : Nat} (h : body l = u ++ [c] ++ [32]) (hc : isSp c = false) : rbody l = u ++ [c] := by
  unfold rbody
  have q : ((u ++ [c] ++ [32]).reverse.takeWhile isSp) = [32] := by
    rw [List.reverse_append, List.reverse_append]
    show (32 :: (c :: u.reverse)).takeWhile isSp = [32]
    rw [List.takeWhile_cons, show isSp 32 = true from by decide, List.takeWhile_cons, hc]
    rfl
  rw [h, q]
  have z : ∀ a b : List Nat, (a ++ b).take ((a ++ b).length - b.length) = a := fun a b => by simp
  exact z (u ++ [c]) [32]
end RV
namespace RV
open PySem PySem.Spec PyProof.Rows L2 TL
def endSp (z : Str) : Bool := decide ((tl z).getLast? = some 32)
theorem ends_space (z : Str) : Txt.endswith z spc = endSp z := by
  unfold Txt.endswith endSp
  rw [show spc.length = 1 from by decide +kernel, PySem.StrLaws.subAt_eq, show spc.length = 1 from by decide +kernel, show spc.cps.toList = [32] from by decide +kernel, ← len_tl z]
  show (decide (0 + 1 ≤ (tl z).length) && (((tl z).drop ((tl z).length - 1)).take 1 == [32])) = _
  generalize tl z = l
  cases q : l.getLast? with
  | none =>
    have e : l = [] := List.getLast?_eq_none_iff.mp q
    subst e
    rfl
  | some c =>
    have ne : l ≠ [] := by
      intro e
      rw [e] at q
      cases q
    have e : l = l.dropLast ++ [c] := by
      have e1 := List.dropLast_concat_getLast ne
      rw [List.getLast?_eq_getLast ne] at q
      rw [← Option.some.inj q]
      exact e1.symm
    have hl : l.length = l.dropLast.length + 1 := by
      have := congrArg List.length e
      simpa using this
    have d : (l.drop (l.length - 1)).take 1 = [c] := by
      have q2 : ∀ a b : List Nat, (a ++ b).drop a.length = b := fun a b => by simp
      have e3 := q2 l.dropLast [c]
      rw [← e] at e3
      rw [hl, show l.dropLast.length + 1 - 1 = l.dropLast.length from by omega, e3]
      rfl
    rw [d, decide_eq_true (show 0 + 1 ≤ l.length by omega), Bool.true_and, Bool.eq_iff_iff, beq_iff_eq, decide_eq_true_eq]
    simp
def wordsIn (z : Str) : Bool := (wsplit z).all wordS
def lastOf (ps : List Str) : Bool := decide (1 < ps.length) && decide (ps.getLast? = some (Str.ofString ""))
def wsOf (ps : List Str) : List Str := if lastOf ps = true then ps.dropLast else ps
/-- the parts of a line behind its indentation -/
def partsOf (row : Str) : List Str := wsplit (mkS (body (tl row)))
theorem lastOf_split {ps : List Str} (h : lastOf ps = true) : ps = ps.dropLast ++ [Str.ofString ""] ∧ ps.dropLast ≠ [] := by
  unfold lastOf at h
  rw [Bool.and_eq_true, decide_eq_true_eq, decide_eq_true_eq] at h
  have ne : ps ≠ [] := by
    intro e
    rw [e] at h
    cases h.2
  have e1 := List.dropLast_concat_getLast ne
  have e2 := h.2
  rw [List.getLast?_eq_getLast ne] at e2
  rw [Option.some.inj e2] at e1
  refine ⟨e1.symm, fun e => ?_⟩
  have := congrArg List.length e1
  rw [e] at this
  simp at this
  omega
theorem last_body {row : Str} (h : lastOf (partsOf row) = true) : ∃ u, body (tl row) = u ++ [32] ∧ u ≠ [] ∧ wsplit (mkS u) = (partsOf row).dropLast := by
  obtain ⟨e, ne⟩ := lastOf_split h
  obtain ⟨u, h1, h2⟩ := wsplit_last (z := mkS (body (tl row))) e ne
  rw [tl_mk] at h1
  refine ⟨u, h1, fun e0 => ?_, h2⟩
  rcases body_head (tl row) with hb | ⟨c, r, hb, hc⟩
  · rw [hb] at h1
    cases u <;> cases h1
  · rw [hb, e0] at h1
    have := (List.cons.inj h1).1
    rw [this] at hc
    exact absurd hc (by decide)
theorem space_body {row : Str} (hs : endSp row = true) (hb : body (tl row) ≠ []) : ∃ u, body (tl row) = u ++ [32] ∧ u ≠ [] ∧ tl row = (tl row).takeWhile isSp ++ u ++ [32] := by
  have e := List.takeWhile_append_dropWhile (p := isSp) (l := tl row)
  have e2 : (tl row).takeWhile isSp ++ body (tl row) = tl row := e
  have gl : (body (tl row)).getLast? = some 32 := by
    have h := of_decide_eq_true hs
    rw [← e2, List.getLast?_append] at h
    cases q : (body (tl row)).getLast? with
    | none => exact absurd (List.getLast?_eq_none_iff.mp q) hb
    | some c =>
      rw [q] at h
      exact h
  have e3 := List.dropLast_concat_getLast hb
  rw [List.getLast?_eq_getLast hb] at gl
  rw [Option.some.inj gl] at e3
  refine ⟨_, e3.symm, fun e0 => ?_, ?_⟩
  · rcases body_head (tl row) with hb2 | ⟨c, r, hb2, hc⟩
    · exact hb hb2
    · rw [e0, hb2] at e3
      have := (List.cons.inj e3).1
      rw [← this] at hc
      exact absurd hc (by decide)
  · rw [List.append_assoc, e3]
    exact e2.symm
theorem lead_app {w u : List Nat} (hw : ∀ c ∈ w, isSp c = true) (hu : u = [] ∨ ∃ c r, u = c :: r ∧ isSp c = false) : lead (w ++ u) = w.length ∧ body (w ++ u) = u := by
  obtain ⟨a, b⟩ := takeWhile_all (p := isSp) hw hu
  exact ⟨by unfold lead; rw [a], b⟩
theorem takeWhile_mem {p : Nat → Bool} : ∀ {l : List Nat} {c : Nat}, c ∈ l.takeWhile p → p c = true
  | [], c, h => by cases h
  | d :: r, c, h => by
    rw [List.takeWhile_cons] at h
    cases q : p d with
    | false =>
      rw [q] at h
      cases h
    | true =>
      rw [q] at h
      rcases List.mem_cons.mp h with rfl | h
      · exact q
      · exact takeWhile_mem h
theorem head_of_body {l u v : List Nat} (h : body l = u ++ v) (hu : u ≠ []) : ∃ c r, u = c :: r ∧ isSp c = false := by
  cases u with
  | nil => exact absurd rfl hu
  | cons c r =>
    rcases body_head l with hb | ⟨d, s, hb, hd⟩
    · rw [hb] at h
      cases h
    · rw [hb] at h
      have := (List.cons.inj h).1
      rw [this] at hd
      exact ⟨c, r, rfl, hd⟩
theorem not_word_empty : wordS (Str.ofString "") = false := by decide +kernel
theorem wordsIn_empty : wordsIn (mkS []) = false := by decide +kernel
/-- a line is right, by the law's clauses -/
def okRow (ahead row behind : Str) : Bool :=
  if row = Str.ofString "" then decide (ahead ≠ Str.ofString "") && decide (behind ≠ Str.ofString "")
  else (wsOf (partsOf row)).all wordS && decide (lead (tl row) ≤ 3) && !(lastOf (partsOf row) && decide (behind = Str.ofString ""))
/-- what the program looks at -/
def rowOf (row behind : Str) : Str := if (endSp row && decide (behind ≠ Str.ofString "")) = true then mkS (tl row).dropLast else row
theorem okRow_eq {ahead row behind : Str} (hr : row ≠ Str.ofString "") : okRow ahead row behind = (decide (lead (tl (rowOf row behind)) ≤ 3) && wordsIn (mkS (body (tl (rowOf row behind))))) := by
  unfold okRow
  rw [if_neg hr]
  by_cases hc : (endSp row && decide (behind ≠ Str.ofString "")) = true
  · have er : rowOf row behind = mkS (tl row).dropLast := if_pos hc
    rw [Bool.and_eq_true, decide_eq_true_eq] at hc
    rw [er, tl_mk, decide_eq_false hc.2, Bool.and_false]
    by_cases hb : body (tl row) = []
    · -- spaces alone
      have e2 : (tl row).takeWhile isSp ++ body (tl row) = tl row := List.takeWhile_append_dropWhile
      rw [hb, List.append_nil] at e2
      have pe : partsOf row = [Str.ofString ""] := by
        unfold partsOf
        rw [hb]
        decide +kernel
      have all : ∀ c ∈ (tl row).dropLast, isSp c = true := fun c h => takeWhile_mem (p := isSp) (l := tl row) (by rw [e2]; exact List.dropLast_subset _ h)
      obtain ⟨h1, h2⟩ := lead_app (w := (tl row).dropLast) (u := []) all (.inl rfl)
      rw [List.append_nil] at h1 h2
      rw [h2, wordsIn_empty, Bool.and_false, pe]
      rw [show wsOf [Str.ofString ""] = [Str.ofString ""] from by decide +kernel]
      simp [not_word_empty]
    · obtain ⟨u, hu, une, el⟩ := space_body hc.1 hb
      have hw : ∀ c ∈ (tl row).takeWhile isSp, isSp c = true := fun c h => takeWhile_mem h
      have dl : (tl row).dropLast = (tl row).takeWhile isSp ++ u := by
        have := congrArg List.dropLast el
        rw [List.dropLast_concat] at this
        exact this
      obtain ⟨h1, h2⟩ := lead_app hw (.inr (head_of_body hu une))
      have pe : partsOf row = wsplit (mkS u) ++ [Str.ofString ""] := by
        unfold partsOf
        rw [hu]
        exact wsplit_snoc u
      have lo : lastOf (partsOf row) = true := by
        unfold lastOf
        rw [pe, Bool.and_eq_true, decide_eq_true_eq, decide_eq_true_eq]
        refine ⟨?_, by simp⟩
        have := List.length_pos_iff.mpr (wsplit_ne (mkS u))
        rw [List.length_append]
        show 1 < (wsplit (mkS u)).length + 1
        omega
      have we : wsOf (partsOf row) = wsplit (mkS u) := by
        unfold wsOf
        rw [if_pos lo, pe, List.dropLast_concat]
      rw [dl, h1, h2, we]
      show _ = (decide (lead (tl row) ≤ 3) && (wsplit (mkS u)).all wordS)
      rw [Bool.and_comm (decide _), Bool.not_false, Bool.and_true]
  · have er : rowOf row behind = row := if_neg hc
    rw [er]
    cases hl : lastOf (partsOf row) with
    | true =>
      obtain ⟨u, hu, une, hw⟩ := last_body hl
      have es : endSp row = true := by
        unfold endSp
        rw [decide_eq_true_eq]
        have e2 : (tl row).takeWhile isSp ++ body (tl row) = tl row := List.takeWhile_append_dropWhile
        rw [← e2, hu, ← List.append_assoc]
        simp
      have hbe : behind = Str.ofString "" := by
        rw [es, Bool.true_and, decide_eq_true_eq] at hc
        exact Decidable.not_not.mp hc
      rw [hbe, decide_eq_true rfl, Bool.true_and]
      have wf : wordsIn (mkS (body (tl row))) = false := by
        show (partsOf row).all wordS = false
        rw [(lastOf_split hl).1, List.all_append]
        simp [not_word_empty]
      rw [wf, Bool.and_false]
      simp
    | false =>
      have we : wsOf (partsOf row) = partsOf row := by
        unfold wsOf
        rw [if_neg (by rw [hl]; exact Bool.false_ne_true)]
      rw [we, Bool.false_and, Bool.not_false, Bool.and_true, Bool.and_comm]
      rfl
/-- the words of a right line -/
theorem strip_words {row : Str} (h : (wsOf (partsOf row)).all wordS = true) : wsplit (mkS (rbody (tl row))) = wsOf (partsOf row) ∧ wsOf (partsOf row) ≠ [] := by
  have noSp : ∀ {ps : List Str} {l : List Nat}, ps ≠ [] → ps.all wordS = true → wsplit (mkS l) = ps → ∃ u c, l = u ++ [c] ∧ isSp c = false := by
    intro ps l hne ha hw
    have j := wsplit_join (mkS l)
    rw [hw, tl_mk] at j
    have e1 := List.dropLast_concat_getLast hne
    have lw : wordS (ps.getLast hne) = true := List.all_eq_true.mp ha _ (List.getLast_mem hne)
    have hx : ∃ v c, tl (ps.getLast hne) = v ++ [c] ∧ isSp c = false := by
      have t1 : tokS (spc, ps.getLast hne) = true := by
        unfold tokS
        rw [lw]
        show (markS spc && true) = true
        decide +kernel
      obtain ⟨_, ⟨w1, w2⟩, _⟩ := (tokS_iff _).mp t1
      have w1 : tl (ps.getLast hne) ≠ [] := w1
      have e3 := List.dropLast_concat_getLast w1
      refine ⟨_, _, e3.symm, ?_⟩
      have := w2 ((tl (ps.getLast hne)).getLast w1) (List.getLast_mem w1)
      unfold isAbc at this
      unfold isSp
      rw [Bool.and_eq_true, decide_eq_true_eq] at this
      exact decide_eq_false (by have := this.1; omega)
    obtain ⟨v, c, hv, hc⟩ := hx
    rw [← e1, List.map_append, List.map_cons, List.map_nil, hv] at j
    by_cases hd : ps.dropLast = []
    · rw [hd] at j
      exact ⟨v, c, j.symm, hc⟩
    · rw [joinL_snoc _ (fun e => hd (List.map_eq_nil_iff.mp e))] at j
      exact ⟨joinL [32] (ps.dropLast.map tl) ++ ([32] ++ v), c, by rw [← j]; simp, hc⟩
  cases hl : lastOf (partsOf row) with
  | true =>
    obtain ⟨u, hu, une, hw⟩ := last_body hl
    have we : wsOf (partsOf row) = (partsOf row).dropLast := by
      unfold wsOf
      rw [if_pos hl]
    have ne := (lastOf_split hl).2
    rw [we] at h ⊢
    obtain ⟨v, c, e, hc⟩ := noSp ne h hw
    rw [e] at hu
    rw [rbody_space hu hc, ← e]
    exact ⟨hw, ne⟩
  | false =>
    have we : wsOf (partsOf row) = partsOf row := by
      unfold wsOf
      rw [if_neg (by rw [hl]; exact Bool.false_ne_true)]
    rw [we] at h ⊢
    obtain ⟨v, c, e, hc⟩ := noSp (wsplit_ne _) h rfl
    rw [rbody_plain e hc, ← e]
    exact ⟨rfl, wsplit_ne _⟩
end RV
namespace RV
open PySem PySem.Spec PyProof.Rows L2 TL
def nlIn (z : Str) : Bool := !(Builtin.Str.occurrences z (Str.ofString "\n") 0 z.length 1).isEmpty
theorem nlIn_eq (z : Str) : nlIn z = decide (10 ∈ tl z) := by
  unfold nlIn
  rw [show Str.ofString "\n" = (⟨#[10]⟩ : Str) from by decide +kernel]
  exact PySem.StrLaws.found_one z 10
theorem joinL_mem : ∀ {ps : List (List Nat)} {c : Nat}, c ∈ joinL [32] ps → c = 32 ∨ ∃ p ∈ ps, c ∈ p
  | [], c, h => by cases h
  | [a], c, h => .inr ⟨a, by simp, h⟩
  | a :: b :: r, c, h => by
    rcases List.mem_append.mp (show c ∈ a ++ ([32] ++ joinL [32] (b :: r)) from h) with h1 | h1
    · exact .inr ⟨a, by simp, h1⟩
    · rcases List.mem_append.mp h1 with h2 | h2
      · exact .inl (List.mem_singleton.mp h2)
      · rcases joinL_mem h2 with h3 | ⟨p, hp, hc⟩
        · exact .inl h3
        · exact .inr ⟨p, List.mem_cons_of_mem _ hp, hc⟩
theorem word_abc {z : Str} (h : wordS z = true) : ∀ c ∈ tl z, 97 ≤ c ∧ c ≤ 122 := by
  intro c hc
  unfold wordS onlyS at h
  rw [Bool.and_eq_true] at h
  have := List.all_eq_true.mp h.2 c hc
  rw [abc_is] at this
  simpa [isAbc] using this
theorem words_no_nl {z : Str} (h : wordsIn z = true) : nlIn z = false := by
  rw [nlIn_eq, decide_eq_false_iff_not]
  intro hm
  rw [← wsplit_join z] at hm
  rcases joinL_mem hm with e | ⟨p, hp, hc⟩
  · cases e
  · obtain ⟨w, hw, rfl⟩ := List.mem_map.mp hp
    have := word_abc (List.all_eq_true.mp h w hw) 10 hc
    omega
/-- split_words gives the parts -/
def goodW (z : Str) : Bool := !nlIn z && !decide (Str.ofString "" ∈ wsplit z)
theorem words_good {z : Str} (h : wordsIn z = true) : goodW z = true := by
  unfold goodW
  rw [words_no_nl h, Bool.not_false, Bool.true_and, Bool.not_eq_true', decide_eq_false_iff_not]
  intro hm
  have := List.all_eq_true.mp h _ hm
  rw [not_word_empty] at this
  cases this
def OutN (C : Addr) (k : Int) (E : XK) (H : Hp) : Prop := ∀ H' d, Same H H' → FldAt H' d "line" (.int k) → E (.ref C) (some d) H'
def spSplitW : Sp := fun vs H Q _ => ∃ z : Str, vs = [.str z] ∧ z.length ≤ 90000 ∧ (goodW z = false → ∀ H', Same H H' → Q .non H') ∧ (goodW z = true → ∀ D H', H D = none → Same H H' → H' D = some (.lst ((wsplit z).map V.str)) → Q (.ref D) H')
def spWordRow : Sp := fun vs H Q _ => ∃ v : V, vs = [v] ∧ ((∃ t, Ty7 H v t ∧ (t == "list" || t == "tuple") = false ∧ ∀ H', Same H H' → Q (.bl false) H') ∨
  ∃ (a : Addr) (ws : List Str), v = .ref a ∧ SqA H a (ws.map V.str) ∧ ws.length ≤ 100000 ∧ (∀ w ∈ ws, w.length ≤ 100000) ∧ ∀ H', Same H H' → Q (.bl (ws.all wordS)) H')
def spIndentR : Sp := fun vs H Q _ => ∃ z : Str, vs = [.str z] ∧ z.length ≤ 100000 ∧ Q (.int (lead (tl z) : Nat)) H
def spRightRow : Sp := fun vs H Q _ => ∃ ahead row behind : Str, vs = [.str ahead, .str row, .str behind] ∧ row.length ≤ 80000 ∧ ∀ H', Same H H' → Q (.bl (okRow ahead row behind)) H'
def kindS (ahead : Str) : Str := if ahead = Str.ofString "" then Str.ofString "#" else if endSp ahead = true then Str.ofString "/" else Str.ofString "|"
def digS (n : Nat) : Str := ⟨#[48 + n]⟩
/-- the tokens of a right line -/
def toksR (ahead row : Str) : List Tk := match wsOf (partsOf row) with
  | [] => []
  | w :: r => (kindS ahead ++ digS (lead (tl row)), w) :: r.map fun x => (spc, x)
def spRowToks : Sp := fun vs H Q _ => ∃ ahead row : Str, vs = [.str ahead, .str row] ∧ row.length ≤ 80000 ∧ lead (tl row) ≤ 3 ∧ (wsOf (partsOf row)).all wordS = true ∧ ∀ D H' xs, H D = none → Same H H' → H' D = some (.lst xs) → TxL H' xs (toksR ahead row) → Q (.ref D) H'
def spBreakOf : Sp := fun vs H Q _ => ∃ (k : Str) (n : Nat), vs = [.str k, .int (n : Int)] ∧ k ∈ ([Str.ofString "#", Str.ofString "|", Str.ofString "/"] : List Str) ∧ n ≤ 3 ∧ Q (.str (k ++ digS n)) H
theorem parts_len {z : Str} : (wsplit z).length ≤ z.length + 1 ∧ ∀ p ∈ wsplit z, p.length ≤ z.length := by
  have key : ∀ ps : List (List Nat), ps.length ≤ (joinL [32] ps).length + 1 ∧ ∀ p ∈ ps, p.length ≤ (joinL [32] ps).length := by
    intro ps
    induction ps with
    | nil => exact ⟨by simp, by simp⟩
    | cons a r ih =>
      cases r with
      | nil => exact ⟨by simp [joinL], by simp [joinL]⟩
      | cons b r =>
        have e : (joinL [32] (a :: b :: r)).length = a.length + 1 + (joinL [32] (b :: r)).length := by
          show (a ++ ([32] ++ joinL [32] (b :: r))).length = _
          simp
          omega
        rw [e]
        refine ⟨?_, fun p hp => ?_⟩
        · have := ih.1
          rw [List.length_cons]
          omega
        · rcases List.mem_cons.mp hp with rfl | h
          · omega
          · have := ih.2 p h
            omega
  have k := key ((wsplit z).map tl)
  rw [wsplit_join, len_tl, List.length_map] at k
  refine ⟨k.1, fun p hp => ?_⟩
  have := k.2 (tl p) (List.mem_map_of_mem hp)
  rw [len_tl] at this
  exact this
theorem body_len (l : List Nat) : (body l).length ≤ l.length := dropWhile_le isSp l
end RV
namespace RV
open PySem PySem.Spec PyProof.Rows L2 TL
theorem cut_last (z : Str) : cutS z none (some (-1)) = mkS (tl z).dropLast := by
  refine ext_tl ?_
  rw [tl_mk]
  unfold cutS
  show (((tl z).drop 0).take (HT.sIx z.length z.length (some (-1)) - 0)).toArray.toList = _
  rw [List.toList_toArray, List.drop_zero, List.dropLast_eq_take, len_tl]
  congr 1
  show (if (-1 : Int) < 0 then ((-1 : Int) + (z.length : Int)).toNat else min (-1 : Int).toNat z.length) - 0 = z.length - 1
  rw [if_pos (by decide)]
  omega
end RV
namespace RV
open PySem PySem.Spec PyProof.Rows L2 TL
/-! ### rows -/
def nlS : Str := Str.ofString "\n"
def nsplit (z : Str) : List Str := Txt.split z nlS
theorem nlS_mk : nlS = ⟨#[10]⟩ := by decide +kernel
theorem nsplit_join (z : Str) : joinL [10] ((nsplit z).map tl) = tl z := by
  have e := congrArg tl (PySem.StrLaws.join_split z nlS)
  rw [show ([10] : List Nat) = tl nlS from by decide +kernel, ← tl_join]
  exact e
theorem joinL_sum (c : Nat) : ∀ {ps : List (List Nat)}, ps ≠ [] → (ps.map fun p => p.length + 1).sum = (joinL [c] ps).length + 1
  | [], h => absurd rfl h
  | [a], _ => by simp [joinL]
  | a :: b :: r, _ => by
    have ih := joinL_sum c (ps := b :: r) (by simp)
    rw [List.map_cons, List.sum_cons, ih]
    show a.length + 1 + ((joinL [c] (b :: r)).length + 1) = (a ++ ([c] ++ joinL [c] (b :: r))).length + 1
    simp
    omega
def rowsOf (z : Str) : List Str := if z = Str.ofString "" then [] else nsplit z
theorem rows_sum (z : Str) : ((rowsOf z).map fun p => p.length + 1).sum ≤ z.length + 1 := by
  unfold rowsOf
  split
  · simp
  · by_cases h : nsplit z = []
    · rw [h]
      simp
    · have e := joinL_sum 10 (ps := (nsplit z).map tl) (by simpa using h)
      rw [nsplit_join, len_tl, List.map_map] at e
      have e2 : ((nsplit z).map fun p => p.length + 1) = (nsplit z).map ((fun p : List Nat => p.length + 1) ∘ tl) := List.map_congr_left fun p _ => by
        show p.length + 1 = (tl p).length + 1
        rw [len_tl]
      rw [e2, e]
      exact Nat.le_refl _
theorem sum_mem {l : List Nat} {n : Nat} (h : n ∈ l) : n ≤ l.sum := by
  induction l with
  | nil => cases h
  | cons a r ih =>
    rw [List.sum_cons]
    rcases List.mem_cons.mp h with rfl | h
    · omega
    · have := ih h
      omega
theorem sum_len (l : List Str) : l.length ≤ (l.map fun p => p.length + 1).sum := by
  induction l with
  | nil => simp
  | cons a r ih =>
    rw [List.map_cons, List.sum_cons, List.length_cons]
    omega
theorem rows_len {z : Str} : (rowsOf z).length ≤ z.length + 1 ∧ ∀ p ∈ rowsOf z, p.length ≤ z.length := by
  have h := rows_sum z
  refine ⟨Nat.le_trans (sum_len _) h, fun p hp => ?_⟩
  have := sum_mem (List.mem_map_of_mem (f := fun p : Str => p.length + 1) hp)
  omega
/-- the rows with an empty one at both ends -/
def frm (rows : List Str) : List Str := Str.ofString "" :: (rows ++ [Str.ofString ""])
def frAt (rows : List Str) (i : Nat) : Str := ((frm rows)[i]?).getD (Str.ofString "")
def okAt (rows : List Str) (i : Nat) : Bool := okRow (frAt rows i) (frAt rows (i + 1)) (frAt rows (i + 2))
def toksAt (rows : List Str) (i : Nat) : List Tk := if frAt rows (i + 1) = Str.ofString "" then [] else toksR (frAt rows i) (frAt rows (i + 1))
def textAt (rows : List Str) : Nat → List Tk
  | 0 => []
  | n + 1 => textAt rows n ++ toksAt rows n
theorem fr_row {rows : List Str} {i : Nat} (h : i < rows.length) : frAt rows (i + 1) = rows[i] := by
  unfold frAt frm
  rw [List.getElem?_cons_succ, List.getElem?_append_left h, List.getElem?_eq_getElem h]
  rfl
theorem fr_three {rows : List Str} {i : Nat} (h : i < rows.length) : ((frm rows).drop i).take 3 = [frAt rows i, frAt rows (i + 1), frAt rows (i + 2)] := by
  have l : (frm rows).length = rows.length + 2 := by simp [frm]
  have g : ∀ j, j < (frm rows).length → (frm rows)[j]? = some (frAt rows j) := fun j hj => by
    unfold frAt
    rw [List.getElem?_eq_getElem hj]
    rfl
  refine List.ext_getElem? fun j => ?_
  rw [List.getElem?_take, List.getElem?_drop]
  match j with
  | 0 => simp; exact g i (by omega)
  | 1 => simp; exact g (i + 1) (by omega)
  | 2 => simp; exact g (i + 2) (by omega)
  | j + 3 =>
    simp
    omega
theorem toksR_len (ahead row : Str) : (toksR ahead row).length ≤ row.length + 1 := by
  have h : (wsOf (partsOf row)).length ≤ row.length + 1 := by
    have p := (parts_len (z := mkS (body (tl row)))).1
    have b := body_len (tl row)
    rw [len_tl] at b
    have e : (mkS (body (tl row))).length = (body (tl row)).length := by rw [← len_tl, tl_mk]
    unfold wsOf partsOf
    split
    · rw [List.length_dropLast]
      omega
    · omega
  unfold toksR
  generalize wsOf (partsOf row) = ws at h ⊢
  cases ws with
  | nil => simp
  | cons w r => simpa using h
theorem text_len {rows : List Str} : ∀ {n : Nat}, n ≤ rows.length → (textAt rows n).length ≤ ((rows.take n).map fun p => p.length + 1).sum
  | 0, _ => by simp [textAt]
  | n + 1, h => by
    have ih := text_len (rows := rows) (n := n) (by omega)
    have hn : n < rows.length := by omega
    have t : (toksAt rows n).length ≤ rows[n].length + 1 := by
      unfold toksAt
      rw [fr_row hn]
      split
      · simp
      · exact toksR_len _ _
    rw [List.take_add_one, List.getElem?_eq_getElem hn, List.map_append, List.sum_append]
    show (textAt rows n ++ toksAt rows n).length ≤ _
    rw [List.length_append]
    simp
    simp at ih
    omega
theorem take_sum (l : List Str) (n : Nat) : ((l.take n).map fun p => p.length + 1).sum ≤ (l.map fun p => p.length + 1).sum := by
  conv => rhs; rw [← List.take_append_drop n l]
  rw [List.map_append, List.sum_append]
  omega
theorem text_size {z : Str} {n : Nat} (h : n ≤ (rowsOf z).length) : (textAt (rowsOf z) n).length ≤ z.length + 1 := Nat.le_trans (text_len h) (Nat.le_trans (take_sum _ _) (rows_sum z))
theorem okRow_parts {ahead row behind : Str} (h : okRow ahead row behind = true) (hr : row ≠ Str.ofString "") : lead (tl row) ≤ 3 ∧ (wsOf (partsOf row)).all wordS = true := by
  unfold okRow at h
  rw [if_neg hr, Bool.and_eq_true, Bool.and_eq_true] at h
  exact ⟨of_decide_eq_true h.1.2, h.1.1⟩
theorem cut_map (l : List Str) (i : Nat) (h : i + 3 ≤ l.length) : cutV (l.map V.str) (some (i : Int)) (some ((i : Int) + 3)) = ((l.drop i).take 3).map V.str := by
  have e : ((i : Int) + 3) = ((i + 3 : Nat) : Int) := by omega
  rw [e]
  unfold cutV
  rw [HT.sIx_nat, HT.sIx_nat, List.length_map, List.map_take, List.map_drop, Nat.min_eq_left (by omega), Nat.min_eq_left (by omega), show i + 3 - i = 3 from by omega]
def spReadPage (C : Addr) : Sp := fun vs H Q E => ∃ v : V, vs = [v] ∧ ((∃ t, Ty7 H v t ∧ isStrV v = false ∧ OutN C 0 E H) ∨
  ∃ z : Str, v = .str z ∧ z.length ≤ 40000 ∧ (∀ k : Nat, k < (rowsOf z).length → (∀ j, j < k → okAt (rowsOf z) j = true) → okAt (rowsOf z) k = false → OutN C (k : Int) E H) ∧
    ((∀ j, j < (rowsOf z).length → okAt (rowsOf z) j = true) → ∀ D H' xs, Same H H' → H D = none → H' D = some (.lst xs) → TxL H' xs (textAt (rowsOf z) (rowsOf z).length) → Q (.ref D) H'))
end RV

/-! the page that a law builds; its parts and reading of pages -/
namespace RV
open PySem PySem.Spec PyProof.Rows L2 TL
def betw (c : Nat) : Str := if c = 35 then Str.ofString "\n\n" else if c = 124 then Str.ofString "\n" else Str.ofString " \n"
def padS (d : Nat) : Str := if d = 48 then Str.ofString "" else if d = 49 then Str.ofString " " else if d = 50 then Str.ofString "  " else Str.ofString "   "
def pgStep (i : Nat) (z : Str) (t : Tk) : Str := match tl t.1 with
  | c :: d :: _ => z ++ (if 0 < i then betw c else Str.ofString "") ++ padS d ++ t.2
  | _ => z ++ spc ++ t.2
def pgAt (ts : List Tk) : Nat → Str
  | 0 => Str.ofString ""
  | i + 1 => match ts[i]? with
    | some t => pgStep i (pgAt ts i) t
    | none => pgAt ts i
theorem betw_asc (c : Nat) : Asc (betw c) ∧ (betw c).length ≤ 2 := by
  unfold betw
  split
  · exact ⟨asc_lit (by decide +kernel), by decide +kernel⟩
  · split
    · exact ⟨asc_lit (by decide +kernel), by decide +kernel⟩
    · exact ⟨asc_lit (by decide +kernel), by decide +kernel⟩
theorem padS_asc (c : Nat) : Asc (padS c) ∧ (padS c).length ≤ 3 := by
  unfold padS
  split
  · exact ⟨asc_lit (by decide +kernel), by decide +kernel⟩
  · split
    · exact ⟨asc_lit (by decide +kernel), by decide +kernel⟩
    · split
      · exact ⟨asc_lit (by decide +kernel), by decide +kernel⟩
      · exact ⟨asc_lit (by decide +kernel), by decide +kernel⟩
theorem spc_asc : Asc spc ∧ spc.length = 1 := ⟨asc_lit (by decide +kernel), by decide +kernel⟩
theorem pgStep_asc {i : Nat} {z : Str} {t : Tk} (hz : Asc z) (ht : tokS t = true) : Asc (pgStep i z t) ∧ (pgStep i z t).length ≤ z.length + 40 := by
  have tA := tokS_A ht
  have ht2 := ht
  unfold tokS at ht2
  rw [Bool.and_eq_true] at ht2
  have w2 := wordS_len ht2.2
  unfold pgStep
  split
  · rename_i c d r _
    have b := betw_asc c
    have p := padS_asc d
    have e0 : Asc (if 0 < i then betw c else Str.ofString "") ∧ (if 0 < i then betw c else Str.ofString "").length ≤ 2 := by
      split
      · exact b
      · exact ⟨asc_lit (by decide +kernel), by decide +kernel⟩
    refine ⟨asc_app (asc_app (asc_app hz e0.1) p.1) tA.2.1, ?_⟩
    rw [len_app, len_app, len_app]
    have := e0.2
    have := p.2
    omega
  · refine ⟨asc_app (asc_app hz spc_asc.1) tA.2.1, ?_⟩
    rw [len_app, len_app, spc_asc.2]
    omega
theorem pgAt_asc {ts : List Tk} (h : ∀ t ∈ ts, tokS t = true) : ∀ i, Asc (pgAt ts i) ∧ (pgAt ts i).length ≤ 40 * i
  | 0 => ⟨asc_lit (by decide +kernel), by show (Str.ofString "").length ≤ 0; decide +kernel⟩
  | i + 1 => by
    have ih := pgAt_asc h i
    show Asc (match ts[i]? with
    | some t => pgStep i (pgAt ts i) t
    | none => pgAt ts i) ∧ (match ts[i]? with
    | some t => pgStep i (pgAt ts i) t
    | none => pgAt ts i).length ≤ _
    cases q : ts[i]? with
    | none => exact ⟨ih.1, by show (pgAt ts i).length ≤ _; have := ih.2; omega⟩
    | some t =>
      have s := pgStep_asc (i := i) ih.1 (h t (List.mem_of_getElem? q))
      exact ⟨s.1, by show (pgStep i (pgAt ts i) t).length ≤ _; have := ih.2; have := s.2; omega⟩
def spPageL : Sp := fun vs H Q _ => ∃ (a : Addr) (xs : List V) (ts : List Tk), vs = [.ref a] ∧ H a = some (.lst xs) ∧ TxL H xs ts ∧ (∀ t ∈ ts, tokS t = true) ∧ ts.length ≤ 300 ∧ ∀ H', Same H H' → Q (.str (pgAt ts ts.length)) H'
/-- a line's parts as the law tells them -/
def okParts (row : Str) : Bool := (wsOf (partsOf row)).all wordS && decide (lead (tl row) ≤ 3)
def spPartsL : Sp := fun vs H Q _ => ∃ row : Str, vs = [.str row] ∧ row.length ≤ 80000 ∧ Asc row ∧ (okParts row = false → ∀ H', Same H H' → Q .non H') ∧
  (okParts row = true → ∀ D W H', H D = none → H W = none → Same H H' → H' D = some (.lst [.int (lead (tl row) : Nat), .ref W, .bl (lastOf (partsOf row))]) → H' W = some (.lst ((wsOf (partsOf row)).map V.str)) → Q (.ref D) H')
/-- the law's reader: the first wrong row, or the text -/
def spReadL : Sp := fun vs H Q _ => ∃ z : Str, vs = [.str z] ∧ z.length ≤ 40000 ∧ Asc z ∧
  (∀ k : Nat, k < (rowsOf z).length → (∀ j, j < k → okAt (rowsOf z) j = true) → okAt (rowsOf z) k = false → ∀ R H', Same H H' → H' R = some (.lst [.str (Str.ofString "page"), .int (k : Int)]) → Q (.ref R) H') ∧
  ((∀ j, j < (rowsOf z).length → okAt (rowsOf z) j = true) → ∀ R D H' xs, Same H H' → H' R = some (.lst [.str (Str.ofString "text"), .ref D]) → H' D = some (.lst xs) → TxL H' xs (textAt (rowsOf z) (rowsOf z).length) → Q (.ref R) H')
/-- what _law_told gives -/
def spToldP : Sp := fun vs H Q _ => ∃ v : V, vs = [v] ∧ ((∃ t, Ty7 H v t ∧ isStrV v = false ∧ ∀ R H', Same H H' → H' R = some (.lst [.str (Str.ofString "page"), .int 0]) → Q (.ref R) H') ∨
  ∃ z : Str, v = .str z ∧ z.length ≤ 40000 ∧
    (∀ k : Nat, k < (rowsOf z).length → (∀ j, j < k → okAt (rowsOf z) j = true) → okAt (rowsOf z) k = false → ∀ R H', Same H H' → H' R = some (.lst [.str (Str.ofString "page"), .int (k : Int)]) → Q (.ref R) H') ∧
    ((∀ j, j < (rowsOf z).length → okAt (rowsOf z) j = true) → ∀ R D H' xs, Same H H' → H' R = some (.lst [.str (Str.ofString "text"), .ref D]) → H' D = some (.lst xs) → TxL H' xs (textAt (rowsOf z) (rowsOf z).length) → Q (.ref R) H'))
def spChanged : Sp := fun vs H Q _ => ∃ (p : Addr) (z : Str) (n : Int), vs = [.ref p, .str z] ∧ Asc z ∧ z.length ≤ 9000 ∧ n ≤ 900000 ∧ BoxAt H p n ∧ ∀ z2 H', Asc z2 → z2.length ≤ 3 * z.length + 40 → Sam p H H' → BoxAt H' p (n + 4) → Q (.str z2) H'
end RV
namespace RV
open PySem PySem.Spec PyProof.Rows L2 TL
theorem pgAt_succ {ts : List Tk} {i : Nat} {t : Tk} (h : ts[i]? = some t) : pgAt ts (i + 1) = pgStep i (pgAt ts i) t := by
  show (match ts[i]? with
    | some t => pgStep i (pgAt ts i) t
    | none => pgAt ts i) = _
  rw [h]
theorem pgStep_blank {i : Nat} {z : Str} {t : Tk} (h : tl t.1 = [32]) : pgStep i z t = z ++ spc ++ t.2 := by
  unfold pgStep
  rw [h]
theorem pgStep_break {i c d : Nat} {z : Str} {t : Tk} (h : tl t.1 = [c, d]) : pgStep i z t = z ++ (if 0 < i then betw c else Str.ofString "") ++ padS d ++ t.2 := by
  unfold pgStep
  rw [h]
theorem sgn_eq (c : Nat) {s : String} {k : Nat} (h : (Str.ofString s).cps.toList = [k]) : decide (V.str ⟨#[c]⟩ = V.str (Str.ofString s)) = decide (c = k) := by
  rw [← one_eq (c := c) h, Bool.eq_iff_iff, decide_eq_true_eq, V.str.injEq, beq_iff_eq]
  exact eq_comm
theorem cut_from (z : Str) (k : Nat) : cutS z (some (k : Int)) none = mkS ((tl z).drop k) := by
  refine ext_tl ?_
  rw [tl_mk]
  unfold cutS
  rw [HT.sIx_nat, HT.sIx_none]
  show (((tl z).drop (min k z.length)).take (z.length - min k z.length)).toArray.toList = _
  rw [List.toList_toArray, List.take_of_length_le (by rw [List.length_drop, len_tl]; exact Nat.le_refl _)]
  by_cases h : k ≤ z.length
  · rw [Nat.min_eq_left h]
  · rw [Nat.min_eq_right (by omega), List.drop_of_length_le (by rw [len_tl]; exact Nat.le_refl _), List.drop_of_length_le (by rw [len_tl]; omega)]
theorem cut_row (z : Str) : cutS z (some ((lead (tl z) : Nat) : Int)) none = mkS (body (tl z)) := by rw [cut_from, body_drop]
/-- a list's slice up to a place counted from its start -/
theorem cutV_to (xs : List V) (k : Nat) : cutV xs none (some (k : Int)) = xs.take k := by
  unfold cutV
  rw [HT.sIx_none, HT.sIx_nat]
  show (xs.drop 0).take (min k xs.length - 0) = _
  rw [List.drop_zero, Nat.sub_zero]
  by_cases h : k ≤ xs.length
  · rw [Nat.min_eq_left h]
  · rw [Nat.min_eq_right (by omega), List.take_of_length_le (Nat.le_refl _), List.take_of_length_le (by omega)]
theorem cutV_from (xs : List V) (k : Nat) : cutV xs (some (k : Int)) none = xs.drop k := by
  unfold cutV
  rw [HT.sIx_none, HT.sIx_nat]
  show (xs.drop (min k xs.length)).take (xs.length - min k xs.length) = _
  rw [List.take_of_length_le (by rw [List.length_drop]; exact Nat.le_refl _)]
  by_cases h : k ≤ xs.length
  · rw [Nat.min_eq_left h]
  · rw [Nat.min_eq_right (by omega), List.drop_of_length_le (Nat.le_refl _), List.drop_of_length_le (by omega)]
theorem cut_ws (ps : List Str) (k : Nat) (hk : k = (if lastOf ps = true then ps.length - 1 else ps.length)) : cutV (ps.map V.str) none (some (k : Int)) = (wsOf ps).map V.str := by
  rw [cutV_to, hk]
  unfold wsOf
  split
  · rw [← List.map_take, List.dropLast_eq_take]
  · rw [← List.map_take, List.take_of_length_le (Nat.le_refl _)]
def oddA (c : Nat) : Bool := !decide (c ∈ abc.cps.toList)
theorem odd_nil (z : Str) : decide ((z.cps.toList.filter oddA) = []) = onlyS z abc := by
  rw [Bool.eq_iff_iff, decide_eq_true_eq, List.filter_eq_nil_iff]
  unfold onlyS oddA
  rw [List.all_eq_true]
  constructor
  · intro h c hc
    have := h c hc
    simpa using this
  · intro h c hc
    have := h c hc
    simpa using this
end RV
namespace RV
open PySem PySem.Spec PyProof.Rows L2 TL
/-! ### rows, cut and put together -/
def cutR (rs : List Str) (lo hi : Option Int) : List Str := (rs.drop (HT.sIx rs.length 0 lo)).take (HT.sIx rs.length rs.length hi - HT.sIx rs.length 0 lo)
theorem cutV_map (rs : List Str) (lo hi : Option Int) : cutV (rs.map V.str) lo hi = (cutR rs lo hi).map V.str := by
  unfold cutV cutR
  rw [List.length_map, List.map_take, List.map_drop]
theorem cutR_mem {rs : List Str} {lo hi : Option Int} {p : Str} (h : p ∈ cutR rs lo hi) : p ∈ rs := List.mem_of_mem_drop (List.mem_of_mem_take h)
def sumR (rs : List Str) : Nat := (rs.map fun p => p.length + 1).sum
theorem sumR_app (a b : List Str) : sumR (a ++ b) = sumR a + sumR b := by
  unfold sumR
  rw [List.map_append, List.sum_append]
theorem cutR_sum (rs : List Str) (lo hi : Option Int) : sumR (cutR rs lo hi) ≤ sumR rs := by
  unfold cutR
  have h1 := sumR_app (rs.take (HT.sIx rs.length 0 lo)) (rs.drop (HT.sIx rs.length 0 lo))
  rw [List.take_append_drop] at h1
  have h2 := take_sum (rs.drop (HT.sIx rs.length 0 lo)) (HT.sIx rs.length rs.length hi - HT.sIx rs.length 0 lo)
  unfold sumR at *
  omega
theorem nsplit_sum (z : Str) : sumR (nsplit z) ≤ z.length + 1 := by
  unfold sumR
  by_cases h : nsplit z = []
  · rw [h]
    simp
  · have e := joinL_sum 10 (ps := (nsplit z).map tl) (by simpa using h)
    rw [nsplit_join, len_tl, List.map_map] at e
    have e2 : ((nsplit z).map fun p => p.length + 1) = (nsplit z).map ((fun p : List Nat => p.length + 1) ∘ tl) := List.map_congr_left fun p _ => by
      show p.length + 1 = (tl p).length + 1
      rw [len_tl]
    rw [e2, e]
    exact Nat.le_refl _
theorem joinL_has {c : Nat} {x : List Nat} : ∀ {ps : List (List Nat)} {p : List Nat}, p ∈ ps → c ∈ p → c ∈ joinL x ps
  | [], p, h, _ => by cases h
  | [a], p, h, hc => by
    rw [List.mem_singleton.mp h] at hc
    exact hc
  | a :: b :: r, p, h, hc => by
    show c ∈ a ++ (x ++ joinL x (b :: r))
    rcases List.mem_cons.mp h with rfl | h
    · exact List.mem_append_left _ hc
    · exact List.mem_append_right _ (List.mem_append_right _ (joinL_has h hc))
theorem joinL_in {c : Nat} {x : List Nat} : ∀ {ps : List (List Nat)}, c ∈ joinL x ps → c ∈ x ∨ ∃ p ∈ ps, c ∈ p
  | [], h => by cases h
  | [a], h => .inr ⟨a, by simp, h⟩
  | a :: b :: r, h => by
    rcases List.mem_append.mp (show c ∈ a ++ (x ++ joinL x (b :: r)) from h) with h1 | h1
    · exact .inr ⟨a, by simp, h1⟩
    · rcases List.mem_append.mp h1 with h2 | h2
      · exact .inl h2
      · rcases joinL_in h2 with h3 | ⟨p, hp, hc⟩
        · exact .inl h3
        · exact .inr ⟨p, List.mem_cons_of_mem _ hp, hc⟩
theorem nsplit_asc {z : Str} (h : Asc z) : ∀ p ∈ nsplit z, Asc p := fun p hp c hc => by
  refine h c ?_
  show c ∈ tl z
  rw [← nsplit_join z]
  exact joinL_has (List.mem_map_of_mem hp) hc
theorem rowsOf_asc {z : Str} (h : Asc z) : ∀ p ∈ rowsOf z, Asc p := fun p hp => by
  unfold rowsOf at hp
  split at hp
  · cases hp
  · exact nsplit_asc h p hp
theorem nl_asc : Asc nlS := asc_lit (by decide +kernel)
theorem join_asc {ps : List Str} (h : ∀ p ∈ ps, Asc p) : Asc (Txt.join nlS ps) := fun c hc => by
  have hc : c ∈ tl (Txt.join nlS ps) := hc
  rw [join_txt] at hc
  rcases joinL_in hc with h1 | ⟨q, hq, h2⟩
  · exact nl_asc c h1
  · obtain ⟨p, hp, rfl⟩ := List.mem_map.mp hq
    exact h p hp c h2
theorem join_len (ps : List Str) : (Txt.join nlS ps).length ≤ sumR ps := by
  rw [← len_tl, join_txt, show tl nlS = [10] from by decide +kernel]
  by_cases h : ps = []
  · rw [h]
    exact Nat.zero_le _
  · have e := joinL_sum 10 (ps := ps.map tl) (by simpa using h)
    rw [List.map_map] at e
    have e2 : (ps.map fun p => p.length + 1) = ps.map ((fun p : List Nat => p.length + 1) ∘ tl) := List.map_congr_left fun p _ => by
      show p.length + 1 = (tl p).length + 1
      rw [len_tl]
    unfold sumR
    rw [e2, e]
    omega
theorem join_room (ps : List Str) : (ps.map (·.length)).sum + ps.length * nlS.length ≤ sumR ps := by
  rw [show nlS.length = 1 from by decide +kernel]
  unfold sumR
  induction ps with
  | nil => simp
  | cons a r ih =>
    simp only [List.map_cons, List.sum_cons, List.length_cons]
    omega
theorem cut_sum2 (z : Str) (lo hi lo2 hi2 : Option Int) : (cutS z lo hi).length + (cutS z lo2 hi2).length ≤ 2 * z.length := by
  have h1 := cutS_len z lo hi
  have h2 := cutS_len z lo2 hi2
  omega
/-! ### the tokens of right rows -/
theorem fr_zero (rows : List Str) : frAt rows 0 = Str.ofString "" := rfl
theorem fr_last {rows : List Str} {i : Nat} (h : rows.length ≤ i) : frAt rows (i + 1) = Str.ofString "" := by
  unfold frAt frm
  rw [List.getElem?_cons_succ, List.getElem?_append_right h]
  cases q : i - rows.length with
  | zero => rfl
  | succ n => simp
theorem kind_mark (ahead : Str) {n : Nat} (h : n ≤ 3) : markS (kindS ahead ++ digS n) = true := by
  have n4 : n = 0 ∨ n = 1 ∨ n = 2 ∨ n = 3 := by omega
  unfold kindS
  rcases n4 with rfl | rfl | rfl | rfl
  all_goals
    split
    · decide +kernel
    · split
      · decide +kernel
      · decide +kernel
theorem toksR_tok {ahead row : Str} (h : lead (tl row) ≤ 3) (hw : (wsOf (partsOf row)).all wordS = true) : ∀ t ∈ toksR ahead row, tokS t = true := by
  unfold toksR
  revert hw
  generalize wsOf (partsOf row) = ws
  intro hw t ht
  cases ws with
  | nil => cases ht
  | cons w r =>
    rw [List.all_cons, Bool.and_eq_true] at hw
    rcases List.mem_cons.mp ht with rfl | ht
    · unfold tokS
      rw [kind_mark ahead h, hw.1]
      rfl
    · obtain ⟨x, hx, rfl⟩ := List.mem_map.mp ht
      unfold tokS
      rw [List.all_eq_true.mp hw.2 x hx, show markS (spc, x).1 = true from by show markS spc = true; decide +kernel]
      rfl
theorem textAt_tok {rows : List Str} : ∀ {n : Nat}, n ≤ rows.length → (∀ j, j < n → okAt rows j = true) → ∀ t ∈ textAt rows n, tokS t = true
  | 0, _, _, t, h => by cases h
  | n + 1, hn, ok, t, h => by
    rcases List.mem_append.mp (show t ∈ textAt rows n ++ toksAt rows n from h) with h | h
    · exact textAt_tok (by omega) (fun j hj => ok j (by omega)) t h
    · unfold toksAt at h
      split at h
      · cases h
      · rename_i hr
        obtain ⟨o1, o2⟩ := okRow_parts (ok n (by omega)) hr
        exact toksR_tok o1 o2 t h
theorem first_bad (rows : List Str) : (∃ k, k < rows.length ∧ (∀ j, j < k → okAt rows j = true) ∧ okAt rows k = false) ∨ ∀ j, j < rows.length → okAt rows j = true := by
  have key : ∀ n, n ≤ rows.length → (∃ k, k < rows.length ∧ (∀ j, j < k → okAt rows j = true) ∧ okAt rows k = false) ∨ ∀ j, j < n → okAt rows j = true := by
    intro n
    induction n with
    | zero => exact fun _ => .inr fun j h => absurd h (Nat.not_lt_zero j)
    | succ n ih =>
      intro hn
      rcases ih (by omega) with h | h
      · exact .inl h
      · cases q : okAt rows n with
        | false => exact .inl ⟨n, by omega, h, q⟩
        | true =>
          refine .inr fun j hj => ?_
          by_cases c : j < n
          · exact h j c
          · have e : j = n := by omega
            rw [e]
            exact q
  exact key _ (Nat.le_refl _)
theorem costAll_tok : ∀ {ts : List Tk}, (∀ t ∈ ts, tokS t = true) → costAll (ts.map dTk) ≤ 340 * ts.length
  | [], _ => by simp [costAll]
  | t :: r, h => by
    have ht := h t (by simp)
    unfold tokS at ht
    rw [Bool.and_eq_true] at ht
    have m1 := markS_len ht.1
    have m2 := wordS_len ht.2
    have := costAll_tok (ts := r) fun u hu => h u (by simp [hu])
    simp only [List.map_cons, costAll, dTk, cost, List.length_cons]
    omega
theorem ShD.txt {H : Hp} {D : Addr} {xs : List V} {ts : List Tk} (e : H D = some (.lst xs)) (tx : TxL H xs ts) (hk : ∀ t ∈ ts, tokS t = true) (l : ts.length ≤ 40000) : ShD H (.ref D) (dTx ts) := by
  have h1 := depthAll_tk ts
  have h2 := plainAll_tk fun t h => tokS_A (hk t h)
  have h3 := costAll_tok hk
  refine ⟨.lst e (dx_tx tx), ?_, h2, ?_⟩
  · simp only [dTx, PyData.depth]
    omega
  · simp only [dTx, cost]
    omega
theorem asc_page : Asc (Str.ofString "page") := asc_lit (by decide +kernel)
theorem len_page : (Str.ofString "page").length ≤ 100 := by decide +kernel
def OddP (H : Hp) (v : V) : Prop := ∃ t, Ty7 H v t ∧ isStrV v = false
theorem ShD.intN {H : Hp} {n : Nat} (h : n ≤ 1000000) : ShD H (.int (n : Int)) (.int (n : Int)) := .int (log_of (k := 64) (by omega) (by decide) (by decide))
/-- the box and the table of modules alone -/
structure Bx (H0 : Hp) (p : Addr) (n : Int) (H : Hp) : Prop where
  ss : Sam p H0 H
  bx : BoxAt H p n
  sy : SysAt H
theorem Bx.same {H0 H H' : Hp} {p : Addr} {n : Int} (z : Bx H0 p n H) (s : Same H H') : Bx H0 p n H' := ⟨z.ss.up s, z.bx.up s, z.sy.up s⟩
theorem Bx.sam {H0 H H' : Hp} {p : Addr} {n m : Int} (z : Bx H0 p n H) (s : Sam p H H') (b : BoxAt H' p m) : Bx H0 p m H' := ⟨z.ss.trans s, b, z.sy.sam z.bx s⟩
theorem Bx.take {H0 H : Hp} {p : Addr} {n m : Int} {o : HO} (z : Bx H0 p n H) (b : BoxAt (upd H p o) p m) : Bx H0 p m (upd H p o) := z.sam (Sam.box (Sam.refl _ _)) b
theorem Bx.mono {H0 H : Hp} {p : Addr} {n m : Int} (z : Bx H0 p n H) (h : n ≤ m) : Bx H0 p m H := ⟨z.ss, z.bx.mono h, z.sy⟩
end RV
namespace RV
open PySem PySem.Spec PyProof.Rows L2 TL
theorem decV (a b : Str) : decide (V.str a = V.str b) = decide (a = b) := by
  rw [Bool.eq_iff_iff, decide_eq_true_eq, decide_eq_true_eq, V.str.injEq]
theorem decI (a b : Int) : decide (V.int a = V.int b) = decide (a = b) := by
  rw [Bool.eq_iff_iff, decide_eq_true_eq, decide_eq_true_eq, V.int.injEq]
end RV
namespace RV
open PySem PySem.Spec PyProof.Rows L2 TL
theorem odd_nil2 (z : Str) : decide (((z.cps.toList.filter oddA).map fun c => (⟨#[c]⟩ : Str)) = []) = onlyS z abc := by
  rw [← odd_nil, Bool.eq_iff_iff, decide_eq_true_eq, decide_eq_true_eq, List.map_eq_nil_iff]
end RV
namespace RV
open PySem PySem.Spec PyProof.Rows L2 TL
theorem atI_gl {α : Type} {xs : List α} {c : α} (h : xs.getLast? = some c) : atI xs (-1) = some c := by
  have ne : xs ≠ [] := by
    intro e
    rw [e] at h
    cases h
  have e := List.dropLast_concat_getLast ne
  rw [List.getLast?_eq_getLast ne] at h
  rw [Option.some.inj h] at e
  rw [← e]
  exact atI_last _ _
theorem last_sign {z : Str} (h : z ≠ Str.ofString "") : ∃ c, (tl z).getLast? = some c := by
  cases q : (tl z).getLast? with
  | some c => exact ⟨c, rfl⟩
  | none =>
    have e : tl z = [] := List.getLast?_eq_none_iff.mp q
    refine absurd (ext_tl ?_) h
    rw [e]
    decide +kernel
theorem dig_at {n : Nat} (h : n ≤ 3) : (Str.ofString "0123").cps.toList[n]? = some (48 + n) := by
  have n4 : n = 0 ∨ n = 1 ∨ n = 2 ∨ n = 3 := by omega
  rcases n4 with rfl | rfl | rfl | rfl <;> decide +kernel
end RV
namespace RV
open PySem PySem.Spec PyProof.Rows L2 TL
theorem first_eq {rows : List Str} {k m : Nat} (h1 : ∀ j, j < k → okAt rows j = true) (h2 : okAt rows k = false) (g1 : ∀ j, j < m → okAt rows j = true) (g2 : okAt rows m = false) : k = m := by
  rcases Nat.lt_trichotomy k m with h | h | h
  · have := g1 k h
    rw [h2] at this
    cases this
  · exact h
  · have := h1 m h
    rw [g2] at this
    cases this
end RV

/-! try: .. except A as n: .. except B as n: .. ; what is behind the clauses named here is never reached -/
namespace RV
open PySem PySem.Spec PyProof.Rows L2
def dUn (i : Nat) (D : Ends) : Ends := { nx := fun σ' H' => D.nx (σ'.set i none) H', rt := D.rt, bk := fun σ' H' => D.bk (σ'.set i none) H', ct := fun σ' H' => D.ct (σ'.set i none) H' }
abbrev HdT := Value × Nat × (Addr → Value → Option Addr → TS)
def wAn (K : PySem.W.Frag) (D : Ends) : List HdT → WX
  | [] => fun _ _ _ _ => False
  | (c, i, ts) :: r => fun cls d σ H => ∃ b, PySem.W.exmOne K cls c = some b ∧ (b = true → ∀ a, H a = none → ts a cls d (dUn i D) (σ.set i (some (.ref a))) H) ∧ (b = false → wAn K D r cls d σ H)
inductive HdsAs (X : Cx) : List ExceptHandler → List HdT → Prop
  | stop (hds : List ExceptHandler) : HdsAs X hds []
  | cons {x n : Str} {i : Nat} {c : Value} {ts : Addr → Value → Option Addr → TS} {b₀ : Stmt} {suite : List Stmt} {np pos' : Pos} {hds : List ExceptHandler} {l : List HdT} (hN : X.N.Nodup) (hi : X.N[i]? = some n) (hln : X.env.kindOf n = some .local) (hc : Names X x c)
      (hsu : ∀ (a : Addr) (oe : Obj) (cls : Value) (d : Option Addr) (pn : List (Addr × Obj)), Zc cls d oe → (∃ vs, oe.data = .fields vs) → PSs (X.suite a ((a, oe) :: pn)) (b₀ :: suite) (ts a cls d)) (r : HdsAs X hds l) :
      HdsAs X (.ExceptHandler (some (.Name x np)) (some n) (b₀ :: suite) pos' :: hds) ((c, i, ts) :: l)
section
variable {X : Cx} {body : List Stmt} {h₀ : ExceptHandler} {hds : List ExceptHandler} {l : List HdT} {pos : Pos} {tb : WX → TS}
theorem ps_try_an (hs : X.stack = X.env :: X.outer) (hf : X.env.frame = some X.env.locals)
    (hb : ∀ (W : WX) (pn : List (Addr × Obj)) (xe : Value → Shared → Prop), Takes (X.tr pn xe) W → PassesOwn (model X.prog X.w) X.A X.env xe → PSs (X.tr pn xe) body (tb W))
    (hh : HdsAs X (h₀ :: hds) l) : PS X (.Try body (h₀ :: hds) [] [] pos) (fun D σ H => tb (wAn X.K D l) D σ H) := by
  refine ⟨fun pins s σ H D I h => ?_⟩
  have ok := I.ok
  have hfr : X.A.frames = some (X.env :: X.outer) := by rw [ok.frames, hs]
  refine wpAny_Try_except ?_
  refine wpAny_mono ((hb (wAn X.K D l) (X.pn ++ pins) (fun e s₁ => wpAny (model X.prog X.w) X.A (noteFrame e X.env) (fun _ s₂ => wpAny (model X.prog X.w) X.A (setFlight e none) (fun _ s₃ =>
    wpAny (model X.prog X.w) X.A (handleBy e X.env (h₀ :: hds)) (SP X pins D) X.xe s₃) X.xe s₂) X.xe s₁) (fun u s' xx => ?_) PassesOwn.looking).run [] s σ H D (I.toTry _) h) (fun f s1 hsp => ?_) (fun e s1 he => he)
  · obtain ⟨a, B, sI, pins', σ', H', cls, d, rfl, J', nb, up, sky, na, os, ag, w⟩ := xx
    have J : Inv X pins σ' H' sI := J'.ofTry ok
    have sky' : Sky B (X.env :: X.outer) a (Zc cls d) X.env.locals s'.heap := by rw [← hs]; exact sky
    show wpAny (model X.prog X.w) X.A (noteFrame (.ref a) X.env) _ _ _
    refine Sky.land Zc.steady hfr hf sky' fun h3 fl3 up3 => ?_
    have J3 : Inv X pins σ' H' { s' with heap := h3 } := J.landed nb fl3.1 (up.trans up3) os ag
    obtain ⟨oe3, vs3, he3, hz3, hd3⟩ := fl3.there
    have notFr : ∀ {h : Heap} {o : Obj} {vs : Array Value}, h.FunFrames B (X.env :: X.outer) → h.get? a = some o → o.data = .fields vs → a ∉ frs (X.env :: X.outer) := fun {h o vs} ff e dd hm => by
      obtain ⟨_, o', e', hnf⟩ := ff.mem hm
      rw [e] at e'; cases e'
      exact hnf _ dd
    have nfr := notFr fl3.2.2.1 he3 hd3
    have nL : a ≠ X.env.locals := fun z => nfr (List.mem_filterMap.mpr ⟨X.env, List.mem_cons_self, by rw [hf, z]⟩)
    have nF : a ∉ X.fs := fun hm => by
      obtain ⟨e, he, q⟩ := List.mem_filterMap.mp hm
      exact nfr (List.mem_filterMap.mpr ⟨e, List.mem_cons_of_mem _ he, q⟩)
    have S3 := J3.suite he3 hd3 na nL nF
    have go : ∀ {hds' : List ExceptHandler} {l' : List HdT}, HdsAs X hds' l' → wAn X.K D l' cls d σ' H' →
        wpAny (model X.prog X.w) X.A (handleBy (.ref a) X.env hds') (SP X pins D) X.xe { s' with heap := h3 } := by
      intro hds' l' hk
      induction hk with
      | stop hds2 => exact fun w => w.elim
      | @cons x n i c ts b₀ suite np pos' hds2 l2 hN hi hln hc hsu r ih =>
        intro w
        obtain ⟨b, hb1, hyes, hno⟩ := w
        have hloc : Loc X.env.scope n := .inl hln
        refine wpAny_handleBy_cons (codeAny_handlers_test ?_) (by intro q; cases q)
        have LT : PySem.W.Looks (model X.prog X.w) h3 (typeOf (.ref a)) cls := fun A Q E s k q => wpAny_typeOf_ref (k _ _ he3) (by rw [hz3.1]; exact q)
        have LM := PySem.W.exm_one (M := model X.prog X.w) (J3.kIn) LT hb1
        have test : ∀ {Q : Value → Shared → Prop} {E : Value → Shared → Prop}, Q c { s' with heap := h3 } → wpAny (model X.prog X.w) (X.A.mark (some (.ref a))) (eval (.Name x np) X.env) Q E { s' with heap := h3 } := fun {Q E} q => by
          obtain ⟨hg, hdbg, hm | ⟨hm, hv, hnn⟩⟩ := hc
          · exact ld_glob (X := X.suite a ((a, oe3) :: (X.pn ++ pins))) S3 hg hm q hdbg
          · exact ld_blt (X := X.suite a ((a, oe3) :: (X.pn ++ pins))) S3 hg hm hv q hnn hdbg
        refine test (LM.here ?_)
        cases b with
        | true =>
          refine codeAny_handlers_suite_as ?_
          refine HandSPX.lands_againZ fl3 fun h4 fl4 up4 => ?_
          have J4 : Inv X pins σ' H' { s' with heap := h4 } := J.landed nb fl4.1 ((up.trans up3).trans up4) os ag
          obtain ⟨oe4, vs4, he4, hz4, hd4⟩ := fl4.there
          have S4 := J4.suite he4 hd4 na nL nF
          refine store_ok (X := X.suite a ((a, oe4) :: (X.pn ++ pins))) (v := .ref a) S4 hN hi hloc rfl (fun s5 S5 => ?_) (.inr hln)
          refine wpAny_mono ((hsu a oe4 cls d (X.pn ++ pins) hz4 ⟨_, hd4⟩).run [] s5 _ H' _ S5 (hyes rfl a na)) (fun f s6 hsp => ?_) (fun _ _ z => False.elim z)
          have end_ : ∀ {σ6 : L2.St} {H6 : Hp} {Q : Shared → Prop}, Inv (X.suite a ((a, oe4) :: (X.pn ++ pins))) [] σ6 H6 s6 → (∀ s7, Inv X pins (σ6.set i none) H6 s7 → Q s7) →
              wpAny (model X.prog X.w) X.A (do bindName X.env n .none; unbindBehindTheSuite X.env n pos') (fun _ s7 => Q s7) X.xe s6 := fun {σ6 H6 Q} S6 hq => gone_ok (S6.unsuite ok) hN hi hln hq
          cases f with
          | next =>
            obtain ⟨σ6, H6, S6, q6⟩ := hsp
            exact end_ S6 fun s7 J7 => ⟨_, _, J7, q6⟩
          | brk =>
            obtain ⟨σ6, H6, S6, q6⟩ := hsp
            exact end_ S6 fun s7 J7 => ⟨_, _, J7, q6⟩
          | cont =>
            obtain ⟨σ6, H6, S6, q6⟩ := hsp
            exact end_ S6 fun s7 J7 => ⟨_, _, J7, q6⟩
          | ret u =>
            obtain ⟨v6, σ6, H6, S6, r6, q6⟩ := hsp
            exact end_ S6 fun s7 J7 => ⟨_, _, _, J7, r6, q6⟩
        | false =>
          show wpAny _ X.A (handleBy (.ref a) X.env hds2) _ _ _
          exact ih (hno rfl)
    exact go hh w
  · cases f with
    | next =>
      obtain ⟨σ', H', J', q⟩ := hsp
      exact wpAny_execs_nil ⟨σ', H', J'.ofTry ok, q⟩
    | brk =>
      obtain ⟨σ', H', J', q⟩ := hsp
      exact ⟨σ', H', J'.ofTry ok, q⟩
    | cont =>
      obtain ⟨σ', H', J', q⟩ := hsp
      exact ⟨σ', H', J'.ofTry ok, q⟩
    | ret u =>
      obtain ⟨v, σ', H', J', r, q⟩ := hsp
      exact ⟨v, σ', H', J'.ofTry ok, r, q⟩
end
/-- a clause names another class -/
theorem exm_other {K : PySem.W.Frag} {A S : Addr} (h1 : PySem.W.subIn K (.ref S) (.type "BaseException") = some true) (h2 : PySem.W.isClsIn K S = true) (h3 : PySem.W.typeIn K (.ref S) = some (.type "type")) (h4 : PySem.W.subIn K (.ref A) (.ref S) = some false) :
    PySem.W.exmOne K (.ref A) (.ref S) = some false := by
  have e1 : (PySem.W.subIn K (.ref S) (.type "BaseException") == some true) = true := by rw [h1] <;> rfl
  have e2 : ((PySem.W.clsIn K S).isSome && PySem.W.typeIn K (.ref S) == some (.type "type")) = true := by
    have h2' : (PySem.W.clsIn K S).isSome = true := h2
    rw [h2', h3] <;> rfl
  show (if (PySem.W.subIn K (.ref S) (.type "BaseException") == some true) = true then (if ((PySem.W.clsIn K S).isSome && PySem.W.typeIn K (.ref S) == some (.type "type")) = true then PySem.W.subIn K (.ref A) (.ref S) else none) else none) = some false
  rw [if_pos e1, if_pos e2]
  exact h4
end RV

/-! lists that are equal item by item: flat items alike, or the very same objects, or lists of such -/
namespace RV
open PySem PySem.Spec PyProof.Rows L2
def EqS (K : PySem.W.Frag) (H : Hp) : Nat → V → V → Prop
  | 0 => fun _ _ => False
  | n + 1 => fun x y => (x = y ∧ flatB x = true) ∨ (∃ a, x = .ref a ∧ y = .ref a) ∨ ∃ a b xs ys, x = .ref a ∧ y = .ref b ∧ SqL K H a xs ∧ SqL K H b ys ∧ Paired (EqS K H n) xs ys
section
variable {X : Cx} {pins : List (Addr × Obj)} {σ : L2.St} {H : Hp} {s : Shared}
theorem items_at {A : Around} {F : V → V → Prop} (ih : ∀ x y v u, F x y → RelV x v → RelV y u → SeqAt.EqAt A s v u true) {xs ys : List V} (hp : Paired F xs ys) :
    ∀ {us ws : List Value}, Vals xs us → Vals ys ws → ∀ j (h1 : j < us.length) (h2 : j < ws.length), SeqAt.EqAt A s us[j] ws[j] true := by
  induction hp with
  | nil =>
    intro us ws r1 r2 j h1 h2
    cases r1
    exact absurd h1 (Nat.not_lt_zero j)
  | cons h _ k =>
    intro us ws r1 r2 j h1 h2
    cases r1 with
    | cons a1 b1 =>
      cases r2 with
      | cons a2 b2 =>
        cases j with
        | zero => exact ih _ _ _ _ h a1 a2
        | succ j => exact k b1 b2 j (Nat.lt_of_succ_lt_succ h1) (Nat.lt_of_succ_lt_succ h2)
theorem eqS_run (I : L2.Inv X pins σ H s) : ∀ (n : Nat) (A : Around), A.units + n < cLine → ∀ (x y : V) (v u : Value), EqS X.K H n x y → RelV x v → RelV y u → SeqAt.EqAt A s v u true
  | 0, _, _, _, _, _, _, h, _, _ => (show False from h).elim
  | n + 1, A, hu, x, y, v, u, h, rx, ry => by
    rcases h with ⟨rfl, f⟩ | ⟨a, rfl, rfl⟩ | ⟨a, b, xs, ys, rfl, rfl, ha, hb, hp⟩
    · exact eqAt_same rx ry f
    · cases (show v = Value.ref a from rx)
      cases (show u = Value.ref a from ry)
      exact SeqAt.EqAt.same _
    · cases (show v = Value.ref a from rx)
      cases (show u = Value.ref b from ry)
      by_cases e : a = b
      · subst e
        exact SeqAt.EqAt.same _
      · obtain ⟨us, r1, p1, _⟩ := I.list ha
        obtain ⟨ws, r2, p2, _⟩ := I.list hb
        have hsz : us.toArray.size = ws.toArray.size := by
          rw [List.size_toArray, List.size_toArray, ← r1.length, ← r2.length]
          exact Paired.length hp
        have k := SeqAt.RcAt.lists (A := A) (e := fun _ => true) p1.isList p2.isList hsz (by omega) (fun j h1 h2 => by
          have k := items_at (eqS_run I n A.in1 (by show A.units + 1 + n < cLine; omega)) hp r1 r2 j (by simpa using h1) (by simpa using h2)
          simpa using k)
        rw [show ((List.range us.toArray.size).all fun _ => true) = true from List.all_eq_true.mpr fun _ _ => rfl] at k
        exact SeqAt.EqAt.of_refs e k
end
section
variable {X : Cx}
/-- two lists, equal item by item -/
def rNeS (K : PySem.W.Frag) : R2 := fun x y H Q => ∃ n, n ≤ 60 ∧ ∃ a b xs ys, x = .ref a ∧ y = .ref b ∧ SqL K H a xs ∧ SqL K H b ys ∧ Paired (EqS K H n) xs ys ∧ Q (.bl false) H
theorem op_neS (hu : X.A.units + 64 < cLine) : OpR X (compareOp .NotEq) (rNeS X.K) := by
  intro pins s σ H x y v u Q I rx ry h
  obtain ⟨n, hn, a, b, xs, ys, rfl, rfl, ha, hb, hp, q⟩ := h
  cases (show v = Value.ref a from rx)
  cases (show u = Value.ref b from ry)
  obtain ⟨us, r1, p1, _⟩ := I.list ha
  obtain ⟨ws, r2, p2, _⟩ := I.list hb
  have hsz : us.toArray.size = ws.toArray.size := by
    rw [List.size_toArray, List.size_toArray, ← r1.length, ← r2.length]
    exact Paired.length hp
  have k := SeqAt.RcNeAt.lists (A := X.A) (s := s) (e := fun _ => true) p1.isList p2.isList hsz (by omega) (fun j h1 h2 => by
    have k := items_at (eqS_run I n X.A.in1 (by show X.A.units + 1 + n < cLine; omega)) hp r1 r2 j (by simpa using h1) (by simpa using h2)
    simpa using k)
  rw [show ((List.range us.toArray.size).all fun _ => true) = true from List.all_eq_true.mpr fun _ _ => rfl] at k
  exact k X.prog X.w _ _ ⟨.bl false, H, I, rfl, q⟩
def rEqS (K : PySem.W.Frag) : R2 := fun x y H Q => ∃ n, n ≤ 60 ∧ ∃ a b xs ys, x = .ref a ∧ y = .ref b ∧ SqL K H a xs ∧ SqL K H b ys ∧ Paired (EqS K H n) xs ys ∧ Q (.bl true) H
theorem op_eqS (hu : X.A.units + 64 < cLine) : OpR X (compareOp .Eq) (rEqS X.K) := by
  intro pins s σ H x y v u Q I rx ry h
  obtain ⟨n, hn, a, b, xs, ys, rfl, rfl, ha, hb, hp, q⟩ := h
  cases (show v = Value.ref a from rx)
  cases (show u = Value.ref b from ry)
  obtain ⟨us, r1, p1, _⟩ := I.list ha
  obtain ⟨ws, r2, p2, _⟩ := I.list hb
  have hsz : us.toArray.size = ws.toArray.size := by
    rw [List.size_toArray, List.size_toArray, ← r1.length, ← r2.length]
    exact Paired.length hp
  have k := SeqAt.RcAt.lists (A := X.A) (s := s) (e := fun _ => true) p1.isList p2.isList hsz (by omega) (fun j h1 h2 => by
    have k := items_at (eqS_run I n X.A.in1 (by show X.A.units + 1 + n < cLine; omega)) hp r1 r2 j (by simpa using h1) (by simpa using h2)
    simpa using k)
  rw [show ((List.range us.toArray.size).all fun _ => true) = true from List.all_eq_true.mpr fun _ _ => rfl] at k
  exact k X.prog X.w _ _ ⟨.bl true, H, I, rfl, q⟩
/-- two lists of unlike lengths -/
def rNeLen (K : PySem.W.Frag) : R2 := fun x y H Q => ∃ a b xs ys, x = .ref a ∧ y = .ref b ∧ SqL K H a xs ∧ SqL K H b ys ∧ xs.length ≠ ys.length ∧ Q (.bl true) H
theorem op_ne_len (hu : X.A.units < cLine) : OpR X (compareOp .NotEq) (rNeLen X.K) := by
  intro pins s σ H x y v u Q I rx ry h
  obtain ⟨a, b, xs, ys, rfl, rfl, ha, hb, hp, q⟩ := h
  cases (show v = Value.ref a from rx)
  cases (show u = Value.ref b from ry)
  obtain ⟨us, r1, p1, _⟩ := I.list ha
  obtain ⟨ws, r2, p2, _⟩ := I.list hb
  have hsz : (us.toArray.size != ws.toArray.size) = true := by
    rw [List.size_toArray, List.size_toArray, ← r1.length, ← r2.length]
    exact bne_iff_ne.mpr hp
  exact SeqAt.RcNeAt.lists_lengths p1.isList p2.isList hsz hu X.prog X.w _ _ ⟨.bl true, H, I, rfl, q⟩
end
end RV

/-! zip of a list and a tuple, in any mix -/
namespace RV
open PySem PySem.Spec PyProof.Rows L2
/-- a list (false) or a tuple (true) of these stands at a -/
def Sq (k : Bool) (H : Hp) (a : Addr) (xs : List V) : Prop := H a = some (if k = true then .tup xs else .lst xs)
theorem Sq.up {k : Bool} {H H' : Hp} {a : Addr} {xs : List V} (h : Sq k H a xs) (s : Same H H') : Sq k H' a xs := s _ _ h
theorem Sq.sqA {k : Bool} {H : Hp} {a : Addr} {xs : List V} (h : Sq k H a xs) : SqA H a xs := by
  cases k
  · exact .inl h
  · exact .inr h
theorem SqA.sq {H : Hp} {a : Addr} {xs : List V} (h : SqA H a xs) : ∃ k, Sq k H a xs := h.elim (fun e => ⟨false, e⟩) fun e => ⟨true, e⟩
theorem Sq.inj {k : Bool} {H : Hp} {a : Addr} {xs ys : List V} (h : Sq k H a xs) (g : Sq k H a ys) : xs = ys := by
  have e := h.symm.trans g
  cases k
  · have e2 := Option.some.inj e
    exact HO.lst.inj e2
  · have e2 := Option.some.inj e
    exact HO.tup.inj e2
def SIt (k : Bool) (h : Heap) (it l : Addr) (i : Nat) : Prop := if k = true then h.IsTupleIter it l i else h.IsListIter it l i
def SIs (k : Bool) (h : Heap) (l : Addr) (xs : Array Value) : Prop := if k = true then h.IsTuple l xs else h.IsList l xs
theorem SIt.at {k : Bool} {h h' : Heap} {it l : Addr} {i : Nat} (s : SIt k h it l i) (hk : ∀ o, h.get? it = some o → h'.get? it = some o) : SIt k h' it l i := by
  cases k
  · exact Heap.IsListIter.at (show h.IsListIter it l i from s) hk
  · exact Heap.IsTupleIter.at (show h.IsTupleIter it l i from s) hk
theorem SIt.obj {k : Bool} {h : Heap} {it l : Addr} {i : Nat} (s : SIt k h it l i) : ∃ o, h.get? it = some o ∧ ∀ v, o.data ≠ .cell v := by
  cases k
  · obtain ⟨o, e, _, d⟩ := (show h.IsListIter it l i from s)
    exact ⟨o, e, fun v q => by rw [d] at q; cases q⟩
  · obtain ⟨o, e, _, d⟩ := (show h.IsTupleIter it l i from s)
    exact ⟨o, e, fun v q => by rw [d] at q; cases q⟩
theorem draws_sq {prog : Program} {w : World} {A : Around} (k : Bool) (hh : A.handled = none) (it l : Addr) (hne : l ≠ it) (items : Array Value) :
    Draws prog w A it [it, l] items.size (fun i v => items[i]? = some v) (fun i h => SIt k h it l i ∧ SIs k h l items) := by
  cases k
  · exact Draws.list hh it l hne items
  · exact Draws.tuple hh it l hne items
def itObj (k : Bool) (l : Addr) : Obj := { cls := .type (if k = true then "tuple_iterator" else "list_iterator"), data := .fields #[.ref l, .int 0 0] }
theorem begins_sq (k : Bool) (l : Addr) (items : Array Value) : Begins (.ref l) (itObj k l) fun h => SIs k h l items := by
  cases k
  · exact begins_list l items
  · exact begins_tuple l items
theorem it_new {k : Bool} {h : Heap} {it l : Addr} (e : h.get? it = some (itObj k l)) : SIt k h it l 0 := by
  cases k
  · exact (show h.IsListIter it l 0 from ⟨_, e, rfl, rfl⟩)
  · exact (show h.IsTupleIter it l 0 from ⟨_, e, rfl, rfl⟩)
theorem sq_inv {X : Cx} {pins : List (Addr × Obj)} {σ : L2.St} {H : Hp} {s : Shared} (I : L2.Inv X pins σ H s) {k : Bool} {a : Addr} {xs : List V} (h : Sq k H a xs) : ∃ its : List Value, Vals xs its ∧ SIs k s.heap a its.toArray ∧ a < s.heap.objs.size := by
  cases k
  · obtain ⟨its, rv, p, _⟩ := I.list (SqL.of h)
    exact ⟨its, rv, p.isList, p.lt⟩
  · obtain ⟨its, rv, p, _⟩ := I.tuple (SqT.of h)
    obtain ⟨o, ho, _⟩ := id p
    exact ⟨its, rv, p, Heap.lt_size ho⟩
/-- both as they stand at each turn, the items in new pairs -/
def Itq (k1 k2 : Bool) (a b : Addr) : It :=
  ⟨fun i H => ∃ (xs ys : List V) (x y : V), Sq k1 H a xs ∧ Sq k2 H b ys ∧ xs[i]? = some x ∧ ys[i]? = some y,
    fun i H v H' => ∃ T x y, v = .ref T ∧ H T = none ∧ H' = upd H T (.tup [x, y]) ∧ (∀ xs, Sq k1 H a xs → xs[i]? = some x) ∧ ∀ ys, Sq k2 H b ys → ys[i]? = some y,
    fun i H => ∃ xs ys : List V, Sq k1 H a xs ∧ Sq k2 H b ys ∧ ((xs.length = i ∧ i ≤ ys.length) ∨ (ys.length = i ∧ i ≤ xs.length))⟩
theorem turn_zipQ {P : Program} {w : World} {K : PySem.W.Frag} {elts : List Expr} {kk : Nat} {tpos : Pos} {k1 k2 : Bool} {a b z TI TO i1 i2 : Addr} (S : ZipSep2 z TI TO i1 i2 [i1, a] [i2, b]) (na : a ≠ i1) (nb : b ≠ i2) :
    Turn P w K (.Tuple elts kk tpos) (Itq k1 k2 a b) [z, TI, TO, i1, i2] z (fun i h => IsZip h z TI TO .none ∧ IsTupOf2 h TI (.ref i1) (.ref i2) ∧ (∃ x y, IsTupOf2 h TO x y) ∧ SIt k1 h i1 a i ∧ SIt k2 h i2 b i) where
  mem := by simp
  obj := fun i h st c hc => by
    obtain ⟨hz, hTI, ⟨x, y, hTO⟩, h1, h2⟩ := st
    have e' : c = z ∨ c = TI ∨ c = TO ∨ c = i1 ∨ c = i2 := by simpa using hc
    rcases e' with rfl | rfl | rfl | rfl | rfl
    · exact ⟨_, hz, fun v q => nomatch q⟩
    · exact ⟨_, hTI, fun v q => nomatch q⟩
    · exact ⟨_, hTO, fun v q => nomatch q⟩
    · exact h1.obj
    · exact h2.obj
  keep := fun i h h' st k => by
    obtain ⟨hz, hTI, ⟨x, y, hTO⟩, h1, h2⟩ := st
    exact ⟨k z (by simp) _ hz, k TI (by simp) _ hTI, ⟨x, y, k TO (by simp) _ hTO⟩, h1.at fun o q => k i1 (by simp) o q, h2.at fun o q => k i2 (by simp) o q⟩
  item := by
    intro X hP hw hK hc i pins s σ H E I hf st hg
    subst hP hw hK
    obtain ⟨hz, hTI, ⟨x0, y0, hTO⟩, h1, h2⟩ := st
    obtain ⟨xs, ys, x, y, hqx, hqy, hx, hy⟩ := hg
    obtain ⟨its, rv, p, _⟩ := sq_inv I hqx
    obtain ⟨its2, rv2, p2, _⟩ := sq_inv I hqy
    obtain ⟨u, hu, ru⟩ := rv.get hx
    obtain ⟨u2, hu2, ru2⟩ := rv2.get hy
    have hd : X.A.in1.handled = none := I.ok.hd hc
    have hu' : its.toArray[i]? = some u := by simpa using hu
    have hu2' : its2.toArray[i]? = some u2 := by simpa using hu2
    have l1 : i < its.toArray.size := by
      rw [Array.getElem?_eq_some_iff] at hu'
      exact hu'.1
    have l2 : i < its2.toArray.size := by
      rw [Array.getElem?_eq_some_iff] at hu2'
      exact hu2'.1
    refine wpAny_pyNext_zipD2_item S (draws_sq k1 hd i1 a na its.toArray) (draws_sq k2 hd i2 b nb its2.toArray) hz hTI hTO ⟨h1, p⟩ ⟨h2, p2⟩ l1 l2 fun x1 x2 h' tk e1 e2 z' TO' t1 t2 hT hsz hk => ?_
    have e1 : x1 = u := Option.some.inj (e1.symm.trans hu')
    have e2 : x2 = u2 := Option.some.inj (e2.symm.trans hu2')
    subst e1 e2
    have hzl : z < s.heap.objs.size := Heap.lt_size hz
    refine ⟨_, rfl, wpAny_letOwnedTupleGo_zip (s := { s with heap := h', toks := tk }) z' fun h'' z'' sb => ?_⟩
    have hT2 : h''.get? s.heap.objs.size = some { cls := .type "tuple", data := .seq #[x1, x2] } := (sb.2 _ (Nat.ne_of_gt hzl)).trans hT
    have new : ObjOk X.prog X.w (upd H s.heap.objs.size (.tup [x, y])) h'' s.heap.objs.size (.tup [x, y]) :=
      ⟨by show 2 ≤ sizeLine; decide, [x1, x2], .cons ru (.cons ru2 .nil), ⟨_, hT2, rfl, _, rfl⟩⟩
    have I1 : L2.Inv X pins σ (upd H s.heap.objs.size (.tup [x, y])) { s with heap := h'', toks := tk } :=
      I.turnedNew (t' := tk) (ch := [z, TI, TO, i1, i2]) (fun c o hb q => (sb.2 c (fun q' => hb (by simp [q']))).trans (hk c o (fun q' => hb (by simp [q'])) (fun q' => hb (by simp [q'])) (fun q' => hb (by simp [q'])) (fun q' => hb (by simp [q'])) q)) hf (Nat.le_refl _) new
    refine ⟨.ref s.heap.objs.size, _, I1, rfl, ⟨_, x, y, rfl, I.hok.fresh (Nat.le_refl _), rfl, fun l hl => by rw [hl.inj hqx]; exact hx, fun l hl => by rw [hl.inj hqy]; exact hy⟩, ⟨z'', ?_, ⟨x1, x2, ?_⟩, ?_, ?_⟩, fun c hcm => ?_⟩
    · exact (sb.2 _ S.TIz).trans (hk _ _ S.TIz S.TITO S.TIi1 S.TIi2 hTI)
    · exact (sb.2 _ S.TOz).trans TO'
    · exact t1.1.at fun o q => (sb.2 _ S.zi1.symm).trans q
    · exact t2.1.at fun o q => (sb.2 _ S.zi2.symm).trans q
    · have old : ∃ o, s.heap.get? c = some o := by
        have e' : c = z ∨ c = TI ∨ c = TO ∨ c = i1 ∨ c = i2 := by simpa using hcm
        rcases e' with rfl | rfl | rfl | rfl | rfl
        · exact ⟨_, hz⟩
        · exact ⟨_, hTI⟩
        · exact ⟨_, hTO⟩
        · obtain ⟨o, e, _⟩ := h1.obj
          exact ⟨o, e⟩
        · obtain ⟨o, e, _⟩ := h2.obj
          exact ⟨o, e⟩
      obtain ⟨o, ho⟩ := old
      rw [upd_ne (Nat.ne_of_lt (Heap.lt_size ho))]
      exact (hf c hcm).1
  done := by
    intro X hP hw hK hc i pins s σ H E I hf st hg
    subst hP hw hK
    obtain ⟨hz, hTI, ⟨x0, y0, hTO⟩, h1, h2⟩ := st
    obtain ⟨xs, ys, hqx, hqy, hend⟩ := hg
    obtain ⟨its, rv, p, _⟩ := sq_inv I hqx
    obtain ⟨its2, rv2, p2, _⟩ := sq_inv I hqy
    have l1 := rv.length
    have l2 := rv2.length
    have s1 : its.toArray.size = its.length := by simp
    have s2 : its2.toArray.size = its2.length := by simp
    have hd : X.A.in1.handled = none := I.ok.hd hc
    exact wpAny_pyNext_zipD2_end S (draws_sq k1 hd i1 a na its.toArray) (draws_sq k2 hd i2 b nb its2.toArray) hz hTI hTO ⟨h1, p⟩ ⟨h2, p2⟩ (by omega) (by omega) (by omega) fun h' tk hk => ⟨rfl, I.turnedL (t' := tk) (ch := [z, TI, TO, i1, i2]) (fun c o hb q =>
      hk c o (fun q' => hb (by simp [q'])) (fun q' => hb (by simp [q'])) (fun q' => hb (by simp [q'])) (fun q' => hb (by simp [q'])) q) hf⟩
  self := fun A i s Q E st h => wpAny_pyIter_zip st.1 h
def iZipQ (ta : TA) : TI := fun σ H R => ta σ H fun vs H1 => ∃ k1 k2 a b xs ys, vs = [.ref a, .ref b] ∧ Sq k1 H1 a xs ∧ Sq k2 H1 b ys ∧ R (Itq k1 k2 a b) H1
theorem pi_zipQ {X : Cx} {e e2 : Expr} {ta : TA} {p pos tpos : Pos} {elts : List Expr} {kk : Nat} (hg : Gl X "zip") (hm : X.mg "zip" = none) (ha : PA X [e, e2] ta)
    (hs : starEach [e, e2] X.env = (false, eval e X.env) :: starEach [e2] X.env := by rfl) (hpl : (backTo pos (starEach [e2] X.env)).any (·.1) = false := by rfl) :
    PI X (.Tuple elts kk tpos) (.Call (.Name "zip" p) [e, e2] [] pos) (iZipQ ta) := by
  refine ⟨fun pins s σ H R I h => ?_⟩
  refine Call_ (ld_blt I hg hm PyProof.Rows.boot_zip (PyProof.Rows.callWith_type1 (thn (ha.run pos pins s σ H _ I h) fun us s1 ⟨vs, H1, I1, r1, q1⟩ => ?_) hs hpl))
  obtain ⟨k1, k2, a, b, xs, ys, ex, hqx, hqy, q⟩ := q1
  subst ex
  cases r1 with
  | cons r rr =>
    cases rr with
    | cons r' rr =>
      cases rr
      cases r
      cases r'
      obtain ⟨its, rv, p1, lt1⟩ := sq_inv I1 hqx
      obtain ⟨its2, rv2, p2, lt2⟩ := sq_inv I1 hqy
      refine zip_begins2 (begins_sq k1 a its.toArray) (begins_sq k2 b its2.toArray) p1 p2 fun h' hz hTI hTO h1 h2 hsz hk => wpAny_pyIter_zip hz ?_
      have I2 : L2.Inv X pins σ H1 { s1 with heap := h' } := I1.kept (t' := s1.toks) hk
      have fresh5 : ∀ c, c ∈ [s1.heap.objs.size + 4, s1.heap.objs.size + 2, s1.heap.objs.size + 3, s1.heap.objs.size, s1.heap.objs.size + 1] → FpOk X pins H1 c := fun c hcm => by
        have hle : s1.heap.objs.size ≤ c := by
          simp only [List.mem_cons, List.not_mem_nil, or_false] at hcm
          rcases hcm with rfl | rfl | rfl | rfl | rfl
          · exact Nat.le_add_right _ _
          · exact Nat.le_add_right _ _
          · exact Nat.le_add_right _ _
          · exact Nat.le_refl _
          · exact Nat.le_add_right _ _
        exact I1.fpOk hle (I1.hok.fresh hle)
      exact ⟨s1.heap.objs.size + 4, [s1.heap.objs.size + 4, s1.heap.objs.size + 2, s1.heap.objs.size + 3, s1.heap.objs.size, s1.heap.objs.size + 1], _, _, H1, rfl, I2,
        turn_zipQ (zip_sep2 (fp1 := [a]) (fp2 := [b]) (fun c hc => by rw [List.mem_singleton.mp hc]; exact lt1) (fun c hc => by rw [List.mem_singleton.mp hc]; exact lt2)) (Nat.ne_of_lt lt1) (Nat.ne_of_lt (Nat.lt_succ_of_lt lt2)),
        ⟨hz, hTI, ⟨_, _, hTO⟩, it_new h1, it_new h2⟩, fresh5, q⟩
theorem walk_zipQ {k1 k2 : Bool} {a b : Addr} {xs ys : List V} (hl : xs.length = ys.length) : Walk (Itq k1 k2 a b) xs.length (fun H => Sq k1 H a xs ∧ Sq k2 H b ys) (YPair (fun i => xs[i]?) (fun i => ys[i]?)) := by
  refine ⟨fun i _ hi q => ?_, fun _ q => ⟨xs, ys, q.1, q.2, by omega⟩, fun i H v H' _ q y => ?_⟩
  · have h2 : i < ys.length := by omega
    exact ⟨xs, ys, xs[i], ys[i], q.1, q.2, by simp [hi], by simp [h2]⟩
  · obtain ⟨T, x, z, h1, h2, h3, h4, h5⟩ := y
    exact ⟨T, x, z, h1, h2, h3, h4 xs q.1, h5 ys q.2⟩
end RV

/-! texts told: promises -/
namespace RV
open PySem PySem.Spec PyProof.Rows L2 TL
/-- a text: a list or a tuple of right tokens, a paragraph first -/
def GoodT (H : Hp) (v : V) (ts : List Tk) : Prop := ∃ a xs, v = .ref a ∧ SqA H a xs ∧ TxL H xs ts ∧ (∀ t ∈ ts, tokS t = true) ∧ headPar ts = true ∧ ts.length ≤ 3000
theorem GoodT.up {H H' : Hp} {v : V} {ts : List Tk} (h : GoodT H v ts) (s : Same H H') : GoodT H' v ts := by
  obtain ⟨a, xs, e, sq, tx, tk, hp, l⟩ := h
  exact ⟨a, xs, e, sq.up s, tx.up s, tk, hp, l⟩
theorem GoodT.tv {H : Hp} {v : V} {ts : List Tk} (h : GoodT H v ts) : TextV H v true := by
  obtain ⟨a, xs, rfl, sq, tx, tk, hp, l⟩ := h
  have r := TextV.ok sq (by have := tx.length; omega) tx tk
  rw [hp] at r
  exact r
def marksV (ts : List Tk) : List V := ts.map fun t => V.str t.1
def wordsV (ts : List Tk) : List V := ts.map fun t => V.str t.2
def lensV (ts : List Tk) : List V := ts.map fun t => V.int (t.2.length : Int)
def spMarksOf (C : Addr) : Sp := fun vs H Q E => ∃ v : V, vs = [v] ∧ ((TextV H v false ∧ OutE C v E H) ∨
  ∃ ts, GoodT H v ts ∧ ∀ D H', Same H H' → H D = none → H' D = some (.lst (marksV ts)) → Q (.ref D) H')
def spLengthsOf (C : Addr) : Sp := fun vs H Q E => ∃ v : V, vs = [v] ∧ ((TextV H v false ∧ OutE C v E H) ∨
  ∃ ts, GoodT H v ts ∧ ∀ D H', Same H H' → H D = none → H' D = some (.lst (lensV ts)) → Q (.ref D) H')
/-- the indexes of unlike marks -/
def unlI (ts us : List Tk) : List Nat := (List.range ts.length).filter fun i => !decide (ts[i]?.map (·.1) = us[i]?.map (·.1))
def unlV (ts us : List Tk) : List V := (unlI ts us).map fun i : Nat => V.int (i : Int)
def spUnlike (C : Addr) : Sp := fun vs H Q E => ∃ v w : V, vs = [v, w] ∧ ((TextV H v false ∧ OutE C v E H) ∨
  ∃ ts, GoodT H v ts ∧ ((TextV H w false ∧ OutE C w E H) ∨
  ∃ us, GoodT H w us ∧ ((lensV ts ≠ lensV us ∧ OutE C w E H) ∨ (lensV ts = lensV us ∧ ∀ D H', Same H H' → H D = none → H' D = some (.lst (unlV ts us)) → Q (.ref D) H'))))
/-- what _is_word_row says -/
inductive WrowV (H : Hp) : V → Bool → Prop
  | odd {v : V} {t : String} (h : Ty7 H v t) (n : (t == "list" || t == "tuple") = false) : WrowV H v false
  | seq {a : Addr} {xs : List V} (s : SqA H a xs) (z : xs.length ≤ 100000) (h : ∀ x ∈ xs, ∃ t, Ty7 H x t) : WrowV H (.ref a) ((xs.map wordV).all id)
theorem WrowV.up {H H' : Hp} {v : V} {b : Bool} (h : WrowV H v b) (s : Same H H') : WrowV H' v b := by
  cases h with
  | odd h n => exact .odd (h.up s) n
  | seq q z h =>
    refine .seq (q.up s) z fun x hx => ?_
    obtain ⟨t, k⟩ := h x hx
    exact ⟨t, k.up s⟩
theorem RowV.up {H H' : Hp} {v : V} {b : Bool} (h : RowV H v b) (s : Same H H') : RowV H' v b := by
  cases h with
  | odd h n => exact .odd (h.up s) n
  | bad q z h f => exact .bad (q.up s) z (fun x hx => by
      obtain ⟨t, k⟩ := h x hx
      exact ⟨t, k.up s⟩) f
  | ok q z l =>
    rename_i a ms
    have r := RowV.ok (q.up s) z l
    cases ms with
    | nil => exact r
    | cons m u => exact r
def spWordRow2 : Sp := fun vs H Q _ => ∃ (v : V) (b : Bool), vs = [v] ∧ WrowV H v b ∧ ∀ H', Same H H' → Q (.bl b) H'
def headM : List Str → Bool
  | [] => true
  | m :: _ => decide (m.cps.toList.head? = some 35)
/-- marks: a list or a tuple of right ones, a paragraph first -/
def GoodM (H : Hp) (k : Bool) (v : V) (ms : List Str) : Prop := ∃ a, v = .ref a ∧ Sq k H a (ms.map V.str) ∧ (∀ m ∈ ms, markS m = true) ∧ headM ms = true ∧ ms.length ≤ 3000
theorem GoodM.up {k : Bool} {H H' : Hp} {v : V} {ms : List Str} (h : GoodM H k v ms) (s : Same H H') : GoodM H' k v ms := by
  obtain ⟨a, e, sq, r⟩ := h
  exact ⟨a, e, sq.up s, r⟩
theorem GoodM.rv {k : Bool} {H : Hp} {v : V} {ms : List Str} (h : GoodM H k v ms) : RowV H v true := by
  obtain ⟨a, rfl, sq, tk, hp, l⟩ := h
  have r := RowV.ok sq.sqA (by omega) tk
  cases ms with
  | nil => exact r
  | cons m u =>
    have e : decide (m.cps.toList.head? = some 35) = true := hp
    have r2 : RowV H (.ref a) (decide (m.cps.toList.head? = some 35)) := r
    rw [e] at r2
    exact r2
def spTextOf (C1 C2 : Addr) : Sp := fun vs H Q E => ∃ m w : V, vs = [m, w] ∧ ((RowV H m false ∧ OutE C1 m E H) ∨
  ∃ k ms, GoodM H k m ms ∧ ((WrowV H w false ∧ OutE C2 w E H) ∨
  (∃ b ys, w = .ref b ∧ SqA H b ys ∧ WrowV H w true ∧ ys.length ≤ 100000 ∧ ys.length ≠ ms.length ∧ OutE C2 w E H) ∨
  ∃ k2 b ws, w = .ref b ∧ Sq k2 H b (ws.map V.str) ∧ (∀ z ∈ ws, wordS z = true) ∧ ws.length = ms.length ∧ ∀ D H' xs, Same H H' → H D = none → H' D = some (.lst xs) → TxL H' xs (ms.zip ws) → Q (.ref D) H'))
end RV

/-! texts told: data that is compared -/
namespace RV
open PySem PySem.Spec PyProof.Rows L2 TL
theorem lay_ints : ∀ l : List Int, PyData.canLayAll0 (l.map PyData.int) = true
  | [] => by simp [PyData.canLayAll0]
  | z :: r => by
    simp only [List.map_cons, PyData.canLayAll0, PyData.canLay0, Bool.true_and]
    exact lay_ints r
theorem dep_ints : ∀ l : List Int, PyData.depthAll (l.map PyData.int) = 0
  | [] => by simp [PyData.depthAll]
  | z :: r => by
    have := dep_ints r
    simp only [List.map_cons, PyData.depthAll, PyData.depth]
    omega
theorem shaped_ints (l : List Int) : SeqAt.shaped (.list (l.map PyData.int)) = true := by
  show (PyData.canLay0 (.list (l.map PyData.int)) && decide (PyData.depth (.list (l.map PyData.int)) ≤ 64)) = true
  rw [Bool.and_eq_true]
  refine ⟨by simp only [PyData.canLay0]; exact lay_ints l, decide_eq_true ?_⟩
  simp only [PyData.depth]
  rw [dep_ints]
  omega
theorem dp_ints {K : PySem.W.Frag} {H : Hp} : ∀ l : List Int, DpAll K H (l.map V.int) (l.map PyData.int)
  | [] => .nil
  | z :: r => .cons (.int z) (dp_ints r)
theorem eqvAll_ints : ∀ l m : List Int, PyData.eqvAll (l.map .int) (m.map .int) = decide (l = m)
  | [], [] => by simp [PyData.eqvAll]
  | [], _ :: _ => by simp [PyData.eqvAll]
  | _ :: _, [] => by simp [PyData.eqvAll]
  | x :: l, y :: m => by
    simp only [List.map_cons, PyData.eqvAll]
    rw [eqvAll_ints l m]
    show ((x == y) && decide (l = m)) = decide (x :: l = y :: m)
    rw [Bool.eq_iff_iff, Bool.and_eq_true, decide_eq_true_eq, decide_eq_true_eq, beq_iff_eq, List.cons.injEq]
theorem eqv_ints (l m : List Int) : PyData.eqv (.list (l.map .int)) (.list (m.map .int)) = decide (l = m) := eqvAll_ints l m
/-- the lengths as numbers -/
def lensI (ts : List Tk) : List Int := ts.map fun t => (t.2.length : Int)
theorem lensV_eq (ts : List Tk) : lensV ts = (lensI ts).map V.int := by
  unfold lensV lensI
  rw [List.map_map]
  rfl
theorem lensV_inj {ts us : List Tk} : lensV ts = lensV us ↔ lensI ts = lensI us := by
  rw [lensV_eq, lensV_eq]
  constructor
  · intro h
    have : ∀ l m : List Int, l.map V.int = m.map V.int → l = m := by
      intro l
      induction l with
      | nil =>
        intro m h
        cases m with
        | nil => rfl
        | cons => cases h
      | cons x l ih =>
        intro m h
        cases m with
        | nil => cases h
        | cons y m =>
          simp only [List.map_cons, List.cons.injEq, V.int.injEq] at h
          rw [h.1, ih m h.2]
    exact this _ _ h
  · intro h
    rw [h]
theorem unlI_step (ts us : List Tk) (i : Nat) : (List.range (i + 1)).filter (fun i => !decide (ts[i]?.map (·.1) = us[i]?.map (·.1))) = (List.range i).filter (fun i => !decide (ts[i]?.map (·.1) = us[i]?.map (·.1))) ++ if ts[i]?.map (·.1) = us[i]?.map (·.1) then [] else [i] := by
  rw [List.range_succ, List.filter_append]
  congr 1
  by_cases h : ts[i]?.map (·.1) = us[i]?.map (·.1)
  · rw [if_pos h]
    simp [h]
  · rw [if_neg h]
    simp [h]
/-- texts as data -/
theorem dp_tx {K : PySem.W.Frag} {H : Hp} : ∀ {xs : List V} {ts : List Tk}, TxL H xs ts → DpAll K H xs (ts.map dTk)
  | _, _, .nil => .nil
  | _, _, .cons h r => by
    obtain ⟨a, rfl, e⟩ := h
    exact .cons (.tup (SqT.of e) (.cons (.str _) (.cons (.str _) .nil))) (dp_tx r)
theorem lay_tx : ∀ {ts : List Tk}, (∀ t ∈ ts, tokS t = true) → PyData.canLayAll0 (ts.map dTk) = true
  | [], _ => by simp [PyData.canLayAll0]
  | t :: r, h => by
    have ht := tokS_A (h t (by simp))
    simp only [List.map_cons, PyData.canLayAll0, dTk, PyData.canLay0, Bool.and_eq_true]
    exact ⟨⟨strOk_asc ht.1, strOk_asc ht.2.1, trivial⟩, lay_tx fun u hu => h u (by simp [hu])⟩
theorem shaped_tx {ts : List Tk} (h : ∀ t ∈ ts, tokS t = true) : SeqAt.shaped (dTx ts) = true := by
  have h1 := depthAll_tk ts
  show (PyData.canLay0 (.list (ts.map dTk)) && decide (PyData.depth (.list (ts.map dTk)) ≤ 64)) = true
  rw [Bool.and_eq_true]
  refine ⟨by simp only [PyData.canLay0]; exact lay_tx h, decide_eq_true ?_⟩
  simp only [PyData.depth]
  omega
theorem len_lenV {K : PySem.W.Frag} {H : Hp} {a : Addr} {k : Bool} {xs : List V} (h : Sq k H a xs) : LenV K (.ref a) H xs.length := h.sqA.len
end RV
namespace RV
open PySem PySem.Spec PyProof.Rows L2 TL
/-- unlike, by what stands there: alike item by item, or of unlike lengths -/
def rNeZ (K : PySem.W.Frag) : R2 := fun x y H Q => rNeS K x y H Q ∨ rNeLen K x y H Q
theorem op_neZ {X : Cx} (hu : X.A.units + 64 < cLine) : OpR X (compareOp .NotEq) (rNeZ X.K) := by
  intro pins s σ H x y v u Q I rx ry h
  rcases h with h | h
  · exact op_neS hu pins s σ H x y v u Q I rx ry h
  · exact op_ne_len (by omega) pins s σ H x y v u Q I rx ry h
/-- a list against an empty one -/
theorem neZ_nil {K : PySem.W.Frag} {H : Hp} {a b : Addr} {xs : List V} {Q : VK} (ha : SqL K H a xs) (hb : SqL K H b []) (q : Q (.bl (decide (xs ≠ []))) H) : rNeZ K (.ref a) (.ref b) H Q := by
  by_cases c : xs = []
  · subst c
    rw [decide_eq_false (fun z => z rfl)] at q
    exact .inl ⟨1, by decide, a, b, _, _, rfl, rfl, ha, hb, .nil, q⟩
  · rw [decide_eq_true c] at q
    exact .inr ⟨a, b, _, _, rfl, rfl, ha, hb, fun e => c (List.length_eq_zero_iff.mp e), q⟩
def spIsMarkG : Sp := fun vs H Q _ => ∃ (v : V) (t : String), vs = [v] ∧ Ty7 H v t ∧ ∀ H', Same H H' → Q (.bl (markV v)) H'
def spIsWordG : Sp := fun vs H Q _ => ∃ (v : V) (t : String), vs = [v] ∧ Ty7 H v t ∧ ∀ H', Same H H' → Q (.bl (wordV v)) H'
def spAreMarks : Sp := fun vs H Q _ => ∃ (v : V) (b : Bool), vs = [v] ∧ RowV H v b ∧ ∀ H', Same H H' → Q (.bl b) H'
def spGood : Sp := fun vs H Q _ => ∃ (v : V) (b : Bool), vs = [v] ∧ TextV H v b ∧ ∀ H', Same H H' → Q (.bl b) H'
/-- the first of a pair that stands at v -/
def fstAt (H : Hp) : V → V
  | .ref a => match H a with
    | some (.tup (m :: _)) => m
    | _ => .non
  | _ => .non
theorem fstAt_is {H : Hp} {a : Addr} {m : V} {r : List V} (e : H a = some (.tup (m :: r))) : fstAt H (.ref a) = m := by
  unfold fstAt
  simp only
  rw [e]
end RV

/-! what data is, told of its values: texts, marks, words -/
namespace RV
open PySem PySem.Spec PyProof.Rows L2 TL
/-- a heap without some of its objects -/
def hid (ps : List Addr) (H : Hp) : Hp := fun a => if a ∈ ps then none else H a
theorem hid_same (ps : List Addr) (H : Hp) : Same (hid ps H) H := fun b o e => by
  unfold hid at e
  split at e
  · cases e
  · exact e
theorem hid_of {ps : List Addr} {H : Hp} {b : Addr} {o : HO} (h : b ∉ ps) (e : H b = some o) : hid ps H b = some o := by
  unfold hid
  rw [if_neg h]
  exact e
theorem hid_up {ps : List Addr} {H H' : Hp} (s : ∀ b o, b ∉ ps → H b = some o → H' b = some o) : Same (hid ps H) (hid ps H') := fun b o e => by
  unfold hid at e ⊢
  split at e
  · cases e
  · rename_i h
    rw [if_neg h]
    exact s b o h e
theorem Sam.hid {p : Addr} {H H' : Hp} (s : Sam p H H') : Same (hid [p] H) (hid [p] H') := hid_up fun b o h e => s b o (fun z => h (List.mem_singleton.mpr z)) e
theorem hid_less {ps qs : List Addr} {H : Hp} (h : ∀ a ∈ ps, a ∈ qs) : Same (RV.hid qs H) (RV.hid ps H) := fun b o e => by
  unfold RV.hid at e ⊢
  split at e
  · cases e
  · rename_i n
    rw [if_neg fun z => n (h b z)]
    exact e
mutual
theorem Dx.inj {H : Hp} : ∀ (d : PyData) (v : V) (e : PyData), Dx H v d → Dx H v e → d = e
  | .none, _, _, h, g => by cases h; cases g; rfl
  | .bool _, _, _, h, g => by cases h; cases g; rfl
  | .int _, _, _, h, g => by cases h; cases g; rfl
  | .str _, _, _, h, g => by cases h; cases g; rfl
  | .list ds, _, _, h, g => by
    cases h with
    | lst e r =>
      cases g with
      | lst e2 r2 =>
        rw [e] at e2
        cases e2
        rw [DxAll.inj ds _ _ r r2]
      | tup e2 r2 => rw [e] at e2; cases e2
      | dct0 e2 => rw [e] at e2; cases e2
  | .tuple ds, _, _, h, g => by
    cases h with
    | tup e r =>
      cases g with
      | tup e2 r2 =>
        rw [e] at e2
        cases e2
        rw [DxAll.inj ds _ _ r r2]
      | lst e2 r2 => rw [e] at e2; cases e2
      | dct0 e2 => rw [e] at e2; cases e2
  | .dict kvs, _, _, h, g => by
    cases h with
    | dct0 e =>
      cases g with
      | dct0 e2 => rfl
      | lst e2 r2 => rw [e] at e2; cases e2
      | tup e2 r2 => rw [e] at e2; cases e2
theorem DxAll.inj {H : Hp} : ∀ (ds : List PyData) (vs : List V) (es : List PyData), DxAll H vs ds → DxAll H vs es → ds = es
  | [], _, _, h, g => by cases h; cases g; rfl
  | d :: ds, _, _, h, g => by
    cases h with
    | cons h1 h2 =>
      cases g with
      | cons g1 g2 => rw [Dx.inj d _ _ h1 g1, DxAll.inj ds _ _ h2 g2]
end
mutual
/-- what is smaller than the data at b doesn't reach b -/
theorem Dx.avoid {H : Hp} {b : Addr} {D : PyData} (hb : Dx H (.ref b) D) : ∀ (d : PyData) (v : V), Dx H v d → sizeOf d < sizeOf D → Dx (hid [b] H) v d
  | .none, _, h, _ => by cases h; exact .non
  | .bool x, _, h, _ => by cases h; exact .bl x
  | .int i, _, h, _ => by cases h; exact .int i
  | .str x, _, h, _ => by cases h; exact .str x
  | .list ds, v, h, lt => by
    have h0 := h
    cases h with
    | lst e r =>
      refine .lst (hid_of (fun z => ?_) e) (DxAll.avoid hb ds _ r (by simp only [PyData.list.sizeOf_spec] at lt; omega))
      rw [List.mem_singleton.mp z] at h0
      rw [Dx.inj _ _ _ h0 hb] at lt
      omega
  | .tuple ds, v, h, lt => by
    have h0 := h
    cases h with
    | tup e r =>
      refine .tup (hid_of (fun z => ?_) e) (DxAll.avoid hb ds _ r (by simp only [PyData.tuple.sizeOf_spec] at lt; omega))
      rw [List.mem_singleton.mp z] at h0
      rw [Dx.inj _ _ _ h0 hb] at lt
      omega
  | .dict kvs, v, h, lt => by
    have h0 := h
    cases h with
    | dct0 e =>
      refine .dct0 (hid_of (fun z => ?_) e)
      rw [List.mem_singleton.mp z] at h0
      rw [Dx.inj _ _ _ h0 hb] at lt
      omega
theorem DxAll.avoid {H : Hp} {b : Addr} {D : PyData} (hb : Dx H (.ref b) D) : ∀ (ds : List PyData) (vs : List V), DxAll H vs ds → sizeOf ds < sizeOf D → DxAll (hid [b] H) vs ds
  | [], _, h, _ => by cases h; exact .nil
  | d :: ds, _, h, lt => by
    cases h with
    | cons h1 h2 =>
      simp only [List.cons.sizeOf_spec] at lt
      exact .cons (Dx.avoid hb d _ h1 (by omega)) (DxAll.avoid hb ds _ h2 (by omega))
end
theorem DxAll.length {H : Hp} : ∀ {vs : List V} {ds : List PyData}, DxAll H vs ds → vs.length = ds.length
  | _, _, .nil => rfl
  | _, _, .cons _ r => congrArg (· + 1) (DxAll.length r)
theorem DxAll.get {H : Hp} : ∀ {vs : List V} {ds : List PyData}, DxAll H vs ds → ∀ {i : Nat} {v : V}, vs[i]? = some v → ∃ d, ds[i]? = some d ∧ Dx H v d
  | _, _, .nil, i, v, h => by simp at h
  | _, _, .cons h1 h2, 0, v, h => by
    simp at h
    subst h
    exact ⟨_, rfl, h1⟩
  | _, _, .cons h1 h2, i + 1, v, h => DxAll.get h2 (by simpa using h)
theorem DxAll.app {H : Hp} : ∀ {vs ws : List V} {ds es : List PyData}, DxAll H vs ds → DxAll H ws es → DxAll H (vs ++ ws) (ds ++ es)
  | _, _, _, _, .nil, g => g
  | _, _, _, _, .cons h1 h2, g => .cons h1 (DxAll.app h2 g)
theorem DxAll.take {H : Hp} : ∀ {vs : List V} {ds : List PyData}, DxAll H vs ds → ∀ n, DxAll H (vs.take n) (ds.take n)
  | _, _, .nil, n => by simpa using DxAll.nil
  | _, _, .cons h1 h2, 0 => .nil
  | _, _, .cons h1 h2, n + 1 => .cons h1 (DxAll.take h2 n)
theorem DxAll.drop {H : Hp} : ∀ {vs : List V} {ds : List PyData}, DxAll H vs ds → ∀ n, DxAll H (vs.drop n) (ds.drop n)
  | _, _, .nil, n => by simpa using DxAll.nil
  | _, _, .cons h1 h2, 0 => .cons h1 h2
  | _, _, .cons h1 h2, n + 1 => DxAll.drop h2 n
theorem DxAll.set {H : Hp} : ∀ {vs : List V} {ds : List PyData}, DxAll H vs ds → ∀ (n : Nat) {v : V} {d : PyData}, Dx H v d → DxAll H (vs.set n v) (ds.set n d)
  | _, _, .nil, n, v, d, h => by simpa using DxAll.nil
  | _, _, .cons h1 h2, 0, v, d, h => .cons h h2
  | _, _, .cons h1 h2, n + 1, v, d, h => .cons h1 (DxAll.set h2 n h)
theorem dxs {H : Hp} : ∀ l : List Str, DxAll H (l.map V.str) (l.map PyData.str)
  | [] => .nil
  | z :: r => .cons (.str z) (dxs r)
/-- data of some depth and some length -/
structure DD (H : Hp) (v : V) (d : PyData) (k c : Nat) : Prop where
  dx : Dx H v d
  dp : d.depth ≤ k
  pl : plainD d
  co : cost d ≤ c
theorem DD.up {H H' : Hp} {v : V} {d : PyData} {k c : Nat} (h : DD H v d k c) (s : Same H H') : DD H' v d k c := ⟨Dx.up s d v h.dx, h.dp, h.pl, h.co⟩
theorem DD.mono {H : Hp} {v : V} {d : PyData} {k c k2 c2 : Nat} (h : DD H v d k c) (hk : k ≤ k2) (hc : c ≤ c2) : DD H v d k2 c2 := ⟨h.dx, Nat.le_trans h.dp hk, h.pl, Nat.le_trans h.co hc⟩
theorem DD.sh {H : Hp} {v : V} {d : PyData} {k c : Nat} (h : DD H v d k c) (hk : k ≤ 50) (hc : c ≤ 900000) : ShD H v d := by
  have sz : (1000000 : Nat) ≤ sizeLine := by decide
  exact ⟨h.dx, by have := h.dp; omega, h.pl, by have := h.co; omega⟩
def tyD : PyData → String
  | .none => "NoneType"
  | .bool _ => "bool"
  | .int _ => "int"
  | .str _ => "str"
  | .list _ => "list"
  | .tuple _ => "tuple"
  | .dict _ => "dict"
theorem Dx.ty {H : Hp} {v : V} {d : PyData} (h : Dx H v d) (c : cost d ≤ 900000) : Ty7 H v (tyD d) := by
  cases h with
  | non => exact .non
  | bl b => exact .bl b
  | int i => exact .int i
  | str z =>
    simp only [cost] at c
    exact .str z (by omega)
  | lst e r => exact .lst e
  | tup e r => exact .tup e
  | dct0 e => exact .dct e
def dMark : PyData → Bool
  | .str z => markS z
  | _ => false
def dWord : PyData → Bool
  | .str z => wordS z
  | _ => false
def dTok : PyData → Bool
  | .tuple [x, y] => dMark x && dWord y
  | _ => false
def dHeadT : List PyData → Bool
  | [] => true
  | .tuple (.str m :: _) :: _ => decide (m.cps.toList.head? = some 35)
  | _ => false
def dHeadM : List PyData → Bool
  | [] => true
  | .str m :: _ => decide (m.cps.toList.head? = some 35)
  | _ => false
def dText : PyData → Bool
  | .list ds => ds.all dTok && dHeadT ds
  | .tuple ds => ds.all dTok && dHeadT ds
  | _ => false
def dMarks : PyData → Bool
  | .list ds => ds.all dMark && dHeadM ds
  | .tuple ds => ds.all dMark && dHeadM ds
  | _ => false
def dWords : PyData → Bool
  | .list ds => ds.all dWord
  | .tuple ds => ds.all dWord
  | _ => false
theorem Dx.mark {H : Hp} {v : V} {d : PyData} (h : Dx H v d) : markV v = dMark d := by cases h <;> rfl
theorem Dx.word {H : Hp} {v : V} {d : PyData} (h : Dx H v d) : wordV v = dWord d := by cases h <;> rfl
theorem costAll_mem : ∀ {ds : List PyData} {d : PyData}, d ∈ ds → cost d ≤ costAll ds
  | d :: ds, e, h => by
    simp only [costAll]
    rcases List.mem_cons.mp h with rfl | h
    · omega
    · have := costAll_mem h
      omega
theorem costAll_len : ∀ ds : List PyData, 2 * ds.length ≤ costAll ds
  | [] => Nat.le_refl _
  | d :: ds => by
    have := costAll_len ds
    simp only [costAll, List.length_cons]
    omega
theorem Dx.tok {H : Hp} {v : V} {d : PyData} (h : Dx H v d) (c : cost d ≤ 900000) : Tok7 H v (dTok d) := by
  have ty := h.ty c
  cases h with
  | non => exact .odd ty rfl
  | bl b => exact .odd ty rfl
  | int i => exact .odd ty rfl
  | str z => exact .odd ty rfl
  | lst e r => exact .odd ty rfl
  | dct0 e => exact .odd ty rfl
  | tup e r =>
    rename_i a xs ds
    simp only [cost] at c
    cases r with
    | nil => exact .len e (by simp)
    | cons h1 r =>
      cases r with
      | nil => exact .len e (by simp)
      | cons h2 r =>
        cases r with
        | nil =>
          simp only [costAll] at c
          exact (Tok7.two e (h1.ty (by omega)) (h2.ty (by omega))).eq (by rw [h1.mark, h2.word]; rfl)
        | cons h3 r => exact .len e (by simp)
theorem dx_tokens {H : Hp} : ∀ {xs : List V} {ds : List PyData}, DxAll H xs ds → ds.all dTok = true → ∃ ts, TxL H xs ts ∧ (∀ t ∈ ts, tokS t = true) ∧ headPar ts = dHeadT ds ∧ ds = ts.map dTk
  | _, _, .nil, _ => ⟨[], .nil, (fun _ h => nomatch h), rfl, rfl⟩
  | _, _, .cons h r, f => by
    rw [List.all_cons, Bool.and_eq_true] at f
    obtain ⟨ts, tx, tk, _, e2⟩ := dx_tokens r f.2
    have f1 := f.1
    cases h with
    | tup e q =>
      cases q with
      | nil => cases f1
      | cons h1 q =>
        cases q with
        | nil => cases f1
        | cons h2 q =>
          cases q with
          | cons h3 q => cases f1
          | nil =>
            rw [show dTok (.tuple [_, _]) = (dMark _ && dWord _) from rfl, Bool.and_eq_true] at f1
            cases h1 with
            | str m =>
              cases h2 with
              | str w =>
                refine ⟨(m, w) :: ts, .cons ⟨_, rfl, e⟩ tx, fun t ht => ?_, rfl, by rw [e2]; rfl⟩
                rcases List.mem_cons.mp ht with rfl | ht
                · show (markS m && wordS w) = true
                  rw [Bool.and_eq_true]
                  exact f1
                · exact tk t ht
              | _ => cases f1.2
            | _ => cases f1.1
    | _ => cases f1
theorem text_seq {H : Hp} {a : Addr} {xs : List V} {ds : List PyData} (s : SqA H a xs) (r : DxAll H xs ds) (c : costAll ds ≤ 199000) : TextV H (.ref a) (ds.all dTok && dHeadT ds) := by
  have lx := r.length
  have ld := costAll_len ds
  cases q : ds.all dTok with
  | true =>
    obtain ⟨ts, tx, tk, hp, _⟩ := dx_tokens r q
    exact (TextV.ok s (by omega) tx tk).eq hp
  | false =>
    refine .bad (bs := ds.map dTok) s (by omega) (by simp [lx]) (fun i x b hx hb => ?_) (by simpa [List.all_map] using q)
    obtain ⟨d, hd, dx⟩ := r.get hx
    rw [List.getElem?_map, hd] at hb
    have e : dTok d = b := by simpa using hb
    have := costAll_mem (List.mem_of_getElem? hd)
    exact (dx.tok (by omega)).eq e
theorem Dx.text {H : Hp} {v : V} {d : PyData} (h : Dx H v d) (c : cost d ≤ 199000) : TextV H v (dText d) := by
  have ty := h.ty (by omega)
  cases h with
  | non => exact .odd ty rfl rfl
  | bl b => exact .odd ty rfl rfl
  | int i => exact .odd ty rfl rfl
  | str z => exact .odd ty rfl rfl
  | dct0 e => exact .odd ty rfl rfl
  | lst e r =>
    simp only [cost] at c
    exact text_seq (.inl e) r (by omega)
  | tup e r =>
    simp only [cost] at c
    exact text_seq (.inr e) r (by omega)
theorem dx_marks {H : Hp} : ∀ {xs : List V} {ds : List PyData}, DxAll H xs ds → ds.all dMark = true → ∃ ms : List Str, xs = ms.map V.str ∧ (∀ m ∈ ms, markS m = true) ∧ ds = ms.map PyData.str
  | _, _, .nil, _ => ⟨[], rfl, (fun _ h => nomatch h), rfl⟩
  | _, _, .cons h r, f => by
    rw [List.all_cons, Bool.and_eq_true] at f
    obtain ⟨ms, e1, tk, e2⟩ := dx_marks r f.2
    have f1 := f.1
    cases h with
    | str m =>
      refine ⟨m :: ms, by rw [e1]; rfl, fun t ht => ?_, by rw [e2]; rfl⟩
      rcases List.mem_cons.mp ht with rfl | ht
      · exact f1
      · exact tk t ht
    | _ => cases f1
theorem dx_markV {H : Hp} : ∀ {xs : List V} {ds : List PyData}, DxAll H xs ds → xs.map markV = ds.map dMark
  | _, _, .nil => rfl
  | _, _, .cons h r => by rw [List.map_cons, List.map_cons, dx_markV r, h.mark]
theorem dx_wordV {H : Hp} : ∀ {xs : List V} {ds : List PyData}, DxAll H xs ds → xs.map wordV = ds.map dWord
  | _, _, .nil => rfl
  | _, _, .cons h r => by rw [List.map_cons, List.map_cons, dx_wordV r, h.word]
theorem row_seq {H : Hp} {a : Addr} {xs : List V} {ds : List PyData} (s : SqA H a xs) (r : DxAll H xs ds) (c : costAll ds ≤ 199000) : RowV H (.ref a) (ds.all dMark && dHeadM ds) := by
  have lx := r.length
  have ld := costAll_len ds
  cases q : ds.all dMark with
  | true =>
    obtain ⟨ms, rfl, tk, rfl⟩ := dx_marks r q
    have h := RowV.ok s (by simp at lx ld; omega) tk
    cases ms with
    | nil => exact h
    | cons m u => exact h
  | false =>
    refine .bad s (by omega) (fun x hx => ?_) ?_
    · obtain ⟨i, hi⟩ := List.mem_iff_getElem?.mp hx
      obtain ⟨d, hd, dx⟩ := r.get hi
      have := costAll_mem (List.mem_of_getElem? hd)
      exact ⟨_, dx.ty (by omega)⟩
    · rw [← q, dx_markV r, List.all_map]
      rfl
theorem Dx.row {H : Hp} {v : V} {d : PyData} (h : Dx H v d) (c : cost d ≤ 199000) : RowV H v (dMarks d) := by
  have ty := h.ty (by omega)
  cases h with
  | non => exact .odd ty rfl
  | bl b => exact .odd ty rfl
  | int i => exact .odd ty rfl
  | str z => exact .odd ty rfl
  | dct0 e => exact .odd ty rfl
  | lst e r =>
    simp only [cost] at c
    exact row_seq (.inl e) r (by omega)
  | tup e r =>
    simp only [cost] at c
    exact row_seq (.inr e) r (by omega)
theorem wrow_seq {H : Hp} {a : Addr} {xs : List V} {ds : List PyData} (s : SqA H a xs) (r : DxAll H xs ds) (c : costAll ds ≤ 199000) : WrowV H (.ref a) (ds.all dWord) := by
  have lx := r.length
  have ld := costAll_len ds
  have h := WrowV.seq s (by omega) (fun x hx => by
    obtain ⟨i, hi⟩ := List.mem_iff_getElem?.mp hx
    obtain ⟨d, hd, dx⟩ := r.get hi
    have := costAll_mem (List.mem_of_getElem? hd)
    exact ⟨_, dx.ty (by omega)⟩)
  have e : (xs.map wordV).all id = ds.all dWord := by
    rw [dx_wordV r, List.all_map]
    rfl
  rw [e] at h
  exact h
theorem Dx.wrow {H : Hp} {v : V} {d : PyData} (h : Dx H v d) (c : cost d ≤ 199000) : WrowV H v (dWords d) := by
  have ty := h.ty (by omega)
  cases h with
  | non => exact .odd ty rfl
  | bl b => exact .odd ty rfl
  | int i => exact .odd ty rfl
  | str z => exact .odd ty rfl
  | dct0 e => exact .odd ty rfl
  | lst e r =>
    simp only [cost] at c
    exact wrow_seq (.inl e) r (by omega)
  | tup e r =>
    simp only [cost] at c
    exact wrow_seq (.inr e) r (by omega)
end RV

/-! a list against an empty one; x in ([], "") -/
namespace RV
open PySem PySem.Spec PyProof.Rows L2 TL
section
variable {X : Cx}
def rEqLen (K : PySem.W.Frag) : R2 := fun x y H Q => ∃ a b xs ys, x = .ref a ∧ y = .ref b ∧ SqL K H a xs ∧ SqL K H b ys ∧ xs.length ≠ ys.length ∧ Q (.bl false) H
theorem op_eq_len (hu : X.A.units < cLine) : OpR X (compareOp .Eq) (rEqLen X.K) := by
  intro pins s σ H x y v u Q I rx ry h
  obtain ⟨a, b, xs, ys, rfl, rfl, ha, hb, hp, q⟩ := h
  cases (show v = Value.ref a from rx)
  cases (show u = Value.ref b from ry)
  obtain ⟨us, r1, p1, _⟩ := I.list ha
  obtain ⟨ws, r2, p2, _⟩ := I.list hb
  have hsz : (us.toArray.size != ws.toArray.size) = true := by
    rw [List.size_toArray, List.size_toArray, ← r1.length, ← r2.length]
    exact bne_iff_ne.mpr hp
  exact SeqAt.RcAt.lists_lengths p1.isList p2.isList hsz hu X.prog X.w _ _ ⟨.bl false, H, I, rfl, q⟩
def rEqZ (K : PySem.W.Frag) : R2 := fun x y H Q => rEqS K x y H Q ∨ rEqLen K x y H Q
theorem op_eqZ (hu : X.A.units + 64 < cLine) : OpR X (compareOp .Eq) (rEqZ X.K) := by
  intro pins s σ H x y v u Q I rx ry h
  rcases h with h | h
  · exact op_eqS hu pins s σ H x y v u Q I rx ry h
  · exact op_eq_len (by omega) pins s σ H x y v u Q I rx ry h
theorem eqZ_nil {K : PySem.W.Frag} {H : Hp} {a b : Addr} {xs : List V} {Q : VK} (ha : SqL K H a xs) (hb : SqL K H b []) (q : Q (.bl (decide (xs = []))) H) : rEqZ K (.ref a) (.ref b) H Q := by
  by_cases c : xs = []
  · subst c
    rw [decide_eq_true rfl] at q
    exact .inl ⟨1, by decide, a, b, _, _, rfl, rfl, ha, hb, .nil, q⟩
  · rw [decide_eq_false c] at q
    exact .inr ⟨a, b, _, _, rfl, rfl, ha, hb, fun e => c (List.length_eq_zero_iff.mp e), q⟩
/-- x in ([], "") -/
def rInLE (K : PySem.W.Frag) : R2 := fun x y H Q => ∃ p e0, y = .ref p ∧ SqT K H p [.ref e0, .str (Str.ofString "")] ∧ SqL K H e0 [] ∧
  ((∃ a xs, x = .ref a ∧ SqL K H a xs ∧ Q (.bl (decide (xs = []))) H) ∨ (∃ z, x = .str z ∧ Q (.bl (decide (z = Str.ofString ""))) H) ∨ (x = .non ∧ Q (.bl false) H))
def twoB (b0 b1 : Bool) : Value → Bool
  | .ref _ => b0
  | _ => b1
theorem op_inLE (hu : X.A.units + 64 < cLine) : OpR X (compareOp .In) (rInLE X.K) := by
  intro pins s σ H x y v u Q I rx ry h
  obtain ⟨p, e0, rfl, hp, h0, h⟩ := h
  cases (show u = Value.ref p from ry)
  obtain ⟨its, r, pl, hz⟩ := I.tuple hp
  obtain ⟨z0, r0, p0, _⟩ := I.list h0
  cases r0
  cases r with
  | cons ra r =>
    cases r with
    | cons rb r =>
      cases r
      cases (show _ = Value.ref e0 from ra)
      obtain ⟨t, rfl⟩ := rb
      have fin : ∀ b0 b1 : Bool, SeqAt.EqAt X.A.in1 s (.ref e0) v b0 → SeqAt.EqAt X.A.in1 s (.str (Str.ofString "") t) v b1 → Q (.bl (b0 || b1)) H → wpAny (model X.prog X.w) X.A (compareOp .In v (.ref p)) (EP X pins σ Q) X.xe s := fun b0 b1 a0 a1 q => by
        refine SeqAt.in_tupleAt (twoB b0 b1) pl (fun w hw => ?_) ⟨.bl _, H, I, rfl, ?_⟩
        · simp at hw
          rcases hw with rfl | rfl
          · exact a0
          · exact a1
        · rw [show (#[Value.ref e0, .str (Str.ofString "") t].any (twoB b0 b1)) = (b0 || b1) by simp [twoB]]
          exact q
      have hu1 : X.A.in1.units < cLine := by show X.A.units + 1 < cLine; omega
      rcases h with ⟨a, xs, rfl, ha, q⟩ | ⟨z, rfl, q⟩ | ⟨rfl, q⟩
      · cases (show v = Value.ref a from rx)
        obtain ⟨us, r1, p1, _⟩ := I.list ha
        by_cases c : xs = []
        · subst c
          cases r1
          refine fin true false ?_ (SeqAt.EqAt.str_list _ _ p1.isList hu1) (by rw [decide_eq_true rfl] at q; exact q)
          by_cases e : e0 = a
          · subst e
            exact SeqAt.EqAt.same _
          · have k := SeqAt.RcAt.lists (A := X.A.in1) (e := fun _ => true) p0.isList p1.isList rfl hu1 (fun j h1 h2 => absurd h1 (by simp))
            exact SeqAt.EqAt.of_refs e k
        · have hne : ((#[] : Array Value).size != us.toArray.size) = true := by
            have l1 := r1.length
            refine bne_iff_ne.mpr fun e => c (List.length_eq_zero_iff.mp ?_)
            have e2 : 0 = us.toArray.size := e
            rw [List.size_toArray] at e2
            omega
          refine fin false false (SeqAt.EqAt.of_refs (fun e => ?_) (SeqAt.RcAt.lists_lengths p0.isList p1.isList hne hu1)) (SeqAt.EqAt.str_list _ _ p1.isList hu1) (by rw [decide_eq_false c] at q; exact q)
          subst e
          exact c (I.list_inj ha h0)
      · obtain ⟨t2, rfl⟩ := rx
        refine fin false (decide (z = Str.ofString "")) (SeqAt.EqAt.list_str _ _ p0.isList hu1) ?_ q
        have k := SeqAt.EqAt.str_str (A := X.A.in1) (s := s) (Str.ofString "") t z t2
        rw [show (Str.ofString "" == z) = decide (z = Str.ofString "") by
          rw [Bool.eq_iff_iff, beq_iff_eq, decide_eq_true_eq]
          exact eq_comm] at k
        exact k
      · cases rx
        exact fin false false (SeqAt.EqAt.list_none p0.isList hu1) (SeqAt.EqAt.str_none _ _) q
end
end RV
namespace RV
open PySem PySem.Spec PyProof.Rows L2 TL
/-- a def that may raise, where it doesn't -/
theorem calm {P : Program} {w : World} {K : PySem.W.Frag} {mg : Str → Option Value} {base : Heap} {k : Nat} {f : Addr} {fd : FuncData} {ps : List Str} {sp : Sp} (F : FnOk P w K mg base (L2.CX P w) k f fd ps sp) :
    FnOk P w K mg base CX0 k f fd ps (fun vs H Q _ => sp vs H Q E0) :=
  ⟨fun vs H Q _ q => F.len vs H Q _ q, fun A outer s H args us vs Q E hr he hb hv hs => codeAny_mono (F.run A outer s H args us vs Q E0 hr he hb hv hs) fun r s' c => by
    cases r with
    | ok fl => cases fl <;> exact c
    | error e =>
      obtain ⟨_, _, _, _, _, _, _, _, _, _, _, _, h⟩ := c
      exact h.elim⟩
end RV

/-! things in the place of a mark, a word or a token -/
namespace RV
open PySem PySem.Spec PyProof.Rows L2 TL
/-- nothing of the old heap -/
def NewV (H : Hp) (v : V) : Prop := ∀ b, v = .ref b → H b = none
theorem NewV.low {H H' : Hp} {v : V} (h : NewV H' v) (s : Same H H') : NewV H v := fun b e => sameNone s (h b e)
def spOddThing : Sp := fun vs H Q _ => ∃ (p : Addr) (n : Int) (x : V) (d : PyData) (ps : List Addr) (k c : Nat), vs = [.ref p, x] ∧ n ≤ 200000 ∧ BoxAt H p n ∧ p ∈ ps ∧ (∀ q ∈ ps, H q ≠ none) ∧ DD (hid ps H) x d k c ∧ 2 ≤ k ∧
  ∀ v e H', Sam p H H' → BoxAt H' p (n + 1) → DD (hid ps H') v e (k + 1) (c + 2000) → NewV H v → Q v H'
def spSpoilt : Sp := fun vs H Q _ => ∃ (p : Addr) (n : Int) (a : Addr) (xs : List V) (ts : List Tk), vs = [.ref p, .ref a] ∧ n ≤ 100000 ∧ BoxAt H p n ∧ SqA (hid [p] H) a xs ∧ TxL (hid [p] H) xs ts ∧ (∀ t ∈ ts, tokS t = true) ∧ ts.length ≤ 20 ∧
  ∀ v e H', Sam p H H' → BoxAt H' p (n + 10) → DD (hid [p] H') v e 10 150000 → NewV H v → Q v H'
abbrev sV (s : String) : V := .str (Str.ofString s)
abbrev oddL : List V := [.non, .bl true, .int 0, sV "", sV "  ", sV "#", sV "#4", sV "|", sV "/-1", sV "0#", sV " 0", sV "A", sV "a1", sV "a b", .str (repS (Str.ofString "a") 30), .str (repS (Str.ofString "a") 31), sV "z\n"]
theorem dd_lit {H : Hp} {s : String} {k c : Nat} (h : (Str.ofString s).cps.toList.all (· < 128) = true) (l : 10 * (Str.ofString s).length + 2 ≤ c) : DD H (sV s) (.str (Str.ofString s)) k c :=
  ⟨.str _, by simp [PyData.depth], asc_lit h, by simpa [cost] using l⟩
theorem dd_str {H : Hp} {z : Str} {k c : Nat} (h : Asc z) (l : 10 * z.length + 2 ≤ c) : DD H (.str z) (.str z) k c := ⟨.str _, by simp [PyData.depth], h, by simpa [cost] using l⟩
/-- the flat ones -/
theorem odd_flat {H : Hp} : ∀ v ∈ oddL, ∃ e, DD H v e 1 2000 ∧ ∀ b, v ≠ .ref b := fun v hv => by
  have ra : ∀ n, n ≤ 31 → ∃ e, DD H (.str (repS (Str.ofString "a") n)) e 1 2000 ∧ ∀ b, V.str (repS (Str.ofString "a") n) ≠ .ref b := fun n hn => by
    refine ⟨_, dd_str (asc_rep (asc_lit (by decide +kernel)) n) ?_, fun b z => nomatch z⟩
    rw [rep_len, show (Str.ofString "a").length = 1 from by decide +kernel]
    omega
  simp only [List.mem_cons, List.not_mem_nil, or_false] at hv
  rcases hv with rfl | rfl | rfl | rfl | rfl | rfl | rfl | rfl | rfl | rfl | rfl | rfl | rfl | rfl | rfl | rfl | rfl
  · exact ⟨_, ⟨.non, by simp [PyData.depth], trivial, by simp [cost]⟩, fun b z => nomatch z⟩
  · exact ⟨_, ⟨.bl true, by simp [PyData.depth], trivial, by simp [cost]⟩, fun b z => nomatch z⟩
  · exact ⟨_, ⟨.int 0, by simp [PyData.depth], by show Nat.log2 0 < 1920; decide, by simp [cost]⟩, fun b z => nomatch z⟩
  all_goals first
    | exact ra 30 (by decide)
    | exact ra 31 (by decide)
    | exact ⟨_, dd_lit (by decide +kernel) (by decide +kernel), fun b z => nomatch z⟩
theorem dd_tx {G : Hp} {a : Addr} {xs : List V} {ts : List Tk} (e : G a = some (.lst xs)) (tx : TxL G xs ts) (tk : ∀ t ∈ ts, tokS t = true) : DD G (.ref a) (dTx ts) 2 (340 * ts.length + 3) := by
  refine ⟨.lst e (dx_tx tx), ?_, ?_, ?_⟩
  · have := depthAll_tk ts
    simp only [dTx, PyData.depth]
    omega
  · simp only [dTx, plainD]
    exact plainAll_tk fun t ht => tokS_A (tk t ht)
  · have := costAll_tok tk
    simp only [dTx, cost]
    omega
theorem dd_txT {G : Hp} {a : Addr} {xs : List V} {ts : List Tk} (e : G a = some (.tup xs)) (tx : TxL G xs ts) (tk : ∀ t ∈ ts, tokS t = true) : DD G (.ref a) (.tuple (ts.map dTk)) 2 (340 * ts.length + 3) := by
  refine ⟨.tup e (dx_tx tx), ?_, ?_, ?_⟩
  · have := depthAll_tk ts
    simp only [PyData.depth]
    omega
  · simp only [plainD]
    exact plainAll_tk fun t ht => tokS_A (tk t ht)
  · have := costAll_tok tk
    simp only [cost]
    omega
theorem dd_pair {G : Hp} {a : Addr} {x y : V} {d e : PyData} {k c : Nat} (h : G a = some (.tup [x, y])) (hx : DD G x d k c) (hy : DD G y e k c) : DD G (.ref a) (.tuple [d, e]) (k + 1) (2 * c + 7) := by
  refine ⟨.tup h (.cons hx.dx (.cons hy.dx .nil)), ?_, ?_, ?_⟩
  · have := hx.dp
    have := hy.dp
    simp only [PyData.depth, PyData.depthAll]
    omega
  · simp only [plainD, plainAll, and_true]
    exact ⟨hx.pl, hy.pl⟩
  · have := hx.co
    have := hy.co
    simp only [cost, costAll]
    omega
theorem depthAll_le {k : Nat} : ∀ {ds : List PyData}, (∀ d ∈ ds, d.depth ≤ k) → PyData.depthAll ds ≤ k
  | [], _ => by simp [PyData.depthAll]
  | d :: ds, h => by
    have h1 := h d (by simp)
    have h2 := depthAll_le fun e he => h e (List.mem_cons_of_mem d he)
    simp only [PyData.depthAll]
    omega
theorem plainAll_all : ∀ {ds : List PyData}, (∀ d ∈ ds, plainD d) → plainAll ds
  | [], _ => trivial
  | d :: ds, h => by
    simp only [plainAll]
    exact ⟨h d (by simp), plainAll_all fun e he => h e (List.mem_cons_of_mem d he)⟩
theorem costAll_le {c : Nat} : ∀ {ds : List PyData}, (∀ d ∈ ds, cost d ≤ c) → costAll ds ≤ (c + 2) * ds.length
  | [], _ => by simp [costAll]
  | d :: ds, h => by
    have h1 := h d (by simp)
    have h2 := costAll_le fun e he => h e (List.mem_cons_of_mem d he)
    simp only [costAll, List.length_cons, Nat.mul_add]
    omega
/-- a list of data -/
theorem dd_list {G : Hp} {a : Addr} {xs : List V} {ds : List PyData} {k c : Nat} (h : G a = some (.lst xs)) (dx : DxAll G xs ds) (all : ∀ d ∈ ds, d.depth ≤ k ∧ plainD d ∧ cost d ≤ c) : DD G (.ref a) (.list ds) (k + 1) ((c + 2) * ds.length + 3) := by
  refine ⟨.lst h dx, ?_, ?_, ?_⟩
  · have := depthAll_le fun d hd => (all d hd).1
    simp only [PyData.depth]
    omega
  · simp only [plainD]
    exact plainAll_all fun d hd => (all d hd).2.1
  · have := costAll_le fun d hd => (all d hd).2.2
    simp only [cost]
    omega
theorem mem_set {α : Type} {l : List α} {i : Nat} {v x : α} (h : x ∈ l.set i v) : x ∈ l ∨ x = v := by
  rcases List.mem_or_eq_of_mem_set h with h | h
  · exact .inl h
  · exact .inr h
theorem tk_data {t : Tk} (h : tokS t = true) : (dTk t).depth ≤ 4 ∧ plainD (dTk t) ∧ cost (dTk t) ≤ 6000 := by
  have ha := tokS_A h
  refine ⟨?_, ?_, ?_⟩
  · simp [dTk, PyData.depth, PyData.depthAll]
  · simp only [dTk, plainD, plainAll, and_true]
    exact ⟨ha.1, ha.2.1⟩
  · have h1 := ha.2.2.1
    have h2 := ha.2.2.2
    simp only [dTk, cost, costAll]
    omega
theorem ixN_nat {n i : Nat} (h : i < n) : ixN n (i : Int) = some i := by
  unfold ixN
  rw [if_pos (by omega), if_pos (by omega)]
  simp
/-- what is told of a refusal -/
def RefO (H : Hp) (s : String) (v : V) (Q : VK) : Prop := ∀ R H', Same H H' → H R = none → H' R = some (.lst [.str (Str.ofString s), v]) → Q (.ref R) H'
inductive RefW (H : Hp) (Q : VK) : Int → V → V → Prop
  | marks {one other : V} (t : TextV H one false) (q : RefO H "text" one Q) : RefW H Q 0 one other
  | lens {one other : V} (t : TextV H one false) (q : RefO H "text" one Q) : RefW H Q 1 one other
  | unl1 {one other : V} (t : TextV H one false) (q : RefO H "text" one Q) : RefW H Q 2 one other
  | unl2 {one other : V} {ts : List Tk} (g : GoodT H one ts) (t : TextV H other false) (q : RefO H "text" other Q) : RefW H Q 2 one other
  | unl3 {one other : V} {ts us : List Tk} (g : GoodT H one ts) (g2 : GoodT H other us) (ne : lensV ts ≠ lensV us) (q : RefO H "text" other Q) : RefW H Q 2 one other
  | txt1 {one other : V} (r : RowV H one false) (q : RefO H "marks" one Q) : RefW H Q 3 one other
  | txt2 {one other : V} {k : Bool} {ms : List Str} (g : GoodM H k one ms) (w : WrowV H other false) (q : RefO H "words" other Q) : RefW H Q 3 one other
  | txt3 {one : V} {k : Bool} {ms : List Str} {b : Addr} {ys : List V} (g : GoodM H k one ms) (s : SqA H b ys) (w : WrowV H (.ref b) true) (z : ys.length ≤ 100000) (ne : ys.length ≠ ms.length) (q : RefO H "words" (.ref b) Q) : RefW H Q 3 one (.ref b)
def spRefused : Sp := fun vs H Q _ => ∃ (way : Int) (one other : V), vs = [.int way, one, other] ∧ RefW H Q way one other
def spTextsR : Sp := fun vs H Q _ => ∃ (v : V) (m w : Addr) (ts : List Tk), vs = [v, .ref m, .ref w] ∧ GoodT H v ts ∧ H m = some (.lst (marksV ts)) ∧ H w = some (.lst (wordsV ts)) ∧ ∀ H', Same H H' → Q (.bl true) H'
theorem eqv_same {d : PyData} (h : SeqAt.shaped d = true) : PyData.eqv d d = true := by
  rw [SeqAt.eqv_refl]
  exact SeqAt.canLay_of_shaped h
theorem marksV_eq (ts : List Tk) : marksV ts = (ts.map (·.1)).map V.str := by
  unfold marksV
  rw [List.map_map]
  rfl
theorem wordsV_eq (ts : List Tk) : wordsV ts = (ts.map (·.2)).map V.str := by
  unfold wordsV
  rw [List.map_map]
  rfl
theorem zip_parts : ∀ ts : List Tk, (ts.map (·.1)).zip (ts.map (·.2)) = ts
  | [] => rfl
  | t :: r => by
    simp only [List.map_cons, List.zip_cons_cons, zip_parts r]
theorem tok_parts {t : Tk} (h : tokS t = true) : markS t.1 = true ∧ wordS t.2 = true := by
  unfold tokS at h
  rw [Bool.and_eq_true] at h
  exact h
theorem goodM_of {H : Hp} {k : Bool} {a : Addr} {ts : List Tk} (e : Sq k H a (marksV ts)) (tk : ∀ t ∈ ts, tokS t = true) (hp : headPar ts = true) (l : ts.length ≤ 3000) : GoodM H k (.ref a) (ts.map (·.1)) := by
  refine ⟨a, rfl, by rw [← marksV_eq]; exact e, fun m hm => ?_, ?_, by simpa using l⟩
  · obtain ⟨t, ht, rfl⟩ := List.mem_map.mp hm
    exact (tok_parts (tk t ht)).1
  · cases ts with
    | nil => rfl
    | cons t r => exact hp
theorem shaped_marks {ts : List Tk} (tk : ∀ t ∈ ts, tokS t = true) : SeqAt.shaped (.list ((ts.map (·.1)).map PyData.str)) = true := shaped_strs _ fun z hz => by
  obtain ⟨t, ht, rfl⟩ := List.mem_map.mp hz
  exact strOk_asc (tokS_A (tk t ht)).1
/-- the right words of a text -/
theorem words_of {ts : List Tk} (tk : ∀ t ∈ ts, tokS t = true) : ∀ z ∈ ts.map (·.2), wordS z = true := fun z hz => by
  obtain ⟨t, ht, rfl⟩ := List.mem_map.mp hz
  exact (tok_parts (tk t ht)).2
end RV

/-! what is refused and shown of odd things -/
namespace RV
open PySem PySem.Spec PyProof.Rows L2 TL
theorem repF {H : Hp} {v : V} {d : PyData} (sy : SysAt H) (h : ShD H v d) : SysAt H ∧ Dx H v d ∧ d.depth ≤ 60 ∧ plainD d ∧ cost d ≤ sizeLine := ⟨sy, h.dx, Nat.le_trans h.dp (by decide), h.pl, Nat.le_trans h.co (by decide)⟩
theorem repT {H : Hp} {R : Addr} {k : Str} {v : V} {d : PyData} (sy : SysAt H) (e : H R = some (.lst [.str k, v])) (h : ShD H v d) (hk : Asc k) (lk : k.length ≤ 100) : SysAt H ∧ Dx H (.ref R) (.list [.str k, d]) ∧ (PyData.list [.str k, d]).depth ≤ 60 ∧ plainD (.list [.str k, d]) ∧ cost (.list [.str k, d]) ≤ sizeLine := ⟨sy, ShD.two e h hk lk⟩
theorem asc_marks : Asc (Str.ofString "marks") := asc_lit (by decide +kernel)
theorem len_marks : (Str.ofString "marks").length ≤ 100 := by decide +kernel
theorem asc_words : Asc (Str.ofString "words") := asc_lit (by decide +kernel)
theorem len_words : (Str.ofString "words").length ≤ 100 := by decide +kernel
/-- a text, its marks, its words -/
structure Fc (p T m w : Addr) (xs : List V) (ts : List Tk) (H : Hp) : Prop where
  eT : H T = some (.lst xs)
  tx : TxL H xs ts
  em : H m = some (.lst (marksV ts))
  ew : H w = some (.lst (wordsV ts))
  nT : T ≠ p
  nm : m ≠ p
  nw : w ≠ p
theorem Fc.sam {p T m w : Addr} {xs : List V} {ts : List Tk} {H H' : Hp} {n : Int} (f : Fc p T m w xs ts H) (b : BoxAt H p n) (s : Sam p H H') : Fc p T m w xs ts H' := by
  obtain ⟨_, _, _, e, _⟩ := b
  exact ⟨s _ _ f.nT f.eT, f.tx.sam s e, s _ _ f.nm f.em, s _ _ f.nw f.ew, f.nT, f.nm, f.nw⟩
theorem Fc.good {p T m w : Addr} {xs : List V} {ts : List Tk} {H : Hp} (f : Fc p T m w xs ts H) (tk : ∀ t ∈ ts, tokS t = true) (hp : headPar ts = true) (l : ts.length ≤ 3000) : GoodT H (.ref T) ts := ⟨T, xs, rfl, .inl f.eT, f.tx, tk, hp, l⟩
theorem TxL.hid {p : Addr} {H : Hp} {n : Int} (b : BoxAt H p n) : ∀ {xs : List V} {ts : List Tk}, TxL H xs ts → TxL (RV.hid [p] H) xs ts
  | _, _, .nil => .nil
  | _, _, .cons h r => by
    refine .cons ?_ (TxL.hid b r)
    obtain ⟨a, rfl, e⟩ := h
    refine ⟨a, rfl, hid_of (fun z => ?_) e⟩
    obtain ⟨_, _, _, e2, _⟩ := b
    rw [List.mem_singleton.mp z, e2] at e
    cases e
theorem DD.out {H : Hp} {ps : List Addr} {v : V} {d : PyData} {k c : Nat} (h : DD (RV.hid ps H) v d k c) : DD H v d k c := h.up (hid_same _ _)
/-- a list with a sign of its lateness -/
theorem late_dd {G : Hp} {b : Addr} {ys : List V} {ds : List PyData} {k c : Nat} (hb : G b = some (.lst ys)) (h : DD G (.ref b) (.list ds) k c) (hk : 1 ≤ k) :
    DD (upd G b (.lst (ys ++ [.str (Str.ofString "late")]))) (.ref b) (.list (ds ++ [.str (Str.ofString "late")])) k (c + 50) := by
  obtain ⟨dx, dp, pl, co⟩ := h
  have dx0 := dx
  cases dx with
  | lst e r =>
    rw [hb] at e
    cases e
    have r2 := DxAll.avoid dx0 ds ys r (by simp only [PyData.list.sizeOf_spec]; omega)
    have s : Same (RV.hid [b] G) (upd G b (.lst (ys ++ [.str (Str.ofString "late")]))) := fun a o z => by
      unfold RV.hid at z
      split at z
      · cases z
      · rename_i n
        rw [upd_ne fun e => n (List.mem_singleton.mpr e)]
        exact z
    refine ⟨.lst upd_same (DxAll.app (DxAll.up s _ _ r2) (.cons (.str _) .nil)), ?_, ?_, ?_⟩
    · simp only [PyData.depth] at dp ⊢
      rw [depth_app]
      simp only [PyData.depthAll, PyData.depth]
      omega
    · simp only [plainD] at pl ⊢
      exact plain_app pl (by simp only [plainAll, plainD, and_true]; exact asc_lit (by decide +kernel))
    · simp only [cost] at co ⊢
      rw [cost_app]
      have : costAll [.str (Str.ofString "late")] ≤ 50 := by decide +kernel
      omega
theorem Bx.late2 {H0 H : Hp} {p D : Addr} {n : Int} {xs : List V} {o : HO} (z : Bx H0 p n H) (h : H0 D = none) (np : D ≠ p) (e : H D = some (.lst xs)) : Bx H0 p n (upd H D o) :=
  ⟨z.ss.old h, z.bx.off np, by
    have ns := not_sys z.sy e (fun o c => by cases c)
    obtain ⟨u, k⟩ := z.sy
    exact ⟨u, by rw [upd_ne (Ne.symm ns)]; exact k⟩⟩
def spOdds : Sp := fun vs H Q _ => ∃ (p T m w : Addr) (xs : List V) (ts : List Tk) (n : Int), vs = [.ref p, .ref T, .ref m, .ref w] ∧ n ≤ 90000 ∧ BoxAt H p n ∧ SysAt H ∧ Fc p T m w xs ts H ∧ (∀ t ∈ ts, tokS t = true) ∧ headPar ts = true ∧ ts.length ≤ 14 ∧ ∀ H', Sam p H H' → Q (.bl true) H'
theorem dd_strs {G : Hp} {a : Addr} {l : List Str} {c : Nat} (e : G a = some (.lst (l.map V.str))) (h : ∀ z ∈ l, Asc z ∧ 10 * z.length + 2 ≤ c) : DD G (.ref a) (.list (l.map PyData.str)) 1 ((c + 2) * l.length + 3) := by
  have := dd_list (k := 0) (c := c) e (dxs l) fun d hd => by
    obtain ⟨z, hz, rfl⟩ := List.mem_map.mp hd
    exact ⟨by simp [PyData.depth], (h z hz).1, by simpa [cost] using (h z hz).2⟩
  rw [List.length_map] at this
  exact this
theorem marks_small {ts : List Tk} (tk : ∀ t ∈ ts, tokS t = true) : ∀ z ∈ ts.map (·.1), Asc z ∧ 10 * z.length + 2 ≤ 302 := fun z hz => by
  obtain ⟨t, ht, rfl⟩ := List.mem_map.mp hz
  have := markS_len (tok_parts (tk t ht)).1
  exact ⟨(tokS_A (tk t ht)).1, by omega⟩
theorem words_small {ts : List Tk} (tk : ∀ t ∈ ts, tokS t = true) : ∀ z ∈ ts.map (·.2), Asc z ∧ 10 * z.length + 2 ≤ 302 := fun z hz => by
  obtain ⟨t, ht, rfl⟩ := List.mem_map.mp hz
  have := wordS_len (tok_parts (tk t ht)).2
  exact ⟨(tokS_A (tk t ht)).2.1, by omega⟩
theorem dd_mix {G : Hp} {B : Addr} {l : List Str} {v : V} {e : PyData} {i j k c : Nat} (h : G B = some (.lst ((l.map V.str).take i ++ [v] ++ (l.map V.str).drop j))) (dv : DD G v e k c) (al : ∀ z ∈ l, Asc z ∧ 10 * z.length + 2 ≤ c) :
    ∃ ds, DD G (.ref B) (.list ds) (k + 1) ((c + 2) * (2 * l.length + 1) + 3) := by
  refine ⟨_, (dd_list (k := k) (c := c) h (DxAll.app (DxAll.app ((dxs l).take i) (.cons dv.dx .nil)) ((dxs l).drop j)) fun d hd => ?_).mono (Nat.le_refl _) ?_⟩
  · have st : ∀ d ∈ l.map PyData.str, d.depth ≤ k ∧ plainD d ∧ cost d ≤ c := fun d hd => by
      obtain ⟨z, hz, rfl⟩ := List.mem_map.mp hd
      exact ⟨by simp [PyData.depth], (al z hz).1, by simpa [cost] using (al z hz).2⟩
    rcases List.mem_append.mp hd with hd | hd
    · rcases List.mem_append.mp hd with hd | hd
      · exact st d (List.mem_of_mem_take hd)
      · rw [List.mem_singleton.mp hd]
        exact ⟨dv.dp, dv.pl, dv.co⟩
    · exact st d (List.mem_of_mem_drop hd)
  · refine Nat.add_le_add_right (Nat.mul_le_mul_left _ ?_) 3
    simp only [List.length_append, List.length_take, List.length_drop, List.length_map, List.length_cons, List.length_nil]
    omega
theorem NewV.sam {H G : Hp} {p : Addr} {v : V} {n : Int} (nv : NewV G v) (b : BoxAt G p n) (s : Sam p H G) : NewV H v := fun a e => by
  have h := nv a e
  refine samNone s (fun z => ?_) h
  obtain ⟨_, _, _, k, _⟩ := b
  rw [z, k] at h
  cases h
theorem cutR_len (rs : List Str) (lo hi : Option Int) : (cutR rs lo hi).length ≤ rs.length := by
  unfold cutR
  rw [List.length_take, List.length_drop]
  omega
/-- lists, strings and None -/
def kindL : PyData → Bool
  | .list _ => true
  | .str _ => true
  | .none => true
  | _ => false
/-- what stands in the place of the words -/
def FewP (p : Addr) (H G : Hp) (y : V) : Prop := ∃ df, DD (hid [p] G) y df 12 190000 ∧ NewV H y ∧ kindL df = true
theorem FewP.sam {p : Addr} {H G G' : Hp} {y : V} (h : FewP p H G y) (s : Sam p G G') : FewP p H G' y := by
  obtain ⟨df, dd, nv, k⟩ := h
  exact ⟨df, dd.up s.hid, nv, k⟩
theorem few_strs {p : Addr} {H G : Hp} {D : Addr} {l : List Str} (n : D ≠ p) (nw : NewV H (.ref D)) (e : G D = some (.lst (l.map V.str))) (h : ∀ z ∈ l, Asc z ∧ 10 * z.length + 2 ≤ 302) (len : l.length ≤ 30) : FewP p H G (.ref D) :=
  ⟨_, (dd_strs (G := hid [p] G) (hid_of (by simpa using n) e) h).mono (by omega) (by omega), nw, rfl⟩
theorem few_mix {p : Addr} {H G : Hp} {D : Addr} {l : List Str} {v : V} {e : PyData} {i j : Nat} (n : D ≠ p) (nw : NewV H (.ref D)) (h : G D = some (.lst ((l.map V.str).take i ++ [v] ++ (l.map V.str).drop j))) (dv : DD (hid [p] G) v e 11 6300) (al : ∀ z ∈ l, Asc z ∧ 10 * z.length + 2 ≤ 302) (len : l.length ≤ 14) : FewP p H G (.ref D) := by
  obtain ⟨ds, dd⟩ := dd_mix (G := hid [p] G) (hid_of (by simpa using n) h) dv fun z hz => ⟨(al z hz).1, by have := (al z hz).2; omega⟩
  exact ⟨_, dd.mono (by omega) (by omega), nw, rfl⟩
end RV

/-! x[::-1] of a list, of a string -/
namespace RV
open PySem PySem.Spec PyProof.Rows L2 TL
theorem fm_from {α : Type} : ∀ (l pre : List α), (List.range' pre.length l.length).filterMap (fun i => (pre ++ l)[i]?) = l
  | [], pre => by simp
  | a :: l, pre => by
    have ih := fm_from l (pre ++ [a])
    rw [List.length_append, List.length_singleton, List.append_assoc, List.singleton_append] at ih
    rw [List.length_cons, List.range'_succ, List.filterMap_cons]
    simp only [List.getElem?_append_right (Nat.le_refl _), Nat.sub_self, List.getElem?_cons_zero]
    rw [ih]
theorem fm_range {α : Type} (c : Array α) : (List.range c.size).filterMap (c[·]?) = c.toList := by
  have h := fm_from c.toList []
  rw [List.nil_append, List.length_nil, Array.length_toList, ← List.range_eq_range'] at h
  rw [← h]
  congr 1
  funext i
  simp [h]
theorem fm_rev {α : Type} (c : Array α) : ((List.range c.size).map fun k => c.size - 1 - k).filterMap (c[·]?) = c.toList.reverse := by
  have e : ((List.range c.size).map fun k => c.size - 1 - k) = (List.range c.size).reverse := by
    rw [List.range_eq_range', List.reverse_range', List.range_eq_range']
    simp
  rw [e, List.filterMap_reverse, fm_range]
def revS (z : Str) : Str := ⟨z.cps.toList.reverse.toArray⟩
section
variable {X : Cx} {e st : Expr} {te : TE} {ts : TO} {pos p2 : Pos}
def SlRR (X : Cx) (r : V → Hp → VK → Prop) : Prop :=
  ∀ (pins : List (Addr × Obj)) (s : Shared) (σ : L2.St) (H : Hp) (x : V) (v vs : Value) (sl : Addr) (Q : VK), L2.Inv X pins σ H s → RelV x v → s.heap.IsSliceOf sl .none .none vs → IsPart vs (some (-1)) → r x H Q →
    ∃ T id, typeLookup (.type T) "__getitem__" = pure (some (.builtin id)) ∧ s.TypeIs v T ∧ wpAny (model X.prog X.w) X.A (getItem v (.ref sl)) (EP X pins σ Q) X.xe s
def tSlR (r : V → Hp → VK → Prop) (te : TE) (ts : TO) : TE := fun σ H Q => te σ H fun x H1 => ts σ H1 fun o H2 => o = some (-1) ∧ r x H2 Q
theorem pe_sliceR {r : V → Hp → VK → Prop} (hr : SlRR X r) (he : PE X e te) (hs : PO X (some st) ts) : PE X (.Subscript e (.Slice none none (some st) p2) pos) (tSlR r te ts) := by
  refine ⟨fun pins s σ H Q I h => ?_⟩
  refine Subscript_ (thn (he.run pins s σ H _ I h) fun v s1 ⟨x, H1, I1, r1, q1⟩ => ?_)
  refine wpAny_Slice ?_
  rw [evalPart_none]
  refine wpAny_pure (wpAny_pure ?_)
  refine thn (hs.run pins s1 σ H1 _ I1 q1) fun vs s3 ⟨o, H3, I3, ps, eo, q3⟩ => ?_
  subst eo
  have I4 : L2.Inv X pins σ H3 { s3 with heap := s3.heap.push { cls := .type "slice", data := .fields #[.none, .none, vs] } } := I3.kept (t' := s3.toks) fun b ob q => Heap.get?_push_of_some _ q
  obtain ⟨T, id, hT, ht, hg⟩ := hr pins { s3 with heap := s3.heap.push { cls := .type "slice", data := .fields #[.none, .none, vs] } } σ H3 x v vs s3.heap.objs.size Q I4 r1 (Heap.IsSliceOf.new ..) ps q3
  show wpAny (model X.prog X.w) X.A (subscriptTail e (.Slice none none (some st) p2) v (.ref s3.heap.objs.size)) (EP X pins σ Q) X.xe { s3 with heap := s3.heap.push { cls := .type "slice", data := .fields #[.none, .none, vs] } }
  exact tail_any (ops := [v, .ref s3.heap.objs.size]) ht hT hg (by with_unfolding_all rfl)
theorem vals_reverse {xs : List V} {us : List Value} (r : Vals xs us) : Vals xs.reverse us.reverse := by
  induction r with
  | nil => exact .nil
  | cons h _ ih =>
    rw [List.reverse_cons, List.reverse_cons]
    exact ih.append (.cons h .nil)
def rRevL (K : PySem.W.Frag) : V → Hp → VK → Prop := fun x H Q => ∃ a xs, x = .ref a ∧ SqL K H a xs ∧ ∀ p, H p = none → Q (.ref p) (upd H p (.lst xs.reverse))
theorem slr_list : SlRR X (rRevL X.K) := by
  intro pins s σ H x v vs sl Q I rx hs ps h
  obtain ⟨a, xs, rfl, hx, q⟩ := h
  cases rx
  obtain ⟨its, r, ht, hz⟩ := I.list hx
  have hlen := r.length
  refine ⟨"list", _, slot_list_getitem.lookup, ht.isList.typeIs, ?_⟩
  refine wpAny_getItem_list_slice ht.isList hs .none .none ps (by simp) ?_ (by rw [List.size_toArray] <;> omega)
  have e : slicePick its.toArray none none (some (-1)) = its.reverse.toArray := by
    have h : (sliceRange (sliceBounds none none (some (-1)) its.toArray.size).1 (sliceBounds none none (some (-1)) its.toArray.size).2.1 (sliceBounds none none (some (-1)) its.toArray.size).2.2) = (List.range its.toArray.size).map fun k => its.toArray.size - 1 - k := picked_rev its.toArray.size
    unfold slicePick
    rw [h, fm_rev]
  rw [e]
  refine ⟨.ref s.heap.objs.size, _, I.laid (t' := s.toks) (o := .lst xs.reverse) (fun b ob q => Heap.get?_push_of_some _ q) (Nat.le_refl _) ?_, rfl, q _ (I.hok.fresh (Nat.le_refl _))⟩
  exact ⟨by rw [List.length_reverse]; exact hz, _, 0, vals_reverse r, Heap.get?_push_size _ rfl⟩
def rRevS : V → Hp → VK → Prop := fun x H Q => ∃ z, x = .str z ∧ z.length ≤ sizeLine ∧ Q (.str (revS z)) H
theorem slr_str : SlRR X rRevS := by
  intro pins s σ H x v vs sl Q I rx hs ps h
  obtain ⟨z, rfl, hz, q⟩ := h
  obtain ⟨t, rfl⟩ := rx
  obtain ⟨os, hos, hcs, hds⟩ := hs
  obtain ⟨u, rfl, hu⟩ := IsPart.raw ps
  cases u with
  | none => cases hu
  | some u =>
    have hu1 : u.1 = -1 := Option.some.inj hu
    obtain ⟨u1, u2⟩ := u
    have hu2 : u1 = -1 := hu1
    subst hu2
    refine ⟨"str", _, F.slot_str_getitem.lookup, typeIs_str _ _ _, ?_⟩
    refine wpAny_getItem_str_slice (l := none) (u := none) (st := some (-1, u2)) ⟨os, hos, hcs, hds⟩ rfl ?_
    have e : ((Builtin.Str.strSliceIndices none none (-1) z.length).filterMap (z.cps[·]?)) = z.cps.toList.reverse := by
      rw [picked_rev]
      exact fm_rev z.cps
    show Made.post (if ((-1 : Int) == 1 && (Builtin.Str.strSliceIndices none none (-1) z.length).length == z.length) = true then Made.val (.str z t)
      else Made.str ⟨((Builtin.Str.strSliceIndices none none (-1) z.length).filterMap (z.cps[·]?)).toArray⟩) (EP X pins σ Q) s
    rw [if_neg (by rw [show ((-1 : Int) == 1) = false from rfl]; exact Bool.false_ne_true), e]
    have l : (⟨z.cps.toList.reverse.toArray⟩ : Str).length = z.length := by simp [Str.length]
    exact ⟨by rw [l]; exact hz, .str _, H, I.tok _, ⟨_, rfl⟩, q⟩
end
end RV

/-! list(zip(a, b)) of two lists of one length -/
namespace RV
open PySem PySem.Spec PyProof.Rows L2
structure ZpG (ps : List (Value × Value)) (lo : Addr) (h : Heap) (as : List Addr) : Prop where
  rise : as.Pairwise (· < ·)
  above : ∀ a ∈ as, lo < a
  pairs : ∀ (j : Nat) (a : Addr), as[j]? = some a → ∃ p, ps[j]? = some p ∧ h.get? a = some { cls := .type "tuple", data := .seq #[p.1, p.2] }
theorem ZpG.there {ps : List (Value × Value)} {lo : Addr} {h : Heap} {as : List Addr} (g : ZpG ps lo h as) {a : Addr} (ha : a ∈ as) : a < h.objs.size := by
  obtain ⟨j, hj⟩ := List.mem_iff_getElem?.mp ha
  obtain ⟨_, _, e⟩ := g.pairs j a hj
  exact Heap.lt_size e
theorem ZpG.low {ps : List (Value × Value)} {lo lo' : Addr} {h : Heap} {as : List Addr} (g : ZpG ps lo h as) (hl : lo' ≤ lo) : ZpG ps lo' h as := ⟨g.rise, fun a ha => Nat.lt_of_le_of_lt hl (g.above a ha), g.pairs⟩
theorem zip_no_len : typeLookup (.type "zip") "__len__" = pure none := am_miss_of_fast (by decide +kernel)
theorem zip_no_hint : typeLookup (.type "zip") "__length_hint__" = pure none := am_miss_of_fast (by decide +kernel)
/-- the zip ahead of turn i -/
structure LzSt (h : Heap) (z TI TO i1 i2 l1 l2 S : Addr) (i : Nat) : Prop where
  ti : IsPair h TI (.ref i1) (.ref i2)
  a1 : h.IsListIter i1 l1 i
  a2 : h.IsListIter i2 l2 i
  st : (IsZip h z TI TO .none ∧ ∃ a b, IsPair h TO a b) ∨ ∃ T f oT, IsZipHeld h z TI TO T f ∧ h.get? T = some oT ∧ S < T
/-- all of the zip lies below S -/
structure LzLow (z TI TO i1 i2 l1 l2 S : Addr) : Prop where
  z : z < S
  TI : TI < S
  TO : TO < S
  i1 : i1 < S
  i2 : i2 < S
  l1 : l1 < S
  l2 : l2 < S
theorem LzSt.keep {h h' : Heap} {z TI TO i1 i2 l1 l2 S : Addr} {i : Nat} (st : LzSt h z TI TO i1 i2 l1 l2 S i) (lo : LzLow z TI TO i1 i2 l1 l2 S) (k : ∀ b o, b ≠ S → h.get? b = some o → h'.get? b = some o) : LzSt h' z TI TO i1 i2 l1 l2 S i := by
  obtain ⟨ti, a1, a2, d⟩ := st
  refine ⟨k _ _ (Nat.ne_of_lt lo.TI) ti, a1.at fun o e => k _ o (Nat.ne_of_lt lo.i1) e, a2.at fun o e => k _ o (Nat.ne_of_lt lo.i2) e, ?_⟩
  rcases d with ⟨hz, a, b, hTO⟩ | ⟨T, f, oT, hz, hT, hST⟩
  · exact .inl ⟨k _ _ (Nat.ne_of_lt lo.z) hz, a, b, k _ _ (Nat.ne_of_lt lo.TO) hTO⟩
  · exact .inr ⟨T, f, oT, k _ _ (Nat.ne_of_lt lo.z) hz, k _ _ (Nat.ne_of_gt hST) hT, hST⟩
section
variable {prog : Program} {w : World} {A : Around} {E : Value → Shared → Prop} {s : Shared}
theorem lz_item {z TI TO i1 i2 l1 l2 S : Addr} {i : Nat} {xs ys : Array Value} {x y : Value} {Q : Option Value → Shared → Prop} (D : ZipApart z TI TO i1 i2 l1 l2) (lo : LzLow z TI TO i1 i2 l1 l2 S) (st : LzSt s.heap z TI TO i1 i2 l1 l2 S i) (hS : S < s.heap.objs.size)
    (hl1 : s.heap.IsList l1 xs) (hl2 : s.heap.IsList l2 ys) (hx : xs[i]? = some x) (hy : ys[i]? = some y)
    (hQ : ∀ h', LzSt h' z TI TO i1 i2 l1 l2 S (i + 1) → IsPair h' s.heap.objs.size x y → (∀ c o, c ≠ z → c ≠ TO → c ≠ i1 → c ≠ i2 → s.heap.get? c = some o → h'.get? c = some o) → Q (some (.ref s.heap.objs.size)) { s with heap := h' }) :
    wpAny (model prog w) A (pyNext (.ref z)) Q E s := by
  obtain ⟨ti, a1, a2, d⟩ := st
  rcases d with ⟨hz, a, b, hTO⟩ | ⟨T, f, oT, hz, hT, hST⟩
  · exact wpAny_pyNext_zip_item D hz ti hTO a1 a2 hl1 hl2 hx hy fun h' z' TO' b1 b2 p sz k => hQ h' ⟨k _ _ D.TIz D.TITO D.TIi1 D.TIi2 ti, b1, b2, .inr ⟨_, _, _, z', p, hS⟩⟩ p k
  · refine wpAny_pyNext_zip_item_held D hz hT ti a1 a2 hl1 hl2 hx hy fun h' z' b1 b2 p sz k => hQ h' ⟨k _ _ D.TIz D.TIi1 D.TIi2 ti, b1, b2, .inr ⟨T, _, _, z', k _ _ ?_ ?_ ?_ hT, hST⟩⟩ p fun c o c1 _ c2 c3 e => k c o c1 c2 c3 e
    · exact Nat.ne_of_gt (Nat.lt_trans lo.z hST)
    · exact Nat.ne_of_gt (Nat.lt_trans lo.i1 hST)
    · exact Nat.ne_of_gt (Nat.lt_trans lo.i2 hST)
theorem lz_done {z TI TO i1 i2 l1 l2 S : Addr} {i : Nat} {xs ys : Array Value} {Q : Option Value → Shared → Prop} (hh : A.handled = none) (D : ZipApart z TI TO i1 i2 l1 l2) (st : LzSt s.heap z TI TO i1 i2 l1 l2 S i)
    (hl1 : s.heap.IsList l1 xs) (hl2 : s.heap.IsList l2 ys) (he : xs[i]? = none ∨ ys[i]? = none)
    (hQ : ∀ h', (∀ c o, c ≠ z → c ≠ TO → c ≠ i1 → c ≠ i2 → s.heap.get? c = some o → h'.get? c = some o) → Q none { s with heap := h' }) :
    wpAny (model prog w) A (pyNext (.ref z)) Q E s := by
  obtain ⟨ti, a1, a2, d⟩ := st
  rcases d with ⟨hz, a, b, hTO⟩ | ⟨T, f, oT, hz, hT, hST⟩
  · exact wpAny_pyNext_zip_end hh D hz ti hTO a1 a2 hl1 hl2 he fun h' k => hQ h' k
  · exact wpAny_pyNext_zip_end_held hh D hz hT ti a1 a2 hl1 hl2 he fun h' k => hQ h' fun c o c1 _ c2 c3 e => k c o c1 c2 c3 e
end
section
variable {prog : Program} {w : World} {A : Around} {s : Shared} {R : Result → Shared → Prop} {xs ys : Array Value}
theorem lz_loop {z TI TO i1 i2 l1 l2 S : Addr} (hh : A.handled = none) (D : ZipApart z TI TO i1 i2 l1 l2) (lo : LzLow z TI TO i1 i2 l1 l2 S) (hl : ys.size = xs.size) (hn : xs.size ≤ sizeLine) (res : Value) {h₁ : Heap}
    (hR : ∀ h' tk acc c as, (∀ b o, b ≠ S → b ≠ z → b ≠ TO → b ≠ i1 → b ≠ i2 → h₁.get? b = some o → h'.get? b = some o) → h'.get? S = some { cls := .type "list", dict := none, data := .seq acc c, slots := #[] } → as.length = xs.size → ZpG (xs.toList.zip ys.toList) S h' as →
      acc.toList = as.map Value.ref → R (.ok (.ret res)) { s with heap := h', toks := tk }) :
    ∀ (k i : Nat) (h : Heap) (tk c : Nat) (acc : Array Value) (as : List Addr), xs.size - i = k → i ≤ xs.size → LzSt h z TI TO i1 i2 l1 l2 S i → h.IsList l1 xs → h.IsList l2 ys → (∀ b o, b ≠ S → b ≠ z → b ≠ TO → b ≠ i1 → b ≠ i2 → h₁.get? b = some o → h.get? b = some o) →
      h.get? S = some { cls := .type "list", dict := none, data := .seq acc c, slots := #[] } → acc.toList = as.map Value.ref → as.length = i → ZpG (xs.toList.zip ys.toList) S h as →
      codeAny (model prog w) A (.builtin "list.extend.loop" ⟨[.ref S, .ref z, res], []⟩) R { s with heap := h, toks := tk } := by
  have nz := Nat.ne_of_gt lo.z
  have nTO := Nat.ne_of_gt lo.TO
  have n1 := Nat.ne_of_gt lo.i1
  have n2 := Nat.ne_of_gt lo.i2
  have up4 : ∀ {b : Addr}, S < b → b ≠ z ∧ b ≠ TO ∧ b ≠ i1 ∧ b ≠ i2 := fun h => ⟨Nat.ne_of_gt (Nat.lt_trans lo.z h), Nat.ne_of_gt (Nat.lt_trans lo.TO h), Nat.ne_of_gt (Nat.lt_trans lo.i1 h), Nat.ne_of_gt (Nat.lt_trans lo.i2 h)⟩
  intro k
  induction k with
  | zero =>
    intro i h tk c acc as hk hi hst hL1 hL2 hkeep hS hacc hal hG
    have hin : i = xs.size := by omega
    refine codeAny_builtin PySem.F.entry_extend_loop ?_
    rw [Around.under_plainId PySem.F.plain_extend_loop _]
    show wpAny _ A.in1 (pyNext (.ref z) >>= _) _ _ _
    refine wpAny_bind (lz_done (s := { s with heap := h, toks := tk }) (A := A.in1) hh D hst hL1 hL2 (.inl (by rw [Array.getElem?_eq_none_iff]; omega)) fun h' he => ?_)
    refine wpAny_pure (hR h' tk acc c as (fun b o h1 h2 h3 h4 h5 e => he b o h2 h3 h4 h5 (hkeep b o h1 h2 h3 h4 h5 e)) (he S _ nz nTO n1 n2 hS) (by omega) ⟨hG.rise, hG.above, fun j a hj => ?_⟩ hacc)
    obtain ⟨p, hp, e3⟩ := hG.pairs j a hj
    obtain ⟨u1, u2, u3, u4⟩ := up4 (hG.above a (List.mem_of_getElem? hj))
    exact ⟨p, hp, he a _ u1 u2 u3 u4 e3⟩
  | succ k ih =>
    intro i h tk c acc as hk hi hst hL1 hL2 hkeep hS hacc hal hG
    have hlt : i < xs.size := by omega
    have hlt2 : i < ys.size := by omega
    have hsz : acc.size = i := by rw [← Array.length_toList, hacc, List.length_map, hal]
    have hSl : S < h.objs.size := Heap.lt_size hS
    refine codeAny_builtin PySem.F.entry_extend_loop ?_
    rw [Around.under_plainId PySem.F.plain_extend_loop _]
    show wpAny _ A.in1 (pyNext (.ref z) >>= _) _ _ _
    refine wpAny_bind (lz_item (s := { s with heap := h, toks := tk }) (S := S) (x := xs[i]) (y := ys[i]) D lo hst hSl hL1 hL2 (Array.getElem?_eq_getElem hlt) (Array.getElem?_eq_getElem hlt2) fun h' hst' ht hkp => ?_)
    dsimp only at ht hkp ⊢
    have hS' := hkp S _ nz nTO n1 n2 hS
    have up : ∀ b o, b ≠ S → h'.get? b = some o → (h'.update S (Obj.mapSeq (·.push (Value.ref h.objs.size)))).get? b = some o := fun b o hb e => (Heap.get?_update_other _ _ (Ne.symm hb)).trans e
    show wpAny _ A.in1 (updateSeq S (·.push (Value.ref h.objs.size)) >>= _) _ _ _
    refine wpAny_bind ?_
    refine wpAny_updateSeq hS' rfl (wpAny_pure ⟨plainId_quiet PySem.F.plain_extend_loop _, ih (i + 1) _ tk _ (acc.push (Value.ref h.objs.size)) (as ++ [h.objs.size]) (by omega) hlt (hst'.keep lo up)
      (hL1.at fun o e => up _ o (Nat.ne_of_lt lo.l1) (hkp _ o D.l1z D.l1TO D.l1i1 D.l1i2 e)) (hL2.at fun o e => up _ o (Nat.ne_of_lt lo.l2) (hkp _ o D.l2z D.l2TO D.l2i1 D.l2i2 e))
      (fun b o h1 h2 h3 h4 h5 e => up b o h1 (hkp b o h2 h3 h4 h5 (hkeep b o h1 h2 h3 h4 h5 e))) (Heap.get?_update_self _ hS' rfl) (by rw [Array.toList_push, hacc, List.map_append]; rfl) (by rw [List.length_append, hal]; rfl) ⟨?_, ?_, ?_⟩⟩) (by rw [hsz]; omega) (by show (acc.push (Value.ref h.objs.size)).size ≤ sizeLine + 1; rw [Array.size_push, hsz]; omega)
    · refine List.pairwise_append.mpr ⟨hG.rise, List.pairwise_singleton _ _, fun a ha b hb => ?_⟩
      rw [List.mem_singleton.mp hb]
      exact hG.there ha
    · intro a ha
      rcases List.mem_append.mp ha with ha | ha
      · exact hG.above a ha
      · rw [List.mem_singleton.mp ha]; exact hSl
    · intro j b hj
      rcases Nat.lt_trichotomy j as.length with h1 | h1 | h1
      · rw [List.getElem?_append_left h1] at hj
        obtain ⟨p, hp, e3⟩ := hG.pairs j b hj
        have hb := hG.above b (List.mem_of_getElem? hj)
        obtain ⟨u1, u2, u3, u4⟩ := up4 hb
        exact ⟨p, hp, up b _ (Nat.ne_of_gt hb) (hkp b _ u1 u2 u3 u4 e3)⟩
      · subst h1
        have hb : h.objs.size = b := by simpa using hj
        subst hb
        subst hal
        exact ⟨(xs[as.length], ys[as.length]), List.getElem?_zip_eq_some.mpr ⟨by simp [hlt], by simp [hlt2]⟩, up _ _ (Nat.ne_of_gt hSl) ht⟩
      · have hnone : (as ++ [h.objs.size])[j]? = none := List.getElem?_eq_none (by rw [List.length_append, List.length_singleton]; omega)
        rw [hnone] at hj; cases hj
theorem lz_extend {z TI TO i1 i2 l1 l2 S : Addr} (hh : A.handled = none) (D : ZipApart z TI TO i1 i2 l1 l2) (lo : LzLow z TI TO i1 i2 l1 l2 S) (hl : ys.size = xs.size) (hn : xs.size ≤ sizeLine) (res : Value) (c₀ : Nat)
    (hz : IsZip s.heap z TI TO .none) (st : LzSt s.heap z TI TO i1 i2 l1 l2 S 0) (hL1 : s.heap.IsList l1 xs) (hL2 : s.heap.IsList l2 ys) (hS : s.heap.get? S = some { cls := .type "list", data := .seq #[] c₀ })
    (hR : ∀ h' tk acc c as, (∀ b o, b ≠ S → b ≠ z → b ≠ TO → b ≠ i1 → b ≠ i2 → s.heap.get? b = some o → h'.get? b = some o) → h'.get? S = some { cls := .type "list", dict := none, data := .seq acc c, slots := #[] } → as.length = xs.size → ZpG (xs.toList.zip ys.toList) S h' as →
      acc.toList = as.map Value.ref → R (.ok (.ret res)) { s with heap := h', toks := tk }) :
    wpAny (model prog w) A.in1 (Builtin.List.listExtendWith (.ref S) (.ref z) res)
      (fun fin s' => match fin with | .done f => R (.ok f) s' | .again c' => c'.quiet = true ∧ codeAny (model prog w) A c' R s') (fun e s' => R (.error e) s') s := by
  have hT : s.TypeIs (.ref z) "zip" := ⟨_, hz, rfl⟩
  have nz := Nat.ne_of_gt lo.z
  unfold Builtin.List.listExtendWith
  refine wpAny_bind (wpAny_typeOf hT ?_)
  have h1 : Builtin.List.listSameRef (.ref S) (.ref z) = false := by simp [Builtin.List.listSameRef, nz]
  have h2 : (Value.type "zip" == Value.type "list") = false := by decide
  have h3 : (Value.type "zip" == Value.type "tuple") = false := by decide
  simp only [h1, h2, h3, Bool.or_false, Bool.false_eq_true, if_false]
  refine wpAny_bind (wpAny_pyIter_zip hz ?_)
  refine wpAny_bind (wpAny_holding ?_)
  unfold Builtin.List.listLengthHint
  refine wpAny_bind (wpAny_specialOf hT zip_no_len ?_)
  show wpAny _ A.in1 (specialOf (Value.ref z) (Str.ofString "__length_hint__") >>= _) _ _ _
  refine wpAny_bind (wpAny_specialOf hT zip_no_hint ?_)
  refine wpAny_pure ?_
  show wpAny _ A.in1 (rule "list.extend.makes-room" >>= fun _ => Builtin.List.listTouch (.ref S) >>= fun _ =>
    again (.builtin "list.extend.loop" ⟨[.ref S, .ref z, res], []⟩)) _ _ _
  refine wpAny_bind (wpAny_rule ?_)
  refine wpAny_bind ?_
  show wpAny _ A.in1 (updateSeq S (·.push .none) >>= fun _ => updateSeq S (·.pop)) _ _ _
  refine wpAny_bind (wpAny_updateSeq hS rfl ?_)
  have hS₂ := Heap.get?_update_self (Obj.mapSeq (·.push Value.none)) hS rfl
  refine wpAny_updateSeq (hz := by seq_fits) hS₂ rfl ?_
  have hS₃ := Heap.get?_update_self (Obj.mapSeq (·.pop)) hS₂ rfl
  have oth : ∀ b o, b ≠ S → s.heap.get? b = some o → ((s.heap.update S (Obj.mapSeq (·.push Value.none))).update S (Obj.mapSeq (·.pop))).get? b = some o :=
    fun b o hb e => (Heap.get?_update_other _ _ (Ne.symm hb)).trans ((Heap.get?_update_other _ _ (Ne.symm hb)).trans e)
  refine wpAny_pure ⟨plainId_quiet PySem.F.plain_extend_loop _, lz_loop (s := s) (h₁ := s.heap) hh D lo hl hn res hR xs.size 0 _ _ _ _ [] (Nat.sub_zero _) (Nat.zero_le _) (st.keep lo oth) (hL1.at fun o e => oth _ o (Nat.ne_of_lt lo.l1) e) (hL2.at fun o e => oth _ o (Nat.ne_of_lt lo.l2) e) (fun b o h1 _ _ _ _ e => oth b o h1 e) hS₃ rfl rfl ⟨List.Pairwise.nil, (fun _ ha => nomatch ha), (fun j a hj => by simp at hj)⟩⟩
theorem lz_init {z TI TO i1 i2 l1 l2 S : Addr} (hh : A.handled = none) (D : ZipApart z TI TO i1 i2 l1 l2) (lo : LzLow z TI TO i1 i2 l1 l2 S) (hl : ys.size = xs.size) (hn : xs.size ≤ sizeLine)
    (hz : IsZip s.heap z TI TO .none) (st : LzSt s.heap z TI TO i1 i2 l1 l2 S 0) (hL1 : s.heap.IsList l1 xs) (hL2 : s.heap.IsList l2 ys) (hS : s.heap.get? S = some { cls := .type "list", data := .seq #[] })
    (hR : ∀ h' tk acc c as, (∀ b o, b ≠ S → b ≠ z → b ≠ TO → b ≠ i1 → b ≠ i2 → s.heap.get? b = some o → h'.get? b = some o) → h'.get? S = some { cls := .type "list", dict := none, data := .seq acc c, slots := #[] } → as.length = xs.size → ZpG (xs.toList.zip ys.toList) S h' as →
      acc.toList = as.map Value.ref → R (.ok (.ret .none)) { s with heap := h', toks := tk }) :
    wpAny (model prog w) A.in1 (Builtin.«list.__init__» ⟨[.ref S, .ref z], []⟩)
      (fun fin s' => match fin with | .done f => R (.ok f) s' | .again c' => c'.quiet = true ∧ codeAny (model prog w) A c' R s') (fun e s' => R (.error e) s') s := by
  show wpAny _ _ (do let old ← Builtin.List.listItems (.ref S); Builtin.List.listUpdate (.ref S) (fun _ => #[]); letGo old.toList.reverse; Builtin.List.listExtendWith (.ref S) (.ref z) .none) _ _ s
  refine wpAny_bind ?_
  unfold Builtin.List.listItems
  refine wpAny_bind (wpAny_seqItems hS rfl (wpAny_pure ?_))
  show wpAny _ _ (updateSeq S (fun _ => #[]) >>= fun _ => letGo (#[] : Array Value).toList.reverse >>= fun _ => Builtin.List.listExtendWith (.ref S) (.ref z) .none) _ _ s
  refine wpAny_bind (wpAny_updateSeq hS rfl ?_)
  have hS₂ := Heap.get?_update_self (Obj.mapSeq (fun _ => (#[] : Array Value))) hS rfl
  have oth : ∀ b o, b ≠ S → s.heap.get? b = some o → (s.heap.update S (Obj.mapSeq (fun _ => (#[] : Array Value)))).get? b = some o :=
    fun b o hb e => (Heap.get?_update_other _ _ (Ne.symm hb)).trans e
  refine wpAny_bind (wpAny_letGo ?_)
  exact lz_extend hh D lo hl hn .none _ (oth _ _ (Nat.ne_of_lt lo.z) hz) (st.keep lo oth) (hL1.at fun o e => oth _ o (Nat.ne_of_lt lo.l1) e) (hL2.at fun o e => oth _ o (Nat.ne_of_lt lo.l2) e) hS₂ fun h' tk acc c as hk hS' hl hG hacc =>
    hR h' tk acc c as (fun b o hb b1 b2 b3 b4 e => hk b o hb b1 b2 b3 b4 (oth b o hb e)) hS' hl hG hacc
end
section
variable {prog : Program} {w : World} {A : Around} {E : Value → Shared → Prop} {s : Shared} {xs ys : Array Value}
theorem lz_call {z TI TO i1 i2 l1 l2 : Addr} {Q : Value → Shared → Prop} (hh : A.handled = none) (D : ZipApart z TI TO i1 i2 l1 l2) (lo : LzLow z TI TO i1 i2 l1 l2 s.heap.objs.size) (hl : ys.size = xs.size) (hn : xs.size ≤ sizeLine)
    (hz : IsZip s.heap z TI TO .none) (hTI : IsPair s.heap TI (.ref i1) (.ref i2)) (hTO : IsPair s.heap TO .none .none) (h1 : s.heap.IsListIter i1 l1 0) (h2 : s.heap.IsListIter i2 l2 0) (hL1 : s.heap.IsList l1 xs) (hL2 : s.heap.IsList l2 ys)
    (hQ : ∀ h' tk acc c as, (∀ b o, b ≠ z → b ≠ TO → b ≠ i1 → b ≠ i2 → s.heap.get? b = some o → h'.get? b = some o) → h'.get? s.heap.objs.size = some { cls := .type "list", dict := none, data := .seq acc c, slots := #[] } → as.length = xs.size → ZpG (xs.toList.zip ys.toList) s.heap.objs.size h' as →
      acc.toList = as.map Value.ref → Q (.ref s.heap.objs.size) { s with heap := h', toks := tk }) :
    wpAny (model prog w) A (call (.type "list") [.ref z]) Q E s := by
  refine callType_codes (Q₁ := fun obj s₁ => obj = .ref s.heap.objs.size ∧ s₁ = { s with heap := s.heap.push { cls := .type "list", data := .seq #[] } }) PySem.F.called_list (PySem.F.typeCall_list_1 _) PySem.F.entry_list_init
    (code_list_new _ ⟨rfl, rfl⟩) fun obj s₁ h₁ => ?_
  obtain ⟨rfl, rfl⟩ := h₁
  have hS : (s.heap.push { cls := .type "list", data := .seq #[] }).get? s.heap.objs.size = some { cls := .type "list", data := .seq #[] } := Heap.get?_push_size _ rfl
  have pu : ∀ b o, s.heap.get? b = some o → (s.heap.push { cls := .type "list", data := .seq #[] }).get? b = some o := fun b o e => Heap.get?_push_of_some _ e
  refine ⟨⟨_, hS, rfl⟩, PySem.F.args_list_init_2 _ _, lz_init (A := A.in1) (s := { s with heap := s.heap.push { cls := .type "list", data := .seq #[] } }) hh D lo hl hn (pu _ _ hz) ⟨pu _ _ hTI, h1.at fun o e => pu _ o e, h2.at fun o e => pu _ o e, .inl ⟨pu _ _ hz, _, _, pu _ _ hTO⟩⟩ (hL1.at fun o e => pu _ o e) (hL2.at fun o e => pu _ o e) hS (fun h' tk acc c as hk hS' hl hG hacc => ?_)⟩
  exact ⟨rfl, hQ h' tk acc c as (fun b o b1 b2 b3 b4 e => hk b o (Nat.ne_of_lt (Heap.lt_size e)) b1 b2 b3 b4 (pu b o e)) hS' hl hG hacc⟩
end
/-- the tuples tracked at their addresses -/
def putV : Hp → List Addr → List (V × V) → Hp
  | H, a :: as, p :: ps => putV (upd H a (.tup [p.1, p.2])) as ps
  | H, _, _ => H
theorem putV_off {b : Addr} : ∀ (as : List Addr) (ps : List (V × V)) (H : Hp), b ∉ as → putV H as ps b = H b
  | [], _, _, _ => rfl
  | _ :: _, [], _, _ => rfl
  | a :: as, p :: ps, H, h => by
    show putV (upd H a (.tup [p.1, p.2])) as ps b = H b
    rw [putV_off as ps _ (fun z => h (List.mem_cons_of_mem _ z)), upd_ne (fun z => h (by rw [z]; exact List.mem_cons_self))]
theorem putV_at : ∀ (as : List Addr) (ps : List (V × V)) (H : Hp), as.length = ps.length → as.Nodup → Paired (fun (t : Addr) (p : V × V) => putV H as ps t = some (.tup [p.1, p.2])) as ps
  | [], [], _, _, _ => .nil
  | [], _ :: _, _, h, _ => by cases h
  | _ :: _, [], _, h, _ => by cases h
  | a :: as, p :: ps, H, h, hn => by
    have hn' := List.nodup_cons.mp hn
    have ih := putV_at as ps (upd H a (.tup [p.1, p.2])) (Nat.succ.inj h) hn'.2
    refine .cons ?_ ih
    show putV (upd H a (.tup [p.1, p.2])) as ps a = some (.tup [p.1, p.2])
    rw [putV_off as ps _ hn'.1, upd_same]
section
variable {X : Cx}
theorem zips_laid {pins : List (Addr × Obj)} {σ : L2.St} {H : Hp} {s : Shared} {h' : Heap} {tk S : Nat} {xs ys : List V} {us ws : List Value} {acc : Array Value} {c : Nat} {as : List Addr} (I : L2.Inv X pins σ H s) (hSz : s.heap.objs.size ≤ S) (hz : xs.length ≤ sizeLine) (rx : Vals xs us) (ry : Vals ys ws) (hl : ys.length = xs.length)
    (hk : ∀ b o, s.heap.get? b = some o → h'.get? b = some o) (hS : h'.get? S = some { cls := .type "list", dict := none, data := .seq acc c, slots := #[] }) (hal : as.length = us.length) (hG : ZpG (us.zip ws) S h' as) (hacc : acc.toList = as.map Value.ref) :
    ∃ H' : Hp, Same H H' ∧ H S = none ∧ H' S = some (.lst (as.map V.ref)) ∧ (∀ (i : Nat) (a : Addr), as[i]? = some a → ∃ x y, xs[i]? = some x ∧ ys[i]? = some y ∧ H' a = some (.tup [x, y])) ∧ L2.Inv X pins σ H' { s with heap := h', toks := tk } := by
  have lx := rx.length
  have lz : (xs.zip ys).length = as.length := by rw [List.length_zip]; omega
  have hSn : S ∉ as := fun z => Nat.lt_irrefl _ (hG.above _ z)
  have nd : as.Nodup := List.Pairwise.imp (fun {a b} (h : a < b) => Nat.ne_of_lt h) hG.rise
  have new : ∀ t ∈ as, H t = none := fun t ht => I.hok.fresh (Nat.le_trans hSz (Nat.le_of_lt (hG.above t ht)))
  have newS : H S = none := I.hok.fresh hSz
  have atP := putV_at as (xs.zip ys) (upd H S (.lst (as.map V.ref))) lz.symm nd
  have off : ∀ b, b ∉ as → b ≠ S → putV (upd H S (.lst (as.map V.ref))) as (xs.zip ys) b = H b := fun b h1 h2 => by rw [putV_off as _ _ h1, upd_ne h2]
  have low : ∀ b o, s.heap.get? b = some o → b ∉ as ∧ b ≠ S := fun b o e => ⟨fun z => absurd (Heap.lt_size e) (Nat.not_lt.mpr (Nat.le_trans hSz (Nat.le_of_lt (hG.above b z)))), Nat.ne_of_lt (Nat.lt_of_lt_of_le (Heap.lt_size e) hSz)⟩
  have kp : ∀ b u, H b = some u → (putV (upd H S (.lst (as.map V.ref))) as (xs.zip ys)) b = some u := fun b u e => by
    rw [off b (fun z => by rw [new b z] at e; cases e) (fun z => by rw [z, newS] at e; cases e)]
    exact e
  have eS : putV (upd H S (.lst (as.map V.ref))) as (xs.zip ys) S = some (.lst (as.map V.ref)) := by rw [putV_off as _ _ hSn, upd_same]
  refine ⟨putV (upd H S (.lst (as.map V.ref))) as (xs.zip ys), kp, newS, eS, fun i a hi => ?_, ?_⟩
  · obtain ⟨p, g1, g2⟩ := LiI.paired_get atP hi
    obtain ⟨q1, q2⟩ := List.getElem?_zip_eq_some.mp g1
    exact ⟨p.1, p.2, q1, q2, g2⟩
  refine I.call' (ch := []) rfl ⟨fun b o q _ _ _ => hk b o q, fun b o q _ _ _ => ⟨o.slots, hk b o q⟩, fun b o q n _ => ?_, fun b o q _ => ⟨o, hk b o q⟩, fun b xs q => kp b _ q, fun b o u q => kp b _ q, fun b ps q => ⟨#[], by rw [kp b _ q]; simp⟩⟩ (fun b u q => ?_) I.bare fun b z => by simp at z
  · obtain ⟨z1, z2⟩ := low b o q
    rw [off b z1 z2]
    exact n
  · by_cases hb : b ∈ as
    · obtain ⟨j, pk, e1, e2, e3⟩ := LiI.paired_ix atP hb
      rw [e3] at q
      cases q
      obtain ⟨p, f1, f3⟩ := hG.pairs j b e1
      obtain ⟨g1, g2⟩ := List.getElem?_zip_eq_some.mp e2
      obtain ⟨f1, f2⟩ := List.getElem?_zip_eq_some.mp f1
      obtain ⟨u1, k1, r1⟩ := rx.get g1
      obtain ⟨u2, k2, r2⟩ := ry.get g2
      rw [f1] at k1
      rw [f2] at k2
      cases k1
      cases k2
      exact ⟨by show 2 ≤ sizeLine; decide, [p.1, p.2], .cons r1 (.cons r2 .nil), ⟨_, f3, rfl, _, rfl⟩⟩
    · by_cases hb2 : b = S
      · rw [hb2] at q ⊢
        rw [eS] at q
        cases q
        refine ⟨by rw [List.length_map]; omega, acc.toList, c, by rw [hacc]; exact LiI.vals_refs as, ?_⟩
        rw [Array.toArray_toList]
        exact hS
      · rw [off b hb hb2] at q
        exact (I.hok b u q).stay (fun d v _ y => hk d v y) (fun d y => kp d _ y) fun d xs y => kp d _ y
theorem apart5 {n a b : Nat} (ha : a < n) (hb : b < n) : ZipApart (n + 4) (n + 2) (n + 3) n (n + 1) a b := by
  constructor <;> intro (h : (_ : Nat) = _) <;> omega
theorem low5 {n m a b : Nat} (h : m = n + 5) (ha : a < n) (hb : b < n) : LzLow (n + 4) (n + 2) (n + 3) n (n + 1) a b m := by
  constructor <;> (show (_ : Nat) < _) <;> omega
theorem ne_lt {n c k : Nat} (h : c < n) : c ≠ n + k := by omega
/-- list(zip(a, b)) -/
def tListZip (ta : TA) : TE := fun σ H Q => ta σ H fun vs H1 => ∃ a b xs ys, vs = [.ref a, .ref b] ∧ H1 a = some (.lst xs) ∧ H1 b = some (.lst ys) ∧ ys.length = xs.length ∧ xs.length ≤ sizeLine ∧
  ∀ (H' : Hp) (D : Addr) (as : List Addr), Same H1 H' → H1 D = none → H' D = some (.lst (as.map V.ref)) → as.length = xs.length → (∀ (i : Nat) (a : Addr), as[i]? = some a → ∃ x y, xs[i]? = some x ∧ ys[i]? = some y ∧ H' a = some (.tup [x, y])) → Q (.ref D) H'
theorem pe_listZip {e e2 : Expr} {ta : TA} {p p2 pos2 pos : Pos} (hc : X.calm = true) (hgl : Gl X "list") (hml : X.mg "list" = none) (hg : Gl X "zip") (hm : X.mg "zip" = none) (ha : PA X [e, e2] ta)
    (hs : starEach [e, e2] X.env = (false, eval e X.env) :: starEach [e2] X.env := by rfl) (hpl : (backTo pos2 (starEach [e2] X.env)).any (·.1) = false := by rfl)
    (na : starEach [.Call (.Name "zip" p2) [e, e2] [] pos2] X.env = (false, eval (.Call (.Name "zip" p2) [e, e2] [] pos2) X.env) :: starEach [] X.env := by rfl) :
    PE X (.Call (.Name "list" p) [.Call (.Name "zip" p2) [e, e2] [] pos2] [] pos) (tListZip ta) := by
  refine ⟨fun pins s σ H Q I h => ?_⟩
  refine Call_ (ld_blt I hgl hml boot_list (PyProof.Rows.callWith_type1 (args_cons (Call_ (ld_blt I hg hm PyProof.Rows.boot_zip (PyProof.Rows.callWith_type1 (thn (ha.run pos2 pins s σ H _ I h) fun us s1 ⟨vs, H1, I1, r1, q1⟩ => ?_) hs hpl))) na) na))
  obtain ⟨a, b, xs, ys, ex, hqx, hqy, hl, hz, q⟩ := q1
  subst ex
  cases r1 with
  | cons r rr =>
    cases rr with
    | cons r' rr =>
      cases rr
      cases r
      cases r'
      obtain ⟨its, rv, p1, lt1⟩ := sq_inv (k := false) I1 hqx
      obtain ⟨its2, rv2, p2, lt2⟩ := sq_inv (k := false) I1 hqy
      have e1 := rv.length
      have e2 := rv2.length
      refine call_zip_2 p1 p2 fun h' hzp hTI hTO h1 h2 hsz hk => args_nil ?_
      have L1 : h'.IsList a its.toArray := Heap.IsList.at (show s1.heap.IsList a its.toArray from p1) fun o e => hk _ o e
      have L2 : h'.IsList b its2.toArray := Heap.IsList.at (show s1.heap.IsList b its2.toArray from p2) fun o e => hk _ o e
      have n : s1.heap.objs.size < h'.objs.size := by omega
      refine lz_call (s := { s1 with heap := h' }) (I1.ok.hd hc) (apart5 lt1 lt2) (low5 hsz lt1 lt2)
        (by simp only [List.size_toArray]; omega) (by simp only [List.size_toArray]; omega) hzp hTI hTO h1 h2 L1 L2 fun h2 tk acc c as hk2 hS hal hG hacc => ?_
      obtain ⟨H', k1, k2, k3, k4, J⟩ := zips_laid (tk := tk) (us := its) (ws := its2) (S := h'.objs.size) I1 (by omega) hz rv rv2 hl (fun b o e => hk2 b o (ne_lt (Heap.lt_size e)) (ne_lt (Heap.lt_size e)) (ne_lt (k := 0) (Heap.lt_size e)) (ne_lt (Heap.lt_size e)) (hk b o e)) hS (by rw [hal]; simp) hG hacc
      exact ⟨.ref h'.objs.size, H', J, rfl, q H' _ as k1 k2 k3 (by rw [hal, List.size_toArray]; omega) k4⟩
end
end RV

/-! the whole of a turn: what is kept -/
namespace RV
open PySem PySem.Spec PyProof.Rows L2 TL
def dVal (k : Bool) (ts : List Tk) : PyData := if k = true then .tuple (ts.map dTk) else .list (ts.map dTk)
def dKept (k : Bool) (ts : List Tk) : PyData := .list [dVal k ts, .list ((ts.map (·.1)).map PyData.str), .list ((ts.map (·.2)).map PyData.str)]
theorem dd_val {G : Hp} {k : Bool} {a : Addr} {xs : List V} {ts : List Tk} (h : Sq k G a xs) (tx : TxL G xs ts) (tk : ∀ t ∈ ts, tokS t = true) : DD G (.ref a) (dVal k ts) 2 (340 * ts.length + 3) := by
  cases k with
  | true => exact dd_txT h tx tk
  | false => exact dd_tx h tx tk
theorem kept_sh {G : Hp} {p T m w L a : Addr} {k : Bool} {xs : List V} {ts : List Tk} (f : Fc p T m w xs ts G) (h : Sq k G a xs) (tk : ∀ t ∈ ts, tokS t = true) (l : ts.length ≤ 14) (e : G L = some (.lst [.ref a, .ref m, .ref w])) : ShD G (.ref L) (dKept k ts) := by
  have d1 := dd_val h f.tx tk
  have d2 := dd_strs (G := G) (by rw [← marksV_eq]; exact f.em) (marks_small tk)
  have d3 := dd_strs (G := G) (by rw [← wordsV_eq]; exact f.ew) (words_small tk)
  rw [List.length_map] at d2 d3
  have dd := dd_list (k := 2) (c := 6000) e (.cons d1.dx (.cons d2.dx (.cons d3.dx .nil))) (fun d hd => by
    simp only [List.mem_cons, List.not_mem_nil, or_false] at hd
    rcases hd with rfl | rfl | rfl
    · exact ⟨d1.dp, d1.pl, Nat.le_trans d1.co (by omega)⟩
    · exact ⟨Nat.le_trans d2.dp (by omega), d2.pl, Nat.le_trans d2.co (by omega)⟩
    · exact ⟨Nat.le_trans d3.dp (by omega), d3.pl, Nat.le_trans d3.co (by omega)⟩)
  exact dd.sh (by decide) (by simp only [List.length_cons, List.length_nil]; omega)
theorem Sq.sam {k : Bool} {H H' : Hp} {p a : Addr} {xs : List V} (h : Sq k H a xs) (n : a ≠ p) (s : Sam p H H') : Sq k H' a xs := s _ _ n h
theorem good_val {G : Hp} {p T m w a : Addr} {k : Bool} {xs : List V} {ts : List Tk} (f : Fc p T m w xs ts G) (h : Sq k G a xs) (tk : ∀ t ∈ ts, tokS t = true) (hp : headPar ts = true) (l : ts.length ≤ 14) : GoodT G (.ref a) ts := ⟨a, xs, rfl, h.sqA, f.tx, tk, hp, by omega⟩
theorem revS_len (z : Str) : (revS z).length = z.length := by simp [revS, Str.length]
theorem revS_word {z : Str} (h : wordS z = true) : wordS (revS z) = true ∧ (revS z).length = z.length := by
  have l : (revS z).length = z.length := by simp [revS, Str.length]
  refine ⟨?_, l⟩
  unfold wordS at h ⊢
  rw [l]
  rw [Bool.and_eq_true] at h ⊢
  refine ⟨h.1, ?_⟩
  unfold onlyS at h ⊢
  rw [List.all_eq_true] at h ⊢
  intro c hc
  refine h.2 c ?_
  have : c ∈ z.cps.toList.reverse := by simpa [revS] using hc
  exact List.mem_reverse.mp this
/-- the other text: the words turned, some marks another paragraph -/
def RelO (t u : Tk) : Prop := u.2 = revS t.2 ∧ (u.1 = t.1 ∨ u.1 = Str.ofString "#1")
theorem m1_par : markS (Str.ofString "#1") = true ∧ (Str.ofString "#1").cps.toList.head? = some 35 := by decide +kernel
theorem relO_tok {t u : Tk} (h : tokS t = true) (r : RelO t u) : tokS u = true := by
  obtain ⟨hm, hw⟩ := tok_parts h
  obtain ⟨e2, e1⟩ := r
  unfold tokS
  rw [e2, (revS_word hw).1, Bool.and_true]
  rcases e1 with e | e
  · rw [e, hm]
  · rw [e, m1_par.1]
theorem relO_all : ∀ {ts us : List Tk}, Paired RelO ts us → (∀ t ∈ ts, tokS t = true) → ∀ u ∈ us, tokS u = true
  | _, _, .nil, _ => fun _ h => nomatch h
  | _, _, .cons r p, h => fun u hu => by
    rcases List.mem_cons.mp hu with rfl | hu
    · exact relO_tok (h _ (by simp)) r
    · exact relO_all p (fun t ht => h t (by simp [ht])) u hu
theorem relO_len : ∀ {ts us : List Tk}, Paired RelO ts us → lensV ts = lensV us
  | _, _, .nil => rfl
  | _, _, .cons r p => by
    have ih := relO_len p
    unfold lensV at ih ⊢
    rw [List.map_cons, List.map_cons, ih, r.1, revS_len]
theorem relO_head {ts us : List Tk} (p : Paired RelO ts us) (h : headPar ts = true) : headPar us = true := by
  cases p with
  | nil => rfl
  | cons r _ =>
    obtain ⟨_, e⟩ := r
    rcases e with e | e
    · show decide _ = true
      rw [e]
      exact h
    · show decide _ = true
      rw [e]
      exact decide_eq_true m1_par.2
theorem paired_snoc {α β : Type} {F : α → β → Prop} : ∀ {xs : List α} {ys : List β} {x : α} {y : β}, Paired F xs ys → F x y → Paired F (xs ++ [x]) (ys ++ [y])
  | _, _, _, _, .nil, h => .cons h .nil
  | _, _, _, _, .cons a b, h => .cons a (paired_snoc b h)
theorem relO_lens {ts us : List Tk} (p : Paired RelO ts us) : us.length = ts.length := (Paired.length p).symm
theorem unl_comm {ts us : List Tk} (h : us.length = ts.length) : unlI us ts = unlI ts us := by
  unfold unlI
  rw [h]
  congr 1
  funext i
  rw [Bool.eq_iff_iff, Bool.not_eq_true', Bool.not_eq_true', decide_eq_false_iff_not, decide_eq_false_iff_not]
  exact not_congr eq_comm
def unlZ (ts us : List Tk) : List Int := (unlI ts us).map fun i : Nat => (i : Int)
theorem unlV_eq (ts us : List Tk) : unlV ts us = (unlZ ts us).map V.int := by
  unfold unlV unlZ
  rw [List.map_map]
  rfl
theorem sIx_some {n k : Nat} {d : Nat} : HT.sIx n d (some (k : Int)) = min k n := by
  unfold HT.sIx
  simp only
  split <;> omega
theorem cutT_last (ts : List Tk) : cutT ts none (some (-1)) = ts.take (ts.length - 1) := by
  unfold cutT
  rw [show HT.sIx ts.length 0 none = 0 from rfl, show HT.sIx ts.length ts.length (some (-1)) = ts.length - 1 from by
    unfold HT.sIx
    simp only
    split <;> omega]
  simp
theorem cutR_to (rs : List Str) (k : Nat) : cutR rs none (some (k : Int)) = rs.take k := by
  unfold cutR
  rw [show HT.sIx rs.length 0 none = 0 from rfl, sIx_some, List.drop_zero, Nat.sub_zero]
  by_cases h : k ≤ rs.length
  · rw [Nat.min_eq_left h]
  · rw [Nat.min_eq_right (by omega), List.take_of_length_le (Nat.le_refl _), List.take_of_length_le (by omega)]
theorem cutR_from (rs : List Str) (k : Nat) : cutR rs (some (k : Int)) none = rs.drop k := by
  unfold cutR
  rw [sIx_some, show HT.sIx rs.length rs.length none = rs.length from rfl]
  by_cases h : k ≤ rs.length
  · rw [Nat.min_eq_left h, List.take_of_length_le (by rw [List.length_drop]; omega)]
  · rw [Nat.min_eq_right (by omega), List.drop_of_length_le (Nat.le_refl _), List.drop_of_length_le (by omega), List.take_nil]
theorem cutR_mid (rs : List Str) (a b : Nat) (h : a ≤ rs.length) : cutR rs (some (a : Int)) (some ((a + b : Nat) : Int)) = (rs.drop a).take b := by
  unfold cutR
  rw [sIx_some, sIx_some, Nat.min_eq_left h]
  by_cases h2 : a + b ≤ rs.length
  · rw [Nat.min_eq_left h2, show a + b - a = b from by omega]
  · rw [Nat.min_eq_right (by omega), List.take_of_length_le (by rw [List.length_drop]; omega), List.take_of_length_le (by rw [List.length_drop]; omega)]
/-- two words beside one another exchanged -/
def turnW (ws : List Str) (i : Nat) : List Str := cutR ws none (some (i : Int)) ++ (cutR ws (some (i : Int)) (some ((i + 2 : Nat) : Int))).reverse ++ cutR ws (some ((i + 2 : Nat) : Int)) none
theorem turnW_len {ws : List Str} {i : Nat} (h : i ≤ ws.length) : (turnW ws i).length = ws.length := by
  unfold turnW
  rw [cutR_to, cutR_mid ws i 2 h, cutR_from]
  simp only [List.length_append, List.length_reverse, List.length_take, List.length_drop]
  omega
theorem turnW_mem {ws : List Str} {i : Nat} {z : Str} (h : z ∈ turnW ws i) : z ∈ ws := by
  unfold turnW at h
  rcases List.mem_append.mp h with h | h
  · rcases List.mem_append.mp h with h | h
    · exact cutR_mem h
    · exact cutR_mem (List.mem_reverse.mp h)
  · exact cutR_mem h
theorem headPar_take {ts : List Tk} {n : Nat} (h : headPar ts = true) : headPar (ts.take n) = true := by
  cases ts with
  | nil => simpa using h
  | cons t r =>
    cases n with
    | zero => rfl
    | succ n => exact h
theorem headPar_app {ts us : List Tk} (h : headPar ts = true) (hu : ts = [] → headPar us = true) : headPar (ts ++ us) = true := by
  cases ts with
  | nil => exact hu rfl
  | cons t r => exact h
theorem wordS_a {z : Str} (h : wordS z = true) (l : z.length < 30) : wordS (z ++ Str.ofString "a") = true := by
  unfold wordS at h ⊢
  rw [len_app, show (Str.ofString "a").length = 1 from by decide +kernel]
  rw [Bool.and_eq_true] at h ⊢
  refine ⟨by rw [decide_eq_true (show 1 ≤ z.length + 1 by omega), decide_eq_true (show z.length + 1 ≤ 30 by omega)]; rfl, ?_⟩
  have h2 := h.2
  unfold onlyS at h2 ⊢
  rw [show (z ++ Str.ofString "a").cps.toList = z.cps.toList ++ (Str.ofString "a").cps.toList from tl_append _ _, List.all_append, h2, Bool.true_and]
  decide +kernel
theorem split_last {ts : List Tk} {t : Tk} (ht : ts[ts.length - 1]? = some t) : ts = ts.take (ts.length - 1) ++ [t] := by
  have hl := (List.getElem?_eq_some_iff.mp ht).1
  have h := List.take_add_one (l := ts) (i := ts.length - 1)
  rw [ht, show ts.length - 1 + 1 = ts.length from by omega, List.take_length] at h
  exact h
theorem lensV_app (a b : List Tk) : lensV (a ++ b) = lensV a ++ lensV b := List.map_append
theorem longer_good {ts : List Tk} {t : Tk} (ht : ts[ts.length - 1]? = some t) (tk : ∀ u ∈ ts, tokS u = true) (hp : headPar ts = true) (l : t.2.length < 30) :
    (∀ u ∈ ts.take (ts.length - 1) ++ [(t.1, t.2 ++ Str.ofString "a")], tokS u = true) ∧ headPar (ts.take (ts.length - 1) ++ [(t.1, t.2 ++ Str.ofString "a")]) = true ∧ lensV ts ≠ lensV (ts.take (ts.length - 1) ++ [(t.1, t.2 ++ Str.ofString "a")]) := by
  have sp := split_last ht
  refine ⟨fun u hu => ?_, headPar_app (headPar_take hp) fun e => ?_, fun e => ?_⟩
  · rcases List.mem_append.mp hu with h | h
    · exact tk u (List.mem_of_mem_take h)
    · rw [List.mem_singleton.mp h]
      obtain ⟨hm, hw⟩ := tok_parts (tk t (List.mem_of_getElem? ht))
      unfold tokS
      rw [hm, wordS_a hw l]
      rfl
  · rw [e, List.nil_append] at sp
    rw [sp] at hp
    exact hp
  · have e2 : lensV (ts.take (ts.length - 1) ++ [t]) = lensV (ts.take (ts.length - 1) ++ [(t.1, t.2 ++ Str.ofString "a")]) := by rw [← sp]; exact e
    rw [lensV_app, lensV_app] at e2
    have e3 := List.append_cancel_left e2
    have e4 : V.int (t.2.length : Int) = V.int ((t.2 ++ Str.ofString "a").length : Int) := (List.cons.inj e3).1
    have e5 := V.int.inj e4
    rw [len_app, show (Str.ofString "a").length = 1 from by decide +kernel] at e5
    omega
theorem shorter_lens {ts : List Tk} (h : 0 < ts.length) : lensV ts ≠ lensV (ts.take (ts.length - 1)) := fun e => by
  have := congrArg List.length e
  simp only [lensV, List.length_map, List.length_take] at this
  omega
/-- the words of others -/
theorem swap_text {ts : List Tk} {ws : List Str} (tk : ∀ t ∈ ts, tokS t = true) (hp : headPar ts = true) (hl : ws.length = ts.length) (hw : ∀ z ∈ ws, wordS z = true) :
    (∀ u ∈ (ts.map (·.1)).zip ws, tokS u = true) ∧ headPar ((ts.map (·.1)).zip ws) = true ∧ lensV ((ts.map (·.1)).zip ws) = ws.map (fun z => V.int (z.length : Int)) := by
  refine ⟨fun u hu => ?_, ?_, ?_⟩
  · have h1 := List.of_mem_zip (a := u.1) (b := u.2) hu
    obtain ⟨t, ht, e⟩ := List.mem_map.mp h1.1
    unfold tokS
    rw [← e, (tok_parts (tk t ht)).1, hw _ h1.2]
    rfl
  · cases ts with
    | nil => rfl
    | cons t r =>
      cases ws with
      | nil => rfl
      | cons z u => exact hp
  · unfold lensV
    have h : ((ts.map (·.1)).zip ws).map (fun t => t.2) = ws := List.map_snd_zip (by rw [List.length_map]; omega)
    conv => rhs; rw [← h]
    rw [List.map_map]
    rfl
/-- a text of tuples made by zip -/
theorem txl_zip {H : Hp} : ∀ {as : List Addr} {ms ws : List Str}, as.length = ms.length → ws.length = ms.length → (∀ (i : Nat) (a : Addr), as[i]? = some a → ∃ x y, (ms.map V.str)[i]? = some x ∧ (ws.map V.str)[i]? = some y ∧ H a = some (.tup [x, y])) → TxL H (as.map V.ref) (ms.zip ws)
  | [], [], [], _, _, _ => .nil
  | [], _ :: _, _, h, _, _ => by cases h
  | [], [], _ :: _, _, h, _ => by cases h
  | _ :: _, [], _, h, _, _ => by cases h
  | _ :: _, _ :: _, [], _, h, _ => by cases h
  | a :: as, m :: ms, w :: ws, h1, h2, h => by
    refine .cons ?_ (txl_zip (as := as) (ms := ms) (ws := ws) (by simpa using h1) (by simpa using h2) fun i b hb => ?_)
    · obtain ⟨x, y, ex, ey, e⟩ := h 0 a rfl
      cases Option.some.inj ex
      cases Option.some.inj ey
      exact ⟨a, rfl, e⟩
    · obtain ⟨x, y, ex, ey, e⟩ := h (i + 1) b (by simpa using hb)
      exact ⟨x, y, by simpa using ex, by simpa using ey, e⟩
end RV

namespace RV
open PySem PySem.Spec PyProof.Rows L2 TL
def topS (i : Nat) : Stmt := PySem.Challenge.pw_reflows_k11_texts_told.main.body.getD i (.Pass ⟨0, 0, 0, 0⟩)
abbrev s_is_word : Stmt := topS 10
theorem sc_is_word : FnScope ["value"] ["value"] (defScope s_is_word) := ⟨rfl, rfl, rfl, by decide +kernel, rfl, by decide +kernel, by decide +kernel⟩
abbrev s_is_mark : Stmt := topS 11
theorem sc_is_mark : FnScope ["value"] ["value"] (defScope s_is_mark) := ⟨rfl, rfl, rfl, by decide +kernel, rfl, by decide +kernel, by decide +kernel⟩
abbrev s_is_token : Stmt := topS 12
theorem sc_is_token : FnScope ["value"] ["value"] (defScope s_is_token) := ⟨rfl, rfl, rfl, by decide +kernel, rfl, by decide +kernel, by decide +kernel⟩
abbrev s_kind_of : Stmt := topS 13
theorem sc_kind_of : FnScope ["mark"] ["mark"] (defScope s_kind_of) := ⟨rfl, rfl, rfl, by decide +kernel, rfl, by decide +kernel, by decide +kernel⟩
abbrev s__has_only : Stmt := topS 14
theorem sc__has_only : FnScope ["text", "characters", "character"] ["text", "characters"] (defScope s__has_only) := ⟨rfl, rfl, rfl, by decide +kernel, rfl, by decide +kernel, by decide +kernel⟩
abbrev s_is_text : Stmt := topS 16
theorem sc_is_text : FnScope ["value", "token"] ["value"] (defScope s_is_text) := ⟨rfl, rfl, rfl, by decide +kernel, rfl, by decide +kernel, by decide +kernel⟩
abbrev s_text_of : Stmt := topS 17
theorem sc_text_of : FnScope ["marks", "words", "mark", "word"] ["marks", "words"] (defScope s_text_of) := ⟨rfl, rfl, rfl, by decide +kernel, rfl, by decide +kernel, by decide +kernel⟩
abbrev s_marks_of : Stmt := topS 18
theorem sc_marks_of : FnScope ["text", "token"] ["text"] (defScope s_marks_of) := ⟨rfl, rfl, rfl, by decide +kernel, rfl, by decide +kernel, by decide +kernel⟩
abbrev s_lengths_of : Stmt := topS 19
theorem sc_lengths_of : FnScope ["text", "token"] ["text"] (defScope s_lengths_of) := ⟨rfl, rfl, rfl, by decide +kernel, rfl, by decide +kernel, by decide +kernel⟩
abbrev s_unlike_marks : Stmt := topS 20
theorem sc_unlike_marks : FnScope ["one", "other", "index"] ["one", "other"] (defScope s_unlike_marks) := ⟨rfl, rfl, rfl, by decide +kernel, rfl, by decide +kernel, by decide +kernel⟩
abbrev s__check_text : Stmt := topS 21
theorem sc__check_text : FnScope ["text"] ["text"] (defScope s__check_text) := ⟨rfl, rfl, rfl, by decide +kernel, rfl, by decide +kernel, by decide +kernel⟩
abbrev s__is_mark_row : Stmt := topS 22
theorem sc__is_mark_row : FnScope ["value", "mark"] ["value"] (defScope s__is_mark_row) := ⟨rfl, rfl, rfl, by decide +kernel, rfl, by decide +kernel, by decide +kernel⟩
abbrev s__is_word_row : Stmt := topS 23
theorem sc__is_word_row : FnScope ["value", "word"] ["value"] (defScope s__is_word_row) := ⟨rfl, rfl, rfl, by decide +kernel, rfl, by decide +kernel, by decide +kernel⟩
abbrev s__law_cell : Stmt := topS 25
theorem sc__law_cell : FnScope ["_law_script", "_law_k"] ["_law_script", "_law_k"] (defScope s__law_cell) := ⟨rfl, rfl, rfl, by decide +kernel, rfl, by decide +kernel, by decide +kernel⟩
abbrev s__law_purse : Stmt := topS 26
theorem sc__law_purse : FnScope ["_law_cell_here"] ["_law_cell_here"] (defScope s__law_purse) := ⟨rfl, rfl, rfl, by decide +kernel, rfl, by decide +kernel, by decide +kernel⟩
abbrev s__law_take : Stmt := topS 27
theorem sc__law_take : FnScope ["_law_purse_here", "_law_many", "_law_digit", "_law_number"] ["_law_purse_here", "_law_many"] (defScope s__law_take) := ⟨rfl, rfl, rfl, by decide +kernel, rfl, by decide +kernel, by decide +kernel⟩
abbrev s__law_all_marks : Stmt := topS 28
theorem sc__law_all_marks : FnScope [] [] (defScope s__law_all_marks) := ⟨rfl, rfl, rfl, by decide +kernel, rfl, by decide +kernel, by decide +kernel⟩
abbrev s__law_mark : Stmt := topS 29
theorem sc__law_mark : FnScope ["_law_purse_here"] ["_law_purse_here"] (defScope s__law_mark) := ⟨rfl, rfl, rfl, by decide +kernel, rfl, by decide +kernel, by decide +kernel⟩
abbrev s__law_word : Stmt := topS 30
theorem sc__law_word : FnScope ["_law_purse_here", "_law_most", "_law_letters", "_law_k"] ["_law_purse_here", "_law_most"] (defScope s__law_word) := ⟨rfl, rfl, rfl, by decide +kernel, rfl, by decide +kernel, by decide +kernel⟩
abbrev s__law_text : Stmt := topS 31
theorem sc__law_text : FnScope ["_law_purse_here", "_law_many", "_law_most", "_law_text_here", "_law_k", "_law_mark_here"] ["_law_purse_here", "_law_many", "_law_most"] (defScope s__law_text) := ⟨rfl, rfl, rfl, by decide +kernel, rfl, by decide +kernel, by decide +kernel⟩
abbrev s__law_is_mark : Stmt := topS 32
theorem sc__law_is_mark : FnScope ["_law_value"] ["_law_value"] (defScope s__law_is_mark) := ⟨rfl, rfl, rfl, by decide +kernel, rfl, by decide +kernel, by decide +kernel⟩
abbrev s__law_is_word : Stmt := topS 33
theorem sc__law_is_word : FnScope ["_law_value", "_law_sign"] ["_law_value"] (defScope s__law_is_word) := ⟨rfl, rfl, rfl, by decide +kernel, rfl, by decide +kernel, by decide +kernel⟩
abbrev s__law_are_marks : Stmt := topS 34
theorem sc__law_are_marks : FnScope ["_law_value", "_law_one"] ["_law_value"] (defScope s__law_are_marks) := ⟨rfl, rfl, rfl, by decide +kernel, rfl, by decide +kernel, by decide +kernel⟩
abbrev s__law_good : Stmt := topS 35
theorem sc__law_good : FnScope ["_law_value", "_law_token"] ["_law_value"] (defScope s__law_good) := ⟨rfl, rfl, rfl, by decide +kernel, rfl, by decide +kernel, by decide +kernel⟩
abbrev s__law_odd_thing : Stmt := topS 36
theorem sc__law_odd_thing : FnScope ["_law_purse_here", "_law_thing", "_law_some"] ["_law_purse_here", "_law_thing"] (defScope s__law_odd_thing) := ⟨rfl, rfl, rfl, by decide +kernel, rfl, by decide +kernel, by decide +kernel⟩
abbrev s__law_spoilt : Stmt := topS 37
theorem sc__law_spoilt : FnScope ["_law_purse_here", "_law_text_here", "_law_at", "_law_mark_here", "_law_word_here", "_law_odd", "_law_way"] ["_law_purse_here", "_law_text_here"] (defScope s__law_spoilt) := ⟨rfl, rfl, rfl, by decide +kernel, rfl, by decide +kernel, by decide +kernel⟩
abbrev s__law_refused : Stmt := topS 38
theorem sc__law_refused : FnScope ["_law_way", "_law_one", "_law_other", "_law_found", "e"] ["_law_way", "_law_one", "_law_other"] (defScope s__law_refused) := ⟨rfl, rfl, rfl, by decide +kernel, rfl, by decide +kernel, by decide +kernel⟩
abbrev s__law_texts_right : Stmt := topS 39
theorem sc__law_texts_right : FnScope ["_law_text_here", "_law_marks", "_law_words", "_law_word_here", "_law_told"] ["_law_text_here", "_law_marks", "_law_words"] (defScope s__law_texts_right) := ⟨rfl, rfl, rfl, by decide +kernel, rfl, by decide +kernel, by decide +kernel⟩
abbrev s__law_odds_right : Stmt := topS 40
theorem sc__law_odds_right : FnScope ["_law_purse_here", "_law_text_here", "_law_marks", "_law_words", "_law_odd", "_law_way", "_law_pair", "_law_at", "_law_bad", "_law_told", "_law_fewer", "_law_one"] ["_law_purse_here", "_law_text_here", "_law_marks", "_law_words"] (defScope s__law_odds_right) := ⟨rfl, rfl, rfl, by decide +kernel, rfl, by decide +kernel, by decide +kernel⟩
abbrev s__law_right : Stmt := topS 41
theorem sc__law_right : FnScope ["_law_purse_here", "_law_text_here", "_law_marks", "_law_words", "_law_token", "_law_value", "_law_kept", "_law_other", "_law_mark_here", "_law_word_here", "_law_due", "_law_k", "_law_longer", "_law_at", "_law_turned", "_law_swapped"] ["_law_purse_here"] (defScope s__law_right) := ⟨rfl, rfl, rfl, by decide +kernel, rfl, by decide +kernel, by decide +kernel⟩
abbrev s_law : Stmt := topS 42
theorem sc_law : FnScope ["_law_script", "_law_k"] ["_law_script"] (defScope s_law) := ⟨rfl, rfl, rfl, by decide +kernel, rfl, by decide +kernel, by decide +kernel⟩
structure TX (P : Program) (w : World) (K : PySem.W.Frag) (mg : Str → Option Value) where
  C_ReflowError : Addr
  gc_ReflowError : mg "ReflowError" = some (.ref C_ReflowError)
  C_InvalidMark : Addr
  I_InvalidMark : Addr
  x_InvalidMark : PySem.SupX.SupTxt P K mg "InvalidMark" "InvalidMark.__init__" "value" "not a mark" C_InvalidMark I_InvalidMark
  C_InvalidMarks : Addr
  I_InvalidMarks : Addr
  x_InvalidMarks : PySem.SupX.SupTxt P K mg "InvalidMarks" "InvalidMarks.__init__" "value" "not a row of marks" C_InvalidMarks I_InvalidMarks
  C_InvalidWords : Addr
  I_InvalidWords : Addr
  x_InvalidWords : PySem.SupX.SupTxt P K mg "InvalidWords" "InvalidWords.__init__" "value" "not the words of these marks" C_InvalidWords I_InvalidWords
  C_InvalidText : Addr
  I_InvalidText : Addr
  x_InvalidText : PySem.SupX.SupTxt P K mg "InvalidText" "InvalidText.__init__" "value" "not a text" C_InvalidText I_InvalidText
  a_is_word : Addr
  d_is_word : FuncData
  F_is_word : Fun K "is_word" "is_word" s_is_word a_is_word d_is_word
  g_is_word : mg "is_word" = some (.ref a_is_word)
  b_is_word : Binds K d_is_word ["value"] []
  a_is_mark : Addr
  d_is_mark : FuncData
  F_is_mark : Fun K "is_mark" "is_mark" s_is_mark a_is_mark d_is_mark
  g_is_mark : mg "is_mark" = some (.ref a_is_mark)
  b_is_mark : Binds K d_is_mark ["value"] []
  a_is_token : Addr
  d_is_token : FuncData
  F_is_token : Fun K "is_token" "is_token" s_is_token a_is_token d_is_token
  g_is_token : mg "is_token" = some (.ref a_is_token)
  b_is_token : Binds K d_is_token ["value"] []
  a_kind_of : Addr
  d_kind_of : FuncData
  F_kind_of : Fun K "kind_of" "kind_of" s_kind_of a_kind_of d_kind_of
  g_kind_of : mg "kind_of" = some (.ref a_kind_of)
  b_kind_of : Binds K d_kind_of ["mark"] []
  a__has_only : Addr
  d__has_only : FuncData
  F__has_only : Fun K "_has_only" "_has_only" s__has_only a__has_only d__has_only
  g__has_only : mg "_has_only" = some (.ref a__has_only)
  b__has_only : Binds K d__has_only ["text", "characters"] []
  a_is_text : Addr
  d_is_text : FuncData
  F_is_text : Fun K "is_text" "is_text" s_is_text a_is_text d_is_text
  g_is_text : mg "is_text" = some (.ref a_is_text)
  b_is_text : Binds K d_is_text ["value"] []
  a_text_of : Addr
  d_text_of : FuncData
  F_text_of : Fun K "text_of" "text_of" s_text_of a_text_of d_text_of
  g_text_of : mg "text_of" = some (.ref a_text_of)
  b_text_of : Binds K d_text_of ["marks", "words"] []
  a_marks_of : Addr
  d_marks_of : FuncData
  F_marks_of : Fun K "marks_of" "marks_of" s_marks_of a_marks_of d_marks_of
  g_marks_of : mg "marks_of" = some (.ref a_marks_of)
  b_marks_of : Binds K d_marks_of ["text"] []
  a_lengths_of : Addr
  d_lengths_of : FuncData
  F_lengths_of : Fun K "lengths_of" "lengths_of" s_lengths_of a_lengths_of d_lengths_of
  g_lengths_of : mg "lengths_of" = some (.ref a_lengths_of)
  b_lengths_of : Binds K d_lengths_of ["text"] []
  a_unlike_marks : Addr
  d_unlike_marks : FuncData
  F_unlike_marks : Fun K "unlike_marks" "unlike_marks" s_unlike_marks a_unlike_marks d_unlike_marks
  g_unlike_marks : mg "unlike_marks" = some (.ref a_unlike_marks)
  b_unlike_marks : Binds K d_unlike_marks ["one", "other"] []
  a__check_text : Addr
  d__check_text : FuncData
  F__check_text : Fun K "_check_text" "_check_text" s__check_text a__check_text d__check_text
  g__check_text : mg "_check_text" = some (.ref a__check_text)
  b__check_text : Binds K d__check_text ["text"] []
  a__is_mark_row : Addr
  d__is_mark_row : FuncData
  F__is_mark_row : Fun K "_is_mark_row" "_is_mark_row" s__is_mark_row a__is_mark_row d__is_mark_row
  g__is_mark_row : mg "_is_mark_row" = some (.ref a__is_mark_row)
  b__is_mark_row : Binds K d__is_mark_row ["value"] []
  a__is_word_row : Addr
  d__is_word_row : FuncData
  F__is_word_row : Fun K "_is_word_row" "_is_word_row" s__is_word_row a__is_word_row d__is_word_row
  g__is_word_row : mg "_is_word_row" = some (.ref a__is_word_row)
  b__is_word_row : Binds K d__is_word_row ["value"] []
  a__law_cell : Addr
  d__law_cell : FuncData
  F__law_cell : Fun K "_law_cell" "_law_cell" s__law_cell a__law_cell d__law_cell
  g__law_cell : mg "_law_cell" = some (.ref a__law_cell)
  b__law_cell : Binds K d__law_cell ["_law_script", "_law_k"] []
  a__law_purse : Addr
  d__law_purse : FuncData
  F__law_purse : Fun K "_law_purse" "_law_purse" s__law_purse a__law_purse d__law_purse
  g__law_purse : mg "_law_purse" = some (.ref a__law_purse)
  b__law_purse : Binds K d__law_purse ["_law_cell_here"] []
  a__law_take : Addr
  d__law_take : FuncData
  F__law_take : Fun K "_law_take" "_law_take" s__law_take a__law_take d__law_take
  g__law_take : mg "_law_take" = some (.ref a__law_take)
  b__law_take : Binds K d__law_take ["_law_purse_here", "_law_many"] []
  a__law_all_marks : Addr
  d__law_all_marks : FuncData
  F__law_all_marks : Fun K "_law_all_marks" "_law_all_marks" s__law_all_marks a__law_all_marks d__law_all_marks
  g__law_all_marks : mg "_law_all_marks" = some (.ref a__law_all_marks)
  b__law_all_marks : Binds K d__law_all_marks [] []
  a__law_mark : Addr
  d__law_mark : FuncData
  F__law_mark : Fun K "_law_mark" "_law_mark" s__law_mark a__law_mark d__law_mark
  g__law_mark : mg "_law_mark" = some (.ref a__law_mark)
  b__law_mark : Binds K d__law_mark ["_law_purse_here"] []
  a__law_word : Addr
  d__law_word : FuncData
  F__law_word : Fun K "_law_word" "_law_word" s__law_word a__law_word d__law_word
  g__law_word : mg "_law_word" = some (.ref a__law_word)
  b__law_word : Binds K d__law_word ["_law_purse_here", "_law_most"] []
  a__law_text : Addr
  d__law_text : FuncData
  F__law_text : Fun K "_law_text" "_law_text" s__law_text a__law_text d__law_text
  g__law_text : mg "_law_text" = some (.ref a__law_text)
  b__law_text : Binds K d__law_text ["_law_purse_here", "_law_many", "_law_most"] []
  a__law_is_mark : Addr
  d__law_is_mark : FuncData
  F__law_is_mark : Fun K "_law_is_mark" "_law_is_mark" s__law_is_mark a__law_is_mark d__law_is_mark
  g__law_is_mark : mg "_law_is_mark" = some (.ref a__law_is_mark)
  b__law_is_mark : Binds K d__law_is_mark ["_law_value"] []
  a__law_is_word : Addr
  d__law_is_word : FuncData
  F__law_is_word : Fun K "_law_is_word" "_law_is_word" s__law_is_word a__law_is_word d__law_is_word
  g__law_is_word : mg "_law_is_word" = some (.ref a__law_is_word)
  b__law_is_word : Binds K d__law_is_word ["_law_value"] []
  a__law_are_marks : Addr
  d__law_are_marks : FuncData
  F__law_are_marks : Fun K "_law_are_marks" "_law_are_marks" s__law_are_marks a__law_are_marks d__law_are_marks
  g__law_are_marks : mg "_law_are_marks" = some (.ref a__law_are_marks)
  b__law_are_marks : Binds K d__law_are_marks ["_law_value"] []
  a__law_good : Addr
  d__law_good : FuncData
  F__law_good : Fun K "_law_good" "_law_good" s__law_good a__law_good d__law_good
  g__law_good : mg "_law_good" = some (.ref a__law_good)
  b__law_good : Binds K d__law_good ["_law_value"] []
  a__law_odd_thing : Addr
  d__law_odd_thing : FuncData
  F__law_odd_thing : Fun K "_law_odd_thing" "_law_odd_thing" s__law_odd_thing a__law_odd_thing d__law_odd_thing
  g__law_odd_thing : mg "_law_odd_thing" = some (.ref a__law_odd_thing)
  b__law_odd_thing : Binds K d__law_odd_thing ["_law_purse_here", "_law_thing"] []
  a__law_spoilt : Addr
  d__law_spoilt : FuncData
  F__law_spoilt : Fun K "_law_spoilt" "_law_spoilt" s__law_spoilt a__law_spoilt d__law_spoilt
  g__law_spoilt : mg "_law_spoilt" = some (.ref a__law_spoilt)
  b__law_spoilt : Binds K d__law_spoilt ["_law_purse_here", "_law_text_here"] []
  a__law_refused : Addr
  d__law_refused : FuncData
  F__law_refused : Fun K "_law_refused" "_law_refused" s__law_refused a__law_refused d__law_refused
  g__law_refused : mg "_law_refused" = some (.ref a__law_refused)
  b__law_refused : Binds K d__law_refused ["_law_way", "_law_one", "_law_other"] []
  a__law_texts_right : Addr
  d__law_texts_right : FuncData
  F__law_texts_right : Fun K "_law_texts_right" "_law_texts_right" s__law_texts_right a__law_texts_right d__law_texts_right
  g__law_texts_right : mg "_law_texts_right" = some (.ref a__law_texts_right)
  b__law_texts_right : Binds K d__law_texts_right ["_law_text_here", "_law_marks", "_law_words"] []
  a__law_odds_right : Addr
  d__law_odds_right : FuncData
  F__law_odds_right : Fun K "_law_odds_right" "_law_odds_right" s__law_odds_right a__law_odds_right d__law_odds_right
  g__law_odds_right : mg "_law_odds_right" = some (.ref a__law_odds_right)
  b__law_odds_right : Binds K d__law_odds_right ["_law_purse_here", "_law_text_here", "_law_marks", "_law_words"] []
  a__law_right : Addr
  d__law_right : FuncData
  F__law_right : Fun K "_law_right" "_law_right" s__law_right a__law_right d__law_right
  g__law_right : mg "_law_right" = some (.ref a__law_right)
  b__law_right : Binds K d__law_right ["_law_purse_here"] []
  a_law : Addr
  d_law : FuncData
  F_law : Fun K "law" "law" s_law a_law d_law
  g_law : mg "law" = some (.ref a_law)
  b_law : Binds K d_law ["_law_script"] []
  ne_InvalidMarks_InvalidText : PySem.W.exmOne K (.ref C_InvalidMarks) (.ref C_InvalidText) = some false
  ne_InvalidWords_InvalidText : PySem.W.exmOne K (.ref C_InvalidWords) (.ref C_InvalidText) = some false
  ne_InvalidWords_InvalidMarks : PySem.W.exmOne K (.ref C_InvalidWords) (.ref C_InvalidMarks) = some false
  m_all : mg "all" = none
  m_enumerate : mg "enumerate" = none
  m_isinstance : mg "isinstance" = none
  m_len : mg "len" = none
  m_list : mg "list" = none
  m_max : mg "max" = none
  m_min : mg "min" = none
  m_range : mg "range" = none
  m_repr : mg "repr" = none
  m_str : mg "str" = none
  m_tuple : mg "tuple" = none
  m_zip : mg "zip" = none
  t_LETTERS : Tok
  c_LETTERS : mg "LETTERS" = some (.str (Str.ofString "abcdefghijklmnopqrstuvwxyz") t_LETTERS)
  t_LONGEST_WORD : Tok
  c_LONGEST_WORD : mg "LONGEST_WORD" = some (.int 30 t_LONGEST_WORD)
  a_MARK_PLACES : Addr
  c_MARK_PLACES : mg "MARK_PLACES" = some (.ref a_MARK_PLACES)
  e_MARK_PLACES : Array DictEntry
  n_MARK_PLACES : Nat
  k_MARK_PLACES : KDict K w a_MARK_PLACES e_MARK_PLACES n_MARK_PLACES
  i_MARK_PLACES : ∀ z : Str, ∃ r, PySem.W.nsIn K a_MARK_PLACES z = some r ∧ r.isSome = markS z
section
variable {P : Program} {w : World} {K : PySem.W.Frag} {mg : Str → Option Value} {base : Heap}
theorem ok__has_only (T : TX P w K mg) : FnOk P w K mg base CX0 1 T.a__has_only T.d__has_only ["text", "characters"] (spOnly) := by
  refine T.F__has_only.ok sc__has_only (fun vs H Q E h => ?_) (fun cdv A outer s H vs Q E hr h => ?_)
  · obtain ⟨z, cs, rfl, hz, q⟩ := h
    rfl
  · obtain ⟨z, cs, rfl, hz, q⟩ := h
    refine ⟨_, (pss_one (ps_ret (pe_callB (cr_all rfl) (by rfl) T.m_all (by decide +kernel) (pa_cons (pe_lc (own := [("character", 2)]) (tt := tYes) rfl sc__has_only.nd (pi_str (pv 0)) (blkOk_by (N := ["text", "characters", "character"]) (sc := defScope s__has_only) (by decide +kernel)) (fun _ _ _ _ _ => (pg_name (i := 2) sc__has_only.nd rfl (by first | exact Or.inl rfl | exact Or.inr rfl))) (fun _ _ _ _ _ => pts_nil) (fun _ _ _ _ _ => (pe_cmpR op_in_sign (pv 2) (pv 1) (by rfl)))) pa_nil)))), ?_⟩
    refine ⟨_, rfl, z, rfl, fun D hD => ?_⟩
    refine lc_it walk_str (fun i H' => H' = upd H D (.lst (((z.cps.toList.take i).map fun c => decide (c ∈ cs.cps.toList)).map V.bl))) rfl (fun _ _ _ _ => trivial) (fun i x H1 H2 hi hP hY => ?_) (fun H1 hP => ?_)
    · obtain ⟨rfl, c, hc, rfl⟩ := hY
      subst hP
      refine ⟨rfl, _, rfl, _, rfl, c, cs, rfl, rfl, _, upd_same, ?_, ?_⟩
      · rw [List.length_map, List.length_map, List.length_take]
        exact sz (by rw [len_list]; omega)
      · rw [upd_upd, List.take_add_one, show z.cps.toList[i]? = some c from by rw [← hc]; simp]
        simp
    · subst hP
      refine ⟨D, _, rfl, SqL.of upd_same, ?_⟩
      have e : ((z.cps.toList.take z.cps.size).map fun c => decide (c ∈ cs.cps.toList)).all id = onlyS z cs := by
        rw [List.take_of_length_le (by simp)]
        unfold onlyS
        rw [List.all_map]
        rfl
      rw [e]
      exact q _ (same_new (Same.refl H) hD)

theorem ok_is_word (T : TX P w K mg) : FnOk P w K mg base CX0 2 T.a_is_word T.d_is_word ["value"] (spIsWord) := by
  refine T.F_is_word.ok sc_is_word (fun vs H Q E h => ?_) (fun cdv A outer s H vs Q E hr h => ?_)
  · obtain ⟨v, t, rfl, ty, q⟩ := h
    rfl
  · obtain ⟨v, t, rfl, ty, q⟩ := h
    refine ⟨_, (pss_one (ps_ret (pe_and (pe_callB call_isi (by rfl) T.m_isinstance (by decide +kernel) (pa_cons (pv 0) (pa_cons (pe_bltn (v := V.ty "str") (u := .type "str") (by rfl) T.m_str (by decide +kernel) rfl) pa_nil))) (pe_and (pe_chain op_le op_le pe_int (pe_callB call_len_str (by rfl) T.m_len (by decide +kernel) (pa_cons (pv 0) pa_nil)) (pe_glob (v := V.int 30) (by rfl) T.c_LONGEST_WORD ⟨_, rfl⟩)) (pe_one (pe_call (ok__has_only T) (hr.mono (by decide)) (by rfl) T.g__has_only T.F__has_only.kp T.b__has_only .nil pass0 (pa_cons (pv 0) (pa_cons (pe_glob (v := V.str (Str.ofString "abcdefghijklmnopqrstuvwxyz")) (by rfl) T.c_LETTERS ⟨_, rfl⟩) pa_nil)))))))), ?_⟩
    refine ⟨_, rfl, _, _, _, _, _, rfl, .ty _, ty.x, kit_ty (kit_str ty), _, rfl, ?_⟩
    cases ty with
    | str z h =>
      refine iteT ⟨_, rfl, z, rfl, szl (by omega), _, _, rfl, rfl, _, rfl, ?_⟩
      have qq : ∀ (b : Bool), wordS z = b → ∀ H', Same H H' → Q (.bl b) H' := fun b e => by
        rw [← e]
        exact q
      by_cases c : (1 : Int) ≤ (z.length : Int)
      · rw [if_pos (decide_eq_true c)]
        refine ⟨_, _, rfl, rfl, _, rfl, ?_⟩
        by_cases c2 : (z.length : Int) ≤ 30
        · rw [if_pos (decide_eq_true c2)]
          refine ⟨_, rfl, z, abc, rfl, h, fun H' s => qq _ ?_ H' s⟩
          unfold wordS
          rw [decide_eq_true (show 1 ≤ z.length by omega), decide_eq_true (show z.length ≤ 30 by omega)]
          rfl
        · rw [if_neg (by rw [decide_eq_false c2]; exact Bool.false_ne_true)]
          refine qq _ ?_ H (Same.refl H)
          unfold wordS
          rw [decide_eq_false (show ¬ z.length ≤ 30 by omega), Bool.and_false]
          rfl
      · rw [if_neg (by rw [decide_eq_false c]; exact Bool.false_ne_true)]
        refine ⟨_, rfl, iteF (qq _ ?_ H (Same.refl H))⟩
        unfold wordS
        rw [decide_eq_false (show ¬ 1 ≤ z.length by omega)]
        rfl
    | _ => exact iteF (q H (Same.refl H))

theorem ok_is_mark (T : TX P w K mg) : FnOk P w K mg base CX0 1 T.a_is_mark T.d_is_mark ["value"] (spIsMark) := by
  refine T.F_is_mark.ok sc_is_mark (fun vs H Q E h => ?_) (fun cdv A outer s H vs Q E hr h => ?_)
  · obtain ⟨v, t, rfl, ty, q⟩ := h
    rfl
  · obtain ⟨v, t, rfl, ty, q⟩ := h
    refine ⟨_, (pss_one (ps_ret (pe_and (pe_callB call_isi (by rfl) T.m_isinstance (by decide +kernel) (pa_cons (pv 0) (pa_cons (pe_bltn (v := V.ty "str") (u := .type "str") (by rfl) T.m_str (by decide +kernel) rfl) pa_nil))) (pe_one (pe_cmpR (op_in_kd T.k_MARK_PLACES) (pv 0) (pe_glob (v := V.ref T.a_MARK_PLACES) (by rfl) T.c_MARK_PLACES rfl) (by rfl)))))), ?_⟩
    refine ⟨_, rfl, _, _, _, _, _, rfl, .ty _, ty.x, kit_ty (kit_str ty), _, rfl, ?_⟩
    cases ty with
    | str z h =>
      obtain ⟨r, e1, e2⟩ := T.i_MARK_PLACES z
      refine iteT ⟨_, rfl, z, r, rfl, rfl, e1, ?_⟩
      rw [e2]
      exact q
    | _ => exact iteF q

theorem ok_is_token (T : TX P w K mg) : FnOk P w K mg base CX0 3 T.a_is_token T.d_is_token ["value"] (spIsToken) := by
  refine T.F_is_token.ok sc_is_token (fun vs H Q E h => ?_) (fun cdv A outer s H vs Q E hr h => ?_)
  · obtain ⟨v, b, rfl, tk, q⟩ := h
    rfl
  · obtain ⟨v, b, rfl, tk, q⟩ := h
    refine ⟨_, (pss_one (ps_ret (pe_and (pe_callB call_isi (by rfl) T.m_isinstance (by decide +kernel) (pa_cons (pv 0) (pa_cons (pe_bltn (v := V.ty "tuple") (u := .type "tuple") (by rfl) T.m_tuple (by decide +kernel) rfl) pa_nil))) (pe_and (pe_cmpR op_eq (pe_callB call_len (by rfl) T.m_len (by decide +kernel) (pa_cons (pv 0) pa_nil)) pe_int (nomark _)) (pe_and (pe_call (ok_is_mark T) (hr.mono (by decide)) (by rfl) T.g_is_mark T.F_is_mark.kp T.b_is_mark .nil pass0 (pa_cons (pe_ix (show IxR _ (rIxT K) from ix_tup) (pv 0) pe_int (fun _ _ => rfl)) pa_nil)) (pe_one (pe_call (ok_is_word T) (hr.mono (by decide)) (by rfl) T.g_is_word T.F_is_word.kp T.b_is_word .nil pass0 (pa_cons (pe_ix (show IxR _ (rIxT K) from ix_tup) (pv 0) pe_int (fun _ _ => rfl)) pa_nil)))))))), ?_⟩
    cases tk with
    | odd ty n =>
      refine ⟨_, rfl, _, _, _, _, _, rfl, .ty _, ty.x, kit_ty (kit_tuple ty), _, rfl, ?_⟩
      rw [n]
      exact iteF (q H (Same.refl H))
    | len e n =>
      refine ⟨_, rfl, _, _, _, _, _, rfl, .ty _, (Ty7.tup e).x, kit_ty (kit_tuple (Ty7.tup e)), _, rfl, iteT ?_⟩
      refine ⟨_, rfl, _, _, rfl, .inr ⟨_, SqT.of e, rfl⟩, rfl, _, rfl, ?_⟩
      rw [decide_eq_false (by intro z; exact n (by have z2 := V.int.inj z; omega))]
      exact iteF (q H (Same.refl H))
    | two e hx hy =>
      refine ⟨_, rfl, _, _, _, _, _, rfl, .ty _, (Ty7.tup e).x, kit_ty (kit_tuple (Ty7.tup e)), _, rfl, iteT ?_⟩
      refine ⟨_, rfl, _, _, rfl, .inr ⟨_, SqT.of e, rfl⟩, rfl, _, rfl, iteT ?_⟩
      refine ⟨_, rfl, _, _, _, _, rfl, rfl, SqT.of e, atI_nat (j := 0) rfl, _, _, rfl, hx, _, rfl, ?_⟩
      rename_i a x y s' t'
      cases hm : markV x with
      | true =>
        rw [hm] at q
        refine iteT ⟨_, rfl, _, _, _, _, rfl, rfl, SqT.of e, atI_nat (j := 1) rfl, _, _, rfl, hy, q⟩
      | false =>
        rw [hm] at q
        exact iteF (q H (Same.refl H))

theorem ok_kind_of (T : TX P w K mg) : FnOk P w K mg base CX0 2 T.a_kind_of T.d_kind_of ["mark"] (spKindOf) := by
  refine T.F_kind_of.ok sc_kind_of (fun vs H Q E h => ?_) (fun cdv A outer s H vs Q E hr h => ?_)
  · obtain ⟨z, c, r, rfl, hm, hc, q⟩ := h
    rfl
  · obtain ⟨z, c, r, rfl, hm, hc, q⟩ := h
    refine ⟨_, (pss_cons (ps_if (pt_not (pt_val (pe_call (ok_is_mark T) (hr.mono (by decide)) (by rfl) T.g_is_mark T.F_is_mark.kp T.b_is_mark .nil pass0 (pa_cons (pv 0) pa_nil))))
        (pss_one ps_never) pss_nil)
      (pss_one (ps_ret (pe_ix ix_str (pv 0) pe_int (fun _ _ => rfl))))), ?_⟩
    have hm2 : markV (V.str z) = true := hm
    refine ⟨_, rfl, _, _, rfl, Ty7.str z (by have := markS_len hm; omega), _, rfl, ?_⟩
    rw [hm2]
    exact iteF ⟨_, rfl, _, _, c, rfl, rfl, szl (by have := markS_len hm; omega), atI_nat (j := 0) (by rw [hc]; rfl), q⟩

theorem ok__is_mark_row (T : TX P w K mg) : FnOk P w K mg base CX0 3 T.a__is_mark_row T.d__is_mark_row ["value"] (spMarkRow) := by
  refine T.F__is_mark_row.ok sc__is_mark_row (fun vs H Q E h => ?_) (fun cdv A outer s H vs Q E hr h => ?_)
  · obtain ⟨v, b, rfl, rv, q⟩ := h
    rfl
  · obtain ⟨v, b, rfl, rv, q⟩ := h
    refine ⟨_, (pss_cons (ps_if (PW.pt (pw_or (pt_not (pt_val (pe_callB call_isiT (by rfl) T.m_isinstance (by decide +kernel) (pa_cons (pv 0) (pa_cons (pe_tup (pa_cons (pe_bltn (v := V.ty "list") (u := .type "list") (by rfl) T.m_list (by decide +kernel) rfl) (pa_cons (pe_bltn (v := V.ty "tuple") (u := .type "tuple") (by rfl) T.m_tuple (by decide +kernel) rfl) pa_nil))) pa_nil))))) (pw_or1 (pt_not (pt_val (pe_callB (cr_all rfl) (by rfl) T.m_all (by decide +kernel) (pa_cons (pe_lc (own := [("mark", 1)]) (tt := tYes) rfl sc__is_mark_row.nd (pi_seq (pv 0)) (blkOk_by (N := ["value", "mark"]) (sc := defScope s__is_mark_row) (by decide +kernel)) (fun _ _ _ _ _ => (pg_name (i := 1) sc__is_mark_row.nd rfl (by first | exact Or.inl rfl | exact Or.inr rfl))) (fun _ _ _ _ _ => pts_nil) (fun _ _ _ _ _ => (pe_call (ok_is_mark T) (hr.mono (by decide)) (by rfl) T.g_is_mark T.F_is_mark.kp T.b_is_mark .nil pass0 (pa_cons (pv 1) pa_nil)))) pa_nil)))))))
        (pss_one (ps_ret pe_bl)) pss_nil)
      (pss_one (ps_ret (pe_or (pe_cmpR op_eq (pe_callB call_len (by rfl) T.m_len (by decide +kernel) (pa_cons (pv 0) pa_nil)) pe_int (nomark _)) (pe_one (pe_cmpR op_eq (pe_call (ok_kind_of T) (hr.mono (by decide)) (by rfl) T.g_kind_of T.F_kind_of.kp T.b_kind_of .nil pass0 (pa_cons (pe_ix (show IxR _ (rIx K) from ix_seq) (pv 0) pe_int (fun _ _ => rfl)) pa_nil)) pe_str (nomark _))))))), ?_⟩
    cases rv with
    | odd ty n =>
      refine ⟨_, rfl, (by show (2 : Nat) ≤ sizeLine; decide), fun tp ht => ⟨_, tp, _, _, _, _, rfl, upd_same, pair_lt, (ty.new ht).x, kit_lt ty, _, rfl, ?_⟩⟩
      rw [n]
      exact iteT (q _ (same_new (Same.refl H) ht))
    | bad s z hx f =>
      obtain ⟨t, ty, n⟩ := s.ty
      refine ⟨_, rfl, (by show (2 : Nat) ≤ sizeLine; decide), fun tp ht => ⟨_, tp, _, _, _, _, rfl, upd_same, pair_lt, (ty.new ht).x, kit_lt ty, _, rfl, ?_⟩⟩
      have s1 : Same H (upd H tp (.tup [V.ty "list", V.ty "tuple"])) := same_new (Same.refl H) ht
      rw [n]
      refine iteF ⟨_, rfl, _, _, rfl, s.up s1, fun J G wk hG D hD => ?_⟩
      rename_i a xs
      refine lc_vals wk (xs.map fun x => V.bl (markV x)) (by simp) (sz (by omega)) hD (fun H' s' => hG H' fun o e => s' _ _ e) (fun i x y H2 Q2 Pe hi hy s2 k => ?_) (fun H2 s2 hD2 => ?_)
      · obtain ⟨t2, ty2⟩ := hx x (List.mem_of_getElem? hi)
        rw [List.getElem?_map, hi] at hy
        have e := Option.some.inj hy
        subst e
        exact ⟨rfl, _, rfl, _, _, rfl, ty2.up (s1.trans s2), k _ (Same.refl _)⟩
      · refine ⟨D, xs.map markV, rfl, SqL.of (by rw [hD2, List.map_map]; rfl), _, rfl, ?_⟩
        rw [f]
        exact iteT (q _ (s1.trans s2))
    | ok s z l =>
      obtain ⟨t, ty, n⟩ := s.ty
      refine ⟨_, rfl, (by show (2 : Nat) ≤ sizeLine; decide), fun tp ht => ⟨_, tp, _, _, _, _, rfl, upd_same, pair_lt, (ty.new ht).x, kit_lt ty, _, rfl, ?_⟩⟩
      have s1 : Same H (upd H tp (.tup [V.ty "list", V.ty "tuple"])) := same_new (Same.refl H) ht
      rw [n]
      refine iteF ⟨_, rfl, _, _, rfl, s.up s1, fun J G wk hG D hD => ?_⟩
      rename_i a ms
      refine lc_vals wk (ms.map fun x => V.bl (markS x)) (by simp) (sz (by rw [List.length_map]; omega)) hD (fun H' s' => hG H' fun o e => s' _ _ e) (fun i x y H2 Q2 Pe hi hy s2 k => ?_) (fun H2 s2 hD2 => ?_)
      · rw [List.getElem?_map] at hi hy
        cases hm : ms[i]? with
        | none =>
          rw [hm] at hi
          cases hi
        | some m =>
          rw [hm] at hi hy
          have e := Option.some.inj hi
          subst e
          have e := Option.some.inj hy
          subst e
          exact ⟨rfl, _, rfl, _, _, rfl, Ty7.str m (by have := markS_len (l m (List.mem_of_getElem? hm)); omega), k _ (Same.refl _)⟩
      · have f : (ms.map markS).all id = true := by
          rw [List.all_map, List.all_eq_true]
          exact fun m h => l m h
        have s3 := s1.trans s2
        refine ⟨D, ms.map markS, rfl, SqL.of (by rw [hD2, List.map_map]; rfl), _, rfl, ?_⟩
        rw [f]
        refine iteF ⟨_, rfl, _, _, rfl, (s.up s3).len, rfl, _, rfl, ?_⟩
        cases ms with
        | nil => exact iteT (q _ s3)
        | cons m r =>
          have hm := l m (by simp)
          have hh : ∃ c u, m.cps.toList = c :: u := by
            rcases (markS_iff m).mp hm with e | ⟨c, d, e, _⟩
            · exact ⟨_, _, e⟩
            · exact ⟨_, _, e⟩
          obtain ⟨c, u, hc⟩ := hh
          rw [decide_eq_false (by
            intro e
            have e2 := V.int.inj e
            simp only [List.map_cons, List.length_cons] at e2
            omega)]
          refine iteF ⟨_, rfl, (s.up s3).ix (v := .str m) (atI_nat (j := 0) rfl) ⟨m, c, u, rfl, hm, hc, rfl, ?_⟩⟩
          have e : decide (V.str ⟨#[c]⟩ = V.str (Str.ofString "#")) = decide (m.cps.toList.head? = some 35) := by
            rw [hc, Bool.eq_iff_iff, decide_eq_true_eq, decide_eq_true_eq, V.str.injEq, eq_comm, ← beq_iff_eq, one_eq (k := 35) (by decide +kernel), decide_eq_true_eq]
            simp
          rw [e]
          exact q _ s3

theorem ok_is_text (T : TX P w K mg) : FnOk P w K mg base CX0 4 T.a_is_text T.d_is_text ["value"] (spIsText) := by
  refine T.F_is_text.ok sc_is_text (fun vs H Q E h => ?_) (fun cdv A outer s H vs Q E hr h => ?_)
  · obtain ⟨v, b, rfl, rv, q⟩ := h
    rfl
  · obtain ⟨v, b, rfl, rv, q⟩ := h
    refine ⟨_, (pss_cons (ps_if (PW.pt (pw_or (pt_not (pt_val (pe_callB call_isiT (by rfl) T.m_isinstance (by decide +kernel) (pa_cons (pv 0) (pa_cons (pe_tup (pa_cons (pe_bltn (v := V.ty "list") (u := .type "list") (by rfl) T.m_list (by decide +kernel) rfl) (pa_cons (pe_bltn (v := V.ty "tuple") (u := .type "tuple") (by rfl) T.m_tuple (by decide +kernel) rfl) pa_nil))) pa_nil))))) (pw_or1 (pt_not (pt_val (pe_callB (cr_all rfl) (by rfl) T.m_all (by decide +kernel) (pa_cons (pe_lc (own := [("token", 1)]) (tt := tYes) rfl sc_is_text.nd (pi_seq (pv 0)) (blkOk_by (N := ["value", "token"]) (sc := defScope s_is_text) (by decide +kernel)) (fun _ _ _ _ _ => (pg_name (i := 1) sc_is_text.nd rfl (by first | exact Or.inl rfl | exact Or.inr rfl))) (fun _ _ _ _ _ => pts_nil) (fun _ _ _ _ _ => (pe_call (ok_is_token T) (hr.mono (by decide)) (by rfl) T.g_is_token T.F_is_token.kp T.b_is_token .nil pass0 (pa_cons (pv 1) pa_nil)))) pa_nil)))))))
        (pss_one (ps_ret pe_bl)) pss_nil)
      (pss_one (ps_ret (pe_call (ok__is_mark_row T) (hr.mono (by decide)) (by rfl) T.g__is_mark_row T.F__is_mark_row.kp T.b__is_mark_row .nil pass0 (pa_cons (pe_lc (own := [("token", 1)]) (tt := tYes) rfl sc_is_text.nd (pi_seq (pv 0)) (blkOk_by (N := ["value", "token"]) (sc := defScope s_is_text) (by decide +kernel)) (fun _ _ _ _ _ => (pg_name (i := 1) sc_is_text.nd rfl (by first | exact Or.inl rfl | exact Or.inr rfl))) (fun _ _ _ _ _ => pts_nil) (fun _ _ _ _ _ => (pe_ix (show IxR _ (rIxT K) from ix_tup) (pv 1) pe_int (fun _ _ => rfl)))) pa_nil))))), ?_⟩
    cases rv with
    | odd ty n1 n2 =>
      refine ⟨_, rfl, (by show (2 : Nat) ≤ sizeLine; decide), fun tp ht => ⟨_, tp, _, _, _, _, rfl, upd_same, pair_lt, (ty.new ht).x, kit_lt ty, _, rfl, ?_⟩⟩
      rw [n1, n2]
      exact iteT (q _ (same_new (Same.refl H) ht))
    | bad s z n hx f =>
      rename_i a xs bs
      obtain ⟨t, ty, nt⟩ := s.ty
      refine ⟨_, rfl, (by show (2 : Nat) ≤ sizeLine; decide), fun tp ht => ⟨_, tp, _, _, _, _, rfl, upd_same, pair_lt, (ty.new ht).x, kit_lt ty, _, rfl, ?_⟩⟩
      have s1 : Same H (upd H tp (.tup [V.ty "list", V.ty "tuple"])) := same_new (Same.refl H) ht
      rw [nt]
      refine iteF ⟨_, rfl, _, _, rfl, s.up s1, fun J G wk hG D hD => ?_⟩
      refine lc_vals wk (bs.map V.bl) (by simpa using n) (sz (by omega)) hD (fun H' s' => hG H' fun o e => s' _ _ e) (fun i x y H2 Q2 Pe hi hy s2 k => ?_) (fun H2 s2 hD2 => ?_)
      · rw [List.getElem?_map] at hy
        cases hb : bs[i]? with
        | none =>
          rw [hb] at hy
          cases hy
        | some b =>
          rw [hb] at hy
          have e := Option.some.inj hy
          subst e
          exact ⟨rfl, _, rfl, _, b, rfl, (hx i x b hi hb).up (s1.trans s2), k⟩
      · refine ⟨D, bs, rfl, SqL.of hD2, _, rfl, ?_⟩
        rw [f]
        exact iteT (q _ (s1.trans s2))
    | ok s z hx l =>
      rename_i a xs ts
      obtain ⟨t, ty, nt⟩ := s.ty
      refine ⟨_, rfl, (by show (2 : Nat) ≤ sizeLine; decide), fun tp ht => ⟨_, tp, _, _, _, _, rfl, upd_same, pair_lt, (ty.new ht).x, kit_lt ty, _, rfl, ?_⟩⟩
      have s1 : Same H (upd H tp (.tup [V.ty "list", V.ty "tuple"])) := same_new (Same.refl H) ht
      rw [nt]
      refine iteF ⟨_, rfl, _, _, rfl, s.up s1, fun J G wk hG D hD => ?_⟩
      have lz := hx.length
      refine lc_vals wk (xs.map fun _ => V.bl true) (by simp) (sz (by omega)) hD (fun H' s' => hG H' fun o e => s' _ _ e) (fun i x y H2 Q2 Pe hi hy s2 k => ?_) (fun H2 s2 hD2 => ?_)
      · rw [List.getElem?_map, hi] at hy
        have e := Option.some.inj hy
        subst e
        obtain ⟨t, ht2, a2, rfl, e⟩ := hx.get hi
        have lt := l t (List.mem_of_getElem? ht2)
        have lt2 := lt
        unfold tokS at lt2
        rw [Bool.and_eq_true] at lt2
        have m1 := markS_len lt2.1
        have m2 := wordS_len lt2.2
        refine ⟨rfl, _, rfl, _, true, rfl, ((Tok7.two e (.str t.1 (by omega)) (.str t.2 (by omega))).eq lt).up (s1.trans s2), k⟩
      · have f : (xs.map fun _ => true).all id = true := by
          rw [List.all_map, List.all_eq_true]
          exact fun m h => rfl
        have s3 := s1.trans s2
        refine ⟨D, xs.map fun _ => true, rfl, SqL.of (by rw [hD2, List.map_map]; rfl), _, rfl, ?_⟩
        rw [f]
        refine iteF ⟨_, rfl, _, _, rfl, s.up s3, fun J2 G2 wk2 hG2 D2 hD2 => ?_⟩
        refine lc_vals wk2 (ts.map fun t => V.str t.1) (by simp [lz]) (sz (by omega)) hD2 (fun H' s' => hG2 H' fun o e => s' _ _ e) (fun i x y H2 Q2 Pe hi hy s4 k => ?_) (fun H5 s5 hD5 => ?_)
        · obtain ⟨t, ht2, a2, rfl, e⟩ := hx.get hi
          rw [List.getElem?_map, ht2] at hy
          have e2 := Option.some.inj hy
          subst e2
          exact ⟨rfl, _, rfl, a2, _, _, _, rfl, rfl, SqT.of ((s3.trans s4) _ _ e), atI_nat (j := 0) rfl, k _ (Same.refl _)⟩
        · refine ⟨.ref D2, headPar ts, rfl, ?_, fun H6 s6 => q _ (s3.trans (s5.trans s6))⟩
          have r := RowV.ok (H := H5) (a := D2) (ms := ts.map (·.1)) (.inl (by rw [hD5, List.map_map]; rfl)) (by simp; omega) (fun m hm => by
            obtain ⟨t, h1, rfl⟩ := List.mem_map.mp hm
            have lt := l t h1
            unfold tokS at lt
            rw [Bool.and_eq_true] at lt
            exact lt.1)
          cases ts with
          | nil => exact r
          | cons t u => exact r

end
end RV


namespace RV
open PySem PySem.Spec PyProof.Rows L2 TL
section
variable {P : Program} {w : World} {K : PySem.W.Frag} {mg : Str → Option Value} {base : Heap}
theorem ok__check_text (T : TX P w K mg) : FnOk P w K mg base (L2.CX P w) 5 T.a__check_text T.d__check_text ["text"] (spCheck T.C_InvalidText) := by
  refine T.F__check_text.okX sc__check_text (fun vs H Q E h => ?_) (fun cdv A outer s H vs Q E hr h => ?_)
  · obtain ⟨v, b, rfl, tv, q1, q2⟩ := h
    rfl
  · obtain ⟨v, b, rfl, tv, q1, q2⟩ := h
    refine ⟨_, (pss_one (ps_if (pt_not (pt_val (pe_call (ok_is_text T) (hr.mono (by decide)) (by rfl) T.g_is_text T.F_is_text.kp T.b_is_text .nil pass0 (pa_cons (pv 0) pa_nil))))
        (pss_one (ps_raiseSup rfl T.x_InvalidText fld_value hr (takes_of rfl rfl rfl rfl) (pa_cons (pv 0) pa_nil))) pss_nil)), ?_⟩
    refine ⟨_, rfl, v, b, rfl, tv, fun H1 s1 => ⟨b, rfl, ?_⟩⟩
    cases b with
    | true => exact iteF (q1 rfl _ s1)
    | false => exact iteT ⟨_, rfl, v, rfl, fun d hd => q2 rfl _ d (same_new s1 hd) upd_same⟩

theorem ok_marks_of (T : TX P w K mg) : FnOk P w K mg base (L2.CX P w) 6 T.a_marks_of T.d_marks_of ["text"] (spMarksOf T.C_InvalidText) := by
  refine T.F_marks_of.okX sc_marks_of (fun vs H Q E h => ?_) (fun cdv A outer s H vs Q E hr h => ?_)
  · obtain ⟨v, rfl, h⟩ := h
    rfl
  · obtain ⟨v, rfl, h⟩ := h
    refine ⟨_, (pss_cons (ps_expr (pe_callS (ok__check_text T) (hr.mono (by decide)) (by rfl) T.g__check_text T.F__check_text.kp T.b__check_text (fun σ => passAt (takes_of rfl rfl rfl rfl) σ) (pa_cons (pv 0) pa_nil)))
      (pss_one (ps_ret (pe_lc (own := [("token", 1)]) (tt := tYes) rfl sc_marks_of.nd (pi_seq (pv 0)) (blkOk_by (N := ["text", "token"]) (sc := defScope s_marks_of) (by decide +kernel)) (fun _ _ _ _ _ => (pg_name (i := 1) sc_marks_of.nd rfl (by first | exact Or.inl rfl | exact Or.inr rfl))) (fun _ _ _ _ _ => pts_nil) (fun _ _ _ _ _ => (pe_ix (show IxR _ (rIxT K) from ix_tup) (pv 1) pe_int (fun _ _ => rfl))))))), ?_⟩
    rcases h with ⟨tv, oe⟩ | ⟨ts, g, q⟩
    · exact ⟨_, rfl, v, false, rfl, tv, (fun z => nomatch z), fun _ H1 d s1 f => oe H1 d s1 f⟩
    · refine ⟨_, rfl, v, true, rfl, g.tv, (fun _ H1 s1 => ?_), fun z => nomatch z⟩
      obtain ⟨a, xs, rfl, sq, tx, tk, hp, lz⟩ := g
      have lx := tx.length
      refine ⟨_, rfl, a, xs, rfl, sq.up s1, fun J G wk hG D hD => ?_⟩
      refine lc_vals wk (ts.map fun t => V.str t.1) (by simp [lx]) (sz (by omega)) hD (fun H' s' => hG H' fun o e => s' _ _ e) (fun i x y H2 Q2 Pe hi hy s2 k => ?_) (fun H2 s2 hD2 => ?_)
      · obtain ⟨t, ht2, a2, rfl, e⟩ := tx.get hi
        rw [List.getElem?_map, ht2] at hy
        have e2 := Option.some.inj hy
        subst e2
        exact ⟨rfl, _, rfl, a2, _, _, _, rfl, rfl, SqT.of ((s1.trans s2) _ _ e), atI_nat (j := 0) rfl, k _ (Same.refl _)⟩
      · exact q D H2 (s1.trans s2) (sameNone s1 hD) hD2

theorem ok_lengths_of (T : TX P w K mg) : FnOk P w K mg base (L2.CX P w) 6 T.a_lengths_of T.d_lengths_of ["text"] (spLengthsOf T.C_InvalidText) := by
  refine T.F_lengths_of.okX sc_lengths_of (fun vs H Q E h => ?_) (fun cdv A outer s H vs Q E hr h => ?_)
  · obtain ⟨v, rfl, h⟩ := h
    rfl
  · obtain ⟨v, rfl, h⟩ := h
    refine ⟨_, (pss_cons (ps_expr (pe_callS (ok__check_text T) (hr.mono (by decide)) (by rfl) T.g__check_text T.F__check_text.kp T.b__check_text (fun σ => passAt (takes_of rfl rfl rfl rfl) σ) (pa_cons (pv 0) pa_nil)))
      (pss_one (ps_ret (pe_lc (own := [("token", 1)]) (tt := tYes) rfl sc_lengths_of.nd (pi_seq (pv 0)) (blkOk_by (N := ["text", "token"]) (sc := defScope s_lengths_of) (by decide +kernel)) (fun _ _ _ _ _ => (pg_name (i := 1) sc_lengths_of.nd rfl (by first | exact Or.inl rfl | exact Or.inr rfl))) (fun _ _ _ _ _ => pts_nil) (fun _ _ _ _ _ => (pe_callB call_len_str (by rfl) T.m_len (by decide +kernel) (pa_cons (pe_ix (show IxR _ (rIxT K) from ix_tup) (pv 1) pe_int (fun _ _ => rfl)) pa_nil))))))), ?_⟩
    rcases h with ⟨tv, oe⟩ | ⟨ts, g, q⟩
    · exact ⟨_, rfl, v, false, rfl, tv, (fun z => nomatch z), fun _ H1 d s1 f => oe H1 d s1 f⟩
    · refine ⟨_, rfl, v, true, rfl, g.tv, (fun _ H1 s1 => ?_), fun z => nomatch z⟩
      obtain ⟨a, xs, rfl, sq, tx, tk, hp, lz⟩ := g
      have lx := tx.length
      refine ⟨_, rfl, a, xs, rfl, sq.up s1, fun J G wk hG D hD => ?_⟩
      refine lc_vals wk (ts.map fun t => V.int (t.2.length : Int)) (by simp [lx]) (sz (by omega)) hD (fun H' s' => hG H' fun o e => s' _ _ e) (fun i x y H2 Q2 Pe hi hy s2 k => ?_) (fun H2 s2 hD2 => ?_)
      · obtain ⟨t, ht2, a2, rfl, e⟩ := tx.get hi
        rw [List.getElem?_map, ht2] at hy
        have e2 := Option.some.inj hy
        subst e2
        have lt := tk t (List.mem_of_getElem? ht2)
        unfold tokS at lt
        rw [Bool.and_eq_true] at lt
        have m2 := wordS_len lt.2
        exact ⟨rfl, _, rfl, a2, _, _, _, rfl, rfl, SqT.of ((s1.trans s2) _ _ e), atI_nat (j := 1) rfl, t.2, rfl, szl (by omega), k _ (Same.refl _)⟩
      · exact q D H2 (s1.trans s2) (sameNone s1 hD) hD2

theorem ok_unlike_marks (T : TX P w K mg) : FnOk P w K mg base (L2.CX P w) 7 T.a_unlike_marks T.d_unlike_marks ["one", "other"] (spUnlike T.C_InvalidText) := by
  refine T.F_unlike_marks.okX sc_unlike_marks (fun vs H Q E h => ?_) (fun cdv A outer s H vs Q E hr h => ?_)
  · obtain ⟨v, w, rfl, h⟩ := h
    rfl
  · obtain ⟨v, w, rfl, h⟩ := h
    refine ⟨_, (pss_cons (ps_if (pt_cmpR (op_neD hr.units) (pe_callS (ok_lengths_of T) (hr.mono (by decide)) (by rfl) T.g_lengths_of T.F_lengths_of.kp T.b_lengths_of (fun σ => passAt (takes_of rfl rfl rfl rfl) σ) (pa_cons (pv 0) pa_nil)) (pe_callS (ok_lengths_of T) (hr.mono (by decide)) (by rfl) T.g_lengths_of T.F_lengths_of.kp T.b_lengths_of (fun σ => passAt (takes_of rfl rfl rfl rfl) σ) (pa_cons (pv 1) pa_nil)) (nomark _))
        (pss_one (ps_raiseSup rfl T.x_InvalidText fld_value hr (takes_of rfl rfl rfl rfl) (pa_cons (pv 1) pa_nil))) pss_nil)
      (pss_one (ps_ret (pe_lc (own := [("index", 2)]) rfl sc_unlike_marks.nd (pi_range1 (by rfl) T.m_range (pa_cons (pe_callB call_len (by rfl) T.m_len (by decide +kernel) (pa_cons (pv 0) pa_nil)) pa_nil)) (blkOk_by (N := ["one", "other", "index"]) (sc := defScope s_unlike_marks) (by decide +kernel)) (fun _ _ _ _ _ => (pg_name (i := 2) sc_unlike_marks.nd rfl (by first | exact Or.inl rfl | exact Or.inr rfl))) (fun _ _ _ _ _ => (pts_one (pt_cmpR op_ne (pe_ix (show IxR _ (rIxT K) from ix_tup) (pe_ix (show IxR _ (rIx K) from ix_seq) (pv 0) (pv 2) (fun _ _ => rfl)) pe_int (fun _ _ => rfl)) (pe_ix (show IxR _ (rIxT K) from ix_tup) (pe_ix (show IxR _ (rIx K) from ix_seq) (pv 1) (pv 2) (fun _ _ => rfl)) pe_int (fun _ _ => rfl)) (nomark _)))) (fun _ _ _ _ _ => (pv 2)))))), ?_⟩
    rcases h with ⟨tv, oe⟩ | ⟨ts, g, ⟨tv, oe⟩ | ⟨us, g2, h⟩⟩
    · exact ⟨_, rfl, v, rfl, .inl ⟨tv, fun H1 d s1 f => oe H1 d s1 f⟩⟩
    · exact ⟨_, rfl, v, rfl, .inr ⟨ts, g, fun D H1 s1 hD eD => ⟨_, rfl, w, rfl, .inl ⟨tv.up s1, fun H2 d s2 f => oe H2 d (s1.trans s2) f⟩⟩⟩⟩
    · refine ⟨_, rfl, v, rfl, .inr ⟨ts, g, fun D H1 s1 hD eD => ⟨_, rfl, w, rfl, .inr ⟨us, g2.up s1, fun D2 H2 s2 hD2 eD2 => ?_⟩⟩⟩⟩
      refine ⟨_, _, .lst (SqL.of (xs := (lensI ts).map V.int) (by rw [← lensV_eq]; exact s2 _ _ eD)) (dp_ints _), .lst (SqL.of (xs := (lensI us).map V.int) (by rw [← lensV_eq]; exact eD2)) (dp_ints _), shaped_ints _, shaped_ints _, _, rfl, ?_⟩
      rw [eqv_ints]
      have s12 := s1.trans s2
      rcases h with ⟨ne, oe⟩ | ⟨eq, q⟩
      · rw [decide_eq_false (fun e => ne (lensV_inj.mpr e)), Bool.not_false]
        exact iteT ⟨_, rfl, w, rfl, fun d hd => oe _ d (s12.trans (same_new (Same.refl _) hd)) upd_same⟩
      · rw [decide_eq_true (lensV_inj.mp eq), Bool.not_true]
        refine iteF ?_
        obtain ⟨a, xs, rfl, sq, tx, tk, hp, lz⟩ := g
        obtain ⟨b, ys, rfl, sq2, tx2, tk2, hp2, lz2⟩ := g2
        have lx := tx.length
        have ly := tx2.length
        have ll : ts.length = us.length := by
          have := congrArg List.length eq
          simpa [lensV] using this
        refine ⟨_, rfl, _, _, rfl, (sq.up s12).len, _, rfl, by omega, by omega, fun D3 hD3 => ?_⟩
        refine lc_it walk_range (fun i H' => Same H2 H' ∧ H' D3 = some (.lst (((List.range i).filter fun i => !decide (ts[i]?.map (·.1) = us[i]?.map (·.1))).map fun i : Nat => V.int (i : Int)))) ⟨same_new (Same.refl _) hD3, upd_same⟩ (fun _ _ _ _ => trivial) (fun i x H3 H4 hi hP hY => ?_) (fun H3 hP => ?_)
        · obtain ⟨rfl, rfl⟩ := hY
          obtain ⟨s3, eD3⟩ := hP
          have s4 := s12.trans s3
          have hi1 : i < ts.length := by omega
          have hi2 : i < us.length := by omega
          obtain ⟨t, ht, a1, e1, e1H⟩ := tx.get (List.getElem?_eq_getElem (show i < xs.length by omega))
          obtain ⟨u, hu, b1, e2, e2H⟩ := tx2.get (List.getElem?_eq_getElem (show i < ys.length by omega))
          have i1 : atI xs (0 + (i : Int)) = some (.ref a1) := by
            rw [Int.zero_add, ← e1]
            exact atI_nat (List.getElem?_eq_getElem (show i < xs.length by omega))
          have i2 : atI ys (0 + (i : Int)) = some (.ref b1) := by
            rw [Int.zero_add, ← e2]
            exact atI_nat (List.getElem?_eq_getElem (show i < ys.length by omega))
          have st := unlI_step ts us i
          rw [ht, hu] at st
          refine ⟨rfl, _, rfl, _, rfl, (sq.up s4).ix i1 ⟨a1, _, _, _, rfl, rfl, SqT.of (s4 _ _ e1H), atI_nat (j := 0) rfl, _, rfl, _, rfl, (sq2.up s4).ix i2 ⟨b1, _, _, _, rfl, rfl, SqT.of (s4 _ _ e2H), atI_nat (j := 0) rfl, rfl, _, rfl, ?_⟩⟩⟩
          by_cases c : t.1 = u.1
          · rw [if_pos (show (some t).map (·.1) = (some u).map (·.1) from congrArg some c), List.append_nil] at st
            rw [decide_eq_true (show V.str t.1 = V.str u.1 from congrArg V.str c)]
            refine iteF ⟨s3, ?_⟩
            rw [st]
            exact eD3
          · rw [if_neg (show ¬ (some t).map (·.1) = (some u).map (·.1) from fun e => c (Option.some.inj e))] at st
            rw [decide_eq_false (show ¬ V.str t.1 = V.str u.1 from fun e => c (V.str.inj e))]
            refine iteT ⟨_, rfl, _, eD3, ?_, same_old s3 hD3, ?_⟩
            · rw [List.length_map]
              have := List.length_filter_le (fun i => !decide (ts[i]?.map (·.1) = us[i]?.map (·.1))) (List.range i)
              rw [List.length_range] at this
              exact sz (by omega)
            · rw [upd_same, st, List.map_append]
              show some (HO.lst (_ ++ [V.int (0 + (i : Int))])) = some (HO.lst (_ ++ [V.int (i : Int)]))
              rw [Int.zero_add]
        · obtain ⟨s3, eD3⟩ := hP
          refine q D3 H3 (s12.trans s3) (sameNone s12 hD3) ?_
          rw [eD3]
          unfold unlV unlI
          rw [show ((xs.length : Int)).toNat = ts.length from by omega]

theorem ok__is_word_row (T : TX P w K mg) : FnOk P w K mg base CX0 3 T.a__is_word_row T.d__is_word_row ["value"] (spWordRow2) := by
  refine T.F__is_word_row.ok sc__is_word_row (fun vs H Q E h => ?_) (fun cdv A outer s H vs Q E hr h => ?_)
  · obtain ⟨v, b, rfl, rv, q⟩ := h
    rfl
  · obtain ⟨v, b, rfl, rv, q⟩ := h
    refine ⟨_, (pss_one (ps_ret (pe_and (pe_callB call_isiT (by rfl) T.m_isinstance (by decide +kernel) (pa_cons (pv 0) (pa_cons (pe_tup (pa_cons (pe_bltn (v := V.ty "list") (u := .type "list") (by rfl) T.m_list (by decide +kernel) rfl) (pa_cons (pe_bltn (v := V.ty "tuple") (u := .type "tuple") (by rfl) T.m_tuple (by decide +kernel) rfl) pa_nil))) pa_nil))) (pe_one (pe_callB (cr_all rfl) (by rfl) T.m_all (by decide +kernel) (pa_cons (pe_lc (own := [("word", 1)]) (tt := tYes) rfl sc__is_word_row.nd (pi_seq (pv 0)) (blkOk_by (N := ["value", "word"]) (sc := defScope s__is_word_row) (by decide +kernel)) (fun _ _ _ _ _ => (pg_name (i := 1) sc__is_word_row.nd rfl (by first | exact Or.inl rfl | exact Or.inr rfl))) (fun _ _ _ _ _ => pts_nil) (fun _ _ _ _ _ => (pe_call (ok_is_word T) (hr.mono (by decide)) (by rfl) T.g_is_word T.F_is_word.kp T.b_is_word .nil pass0 (pa_cons (pv 1) pa_nil)))) pa_nil)))))), ?_⟩
    cases rv with
    | odd ty n =>
      refine ⟨_, rfl, (by show (2 : Nat) ≤ sizeLine; decide), fun tp ht => ⟨_, tp, _, _, _, _, rfl, upd_same, pair_lt, (ty.new ht).x, kit_lt ty, _, rfl, ?_⟩⟩
      rw [n]
      exact iteF (q _ (same_new (Same.refl H) ht))
    | seq s z hx =>
      rename_i a xs
      obtain ⟨t, ty, n⟩ := s.ty
      refine ⟨_, rfl, (by show (2 : Nat) ≤ sizeLine; decide), fun tp ht => ⟨_, tp, _, _, _, _, rfl, upd_same, pair_lt, (ty.new ht).x, kit_lt ty, _, rfl, ?_⟩⟩
      have s1 : Same H (upd H tp (.tup [V.ty "list", V.ty "tuple"])) := same_new (Same.refl H) ht
      rw [n]
      refine iteT ⟨_, rfl, _, _, rfl, s.up s1, fun J G wk hG D hD => ?_⟩
      refine lc_vals wk (xs.map fun x => V.bl (wordV x)) (by simp) (sz (by omega)) hD (fun H' s' => hG H' fun o e => s' _ _ e) (fun i x y H2 Q2 Pe hi hy s2 k => ?_) (fun H2 s2 hD2 => ?_)
      · obtain ⟨t2, ty2⟩ := hx x (List.mem_of_getElem? hi)
        rw [List.getElem?_map, hi] at hy
        have e := Option.some.inj hy
        subst e
        exact ⟨rfl, _, rfl, _, _, rfl, ty2.up (s1.trans s2), fun H' s' => k H' s'⟩
      · refine ⟨D, xs.map wordV, rfl, SqL.of (by rw [hD2, List.map_map]; rfl), ?_⟩
        exact q _ (s1.trans s2)

theorem ok_text_of (T : TX P w K mg) : FnOk P w K mg base (L2.CX P w) 4 T.a_text_of T.d_text_of ["marks", "words"] (spTextOf T.C_InvalidMarks T.C_InvalidWords) := by
  refine T.F_text_of.okX sc_text_of (fun vs H Q E h => ?_) (fun cdv A outer s H vs Q E hr h => ?_)
  · obtain ⟨m, w, rfl, h⟩ := h
    rfl
  · obtain ⟨m, w, rfl, h⟩ := h
    refine ⟨_, (pss_cons (ps_if (pt_not (pt_val (pe_call (ok__is_mark_row T) (hr.mono (by decide)) (by rfl) T.g__is_mark_row T.F__is_mark_row.kp T.b__is_mark_row .nil pass0 (pa_cons (pv 0) pa_nil))))
        (pss_one (ps_raiseSup rfl T.x_InvalidMarks fld_value hr (takes_of rfl rfl rfl rfl) (pa_cons (pv 0) pa_nil))) pss_nil)
      (pss_cons (ps_if (PW.pt (pw_or (pt_not (pt_val (pe_call (ok__is_word_row T) (hr.mono (by decide)) (by rfl) T.g__is_word_row T.F__is_word_row.kp T.b__is_word_row .nil pass0 (pa_cons (pv 1) pa_nil)))) (pw_or1 (pt_cmpR op_ne (pe_callB call_len (by rfl) T.m_len (by decide +kernel) (pa_cons (pv 1) pa_nil)) (pe_callB call_len (by rfl) T.m_len (by decide +kernel) (pa_cons (pv 0) pa_nil)) (nomark _)))))
        (pss_one (ps_raiseSup rfl T.x_InvalidWords fld_value hr (takes_of rfl rfl rfl rfl) (pa_cons (pv 1) pa_nil))) pss_nil)
      (pss_one (ps_ret (pe_lc (own := [("mark", 2), ("word", 3)]) (tt := tYes) rfl sc_text_of.nd (pi_zipQ (by rfl) T.m_zip (pa_cons (pv 0) (pa_cons (pv 1) pa_nil))) (blkOk_by (N := ["marks", "words", "mark", "word"]) (sc := defScope s_text_of) (by decide +kernel)) (fun _ _ _ _ _ => (pg_tupK (K := K) (n := 2) (by rfl) (by rfl) (pgs_cons (pg_name (i := 2) sc_text_of.nd rfl (by first | exact Or.inl rfl | exact Or.inr rfl)) (pgs_cons (pg_name (i := 3) sc_text_of.nd rfl (by first | exact Or.inl rfl | exact Or.inr rfl)) pgs_nil)))) (fun _ _ _ _ _ => pts_nil) (fun _ _ _ _ _ => (pe_tup (pa_cons (pv 2) (pa_cons (pv 3) pa_nil))))))))), ?_⟩
    rcases h with ⟨rv, oe⟩ | ⟨k, ms, g, h⟩
    · exact ⟨_, rfl, m, false, rfl, rv, fun H1 s1 => ⟨_, rfl, iteT ⟨_, rfl, m, rfl, fun d hd => oe _ d (s1.trans (same_new (Same.refl _) hd)) upd_same⟩⟩⟩
    · refine ⟨_, rfl, m, true, rfl, g.rv, fun H1 s1 => ⟨_, rfl, iteF ?_⟩⟩
      obtain ⟨a, rfl, sq, mk, hp, lz⟩ := g
      rcases h with ⟨wv, oe⟩ | ⟨b, ys, rfl, sw, wv, zy, ne, oe⟩ | ⟨k2, b, ws, rfl, sw, wk, le, q⟩
      · exact ⟨_, rfl, w, false, rfl, wv.up s1, fun H2 s2 => ⟨_, rfl, iteT (iteT ⟨_, rfl, w, rfl, fun d hd => oe _ d ((s1.trans s2).trans (same_new (Same.refl _) hd)) upd_same⟩)⟩⟩
      · refine ⟨_, rfl, .ref b, true, rfl, wv.up s1, fun H2 s2 => ⟨_, rfl, iteF ?_⟩⟩
        have s12 := s1.trans s2
        refine ⟨_, rfl, _, _, rfl, (sw.up s12).len, _, rfl, _, _, rfl, (sq.sqA.up s12).len, rfl, _, rfl, ?_⟩
        rw [List.length_map, decide_eq_false (show ¬ V.int (ys.length : Int) = V.int (ms.length : Int) from fun e => ne (by have := V.int.inj e; omega))]
        exact iteT ⟨_, rfl, .ref b, rfl, fun d hd => oe _ d (s12.trans (same_new (Same.refl _) hd)) upd_same⟩
      · have wv : WrowV H (.ref b) true := by
          have r := WrowV.seq sw.sqA (by rw [List.length_map]; omega) (fun x hx => by
            obtain ⟨z, hz, rfl⟩ := List.mem_map.mp hx
            exact ⟨_, Ty7.str z (by have := wordS_len (wk z hz); omega)⟩)
          have e : ((ws.map V.str).map wordV).all id = true := by
            rw [List.map_map, List.all_map, List.all_eq_true]
            exact fun z hz => wk z hz
          rw [e] at r
          exact r
        refine ⟨_, rfl, .ref b, true, rfl, wv.up s1, fun H2 s2 => ⟨_, rfl, iteF ?_⟩⟩
        have s12 := s1.trans s2
        refine ⟨_, rfl, _, _, rfl, (sw.sqA.up s12).len, _, rfl, _, _, rfl, (sq.sqA.up s12).len, rfl, _, rfl, ?_⟩
        rw [List.length_map, List.length_map, le, decide_eq_true rfl]
        refine iteF ?_
        refine ⟨_, rfl, _, rfl, k, k2, a, b, _, _, rfl, sq.up s12, sw.up s12, fun D hD => ?_⟩
        refine lc_it (walk_zipQ (xs := ms.map V.str) (ys := ws.map V.str) (by rw [List.length_map, List.length_map, le])) (fun i H' => ∃ xs, Same H2 H' ∧ H' D = some (.lst xs) ∧ TxL H' xs ((ms.zip ws).take i)) ⟨[], same_new (Same.refl _) hD, upd_same, .nil⟩ (fun i H' _ h => ?_) (fun i x H3 H4 hi hP hY => ?_) (fun H3 hP => ?_)
        · obtain ⟨xs, s3, _⟩ := h
          exact ⟨(sq.up s12).up s3, (sw.up s12).up s3⟩
        · obtain ⟨xs, s3, eD, tx⟩ := hP
          obtain ⟨T4, x4, y4, rfl, h4, rfl, hx, hy⟩ := hY
          replace hx : (ms.map V.str)[i]? = some x4 := hx
          replace hy : (ws.map V.str)[i]? = some y4 := hy
          rw [List.getElem?_map] at hx hy
          cases hm : ms[i]? with
          | none =>
            rw [hm] at hx
            cases hx
          | some m =>
            cases hw : ws[i]? with
            | none =>
              rw [hw] at hy
              cases hy
            | some z =>
              rw [hm] at hx
              rw [hw] at hy
              have ex := Option.some.inj hx
              have ey := Option.some.inj hy
              subst ex ey
              refine ⟨T4, _, rfl, SqT.of upd_same, rfl, _, _, rfl, _, _, rfl, rfl, ?_⟩
              have s5 : Same H3 (upd H3 T4 (.tup [.str m, .str z])) := same_new (Same.refl _) h4
              refine ⟨rfl, _, rfl, _, rfl, (by show (2 : Nat) ≤ sizeLine; decide), fun t ht => ?_⟩
              have s6 : Same H3 (upd (upd H3 T4 (.tup [.str m, .str z])) t (.tup [.str m, .str z])) := same_new s5 ht
              have e6 : upd (upd H3 T4 (.tup [.str m, .str z])) t (.tup [.str m, .str z]) t = some (.tup [.str m, .str z]) := upd_same
              revert s6 e6
              generalize upd (upd H3 T4 (.tup [.str m, .str z])) t (.tup [.str m, .str z]) = H6
              intro s6 e6
              have lx := tx.length
              rw [List.length_take, List.length_zip] at lx
              rw [List.length_map] at hi
              refine ⟨xs, s6 _ _ eD, sz (by omega), xs ++ [.ref t], same_old (s3.trans s6) hD, upd_same, ?_⟩
              have e : (ms.zip ws).take (i + 1) = (ms.zip ws).take i ++ [(m, z)] := by
                rw [List.take_add_one, show (ms.zip ws)[i]? = some (m, z) from List.getElem?_zip_eq_some.mpr ⟨hm, hw⟩]
                rfl
              rw [e]
              have nD : H6 D = some (.lst xs) := s6 _ _ eD
              exact ((tx.up s6).append (TxL.one ⟨t, rfl, e6⟩)).sam (Sam.box (Sam.refl _ _)) nD
        · obtain ⟨xs, s3, eD, tx⟩ := hP
          refine q D H3 xs (s12.trans s3) (sameNone s12 hD) eD ?_
          rw [List.take_of_length_le (by rw [List.length_zip, List.length_map]; omega)] at tx
          exact tx

end
end RV


namespace RV
open PySem PySem.Spec PyProof.Rows L2 TL
section
variable {P : Program} {w : World} {K : PySem.W.Frag} {mg : Str → Option Value} {base : Heap}
theorem ok__law_all_marks (T : TX P w K mg) : FnOk P w K mg base CX0 1 T.a__law_all_marks T.d__law_all_marks [] (spAllMarks) := by
  refine T.F__law_all_marks.ok sc__law_all_marks (fun vs H Q E h => ?_) (fun cdv A outer s H vs Q E hr h => ?_)
  · obtain ⟨rfl, q⟩ := h
    rfl
  · obtain ⟨rfl, q⟩ := h
    refine ⟨_, (pss_one (ps_ret (pe_lst (pa_cons pe_str (pa_cons pe_str (pa_cons pe_str (pa_cons pe_str (pa_cons pe_str (pa_cons pe_str (pa_cons pe_str (pa_cons pe_str (pa_cons pe_str (pa_cons pe_str (pa_cons pe_str (pa_cons pe_str (pa_cons pe_str pa_nil)))))))))))))))), ?_⟩
    exact ⟨(by show (13 : Nat) ≤ sizeLine; decide), fun D hD => q D hD⟩

theorem ok__law_is_mark (T : TX P w K mg) : FnOk P w K mg base CX0 2 T.a__law_is_mark T.d__law_is_mark ["_law_value"] (spIsMarkG) := by
  refine T.F__law_is_mark.ok sc__law_is_mark (fun vs H Q E h => ?_) (fun cdv A outer s H vs Q E hr h => ?_)
  · obtain ⟨v, t, rfl, ty, q⟩ := h
    rfl
  · obtain ⟨v, t, rfl, ty, q⟩ := h
    refine ⟨_, (pss_one (ps_ret (pe_and (pe_callB call_isi (by rfl) T.m_isinstance (by decide +kernel) (pa_cons (pv 0) (pa_cons (pe_bltn (v := V.ty "str") (u := .type "str") (by rfl) T.m_str (by decide +kernel) rfl) pa_nil))) (pe_one (pe_cmpR op_in_seq (pv 0) (pe_call0 (ok__law_all_marks T) (hr.mono (by decide)) (by rfl) T.g__law_all_marks T.F__law_all_marks.kp T.b__law_all_marks .nil pass0) (by rfl)))))), ?_⟩
    refine ⟨_, rfl, _, _, _, _, _, rfl, .ty _, ty.x, kit_ty (kit_str ty), _, rfl, ?_⟩
    cases ty with
    | str z h =>
      refine iteT ⟨_, rfl, rfl, fun D hD => ⟨D, _, rfl, .inl (SqL.of upd_same), rfl, by decide +kernel, ?_⟩⟩
      show Q (.bl (inV (.str z) (marks13.map V.str))) _
      rw [inV_strs]
      exact q _ (same_new (Same.refl _) hD)
    | _ => exact iteF (q H (Same.refl H))

theorem ok__law_is_word (T : TX P w K mg) : FnOk P w K mg base CX0 1 T.a__law_is_word T.d__law_is_word ["_law_value"] (spIsWordG) := by
  refine T.F__law_is_word.ok sc__law_is_word (fun vs H Q E h => ?_) (fun cdv A outer s H vs Q E hr h => ?_)
  · obtain ⟨v, t, rfl, ty, q⟩ := h
    rfl
  · obtain ⟨v, t, rfl, ty, q⟩ := h
    refine ⟨_, (pss_cons (ps_if (PW.pt (pw_or (pt_not (pt_val (pe_callB call_isi (by rfl) T.m_isinstance (by decide +kernel) (pa_cons (pv 0) (pa_cons (pe_bltn (v := V.ty "str") (u := .type "str") (by rfl) T.m_str (by decide +kernel) rfl) pa_nil))))) (pw_or1 (pt_not (pt_chain op_le op_le pe_int (pe_callB call_len_str (by rfl) T.m_len (by decide +kernel) (pa_cons (pv 0) pa_nil)) pe_int)))))
        (pss_one (ps_ret pe_bl)) pss_nil)
      (pss_one (ps_ret (pe_cmpR (op_eqZ hr.units) (pe_lc (own := [("_law_sign", 1)]) rfl sc__law_is_word.nd (pi_str (pv 0)) (blkOk_by (N := ["_law_value", "_law_sign"]) (sc := defScope s__law_is_word) (by decide +kernel)) (fun _ _ _ _ _ => (pg_name (i := 1) sc__law_is_word.nd rfl (by first | exact Or.inl rfl | exact Or.inr rfl))) (fun _ _ _ _ _ => (pts_one (pt_cmpR op_notIn_sign (pv 1) pe_str (by rfl)))) (fun _ _ _ _ _ => (pv 1))) (pe_lst pa_nil) (nomark _))))), ?_⟩
    refine ⟨_, rfl, _, _, _, _, _, rfl, .ty _, ty.x, kit_ty (kit_str ty), _, rfl, ?_⟩
    cases ty with
    | str w h =>
      refine iteF ?_
      have qq : ∀ b : Bool, wordS w = b → ∀ H', Same H H' → Q (.bl b) H' := fun b e => by
        rw [← e]
        exact q
      refine ⟨_, rfl, w, rfl, szl (by omega), _, _, rfl, rfl, _, rfl, ?_⟩
      by_cases c : (1 : Int) ≤ (w.length : Int)
      · rw [if_pos (decide_eq_true c)]
        refine ⟨_, _, rfl, rfl, _, rfl, ?_⟩
        by_cases c2 : (w.length : Int) ≤ 30
        · rw [decide_eq_true c2]
          refine iteF ⟨_, rfl, w, rfl, fun D hD => ?_⟩
          have lw := len_list w
          refine lc_it walk_str (fun i H' => H' = upd H D (.lst ((((w.cps.toList.take i).filter oddA).map fun c => (⟨#[c]⟩ : Str)).map V.str))) rfl (fun _ _ _ _ => trivial) (fun i x H1 H2 hi hP hY => ?_) (fun H1 hP => ?_)
          · obtain ⟨rfl, c, hc, rfl⟩ := hY
            subst hP
            have tk : w.cps.toList.take (i + 1) = w.cps.toList.take i ++ [c] := by
              rw [List.take_add_one, show w.cps.toList[i]? = some c from by rw [← hc]; simp]
              rfl
            have hsz : ((((w.cps.toList.take i).filter oddA).map fun c => (⟨#[c]⟩ : Str)).map V.str).length < sizeLine := by
              rw [List.length_map, List.length_map]
              have h1 := List.length_filter_le oddA (w.cps.toList.take i)
              rw [List.length_take, len_list] at h1
              exact sz (by omega)
            refine ⟨rfl, _, rfl, c, abc, rfl, rfl, _, rfl, ?_⟩
            cases o : oddA c with
            | true =>
              have o2 : (!decide (c ∈ abc.cps.toList)) = true := o
              rw [o2]
              exact iteT ⟨_, rfl, _, upd_same, hsz, by rw [upd_upd, tk, List.filter_append]; simp [o]⟩
            | false =>
              have o2 : (!decide (c ∈ abc.cps.toList)) = false := o
              rw [o2]
              exact iteF (by rw [tk, List.filter_append]; simp [o])
          · subst hP
            have e0 : w.cps.toList.take w.cps.size = w.cps.toList := List.take_of_length_le (by simp)
            rw [e0]
            refine ⟨(by show (0 : Nat) ≤ sizeLine; decide), fun D2 hD2 => ?_⟩
            refine eqZ_nil (SqL.of (keep_new upd_same hD2)) (SqL.of upd_same) ?_
            have s5 := same_new (o := .lst []) (same_new (o := .lst (((w.cps.toList.filter oddA).map fun c => (⟨#[c]⟩ : Str)).map V.str)) (Same.refl H) hD) hD2
            have eb : decide (((w.cps.toList.filter oddA).map fun c => (⟨#[c]⟩ : Str)).map V.str = []) = wordS w := by
              rw [show decide (((w.cps.toList.filter oddA).map fun c => (⟨#[c]⟩ : Str)).map V.str = []) = decide (((w.cps.toList.filter oddA).map fun c => (⟨#[c]⟩ : Str)) = []) from by simp, odd_nil2]
              unfold wordS
              rw [decide_eq_true (show 1 ≤ w.length by omega), decide_eq_true (show w.length ≤ 30 by omega)]
              rfl
            rw [eb]
            exact q _ s5
        · rw [decide_eq_false c2]
          exact iteT (qq _ (by unfold wordS; rw [decide_eq_false (show ¬ w.length ≤ 30 by omega), Bool.and_false]; rfl) H (Same.refl H))
      · rw [if_neg (by rw [decide_eq_false c]; exact Bool.false_ne_true)]
        refine ⟨_, rfl, iteT (qq _ ?_ H (Same.refl H))⟩
        unfold wordS
        rw [decide_eq_false (show ¬ 1 ≤ w.length by omega)]
        rfl
    | _ => exact iteT (q H (Same.refl H))

theorem ok__law_are_marks (T : TX P w K mg) : FnOk P w K mg base CX0 3 T.a__law_are_marks T.d__law_are_marks ["_law_value"] (spAreMarks) := by
  refine T.F__law_are_marks.ok sc__law_are_marks (fun vs H Q E h => ?_) (fun cdv A outer s H vs Q E hr h => ?_)
  · obtain ⟨v, b, rfl, rv, q⟩ := h
    rfl
  · obtain ⟨v, b, rfl, rv, q⟩ := h
    refine ⟨_, (pss_cons (ps_if (PW.pt (pw_or (pt_not (pt_val (pe_callB call_isiT (by rfl) T.m_isinstance (by decide +kernel) (pa_cons (pv 0) (pa_cons (pe_tup (pa_cons (pe_bltn (v := V.ty "list") (u := .type "list") (by rfl) T.m_list (by decide +kernel) rfl) (pa_cons (pe_bltn (v := V.ty "tuple") (u := .type "tuple") (by rfl) T.m_tuple (by decide +kernel) rfl) pa_nil))) pa_nil))))) (pw_or1 (pt_cmpR (op_neZ hr.units) (pe_lc (own := [("_law_one", 1)]) rfl sc__law_are_marks.nd (pi_seq (pv 0)) (blkOk_by (N := ["_law_value", "_law_one"]) (sc := defScope s__law_are_marks) (by decide +kernel)) (fun _ _ _ _ _ => (pg_name (i := 1) sc__law_are_marks.nd rfl (by first | exact Or.inl rfl | exact Or.inr rfl))) (fun _ _ _ _ _ => (pts_one (pt_not (pt_val (pe_call (ok__law_is_mark T) (hr.mono (by decide)) (by rfl) T.g__law_is_mark T.F__law_is_mark.kp T.b__law_is_mark .nil pass0 (pa_cons (pv 1) pa_nil)))))) (fun _ _ _ _ _ => (pv 1))) (pe_lst pa_nil) (nomark _)))))
        (pss_one (ps_ret pe_bl)) pss_nil)
      (pss_one (ps_ret (pe_or (pe_cmpR op_eq (pe_callB call_len (by rfl) T.m_len (by decide +kernel) (pa_cons (pv 0) pa_nil)) pe_int (nomark _)) (pe_one (pe_cmpR op_eq (pe_ix (show IxR _ (rIx K) from ix_seq) (pe_ix (show IxR _ (rIx K) from ix_seq) (pv 0) pe_int (fun _ _ => rfl)) pe_int (fun _ _ => rfl)) pe_str (nomark _))))))), ?_⟩
    cases rv with
    | odd ty n =>
      refine ⟨_, rfl, (by show (2 : Nat) ≤ sizeLine; decide), fun tp ht => ⟨_, tp, _, _, _, _, rfl, upd_same, pair_lt, (ty.new ht).x, kit_lt ty, _, rfl, ?_⟩⟩
      rw [n]
      exact iteT (q _ (same_new (Same.refl H) ht))
    | bad s z hx f =>
      rename_i a xs
      obtain ⟨t, ty, n⟩ := s.ty
      refine ⟨_, rfl, (by show (2 : Nat) ≤ sizeLine; decide), fun tp ht => ⟨_, tp, _, _, _, _, rfl, upd_same, pair_lt, (ty.new ht).x, kit_lt ty, _, rfl, ?_⟩⟩
      have s1 : Same H (upd H tp (.tup [V.ty "list", V.ty "tuple"])) := same_new (Same.refl H) ht
      rw [n]
      refine iteF ⟨_, rfl, _, _, rfl, s.up s1, fun J G wk hG D hD => ?_⟩
      refine lc_it wk (fun i H' => Same (upd H tp (.tup [V.ty "list", V.ty "tuple"])) H' ∧ H' D = some (.lst ((xs.take i).filter fun x => !markV x))) ⟨same_new (Same.refl _) hD, upd_same⟩ (fun i H' _ h => hG H' fun o e => h.1 _ _ e) (fun i x H1 H2 hi hP hY => ?_) (fun H1 hP => ?_)
      · obtain ⟨s2, eD⟩ := hP
        obtain ⟨rfl, hY⟩ := hY
        obtain ⟨t2, ty2⟩ := hx x (List.mem_of_getElem? hY)
        have tk : xs.take (i + 1) = xs.take i ++ [x] := by
          rw [List.take_add_one, hY]
          rfl
        refine ⟨rfl, _, rfl, x, t2, rfl, (ty2.up s1).up s2, fun H3 s3 => ⟨_, rfl, ?_⟩⟩
        have eD3 := s3 _ _ eD
        cases o : markV x with
        | false =>
          refine iteT ⟨_, rfl, _, eD3, ?_, same_old (s2.trans s3) hD, ?_⟩
          · have h1 := List.length_filter_le (fun x => !markV x) (xs.take i)
            rw [List.length_take] at h1
            exact sz (by omega)
          · rw [upd_same, tk, List.filter_append]
            simp [o]
        | true =>
          refine iteF ⟨s2.trans s3, ?_⟩
          rw [eD3, tk, List.filter_append]
          simp [o]
      · obtain ⟨s2, eD⟩ := hP
        refine ⟨(by show (0 : Nat) ≤ sizeLine; decide), fun D2 hD2 => ?_⟩
        refine neZ_nil (SqL.of (keep_new eD hD2)) (SqL.of upd_same) ?_
        rw [List.take_length] at *
        have ne : (xs.filter fun x => !markV x) ≠ [] := fun e => by
          rw [List.filter_eq_nil_iff] at e
          rw [List.all_map, Bool.eq_false_iff] at f
          refine f (List.all_eq_true.mpr fun x hx => ?_)
          have := e x hx
          simpa using this
        rw [decide_eq_true ne]
        exact ⟨_, rfl, iteT (q _ (same_new (s1.trans s2) hD2))⟩
    | ok s z l =>
      rename_i a ms
      obtain ⟨t, ty, n⟩ := s.ty
      refine ⟨_, rfl, (by show (2 : Nat) ≤ sizeLine; decide), fun tp ht => ⟨_, tp, _, _, _, _, rfl, upd_same, pair_lt, (ty.new ht).x, kit_lt ty, _, rfl, ?_⟩⟩
      have s1 : Same H (upd H tp (.tup [V.ty "list", V.ty "tuple"])) := same_new (Same.refl H) ht
      rw [n]
      refine iteF ⟨_, rfl, _, _, rfl, s.up s1, fun J G wk hG D hD => ?_⟩
      refine lc_it wk (fun i H' => Same (upd H tp (.tup [V.ty "list", V.ty "tuple"])) H' ∧ H' D = some (.lst [])) ⟨same_new (Same.refl _) hD, upd_same⟩ (fun i H' _ h => hG H' fun o e => h.1 _ _ e) (fun i x H1 H2 hi hP hY => ?_) (fun H1 hP => ?_)
      · obtain ⟨s2, eD⟩ := hP
        obtain ⟨rfl, hY⟩ := hY
        rw [List.getElem?_map] at hY
        cases hm : ms[i]? with
        | none =>
          rw [hm] at hY
          cases hY
        | some m =>
          rw [hm] at hY
          have e := Option.some.inj hY
          subst e
          have km := l m (List.mem_of_getElem? hm)
          have kl := markS_len km
          refine ⟨rfl, _, rfl, .str m, _, rfl, .str m (by omega), fun H3 s3 => ⟨_, rfl, ?_⟩⟩
          rw [show markV (.str m) = true from km]
          exact iteF ⟨s2.trans s3, s3 _ _ eD⟩
      · obtain ⟨s2, eD⟩ := hP
        refine ⟨(by show (0 : Nat) ≤ sizeLine; decide), fun D2 hD2 => ?_⟩
        refine neZ_nil (SqL.of (keep_new eD hD2)) (SqL.of upd_same) ?_
        rw [decide_eq_false (fun z => z rfl)]
        have s3 := same_new (o := .lst []) (s1.trans s2) hD2
        refine ⟨_, rfl, iteF ⟨_, rfl, _, _, rfl, (s.up s3).len, rfl, _, rfl, ?_⟩⟩
        cases ms with
        | nil => exact iteT (q _ s3)
        | cons m r =>
          have hm := l m (by simp)
          obtain ⟨c, u, hc⟩ : ∃ c u, m.cps.toList = c :: u := by
            rcases (markS_iff m).mp hm with e | ⟨c, d, e, _⟩
            · exact ⟨_, _, e⟩
            · exact ⟨_, _, e⟩
          rw [decide_eq_false (by
            intro e
            have e2 := V.int.inj e
            simp only [List.map_cons, List.length_cons] at e2
            omega)]
          refine iteF ⟨_, rfl, (s.up s3).ix (v := .str m) (atI_nat (j := 0) rfl) ?_⟩
          refine .inr (.inr ⟨m, _, c, rfl, rfl, by have := markS_len hm; exact szl (by omega), atI_nat (j := 0) (by rw [hc]; rfl), rfl, ?_⟩)
          have e : decide (V.str ⟨#[c]⟩ = V.str (Str.ofString "#")) = decide (m.cps.toList.head? = some 35) := by
            rw [hc, Bool.eq_iff_iff, decide_eq_true_eq, decide_eq_true_eq, V.str.injEq, eq_comm, ← beq_iff_eq, one_eq (k := 35) (by decide +kernel), decide_eq_true_eq]
            simp
          rw [e]
          exact q _ s3

end
end RV


namespace RV
open PySem PySem.Spec PyProof.Rows L2 TL
section
variable {P : Program} {w : World} {K : PySem.W.Frag} {mg : Str → Option Value} {base : Heap}
theorem ok__law_good (T : TX P w K mg) : FnOk P w K mg base CX0 4 T.a__law_good T.d__law_good ["_law_value"] (spGood) := by
  refine T.F__law_good.ok sc__law_good (fun vs H Q E h => ?_) (fun cdv A outer s H vs Q E hr h => ?_)
  · obtain ⟨v, b, rfl, tv, q⟩ := h
    rfl
  · obtain ⟨v, b, rfl, tv, q⟩ := h
    refine ⟨_, (pss_cons (ps_if (pt_not (pt_val (pe_callB call_isiT (by rfl) T.m_isinstance (by decide +kernel) (pa_cons (pv 0) (pa_cons (pe_tup (pa_cons (pe_bltn (v := V.ty "list") (u := .type "list") (by rfl) T.m_list (by decide +kernel) rfl) (pa_cons (pe_bltn (v := V.ty "tuple") (u := .type "tuple") (by rfl) T.m_tuple (by decide +kernel) rfl) pa_nil))) pa_nil)))))
        (pss_one (ps_ret pe_bl)) pss_nil)
      (pss_cons (ps_for PassesOwn.never rfl (pi_seq (pv 0)) (pg_name (i := 1) sc__law_good.nd rfl (by first | exact Or.inl rfl | exact Or.inr rfl))
        (pss_one (ps_if (PW.pt (pw_or (pt_not (pt_val (pe_callB call_isi (by rfl) T.m_isinstance (by decide +kernel) (pa_cons (pv 1) (pa_cons (pe_bltn (v := V.ty "tuple") (u := .type "tuple") (by rfl) T.m_tuple (by decide +kernel) rfl) pa_nil))))) (pw_or (pt_cmpR op_ne (pe_callB call_len (by rfl) T.m_len (by decide +kernel) (pa_cons (pv 1) pa_nil)) pe_int (nomark _)) (pw_or1 (pt_not (pt_val (pe_call (ok__law_is_word T) (hr.mono (by decide)) (by rfl) T.g__law_is_word T.F__law_is_word.kp T.b__law_is_word .nil pass0 (pa_cons (pe_ix (show IxR _ (rIxT K) from ix_tup) (pv 1) pe_int (fun _ _ => rfl)) pa_nil))))))))
          (pss_one (ps_ret pe_bl)) pss_nil)))
      (pss_one (ps_ret (pe_call (ok__law_are_marks T) (hr.mono (by decide)) (by rfl) T.g__law_are_marks T.F__law_are_marks.kp T.b__law_are_marks .nil pass0 (pa_cons (pe_lc (own := [("_law_token", 1)]) (tt := tYes) rfl sc__law_good.nd (pi_seq (pv 0)) (blkOk_by (N := ["_law_value", "_law_token"]) (sc := defScope s__law_good) (by decide +kernel)) (fun _ _ _ _ _ => (pg_name (i := 1) sc__law_good.nd rfl (by first | exact Or.inl rfl | exact Or.inr rfl))) (fun _ _ _ _ _ => pts_nil) (fun _ _ _ _ _ => (pe_ix (show IxR _ (rIxT K) from ix_tup) (pv 1) pe_int (fun _ _ => rfl)))) pa_nil)))))), ?_⟩
    cases tv with
    | odd ty n1 n2 =>
      refine ⟨_, rfl, (by show (2 : Nat) ≤ sizeLine; decide), fun tp ht => ⟨_, tp, _, _, _, _, rfl, upd_same, pair_lt, (ty.new ht).x, kit_lt ty, _, rfl, ?_⟩⟩
      rw [n1, n2]
      exact iteT (q _ (same_new (Same.refl H) ht))
    | bad s z n hx f =>
      rename_i a xs bs
      obtain ⟨t, ty, nt⟩ := s.ty
      refine ⟨_, rfl, (by show (2 : Nat) ≤ sizeLine; decide), fun tp ht => ⟨_, tp, _, _, _, _, rfl, upd_same, pair_lt, (ty.new ht).x, kit_lt ty, _, rfl, ?_⟩⟩
      have s1 : Same H (upd H tp (.tup [V.ty "list", V.ty "tuple"])) := same_new (Same.refl H) ht
      rw [nt]
      revert s1
      generalize upd H tp (.tup [V.ty "list", V.ty "tuple"]) = H1
      intro s1
      refine iteF ⟨_, rfl, _, _, rfl, s.up s1, fun J G wk hG => for_it wk (fun i σ H' => ∃ y1 : Option V, σ = [some (.ref a), y1] ∧ Same H1 H' ∧ ∀ (j : Nat) (x : V), j < i → xs[j]? = some x → ∃ (c : Addr) (m u : V) (s t : String), x = .ref c ∧ H c = some (.tup [m, u]) ∧ Ty7 H m s ∧ Ty7 H u t ∧ wordV u = true) ⟨_, rfl, Same.refl _, fun j x h => absurd h (Nat.not_lt_zero j)⟩ (fun i σ H' _ h => ?_) (fun i x σ H2 H3 hi hP hY => ?_) (fun σ H2 hP => ?_)⟩
      · obtain ⟨_, _, s2, _⟩ := h
        exact hG H' fun o e => s2 _ _ e
      · obtain ⟨y1, rfl, s2, ok⟩ := hP
        obtain ⟨rfl, hY⟩ := hY
        have hib : i < bs.length := by omega
        have tk := hx i x bs[i] hY (List.getElem?_eq_getElem hib)
        have s12 := s1.trans s2
        generalize bs[i] = bb at tk
        cases tk with
        | odd ty3 n3 =>
          refine ⟨_, rfl, _, _, _, _, _, rfl, .ty _, (ty3.up s12).x, kit_ty (kit_tuple ty3), _, rfl, ?_⟩
          rw [n3]
          exact iteT (q _ s12)
        | len e3 n3 =>
          refine ⟨_, rfl, _, _, _, _, _, rfl, .ty _, (Ty7.tup (s12 _ _ e3)).x, kit_ty (kit_tuple (Ty7.tup (s12 _ _ e3))), _, rfl, iteF ?_⟩
          refine ⟨_, rfl, _, _, rfl, .inr ⟨_, SqT.of (s12 _ _ e3), rfl⟩, rfl, _, rfl, ?_⟩
          rw [decide_eq_false (by intro z; exact n3 (by have z2 := V.int.inj z; omega))]
          exact iteT (q _ s12)
        | two e3 hm hu =>
          rename_i c m u sm su
          refine ⟨_, rfl, _, _, _, _, _, rfl, .ty _, (Ty7.tup (s12 _ _ e3)).x, kit_ty (kit_tuple (Ty7.tup (s12 _ _ e3))), _, rfl, iteF ?_⟩
          refine ⟨_, rfl, _, _, rfl, .inr ⟨_, SqT.of (s12 _ _ e3), rfl⟩, rfl, _, rfl, iteF ?_⟩
          refine ⟨_, rfl, _, _, _, _, rfl, rfl, SqT.of (s12 _ _ e3), atI_nat (j := 1) rfl, _, _, rfl, hu.up s12, fun H4 s4 => ⟨_, rfl, ?_⟩⟩
          cases hw : wordV u with
          | false => exact iteT (q _ (s12.trans s4))
          | true =>
            refine iteF ⟨_, rfl, s2.trans s4, fun j x hj hx2 => ?_⟩
            by_cases cj : j < i
            · exact ok j x cj hx2
            · have e9 : j = i := by omega
              rw [e9, hY] at hx2
              rw [← Option.some.inj hx2]
              exact ⟨c, m, u, _, _, rfl, e3, hm, hu, hw⟩
      · obtain ⟨y1, rfl, s2, ok⟩ := hP
        have s12 := s1.trans s2
        refine ⟨_, rfl, _, _, rfl, s.up s12, fun J2 G2 wk2 hG2 D2 hD2 => ?_⟩
        refine lc_vals wk2 (xs.map (fstAt H)) (by simp) (sz (by omega)) hD2 (fun H' s' => hG2 H' fun o e => s' _ _ e) (fun i x y H3 Q3 Pe hi hy s4 k => ?_) (fun H5 s5 hD5 => ?_)
        · obtain ⟨c, m, u, _, _, rfl, e3, _, _, _⟩ := ok i x (by
            have := (List.getElem?_eq_some_iff.mp hi).1
            exact this) hi
          rw [List.getElem?_map, hi] at hy
          have e := Option.some.inj hy
          rw [fstAt_is e3] at e
          subst e
          exact ⟨rfl, _, rfl, c, _, _, _, rfl, rfl, SqT.of ((s12.trans s4) _ _ e3), atI_nat (j := 0) rfl, k _ (Same.refl _)⟩
        · have s15 := s12.trans s5
          have at_ : ∀ x ∈ xs, ∃ (c : Addr) (m u : V) (s t : String), x = .ref c ∧ H c = some (.tup [m, u]) ∧ Ty7 H m s ∧ Ty7 H u t ∧ wordV u = true := fun x hx2 => by
            obtain ⟨i, hi⟩ := List.mem_iff_getElem?.mp hx2
            exact ok i x (List.getElem?_eq_some_iff.mp hi).1 hi
          refine ⟨.ref D2, false, rfl, .bad (.inl hD5) (by simpa using z) (fun y hy => ?_) ?_, fun H6 s6 => q _ (s15.trans s6)⟩
          · obtain ⟨x, hx2, rfl⟩ := List.mem_map.mp hy
            obtain ⟨c, m, u, sm, _, rfl, e3, hm, _, _⟩ := at_ x hx2
            rw [fstAt_is e3]
            exact ⟨sm, hm.up s15⟩
          · rw [Bool.eq_false_iff]
            intro ha
            rw [List.map_map, List.all_map, List.all_eq_true] at ha
            rw [Bool.eq_false_iff] at f
            refine f (List.all_eq_true.mpr fun b hb => ?_)
            obtain ⟨i, hi⟩ := List.mem_iff_getElem?.mp hb
            have hib := (List.getElem?_eq_some_iff.mp hi).1
            have hix : i < xs.length := by omega
            have hxi := List.getElem?_eq_getElem hix
            have tk := hx i _ b hxi hi
            have mx : xs[i] ∈ xs := List.getElem_mem hix
            obtain ⟨c, m, u, sm, _, ex, e3, hm, _, hw⟩ := at_ _ mx
            have hmk := ha _ mx
            rw [ex] at tk hmk
            have hmk2 : markV (fstAt H (.ref c)) = true := hmk
            rw [fstAt_is e3] at hmk2
            cases tk with
            | odd ty3 n3 =>
              cases ty3 with
              | lst e4 => rw [e3] at e4; cases e4
              | tup e4 => cases n3
              | dct e4 => rw [e3] at e4; cases e4
            | len e4 n3 =>
              rw [e3] at e4
              cases e4
              exact absurd rfl n3
            | two e4 hm4 hu4 =>
              rw [e3] at e4
              cases e4
              show (markV _ && wordV _) = true
              rw [hmk2, hw]
              rfl
    | ok s z hx l =>
      rename_i a xs ts
      obtain ⟨t, ty, nt⟩ := s.ty
      have lz := hx.length
      refine ⟨_, rfl, (by show (2 : Nat) ≤ sizeLine; decide), fun tp ht => ⟨_, tp, _, _, _, _, rfl, upd_same, pair_lt, (ty.new ht).x, kit_lt ty, _, rfl, ?_⟩⟩
      have s1 : Same H (upd H tp (.tup [V.ty "list", V.ty "tuple"])) := same_new (Same.refl H) ht
      rw [nt]
      revert s1
      generalize upd H tp (.tup [V.ty "list", V.ty "tuple"]) = H1
      intro s1
      refine iteF ⟨_, rfl, _, _, rfl, s.up s1, fun J G wk hG => for_it wk (fun i σ H' => ∃ y1 : Option V, σ = [some (.ref a), y1] ∧ Same H1 H') ⟨_, rfl, Same.refl _⟩ (fun i σ H' _ h => ?_) (fun i x σ H2 H3 hi hP hY => ?_) (fun σ H2 hP => ?_)⟩
      · obtain ⟨_, _, s2⟩ := h
        exact hG H' fun o e => s2 _ _ e
      · obtain ⟨y1, rfl, s2⟩ := hP
        obtain ⟨rfl, hY⟩ := hY
        have s12 := s1.trans s2
        obtain ⟨t, ht2, c, rfl, e3⟩ := hx.get hY
        have lt := l t (List.mem_of_getElem? ht2)
        unfold tokS at lt
        rw [Bool.and_eq_true] at lt
        have lw := wordS_len lt.2
        refine ⟨_, rfl, _, _, _, _, _, rfl, .ty _, (Ty7.tup (s12 _ _ e3)).x, kit_ty (kit_tuple (Ty7.tup (s12 _ _ e3))), _, rfl, iteF ?_⟩
        refine ⟨_, rfl, _, _, rfl, .inr ⟨_, SqT.of (s12 _ _ e3), rfl⟩, rfl, _, rfl, iteF ?_⟩
        refine ⟨_, rfl, _, _, _, _, rfl, rfl, SqT.of (s12 _ _ e3), atI_nat (j := 1) rfl, _, _, rfl, .str t.2 (by omega), fun H4 s4 => ⟨_, rfl, ?_⟩⟩
        rw [show wordV (.str t.2) = true from lt.2]
        exact iteF ⟨_, rfl, s2.trans s4⟩
      · obtain ⟨y1, rfl, s2⟩ := hP
        have s12 := s1.trans s2
        refine ⟨_, rfl, _, _, rfl, s.up s12, fun J2 G2 wk2 hG2 D2 hD2 => ?_⟩
        refine lc_vals wk2 (ts.map fun t => V.str t.1) (by simp [lz]) (sz (by omega)) hD2 (fun H' s' => hG2 H' fun o e => s' _ _ e) (fun i x y H3 Q3 Pe hi hy s4 k => ?_) (fun H5 s5 hD5 => ?_)
        · obtain ⟨t, ht2, a2, rfl, e⟩ := hx.get hi
          rw [List.getElem?_map, ht2] at hy
          have e2 := Option.some.inj hy
          subst e2
          exact ⟨rfl, _, rfl, a2, _, _, _, rfl, rfl, SqT.of ((s12.trans s4) _ _ e), atI_nat (j := 0) rfl, k _ (Same.refl _)⟩
        · refine ⟨.ref D2, headPar ts, rfl, ?_, fun H6 s6 => q _ (s12.trans (s5.trans s6))⟩
          have r := RowV.ok (H := H5) (a := D2) (ms := ts.map (·.1)) (.inl (by rw [hD5, List.map_map]; rfl)) (by simp; omega) (fun m hm => by
            obtain ⟨t, h1, rfl⟩ := List.mem_map.mp hm
            have lt := l t h1
            unfold tokS at lt
            rw [Bool.and_eq_true] at lt
            exact lt.1)
          cases ts with
          | nil => exact r
          | cons t u => exact r

end
end RV


namespace RV
open PySem PySem.Spec PyProof.Rows L2 TL
section
variable {P : Program} {w : World} {K : PySem.W.Frag} {mg : Str → Option Value} {base : Heap}
theorem ok__law_cell (T : TX P w K mg) : FnOk P w K mg base CX0 1 T.a__law_cell T.d__law_cell ["_law_script", "_law_k"] (spCell K) := by
  refine T.F__law_cell.ok sc__law_cell (fun vs H Q E h => ?_) (fun cdv A outer s H vs Q E hr h => ?_)
  · obtain ⟨l, ns, j, rfl, hS, hj, q⟩ := h
    rfl
  · obtain ⟨l, ns, j, rfl, hS, hj, q⟩ := h
    refine ⟨_, (pss_cons (ps_if (pt_cmpR op_lt (pv 1) (pe_callB call_len (by rfl) T.m_len (by decide +kernel) (pa_cons (pv 0) pa_nil)) (nomark _))
        (pss_one (ps_ret (pe_ix (show IxR _ (rIxL K) from ix_list) (pv 0) (pv 1) (fun _ _ => rfl)))) pss_nil)
      (pss_one (ps_ret (pe_op op_add (pe_op op_mul pe_int (pv 1)) pe_int)))), ?_⟩
    refine ⟨_, rfl, .ref l, rfl, _, _, rfl, .inl ⟨_, hS, rfl⟩, _, _, rfl, rfl, _, rfl, ite2 (fun e => ?_) (fun e => ?_)⟩
    · have e2 := of_decide_eq_true e
      rw [List.length_map] at e2
      have hj2 : j < ns.length := by omega
      refine ⟨.ref l, rfl, _, rfl, l, _, _, .int ns[j], rfl, rfl, hS, atI_nat ?_, q _⟩
      rw [List.getElem?_map, List.getElem?_eq_getElem hj2]
      rfl
    · refine ⟨_, rfl, _, _, rfl, rfl, .inl ⟨by decide, by decide⟩, _, _, rfl, rfl, q _⟩

theorem ok__law_purse (T : TX P w K mg) : FnOk P w K mg base CX0 1 T.a__law_purse T.d__law_purse ["_law_cell_here"] (spBox) := by
  refine T.F__law_purse.ok sc__law_purse (fun vs H Q E h => ?_) (fun cdv A outer s H vs Q E hr h => ?_)
  · obtain ⟨z, rfl, q⟩ := h
    rfl
  · obtain ⟨z, rfl, q⟩ := h
    refine ⟨_, (pss_one (ps_ret (pe_lst (pa_cons (pe_callB (call_max2 rfl) (by rfl) T.m_max (by decide +kernel) (pa_cons pe_int (pa_cons (pe_op op_sub (pv 0) (pe_op op_pow pe_int pe_int)) pa_nil))) (pa_cons (pe_op op_modN (pv 0) pe_int) (pa_cons pe_int pa_nil)))))), ?_⟩
    refine ⟨_, rfl, _, _, rfl, rfl, ⟨by decide, by decide, by decide⟩, _, _, rfl, rfl, _, _, rfl, ?_⟩
    refine ⟨_, rfl, _, _, rfl, rfl, (by show (2147483629 : Int) ≠ 0; decide), ?_⟩
    refine ⟨(by show (3 : Nat) ≤ sizeLine; decide), fun p hp => q p _ _ hp ?_ ?_ ?_⟩
    · split <;> omega
    · rw [Int.fmod_eq_emod_of_nonneg _ (by decide)]
      exact Int.emod_nonneg _ (by decide)
    · rw [Int.fmod_eq_emod_of_nonneg _ (by decide)]
      exact Int.emod_lt_of_pos _ (by decide)

theorem ok__law_take (T : TX P w K mg) : FnOk P w K mg base CX0 1 T.a__law_take T.d__law_take ["_law_purse_here", "_law_many"] (spTake) := by
  refine T.F__law_take.ok sc__law_take (fun vs H Q E h => ?_) (fun cdv A outer s H vs Q E hr h => ?_)
  · obtain ⟨p, m, n, rfl, h1, h2, hn, ⟨a, b, c, e, ha, hb, hb2, hc, hcn⟩, q⟩ := h
    rfl
  · obtain ⟨p, m, n, rfl, h1, h2, hn, ⟨a, b, c, e, ha, hb, hb2, hc, hcn⟩, q⟩ := h
    refine ⟨_, (pss_cons (ps_if (pt_cmpR op_gt (pe_ix (show IxR _ (rIxL K) from ix_list) (pv 0) pe_int (fun _ _ => rfl)) pe_int (nomark _))
        (pss_cons (ps_set (i := 2) sc__law_take.nd rfl (by first | exact Or.inl rfl | exact Or.inr rfl) (pe_op op_modN (pe_ix (show IxR _ (rIxL K) from ix_list) (pv 0) pe_int (fun _ _ => rfl)) (pv 1)))
        (pss_cons (ps_asg (pe_op op_fdivW (pe_ix (show IxR _ (rIxL K) from ix_list) (pv 0) pe_int (fun _ _ => rfl)) (pv 1)) (pg_sub (pv 0) pe_int set_list))
        (pss_one (ps_ret (pv 2))))) pss_nil)
      (pss_cons (ps_asg (pe_op op_add (pe_ix (show IxR _ (rIxL K) from ix_list) (pv 0) pe_int (fun _ _ => rfl)) pe_int) (pg_sub (pv 0) pe_int set_list))
      (pss_cons (ps_set (i := 3) sc__law_take.nd rfl (by first | exact Or.inl rfl | exact Or.inr rfl) (pe_op op_modN (pe_op op_pow (pe_op op_add (pe_op op_add (pe_ix (show IxR _ (rIxL K) from ix_list) (pv 0) pe_int (fun _ _ => rfl)) (pe_op op_mul pe_int (pe_ix (show IxR _ (rIxL K) from ix_list) (pv 0) pe_int (fun _ _ => rfl)))) pe_int) pe_int) pe_int))
      (pss_cons (ps_set (i := 3) sc__law_take.nd rfl (by first | exact Or.inl rfl | exact Or.inr rfl) (pe_op op_modN (pe_op op_pow (pe_op op_add (pv 3) (pe_op op_mul pe_int (pe_ix (show IxR _ (rIxL K) from ix_list) (pv 0) pe_int (fun _ _ => rfl)))) pe_int) pe_int))
      (pss_one (ps_ret (pe_op op_modN (pe_op op_fdivW (pv 3) pe_int) (pv 1)))))))), ?_⟩
    have hm : m ≠ 0 := by omega
    have S0 : SqL K H p [.int a, .int b, .int c] := SqL.of e
    refine ⟨.ref p, rfl, p, _, _, .int a, rfl, rfl, S0, atI_nat (j := 0) rfl, _, _, rfl, rfl, _, rfl, ite2 (fun e2 => ?_) (fun e2 => ?_)⟩
    · have a0 : 0 < a := of_decide_eq_true e2
      refine ⟨.ref p, rfl, p, _, _, .int a, rfl, rfl, S0, atI_nat (j := 0) rfl, _, rfl, _, _, rfl, rfl, hm, ?_⟩
      refine ⟨.ref p, rfl, p, _, _, .int a, rfl, rfl, S0, atI_nat (j := 0) rfl, _, rfl, _, _, rfl, rfl, wide_div (b := 200) (by omega) h2 (by decide) (by decide), ?_⟩
      refine ⟨.ref p, rfl, p, _, _, 0, rfl, rfl, e, rfl, ?_⟩
      refine ⟨_, rfl, q _ _ ?_ ?_ ⟨_, _, _, upd_same, ?_, hb, hb2, hc, by omega⟩⟩
      · rw [Int.fmod_eq_emod_of_nonneg _ (by omega)]
        exact Int.emod_nonneg _ hm
      · rw [Int.fmod_eq_emod_of_nonneg _ (by omega)]
        exact Int.emod_lt_of_pos _ (by omega)
      · exact Int.ediv_nonneg ha (by omega)
    · refine ⟨.ref p, rfl, p, _, _, .int c, rfl, rfl, S0, atI_nat (j := 2) rfl, _, _, rfl, rfl, .ref p, rfl, p, _, _, 2, rfl, rfl, e, rfl, ?_⟩
      have e3 : upd H p (.lst [.int a, .int b, .int (c + 1)]) p = some (.lst [.int a, .int b, .int (c + 1)]) := upd_same
      have S1 : SqL K (upd H p (.lst [.int a, .int b, .int (c + 1)])) p [.int a, .int b, .int (c + 1)] := SqL.of e3
      refine ⟨.ref p, rfl, p, _, _, .int b, rfl, rfl, S1, atI_nat (j := 1) rfl, .ref p, rfl, p, _, _, .int (c + 1), rfl, rfl, S1, atI_nat (j := 2) rfl, _, _, rfl, rfl, .inl ⟨by decide, by decide⟩, _, _, rfl, rfl, _, _, rfl, rfl, _, _, rfl, rfl, ⟨by decide, by decide, by omega⟩, _, _, rfl, rfl, (by show (2147483647 : Int) ≠ 0; decide), ?_⟩
      refine ⟨_, rfl, .ref p, rfl, p, _, _, .int (c + 1), rfl, rfl, S1, atI_nat (j := 2) rfl, _, _, rfl, rfl, .inl ⟨by decide, by decide⟩, _, _, rfl, rfl, _, _, rfl, rfl, ⟨by decide, by decide, ?_⟩, _, _, rfl, rfl, (by show (2147483587 : Int) ≠ 0; decide), ?_⟩
      · exact take_small _ _ (by omega) (by omega)
      · refine ⟨_, rfl, _, _, rfl, rfl, ⟨by decide, by decide⟩, _, rfl, _, _, rfl, rfl, hm, q _ _ ?_ ?_ ⟨_, _, _, e3, ha, hb, hb2, by omega, by omega⟩⟩
        · rw [Int.fmod_eq_emod_of_nonneg _ (by omega)]
          exact Int.emod_nonneg _ hm
        · rw [Int.fmod_eq_emod_of_nonneg _ (by omega)]
          exact Int.emod_lt_of_pos _ (by omega)

theorem ok__law_odd_thing (T : TX P w K mg) : FnOk P w K mg base CX0 2 T.a__law_odd_thing T.d__law_odd_thing ["_law_purse_here", "_law_thing"] (spOddThing) := by
  refine T.F__law_odd_thing.ok sc__law_odd_thing (fun vs H Q E h => ?_) (fun cdv A outer s H vs Q E hr h => ?_)
  · obtain ⟨p, n, x, d, ps, k, c, rfl, hn, B0, pin, pold, dd, hk, q⟩ := h
    rfl
  · obtain ⟨p, n, x, d, ps, k, c, rfl, hn, B0, pin, pold, dd, hk, q⟩ := h
    refine ⟨_, (pss_cons (ps_set (i := 2) sc__law_odd_thing.nd rfl (by first | exact Or.inl rfl | exact Or.inr rfl) (pe_lst (pa_cons pe_non (pa_cons pe_bl (pa_cons pe_int (pa_cons pe_str (pa_cons pe_str (pa_cons pe_str (pa_cons pe_str (pa_cons pe_str (pa_cons pe_str (pa_cons pe_str (pa_cons pe_str (pa_cons pe_str (pa_cons pe_str (pa_cons pe_str (pa_cons (pe_op op_mul_str pe_str pe_int) (pa_cons (pe_op op_mul_str pe_str pe_int) (pa_cons pe_str pa_nil)))))))))))))))))))
      (pss_cons (ps_set (i := 2) sc__law_odd_thing.nd rfl (by first | exact Or.inl rfl | exact Or.inr rfl) (pe_op op_cat (pv 2) (pe_lst (pa_cons (pe_lst pa_nil) (pa_cons (pe_tup (pa_cons pe_str pa_nil)) (pa_cons (pe_tup (pa_cons pe_str (pa_cons pe_str (pa_cons pe_str pa_nil)))) (pa_cons (pe_lst (pa_cons pe_str (pa_cons pe_str pa_nil))) (pa_cons (pe_tup (pa_cons pe_str (pa_cons pe_str pa_nil))) (pa_cons pe_dnewK (pa_cons (pe_lst (pa_cons (pv 1) pa_nil)) (pa_cons (pe_tup (pa_cons (pv 1) pa_nil)) pa_nil)))))))))))
      (pss_one (ps_ret (pe_ix (show IxR _ (rIxL K) from ix_list) (pv 2) (pe_call (ok__law_take T) (hr.mono (by decide)) (by rfl) T.g__law_take T.F__law_take.kp T.b__law_take .nil pass0 (pa_cons (pv 0) (pa_cons (pe_callB call_len (by rfl) T.m_len (by decide +kernel) (pa_cons (pv 2) pa_nil)) pa_nil))) (fun _ _ => rfl)))))), ?_⟩
    refine ⟨_, 30, rfl, rfl, by decide +kernel, by decide, _, 31, rfl, rfl, by decide +kernel, by decide, (by show (17 : Nat) ≤ sizeLine; decide), fun D hD => ?_⟩
    have s0 : Same H (upd H D (.lst oddL)) := same_new (Same.refl _) hD; have eD : upd H D (.lst oddL) D = some (.lst oddL) := upd_same; revert s0 eD; generalize upd H D (.lst oddL) = H0; intro s0 eD
    refine ⟨_, rfl, (by show (0 : Nat) ≤ sizeLine; decide), fun a1 k1 => ?_⟩
    have s1 : Same H0 (upd H0 a1 (.lst [])) := same_new (Same.refl _) k1; have e1 : upd H0 a1 (.lst []) a1 = some (.lst []) := upd_same; revert s1 e1; generalize upd H0 a1 (.lst []) = H1; intro s1 e1
    refine ⟨(by show (1 : Nat) ≤ sizeLine; decide), fun a2 k2 => ?_⟩
    have s2 : Same H1 (upd H1 a2 (.tup [sV "#0"])) := same_new (Same.refl _) k2; have e2 : upd H1 a2 (.tup [sV "#0"]) a2 = some (.tup [sV "#0"]) := upd_same; revert s2 e2; generalize upd H1 a2 (.tup [sV "#0"]) = H2; intro s2 e2
    refine ⟨(by show (3 : Nat) ≤ sizeLine; decide), fun a3 k3 => ?_⟩
    have s3 : Same H2 (upd H2 a3 (.tup [sV "#0", sV "a", sV "b"])) := same_new (Same.refl _) k3; have e3 : upd H2 a3 (.tup [sV "#0", sV "a", sV "b"]) a3 = some (.tup [sV "#0", sV "a", sV "b"]) := upd_same; revert s3 e3; generalize upd H2 a3 (.tup [sV "#0", sV "a", sV "b"]) = H3; intro s3 e3
    refine ⟨(by show (2 : Nat) ≤ sizeLine; decide), fun a4 k4 => ?_⟩
    have s4 : Same H3 (upd H3 a4 (.lst [sV "#0", sV "a"])) := same_new (Same.refl _) k4; have e4 : upd H3 a4 (.lst [sV "#0", sV "a"]) a4 = some (.lst [sV "#0", sV "a"]) := upd_same; revert s4 e4; generalize upd H3 a4 (.lst [sV "#0", sV "a"]) = H4; intro s4 e4
    refine ⟨(by show (2 : Nat) ≤ sizeLine; decide), fun a5 k5 => ?_⟩
    have s5 : Same H4 (upd H4 a5 (.tup [sV "a", sV "#0"])) := same_new (Same.refl _) k5; have e5 : upd H4 a5 (.tup [sV "a", sV "#0"]) a5 = some (.tup [sV "a", sV "#0"]) := upd_same; revert s5 e5; generalize upd H4 a5 (.tup [sV "a", sV "#0"]) = H5; intro s5 e5
    refine fun a6 k6 => ?_
    have s6 : Same H5 (upd H5 a6 (.dK [])) := same_new (Same.refl _) k6; have e6 : upd H5 a6 (.dK []) a6 = some (.dK []) := upd_same; revert s6 e6; generalize upd H5 a6 (.dK []) = H6; intro s6 e6
    refine ⟨_, rfl, (by show (1 : Nat) ≤ sizeLine; decide), fun a7 k7 => ?_⟩
    have s7 : Same H6 (upd H6 a7 (.lst [x])) := same_new (Same.refl _) k7; have e7 : upd H6 a7 (.lst [x]) a7 = some (.lst [x]) := upd_same; revert s7 e7; generalize upd H6 a7 (.lst [x]) = H7; intro s7 e7
    refine ⟨_, rfl, (by show (1 : Nat) ≤ sizeLine; decide), fun a8 k8 => ?_⟩
    have s8 : Same H7 (upd H7 a8 (.tup [x])) := same_new (Same.refl _) k8; have e8 : upd H7 a8 (.tup [x]) a8 = some (.tup [x]) := upd_same; revert s8 e8; generalize upd H7 a8 (.tup [x]) = H8; intro s8 e8
    refine ⟨(by show (8 : Nat) ≤ sizeLine; decide), fun D2 k9 => ?_⟩
    have s9 : Same H8 (upd H8 D2 (.lst [.ref a1, .ref a2, .ref a3, .ref a4, .ref a5, .ref a6, .ref a7, .ref a8])) := same_new (Same.refl _) k9; have e9 : upd H8 D2 (.lst [.ref a1, .ref a2, .ref a3, .ref a4, .ref a5, .ref a6, .ref a7, .ref a8]) D2 = some (.lst [.ref a1, .ref a2, .ref a3, .ref a4, .ref a5, .ref a6, .ref a7, .ref a8]) := upd_same; revert s9 e9; generalize upd H8 D2 (.lst [.ref a1, .ref a2, .ref a3, .ref a4, .ref a5, .ref a6, .ref a7, .ref a8]) = H9; intro s9 e9
    have s89 := s8.trans s9
    have s79 := s7.trans s89
    have s69 := s6.trans s79
    have s59 := s5.trans s69
    have s49 := s4.trans s59
    have s39 := s3.trans s49
    have s29 := s2.trans s39
    have s19 := s1.trans s29
    have s09 := s0.trans s19
    refine ⟨_, _, _, _, rfl, rfl, s19 _ _ eD, e9, by show (25 : Nat) ≤ sizeLine; decide, fun R kR => ?_⟩
    have sA : Same H9 (upd H9 R (.lst (oddL ++ [.ref a1, .ref a2, .ref a3, .ref a4, .ref a5, .ref a6, .ref a7, .ref a8]))) := same_new (Same.refl _) kR; have eA : upd H9 R (.lst (oddL ++ [.ref a1, .ref a2, .ref a3, .ref a4, .ref a5, .ref a6, .ref a7, .ref a8])) R = some (.lst (oddL ++ [.ref a1, .ref a2, .ref a3, .ref a4, .ref a5, .ref a6, .ref a7, .ref a8])) := upd_same; revert sA eA; generalize upd H9 R (.lst (oddL ++ [.ref a1, .ref a2, .ref a3, .ref a4, .ref a5, .ref a6, .ref a7, .ref a8])) = HA; intro sA eA
    have s0A := s09.trans sA
    have BA := B0.up s0A
    refine ⟨_, rfl, _, rfl, _, rfl, _, _, rfl, .inl ⟨_, SqL.of eA, rfl⟩, p, 25, n, rfl, by decide, by decide, by omega, BA, fun d1 o1 ge1 lt1 B1 => ?_⟩
    have S1 : Sam p HA (upd HA p o1) := Sam.box (Sam.refl _ _)
    revert B1 S1
    generalize upd HA p o1 = HB
    intro B1 S1
    have up : ∀ {G : Hp} {b : Addr} {o : HO}, Same G HA → G b = some o → H b = none → hid ps HB b = some o := fun {G b o} g e hb => by
      refine hid_of (fun z => pold b z hb) (S1 _ _ (fun z => ?_) (g _ _ e))
      subst z
      exact pold b pin hb
    have dx : Dx (hid ps HB) x d := Dx.up (hid_up fun b o h e => S1 b o (fun z => h (z ▸ pin)) (s0A _ _ e)) d x dd.dx
    have n1 : H a1 = none := sameNone s0 k1
    have n2 : H a2 = none := sameNone (s0.trans s1) k2
    have n3 : H a3 = none := sameNone (s0.trans (s1.trans s2)) k3
    have n4 : H a4 = none := sameNone (s0.trans (s1.trans (s2.trans s3))) k4
    have n5 : H a5 = none := sameNone (s0.trans (s1.trans (s2.trans (s3.trans s4)))) k5
    have n6 : H a6 = none := sameNone (s0.trans (s1.trans (s2.trans (s3.trans (s4.trans s5))))) k6
    have n7 : H a7 = none := sameNone (s0.trans (s1.trans (s2.trans (s3.trans (s4.trans (s5.trans s6)))))) k7
    have n8 : H a8 = none := sameNone (s0.trans (s1.trans (s2.trans (s3.trans (s4.trans (s5.trans (s6.trans s7))))))) k8
    have nw : ∀ {a : Addr}, H a = none → NewV H (.ref a) := fun h b e => by
      cases e
      exact h
    have big : ∀ {m : Nat}, m ≤ 1000 → m ≤ c + 2000 := fun h => by omega
    have sd : ∀ s : String, Dx (hid ps HB) (sV s) (.str (Str.ofString s)) := fun s => .str _
    have mem : ∀ v ∈ oddL ++ [V.ref a1, .ref a2, .ref a3, .ref a4, .ref a5, .ref a6, .ref a7, .ref a8], ∃ e, DD (hid ps HB) v e (k + 1) (c + 2000) ∧ NewV H v := fun v hv => by
      rcases List.mem_append.mp hv with hv | hv
      · obtain ⟨e, de, nr⟩ := odd_flat (H := hid ps HB) v hv
        exact ⟨e, de.mono (by omega) (by omega), fun b z => absurd z (nr b)⟩
      · simp only [List.mem_cons, List.not_mem_nil, or_false] at hv
        rcases hv with rfl | rfl | rfl | rfl | rfl | rfl | rfl | rfl
        · exact ⟨.list [], ⟨.lst (up (s29.trans sA) e1 n1) .nil, by simp [PyData.depth, PyData.depthAll], by simp [plainD, plainAll], big (by simp [cost, costAll])⟩, nw n1⟩
        · exact ⟨.tuple [.str (Str.ofString "#0")], ⟨.tup (up (s39.trans sA) e2 n2) (.cons (sd _) .nil), Nat.le_trans (show _ ≤ 3 by decide) (by omega), by simp only [plainD, plainAll, and_true]; exact asc_lit (by decide +kernel), big (by decide +kernel)⟩, nw n2⟩
        · exact ⟨.tuple [.str (Str.ofString "#0"), .str (Str.ofString "a"), .str (Str.ofString "b")], ⟨.tup (up (s49.trans sA) e3 n3) (.cons (sd _) (.cons (sd _) (.cons (sd _) .nil))), Nat.le_trans (show _ ≤ 3 by decide) (by omega), by simp only [plainD, plainAll, and_true]; exact ⟨asc_lit (by decide +kernel), asc_lit (by decide +kernel), asc_lit (by decide +kernel)⟩, big (by decide +kernel)⟩, nw n3⟩
        · exact ⟨.list [.str (Str.ofString "#0"), .str (Str.ofString "a")], ⟨.lst (up (s59.trans sA) e4 n4) (.cons (sd _) (.cons (sd _) .nil)), Nat.le_trans (show _ ≤ 3 by decide) (by omega), by simp only [plainD, plainAll, and_true]; exact ⟨asc_lit (by decide +kernel), asc_lit (by decide +kernel)⟩, big (by decide +kernel)⟩, nw n4⟩
        · exact ⟨.tuple [.str (Str.ofString "a"), .str (Str.ofString "#0")], ⟨.tup (up (s69.trans sA) e5 n5) (.cons (sd _) (.cons (sd _) .nil)), Nat.le_trans (show _ ≤ 3 by decide) (by omega), by simp only [plainD, plainAll, and_true]; exact ⟨asc_lit (by decide +kernel), asc_lit (by decide +kernel)⟩, big (by decide +kernel)⟩, nw n5⟩
        · exact ⟨.dict [], ⟨.dct0 (up (s79.trans sA) e6 n6), Nat.le_trans (show _ ≤ 3 by decide) (by omega), by simp only [plainD], big (by simp [cost])⟩, nw n6⟩
        · refine ⟨.list [d], ⟨.lst (up (s89.trans sA) e7 n7) (.cons dx .nil), ?_, by simp only [plainD, plainAll, and_true]; exact dd.pl, ?_⟩, nw n7⟩
          · have := dd.dp
            simp only [PyData.depth, PyData.depthAll]
            omega
          · have := dd.co
            simp only [cost, costAll]
            omega
        · refine ⟨.tuple [d], ⟨.tup (up (s9.trans sA) e8 n8) (.cons dx .nil), ?_, by simp only [plainD, plainAll, and_true]; exact dd.pl, ?_⟩, nw n8⟩
          · have := dd.dp
            simp only [PyData.depth, PyData.depthAll]
            omega
          · have := dd.co
            simp only [cost, costAll]
            omega
    obtain ⟨v, hv, e, de, ne⟩ := atI_all mem ge1 lt1
    exact ⟨_, _, _, v, rfl, rfl, SqL.of (S1 _ _ ((B0.up s09).ne kR).symm eA), hv, q v e HB (fun b o hb z => S1 b o hb (s0A b o z)) B1 de ne⟩

end
end RV


namespace RV
open PySem PySem.Spec PyProof.Rows L2 TL
section
variable {P : Program} {w : World} {K : PySem.W.Frag} {mg : Str → Option Value} {base : Heap}
theorem ok__law_mark (T : TX P w K mg) : FnOk P w K mg base CX0 2 T.a__law_mark T.d__law_mark ["_law_purse_here"] (spMark) := by
  refine T.F__law_mark.ok sc__law_mark (fun vs H Q E h => ?_) (fun cdv A outer s H vs Q E hr h => ?_)
  · obtain ⟨p, n, rfl, hn, B0, q⟩ := h
    rfl
  · obtain ⟨p, n, rfl, hn, B0, q⟩ := h
    refine ⟨_, (pss_cons (ps_if (pt_cmpR op_eq (pe_call (ok__law_take T) (hr.mono (by decide)) (by rfl) T.g__law_take T.F__law_take.kp T.b__law_take .nil pass0 (pa_cons (pv 0) (pa_cons pe_int pa_nil))) pe_int (nomark _))
        (pss_one (ps_ret pe_str)) pss_nil)
      (pss_one (ps_ret (pe_op op_add_str (pe_ix ix_str pe_str (pe_call (ok__law_take T) (hr.mono (by decide)) (by rfl) T.g__law_take T.F__law_take.kp T.b__law_take .nil pass0 (pa_cons (pv 0) (pa_cons pe_int pa_nil))) (fun _ _ => rfl)) (pe_ix ix_str pe_str (pe_call (ok__law_take T) (hr.mono (by decide)) (by rfl) T.g__law_take T.F__law_take.kp T.b__law_take .nil pass0 (pa_cons (pv 0) (pa_cons pe_int pa_nil))) (fun _ _ => rfl)))))), ?_⟩
    refine ⟨_, rfl, _, 3, n, rfl, by omega, by first | decide | omega, by omega, (by first | exact B0 | exact B0.new (by assumption) | exact (B0.new (by assumption)).new (by assumption)), fun d1 o1 ge1 lt1 B1 => ?_⟩
    refine ⟨rfl, _, rfl, ite2 (fun e => ?_) (fun e => ?_)⟩
    · exact q _ _ (by decide +kernel) (by repeat (first | exact Sam.refl _ _ | assumption | refine Sam.box ?_ | refine Sam.new ?_ (by assumption))) (B1.mono (by omega))
    · refine ⟨_, rfl, _, 3, n + 1, rfl, by omega, by first | decide | omega, by omega, (by first | exact B1 | exact B1.new (by assumption) | exact (B1.new (by assumption)).new (by assumption)), fun d2 o2 ge2 lt2 B2 => ?_⟩
      obtain ⟨c, hc, hc2⟩ := atI_alln (xs := (Str.ofString "#|/").cps.toList) ge2 (by
        rw [show ((Str.ofString "#|/").cps.toList.length : Int) = 3 from by decide +kernel]
        exact lt2)
      refine ⟨_, _, c, rfl, rfl, (by decide +kernel), hc, ?_⟩
      refine ⟨_, rfl, _, 4, n + 1 + 1, rfl, by omega, by first | decide | omega, by omega, (by first | exact B2 | exact B2.new (by assumption) | exact (B2.new (by assumption)).new (by assumption)), fun d3 o3 ge3 lt3 B3 => ?_⟩
      obtain ⟨d, hd, hd2⟩ := atI_alln (xs := (Str.ofString "0123").cps.toList) ge3 (by
        rw [show ((Str.ofString "0123").cps.toList.length : Int) = 4 from by decide +kernel]
        exact lt3)
      refine ⟨_, _, d, rfl, rfl, (by decide +kernel), hd, ?_⟩
      refine ⟨_, _, rfl, rfl, (by rw [len_one, len_one]; exact szl (by omega)), q _ _ ?_ (by repeat (first | exact Sam.refl _ _ | assumption | refine Sam.box ?_ | refine Sam.new ?_ (by assumption))) (B3.mono (by omega))⟩
      rw [markS_iff]
      refine .inr ⟨c, d, by rw [show (⟨#[c]⟩ ++ ⟨#[d]⟩ : Str).cps.toList = [c] ++ [d] from tl_append _ _]; rfl, ?_, ?_⟩
      · rw [show (Str.ofString "#|/").cps.toList = [35, 124, 47] from by decide +kernel] at hc2
        simpa using hc2
      · rw [show (Str.ofString "0123").cps.toList = [48, 49, 50, 51] from by decide +kernel] at hd2
        simpa using hd2

theorem ok__law_spoilt (T : TX P w K mg) : FnOk P w K mg base CX0 3 T.a__law_spoilt T.d__law_spoilt ["_law_purse_here", "_law_text_here"] (spSpoilt) := by
  refine T.F__law_spoilt.ok sc__law_spoilt (fun vs H Q E h => ?_) (fun cdv A outer s H vs Q E hr h => ?_)
  · obtain ⟨p, n, a, xs, ts, rfl, hn, B0, sq, tx, tk, l20, q⟩ := h
    rfl
  · obtain ⟨p, n, a, xs, ts, rfl, hn, B0, sq, tx, tk, l20, q⟩ := h
    refine ⟨_, (pss_cons (ps_set (i := 1) sc__law_spoilt.nd rfl (by first | exact Or.inl rfl | exact Or.inr rfl) (pe_callTy call_list_of (by rfl) T.m_list (by decide +kernel) (pa_cons (pv 1) pa_nil)))
      (pss_cons (ps_if (PW.pt (pw_or (pt_cmpR op_eq (pe_callB call_len (by rfl) T.m_len (by decide +kernel) (pa_cons (pv 1) pa_nil)) pe_int (nomark _)) (pw_or1 (pt_cmpR op_eq (pe_call (ok__law_take T) (hr.mono (by decide)) (by rfl) T.g__law_take T.F__law_take.kp T.b__law_take .nil pass0 (pa_cons (pv 0) (pa_cons pe_int pa_nil))) pe_int (nomark _)))))
        (pss_one (ps_ret (pe_call (ok__law_odd_thing T) (hr.mono (by decide)) (by rfl) T.g__law_odd_thing T.F__law_odd_thing.kp T.b__law_odd_thing .nil pass0 (pa_cons (pv 0) (pa_cons (pv 1) pa_nil))))) pss_nil)
      (pss_cons (ps_set (i := 2) sc__law_spoilt.nd rfl (by first | exact Or.inl rfl | exact Or.inr rfl) (pe_call (ok__law_take T) (hr.mono (by decide)) (by rfl) T.g__law_take T.F__law_take.kp T.b__law_take .nil pass0 (pa_cons (pv 0) (pa_cons (pe_callB call_len (by rfl) T.m_len (by decide +kernel) (pa_cons (pv 1) pa_nil)) pa_nil))))
      (pss_cons (ps_asg (pe_ix (show IxR _ (rIxL K) from ix_list) (pv 1) (pv 2) (fun _ _ => rfl)) (pg_tupK (K := K) (n := 2) (by rfl) (by rfl) (pgs_cons (pg_name (i := 3) sc__law_spoilt.nd rfl (by first | exact Or.inl rfl | exact Or.inr rfl)) (pgs_cons (pg_name (i := 4) sc__law_spoilt.nd rfl (by first | exact Or.inl rfl | exact Or.inr rfl)) pgs_nil))))
      (pss_cons (ps_set (i := 5) sc__law_spoilt.nd rfl (by first | exact Or.inl rfl | exact Or.inr rfl) (pe_call (ok__law_odd_thing T) (hr.mono (by decide)) (by rfl) T.g__law_odd_thing T.F__law_odd_thing.kp T.b__law_odd_thing .nil pass0 (pa_cons (pv 0) (pa_cons (pv 4) pa_nil))))
      (pss_cons (ps_set (i := 6) sc__law_spoilt.nd rfl (by first | exact Or.inl rfl | exact Or.inr rfl) (pe_call (ok__law_take T) (hr.mono (by decide)) (by rfl) T.g__law_take T.F__law_take.kp T.b__law_take .nil pass0 (pa_cons (pv 0) (pa_cons pe_int pa_nil))))
      (pss_cons (ps_if (pt_cmpR op_eq (pv 6) pe_int (nomark _))
        (pss_one (ps_ret (pe_op op_cat (pe_slice sl_list (pv 1) (po_some pe_int) po_none) (pe_slice sl_list (pv 1) po_none (po_some pe_int))))) pss_nil)
      (pss_cons (ps_asg (pe_ix (show IxR _ (rIxL K) from ix_list) (pe_lst (pa_cons (pe_tup (pa_cons (pv 5) (pa_cons (pv 4) pa_nil))) (pa_cons (pe_tup (pa_cons (pv 3) (pa_cons (pv 5) pa_nil))) (pa_cons (pv 5) (pa_cons (pe_tup (pa_cons (pe_call (ok__law_mark T) (hr.mono (by decide)) (by rfl) T.g__law_mark T.F__law_mark.kp T.b__law_mark .nil pass0 (pa_cons (pv 0) pa_nil)) (pa_cons (pv 4) pa_nil))) pa_nil))))) (pv 6) (fun _ _ => rfl)) (pg_sub (pv 1) (pv 2) set_list))
      (pss_one (ps_ret (pv 1))))))))))), ?_⟩
    have lx := tx.length
    have nap : ∀ {b : Addr} {o : HO}, hid [p] H b = some o → b ≠ p := fun {b o} e z => by
      unfold hid at e
      rw [if_pos (by rw [z]; exact List.mem_singleton.mpr rfl)] at e
      cases e
    have sqH : SqA H a xs := sq.up (hid_same _ _)
    refine ⟨_, rfl, a, xs, rfl, sqH.sqx, fun L hL => ?_⟩
    have nL : L ≠ p := (B0.ne hL).symm
    have s1 : Same H (upd H L (.lst xs)) := same_new (Same.refl _) hL; have eL : upd H L (.lst xs) L = some (.lst xs) := upd_same; revert s1 eL; generalize upd H L (.lst xs) = H1; intro s1 eL
    have B1 := B0.up s1
    -- an odd thing of the whole
    have oddc : ∀ (G : Hp) (m : Int), Sam p H1 G → BoxAt G p m → m ≤ n + 1 → spOddThing [.ref p, .ref L] G Q E := fun G m S B hm => by
      have eG : G L = some (.lst xs) := S _ _ nL eL
      have txG : TxL (hid [p] G) xs ts := tx.up (hid_up fun b o h e => S b o (fun z => h (List.mem_singleton.mpr z)) (s1 _ _ e))
      refine ⟨p, m, .ref L, _, [p], 2, _, rfl, by omega, B, by simp, fun x hx => ?_, dd_tx (hid_of (by simpa using nL) eG) txG tk, Nat.le_refl _, fun v e H' S2 B2 de nv => ?_⟩
      · rw [List.mem_singleton.mp hx]
        obtain ⟨_, _, _, e, _⟩ := B
        rw [e]
        simp
      · refine q v e H' (fun b o hb z => S2 b o hb (S b o hb (s1 b o z))) (B2.mono (by omega)) (de.mono (by omega) (by omega)) fun b eb => ?_
        have := nv b eb
        cases hHb : H b with
        | none => rfl
        | some o =>
          by_cases hb : b = p
          · obtain ⟨_, _, _, e, _⟩ := B
            rw [hb, e] at this
            cases this
          · rw [S b o hb (s1 b o hHb)] at this
            cases this
    refine ⟨_, rfl, _, _, rfl, .inl ⟨_, SqL.of eL, rfl⟩, rfl, _, rfl, ?_⟩
    by_cases ce : xs.length = 0
    · rw [show decide (V.int (xs.length : Int) = V.int 0) = true from decide_eq_true (by rw [ce]; rfl)]
      exact iteT (iteT ⟨_, rfl, _, rfl, oddc H1 n (Sam.refl _ _) B1 (by omega)⟩)
    rw [show decide (V.int (xs.length : Int) = V.int 0) = false from decide_eq_false (fun z => ce (by have := V.int.inj z; omega))]
    refine iteF ⟨_, rfl, p, 8, n, rfl, by omega, by decide, by omega, B1, fun d1 o1 ge1 lt1 B2 => ?_⟩
    have S1 : Sam p H1 (upd H1 p o1) := Sam.box (Sam.refl _ _)
    revert B2 S1
    generalize upd H1 p o1 = H2
    intro B2 S1
    refine ⟨rfl, _, rfl, ite2 (fun e => ?_) (fun e => ?_)⟩
    · exact ⟨_, rfl, _, rfl, oddc H2 (n + 1) S1 B2 (by omega)⟩
    have eL2 := S1 _ _ nL eL
    refine ⟨_, rfl, _, rfl, _, _, rfl, .inl ⟨_, SqL.of eL2, rfl⟩, p, (xs.length : Int), n + 1, rfl, by omega, Nat.lt_of_le_of_lt (show _ ≤ 20 by omega) (by decide), by omega, B2, fun d2 o2 ge2 lt2 B3 => ?_⟩
    have S2 : Sam p H1 (upd H2 p o2) := S1.trans (Sam.box (Sam.refl _ _))
    revert B3 S2
    generalize upd H2 p o2 = H3
    intro B3 S2
    clear eL2 B2 S1 e
    have eL3 := S2 _ _ nL eL
    obtain ⟨i, rfl⟩ := Int.eq_ofNat_of_zero_le ge2
    have hi : i < xs.length := by omega
    have tx3 : TxL H3 xs ts := tx.up fun b o e => S2 _ _ (nap e) (s1 _ _ (hid_same _ _ _ _ e))
    obtain ⟨t, ht, c, ex, ec⟩ := tx3.get (List.getElem?_eq_getElem hi)
    have tkt := tk t (List.mem_of_getElem? ht)
    have tA := tokS_A tkt
    have tw : wordS t.2 = true := by
      unfold tokS at tkt
      rw [Bool.and_eq_true] at tkt
      exact tkt.2
    have tm : markS t.1 = true := by
      unfold tokS at tkt
      rw [Bool.and_eq_true] at tkt
      exact tkt.1
    have lw := wordS_len tw
    have lm := markS_len tm
    have aw := wordS_asc tw
    have am := markS_asc tm
    refine ⟨_, rfl, _, rfl, L, xs, _, .ref c, rfl, rfl, SqL.of eL3, by rw [← ex]; exact atI_nat (List.getElem?_eq_getElem hi), c, _, rfl, SqT.of ec, rfl, _, _, rfl, _, _, rfl, rfl, ?_⟩
    have old3 : ∀ q ∈ [p, L], H3 q ≠ none := fun q hq => by
      rcases List.mem_cons.mp hq with rfl | hq
      · obtain ⟨_, _, _, e, _⟩ := B3
        rw [e]
        simp
      · rw [List.mem_singleton.mp hq, eL3]
        simp
    refine ⟨_, rfl, _, rfl, p, n + 1 + 1, .str t.2, .str t.2, [p, L], 2, 400, rfl, by omega, B3, by simp, old3, dd_str aw (by omega), Nat.le_refl _, fun v e H4 S3 B4 dv nv => ?_⟩
    refine ⟨_, rfl, p, 5, n + 1 + 1 + 1, rfl, by omega, by decide, by omega, B4, fun d3 o3 ge3 lt3 B5 => ?_⟩
    have S4 : Sam p H4 (upd H4 p o3) := Sam.box (Sam.refl _ _)
    revert B5 S4
    generalize upd H4 p o3 = H5
    intro B5 S4
    have S5 : Sam p H1 H5 := (S2.trans S3).trans S4
    have dv5 : DD (hid [p, L] H5) v e 3 2400 := dv.up (hid_up fun b o h z => S4 b o (fun z2 => h (by rw [z2]; simp)) z)
    have eL5 := S5 _ _ nL eL
    have tx5 : TxL (hid [p] H5) xs ts := tx.up (hid_up fun b o h e => S5 b o (fun z => h (List.mem_singleton.mpr z)) (s1 _ _ e))
    clear S2 S3 S4 B3 B4 eL3 tx3 old3 nv dv ec
    refine ⟨_, rfl, rfl, _, rfl, ite2 (fun e4 => ?_) (fun e4 => ?_)⟩
    · -- turned about
      refine ⟨_, rfl, 1, rfl, L, xs, rfl, SqL.of eL5, fun D1 k1 => ?_⟩
      have s6 : Same H5 (upd H5 D1 (.lst (cutV xs (some 1) none))) := same_new (Same.refl _) k1; have e6 : upd H5 D1 (.lst (cutV xs (some 1) none)) D1 = some (.lst (cutV xs (some 1) none)) := upd_same; revert s6 e6; generalize upd H5 D1 (.lst (cutV xs (some 1) none)) = H6; intro s6 e6
      refine ⟨_, rfl, 1, rfl, L, xs, rfl, SqL.of (s6 _ _ eL5), fun D2 k2 => ?_⟩
      have s7 : Same H6 (upd H6 D2 (.lst (cutV xs none (some 1)))) := same_new (Same.refl _) k2; have e7 : upd H6 D2 (.lst (cutV xs none (some 1))) D2 = some (.lst (cutV xs none (some 1))) := upd_same; revert s7 e7; generalize upd H6 D2 (.lst (cutV xs none (some 1))) = H7; intro s7 e7
      have lc1 : (cutV xs (some 1) none) = xs.drop 1 := cutV_from xs 1
      have lc2 : (cutV xs none (some 1)) = xs.take 1 := cutV_to xs 1
      rw [lc1] at e6
      rw [lc2] at e7
      refine ⟨_, _, _, _, rfl, rfl, s7 _ _ e6, e7, ?_, fun D3 k3 => ?_⟩
      · rw [List.length_drop, List.length_take]
        exact szl (by omega)
      have s8 : Same H5 (upd H7 D3 (.lst (xs.drop 1 ++ xs.take 1))) := same_new (s6.trans s7) k3
      have e8 : upd H7 D3 (.lst (xs.drop 1 ++ xs.take 1)) D3 = some (.lst (xs.drop 1 ++ xs.take 1)) := upd_same
      revert s8 e8
      generalize upd H7 D3 (.lst (xs.drop 1 ++ xs.take 1)) = H8
      intro s8 e8
      have nD3 : D3 ≠ p := (B5.up (s6.trans s7) |>.ne k3).symm
      have tx8 : TxL (hid [p] H8) xs ts := tx5.up (hid_up fun b o _ e => s8 _ _ e)
      have txr := (tx8.drop 1).append (tx8.take 1)
      refine q (.ref D3) _ H8 (fun b o hb z => s8 _ _ (S5 b o hb (s1 _ _ z))) ((B5.up s8).mono (by omega)) ((dd_tx (hid_of (by simpa using nD3) e8) txr fun t ht => ?_).mono (by omega) ?_) fun b eb => ?_
      · rcases List.mem_append.mp ht with h | h
        · exact tk t (List.mem_of_mem_drop h)
        · exact tk t (List.mem_of_mem_take h)
      · rw [List.length_append, List.length_drop, List.length_take]
        omega
      · cases eb
        have k5 : H5 D3 = none := sameNone (s6.trans s7) k3
        cases hH : H D3 with
        | none => rfl
        | some o =>
          rw [S5 D3 o nD3 (s1 _ _ hH)] at k5
          cases k5
    -- one token otherwise
    have sd : ∀ {z : Str}, Asc z → z.length ≤ 30 → DD (hid [p, L] H5) (.str z) (.str z) 3 2400 := fun h l => dd_str h (by omega)
    refine ⟨_, rfl, _, rfl, (by show (2 : Nat) ≤ sizeLine; decide), fun t1 k1 => ?_⟩
    have s6 : Same H5 (upd H5 t1 (.tup [v, .str t.2])) := same_new (Same.refl _) k1; have e6 : upd H5 t1 (.tup [v, .str t.2]) t1 = some (.tup [v, .str t.2]) := upd_same; revert s6 e6; generalize upd H5 t1 (.tup [v, .str t.2]) = H6; intro s6 e6
    refine ⟨_, rfl, _, rfl, (by show (2 : Nat) ≤ sizeLine; decide), fun t2 k2 => ?_⟩
    have s7 : Same H6 (upd H6 t2 (.tup [.str t.1, v])) := same_new (Same.refl _) k2; have e7 : upd H6 t2 (.tup [.str t.1, v]) t2 = some (.tup [.str t.1, v]) := upd_same; revert s7 e7; generalize upd H6 t2 (.tup [.str t.1, v]) = H7; intro s7 e7
    have s57 := s6.trans s7
    refine ⟨_, rfl, _, rfl, p, n + 1 + 1 + 1 + 1, rfl, by omega, B5.up s57, fun m H8 hm S8 B8 => ?_⟩
    refine ⟨_, rfl, (by show (2 : Nat) ≤ sizeLine; decide), fun t4 k4 => ?_⟩
    have s9 : Same H8 (upd H8 t4 (.tup [.str m, .str t.2])) := same_new (Same.refl _) k4; have e9 : upd H8 t4 (.tup [.str m, .str t.2]) t4 = some (.tup [.str m, .str t.2]) := upd_same; revert s9 e9; generalize upd H8 t4 (.tup [.str m, .str t.2]) = H9; intro s9 e9
    refine ⟨(by show (4 : Nat) ≤ sizeLine; decide), fun M k5 => ?_⟩
    have sA : Same H9 (upd H9 M (.lst [.ref t1, .ref t2, v, .ref t4])) := same_new (Same.refl _) k5; have eA : upd H9 M (.lst [.ref t1, .ref t2, v, .ref t4]) M = some (.lst [.ref t1, .ref t2, v, .ref t4]) := upd_same; revert sA eA; generalize upd H9 M (.lst [.ref t1, .ref t2, v, .ref t4]) = HA; intro sA eA
    have SA : Sam p H5 HA := fun b o hb z => sA _ _ (s9 _ _ (S8 b o hb (s57 _ _ z)))
    have BA := (B8.up s9).up sA
    have n1 : t1 ≠ p := (B5.ne k1).symm
    have n2 : t2 ≠ p := ((B5.up s6).ne k2).symm
    have n4 : t4 ≠ p := (B8.ne k4).symm
    have l1 : t1 ≠ L := fun z => by rw [z, eL5] at k1; cases k1
    have l2 : t2 ≠ L := fun z => by rw [z, s6 _ _ eL5] at k2; cases k2
    have l4 : t4 ≠ L := fun z => by rw [z, S8 _ _ nL (s57 _ _ eL5)] at k4; cases k4
    have hA : Same (hid [p, L] H5) (hid [p, L] HA) := hid_up fun b o h z => SA b o (fun z2 => h (by rw [z2]; simp)) z
    have inA : ∀ {b : Addr} {o : HO}, b ≠ p → b ≠ L → HA b = some o → hid [p, L] HA b = some o := fun hp hl e => hid_of (by simp [hp, hl]) e
    have a1 := dd_pair (inA n1 l1 (sA _ _ (s9 _ _ (S8 _ _ n1 (s7 _ _ e6))))) (dv5.up hA) ((sd aw lw).up hA)
    have a2 := dd_pair (inA n2 l2 (sA _ _ (s9 _ _ (S8 _ _ n2 e7)))) ((sd am (by omega)).up hA) (dv5.up hA)
    have a4 := dd_pair (inA n4 l4 (sA _ _ e9)) ((sd (markS_asc hm) (by have := markS_len hm; omega)).up hA) ((sd aw lw).up hA)
    have mem : ∀ y ∈ [V.ref t1, .ref t2, v, .ref t4], ∃ e2, DD (hid [p, L] HA) y e2 4 6000 := fun y hy => by
      simp only [List.mem_cons, List.not_mem_nil, or_false] at hy
      rcases hy with rfl | rfl | rfl | rfl
      · exact ⟨_, a1.mono (by omega) (by omega)⟩
      · exact ⟨_, a2.mono (by omega) (by omega)⟩
      · exact ⟨_, (dv5.up hA).mono (by omega) (by omega)⟩
      · exact ⟨_, a4.mono (by omega) (by omega)⟩
    obtain ⟨y, hy, e2, dy⟩ := atI_all (d := d3) mem ge3 (by
      have ne : d3 ≠ 4 := fun z => e4 (decide_eq_true (congrArg V.int z))
      show d3 < 4
      omega)
    refine ⟨_, rfl, M, _, d3, y, rfl, rfl, SqL.of eA, hy, ?_⟩
    have eLA := SA _ _ nL eL5
    refine ⟨_, rfl, _, rfl, L, xs, _, i, rfl, rfl, eLA, ixN_nat hi, _, rfl, ?_⟩
    have hF : Same (hid [p] H) (hid [p] (upd HA L (.lst (xs.set i y)))) := hid_up fun b o h z => by
      have hbL : b ≠ L := fun z2 => by rw [z2, hL] at z; cases z
      rw [upd_ne hbL]
      exact SA b o (fun z2 => h (List.mem_singleton.mpr z2)) (S5 b o (fun z2 => h (List.mem_singleton.mpr z2)) (s1 _ _ z))
    have hG : Same (hid [p, L] HA) (hid [p] (upd HA L (.lst (xs.set i y)))) := fun b o z => by
      unfold hid at z ⊢
      split at z
      · cases z
      · rename_i h
        simp only [List.mem_cons, List.not_mem_nil, or_false, not_or] at h
        rw [if_neg (by simpa using h.1), upd_ne h.2]
        exact z
    have dxs2 := (dx_tx (tx.up hF)).set i (Dx.up hG _ _ dy.dx)
    refine q (.ref L) _ (upd HA L (.lst (xs.set i y))) (fun b o hb z => ?_) ((BA.off nL).mono (by omega)) ((dd_list (k := 4) (c := 6000) (hid_of (by simpa using nL) upd_same) dxs2 fun d hd => ?_).mono (by omega) ?_) fun b eb => ?_
    · have hbL : b ≠ L := fun z2 => by rw [z2, hL] at z; cases z
      rw [upd_ne hbL]
      exact SA b o hb (S5 b o hb (s1 _ _ z))
    · rcases mem_set hd with h | rfl
      · obtain ⟨u, hu, rfl⟩ := List.mem_map.mp h
        exact tk_data (tk u hu)
      · exact ⟨dy.dp, dy.pl, dy.co⟩
    · rw [List.length_set, List.length_map]
      omega
    · cases eb
      exact hL

end
end RV


namespace RV
open PySem PySem.Spec PyProof.Rows L2 TL
section
variable {P : Program} {w : World} {K : PySem.W.Frag} {mg : Str → Option Value} {base : Heap}
theorem ok__law_refused (T : TX P w K mg) : FnOk P w K mg base CX0 8 T.a__law_refused T.d__law_refused ["_law_way", "_law_one", "_law_other"] (spRefused) := by
  refine T.F__law_refused.ok sc__law_refused (fun vs H Q E h => ?_) (fun cdv A outer s H vs Q E hr h => ?_)
  · obtain ⟨way, one, other, rfl, h⟩ := h
    rfl
  · obtain ⟨way, one, other, rfl, h⟩ := h
    refine ⟨_, (pss_cons (ps_set (i := 3) sc__law_refused.nd rfl (by first | exact Or.inl rfl | exact Or.inr rfl) (pe_lst pa_nil))
      (pss_cons (ps_try_an rfl rfl
        (fun W pn xe tk _ => (pss_one (ps_if (pt_cmpR op_eq (pv 0) pe_int (nomark _))
          (pss_one (ps_expr (pe_callS (ok_marks_of T) (hr.mono (by decide)) (by rfl) T.g_marks_of T.F_marks_of.kp T.b_marks_of (fun σ => passAt tk σ) (pa_cons (pv 1) pa_nil)))) (pss_one (ps_if (pt_cmpR op_eq (pv 0) pe_int (nomark _))
            (pss_one (ps_expr (pe_callS (ok_lengths_of T) (hr.mono (by decide)) (by rfl) T.g_lengths_of T.F_lengths_of.kp T.b_lengths_of (fun σ => passAt tk σ) (pa_cons (pv 1) pa_nil)))) (pss_one (ps_if (pt_cmpR op_eq (pv 0) pe_int (nomark _))
              (pss_one (ps_expr (pe_callS (ok_unlike_marks T) (hr.mono (by decide)) (by rfl) T.g_unlike_marks T.F_unlike_marks.kp T.b_unlike_marks (fun σ => passAt tk σ) (pa_cons (pv 1) (pa_cons (pv 2) pa_nil))))) (pss_one (ps_expr (pe_callS (ok_text_of T) (hr.mono (by decide)) (by rfl) T.g_text_of T.F_text_of.kp T.b_text_of (fun σ => passAt tk σ) (pa_cons (pv 1) (pa_cons (pv 2) pa_nil))))))))))))
        (HdsAs.cons (i := 4) sc__law_refused.nd rfl rfl ⟨rfl, by decide, Or.inl T.x_InvalidText.gC⟩
        (fun a oe cls d pn hz hf => (pss_one (ps_set (i := 3) sc__law_refused.nd rfl (by first | exact Or.inl rfl | exact Or.inr rfl) (pe_lst (pa_cons pe_str (pa_cons (pe_bySup T.x_InvalidText hz hf (pv 4)) pa_nil))))))
        (HdsAs.cons (i := 4) sc__law_refused.nd rfl rfl ⟨rfl, by decide, Or.inl T.x_InvalidMarks.gC⟩
        (fun a oe cls d pn hz hf => (pss_one (ps_set (i := 3) sc__law_refused.nd rfl (by first | exact Or.inl rfl | exact Or.inr rfl) (pe_lst (pa_cons pe_str (pa_cons (pe_bySup T.x_InvalidMarks hz hf (pv 4)) pa_nil))))))
        (HdsAs.cons (i := 4) sc__law_refused.nd rfl rfl ⟨rfl, by decide, Or.inl T.x_InvalidWords.gC⟩
        (fun a oe cls d pn hz hf => (pss_one (ps_set (i := 3) sc__law_refused.nd rfl (by first | exact Or.inl rfl | exact Or.inr rfl) (pe_lst (pa_cons pe_str (pa_cons (pe_bySup T.x_InvalidWords hz hf (pv 4)) pa_nil))))))
        (HdsAs.stop _)))))
      (pss_one (ps_ret (pv 3))))), ?_⟩
    refine ⟨(by show (0 : Nat) ≤ sizeLine; decide), fun D hD => ?_⟩
    have s0 : Same H (upd H D (.lst [])) := same_new (Same.refl _) hD
    revert s0
    generalize upd H D (.lst []) = H0
    intro s0
    cases h with
    | marks t q => exact ⟨_, rfl, rfl, _, rfl, iteT ⟨_, rfl, one, rfl, .inl ⟨t.up s0, fun H1 d s1 f => ⟨true, T.x_InvalidText.te, (fun _ a ha => ⟨_, rfl, rfl, rfl, d, _, rfl, f, (by show (2 : Nat) ≤ sizeLine; decide), fun R hR => ⟨_, rfl, q R _ (same_new (s0.trans s1) hR) (sameNone (s0.trans s1) hR) upd_same⟩⟩), fun z => nomatch z⟩⟩⟩⟩
    | lens t q => exact ⟨_, rfl, rfl, _, rfl, iteF ⟨_, rfl, rfl, _, rfl, iteT ⟨_, rfl, one, rfl, .inl ⟨t.up s0, fun H1 d s1 f => ⟨true, T.x_InvalidText.te, (fun _ a ha => ⟨_, rfl, rfl, rfl, d, _, rfl, f, (by show (2 : Nat) ≤ sizeLine; decide), fun R hR => ⟨_, rfl, q R _ (same_new (s0.trans s1) hR) (sameNone (s0.trans s1) hR) upd_same⟩⟩), fun z => nomatch z⟩⟩⟩⟩⟩
    | unl1 t q => exact ⟨_, rfl, rfl, _, rfl, iteF ⟨_, rfl, rfl, _, rfl, iteF ⟨_, rfl, rfl, _, rfl, iteT ⟨_, rfl, _, rfl, one, other, rfl, .inl ⟨t.up s0, fun H1 d s1 f => ⟨true, T.x_InvalidText.te, (fun _ a ha => ⟨_, rfl, rfl, rfl, d, _, rfl, f, (by show (2 : Nat) ≤ sizeLine; decide), fun R hR => ⟨_, rfl, q R _ (same_new (s0.trans s1) hR) (sameNone (s0.trans s1) hR) upd_same⟩⟩), fun z => nomatch z⟩⟩⟩⟩⟩⟩
    | unl2 g t q => exact ⟨_, rfl, rfl, _, rfl, iteF ⟨_, rfl, rfl, _, rfl, iteF ⟨_, rfl, rfl, _, rfl, iteT ⟨_, rfl, _, rfl, one, other, rfl, .inr ⟨_, g.up s0, .inl ⟨t.up s0, fun H1 d s1 f => ⟨true, T.x_InvalidText.te, (fun _ a ha => ⟨_, rfl, rfl, rfl, d, _, rfl, f, (by show (2 : Nat) ≤ sizeLine; decide), fun R hR => ⟨_, rfl, q R _ (same_new (s0.trans s1) hR) (sameNone (s0.trans s1) hR) upd_same⟩⟩), fun z => nomatch z⟩⟩⟩⟩⟩⟩⟩
    | unl3 g g2 ne q => exact ⟨_, rfl, rfl, _, rfl, iteF ⟨_, rfl, rfl, _, rfl, iteF ⟨_, rfl, rfl, _, rfl, iteT ⟨_, rfl, _, rfl, one, other, rfl, .inr ⟨_, g.up s0, .inr ⟨_, g2.up s0, .inl ⟨ne, fun H1 d s1 f => ⟨true, T.x_InvalidText.te, (fun _ a ha => ⟨_, rfl, rfl, rfl, d, _, rfl, f, (by show (2 : Nat) ≤ sizeLine; decide), fun R hR => ⟨_, rfl, q R _ (same_new (s0.trans s1) hR) (sameNone (s0.trans s1) hR) upd_same⟩⟩), fun z => nomatch z⟩⟩⟩⟩⟩⟩⟩⟩
    | txt1 r q => exact ⟨_, rfl, rfl, _, rfl, iteF ⟨_, rfl, rfl, _, rfl, iteF ⟨_, rfl, rfl, _, rfl, iteF ⟨_, rfl, _, rfl, one, other, rfl, .inl ⟨r.up s0, fun H1 d s1 f => ⟨false, T.ne_InvalidMarks_InvalidText, (fun z => nomatch z), fun _ => ⟨true, T.x_InvalidMarks.te, (fun _ a ha => ⟨_, rfl, rfl, rfl, d, _, rfl, f, (by show (2 : Nat) ≤ sizeLine; decide), fun R hR => ⟨_, rfl, q R _ (same_new (s0.trans s1) hR) (sameNone (s0.trans s1) hR) upd_same⟩⟩), fun z => nomatch z⟩⟩⟩⟩⟩⟩⟩
    | txt2 g w q => exact ⟨_, rfl, rfl, _, rfl, iteF ⟨_, rfl, rfl, _, rfl, iteF ⟨_, rfl, rfl, _, rfl, iteF ⟨_, rfl, _, rfl, one, other, rfl, .inr ⟨_, _, g.up s0, .inl ⟨w.up s0, fun H1 d s1 f => ⟨false, T.ne_InvalidWords_InvalidText, (fun z => nomatch z), fun _ => ⟨false, T.ne_InvalidWords_InvalidMarks, (fun z => nomatch z), fun _ => ⟨true, T.x_InvalidWords.te, (fun _ a ha => ⟨_, rfl, rfl, rfl, d, _, rfl, f, (by show (2 : Nat) ≤ sizeLine; decide), fun R hR => ⟨_, rfl, q R _ (same_new (s0.trans s1) hR) (sameNone (s0.trans s1) hR) upd_same⟩⟩), fun z => nomatch z⟩⟩⟩⟩⟩⟩⟩⟩⟩
    | txt3 g s w z ne q => exact ⟨_, rfl, rfl, _, rfl, iteF ⟨_, rfl, rfl, _, rfl, iteF ⟨_, rfl, rfl, _, rfl, iteF ⟨_, rfl, _, rfl, one, _, rfl, .inr ⟨_, _, g.up s0, .inr (.inl ⟨_, _, rfl, s.up s0, w.up s0, z, ne, fun H1 d s1 f => ⟨false, T.ne_InvalidWords_InvalidText, (fun z => nomatch z), fun _ => ⟨false, T.ne_InvalidWords_InvalidMarks, (fun z => nomatch z), fun _ => ⟨true, T.x_InvalidWords.te, (fun _ a ha => ⟨_, rfl, rfl, rfl, d, _, rfl, f, (by show (2 : Nat) ≤ sizeLine; decide), fun R hR => ⟨_, rfl, q R _ (same_new (s0.trans s1) hR) (sameNone (s0.trans s1) hR) upd_same⟩⟩), fun z => nomatch z⟩⟩⟩⟩)⟩⟩⟩⟩⟩

theorem ok__law_texts_right (T : TX P w K mg) : FnOk P w K mg base CX0 7 T.a__law_texts_right T.d__law_texts_right ["_law_text_here", "_law_marks", "_law_words"] (spTextsR) := by
  refine T.F__law_texts_right.ok sc__law_texts_right (fun vs H Q E h => ?_) (fun cdv A outer s H vs Q E hr h => ?_)
  · obtain ⟨v, m, w, ts, rfl, g, em, ew, q⟩ := h
    rfl
  · obtain ⟨v, m, w, ts, rfl, g, em, ew, q⟩ := h
    refine ⟨_, (pss_cons (ps_if (PW.pt (pw_or (pt_cmpR (op_neD hr.units) (pe_call (calm (ok_marks_of T)) (hr.mono (by decide)) (by rfl) T.g_marks_of T.F_marks_of.kp T.b_marks_of .nil pass0 (pa_cons (pv 0) pa_nil)) (pv 1) (nomark _)) (pw_or1 (pt_cmpR (op_neD hr.units) (pe_call (calm (ok_lengths_of T)) (hr.mono (by decide)) (by rfl) T.g_lengths_of T.F_lengths_of.kp T.b_lengths_of .nil pass0 (pa_cons (pv 0) pa_nil)) (pe_lc (own := [("_law_word_here", 3)]) (tt := tYes) rfl sc__law_texts_right.nd (pi_list (pv 2)) (blkOk_by (N := ["_law_text_here", "_law_marks", "_law_words", "_law_word_here", "_law_told"]) (sc := defScope s__law_texts_right) (by decide +kernel)) (fun _ _ _ _ _ => (pg_name (i := 3) sc__law_texts_right.nd rfl (by first | exact Or.inl rfl | exact Or.inr rfl))) (fun _ _ _ _ _ => pts_nil) (fun _ _ _ _ _ => (pe_callB call_len_str (by rfl) T.m_len (by decide +kernel) (pa_cons (pv 3) pa_nil)))) (nomark _)))))
        (pss_one (ps_ret pe_bl)) pss_nil)
      (pss_cons (ps_set (i := 4) sc__law_texts_right.nd rfl (by first | exact Or.inl rfl | exact Or.inr rfl) (pe_call (calm (ok_text_of T)) (hr.mono (by decide)) (by rfl) T.g_text_of T.F_text_of.kp T.b_text_of .nil pass0 (pa_cons (pe_callTy call_tuple_of (by rfl) T.m_tuple (by decide +kernel) (pa_cons (pv 1) pa_nil)) (pa_cons (pv 2) pa_nil))))
      (pss_cons (ps_if (PW.pt (pw_or (pt_cmpR (op_neD hr.units) (pv 4) (pe_callTy call_list_of (by rfl) T.m_list (by decide +kernel) (pa_cons (pv 0) pa_nil)) (nomark _)) (pw_or1 (pt_not (pt_val (pe_callB call_isi (by rfl) T.m_isinstance (by decide +kernel) (pa_cons (pv 4) (pa_cons (pe_bltn (v := V.ty "list") (u := .type "list") (by rfl) T.m_list (by decide +kernel) rfl) pa_nil))))))))
        (pss_one (ps_ret pe_bl)) pss_nil)
      (pss_cons (ps_expr (pe_bm PySem.F.plainAttrs_list PySem.F.slot_list_append PySem.F.type_list_append mt_append (pv 4) (pa_cons pe_str pa_nil)))
      (pss_one (ps_ret (pe_and (pe_cmpR (op_eqD hr.units) (pe_call (calm (ok_marks_of T)) (hr.mono (by decide)) (by rfl) T.g_marks_of T.F_marks_of.kp T.b_marks_of .nil pass0 (pa_cons (pv 0) pa_nil)) (pv 1) (nomark _)) (pe_one (pe_cmpR (op_eqD hr.units) (pe_call (calm (ok_text_of T)) (hr.mono (by decide)) (by rfl) T.g_text_of T.F_text_of.kp T.b_text_of .nil pass0 (pa_cons (pv 1) (pa_cons (pe_callTy call_tuple_of (by rfl) T.m_tuple (by decide +kernel) (pa_cons (pv 2) pa_nil)) pa_nil))) (pe_callTy call_list_of (by rfl) T.m_list (by decide +kernel) (pa_cons (pv 0) pa_nil)) (nomark _)))))))))), ?_⟩
    have g0 := g
    obtain ⟨a, xs, rfl, sq, tx, tk, hp, lz⟩ := g
    have lx := tx.length
    have shm := shaped_marks tk
    have sht : SeqAt.shaped (.list (ts.map dTk)) = true := shaped_tx tk
    refine ⟨_, rfl, .ref a, rfl, .inr ⟨ts, g0, fun D1 H1 s1 hD1 e1 => ?_⟩⟩
    refine ⟨_, rfl, _, _, .lst (SqL.of (by rw [e1, marksV_eq])) (dp_strs _), .lst (SqL.of (by rw [s1 _ _ em, marksV_eq])) (dp_strs _), shm, shm, _, rfl, ?_⟩
    rw [eqv_same shm]
    refine iteF ⟨_, rfl, .ref a, rfl, .inr ⟨ts, g0.up s1, fun D2 H2 s2 hD2 e2 => ?_⟩⟩
    have s12 := s1.trans s2
    refine ⟨_, rfl, w, rfl, ⟨_, SqL.of (s12 _ _ ew)⟩, fun D3 hD3 => ?_⟩
    refine lc_vals (walk_list (xs := wordsV ts)) (lensV ts) (by simp [wordsV, lensV]) (sz (by simp [wordsV]; omega)) hD3 (fun H' s' => SqL.of (s' _ _ (s12 _ _ ew))) (fun i x y H' Q2 Pe hi hy s' k => ?_) (fun H3 s3 e3 => ?_)
    · unfold wordsV at hi
      unfold lensV at hy
      rw [List.getElem?_map] at hi hy
      cases ht : ts[i]? with
      | none =>
        rw [ht] at hi
        cases hi
      | some t =>
        rw [ht] at hi hy
        have ex := Option.some.inj hi
        have ey := Option.some.inj hy
        subst ex ey
        have lw := wordS_len (tok_parts (tk t (List.mem_of_getElem? ht))).2
        exact ⟨rfl, _, rfl, t.2, rfl, szl (by omega), k _ (Same.refl _)⟩
    have s13 := s12.trans s3
    have shl := shaped_ints (lensI ts)
    refine ⟨_, _, .lst (SqL.of (by rw [s3 _ _ e2, lensV_eq])) (dp_ints _), .lst (SqL.of (by rw [e3, lensV_eq])) (dp_ints _), shl, shl, _, rfl, ?_⟩
    rw [eqv_same shl]
    refine iteF ?_
    -- text_of
    refine ⟨_, rfl, m, _, rfl, .inl ⟨SqL.of (s13 _ _ em), fun U hU => ?_⟩⟩
    have s4 : Same H3 (upd H3 U (.tup (marksV ts))) := same_new (Same.refl _) hU; have e4 : upd H3 U (.tup (marksV ts)) U = some (.tup (marksV ts)) := upd_same; revert s4 e4; generalize upd H3 U (.tup (marksV ts)) = H4; intro s4 e4
    have s14 := s13.trans s4
    refine ⟨_, rfl, .ref U, .ref w, rfl, .inr ⟨true, _, goodM_of (k := true) (ts := ts) e4 tk hp lz, .inr (.inr ⟨false, w, ts.map (·.2), rfl, by show H4 w = _; rw [s14 _ _ ew, wordsV_eq]; rfl, words_of tk, by simp, fun D5 H5 ys s5 hD5 e5 tx5 => ?_⟩)⟩⟩
    rw [zip_parts] at tx5
    have s15 := s14.trans s5
    refine ⟨_, rfl, _, rfl, a, xs, rfl, (sq.up s15).sqx, fun L hL => ?_⟩
    have s6 : Same H5 (upd H5 L (.lst xs)) := same_new (Same.refl _) hL; have e6 : upd H5 L (.lst xs) L = some (.lst xs) := upd_same; revert s6 e6; generalize upd H5 L (.lst xs) = H6; intro s6 e6
    have s16 := s15.trans s6
    refine ⟨_, _, .lst (SqL.of (s6 _ _ e5)) (dp_tx (tx5.up s6)), .lst (SqL.of e6) (dp_tx (tx.up s16)), sht, sht, _, rfl, ?_⟩
    rw [eqv_same sht]
    refine iteF ?_
    have ty5 : Ty7 H6 (.ref D5) "list" := .lst (s6 _ _ e5)
    refine ⟨_, rfl, _, _, _, _, _, rfl, .ty _, ty5.x, kit_ty (kit_list ty5), _, rfl, iteF ?_⟩
    have ly := tx5.length
    refine ⟨_, rfl, .inl ⟨rfl, _, SqL.of (s6 _ _ e5)⟩, D5, ys, _, rfl, rfl, s6 _ _ e5, sz (by omega), ?_⟩
    have hD0 : H D5 = none := sameNone s14 hD5
    have s7 : Same H (upd H6 D5 (.lst (ys ++ [V.str (Str.ofString "later")]))) := same_old s16 hD0
    revert s7
    generalize upd H6 D5 (.lst (ys ++ [V.str (Str.ofString "later")])) = H7
    intro s7
    refine ⟨_, rfl, .ref a, rfl, .inr ⟨ts, g0.up s7, fun D8 H8 s8 hD8 e8 => ?_⟩⟩
    have s18 := s7.trans s8
    refine ⟨_, rfl, _, _, .lst (SqL.of (by rw [e8, marksV_eq])) (dp_strs _), .lst (SqL.of (by rw [s18 _ _ em, marksV_eq])) (dp_strs _), shm, shm, _, rfl, ?_⟩
    rw [eqv_same shm]
    refine iteT ?_
    refine ⟨_, rfl, _, rfl, w, _, rfl, .inl ⟨SqL.of (s18 _ _ ew), fun U2 hU2 => ?_⟩⟩
    have s9 : Same H8 (upd H8 U2 (.tup (wordsV ts))) := same_new (Same.refl _) hU2; have e9 : upd H8 U2 (.tup (wordsV ts)) U2 = some (.tup (wordsV ts)) := upd_same; revert s9 e9; generalize upd H8 U2 (.tup (wordsV ts)) = H9; intro s9 e9
    have s19 := s18.trans s9
    refine ⟨.ref m, .ref U2, rfl, .inr ⟨false, _, goodM_of (k := false) (ts := ts) (s19 _ _ em) tk hp lz, .inr (.inr ⟨true, U2, ts.map (·.2), rfl, by show H9 U2 = _; rw [e9, wordsV_eq]; rfl, words_of tk, by simp, fun D10 H10 zs s10 hD10 e10 tx10 => ?_⟩)⟩⟩
    rw [zip_parts] at tx10
    have s110 := s19.trans s10
    refine ⟨_, rfl, a, xs, rfl, (sq.up s110).sqx, fun L2 hL2 => ?_⟩
    have s11 : Same H10 (upd H10 L2 (.lst xs)) := same_new (Same.refl _) hL2; have e11 : upd H10 L2 (.lst xs) L2 = some (.lst xs) := upd_same; revert s11 e11; generalize upd H10 L2 (.lst xs) = H11; intro s11 e11
    have s111 := s110.trans s11
    refine ⟨_, _, .lst (SqL.of (s11 _ _ e10)) (dp_tx (tx10.up s11)), .lst (SqL.of e11) (dp_tx (tx.up s111)), sht, sht, ?_⟩
    rw [eqv_same sht]
    exact q _ s111

end
end RV


set_option maxHeartbeats 8000000
namespace RV
open PySem PySem.Spec PyProof.Rows L2 TL
section
variable {P : Program} {w : World} {K : PySem.W.Frag} {mg : Str → Option Value} {base : Heap}
theorem ok__law_odds_right (T : TX P w K mg) : FnG P w K mg base CX0 9 T.a__law_odds_right T.d__law_odds_right ["_law_purse_here", "_law_text_here", "_law_marks", "_law_words"] (spOdds) := by
  refine okG T.F__law_odds_right sc__law_odds_right (fun vs H Q E h => ?_) (fun cdv A outer s H vs Q E hgu hr h => ?_)
  · obtain ⟨p, T0, m, w, xs, ts, n, rfl, hn, B0, sy0, f0, tk, hp, lt, q⟩ := h
    rfl
  · obtain ⟨p, T0, m, w, xs, ts, n, rfl, hn, B0, sy0, f0, tk, hp, lt, q⟩ := h
    refine ⟨_, (pss_cons (ps_set (i := 4) sc__law_odds_right.nd rfl (by first | exact Or.inl rfl | exact Or.inr rfl) (pe_call (ok__law_spoilt T) (hr.mono (by decide)) (by rfl) T.g__law_spoilt T.F__law_spoilt.kp T.b__law_spoilt .nil pass0 (pa_cons (pv 0) (pa_cons (pv 1) pa_nil))))
      (pss_cons (ps_if (pt_cmpR op_ne (pe_callB (call_repr hgu hr.units) (by rfl) T.m_repr (by decide +kernel) (pa_cons (pe_call (ok_is_text T) (hr.mono (by decide)) (by rfl) T.g_is_text T.F_is_text.kp T.b_is_text .nil pass0 (pa_cons (pv 4) pa_nil)) pa_nil)) (pe_callB (call_repr hgu hr.units) (by rfl) T.m_repr (by decide +kernel) (pa_cons (pe_call (ok__law_good T) (hr.mono (by decide)) (by rfl) T.g__law_good T.F__law_good.kp T.b__law_good .nil pass0 (pa_cons (pv 4) pa_nil)) pa_nil)) (nomark _))
        (pss_one (ps_ret pe_bl)) pss_nil)
      (pss_cons (ps_if (pt_not (pt_val (pe_call (ok__law_good T) (hr.mono (by decide)) (by rfl) T.g__law_good T.F__law_good.kp T.b__law_good .nil pass0 (pa_cons (pv 4) pa_nil))))
        (pss_cons (ps_for PassesOwn.never rfl (pi_enum (by rfl) T.m_enumerate (pa_cons (pe_lst (pa_cons (pe_tup (pa_cons (pv 4) (pa_cons (pv 1) pa_nil))) (pa_cons (pe_tup (pa_cons (pv 4) (pa_cons (pv 1) pa_nil))) (pa_cons (pe_tup (pa_cons (pv 4) (pa_cons (pe_tup (pa_cons pe_str (pa_cons (pv 4) pa_nil))) pa_nil))) pa_nil)))) pa_nil)) (pg_tupK (K := K) (n := 2) (by rfl) (by rfl) (pgs_cons (pg_name (i := 5) sc__law_odds_right.nd rfl (by first | exact Or.inl rfl | exact Or.inr rfl)) (pgs_cons (pg_name (i := 6) sc__law_odds_right.nd rfl (by first | exact Or.inl rfl | exact Or.inr rfl)) pgs_nil)))
          (pss_one (ps_if (pt_cmpR op_ne (pe_callB (call_repr hgu hr.units) (by rfl) T.m_repr (by decide +kernel) (pa_cons (pe_call (ok__law_refused T) (hr.mono (by decide)) (by rfl) T.g__law_refused T.F__law_refused.kp T.b__law_refused .nil pass0 (pa_cons (pv 5) (pa_cons (pe_ix (show IxR _ (rIxT K) from ix_tup) (pv 6) pe_int (fun _ _ => rfl)) (pa_cons (pe_ix (show IxR _ (rIxT K) from ix_tup) (pv 6) pe_int (fun _ _ => rfl)) pa_nil)))) pa_nil)) (pe_callB (call_repr hgu hr.units) (by rfl) T.m_repr (by decide +kernel) (pa_cons (pe_lst (pa_cons pe_str (pa_cons (pv 4) pa_nil))) pa_nil)) (nomark _))
            (pss_one (ps_ret pe_bl)) pss_nil)))
        (pss_one (ps_if (pt_cmpR op_ne (pe_callB (call_repr hgu hr.units) (by rfl) T.m_repr (by decide +kernel) (pa_cons (pe_call (ok__law_refused T) (hr.mono (by decide)) (by rfl) T.g__law_refused T.F__law_refused.kp T.b__law_refused .nil pass0 (pa_cons pe_int (pa_cons (pv 1) (pa_cons (pv 4) pa_nil)))) pa_nil)) (pe_callB (call_repr hgu hr.units) (by rfl) T.m_repr (by decide +kernel) (pa_cons (pe_lst (pa_cons pe_str (pa_cons (pv 4) pa_nil))) pa_nil)) (nomark _))
          (pss_one (ps_ret pe_bl)) pss_nil))) pss_nil)
      (pss_cons (ps_set (i := 7) sc__law_odds_right.nd rfl (by first | exact Or.inl rfl | exact Or.inr rfl) (pe_call (ok__law_take T) (hr.mono (by decide)) (by rfl) T.g__law_take T.F__law_take.kp T.b__law_take .nil pass0 (pa_cons (pv 0) (pa_cons (pe_op op_add (pe_callB call_len (by rfl) T.m_len (by decide +kernel) (pa_cons (pv 2) pa_nil)) pe_int) pa_nil))))
      (pss_cons (ps_set (i := 8) sc__law_odds_right.nd rfl (by first | exact Or.inl rfl | exact Or.inr rfl) (pe_op op_cat (pe_op op_cat (pe_slice sl_list (pv 2) po_none (po_some (pv 7))) (pe_lst (pa_cons (pe_call (ok__law_odd_thing T) (hr.mono (by decide)) (by rfl) T.g__law_odd_thing T.F__law_odd_thing.kp T.b__law_odd_thing .nil pass0 (pa_cons (pv 0) (pa_cons (pv 2) pa_nil))) pa_nil))) (pe_slice sl_list (pv 2) (po_some (pe_op op_add (pv 7) pe_int)) po_none)))
      (pss_cons (ps_if (pt_cmpR op_eq (pe_callB call_len (by rfl) T.m_len (by decide +kernel) (pa_cons (pv 2) pa_nil)) pe_int (nomark _))
        (pss_one (ps_set (i := 8) sc__law_odds_right.nd rfl (by first | exact Or.inl rfl | exact Or.inr rfl) (pe_call (ok__law_spoilt T) (hr.mono (by decide)) (by rfl) T.g__law_spoilt T.F__law_spoilt.kp T.b__law_spoilt .nil pass0 (pa_cons (pv 0) (pa_cons (pv 2) pa_nil))))) pss_nil)
      (pss_cons (ps_if (pt_cmpR op_eq (pe_call (ok__law_take T) (hr.mono (by decide)) (by rfl) T.g__law_take T.F__law_take.kp T.b__law_take .nil pass0 (pa_cons (pv 0) (pa_cons pe_int pa_nil))) pe_int (nomark _))
        (pss_one (ps_set (i := 8) sc__law_odds_right.nd rfl (by first | exact Or.inl rfl | exact Or.inr rfl) (pe_op op_cat (pe_lst (pa_cons (pe_ix (show IxR _ (rIxL K) from ix_list) (pe_lst (pa_cons pe_str (pa_cons pe_str (pa_cons pe_str pa_nil)))) (pe_call (ok__law_take T) (hr.mono (by decide)) (by rfl) T.g__law_take T.F__law_take.kp T.b__law_take .nil pass0 (pa_cons (pv 0) (pa_cons pe_int pa_nil))) (fun _ _ => rfl)) pa_nil)) (pv 2)))) pss_nil)
      (pss_cons (ps_if (pt_not (pt_val (pe_call (ok__law_are_marks T) (hr.mono (by decide)) (by rfl) T.g__law_are_marks T.F__law_are_marks.kp T.b__law_are_marks .nil pass0 (pa_cons (pv 8) pa_nil))))
        (pss_cons (ps_set (i := 9) sc__law_odds_right.nd rfl (by first | exact Or.inl rfl | exact Or.inr rfl) (pe_call (ok__law_refused T) (hr.mono (by decide)) (by rfl) T.g__law_refused T.F__law_refused.kp T.b__law_refused .nil pass0 (pa_cons pe_int (pa_cons (pv 8) (pa_cons (pv 4) pa_nil)))))
        (pss_cons (ps_if (pt_val (pe_callB call_isi (by rfl) T.m_isinstance (by decide +kernel) (pa_cons (pv 8) (pa_cons (pe_bltn (v := V.ty "list") (u := .type "list") (by rfl) T.m_list (by decide +kernel) rfl) pa_nil))))
          (pss_one (ps_expr (pe_bm PySem.F.plainAttrs_list PySem.F.slot_list_append PySem.F.type_list_append mt_append (pv 8) (pa_cons pe_str pa_nil)))) pss_nil)
        (pss_one (ps_if (pt_cmpR op_ne (pe_callB (call_repr hgu hr.units) (by rfl) T.m_repr (by decide +kernel) (pa_cons (pv 9) pa_nil)) (pe_callB (call_repr hgu hr.units) (by rfl) T.m_repr (by decide +kernel) (pa_cons (pe_lst (pa_cons pe_str (pa_cons (pv 8) pa_nil))) pa_nil)) (nomark _))
          (pss_one (ps_ret pe_bl)) pss_nil)))) pss_nil)
      (pss_cons (ps_set (i := 7) sc__law_odds_right.nd rfl (by first | exact Or.inl rfl | exact Or.inr rfl) (pe_call (ok__law_take T) (hr.mono (by decide)) (by rfl) T.g__law_take T.F__law_take.kp T.b__law_take .nil pass0 (pa_cons (pv 0) (pa_cons (pe_op op_add (pe_callB call_len (by rfl) T.m_len (by decide +kernel) (pa_cons (pv 3) pa_nil)) pe_int) pa_nil))))
      (pss_cons (ps_set (i := 10) sc__law_odds_right.nd rfl (by first | exact Or.inl rfl | exact Or.inr rfl) (pe_lst (pa_cons (pe_slice sl_list (pv 3) (po_some pe_int) po_none) (pa_cons (pe_op op_cat (pv 3) (pe_lst (pa_cons pe_str pa_nil))) (pa_cons (pe_op op_cat (pe_slice sl_list (pv 3) po_none (po_some (pe_un un_neg pe_int))) (pe_lst (pa_cons (pe_tup (pa_cons pe_str pa_nil)) pa_nil))) (pa_cons (pe_op op_mul_str pe_str (pe_callB call_len (by rfl) T.m_len (by decide +kernel) (pa_cons (pv 3) pa_nil))) (pa_cons pe_non pa_nil)))))))
      (pss_cons (ps_set (i := 10) sc__law_odds_right.nd rfl (by first | exact Or.inl rfl | exact Or.inr rfl) (pe_ix (show IxR _ (rIxL K) from ix_list) (pe_op op_cat (pv 10) (pe_op op_rep (pe_lst (pa_cons (pe_op op_cat (pe_op op_cat (pe_slice sl_list (pv 3) po_none (po_some (pv 7))) (pe_lst (pa_cons (pe_call (ok__law_odd_thing T) (hr.mono (by decide)) (by rfl) T.g__law_odd_thing T.F__law_odd_thing.kp T.b__law_odd_thing .nil pass0 (pa_cons (pv 0) (pa_cons (pv 3) pa_nil))) pa_nil))) (pe_slice sl_list (pv 3) (po_some (pe_op op_add (pv 7) pe_int)) po_none)) pa_nil)) pe_int)) (pe_call (ok__law_take T) (hr.mono (by decide)) (by rfl) T.g__law_take T.F__law_take.kp T.b__law_take .nil pass0 (pa_cons (pv 0) (pa_cons pe_int pa_nil))) (fun _ _ => rfl)))
      (pss_cons (ps_if (PW.pt (pw_and (pt_cmpR op_eq (pe_callB call_len (by rfl) T.m_len (by decide +kernel) (pa_cons (pv 3) pa_nil)) pe_int (nomark _)) (pw_and1 (pt_cmpR (op_inLE hr.units) (pv 10) (pe_tup (pa_cons (pe_lst pa_nil) (pa_cons pe_str pa_nil))) (by rfl)))))
        (pss_one (ps_ret pe_bl)) pss_nil)
      (pss_cons (ps_if (PW.pt (pw_and (pt_val (pe_callB call_isi (by rfl) T.m_isinstance (by decide +kernel) (pa_cons (pv 10) (pa_cons (pe_bltn (v := V.ty "list") (u := .type "list") (by rfl) T.m_list (by decide +kernel) rfl) pa_nil)))) (pw_and (pt_cmpR op_eq (pe_callB call_len (by rfl) T.m_len (by decide +kernel) (pa_cons (pv 10) pa_nil)) (pe_callB call_len (by rfl) T.m_len (by decide +kernel) (pa_cons (pv 3) pa_nil)) (nomark _)) (pw_and1 (pt_cmpR (op_eqZ hr.units) (pe_lc (own := [("_law_one", 11)]) rfl sc__law_odds_right.nd (pi_list (pv 10)) (blkOk_by (N := ["_law_purse_here", "_law_text_here", "_law_marks", "_law_words", "_law_odd", "_law_way", "_law_pair", "_law_at", "_law_bad", "_law_told", "_law_fewer", "_law_one"]) (sc := defScope s__law_odds_right) (by decide +kernel)) (fun _ _ _ _ _ => (pg_name (i := 11) sc__law_odds_right.nd rfl (by first | exact Or.inl rfl | exact Or.inr rfl))) (fun _ _ _ _ _ => (pts_one (pt_not (pt_val (pe_call (ok__law_is_word T) (hr.mono (by decide)) (by rfl) T.g__law_is_word T.F__law_is_word.kp T.b__law_is_word .nil pass0 (pa_cons (pv 11) pa_nil)))))) (fun _ _ _ _ _ => (pv 11))) (pe_lst pa_nil) (nomark _))))))
        (pss_one (ps_ret pe_bl)) pss_nil)
      (pss_cons (ps_set (i := 9) sc__law_odds_right.nd rfl (by first | exact Or.inl rfl | exact Or.inr rfl) (pe_call (ok__law_refused T) (hr.mono (by decide)) (by rfl) T.g__law_refused T.F__law_refused.kp T.b__law_refused .nil pass0 (pa_cons pe_int (pa_cons (pv 2) (pa_cons (pv 10) pa_nil)))))
      (pss_cons (ps_if (pt_val (pe_callB call_isi (by rfl) T.m_isinstance (by decide +kernel) (pa_cons (pv 10) (pa_cons (pe_bltn (v := V.ty "list") (u := .type "list") (by rfl) T.m_list (by decide +kernel) rfl) pa_nil))))
        (pss_one (ps_expr (pe_bm PySem.F.plainAttrs_list PySem.F.slot_list_append PySem.F.type_list_append mt_append (pv 10) (pa_cons pe_str pa_nil)))) pss_nil)
      (pss_one (ps_ret (pe_cmpR op_eq (pe_callB (call_repr hgu hr.units) (by rfl) T.m_repr (by decide +kernel) (pa_cons (pv 9) pa_nil)) (pe_callB (call_repr hgu hr.units) (by rfl) T.m_repr (by decide +kernel) (pa_cons (pe_lst (pa_cons pe_str (pa_cons (pv 10) pa_nil))) pa_nil)) (nomark _))))))))))))))))))), ?_⟩
    have lx := f0.tx.length
    have Z0 : Bx H p n H := ⟨Sam.refl _ _, B0, sy0⟩
    have fc : ∀ {G : Hp} {k : Int}, Bx H p k G → Fc p T0 m w xs ts G := fun Z => f0.sam B0 Z.ss
    have nb : ∀ {b : Addr} {G : Hp} {k : Int}, Bx H p k G → G b = none → b ≠ p := fun Z k => (Z.bx.ne k).symm
    -- an odd thing
    refine ⟨_, rfl, _, rfl, p, n, T0, xs, ts, rfl, by omega, B0, .inl (hid_of (by simpa using f0.nT) f0.eT), f0.tx.hid B0, tk, by omega, fun v e H1 S1 B1 dv nv => ?_⟩
    have Z1 : Bx H p (n + 10) H1 := ⟨S1, B1, sy0.sam B0 S1⟩
    clear S1 B1
    have tv := Dx.text dv.out.dx (by have := dv.co; omega)
    have sv := dv.out.sh (by decide) (by decide)
    -- both say what it is
    refine ⟨_, rfl, v, _, rfl, tv, fun H2 s2 => ?_⟩
    have r2 := repF (Z1.same s2).sy (ShD.bl (H := H2) (dText e))
    refine ⟨_, _, rfl, r2.1, r2.2.1, r2.2.2.1, r2.2.2.2.1, r2.2.2.2.2, _, rfl, v, _, rfl, tv.up s2, fun H3 s3 => ?_⟩
    have s13 := s2.trans s3
    have r3 := repF (Z1.same s13).sy (ShD.bl (H := H3) (dText e))
    refine ⟨_, _, rfl, r3.1, r3.2.1, r3.2.2.1, r3.2.2.2.1, r3.2.2.2.2, rfl, _, rfl, iteNS rfl ?_⟩
    refine ⟨_, rfl, v, _, rfl, tv.up s13, fun H4 s4 => ⟨_, rfl, ?_⟩⟩
    have s14 := s13.trans s4
    refine' with_tail (T := _) ?tail (fun t => ?main)
    case' main =>
      cases hd : dText e with
      | false =>
        rw [hd] at tv
        refine iteT ⟨_, rfl, _, rfl, (by show (2 : Nat) ≤ sizeLine; decide), fun t1 k1 => ?_⟩
        have s5 : Same H4 (upd H4 t1 (.tup [v, .ref T0])) := same_new (Same.refl _) k1; have e1 : upd H4 t1 (.tup [v, .ref T0]) t1 = some (.tup [v, .ref T0]) := upd_same; revert s5 e1; generalize upd H4 t1 (.tup [v, .ref T0]) = H5; intro s5 e1
        refine ⟨_, rfl, _, rfl, (by show (2 : Nat) ≤ sizeLine; decide), fun t2 k2 => ?_⟩
        have s6 : Same H5 (upd H5 t2 (.tup [v, .ref T0])) := same_new (Same.refl _) k2; have e2 : upd H5 t2 (.tup [v, .ref T0]) t2 = some (.tup [v, .ref T0]) := upd_same; revert s6 e2; generalize upd H5 t2 (.tup [v, .ref T0]) = H6; intro s6 e2
        refine ⟨_, rfl, _, rfl, (by show (2 : Nat) ≤ sizeLine; decide), fun t3 k3 => ?_⟩
        have s7 : Same H6 (upd H6 t3 (.tup [.str (Str.ofString "#5"), v])) := same_new (Same.refl _) k3; have e3 : upd H6 t3 (.tup [.str (Str.ofString "#5"), v]) t3 = some (.tup [.str (Str.ofString "#5"), v]) := upd_same; revert s7 e3; generalize upd H6 t3 (.tup [.str (Str.ofString "#5"), v]) = H7; intro s7 e3
        refine ⟨(by show (2 : Nat) ≤ sizeLine; decide), fun t4 k4 => ?_⟩
        have s8 : Same H7 (upd H7 t4 (.tup [v, .ref t3])) := same_new (Same.refl _) k4; have e4 : upd H7 t4 (.tup [v, .ref t3]) t4 = some (.tup [v, .ref t3]) := upd_same; revert s8 e4; generalize upd H7 t4 (.tup [v, .ref t3]) = H8; intro s8 e4
        refine ⟨(by show (3 : Nat) ≤ sizeLine; decide), fun l kl => ?_⟩
        have s9 : Same H8 (upd H8 l (.lst [.ref t1, .ref t2, .ref t4])) := same_new (Same.refl _) kl; have el : upd H8 l (.lst [.ref t1, .ref t2, .ref t4]) l = some (.lst [.ref t1, .ref t2, .ref t4]) := upd_same; revert s9 el; generalize upd H8 l (.lst [.ref t1, .ref t2, .ref t4]) = H9; intro s9 el
        have s89 := s8.trans s9
        have s69 := (s6.trans (s7.trans s89))
        have s19 := s14.trans (s5.trans s69)
        have x1 := s69 _ _ e1
        have x2 := (s7.trans s89) _ _ e2
        have x4 := s9 _ _ e4
        clear e1 e2 e3 e4 s5 s6 s7 s8 s9 s89 s69
        refine ⟨l, _, rfl, SqL.of el, for_it (walk_enum (xs := [V.ref t1, .ref t2, .ref t4])) (fun i σ H' => ∃ y5 y6 : Option V, σ = [some (.ref p), some (.ref T0), some (.ref m), some (.ref w), some v, y5, y6, none, none, none, none, none] ∧ Same H9 H') ⟨_, _, rfl, Same.refl _⟩ (fun i σ H' _ h => ?_) (fun i x σ HA HB hi hP hY => ?_) (fun σ HA hP => ?_)⟩
        · obtain ⟨y5, y6, rfl, sA⟩ := h
          exact SqL.of (sA _ _ el)
        · obtain ⟨y5, y6, rfl, sA⟩ := hP
          obtain ⟨TT, x, y, rfl, hT, rfl, ex, ey⟩ := hY
          have ey : ([V.ref t1, .ref t2, .ref t4] : List V)[i]? = some y := ey
          have ex2 := Option.some.inj ex
          subst ex2
          have sB : Same HA (upd HA TT (.tup [.int (i : Int), y])) := same_new (Same.refl _) hT
          have eB : upd HA TT (.tup [.int (i : Int), y]) TT = some (.tup [.int (i : Int), y]) := upd_same
          revert sB eB
          generalize upd HA TT (.tup [.int (i : Int), y]) = HB
          intro sB eB
          have s9B := sA.trans sB
          have s1B := s19.trans s9B
          obtain ⟨c, y2, rfl, ec, rw1⟩ : ∃ c y2, y = .ref c ∧ HB c = some (.tup [v, y2]) ∧ ∀ Q, RefO HB "text" v Q → RefW HB Q (i : Int) v y2 := by
            have h3 : i = 0 ∨ i = 1 ∨ i = 2 := by
              have : i < 3 := hi
              omega
            rcases h3 with rfl | rfl | rfl
            · exact ⟨t1, _, (Option.some.inj ey).symm, s9B _ _ x1, fun Q q => .marks (tv.up s1B) q⟩
            · exact ⟨t2, _, (Option.some.inj ey).symm, s9B _ _ x2, fun Q q => .lens (tv.up s1B) q⟩
            · exact ⟨t4, _, (Option.some.inj ey).symm, s9B _ _ x4, fun Q q => .unl1 (tv.up s1B) q⟩
          refine ⟨TT, _, rfl, SqT.of eB, rfl, _, _, rfl, _, _, rfl, rfl, ?_⟩
          refine ⟨_, rfl, _, rfl, c, _, _, _, rfl, rfl, SqT.of ec, atI_nat (j := 0) rfl, _, rfl, c, _, _, _, rfl, rfl, SqT.of ec, atI_nat (j := 1) rfl, _, _, _, rfl, rw1 _ fun R HC sC hR eR => ?_⟩
          have s1C := s1B.trans sC
          have ra := repT (Z1.same s1C).sy eR (sv.up s1C) asc_text len_text
          refine ⟨_, _, rfl, ra.1, ra.2.1, ra.2.2.1, ra.2.2.2.1, ra.2.2.2.2, _, rfl, (by show (2 : Nat) ≤ sizeLine; decide), fun R2 hR2 => ?_⟩
          have sD : Same HC (upd HC R2 (.lst [.str (Str.ofString "text"), v])) := same_new (Same.refl _) hR2; have eD : upd HC R2 (.lst [.str (Str.ofString "text"), v]) R2 = some (.lst [.str (Str.ofString "text"), v]) := upd_same; revert sD eD; generalize upd HC R2 (.lst [.str (Str.ofString "text"), v]) = HD; intro sD eD
          have rb := repT (Z1.same (s1C.trans sD)).sy eD (sv.up (s1C.trans sD)) asc_text len_text
          exact ⟨_, _, rfl, rb.1, rb.2.1, rb.2.2.1, rb.2.2.2.1, rb.2.2.2.2, rfl, _, rfl, iteNS rfl ⟨_, _, rfl, s9B.trans (sC.trans sD)⟩⟩
        · obtain ⟨y5, y6, rfl, sA⟩ := hP
          have s1A := s19.trans sA
          refine ⟨_, rfl, _, rfl, _, _, _, rfl, .unl2 ((fc (Z1.same s1A)).good tk hp (by omega)) (tv.up s1A) fun R HC sC hR eR => ?_⟩
          have s1C := s1A.trans sC
          have ra := repT (Z1.same s1C).sy eR (sv.up s1C) asc_text len_text
          refine ⟨_, _, rfl, ra.1, ra.2.1, ra.2.2.1, ra.2.2.2.1, ra.2.2.2.2, _, rfl, (by show (2 : Nat) ≤ sizeLine; decide), fun R2 hR2 => ?_⟩
          have sD : Same HC (upd HC R2 (.lst [.str (Str.ofString "text"), v])) := same_new (Same.refl _) hR2; have eD : upd HC R2 (.lst [.str (Str.ofString "text"), v]) R2 = some (.lst [.str (Str.ofString "text"), v]) := upd_same; revert sD eD; generalize upd HC R2 (.lst [.str (Str.ofString "text"), v]) = HD; intro sD eD
          have s1D := s1C.trans sD
          have rb := repT (Z1.same s1D).sy eD (sv.up s1D) asc_text len_text
          refine ⟨_, _, rfl, rb.1, rb.2.1, rb.2.2.1, rb.2.2.2.1, rb.2.2.2.2, rfl, _, rfl, iteNS rfl ?_⟩
          refine sig_as (σ' := [some (.ref p), some (.ref T0), some (.ref m), some (.ref w), some v, y5, y6, none, none, none, none, none]) rfl ?_
          generalize hs : [some (V.ref p), some (V.ref T0), some (V.ref m), some (V.ref w), some v, y5, y6, none, none, none, none, none] = σ9
          have hσ : ∃ y5 y6 : Option V, σ9 = [some (V.ref p), some (V.ref T0), some (V.ref m), some (V.ref w), some v, y5, y6, none, none, none, none, none] := ⟨_, _, hs.symm⟩
          clear hs rb eD sD
          revert HD s1D σ9 hσ
          exact t.down
      | true => exact iteF (t.down H4 s14 _ ⟨_, _, rfl⟩)
    intro H5 s15 σ5 hσ
    obtain ⟨y5, y6, rfl⟩ := hσ
    have S5 : Sam p H H5 := Z1.ss.up s15
    have Z5 := Z1.same s15
    have dv5 : DD (hid [p] H5) v e 10 150000 := dv.up (hid_up fun b o _ z => s15 _ _ z)
    clear s14 s4 s13 r3 r2 s3 s2 sv tv dv Z1 nv s15
    have f5 := fc Z5
    have lm : (marksV ts).length = ts.length := by simp [marksV]
    have lw : (wordsV ts).length = ts.length := by simp [wordsV]
    -- marks, one of them another thing
    refine ⟨_, rfl, _, rfl, _, _, rfl, .inl ⟨_, SqL.of f5.em, rfl⟩, _, _, rfl, rfl, p, _, n + 10, rfl, by omega, Nat.lt_of_le_of_lt (show _ ≤ 20 by omega) (by decide), by omega, Z5.bx, fun d6 o6 ge6 lt6 B6 => ?_⟩
    have Z6 := Bx.take Z5 B6; have S6 : Sam p H5 (upd H5 p o6) := Sam.box (Sam.refl _ _); clear B6; revert Z6 S6; generalize upd H5 p o6 = H6; intro Z6 S6
    have SA6 : Sam p H5 H6 := S6
    obtain ⟨i, rfl⟩ := Int.eq_ofNat_of_zero_le ge6
    refine ⟨_, rfl, _, rfl, _, rfl, m, _, rfl, SqL.of (fc Z6).em, fun D1 k1 => ?_⟩
    have s7 : Same H6 (upd H6 D1 (.lst (cutV (marksV ts) none (some (i : Int))))) := same_new (Same.refl _) k1; have e7 : upd H6 D1 (.lst (cutV (marksV ts) none (some (i : Int)))) D1 = some (.lst (cutV (marksV ts) none (some (i : Int)))) := upd_same; revert s7 e7; generalize upd H6 D1 (.lst (cutV (marksV ts) none (some (i : Int)))) = H7; intro s7 e7
    have Z7 := Z6.same s7
    have f7 := fc Z7
    have em7 : H7 m = some (.lst ((ts.map (·.1)).map V.str)) := by rw [← marksV_eq]; exact f7.em
    have dm7 := dd_strs (G := hid [p] H7) (hid_of (by simpa using f0.nm) em7) (marks_small tk)
    have pold : ∀ {G : Hp} {k : Int}, Bx H p k G → ∀ q ∈ [p], G q ≠ none := fun Z q hq => by
      rw [List.mem_singleton.mp hq]
      obtain ⟨_, _, _, e, _⟩ := Z.bx
      rw [e]
      simp
    refine ⟨_, rfl, _, rfl, p, _, .ref m, _, [p], 2, 4300, rfl, by omega, Z7.bx, by simp, pold Z7, dm7.mono (by omega) (by rw [List.length_map]; omega), Nat.le_refl _, fun v8 e8 H8 S8 B8 dv8 nv8 => ?_⟩
    have Z8 : Bx H p (n + 12) H8 := Z7.sam S8 (B8.mono (by omega))
    have SA8 : Sam p H5 H8 := fun b o hb z => S8 b o hb (s7 _ _ (SA6 b o hb z))
    have n1 : D1 ≠ p := nb Z6 k1
    replace e7 := S8 _ _ n1 e7
    have lc1 : (cutV (marksV ts) none (some (i : Int))).length ≤ 14 := by
      rw [cutV_to, List.length_take]
      omega
    have lc2 : (cutV (marksV ts) (some ((i : Int) + 1)) none).length ≤ 14 := by
      rw [show ((i : Int) + 1) = ((i + 1 : Nat) : Int) from by omega, cutV_from, List.length_drop]
      omega
    refine ⟨(by show (1 : Nat) ≤ sizeLine; decide), fun D2 k2 => ?_⟩
    have s9 : Same H8 (upd H8 D2 (.lst [v8])) := same_new (Same.refl _) k2; have e9 : upd H8 D2 (.lst [v8]) D2 = some (.lst [v8]) := upd_same; revert s9 e9; generalize upd H8 D2 (.lst [v8]) = H9; intro s9 e9
    refine ⟨_, _, _, _, rfl, rfl, s9 _ _ e7, e9, szl (by rw [List.length_singleton]; omega), fun D3 k3 => ?_⟩
    have sA : Same H9 (upd H9 D3 (.lst (cutV (marksV ts) none (some (i : Int)) ++ [v8]))) := same_new (Same.refl _) k3; have eA : upd H9 D3 (.lst (cutV (marksV ts) none (some (i : Int)) ++ [v8])) D3 = some (.lst (cutV (marksV ts) none (some (i : Int)) ++ [v8])) := upd_same; revert sA eA; generalize upd H9 D3 (.lst (cutV (marksV ts) none (some (i : Int)) ++ [v8])) = HA; intro sA eA
    have ZA := (Z8.same s9).same sA
    refine ⟨_, rfl, _, rfl, _, _, rfl, rfl, _, rfl, m, _, rfl, SqL.of (fc ZA).em, fun D4 k4 => ?_⟩
    have sB : Same HA (upd HA D4 (.lst (cutV (marksV ts) (some ((i : Int) + 1)) none))) := same_new (Same.refl _) k4; have eB : upd HA D4 (.lst (cutV (marksV ts) (some ((i : Int) + 1)) none)) D4 = some (.lst (cutV (marksV ts) (some ((i : Int) + 1)) none)) := upd_same; revert sB eB; generalize upd HA D4 (.lst (cutV (marksV ts) (some ((i : Int) + 1)) none)) = HB; intro sB eB
    refine ⟨_, _, _, _, rfl, rfl, sB _ _ eA, eB, szl (by rw [List.length_append, List.length_singleton]; omega), fun B k5 => ?_⟩
    have sC : Same HB (upd HB B (.lst (cutV (marksV ts) none (some (i : Int)) ++ [v8] ++ cutV (marksV ts) (some ((i : Int) + 1)) none))) := same_new (Same.refl _) k5; have eC : upd HB B (.lst (cutV (marksV ts) none (some (i : Int)) ++ [v8] ++ cutV (marksV ts) (some ((i : Int) + 1)) none)) B = some (.lst (cutV (marksV ts) none (some (i : Int)) ++ [v8] ++ cutV (marksV ts) (some ((i : Int) + 1)) none)) := upd_same; revert sC eC; generalize upd HB B (.lst (cutV (marksV ts) none (some (i : Int)) ++ [v8] ++ cutV (marksV ts) (some ((i : Int) + 1)) none)) = HC; intro sC eC
    have ZB := ZA.same sB
    have ZC := ZB.same sC
    have s8C := (s9.trans sA).trans (sB.trans sC)
    have nB : B ≠ p := nb ZB k5
    have SAC : Sam p H5 HC := SA8.up s8C
    rw [show ((i : Int) + 1) = ((i + 1 : Nat) : Int) from by omega, cutV_to, cutV_from, marksV_eq] at eC
    obtain ⟨dsB, ddB⟩ := dd_mix (hid_of (by simpa using nB) eC) ((dv8.mono (k2 := 5) (c2 := 6300) (by omega) (by omega)).up (hid_up fun b o _ z => s8C _ _ z)) fun z hz => ⟨(marks_small tk z hz).1, by have := (marks_small tk z hz).2; omega⟩
    replace ddB := ddB.mono (k2 := 12) (c2 := 190000) (by omega) (by rw [List.length_map]; omega)
    have nwB : NewV H (.ref B) := NewV.sam (fun a e => by cases e; exact k5) ZB.bx ZB.ss
    clear dv8 nv8 e9 eA eB eC e7 k1 k2 k3 k4 dm7 em7
    replace ZC := ZC.mono (m := n + 22) (by omega)
    refine ⟨_, rfl, _, _, rfl, .inl ⟨_, SqL.of (fc ZC).em, rfl⟩, rfl, _, rfl, ?_⟩
    refine' with_tail (T := _) ?tail2 (fun t2 => ?main2)
    case' main2 =>
      by_cases c0 : ts.length = 0
      · rw [show decide (V.int ((marksV ts).length : Int) = V.int 0) = true from decide_eq_true (by rw [lm, c0]; rfl)]
        have em0 : HC m = some (.lst []) := by
          rw [(fc ZC).em, List.length_eq_zero_iff.mp c0]
          rfl
        refine iteT ⟨_, rfl, _, rfl, p, _, m, [], [], rfl, by omega, ZC.bx, .inl (hid_of (by simpa using f0.nm) em0), .nil, (fun _ h => nomatch h), by simp, fun vb eb HD SD BD ddb nvb => ?_⟩
        have ZD : Bx H p (n + 32) HD := ZC.sam SD (BD.mono (by omega))
        have SAD : Sam p H5 HD := SAC.trans SD
        have nwb : NewV H vb := nvb.sam ZC.bx ZC.ss
        replace ddb := ddb.mono (k2 := 12) (c2 := 190000) (by omega) (by omega)
        refine sig_set (σ' := [some (V.ref p), some (V.ref T0), some (V.ref m), some (V.ref w), some v, y5, y6, some (V.int (i : Int)), some vb, none, none, none]) rfl ?_
        clear nvb SD BD
        revert vb eb HD ZD SAD ddb nwb
        exact t2.down
      · rw [show decide (V.int ((marksV ts).length : Int) = V.int 0) = false from decide_eq_false (fun z => c0 (by have := V.int.inj z; omega))]
        exact iteF (t2.down (.ref B) _ HC (ZC.mono (by omega)) SAC nwB ddB)
    intro vb eb HD ZD SAD nwb ddb
    clear ddB nwB SAC SA8 SA6 s8C ZC ZB ZA Z8 Z7 Z6 f7
    -- a blank or a lower break ahead
    refine ⟨_, rfl, p, 3, n + 32, rfl, by omega, by decide, by omega, ZD.bx, fun d1 o1 ge1 lt1 B1 => ?_⟩
    have ZE := Bx.take ZD B1; have SE : Sam p HD (upd HD p o1) := Sam.box (Sam.refl _ _); clear B1; revert ZE SE; generalize upd HD p o1 = HE; intro ZE SE
    have SAE := SAD.trans SE
    replace ddb := ddb.up SE.hid
    refine ⟨rfl, _, rfl, ?_⟩
    refine' with_tail (T := _) ?tail3 (fun t3 => ?main3)
    case' main3 =>
      refine ite2 (fun e0 => ?_) (fun e0 => ?_)
      · refine ⟨(by show (3 : Nat) ≤ sizeLine; decide), fun D5 k5 => ?_⟩
        have sF : Same HE (upd HE D5 (.lst [sV " ", sV "|2", sV "/0"])) := same_new (Same.refl _) k5; have eF : upd HE D5 (.lst [sV " ", sV "|2", sV "/0"]) D5 = some (.lst [sV " ", sV "|2", sV "/0"]) := upd_same; revert sF eF; generalize upd HE D5 (.lst [sV " ", sV "|2", sV "/0"]) = HF; intro sF eF
        have ZF := ZE.same sF
        have n5 := nb ZE k5
        refine ⟨_, rfl, p, 3, n + 32 + 1, rfl, by omega, by decide, by omega, ZF.bx, fun d2 o2 ge2 lt2 B2 => ?_⟩
        have ZG := Bx.take ZF B2; have SG : Sam p HF (upd HF p o2) := Sam.box (Sam.refl _ _); clear B2; revert ZG SG; generalize upd HF p o2 = HG; intro ZG SG
        obtain ⟨y, hy, z, rfl, az, lz⟩ := atI_all (xs := [sV " ", sV "|2", sV "/0"]) (P := fun y => ∃ z, y = V.str z ∧ Asc z ∧ z.length ≤ 2) (fun y hy => by
          simp only [List.mem_cons, List.not_mem_nil, or_false] at hy
          rcases hy with rfl | rfl | rfl
          · exact ⟨_, rfl, asc_lit (by decide +kernel), by decide +kernel⟩
          · exact ⟨_, rfl, asc_lit (by decide +kernel), by decide +kernel⟩
          · exact ⟨_, rfl, asc_lit (by decide +kernel), by decide +kernel⟩) ge2 lt2
        refine ⟨D5, _, _, .str z, rfl, rfl, SqL.of (SG _ _ n5 eF), hy, (by show (1 : Nat) ≤ sizeLine; decide), fun D6 k6 => ?_⟩
        have sI : Same HG (upd HG D6 (.lst [.str z])) := same_new (Same.refl _) k6; have eI : upd HG D6 (.lst [.str z]) D6 = some (.lst [.str z]) := upd_same; revert sI eI; generalize upd HG D6 (.lst [.str z]) = HI; intro sI eI
        have ZI := ZG.same sI
        refine ⟨_, rfl, _, _, _, _, rfl, rfl, eI, (fc ZI).em, szl (by rw [List.length_singleton]; omega), fun D7 k7 => ?_⟩
        have sJ : Same HI (upd HI D7 (.lst ([.str z] ++ marksV ts))) := same_new (Same.refl _) k7; have eJ : upd HI D7 (.lst ([.str z] ++ marksV ts)) D7 = some (.lst ([.str z] ++ marksV ts)) := upd_same; revert sJ eJ; generalize upd HI D7 (.lst ([.str z] ++ marksV ts)) = HJ; intro sJ eJ
        have ZJ := (ZI.same sJ).mono (m := n + 40) (by omega)
        have n7 := nb ZI k7
        have SAJ : Sam p H5 HJ := fun b o hb u => sJ _ _ (sI _ _ (SG _ _ hb (sF _ _ (SAE b o hb u))))
        have nw7 : NewV H (.ref D7) := NewV.sam (fun a e => by cases e; exact k7) ZI.bx ZI.ss
        have dd7 := (dd_strs (G := hid [p] HJ) (a := D7) (l := z :: ts.map (·.1)) (c := 302) (hid_of (by simpa using n7) (by rw [eJ, marksV_eq]; rfl)) (fun u hu => by
          rcases List.mem_cons.mp hu with rfl | hu
          · exact ⟨az, by omega⟩
          · exact marks_small tk u hu)).mono (k2 := 12) (c2 := 190000) (by omega) (by simp only [List.length_cons, List.length_map]; omega)
        have h8 : ∃ vb eb, vb = V.ref D7 ∧ NewV H vb ∧ DD (hid [p] HJ) vb eb 12 190000 := ⟨_, _, rfl, nw7, dd7⟩
        clear nw7 dd7
        obtain ⟨vc, ec, evc, nwc, ddc⟩ := h8
        refine sig_set (σ' := [some (V.ref p), some (V.ref T0), some (V.ref m), some (V.ref w), some v, y5, y6, some (V.int (i : Int)), some vc, none, none, none]) (by rw [evc]; rfl) ?_
        clear evc eJ sJ k7 eI sI k6 n7 ZI
        revert vc ec HJ ZJ SAJ nwc ddc
        exact t3.down
      · exact t3.down HE (ZE.mono (by omega)) SAE vb eb nwb ddb
    intro HJ ZJ SAJ vc ec nwc ddc
    clear ddb SAE ZE nwb SAD ZD
    -- what is no row of marks
    have dvJ : DD (hid [p] HJ) v e 10 150000 := dv5.up SAJ.hid
    refine' with_tail (T := _) ?tail4 (fun t4 => ?main4)
    case' main4 =>
      obtain ⟨vd, ed, evd, nwd, ddd⟩ : ∃ vd ed, vc = vd ∧ NewV H vd ∧ DD (hid [p] HJ) vd ed 12 190000 := ⟨vc, ec, rfl, nwc, ddc⟩
      refine sig_as (σ' := [some (V.ref p), some (V.ref T0), some (V.ref m), some (V.ref w), some v, y5, y6, some (V.int (i : Int)), some vd, none, none, none]) (by rw [evd]) ?_
      clear evd
      have rwb := Dx.row ddd.out.dx (by have := ddd.co; omega)
      refine ⟨_, rfl, vd, dMarks ed, rfl, rwb, fun HK sK => ⟨_, rfl, ?_⟩⟩
      cases hm : dMarks ed with
      | false =>
        rw [hm] at rwb
        refine iteT ⟨_, rfl, _, rfl, _, _, _, rfl, .txt1 (rwb.up sK) fun R HL sL hR eR => ?_⟩
        have sJL := sK.trans sL
        have ZL := ZJ.same sJL
        have ddL := ddd.up (hid_up fun b o _ z => sJL b o z)
        have shL := ddL.out.sh (by decide) (by decide)
        have ty := ddL.out.dx.ty (by have := ddL.co; omega)
        have nRb : ∀ b, vd = .ref b → R ≠ b := fun b eb z => by
          obtain ⟨o, ho⟩ : ∃ o, HJ b = some o := by
            have h := ddd.out.dx
            rw [eb] at h
            cases h with
            | lst e r => exact ⟨_, e⟩
            | tup e r => exact ⟨_, e⟩
            | dct0 e => exact ⟨_, e⟩
          rw [z, sK _ _ ho] at hR
          cases hR
        refine ⟨_, rfl, _, _, _, _, _, rfl, .ty _, ty.x, kit_ty (kit_list ty), _, rfl, ?_⟩
        clear ddd rwb hm
        cases ed with
        | list ds =>
          obtain ⟨b, ys, rfl, eb2, ly⟩ : ∃ b ys, vd = .ref b ∧ HL b = some (.lst ys) ∧ ys.length = ds.length := by
            have h := ddL.out.dx
            cases h with
            | lst e r => exact ⟨_, _, rfl, e, r.length⟩
          have ld := costAll_len ds
          have lc := ddL.co
          simp only [cost] at lc
          refine iteT ⟨_, rfl, .inl ⟨rfl, _, SqL.of eb2⟩, b, ys, _, rfl, rfl, eb2, sz (by omega), ?_⟩
          have hb : H b = none := nwd b rfl
          have nbp : b ≠ p := fun z => by
            obtain ⟨_, _, _, e, _⟩ := B0
            rw [z, e] at hb
            cases hb
          have ZM := ZL.late2 (o := .lst (ys ++ [.str (Str.ofString "late")])) hb nbp eb2
          have lt2 := late_dd eb2 ddL.out (by decide)
          have eR2 : upd HL b (.lst (ys ++ [.str (Str.ofString "late")])) R = some (.lst [.str (Str.ofString "marks"), .ref b]) := by
            rw [upd_ne (nRb b rfl)]
            exact eR
          clear eR eb2 ddL shL ZL ty
          revert ZM lt2 eR2
          generalize upd HL b (.lst (ys ++ [.str (Str.ofString "late")])) = HM
          intro ZM lt2 eR2
          have sh2 := lt2.sh (by decide) (by decide)
          have ra := repT ZM.sy eR2 sh2 asc_marks len_marks
          refine ⟨_, rfl, _, _, rfl, ra.1, ra.2.1, ra.2.2.1, ra.2.2.2.1, ra.2.2.2.2, _, rfl, (by show (2 : Nat) ≤ sizeLine; decide), fun R2 hR2 => ?_⟩
          have sN : Same HM (upd HM R2 (.lst [.str (Str.ofString "marks"), .ref b])) := same_new (Same.refl _) hR2; have eN : upd HM R2 (.lst [.str (Str.ofString "marks"), .ref b]) R2 = some (.lst [.str (Str.ofString "marks"), .ref b]) := upd_same; revert sN eN; generalize upd HM R2 (.lst [.str (Str.ofString "marks"), .ref b]) = HN; intro sN eN
          have ZN := ZM.same sN
          have rb := repT ZN.sy eN (sh2.up sN) asc_marks len_marks
          refine ⟨_, _, rfl, rb.1, rb.2.1, rb.2.2.1, rb.2.2.2.1, rb.2.2.2.2, rfl, _, rfl, iteNS rfl ?_⟩
          obtain ⟨y8, h8⟩ : ∃ y8, y8 = some (V.ref b) := ⟨_, rfl⟩
          obtain ⟨y9, h9⟩ : ∃ y9, y9 = some (V.ref R) := ⟨_, rfl⟩
          refine sig_as (σ' := [some (V.ref p), some (V.ref T0), some (V.ref m), some (V.ref w), some v, y5, y6, some (V.int (i : Int)), y8, y9, none, none]) (by rw [h8, h9]; rfl) ?_
          clear h8 h9 rb eN sN
          revert HN ZN y8 y9
          exact t4.down
        | _ =>
          refine iteF ?_
          have ra := repT ZL.sy eR shL asc_marks len_marks
          refine ⟨_, rfl, _, _, rfl, ra.1, ra.2.1, ra.2.2.1, ra.2.2.2.1, ra.2.2.2.2, _, rfl, (by show (2 : Nat) ≤ sizeLine; decide), fun R2 hR2 => ?_⟩
          have sN : Same HL (upd HL R2 (.lst [.str (Str.ofString "marks"), vd])) := same_new (Same.refl _) hR2; have eN : upd HL R2 (.lst [.str (Str.ofString "marks"), vd]) R2 = some (.lst [.str (Str.ofString "marks"), vd]) := upd_same; revert sN eN; generalize upd HL R2 (.lst [.str (Str.ofString "marks"), vd]) = HN; intro sN eN
          have ZN := ZL.same sN
          have rb := repT ZN.sy eN (shL.up sN) asc_marks len_marks
          exact ⟨_, _, rfl, rb.1, rb.2.1, rb.2.2.1, rb.2.2.2.1, rb.2.2.2.2, rfl, _, rfl, iteNS rfl (t4.down HN ZN _ _)⟩
      | true => exact iteF (t4.down HK (ZJ.same sK) _ _)
    intro G0 ZG y8 y9
    clear dvJ ddc nwc ZJ SAJ SE dv5 f5 Z5 S5 S6
    -- words: fewer, more, others
    refine ⟨_, rfl, _, rfl, _, _, rfl, .inl ⟨_, SqL.of (fc ZG).ew, rfl⟩, _, _, rfl, rfl, p, _, n + 40, rfl, by omega, Nat.lt_of_le_of_lt (show _ ≤ 20 by omega) (by decide), by omega, ZG.bx, fun d7 o7 ge7 lt7 B7 => ?_⟩
    have Z1 := Bx.take ZG B7; have S1 : Sam p G0 (upd G0 p o7) := Sam.box (Sam.refl _ _); clear B7; revert Z1 S1; generalize upd G0 p o7 = G1; intro Z1 S1
    obtain ⟨j, rfl⟩ := Int.eq_ofNat_of_zero_le ge7
    refine ⟨_, rfl, 1, rfl, w, _, rfl, SqL.of (fc Z1).ew, fun D1 k1 => ?_⟩
    have s2 : Same G1 (upd G1 D1 (.lst (cutV (wordsV ts) (some 1) none))) := same_new (Same.refl _) k1; have e1 : upd G1 D1 (.lst (cutV (wordsV ts) (some 1) none)) D1 = some (.lst (cutV (wordsV ts) (some 1) none)) := upd_same; revert s2 e1; generalize upd G1 D1 (.lst (cutV (wordsV ts) (some 1) none)) = G2; intro s2 e1
    have Z2 := Z1.same s2
    refine ⟨_, rfl, (by show (1 : Nat) ≤ sizeLine; decide), fun D2 k2 => ?_⟩
    have s3 : Same G2 (upd G2 D2 (.lst [sV "a"])) := same_new (Same.refl _) k2; have e2 : upd G2 D2 (.lst [sV "a"]) D2 = some (.lst [sV "a"]) := upd_same; revert s3 e2; generalize upd G2 D2 (.lst [sV "a"]) = G3; intro s3 e2
    have Z3 := Z2.same s3
    refine ⟨_, _, _, _, rfl, rfl, (fc Z3).ew, e2, szl (by rw [List.length_singleton]; omega), fun D3 k3 => ?_⟩
    have s4 : Same G3 (upd G3 D3 (.lst (wordsV ts ++ [sV "a"]))) := same_new (Same.refl _) k3; have e3 : upd G3 D3 (.lst (wordsV ts ++ [sV "a"])) D3 = some (.lst (wordsV ts ++ [sV "a"])) := upd_same; revert s4 e3; generalize upd G3 D3 (.lst (wordsV ts ++ [sV "a"])) = G4; intro s4 e3
    have Z4 := Z3.same s4
    refine ⟨_, rfl, _, rfl, _, rfl, w, _, rfl, SqL.of (fc Z4).ew, fun D4 k4 => ?_⟩
    have s5 : Same G4 (upd G4 D4 (.lst (cutV (wordsV ts) none (some (-1))))) := same_new (Same.refl _) k4; have e4 : upd G4 D4 (.lst (cutV (wordsV ts) none (some (-1)))) D4 = some (.lst (cutV (wordsV ts) none (some (-1)))) := upd_same; revert s5 e4; generalize upd G4 D4 (.lst (cutV (wordsV ts) none (some (-1)))) = G5; intro s5 e4
    refine ⟨(by show (1 : Nat) ≤ sizeLine; decide), fun D5 k5 => ?_⟩
    have s6 : Same G5 (upd G5 D5 (.tup [sV "a"])) := same_new (Same.refl _) k5; have e5 : upd G5 D5 (.tup [sV "a"]) D5 = some (.tup [sV "a"]) := upd_same; revert s6 e5; generalize upd G5 D5 (.tup [sV "a"]) = G6; intro s6 e5
    refine ⟨(by show (1 : Nat) ≤ sizeLine; decide), fun D6 k6 => ?_⟩
    have s7 : Same G6 (upd G6 D6 (.lst [.ref D5])) := same_new (Same.refl _) k6; have e6 : upd G6 D6 (.lst [.ref D5]) D6 = some (.lst [.ref D5]) := upd_same; revert s7 e6; generalize upd G6 D6 (.lst [.ref D5]) = G7; intro s7 e6
    have Z5 := Z4.same s5
    have Z6 := Z5.same s6
    have Z7 := Z6.same s7
    have lc : (cutV (wordsV ts) none (some (-1))).length ≤ 14 := by
      rw [wordsV_eq, cutV_map, List.length_map]
      exact Nat.le_trans (cutR_len _ _ _) (by simp; omega)
    refine ⟨_, _, _, _, rfl, rfl, (s6.trans s7) _ _ e4, e6, szl (by rw [List.length_singleton]; omega), fun D7 k7 => ?_⟩
    have s8 : Same G7 (upd G7 D7 (.lst (cutV (wordsV ts) none (some (-1)) ++ [.ref D5]))) := same_new (Same.refl _) k7; have e7 : upd G7 D7 (.lst (cutV (wordsV ts) none (some (-1)) ++ [.ref D5])) D7 = some (.lst (cutV (wordsV ts) none (some (-1)) ++ [.ref D5])) := upd_same; revert s8 e7; generalize upd G7 D7 (.lst (cutV (wordsV ts) none (some (-1)) ++ [.ref D5])) = G8; intro s8 e7
    have Z8 := Z7.same s8
    refine ⟨_, rfl, _, _, rfl, .inl ⟨_, SqL.of (fc Z8).ew, rfl⟩, _, (wordsV ts).length, rfl, rfl, by decide +kernel, by omega, ?_⟩
    refine ⟨(by show (5 : Nat) ≤ sizeLine; decide), fun D8 k8 => ?_⟩
    have s9 : Same G8 (upd G8 D8 (.lst [.ref D1, .ref D3, .ref D7, .str (repS (Str.ofString "a") (wordsV ts).length), .non])) := same_new (Same.refl _) k8; have e8 : upd G8 D8 (.lst [.ref D1, .ref D3, .ref D7, .str (repS (Str.ofString "a") (wordsV ts).length), .non]) D8 = some (.lst [.ref D1, .ref D3, .ref D7, .str (repS (Str.ofString "a") (wordsV ts).length), .non]) := upd_same; revert s9 e8; generalize upd G8 D8 (.lst [.ref D1, .ref D3, .ref D7, .str (repS (Str.ofString "a") (wordsV ts).length), .non]) = G9; intro s9 e8
    have Z9 := Z8.same s9
    have few9 : ∀ y ∈ [V.ref D1, .ref D3, .ref D7, .str (repS (Str.ofString "a") (wordsV ts).length), .non], FewP p H G9 y := fun y hy => by
      have t49 : Same G4 G9 := (s5.trans s6).trans ((s7.trans s8).trans s9)
      have t29 : Same G2 G9 := (s3.trans s4).trans t49
      have nw : ∀ {b : Addr} {G : Hp} {k : Int}, Bx H p k G → G b = none → NewV H (.ref b) := fun Z k => NewV.sam (fun a e => by cases e; exact k) Z.bx Z.ss
      simp only [List.mem_cons, List.not_mem_nil, or_false] at hy
      rcases hy with rfl | rfl | rfl | rfl | rfl
      · refine few_strs (l := (ts.map (·.2)).drop 1) (nb Z1 k1) (nw Z1 k1) ?_ (fun z hz => words_small tk z (List.mem_of_mem_drop hz)) (by rw [List.length_drop, List.length_map]; omega)
        rw [t29 _ _ e1, show (1 : Int) = ((1 : Nat) : Int) from rfl, cutV_from, wordsV_eq, List.map_drop]
      · refine few_strs (l := ts.map (·.2) ++ [Str.ofString "a"]) (nb Z3 k3) (nw Z3 k3) ?_ (fun z hz => ?_) (by rw [List.length_append, List.length_map, List.length_singleton]; omega)
        · rw [t49 _ _ e3, wordsV_eq, List.map_append]
          rfl
        · rcases List.mem_append.mp hz with hz | hz
          · exact words_small tk z hz
          · rw [List.mem_singleton.mp hz]
            exact ⟨asc_lit (by decide +kernel), by decide +kernel⟩
      · refine few_mix (l := cutR (ts.map (·.2)) none (some (-1))) (i := 14) (j := 14) (v := .ref D5) (e := .tuple [.str (Str.ofString "a")]) (nb Z7 k7) (nw Z7 k7) ?_ ⟨.tup (hid_of (by simpa using nb Z5 k5) (((s7.trans s8).trans s9) _ _ e5)) (.cons (.str _) .nil), by simp [PyData.depth, PyData.depthAll], by simp only [plainD, plainAll, and_true]; exact asc_lit (by decide +kernel), by decide +kernel⟩ (fun z hz => words_small tk z (cutR_mem hz)) ?_
        · have l14 : (cutR (ts.map (·.2)) none (some (-1))).length ≤ 14 := Nat.le_trans (cutR_len _ _ _) (by simp; omega)
          rw [s9 _ _ e7, wordsV_eq, cutV_map, List.take_of_length_le (by simpa using l14), List.drop_of_length_le (by simpa using l14), List.append_nil]
        · exact Nat.le_trans (cutR_len _ _ _) (by simp; omega)
      · refine ⟨_, dd_str (asc_rep (asc_lit (by decide +kernel)) _) ?_, (fun b z => nomatch z), rfl⟩
        rw [rep_len, show (Str.ofString "a").length = 1 from by decide +kernel]
        omega
      · exact ⟨_, ⟨.non, by simp [PyData.depth], trivial, by simp [cost]⟩, (fun b z => nomatch z), rfl⟩
    have n8 := nb Z8 k8
    clear e7 e6 e5 e4 e3 e2 e1 Z8 Z7 Z6 Z5 Z4 Z3 Z2 Z1 s9 s8 s7 s6 s5 s4 s3 s2
    refine ⟨_, rfl, _, rfl, _, rfl, _, rfl, w, _, rfl, SqL.of (fc Z9).ew, fun E1 k1 => ?_⟩
    have s1 : Same G9 (upd G9 E1 (.lst (cutV (wordsV ts) none (some (j : Int))))) := same_new (Same.refl _) k1; have e1 : upd G9 E1 (.lst (cutV (wordsV ts) none (some (j : Int)))) E1 = some (.lst (cutV (wordsV ts) none (some (j : Int)))) := upd_same; revert s1 e1; generalize upd G9 E1 (.lst (cutV (wordsV ts) none (some (j : Int)))) = F1; intro s1 e1
    have Y1 := Z9.same s1
    have ew1 : F1 w = some (.lst ((ts.map (·.2)).map V.str)) := by rw [← wordsV_eq]; exact (fc Y1).ew
    have dw1 := dd_strs (G := hid [p] F1) (hid_of (by simpa using f0.nw) ew1) (words_small tk)
    refine ⟨_, rfl, _, rfl, p, _, .ref w, _, [p], 2, 4300, rfl, by omega, Y1.bx, by simp, pold Y1, dw1.mono (by omega) (by rw [List.length_map]; omega), Nat.le_refl _, fun vx ex F2 SX BX dvx nvx => ?_⟩
    have Y2 : Bx H p (n + 42) F2 := Y1.sam SX (BX.mono (by omega))
    have nE1 : E1 ≠ p := nb Z9 k1
    replace e1 := SX _ _ nE1 e1
    have c1 : (cutV (wordsV ts) none (some (j : Int))).length ≤ 14 := by
      rw [cutV_to, List.length_take]
      omega
    have c2 : (cutV (wordsV ts) (some ((j : Int) + 1)) none).length ≤ 14 := by
      rw [show ((j : Int) + 1) = ((j + 1 : Nat) : Int) from by omega, cutV_from, List.length_drop]
      omega
    refine ⟨(by show (1 : Nat) ≤ sizeLine; decide), fun E2 k2 => ?_⟩
    have s2 : Same F2 (upd F2 E2 (.lst [vx])) := same_new (Same.refl _) k2; have e2 : upd F2 E2 (.lst [vx]) E2 = some (.lst [vx]) := upd_same; revert s2 e2; generalize upd F2 E2 (.lst [vx]) = F3; intro s2 e2
    refine ⟨_, _, _, _, rfl, rfl, s2 _ _ e1, e2, szl (by rw [List.length_singleton]; omega), fun E3 k3 => ?_⟩
    have s3 : Same F3 (upd F3 E3 (.lst (cutV (wordsV ts) none (some (j : Int)) ++ [vx]))) := same_new (Same.refl _) k3; have e3 : upd F3 E3 (.lst (cutV (wordsV ts) none (some (j : Int)) ++ [vx])) E3 = some (.lst (cutV (wordsV ts) none (some (j : Int)) ++ [vx])) := upd_same; revert s3 e3; generalize upd F3 E3 (.lst (cutV (wordsV ts) none (some (j : Int)) ++ [vx])) = F4; intro s3 e3
    have Y4 := (Y2.same s2).same s3
    refine ⟨_, rfl, _, rfl, _, _, rfl, rfl, _, rfl, w, _, rfl, SqL.of (fc Y4).ew, fun E4 k4 => ?_⟩
    have s4 : Same F4 (upd F4 E4 (.lst (cutV (wordsV ts) (some ((j : Int) + 1)) none))) := same_new (Same.refl _) k4; have e4 : upd F4 E4 (.lst (cutV (wordsV ts) (some ((j : Int) + 1)) none)) E4 = some (.lst (cutV (wordsV ts) (some ((j : Int) + 1)) none)) := upd_same; revert s4 e4; generalize upd F4 E4 (.lst (cutV (wordsV ts) (some ((j : Int) + 1)) none)) = F5; intro s4 e4
    refine ⟨_, _, _, _, rfl, rfl, s4 _ _ e3, e4, szl (by rw [List.length_append, List.length_singleton]; omega), fun E5 k5 => ?_⟩
    have s5 : Same F5 (upd F5 E5 (.lst (cutV (wordsV ts) none (some (j : Int)) ++ [vx] ++ cutV (wordsV ts) (some ((j : Int) + 1)) none))) := same_new (Same.refl _) k5; have e5 : upd F5 E5 (.lst (cutV (wordsV ts) none (some (j : Int)) ++ [vx] ++ cutV (wordsV ts) (some ((j : Int) + 1)) none)) E5 = some (.lst (cutV (wordsV ts) none (some (j : Int)) ++ [vx] ++ cutV (wordsV ts) (some ((j : Int) + 1)) none)) := upd_same; revert s5 e5; generalize upd F5 E5 (.lst (cutV (wordsV ts) none (some (j : Int)) ++ [vx] ++ cutV (wordsV ts) (some ((j : Int) + 1)) none)) = F6; intro s5 e5
    have Y5 := Y4.same s4
    have t26 := (s2.trans s3).trans (s4.trans s5)
    rw [show ((j : Int) + 1) = ((j + 1 : Nat) : Int) from by omega, cutV_to, cutV_from, wordsV_eq] at e5
    have fewE : FewP p H F6 (.ref E5) := few_mix (nb Y5 k5) (NewV.sam (fun a e => by cases e; exact k5) Y5.bx Y5.ss) e5 ((dvx.mono (k2 := 11) (c2 := 6300) (by omega) (by omega)).up (hid_up fun b o _ z => t26 b o z)) (words_small tk) (by simpa using lt)
    refine ⟨(by show (1 : Nat) ≤ sizeLine; decide), fun E6 k6 => ?_⟩
    have s6 : Same F6 (upd F6 E6 (.lst [.ref E5])) := same_new (Same.refl _) k6; have e6 : upd F6 E6 (.lst [.ref E5]) E6 = some (.lst [.ref E5]) := upd_same; revert s6 e6; generalize upd F6 E6 (.lst [.ref E5]) = F7; intro s6 e6
    refine ⟨_, 3, _, rfl, rfl, e6, by decide, by decide, by show (3 : Nat) ≤ sizeLine; decide, fun E7 k7 => ?_⟩
    have s7 : Same F7 (upd F7 E7 (.lst (List.replicate (3 : Int).toNat [V.ref E5]).flatten)) := same_new (Same.refl _) k7; have e7 : upd F7 E7 (.lst (List.replicate (3 : Int).toNat [V.ref E5]).flatten) E7 = some (.lst (List.replicate (3 : Int).toNat [V.ref E5]).flatten) := upd_same; revert s7 e7; generalize upd F7 E7 (.lst (List.replicate (3 : Int).toNat [V.ref E5]).flatten) = F8; intro s7 e7
    have t28 := t26.trans (s6.trans s7)
    have e8F : F8 D8 = some (.lst [V.ref D1, V.ref D3, V.ref D7, V.str (repS (Str.ofString "a") (wordsV ts).length), V.non]) := t28 _ _ (SX _ _ n8 (s1 _ _ e8))
    refine ⟨_, _, _, _, rfl, rfl, e8F, e7, by show (8 : Nat) ≤ sizeLine; decide, fun E8 k8 => ?_⟩
    have s8 : Same F8 (upd F8 E8 (.lst ([V.ref D1, V.ref D3, V.ref D7, V.str (repS (Str.ofString "a") (wordsV ts).length), V.non] ++ (List.replicate (3 : Int).toNat [V.ref E5]).flatten))) := same_new (Same.refl _) k8; have e9 : upd F8 E8 (.lst ([V.ref D1, V.ref D3, V.ref D7, V.str (repS (Str.ofString "a") (wordsV ts).length), V.non] ++ (List.replicate (3 : Int).toNat [V.ref E5]).flatten)) E8 = some (.lst ([V.ref D1, V.ref D3, V.ref D7, V.str (repS (Str.ofString "a") (wordsV ts).length), V.non] ++ (List.replicate (3 : Int).toNat [V.ref E5]).flatten)) := upd_same; revert s8 e9; generalize upd F8 E8 (.lst ([V.ref D1, V.ref D3, V.ref D7, V.str (repS (Str.ofString "a") (wordsV ts).length), V.non] ++ (List.replicate (3 : Int).toNat [V.ref E5]).flatten)) = F9; intro s8 e9
    have Y8 := Y2.same t28
    have Y9 := Y8.same s8
    have few9F : ∀ y ∈ [V.ref D1, .ref D3, .ref D7, .str (repS (Str.ofString "a") (wordsV ts).length), .non] ++ (List.replicate (3 : Int).toNat [V.ref E5]).flatten, FewP p H F9 y := fun y hy => by
      rcases List.mem_append.mp hy with hy | hy
      · exact (few9 y hy).sam fun b o hb z => s8 _ _ (t28 _ _ (SX _ _ hb (s1 _ _ z)))
      · have ey : y = .ref E5 := by
          have h : y ∈ [V.ref E5, .ref E5, .ref E5] := hy
          simpa using h
        rw [ey]
        exact fewE.sam fun b o _ z => s8 _ _ (s7 _ _ (s6 _ _ z))
    have nE8 := nb Y8 k8
    refine ⟨_, rfl, p, 8, n + 42, rfl, by omega, by decide, by omega, Y9.bx, fun d8 o8 ge8 lt8 B8 => ?_⟩
    have YA := Bx.take Y9 B8; have SA : Sam p F9 (upd F9 p o8) := Sam.box (Sam.refl _ _); clear B8; revert YA SA; generalize upd F9 p o8 = FA; intro YA SA
    obtain ⟨y, hy, fy⟩ := atI_all few9F ge8 (by simpa using lt8)
    replace fy := fy.sam SA
    refine ⟨E8, _, _, y, rfl, rfl, SqL.of (SA _ _ nE8 e9), hy, ?_⟩
    refine sig_set (σ' := [some (V.ref p), some (V.ref T0), some (V.ref m), some (V.ref w), some v, y5, y6, some (V.int (j : Int)), y8, y9, some y, none]) rfl ?_
    clear hy e9 few9F e8F e7 e6 fewE e5 e4 e3 e2 e1 dvx nvx few9 Y9 Y8 Y5 Y4 Y2 Y1 dw1 ew1 Z9 t28 t26 s8 s7 s6 s5 s4 s3 s2 s1 SX BX
    -- nothing to refuse
    refine ⟨_, rfl, _, _, rfl, .inl ⟨_, SqL.of (fc YA).ew, rfl⟩, rfl, _, rfl, ?_⟩
    refine' with_tail (T := _) ?tail5 (fun t5 => ?main5)
    case' main5 =>
      by_cases c0 : ts.length = 0
      · rw [show decide (V.int ((wordsV ts).length : Int) = V.int 0) = true from decide_eq_true (by rw [lw, c0]; rfl)]
        refine iteT ⟨_, rfl, (by show (0 : Nat) ≤ sizeLine; decide), fun e0 k0 => ?_⟩
        have sB : Same FA (upd FA e0 (.lst [])) := same_new (Same.refl _) k0; have eB : upd FA e0 (.lst []) e0 = some (.lst []) := upd_same; revert sB eB; generalize upd FA e0 (.lst []) = FB; intro sB eB
        refine ⟨(by show (2 : Nat) ≤ sizeLine; decide), fun p0 kp => ?_⟩
        have sC : Same FB (upd FB p0 (.tup [.ref e0, .str (Str.ofString "")])) := same_new (Same.refl _) kp; have eC : upd FB p0 (.tup [.ref e0, .str (Str.ofString "")]) p0 = some (.tup [.ref e0, .str (Str.ofString "")]) := upd_same; revert sC eC; generalize upd FB p0 (.tup [.ref e0, .str (Str.ofString "")]) = FC; intro sC eC
        have YC := (YA.same sB).same sC
        have fyC : FewP p H FC y := fy.sam fun b o _ z => sC _ _ (sB b o z)
        have fyD := fyC
        replace eB := sC _ _ eB
        obtain ⟨df, dd, nv, kd⟩ := fyD
        have dx := dd.out.dx
        cases df with
        | list ds =>
          obtain ⟨b, ys, ey, eb2⟩ : ∃ b ys, y = .ref b ∧ FC b = some (.lst ys) := by
            cases dx with
            | lst e r => exact ⟨_, _, rfl, e⟩
          refine ⟨p0, e0, rfl, SqT.of eC, SqL.of eB, .inl ⟨b, ys, ey, SqL.of eb2, _, rfl, ?_⟩⟩
          cases hb : decide (ys = []) with
          | true => exact iteT (q _ YC.ss)
          | false =>
            refine iteF ?_
            clear eb2 dx dd eB eC sC
            revert FC YC fyC
            exact t5.down
        | str z =>
          obtain ⟨ey⟩ : Nonempty (y = .str z) := by
            cases dx
            exact ⟨rfl⟩
          refine ⟨p0, e0, rfl, SqT.of eC, SqL.of eB, .inr (.inl ⟨z, ey, _, rfl, ?_⟩)⟩
          cases hb : decide (z = Str.ofString "") with
          | true => exact iteT (q _ YC.ss)
          | false => exact iteF (t5.down FC YC fyC)
        | none =>
          obtain ⟨ey⟩ : Nonempty (y = .non) := by
            cases dx
            exact ⟨rfl⟩
          exact ⟨p0, e0, rfl, SqT.of eC, SqL.of eB, .inr (.inr ⟨ey, _, rfl, iteF (t5.down FC YC fyC)⟩)⟩
        | _ => cases kd
      · rw [show decide (V.int ((wordsV ts).length : Int) = V.int 0) = false from decide_eq_false (fun z => c0 (by have := V.int.inj z; omega))]
        exact iteF (t5.down FA YA fy)
    intro FB YB fyB
    clear fy YA SA
    -- no right words
    refine' with_tail (T := _) ?tail6 (fun t6 => ?main6)
    case' main6 =>
      obtain ⟨z, ez, fz⟩ : ∃ z, y = z ∧ FewP p H FB z := ⟨y, rfl, fyB⟩
      refine sig_as (σ' := [some (V.ref p), some (V.ref T0), some (V.ref m), some (V.ref w), some v, y5, y6, some (V.int (j : Int)), y8, y9, some z, none]) (by rw [ez]) ?_
      clear ez
      obtain ⟨df, dd, nv, kd⟩ := fz
      have ty := dd.out.dx.ty (by have := dd.co; omega)
      refine ⟨_, rfl, _, _, _, _, _, rfl, .ty _, ty.x, kit_ty (kit_list ty), _, rfl, ?_⟩
      have dx := dd.out.dx
      cases df with
      | list ds =>
        obtain ⟨b, ys, rfl, eb2, ra⟩ : ∃ b ys, z = .ref b ∧ FB b = some (.lst ys) ∧ DxAll FB ys ds := by
          cases dx with
          | lst e r => exact ⟨_, _, rfl, e, r⟩
        have ly := ra.length
        have ld := costAll_len ds
        have lc := dd.co
        simp only [cost] at lc
        refine iteT ⟨_, rfl, _, _, rfl, .inl ⟨_, SqL.of eb2, rfl⟩, _, rfl, _, _, rfl, .inl ⟨_, SqL.of (fc YB).ew, rfl⟩, rfl, _, rfl, ?_⟩
        by_cases cl : ys.length = ts.length
        · rw [show decide (V.int (ys.length : Int) = V.int ((wordsV ts).length : Int)) = true from decide_eq_true (by rw [lw, cl])]
          refine iteT ⟨_, rfl, b, rfl, ⟨_, SqL.of eb2⟩, fun C kC => ?_⟩
          refine lc_it (walk_list (xs := ys)) (fun i H' => Same FB H' ∧ H' C = some (.lst ((ys.take i).filter fun x => !wordV x))) ⟨same_new (Same.refl _) kC, upd_same⟩ (fun i H' _ h => SqL.of (h.1 _ _ eb2)) (fun i x Ga Gb hi hP hY => ?_) (fun Ga hP => ?_)
          · obtain ⟨s2, eD⟩ := hP
            obtain ⟨rfl, hY⟩ := hY
            obtain ⟨dd2, hd2, dx2⟩ := ra.get hY
            have cm := costAll_mem (List.mem_of_getElem? hd2)
            have ty2 := dx2.ty (by omega)
            have tkx : ys.take (i + 1) = ys.take i ++ [x] := by
              rw [List.take_add_one, hY]
              rfl
            refine ⟨rfl, _, rfl, x, _, rfl, ty2.up s2, fun Gc s3 => ⟨_, rfl, ?_⟩⟩
            have eD3 := s3 _ _ eD
            cases o : wordV x with
            | false =>
              refine iteT ⟨_, rfl, _, eD3, ?_, same_old (s2.trans s3) kC, ?_⟩
              · have h1 := List.length_filter_le (fun x => !wordV x) (ys.take i)
                rw [List.length_take] at h1
                exact sz (by omega)
              · rw [upd_same, tkx, List.filter_append]
                simp [o]
            | true =>
              refine iteF ⟨s2.trans s3, ?_⟩
              rw [eD3, tkx, List.filter_append]
              simp [o]
          · obtain ⟨s2, eD⟩ := hP
            refine ⟨(by show (0 : Nat) ≤ sizeLine; decide), fun D2 hD2 => ?_⟩
            refine eqZ_nil (SqL.of (keep_new eD hD2)) (SqL.of upd_same) ⟨_, rfl, ?_⟩
            rw [List.take_length] at *
            have YD := (YB.same s2).same (same_new (o := .lst []) (Same.refl _) hD2)
            have ddD := dd.up (hid_up fun b o _ u => same_new (o := .lst []) s2 hD2 b o u)
            revert YD ddD
            generalize upd Ga D2 (.lst []) = GD
            intro YD ddD
            cases hb : decide ((ys.filter fun x => !wordV x) = []) with
            | true => exact iteT (q _ YD.ss)
            | false =>
              have nw : ds.all dWord = false := by
                have e1 : (ys.map wordV).all id = ds.all dWord := by
                  rw [dx_wordV ra, List.all_map]
                  rfl
                rw [← e1, List.all_map, Bool.eq_false_iff]
                intro ha
                refine of_decide_eq_false hb ?_
                rw [List.filter_eq_nil_iff]
                intro x hx
                have := List.all_eq_true.mp ha x hx
                simpa using this
              have fin : ∀ es, PyData.list ds = .list es → es.length = ts.length → es.all dWord = false := fun es he _ => by
                cases he
                exact nw
              refine iteF ?_
              obtain ⟨z2, ez2⟩ : ∃ z2, z2 = V.ref b := ⟨_, rfl⟩
              obtain ⟨d2, ed2⟩ : ∃ d2, d2 = PyData.list ds := ⟨_, rfl⟩
              rw [← ed2] at fin ddD kd
              rw [← ez2] at ddD nv
              refine sig_as (σ' := [some (V.ref p), some (V.ref T0), some (V.ref m), some (V.ref w), some v, y5, y6, some (V.int (j : Int)), y8, y9, some z2, none]) (by rw [ez2]) ?_
              clear ez2 ed2
              revert GD z2 d2
              exact t6.down
        · rw [show decide (V.int (ys.length : Int) = V.int ((wordsV ts).length : Int)) = false from decide_eq_false (fun z => cl (by have := V.int.inj z; omega))]
          exact iteF (t6.down FB YB _ nv _ kd dd fun es he hl => by cases he; exact absurd (ly.trans hl) cl)
      | str z => exact iteF (t6.down FB YB _ nv _ kd dd fun es he _ => by cases he)
      | none => exact iteF (t6.down FB YB _ nv _ kd dd fun es he _ => by cases he)
      | _ => cases kd
    intro GD YD z nv df kd dd fin
    clear fyB YB
    have wr := Dx.wrow dd.out.dx (by have := dd.co; omega)
    have gm : GoodM GD false (.ref m) (ts.map (·.1)) := goodM_of (k := false) (fc YD).em tk hp (by omega)
    have rf : ∀ Q, RefO GD "words" z Q → RefW GD Q 3 (.ref m) z := fun Q qo => by
      cases hw : dWords df with
      | false =>
        rw [hw] at wr
        exact .txt2 gm wr qo
      | true =>
        rw [hw] at wr
        cases df with
        | list ds =>
          have lc := dd.co
          simp only [cost] at lc
          have ld := costAll_len ds
          obtain ⟨b, ys, rfl, eb2, ly⟩ : ∃ b ys, z = .ref b ∧ GD b = some (.lst ys) ∧ ys.length = ds.length := by
            have h := dd.out.dx
            cases h with
            | lst e r => exact ⟨_, _, rfl, e, r.length⟩
          refine .txt3 gm (.inl eb2) wr (by omega) (fun hl => ?_) qo
          rw [List.length_map] at hl
          have hf := fin ds rfl (by omega)
          exact absurd (hf.symm.trans hw) (by decide)
        | str z => cases hw
        | none => cases hw
        | _ => cases kd
    refine ⟨_, rfl, _, rfl, _, _, _, rfl, rf _ fun R GE sE hR eR => ?_⟩
    have YE := YD.same sE
    have ddE := dd.up (hid_up fun b o _ u => sE b o u)
    have shE := ddE.out.sh (by decide) (by decide)
    have ty := ddE.out.dx.ty (by have := ddE.co; omega)
    have nRb : ∀ b, z = .ref b → R ≠ b := fun b eb u => by
      obtain ⟨o, ho⟩ : ∃ o, GD b = some o := by
        have h := dd.out.dx
        rw [eb] at h
        cases h with
        | lst e r => exact ⟨_, e⟩
        | tup e r => exact ⟨_, e⟩
        | dct0 e => exact ⟨_, e⟩
      rw [u, ho] at hR
      cases hR
    refine ⟨_, rfl, _, _, _, _, _, rfl, .ty _, ty.x, kit_ty (kit_list ty), _, rfl, ?_⟩
    clear dd wr gm rf fin
    cases df with
    | list ds =>
      obtain ⟨b, ys, rfl, eb2, ly⟩ : ∃ b ys, z = .ref b ∧ GE b = some (.lst ys) ∧ ys.length = ds.length := by
        have h := ddE.out.dx
        cases h with
        | lst e r => exact ⟨_, _, rfl, e, r.length⟩
      have ld := costAll_len ds
      have lc := ddE.co
      simp only [cost] at lc
      refine iteT ⟨_, rfl, .inl ⟨rfl, _, SqL.of eb2⟩, b, ys, _, rfl, rfl, eb2, sz (by omega), ?_⟩
      have hb : H b = none := nv b rfl
      have nbp : b ≠ p := fun z => by
        obtain ⟨_, _, _, e, _⟩ := B0
        rw [z, e] at hb
        cases hb
      have ZM := YE.late2 (o := .lst (ys ++ [.str (Str.ofString "late")])) hb nbp eb2
      have lt2 := late_dd eb2 ddE.out (by decide)
      have eR2 : upd GE b (.lst (ys ++ [.str (Str.ofString "late")])) R = some (.lst [.str (Str.ofString "words"), .ref b]) := by
        rw [upd_ne (nRb b rfl)]
        exact eR
      clear eR eb2 ddE shE YE ty
      revert ZM lt2 eR2
      generalize upd GE b (.lst (ys ++ [.str (Str.ofString "late")])) = HM
      intro ZM lt2 eR2
      have sh2 := lt2.sh (by decide) (by decide)
      have ra := repT ZM.sy eR2 sh2 asc_words len_words
      refine ⟨_, rfl, _, _, rfl, ra.1, ra.2.1, ra.2.2.1, ra.2.2.2.1, ra.2.2.2.2, _, rfl, (by show (2 : Nat) ≤ sizeLine; decide), fun R2 hR2 => ?_⟩
      have sN : Same HM (upd HM R2 (.lst [.str (Str.ofString "words"), .ref b])) := same_new (Same.refl _) hR2; have eN : upd HM R2 (.lst [.str (Str.ofString "words"), .ref b]) R2 = some (.lst [.str (Str.ofString "words"), .ref b]) := upd_same; revert sN eN; generalize upd HM R2 (.lst [.str (Str.ofString "words"), .ref b]) = HN; intro sN eN
      have ZN := ZM.same sN
      have rb := repT ZN.sy eN (sh2.up sN) asc_words len_words
      refine ⟨_, _, rfl, rb.1, rb.2.1, rb.2.2.1, rb.2.2.2.1, rb.2.2.2.2, rfl, ?_⟩
      rw [decide_eq_true rfl]
      exact q _ ZN.ss
    | _ =>
      refine iteF ?_
      have ra := repT YE.sy eR shE asc_words len_words
      refine ⟨_, rfl, _, _, rfl, ra.1, ra.2.1, ra.2.2.1, ra.2.2.2.1, ra.2.2.2.2, _, rfl, (by show (2 : Nat) ≤ sizeLine; decide), fun R2 hR2 => ?_⟩
      have sN : Same GE (upd GE R2 (.lst [.str (Str.ofString "words"), z])) := same_new (Same.refl _) hR2; have eN : upd GE R2 (.lst [.str (Str.ofString "words"), z]) R2 = some (.lst [.str (Str.ofString "words"), z]) := upd_same; revert sN eN; generalize upd GE R2 (.lst [.str (Str.ofString "words"), z]) = HN; intro sN eN
      have ZN := YE.same sN
      have rb := repT ZN.sy eN (shE.up sN) asc_words len_words
      refine ⟨_, _, rfl, rb.1, rb.2.1, rb.2.2.1, rb.2.2.2.1, rb.2.2.2.2, rfl, ?_⟩
      rw [decide_eq_true rfl]
      exact q _ ZN.ss

end
end RV


namespace RV
open PySem PySem.Spec PyProof.Rows L2 TL
section
variable {P : Program} {w : World} {K : PySem.W.Frag} {mg : Str → Option Value} {base : Heap}
theorem ok__law_word (T : TX P w K mg) : FnOk P w K mg base CX0 2 T.a__law_word T.d__law_word ["_law_purse_here", "_law_most"] (spWord) := by
  refine T.F__law_word.ok sc__law_word (fun vs H Q E h => ?_) (fun cdv A outer s H vs Q E hr h => ?_)
  · obtain ⟨p, most, n, rfl, hm1, hm2, hn, B0, q⟩ := h
    rfl
  · obtain ⟨p, most, n, rfl, hm1, hm2, hn, B0, q⟩ := h
    refine ⟨_, (pss_cons (ps_set (i := 2) sc__law_word.nd rfl (by first | exact Or.inl rfl | exact Or.inr rfl) pe_str)
      (pss_one (ps_ret (pe_join pe_str (pe_lc (own := [("_law_k", 3)]) (tt := tYes) rfl sc__law_word.nd (pi_range1 (by rfl) T.m_range (pa_cons (pe_op op_add pe_int (pe_call (ok__law_take T) (hr.mono (by decide)) (by rfl) T.g__law_take T.F__law_take.kp T.b__law_take .nil pass0 (pa_cons (pv 0) (pa_cons (pv 1) pa_nil)))) pa_nil)) (blkOk_by (N := ["_law_purse_here", "_law_most", "_law_letters", "_law_k"]) (sc := defScope s__law_word) (by decide +kernel)) (fun _ _ _ _ _ => (pg_name (i := 3) sc__law_word.nd rfl (by first | exact Or.inl rfl | exact Or.inr rfl))) (fun _ _ _ _ _ => pts_nil) (fun _ _ _ _ _ => (pe_ix ix_str (pv 2) (pe_call (ok__law_take T) (hr.mono (by decide)) (by rfl) T.g__law_take T.F__law_take.kp T.b__law_take .nil pass0 (pa_cons (pv 0) (pa_cons pe_int pa_nil))) (fun _ _ => rfl)))))))), ?_⟩
    refine ⟨⟨_, rfl⟩, _, rfl, _, rfl, _, most, n, rfl, hm1, by omega, by omega, B0, fun d1 o1 ge1 lt1 B1 => ?_⟩
    have S1 : Sam p H (upd H p o1) := Sam.box (Sam.refl _ _)
    revert B1 S1
    generalize upd H p o1 = H1
    intro B1 S1
    refine ⟨_, _, rfl, rfl, _, rfl, by omega, by omega, fun D hD => ?_⟩
    have nD : D ≠ p := (B1.ne hD).symm
    refine lc_it walk_range (fun i H' => ∃ l : List Nat, l.length = i ∧ (∀ c ∈ l, isAbc c = true) ∧ H' D = some (.lst ((signs l).map V.str)) ∧ Sam p H H' ∧ BoxAt H' p (n + 1 + i)) ⟨[], rfl, by simp, upd_same, S1.new hD, B1.new hD |>.mono (by omega)⟩ (fun _ _ _ _ => trivial) (fun i x H2 H3 hi hP hY => ?_) (fun H2 hP => ?_)
    · obtain ⟨rfl, rfl⟩ := hY
      obtain ⟨l, hl, hl2, eD, S2, B2⟩ := hP
      refine ⟨rfl, _, rfl, _, rfl, _, 26, n + 1 + i, rfl, by omega, by decide, by omega, B2, fun d2 o2 ge2 lt2 B3 => ?_⟩
      obtain ⟨c, hc, hc2⟩ := atI_alln (xs := abc.cps.toList) ge2 (by
        rw [show (abc.cps.toList.length : Int) = 26 from by decide +kernel]
        exact lt2)
      refine ⟨abc, _, c, rfl, rfl, (by decide +kernel), hc, _, by rw [upd_ne nD]; exact eD, ?_, l ++ [c], by simp [hl], ?_, ?_, ?_, ?_⟩
      · rw [List.length_map, signs_len]
        exact sz (by omega)
      · intro e he
        rcases List.mem_append.mp he with h | h
        · exact hl2 e h
        · rw [List.mem_singleton.mp h, ← abc_is]
          exact decide_eq_true hc2
      · rw [upd_same]
        simp [signs]
      · exact Sam.old (S2.trans (Sam.box (Sam.refl _ _))) (samNone S1 nD hD)
      · exact BoxAt.off (B3.mono (m := n + 1 + ((i + 1 : Nat) : Int)) (by omega)) nD
    · obtain ⟨l, hl, hl2, eD, S2, B2⟩ := hP
      refine ⟨_, D, signs l, rfl, rfl, .inl (SqL.of eD), ?_, ?_⟩
      · rw [signs_sum, signs_len, show (Str.ofString "").length = 0 from by decide +kernel]
        omega
      · rw [join_signs]
        exact q _ _ (wordS_mk hl2 (by omega) (by omega)) S2 (B2.mono (by omega))

theorem ok__law_text (T : TX P w K mg) : FnOk P w K mg base CX0 3 T.a__law_text T.d__law_text ["_law_purse_here", "_law_many", "_law_most"] (spTextD) := by
  refine T.F__law_text.ok sc__law_text (fun vs H Q E h => ?_) (fun cdv A outer s H vs Q E hr h => ?_)
  · obtain ⟨p, many, most, n, rfl, hmy, hm1, hm2, hn, B0, q⟩ := h
    rfl
  · obtain ⟨p, many, most, n, rfl, hmy, hm1, hm2, hn, B0, q⟩ := h
    refine ⟨_, (pss_cons (ps_set (i := 3) sc__law_text.nd rfl (by first | exact Or.inl rfl | exact Or.inr rfl) (pe_lst pa_nil))
      (pss_cons (ps_for PassesOwn.never rfl (pi_range1 (by rfl) T.m_range (pa_cons (pv 1) pa_nil)) (pg_name (i := 4) sc__law_text.nd rfl (by first | exact Or.inl rfl | exact Or.inr rfl))
        (pss_cons (ps_set (i := 5) sc__law_text.nd rfl (by first | exact Or.inl rfl | exact Or.inr rfl) (pe_ifExp (pt_cmpR op_gt (pv 4) pe_int (nomark _)) (pe_call (ok__law_mark T) (hr.mono (by decide)) (by rfl) T.g__law_mark T.F__law_mark.kp T.b__law_mark .nil pass0 (pa_cons (pv 0) pa_nil)) (pe_op op_add_str pe_str (pe_ix ix_str pe_str (pe_call (ok__law_take T) (hr.mono (by decide)) (by rfl) T.g__law_take T.F__law_take.kp T.b__law_take .nil pass0 (pa_cons (pv 0) (pa_cons pe_int pa_nil))) (fun _ _ => rfl)))))
        (pss_one (ps_expr (pe_bm PySem.F.plainAttrs_list PySem.F.slot_list_append PySem.F.type_list_append mt_append (pv 3) (pa_cons (pe_tup (pa_cons (pv 5) (pa_cons (pe_call (ok__law_word T) (hr.mono (by decide)) (by rfl) T.g__law_word T.F__law_word.kp T.b__law_word .nil pass0 (pa_cons (pv 0) (pa_cons (pv 2) pa_nil))) pa_nil))) pa_nil))))))
      (pss_one (ps_ret (pv 3))))), ?_⟩
    refine ⟨(by show (0 : Nat) ≤ sizeLine; decide), fun D hD => ?_⟩
    have nD : D ≠ p := (B0.ne hD).symm
    refine ⟨_, rfl, _, rfl, by omega, by omega, for_range (fun i σ H' => ∃ (xs : List V) (ts : List Tk) (y4 y5 : Option V), σ = [some (.ref p), some (.int (many : Int)), some (.int most), some (.ref D), y4, y5] ∧ Sam p H H' ∧ BoxAt H' p (n + 40 * i) ∧ H' D = some (.lst xs) ∧ TxL H' xs ts ∧ (∀ t ∈ ts, tokS t = true) ∧ headPar ts = true ∧ ts.length = i)
      ⟨[], [], none, none, rfl, (Sam.refl p H).new hD, B0.new hD |>.mono (by omega), upd_same, .nil, by simp, rfl, rfl⟩ (fun i σ H1 hi hP => ?_) (fun σ H1 hP => ?_)⟩
    · obtain ⟨xs, ts, y4, y5, rfl, S1, B1, e1, tx, tk, hp, lt⟩ := hP
      have lx := tx.length
      refine ⟨_, rfl, _, _, rfl, rfl, _, rfl, ite2 (fun e => ?a) (fun e => ?b)⟩
      case' a =>
        refine ⟨_, rfl, p, n + 40 * i, rfl, by omega, B1, fun m H2 hm S2 B2 => ?_⟩
        have B2 := B2.mono (m := n + 40 * i + 4) (by omega)
        have hh : ts = [] → m.cps.toList.head? = some 35 := fun e0 => by
          rw [e0] at lt
          have := of_decide_eq_true e
          have l0 : i = 0 := lt.symm
          omega
      case' b =>
        refine ⟨_, rfl, _, _, n + 40 * i, rfl, by omega, by decide, by omega, B1, fun d1 o1 ge1 lt1 B2 => ?_⟩
        obtain ⟨d, hd, hd2⟩ := atI_alln (xs := (Str.ofString "0123").cps.toList) ge1 (by
          rw [show ((Str.ofString "0123").cps.toList.length : Int) = 4 from by decide +kernel]
          exact lt1)
        have S2 : Sam p H1 (upd H1 p o1) := Sam.box (Sam.refl _ _)
        have B2 := B2.mono (m := n + 40 * i + 4) (by omega)
        revert S2 B2
        generalize upd H1 p o1 = H2
        intro S2 B2
        refine ⟨_, _, d, rfl, rfl, (by decide +kernel), hd, _, _, rfl, rfl, (by rw [len_one]; exact szl (by show (Str.ofString "#").length + 1 ≤ 200000; decide +kernel)), ?_⟩
        obtain ⟨m, em⟩ : ∃ m, m = (Str.ofString "#" ++ ⟨#[d]⟩ : Str) := ⟨_, rfl⟩
        have ec : m.cps.toList = [35, d] := by
          rw [em, show (Str.ofString "#" ++ ⟨#[d]⟩ : Str).cps.toList = (Str.ofString "#").cps.toList ++ [d] from tl_append _ _, show (Str.ofString "#").cps.toList = [35] from by decide +kernel]
          rfl
        have hm : markS m = true := by
          rw [markS_iff]
          refine .inr ⟨35, d, ec, .inl rfl, ?_⟩
          rw [show (Str.ofString "0123").cps.toList = [48, 49, 50, 51] from by decide +kernel] at hd2
          simpa using hd2
        have hh : ts = [] → m.cps.toList.head? = some 35 := fun _ => by rw [ec]; rfl
        rw [← em]
      all_goals
        refine ⟨_, rfl, .inl ⟨rfl, _, SqL.of (S2 _ _ nD e1)⟩, _, rfl, _, rfl, _, rfl, p, most, n + 40 * i + 4, rfl, hm1, hm2, by omega, B2, fun z H3 hz S3 B3 => ⟨(by show (2 : Nat) ≤ sizeLine; decide), fun t ht => ?_⟩⟩
        have S4 : Sam p H1 (upd H3 t (.tup [.str m, .str z])) := (S2.trans S3).new ht
        have e4 : upd H3 t (.tup [.str m, .str z]) t = some (.tup [.str m, .str z]) := upd_same
        have B4 := B3.new (o := .tup [.str m, .str z]) ht
        revert S4 e4 B4
        generalize upd H3 t (.tup [.str m, .str z]) = H4
        intro S4 e4 B4
        have tok : tokS (m, z) = true := by
          unfold tokS
          rw [hm, hz]
          rfl
        obtain ⟨b1, b2, b3, eb, _⟩ := B1
        have tx4 : TxL H4 (xs ++ [.ref t]) (ts ++ [(m, z)]) := (tx.sam S4 eb).append (TxL.one ⟨t, rfl, e4⟩)
        have S5 : Sam D H4 (upd H4 D (.lst (xs ++ [.ref t]))) := Sam.box (Sam.refl _ _)
        refine ⟨D, xs, _, rfl, rfl, S4 _ _ nD e1, sz (by omega), xs ++ [.ref t], ts ++ [(m, z)], _, _, rfl, Sam.old (S1.trans S4) hD, (B4.mono (m := n + 40 * ((i + 1 : Nat) : Int)) (by omega)).off nD, upd_same, tx4.sam S5 (S4 _ _ nD e1), ?_, ?_, ?_⟩
        · intro u hu
          rcases List.mem_append.mp hu with h | h
          · exact tk u h
          · rw [List.mem_singleton.mp h]
            exact tok
        · cases ts with
          | nil => exact decide_eq_true (hh rfl)
          | cons a r => exact hp
        · rw [List.length_append, lt]
          rfl
    · obtain ⟨xs, ts, y4, y5, rfl, S1, B1, e1, tx, tk, hp, lt⟩ := hP
      exact ⟨_, rfl, q D _ xs ts hD S1 nD (B1.mono (by omega)) e1 tx tk hp (by omega)⟩

theorem ok__law_right (T : TX P w K mg) : FnG P w K mg base CX0 10 T.a__law_right T.d__law_right ["_law_purse_here"] (spRight) := by
  refine okG T.F__law_right sc__law_right (fun vs H Q E h => ?_) (fun cdv A outer s H vs Q E hgu hr h => ?_)
  · obtain ⟨p, rfl, B0, sy, q⟩ := h
    rfl
  · obtain ⟨p, rfl, B0, sy, q⟩ := h
    refine ⟨_, (pss_cons (ps_set (i := 1) sc__law_right.nd rfl (by first | exact Or.inl rfl | exact Or.inr rfl) (pe_call (ok__law_text T) (hr.mono (by decide)) (by rfl) T.g__law_text T.F__law_text.kp T.b__law_text .nil pass0 (pa_cons (pv 0) (pa_cons (pe_call (ok__law_take T) (hr.mono (by decide)) (by rfl) T.g__law_take T.F__law_take.kp T.b__law_take .nil pass0 (pa_cons (pv 0) (pa_cons pe_int pa_nil))) (pa_cons (pe_ix (show IxR _ (rIxL K) from ix_list) (pe_lst (pa_cons pe_int (pa_cons pe_int (pa_cons pe_int pa_nil)))) (pe_call (ok__law_take T) (hr.mono (by decide)) (by rfl) T.g__law_take T.F__law_take.kp T.b__law_take .nil pass0 (pa_cons (pv 0) (pa_cons pe_int pa_nil))) (fun _ _ => rfl)) pa_nil)))))
      (pss_cons (ps_par (i := 2) (j := 3) (by rfl) sc__law_right.nd rfl rfl (by decide) rfl rfl (pa_cons (pe_lc (own := [("_law_token", 4)]) (tt := tYes) rfl sc__law_right.nd (pi_list (pv 1)) (blkOk_by (N := ["_law_purse_here", "_law_text_here", "_law_marks", "_law_words", "_law_token", "_law_value", "_law_kept", "_law_other", "_law_mark_here", "_law_word_here", "_law_due", "_law_k", "_law_longer", "_law_at", "_law_turned", "_law_swapped"]) (sc := defScope s__law_right) (by decide +kernel)) (fun _ _ _ _ _ => (pg_name (i := 4) sc__law_right.nd rfl (by first | exact Or.inl rfl | exact Or.inr rfl))) (fun _ _ _ _ _ => pts_nil) (fun _ _ _ _ _ => (pe_ix (show IxR _ (rIxT K) from ix_tup) (pv 4) pe_int (fun _ _ => rfl)))) (pa_cons (pe_lc (own := [("_law_token", 4)]) (tt := tYes) rfl sc__law_right.nd (pi_list (pv 1)) (blkOk_by (N := ["_law_purse_here", "_law_text_here", "_law_marks", "_law_words", "_law_token", "_law_value", "_law_kept", "_law_other", "_law_mark_here", "_law_word_here", "_law_due", "_law_k", "_law_longer", "_law_at", "_law_turned", "_law_swapped"]) (sc := defScope s__law_right) (by decide +kernel)) (fun _ _ _ _ _ => (pg_name (i := 4) sc__law_right.nd rfl (by first | exact Or.inl rfl | exact Or.inr rfl))) (fun _ _ _ _ _ => pts_nil) (fun _ _ _ _ _ => (pe_ix (show IxR _ (rIxT K) from ix_tup) (pv 4) pe_int (fun _ _ => rfl)))) pa_nil)) (by rfl))
      (pss_cons (ps_set (i := 5) sc__law_right.nd rfl (by first | exact Or.inl rfl | exact Or.inr rfl) (pe_ix (show IxR _ (rIxL K) from ix_list) (pe_lst (pa_cons (pv 1) (pa_cons (pe_callTy call_tuple_of (by rfl) T.m_tuple (by decide +kernel) (pa_cons (pv 1) pa_nil)) pa_nil))) (pe_call (ok__law_take T) (hr.mono (by decide)) (by rfl) T.g__law_take T.F__law_take.kp T.b__law_take .nil pass0 (pa_cons (pv 0) (pa_cons pe_int pa_nil))) (fun _ _ => rfl)))
      (pss_cons (ps_set (i := 6) sc__law_right.nd rfl (by first | exact Or.inl rfl | exact Or.inr rfl) (pe_callB (call_repr hgu hr.units) (by rfl) T.m_repr (by decide +kernel) (pa_cons (pe_lst (pa_cons (pv 5) (pa_cons (pv 2) (pa_cons (pv 3) pa_nil)))) pa_nil)))
      (pss_cons (ps_if (PW.pt (pw_or (pt_cmpR op_isnot_bl (pe_call (ok_is_text T) (hr.mono (by decide)) (by rfl) T.g_is_text T.F_is_text.kp T.b_is_text .nil pass0 (pa_cons (pv 5) pa_nil)) pe_bl (nomark _)) (pw_or1 (pt_not (pt_val (pe_call (ok__law_texts_right T) (hr.mono (by decide)) (by rfl) T.g__law_texts_right T.F__law_texts_right.kp T.b__law_texts_right .nil pass0 (pa_cons (pv 5) (pa_cons (pv 2) (pa_cons (pv 3) pa_nil)))))))))
        (pss_one (ps_ret pe_bl)) pss_nil)
      (pss_cons (ps_set (i := 7) sc__law_right.nd rfl (by first | exact Or.inl rfl | exact Or.inr rfl) (pe_lc (own := [("_law_mark_here", 8), ("_law_word_here", 9)]) (tt := tYes) rfl sc__law_right.nd (pi_list (pv 1)) (blkOk_by (N := ["_law_purse_here", "_law_text_here", "_law_marks", "_law_words", "_law_token", "_law_value", "_law_kept", "_law_other", "_law_mark_here", "_law_word_here", "_law_due", "_law_k", "_law_longer", "_law_at", "_law_turned", "_law_swapped"]) (sc := defScope s__law_right) (by decide +kernel)) (fun _ _ _ _ _ => (pg_tupK (K := K) (n := 2) (by rfl) (by rfl) (pgs_cons (pg_name (i := 8) sc__law_right.nd rfl (by first | exact Or.inl rfl | exact Or.inr rfl)) (pgs_cons (pg_name (i := 9) sc__law_right.nd rfl (by first | exact Or.inl rfl | exact Or.inr rfl)) pgs_nil)))) (fun _ _ _ _ _ => pts_nil) (fun _ _ _ _ _ => (pe_tup (pa_cons (pe_ifExp (pt_cmpR op_gt (pe_call (ok__law_take T) (hr.mono (by decide)) (by rfl) T.g__law_take T.F__law_take.kp T.b__law_take .nil pass0 (pa_cons (pv 0) (pa_cons pe_int pa_nil))) pe_int (nomark _)) (pv 8) pe_str) (pa_cons (pe_sliceR slr_str (pv 9) (po_some (pe_un un_neg pe_int))) pa_nil))))))
      (pss_cons (ps_setLc (i := 10) (own := [("_law_k", 11)]) rfl sc__law_right.nd rfl rfl (sw_true rfl rfl rfl (by decide +kernel)) (pi_range1 (by rfl) T.m_range (pa_cons (pe_callB call_len (by rfl) T.m_len (by decide +kernel) (pa_cons (pv 1) pa_nil)) pa_nil)) (blkOk_by (N := ["_law_purse_here", "_law_text_here", "_law_marks", "_law_words", "_law_token", "_law_value", "_law_kept", "_law_other", "_law_mark_here", "_law_word_here", "_law_due", "_law_k", "_law_longer", "_law_at", "_law_turned", "_law_swapped"]) (sc := defScope s__law_right) (by decide +kernel)) (fun _ _ _ _ _ => (pg_name (i := 11) sc__law_right.nd rfl (by first | exact Or.inl rfl | exact Or.inr rfl))) (fun _ _ _ _ _ => (pts_one (pt_cmpR op_ne (pe_ix (show IxR _ (rIxT K) from ix_tup) (pe_ix (show IxR _ (rIxL K) from ix_list) (pv 1) (pv 11) (fun _ _ => rfl)) pe_int (fun _ _ => rfl)) (pe_ix (show IxR _ (rIxT K) from ix_tup) (pe_ix (show IxR _ (rIxL K) from ix_list) (pv 7) (pv 11) (fun _ _ => rfl)) pe_int (fun _ _ => rfl)) (nomark _)))) (fun _ _ _ _ _ => (pv 11)))
      (pss_cons (ps_if (PW.pt (pw_or (pt_cmpR (op_neD hr.units) (pe_call (calm (ok_unlike_marks T)) (hr.mono (by decide)) (by rfl) T.g_unlike_marks T.F_unlike_marks.kp T.b_unlike_marks .nil pass0 (pa_cons (pv 5) (pa_cons (pe_callTy call_tuple_of (by rfl) T.m_tuple (by decide +kernel) (pa_cons (pv 7) pa_nil)) pa_nil))) (pv 10) (nomark _)) (pw_or1 (pt_cmpR (op_neD hr.units) (pe_call (calm (ok_unlike_marks T)) (hr.mono (by decide)) (by rfl) T.g_unlike_marks T.F_unlike_marks.kp T.b_unlike_marks .nil pass0 (pa_cons (pv 7) (pa_cons (pv 5) pa_nil))) (pv 10) (nomark _)))))
        (pss_one (ps_ret pe_bl)) pss_nil)
      (pss_cons (ps_if (pt_cmpR op_gt (pe_callB call_len (by rfl) T.m_len (by decide +kernel) (pa_cons (pv 1) pa_nil)) pe_int (nomark _))
        (pss_cons (ps_set (i := 12) sc__law_right.nd rfl (by first | exact Or.inl rfl | exact Or.inr rfl) (pe_op op_cat (pe_slice sl_list (pv 1) po_none (po_some (pe_un un_neg pe_int))) (pe_lst (pa_cons (pe_tup (pa_cons (pe_ix (show IxR _ (rIxT K) from ix_tup) (pe_ix (show IxR _ (rIxL K) from ix_list) (pv 1) (pe_un un_neg pe_int) (fun _ _ => rfl)) pe_int (fun _ _ => rfl)) (pa_cons (pe_op op_add_str (pe_ix (show IxR _ (rIxT K) from ix_tup) (pe_ix (show IxR _ (rIxL K) from ix_list) (pv 1) (pe_un un_neg pe_int) (fun _ _ => rfl)) pe_int (fun _ _ => rfl)) pe_str) pa_nil))) pa_nil))))
        (pss_cons (ps_if (PW.pt (pw_and (pt_cmpR op_lt (pe_callB call_len_str (by rfl) T.m_len (by decide +kernel) (pa_cons (pe_ix (show IxR _ (rIxT K) from ix_tup) (pe_ix (show IxR _ (rIxL K) from ix_list) (pv 1) (pe_un un_neg pe_int) (fun _ _ => rfl)) pe_int (fun _ _ => rfl)) pa_nil)) pe_int (nomark _)) (pw_and1 (pt_cmpR op_ne (pe_callB (call_repr hgu hr.units) (by rfl) T.m_repr (by decide +kernel) (pa_cons (pe_call (ok__law_refused T) (hr.mono (by decide)) (by rfl) T.g__law_refused T.F__law_refused.kp T.b__law_refused .nil pass0 (pa_cons pe_int (pa_cons (pv 1) (pa_cons (pv 12) pa_nil)))) pa_nil)) (pe_callB (call_repr hgu hr.units) (by rfl) T.m_repr (by decide +kernel) (pa_cons (pe_lst (pa_cons pe_str (pa_cons (pv 12) pa_nil))) pa_nil)) (nomark _)))))
          (pss_one (ps_ret pe_bl)) pss_nil)
        (pss_cons (ps_if (pt_cmpR op_ne (pe_callB (call_repr hgu hr.units) (by rfl) T.m_repr (by decide +kernel) (pa_cons (pe_call (ok__law_refused T) (hr.mono (by decide)) (by rfl) T.g__law_refused T.F__law_refused.kp T.b__law_refused .nil pass0 (pa_cons pe_int (pa_cons (pv 1) (pa_cons (pe_slice sl_list (pv 1) po_none (po_some (pe_un un_neg pe_int))) pa_nil)))) pa_nil)) (pe_callB (call_repr hgu hr.units) (by rfl) T.m_repr (by decide +kernel) (pa_cons (pe_lst (pa_cons pe_str (pa_cons (pe_slice sl_list (pv 1) po_none (po_some (pe_un un_neg pe_int))) pa_nil))) pa_nil)) (nomark _))
          (pss_one (ps_ret pe_bl)) pss_nil)
        (pss_cons (ps_set (i := 13) sc__law_right.nd rfl (by first | exact Or.inl rfl | exact Or.inr rfl) (pe_call (ok__law_take T) (hr.mono (by decide)) (by rfl) T.g__law_take T.F__law_take.kp T.b__law_take .nil pass0 (pa_cons (pv 0) (pa_cons (pe_callB call_len (by rfl) T.m_len (by decide +kernel) (pa_cons (pv 1) pa_nil)) pa_nil))))
        (pss_cons (ps_set (i := 14) sc__law_right.nd rfl (by first | exact Or.inl rfl | exact Or.inr rfl) (pe_op op_cat (pe_op op_cat (pe_slice sl_list (pv 3) po_none (po_some (pv 13))) (pe_sliceR slr_list (pe_slice sl_list (pv 3) (po_some (pv 13)) (po_some (pe_op op_add (pv 13) pe_int))) (po_some (pe_un un_neg pe_int)))) (pe_slice sl_list (pv 3) (po_some (pe_op op_add (pv 13) pe_int)) po_none)))
        (pss_cons (ps_set (i := 15) sc__law_right.nd rfl (by first | exact Or.inl rfl | exact Or.inr rfl) (pe_listZip rfl (by rfl) T.m_list (by rfl) T.m_zip (pa_cons (pv 2) (pa_cons (pv 14) pa_nil))))
        (pss_one (ps_if (pt_cmpR (op_neD hr.units) (pe_lc (own := [("_law_word_here", 9)]) (tt := tYes) rfl sc__law_right.nd (pi_list (pv 14)) (blkOk_by (N := ["_law_purse_here", "_law_text_here", "_law_marks", "_law_words", "_law_token", "_law_value", "_law_kept", "_law_other", "_law_mark_here", "_law_word_here", "_law_due", "_law_k", "_law_longer", "_law_at", "_law_turned", "_law_swapped"]) (sc := defScope s__law_right) (by decide +kernel)) (fun _ _ _ _ _ => (pg_name (i := 9) sc__law_right.nd rfl (by first | exact Or.inl rfl | exact Or.inr rfl))) (fun _ _ _ _ _ => pts_nil) (fun _ _ _ _ _ => (pe_callB call_len_str (by rfl) T.m_len (by decide +kernel) (pa_cons (pv 9) pa_nil)))) (pe_lc (own := [("_law_word_here", 9)]) (tt := tYes) rfl sc__law_right.nd (pi_list (pv 3)) (blkOk_by (N := ["_law_purse_here", "_law_text_here", "_law_marks", "_law_words", "_law_token", "_law_value", "_law_kept", "_law_other", "_law_mark_here", "_law_word_here", "_law_due", "_law_k", "_law_longer", "_law_at", "_law_turned", "_law_swapped"]) (sc := defScope s__law_right) (by decide +kernel)) (fun _ _ _ _ _ => (pg_name (i := 9) sc__law_right.nd rfl (by first | exact Or.inl rfl | exact Or.inr rfl))) (fun _ _ _ _ _ => pts_nil) (fun _ _ _ _ _ => (pe_callB call_len_str (by rfl) T.m_len (by decide +kernel) (pa_cons (pv 9) pa_nil)))) (nomark _))
          (pss_one (ps_if (pt_cmpR op_ne (pe_callB (call_repr hgu hr.units) (by rfl) T.m_repr (by decide +kernel) (pa_cons (pe_call (ok__law_refused T) (hr.mono (by decide)) (by rfl) T.g__law_refused T.F__law_refused.kp T.b__law_refused .nil pass0 (pa_cons pe_int (pa_cons (pv 1) (pa_cons (pv 15) pa_nil)))) pa_nil)) (pe_callB (call_repr hgu hr.units) (by rfl) T.m_repr (by decide +kernel) (pa_cons (pe_lst (pa_cons pe_str (pa_cons (pv 15) pa_nil))) pa_nil)) (nomark _))
            (pss_one (ps_ret pe_bl)) pss_nil)) pss_nil)))))))) pss_nil)
      (pss_one (ps_ret (pe_and (pe_callG hgu (ok__law_odds_right T) (hr.mono (by decide)) (by rfl) T.g__law_odds_right T.F__law_odds_right.kp T.b__law_odds_right .nil pass0 (pa_cons (pv 0) (pa_cons (pv 1) (pa_cons (pv 2) (pa_cons (pv 3) pa_nil))))) (pe_one (pe_cmpR op_eq (pe_callB (call_repr hgu hr.units) (by rfl) T.m_repr (by decide +kernel) (pa_cons (pe_lst (pa_cons (pv 5) (pa_cons (pv 2) (pa_cons (pv 3) pa_nil)))) pa_nil)) (pv 6) (nomark _))))))))))))))), ?_⟩
    have Z0 : Bx H p 0 H := ⟨Sam.refl _ _, B0, sy⟩
    have nb : ∀ {b : Addr} {H0 G : Hp} {k : Int}, Bx H0 p k G → G b = none → b ≠ p := fun Z k => (Z.bx.ne k).symm
    -- the text
    refine ⟨_, rfl, _, rfl, p, 15, 0, rfl, by omega, by decide, by omega, B0, fun d1 o1 ge1 lt1 B1 => ?_⟩
    have Z1 := Bx.take Z0 B1; have S1 : Sam p H (upd H p o1) := Sam.box (Sam.refl _ _); clear B1; revert Z1 S1; generalize upd H p o1 = H1; intro Z1 S1
    clear S1
    refine ⟨(by show (3 : Nat) ≤ sizeLine; decide), fun l hl => ?_⟩
    have s2 : Same H1 (upd H1 l (.lst [.int 3, .int 9, .int 30])) := same_new (Same.refl _) hl; have E2 : upd H1 l (.lst [.int 3, .int 9, .int 30]) l = some (.lst [.int 3, .int 9, .int 30]) := upd_same; revert s2 E2; generalize upd H1 l (.lst [.int 3, .int 9, .int 30]) = H2; intro s2 E2
    have Z2 := Z1.same s2
    have nl := nb Z1 hl
    refine ⟨_, rfl, p, 3, _, rfl, by omega, by decide, by omega, Z2.bx, fun d2 o2 ge2 lt2 B2 => ?_⟩
    have Z3 := Bx.take Z2 B2; have S3 : Sam p H2 (upd H2 p o2) := Sam.box (Sam.refl _ _); clear B2; revert Z3 S3; generalize upd H2 p o2 = H3; intro Z3 S3
    replace E2 := S3 _ _ nl E2
    obtain ⟨v, hv, most, rfl, hm1, hm2⟩ := atI_all (xs := [V.int 3, V.int 9, V.int 30]) (P := fun v => ∃ z : Int, v = .int z ∧ 1 ≤ z ∧ z ≤ 30) (by
      intro x hx
      simp only [List.mem_cons, List.not_mem_nil, or_false] at hx
      rcases hx with rfl | rfl | rfl
      all_goals exact ⟨_, rfl, by decide, by decide⟩) ge2 lt2
    obtain ⟨many, rfl⟩ := Int.eq_ofNat_of_zero_le ge1
    refine ⟨l, _, _, _, rfl, rfl, SqL.of E2, hv, p, many, most, _, rfl, by omega, hm1, hm2, by omega, Z3.bx, fun T6 H6 xs ts hT S6 nT B6 eT tx tk hp lt => ?_⟩
    have Z6 : Bx H p 700 H6 := Z3.sam S6 (B6.mono (by omega))
    have lt14 : ts.length ≤ 14 := by omega
    have lx := tx.length
    clear B6 S6 hT hv hm1 hm2 E2 S3 Z3 Z2 Z1 nl s2 Z0
    -- its marks, its words
    refine ⟨_, rfl, T6, rfl, ⟨_, SqL.of eT⟩, fun m km => ?_⟩
    refine lc_vals (walk_list (xs := xs)) (marksV ts) (by simp [marksV, lx]) (sz (by omega)) km (fun H' s' => SqL.of (s' _ _ eT)) (fun i x y H2 Q2 Pe hi hy s2 k => ?_) (fun H7 s7 em => ?_)
    · obtain ⟨t, ht2, a2, rfl, e⟩ := tx.get hi
      unfold marksV at hy
      rw [List.getElem?_map, ht2] at hy
      have e2 := Option.some.inj hy
      subst e2
      exact ⟨rfl, _, rfl, a2, _, _, _, rfl, rfl, SqT.of (s2 _ _ e), atI_nat (j := 0) rfl, k _ (Same.refl _)⟩
    have eT7 := s7 _ _ eT
    have tx7 := tx.up s7
    refine ⟨_, rfl, T6, rfl, ⟨_, SqL.of eT7⟩, fun w kw => ?_⟩
    refine lc_vals (walk_list (xs := xs)) (wordsV ts) (by simp [wordsV, lx]) (sz (by omega)) kw (fun H' s' => SqL.of (s' _ _ eT7)) (fun i x y H2 Q2 Pe hi hy s2 k => ?_) (fun H8 s8 ew => ?_)
    · obtain ⟨t, ht2, a2, rfl, e⟩ := tx7.get hi
      unfold wordsV at hy
      rw [List.getElem?_map, ht2] at hy
      have e2 := Option.some.inj hy
      subst e2
      exact ⟨rfl, _, rfl, a2, _, _, _, rfl, rfl, SqT.of (s2 _ _ e), atI_nat (j := 1) rfl, k _ (Same.refl _)⟩
    have Z7 := Z6.same s7
    have Z8 := Z7.same s8
    have f8 : Fc p T6 m w xs ts H8 := ⟨s8 _ _ eT7, tx7.up s8, s8 _ _ em, ew, nT, nb Z6 km, nb Z7 kw⟩
    clear eT7 tx7 eT tx em ew
    refine ⟨_, _, rfl, ?_⟩
    -- as a list or a tuple
    refine ⟨_, rfl, _, rfl, T6, xs, rfl, .inl ⟨SqL.of f8.eT, fun U hU => ?_⟩⟩
    have s9 : Same H8 (upd H8 U (.tup xs)) := same_new (Same.refl _) hU; have eU : upd H8 U (.tup xs) U = some (.tup xs) := upd_same; revert s9 eU; generalize upd H8 U (.tup xs) = H9; intro s9 eU
    have Z9 := Z8.same s9
    refine ⟨(by show (2 : Nat) ≤ sizeLine; decide), fun l2 hl2 => ?_⟩
    have sA : Same H9 (upd H9 l2 (.lst [.ref T6, .ref U])) := same_new (Same.refl _) hl2; have eL : upd H9 l2 (.lst [.ref T6, .ref U]) l2 = some (.lst [.ref T6, .ref U]) := upd_same; revert sA eL; generalize upd H9 l2 (.lst [.ref T6, .ref U]) = HA; intro sA eL
    have ZA := Z9.same sA
    refine ⟨_, rfl, p, 2, _, rfl, by omega, by decide, by omega, ZA.bx, fun d3 o3 ge3 lt3 B3 => ?_⟩
    have ZB := Bx.take ZA B3; have SB : Sam p HA (upd HA p o3) := Sam.box (Sam.refl _ _); clear B3; revert ZB SB; generalize upd HA p o3 = HB; intro ZB SB
    have fB : Fc p T6 m w xs ts HB := (f8.sam Z8.bx fun b o _ z => sA _ _ (s9 _ _ z)).sam (Z9.bx.up sA) SB
    have nU := nb Z8 hU
    have nl2 := nb Z9 hl2
    obtain ⟨y, hy, kk, a, rfl, na, sqa⟩ := atI_all (xs := [V.ref T6, .ref U]) (P := fun y => ∃ (k : Bool) (a : Addr), y = .ref a ∧ a ≠ p ∧ Sq k HB a xs) (fun y hy => by
      simp only [List.mem_cons, List.not_mem_nil, or_false] at hy
      rcases hy with rfl | rfl
      · exact ⟨false, _, rfl, nT, fB.eT⟩
      · exact ⟨true, _, rfl, nU, SB _ _ nU (sA _ _ eU)⟩) ge3 lt3
    refine ⟨l2, _, _, .ref a, rfl, rfl, SqL.of (SB _ _ nl2 eL), hy, ?_⟩
    have S0 : Sam p H HB := ZB.ss
    have Zb : Bx HB p 710 HB := ⟨Sam.refl _ _, ZB.bx.mono (by omega), ZB.sy⟩
    clear hy eL eU f8 ZB ZA Z9 Z8 Z7 Z6 SB sA s9 s8 s7 nl2 nU hl2 hU kw km
    have fc : ∀ {G : Hp} {k : Int}, Bx HB p k G → Fc p T6 m w xs ts G := fun Z => fB.sam Zb.bx Z.ss
    have vc : ∀ {G : Hp} {k : Int}, Bx HB p k G → Sq kk G a xs := fun Z => sqa.sam na Z.ss
    -- kept
    refine ⟨_, rfl, _, rfl, _, rfl, (by show (3 : Nat) ≤ sizeLine; decide), fun R0 hR0 => ?_⟩
    have sC : Same HB (upd HB R0 (.lst [.ref a, .ref m, .ref w])) := same_new (Same.refl _) hR0; have eC : upd HB R0 (.lst [.ref a, .ref m, .ref w]) R0 = some (.lst [.ref a, .ref m, .ref w]) := upd_same; revert sC eC; generalize upd HB R0 (.lst [.ref a, .ref m, .ref w]) = HC; intro sC eC
    have ZC := Zb.same sC
    have r0 := repF ZC.sy (kept_sh (fc ZC) (vc ZC) tk lt14 eC)
    refine ⟨_, _, rfl, r0.1, r0.2.1, r0.2.2.1, r0.2.2.2.1, r0.2.2.2.2, ?_⟩
    -- told
    refine ⟨_, rfl, .ref a, true, rfl, (good_val (fc ZC) (vc ZC) tk hp lt14).tv, fun HD sD => ⟨_, _, rfl, rfl, _, rfl, ?_⟩⟩
    have ZD := ZC.same sD
    refine iteF ⟨_, rfl, _, rfl, _, rfl, .ref a, m, w, ts, rfl, good_val (fc ZD) (vc ZD) tk hp lt14, (fc ZD).em, (fc ZD).ew, fun HE sE => ⟨_, rfl, iteF ?_⟩⟩
    have ZE := ZD.same sE
    clear sE sD
    -- the same words turned
    refine ⟨_, rfl, T6, rfl, ⟨_, SqL.of (fc ZE).eT⟩, fun D hD => ?_⟩
    have nD := nb ZE hD
    have hDB : HB D = none := samNone ZE.ss nD hD
    refine lc_it (walk_list (xs := xs)) (fun i H' => ∃ ys us, Bx HB p (710 + i) H' ∧ H' D = some (.lst ys) ∧ TxL H' ys us ∧ Paired RelO (ts.take i) us) ⟨[], [], ⟨ZE.ss.old hDB, (ZE.bx.off nD).mono (by omega), (ZE.sy.up (same_new (Same.refl _) hD))⟩, upd_same, .nil, .nil⟩ (fun i H' _ h => ?_) (fun i x H1 H2 hi hP hY => ?_) (fun H1 hP => ?_)
    · obtain ⟨_, _, Z, _⟩ := h
      exact SqL.of (fc Z).eT
    · obtain ⟨ys, us, Z1, eD, txu, pr⟩ := hP
      obtain ⟨rfl, hx⟩ := hY
      obtain ⟨t, ht, c, rfl, ec⟩ := (fc Z1).tx.get hx
      have tkt := tk t (List.mem_of_getElem? ht)
      have lw := wordS_len (tok_parts tkt).2
      refine ⟨c, _, rfl, SqT.of ec, rfl, _, _, rfl, _, _, rfl, rfl, rfl, _, rfl, p, 3, _, rfl, by omega, by decide, by omega, Z1.bx, fun d4 o4 ge4 lt4 B4 => ?_⟩
      have nDp := nD
      have eT1 : TxL H2 ys us := txu
      have S34 : Sam p H2 (upd H2 p o4) := Sam.box (Sam.refl _ _)
      have txu3 : TxL (upd H2 p o4) ys us := by
        obtain ⟨_, _, _, e, _⟩ := Z1.bx
        exact txu.sam S34 e
      have Z3 := Z1.take B4
      have eD3 := S34 _ _ nD eD
      clear S34 B4 eT1 txu eD
      revert Z3 eD3 txu3
      generalize upd H2 p o4 = H3
      intro txu3 Z3 eD3
      refine ⟨_, _, rfl, rfl, _, rfl, ite2 (fun e => ?a) (fun e => ?b)⟩
      case' a =>
        refine ⟨_, rfl, ?_⟩
        obtain ⟨mk, emk, rmk⟩ : ∃ mk, mk = t.1 ∧ (mk = t.1 ∨ mk = Str.ofString "#1") := ⟨_, rfl, .inl rfl⟩
        rw [← emk]
      case' b =>
        obtain ⟨mk, emk, rmk⟩ : ∃ mk, mk = Str.ofString "#1" ∧ (mk = t.1 ∨ mk = Str.ofString "#1") := ⟨_, rfl, .inr rfl⟩
        rw [← emk]
      all_goals
        refine ⟨_, rfl, _, rfl, _, rfl, rfl, t.2, rfl, szl (by omega), (by show (2 : Nat) ≤ sizeLine; decide), fun tt kt => ?_⟩
        have s4 : Same H3 (upd H3 tt (.tup [.str mk, .str (revS t.2)])) := same_new (Same.refl _) kt; have e4 : upd H3 tt (.tup [.str mk, .str (revS t.2)]) tt = some (.tup [.str mk, .str (revS t.2)]) := upd_same; revert s4 e4; generalize upd H3 tt (.tup [.str mk, .str (revS t.2)]) = H4; intro s4 e4
        have Z4 := Z3.same s4
        have eD4 := s4 _ _ eD3
        have tx4 : TxL H4 (ys ++ [.ref tt]) (us ++ [(mk, revS t.2)]) := (txu3.up s4).append (TxL.one ⟨tt, rfl, e4⟩)
        have ly := txu3.length
        have lp := Paired.length pr
        rw [List.length_take] at lp
        have pr2 : Paired RelO (ts.take (i + 1)) (us ++ [(mk, revS t.2)]) := by
          rw [List.take_add_one, ht]
          exact paired_snoc pr ⟨rfl, rmk⟩
        exact ⟨ys, eD4, sz (by omega), _, _, (Z4.late2 hDB nD eD4).mono (by omega), upd_same, tx4.sam (Sam.box (Sam.refl _ _)) eD4, pr2⟩
    obtain ⟨ys, us, Z1, eD, txu, pr⟩ := hP
    rw [List.take_of_length_le (by omega)] at pr
    have tku := relO_all pr tk
    have leq := relO_len pr
    have hpu := relO_head pr hp
    have luu := relO_lens pr
    have ly := txu.length
    replace Z1 := Z1.mono (m := 730) (by omega)
    clear pr
    have gu : ∀ {G : Hp}, Sam p H1 G → GoodT G (.ref D) us := fun {G} S => ⟨D, ys, rfl, .inl (S _ _ nD eD), (by
      obtain ⟨_, _, _, e, _⟩ := Z1.bx
      exact txu.sam S e), tku, hpu, by omega⟩
    -- where they are unlike
    refine ⟨_, rfl, _, _, rfl, .inl ⟨_, SqL.of (fc Z1).eT, rfl⟩, _, rfl, by omega, by omega, fun D2 hD2 => ?_⟩
    refine lc_it walk_range (fun i H' => Same H1 H' ∧ H' D2 = some (.lst (((List.range i).filter fun i => !decide (ts[i]?.map (·.1) = us[i]?.map (·.1))).map fun i : Nat => V.int (i : Int)))) ⟨same_new (Same.refl _) hD2, upd_same⟩ (fun _ _ _ _ => trivial) (fun i x H3 H4 hi hP hY => ?_) (fun H3 hP => ?_)
    · obtain ⟨rfl, rfl⟩ := hY
      obtain ⟨s3, eD3⟩ := hP
      have hi1 : i < ts.length := by omega
      have hi2 : i < us.length := by omega
      obtain ⟨t, ht, a1, e1, e1H⟩ := (fc Z1).tx.get (List.getElem?_eq_getElem (show i < xs.length by omega))
      obtain ⟨u, hu, b1, e2, e2H⟩ := txu.get (List.getElem?_eq_getElem (show i < ys.length by omega))
      have i1 : atI xs (0 + (i : Int)) = some (.ref a1) := by
        rw [Int.zero_add, ← e1]
        exact atI_nat (List.getElem?_eq_getElem (show i < xs.length by omega))
      have i2 : atI ys (0 + (i : Int)) = some (.ref b1) := by
        rw [Int.zero_add, ← e2]
        exact atI_nat (List.getElem?_eq_getElem (show i < ys.length by omega))
      have st := unlI_step ts us i
      rw [ht, hu] at st
      refine ⟨rfl, _, rfl, _, rfl, T6, xs, _, _, rfl, rfl, SqL.of (s3 _ _ (fc Z1).eT), i1, a1, _, _, _, rfl, rfl, SqT.of (s3 _ _ e1H), atI_nat (j := 0) rfl, _, rfl, _, rfl, D, ys, _, _, rfl, rfl, SqL.of (s3 _ _ eD), i2, b1, _, _, _, rfl, rfl, SqT.of (s3 _ _ e2H), atI_nat (j := 0) rfl, rfl, _, rfl, ?_⟩
      by_cases c : t.1 = u.1
      · rw [if_pos (show (some t).map (·.1) = (some u).map (·.1) from congrArg some c), List.append_nil] at st
        rw [decide_eq_true (show V.str t.1 = V.str u.1 from congrArg V.str c)]
        refine iteF ⟨s3, ?_⟩
        rw [st]
        exact eD3
      · rw [if_neg (show ¬ (some t).map (·.1) = (some u).map (·.1) from fun e => c (Option.some.inj e))] at st
        rw [decide_eq_false (show ¬ V.str t.1 = V.str u.1 from fun e => c (V.str.inj e))]
        refine iteT ⟨_, rfl, _, eD3, ?_, same_old s3 hD2, ?_⟩
        · rw [List.length_map]
          have := List.length_filter_le (fun i => !decide (ts[i]?.map (·.1) = us[i]?.map (·.1))) (List.range i)
          rw [List.length_range] at this
          exact sz (by omega)
        · rw [upd_same, st, List.map_append]
          show some (HO.lst (_ ++ [V.int (0 + (i : Int))])) = some (HO.lst (_ ++ [V.int (i : Int)]))
          rw [Int.zero_add]
    obtain ⟨s3, eDu⟩ := hP
    replace eDu : H3 D2 = some (.lst (unlV ts us)) := by
      rw [eDu]
      unfold unlV unlI
      rw [show ((xs.length : Int)).toNat = ts.length from by omega]
    have Z3 := Z1.same s3
    have eD3 := s3 _ _ eD
    have txu3 := txu.up s3
    have shd := shaped_ints (unlZ ts us)
    have gm : ∀ {G : Hp}, Sam p H3 G → GoodT G (.ref D) us := fun S => gu fun b o hb z => S b o hb (s3 _ _ z)
    refine ⟨_, rfl, _, rfl, D, ys, rfl, .inl ⟨SqL.of eD3, fun U2 kU2 => ?_⟩⟩
    have s4 : Same H3 (upd H3 U2 (.tup ys)) := same_new (Same.refl _) kU2; have eU2 : upd H3 U2 (.tup ys) U2 = some (.tup ys) := upd_same; revert s4 eU2; generalize upd H3 U2 (.tup ys) = H4; intro s4 eU2
    have Z4 := Z3.same s4
    have gU : GoodT H4 (.ref U2) us := ⟨U2, ys, rfl, .inr eU2, txu3.up s4, tku, hpu, by omega⟩
    refine ⟨.ref a, .ref U2, rfl, .inr ⟨ts, good_val (fc Z4) (vc Z4) tk hp lt14, .inr ⟨us, gU, .inr ⟨leq, fun D4 H5 s5 hD4 e4 => ?_⟩⟩⟩⟩
    have s35 := s4.trans s5
    refine ⟨_, rfl, _, _, .lst (SqL.of (by rw [e4, unlV_eq])) (dp_ints _), .lst (SqL.of (by rw [s35 _ _ eDu, unlV_eq])) (dp_ints _), shd, shd, _, rfl, ?_⟩
    rw [eqv_same shd]
    refine iteF ?_
    have Z5 := Z4.same s5
    refine ⟨_, rfl, _, rfl, .ref D, .ref a, rfl, .inr ⟨us, gm fun b o _ z => s35 b o z, .inr ⟨ts, good_val (fc Z5) (vc Z5) tk hp lt14, .inr ⟨leq.symm, fun D6 H7 s7 hD6 e6 => ?_⟩⟩⟩⟩
    have s37 := s35.trans s7
    refine ⟨_, rfl, _, _, .lst (SqL.of (xs := (unlZ ts us).map V.int) (by rw [e6, ← unlV_eq]; unfold unlV; rw [unl_comm luu])) (dp_ints _), .lst (SqL.of (by rw [s37 _ _ eDu, unlV_eq])) (dp_ints _), shd, shd, _, rfl, ?_⟩
    rw [eqv_same shd]
    refine iteF ?_
    have Z7 := Z5.same s7
    clear e6 e4 gU eU2 s37 s35 s7 s5 s4 Z5 Z4 gm gu
    -- texts of other lengths
    refine ⟨_, rfl, _, _, rfl, .inl ⟨_, SqL.of (fc Z7).eT, rfl⟩, _, _, rfl, rfl, _, rfl, ?_⟩
    refine' with_tail (T := _) ?tail (fun t => ?main)
    case' main =>
      refine ite2 (fun e0 => ?_) (fun e0 => ?_)
      · have hpos : 0 < xs.length := by
          have := of_decide_eq_true e0
          omega
        have f7 := fc Z7
        obtain ⟨l0, hl0⟩ : ∃ l0, xs[xs.length - 1]? = some l0 := ⟨_, List.getElem?_eq_getElem (show xs.length - 1 < xs.length by omega)⟩
        obtain ⟨t0, ht0, c0, rfl, ec0⟩ := f7.tx.get hl0
        rw [lx] at ht0
        have al : atI xs (-1) = some (.ref c0) := atI_gl (by rw [List.getLast?_eq_getElem?]; exact hl0)
        have tkt := tk t0 (List.mem_of_getElem? ht0)
        have lw0 := wordS_len (tok_parts tkt).2
        have txc : ∀ {G : Hp}, Fc p T6 m w xs ts G → TxL G (cutV xs none (some (-1))) (ts.take (ts.length - 1)) := fun f => by
          have h := f.tx.cut none (some (-1))
          rw [cutT_last] at h
          exact h
        have lcut := (txc f7).length
        rw [List.length_take] at lcut
        -- one letter more
        refine ⟨_, rfl, _, rfl, _, rfl, T6, xs, rfl, SqL.of f7.eT, fun A1 k1 => ?_⟩
        have s8 : Same H7 (upd H7 A1 (.lst (cutV xs none (some (-1))))) := same_new (Same.refl _) k1; have e8 : upd H7 A1 (.lst (cutV xs none (some (-1)))) A1 = some (.lst (cutV xs none (some (-1)))) := upd_same; revert s8 e8; generalize upd H7 A1 (.lst (cutV xs none (some (-1)))) = H8; intro s8 e8
        have Z8 := Z7.same s8
        refine ⟨_, rfl, _, rfl, T6, xs, _, .ref c0, rfl, rfl, SqL.of (fc Z8).eT, al, c0, _, _, _, rfl, rfl, SqT.of (s8 _ _ ec0), atI_nat (j := 0) rfl, ?_⟩
        refine ⟨_, rfl, _, rfl, T6, xs, _, .ref c0, rfl, rfl, SqL.of (fc Z8).eT, al, c0, _, _, _, rfl, rfl, SqT.of (s8 _ _ ec0), atI_nat (j := 1) rfl, ?_⟩
        refine ⟨_, _, rfl, rfl, szl (by rw [show (Str.ofString "a").length = 1 from by decide +kernel]; omega), (by show (2 : Nat) ≤ sizeLine; decide), fun A2 k2 => ?_⟩
        have s9 : Same H8 (upd H8 A2 (.tup [.str t0.1, .str (t0.2 ++ Str.ofString "a")])) := same_new (Same.refl _) k2; have e9 : upd H8 A2 (.tup [.str t0.1, .str (t0.2 ++ Str.ofString "a")]) A2 = some (.tup [.str t0.1, .str (t0.2 ++ Str.ofString "a")]) := upd_same; revert s9 e9; generalize upd H8 A2 (.tup [.str t0.1, .str (t0.2 ++ Str.ofString "a")]) = H9; intro s9 e9
        refine ⟨(by show (1 : Nat) ≤ sizeLine; decide), fun A3 k3 => ?_⟩
        have sA : Same H9 (upd H9 A3 (.lst [.ref A2])) := same_new (Same.refl _) k3; have eA : upd H9 A3 (.lst [.ref A2]) A3 = some (.lst [.ref A2]) := upd_same; revert sA eA; generalize upd H9 A3 (.lst [.ref A2]) = HA; intro sA eA
        refine ⟨_, _, _, _, rfl, rfl, sA _ _ (s9 _ _ e8), eA, szl (by rw [List.length_singleton]; omega), fun A4 k4 => ?_⟩
        have sF : Same HA (upd HA A4 (.lst (cutV xs none (some (-1)) ++ [.ref A2]))) := same_new (Same.refl _) k4; have eF : upd HA A4 (.lst (cutV xs none (some (-1)) ++ [.ref A2])) A4 = some (.lst (cutV xs none (some (-1)) ++ [.ref A2])) := upd_same; revert sF eF; generalize upd HA A4 (.lst (cutV xs none (some (-1)) ++ [.ref A2])) = HF; intro sF eF
        have s7F := s8.trans (s9.trans (sA.trans sF))
        have ZF := Z7.same s7F
        have txl : TxL HF (cutV xs none (some (-1)) ++ [.ref A2]) (ts.take (ts.length - 1) ++ [(t0.1, t0.2 ++ Str.ofString "a")]) := (txc (fc ZF)).append (TxL.one ⟨A2, rfl, sF _ _ (sA _ _ e9)⟩)
        clear e8 e9 eA s8 s9 sA sF Z8
        refine sig_set (σ' := [some (V.ref p), some (V.ref T6), some (V.ref m), some (V.ref w), none, some (V.ref a), some (V.str (dKept kk ts).shown), some (V.ref D), none, none, some (V.ref D2), none, some (V.ref A4), none, none, none]) rfl ?_
        refine ⟨_, rfl, _, rfl, T6, xs, _, .ref c0, rfl, rfl, SqL.of (fc ZF).eT, al, c0, _, _, _, rfl, rfl, SqT.of (s7F _ _ ec0), atI_nat (j := 1) rfl, t0.2, rfl, szl (by omega), _, _, rfl, rfl, _, rfl, ?_⟩
        refine' with_tail (T := _) ?tail8 (fun t8 => ?main8)
        case' main8 =>
          by_cases c30 : (t0.2.length : Int) < 30
          · rw [decide_eq_true c30]
            obtain ⟨tkl, hpl, nel⟩ := longer_good ht0 tk hp (by omega)
            have shl : ShD HF (.ref A4) (dTx (ts.take (ts.length - 1) ++ [(t0.1, t0.2 ++ Str.ofString "a")])) := (dd_tx eF txl tkl).sh (by decide) (by rw [List.length_append, List.length_take, List.length_singleton]; omega)
            refine iteT ⟨_, rfl, _, rfl, _, _, _, rfl, .unl3 ((fc ZF).good tk hp (by omega)) ⟨A4, _, rfl, .inl eF, txl, tkl, hpl, by rw [List.length_append, List.length_take, List.length_singleton]; omega⟩ nel fun R HG sG hR eR => ?_⟩
            have ZG := ZF.same sG
            have ra := repT ZG.sy eR (shl.up sG) asc_text len_text
            refine ⟨_, _, rfl, ra.1, ra.2.1, ra.2.2.1, ra.2.2.2.1, ra.2.2.2.2, _, rfl, (by show (2 : Nat) ≤ sizeLine; decide), fun R2 hR2 => ?_⟩
            have sH : Same HG (upd HG R2 (.lst [.str (Str.ofString "text"), .ref A4])) := same_new (Same.refl _) hR2; have eH : upd HG R2 (.lst [.str (Str.ofString "text"), .ref A4]) R2 = some (.lst [.str (Str.ofString "text"), .ref A4]) := upd_same; revert sH eH; generalize upd HG R2 (.lst [.str (Str.ofString "text"), .ref A4]) = HH; intro sH eH
            have ZH := ZG.same sH
            have rb := repT ZH.sy eH (shl.up (sG.trans sH)) asc_text len_text
            refine ⟨_, _, rfl, rb.1, rb.2.1, rb.2.2.1, rb.2.2.2.1, rb.2.2.2.2, rfl, _, rfl, iteNS rfl ?_⟩
            obtain ⟨y12, h12⟩ : ∃ y12, y12 = some (V.ref A4) := ⟨_, rfl⟩
            refine sig_as (σ' := [some (V.ref p), some (V.ref T6), some (V.ref m), some (V.ref w), none, some (V.ref a), some (V.str (dKept kk ts).shown), some (V.ref D), none, none, some (V.ref D2), none, y12, none, none, none]) (by rw [h12]) ?_
            clear h12 rb eH sH
            revert HH ZH y12
            exact t8.down
          · rw [decide_eq_false c30]
            exact iteF (t8.down HF ZF _)
        intro HH ZH y12
        clear txl eF ZF s7F
        -- one token fewer
        have tks : ∀ u ∈ ts.take (ts.length - 1), tokS u = true := fun u hu => tk u (List.mem_of_mem_take hu)
        have shs : ∀ {G : Hp} {b : Addr}, G b = some (.lst (cutV xs none (some (-1)))) → Fc p T6 m w xs ts G → ShD G (.ref b) (dTx (ts.take (ts.length - 1))) := fun e f => (dd_tx e (txc f) tks).sh (by decide) (by rw [List.length_take]; omega)
        refine ⟨_, rfl, _, rfl, _, rfl, _, rfl, T6, xs, rfl, SqL.of (fc ZH).eT, fun A5 k5 => ?_⟩
        have sI : Same HH (upd HH A5 (.lst (cutV xs none (some (-1))))) := same_new (Same.refl _) k5; have eI : upd HH A5 (.lst (cutV xs none (some (-1)))) A5 = some (.lst (cutV xs none (some (-1)))) := upd_same; revert sI eI; generalize upd HH A5 (.lst (cutV xs none (some (-1)))) = HI; intro sI eI
        have ZI := ZH.same sI
        refine ⟨_, _, _, rfl, .unl3 ((fc ZI).good tk hp (by omega)) ⟨A5, _, rfl, .inl eI, txc (fc ZI), tks, headPar_take hp, by rw [List.length_take]; omega⟩ (shorter_lens (by omega)) fun R HJ sJ hR eR => ?_⟩
        have ZJ := ZI.same sJ
        have ra := repT ZJ.sy eR (shs (sJ _ _ eI) (fc ZJ)) asc_text len_text
        refine ⟨_, _, rfl, ra.1, ra.2.1, ra.2.2.1, ra.2.2.2.1, ra.2.2.2.2, _, rfl, _, rfl, _, rfl, T6, xs, rfl, SqL.of (fc ZJ).eT, fun A6 k6 => ?_⟩
        have sK : Same HJ (upd HJ A6 (.lst (cutV xs none (some (-1))))) := same_new (Same.refl _) k6; have eK : upd HJ A6 (.lst (cutV xs none (some (-1)))) A6 = some (.lst (cutV xs none (some (-1)))) := upd_same; revert sK eK; generalize upd HJ A6 (.lst (cutV xs none (some (-1)))) = HK; intro sK eK
        refine ⟨(by show (2 : Nat) ≤ sizeLine; decide), fun R2 hR2 => ?_⟩
        have sL : Same HK (upd HK R2 (.lst [.str (Str.ofString "text"), .ref A6])) := same_new (Same.refl _) hR2; have eL : upd HK R2 (.lst [.str (Str.ofString "text"), .ref A6]) R2 = some (.lst [.str (Str.ofString "text"), .ref A6]) := upd_same; revert sL eL; generalize upd HK R2 (.lst [.str (Str.ofString "text"), .ref A6]) = HL; intro sL eL
        have ZL := (ZJ.same sK).same sL
        have rb := repT ZL.sy eL (shs (sL _ _ eK) (fc ZL)) asc_text len_text
        refine ⟨_, _, rfl, rb.1, rb.2.1, rb.2.2.1, rb.2.2.2.1, rb.2.2.2.2, rfl, _, rfl, iteNS rfl ?_⟩
        clear rb ra eL sL eK sK ZJ eR hR sJ ZI eI sI shs
        -- two words exchanged
        refine ⟨_, rfl, _, rfl, _, _, rfl, .inl ⟨_, SqL.of (fc ZL).eT, rfl⟩, p, _, _, rfl, by omega, Nat.lt_of_le_of_lt (show _ ≤ 20 by omega) (by decide), by omega, ZL.bx, fun d5 o5 ge5 lt5 B5 => ?_⟩
        have ZM := Bx.take ZL B5; have SM : Sam p HL (upd HL p o5) := Sam.box (Sam.refl _ _); clear B5; revert ZM SM; generalize upd HL p o5 = HM; intro ZM SM
        obtain ⟨i, rfl⟩ := Int.eq_ofNat_of_zero_le ge5
        have i2 : ((i : Int) + 2) = ((i + 2 : Nat) : Int) := by omega
        refine ⟨_, rfl, _, rfl, _, rfl, w, _, rfl, SqL.of (fc ZM).ew, fun W1 q1 => ?_⟩
        have sN : Same HM (upd HM W1 (.lst (cutV (wordsV ts) none (some (i : Int))))) := same_new (Same.refl _) q1; have e1 : upd HM W1 (.lst (cutV (wordsV ts) none (some (i : Int)))) W1 = some (.lst (cutV (wordsV ts) none (some (i : Int)))) := upd_same; revert sN e1; generalize upd HM W1 (.lst (cutV (wordsV ts) none (some (i : Int)))) = HN; intro sN e1
        have ZN := ZM.same sN
        refine ⟨_, rfl, _, rfl, _, rfl, _, rfl, _, _, rfl, rfl, _, rfl, w, _, rfl, SqL.of (fc ZN).ew, fun W2 q2 => ?_⟩
        have sP : Same HN (upd HN W2 (.lst (cutV (wordsV ts) (some (i : Int)) (some ((i : Int) + 2))))) := same_new (Same.refl _) q2; have e2 : upd HN W2 (.lst (cutV (wordsV ts) (some (i : Int)) (some ((i : Int) + 2)))) W2 = some (.lst (cutV (wordsV ts) (some (i : Int)) (some ((i : Int) + 2)))) := upd_same; revert sP e2; generalize upd HN W2 (.lst (cutV (wordsV ts) (some (i : Int)) (some ((i : Int) + 2)))) = HP; intro sP e2
        have ZP := ZN.same sP
        refine ⟨_, rfl, _, rfl, rfl, W2, _, rfl, SqL.of e2, fun W3 q3 => ?_⟩
        have sQ : Same HP (upd HP W3 (.lst (cutV (wordsV ts) (some (i : Int)) (some ((i : Int) + 2))).reverse)) := same_new (Same.refl _) q3; have e3 : upd HP W3 (.lst (cutV (wordsV ts) (some (i : Int)) (some ((i : Int) + 2))).reverse) W3 = some (.lst (cutV (wordsV ts) (some (i : Int)) (some ((i : Int) + 2))).reverse) := upd_same; revert sQ e3; generalize upd HP W3 (.lst (cutV (wordsV ts) (some (i : Int)) (some ((i : Int) + 2))).reverse) = HQ; intro sQ e3
        have ZQ := ZP.same sQ
        have lens : ∀ lo hi, (cutV (wordsV ts) lo hi).length ≤ 14 := fun lo hi => by
          rw [wordsV_eq, cutV_map, List.length_map]
          exact Nat.le_trans (cutR_len _ _ _) (by rw [List.length_map]; omega)
        have g1 := lens none (some (i : Int))
        have g2 := lens (some (i : Int)) (some ((i : Int) + 2))
        have g3 := lens (some ((i : Int) + 2)) none
        refine ⟨_, _, _, _, rfl, rfl, (sP.trans sQ) _ _ e1, e3, szl (by rw [List.length_reverse]; omega), fun W4 q4 => ?_⟩
        have sR : Same HQ (upd HQ W4 (.lst (cutV (wordsV ts) none (some (i : Int)) ++ (cutV (wordsV ts) (some (i : Int)) (some ((i : Int) + 2))).reverse))) := same_new (Same.refl _) q4; have e4 : upd HQ W4 (.lst (cutV (wordsV ts) none (some (i : Int)) ++ (cutV (wordsV ts) (some (i : Int)) (some ((i : Int) + 2))).reverse)) W4 = some (.lst (cutV (wordsV ts) none (some (i : Int)) ++ (cutV (wordsV ts) (some (i : Int)) (some ((i : Int) + 2))).reverse)) := upd_same; revert sR e4; generalize upd HQ W4 (.lst (cutV (wordsV ts) none (some (i : Int)) ++ (cutV (wordsV ts) (some (i : Int)) (some ((i : Int) + 2))).reverse)) = HR; intro sR e4
        have ZR := ZQ.same sR
        refine ⟨_, rfl, _, rfl, _, _, rfl, rfl, _, rfl, w, _, rfl, SqL.of (fc ZR).ew, fun W5 q5 => ?_⟩
        have sS : Same HR (upd HR W5 (.lst (cutV (wordsV ts) (some ((i : Int) + 2)) none))) := same_new (Same.refl _) q5; have e5 : upd HR W5 (.lst (cutV (wordsV ts) (some ((i : Int) + 2)) none)) W5 = some (.lst (cutV (wordsV ts) (some ((i : Int) + 2)) none)) := upd_same; revert sS e5; generalize upd HR W5 (.lst (cutV (wordsV ts) (some ((i : Int) + 2)) none)) = HS; intro sS e5
        have ZS := ZR.same sS
        refine ⟨_, _, _, _, rfl, rfl, sS _ _ e4, e5, szl (by rw [List.length_append, List.length_reverse]; omega), fun W6 q6 => ?_⟩
        have sT : Same HS (upd HS W6 (.lst (cutV (wordsV ts) none (some (i : Int)) ++ (cutV (wordsV ts) (some (i : Int)) (some ((i : Int) + 2))).reverse ++ cutV (wordsV ts) (some ((i : Int) + 2)) none))) := same_new (Same.refl _) q6; have e6 : upd HS W6 (.lst (cutV (wordsV ts) none (some (i : Int)) ++ (cutV (wordsV ts) (some (i : Int)) (some ((i : Int) + 2))).reverse ++ cutV (wordsV ts) (some ((i : Int) + 2)) none)) W6 = some (.lst (cutV (wordsV ts) none (some (i : Int)) ++ (cutV (wordsV ts) (some (i : Int)) (some ((i : Int) + 2))).reverse ++ cutV (wordsV ts) (some ((i : Int) + 2)) none)) := upd_same; revert sT e6; generalize upd HS W6 (.lst (cutV (wordsV ts) none (some (i : Int)) ++ (cutV (wordsV ts) (some (i : Int)) (some ((i : Int) + 2))).reverse ++ cutV (wordsV ts) (some ((i : Int) + 2)) none)) = HT; intro sT e6
        have ZT := ZS.same sT
        replace e6 : HT W6 = some (.lst ((turnW (ts.map (·.2)) i).map V.str)) := by
          rw [e6, wordsV_eq, cutV_map, cutV_map, cutV_map, i2]
          unfold turnW
          simp only [List.map_append, List.map_reverse]
        have twl : (turnW (ts.map (·.2)) i).length = ts.length := by
          rw [turnW_len (by rw [List.length_map]; omega), List.length_map]
        have tww : ∀ z ∈ turnW (ts.map (·.2)) i, wordS z = true := fun z hz => words_of tk z (turnW_mem hz)
        clear e5 e4 e3 e2 e1 ZS ZR ZQ ZP ZN sT sS sR sQ sP sN g1 g2 g3 lens ZM SM
        refine ⟨_, rfl, _, rfl, m, W6, _, _, rfl, (fc ZT).em, e6, by simp [marksV, twl], szl (by simp [marksV]; omega), fun HU D9 as sU hD9 eD9 las has => ?_⟩
        have ZU := ZT.same sU
        rw [marksV_eq] at has
        have txz : TxL HU (as.map V.ref) ((ts.map (·.1)).zip (turnW (ts.map (·.2)) i)) := txl_zip (by rw [las]; simp [marksV]) (by rw [twl, List.length_map]) has
        obtain ⟨tkz, hpz, lnz⟩ := swap_text tk hp twl tww
        have lzz : ((ts.map (·.1)).zip (turnW (ts.map (·.2)) i)).length = ts.length := by rw [List.length_zip, twl, List.length_map, Nat.min_self]
        replace e6 := sU _ _ e6
        clear has las sU ZT
        revert tww twl e6 txz tkz hpz lnz lzz
        generalize turnW (ts.map (·.2)) i = tw
        intro twl tww txz tkz hpz lnz lzz e6
        refine ⟨_, rfl, W6, rfl, ⟨_, SqL.of e6⟩, fun C1 hC1 => ?_⟩
        refine lc_vals (walk_list (xs := tw.map V.str)) (tw.map fun z => V.int (z.length : Int)) (by simp) (sz (by rw [List.length_map]; omega)) hC1 (fun H' s' => SqL.of (s' _ _ e6)) (fun j x y H' Q2 Pe hj hy s' k => ?_) (fun HV sV eV => ?_)
        · rw [List.getElem?_map] at hj hy
          cases hz : tw[j]? with
          | none =>
            rw [hz] at hj
            cases hj
          | some z =>
            rw [hz] at hj hy
            have ex := Option.some.inj hj
            have ey := Option.some.inj hy
            subst ex ey
            have lw := wordS_len (tww z (List.mem_of_getElem? hz))
            exact ⟨rfl, _, rfl, z, rfl, szl (by omega), k _ (Same.refl _)⟩
        have ZV := ZU.same sV
        refine ⟨_, rfl, w, rfl, ⟨_, SqL.of (fc ZV).ew⟩, fun C2 hC2 => ?_⟩
        refine lc_vals (walk_list (xs := wordsV ts)) (lensV ts) (by simp [wordsV, lensV]) (sz (by simp [wordsV]; omega)) hC2 (fun H' s' => SqL.of (s' _ _ (fc ZV).ew)) (fun j x y H' Q2 Pe hj hy s' k => ?_) (fun HW sW eW => ?_)
        · unfold wordsV at hj
          unfold lensV at hy
          rw [List.getElem?_map] at hj hy
          cases hz : ts[j]? with
          | none =>
            rw [hz] at hj
            cases hj
          | some z =>
            rw [hz] at hj hy
            have ex := Option.some.inj hj
            have ey := Option.some.inj hy
            subst ex ey
            have lw := wordS_len (tok_parts (tk z (List.mem_of_getElem? hz))).2
            exact ⟨rfl, _, rfl, z.2, rfl, szl (by omega), k _ (Same.refl _)⟩
        have ZW := ZV.same sW
        have twI : (tw.map fun z => V.int (z.length : Int)) = (tw.map fun z => (z.length : Int)).map V.int := by rw [List.map_map]; rfl
        refine ⟨_, _, .lst (SqL.of (by rw [sW _ _ eV, twI])) (dp_ints _), .lst (SqL.of (by rw [eW, lensV_eq])) (dp_ints _), shaped_ints _, shaped_ints _, _, rfl, ?_⟩
        rw [eqv_ints]
        have eU9 := sW _ _ (sV _ _ eD9)
        have txw := (txz.up sV).up sW
        clear eV eW sW sV ZV ZU txz eD9 e6
        by_cases ce : (tw.map fun z => (z.length : Int)) = lensI ts
        · rw [decide_eq_true ce, Bool.not_true]
          refine iteF ?_
          obtain ⟨z12, h12⟩ : ∃ z12, z12 = y12 := ⟨_, rfl⟩
          obtain ⟨z13, h13⟩ : ∃ z13, z13 = some (V.int (i : Int)) := ⟨_, rfl⟩
          obtain ⟨z14, h14⟩ : ∃ z14, z14 = some (V.ref W6) := ⟨_, rfl⟩
          obtain ⟨z15, h15⟩ : ∃ z15, z15 = some (V.ref D9) := ⟨_, rfl⟩
          refine sig_as (σ' := [some (V.ref p), some (V.ref T6), some (V.ref m), some (V.ref w), none, some (V.ref a), some (V.str (dKept kk ts).shown), some (V.ref D), none, none, some (V.ref D2), none, z12, z13, z14, z15]) (by rw [h12, h13, h14, h15]; rfl) ?_
          clear h12 h13 h14 h15 eU9 txw
          replace ZW := ZW.mono (m := 760) (by omega)
          revert HW ZW z12 z13 z14 z15
          exact t.down
        · rw [decide_eq_false ce, Bool.not_false]
          have ne : lensV ts ≠ lensV ((ts.map (·.1)).zip tw) := fun e => ce (by
            rw [lnz, twI, lensV_eq] at e
            have : ∀ l k : List Int, l.map V.int = k.map V.int → l = k := by
              intro l
              induction l with
              | nil =>
                intro k h
                cases k with
                | nil => rfl
                | cons => cases h
              | cons x l ih =>
                intro k h
                cases k with
                | nil => cases h
                | cons y k =>
                  simp only [List.map_cons, List.cons.injEq, V.int.injEq] at h
                  rw [h.1, ih k h.2]
            exact (this _ _ e).symm)
          have shz : ShD HW (.ref D9) (dTx ((ts.map (·.1)).zip tw)) := (dd_tx eU9 txw tkz).sh (by decide) (by omega)
          refine iteT ⟨_, rfl, _, rfl, _, _, _, rfl, .unl3 ((fc ZW).good tk hp (by omega)) ⟨D9, _, rfl, .inl eU9, txw, tkz, hpz, by omega⟩ ne fun R HX sX hR eR => ?_⟩
          have ZX := ZW.same sX
          have ra := repT ZX.sy eR (shz.up sX) asc_text len_text
          refine ⟨_, _, rfl, ra.1, ra.2.1, ra.2.2.1, ra.2.2.2.1, ra.2.2.2.2, _, rfl, (by show (2 : Nat) ≤ sizeLine; decide), fun R2 hR2 => ?_⟩
          have sY : Same HX (upd HX R2 (.lst [.str (Str.ofString "text"), .ref D9])) := same_new (Same.refl _) hR2; have eY : upd HX R2 (.lst [.str (Str.ofString "text"), .ref D9]) R2 = some (.lst [.str (Str.ofString "text"), .ref D9]) := upd_same; revert sY eY; generalize upd HX R2 (.lst [.str (Str.ofString "text"), .ref D9]) = HY; intro sY eY
          have ZY := ZX.same sY
          have rb := repT ZY.sy eY (shz.up (sX.trans sY)) asc_text len_text
          refine ⟨_, _, rfl, rb.1, rb.2.1, rb.2.2.1, rb.2.2.2.1, rb.2.2.2.2, rfl, _, rfl, iteNS rfl ?_⟩
          exact t.down HY _ _ _ _ (ZY.mono (by omega))
      · exact t.down H7 _ _ _ _ (Z7.mono (by omega))
    intro HY y12 y13 y14 y15 ZY
    clear Z7 txu3 eD3 Z3 eDu s3 eD txu Z1 ZC ZD ZE eC
    -- odd things, and all is kept
    refine ⟨_, rfl, _, rfl, _, rfl, _, rfl, p, T6, m, w, xs, ts, 760, rfl, by omega, ZY.bx, ZY.sy, fc ZY, tk, hp, lt14, fun HZ SZ => ?_⟩
    have sz1 := ZY.sy.sam ZY.bx SZ
    have fz := (fc ZY).sam ZY.bx SZ
    have vz := (vc ZY).sam na SZ
    refine ⟨_, rfl, iteT ⟨_, rfl, _, rfl, _, rfl, (by show (3 : Nat) ≤ sizeLine; decide), fun R9 hR9 => ?_⟩⟩
    have s9 : Same HZ (upd HZ R9 (.lst [.ref a, .ref m, .ref w])) := same_new (Same.refl _) hR9; have e9 : upd HZ R9 (.lst [.ref a, .ref m, .ref w]) R9 = some (.lst [.ref a, .ref m, .ref w]) := upd_same; revert s9 e9; generalize upd HZ R9 (.lst [.ref a, .ref m, .ref w]) = G9; intro s9 e9
    have sz2 := sz1.up s9
    have fz2 : Fc p T6 m w xs ts G9 := ⟨s9 _ _ fz.eT, fz.tx.up s9, s9 _ _ fz.em, s9 _ _ fz.ew, fz.nT, fz.nm, fz.nw⟩
    have r9 := repF sz2 (kept_sh fz2 (vz.up s9) tk lt14 e9)
    refine ⟨_, _, rfl, r9.1, r9.2.1, r9.2.2.1, r9.2.2.2.1, r9.2.2.2.2, _, rfl, rfl, ?_⟩
    rw [decide_eq_true rfl]
    exact q _ (fun b o hb z => s9 _ _ (SZ b o hb (ZY.ss b o hb (S0 b o hb z))))

end
end RV


namespace RV
open PySem PySem.Spec PyProof.Rows L2 TL
section
variable {P : Program} {w : World} {K : PySem.W.Frag} {mg : Str → Option Value} {base : Heap}
theorem ok_law (T : TX P w K mg) : FnG P w K mg base CX0 11 T.a_law T.d_law ["_law_script"] (spLawS K) := by
  refine okG T.F_law sc_law (fun vs H Q E h => ?_) (fun cdv A outer s H vs Q E hgu hr h => ?_)
  · obtain ⟨a, ns, rfl, sy, hS, hlen, q⟩ := h
    rfl
  · obtain ⟨a, ns, rfl, sy, hS, hlen, q⟩ := h
    refine ⟨_, (pss_cons (ps_for PassesOwn.never rfl (pi_range1 (by rfl) T.m_range (pa_cons (pe_callB (call_max2 rfl) (by rfl) T.m_max (by decide +kernel) (pa_cons pe_int (pa_cons (pe_callB (call_min2 rfl) (by rfl) T.m_min (by decide +kernel) (pa_cons pe_int (pa_cons (pe_callB call_len (by rfl) T.m_len (by decide +kernel) (pa_cons (pv 0) pa_nil)) pa_nil))) pa_nil))) pa_nil)) (pg_name (i := 1) sc_law.nd rfl (by first | exact Or.inl rfl | exact Or.inr rfl))
        (pss_one (ps_if (pt_not (pt_val (pe_callG hgu (ok__law_right T) (hr.mono (by decide)) (by rfl) T.g__law_right T.F__law_right.kp T.b__law_right .nil pass0 (pa_cons (pe_call (ok__law_purse T) (hr.mono (by decide)) (by rfl) T.g__law_purse T.F__law_purse.kp T.b__law_purse .nil pass0 (pa_cons (pe_call (ok__law_cell T) (hr.mono (by decide)) (by rfl) T.g__law_cell T.F__law_cell.kp T.b__law_cell .nil pass0 (pa_cons (pv 0) (pa_cons (pv 1) pa_nil))) pa_nil)) pa_nil))))
          (pss_one (ps_ret pe_bl)) pss_nil)))
      (pss_one (ps_ret pe_bl))), ?_⟩
    have hbnd : ∀ L : Int, 0 ≤ L → 1 ≤ (if (if L < 16 then L else 16) > 2 then (if L < 16 then L else 16) else 2) ∧ (if (if L < 16 then L else 16) > 2 then (if L < 16 then L else 16) else 2) ≤ 16 := by
      intro L h
      by_cases c : L < 16
      · rw [if_pos c]
        by_cases c2 : L > 2
        · rw [if_pos c2]
          omega
        · rw [if_neg c2]
          omega
      · rw [if_neg c]
        decide
    have hb2 := hbnd (ns.map V.int).length (by omega)
    refine ⟨.ref a, rfl, _, _, rfl, .inl ⟨_, hS, rfl⟩, _, _, rfl, _, _, rfl, _, rfl, by omega, by omega, ?_⟩
    refine for_range (fun i σ Hx => ∃ y1 : Option V, σ = [some (.ref a), y1] ∧ Same H Hx) ⟨none, rfl, Same.refl H⟩ (fun i σ H1 hi hP => ?_) (fun σ H1 hP => q H1)
    obtain ⟨y1, rfl, S0⟩ := hP
    have hi2 : i ≤ 1000 := by omega
    refine ⟨.ref a, rfl, _, rfl, a, ns, i, by rw [Int.zero_add]; rfl, S0.seq hS, hi2, fun z => ⟨z, rfl, fun p x y hp hx hy hy2 => ?_⟩⟩
    have B0 : BoxAt (upd H1 p (.lst [.int x, .int y, .int 0])) p 0 := ⟨x, y, 0, upd_same, hx, hy, hy2, Int.le_refl 0, Int.le_refl 0⟩
    have S1 : Same H1 (upd H1 p (.lst [.int x, .int y, .int 0])) := same_new (Same.refl H1) hp
    exact ⟨p, rfl, B0, (sy.up S0).up S1, fun H2 m2 => ⟨_, rfl, iteF ⟨_, rfl, S0.trans (same_sam hp S1 m2)⟩⟩⟩

end
theorem all_mk {l : PySem.W.OpenLaw} {w : World} {K : PySem.W.Frag} {h : Heap} {mg : Str → Option Value} {fa f1 f2 f3 f4 f5 f6 f7 f8 f9 f10 f11 f12 f13 f14 f15 f16 f17 f18 f19 f20 f21 f22 f23 f24 f25 f26 f27 f28 f29 f30 f31 : Addr} (X : K.In h) (G : h.Ns mainGlobals mg) (hfa : mg "law" = some (.ref fa))
    {od1 an1 od2 an2 od3 an3 od4 an4 od5 an5 od6 an6 od7 an7 od8 an8 od9 an9 od10 an10 od11 an11 od12 an12 od13 an13 od14 an14 od15 an15 od16 an16 od17 an17 od18 an18 od19 an19 od20 an20 od21 an21 od22 an22 od23 an23 od24 an24 od25 an25 od26 an26 od27 an27 od28 an28 od29 an29 od30 an30 od31 an31 : Option Addr} {sl1 sl2 sl3 sl4 sl5 sl6 sl7 sl8 sl9 sl10 sl11 sl12 sl13 sl14 sl15 sl16 sl17 sl18 sl19 sl20 sl21 sl22 sl23 sl24 sl25 sl26 sl27 sl28 sl29 sl30 sl31 : Array (Option Value)} {oc1 kV1 dc1 pm1 cd1 ct1 oc2 kV2 dc2 pm2 cd2 ct2 oc3 kV3 dc3 pm3 cd3 ct3 oc4 kV4 dc4 pm4 cd4 ct4 oc5 kV5 dc5 pm5 cd5 ct5 oc6 kV6 dc6 pm6 cd6 ct6 oc7 kV7 dc7 pm7 cd7 ct7 oc8 kV8 dc8 pm8 cd8 ct8 oc9 kV9 dc9 pm9 cd9 ct9 oc10 kV10 dc10 pm10 cd10 ct10 oc11 kV11 dc11 pm11 cd11 ct11 oc12 kV12 dc12 pm12 cd12 ct12 oc13 kV13 dc13 pm13 cd13 ct13 oc14 kV14 dc14 pm14 cd14 ct14 oc15 kV15 dc15 pm15 cd15 ct15 oc16 kV16 dc16 pm16 cd16 ct16 oc17 kV17 dc17 pm17 cd17 ct17 oc18 kV18 dc18 pm18 cd18 ct18 oc19 kV19 dc19 pm19 cd19 ct19 oc20 kV20 dc20 pm20 cd20 ct20 oc21 kV21 dc21 pm21 cd21 ct21 oc22 kV22 dc22 pm22 cd22 ct22 oc23 kV23 dc23 pm23 cd23 ct23 oc24 kV24 dc24 pm24 cd24 ct24 oc25 kV25 dc25 pm25 cd25 ct25 oc26 kV26 dc26 pm26 cd26 ct26 oc27 kV27 dc27 pm27 cd27 ct27 oc28 kV28 dc28 pm28 cd28 ct28 oc29 kV29 dc29 pm29 cd29 ct29 oc30 kV30 dc30 pm30 cd30 ct30 oc31 kV31 dc31 pm31 cd31 ct31 : Value}
    (a1 : PySem.W.nsIn K mainGlobals "is_word" = some (some (.ref f1))) (l1 : K.lookup f1 = some ⟨oc1, od1, .func (PySem.W.fnOf "is_word" "is_word" (defArgs s_is_word) (defBody s_is_word) (defScope s_is_word) .none kV1 dc1 pm1 an1 cd1 ct1), sl1⟩) (c1 : PySem.W.codeIn K cd1 "is_word" = true) (k1 : PySem.W.keepIn K (.ref f1) = true)
    (a2 : PySem.W.nsIn K mainGlobals "is_mark" = some (some (.ref f2))) (l2 : K.lookup f2 = some ⟨oc2, od2, .func (PySem.W.fnOf "is_mark" "is_mark" (defArgs s_is_mark) (defBody s_is_mark) (defScope s_is_mark) .none kV2 dc2 pm2 an2 cd2 ct2), sl2⟩) (c2 : PySem.W.codeIn K cd2 "is_mark" = true) (k2 : PySem.W.keepIn K (.ref f2) = true)
    (a3 : PySem.W.nsIn K mainGlobals "is_token" = some (some (.ref f3))) (l3 : K.lookup f3 = some ⟨oc3, od3, .func (PySem.W.fnOf "is_token" "is_token" (defArgs s_is_token) (defBody s_is_token) (defScope s_is_token) .none kV3 dc3 pm3 an3 cd3 ct3), sl3⟩) (c3 : PySem.W.codeIn K cd3 "is_token" = true) (k3 : PySem.W.keepIn K (.ref f3) = true)
    (a4 : PySem.W.nsIn K mainGlobals "kind_of" = some (some (.ref f4))) (l4 : K.lookup f4 = some ⟨oc4, od4, .func (PySem.W.fnOf "kind_of" "kind_of" (defArgs s_kind_of) (defBody s_kind_of) (defScope s_kind_of) .none kV4 dc4 pm4 an4 cd4 ct4), sl4⟩) (c4 : PySem.W.codeIn K cd4 "kind_of" = true) (k4 : PySem.W.keepIn K (.ref f4) = true)
    (a5 : PySem.W.nsIn K mainGlobals "_has_only" = some (some (.ref f5))) (l5 : K.lookup f5 = some ⟨oc5, od5, .func (PySem.W.fnOf "_has_only" "_has_only" (defArgs s__has_only) (defBody s__has_only) (defScope s__has_only) .none kV5 dc5 pm5 an5 cd5 ct5), sl5⟩) (c5 : PySem.W.codeIn K cd5 "_has_only" = true) (k5 : PySem.W.keepIn K (.ref f5) = true)
    (a6 : PySem.W.nsIn K mainGlobals "is_text" = some (some (.ref f6))) (l6 : K.lookup f6 = some ⟨oc6, od6, .func (PySem.W.fnOf "is_text" "is_text" (defArgs s_is_text) (defBody s_is_text) (defScope s_is_text) .none kV6 dc6 pm6 an6 cd6 ct6), sl6⟩) (c6 : PySem.W.codeIn K cd6 "is_text" = true) (k6 : PySem.W.keepIn K (.ref f6) = true)
    (a7 : PySem.W.nsIn K mainGlobals "text_of" = some (some (.ref f7))) (l7 : K.lookup f7 = some ⟨oc7, od7, .func (PySem.W.fnOf "text_of" "text_of" (defArgs s_text_of) (defBody s_text_of) (defScope s_text_of) .none kV7 dc7 pm7 an7 cd7 ct7), sl7⟩) (c7 : PySem.W.codeIn K cd7 "text_of" = true) (k7 : PySem.W.keepIn K (.ref f7) = true)
    (a8 : PySem.W.nsIn K mainGlobals "marks_of" = some (some (.ref f8))) (l8 : K.lookup f8 = some ⟨oc8, od8, .func (PySem.W.fnOf "marks_of" "marks_of" (defArgs s_marks_of) (defBody s_marks_of) (defScope s_marks_of) .none kV8 dc8 pm8 an8 cd8 ct8), sl8⟩) (c8 : PySem.W.codeIn K cd8 "marks_of" = true) (k8 : PySem.W.keepIn K (.ref f8) = true)
    (a9 : PySem.W.nsIn K mainGlobals "lengths_of" = some (some (.ref f9))) (l9 : K.lookup f9 = some ⟨oc9, od9, .func (PySem.W.fnOf "lengths_of" "lengths_of" (defArgs s_lengths_of) (defBody s_lengths_of) (defScope s_lengths_of) .none kV9 dc9 pm9 an9 cd9 ct9), sl9⟩) (c9 : PySem.W.codeIn K cd9 "lengths_of" = true) (k9 : PySem.W.keepIn K (.ref f9) = true)
    (a10 : PySem.W.nsIn K mainGlobals "unlike_marks" = some (some (.ref f10))) (l10 : K.lookup f10 = some ⟨oc10, od10, .func (PySem.W.fnOf "unlike_marks" "unlike_marks" (defArgs s_unlike_marks) (defBody s_unlike_marks) (defScope s_unlike_marks) .none kV10 dc10 pm10 an10 cd10 ct10), sl10⟩) (c10 : PySem.W.codeIn K cd10 "unlike_marks" = true) (k10 : PySem.W.keepIn K (.ref f10) = true)
    (a11 : PySem.W.nsIn K mainGlobals "_check_text" = some (some (.ref f11))) (l11 : K.lookup f11 = some ⟨oc11, od11, .func (PySem.W.fnOf "_check_text" "_check_text" (defArgs s__check_text) (defBody s__check_text) (defScope s__check_text) .none kV11 dc11 pm11 an11 cd11 ct11), sl11⟩) (c11 : PySem.W.codeIn K cd11 "_check_text" = true) (k11 : PySem.W.keepIn K (.ref f11) = true)
    (a12 : PySem.W.nsIn K mainGlobals "_is_mark_row" = some (some (.ref f12))) (l12 : K.lookup f12 = some ⟨oc12, od12, .func (PySem.W.fnOf "_is_mark_row" "_is_mark_row" (defArgs s__is_mark_row) (defBody s__is_mark_row) (defScope s__is_mark_row) .none kV12 dc12 pm12 an12 cd12 ct12), sl12⟩) (c12 : PySem.W.codeIn K cd12 "_is_mark_row" = true) (k12 : PySem.W.keepIn K (.ref f12) = true)
    (a13 : PySem.W.nsIn K mainGlobals "_is_word_row" = some (some (.ref f13))) (l13 : K.lookup f13 = some ⟨oc13, od13, .func (PySem.W.fnOf "_is_word_row" "_is_word_row" (defArgs s__is_word_row) (defBody s__is_word_row) (defScope s__is_word_row) .none kV13 dc13 pm13 an13 cd13 ct13), sl13⟩) (c13 : PySem.W.codeIn K cd13 "_is_word_row" = true) (k13 : PySem.W.keepIn K (.ref f13) = true)
    (a14 : PySem.W.nsIn K mainGlobals "_law_cell" = some (some (.ref f14))) (l14 : K.lookup f14 = some ⟨oc14, od14, .func (PySem.W.fnOf "_law_cell" "_law_cell" (defArgs s__law_cell) (defBody s__law_cell) (defScope s__law_cell) .none kV14 dc14 pm14 an14 cd14 ct14), sl14⟩) (c14 : PySem.W.codeIn K cd14 "_law_cell" = true) (k14 : PySem.W.keepIn K (.ref f14) = true)
    (a15 : PySem.W.nsIn K mainGlobals "_law_purse" = some (some (.ref f15))) (l15 : K.lookup f15 = some ⟨oc15, od15, .func (PySem.W.fnOf "_law_purse" "_law_purse" (defArgs s__law_purse) (defBody s__law_purse) (defScope s__law_purse) .none kV15 dc15 pm15 an15 cd15 ct15), sl15⟩) (c15 : PySem.W.codeIn K cd15 "_law_purse" = true) (k15 : PySem.W.keepIn K (.ref f15) = true)
    (a16 : PySem.W.nsIn K mainGlobals "_law_take" = some (some (.ref f16))) (l16 : K.lookup f16 = some ⟨oc16, od16, .func (PySem.W.fnOf "_law_take" "_law_take" (defArgs s__law_take) (defBody s__law_take) (defScope s__law_take) .none kV16 dc16 pm16 an16 cd16 ct16), sl16⟩) (c16 : PySem.W.codeIn K cd16 "_law_take" = true) (k16 : PySem.W.keepIn K (.ref f16) = true)
    (a17 : PySem.W.nsIn K mainGlobals "_law_all_marks" = some (some (.ref f17))) (l17 : K.lookup f17 = some ⟨oc17, od17, .func (PySem.W.fnOf "_law_all_marks" "_law_all_marks" (defArgs s__law_all_marks) (defBody s__law_all_marks) (defScope s__law_all_marks) .none kV17 dc17 pm17 an17 cd17 ct17), sl17⟩) (c17 : PySem.W.codeIn K cd17 "_law_all_marks" = true) (k17 : PySem.W.keepIn K (.ref f17) = true)
    (a18 : PySem.W.nsIn K mainGlobals "_law_mark" = some (some (.ref f18))) (l18 : K.lookup f18 = some ⟨oc18, od18, .func (PySem.W.fnOf "_law_mark" "_law_mark" (defArgs s__law_mark) (defBody s__law_mark) (defScope s__law_mark) .none kV18 dc18 pm18 an18 cd18 ct18), sl18⟩) (c18 : PySem.W.codeIn K cd18 "_law_mark" = true) (k18 : PySem.W.keepIn K (.ref f18) = true)
    (a19 : PySem.W.nsIn K mainGlobals "_law_word" = some (some (.ref f19))) (l19 : K.lookup f19 = some ⟨oc19, od19, .func (PySem.W.fnOf "_law_word" "_law_word" (defArgs s__law_word) (defBody s__law_word) (defScope s__law_word) .none kV19 dc19 pm19 an19 cd19 ct19), sl19⟩) (c19 : PySem.W.codeIn K cd19 "_law_word" = true) (k19 : PySem.W.keepIn K (.ref f19) = true)
    (a20 : PySem.W.nsIn K mainGlobals "_law_text" = some (some (.ref f20))) (l20 : K.lookup f20 = some ⟨oc20, od20, .func (PySem.W.fnOf "_law_text" "_law_text" (defArgs s__law_text) (defBody s__law_text) (defScope s__law_text) .none kV20 dc20 pm20 an20 cd20 ct20), sl20⟩) (c20 : PySem.W.codeIn K cd20 "_law_text" = true) (k20 : PySem.W.keepIn K (.ref f20) = true)
    (a21 : PySem.W.nsIn K mainGlobals "_law_is_mark" = some (some (.ref f21))) (l21 : K.lookup f21 = some ⟨oc21, od21, .func (PySem.W.fnOf "_law_is_mark" "_law_is_mark" (defArgs s__law_is_mark) (defBody s__law_is_mark) (defScope s__law_is_mark) .none kV21 dc21 pm21 an21 cd21 ct21), sl21⟩) (c21 : PySem.W.codeIn K cd21 "_law_is_mark" = true) (k21 : PySem.W.keepIn K (.ref f21) = true)
    (a22 : PySem.W.nsIn K mainGlobals "_law_is_word" = some (some (.ref f22))) (l22 : K.lookup f22 = some ⟨oc22, od22, .func (PySem.W.fnOf "_law_is_word" "_law_is_word" (defArgs s__law_is_word) (defBody s__law_is_word) (defScope s__law_is_word) .none kV22 dc22 pm22 an22 cd22 ct22), sl22⟩) (c22 : PySem.W.codeIn K cd22 "_law_is_word" = true) (k22 : PySem.W.keepIn K (.ref f22) = true)
    (a23 : PySem.W.nsIn K mainGlobals "_law_are_marks" = some (some (.ref f23))) (l23 : K.lookup f23 = some ⟨oc23, od23, .func (PySem.W.fnOf "_law_are_marks" "_law_are_marks" (defArgs s__law_are_marks) (defBody s__law_are_marks) (defScope s__law_are_marks) .none kV23 dc23 pm23 an23 cd23 ct23), sl23⟩) (c23 : PySem.W.codeIn K cd23 "_law_are_marks" = true) (k23 : PySem.W.keepIn K (.ref f23) = true)
    (a24 : PySem.W.nsIn K mainGlobals "_law_good" = some (some (.ref f24))) (l24 : K.lookup f24 = some ⟨oc24, od24, .func (PySem.W.fnOf "_law_good" "_law_good" (defArgs s__law_good) (defBody s__law_good) (defScope s__law_good) .none kV24 dc24 pm24 an24 cd24 ct24), sl24⟩) (c24 : PySem.W.codeIn K cd24 "_law_good" = true) (k24 : PySem.W.keepIn K (.ref f24) = true)
    (a25 : PySem.W.nsIn K mainGlobals "_law_odd_thing" = some (some (.ref f25))) (l25 : K.lookup f25 = some ⟨oc25, od25, .func (PySem.W.fnOf "_law_odd_thing" "_law_odd_thing" (defArgs s__law_odd_thing) (defBody s__law_odd_thing) (defScope s__law_odd_thing) .none kV25 dc25 pm25 an25 cd25 ct25), sl25⟩) (c25 : PySem.W.codeIn K cd25 "_law_odd_thing" = true) (k25 : PySem.W.keepIn K (.ref f25) = true)
    (a26 : PySem.W.nsIn K mainGlobals "_law_spoilt" = some (some (.ref f26))) (l26 : K.lookup f26 = some ⟨oc26, od26, .func (PySem.W.fnOf "_law_spoilt" "_law_spoilt" (defArgs s__law_spoilt) (defBody s__law_spoilt) (defScope s__law_spoilt) .none kV26 dc26 pm26 an26 cd26 ct26), sl26⟩) (c26 : PySem.W.codeIn K cd26 "_law_spoilt" = true) (k26 : PySem.W.keepIn K (.ref f26) = true)
    (a27 : PySem.W.nsIn K mainGlobals "_law_refused" = some (some (.ref f27))) (l27 : K.lookup f27 = some ⟨oc27, od27, .func (PySem.W.fnOf "_law_refused" "_law_refused" (defArgs s__law_refused) (defBody s__law_refused) (defScope s__law_refused) .none kV27 dc27 pm27 an27 cd27 ct27), sl27⟩) (c27 : PySem.W.codeIn K cd27 "_law_refused" = true) (k27 : PySem.W.keepIn K (.ref f27) = true)
    (a28 : PySem.W.nsIn K mainGlobals "_law_texts_right" = some (some (.ref f28))) (l28 : K.lookup f28 = some ⟨oc28, od28, .func (PySem.W.fnOf "_law_texts_right" "_law_texts_right" (defArgs s__law_texts_right) (defBody s__law_texts_right) (defScope s__law_texts_right) .none kV28 dc28 pm28 an28 cd28 ct28), sl28⟩) (c28 : PySem.W.codeIn K cd28 "_law_texts_right" = true) (k28 : PySem.W.keepIn K (.ref f28) = true)
    (a29 : PySem.W.nsIn K mainGlobals "_law_odds_right" = some (some (.ref f29))) (l29 : K.lookup f29 = some ⟨oc29, od29, .func (PySem.W.fnOf "_law_odds_right" "_law_odds_right" (defArgs s__law_odds_right) (defBody s__law_odds_right) (defScope s__law_odds_right) .none kV29 dc29 pm29 an29 cd29 ct29), sl29⟩) (c29 : PySem.W.codeIn K cd29 "_law_odds_right" = true) (k29 : PySem.W.keepIn K (.ref f29) = true)
    (a30 : PySem.W.nsIn K mainGlobals "_law_right" = some (some (.ref f30))) (l30 : K.lookup f30 = some ⟨oc30, od30, .func (PySem.W.fnOf "_law_right" "_law_right" (defArgs s__law_right) (defBody s__law_right) (defScope s__law_right) .none kV30 dc30 pm30 an30 cd30 ct30), sl30⟩) (c30 : PySem.W.codeIn K cd30 "_law_right" = true) (k30 : PySem.W.keepIn K (.ref f30) = true)
    (a31 : PySem.W.nsIn K mainGlobals "law" = some (some (.ref f31))) (l31 : K.lookup f31 = some ⟨oc31, od31, .func (PySem.W.fnOf "law" "law" (defArgs s_law) (defBody s_law) (defScope s_law) .none kV31 dc31 pm31 an31 cd31 ct31), sl31⟩) (c31 : PySem.W.codeIn K cd31 "law" = true) (k31 : PySem.W.keepIn K (.ref f31) = true)
    {CReflowError : Addr} (gReflowError : PySem.W.nsIn K mainGlobals "ReflowError" = some (some (.ref CReflowError)))
    {CInvalidMark IInvalidMark RInvalidMark NInvalidMark cdaInvalidMark ccInvalidMark : Addr} {nmInvalidMark qnInvalidMark fileInvalidMark : Str} {bsInvalidMark subInvalidMark : List Value} {snInvalidMark : List Str} {abInvalidMark : Bool} {colInvalidMark : Option Bool} {ddInvalidMark odInvalidMark anInvalidMark cldInvalidMark cddInvalidMark : Option Addr} {m0InvalidMark m1InvalidMark m2InvalidMark m3InvalidMark m5InvalidMark : Option Value} {ocInvalidMark dcInvalidMark pmInvalidMark ctInvalidMark clInvalidMark cclInvalidMark : Value} {slInvalidMark cslInvalidMark ccsInvalidMark : Array (Option Value)} {vsInvalidMark : Array Value} {tfInvalidMark : Tok}
    (gInvalidMark : PySem.W.nsIn K mainGlobals "InvalidMark" = some (some (.ref CInvalidMark))) (xLInvalidMark : K.lookup CInvalidMark = some (excClassObj nmInvalidMark qnInvalidMark CInvalidMark NInvalidMark bsInvalidMark [.ref RInvalidMark, .type "ValueError", .type "Exception", .type "BaseException", .type "object"] true snInvalidMark subInvalidMark abInvalidMark colInvalidMark ddInvalidMark m0InvalidMark m1InvalidMark m2InvalidMark m3InvalidMark m5InvalidMark "ValueError.__new__"))
    (saInvalidMark : PySem.W.findIn K (.ref CInvalidMark) "__setattr__" = some (some (.builtin "object.__setattr__"))) (gaInvalidMark : PySem.W.findIn K (.ref CInvalidMark) "__getattribute__" = some (some (.builtin "BaseException.__getattribute__"))) (ggInvalidMark : PySem.W.findIn K (.ref CInvalidMark) "__getattr__" = some none) (nbInvalidMark : PySem.W.findIn K (.ref CInvalidMark) "value" = some none)
    (iCInvalidMark : PySem.W.findIn K (.ref CInvalidMark) "__init__" = some (some (.ref IInvalidMark))) (tIInvalidMark : PySem.W.typeIn K (.ref IInvalidMark) = some (.type "function"))
    (lInvalidMark : K.lookup IInvalidMark = some ⟨ocInvalidMark, odInvalidMark, .func (PySem.W.ksFn "__init__" "InvalidMark.__init__" (PySem.SupX.supA "value" ⟨6, 17, 6, 21⟩ ⟨6, 23, 6, 28⟩) (PySem.SupX.supB "not a mark" "value" 0 ⟨7, 8, 7, 13⟩ ⟨7, 8, 7, 15⟩ ⟨7, 8, 7, 24⟩ ⟨7, 25, 7, 37⟩ ⟨7, 8, 7, 38⟩ ⟨7, 8, 7, 38⟩ ⟨8, 8, 8, 12⟩ ⟨8, 8, 8, 18⟩ ⟨8, 21, 8, 26⟩ ⟨8, 8, 8, 26⟩) (PySem.SupX.supS "value") .none .none dcInvalidMark pmInvalidMark anInvalidMark (.ref cdaInvalidMark) ctInvalidMark ccInvalidMark), slInvalidMark⟩) (cInvalidMark : PySem.W.codeIn K (.ref cdaInvalidMark) "InvalidMark.__init__" = true)
    (ceInvalidMark : K.lookup ccInvalidMark = some ⟨clInvalidMark, cldInvalidMark, .cell (some (.ref CInvalidMark)), cslInvalidMark⟩) (coInvalidMark : K.lookup cdaInvalidMark = some ⟨cclInvalidMark, cddInvalidMark, .fields vsInvalidMark, ccsInvalidMark⟩) (vfInvalidMark : vsInvalidMark[2]? = some (.str fileInvalidMark tfInvalidMark)) (feInvalidMark : ((l.prog.main.file : Str) == fileInvalidMark) = true)
    (kCInvalidMark : PySem.W.keepIn K (.ref CInvalidMark) = true) (eCInvalidMark : PySem.W.subIn K (.ref CInvalidMark) (.type "BaseException") = some true) (veInvalidMark : PySem.W.subIn K (.ref CInvalidMark) (.type "ValueError") = some true) (meInvalidMark : PySem.W.mroIn K CInvalidMark (.ref CInvalidMark) = some true) (tCInvalidMark : PySem.W.typeIn K (.ref CInvalidMark) = some (.type "type")) (hCInvalidMark : PySem.W.hasDictIn K CInvalidMark = true) (icInvalidMark : PySem.W.isClsIn K CInvalidMark = true) (sCInvalidMark : PySem.W.subIn K (.ref CInvalidMark) (.ref CInvalidMark) = some true)
    (suInvalidMark : PySem.W.ks_superIn K CInvalidMark CInvalidMark "__init__" = some (some (.builtin "ValueError.__init__"))) (xiInvalidMark : PySem.W.excInitIn K CInvalidMark PySem.HandSPX.veTail "ValueError.__new__" = true)
    {CInvalidMarks IInvalidMarks RInvalidMarks NInvalidMarks cdaInvalidMarks ccInvalidMarks : Addr} {nmInvalidMarks qnInvalidMarks fileInvalidMarks : Str} {bsInvalidMarks subInvalidMarks : List Value} {snInvalidMarks : List Str} {abInvalidMarks : Bool} {colInvalidMarks : Option Bool} {ddInvalidMarks odInvalidMarks anInvalidMarks cldInvalidMarks cddInvalidMarks : Option Addr} {m0InvalidMarks m1InvalidMarks m2InvalidMarks m3InvalidMarks m5InvalidMarks : Option Value} {ocInvalidMarks dcInvalidMarks pmInvalidMarks ctInvalidMarks clInvalidMarks cclInvalidMarks : Value} {slInvalidMarks cslInvalidMarks ccsInvalidMarks : Array (Option Value)} {vsInvalidMarks : Array Value} {tfInvalidMarks : Tok}
    (gInvalidMarks : PySem.W.nsIn K mainGlobals "InvalidMarks" = some (some (.ref CInvalidMarks))) (xLInvalidMarks : K.lookup CInvalidMarks = some (excClassObj nmInvalidMarks qnInvalidMarks CInvalidMarks NInvalidMarks bsInvalidMarks [.ref RInvalidMarks, .type "ValueError", .type "Exception", .type "BaseException", .type "object"] true snInvalidMarks subInvalidMarks abInvalidMarks colInvalidMarks ddInvalidMarks m0InvalidMarks m1InvalidMarks m2InvalidMarks m3InvalidMarks m5InvalidMarks "ValueError.__new__"))
    (saInvalidMarks : PySem.W.findIn K (.ref CInvalidMarks) "__setattr__" = some (some (.builtin "object.__setattr__"))) (gaInvalidMarks : PySem.W.findIn K (.ref CInvalidMarks) "__getattribute__" = some (some (.builtin "BaseException.__getattribute__"))) (ggInvalidMarks : PySem.W.findIn K (.ref CInvalidMarks) "__getattr__" = some none) (nbInvalidMarks : PySem.W.findIn K (.ref CInvalidMarks) "value" = some none)
    (iCInvalidMarks : PySem.W.findIn K (.ref CInvalidMarks) "__init__" = some (some (.ref IInvalidMarks))) (tIInvalidMarks : PySem.W.typeIn K (.ref IInvalidMarks) = some (.type "function"))
    (lInvalidMarks : K.lookup IInvalidMarks = some ⟨ocInvalidMarks, odInvalidMarks, .func (PySem.W.ksFn "__init__" "InvalidMarks.__init__" (PySem.SupX.supA "value" ⟨11, 17, 11, 21⟩ ⟨11, 23, 11, 28⟩) (PySem.SupX.supB "not a row of marks" "value" 0 ⟨12, 8, 12, 13⟩ ⟨12, 8, 12, 15⟩ ⟨12, 8, 12, 24⟩ ⟨12, 25, 12, 45⟩ ⟨12, 8, 12, 46⟩ ⟨12, 8, 12, 46⟩ ⟨13, 8, 13, 12⟩ ⟨13, 8, 13, 18⟩ ⟨13, 21, 13, 26⟩ ⟨13, 8, 13, 26⟩) (PySem.SupX.supS "value") .none .none dcInvalidMarks pmInvalidMarks anInvalidMarks (.ref cdaInvalidMarks) ctInvalidMarks ccInvalidMarks), slInvalidMarks⟩) (cInvalidMarks : PySem.W.codeIn K (.ref cdaInvalidMarks) "InvalidMarks.__init__" = true)
    (ceInvalidMarks : K.lookup ccInvalidMarks = some ⟨clInvalidMarks, cldInvalidMarks, .cell (some (.ref CInvalidMarks)), cslInvalidMarks⟩) (coInvalidMarks : K.lookup cdaInvalidMarks = some ⟨cclInvalidMarks, cddInvalidMarks, .fields vsInvalidMarks, ccsInvalidMarks⟩) (vfInvalidMarks : vsInvalidMarks[2]? = some (.str fileInvalidMarks tfInvalidMarks)) (feInvalidMarks : ((l.prog.main.file : Str) == fileInvalidMarks) = true)
    (kCInvalidMarks : PySem.W.keepIn K (.ref CInvalidMarks) = true) (eCInvalidMarks : PySem.W.subIn K (.ref CInvalidMarks) (.type "BaseException") = some true) (veInvalidMarks : PySem.W.subIn K (.ref CInvalidMarks) (.type "ValueError") = some true) (meInvalidMarks : PySem.W.mroIn K CInvalidMarks (.ref CInvalidMarks) = some true) (tCInvalidMarks : PySem.W.typeIn K (.ref CInvalidMarks) = some (.type "type")) (hCInvalidMarks : PySem.W.hasDictIn K CInvalidMarks = true) (icInvalidMarks : PySem.W.isClsIn K CInvalidMarks = true) (sCInvalidMarks : PySem.W.subIn K (.ref CInvalidMarks) (.ref CInvalidMarks) = some true)
    (suInvalidMarks : PySem.W.ks_superIn K CInvalidMarks CInvalidMarks "__init__" = some (some (.builtin "ValueError.__init__"))) (xiInvalidMarks : PySem.W.excInitIn K CInvalidMarks PySem.HandSPX.veTail "ValueError.__new__" = true)
    {CInvalidWords IInvalidWords RInvalidWords NInvalidWords cdaInvalidWords ccInvalidWords : Addr} {nmInvalidWords qnInvalidWords fileInvalidWords : Str} {bsInvalidWords subInvalidWords : List Value} {snInvalidWords : List Str} {abInvalidWords : Bool} {colInvalidWords : Option Bool} {ddInvalidWords odInvalidWords anInvalidWords cldInvalidWords cddInvalidWords : Option Addr} {m0InvalidWords m1InvalidWords m2InvalidWords m3InvalidWords m5InvalidWords : Option Value} {ocInvalidWords dcInvalidWords pmInvalidWords ctInvalidWords clInvalidWords cclInvalidWords : Value} {slInvalidWords cslInvalidWords ccsInvalidWords : Array (Option Value)} {vsInvalidWords : Array Value} {tfInvalidWords : Tok}
    (gInvalidWords : PySem.W.nsIn K mainGlobals "InvalidWords" = some (some (.ref CInvalidWords))) (xLInvalidWords : K.lookup CInvalidWords = some (excClassObj nmInvalidWords qnInvalidWords CInvalidWords NInvalidWords bsInvalidWords [.ref RInvalidWords, .type "ValueError", .type "Exception", .type "BaseException", .type "object"] true snInvalidWords subInvalidWords abInvalidWords colInvalidWords ddInvalidWords m0InvalidWords m1InvalidWords m2InvalidWords m3InvalidWords m5InvalidWords "ValueError.__new__"))
    (saInvalidWords : PySem.W.findIn K (.ref CInvalidWords) "__setattr__" = some (some (.builtin "object.__setattr__"))) (gaInvalidWords : PySem.W.findIn K (.ref CInvalidWords) "__getattribute__" = some (some (.builtin "BaseException.__getattribute__"))) (ggInvalidWords : PySem.W.findIn K (.ref CInvalidWords) "__getattr__" = some none) (nbInvalidWords : PySem.W.findIn K (.ref CInvalidWords) "value" = some none)
    (iCInvalidWords : PySem.W.findIn K (.ref CInvalidWords) "__init__" = some (some (.ref IInvalidWords))) (tIInvalidWords : PySem.W.typeIn K (.ref IInvalidWords) = some (.type "function"))
    (lInvalidWords : K.lookup IInvalidWords = some ⟨ocInvalidWords, odInvalidWords, .func (PySem.W.ksFn "__init__" "InvalidWords.__init__" (PySem.SupX.supA "value" ⟨16, 17, 16, 21⟩ ⟨16, 23, 16, 28⟩) (PySem.SupX.supB "not the words of these marks" "value" 0 ⟨17, 8, 17, 13⟩ ⟨17, 8, 17, 15⟩ ⟨17, 8, 17, 24⟩ ⟨17, 25, 17, 55⟩ ⟨17, 8, 17, 56⟩ ⟨17, 8, 17, 56⟩ ⟨18, 8, 18, 12⟩ ⟨18, 8, 18, 18⟩ ⟨18, 21, 18, 26⟩ ⟨18, 8, 18, 26⟩) (PySem.SupX.supS "value") .none .none dcInvalidWords pmInvalidWords anInvalidWords (.ref cdaInvalidWords) ctInvalidWords ccInvalidWords), slInvalidWords⟩) (cInvalidWords : PySem.W.codeIn K (.ref cdaInvalidWords) "InvalidWords.__init__" = true)
    (ceInvalidWords : K.lookup ccInvalidWords = some ⟨clInvalidWords, cldInvalidWords, .cell (some (.ref CInvalidWords)), cslInvalidWords⟩) (coInvalidWords : K.lookup cdaInvalidWords = some ⟨cclInvalidWords, cddInvalidWords, .fields vsInvalidWords, ccsInvalidWords⟩) (vfInvalidWords : vsInvalidWords[2]? = some (.str fileInvalidWords tfInvalidWords)) (feInvalidWords : ((l.prog.main.file : Str) == fileInvalidWords) = true)
    (kCInvalidWords : PySem.W.keepIn K (.ref CInvalidWords) = true) (eCInvalidWords : PySem.W.subIn K (.ref CInvalidWords) (.type "BaseException") = some true) (veInvalidWords : PySem.W.subIn K (.ref CInvalidWords) (.type "ValueError") = some true) (meInvalidWords : PySem.W.mroIn K CInvalidWords (.ref CInvalidWords) = some true) (tCInvalidWords : PySem.W.typeIn K (.ref CInvalidWords) = some (.type "type")) (hCInvalidWords : PySem.W.hasDictIn K CInvalidWords = true) (icInvalidWords : PySem.W.isClsIn K CInvalidWords = true) (sCInvalidWords : PySem.W.subIn K (.ref CInvalidWords) (.ref CInvalidWords) = some true)
    (suInvalidWords : PySem.W.ks_superIn K CInvalidWords CInvalidWords "__init__" = some (some (.builtin "ValueError.__init__"))) (xiInvalidWords : PySem.W.excInitIn K CInvalidWords PySem.HandSPX.veTail "ValueError.__new__" = true)
    {CInvalidText IInvalidText RInvalidText NInvalidText cdaInvalidText ccInvalidText : Addr} {nmInvalidText qnInvalidText fileInvalidText : Str} {bsInvalidText subInvalidText : List Value} {snInvalidText : List Str} {abInvalidText : Bool} {colInvalidText : Option Bool} {ddInvalidText odInvalidText anInvalidText cldInvalidText cddInvalidText : Option Addr} {m0InvalidText m1InvalidText m2InvalidText m3InvalidText m5InvalidText : Option Value} {ocInvalidText dcInvalidText pmInvalidText ctInvalidText clInvalidText cclInvalidText : Value} {slInvalidText cslInvalidText ccsInvalidText : Array (Option Value)} {vsInvalidText : Array Value} {tfInvalidText : Tok}
    (gInvalidText : PySem.W.nsIn K mainGlobals "InvalidText" = some (some (.ref CInvalidText))) (xLInvalidText : K.lookup CInvalidText = some (excClassObj nmInvalidText qnInvalidText CInvalidText NInvalidText bsInvalidText [.ref RInvalidText, .type "ValueError", .type "Exception", .type "BaseException", .type "object"] true snInvalidText subInvalidText abInvalidText colInvalidText ddInvalidText m0InvalidText m1InvalidText m2InvalidText m3InvalidText m5InvalidText "ValueError.__new__"))
    (saInvalidText : PySem.W.findIn K (.ref CInvalidText) "__setattr__" = some (some (.builtin "object.__setattr__"))) (gaInvalidText : PySem.W.findIn K (.ref CInvalidText) "__getattribute__" = some (some (.builtin "BaseException.__getattribute__"))) (ggInvalidText : PySem.W.findIn K (.ref CInvalidText) "__getattr__" = some none) (nbInvalidText : PySem.W.findIn K (.ref CInvalidText) "value" = some none)
    (iCInvalidText : PySem.W.findIn K (.ref CInvalidText) "__init__" = some (some (.ref IInvalidText))) (tIInvalidText : PySem.W.typeIn K (.ref IInvalidText) = some (.type "function"))
    (lInvalidText : K.lookup IInvalidText = some ⟨ocInvalidText, odInvalidText, .func (PySem.W.ksFn "__init__" "InvalidText.__init__" (PySem.SupX.supA "value" ⟨21, 17, 21, 21⟩ ⟨21, 23, 21, 28⟩) (PySem.SupX.supB "not a text" "value" 0 ⟨22, 8, 22, 13⟩ ⟨22, 8, 22, 15⟩ ⟨22, 8, 22, 24⟩ ⟨22, 25, 22, 37⟩ ⟨22, 8, 22, 38⟩ ⟨22, 8, 22, 38⟩ ⟨23, 8, 23, 12⟩ ⟨23, 8, 23, 18⟩ ⟨23, 21, 23, 26⟩ ⟨23, 8, 23, 26⟩) (PySem.SupX.supS "value") .none .none dcInvalidText pmInvalidText anInvalidText (.ref cdaInvalidText) ctInvalidText ccInvalidText), slInvalidText⟩) (cInvalidText : PySem.W.codeIn K (.ref cdaInvalidText) "InvalidText.__init__" = true)
    (ceInvalidText : K.lookup ccInvalidText = some ⟨clInvalidText, cldInvalidText, .cell (some (.ref CInvalidText)), cslInvalidText⟩) (coInvalidText : K.lookup cdaInvalidText = some ⟨cclInvalidText, cddInvalidText, .fields vsInvalidText, ccsInvalidText⟩) (vfInvalidText : vsInvalidText[2]? = some (.str fileInvalidText tfInvalidText)) (feInvalidText : ((l.prog.main.file : Str) == fileInvalidText) = true)
    (kCInvalidText : PySem.W.keepIn K (.ref CInvalidText) = true) (eCInvalidText : PySem.W.subIn K (.ref CInvalidText) (.type "BaseException") = some true) (veInvalidText : PySem.W.subIn K (.ref CInvalidText) (.type "ValueError") = some true) (meInvalidText : PySem.W.mroIn K CInvalidText (.ref CInvalidText) = some true) (tCInvalidText : PySem.W.typeIn K (.ref CInvalidText) = some (.type "type")) (hCInvalidText : PySem.W.hasDictIn K CInvalidText = true) (icInvalidText : PySem.W.isClsIn K CInvalidText = true) (sCInvalidText : PySem.W.subIn K (.ref CInvalidText) (.ref CInvalidText) = some true)
    (suInvalidText : PySem.W.ks_superIn K CInvalidText CInvalidText "__init__" = some (some (.builtin "ValueError.__init__"))) (xiInvalidText : PySem.W.excInitIn K CInvalidText PySem.HandSPX.veTail "ValueError.__new__" = true)
    (tp : PySem.W.nsIn K cStatics "thirdparty.any" = some none) (zsuper : PySem.W.nsIn K mainGlobals "super" = some none) (top : (l.prog.main.scope.names.lookup ("super" : Str)).isSome = false)
    (sb_InvalidMarks_InvalidText : PySem.W.subIn K (.ref CInvalidMarks) (.ref CInvalidText) = some false)
    (sb_InvalidWords_InvalidText : PySem.W.subIn K (.ref CInvalidWords) (.ref CInvalidText) = some false)
    (sb_InvalidWords_InvalidMarks : PySem.W.subIn K (.ref CInvalidWords) (.ref CInvalidMarks) = some false)
    (z0 : PySem.W.nsIn K mainGlobals "all" = some none)
    (z1 : PySem.W.nsIn K mainGlobals "enumerate" = some none)
    (z2 : PySem.W.nsIn K mainGlobals "isinstance" = some none)
    (z3 : PySem.W.nsIn K mainGlobals "len" = some none)
    (z4 : PySem.W.nsIn K mainGlobals "list" = some none)
    (z5 : PySem.W.nsIn K mainGlobals "max" = some none)
    (z6 : PySem.W.nsIn K mainGlobals "min" = some none)
    (z7 : PySem.W.nsIn K mainGlobals "range" = some none)
    (z8 : PySem.W.nsIn K mainGlobals "repr" = some none)
    (z9 : PySem.W.nsIn K mainGlobals "str" = some none)
    (z10 : PySem.W.nsIn K mainGlobals "tuple" = some none)
    (z11 : PySem.W.nsIn K mainGlobals "zip" = some none)
    {tLETTERS : Tok} (vLETTERS : PySem.W.nsIn K mainGlobals "LETTERS" = some (some (.str (Str.ofString "abcdefghijklmnopqrstuvwxyz") tLETTERS)))
    {tLONGEST_WORD : Tok} (vLONGEST_WORD : PySem.W.nsIn K mainGlobals "LONGEST_WORD" = some (some (.int 30 tLONGEST_WORD)))
    {AMARK_PLACES : Addr} {EMARK_PLACES : Array DictEntry} {NMARK_PLACES : Nat} (vMARK_PLACES : PySem.W.nsIn K mainGlobals "MARK_PLACES" = some (some (.ref AMARK_PLACES))) (wMARK_PLACES : K.lookup AMARK_PLACES = some ⟨.type "dict", none, .dict EMARK_PLACES NMARK_PLACES, #[]⟩) (yMARK_PLACES : (AMARK_PLACES == sysModules) = false) (xMARK_PLACES : PySem.W.KeysLit w.params EMARK_PLACES.toList) (uMARK_PLACES : KeysAre EMARK_PLACES.toList ([" ", "#0", "#1", "#2", "#3", "|0", "|1", "|2", "|3", "/0", "/1", "/2", "/3"] : List Str)) :
    ∃ fd : FuncData, (∀ (s : Shared) (v : Value), BindsTo s fd ⟨[v], []⟩ [("_law_script", v)]) ∧ ∀ base : Heap, K.In base → base.Ns mainGlobals mg → FnG l.prog w K mg base CX0 11 fa fd ["_law_script"] (spLawS K) := by
  have e := hfa.symm.trans (PySem.W.mg_of X G a31)
  cases e
  let T : TX l.prog w K mg := { C_ReflowError := CReflowError, gc_ReflowError := PySem.W.mg_of X G gReflowError, C_InvalidMark := CInvalidMark, I_InvalidMark := IInvalidMark, x_InvalidMark := { gC := PySem.W.mg_of X G gInvalidMark, cls := ⟨nmInvalidMark, qnInvalidMark, NInvalidMark, bsInvalidMark, _, snInvalidMark, subInvalidMark, abInvalidMark, colInvalidMark, ddInvalidMark, m0InvalidMark, m1InvalidMark, m2InvalidMark, m3InvalidMark, m5InvalidMark, xLInvalidMark, rfl⟩, sa := saInvalidMark, ga := gaInvalidMark, gg := ggInvalidMark, noN := nbInvalidMark, iC := iCInvalidMark, tC := tIInvalidMark, kC := kCInvalidMark, exC := eCInvalidMark, veC := veInvalidMark, meC := meInvalidMark, tyC := tCInvalidMark, hdC := hCInvalidMark, te := RV.exm_self eCInvalidMark icInvalidMark tCInvalidMark sCInvalidMark, su := suInvalidMark, xi := xiInvalidMark, tp := tp, sm := PySem.W.mg_none_of X G zsuper, fn := ⟨_, _, _, _, _, _, _, _, _, _, _, _, _, _, _, _, _, _, _, _, _, _, _, _, _, _, _, _, _, _, _, lInvalidMark, cInvalidMark, ceInvalidMark, coInvalidMark, vfInvalidMark, feInvalidMark, rfl⟩, top := top }, C_InvalidMarks := CInvalidMarks, I_InvalidMarks := IInvalidMarks, x_InvalidMarks := { gC := PySem.W.mg_of X G gInvalidMarks, cls := ⟨nmInvalidMarks, qnInvalidMarks, NInvalidMarks, bsInvalidMarks, _, snInvalidMarks, subInvalidMarks, abInvalidMarks, colInvalidMarks, ddInvalidMarks, m0InvalidMarks, m1InvalidMarks, m2InvalidMarks, m3InvalidMarks, m5InvalidMarks, xLInvalidMarks, rfl⟩, sa := saInvalidMarks, ga := gaInvalidMarks, gg := ggInvalidMarks, noN := nbInvalidMarks, iC := iCInvalidMarks, tC := tIInvalidMarks, kC := kCInvalidMarks, exC := eCInvalidMarks, veC := veInvalidMarks, meC := meInvalidMarks, tyC := tCInvalidMarks, hdC := hCInvalidMarks, te := RV.exm_self eCInvalidMarks icInvalidMarks tCInvalidMarks sCInvalidMarks, su := suInvalidMarks, xi := xiInvalidMarks, tp := tp, sm := PySem.W.mg_none_of X G zsuper, fn := ⟨_, _, _, _, _, _, _, _, _, _, _, _, _, _, _, _, _, _, _, _, _, _, _, _, _, _, _, _, _, _, _, lInvalidMarks, cInvalidMarks, ceInvalidMarks, coInvalidMarks, vfInvalidMarks, feInvalidMarks, rfl⟩, top := top }, C_InvalidWords := CInvalidWords, I_InvalidWords := IInvalidWords, x_InvalidWords := { gC := PySem.W.mg_of X G gInvalidWords, cls := ⟨nmInvalidWords, qnInvalidWords, NInvalidWords, bsInvalidWords, _, snInvalidWords, subInvalidWords, abInvalidWords, colInvalidWords, ddInvalidWords, m0InvalidWords, m1InvalidWords, m2InvalidWords, m3InvalidWords, m5InvalidWords, xLInvalidWords, rfl⟩, sa := saInvalidWords, ga := gaInvalidWords, gg := ggInvalidWords, noN := nbInvalidWords, iC := iCInvalidWords, tC := tIInvalidWords, kC := kCInvalidWords, exC := eCInvalidWords, veC := veInvalidWords, meC := meInvalidWords, tyC := tCInvalidWords, hdC := hCInvalidWords, te := RV.exm_self eCInvalidWords icInvalidWords tCInvalidWords sCInvalidWords, su := suInvalidWords, xi := xiInvalidWords, tp := tp, sm := PySem.W.mg_none_of X G zsuper, fn := ⟨_, _, _, _, _, _, _, _, _, _, _, _, _, _, _, _, _, _, _, _, _, _, _, _, _, _, _, _, _, _, _, lInvalidWords, cInvalidWords, ceInvalidWords, coInvalidWords, vfInvalidWords, feInvalidWords, rfl⟩, top := top }, C_InvalidText := CInvalidText, I_InvalidText := IInvalidText, x_InvalidText := { gC := PySem.W.mg_of X G gInvalidText, cls := ⟨nmInvalidText, qnInvalidText, NInvalidText, bsInvalidText, _, snInvalidText, subInvalidText, abInvalidText, colInvalidText, ddInvalidText, m0InvalidText, m1InvalidText, m2InvalidText, m3InvalidText, m5InvalidText, xLInvalidText, rfl⟩, sa := saInvalidText, ga := gaInvalidText, gg := ggInvalidText, noN := nbInvalidText, iC := iCInvalidText, tC := tIInvalidText, kC := kCInvalidText, exC := eCInvalidText, veC := veInvalidText, meC := meInvalidText, tyC := tCInvalidText, hdC := hCInvalidText, te := RV.exm_self eCInvalidText icInvalidText tCInvalidText sCInvalidText, su := suInvalidText, xi := xiInvalidText, tp := tp, sm := PySem.W.mg_none_of X G zsuper, fn := ⟨_, _, _, _, _, _, _, _, _, _, _, _, _, _, _, _, _, _, _, _, _, _, _, _, _, _, _, _, _, _, _, lInvalidText, cInvalidText, ceInvalidText, coInvalidText, vfInvalidText, feInvalidText, rfl⟩, top := top }, a_is_word := f1, d_is_word := _, F_is_word := fun_mk (st := s_is_word) l1 c1 k1, g_is_word := PySem.W.mg_of X G a1, b_is_word := (fun_mk (st := s_is_word) l1 c1 k1).binds (ps := ["value"]) fun _ _ _ _ _ _ us hl => match us, hl with | [_], _ => rfl, a_is_mark := f2, d_is_mark := _, F_is_mark := fun_mk (st := s_is_mark) l2 c2 k2, g_is_mark := PySem.W.mg_of X G a2, b_is_mark := (fun_mk (st := s_is_mark) l2 c2 k2).binds (ps := ["value"]) fun _ _ _ _ _ _ us hl => match us, hl with | [_], _ => rfl, a_is_token := f3, d_is_token := _, F_is_token := fun_mk (st := s_is_token) l3 c3 k3, g_is_token := PySem.W.mg_of X G a3, b_is_token := (fun_mk (st := s_is_token) l3 c3 k3).binds (ps := ["value"]) fun _ _ _ _ _ _ us hl => match us, hl with | [_], _ => rfl, a_kind_of := f4, d_kind_of := _, F_kind_of := fun_mk (st := s_kind_of) l4 c4 k4, g_kind_of := PySem.W.mg_of X G a4, b_kind_of := (fun_mk (st := s_kind_of) l4 c4 k4).binds (ps := ["mark"]) fun _ _ _ _ _ _ us hl => match us, hl with | [_], _ => rfl, a__has_only := f5, d__has_only := _, F__has_only := fun_mk (st := s__has_only) l5 c5 k5, g__has_only := PySem.W.mg_of X G a5, b__has_only := (fun_mk (st := s__has_only) l5 c5 k5).binds (ps := ["text", "characters"]) fun _ _ _ _ _ _ us hl => match us, hl with | [_, _], _ => rfl, a_is_text := f6, d_is_text := _, F_is_text := fun_mk (st := s_is_text) l6 c6 k6, g_is_text := PySem.W.mg_of X G a6, b_is_text := (fun_mk (st := s_is_text) l6 c6 k6).binds (ps := ["value"]) fun _ _ _ _ _ _ us hl => match us, hl with | [_], _ => rfl, a_text_of := f7, d_text_of := _, F_text_of := fun_mk (st := s_text_of) l7 c7 k7, g_text_of := PySem.W.mg_of X G a7, b_text_of := (fun_mk (st := s_text_of) l7 c7 k7).binds (ps := ["marks", "words"]) fun _ _ _ _ _ _ us hl => match us, hl with | [_, _], _ => rfl, a_marks_of := f8, d_marks_of := _, F_marks_of := fun_mk (st := s_marks_of) l8 c8 k8, g_marks_of := PySem.W.mg_of X G a8, b_marks_of := (fun_mk (st := s_marks_of) l8 c8 k8).binds (ps := ["text"]) fun _ _ _ _ _ _ us hl => match us, hl with | [_], _ => rfl, a_lengths_of := f9, d_lengths_of := _, F_lengths_of := fun_mk (st := s_lengths_of) l9 c9 k9, g_lengths_of := PySem.W.mg_of X G a9, b_lengths_of := (fun_mk (st := s_lengths_of) l9 c9 k9).binds (ps := ["text"]) fun _ _ _ _ _ _ us hl => match us, hl with | [_], _ => rfl, a_unlike_marks := f10, d_unlike_marks := _, F_unlike_marks := fun_mk (st := s_unlike_marks) l10 c10 k10, g_unlike_marks := PySem.W.mg_of X G a10, b_unlike_marks := (fun_mk (st := s_unlike_marks) l10 c10 k10).binds (ps := ["one", "other"]) fun _ _ _ _ _ _ us hl => match us, hl with | [_, _], _ => rfl, a__check_text := f11, d__check_text := _, F__check_text := fun_mk (st := s__check_text) l11 c11 k11, g__check_text := PySem.W.mg_of X G a11, b__check_text := (fun_mk (st := s__check_text) l11 c11 k11).binds (ps := ["text"]) fun _ _ _ _ _ _ us hl => match us, hl with | [_], _ => rfl, a__is_mark_row := f12, d__is_mark_row := _, F__is_mark_row := fun_mk (st := s__is_mark_row) l12 c12 k12, g__is_mark_row := PySem.W.mg_of X G a12, b__is_mark_row := (fun_mk (st := s__is_mark_row) l12 c12 k12).binds (ps := ["value"]) fun _ _ _ _ _ _ us hl => match us, hl with | [_], _ => rfl, a__is_word_row := f13, d__is_word_row := _, F__is_word_row := fun_mk (st := s__is_word_row) l13 c13 k13, g__is_word_row := PySem.W.mg_of X G a13, b__is_word_row := (fun_mk (st := s__is_word_row) l13 c13 k13).binds (ps := ["value"]) fun _ _ _ _ _ _ us hl => match us, hl with | [_], _ => rfl, a__law_cell := f14, d__law_cell := _, F__law_cell := fun_mk (st := s__law_cell) l14 c14 k14, g__law_cell := PySem.W.mg_of X G a14, b__law_cell := (fun_mk (st := s__law_cell) l14 c14 k14).binds (ps := ["_law_script", "_law_k"]) fun _ _ _ _ _ _ us hl => match us, hl with | [_, _], _ => rfl, a__law_purse := f15, d__law_purse := _, F__law_purse := fun_mk (st := s__law_purse) l15 c15 k15, g__law_purse := PySem.W.mg_of X G a15, b__law_purse := (fun_mk (st := s__law_purse) l15 c15 k15).binds (ps := ["_law_cell_here"]) fun _ _ _ _ _ _ us hl => match us, hl with | [_], _ => rfl, a__law_take := f16, d__law_take := _, F__law_take := fun_mk (st := s__law_take) l16 c16 k16, g__law_take := PySem.W.mg_of X G a16, b__law_take := (fun_mk (st := s__law_take) l16 c16 k16).binds (ps := ["_law_purse_here", "_law_many"]) fun _ _ _ _ _ _ us hl => match us, hl with | [_, _], _ => rfl, a__law_all_marks := f17, d__law_all_marks := _, F__law_all_marks := fun_mk (st := s__law_all_marks) l17 c17 k17, g__law_all_marks := PySem.W.mg_of X G a17, b__law_all_marks := (fun_mk (st := s__law_all_marks) l17 c17 k17).binds (ps := []) fun _ _ _ _ _ _ us hl => match us, hl with | [], _ => rfl, a__law_mark := f18, d__law_mark := _, F__law_mark := fun_mk (st := s__law_mark) l18 c18 k18, g__law_mark := PySem.W.mg_of X G a18, b__law_mark := (fun_mk (st := s__law_mark) l18 c18 k18).binds (ps := ["_law_purse_here"]) fun _ _ _ _ _ _ us hl => match us, hl with | [_], _ => rfl, a__law_word := f19, d__law_word := _, F__law_word := fun_mk (st := s__law_word) l19 c19 k19, g__law_word := PySem.W.mg_of X G a19, b__law_word := (fun_mk (st := s__law_word) l19 c19 k19).binds (ps := ["_law_purse_here", "_law_most"]) fun _ _ _ _ _ _ us hl => match us, hl with | [_, _], _ => rfl, a__law_text := f20, d__law_text := _, F__law_text := fun_mk (st := s__law_text) l20 c20 k20, g__law_text := PySem.W.mg_of X G a20, b__law_text := (fun_mk (st := s__law_text) l20 c20 k20).binds (ps := ["_law_purse_here", "_law_many", "_law_most"]) fun _ _ _ _ _ _ us hl => match us, hl with | [_, _, _], _ => rfl, a__law_is_mark := f21, d__law_is_mark := _, F__law_is_mark := fun_mk (st := s__law_is_mark) l21 c21 k21, g__law_is_mark := PySem.W.mg_of X G a21, b__law_is_mark := (fun_mk (st := s__law_is_mark) l21 c21 k21).binds (ps := ["_law_value"]) fun _ _ _ _ _ _ us hl => match us, hl with | [_], _ => rfl, a__law_is_word := f22, d__law_is_word := _, F__law_is_word := fun_mk (st := s__law_is_word) l22 c22 k22, g__law_is_word := PySem.W.mg_of X G a22, b__law_is_word := (fun_mk (st := s__law_is_word) l22 c22 k22).binds (ps := ["_law_value"]) fun _ _ _ _ _ _ us hl => match us, hl with | [_], _ => rfl, a__law_are_marks := f23, d__law_are_marks := _, F__law_are_marks := fun_mk (st := s__law_are_marks) l23 c23 k23, g__law_are_marks := PySem.W.mg_of X G a23, b__law_are_marks := (fun_mk (st := s__law_are_marks) l23 c23 k23).binds (ps := ["_law_value"]) fun _ _ _ _ _ _ us hl => match us, hl with | [_], _ => rfl, a__law_good := f24, d__law_good := _, F__law_good := fun_mk (st := s__law_good) l24 c24 k24, g__law_good := PySem.W.mg_of X G a24, b__law_good := (fun_mk (st := s__law_good) l24 c24 k24).binds (ps := ["_law_value"]) fun _ _ _ _ _ _ us hl => match us, hl with | [_], _ => rfl, a__law_odd_thing := f25, d__law_odd_thing := _, F__law_odd_thing := fun_mk (st := s__law_odd_thing) l25 c25 k25, g__law_odd_thing := PySem.W.mg_of X G a25, b__law_odd_thing := (fun_mk (st := s__law_odd_thing) l25 c25 k25).binds (ps := ["_law_purse_here", "_law_thing"]) fun _ _ _ _ _ _ us hl => match us, hl with | [_, _], _ => rfl, a__law_spoilt := f26, d__law_spoilt := _, F__law_spoilt := fun_mk (st := s__law_spoilt) l26 c26 k26, g__law_spoilt := PySem.W.mg_of X G a26, b__law_spoilt := (fun_mk (st := s__law_spoilt) l26 c26 k26).binds (ps := ["_law_purse_here", "_law_text_here"]) fun _ _ _ _ _ _ us hl => match us, hl with | [_, _], _ => rfl, a__law_refused := f27, d__law_refused := _, F__law_refused := fun_mk (st := s__law_refused) l27 c27 k27, g__law_refused := PySem.W.mg_of X G a27, b__law_refused := (fun_mk (st := s__law_refused) l27 c27 k27).binds (ps := ["_law_way", "_law_one", "_law_other"]) fun _ _ _ _ _ _ us hl => match us, hl with | [_, _, _], _ => rfl, a__law_texts_right := f28, d__law_texts_right := _, F__law_texts_right := fun_mk (st := s__law_texts_right) l28 c28 k28, g__law_texts_right := PySem.W.mg_of X G a28, b__law_texts_right := (fun_mk (st := s__law_texts_right) l28 c28 k28).binds (ps := ["_law_text_here", "_law_marks", "_law_words"]) fun _ _ _ _ _ _ us hl => match us, hl with | [_, _, _], _ => rfl, a__law_odds_right := f29, d__law_odds_right := _, F__law_odds_right := fun_mk (st := s__law_odds_right) l29 c29 k29, g__law_odds_right := PySem.W.mg_of X G a29, b__law_odds_right := (fun_mk (st := s__law_odds_right) l29 c29 k29).binds (ps := ["_law_purse_here", "_law_text_here", "_law_marks", "_law_words"]) fun _ _ _ _ _ _ us hl => match us, hl with | [_, _, _, _], _ => rfl, a__law_right := f30, d__law_right := _, F__law_right := fun_mk (st := s__law_right) l30 c30 k30, g__law_right := PySem.W.mg_of X G a30, b__law_right := (fun_mk (st := s__law_right) l30 c30 k30).binds (ps := ["_law_purse_here"]) fun _ _ _ _ _ _ us hl => match us, hl with | [_], _ => rfl, a_law := fa, d_law := _, F_law := fun_mk (st := s_law) l31 c31 k31, g_law := PySem.W.mg_of X G a31, b_law := (fun_mk (st := s_law) l31 c31 k31).binds (ps := ["_law_script"]) fun _ _ _ _ _ _ us hl => match us, hl with | [_], _ => rfl, ne_InvalidMarks_InvalidText := RV.exm_other eCInvalidText icInvalidText tCInvalidText sb_InvalidMarks_InvalidText, ne_InvalidWords_InvalidText := RV.exm_other eCInvalidText icInvalidText tCInvalidText sb_InvalidWords_InvalidText, ne_InvalidWords_InvalidMarks := RV.exm_other eCInvalidMarks icInvalidMarks tCInvalidMarks sb_InvalidWords_InvalidMarks, m_all := PySem.W.mg_none_of X G z0, m_enumerate := PySem.W.mg_none_of X G z1, m_isinstance := PySem.W.mg_none_of X G z2, m_len := PySem.W.mg_none_of X G z3, m_list := PySem.W.mg_none_of X G z4, m_max := PySem.W.mg_none_of X G z5, m_min := PySem.W.mg_none_of X G z6, m_range := PySem.W.mg_none_of X G z7, m_repr := PySem.W.mg_none_of X G z8, m_str := PySem.W.mg_none_of X G z9, m_tuple := PySem.W.mg_none_of X G z10, m_zip := PySem.W.mg_none_of X G z11, t_LETTERS := tLETTERS, c_LETTERS := PySem.W.mg_of X G vLETTERS, t_LONGEST_WORD := tLONGEST_WORD, c_LONGEST_WORD := PySem.W.mg_of X G vLONGEST_WORD, a_MARK_PLACES := AMARK_PLACES, c_MARK_PLACES := PySem.W.mg_of X G vMARK_PLACES, e_MARK_PLACES := EMARK_PLACES, n_MARK_PLACES := NMARK_PLACES, k_MARK_PLACES := ⟨wMARK_PLACES, xMARK_PLACES, yMARK_PLACES⟩, i_MARK_PLACES := nsIn_keys wMARK_PLACES uMARK_PLACES }
  exact ⟨PySem.W.fnOf "law" "law" (defArgs s_law) (defBody s_law) (defScope s_law) .none kV31 dc31 pm31 an31 cd31 ct31, fun s v => .of_eq rfl, fun base _ _ => ok_law T⟩
end RV
open PySem PySem.W PyProof.Rows
set_option maxRecDepth 100000 in
set_option maxHeartbeats 0 in
theorem PySem.Challenge.cw_reflows_k11_texts_told_holds : PySem.Challenge.rw_reflows_k11_texts_told.Holds := by
  w_on; o_law; k_head; (case hw => w_witness2)
  k_fill
  refine RV.walkG (l := PySem.Challenge.rw_reflows_k11_texts_told) (n := 63) (k := 11) (x := "_law_script") (sp := fun w => RV.spLawS _) rfl (by decide) rfl ⟨rfl, by decide, by decide⟩ (fun w h Y => PySem.W.kIn_of Y) ?F (by decide +kernel) (fun _ => rfl) (fun _ _ a ns hl sy hS => ⟨a, ns, rfl, sy, hS, hl, fun _ => rfl⟩)
  case F =>
    intro w mg fa h KX G hmg
    refine' RV.all_mk KX G hmg ?a1 ?l1 ?c1 ?k1 ?a2 ?l2 ?c2 ?k2 ?a3 ?l3 ?c3 ?k3 ?a4 ?l4 ?c4 ?k4 ?a5 ?l5 ?c5 ?k5 ?a6 ?l6 ?c6 ?k6 ?a7 ?l7 ?c7 ?k7 ?a8 ?l8 ?c8 ?k8 ?a9 ?l9 ?c9 ?k9 ?a10 ?l10 ?c10 ?k10 ?a11 ?l11 ?c11 ?k11 ?a12 ?l12 ?c12 ?k12 ?a13 ?l13 ?c13 ?k13 ?a14 ?l14 ?c14 ?k14 ?a15 ?l15 ?c15 ?k15 ?a16 ?l16 ?c16 ?k16 ?a17 ?l17 ?c17 ?k17 ?a18 ?l18 ?c18 ?k18 ?a19 ?l19 ?c19 ?k19 ?a20 ?l20 ?c20 ?k20 ?a21 ?l21 ?c21 ?k21 ?a22 ?l22 ?c22 ?k22 ?a23 ?l23 ?c23 ?k23 ?a24 ?l24 ?c24 ?k24 ?a25 ?l25 ?c25 ?k25 ?a26 ?l26 ?c26 ?k26 ?a27 ?l27 ?c27 ?k27 ?a28 ?l28 ?c28 ?k28 ?a29 ?l29 ?c29 ?k29 ?a30 ?l30 ?c30 ?k30 ?a31 ?l31 ?c31 ?k31 ?gReflowError ?gInvalidMark ?xLInvalidMark ?saInvalidMark ?gaInvalidMark ?ggInvalidMark ?nbInvalidMark ?iCInvalidMark ?tIInvalidMark ?lInvalidMark ?cInvalidMark ?ceInvalidMark ?coInvalidMark ?vfInvalidMark ?feInvalidMark ?kCInvalidMark ?eCInvalidMark ?veInvalidMark ?meInvalidMark ?tCInvalidMark ?hCInvalidMark ?icInvalidMark ?sCInvalidMark ?suInvalidMark ?xiInvalidMark ?gInvalidMarks ?xLInvalidMarks ?saInvalidMarks ?gaInvalidMarks ?ggInvalidMarks ?nbInvalidMarks ?iCInvalidMarks ?tIInvalidMarks ?lInvalidMarks ?cInvalidMarks ?ceInvalidMarks ?coInvalidMarks ?vfInvalidMarks ?feInvalidMarks ?kCInvalidMarks ?eCInvalidMarks ?veInvalidMarks ?meInvalidMarks ?tCInvalidMarks ?hCInvalidMarks ?icInvalidMarks ?sCInvalidMarks ?suInvalidMarks ?xiInvalidMarks ?gInvalidWords ?xLInvalidWords ?saInvalidWords ?gaInvalidWords ?ggInvalidWords ?nbInvalidWords ?iCInvalidWords ?tIInvalidWords ?lInvalidWords ?cInvalidWords ?ceInvalidWords ?coInvalidWords ?vfInvalidWords ?feInvalidWords ?kCInvalidWords ?eCInvalidWords ?veInvalidWords ?meInvalidWords ?tCInvalidWords ?hCInvalidWords ?icInvalidWords ?sCInvalidWords ?suInvalidWords ?xiInvalidWords ?gInvalidText ?xLInvalidText ?saInvalidText ?gaInvalidText ?ggInvalidText ?nbInvalidText ?iCInvalidText ?tIInvalidText ?lInvalidText ?cInvalidText ?ceInvalidText ?coInvalidText ?vfInvalidText ?feInvalidText ?kCInvalidText ?eCInvalidText ?veInvalidText ?meInvalidText ?tCInvalidText ?hCInvalidText ?icInvalidText ?sCInvalidText ?suInvalidText ?xiInvalidText ?tp ?zsuper ?top ?sb_InvalidMarks_InvalidText ?sb_InvalidWords_InvalidText ?sb_InvalidWords_InvalidMarks ?z0 ?z1 ?z2 ?z3 ?z4 ?z5 ?z6 ?z7 ?z8 ?z9 ?z10 ?z11 ?vLETTERS ?vLONGEST_WORD ?vMARK_PLACES ?wMARK_PLACES ?yMARK_PLACES ?xMARK_PLACES ?uMARK_PLACES
    (case a1 => first | k_is | kx_is | ks_is | rfl); (case l1 => first | k_is | kx_is | ks_is | rfl); (case c1 => first | k_is | kx_is | ks_is | rfl); (case k1 => first | k_is | kx_is | ks_is | rfl); (case a2 => first | k_is | kx_is | ks_is | rfl); (case l2 => first | k_is | kx_is | ks_is | rfl); (case c2 => first | k_is | kx_is | ks_is | rfl); (case k2 => first | k_is | kx_is | ks_is | rfl); (case a3 => first | k_is | kx_is | ks_is | rfl); (case l3 => first | k_is | kx_is | ks_is | rfl); (case c3 => first | k_is | kx_is | ks_is | rfl); (case k3 => first | k_is | kx_is | ks_is | rfl); (case a4 => first | k_is | kx_is | ks_is | rfl); (case l4 => first | k_is | kx_is | ks_is | rfl); (case c4 => first | k_is | kx_is | ks_is | rfl); (case k4 => first | k_is | kx_is | ks_is | rfl); (case a5 => first | k_is | kx_is | ks_is | rfl); (case l5 => first | k_is | kx_is | ks_is | rfl); (case c5 => first | k_is | kx_is | ks_is | rfl); (case k5 => first | k_is | kx_is | ks_is | rfl); (case a6 => first | k_is | kx_is | ks_is | rfl); (case l6 => first | k_is | kx_is | ks_is | rfl); (case c6 => first | k_is | kx_is | ks_is | rfl); (case k6 => first | k_is | kx_is | ks_is | rfl); (case a7 => first | k_is | kx_is | ks_is | rfl); (case l7 => first | k_is | kx_is | ks_is | rfl); (case c7 => first | k_is | kx_is | ks_is | rfl); (case k7 => first | k_is | kx_is | ks_is | rfl); (case a8 => first | k_is | kx_is | ks_is | rfl); (case l8 => first | k_is | kx_is | ks_is | rfl); (case c8 => first | k_is | kx_is | ks_is | rfl); (case k8 => first | k_is | kx_is | ks_is | rfl); (case a9 => first | k_is | kx_is | ks_is | rfl); (case l9 => first | k_is | kx_is | ks_is | rfl); (case c9 => first | k_is | kx_is | ks_is | rfl); (case k9 => first | k_is | kx_is | ks_is | rfl); (case a10 => first | k_is | kx_is | ks_is | rfl); (case l10 => first | k_is | kx_is | ks_is | rfl); (case c10 => first | k_is | kx_is | ks_is | rfl); (case k10 => first | k_is | kx_is | ks_is | rfl); (case a11 => first | k_is | kx_is | ks_is | rfl); (case l11 => first | k_is | kx_is | ks_is | rfl); (case c11 => first | k_is | kx_is | ks_is | rfl); (case k11 => first | k_is | kx_is | ks_is | rfl); (case a12 => first | k_is | kx_is | ks_is | rfl); (case l12 => first | k_is | kx_is | ks_is | rfl); (case c12 => first | k_is | kx_is | ks_is | rfl); (case k12 => first | k_is | kx_is | ks_is | rfl); (case a13 => first | k_is | kx_is | ks_is | rfl); (case l13 => first | k_is | kx_is | ks_is | rfl); (case c13 => first | k_is | kx_is | ks_is | rfl); (case k13 => first | k_is | kx_is | ks_is | rfl); (case a14 => first | k_is | kx_is | ks_is | rfl); (case l14 => first | k_is | kx_is | ks_is | rfl); (case c14 => first | k_is | kx_is | ks_is | rfl); (case k14 => first | k_is | kx_is | ks_is | rfl); (case a15 => first | k_is | kx_is | ks_is | rfl); (case l15 => first | k_is | kx_is | ks_is | rfl); (case c15 => first | k_is | kx_is | ks_is | rfl); (case k15 => first | k_is | kx_is | ks_is | rfl); (case a16 => first | k_is | kx_is | ks_is | rfl); (case l16 => first | k_is | kx_is | ks_is | rfl); (case c16 => first | k_is | kx_is | ks_is | rfl); (case k16 => first | k_is | kx_is | ks_is | rfl); (case a17 => first | k_is | kx_is | ks_is | rfl); (case l17 => first | k_is | kx_is | ks_is | rfl); (case c17 => first | k_is | kx_is | ks_is | rfl); (case k17 => first | k_is | kx_is | ks_is | rfl); (case a18 => first | k_is | kx_is | ks_is | rfl); (case l18 => first | k_is | kx_is | ks_is | rfl); (case c18 => first | k_is | kx_is | ks_is | rfl); (case k18 => first | k_is | kx_is | ks_is | rfl); (case a19 => first | k_is | kx_is | ks_is | rfl); (case l19 => first | k_is | kx_is | ks_is | rfl); (case c19 => first | k_is | kx_is | ks_is | rfl); (case k19 => first | k_is | kx_is | ks_is | rfl); (case a20 => first | k_is | kx_is | ks_is | rfl); (case l20 => first | k_is | kx_is | ks_is | rfl); (case c20 => first | k_is | kx_is | ks_is | rfl); (case k20 => first | k_is | kx_is | ks_is | rfl); (case a21 => first | k_is | kx_is | ks_is | rfl); (case l21 => first | k_is | kx_is | ks_is | rfl); (case c21 => first | k_is | kx_is | ks_is | rfl); (case k21 => first | k_is | kx_is | ks_is | rfl); (case a22 => first | k_is | kx_is | ks_is | rfl); (case l22 => first | k_is | kx_is | ks_is | rfl); (case c22 => first | k_is | kx_is | ks_is | rfl); (case k22 => first | k_is | kx_is | ks_is | rfl); (case a23 => first | k_is | kx_is | ks_is | rfl); (case l23 => first | k_is | kx_is | ks_is | rfl); (case c23 => first | k_is | kx_is | ks_is | rfl); (case k23 => first | k_is | kx_is | ks_is | rfl); (case a24 => first | k_is | kx_is | ks_is | rfl); (case l24 => first | k_is | kx_is | ks_is | rfl); (case c24 => first | k_is | kx_is | ks_is | rfl); (case k24 => first | k_is | kx_is | ks_is | rfl); (case a25 => first | k_is | kx_is | ks_is | rfl); (case l25 => first | k_is | kx_is | ks_is | rfl); (case c25 => first | k_is | kx_is | ks_is | rfl); (case k25 => first | k_is | kx_is | ks_is | rfl); (case a26 => first | k_is | kx_is | ks_is | rfl); (case l26 => first | k_is | kx_is | ks_is | rfl); (case c26 => first | k_is | kx_is | ks_is | rfl); (case k26 => first | k_is | kx_is | ks_is | rfl); (case a27 => first | k_is | kx_is | ks_is | rfl); (case l27 => first | k_is | kx_is | ks_is | rfl); (case c27 => first | k_is | kx_is | ks_is | rfl); (case k27 => first | k_is | kx_is | ks_is | rfl); (case a28 => first | k_is | kx_is | ks_is | rfl); (case l28 => first | k_is | kx_is | ks_is | rfl); (case c28 => first | k_is | kx_is | ks_is | rfl); (case k28 => first | k_is | kx_is | ks_is | rfl); (case a29 => first | k_is | kx_is | ks_is | rfl); (case l29 => first | k_is | kx_is | ks_is | rfl); (case c29 => first | k_is | kx_is | ks_is | rfl); (case k29 => first | k_is | kx_is | ks_is | rfl); (case a30 => first | k_is | kx_is | ks_is | rfl); (case l30 => first | k_is | kx_is | ks_is | rfl); (case c30 => first | k_is | kx_is | ks_is | rfl); (case k30 => first | k_is | kx_is | ks_is | rfl); (case a31 => first | k_is | kx_is | ks_is | rfl); (case l31 => first | k_is | kx_is | ks_is | rfl); (case c31 => first | k_is | kx_is | ks_is | rfl); (case k31 => first | k_is | kx_is | ks_is | rfl); (case gReflowError => first | k_is | kx_is | ks_is | rfl); (case gInvalidMark => first | k_is | kx_is | ks_is | rfl); (case xLInvalidMark => first | k_is | kx_is | ks_is | rfl); (case saInvalidMark => first | k_is | kx_is | ks_is | rfl); (case gaInvalidMark => first | k_is | kx_is | ks_is | rfl); (case ggInvalidMark => first | k_is | kx_is | ks_is | rfl); (case nbInvalidMark => first | k_is | kx_is | ks_is | rfl); (case iCInvalidMark => first | k_is | kx_is | ks_is | rfl); (case tIInvalidMark => first | k_is | kx_is | ks_is | rfl); (case lInvalidMark => first | k_is | kx_is | ks_is | rfl); (case cInvalidMark => first | k_is | kx_is | ks_is | rfl); (case ceInvalidMark => first | k_is | kx_is | ks_is | rfl); (case coInvalidMark => first | k_is | kx_is | ks_is | rfl); (case kCInvalidMark => first | k_is | kx_is | ks_is | rfl); (case eCInvalidMark => first | k_is | kx_is | ks_is | rfl); (case veInvalidMark => first | k_is | kx_is | ks_is | rfl); (case meInvalidMark => first | k_is | kx_is | ks_is | rfl); (case tCInvalidMark => first | k_is | kx_is | ks_is | rfl); (case hCInvalidMark => first | k_is | kx_is | ks_is | rfl); (case icInvalidMark => first | k_is | kx_is | ks_is | rfl); (case sCInvalidMark => first | k_is | kx_is | ks_is | rfl); (case suInvalidMark => first | k_is | kx_is | ks_is | rfl); (case xiInvalidMark => first | k_is | kx_is | ks_is | rfl); (case gInvalidMarks => first | k_is | kx_is | ks_is | rfl); (case xLInvalidMarks => first | k_is | kx_is | ks_is | rfl); (case saInvalidMarks => first | k_is | kx_is | ks_is | rfl); (case gaInvalidMarks => first | k_is | kx_is | ks_is | rfl); (case ggInvalidMarks => first | k_is | kx_is | ks_is | rfl); (case nbInvalidMarks => first | k_is | kx_is | ks_is | rfl); (case iCInvalidMarks => first | k_is | kx_is | ks_is | rfl); (case tIInvalidMarks => first | k_is | kx_is | ks_is | rfl); (case lInvalidMarks => first | k_is | kx_is | ks_is | rfl); (case cInvalidMarks => first | k_is | kx_is | ks_is | rfl); (case ceInvalidMarks => first | k_is | kx_is | ks_is | rfl); (case coInvalidMarks => first | k_is | kx_is | ks_is | rfl); (case kCInvalidMarks => first | k_is | kx_is | ks_is | rfl); (case eCInvalidMarks => first | k_is | kx_is | ks_is | rfl); (case veInvalidMarks => first | k_is | kx_is | ks_is | rfl); (case meInvalidMarks => first | k_is | kx_is | ks_is | rfl); (case tCInvalidMarks => first | k_is | kx_is | ks_is | rfl); (case hCInvalidMarks => first | k_is | kx_is | ks_is | rfl); (case icInvalidMarks => first | k_is | kx_is | ks_is | rfl); (case sCInvalidMarks => first | k_is | kx_is | ks_is | rfl); (case suInvalidMarks => first | k_is | kx_is | ks_is | rfl); (case xiInvalidMarks => first | k_is | kx_is | ks_is | rfl); (case gInvalidWords => first | k_is | kx_is | ks_is | rfl); (case xLInvalidWords => first | k_is | kx_is | ks_is | rfl); (case saInvalidWords => first | k_is | kx_is | ks_is | rfl); (case gaInvalidWords => first | k_is | kx_is | ks_is | rfl); (case ggInvalidWords => first | k_is | kx_is | ks_is | rfl); (case nbInvalidWords => first | k_is | kx_is | ks_is | rfl); (case iCInvalidWords => first | k_is | kx_is | ks_is | rfl); (case tIInvalidWords => first | k_is | kx_is | ks_is | rfl); (case lInvalidWords => first | k_is | kx_is | ks_is | rfl); (case cInvalidWords => first | k_is | kx_is | ks_is | rfl); (case ceInvalidWords => first | k_is | kx_is | ks_is | rfl); (case coInvalidWords => first | k_is | kx_is | ks_is | rfl); (case kCInvalidWords => first | k_is | kx_is | ks_is | rfl); (case eCInvalidWords => first | k_is | kx_is | ks_is | rfl); (case veInvalidWords => first | k_is | kx_is | ks_is | rfl); (case meInvalidWords => first | k_is | kx_is | ks_is | rfl); (case tCInvalidWords => first | k_is | kx_is | ks_is | rfl); (case hCInvalidWords => first | k_is | kx_is | ks_is | rfl); (case icInvalidWords => first | k_is | kx_is | ks_is | rfl); (case sCInvalidWords => first | k_is | kx_is | ks_is | rfl); (case suInvalidWords => first | k_is | kx_is | ks_is | rfl); (case xiInvalidWords => first | k_is | kx_is | ks_is | rfl); (case gInvalidText => first | k_is | kx_is | ks_is | rfl); (case xLInvalidText => first | k_is | kx_is | ks_is | rfl); (case saInvalidText => first | k_is | kx_is | ks_is | rfl); (case gaInvalidText => first | k_is | kx_is | ks_is | rfl); (case ggInvalidText => first | k_is | kx_is | ks_is | rfl); (case nbInvalidText => first | k_is | kx_is | ks_is | rfl); (case iCInvalidText => first | k_is | kx_is | ks_is | rfl); (case tIInvalidText => first | k_is | kx_is | ks_is | rfl); (case lInvalidText => first | k_is | kx_is | ks_is | rfl); (case cInvalidText => first | k_is | kx_is | ks_is | rfl); (case ceInvalidText => first | k_is | kx_is | ks_is | rfl); (case coInvalidText => first | k_is | kx_is | ks_is | rfl); (case kCInvalidText => first | k_is | kx_is | ks_is | rfl); (case eCInvalidText => first | k_is | kx_is | ks_is | rfl); (case veInvalidText => first | k_is | kx_is | ks_is | rfl); (case meInvalidText => first | k_is | kx_is | ks_is | rfl); (case tCInvalidText => first | k_is | kx_is | ks_is | rfl); (case hCInvalidText => first | k_is | kx_is | ks_is | rfl); (case icInvalidText => first | k_is | kx_is | ks_is | rfl); (case sCInvalidText => first | k_is | kx_is | ks_is | rfl); (case suInvalidText => first | k_is | kx_is | ks_is | rfl); (case xiInvalidText => first | k_is | kx_is | ks_is | rfl); (case tp => first | k_is | kx_is | ks_is | rfl); (case zsuper => first | k_is | kx_is | ks_is | rfl); (case sb_InvalidMarks_InvalidText => first | k_is | kx_is | ks_is | rfl); (case sb_InvalidWords_InvalidText => first | k_is | kx_is | ks_is | rfl); (case sb_InvalidWords_InvalidMarks => first | k_is | kx_is | ks_is | rfl); (case z0 => first | k_is | kx_is | ks_is | rfl); (case z1 => first | k_is | kx_is | ks_is | rfl); (case z2 => first | k_is | kx_is | ks_is | rfl); (case z3 => first | k_is | kx_is | ks_is | rfl); (case z4 => first | k_is | kx_is | ks_is | rfl); (case z5 => first | k_is | kx_is | ks_is | rfl); (case z6 => first | k_is | kx_is | ks_is | rfl); (case z7 => first | k_is | kx_is | ks_is | rfl); (case z8 => first | k_is | kx_is | ks_is | rfl); (case z9 => first | k_is | kx_is | ks_is | rfl); (case z10 => first | k_is | kx_is | ks_is | rfl); (case z11 => first | k_is | kx_is | ks_is | rfl); (case vLETTERS => first | k_is | kx_is | ks_is | rfl); (case vLONGEST_WORD => first | k_is | kx_is | ks_is | rfl); (case vMARK_PLACES => first | k_is | kx_is | ks_is | rfl); (case wMARK_PLACES => first | k_is | kx_is | ks_is | rfl)
    (case vfInvalidMark => rfl)
    (case feInvalidMark => rfl)
    (case vfInvalidMarks => rfl)
    (case feInvalidMarks => rfl)
    (case vfInvalidWords => rfl)
    (case feInvalidWords => rfl)
    (case vfInvalidText => rfl)
    (case feInvalidText => rfl)
    (case top => rfl)
    (case yMARK_PLACES => decide)
    (case xMARK_PLACES => exact ⟨⟨_, _, rfl, rfl⟩, ⟨⟨_, _, rfl, rfl⟩, ⟨⟨_, _, rfl, rfl⟩, ⟨⟨_, _, rfl, rfl⟩, ⟨⟨_, _, rfl, rfl⟩, ⟨⟨_, _, rfl, rfl⟩, ⟨⟨_, _, rfl, rfl⟩, ⟨⟨_, _, rfl, rfl⟩, ⟨⟨_, _, rfl, rfl⟩, ⟨⟨_, _, rfl, rfl⟩, ⟨⟨_, _, rfl, rfl⟩, ⟨⟨_, _, rfl, rfl⟩, ⟨⟨_, _, rfl, rfl⟩, trivial⟩⟩⟩⟩⟩⟩⟩⟩⟩⟩⟩⟩⟩)
    (case uMARK_PLACES => exact ⟨⟨_, rfl⟩, ⟨⟨_, rfl⟩, ⟨⟨_, rfl⟩, ⟨⟨_, rfl⟩, ⟨⟨_, rfl⟩, ⟨⟨_, rfl⟩, ⟨⟨_, rfl⟩, ⟨⟨_, rfl⟩, ⟨⟨_, rfl⟩, ⟨⟨_, rfl⟩, ⟨⟨_, rfl⟩, ⟨⟨_, rfl⟩, ⟨⟨_, rfl⟩, trivial⟩⟩⟩⟩⟩⟩⟩⟩⟩⟩⟩⟩⟩)


