import PyProof.Rows.All
import Wide.All
import OpenK.AllK
import Wide.FinOn
import PyProof.NeKinds
import HandS.ForMost
import HandS.IsInst
import HandS.Wide
import HandS.Walk
import HandS.More
import HandS.Flow
import KE.KUnpack
import PyProof.ReprRoads
import HandS.Exc
import PyProof.ReprLen
import PyProof.StrLawsRepr
import PyProof.EqAt
import PyProof.EqKinds
import PyProof.TupleCall
import KE.KExcSuper
import KE.KExcLine
import HandS.ForExc
import PyProof.StrOps2
import PySem.Challenge.RW_reflows_k15_writings_of_texts
set_option Elab.async false
set_option linter.all false
set_option maxRecDepth 100000
namespace PySem.SeqAt
open AutoSeq1 (wpAny_loadPart')
open MeetsSeq
theorem dict_ne_declines_tuple (l b : Addr) (items2 : Array Value) (es : Array DictEntry) (n n2 : Nat) (dd dd2 : Option Addr) (sl sl2 : Array (Option Value)) :
    Meets (Builtin.«dict.__ne__» ⟨[.ref l, .ref b], []⟩) (fun _ R s => s.heap.get? l = some { cls := .type "dict", dict := dd, data := .dict es n, slots := sl } ∧ s.heap.get? b = some { cls := .type "tuple", dict := dd2, data := .seq items2 n2, slots := sl2 } ∧ R (.ok (.ret .notImplemented)) s) :=
  .of_wp fun prog w A R s h => by obtain ⟨hp, g, d, tk, os⟩ := s; obtain ⟨hl, hb, h⟩ := h; have f1 := F.sub_tuple_dict; wp_walk using wpAny_loadPart' hl, wpAny_loadPart' hb; exact ⟨_, rfl, h⟩
theorem tuple_ne_declines_dict (l b : Addr) (items : Array Value) (es : Array DictEntry) (n n2 : Nat) (dd dd2 : Option Addr) (sl sl2 : Array (Option Value)) :
    Meets (Builtin.«tuple.__ne__» ⟨[.ref l, .ref b], []⟩) (fun _ R s => s.heap.get? l = some { cls := .type "tuple", dict := dd, data := .seq items n, slots := sl } ∧ s.heap.get? b = some { cls := .type "dict", dict := dd2, data := .dict es n2, slots := sl2 } ∧ R (.ok (.ret .notImplemented)) s) :=
  .of_wp fun prog w A R s h => by obtain ⟨hp, g, d, tk, os⟩ := s; obtain ⟨hl, hb, h⟩ := h; have f1 := F.sub_dict_tuple; wp_walk using wpAny_loadPart' hl, wpAny_loadPart' hb; exact ⟨_, rfl, h⟩
end PySem.SeqAt
namespace RV
open PySem PySem.Spec PyProof.Rows L2 PySem.SeqAt
section
variable {X : Cx}
/-- a dict is no tuple -/
def rNeDT (K : PySem.W.Frag) : R2 := fun x y H Q => ∃ a b kvs xs, x = .ref a ∧ y = .ref b ∧ H a = some (.dK kvs) ∧ H b = some (.tup xs) ∧ Q (.bl true) H
theorem op_ne_dt (hu : X.A.units < cLine) : OpR X (compareOp .NotEq) (rNeDT X.K) := by
  intro pins s σ H x y v u Q I rx ry h
  obtain ⟨a, b, kvs, xs, rfl, rfl, ha, hb, q⟩ := h
  cases (show v = Value.ref a from rx)
  cases (show u = Value.ref b from ry)
  have nab : a ≠ b := ne_of ha hb (by intro z; cases z)
  obtain ⟨_, _, vs, _, o, es, ep, h1, h2, h3, _⟩ := (show ObjOk X.prog X.w H s.heap a (.dK kvs) from I.hok a _ ha)
  obtain ⟨_, its, rv, o2, g1, g2, n2, g3⟩ := (show ObjOk X.prog X.w H s.heap b (.tup xs) from I.hok b _ hb)
  obtain ⟨c1, d1, e1, s1⟩ := o
  obtain ⟨c2, d2, e2, s2⟩ := o2
  have h21 : c1 = .type "dict" := h2.1
  simp only at h21 h3 g2 g3
  subst h21 h3 g2 g3
  exact (rc_ne_decline_or (k := false) ⟨_, h1, rfl⟩ ⟨_, g1, rfl⟩ (by decide) F.sub_tuple_dict F.slot_dict_ne F.slot_tuple_ne_refl
    (fun _ hq => call_meets F.slot_dict_ne ⟨_, h1, rfl⟩ F.entry_dict_ne (F.args_dict_ne_2 _ _) (dict_ne_declines_tuple a b _ _ _ _ _ _ _ _) ⟨h1, g1, hq⟩)
    (fun _ hq => call_meets F.slot_tuple_ne_refl ⟨_, g1, rfl⟩ F.entry_tuple_ne (F.args_tuple_ne_2 _ _) (tuple_ne_declines_dict b a _ _ _ _ _ _ _ _) ⟨g1, h1, hq⟩)
    (fun _ hq => wpAny_isSame_ref_other nab h1 g1 (by simp) hq) (.inr hu) ⟨.bl true, H, I, rfl, q⟩)
/-- != of data, or of a dict and a tuple -/
theorem op_neA (hu : X.A.units + 64 < cLine) : OpR X (compareOp .NotEq) (fun x y H Q => rNeD X.K x y H Q ∨ rNeDT X.K x y H Q) := (op_neD hu).or (op_ne_dt (by omega))
end
end RV

namespace RV
open PySem PySem.Spec PyProof.Rows L2 TL
/-! ### heaps -/
/-- all that was tracked, but what stands at p, is as it was -/
def Sam (p : Addr) (H H' : Hp) : Prop := ∀ b o, b ≠ p → H b = some o → H' b = some o
theorem Sam.refl (p : Addr) (H : Hp) : Sam p H H := fun _ _ _ h => h
theorem Sam.trans {p : Addr} {H H1 H2 : Hp} (a : Sam p H H1) (b : Sam p H1 H2) : Sam p H H2 := fun c o n h => b c o n (a c o n h)
theorem Sam.new {p l : Addr} {o : HO} {H H1 : Hp} (a : Sam p H H1) (n : H1 l = none) : Sam p H (upd H1 l o) := fun c u nc h => by
  have e := a c u nc h
  rw [upd_ne (ne_of_none e n)]
  exact e
theorem Sam.box {p : Addr} {o : HO} {H H1 : Hp} (a : Sam p H H1) : Sam p H (upd H1 p o) := fun c u nc h => by
  rw [upd_ne nc]
  exact a c u nc h
theorem same_new {H H1 : Hp} {p : Addr} {o : HO} (s : Same H H1) (h : H1 p = none) : Same H (upd H1 p o) := fun b x e => by
  have e1 := s b x e
  rw [upd_ne (ne_of_none e1 h)]
  exact e1
/-- p is new behind H: what is said of H holds on whatever stands at p -/
theorem same_sam {H H1 H2 : Hp} {p : Addr} (n : H p = none) (a : Same H H1) (b : Sam p H1 H2) : Same H H2 := fun c o h => b c o (ne_of_none h n) (a c o h)
theorem keep_new {H : Hp} {p q : Addr} {o u : HO} (h : H q = some u) (n : H p = none) : upd H p o q = some u := by
  rw [upd_ne (ne_of_none h n)]
  exact h
/-! ### the box of drawn digits -/
def BoxAt (H : Hp) (p : Addr) (n : Int) : Prop := ∃ a b c : Int, H p = some (.lst [.int a, .int b, .int c]) ∧ 0 ≤ a ∧ 0 ≤ b ∧ b < 2147483629 ∧ 0 ≤ c ∧ c ≤ n
theorem BoxAt.new {H : Hp} {p l : Addr} {n : Int} {o : HO} (b : BoxAt H p n) (h : H l = none) : BoxAt (upd H l o) p n := by
  obtain ⟨a, b, c, e, r⟩ := b
  exact ⟨a, b, c, keep_new e h, r⟩
theorem BoxAt.mono {H : Hp} {p : Addr} {n m : Int} (b : BoxAt H p n) (h : n ≤ m) : BoxAt H p m := by
  obtain ⟨a, b, c, e, h1, h2, h3, h4, h5⟩ := b
  exact ⟨a, b, c, e, h1, h2, h3, h4, Int.le_trans h5 h⟩
theorem BoxAt.ne {H : Hp} {p l : Addr} {n : Int} (b : BoxAt H p n) (h : H l = none) : p ≠ l := by
  obtain ⟨a, b, c, e, r⟩ := b
  exact ne_of_none e h
def spCell (K : PySem.W.Frag) : Sp := fun vs H Q _ => ∃ (l : Addr) (ns : List Int) (j : Nat), vs = [.ref l, .int (j : Int)] ∧ SqL K H l (ns.map V.int) ∧ j ≤ 1000 ∧ ∀ z : Int, Q (.int z) H
def spBox : Sp := fun vs H Q _ => ∃ z : Int, vs = [.int z] ∧ ∀ p (a : Int) (b : Int), H p = none → 0 ≤ a → 0 ≤ b → b < 2147483629 → Q (.ref p) (upd H p (.lst [.int a, .int b, .int 0]))
def spTake : Sp := fun vs H Q _ => ∃ (p : Addr) (m n : Int), vs = [.ref p, .int m] ∧ 1 ≤ m ∧ m.natAbs < 2 ^ 200 ∧ n ≤ 1000000 ∧ BoxAt H p n ∧
  ∀ d o, 0 ≤ d → d < m → BoxAt (upd H p o) p (n + 1) → Q (.int d) (upd H p o)
/-! ### kinds of values -/
inductive Ty7 (H : Hp) : V → String → Prop where
  | non : Ty7 H .non "NoneType"
  | bl (b : Bool) : Ty7 H (.bl b) "bool"
  | int (i : Int) : Ty7 H (.int i) "int"
  | str (z : Str) (h : z.length ≤ 100000) : Ty7 H (.str z) "str"
  | lst {a : Addr} {xs : List V} (e : H a = some (.lst xs)) : Ty7 H (.ref a) "list"
  | tup {a : Addr} {xs : List V} (e : H a = some (.tup xs)) : Ty7 H (.ref a) "tuple"
  | dct {a : Addr} {kvs : List (Key × V)} (e : H a = some (.dK kvs)) : Ty7 H (.ref a) "dict"
theorem Ty7.x {K : PySem.W.Frag} {H : Hp} {v : V} {t : String} (h : Ty7 H v t) : TyX K H v (.type t) := by
  cases h with
  | non => exact .base .non
  | bl b => exact .base (.bl b)
  | int i => exact .base (.int i)
  | str z => exact .base (.str z)
  | lst e => exact .base (.lst e)
  | tup e => exact .base (.tup e)
  | dct e => exact .base (.dK e)
theorem Ty7.up {H H' : Hp} {v : V} {t : String} (h : Ty7 H v t) (s : Same H H') : Ty7 H' v t := by
  cases h with
  | non => exact .non
  | bl b => exact .bl b
  | int i => exact .int i
  | str z l => exact .str z l
  | lst e => exact .lst (s _ _ e)
  | tup e => exact .tup (s _ _ e)
  | dct e => exact .dct (s _ _ e)
theorem Ty7.new {H : Hp} {v : V} {t : String} {p : Addr} {o : HO} (h : Ty7 H v t) (n : H p = none) : Ty7 (upd H p o) v t := h.up (same_new (Same.refl H) n)
def isStrV : V → Bool
  | .str _ => true
  | _ => false
def isIntV : V → Bool
  | .int _ => true
  | _ => false
def isBlV : V → Bool
  | .bl _ => true
  | _ => false
/-- kitB among the seven kinds -/
theorem kit_int {H : Hp} {v : V} {t : String} (h : Ty7 H v t) : kitB t "int" = some (isIntV v || isBlV v) := by
  cases h <;> first | (show _ = some true; decide +kernel) | (show _ = some false; decide +kernel)
theorem kit_bool {H : Hp} {v : V} {t : String} (h : Ty7 H v t) : kitB t "bool" = some (isBlV v) := by
  cases h <;> first | (show _ = some true; decide +kernel) | (show _ = some false; decide +kernel)
theorem kit_str {H : Hp} {v : V} {t : String} (h : Ty7 H v t) : kitB t "str" = some (isStrV v) := by
  cases h <;> first | (show _ = some true; decide +kernel) | (show _ = some false; decide +kernel)
theorem kit_tuple {H : Hp} {v : V} {t : String} (h : Ty7 H v t) : kitB t "tuple" = some (t == "tuple") := by
  cases h <;> decide +kernel
theorem kit_list {H : Hp} {v : V} {t : String} (h : Ty7 H v t) : kitB t "list" = some (t == "list") := by
  cases h <;> decide +kernel
/-! ### sizes -/
theorem sz {n : Nat} (h : n ≤ 200000) : n < sizeLine := Nat.lt_of_le_of_lt h (by decide)
theorem szl {n : Nat} (h : n ≤ 200000) : n ≤ sizeLine := Nat.le_of_lt (sz h)
theorem len_list (z : Str) : z.cps.toList.length = z.length := by simp [Str.length]
/-! ### words, marks -/
def onlyS (z cs : Str) : Bool := z.cps.toList.all fun c => decide (c ∈ cs.cps.toList)
def spOnly : Sp := fun vs H Q _ => ∃ z cs : Str, vs = [.str z, .str cs] ∧ z.length ≤ 100000 ∧ ∀ H', Same H H' → Q (.bl (onlyS z cs)) H'
def spWhole : Sp := fun vs H Q _ => ∃ (v : V) (t : String), vs = [v] ∧ Ty7 H v t ∧ Q (.bl (isIntV v)) H
def inI (v : V) (lo hi : Int) : Bool := match v with
  | .int i => decide (lo ≤ i) && decide (i ≤ hi)
  | _ => false
def spIsInteger : Sp := fun vs H Q _ => ∃ (v : V) (t : String) (lo hi : Int), vs = [v, .int lo, .int hi] ∧ Ty7 H v t ∧ Q (.bl (inI v lo hi)) H
def abc : Str := Str.ofString "abcdefghijklmnopqrstuvwxyz"
def wordS (z : Str) : Bool := decide (1 ≤ z.length) && decide (z.length ≤ 30) && onlyS z abc
def wordV : V → Bool
  | .str z => wordS z
  | _ => false
def spIsWord : Sp := fun vs H Q _ => ∃ (v : V) (t : String), vs = [v] ∧ Ty7 H v t ∧ ∀ H', Same H H' → Q (.bl (wordV v)) H'
def markS (z : Str) : Bool := decide (z ∈ ([" ", "#0", "#1", "#2", "#3", "|0", "|1", "|2", "|3", "/0", "/1", "/2", "/3"] : List Str))
def markV : V → Bool
  | .str z => markS z
  | _ => false
def spIsMark : Sp := fun vs H Q _ => ∃ (v : V) (t : String), vs = [v] ∧ Ty7 H v t ∧ Q (.bl (markV v)) H
/-- a tuple of a mark and a word -/
inductive Tok7 (H : Hp) : V → Bool → Prop where
  | odd {v : V} {t : String} (h : Ty7 H v t) (n : (t == "tuple") = false) : Tok7 H v false
  | len {a : Addr} {xs : List V} (e : H a = some (.tup xs)) (n : xs.length ≠ 2) : Tok7 H (.ref a) false
  | two {a : Addr} {x y : V} {s t : String} (e : H a = some (.tup [x, y])) (hx : Ty7 H x s) (hy : Ty7 H y t) : Tok7 H (.ref a) (markV x && wordV y)
def spIsToken : Sp := fun vs H Q _ => ∃ (v : V) (b : Bool), vs = [v] ∧ Tok7 H v b ∧ ∀ H', Same H H' → Q (.bl b) H'
/-! ### the law's readings of words and marks -/
theorem abc_list : abc.cps.toList = [97, 98, 99, 100, 101, 102, 103, 104, 105, 106, 107, 108, 109, 110, 111, 112, 113, 114, 115, 116, 117, 118, 119, 120, 121, 122] := by decide +kernel
theorem mem_abc (c : Nat) : c ∈ abc.cps.toList ↔ 97 ≤ c ∧ c ≤ 122 := by
  rw [abc_list]
  simp only [List.mem_cons, List.not_mem_nil, or_false]
  omega
def lawMarkS (z : Str) : Bool := decide (z = Str.ofString " ") || (decide (z.length = 2) && (match z.cps.toList with
  | c :: d :: _ => (decide (c = 35) || decide (c = 124) || decide (c = 47)) && (decide (d = 48) || decide (d = 49) || decide (d = 50) || decide (d = 51))
  | _ => false))
theorem str_eq {z : Str} {s : String} {l : List Nat} (h : (Str.ofString s).cps.toList = l) : (z = Str.ofString s) ↔ z.cps.toList = l := by
  constructor
  · intro e
    rw [e, h]
  · intro e
    rw [← h] at e
    have e2 : z.cps = (Str.ofString s).cps := Array.ext' e
    cases z
    cases q : Str.ofString s
    rw [q] at e2
    exact congrArg Str.mk e2
theorem markS_iff (z : Str) : markS z = true ↔ (z.cps.toList = [32] ∨ ∃ c d, z.cps.toList = [c, d] ∧ (c = 35 ∨ c = 124 ∨ c = 47) ∧ (d = 48 ∨ d = 49 ∨ d = 50 ∨ d = 51)) := by
  unfold markS
  rw [decide_eq_true_eq]
  simp only [List.mem_cons, List.not_mem_nil, or_false]
  rw [str_eq (s := " ") (l := [32]) (by decide +kernel), str_eq (s := "#0") (l := [35, 48]) (by decide +kernel), str_eq (s := "#1") (l := [35, 49]) (by decide +kernel), str_eq (s := "#2") (l := [35, 50]) (by decide +kernel), str_eq (s := "#3") (l := [35, 51]) (by decide +kernel),
    str_eq (s := "|0") (l := [124, 48]) (by decide +kernel), str_eq (s := "|1") (l := [124, 49]) (by decide +kernel), str_eq (s := "|2") (l := [124, 50]) (by decide +kernel), str_eq (s := "|3") (l := [124, 51]) (by decide +kernel),
    str_eq (s := "/0") (l := [47, 48]) (by decide +kernel), str_eq (s := "/1") (l := [47, 49]) (by decide +kernel), str_eq (s := "/2") (l := [47, 50]) (by decide +kernel), str_eq (s := "/3") (l := [47, 51]) (by decide +kernel)]
  constructor
  · rintro (h | h | h | h | h | h | h | h | h | h | h | h | h)
    · exact .inl h
    all_goals exact .inr ⟨_, _, h, by decide, by decide⟩
  · rintro (h | ⟨c, d, h, hc, hd⟩)
    · exact .inl h
    · rw [h]
      rcases hc with rfl | rfl | rfl <;> rcases hd with rfl | rfl | rfl | rfl <;> simp
/-! ### items, joins -/
theorem atI_all {xs : List V} {P : V → Prop} (h : ∀ x ∈ xs, P x) {d : Int} (h0 : 0 ≤ d) (h1 : d < xs.length) : ∃ v, atI xs d = some v ∧ P v := by
  obtain ⟨j, rfl⟩ : ∃ j : Nat, d = j := ⟨d.toNat, by omega⟩
  have hj : j < xs.length := by omega
  exact ⟨xs[j], atI_nat (List.getElem?_eq_getElem hj), h _ (List.getElem_mem hj)⟩
theorem atI_alln {xs : List Nat} {d : Int} (h0 : 0 ≤ d) (h1 : d < xs.length) : ∃ c, atI xs d = some c ∧ c ∈ xs := by
  obtain ⟨j, rfl⟩ : ∃ j : Nat, d = j := ⟨d.toNat, by omega⟩
  have hj : j < xs.length := by omega
  exact ⟨xs[j], atI_nat (List.getElem?_eq_getElem hj), List.getElem_mem hj⟩
def signs (l : List Nat) : List Str := l.map fun c => ⟨#[c]⟩
theorem joinL_signs : ∀ l : List Nat, joinL [] ((signs l).map tl) = l
  | [] => rfl
  | [c] => rfl
  | c :: d :: r => by
    have ih := joinL_signs (d :: r)
    show [c] ++ ([] ++ joinL [] ((signs (d :: r)).map tl)) = c :: d :: r
    rw [ih]
    rfl
theorem join_signs (l : List Nat) : Txt.join (Str.ofString "") (signs l) = ⟨l.toArray⟩ := by
  have e : tl (Txt.join (Str.ofString "") (signs l)) = l := by
    rw [join_eq, tl_join]
    exact joinL_signs l
  have e2 : (Txt.join (Str.ofString "") (signs l)).cps = l.toArray := Array.ext' (by rw [show (Txt.join (Str.ofString "") (signs l)).cps.toList = l from e])
  cases q : Txt.join (Str.ofString "") (signs l)
  rw [q] at e2
  exact congrArg Str.mk e2
theorem signs_sum (l : List Nat) : ((signs l).map (·.length)).sum = l.length := by
  induction l with
  | nil => rfl
  | cons c r ih =>
    show 1 + ((signs r).map (·.length)).sum = r.length + 1
    omega
theorem signs_len (l : List Nat) : (signs l).length = l.length := by simp [signs]
theorem len_mk (l : List Nat) : (⟨l.toArray⟩ : Str).length = l.length := by simp [Str.length]
theorem len_app (a b : Str) : (a ++ b).length = a.length + b.length := by
  show (a.cps ++ b.cps).size = _
  rw [Array.size_append]
  rfl
theorem len_one (c : Nat) : (⟨#[c]⟩ : Str).length = 1 := rfl
/-! ### plain texts -/
def Asc (z : Str) : Prop := ∀ c ∈ z.cps.toList, c < 128
theorem asc_app {a b : Str} (ha : Asc a) (hb : Asc b) : Asc (a ++ b) := fun c h => by
  rw [show (a ++ b).cps.toList = a.cps.toList ++ b.cps.toList from tl_append a b] at h
  exact (List.mem_append.mp h).elim (ha c) (hb c)
theorem asc_cut {a : Str} (h : Asc a) (lo hi : Option Int) : Asc (cutS a lo hi) := fun c hc => by
  have e : c ∈ (a.cps.toList.drop (HT.sIx a.length 0 lo)).take (HT.sIx a.length a.length hi - HT.sIx a.length 0 lo) := by
    simpa [cutS] using hc
  exact h c (List.mem_of_mem_drop (List.mem_of_mem_take e))
theorem asc_one {c : Nat} (h : c < 128) : Asc ⟨#[c]⟩ := fun d hd => by
  have : d = c := by simpa using hd
  omega
theorem asc_lit {s : String} (h : (Str.ofString s).cps.toList.all (· < 128) = true) : Asc (Str.ofString s) := fun c hc => of_decide_eq_true (List.all_eq_true.mp h c hc)
theorem asc_mk {l : List Nat} (h : ∀ c ∈ l, c < 128) : Asc ⟨l.toArray⟩ := fun c hc => h c (by simpa using hc)
def spNumber : Sp := fun vs H Q _ => ∃ (p : Addr) (n : Int), vs = [.ref p] ∧ n ≤ 100000 ∧ BoxAt H p n ∧ ∀ (z : Int) H', z.natAbs < 2 ^ 133 → Sam p H H' → BoxAt H' p (n + 10) → Q (.int z) H'
def spString : Sp := fun vs H Q _ => ∃ (p : Addr) (n : Int), vs = [.ref p] ∧ n ≤ 100000 ∧ BoxAt H p n ∧ ∀ (z : Str) H', z.length ≤ 200 → Asc z → Sam p H H' → BoxAt H' p (n + 20) → Q (.str z) H'
def spIsMarkL : Sp := fun vs H Q _ => ∃ z : Str, vs = [.str z] ∧ z.length ≤ 200 ∧ Asc z ∧ ∀ H', Same H H' → Q (.bl (markS z)) H'
def spIsWordL : Sp := fun vs H Q _ => ∃ z : Str, vs = [.str z] ∧ z.length ≤ 200 ∧ Asc z ∧ ∀ H', Same H H' → Q (.bl (wordS z)) H'
def spIs : Sp := fun vs H Q _ => ∃ a b : Bool, vs = [.bl a, .bl b] ∧ Q (.bl (decide (a = b))) H
/-! ### one sign among written ones -/
theorem one_eq {c k : Nat} {s : String} (h : (Str.ofString s).cps.toList = [k]) : (Str.ofString s == (⟨#[c]⟩ : Str)) = decide (c = k) := by
  rw [Bool.eq_iff_iff, beq_iff_eq, decide_eq_true_eq]
  constructor
  · intro e
    rw [e] at h
    exact (List.cons.inj (show [c] = [k] from h)).1
  · intro e
    refine ext_tl ?_
    rw [show tl (Str.ofString s) = [k] from h, e]
def eqv_strs_nil : ∀ l : List Str, PyData.eqv (.list (l.map PyData.str)) (.list []) = decide (l = [])
  | [] => by simp [PyData.eqv, PyData.eqvAll]
  | _ :: _ => by simp [PyData.eqv, PyData.eqvAll]
theorem lay_strs : ∀ l : List Str, (∀ z ∈ l, PyData.strOk z = true) → PyData.canLayAll0 (l.map PyData.str) = true
  | [], _ => by simp [PyData.canLayAll0]
  | z :: r, h => by
    simp only [List.map_cons, PyData.canLayAll0, PyData.canLay0, Bool.and_eq_true]
    exact ⟨h z (by simp), lay_strs r fun y hy => h y (by simp [hy])⟩
theorem dep_strs : ∀ l : List Str, PyData.depthAll (l.map PyData.str) = 0
  | [] => by simp [PyData.depthAll]
  | z :: r => by
    have := dep_strs r
    simp only [List.map_cons, PyData.depthAll, PyData.depth]
    omega
theorem shaped_strs (l : List Str) (h : ∀ z ∈ l, PyData.strOk z = true) : SeqAt.shaped (.list (l.map PyData.str)) = true := by
  have h2 : PyData.depth (.list (l.map PyData.str)) ≤ 64 := by
    simp only [PyData.depth]
    rw [dep_strs]
    omega
  show (PyData.canLay0 (.list (l.map PyData.str)) && decide (PyData.depth (.list (l.map PyData.str)) ≤ 64)) = true
  rw [Bool.and_eq_true]
  exact ⟨by simp only [PyData.canLay0]; exact lay_strs l h, decide_eq_true h2⟩
theorem dp_strs {K : PySem.W.Frag} {H : Hp} : ∀ l : List Str, DpAll K H (l.map V.str) (l.map PyData.str)
  | [] => .nil
  | z :: r => .cons (.str z) (dp_strs r)
theorem strOk_asc {z : Str} (h : Asc z) : PyData.strOk z = true := by
  unfold PyData.strOk
  rw [Array.all_eq_true']
  intro c hc
  have := h c (by simpa using hc)
  exact decide_eq_true (by omega)
def spLaw (K : PySem.W.Frag) : Sp := fun vs H Q _ => ∃ (a : Addr) (ns : List Int), vs = [.ref a] ∧ SqL K H a (ns.map V.int) ∧ ns.length ≤ 63 ∧ ∀ H', Q (.bl true) H'
theorem log_of {z : Int} {k : Nat} (h : z.natAbs < 2 ^ k) (h0 : 0 < k) (hk : k ≤ 1920) : z.natAbs.log2 < 1920 := Nat.lt_of_lt_of_le (PySem.Flt.log2_lt_of h0 h) hk
/-- a value of one of the seven kinds that is no int -/
def NoInt (H : Hp) (v : V) : Prop := ∃ t, Ty7 H v t ∧ isIntV v = false
theorem inI_no {v : V} {lo hi : Int} (h : isIntV v = false) : inI v lo hi = false := by
  cases v with
  | int i => exact absurd (show true = false from h) (fun e => nomatch e)
  | _ => rfl
end RV

namespace RV
open PySem PySem.Spec PyProof.Rows L2 TL
theorem andV_go {ta tb : TE} {σ : L2.St} {H : Hp} {Q : VK} {c d : Bool} (ha : ∀ Q' : VK, (∀ H', Same H H' → Q' (.bl c) H') → ta σ H Q') (hb : ∀ (H' : Hp) (Q' : VK), Same H H' → (∀ H'', Same H' H'' → Q' (.bl d) H'') → tb σ H' Q')
    (k : ∀ H', Same H H' → Q (.bl (c && d)) H') : tAndV ta tb σ H Q := by
  refine ha _ fun H1 s1 => ⟨c, rfl, ?_⟩
  cases c with
  | true => exact iteT (hb H1 _ s1 fun H2 s2 => k H2 (s1.trans s2))
  | false => exact iteF (k H1 s1)
theorem BoxAt.up {H H' : Hp} {p : Addr} {n : Int} (b : BoxAt H p n) (s : Same H H') : BoxAt H' p n := by
  obtain ⟨x, y, z, e, r⟩ := b
  exact ⟨x, y, z, s _ _ e, r⟩
theorem Tok7.up {H H' : Hp} {v : V} {b : Bool} (h : Tok7 H v b) (s : Same H H') : Tok7 H' v b := by
  cases h with
  | odd h n => exact .odd (h.up s) n
  | len e n => exact .len (s _ _ e) n
  | two e hx hy => exact .two (s _ _ e) (hx.up s) (hy.up s)
theorem Tok7.eq {H : Hp} {v : V} {b c : Bool} (h : Tok7 H v b) (e : b = c) : Tok7 H v c := e ▸ h
theorem keep_box {H : Hp} {p q : Addr} {o u : HO} (h : H q = some u) (n : q ≠ p) : upd H p o q = some u := by
  rw [upd_ne n]
  exact h
/-- what the last loop's items are -/
inductive Odd7 (H : Hp) : V → Prop where
  | non : Odd7 H .non
  | bl (b : Bool) : Odd7 H (.bl b)
  | int (z : Int) : Odd7 H (.int z)
  | lst {a : Addr} {l : List Str} (e : H a = some (.lst (l.map V.str))) (o : ∀ z ∈ l, Asc z) : Odd7 H (.ref a)
  | one {a : Addr} {z : Str} (e : H a = some (.tup [V.str z])) (o : Asc z) : Odd7 H (.ref a)
  | two {a : Addr} (e : H a = some (.tup [V.str (Str.ofString "#0"), V.str (Str.ofString "a")])) : Odd7 H (.ref a)
  | dct {a : Addr} {kvs : List (Key × V)} (e : H a = some (.dK kvs)) : Odd7 H (.ref a)
theorem shaped_tups (l : List Str) (h : ∀ z ∈ l, PyData.strOk z = true) : SeqAt.shaped (.tuple (l.map PyData.str)) = true := by
  have h2 : PyData.depth (.tuple (l.map PyData.str)) ≤ 64 := by
    simp only [PyData.depth]
    rw [dep_strs]
    omega
  show (PyData.canLay0 (.tuple (l.map PyData.str)) && decide (PyData.depth (.tuple (l.map PyData.str)) ≤ 64)) = true
  rw [Bool.and_eq_true]
  exact ⟨by simp only [PyData.canLay0]; exact lay_strs l h, decide_eq_true h2⟩
/-- the keys of a written dict -/
def KeysAre : List DictEntry → List Str → Prop
  | [], [] => True
  | e :: r, k :: ks => (∃ t, e.key = .str k t) ∧ KeysAre r ks
  | _, _ => False
theorem keys_find : ∀ {l : List DictEntry} {ks : List Str} (z : Str), KeysAre l ks → (l.find? (·.key.isStr z)).isSome = decide (z ∈ ks) ∧ l.any (·.refKey) = false
  | [], [], z, _ => ⟨by simp, rfl⟩
  | e :: r, k :: ks, z, h => by
    obtain ⟨⟨t, h1⟩, h2⟩ := h
    obtain ⟨i1, i2⟩ := keys_find (l := r) (ks := ks) z h2
    have e1 : e.key.isStr z = decide (z = k) := by
      rw [h1, Bool.eq_iff_iff, decide_eq_true_eq]
      show (k == z) = true ↔ _
      rw [beq_iff_eq]
      exact eq_comm
    have e2 : e.refKey = false := by
      unfold DictEntry.refKey
      rw [h1]
    constructor
    · rw [List.find?_cons, e1]
      by_cases c : z = k
      · rw [decide_eq_true c]
        simp [c]
      · rw [decide_eq_false c, i1]
        simp [c]
    · rw [List.any_cons, e2, i2]
      rfl
theorem nsIn_keys {K : PySem.W.Frag} {d : Addr} {es : Array DictEntry} {n : Nat} {ks : List Str} (lk : K.lookup d = some ⟨.type "dict", none, .dict es n, #[]⟩) (h : KeysAre es.toList ks) (z : Str) :
    ∃ r, PySem.W.nsIn K d z = some r ∧ r.isSome = decide (z ∈ ks) := by
  obtain ⟨h1, h2⟩ := keys_find z h
  unfold PySem.W.nsIn
  rw [lk]
  cases q : es.toList.find? (·.key.isStr z) with
  | some e =>
    rw [q] at h1
    exact ⟨some e.val, by simp only [q], h1⟩
  | none =>
    rw [q] at h1
    refine ⟨none, ?_, h1⟩
    simp only [q]
    rw [h2]
    rfl
theorem take_small (X c : Int) (h0 : 0 ≤ c) (h1 : c ≤ 1000001) : (X.fmod 2147483647 + 104729 * c).natAbs < 2 ^ 64 := by
  rw [Int.fmod_eq_emod_of_nonneg _ (by decide)]
  have z1 := Int.emod_nonneg X (show (2147483647 : Int) ≠ 0 by decide)
  have z2 := Int.emod_lt_of_pos X (show (0 : Int) < 2147483647 by decide)
  omega
end RV
namespace RV
open PySem PySem.Spec PyProof.Rows L2 TL
theorem pg_tupK {X : Cx} {K : PySem.W.Frag} {es : List Expr} {k : Nat} {t : TGs} {n : Nat} {pos : Pos} (hK : X.K = K) (hc : X.calm = true) (h : PGs X es t)
    (hn : (assignEach es X.env).length = n := by rfl) (hst : (assignEach es X.env).findIdx? (·.1) = none := by rfl) : PG X (.Tuple es k pos) (gTup K n t) := by
  subst hK
  exact pg_tup hc h hn hst
/-- a, b = a list of that length -/
def gLst (K : PySem.W.Frag) (n : Nat) (t : TGs) : TG := fun v σ H Q => ∃ a xs, v = .ref a ∧ SqL K H a xs ∧ xs.length = n ∧ t xs σ H Q
theorem pg_lstK {X : Cx} {K : PySem.W.Frag} {es : List Expr} {k : Nat} {t : TGs} {n : Nat} {pos : Pos} (hK : X.K = K) (hc : X.calm = true) (h : PGs X es t)
    (hn : (assignEach es X.env).length = n := by rfl) (hst : (assignEach es X.env).findIdx? (·.1) = none := by rfl) : PG X (.Tuple es k pos) (gLst K n t) := by
  subst hK
  refine ⟨fun pins s σ H v u Q I r hw => ?_⟩
  obtain ⟨a, xs, e1, hq, hl, hw⟩ := hw
  subst e1
  cases r
  obtain ⟨its, rv, ht, hz⟩ := I.list hq
  rw [assign_Tuple]
  refine wpAny_bind (wpAny_standAt ?_)
  unfold unpack
  rw [show (assignEach es X.env).length = its.toArray.size from by simp [hn, ← hl, rv.length], hst]
  refine wpAny_bind (wpAny_holding (PySem.W.kun_itemsOf (I.ok.hd hc) ht.isList fun h' hx => ?_))
  have I1 : Inv X pins σ H { s with heap := h' } := I.kept (t' := s.toks) fun b o e => hx b o (Nat.ne_of_lt (Heap.lt_size e)) e
  exact h.run pins _ σ H xs _ Q I1 (by simpa using rv) hw
end RV

/-! defs that show data (repr): their promise asks that no showing is under way -/
namespace RV
open PySem PySem.Spec PyProof.Rows L2
structure FnG (P : Program) (w : World) (K : PySem.W.Frag) (mg : Str → Option Value) (base : Heap) (CX : CXT) (k : Nat) (f : Addr) (fd : FuncData) (ps : List Str) (sp : Sp) : Prop where
  lenG : ∀ vs H Q E, sp vs H Q E → vs.length = ps.length
  runG : ∀ (A : Around) (outer : List Env) (s : Shared) (H : Hp) (args : Args) (us : List Value) (vs : List V) (Q : VK) (E : XK),
    A.guards = some [] → Room k A → Env0 P w K mg base A outer s H → BindsTo s fd args (ps.zip us) → Vals vs us → sp vs H Q E →
    codeAny (model P w) A (.call (.ref f) args) (CR CX outer P w H s Q E) s
section
variable {P : Program} {w : World} {K : PySem.W.Frag} {mg : Str → Option Value} {base : Heap} {CX : CXT} {k : Nat} {f : Addr} {fd : FuncData} {ps : List Str} {sp : Sp}
theorem gOf (F : FnOk P w K mg base CX k f fd ps sp) : FnG P w K mg base CX k f fd ps sp :=
  ⟨F.len, fun A outer s H args us vs Q E _ => F.run A outer s H args us vs Q E⟩
theorem FnG.mono {j : Nat} (F : FnG P w K mg base CX j f fd ps sp) (h : j ≤ k) : FnG P w K mg base CX k f fd ps sp :=
  ⟨F.lenG, fun A outer s H args us vs Q E g r => F.runG A outer s H args us vs Q E g (r.mono h)⟩
/-- the end of a def's body as the end of its call -/
theorem backG {A : Around} {outer : List Env} {s : Shared} {H : Hp} {Q : VK} {E : XK} {N : List Str} {qual : Str} {scope : Scope} {cdv : Value} {fl : Flow} {s' : Shared}
    (h : SP (cxOf CX P w K mg base N qual scope f cdv A outer s H E) [] { nx := fun _ H' => Q .non H', rt := Q } fl s') :
    CR CX outer P w H s Q E (.ok (.ret (match (generalizing := false) fl with | .ret v => v | _ => .none))) s' := by
  cases fl with
  | next =>
    obtain ⟨_, H', J, q⟩ := h
    exact ⟨.non, H', J.os, J.bare, J.base, J.hok, rfl, q⟩
  | ret u =>
    obtain ⟨v, _, H', J, rv, q⟩ := h
    exact ⟨v, H', J.os, J.bare, J.base, J.hok, rv, q⟩
  | brk =>
    obtain ⟨_, _, _, q⟩ := h
    exact False.elim q
  | cont =>
    obtain ⟨_, _, _, q⟩ := h
    exact False.elim q
/-- a def of the text, its promise for calls while nothing is shown -/
theorem okG {x qual : Str} {st : Stmt} {N : List Str} (F : Fun K x qual st f fd) (S : FnScope N ps (defScope st)) (len : ∀ vs H Q E, sp vs H Q E → vs.length = ps.length)
    (hb : ∀ (cdv : Value) (A : Around) (outer : List Env) (s : Shared) (H : Hp) (vs : List V) (Q : VK) (E : XK), A.guards = some [] → Room k (A.deeper (envOfC qual (defScope st) s.heap.objs.size f cdv)) → sp vs H Q E →
      ∃ t, PSs (cxOf CX P w K mg base N qual (defScope st) f cdv A outer s H E).nox (defBody st) t ∧ t { nx := fun _ H' => Q .non H', rt := Q } (start N vs) H) : FnG P w K mg base CX (k + 1) f fd ps sp := by
  obtain ⟨oc, od, kV, doc, pm, an, cdv, ct, osl, rfl, lk, hcd⟩ := F.ex
  constructor
  · exact len
  intro A outer s H args us vs Q E hgu room en bnd rel pre
  have stay : ∀ b o, base.get? b = some o → s.heap.get? b = some o := fun b o e => (en.bs b o e).1
  have locals : ∀ y ∈ ps.zip us, (defScope st).names.lookup y.1 = some .local ∨ ((defScope st).names.lookup y.1 = some .cell ∧ ((cellsFrom (s.heap.objs.size + 1) (defScope st).names []).lookup y.1).isSome = true) := by
    rintro ⟨n, v⟩ hy
    exact (S.par n (List.of_mem_zip hy).1).imp id fun q => ⟨q, PySem.W.cellsFrom_some _ _ _ (.inl q)⟩
  have inK := en.mod.kin.keeps stay
  apply codeAny_call_function room.depth (inK _ _ lk) rfl S.co S.gen rfl (PySem.W.codeRec_of inK hcd) (bnd _ _ _ _ _)
  apply wpAny_newFunctionEnv_cells S.kind locals
  rintro env rfl s1 made
  obtain ⟨t, walks, holds⟩ := hb cdv A outer s H vs Q E hgu (room.deeper _) pre
  constructor
  · exact (en.mod.nolimit.keeps stay).keeps made.toInCall.keep
  apply codeAny_func
  exact wpAny_mono (walks.nox.run [] s1 (start N vs) H _ (inv_start S room.hd en (len _ _ _ _ pre) rel made) holds) (fun _ _ z => backG z) fun _ _ z => z
end
section
variable {X : Cx} {CX : CXT} {k : Nat} {f : Addr} {fd : FuncData} {ps : List Str} {sp : Sp} {ds : List Value} {dvs : List V} {E : XK}
/-- such a def called, from where nothing is shown -/
theorem runG {pins : List (Addr × Obj)} {σ : L2.St} {H : Hp} {s : Shared} {Q : VK} {us : List Value} {vs : List V} (hgu : X.A.guards = some []) (F : FnG X.prog X.w X.K X.mg X.base CX k f fd ps sp) (hr : Room k X.A) (hb : Binds X.K fd ps ds) (hd : Vals dvs ds) (hx : Passes CX X E)
    (I : Inv X pins σ H s) (rel : Vals vs us) (pre : sp (vs ++ dvs) H Q E) : wpAny (model X.prog X.w) X.A (call (.ref f) us) (EP X pins σ Q) X.xe s := by
  have all : Vals (vs ++ dvs) (us ++ ds) := rel.append hd
  have n : (us ++ ds).length = ps.length := all.length.symm.trans (F.lenG _ _ _ _ pre)
  apply wpAny_call
  apply codeAny_mono (F.runG X.A X.stack s H ⟨us, []⟩ (us ++ ds) (vs ++ dvs) Q E hgu hr I.env0 (hb s us I.kIn n) all pre)
  intro res s' z
  match res, z with
  | .error e, z => exact hx pins σ H s e s' I z
  | .ok (.ret u), z => exact I.after z
  | .ok .next, z => exact False.elim z
  | .ok .brk, z => exact False.elim z
  | .ok .cont, z => exact False.elim z
theorem pe_callG {x : Str} {e : Expr} {es : List Expr} {p pos : Pos} {t : TA} (hgu : X.A.guards = some []) (F : FnG X.prog X.w X.K X.mg X.base CX k f fd ps sp) (hr : Room k X.A) (hg : Gl X x) (hm : X.mg x = some (.ref f)) (hk : PySem.W.keepIn X.K (.ref f) = true) (hb : Binds X.K fd ps ds) (hd : Vals dvs ds) (hx : Passes CX X E)
    (ha : PA X (e :: es) t) (hdb : (x == ("__debug__" : Str)) = false := by decide) (he : starEach (e :: es) X.env = (false, eval e X.env) :: starEach es X.env := by rfl) (hpl : (backTo pos (starEach es X.env)).any (·.1) = false := by rfl) :
    PE X (.Call (.Name x p) (e :: es) [] pos) (tCall sp dvs E t) := by
  constructor
  intro pins s σ H Q I h
  apply wpAny_Call_Name_kw
  apply ld_glob I hg hm _ hdb
  apply PySem.W.callWith_K (h₀ := X.base) I.ok.mod.kin hk _ he hpl
  exact thn (ha.run pos pins s σ H _ I h) fun us s1 ⟨vs, H1, I1, r, q⟩ => ⟨I1.kIn, runG hgu F hr hb hd hx I1 r q⟩
end
end RV

/-! repr of data -/
namespace RV
open PySem PySem.Spec PyProof.Rows L2
mutual
/-- v stands for the data d, all of whose objects are tracked -/
inductive Dx (H : Hp) : V → PyData → Prop
  | non : Dx H .non .none
  | bl (b : Bool) : Dx H (.bl b) (.bool b)
  | int (i : Int) : Dx H (.int i) (.int i)
  | str (x : Str) : Dx H (.str x) (.str x)
  | lst {a : Addr} {xs : List V} {ds : List PyData} : H a = some (.lst xs) → DxAll H xs ds → Dx H (.ref a) (.list ds)
  | tup {a : Addr} {xs : List V} {ds : List PyData} : H a = some (.tup xs) → DxAll H xs ds → Dx H (.ref a) (.tuple ds)
  | dct0 {a : Addr} : H a = some (.dK []) → Dx H (.ref a) (.dict [])
inductive DxAll (H : Hp) : List V → List PyData → Prop
  | nil : DxAll H [] []
  | cons {v : V} {vs : List V} {d : PyData} {ds : List PyData} : Dx H v d → DxAll H vs ds → DxAll H (v :: vs) (d :: ds)
end
mutual
theorem Dx.up {H H' : Hp} (s : Same H H') : ∀ (d : PyData) (v : V), Dx H v d → Dx H' v d
  | .none, _, h => by cases h; exact .non
  | .bool b, _, h => by cases h; exact .bl b
  | .int i, _, h => by cases h; exact .int i
  | .str x, _, h => by cases h; exact .str x
  | .list ds, _, h => by
    cases h with
    | lst e r => exact .lst (s _ _ e) (DxAll.up s ds _ r)
  | .tuple ds, _, h => by
    cases h with
    | tup e r => exact .tup (s _ _ e) (DxAll.up s ds _ r)
  | .dict _, _, h => by
    cases h with
    | dct0 e => exact .dct0 (s _ _ e)
theorem DxAll.up {H H' : Hp} (s : Same H H') : ∀ (ds : List PyData) (vs : List V), DxAll H vs ds → DxAll H' vs ds
  | [], _, h => by cases h; exact .nil
  | d :: ds, _, h => by
    cases h with
    | cons h1 h2 => exact .cons (Dx.up s d _ h1) (DxAll.up s ds _ h2)
end
/-- the table of modules stands where it stood: nothing of the law's is there -/
def SysAt (H : Hp) : Prop := ∃ o, H sysModules = some (.frz o (.ext fun _ => True))
theorem SysAt.up {H H' : Hp} (h : SysAt H) (s : Same H H') : SysAt H' := by
  obtain ⟨o, e⟩ := h
  exact ⟨o, s _ _ e⟩
section
variable {X : Cx} {pins : List (Addr × Obj)} {σ : L2.St} {H : Hp} {s : Shared}
theorem not_sys (hs : SysAt H) {a : Addr} {u : HO} (e : H a = some u) (d : ∀ o, u ≠ .frz o (.ext fun _ => True)) : a ≠ sysModules := fun z => by
  obtain ⟨o, k⟩ := hs
  rw [z, k] at e
  exact d o (Option.some.inj e).symm
mutual
theorem Dx.reads (I : L2.Inv X pins σ H s) (hs : SysAt H) : ∀ (d : PyData) (v : V) (u : Value), Dx H v d → RelV v u → ∃ as, Reads s.heap u d as ∧ sysModules ∉ as
  | .none, _, _, h, r => by
    cases h
    cases r
    exact ⟨_, Reads.none, by simp⟩
  | .bool b, _, _, h, r => by
    cases h
    cases r
    exact ⟨_, Reads.bool b, by simp⟩
  | .int i, _, _, h, r => by
    cases h
    obtain ⟨t, rfl⟩ := r
    exact ⟨_, Reads.int i t, by simp⟩
  | .str x, _, _, h, r => by
    cases h
    obtain ⟨t, rfl⟩ := r
    exact ⟨_, Reads.str x t, by simp⟩
  | .list ds, _, _, h, r => by
    cases h with
    | lst e ha =>
      cases r
      obtain ⟨its, rv, ⟨o, n, ho, hc, _, hd⟩, _⟩ := I.list (SqL.of e)
      obtain ⟨as, hr, na⟩ := Dx.readsAll I hs ds _ its ha rv
      exact ⟨_, Reads.list ho hc hd hr, by simp [na, (not_sys hs e (fun o z => by cases z)).symm]⟩
  | .tuple ds, _, _, h, r => by
    cases h with
    | tup e ha =>
      cases r
      obtain ⟨its, rv, ⟨o, ho, hc, n, hd⟩, _⟩ := I.tuple (SqT.of e)
      obtain ⟨as, hr, na⟩ := Dx.readsAll I hs ds _ its ha rv
      exact ⟨_, Reads.tuple ho hc hd hr, na⟩
  | .dict _, _, _, h, r => by
    cases h with
    | @dct0 a e =>
      cases r
      obtain ⟨_, _, vs, kv, o, es, ep, h1, h2, h3, h4, h5, _⟩ := (show ObjOk X.prog X.w H s.heap a (.dK []) from I.hok a _ e)
      cases kv
      have e0 : es.toList = [] := by
        cases q : es.toList with
        | nil => rfl
        | cons x r =>
          rw [q] at h5
          cases h5
      refine ⟨_, Reads.dict (kvs := []) (as := []) (bs := []) h1 h2.1 h3 ?_ ?_, by simp [(not_sys hs e (fun o z => by cases z)).symm]⟩
      · rw [e0]
        exact .nil
      · rw [e0]
        exact .nil
theorem Dx.readsAll (I : L2.Inv X pins σ H s) (hs : SysAt H) : ∀ (ds : List PyData) (vs : List V) (us : List Value), DxAll H vs ds → Vals vs us → ∃ as, ReadsAll s.heap us ds as ∧ sysModules ∉ as
  | [], _, _, h, r => by
    cases h
    cases r
    exact ⟨_, ReadsAll.nil, by simp⟩
  | d :: ds, _, _, h, r => by
    cases h with
    | cons h1 h2 =>
      cases r with
      | cons r1 r2 =>
        obtain ⟨as, q1, n1⟩ := Dx.reads I hs d _ _ h1 r1
        obtain ⟨bs, q2, n2⟩ := Dx.readsAll I hs ds _ _ h2 r2
        exact ⟨_, ReadsAll.cons q1 q2, by simp [n1, n2]⟩
end
end
mutual
/-- room that the shown text has -/
def cost : PyData → Nat
  | .none => 4
  | .bool _ => 5
  | .int _ => 1921
  | .str x => 10 * x.length + 2
  | .list xs | .tuple xs => costAll xs + 3
  | .dict _ => 2
def costAll : List PyData → Nat
  | [] => 0
  | x :: xs => cost x + 2 + costAll xs
end
mutual
/-- data that can be shown: texts of plain signs, no great ints, dicts that are empty -/
def plainD : PyData → Prop
  | .none | .bool _ => True
  | .int i => i.natAbs.log2 < 1920
  | .str x => ∀ c ∈ x.cps.toList, c < 128
  | .list xs | .tuple xs => plainAll xs
  | .dict kvs => kvs = []
def plainAll : List PyData → Prop
  | [] => True
  | x :: xs => plainD x ∧ plainAll xs
end
mutual
theorem plain_show : ∀ d : PyData, plainD d → d.showable = true
  | .none, _ => by simp [PyData.showable]
  | .bool _, _ => by simp [PyData.showable]
  | .int i, h => by simpa [PyData.showable, plainD] using h
  | .str _, _ => by simp [PyData.showable]
  | .list xs, h => by
    simp only [PyData.showable]
    exact plain_showAll xs (by simpa only [plainD] using h)
  | .tuple xs, h => by
    simp only [PyData.showable]
    exact plain_showAll xs (by simpa only [plainD] using h)
  | .dict kvs, h => by
    simp only [plainD] at h
    subst h
    simp [PyData.showable, PyData.showableKv]
theorem plain_showAll : ∀ ds : List PyData, plainAll ds → PyData.showableAll ds = true
  | [], _ => by simp [PyData.showableAll]
  | d :: ds, h => by
    simp only [plainAll] at h
    simp only [PyData.showableAll, Bool.and_eq_true]
    exact ⟨plain_show d h.1, plain_showAll ds h.2⟩
end
mutual
theorem shown_cost : ∀ d : PyData, plainD d → d.shown.length ≤ cost d
  | .none, _ => by
    simp only [PyData.shown, cost]
    decide +kernel
  | .bool b, _ => by
    simp only [PyData.shown, cost]
    cases b <;> decide +kernel
  | .int i, h => by
    simp only [plainD] at h
    simp only [PyData.shown, cost]
    exact int_text_len_1921 h
  | .str x, h => by
    simp only [plainD] at h
    simp only [PyData.shown, cost]
    exact PySem.StrLaws.reprText_len x fun c hc => Nat.lt_trans (h c hc) (by decide)
  | .list xs, h => by
    simp only [plainD] at h
    simp only [PyData.shown, cost]
    have h1 := listText_len_le (PyData.shownAll xs)
    have h2 := shown_costAll xs h
    omega
  | .tuple xs, h => by
    simp only [plainD] at h
    simp only [PyData.shown, cost]
    have h1 := tupleText_len_le (PyData.shownAll xs)
    have h2 := shown_costAll xs h
    omega
  | .dict kvs, h => by
    simp only [plainD] at h
    subst h
    simp only [PyData.shown, cost]
    decide +kernel
theorem shown_costAll : ∀ ds : List PyData, plainAll ds → ((PyData.shownAll ds).map (·.length)).sum + 2 * (PyData.shownAll ds).length ≤ costAll ds
  | [], _ => by simp [PyData.shownAll, costAll]
  | d :: ds, h => by
    simp only [plainAll] at h
    have h1 := shown_cost d h.1
    have h2 := shown_costAll ds h.2
    simp only [PyData.shownAll, costAll, List.map_cons, List.sum_cons, List.length_cons]
    omega
end
section
variable {X : Cx}
def rRep : List V → Hp → VK → Prop := fun xs H Q => ∃ v d, xs = [v] ∧ SysAt H ∧ Dx H v d ∧ d.depth ≤ 60 ∧ plainD d ∧ cost d ≤ sizeLine ∧ Q (.str d.shown) H
theorem call_repr (hgu : X.A.guards = some []) (hu : X.A.units + 64 < cLine) : CallR X (.builtin "repr") rRep := by
  intro pins s σ H xs us Q I r h
  obtain ⟨v, d, rfl, hs, dx, dep, pl, co, q⟩ := h
  obtain ⟨u, rfl, ru⟩ := vals1 r
  have sz := Nat.le_trans (shown_cost d pl) co
  have fin : ∀ (h' : Heap) (u : Tok) (tk : Nat), (∀ b o, s.heap.get? b = some o → h'.get? b = some o) → EP X pins σ Q (.str d.shown u) { s with heap := h', toks := tk } :=
    fun h' u tk hk => ⟨.str d.shown, H, I.kept hk, ⟨u, rfl⟩, q⟩
  have ref : ∀ a, u = .ref a → wpAny (model X.prog X.w) X.A (call (.builtin "repr") [u]) (EP X pins σ Q) X.xe s := fun a e => by
    subst e
    obtain ⟨as, rd, ns⟩ := Dx.reads I hs d v _ dx ru
    exact repr_of_reads' rd (plain_show d pl) (fun _ => ns) hgu (by omega) (fun _ _ e => e) fin sz
  cases dx with
  | non =>
    cases ru
    exact PySem.P.repr_of_none (fin s.heap _ _ fun _ _ e => e)
  | bl b =>
    cases ru
    cases b <;> exact PySem.P.repr_of_bool (fin s.heap _ _ fun _ _ e => e)
  | int i =>
    obtain ⟨t, rfl⟩ := ru
    exact PySem.P.repr_of_int pl (fin s.heap _ _ fun _ _ e => e)
  | str x =>
    obtain ⟨t, rfl⟩ := ru
    exact PySem.P.repr_of_str (fin s.heap _ _ fun _ _ e => e) sz
  | lst e r => exact ref _ ru
  | tup e r => exact ref _ ru
  | dct0 e => exact ref _ ru
end
end RV

set_option maxHeartbeats 2000000
/-! own exceptions over ValueError (through own classes) whose __init__ says super().__init__('..') and then stores its one argument -/
namespace PySem
namespace SupX
open PySem.W PySem.Calls PyProof.Rows PySem.HandSPX
def supA (fld : Str) (p1 p2 : Pos) : Arguments := { posonlyargs := [], args := [{ arg := "self", annotation := none, pos := p1 }, { arg := fld, annotation := none, pos := p2 }], vararg := none, kwonlyargs := [], kw_defaults := [], kwarg := none, defaults := [] }
def supB (msg fld : Str) (k0 : Nat) (a1 a2 a3 a4 a5 a6 q1 q2 q3 q4 : Pos) : List Stmt :=
  [.Expr (.Call (.Attribute (.Call (.Name "super" a1) [] [] a2) "__init__" a3) [.Constant (.str msg) k0 a4] [] a5) a6, .Assign [.Attribute (.Name "self" q1) fld q2] (.Name fld q3) q4]
def supS (fld : Str) : Scope := { kind := .function, names := [(PySem.Str.ofString "self", .local), (fld, .local), (PySem.Str.ofString "__class__", .free), (PySem.Str.ofString "super", .globalImplicit)], isGenerator := false, isCoroutine := false, more := [] }
/-- a field's name -/
structure Fld (fld : Str) : Prop where
  loc : (supS fld).names.lookup fld = some .local
  cls : (supS fld).names.lookup (PySem.Str.ofString "__class__") = some NameKind.free
  sup : (supS fld).names.lookup (PySem.Str.ofString "super") = some NameKind.globalImplicit
  nd : (fld == ("__debug__" : Str)) = false
  ns : (PySem.Str.ofString "self" == fld) = false
  bd : ∀ (qual : Str) (B : List Stmt) (doc pm : Value) (an : Option Addr) (cda ct : Value) (cc : Addr) (p1 p2 : Pos) (a b : Value), bindArgs (ksFn "__init__" qual (supA fld p1 p2) B (supS fld) .none .none doc pm an cda ct cc) ⟨[a, b], []⟩ = pure [(PySem.Str.ofString "self", a), (fld, b)]
/-- what the written part says of the class x, at C, and of its __init__, at fI -/
structure SupTxt (prog : Program) (K : Frag) (mg : Str → Option Value) (x qual fld msg : Str) (C fI : Addr) : Prop where
  gC : mg x = some (.ref C)
  cls : ∃ nm q N bs bm sn sub ab col dd k0 k1 k2 k3 k5, K.lookup C = some (excClassObj nm q C N bs bm true sn sub ab col dd k0 k1 k2 k3 k5 "ValueError.__new__") ∧ refsVE bm = true
  sa : findIn K (.ref C) "__setattr__" = some (some (.builtin "object.__setattr__"))
  ga : findIn K (.ref C) "__getattribute__" = some (some (.builtin "BaseException.__getattribute__"))
  gg : findIn K (.ref C) "__getattr__" = some none
  noN : findIn K (.ref C) fld = some none
  iC : findIn K (.ref C) "__init__" = some (some (.ref fI))
  tC : typeIn K (.ref fI) = some (.type "function")
  kC : keepIn K (.ref C) = true
  exC : subIn K (.ref C) (.type "BaseException") = some true
  veC : subIn K (.ref C) (.type "ValueError") = some true
  meC : mroIn K C (.ref C) = some true
  tyC : typeIn K (.ref C) = some (.type "type")
  hdC : hasDictIn K C = true
  te : exmOne K (.ref C) (.ref C) = some true
  su : ks_superIn K C C "__init__" = some (some (.builtin "ValueError.__init__"))
  xi : excInitIn K C veTail "ValueError.__new__" = true
  tp : nsIn K cStatics "thirdparty.any" = some none
  sm : mg "super" = none
  fn : ∃ (oc : Value) (od : Option Addr) (doc pm : Value) (an : Option Addr) (cda cc : Addr) (ct : Value) (osl : Array (Option Value)) (k0 : Nat) (p1 p2 a1 a2 a3 a4 a5 a6 q1 q2 q3 q4 : Pos) (cl : Value) (cld : Option Addr) (csl : Array (Option Value)) (ccl : Value) (cdd : Option Addr) (vs : Array Value) (ccs : Array (Option Value)) (file : Str) (tf : Tok),
    K.lookup fI = some ⟨oc, od, .func (ksFn "__init__" qual (supA fld p1 p2) (supB msg fld k0 a1 a2 a3 a4 a5 a6 q1 q2 q3 q4) (supS fld) .none .none doc pm an (.ref cda) ct cc), osl⟩ ∧ codeIn K (.ref cda) qual = true ∧
    K.lookup cc = some ⟨cl, cld, .cell (some (.ref C)), csl⟩ ∧ K.lookup cda = some ⟨ccl, cdd, .fields vs, ccs⟩ ∧ vs[2]? = some (.str file tf) ∧ ((prog.main.file : Str) == file) = true ∧ (a3.endLine == a5.line) = true
  top : (prog.main.scope.names.lookup ("super" : Str)).isSome = false
theorem one_size (v : Value) : [v].length ≤ sizeLine := by
  rw [sizeLine_eq]
  exact (by decide : 1 ≤ 16777216)
/-- what __init__ leaves of a fresh exception at x -/
structure InitEnd (fld : Str) (h h' : Heap) (x C dx t1 : Addr) (v : Value) : Prop where
  keep : ∀ b o, b ≠ x → h.get? b = some o → h'.get? b = some o
  obj : h'.get? x = some { cls := .ref C, dict := some dx, data := .fields #[.ref t1, .none, .none, .none, .bool false, .none] }
  dbig : h.objs.size ≤ dx
  dne : dx ≠ x
  ns : h'.Ns1 dx (fun y => if y = fld then some v else none)
/-- the call super().__init__('..') as its steps -/
theorem sup_call {a1 a2 a3 a5 : Pos} (hline : (a3.endLine == a5.line) = true) (e : Expr) (env : Env) (he : methodCallForm 1 (backTo a5 (starEach [e] env)) [] = true) : eval (.Call (.Attribute (.Call (.Name "super" a1) [] [] a2) "__init__" a3) [e] [] a5) env = (do
      let ov ← attributeBase (.Call (.Name "super" a1) [] [] a2) "__init__" env (eval (.Call (.Name "super" a1) [] [] a2) env)
      standAt a3.atName
      let (f, first) ← holding [ov] (getMethod ov "__init__" (do return (← importBound (.Call (.Name "super" a1) [] [] a2) env).getD true))
      callWith a5 f first (backTo a5 (starEach [e] env)) []) := by
  show (do
      let ov ← attributeBase (.Call (.Name "super" a1) [] [] a2) "__init__" env (eval (.Call (.Name "super" a1) [] [] a2) env)
      standAt a3.atName
      methodCall (.Call (.Name "super" a1) [] [] a2) "__init__" a3 a5 env ov 1 (backTo a5 (starEach [e] env)) []) = _
  unfold methodCall methodCallPos calleeOf
  simp only [he, hline, Bool.not_true, Bool.false_or, if_true, pure_bind]
/-- a made exception -/
structure OwnMade (fld : Str) (h h' : Heap) (e C d : Addr) (v : Value) : Prop where
  keep : ∀ b o, h.get? b = some o → h'.get? b = some o
  new : h.objs.size ≤ e
  obj : ∃ oe vs, h'.get? e = some oe ∧ oe.cls = .ref C ∧ oe.dict = some d ∧ oe.data = .fields vs ∧ vs[1]? = some .none
  dbig : h.objs.size ≤ d
  dne : d ≠ e
  ns : h'.Ns1 d (fun y => if y = fld then some v else none)
section
variable {prog : Program} {w : World} {A : Around} {E : Value → Shared → Prop} {R : Result → Shared → Prop} {s : Shared} {K : Frag} {mg mb : Str → Option Value} {x qual fld msg : Str} {C fI : Addr}
theorem sup_init (T : SupTxt prog K mg x qual fld msg C fI) (Fd : Fld fld) {x t0 : Addr} {v : Value} (X : K.In s.heap) (hg : s.heap.Ns mainGlobals mg) (hb : s.heap.Ns builtinsNs mb) (hbb : ∀ x : Str, x ≠ "__name__" → mb x = bootBuiltins x) (hlim : s.heap.NoLimit) (hx : s.heap.get? x = some (excO C t0)) (hnx : K.lookup x = none) (hroom : A.depth < recursionLimit)
    (hq : ∀ h' tk dx t1, InitEnd fld s.heap h' x C dx t1 v → R (.ok (.ret .none)) { s with heap := h', toks := tk }) :
    codeAny (model prog w) A (.call (.ref fI) ⟨[.ref x, v], []⟩) R s := by
  obtain ⟨oc, od, doc, pm, an, cda, cc, ct, osl, k0, p1, p2, a1, a2, a3, a4, a5, a6, q1, q2, q3, q4, cl, cld, csl, ccl, cdd, vs, ccs, file, tf, ho, hcd, hcell, hcode, hvs, hfile, hline⟩ := T.fn
  obtain ⟨nm, q, N, bs, bm, sn, sub, ab, col, dd, z0, z1, z2, z3, z5, hC, hbm⟩ := T.cls
  have hcl : clsIn K C = some { name := nm, bases := bs, mro := .ref C :: bm, ns := N, qualname := q, hasDict := true, slotNames := sn, subclasses := sub, abstract := ab, collection := col, hasDel := false } := by unfold clsIn; rw [hC] <;> rfl
  have hself : (List.reverse [(PySem.Str.ofString "self", Value.ref x), (fld, v)]).lookup (PySem.Str.ofString "self") = some (.ref x) := by
    show List.lookup (PySem.Str.ofString "self") [(fld, v), (PySem.Str.ofString "self", Value.ref x)] = _
    simp [List.lookup, Fd.ns]
  have hfld : (List.reverse [(PySem.Str.ofString "self", Value.ref x), (fld, v)]).lookup fld = some v := by
    show List.lookup fld [(fld, v), (PySem.Str.ofString "self", Value.ref x)] = _
    simp [List.lookup]
  refine ks_codeAny_call_defAt (fd := ksFn "__init__" qual (supA fld p1 p2) (supB msg fld k0 a1 a2 a3 a4 a5 a6 q1 q2 q3 q4) (supS fld) .none .none doc pm an (.ref cda) ct cc) (body := supB msg fld k0 a1 a2 a3 a4 a5 a6 q1 q2 q3 q4)
    (binds := [(PySem.Str.ofString "self", .ref x), (fld, v)]) hroom (X _ _ ho) rfl hlim (codeRec_of X hcd) rfl (BindsTo.of_eq (Fd.bd _ _ _ _ _ _ _ _ _ _ _ _)) (fun y hy => ?_) (fun y hy => ?_) (fun h₁ hns k => ?_) rfl rfl rfl
  · simp only [ksFn, fnX, supS, List.mem_cons, List.not_mem_nil, or_false] at hy
    rcases hy with rfl | rfl | rfl | rfl <;> (intro z; cases z)
  · simp only [List.mem_cons, List.not_mem_nil, or_false] at hy
    rcases hy with rfl | rfl
    · rfl
    · exact Fd.loc
  obtain ⟨hh, g, d, tk, os⟩ := s
  have hL : hh.objs.size ≠ x := Nat.ne_of_gt (Heap.lt_size hx)
  have X₁ : K.In h₁ := X.keeps k
  have hx₁ := k _ _ hx
  -- the frame, over all but the exception
  have X₀ : K.In (hideAll hh [x]) := fun b o e => hideAll_get [x] (X b o e) (fun z => by
    rw [List.mem_singleton] at z
    rw [z, hnx] at e
    cases e)
  have F₁ : Fr (hideAll hh [x]) hh.objs.size h₁ (fun y => (List.reverse [(PySem.Str.ofString "self", Value.ref x), (fld, v)]).lookup y) := ⟨hns, fun b o e => k b o (of_hideAll _ e), Nat.le_of_eq (hideAll_size _ _)⟩
  have N₁ : News (hideAll hh [x]) hh.objs.size h₁ [(x, excObj C t0 none .none)] := fun p hp => by
    rw [List.mem_singleton] at hp
    subst hp
    exact ⟨hx₁, fun z => hL z.symm, hideAll_none [x] (List.mem_singleton.mpr rfl)⟩
  show _root_.PySem.wpAt (model prog w) (A.deeper (ksEnv qual (supS fld) hh.objs.size fI (.ref cda) cc)) (.func (supB msg fld k0 a1 a2 a3 a4 a5 a6 q1 q2 q3 q4) (ksEnv qual (supS fld) hh.objs.size fI (.ref cda) cc)) (execs (supB msg fld k0 a1 a2 a3 a4 a5 a6 q1 q2 q3 q4) (ksEnv qual (supS fld) hh.objs.size fI (.ref cda) cc)) _ _ _
  refine ks_wpAt_execs_cons (ks_wpAt_Expr_any (ks_wpAt_MethodCall ?_ (sup_call hline _ _ rfl)))
  refine ks_wpAt_super_base (env := ksEnv qual (supS fld) hh.objs.size fI (.ref cda) cc) Fd.sup Fd.cls (by decide) rfl (X₁ _ _ ho) rfl rfl rfl (X₁ _ _ hcode) rfl hvs hfile T.top ?_
  refine ks_loadName_global rfl Fd.sup (loadGlobal_builtin (env := ksEnv qual (supS fld) hh.objs.size fI (.ref cda) cc) (hg.keeps k) T.sm (hb.keeps k) ((hbb _ (by decide +kernel)).trans PyProof.Rows.Boot.«super») ⟨rfl, ?_⟩)
  refine wpAny_loadName_free rfl Fd.cls rfl ⟨_, X₁ _ _ hcell, rfl⟩ ?_
  refine wpAny_loadName_local rfl rfl hns hself ?_
  refine ks_wpAny_isType_cls (X₁ _ _ hC) rfl ⟨rfl, ?_⟩
  refine ks_wpAny_call_super (X₁ _ _ hC) rfl hx₁ rfl (fun c e => by cases e) (looks_mroIn X₁ T.meC) (fun h₂ hso k₂ => ?_)
  obtain ⟨F₂, N₂, l₂⟩ := ks_newsPush (s := ⟨h₁, g, d, tk + 2, os⟩) F₁ N₁ rfl hso k₂
  have I₂ : InstAt h₂ x (excObj C t0 none .none) C none := ⟨(N₂ (x, excObj C t0 none .none) (by simp)).1, rfl, rfl, trivial⟩
  refine kxs_method (s := ⟨h₂, g, d, _, os⟩) kxs_ValueError F₂ X₀ N₂ (so := h₁.objs.size) (D := C) (by simp) I₂ T.tp T.su T.veC (by decide) (fun u h₃ F₃ N₃ l₃ => ?_)
  refine kxs_callWith1 (s := ⟨h₃, g, d, _, os⟩) N₃ (u := u) (i := "ValueError.__init__") (x := x) (by simp) ?_
  show wpAny _ _ (spliced ((false, eval (Expr.Constant (Const.str msg) k0 a4) (ksEnv qual (supS fld) hh.objs.size fI (.ref cda) cc)) :: [])) _ _ _
  refine Calls.spliced_cons (Calls.Constant_str (Calls.spliced_nil ⟨(N₃ (u, kxs_mw "ValueError.__init__" x) (by simp)).1, ?_⟩))
  refine kxs_call (s := ⟨h₃, g, d, _, os⟩) (u := u) (x := x) (t := t0) (dv := none) (c2 := .none) F₃ X₀ N₃ F.excBase_ValueError T.xi (by simp) (.tail ?_ (.tail ?_ (.head fun p hp => by cases hp))) (one_size _) (fun t1 h₄ F₄ N₄ l₄ => ?_)
  · exact fun z => absurd (l₃ (x, excObj C t0 none .none) (by simp)) (by rw [← z]; exact Nat.lt_irrefl _)
  · exact fun z => absurd (l₂ (x, excObj C t0 none .none) (by simp)) (by rw [← z]; exact Nat.lt_irrefl _)
  -- self.f = f
  have hx₄ : h₄.get? x = some (excO C t1) := (N₄ (x, excObj C t1 none .none) (by simp)).1
  have keep₄ : ∀ b o, b ≠ x → hh.get? b = some o → h₄.get? b = some o := fun b o hb e => F₄.keep b o (hideAll_get [x] e (fun z => hb (List.mem_singleton.mp z)))
  have X₄ : K.In h₄ := X₀.keeps F₄.keep
  refine ks_wpAt_execs_cons (ks_wpAt_Assign_Attr (wpAt_of_wpAny ?_) rfl)
  · refine wpAny_Name (wpAny_loadName_local (env := ksEnv qual (supS fld) hh.objs.size fI (.ref cda) cc) rfl Fd.loc F₄.ns hfld ?_) Fd.nd
    refine wpAny_Name (wpAny_loadName_local (env := ksEnv qual (supS fld) hh.objs.size fI (.ref cda) cc) rfl rfl F₄.ns hself ?_) (by decide)
    refine set_plain X₄ (ox := excO C t1) (od := none) ⟨hx₄, rfl, rfl, trivial⟩ T.sa ?_
    refine exc_osa X₄ hx₄ hcl (show refsVE (.ref C :: bm) = true from hbm) rfl T.noN (fun h₅ tk₅ dx k₅ dn dne hx₅ hn₅ => ?_)
    refine wpAt_of_wpAny (wpAny_execs_nil (hq h₅ tk₅ dx t1 ⟨fun b o hb e => k₅ b o hb (keep₄ b o hb e), hx₅, ?_, dne, hn₅⟩))
    exact Nat.le_of_lt (Nat.lt_of_lt_of_le F₄.ns.lt dn)
theorem sup_made (T : SupTxt prog K mg x qual fld msg C fI) (Fd : Fld fld) {v : Value} (X : K.In s.heap) (hg : s.heap.Ns mainGlobals mg) (hb : s.heap.Ns builtinsNs mb) (hbb : ∀ x : Str, x ≠ "__name__" → mb x = bootBuiltins x) (hlim : s.heap.NoLimit) (hroom : A.depth + 1 < recursionLimit)
    (hq : ∀ h' tk e d, OwnMade fld s.heap h' e C d v → R (.ok (.ret (.ref e))) { s with heap := h', toks := tk }) :
    codeAny (model prog w) A (.call (.ref C) ⟨[v], []⟩) R s := by
  obtain ⟨nm, q, N, bs, bm, sn, sub, ab, col, dd, k0, k1, k2, k3, k5, hC, hbm⟩ := T.cls
  obtain ⟨hp, g, dr, tk, os⟩ := s
  have k : ∀ b o, hp.get? b = some o → ((hp.push (kdv_tup [v])).push (excO C hp.objs.size)).get? b = some o := fun b o e => Heap.get?_push_of_some _ (Heap.get?_push_of_some _ e)
  have hget : ((hp.push (kdv_tup [v])).push (excO C hp.objs.size)).get? (hp.objs.size + 1) = some (excO C hp.objs.size) := by heap_get
  have hnx : K.lookup (hp.objs.size + 1) = none := by
    cases e : K.lookup (hp.objs.size + 1) with
    | none => rfl
    | some o =>
      have z : hp.get? (hp.objs.size + 1) = some o := X _ _ e
      exact absurd (Nat.lt_of_succ_lt (Heap.lt_size z)) (Nat.lt_irrefl _)
  refine call_own F.excBase_ValueError (fun X => refsVE_contains X bm hbm) (X _ _ hC) (looks_findIn X T.iC) (fun self => bind_fn X self T.tC) (one_size v) ?_
  refine sup_init (s := ⟨(hp.push (kdv_tup [v])).push (excO C hp.objs.size), g, dr, tk, os⟩) T Fd (X.keeps k) (hg.keeps k) (hb.keeps k) hbb (hlim.keeps k) hget hnx ?_ fun h' tk' dx t1 ⟨k', hx, dn, dne, hns⟩ => ?_
  · show A.depth + 1 < recursionLimit
    exact hroom
  · have old : ∀ b o, hp.get? b = some o → h'.get? b = some o := fun b o e => k' b o (Nat.ne_of_lt (Nat.lt_succ_of_lt (Heap.lt_size e))) (k b o e)
    have z : hp.objs.size + 1 + 1 ≤ dx := by
      first
        | (simpa only [Heap.size_push] using dn)
        | exact dn
        | (have q := dn; rw [Heap.size_push, Heap.size_push] at q; exact q)
    exact ⟨rfl, hq h' tk' (hp.objs.size + 1) dx ⟨old, Nat.le_succ _, ⟨_, _, hx, rfl, rfl, rfl, rfl⟩, Nat.le_trans (Nat.le_trans (Nat.le_succ _) (Nat.le_succ _)) z, dne, hns⟩⟩
end
end SupX
end PySem
namespace RV
open PySem PySem.Spec PyProof.Rows L2
theorem relO_sup {fld : Str} {v : V} {v' : Value} (r : RelV v v') (f : Str) : RelO (List.lookup f [(fld, v)]) (if f = fld then some v' else none) := by
  by_cases hw : f = fld
  · subst hw
    rw [if_pos rfl]
    have q : List.lookup f [(f, v)] = some v := by simp [List.lookup]
    rw [q]
    exact r
  · rw [if_neg hw]
    have qw : (f == fld) = false := by simpa using hw
    have q2 : List.lookup f [(fld, v)] = none := by simp [List.lookup, qw]
    rw [q2]
    trivial
section
variable {X : Cx} {x qual fld msg : Str} {C fI : Addr}
/-- x(e) -/
def tMkSup (fld : Str) (C : Addr) (ta : TA) : L2.St → Hp → XK → Prop := fun σ H Q => ta σ H fun vs H1 => ∃ v, vs = [v] ∧ ∀ d, H1 d = none → Q (.ref C) (some d) (upd H1 d (.xd [(fld, v)]))
theorem pmk_sup {a : Expr} {ta : TA} {p pos : Pos} {k : Nat} (T : PySem.SupX.SupTxt X.prog X.K X.mg x qual fld msg C fI) (Fd : PySem.SupX.Fld fld) (hr : Room k X.A) (ha : PA X [a] ta) (hg : Gl X x := by rfl)
    (he : starEach (a :: []) X.env = (false, eval a X.env) :: starEach [] X.env := by rfl) (hpl : (backTo pos (starEach [] X.env)).any (·.1) = false := by rfl) (hdb : (x == ("__debug__" : Str)) = false := by decide) :
    PMk X (.Call (.Name x p) [a] [] pos) (tMkSup fld C ta) := by
  intro pins s σ H Q I h
  refine wpAny_Call_Name_kw (ld_glob I hg T.gC ?_ hdb)
  refine PySem.W.callWith_K (h₀ := X.base) I.ok.mod.kin T.kC (thn (ha.run pos pins s σ H _ I h) fun us s1 hh => ?_) he hpl
  obtain ⟨vs, H1, I1, r1, v, ev, q1⟩ := hh
  subst ev
  refine ⟨I1.kIn, ?_⟩
  cases r1 with
  | cons rv rn =>
    rename_i v' us'
    cases rn
    show wpAny _ _ (call (.ref C) [v']) _ _ _
    have hlim := I1.nolimit
    have kb : ∀ b o, X.base.get? b = some o → s1.heap.get? b = some o := fun b o e => (I1.env0.bs b o e).1
    obtain ⟨mb, hb, hbb⟩ := I1.ok.mod.blt
    have hglob := I1.ok.mod.glob.keeps kb
    have hbl := hb.keeps kb
    obtain ⟨hp, g, dr, tk, os⟩ := s1
    refine wpAny_call (PySem.SupX.sup_made T Fd I1.kIn hglob hbl hbb hlim (by have := hr.dp; omega) fun h' tk' e d M => ?_)
    show MkP X pins σ Q (.ref e) ⟨h', g, dr, tk', os⟩
    obtain ⟨oe, fv, hoe, hc, hd, hdat, h1⟩ := M.obj
    have hns := M.ns
    obtain ⟨G', g1, g2⟩ := restrict h' fun b => decide (b ≠ e)
    have gk : ∀ b, b ≠ e → G'.get? b = h'.get? b := fun b hb => g1 b (decide_eq_true hb)
    have ge : G'.get? e = none := g2 e (by simp)
    have old : ∀ b o, hp.get? b = some o → G'.get? b = some o := fun b o q => (gk b (Nat.ne_of_lt (Nat.lt_of_lt_of_le (Heap.lt_size q) M.new))).trans (M.keep b o q)
    have ob : ObjOk X.prog X.w (upd H1 d (.xd [(fld, v)])) G' d (.xd [(fld, v)]) :=
      ⟨_, hns.at (fun o q => (gk d M.dne).trans q), fun f => relO_sup rv f⟩
    have J : Inv X pins σ (upd H1 d (.xd [(fld, v)])) ⟨G', g, dr, tk', os⟩ := I1.laid (t' := tk') old M.dbig ob
    refine ⟨e, oe, fv, ⟨G', g, dr, tk', os⟩, _, .ref C, some d, rfl, J, fun b o q => ?_, ge, hoe, ⟨hc, hd⟩, hdat, h1, ?_, rfl, I1.bare, raises_own T.exC T.tyC, q1 d (I1.hok.fresh M.dbig)⟩
    · by_cases hb : b = e
      · have q' : G'.get? b = some o := q
        rw [hb, ge] at q'; cases q'
      · exact (gk b hb).symm.trans q
    · rw [upd_ne (Ne.symm M.dne)]
      exact I1.hok.fresh M.new
/-- raise x(e) -/
def tRaiseSup (fld : Str) (C : Addr) (W : WX) (ta : TA) : TS := fun _ σ H => tMkSup fld C ta σ H fun cls d H' => W cls d σ H'
theorem ps_raiseSup {a : Expr} {ta : TA} {W : WX} {p pos pos2 : Pos} {k : Nat} (hc : X.calm = true) (T : PySem.SupX.SupTxt X.prog X.K X.mg x qual fld msg C fI) (Fd : PySem.SupX.Fld fld) (hr : Room k X.A) (tk : Takes X W) (ha : PA X [a] ta) (hg : Gl X x := by rfl)
    (he : starEach (a :: []) X.env = (false, eval a X.env) :: starEach [] X.env := by rfl) (hpl : (backTo pos (starEach [] X.env)).any (·.1) = false := by rfl) (hdb : (x == ("__debug__" : Str)) = false := by decide) :
    PS X (.Raise (some (.Call (.Name x p) [a] [] pos)) none pos2) (tRaiseSup fld C W ta) := ps_raise hc tk (pmk_sup T Fd hr ha hg he hpl hdb)
/-- e.f, e the exception that the suite holds (at a; its class cls, its dict d) -/
def tBySup (fld : Str) (C : Addr) (a : Addr) (cls : Value) (d : Option Addr) (te : TE) : TE := fun σ H Q => te σ H fun x H1 => x = .ref a ∧ cls = .ref C ∧ ∃ (dd : Addr) (v : V), d = some dd ∧ H1 dd = some (.xd [(fld, v)]) ∧ Q v H1
theorem pe_bySup {a : Addr} {oe : Obj} {cls : Value} {d : Option Addr} {pn : List (Addr × Obj)} {e : Expr} {te : TE} {pos : Pos} (T : PySem.SupX.SupTxt X.prog X.K X.mg x qual fld msg C fI) (hz : Zc cls d oe) (hf : ∃ vs, oe.data = .fields vs) (he : PE (X.suite a ((a, oe) :: pn)) e te)
    (hb : attributeBase e fld X.env (eval e X.env) = eval e X.env := by rfl) :
    PE (X.suite a ((a, oe) :: pn)) (.Attribute e fld pos) (tBySup fld C a cls d te) := by
  refine ⟨fun pins s σ H Q I h => ?_⟩
  refine attr_of hb (thn (he.run pins s σ H _ I h) fun u s1 hh => ?_)
  obtain ⟨x, H1, I1, rx, ex, ec, dd, v, ed, ea, q⟩ := hh
  subst ex
  obtain rfl : u = Value.ref a := rx
  subst ec
  subst ed
  obtain ⟨ha, _⟩ := I1.pin (a, oe) (List.mem_append_left _ List.mem_cons_self)
  obtain ⟨vs, hd⟩ := hf
  have hx : ObjOk X.prog X.w H1 s1.heap dd (.xd [(fld, v)]) := I1.hok dd _ ea
  obtain ⟨mA, hns, hr⟩ := hx
  obtain ⟨od, ho, hl⟩ := lookIn_ns hns
  have l : List.lookup fld [(fld, v)] = some v := by simp [List.lookup]
  obtain ⟨u, hu, ru⟩ := RelO.some_of (v := v) (o := mA fld) (by rw [← l]; exact hr fld)
  have J : PySem.W.InstAt s1.heap a oe C (some od) := ⟨ha, hz.1, by unfold PySem.W.notCls; rw [hd] <;> rfl, by rw [hz.2]; exact ho⟩
  exact HandSPX.exc_get I1.kIn J T.ga T.gg T.exC (PySem.W.findObj_own T.hdC T.noN rfl (by rw [hl, hu])) (handed_of ru) ⟨v, H1, I1.tok _, ru, q⟩
end
end RV
namespace RV
open PySem PySem.Spec PyProof.Rows L2
/-- an error of the class at S is what «except S» names -/
theorem exm_self {K : PySem.W.Frag} {S : Addr} (h1 : PySem.W.subIn K (.ref S) (.type "BaseException") = some true) (h2 : PySem.W.isClsIn K S = true) (h3 : PySem.W.typeIn K (.ref S) = some (.type "type")) (h4 : PySem.W.subIn K (.ref S) (.ref S) = some true) :
    PySem.W.exmOne K (.ref S) (.ref S) = some true := by
  have e1 : (PySem.W.subIn K (.ref S) (.type "BaseException") == some true) = true := by rw [h1] <;> rfl
  have e2 : ((PySem.W.clsIn K S).isSome && PySem.W.typeIn K (.ref S) == some (.type "type")) = true := by
    have h2' : (PySem.W.clsIn K S).isSome = true := h2
    rw [h2', h3] <;> rfl
  show (if (PySem.W.subIn K (.ref S) (.type "BaseException") == some true) = true then (if ((PySem.W.clsIn K S).isSome && PySem.W.typeIn K (.ref S) == some (.type "type")) = true then PySem.W.subIn K (.ref S) (.ref S) else none) else none) = some true
  rw [if_pos e1, if_pos e2]
  exact h4
end RV
namespace RV
open PySem
theorem fld_value : SupX.Fld "value" := ⟨rfl, rfl, rfl, by decide, by decide, fun _ _ _ _ _ _ _ _ _ _ _ _ => rfl⟩
theorem fld_line : SupX.Fld "line" := ⟨rfl, rfl, rfl, by decide, by decide, fun _ _ _ _ _ _ _ _ _ _ _ _ => rfl⟩
end RV

/-! a law's own call, its def's promise being one for calls while nothing is shown -/
namespace RV
open PySem PySem.Spec PyProof.Rows L2
section
variable {P : Program} {w : World} {K : PySem.W.Frag} {mg mb : Str → Option Value} {a : Addr} {s₁ : Shared} {H : Hp} {vs : List Value} {ns : List Int}
/-- what is tracked when the law begins: the script, and that the table of modules stands; both are only read -/
structure One (P : Program) (w : World) (K : PySem.W.Frag) (a : Addr) (vs : List Value) (h : Heap) (H : Hp) : Prop where
  here : h.get? a = some { cls := .type "list", data := .seq vs.toArray }
  two : ∀ b, b ≠ a → b ≠ sysModules → H b = none
  froz : ∀ b u, H b = some u → ∃ o t, u = .frz o t
  apart : ∀ b, H b ≠ none → K.lookup b = none
  hok : HOk P w H h
theorem One.map (O : One P w K a vs s₁.heap H) {b : Addr} {m : Str → Option Value} (n : s₁.heap.Ns b m) (nb : b ≠ sysModules) : (hidT s₁.heap H).Ns b m := by
  obtain ⟨o, es, k, e, d, more⟩ := n
  have na : b ≠ a := by
    rintro rfl
    rw [O.here] at e
    cases e
    cases d
  exact ⟨o, es, k, hidT_get e (O.two b na nb), d, more⟩
theorem One.inK (O : One P w K a vs s₁.heap H) (X : K.In s₁.heap) : K.In (hidT s₁.heap H) := by
  intro b o e
  apply hidT_get (X b o e)
  cases q : H b with
  | none => rfl
  | some u =>
    have none_ := O.apart b (by rw [q]; exact Option.some_ne_none u)
    rw [none_] at e
    cases e
theorem One.env (O : One P w K a vs s₁.heap H) (X : K.In s₁.heap) (hns : s₁.heap.Ns mainGlobals mg) (hb : s₁.heap.Ns builtinsNs mb) (hbb : ∀ x : Str, x ≠ "__name__" → mb x = bootBuiltins x) (hlim : s₁.heap.NoLimit) (hg : s₁.gens = #[]) :
    Env0 P w K mg (hidT s₁.heap H) callerA [] s₁ H where
  frames := rfl
  mod := ⟨O.inK X, O.map hns (by decide), ⟨mb, O.map hb (by decide), hbb⟩, by
    obtain ⟨mc, h1, h2⟩ := hlim
    exact ⟨mc, O.map h1 (by decide), h2⟩⟩
  bs := fun _ _ e => of_hidT e
  bsz := by rw [hidT_size]; exact Nat.le_refl _
  funs := trivial
  frf := fun b z => by cases z
  hok := O.hok
  bare := .of_eq hg
/-- the call's end, as the row wants it -/
theorem One.done (O : One P w K a vs s₁.heap H) {E : XK} {r : Result} {s' : Shared} (h : CR CX0 [] P w H s₁ (fun v _ => v = .bl true) E r s') :
    r = .ok (.ret (.bool true)) ∧ OldK s₁.heap s'.heap ∧ s'.os = s₁.os ∧ AllBare s'.gens := by
  match r, h with
  | .error _, h => exact h.elim
  | .ok .next, h => exact h.elim
  | .ok .brk, h => exact h.elim
  | .ok .cont, h => exact h.elim
  | .ok (.ret u), h =>
    obtain ⟨v, H', os, bare, un, hok', rel, rfl⟩ := h
    obtain rfl : u = Value.bool true := rel
    refine ⟨rfl, OldK.of_keep ?_, os, bare⟩
    intro b o e
    cases q : H b with
    | none => exact un.keep b o e q (fun y => by cases y) (by simp)
    | some t =>
      obtain ⟨ob, xs, rfl⟩ := O.froz b t q
      have here := (O.hok b _ q).1
      have there := (hok' b _ (un.frzs b ob _ q)).1
      rw [here] at e
      cases e
      exact there
end
/-- nothing is tracked but the script -/
theorem walkG {l : PySem.W.OpenLaw} {n k : Nat} {q : Program} {loose : List Str} {XP : (Str → Option Value) → Heap → Prop} {YP : World → Heap → Prop} {d : DefRec} {K : Params → PySem.W.Frag} {sp : World → Sp} {x : Str}
    (hn : l.most = some n) (hn2 : n ≤ sizeLine) (hdf : d.params.defaults = []) (hr : Room k callerA) (hY : ∀ (w : World) (h : Heap), YP w h → (K w.params).In h)
    (F : ∀ (w : World) (mg : Str → Option Value) (fa : Addr) (h : Heap), (K w.params).In h → h.Ns mainGlobals mg → mg d.name = some (.ref fa) →
      ∃ fd : FuncData, (∀ (s : Shared) (u : Value), BindsTo s fd ⟨[u], []⟩ [(x, u)]) ∧ ∀ base : Heap, (K w.params).In base → base.Ns mainGlobals mg → FnG l.prog w (K w.params) mg base CX0 k fa fd [x] (sp w))
    (hi : importsNone q = true) (hK : ∀ P : Params, (K P).lookup sysModules = none)
    (hsp : ∀ (w : World) (H : Hp) (a : Addr) (ns : List Int), ns.length ≤ n → SysAt H → SqL (K w.params) H a (ns.map V.int) → sp w [.ref a] H (fun v _ => v = .bl true) fun _ _ _ => False) :
    PySem.W.WalkO q loose XP YP l.row.toRowW d [] (fun f vs => PySem.call f vs) := by
  refine Att.attach_call hn hdf fun w s₀ s₁ mg mb fa o pm cd doc a vs ns G Y ho hd hcd hmg hobj hints hlen hg => ?_
  obtain ⟨fd, bnd, FF⟩ := F w mg fa _ (hY w _ Y) G.T.g hmg
  have lenv := hints.length
  have small : ns.length ≤ sizeLine := Nat.le_trans hlen hn2
  obtain ⟨mm, ⟨om, esm, km, em, dm, _⟩, _⟩ := (G.T.seer hi).mods
  have sa : sysModules ≠ a := by
    rintro rfl
    rw [em] at hobj
    cases hobj
    cases dm
  have go : ∀ H : Hp, One l.prog w (K w.params) a vs s₁.heap H → SysAt H → SqL (K w.params) H a (ns.map V.int) →
      codeAny (model l.prog w) callerA (.call (.ref fa) ⟨[.ref a], []⟩) (fun r s' => r = .ok (.ret (.bool true)) ∧ OldK s₁.heap s'.heap ∧ s'.os = s₁.os ∧ AllBare s'.gens) s₁ := fun H O sy S =>
    codeAny_mono ((FF _ (O.inK (hY w _ Y)) (O.map G.T.g (by decide))).runG callerA [] s₁ H ⟨[.ref a], []⟩ [.ref a] [.ref a] _ _ rfl hr (O.env (hY w _ Y) G.T.g G.T.b G.T.builtins G.T.nolimit hg) (bnd s₁ (.ref a)) (.cons rfl .nil) (hsp w H a ns hlen sy S))
      fun _ _ h => O.done h
  have sysok : ∀ H : Hp, ObjOk l.prog w H s₁.heap sysModules (.frz om (.ext fun _ => True)) := fun H => ⟨em, trivial, ⟨om, em⟩, fun _ _ _ _ => trivial⟩
  by_cases inK : (K w.params).lookup a = none
  · refine go (fun b => if b = a then some (.frz { cls := .type "list", data := .seq vs.toArray } (.lst (ns.map V.int))) else if b = sysModules then some (.frz om (.ext fun _ => True)) else none) ⟨hobj, fun b z y => by simp only [if_neg z, if_neg y], fun b u e => ?_, fun b z => ?_, fun b u e => ?_⟩ ⟨om, by simp only [if_neg sa, if_pos]⟩ (.inl (.inr ⟨_, if_pos rfl⟩))
    · by_cases z : b = a
      · simp only [if_pos z] at e
        cases e
        exact ⟨_, _, rfl⟩
      · by_cases y : b = sysModules
        · simp only [if_neg z, if_pos y] at e
          cases e
          exact ⟨_, _, rfl⟩
        · simp only [if_neg z, if_neg y] at e
          cases e
    · by_cases y : b = a
      · rw [y]
        exact inK
      · by_cases x : b = sysModules
        · rw [x]
          exact hK _
        · exact absurd (by simp only [if_neg y, if_neg x]) z
    · by_cases z : b = a
      · simp only [if_pos z] at e
        cases e
        subst z
        exact ⟨hobj, by rw [List.length_map]; exact small, vs, _, vals_ints hints, hobj⟩
      · by_cases y : b = sysModules
        · simp only [if_neg z, if_pos y] at e
          cases e
          rw [y]
          exact sysok _
        · simp only [if_neg z, if_neg y] at e
          cases e
  · obtain ⟨ob, look⟩ := Option.ne_none_iff_exists'.mp inK
    have e := hY w _ Y a ob look
    rw [hobj] at e
    cases e
    refine go (fun b => if b = sysModules then some (.frz om (.ext fun _ => True)) else none) ⟨hobj, fun b z y => by simp only [if_neg y], fun b u e => ?_, fun b z => ?_, fun b u e => ?_⟩ ⟨om, by simp only [if_pos]⟩ (.inr ⟨_, vs.toArray, _, look, rfl, rfl, rfl, by rw [List.size_toArray, lenv]; exact small, by simpa using vals_ints hints⟩)
    · by_cases y : b = sysModules
      · simp only [if_pos y] at e
        cases e
        exact ⟨_, _, rfl⟩
      · simp only [if_neg y] at e
        cases e
    · by_cases x : b = sysModules
      · rw [x]
        exact hK _
      · exact absurd (by simp only [if_neg x]) z
    · by_cases y : b = sysModules
      · simp only [if_pos y] at e
        cases e
        rw [y]
        exact sysok _
      · simp only [if_neg y] at e
        cases e
def spLawS (K : PySem.W.Frag) : Sp := fun vs H Q _ => ∃ (a : Addr) (ns : List Int), vs = [.ref a] ∧ SysAt H ∧ SqL K H a (ns.map V.int) ∧ ns.length ≤ 63 ∧ ∀ H', Q (.bl true) H'
end RV

namespace RV
open PySem PySem.Spec PyProof.Rows L2 TL
/-! ### lists or tuples -/
/-- a list or a tuple of these stands at a -/
def SqA (H : Hp) (a : Addr) (xs : List V) : Prop := H a = some (.lst xs) ∨ H a = some (.tup xs)
theorem SqA.up {H H' : Hp} {a : Addr} {xs : List V} (h : SqA H a xs) (s : Same H H') : SqA H' a xs := h.elim (fun e => .inl (s _ _ e)) fun e => .inr (s _ _ e)
theorem SqA.sqx {K : PySem.W.Frag} {H : Hp} {a : Addr} {xs : List V} (h : SqA H a xs) : SqL K H a xs ∨ SqT K H a xs := h.elim (fun e => .inl (SqL.of e)) fun e => .inr (SqT.of e)
def iSeq (tl : TE) : TI := fun σ H R => tl σ H fun x H1 => ∃ a xs, x = .ref a ∧ SqA H1 a xs ∧
  ∀ (J : It) (G : Hp → Prop), Walk J xs.length G (YAt xs) → (∀ H' : Hp, (∀ o, H1 a = some o → H' a = some o) → G H') → R J H1
section
variable {X : Cx} {tg : Expr}
theorem pi_seq {l : Expr} {tl : TE} (hl : PE X l tl) : PI X tg l (iSeq tl) := by
  refine ⟨fun pins s σ H R I h => ?_⟩
  refine thn (hl.run pins s σ H _ I h) fun v s1 ⟨x, H1, I1, r1, q1⟩ => ?_
  obtain ⟨a, xs, e, hq, q⟩ := q1
  subst e
  cases r1
  rcases hq with hq | hq
  · have hS : SqL X.K H1 a xs := SqL.of hq
    obtain ⟨its, rv, p, hz⟩ := I1.list hS
    refine wpAny_pyIter_list p.isList ?_
    refine ⟨s1.heap.objs.size, [s1.heap.objs.size], _, _, H1, rfl, I1.kept (t' := s1.toks) fun b o e => Heap.get?_push_of_some _ e, turn_list a _, ⟨_, Heap.get?_push_size _ rfl, rfl, rfl⟩, fun b hb => ?_, q _ _ walk_list fun H' k => SqL.of (k _ hq)⟩
    have e : b = s1.heap.objs.size := by simpa using hb
    subst e
    exact I1.fpOk (Nat.le_refl _) (I1.hok.fresh (Nat.le_refl _))
  · have hS : SqT X.K H1 a xs := SqT.of hq
    obtain ⟨its, rv, p, hz⟩ := I1.tuple hS
    refine wpAny_pyIter_tuple (show s1.heap.IsTuple a its.toArray from p) ?_
    refine ⟨s1.heap.objs.size, [s1.heap.objs.size], _, _, H1, rfl, I1.kept (t' := s1.toks) fun b o e => Heap.get?_push_of_some _ e, turn_tuple a _, ⟨_, Heap.get?_push_size _ rfl, rfl, rfl⟩, fun b hb => ?_, q _ _ walk_tup fun H' k => SqT.of (k _ hq)⟩
    have e : b = s1.heap.objs.size := by simpa using hb
    subst e
    exact I1.fpOk (Nat.le_refl _) (I1.hok.fresh (Nat.le_refl _))
end
/-! ### tokens, texts in the heap -/
abbrev Tk := Str × Str
def TkAt (H : Hp) (v : V) (t : Tk) : Prop := ∃ a, v = .ref a ∧ H a = some (.tup [.str t.1, .str t.2])
theorem TkAt.up {H H' : Hp} {v : V} {t : Tk} (h : TkAt H v t) (s : Same H H') : TkAt H' v t := by
  obtain ⟨a, e, q⟩ := h
  exact ⟨a, e, s _ _ q⟩
inductive TxL (H : Hp) : List V → List Tk → Prop
  | nil : TxL H [] []
  | cons {v : V} {t : Tk} {vs : List V} {ts : List Tk} : TkAt H v t → TxL H vs ts → TxL H (v :: vs) (t :: ts)
namespace TxL
variable {H H' : Hp}
theorem up (s : Same H H') : ∀ {vs : List V} {ts : List Tk}, TxL H vs ts → TxL H' vs ts
  | _, _, .nil => .nil
  | _, _, .cons h r => .cons (h.up s) (r.up s)
theorem length : ∀ {vs : List V} {ts : List Tk}, TxL H vs ts → vs.length = ts.length
  | _, _, .nil => rfl
  | _, _, .cons h r => by simp [r.length]
theorem get : ∀ {vs : List V} {ts : List Tk}, TxL H vs ts → ∀ {i : Nat} {v : V}, vs[i]? = some v → ∃ t, ts[i]? = some t ∧ TkAt H v t
  | _, _, .nil, i, v, e => by simp at e
  | _, _, .cons (t := t) h r, 0, v, e => ⟨t, by simp, by
    have e2 := Option.some.inj e
    subst e2
    exact h⟩
  | _, _, .cons h r, i + 1, v, e => by
    obtain ⟨t, q, k⟩ := r.get (i := i) (v := v) (by simpa using e)
    exact ⟨t, by simpa using q, k⟩
theorem append : ∀ {vs ws : List V} {ts us : List Tk}, TxL H vs ts → TxL H ws us → TxL H (vs ++ ws) (ts ++ us)
  | _, _, _, _, .nil, h => h
  | _, _, _, _, .cons a r, h => .cons a (r.append h)
theorem take : ∀ {vs : List V} {ts : List Tk}, TxL H vs ts → ∀ n, TxL H (vs.take n) (ts.take n)
  | _, _, .nil, n => by simpa using TxL.nil
  | _, _, .cons a r, 0 => .nil
  | _, _, .cons a r, n + 1 => .cons a (r.take n)
theorem drop : ∀ {vs : List V} {ts : List Tk}, TxL H vs ts → ∀ n, TxL H (vs.drop n) (ts.drop n)
  | _, _, .nil, n => by simpa using TxL.nil
  | _, _, .cons a r, 0 => .cons a r
  | _, _, .cons a r, n + 1 => r.drop n
theorem one {v : V} {t : Tk} (h : TkAt H v t) : TxL H [v] [t] := .cons h .nil
end TxL
/-! ### texts -/
def tokS (t : Tk) : Bool := markS t.1 && wordS t.2
def headPar : List Tk → Bool
  | [] => true
  | t :: _ => decide (t.1.cps.toList.head? = some 35)
def textS (ts : List Tk) : Bool := ts.all tokS && headPar ts
/-- what is_text says of a value -/
inductive TextV (H : Hp) : V → Bool → Prop
  | odd {v : V} {t : String} (h : Ty7 H v t) (n1 : (t == "list") = false) (n2 : (t == "tuple") = false) : TextV H v false
  | bad {a : Addr} {xs : List V} {bs : List Bool} (s : SqA H a xs) (z : xs.length ≤ 100000) (n : bs.length = xs.length) (h : ∀ (i : Nat) (x : V) (b : Bool), xs[i]? = some x → bs[i]? = some b → Tok7 H x b) (f : bs.all id = false) : TextV H (.ref a) false
  | ok {a : Addr} {xs : List V} {ts : List Tk} (s : SqA H a xs) (z : xs.length ≤ 100000) (h : TxL H xs ts) (l : ∀ t ∈ ts, tokS t = true) : TextV H (.ref a) (headPar ts)
theorem TextV.up {H H' : Hp} {v : V} {b : Bool} (h : TextV H v b) (s : Same H H') : TextV H' v b := by
  cases h with
  | odd h n1 n2 => exact .odd (h.up s) n1 n2
  | bad q z n h f => exact .bad (q.up s) z n (fun i x b hx hb => (h i x b hx hb).up s) f
  | ok q z h l => exact .ok (q.up s) z (h.up s) l
theorem TextV.eq {H : Hp} {v : V} {b c : Bool} (h : TextV H v b) (e : b = c) : TextV H v c := e ▸ h
/-- a list or a tuple of pairs of strings -/
theorem TextV.of {H : Hp} {a : Addr} {xs : List V} {ts : List Tk} (s : SqA H a xs) (z : xs.length ≤ 100000) (h : TxL H xs ts) (l : ∀ t ∈ ts, t.1.length ≤ 100000 ∧ t.2.length ≤ 100000) : TextV H (.ref a) (textS ts) := by
  unfold textS
  cases q : ts.all tokS with
  | true => exact .ok s z h fun t ht => List.all_eq_true.mp q t ht
  | false =>
    refine .bad (bs := ts.map tokS) s z (by simp [h.length]) (fun i x b hx hb => ?_) (by simpa [List.all_map] using q)
    obtain ⟨t, ht, a, rfl, e⟩ := h.get hx
    have lt := l t (List.mem_of_getElem? ht)
    rw [List.getElem?_map, ht] at hb
    have e2 : tokS t = b := by simpa using hb
    exact (Tok7.two e (.str t.1 lt.1) (.str t.2 lt.2)).eq e2
/-! ### writings -/
def isAbc (c : Nat) : Bool := decide (97 ≤ c) && decide (c ≤ 122)
abbrev LT := List Nat × List Nat
/-- the pairs of a writing -/
def markOf : List Nat → List Nat
  | [] => []
  | c :: r => if c = 32 then [c] else c :: r.take 1
def restOf : List Nat → List Nat
  | [] => []
  | c :: r => if c = 32 then r else r.drop 1
theorem rest_le : ∀ l : List Nat, l ≠ [] → (restOf l).length < l.length
  | [], h => absurd rfl h
  | c :: r, _ => by
    show (if c = 32 then r else r.drop 1).length < r.length + 1
    split
    · omega
    · rw [List.length_drop]
      omega
theorem mark_rest : ∀ l : List Nat, markOf l ++ restOf l = l
  | [] => rfl
  | c :: r => by
    show (if c = 32 then [c] else c :: r.take 1) ++ (if c = 32 then r else r.drop 1) = c :: r
    split
    · rfl
    · rw [List.cons_append, List.take_append_drop]
theorem dropWhile_le (p : Nat → Bool) : ∀ l : List Nat, (l.dropWhile p).length ≤ l.length
  | [] => by simp
  | c :: r => by
    rw [List.dropWhile_cons]
    split
    · have := dropWhile_le p r
      simp
      omega
    · simp
def pairsL (l : List Nat) : List LT :=
  if h : l = [] then [] else (markOf l, (restOf l).takeWhile isAbc) :: pairsL ((restOf l).dropWhile isAbc)
termination_by l.length
decreasing_by
  have := rest_le l h
  have := dropWhile_le isAbc (restOf l)
  omega
theorem pairsL_nil : pairsL [] = [] := by
  rw [pairsL]
  simp
theorem pairsL_ne {l : List Nat} (h : l ≠ []) : pairsL l = (markOf l, (restOf l).takeWhile isAbc) :: pairsL ((restOf l).dropWhile isAbc) := by
  rw [pairsL, dif_neg h]
def flatL : List LT → List Nat
  | [] => []
  | t :: r => t.1 ++ (t.2 ++ flatL r)
theorem flatL_app : ∀ a b : List LT, flatL (a ++ b) = flatL a ++ flatL b
  | [], b => rfl
  | t :: r, b => by simp [flatL, flatL_app r b]
theorem flat_pairs : ∀ (n : Nat) (l : List Nat), l.length ≤ n → flatL (pairsL l) = l
  | 0, l, h => by
    have e : l = [] := List.length_eq_zero_iff.mp (by omega)
    subst e
    rw [pairsL_nil]
    rfl
  | n + 1, l, h => by
    by_cases e : l = []
    · subst e
      rw [pairsL_nil]
      rfl
    · rw [pairsL_ne e]
      show markOf l ++ ((restOf l).takeWhile isAbc ++ flatL (pairsL ((restOf l).dropWhile isAbc))) = l
      have h1 := rest_le l e
      have h2 := dropWhile_le isAbc (restOf l)
      rw [flat_pairs n _ (by omega), List.takeWhile_append_dropWhile, mark_rest]
/-- marks and words by their signs -/
def isMarkL (m : List Nat) : Prop := m = [32] ∨ ∃ c d, m = [c, d] ∧ (c = 35 ∨ c = 124 ∨ c = 47) ∧ (d = 48 ∨ d = 49 ∨ d = 50 ∨ d = 51)
def isWordL (w : List Nat) : Prop := w ≠ [] ∧ ∀ c ∈ w, isAbc c = true
theorem takeWhile_all {p : Nat → Bool} : ∀ {w r : List Nat}, (∀ c ∈ w, p c = true) → (r = [] ∨ ∃ c t, r = c :: t ∧ p c = false) → (w ++ r).takeWhile p = w ∧ (w ++ r).dropWhile p = r
  | [], r, _, h => by
    rcases h with rfl | ⟨c, t, rfl, hc⟩
    · simp
    · simp [List.takeWhile_cons, List.dropWhile_cons, hc]
  | c :: w, r, hw, h => by
    obtain ⟨a, b⟩ := takeWhile_all (p := p) (w := w) (r := r) (fun d hd => hw d (by simp [hd])) h
    have hc := hw c (by simp)
    simp [List.takeWhile_cons, List.dropWhile_cons, hc, a, b]
theorem mark_head {m : List Nat} (h : isMarkL m) : ∃ c t, m = c :: t ∧ isAbc c = false ∧ ∀ r, markOf (m ++ r) = m ∧ restOf (m ++ r) = r := by
  rcases h with rfl | ⟨c, d, rfl, hc, hd⟩
  · exact ⟨32, [], rfl, by decide, fun r => ⟨rfl, rfl⟩⟩
  · refine ⟨c, [d], rfl, ?_, fun r => ?_⟩
    · rcases hc with rfl | rfl | rfl <;> decide
    · have n : c ≠ 32 := by rcases hc with rfl | rfl | rfl <;> decide
      show (if c = 32 then [c] else c :: (d :: r).take 1) = [c, d] ∧ (if c = 32 then d :: r else (d :: r).drop 1) = r
      rw [if_neg n, if_neg n]
      exact ⟨rfl, rfl⟩
def validL (ts : List LT) : Prop := ∀ t ∈ ts, isMarkL t.1 ∧ isWordL t.2
theorem flat_head {ts : List LT} (h : validL ts) : flatL ts = [] ∨ ∃ c t, flatL ts = c :: t ∧ isAbc c = false := by
  cases ts with
  | nil => exact .inl rfl
  | cons t r =>
    obtain ⟨c, u, e, hc, _⟩ := mark_head (h t (by simp)).1
    exact .inr ⟨c, _, by show t.1 ++ _ = _; rw [e]; rfl, hc⟩
theorem pairs_flat : ∀ {ts : List LT}, validL ts → pairsL (flatL ts) = ts
  | [], _ => pairsL_nil
  | t :: r, h => by
    obtain ⟨hm, hw⟩ := h t (by simp)
    have hr : validL r := fun u hu => h u (by simp [hu])
    obtain ⟨c, u, e, hc, hh⟩ := mark_head hm
    have ne : t.1 ++ (t.2 ++ flatL r) ≠ [] := by rw [e]; simp
    show pairsL (t.1 ++ (t.2 ++ flatL r)) = t :: r
    obtain ⟨h1, h2⟩ := hh (t.2 ++ flatL r)
    obtain ⟨h3, h4⟩ := takeWhile_all (p := isAbc) (w := t.2) (r := flatL r) hw.2 (flat_head hr)
    rw [pairsL_ne ne, h1, h2, h3, h4, pairs_flat hr]
/-! ### the law's reader -/
def stepL (ps : List LT) (c : Nat) : List LT := match ps.getLast? with
  | none => ps ++ [([c], [])]
  | some t => if isAbc c then ps.dropLast ++ [(t.1, t.2 ++ [c])] else if (t.1 = [35] ∨ t.1 = [124] ∨ t.1 = [47]) ∧ t.2 = [] then ps.dropLast ++ [(t.1 ++ [c], t.2)] else ps ++ [([c], [])]
def readL (l : List Nat) : List LT := l.foldl stepL []
theorem last_split {ps : List LT} {t : LT} (h : ps.getLast? = some t) : ps = ps.dropLast ++ [t] := by
  have ne : ps ≠ [] := by
    intro e
    rw [e] at h
    cases h
  have e := List.dropLast_concat_getLast ne
  rw [List.getLast?_eq_getLast ne] at h
  rw [← Option.some.inj h]
  exact e.symm
theorem flat_step (ps : List LT) (c : Nat) : flatL (stepL ps c) = flatL ps ++ [c] := by
  unfold stepL
  cases q : ps.getLast? with
  | none => simp [flatL_app, flatL]
  | some t =>
    have e := last_split q
    have e2 : flatL ps = flatL ps.dropLast ++ (t.1 ++ t.2) := by
      have z := congrArg flatL e
      rw [flatL_app] at z
      simpa [flatL] using z
    simp only
    split
    · rw [flatL_app, e2]
      simp [flatL]
    · split
      · rename_i h
        rw [flatL_app, e2]
        simp [flatL, h.2]
      · rw [flatL_app]
        simp [flatL]
theorem flat_fold : ∀ (l : List Nat) (ps : List LT), flatL (l.foldl stepL ps) = flatL ps ++ l
  | [], ps => by simp
  | c :: r, ps => by
    rw [List.foldl_cons, flat_fold r, flat_step]
    simp
theorem flat_read (l : List Nat) : flatL (readL l) = l := by
  unfold readL
  rw [flat_fold]
  rfl
theorem step_letter {ps : List LT} {m w : List Nat} {c : Nat} (h : isAbc c = true) : stepL (ps ++ [(m, w)]) c = ps ++ [(m, w ++ [c])] := by
  unfold stepL
  simp [h]
theorem fold_word : ∀ {w : List Nat} {ps : List LT} {m v : List Nat}, (∀ c ∈ w, isAbc c = true) → w.foldl stepL (ps ++ [(m, v)]) = ps ++ [(m, v ++ w)]
  | [], ps, m, v, _ => by simp
  | c :: r, ps, m, v, h => by
    rw [List.foldl_cons, step_letter (h c (by simp)), fold_word fun d hd => h d (by simp [hd])]
    simp
/-- the last pair, if there is one, has a word -/
def lastOk (ps : List LT) : Prop := ∀ t, ps.getLast? = some t → t.2 ≠ []
theorem step_open {ps : List LT} {c : Nat} (hp : lastOk ps) (h : isAbc c = false) : stepL ps c = ps ++ [([c], [])] := by
  unfold stepL
  cases q : ps.getLast? with
  | none => rfl
  | some t =>
    simp only [h]
    rw [if_neg (by decide), if_neg (fun z => hp t q z.2)]
theorem fold_token {ps : List LT} {t : LT} (hp : lastOk ps) (hm : isMarkL t.1) (hw : isWordL t.2) : (t.1 ++ t.2).foldl stepL ps = ps ++ [t] := by
  rw [List.foldl_append]
  have e : t.1.foldl stepL ps = ps ++ [(t.1, [])] := by
    rcases hm with e | ⟨c, d, e, hc, hd⟩
    · rw [e]
      show stepL ps 32 = _
      exact step_open hp (by decide)
    · rw [e]
      show stepL (stepL ps c) d = _
      have n : isAbc c = false := by rcases hc with rfl | rfl | rfl <;> decide
      have n2 : isAbc d = false := by rcases hd with rfl | rfl | rfl | rfl <;> decide
      rw [step_open hp n]
      unfold stepL
      simp only [List.getLast?_append, List.getLast?_singleton, Option.some_or, n2]
      rw [if_neg (by decide), if_pos (by rcases hc with rfl | rfl | rfl <;> simp)]
      simp
  rw [e, fold_word hw.2]
  simp
theorem fold_flat : ∀ {ts ps : List LT}, lastOk ps → validL ts → (flatL ts).foldl stepL ps = ps ++ ts
  | [], ps, _, _ => by simp [flatL]
  | t :: r, ps, hp, h => by
    obtain ⟨hm, hw⟩ := h t (by simp)
    show (t.1 ++ (t.2 ++ flatL r)).foldl stepL ps = _
    rw [← List.append_assoc, List.foldl_append, fold_token hp hm hw, fold_flat (fun u hu => ?_) fun u hu => h u (by simp [hu])]
    · simp
    · simp only [List.getLast?_append, List.getLast?_singleton, Option.some_or, Option.some.injEq] at hu
      rw [← hu]
      exact hw.1
theorem read_flat {ts : List LT} (h : validL ts) : readL (flatL ts) = ts := by
  unfold readL
  rw [fold_flat (fun t e => by cases e) h]
  rfl
/-- both readers agree -/
theorem readers {l : List Nat} : (validL (pairsL l) → readL l = pairsL l) ∧ (validL (readL l) → pairsL l = readL l) := by
  constructor
  · intro h
    have e := flat_pairs l.length l (Nat.le_refl _)
    have z := read_flat h
    rw [e] at z
    exact z
  · intro h
    have z := pairs_flat h
    rw [flat_read] at z
    exact z
end RV

namespace RV
open PySem PySem.Spec PyProof.Rows L2 TL
theorem same_old {H H1 : Hp} {D : Addr} {o : HO} (s : Same H H1) (n : H D = none) : Same H (upd H1 D o) := fun b x e => by
  rw [upd_ne (ne_of_none e n)]
  exact s b x e
/-- a comprehension whose items are known ahead, each made without a change of what stands -/
theorem lc_vals {J : It} {G : Hp → Prop} {xs : List V} (w : Walk J xs.length G (YAt xs)) {g : TG} {tt : TT} {te : TE} {vs : List Nat} {σ : L2.St} {H1 : Hp} {D : Addr} {Qd : Hp → Prop} (ys : List V) (hl : ys.length = xs.length) (hz : xs.length < sizeLine)
    (hD : H1 D = none) (hG : ∀ H', Same H1 H' → G H')
    (hs : ∀ (i : Nat) (x y : V) (H : Hp) (Q : VK) (Pe : Hp → Prop), xs[i]? = some x → ys[i]? = some y → Same H1 H → (∀ H', Same H H' → Q y H') → g x (wipe σ vs) H fun σ2 H2 => wipe σ2 vs = wipe σ vs ∧ tt σ2 H2 fun b H3 => if b = true then te σ2 H3 Q else Pe H3)
    (hd : ∀ H', Same H1 H' → H' D = some (.lst ys) → Qd H') :
    ∃ W : Nat → Nat → Hp → Prop, (∃ m, W 0 m (upd H1 D (.lst []))) ∧ ∀ i m H, W i m H →
      (J.stop i H ∧ Qd H) ∨ (J.go i H ∧ ∃ Nx : Hp → Prop, (∀ H', Nx H' → ∃ m', m' < m ∧ W (i + 1) m' H') ∧ ∀ x H', J.yld i H x H' → g x (wipe σ vs) H' fun σ2 H2 => wipe σ2 vs = wipe σ vs ∧ tt σ2 H2 fun b H3 =>
        if b = true then te σ2 H3 fun y H4 => ∃ acc, H4 D = some (.lst acc) ∧ acc.length < sizeLine ∧ Nx (upd H4 D (.lst (acc ++ [y]))) else Nx H3) := by
  refine lc_it w (fun i H => Same H1 H ∧ H D = some (.lst (ys.take i))) ⟨same_old (Same.refl _) hD, by rw [upd_same]; rfl⟩ (fun i H _ h => hG H h.1) (fun i x H H' hi hP hY => ?_) (fun H hP => ?_)
  · obtain ⟨rfl, hx⟩ := hY
    have hi2 : i < ys.length := by omega
    refine hs i x ys[i] _ _ _ hx (List.getElem?_eq_getElem hi2) hP.1 fun H4 s4 => ?_
    refine ⟨_, s4 _ _ hP.2, by rw [List.length_take]; omega, same_old (hP.1.trans s4) hD, ?_⟩
    rw [upd_same, List.take_add_one, List.getElem?_eq_getElem hi2]
    rfl
  · refine hd H hP.1 ?_
    rw [hP.2, ← hl, List.take_length]
theorem kit_lt {K : PySem.W.Frag} {H : Hp} {v : V} {t : String} (h : Ty7 H v t) : PySem.W.kitAny K (.type t) [.type "list", .type "tuple"] = some (t == "list" || t == "tuple") := by
  refine kitAny_cons (b := t == "list") (kit_ty (kit_list h)) (fun e => ?_) (fun e => by rw [e]; rfl)
  refine kitAny_cons (b := t == "tuple") (kit_ty (kit_tuple h)) (fun e2 => ?_) (fun e2 => by rw [e2, Bool.or_true])
  rw [e, e2]
  rfl
def pair_lt : Paired ClsV [V.ty "list", V.ty "tuple"] [.type "list", .type "tuple"] := .cons (.ty _) (.cons (.ty _) .nil)
theorem SqA.ty {H : Hp} {a : Addr} {xs : List V} (h : SqA H a xs) : ∃ t, Ty7 H (.ref a) t ∧ (t == "list" || t == "tuple") = true := h.elim (fun e => ⟨_, .lst e, by decide⟩) fun e => ⟨_, .tup e, by decide⟩
/-- what _is_mark_row says -/
inductive RowV (H : Hp) : V → Bool → Prop
  | odd {v : V} {t : String} (h : Ty7 H v t) (n : (t == "list" || t == "tuple") = false) : RowV H v false
  | bad {a : Addr} {xs : List V} (s : SqA H a xs) (z : xs.length ≤ 100000) (h : ∀ x ∈ xs, ∃ t, Ty7 H x t) (f : (xs.map markV).all id = false) : RowV H (.ref a) false
  | ok {a : Addr} {ms : List Str} (s : SqA H a (ms.map V.str)) (z : ms.length ≤ 100000) (l : ∀ m ∈ ms, markS m = true) : RowV H (.ref a) (match ms with
    | [] => true
    | m :: _ => decide (m.cps.toList.head? = some 35))
theorem markS_len {z : Str} (h : markS z = true) : z.length ≤ 2 := by
  rcases (markS_iff z).mp h with e | ⟨c, d, e, _⟩
  · rw [← len_list, e]
    decide
  · rw [← len_list, e]
    exact Nat.le_refl 2
theorem wordS_len {z : Str} (h : wordS z = true) : z.length ≤ 30 := by
  unfold wordS at h
  rw [Bool.and_eq_true, Bool.and_eq_true] at h
  exact of_decide_eq_true h.1.2
def spKindOf : Sp := fun vs H Q _ => ∃ (z : Str) (c : Nat) (r : List Nat), vs = [.str z] ∧ markS z = true ∧ z.cps.toList = c :: r ∧ Q (.str ⟨#[c]⟩) H
def spMarkRow : Sp := fun vs H Q _ => ∃ (v : V) (b : Bool), vs = [v] ∧ RowV H v b ∧ ∀ H', Same H H' → Q (.bl b) H'
def spIsText : Sp := fun vs H Q _ => ∃ (v : V) (b : Bool), vs = [v] ∧ TextV H v b ∧ ∀ H', Same H H' → Q (.bl b) H'
/-- the error's field -/
def FldAt (H : Hp) (d : Addr) (f : Str) (v : V) : Prop := H d = some (.xd [(f, v)])
def spCheck (C : Addr) : Sp := fun vs H Q E => ∃ (v : V) (b : Bool), vs = [v] ∧ TextV H v b ∧ (b = true → ∀ H', Same H H' → Q .non H') ∧ (b = false → ∀ H' d, Same H H' → FldAt H' d "value" v → E (.ref C) (some d) H')
end RV
namespace RV
open PySem PySem.Spec PyProof.Rows L2 TL
theorem SqA.len {K : PySem.W.Frag} {H : Hp} {a : Addr} {xs : List V} (h : SqA H a xs) : LenV K (.ref a) H xs.length := h.elim (fun e => .inl ⟨_, SqL.of e, rfl⟩) fun e => .inr ⟨_, SqT.of e, rfl⟩
theorem SqA.ix {K : PySem.W.Frag} {H : Hp} {a : Addr} {xs : List V} {i : Int} {v : V} {Q : VK} (h : SqA H a xs) (e : atI xs i = some v) (q : Q v H) : rIx K (.ref a) (.int i) H Q :=
  h.elim (fun z => .inl ⟨a, xs, i, v, rfl, rfl, SqL.of z, e, q⟩) fun z => .inr (.inl ⟨a, xs, i, v, rfl, rfl, SqT.of z, e, q⟩)
end RV
namespace RV
open PySem PySem.Spec PyProof.Rows L2 TL
/-! ### tokens by their signs -/
def ltk (t : Tk) : LT := (t.1.cps.toList, t.2.cps.toList)
def stk (u : LT) : Tk := (⟨u.1.toArray⟩, ⟨u.2.toArray⟩)
theorem st_lt (t : Tk) : stk (ltk t) = t := by
  obtain ⟨⟨a⟩, ⟨b⟩⟩ := t
  simp [stk, ltk]
theorem lt_st (u : LT) : ltk (stk u) = u := by simp [stk, ltk]
theorem map_lt_st (us : List LT) : (us.map stk).map ltk = us := by
  rw [List.map_map]
  conv => rhs; rw [← List.map_id us]
  exact List.map_congr_left fun u _ => lt_st u
theorem map_st_lt (us : List Tk) : (us.map ltk).map stk = us := by
  rw [List.map_map]
  conv => rhs; rw [← List.map_id us]
  exact List.map_congr_left fun u _ => st_lt u
theorem abc_is (c : Nat) : decide (c ∈ abc.cps.toList) = isAbc c := by
  rw [Bool.eq_iff_iff, decide_eq_true_eq, mem_abc]
  simp [isAbc]
theorem tokS_iff (t : Tk) : tokS t = true ↔ isMarkL (ltk t).1 ∧ isWordL (ltk t).2 ∧ t.2.length ≤ 30 := by
  unfold tokS wordS onlyS
  rw [Bool.and_eq_true, Bool.and_eq_true, Bool.and_eq_true, markS_iff, List.all_eq_true, decide_eq_true_eq, decide_eq_true_eq]
  constructor
  · rintro ⟨h1, ⟨h2, h3⟩, h4⟩
    refine ⟨h1, ⟨?_, fun c hc => ?_⟩, h3⟩
    · intro e
      rw [← len_list] at h2
      have e2 : t.2.cps.toList = [] := e
      rw [e2] at h2
      exact absurd h2 (by decide)
    · rw [← abc_is]
      exact h4 c hc
  · rintro ⟨h1, ⟨h2, h4⟩, h3⟩
    refine ⟨h1, ⟨?_, h3⟩, fun c hc => ?_⟩
    · rw [← len_list]
      exact List.length_pos_iff.mpr h2
    · rw [abc_is]
      exact h4 c hc
theorem valid_of {ts : List Tk} (h : ∀ t ∈ ts, tokS t = true) : validL (ts.map ltk) := fun u hu => by
  obtain ⟨t, ht, rfl⟩ := List.mem_map.mp hu
  obtain ⟨a, b, _⟩ := (tokS_iff t).mp (h t ht)
  exact ⟨a, b⟩
/-- the writing of a text -/
def flatS (ts : List Tk) : Str := ⟨(flatL (ts.map ltk)).toArray⟩
/-- what a writing comes apart into -/
def pairsS (z : Str) : List Tk := (pairsL z.cps.toList).map stk
theorem pairs_write {ts : List Tk} (h : ∀ t ∈ ts, tokS t = true) : pairsS (flatS ts) = ts := by
  unfold pairsS flatS
  show (pairsL ((flatL (ts.map ltk)).toArray.toList)).map stk = ts
  rw [List.toList_toArray, pairs_flat (valid_of h), map_st_lt]
theorem joinL_flat : ∀ l : List (List Nat), joinL [] l = l.flatten
  | [] => rfl
  | [c] => by simp [joinL]
  | c :: d :: r => by
    have ih := joinL_flat (d :: r)
    show c ++ ([] ++ joinL [] (d :: r)) = (c :: d :: r).flatten
    rw [ih]
    simp
theorem join_flat (l : List Str) : Txt.join (Str.ofString "") l = ⟨((l.map tl).flatten).toArray⟩ := by
  have e : tl (Txt.join (Str.ofString "") l) = (l.map tl).flatten := by
    rw [join_eq, tl_join]
    exact joinL_flat _
  refine ext_tl ?_
  rw [e]
theorem flat_eq : ∀ ts : List Tk, ((ts.map fun t => t.1 ++ t.2).map tl).flatten = flatL (ts.map ltk)
  | [] => rfl
  | t :: r => by
    have ih := flat_eq r
    simp only [List.map_cons, List.flatten_cons, flatL, tl_append]
    rw [ih]
    show (t.1.cps.toList ++ t.2.cps.toList) ++ _ = t.1.cps.toList ++ (t.2.cps.toList ++ _)
    rw [List.append_assoc]
theorem join_write (ts : List Tk) : Txt.join (Str.ofString "") (ts.map fun t => t.1 ++ t.2) = flatS ts := by
  rw [join_flat, flat_eq]
  rfl
theorem flat_len : ∀ {ts : List Tk}, (∀ t ∈ ts, tokS t = true) → (flatL (ts.map ltk)).length ≤ 32 * ts.length ∧ ((ts.map fun t => t.1 ++ t.2).map (·.length)).sum ≤ 32 * ts.length
  | [], _ => ⟨Nat.le_refl _, Nat.le_refl _⟩
  | t :: r, h => by
    obtain ⟨h1, h2⟩ := flat_len (ts := r) fun u hu => h u (by simp [hu])
    have lt := h t (by simp)
    unfold tokS at lt
    rw [Bool.and_eq_true] at lt
    have m1 := markS_len lt.1
    have m2 := wordS_len lt.2
    have e1 := len_list t.1
    have e2 := len_list t.2
    have e3 := len_app t.1 t.2
    constructor
    · show ((t.1.cps.toList) ++ (t.2.cps.toList ++ flatL (r.map ltk))).length ≤ 32 * (r.length + 1)
      rw [List.length_append, List.length_append]
      omega
    · show (t.1 ++ t.2).length + ((r.map fun t => t.1 ++ t.2).map (·.length)).sum ≤ 32 * (r.length + 1)
      omega
/-! ### walks of the letters -/
theorem tw_end {p : Nat → Bool} : ∀ {R : List Nat} {k : Nat}, k ≤ (R.takeWhile p).length → (∀ c, R[k]? = some c → p c = false) → k = (R.takeWhile p).length
  | [], k, h, _ => by simpa using h
  | c :: r, k, h, hk => by
    rw [List.takeWhile_cons] at h ⊢
    cases q : p c with
    | false =>
      rw [q] at h
      simpa using h
    | true =>
      rw [q] at h
      cases k with
      | zero =>
        have := hk c (by simp)
        rw [q] at this
        cases this
      | succ k =>
        have := tw_end (R := r) (k := k) (by simpa using h) fun d hd => hk d (by simpa using hd)
        simpa using this
theorem tw_next {p : Nat → Bool} : ∀ {R : List Nat} {k c : Nat}, k ≤ (R.takeWhile p).length → R[k]? = some c → p c = true → k + 1 ≤ (R.takeWhile p).length
  | [], k, c, h, e, _ => by simp at e
  | d :: r, k, c, h, e, hc => by
    rw [List.takeWhile_cons] at h ⊢
    cases q : p d with
    | false =>
      rw [q] at h
      have k0 : k = 0 := by simpa using h
      subst k0
      have e2 : d = c := by simpa using e
      rw [e2, hc] at q
      cases q
    | true =>
      rw [q] at h
      cases k with
      | zero => simp
      | succ k =>
        have := tw_next (R := r) (k := k) (by simpa using h) (by simpa using e) hc
        simpa using this
theorem tw_take {p : Nat → Bool} (R : List Nat) : R.take (R.takeWhile p).length = R.takeWhile p := by
  have e := List.takeWhile_append_dropWhile (p := p) (l := R)
  have q : ∀ a b : List Nat, (a ++ b).take a.length = a := fun a b => by simp
  have z := q (R.takeWhile p) (R.dropWhile p)
  rw [e] at z
  exact z
theorem tw_drop {p : Nat → Bool} (R : List Nat) : R.drop (R.takeWhile p).length = R.dropWhile p := by
  have e := List.takeWhile_append_dropWhile (p := p) (l := R)
  have q : ∀ a b : List Nat, (a ++ b).drop a.length = b := fun a b => by simp
  have z := q (R.takeWhile p) (R.dropWhile p)
  rw [e] at z
  exact z
/-- a slice from a to b, both not below 0 -/
theorem cut_nat (z : Str) (a b : Nat) : cutS z (some (a : Int)) (some (b : Int)) = ⟨((z.cps.toList.drop a).take (b - a)).toArray⟩ := by
  unfold cutS
  rw [HT.sIx_nat, HT.sIx_nat]
  have n := len_list z
  revert n
  generalize z.cps.toList = L
  intro n
  rw [← n]
  congr 2
  by_cases h : a ≤ L.length
  · rw [Nat.min_eq_left h]
    by_cases h2 : b ≤ L.length
    · rw [Nat.min_eq_left h2]
    · rw [Nat.min_eq_right (by omega), List.take_of_length_le (by rw [List.length_drop]; omega), List.take_of_length_le (by rw [List.length_drop]; omega)]
  · rw [show min a L.length = L.length from by omega, List.drop_of_length_le (Nat.le_refl _), List.drop_of_length_le (by omega)]
    simp
/-! ### promises -/
/-- the way out by the error of class C that holds v -/
def OutE (C : Addr) (v : V) (E : XK) (H : Hp) : Prop := ∀ H' d, Same H H' → FldAt H' d "value" v → E (.ref C) (some d) H'
theorem OutE.up {C : Addr} {v : V} {E : XK} {H H' : Hp} (h : OutE C v E H) (s : Same H H') : OutE C v E H' := fun H2 d s2 f => h H2 d (s.trans s2) f
def spWrite (C : Addr) : Sp := fun vs H Q E => ∃ v : V, vs = [v] ∧ ((TextV H v false ∧ OutE C v E H) ∨
  ∃ (a : Addr) (xs : List V) (ts : List Tk), v = .ref a ∧ SqA H a xs ∧ TxL H xs ts ∧ (∀ t ∈ ts, tokS t = true) ∧ headPar ts = true ∧ ts.length ≤ 3000 ∧ ∀ H', Same H H' → Q (.str (flatS ts)) H')
def spPair : Sp := fun vs H Q _ => ∃ (z : Str) (s : Nat), vs = [.str z, .int (s : Int)] ∧ z.length ≤ 90000 ∧ z.cps.toList.drop s ≠ [] ∧
  ∀ t H', Same H H' → H t = none → H' t = some (.tup [.str ⟨(markOf (z.cps.toList.drop s)).toArray⟩, .str ⟨((restOf (z.cps.toList.drop s)).takeWhile isAbc).toArray⟩]) → Q (.ref t) H'
def spRead (C : Addr) : Sp := fun vs H Q E => ∃ v : V, vs = [v] ∧ ((∃ t, Ty7 H v t ∧ isStrV v = false ∧ OutE C v E H) ∨
  ∃ z : Str, v = .str z ∧ z.length ≤ 90000 ∧ (textS (pairsS z) = false → OutE C v E H) ∧ (textS (pairsS z) = true → ∀ D H' xs, Same H H' → H D = none → H' D = some (.lst xs) → TxL H' xs (pairsS z) → Q (.ref D) H'))
end RV
namespace RV
open PySem PySem.Spec PyProof.Rows L2 TL
theorem TxL.sam {H H' : Hp} {D : Addr} {l : List V} (s : Sam D H H') (hD : H D = some (.lst l)) : ∀ {vs : List V} {ts : List Tk}, TxL H vs ts → TxL H' vs ts
  | _, _, .nil => .nil
  | _, _, .cons h r => by
    obtain ⟨a, e, q⟩ := h
    exact .cons ⟨a, e, s _ _ (ne_of q hD (by intro z; cases z)) q⟩ (r.sam s hD)
theorem flat_mem {ts : List LT} {t : LT} (h : t ∈ ts) : t.1.length + t.2.length ≤ (flatL ts).length := by
  induction ts with
  | nil => cases h
  | cons u r ih =>
    show _ ≤ (u.1 ++ (u.2 ++ flatL r)).length
    rw [List.length_append, List.length_append]
    rcases List.mem_cons.mp h with rfl | h
    · omega
    · have := ih h
      omega
theorem flat_size : ∀ {ts : List LT}, (∀ t ∈ ts, t.1 ≠ []) → ts.length ≤ (flatL ts).length
  | [], _ => Nat.le_refl _
  | u :: r, h => by
    have := flat_size (ts := r) fun t ht => h t (by simp [ht])
    have h0 := List.length_pos_iff.mpr (h u (by simp))
    show r.length + 1 ≤ (u.1 ++ (u.2 ++ flatL r)).length
    rw [List.length_append, List.length_append]
    omega
theorem markOf_ne {l : List Nat} (h : l ≠ []) : markOf l ≠ [] := by
  cases l with
  | nil => exact absurd rfl h
  | cons c r =>
    show (if c = 32 then [c] else c :: r.take 1) ≠ []
    split <;> simp
theorem pair_drop (L : List Nat) (n : Nat) : L.drop (n + (markOf (L.drop n)).length + ((restOf (L.drop n)).takeWhile isAbc).length) = (restOf (L.drop n)).dropWhile isAbc := by
  rw [Nat.add_assoc, ← List.drop_drop]
  have e := mark_rest (L.drop n)
  revert e
  generalize L.drop n = l
  intro e
  have q : ∀ a b : List Nat, (a ++ b).drop a.length = b := fun a b => by simp
  have z := q (markOf l) (restOf l)
  rw [e] at z
  rw [← List.drop_drop, z, tw_drop]
theorem pair_len (l : List Nat) : (markOf l).length + ((restOf l).takeWhile isAbc).length ≤ l.length := by
  have e := congrArg List.length (mark_rest l)
  have f := congrArg List.length (List.takeWhile_append_dropWhile (p := isAbc) (l := restOf l))
  rw [List.length_append] at e f
  omega
end RV
namespace RV
open PySem PySem.Spec PyProof.Rows L2 TL
/-! ### drawn marks, words, texts -/
theorem Sam.box_at {p : Addr} {H H1 H' : Hp} {n : Int} (_ : BoxAt H' p n) (a : Sam p H H1) (b : Sam p H1 H') : Sam p H H' := a.trans b
theorem Sam.up {p : Addr} {H H1 H2 : Hp} (a : Sam p H H1) (b : Same H1 H2) : Sam p H H2 := fun c o n h => b c o (a c o n h)
def marks13 : List Str := [" ", "#0", "#1", "#2", "#3", "|0", "|1", "|2", "|3", "/0", "/1", "/2", "/3"]
theorem markS_13 (z : Str) : markS z = decide (z ∈ marks13) := rfl
def spAllMarks : Sp := fun vs H Q _ => vs = [] ∧ ∀ D, H D = none → Q (.ref D) (upd H D (.lst (marks13.map V.str)))
def spMark : Sp := fun vs H Q _ => ∃ (p : Addr) (n : Int), vs = [.ref p] ∧ n ≤ 900000 ∧ BoxAt H p n ∧ ∀ m H', markS m = true → Sam p H H' → BoxAt H' p (n + 3) → Q (.str m) H'
def spWord : Sp := fun vs H Q _ => ∃ (p : Addr) (most n : Int), vs = [.ref p, .int most] ∧ 1 ≤ most ∧ most ≤ 30 ∧ n ≤ 900000 ∧ BoxAt H p n ∧ ∀ z H', wordS z = true → Sam p H H' → BoxAt H' p (n + 35) → Q (.str z) H'
def spTextD : Sp := fun vs H Q _ => ∃ (p : Addr) (many : Nat) (most n : Int), vs = [.ref p, .int (many : Int), .int most] ∧ many ≤ 300 ∧ 1 ≤ most ∧ most ≤ 30 ∧ n ≤ 800000 ∧ BoxAt H p n ∧
  ∀ D H' xs ts, H D = none → Sam p H H' → D ≠ p → BoxAt H' p (n + 40 * many) → H' D = some (.lst xs) → TxL H' xs ts → (∀ t ∈ ts, tokS t = true) → headPar ts = true → ts.length = many → Q (.ref D) H'
theorem markS_asc {m : Str} (h : markS m = true) : Asc m := by
  rcases (markS_iff m).mp h with e | ⟨c, d, e, hc, hd⟩
  · intro x hx
    rw [e] at hx
    have := List.mem_singleton.mp hx
    omega
  · intro x hx
    rw [e] at hx
    simp only [List.mem_cons, List.not_mem_nil, or_false] at hx
    omega
theorem wordS_asc {z : Str} (h : wordS z = true) : Asc z := by
  intro c hc
  unfold wordS onlyS at h
  rw [Bool.and_eq_true] at h
  have := List.all_eq_true.mp h.2 c hc
  rw [abc_is] at this
  simp [isAbc] at this
  omega
theorem wordS_mk {l : List Nat} (h : ∀ c ∈ l, isAbc c = true) (h1 : 1 ≤ l.length) (h2 : l.length ≤ 30) : wordS ⟨l.toArray⟩ = true := by
  unfold wordS onlyS
  rw [len_mk, decide_eq_true h1, decide_eq_true h2]
  simp only [Bool.and_self, Bool.true_and]
  rw [List.all_eq_true]
  intro c hc
  rw [abc_is]
  exact h c (by simpa using hc)
end RV
namespace RV
open PySem PySem.Spec PyProof.Rows L2 TL
theorem samNone {p D : Addr} {H H1 : Hp} (s : Sam p H H1) (n : D ≠ p) (h : H1 D = none) : H D = none := by
  cases e : H D with
  | none => rfl
  | some u =>
    rw [s D u n e] at h
    cases h
theorem sameNone {D : Addr} {H H1 : Hp} (s : Same H H1) (h : H1 D = none) : H D = none := by
  cases e : H D with
  | none => rfl
  | some u =>
    rw [s D u e] at h
    cases h
theorem Sam.old {p D : Addr} {H H1 : Hp} {o : HO} (s : Sam p H H1) (h : H D = none) : Sam p H (upd H1 D o) := fun c u nc e => by
  rw [upd_ne (ne_of_none e h)]
  exact s c u nc e
theorem BoxAt.off {H : Hp} {p D : Addr} {n : Int} {o : HO} (b : BoxAt H p n) (h : D ≠ p) : BoxAt (upd H D o) p n := by
  obtain ⟨x, y, z, e, r⟩ := b
  exact ⟨x, y, z, by rw [upd_ne h.symm]; exact e, r⟩
end RV

namespace RV
open PySem PySem.Spec PyProof.Rows L2 TL
theorem inV_strs (m : Str) (ms : List Str) : inV (.str m) (ms.map V.str) = decide (m ∈ ms) := by
  unfold inV
  rw [List.any_map, Bool.eq_iff_iff, List.any_eq_true, decide_eq_true_eq]
  constructor
  · rintro ⟨y, hy, e⟩
    have e2 : (y == m) = true := e
    rw [← beq_iff_eq.mp e2]
    exact hy
  · intro h
    exact ⟨m, h, beq_iff_eq.mpr rfl⟩
/-- rows: lists of a mark and a word, each at an address of its own -/
inductive RwL (H : Hp) : List Addr → List LT → Prop
  | nil : RwL H [] []
  | cons {a : Addr} {t : LT} {as : List Addr} {ts : List LT} : H a = some (.lst [.str (stk t).1, .str (stk t).2]) → RwL H as ts → RwL H (a :: as) (t :: ts)
namespace RwL
theorem up {H H' : Hp} (s : Same H H') : ∀ {as : List Addr} {ts : List LT}, RwL H as ts → RwL H' as ts
  | _, _, .nil => .nil
  | _, _, .cons h r => .cons (s _ _ h) (r.up s)
theorem off {H : Hp} {p : Addr} {o : HO} : ∀ {as : List Addr} {ts : List LT}, p ∉ as → RwL H as ts → RwL (upd H p o) as ts
  | _, _, _, .nil => .nil
  | _, _, n, .cons h r => .cons (by
    rw [upd_ne (fun e => n (by rw [← e]; exact List.mem_cons_self))]
    exact h) (r.off fun e => n (List.mem_cons_of_mem _ e))
theorem length {H : Hp} : ∀ {as : List Addr} {ts : List LT}, RwL H as ts → as.length = ts.length
  | _, _, .nil => rfl
  | _, _, .cons h r => by simp [r.length]
theorem append {H : Hp} : ∀ {as bs : List Addr} {ts us : List LT}, RwL H as ts → RwL H bs us → RwL H (as ++ bs) (ts ++ us)
  | _, _, _, _, .nil, h => h
  | _, _, _, _, .cons a r, h => .cons a (r.append h)
theorem get {H : Hp} : ∀ {as : List Addr} {ts : List LT}, RwL H as ts → ∀ {i : Nat} {a : Addr}, as[i]? = some a → ∃ t, ts[i]? = some t ∧ H a = some (.lst [.str (stk t).1, .str (stk t).2])
  | _, _, .nil, i, a, e => by simp at e
  | _, _, .cons (t := t) h r, 0, a, e => ⟨t, by simp, by
    have e2 := Option.some.inj e
    subst e2
    exact h⟩
  | _, _, .cons h r, i + 1, a, e => by
    obtain ⟨t, q, k⟩ := r.get (i := i) (a := a) (by simpa using e)
    exact ⟨t, by simpa using q, k⟩
/-- the last row -/
theorem last {H : Hp} {as : List Addr} {ts : List LT} {t : LT} (h : RwL H as ts) (e : ts.getLast? = some t) : ∃ bs a, as = bs ++ [a] ∧ RwL H bs ts.dropLast ∧ H a = some (.lst [.str (stk t).1, .str (stk t).2]) := by
  induction h with
  | nil => cases e
  | @cons a u as ts hu r ih =>
    cases ts with
    | nil =>
      cases r
      have e2 : u = t := Option.some.inj e
      subst e2
      exact ⟨[], a, rfl, .nil, hu⟩
    | cons v ts =>
      obtain ⟨bs, b, e2, h2, h3⟩ := ih (by simpa using e)
      exact ⟨a :: bs, b, by rw [e2]; rfl, .cons hu h2, h3⟩
end RwL
/-- what the law's reader makes of a writing -/
def readS (z : Str) : List Tk := (readL z.cps.toList).map stk
theorem textS_valid {ts : List LT} (h : textS (ts.map stk) = true) : validL ts := by
  unfold textS at h
  rw [Bool.and_eq_true] at h
  have v := valid_of (ts := ts.map stk) fun t ht => List.all_eq_true.mp h.1 t ht
  rw [map_lt_st] at v
  exact v
theorem readers1 {z : Str} (h : textS (pairsS z) = true) : readS z = pairsS z := by
  unfold readS pairsS at *
  rw [readers.1 (textS_valid h)]
theorem readers2 {z : Str} (h : textS (readS z) = true) : pairsS z = readS z := by
  unfold readS pairsS at *
  rw [readers.2 (textS_valid h)]
theorem readers_ok (z : Str) : textS (pairsS z) = textS (readS z) := by
  cases h : textS (pairsS z) with
  | true => rw [readers1 h, h]
  | false =>
    cases h2 : textS (readS z) with
    | false => rfl
    | true =>
      rw [readers2 h2, h2] at h
      cases h
/-- words of the reader's rows are letters alone -/
def wordsAbc (ps : List LT) : Prop := ∀ t ∈ ps, ∀ c ∈ t.2, isAbc c = true
theorem words_step {ps : List LT} {c : Nat} (h : wordsAbc ps) : wordsAbc (stepL ps c) := by
  unfold stepL
  cases q : ps.getLast? with
  | none =>
    intro t ht d hd
    rcases List.mem_append.mp ht with h1 | h1
    · exact h t h1 d hd
    · rw [List.mem_singleton.mp h1] at hd
      cases hd
  | some u =>
    have e := last_split q
    have hu : u ∈ ps := by rw [e]; simp
    have hd0 : ∀ t ∈ ps.dropLast, ∀ d ∈ t.2, isAbc d = true := fun t ht => h t (List.dropLast_subset ps ht)
    simp only
    split
    · rename_i hc
      intro t ht d hd
      rcases List.mem_append.mp ht with h1 | h1
      · exact hd0 t h1 d hd
      · rw [List.mem_singleton.mp h1] at hd
        rcases List.mem_append.mp hd with h2 | h2
        · exact h u hu d h2
        · rw [List.mem_singleton.mp h2]
          exact hc
    · split
      · intro t ht d hd
        rcases List.mem_append.mp ht with h1 | h1
        · exact hd0 t h1 d hd
        · rw [List.mem_singleton.mp h1] at hd
          exact h u hu d hd
      · intro t ht d hd
        rcases List.mem_append.mp ht with h1 | h1
        · exact h t h1 d hd
        · rw [List.mem_singleton.mp h1] at hd
          cases hd
theorem words_read : ∀ (l : List Nat) (ps : List LT), wordsAbc ps → wordsAbc (l.foldl stepL ps)
  | [], ps, h => h
  | c :: r, ps, h => words_read r _ (words_step h)
/-- one row is right -/
def rowOk (i : Nat) (t : Tk) : Bool := markS t.1 && (decide (1 ≤ t.2.length) && decide (t.2.length ≤ 30)) && (decide (i ≠ 0) || decide (t.1.cps.toList.head? = some 35))
theorem row_tok {ps : List LT} (h : wordsAbc ps) {t : LT} (ht : t ∈ ps) : tokS (stk t) = (markS (stk t).1 && (decide (1 ≤ (stk t).2.length) && decide ((stk t).2.length ≤ 30))) := by
  unfold tokS wordS
  have e : onlyS (stk t).2 abc = true := by
    unfold onlyS
    rw [List.all_eq_true]
    intro c hc
    rw [abc_is]
    exact h t ht c (by simpa [stk] using hc)
  rw [e, Bool.and_true]
theorem rows_bad {ps : List LT} (h : wordsAbc ps) {i : Nat} {t : LT} (hi : ps[i]? = some t) (hb : rowOk i (stk t) = false) : textS (ps.map stk) = false := by
  have ht := List.mem_of_getElem? hi
  have e := row_tok h ht
  unfold rowOk at hb
  rw [← e] at hb
  unfold textS
  rw [Bool.and_eq_false_iff]
  cases q : tokS (stk t) with
  | false =>
    left
    rw [List.all_eq_false]
    exact ⟨stk t, List.mem_map_of_mem ht, by rw [q]; exact Bool.false_ne_true⟩
  | true =>
    right
    rw [q, Bool.true_and, Bool.or_eq_false_iff, decide_eq_false_iff_not, Decidable.not_not] at hb
    obtain ⟨rfl, h2⟩ := hb
    cases ps with
    | nil => cases hi
    | cons u r =>
      have e2 : u = t := Option.some.inj hi
      subst e2
      exact h2
theorem rows_good {ps : List LT} (h : wordsAbc ps) (hg : ∀ i t, ps[i]? = some t → rowOk i (stk t) = true) : textS (ps.map stk) = true := by
  unfold textS
  rw [Bool.and_eq_true]
  constructor
  · rw [List.all_eq_true]
    intro u hu
    obtain ⟨t, ht, rfl⟩ := List.mem_map.mp hu
    obtain ⟨i, hi⟩ := List.getElem?_of_mem ht
    have := hg i t hi
    unfold rowOk at this
    rw [← row_tok h ht, Bool.and_eq_true] at this
    exact this.1
  · cases ps with
    | nil => rfl
    | cons t r =>
      have := hg 0 t rfl
      unfold rowOk at this
      rw [Bool.and_eq_true] at this
      simpa [headPar] using this.2
def spLawRead : Sp := fun vs H Q _ => ∃ z : Str, vs = [.str z] ∧ z.length ≤ 50000 ∧ (textS (readS z) = false → ∀ H', Same H H' → Q .non H') ∧ (textS (readS z) = true → ∀ D H' xs, H D = none → Same H H' → H' D = some (.lst xs) → TxL H' xs (readS z) → Q (.ref D) H')
end RV
namespace RV
open PySem PySem.Spec PyProof.Rows L2 TL
theorem empty_str : Str.ofString "" = (⟨#[]⟩ : Str) := by decide +kernel
theorem app_one (l : List Nat) (c : Nat) : (⟨l.toArray⟩ ++ ⟨#[c]⟩ : Str) = ⟨(l ++ [c]).toArray⟩ := by
  refine ext_tl ?_
  rw [tl_append]
theorem step_none {ps : List LT} {c : Nat} (h : ps.getLast? = none) : stepL ps c = ps ++ [([c], [])] := by
  unfold stepL
  rw [h]
theorem step_abc {ps : List LT} {c : Nat} {t : LT} (h : ps.getLast? = some t) (hc : isAbc c = true) : stepL ps c = ps.dropLast ++ [(t.1, t.2 ++ [c])] := by
  unfold stepL
  rw [h]
  simp only
  rw [if_pos hc]
theorem step_mark {ps : List LT} {c : Nat} {t : LT} (h : ps.getLast? = some t) (hc : isAbc c = false) (hm : (t.1 = [35] ∨ t.1 = [124] ∨ t.1 = [47]) ∧ t.2 = []) : stepL ps c = ps.dropLast ++ [(t.1 ++ [c], t.2)] := by
  unfold stepL
  rw [h]
  simp only
  rw [if_neg (by rw [hc]; exact Bool.false_ne_true), if_pos hm]
theorem step_new {ps : List LT} {c : Nat} {t : LT} (h : ps.getLast? = some t) (hc : isAbc c = false) (hm : ¬((t.1 = [35] ∨ t.1 = [124] ∨ t.1 = [47]) ∧ t.2 = [])) : stepL ps c = ps ++ [([c], [])] := by
  unfold stepL
  rw [h]
  simp only
  rw [if_neg (by rw [hc]; exact Bool.false_ne_true), if_neg hm]
theorem mk_eq (l k : List Nat) : ((⟨l.toArray⟩ : Str) = ⟨k.toArray⟩) ↔ l = k := by
  constructor
  · intro h
    have e := congrArg (fun z : Str => z.cps.toList) h
    simpa using e
  · intro h
    rw [h]
theorem sign3 (l : List Nat) : (⟨l.toArray⟩ : Str) ∈ ([Str.ofString "#", Str.ofString "|", Str.ofString "/"] : List Str) ↔ (l = [35] ∨ l = [124] ∨ l = [47]) := by
  rw [show Str.ofString "#" = (⟨[35].toArray⟩ : Str) from by decide +kernel, show Str.ofString "|" = (⟨[124].toArray⟩ : Str) from by decide +kernel, show Str.ofString "/" = (⟨[47].toArray⟩ : Str) from by decide +kernel]
  simp only [List.mem_cons, List.not_mem_nil, or_false, mk_eq]
theorem last_none {as : List Addr} {ps : List LT} {H : Hp} (h : RwL H as ps) (q : ps.getLast? = none) : as = [] := by
  have e : ps = [] := List.getLast?_eq_none_iff.mp q
  subst e
  cases h
  rfl
end RV
namespace RV
open PySem PySem.Spec PyProof.Rows L2 TL
theorem step_len (ps : List LT) (c : Nat) : (stepL ps c).length ≤ ps.length + 1 := by
  cases q : ps.getLast? with
  | none =>
    rw [step_none q]
    simp
  | some t =>
    have e := congrArg List.length (last_split q)
    unfold stepL
    rw [q]
    simp only
    split
    · simp at e ⊢
      try omega
    · split
      · simp at e ⊢
        try omega
      · simp
theorem fold_len : ∀ (l : List Nat) (ps : List LT), (l.foldl stepL ps).length ≤ ps.length + l.length
  | [], ps => by simp
  | c :: r, ps => by
    have h1 := fold_len r (stepL ps c)
    have h2 := step_len ps c
    rw [List.foldl_cons, List.length_cons]
    omega
end RV
namespace RV
open PySem PySem.Spec PyProof.Rows L2 TL
def ToldErr (H : Hp) (v : V) (Q : VK) : Prop := ∀ R H', Same H H' → H R = none → H' R = some (.lst [.str (Str.ofString "text"), v]) → Q (.ref R) H'
def ToldStr (H : Hp) (s : Str) (Q : VK) : Prop := ∀ R H', Same H H' → H R = none → H' R = some (.lst [.str (Str.ofString "told"), .str s]) → Q (.ref R) H'
def ToldText (H : Hp) (ts : List Tk) (Q : VK) : Prop := ∀ R D H' xs, Same H H' → H R = none → H D = none → R ≠ D → H' R = some (.lst [.str (Str.ofString "told"), .ref D]) → H' D = some (.lst xs) → TxL H' xs ts → Q (.ref R) H'
inductive Told (H : Hp) (Q : VK) : Int → V → Prop
  | wno {v : V} (h : TextV H v false) (q : ToldErr H v Q) : Told H Q 0 v
  | wyes {a : Addr} {xs : List V} {ts : List Tk} (s : SqA H a xs) (h : TxL H xs ts) (k : ∀ t ∈ ts, tokS t = true) (p : headPar ts = true) (l : ts.length ≤ 3000) (q : ToldStr H (flatS ts) Q) : Told H Q 0 (.ref a)
  | rno {v : V} {t : String} (h : Ty7 H v t) (n : isStrV v = false) (q : ToldErr H v Q) : Told H Q 1 v
  | rstr {z : Str} (l : z.length ≤ 90000) (q1 : textS (pairsS z) = false → ToldErr H (.str z) Q) (q2 : textS (pairsS z) = true → ToldText H (pairsS z) Q) : Told H Q 1 (.str z)
def spTold : Sp := fun vs H Q _ => ∃ (way : Int) (v : V), vs = [.int way, v] ∧ Told H Q way v
end RV

namespace RV
open PySem PySem.Spec PyProof.Rows L2 TL
def repS (x : Str) (k : Nat) : Str := ⟨(List.replicate k x.cps.toList).flatten.toArray⟩
theorem fold_rep (a : Array Nat) : ∀ (k : Nat) (acc : Array Nat), (List.replicate k a).foldl (fun x y => x ++ y) acc = acc ++ (List.replicate k a.toList).flatten.toArray
  | 0, acc => by simp
  | k + 1, acc => by
    rw [List.replicate_succ, List.foldl_cons, fold_rep a k, List.replicate_succ, List.flatten_cons]
    apply Array.ext'
    simp
/-- s * k -/
def rMulS : R2 := fun x y H Q => ∃ (z : Str) (k : Nat), x = .str z ∧ y = .int (k : Int) ∧ z.length ≤ 200 ∧ k ≤ 1000 ∧ Q (.str (repS z k)) H
theorem op_mul_str {X : Cx} : OpR X (binaryOp .Mult) rMulS := by
  intro pins s σ H x y v u Q I rx ry h
  obtain ⟨z, k, rfl, rfl, hz, hk, q⟩ := h
  obtain ⟨t, rfl⟩ := rx
  obtain ⟨t', rfl⟩ := ry
  have hs : sizeLine = 16777216 := sizeLine_eq
  have hl : z.length * k ≤ 200000 := Nat.mul_le_mul hz hk
  refine PySem.P.mul_str (by rw [decide_eq_false (by omega), decide_eq_false (by omega)]; rfl) (fun h1 h2 => ?_) (fun h1 h2 => ?_) ?_
  · have k1 : 1 ≤ k := by omega
    have : (1000 : Int) ≤ (2 ^ 63 - 1) / (k : Int) := by
      rw [Int.le_ediv_iff_mul_le (by omega)]
      omega
    omega
  · unfold Builtin.Str.tooLong
    rw [Int.toNat_natCast]
    exact decide_eq_false (by omega)
  · have fin : ∀ y : Str, y = repS z k → ∀ t tk, EP X pins σ Q (.str y t) { s with toks := tk } := fun y e t tk => ⟨.str y, H, I.tok _, ⟨t, rfl⟩, by rw [e]; exact q⟩
    by_cases h1 : (k : Int) < 1
    · rw [if_pos h1]
      refine ⟨by decide, fin _ ?_ _ _⟩
      have k0 : k = 0 := by omega
      subst k0
      rfl
    · rw [if_neg h1]
      by_cases h2 : (((k : Int) == 1) || (z.length == 0)) = true
      · rw [if_pos h2]
        have e : z = repS z k := by
          rcases Bool.or_eq_true _ _ ▸ h2 with h3 | h3
          · have k1 : k = 1 := by
              have := beq_iff_eq.mp h3
              omega
            subst k1
            unfold repS
            refine ext_tl ?_
            simp [tl]
          · have z0 : z.cps.toList = [] := List.length_eq_zero_iff.mp ((len_list z).trans (beq_iff_eq.mp h3))
            unfold repS
            refine ext_tl ?_
            simp [tl, z0]
        exact fin z e _ _
      · rw [if_neg h2]
        refine ⟨?_, fin _ ?_ _ _⟩
        · rw [Int.toNat_natCast, fold_rep]
          refine szl ?_
          have e : (⟨#[] ++ (List.replicate k z.cps.toList).flatten.toArray⟩ : Str).length = k * z.length := by
            show (#[] ++ (List.replicate k z.cps.toList).flatten.toArray : Array Nat).size = _
            rw [← len_list z]
            simp [List.length_flatten]
          rw [e, Nat.mul_comm]
          exact hl
        · rw [Int.toNat_natCast, fold_rep]
          unfold repS
          simp
end RV

/-! what is shown of texts and tellings; the state of the law's body -/
namespace RV
open PySem PySem.Spec PyProof.Rows L2 TL
theorem ite_tail {c A B T : Prop} [Decidable c] (h : T) (a : PLift T → c → A) (b : PLift T → ¬ c → B) : if c then A else B := ite2 (a ⟨h⟩) (b ⟨h⟩)
theorem sig_as {N : L2.St → Hp → Prop} {σ σ' : L2.St} {H : Hp} (e : σ = σ') (h : N σ' H) : N σ H := e ▸ h
theorem with_tail {T G : Prop} (h : T) (m : PLift T → G) : G := m ⟨h⟩
def dTk (t : Tk) : PyData := .tuple [.str t.1, .str t.2]
def dTx (ts : List Tk) : PyData := .list (ts.map dTk)
theorem dx_tx {H : Hp} : ∀ {xs : List V} {ts : List Tk}, TxL H xs ts → DxAll H xs (ts.map dTk)
  | _, _, .nil => .nil
  | _, _, .cons h r => by
    obtain ⟨a, rfl, e⟩ := h
    exact .cons (.tup e (.cons (.str _) (.cons (.str _) .nil))) (dx_tx r)
/-- a token that can be shown -/
def tokA (t : Tk) : Prop := Asc t.1 ∧ Asc t.2 ∧ t.1.length ≤ 100 ∧ t.2.length ≤ 100
theorem tokS_A {t : Tk} (h : tokS t = true) : tokA t := by
  unfold tokS at h
  rw [Bool.and_eq_true] at h
  have m1 := markS_len h.1
  have m2 := wordS_len h.2
  exact ⟨markS_asc h.1, wordS_asc h.2, by omega, by omega⟩
theorem depthAll_tk : ∀ ts : List Tk, PyData.depthAll (ts.map dTk) ≤ 1
  | [] => by simp [PyData.depthAll]
  | t :: r => by
    have := depthAll_tk r
    simp only [List.map_cons, PyData.depthAll, dTk, PyData.depth]
    omega
theorem plainAll_tk : ∀ {ts : List Tk}, (∀ t ∈ ts, tokA t) → plainAll (ts.map dTk)
  | [], _ => by simp [plainAll]
  | t :: r, h => by
    obtain ⟨h1, h2, _⟩ := h t (by simp)
    simp only [List.map_cons, plainAll, dTk, plainD]
    exact ⟨⟨h1, h2, trivial⟩, plainAll_tk fun u hu => h u (by simp [hu])⟩
theorem costAll_tk : ∀ {ts : List Tk}, (∀ t ∈ ts, tokA t) → costAll (ts.map dTk) ≤ 2020 * ts.length
  | [], _ => by simp [costAll]
  | t :: r, h => by
    obtain ⟨_, _, h1, h2⟩ := h t (by simp)
    have := costAll_tk (ts := r) fun u hu => h u (by simp [hu])
    simp only [List.map_cons, costAll, dTk, cost, List.length_cons]
    omega
/-- data that can be shown, with room left -/
structure ShD (H : Hp) (v : V) (d : PyData) : Prop where
  dx : Dx H v d
  dp : d.depth ≤ 50
  pl : plainD d
  co : cost d ≤ 15000000
theorem ShD.up {H H' : Hp} {v : V} {d : PyData} (h : ShD H v d) (s : Same H H') : ShD H' v d := ⟨Dx.up s d v h.dx, h.dp, h.pl, h.co⟩
theorem ShD.tx {H : Hp} {D : Addr} {xs : List V} {ts : List Tk} (e : H D = some (.lst xs)) (tx : TxL H xs ts) (ha : ∀ t ∈ ts, tokA t) (l : ts.length ≤ 7000) : ShD H (.ref D) (dTx ts) := by
  have h1 := depthAll_tk ts
  have h2 := plainAll_tk ha
  have h3 := costAll_tk ha
  refine ⟨.lst e (dx_tx tx), ?_, h2, ?_⟩
  · simp only [dTx, PyData.depth]
    omega
  · simp only [dTx, cost]
    omega
theorem ShD.str {H : Hp} {z : Str} (h : Asc z) (l : z.length ≤ 1000000) : ShD H (.str z) (.str z) := ⟨.str z, by simp [PyData.depth], h, by simp only [cost]; omega⟩
theorem ShD.non {H : Hp} : ShD H .non .none := ⟨.non, by simp [PyData.depth], trivial, by simp only [cost]; omega⟩
theorem ShD.bl {H : Hp} (b : Bool) : ShD H (.bl b) (.bool b) := ⟨.bl b, by simp [PyData.depth], trivial, by simp only [cost]; omega⟩
theorem ShD.int {H : Hp} {i : Int} (h : i.natAbs.log2 < 1920) : ShD H (.int i) (.int i) := ⟨.int i, by simp [PyData.depth], h, by simp only [cost]; omega⟩
/-- a list of two: a word, and what can be shown -/
theorem ShD.two {H : Hp} {R : Addr} {k : Str} {v : V} {d : PyData} (e : H R = some (.lst [.str k, v])) (h : ShD H v d) (hk : Asc k) (lk : k.length ≤ 100) : Dx H (.ref R) (.list [.str k, d]) ∧ (PyData.list [.str k, d]).depth ≤ 60 ∧ plainD (.list [.str k, d]) ∧ cost (.list [.str k, d]) ≤ sizeLine := by
  have h1 := h.dp
  have h2 := h.co
  have hs : sizeLine = 16777216 := sizeLine_eq
  refine ⟨.lst e (.cons (.str k) (.cons h.dx .nil)), ?_, ⟨hk, h.pl, trivial⟩, ?_⟩
  · simp only [PyData.depth, PyData.depthAll]
    omega
  · simp only [cost, costAll]
    omega
theorem asc_told : Asc (Str.ofString "told") := asc_lit (by decide +kernel)
theorem asc_text : Asc (Str.ofString "text") := asc_lit (by decide +kernel)
theorem len_told : (Str.ofString "told").length ≤ 100 := by decide +kernel
theorem len_text : (Str.ofString "text").length ≤ 100 := by decide +kernel
/-- the law's state: the box at p, its text at T -/
structure Stt (H0 : Hp) (p T : Addr) (xs : List V) (ts : List Tk) (n : Int) (H : Hp) : Prop where
  ss : Sam p H0 H
  bx : BoxAt H p n
  tn : T ≠ p
  et : H T = some (.lst xs)
  tx : TxL H xs ts
  sy : SysAt H
theorem SysAt.sam {H H' : Hp} {p : Addr} {n : Int} (h : SysAt H) (b : BoxAt H p n) (s : Sam p H H') : SysAt H' := by
  obtain ⟨x, y, z, e, _⟩ := b
  obtain ⟨o, k⟩ := h
  exact ⟨o, s _ _ (not_sys ⟨o, k⟩ e (fun o z => by cases z)).symm k⟩
theorem Stt.same {H0 H H' : Hp} {p T : Addr} {xs : List V} {ts : List Tk} {n : Int} (z : Stt H0 p T xs ts n H) (s : Same H H') : Stt H0 p T xs ts n H' :=
  ⟨z.ss.up s, z.bx.up s, z.tn, s _ _ z.et, z.tx.up s, z.sy.up s⟩
theorem Stt.sam {H0 H H' : Hp} {p T : Addr} {xs : List V} {ts : List Tk} {n m : Int} (z : Stt H0 p T xs ts n H) (s : Sam p H H') (b : BoxAt H' p m) : Stt H0 p T xs ts m H' := by
  obtain ⟨x, y, w, e, _⟩ := id z.bx
  exact ⟨z.ss.trans s, b, z.tn, s _ _ z.tn z.et, z.tx.sam s e, z.sy.sam z.bx s⟩
theorem Stt.take {H0 H : Hp} {p T : Addr} {xs : List V} {ts : List Tk} {n m : Int} {o : HO} (z : Stt H0 p T xs ts n H) (b : BoxAt (upd H p o) p m) : Stt H0 p T xs ts m (upd H p o) := z.sam (Sam.box (Sam.refl _ _)) b
theorem Stt.mono {H0 H : Hp} {p T : Addr} {xs : List V} {ts : List Tk} {n m : Int} (z : Stt H0 p T xs ts n H) (h : n ≤ m) : Stt H0 p T xs ts m H := ⟨z.ss, z.bx.mono h, z.tn, z.et, z.tx, z.sy⟩
theorem cutS_len (z : Str) (lo hi : Option Int) : (cutS z lo hi).length ≤ z.length := by
  unfold cutS
  rw [len_mk, List.length_take, List.length_drop, len_list]
  omega
theorem cut_sum (z : Str) {a b : Int} (ha : 0 ≤ a) (hb : 0 ≤ b) : (cutS z none (some a)).length + (cutS z (some (a + b)) none).length ≤ z.length := by
  obtain ⟨m, rfl⟩ : ∃ m : Nat, a = m := ⟨a.toNat, by omega⟩
  obtain ⟨k, e⟩ : ∃ k : Nat, (m : Int) + b = k := ⟨((m : Int) + b).toNat, by omega⟩
  rw [e]
  have e1 : (cutS z none (some (m : Int))).length = min m z.length := by
    unfold cutS
    rw [HT.sIx_nat, HT.sIx_none]
    show ((List.take _ _).toArray).size = _
    rw [List.size_toArray, List.length_take, List.length_drop, len_list]
    omega
  have e2 : (cutS z (some (k : Int)) none).length = z.length - min k z.length := by
    unfold cutS
    rw [HT.sIx_nat, HT.sIx_none]
    show ((List.take _ _).toArray).size = _
    rw [List.size_toArray, List.length_take, List.length_drop, len_list]
    omega
  omega
def cutT (ts : List Tk) (lo hi : Option Int) : List Tk := (ts.drop (HT.sIx ts.length 0 lo)).take (HT.sIx ts.length ts.length hi - HT.sIx ts.length 0 lo)
theorem TxL.cut {H : Hp} {xs : List V} {ts : List Tk} (h : TxL H xs ts) (lo hi : Option Int) : TxL H (cutV xs lo hi) (cutT ts lo hi) := by
  unfold cutV cutT
  rw [h.length]
  exact (h.drop _).take _
theorem cutT_mem {ts : List Tk} {lo hi : Option Int} {t : Tk} (h : t ∈ cutT ts lo hi) : t ∈ ts := List.mem_of_mem_drop (List.mem_of_mem_take h)
theorem cutT_len (ts : List Tk) (lo hi : Option Int) : (cutT ts lo hi).length ≤ ts.length := by
  unfold cutT
  rw [List.length_take, List.length_drop]
  omega
theorem asc_flat {ts : List Tk} (h : ∀ t ∈ ts, tokS t = true) : Asc (flatS ts) := by
  refine asc_mk ?_
  induction ts with
  | nil => intro c hc; cases hc
  | cons t r ih =>
    intro c hc
    have ht := tokS_A (h t (by simp))
    rcases List.mem_append.mp (show c ∈ (ltk t).1 ++ ((ltk t).2 ++ flatL (r.map ltk)) from hc) with h1 | h1
    · exact ht.1 c h1
    · rcases List.mem_append.mp h1 with h2 | h2
      · exact ht.2.1 c h2
      · exact ih (fun u hu => h u (by simp [hu])) c h2
theorem flatS_len {ts : List Tk} (h : ∀ t ∈ ts, tokS t = true) : (flatS ts).length ≤ 32 * ts.length := by
  unfold flatS
  rw [len_mk]
  exact (flat_len h).1
theorem asc_rep {z : Str} (h : Asc z) (k : Nat) : Asc (repS z k) := by
  unfold repS
  refine asc_mk fun c hc => ?_
  obtain ⟨l, hl, hc2⟩ := List.mem_flatten.mp hc
  rw [(List.mem_replicate.mp hl).2] at hc2
  exact h c hc2
theorem rep_len (z : Str) (k : Nat) : (repS z k).length = k * z.length := by
  unfold repS
  rw [len_mk, ← len_list z]
  simp [List.length_flatten]
/-- what the law gives that is no string -/
def OddV (H : Hp) (v : V) : Prop := ∃ t d, Ty7 H v t ∧ isStrV v = false ∧ ShD H v d
inductive BadV (H0 H : Hp) : V → Prop
  | str (z : Str) (h : Asc z) (l : z.length ≤ 50000) : BadV H0 H (.str z)
  | non : BadV H0 H .non
  | int : BadV H0 H (.int 0)
  | lst {a : Addr} {xs : List V} {ts : List Tk} (e : H a = some (.lst xs)) (tx : TxL H xs ts) (ha : ∀ t ∈ ts, tokA t) (l : ts.length ≤ 1000) (f : textS ts = false) (n : H0 a = none) : BadV H0 H (.ref a)
theorem BadV.tx {H0 H : Hp} {v : V} (h : BadV H0 H v) : TextV H v false := by
  cases h with
  | str z h l => exact .odd (.str z (by omega)) rfl rfl
  | non => exact .odd .non rfl rfl
  | int => exact .odd (.int 0) rfl rfl
  | lst e tx ha l f n =>
    have lx := tx.length
    exact (TextV.of (.inl e) (by omega) tx fun t ht => by
      have := ha t ht
      exact ⟨by have := this.2.2.1; omega, by have := this.2.2.2; omega⟩).eq f
theorem dx_app {H : Hp} : ∀ {xs ys : List V} {ds es : List PyData}, DxAll H xs ds → DxAll H ys es → DxAll H (xs ++ ys) (ds ++ es)
  | _, _, _, _, .nil, h => h
  | _, _, _, _, .cons a r, h => .cons a (dx_app r h)
theorem depth_app : ∀ ds es : List PyData, PyData.depthAll (ds ++ es) = max (PyData.depthAll ds) (PyData.depthAll es)
  | [], es => by simp [PyData.depthAll]
  | d :: r, es => by
    simp only [List.cons_append, PyData.depthAll, depth_app r es]
    omega
theorem plain_app : ∀ {ds es : List PyData}, plainAll ds → plainAll es → plainAll (ds ++ es)
  | [], _, _, h => h
  | _ :: _, _, h1, h => by
    simp only [plainAll] at h1
    simp only [List.cons_append, plainAll]
    exact ⟨h1.1, plain_app h1.2 h⟩
theorem cost_app : ∀ ds es : List PyData, costAll (ds ++ es) = costAll ds + costAll es
  | [], es => by simp [costAll]
  | d :: r, es => by
    simp only [List.cons_append, costAll, cost_app r es]
    omega
theorem ShD.late {H : Hp} {D : Addr} {xs : List V} {ts : List Tk} {k : Str} (e : H D = some (.lst (xs ++ [.str k]))) (tx : TxL H xs ts) (ha : ∀ t ∈ ts, tokA t) (l : ts.length ≤ 7000) (hk : Asc k) (lk : k.length ≤ 100) : ShD H (.ref D) (.list (ts.map dTk ++ [.str k])) := by
  have h1 := depthAll_tk ts
  have h2 := plainAll_tk ha
  have h3 := costAll_tk ha
  refine ⟨.lst e (dx_app (dx_tx tx) (.cons (.str k) .nil)), ?_, plain_app h2 ⟨hk, trivial⟩, ?_⟩
  · simp only [PyData.depth, depth_app, PyData.depthAll]
    omega
  · simp only [cost, cost_app, costAll]
    omega
theorem ShD.one {H : Hp} {D : Addr} {k : Str} (e : H D = some (.lst [.str k])) (hk : Asc k) (lk : k.length ≤ 10000) : ShD H (.ref D) (.list [.str k]) := by
  refine ⟨.lst e (.cons (.str k) .nil), ?_, ⟨hk, trivial⟩, ?_⟩
  · simp only [PyData.depth, PyData.depthAll]
    omega
  · simp only [cost, costAll]
    omega
theorem ShD.oneT {H : Hp} {D : Addr} {k : Str} (e : H D = some (.tup [.str k])) (hk : Asc k) (lk : k.length ≤ 10000) : ShD H (.ref D) (.tuple [.str k]) := by
  refine ⟨.tup e (.cons (.str k) .nil), ?_, ⟨hk, trivial⟩, ?_⟩
  · simp only [PyData.depth, PyData.depthAll]
    omega
  · simp only [cost, costAll]
    omega
theorem ShD.d0 {H : Hp} {D : Addr} (e : H D = some (.dK [])) : ShD H (.ref D) (.dict []) := ⟨.dct0 e, by decide, by simp only [plainD], by simp only [cost]; omega⟩
theorem textS_app {a b : List Tk} {t : Tk} (h : tokS t = false) : textS (a ++ [t] ++ b) = false := by
  unfold textS
  rw [Bool.and_eq_false_iff]
  left
  rw [List.all_eq_false]
  exact ⟨t, by simp, by rw [h]; exact Bool.false_ne_true⟩
theorem pairs_len (z : Str) : (pairsS z).length ≤ z.length := by
  unfold pairsS
  rw [List.length_map]
  have h : ∀ (n : Nat) (l : List Nat), l.length ≤ n → (pairsL l).length ≤ l.length := by
    intro n
    induction n with
    | zero =>
      intro l hl
      have e : l = [] := List.length_eq_zero_iff.mp (by omega)
      subst e
      rw [pairsL_nil]
      exact Nat.le_refl _
    | succ n ih =>
      intro l hl
      by_cases e : l = []
      · subst e
        rw [pairsL_nil]
        exact Nat.le_refl _
      · rw [pairsL_ne e, List.length_cons]
        have h1 := rest_le l e
        have h2 := dropWhile_le isAbc (restOf l)
        have := ih ((restOf l).dropWhile isAbc) (by omega)
        omega
  have := h _ z.cps.toList (Nat.le_refl _)
  rw [len_list] at this
  exact this
def spRight : Sp := fun vs H Q _ => ∃ p : Addr, vs = [.ref p] ∧ BoxAt H p 0 ∧ SysAt H ∧ ∀ H', Sam p H H' → Q (.bl true) H'
end RV

namespace RV
open PySem PySem.Spec PyProof.Rows L2 TL
def topS (i : Nat) : Stmt := PySem.Challenge.pw_reflows_k15_writings_of_texts.main.body.getD i (.Pass ⟨0, 0, 0, 0⟩)
abbrev s_is_word : Stmt := topS 8
theorem sc_is_word : FnScope ["value"] ["value"] (defScope s_is_word) := ⟨rfl, rfl, rfl, by decide +kernel, rfl, by decide +kernel, by decide +kernel⟩
abbrev s_is_mark : Stmt := topS 9
theorem sc_is_mark : FnScope ["value"] ["value"] (defScope s_is_mark) := ⟨rfl, rfl, rfl, by decide +kernel, rfl, by decide +kernel, by decide +kernel⟩
abbrev s_is_token : Stmt := topS 10
theorem sc_is_token : FnScope ["value"] ["value"] (defScope s_is_token) := ⟨rfl, rfl, rfl, by decide +kernel, rfl, by decide +kernel, by decide +kernel⟩
abbrev s_kind_of : Stmt := topS 11
theorem sc_kind_of : FnScope ["mark"] ["mark"] (defScope s_kind_of) := ⟨rfl, rfl, rfl, by decide +kernel, rfl, by decide +kernel, by decide +kernel⟩
abbrev s__has_only : Stmt := topS 12
theorem sc__has_only : FnScope ["text", "characters", "character"] ["text", "characters"] (defScope s__has_only) := ⟨rfl, rfl, rfl, by decide +kernel, rfl, by decide +kernel, by decide +kernel⟩
abbrev s_is_text : Stmt := topS 14
theorem sc_is_text : FnScope ["value", "token"] ["value"] (defScope s_is_text) := ⟨rfl, rfl, rfl, by decide +kernel, rfl, by decide +kernel, by decide +kernel⟩
abbrev s_write_text : Stmt := topS 15
theorem sc_write_text : FnScope ["text", "mark", "word"] ["text"] (defScope s_write_text) := ⟨rfl, rfl, rfl, by decide +kernel, rfl, by decide +kernel, by decide +kernel⟩
abbrev s_read_text : Stmt := topS 16
theorem sc_read_text : FnScope ["writing", "text", "start", "mark", "word"] ["writing"] (defScope s_read_text) := ⟨rfl, rfl, rfl, by decide +kernel, rfl, by decide +kernel, by decide +kernel⟩
abbrev s__check_text : Stmt := topS 17
theorem sc__check_text : FnScope ["text"] ["text"] (defScope s__check_text) := ⟨rfl, rfl, rfl, by decide +kernel, rfl, by decide +kernel, by decide +kernel⟩
abbrev s__is_mark_row : Stmt := topS 18
theorem sc__is_mark_row : FnScope ["value", "mark"] ["value"] (defScope s__is_mark_row) := ⟨rfl, rfl, rfl, by decide +kernel, rfl, by decide +kernel, by decide +kernel⟩
abbrev s__pair_at : Stmt := topS 19
theorem sc__pair_at : FnScope ["writing", "start", "begin", "end"] ["writing", "start"] (defScope s__pair_at) := ⟨rfl, rfl, rfl, by decide +kernel, rfl, by decide +kernel, by decide +kernel⟩
abbrev s__law_cell : Stmt := topS 21
theorem sc__law_cell : FnScope ["_law_script", "_law_k"] ["_law_script", "_law_k"] (defScope s__law_cell) := ⟨rfl, rfl, rfl, by decide +kernel, rfl, by decide +kernel, by decide +kernel⟩
abbrev s__law_purse : Stmt := topS 22
theorem sc__law_purse : FnScope ["_law_cell_here"] ["_law_cell_here"] (defScope s__law_purse) := ⟨rfl, rfl, rfl, by decide +kernel, rfl, by decide +kernel, by decide +kernel⟩
abbrev s__law_take : Stmt := topS 23
theorem sc__law_take : FnScope ["_law_purse_here", "_law_many", "_law_digit", "_law_number"] ["_law_purse_here", "_law_many"] (defScope s__law_take) := ⟨rfl, rfl, rfl, by decide +kernel, rfl, by decide +kernel, by decide +kernel⟩
abbrev s__law_all_marks : Stmt := topS 24
theorem sc__law_all_marks : FnScope [] [] (defScope s__law_all_marks) := ⟨rfl, rfl, rfl, by decide +kernel, rfl, by decide +kernel, by decide +kernel⟩
abbrev s__law_mark : Stmt := topS 25
theorem sc__law_mark : FnScope ["_law_purse_here"] ["_law_purse_here"] (defScope s__law_mark) := ⟨rfl, rfl, rfl, by decide +kernel, rfl, by decide +kernel, by decide +kernel⟩
abbrev s__law_word : Stmt := topS 26
theorem sc__law_word : FnScope ["_law_purse_here", "_law_most", "_law_letters", "_law_k"] ["_law_purse_here", "_law_most"] (defScope s__law_word) := ⟨rfl, rfl, rfl, by decide +kernel, rfl, by decide +kernel, by decide +kernel⟩
abbrev s__law_text : Stmt := topS 27
theorem sc__law_text : FnScope ["_law_purse_here", "_law_many", "_law_most", "_law_text_here", "_law_k", "_law_mark_here"] ["_law_purse_here", "_law_many", "_law_most"] (defScope s__law_text) := ⟨rfl, rfl, rfl, by decide +kernel, rfl, by decide +kernel, by decide +kernel⟩
abbrev s__law_read : Stmt := topS 28
theorem sc__law_read : FnScope ["_law_writing", "_law_text_here", "_law_sign", "_law_k", "_law_mark_here", "_law_word_here"] ["_law_writing"] (defScope s__law_read) := ⟨rfl, rfl, rfl, by decide +kernel, rfl, by decide +kernel, by decide +kernel⟩
abbrev s__law_told : Stmt := topS 29
theorem sc__law_told : FnScope ["_law_way", "_law_value", "_law_found", "e"] ["_law_way", "_law_value"] (defScope s__law_told) := ⟨rfl, rfl, rfl, by decide +kernel, rfl, by decide +kernel, by decide +kernel⟩
abbrev s__law_right : Stmt := topS 30
theorem sc__law_right : FnScope ["_law_purse_here", "_law_many", "_law_text_here", "_law_due", "_law_mark_here", "_law_word_here", "_law_value", "_law_told_here", "_law_shown", "_law_turn", "_law_at", "_law_sign", "_law_read_here", "_law_odd", "_law_bad"] ["_law_purse_here"] (defScope s__law_right) := ⟨rfl, rfl, rfl, by decide +kernel, rfl, by decide +kernel, by decide +kernel⟩
abbrev s_law : Stmt := topS 31
theorem sc_law : FnScope ["_law_script", "_law_k"] ["_law_script"] (defScope s_law) := ⟨rfl, rfl, rfl, by decide +kernel, rfl, by decide +kernel, by decide +kernel⟩
structure TX (P : Program) (w : World) (K : PySem.W.Frag) (mg : Str → Option Value) where
  C_ReflowError : Addr
  gc_ReflowError : mg "ReflowError" = some (.ref C_ReflowError)
  C_InvalidMark : Addr
  I_InvalidMark : Addr
  x_InvalidMark : PySem.SupX.SupTxt P K mg "InvalidMark" "InvalidMark.__init__" "value" "not a mark" C_InvalidMark I_InvalidMark
  C_InvalidText : Addr
  I_InvalidText : Addr
  x_InvalidText : PySem.SupX.SupTxt P K mg "InvalidText" "InvalidText.__init__" "value" "not a text" C_InvalidText I_InvalidText
  a_is_word : Addr
  d_is_word : FuncData
  F_is_word : Fun K "is_word" "is_word" s_is_word a_is_word d_is_word
  g_is_word : mg "is_word" = some (.ref a_is_word)
  b_is_word : Binds K d_is_word ["value"] []
  a_is_mark : Addr
  d_is_mark : FuncData
  F_is_mark : Fun K "is_mark" "is_mark" s_is_mark a_is_mark d_is_mark
  g_is_mark : mg "is_mark" = some (.ref a_is_mark)
  b_is_mark : Binds K d_is_mark ["value"] []
  a_is_token : Addr
  d_is_token : FuncData
  F_is_token : Fun K "is_token" "is_token" s_is_token a_is_token d_is_token
  g_is_token : mg "is_token" = some (.ref a_is_token)
  b_is_token : Binds K d_is_token ["value"] []
  a_kind_of : Addr
  d_kind_of : FuncData
  F_kind_of : Fun K "kind_of" "kind_of" s_kind_of a_kind_of d_kind_of
  g_kind_of : mg "kind_of" = some (.ref a_kind_of)
  b_kind_of : Binds K d_kind_of ["mark"] []
  a__has_only : Addr
  d__has_only : FuncData
  F__has_only : Fun K "_has_only" "_has_only" s__has_only a__has_only d__has_only
  g__has_only : mg "_has_only" = some (.ref a__has_only)
  b__has_only : Binds K d__has_only ["text", "characters"] []
  a_is_text : Addr
  d_is_text : FuncData
  F_is_text : Fun K "is_text" "is_text" s_is_text a_is_text d_is_text
  g_is_text : mg "is_text" = some (.ref a_is_text)
  b_is_text : Binds K d_is_text ["value"] []
  a_write_text : Addr
  d_write_text : FuncData
  F_write_text : Fun K "write_text" "write_text" s_write_text a_write_text d_write_text
  g_write_text : mg "write_text" = some (.ref a_write_text)
  b_write_text : Binds K d_write_text ["text"] []
  a_read_text : Addr
  d_read_text : FuncData
  F_read_text : Fun K "read_text" "read_text" s_read_text a_read_text d_read_text
  g_read_text : mg "read_text" = some (.ref a_read_text)
  b_read_text : Binds K d_read_text ["writing"] []
  a__check_text : Addr
  d__check_text : FuncData
  F__check_text : Fun K "_check_text" "_check_text" s__check_text a__check_text d__check_text
  g__check_text : mg "_check_text" = some (.ref a__check_text)
  b__check_text : Binds K d__check_text ["text"] []
  a__is_mark_row : Addr
  d__is_mark_row : FuncData
  F__is_mark_row : Fun K "_is_mark_row" "_is_mark_row" s__is_mark_row a__is_mark_row d__is_mark_row
  g__is_mark_row : mg "_is_mark_row" = some (.ref a__is_mark_row)
  b__is_mark_row : Binds K d__is_mark_row ["value"] []
  a__pair_at : Addr
  d__pair_at : FuncData
  F__pair_at : Fun K "_pair_at" "_pair_at" s__pair_at a__pair_at d__pair_at
  g__pair_at : mg "_pair_at" = some (.ref a__pair_at)
  b__pair_at : Binds K d__pair_at ["writing", "start"] []
  a__law_cell : Addr
  d__law_cell : FuncData
  F__law_cell : Fun K "_law_cell" "_law_cell" s__law_cell a__law_cell d__law_cell
  g__law_cell : mg "_law_cell" = some (.ref a__law_cell)
  b__law_cell : Binds K d__law_cell ["_law_script", "_law_k"] []
  a__law_purse : Addr
  d__law_purse : FuncData
  F__law_purse : Fun K "_law_purse" "_law_purse" s__law_purse a__law_purse d__law_purse
  g__law_purse : mg "_law_purse" = some (.ref a__law_purse)
  b__law_purse : Binds K d__law_purse ["_law_cell_here"] []
  a__law_take : Addr
  d__law_take : FuncData
  F__law_take : Fun K "_law_take" "_law_take" s__law_take a__law_take d__law_take
  g__law_take : mg "_law_take" = some (.ref a__law_take)
  b__law_take : Binds K d__law_take ["_law_purse_here", "_law_many"] []
  a__law_all_marks : Addr
  d__law_all_marks : FuncData
  F__law_all_marks : Fun K "_law_all_marks" "_law_all_marks" s__law_all_marks a__law_all_marks d__law_all_marks
  g__law_all_marks : mg "_law_all_marks" = some (.ref a__law_all_marks)
  b__law_all_marks : Binds K d__law_all_marks [] []
  a__law_mark : Addr
  d__law_mark : FuncData
  F__law_mark : Fun K "_law_mark" "_law_mark" s__law_mark a__law_mark d__law_mark
  g__law_mark : mg "_law_mark" = some (.ref a__law_mark)
  b__law_mark : Binds K d__law_mark ["_law_purse_here"] []
  a__law_word : Addr
  d__law_word : FuncData
  F__law_word : Fun K "_law_word" "_law_word" s__law_word a__law_word d__law_word
  g__law_word : mg "_law_word" = some (.ref a__law_word)
  b__law_word : Binds K d__law_word ["_law_purse_here", "_law_most"] []
  a__law_text : Addr
  d__law_text : FuncData
  F__law_text : Fun K "_law_text" "_law_text" s__law_text a__law_text d__law_text
  g__law_text : mg "_law_text" = some (.ref a__law_text)
  b__law_text : Binds K d__law_text ["_law_purse_here", "_law_many", "_law_most"] []
  a__law_read : Addr
  d__law_read : FuncData
  F__law_read : Fun K "_law_read" "_law_read" s__law_read a__law_read d__law_read
  g__law_read : mg "_law_read" = some (.ref a__law_read)
  b__law_read : Binds K d__law_read ["_law_writing"] []
  a__law_told : Addr
  d__law_told : FuncData
  F__law_told : Fun K "_law_told" "_law_told" s__law_told a__law_told d__law_told
  g__law_told : mg "_law_told" = some (.ref a__law_told)
  b__law_told : Binds K d__law_told ["_law_way", "_law_value"] []
  a__law_right : Addr
  d__law_right : FuncData
  F__law_right : Fun K "_law_right" "_law_right" s__law_right a__law_right d__law_right
  g__law_right : mg "_law_right" = some (.ref a__law_right)
  b__law_right : Binds K d__law_right ["_law_purse_here"] []
  a_law : Addr
  d_law : FuncData
  F_law : Fun K "law" "law" s_law a_law d_law
  g_law : mg "law" = some (.ref a_law)
  b_law : Binds K d_law ["_law_script"] []
  m_all : mg "all" = none
  m_enumerate : mg "enumerate" = none
  m_isinstance : mg "isinstance" = none
  m_len : mg "len" = none
  m_list : mg "list" = none
  m_max : mg "max" = none
  m_min : mg "min" = none
  m_range : mg "range" = none
  m_repr : mg "repr" = none
  m_str : mg "str" = none
  m_tuple : mg "tuple" = none
  t_LETTERS : Tok
  c_LETTERS : mg "LETTERS" = some (.str (Str.ofString "abcdefghijklmnopqrstuvwxyz") t_LETTERS)
  t_LONGEST_WORD : Tok
  c_LONGEST_WORD : mg "LONGEST_WORD" = some (.int 30 t_LONGEST_WORD)
  a_MARK_PLACES : Addr
  c_MARK_PLACES : mg "MARK_PLACES" = some (.ref a_MARK_PLACES)
  e_MARK_PLACES : Array DictEntry
  n_MARK_PLACES : Nat
  k_MARK_PLACES : KDict K w a_MARK_PLACES e_MARK_PLACES n_MARK_PLACES
  i_MARK_PLACES : ∀ z : Str, ∃ r, PySem.W.nsIn K a_MARK_PLACES z = some r ∧ r.isSome = markS z
section
variable {P : Program} {w : World} {K : PySem.W.Frag} {mg : Str → Option Value} {base : Heap}
theorem ok__has_only (T : TX P w K mg) : FnOk P w K mg base CX0 1 T.a__has_only T.d__has_only ["text", "characters"] (spOnly) := by
  refine T.F__has_only.ok sc__has_only (fun vs H Q E h => ?_) (fun cdv A outer s H vs Q E hr h => ?_)
  · obtain ⟨z, cs, rfl, hz, q⟩ := h
    rfl
  · obtain ⟨z, cs, rfl, hz, q⟩ := h
    refine ⟨_, (pss_one (ps_ret (pe_callB (cr_all rfl) (by rfl) T.m_all (by decide +kernel) (pa_cons (pe_lc (own := [("character", 2)]) (tt := tYes) rfl sc__has_only.nd (pi_str (pv 0)) (blkOk_by (N := ["text", "characters", "character"]) (sc := defScope s__has_only) (by decide +kernel)) (fun _ _ _ _ _ => (pg_name (i := 2) sc__has_only.nd rfl (by first | exact Or.inl rfl | exact Or.inr rfl))) (fun _ _ _ _ _ => pts_nil) (fun _ _ _ _ _ => (pe_cmpR op_in_sign (pv 2) (pv 1) (by rfl)))) pa_nil)))), ?_⟩
    refine ⟨_, rfl, z, rfl, fun D hD => ?_⟩
    refine lc_it walk_str (fun i H' => H' = upd H D (.lst (((z.cps.toList.take i).map fun c => decide (c ∈ cs.cps.toList)).map V.bl))) rfl (fun _ _ _ _ => trivial) (fun i x H1 H2 hi hP hY => ?_) (fun H1 hP => ?_)
    · obtain ⟨rfl, c, hc, rfl⟩ := hY
      subst hP
      refine ⟨rfl, _, rfl, _, rfl, c, cs, rfl, rfl, _, upd_same, ?_, ?_⟩
      · rw [List.length_map, List.length_map, List.length_take]
        exact sz (by rw [len_list]; omega)
      · rw [upd_upd, List.take_add_one, show z.cps.toList[i]? = some c from by rw [← hc]; simp]
        simp
    · subst hP
      refine ⟨D, _, rfl, SqL.of upd_same, ?_⟩
      have e : ((z.cps.toList.take z.cps.size).map fun c => decide (c ∈ cs.cps.toList)).all id = onlyS z cs := by
        rw [List.take_of_length_le (by simp)]
        unfold onlyS
        rw [List.all_map]
        rfl
      rw [e]
      exact q _ (same_new (Same.refl H) hD)

theorem ok_is_word (T : TX P w K mg) : FnOk P w K mg base CX0 2 T.a_is_word T.d_is_word ["value"] (spIsWord) := by
  refine T.F_is_word.ok sc_is_word (fun vs H Q E h => ?_) (fun cdv A outer s H vs Q E hr h => ?_)
  · obtain ⟨v, t, rfl, ty, q⟩ := h
    rfl
  · obtain ⟨v, t, rfl, ty, q⟩ := h
    refine ⟨_, (pss_one (ps_ret (pe_and (pe_callB call_isi (by rfl) T.m_isinstance (by decide +kernel) (pa_cons (pv 0) (pa_cons (pe_bltn (v := V.ty "str") (u := .type "str") (by rfl) T.m_str (by decide +kernel) rfl) pa_nil))) (pe_and (pe_chain op_le op_le pe_int (pe_callB call_len_str (by rfl) T.m_len (by decide +kernel) (pa_cons (pv 0) pa_nil)) (pe_glob (v := V.int 30) (by rfl) T.c_LONGEST_WORD ⟨_, rfl⟩)) (pe_one (pe_call (ok__has_only T) (hr.mono (by decide)) (by rfl) T.g__has_only T.F__has_only.kp T.b__has_only .nil pass0 (pa_cons (pv 0) (pa_cons (pe_glob (v := V.str (Str.ofString "abcdefghijklmnopqrstuvwxyz")) (by rfl) T.c_LETTERS ⟨_, rfl⟩) pa_nil)))))))), ?_⟩
    refine ⟨_, rfl, _, _, _, _, _, rfl, .ty _, ty.x, kit_ty (kit_str ty), _, rfl, ?_⟩
    cases ty with
    | str z h =>
      refine iteT ⟨_, rfl, z, rfl, szl (by omega), _, _, rfl, rfl, _, rfl, ?_⟩
      have qq : ∀ (b : Bool), wordS z = b → ∀ H', Same H H' → Q (.bl b) H' := fun b e => by
        rw [← e]
        exact q
      by_cases c : (1 : Int) ≤ (z.length : Int)
      · rw [if_pos (decide_eq_true c)]
        refine ⟨_, _, rfl, rfl, _, rfl, ?_⟩
        by_cases c2 : (z.length : Int) ≤ 30
        · rw [if_pos (decide_eq_true c2)]
          refine ⟨_, rfl, z, abc, rfl, h, fun H' s => qq _ ?_ H' s⟩
          unfold wordS
          rw [decide_eq_true (show 1 ≤ z.length by omega), decide_eq_true (show z.length ≤ 30 by omega)]
          rfl
        · rw [if_neg (by rw [decide_eq_false c2]; exact Bool.false_ne_true)]
          refine qq _ ?_ H (Same.refl H)
          unfold wordS
          rw [decide_eq_false (show ¬ z.length ≤ 30 by omega), Bool.and_false]
          rfl
      · rw [if_neg (by rw [decide_eq_false c]; exact Bool.false_ne_true)]
        refine ⟨_, rfl, iteF (qq _ ?_ H (Same.refl H))⟩
        unfold wordS
        rw [decide_eq_false (show ¬ 1 ≤ z.length by omega)]
        rfl
    | _ => exact iteF (q H (Same.refl H))

theorem ok_is_mark (T : TX P w K mg) : FnOk P w K mg base CX0 1 T.a_is_mark T.d_is_mark ["value"] (spIsMark) := by
  refine T.F_is_mark.ok sc_is_mark (fun vs H Q E h => ?_) (fun cdv A outer s H vs Q E hr h => ?_)
  · obtain ⟨v, t, rfl, ty, q⟩ := h
    rfl
  · obtain ⟨v, t, rfl, ty, q⟩ := h
    refine ⟨_, (pss_one (ps_ret (pe_and (pe_callB call_isi (by rfl) T.m_isinstance (by decide +kernel) (pa_cons (pv 0) (pa_cons (pe_bltn (v := V.ty "str") (u := .type "str") (by rfl) T.m_str (by decide +kernel) rfl) pa_nil))) (pe_one (pe_cmpR (op_in_kd T.k_MARK_PLACES) (pv 0) (pe_glob (v := V.ref T.a_MARK_PLACES) (by rfl) T.c_MARK_PLACES rfl) (by rfl)))))), ?_⟩
    refine ⟨_, rfl, _, _, _, _, _, rfl, .ty _, ty.x, kit_ty (kit_str ty), _, rfl, ?_⟩
    cases ty with
    | str z h =>
      obtain ⟨r, e1, e2⟩ := T.i_MARK_PLACES z
      refine iteT ⟨_, rfl, z, r, rfl, rfl, e1, ?_⟩
      rw [e2]
      exact q
    | _ => exact iteF q

theorem ok_is_token (T : TX P w K mg) : FnOk P w K mg base CX0 3 T.a_is_token T.d_is_token ["value"] (spIsToken) := by
  refine T.F_is_token.ok sc_is_token (fun vs H Q E h => ?_) (fun cdv A outer s H vs Q E hr h => ?_)
  · obtain ⟨v, b, rfl, tk, q⟩ := h
    rfl
  · obtain ⟨v, b, rfl, tk, q⟩ := h
    refine ⟨_, (pss_one (ps_ret (pe_and (pe_callB call_isi (by rfl) T.m_isinstance (by decide +kernel) (pa_cons (pv 0) (pa_cons (pe_bltn (v := V.ty "tuple") (u := .type "tuple") (by rfl) T.m_tuple (by decide +kernel) rfl) pa_nil))) (pe_and (pe_cmpR op_eq (pe_callB call_len (by rfl) T.m_len (by decide +kernel) (pa_cons (pv 0) pa_nil)) pe_int (nomark _)) (pe_and (pe_call (ok_is_mark T) (hr.mono (by decide)) (by rfl) T.g_is_mark T.F_is_mark.kp T.b_is_mark .nil pass0 (pa_cons (pe_ix (show IxR _ (rIxT K) from ix_tup) (pv 0) pe_int (fun _ _ => rfl)) pa_nil)) (pe_one (pe_call (ok_is_word T) (hr.mono (by decide)) (by rfl) T.g_is_word T.F_is_word.kp T.b_is_word .nil pass0 (pa_cons (pe_ix (show IxR _ (rIxT K) from ix_tup) (pv 0) pe_int (fun _ _ => rfl)) pa_nil)))))))), ?_⟩
    cases tk with
    | odd ty n =>
      refine ⟨_, rfl, _, _, _, _, _, rfl, .ty _, ty.x, kit_ty (kit_tuple ty), _, rfl, ?_⟩
      rw [n]
      exact iteF (q H (Same.refl H))
    | len e n =>
      refine ⟨_, rfl, _, _, _, _, _, rfl, .ty _, (Ty7.tup e).x, kit_ty (kit_tuple (Ty7.tup e)), _, rfl, iteT ?_⟩
      refine ⟨_, rfl, _, _, rfl, .inr ⟨_, SqT.of e, rfl⟩, rfl, _, rfl, ?_⟩
      rw [decide_eq_false (by intro z; exact n (by have z2 := V.int.inj z; omega))]
      exact iteF (q H (Same.refl H))
    | two e hx hy =>
      refine ⟨_, rfl, _, _, _, _, _, rfl, .ty _, (Ty7.tup e).x, kit_ty (kit_tuple (Ty7.tup e)), _, rfl, iteT ?_⟩
      refine ⟨_, rfl, _, _, rfl, .inr ⟨_, SqT.of e, rfl⟩, rfl, _, rfl, iteT ?_⟩
      refine ⟨_, rfl, _, _, _, _, rfl, rfl, SqT.of e, atI_nat (j := 0) rfl, _, _, rfl, hx, _, rfl, ?_⟩
      rename_i a x y s' t'
      cases hm : markV x with
      | true =>
        rw [hm] at q
        refine iteT ⟨_, rfl, _, _, _, _, rfl, rfl, SqT.of e, atI_nat (j := 1) rfl, _, _, rfl, hy, q⟩
      | false =>
        rw [hm] at q
        exact iteF (q H (Same.refl H))

theorem ok_kind_of (T : TX P w K mg) : FnOk P w K mg base CX0 2 T.a_kind_of T.d_kind_of ["mark"] (spKindOf) := by
  refine T.F_kind_of.ok sc_kind_of (fun vs H Q E h => ?_) (fun cdv A outer s H vs Q E hr h => ?_)
  · obtain ⟨z, c, r, rfl, hm, hc, q⟩ := h
    rfl
  · obtain ⟨z, c, r, rfl, hm, hc, q⟩ := h
    refine ⟨_, (pss_cons (ps_if (pt_not (pt_val (pe_call (ok_is_mark T) (hr.mono (by decide)) (by rfl) T.g_is_mark T.F_is_mark.kp T.b_is_mark .nil pass0 (pa_cons (pv 0) pa_nil))))
        (pss_one ps_never) pss_nil)
      (pss_one (ps_ret (pe_ix ix_str (pv 0) pe_int (fun _ _ => rfl))))), ?_⟩
    have hm2 : markV (V.str z) = true := hm
    refine ⟨_, rfl, _, _, rfl, Ty7.str z (by have := markS_len hm; omega), _, rfl, ?_⟩
    rw [hm2]
    exact iteF ⟨_, rfl, _, _, c, rfl, rfl, szl (by have := markS_len hm; omega), atI_nat (j := 0) (by rw [hc]; rfl), q⟩

theorem ok__is_mark_row (T : TX P w K mg) : FnOk P w K mg base CX0 3 T.a__is_mark_row T.d__is_mark_row ["value"] (spMarkRow) := by
  refine T.F__is_mark_row.ok sc__is_mark_row (fun vs H Q E h => ?_) (fun cdv A outer s H vs Q E hr h => ?_)
  · obtain ⟨v, b, rfl, rv, q⟩ := h
    rfl
  · obtain ⟨v, b, rfl, rv, q⟩ := h
    refine ⟨_, (pss_cons (ps_if (PW.pt (pw_or (pt_not (pt_val (pe_callB call_isiT (by rfl) T.m_isinstance (by decide +kernel) (pa_cons (pv 0) (pa_cons (pe_tup (pa_cons (pe_bltn (v := V.ty "list") (u := .type "list") (by rfl) T.m_list (by decide +kernel) rfl) (pa_cons (pe_bltn (v := V.ty "tuple") (u := .type "tuple") (by rfl) T.m_tuple (by decide +kernel) rfl) pa_nil))) pa_nil))))) (pw_or1 (pt_not (pt_val (pe_callB (cr_all rfl) (by rfl) T.m_all (by decide +kernel) (pa_cons (pe_lc (own := [("mark", 1)]) (tt := tYes) rfl sc__is_mark_row.nd (pi_seq (pv 0)) (blkOk_by (N := ["value", "mark"]) (sc := defScope s__is_mark_row) (by decide +kernel)) (fun _ _ _ _ _ => (pg_name (i := 1) sc__is_mark_row.nd rfl (by first | exact Or.inl rfl | exact Or.inr rfl))) (fun _ _ _ _ _ => pts_nil) (fun _ _ _ _ _ => (pe_call (ok_is_mark T) (hr.mono (by decide)) (by rfl) T.g_is_mark T.F_is_mark.kp T.b_is_mark .nil pass0 (pa_cons (pv 1) pa_nil)))) pa_nil)))))))
        (pss_one (ps_ret pe_bl)) pss_nil)
      (pss_one (ps_ret (pe_or (pe_cmpR op_eq (pe_callB call_len (by rfl) T.m_len (by decide +kernel) (pa_cons (pv 0) pa_nil)) pe_int (nomark _)) (pe_one (pe_cmpR op_eq (pe_call (ok_kind_of T) (hr.mono (by decide)) (by rfl) T.g_kind_of T.F_kind_of.kp T.b_kind_of .nil pass0 (pa_cons (pe_ix (show IxR _ (rIx K) from ix_seq) (pv 0) pe_int (fun _ _ => rfl)) pa_nil)) pe_str (nomark _))))))), ?_⟩
    cases rv with
    | odd ty n =>
      refine ⟨_, rfl, (by show (2 : Nat) ≤ sizeLine; decide), fun tp ht => ⟨_, tp, _, _, _, _, rfl, upd_same, pair_lt, (ty.new ht).x, kit_lt ty, _, rfl, ?_⟩⟩
      rw [n]
      exact iteT (q _ (same_new (Same.refl H) ht))
    | bad s z hx f =>
      obtain ⟨t, ty, n⟩ := s.ty
      refine ⟨_, rfl, (by show (2 : Nat) ≤ sizeLine; decide), fun tp ht => ⟨_, tp, _, _, _, _, rfl, upd_same, pair_lt, (ty.new ht).x, kit_lt ty, _, rfl, ?_⟩⟩
      have s1 : Same H (upd H tp (.tup [V.ty "list", V.ty "tuple"])) := same_new (Same.refl H) ht
      rw [n]
      refine iteF ⟨_, rfl, _, _, rfl, s.up s1, fun J G wk hG D hD => ?_⟩
      rename_i a xs
      refine lc_vals wk (xs.map fun x => V.bl (markV x)) (by simp) (sz (by omega)) hD (fun H' s' => hG H' fun o e => s' _ _ e) (fun i x y H2 Q2 Pe hi hy s2 k => ?_) (fun H2 s2 hD2 => ?_)
      · obtain ⟨t2, ty2⟩ := hx x (List.mem_of_getElem? hi)
        rw [List.getElem?_map, hi] at hy
        have e := Option.some.inj hy
        subst e
        exact ⟨rfl, _, rfl, _, _, rfl, ty2.up (s1.trans s2), k _ (Same.refl _)⟩
      · refine ⟨D, xs.map markV, rfl, SqL.of (by rw [hD2, List.map_map]; rfl), _, rfl, ?_⟩
        rw [f]
        exact iteT (q _ (s1.trans s2))
    | ok s z l =>
      obtain ⟨t, ty, n⟩ := s.ty
      refine ⟨_, rfl, (by show (2 : Nat) ≤ sizeLine; decide), fun tp ht => ⟨_, tp, _, _, _, _, rfl, upd_same, pair_lt, (ty.new ht).x, kit_lt ty, _, rfl, ?_⟩⟩
      have s1 : Same H (upd H tp (.tup [V.ty "list", V.ty "tuple"])) := same_new (Same.refl H) ht
      rw [n]
      refine iteF ⟨_, rfl, _, _, rfl, s.up s1, fun J G wk hG D hD => ?_⟩
      rename_i a ms
      refine lc_vals wk (ms.map fun x => V.bl (markS x)) (by simp) (sz (by rw [List.length_map]; omega)) hD (fun H' s' => hG H' fun o e => s' _ _ e) (fun i x y H2 Q2 Pe hi hy s2 k => ?_) (fun H2 s2 hD2 => ?_)
      · rw [List.getElem?_map] at hi hy
        cases hm : ms[i]? with
        | none =>
          rw [hm] at hi
          cases hi
        | some m =>
          rw [hm] at hi hy
          have e := Option.some.inj hi
          subst e
          have e := Option.some.inj hy
          subst e
          exact ⟨rfl, _, rfl, _, _, rfl, Ty7.str m (by have := markS_len (l m (List.mem_of_getElem? hm)); omega), k _ (Same.refl _)⟩
      · have f : (ms.map markS).all id = true := by
          rw [List.all_map, List.all_eq_true]
          exact fun m h => l m h
        have s3 := s1.trans s2
        refine ⟨D, ms.map markS, rfl, SqL.of (by rw [hD2, List.map_map]; rfl), _, rfl, ?_⟩
        rw [f]
        refine iteF ⟨_, rfl, _, _, rfl, (s.up s3).len, rfl, _, rfl, ?_⟩
        cases ms with
        | nil => exact iteT (q _ s3)
        | cons m r =>
          have hm := l m (by simp)
          have hh : ∃ c u, m.cps.toList = c :: u := by
            rcases (markS_iff m).mp hm with e | ⟨c, d, e, _⟩
            · exact ⟨_, _, e⟩
            · exact ⟨_, _, e⟩
          obtain ⟨c, u, hc⟩ := hh
          rw [decide_eq_false (by
            intro e
            have e2 := V.int.inj e
            simp only [List.map_cons, List.length_cons] at e2
            omega)]
          refine iteF ⟨_, rfl, (s.up s3).ix (v := .str m) (atI_nat (j := 0) rfl) ⟨m, c, u, rfl, hm, hc, rfl, ?_⟩⟩
          have e : decide (V.str ⟨#[c]⟩ = V.str (Str.ofString "#")) = decide (m.cps.toList.head? = some 35) := by
            rw [hc, Bool.eq_iff_iff, decide_eq_true_eq, decide_eq_true_eq, V.str.injEq, eq_comm, ← beq_iff_eq, one_eq (k := 35) (by decide +kernel), decide_eq_true_eq]
            simp
          rw [e]
          exact q _ s3

theorem ok_is_text (T : TX P w K mg) : FnOk P w K mg base CX0 4 T.a_is_text T.d_is_text ["value"] (spIsText) := by
  refine T.F_is_text.ok sc_is_text (fun vs H Q E h => ?_) (fun cdv A outer s H vs Q E hr h => ?_)
  · obtain ⟨v, b, rfl, rv, q⟩ := h
    rfl
  · obtain ⟨v, b, rfl, rv, q⟩ := h
    refine ⟨_, (pss_cons (ps_if (PW.pt (pw_or (pt_not (pt_val (pe_callB call_isiT (by rfl) T.m_isinstance (by decide +kernel) (pa_cons (pv 0) (pa_cons (pe_tup (pa_cons (pe_bltn (v := V.ty "list") (u := .type "list") (by rfl) T.m_list (by decide +kernel) rfl) (pa_cons (pe_bltn (v := V.ty "tuple") (u := .type "tuple") (by rfl) T.m_tuple (by decide +kernel) rfl) pa_nil))) pa_nil))))) (pw_or1 (pt_not (pt_val (pe_callB (cr_all rfl) (by rfl) T.m_all (by decide +kernel) (pa_cons (pe_lc (own := [("token", 1)]) (tt := tYes) rfl sc_is_text.nd (pi_seq (pv 0)) (blkOk_by (N := ["value", "token"]) (sc := defScope s_is_text) (by decide +kernel)) (fun _ _ _ _ _ => (pg_name (i := 1) sc_is_text.nd rfl (by first | exact Or.inl rfl | exact Or.inr rfl))) (fun _ _ _ _ _ => pts_nil) (fun _ _ _ _ _ => (pe_call (ok_is_token T) (hr.mono (by decide)) (by rfl) T.g_is_token T.F_is_token.kp T.b_is_token .nil pass0 (pa_cons (pv 1) pa_nil)))) pa_nil)))))))
        (pss_one (ps_ret pe_bl)) pss_nil)
      (pss_one (ps_ret (pe_call (ok__is_mark_row T) (hr.mono (by decide)) (by rfl) T.g__is_mark_row T.F__is_mark_row.kp T.b__is_mark_row .nil pass0 (pa_cons (pe_lc (own := [("token", 1)]) (tt := tYes) rfl sc_is_text.nd (pi_seq (pv 0)) (blkOk_by (N := ["value", "token"]) (sc := defScope s_is_text) (by decide +kernel)) (fun _ _ _ _ _ => (pg_name (i := 1) sc_is_text.nd rfl (by first | exact Or.inl rfl | exact Or.inr rfl))) (fun _ _ _ _ _ => pts_nil) (fun _ _ _ _ _ => (pe_ix (show IxR _ (rIxT K) from ix_tup) (pv 1) pe_int (fun _ _ => rfl)))) pa_nil))))), ?_⟩
    cases rv with
    | odd ty n1 n2 =>
      refine ⟨_, rfl, (by show (2 : Nat) ≤ sizeLine; decide), fun tp ht => ⟨_, tp, _, _, _, _, rfl, upd_same, pair_lt, (ty.new ht).x, kit_lt ty, _, rfl, ?_⟩⟩
      rw [n1, n2]
      exact iteT (q _ (same_new (Same.refl H) ht))
    | bad s z n hx f =>
      rename_i a xs bs
      obtain ⟨t, ty, nt⟩ := s.ty
      refine ⟨_, rfl, (by show (2 : Nat) ≤ sizeLine; decide), fun tp ht => ⟨_, tp, _, _, _, _, rfl, upd_same, pair_lt, (ty.new ht).x, kit_lt ty, _, rfl, ?_⟩⟩
      have s1 : Same H (upd H tp (.tup [V.ty "list", V.ty "tuple"])) := same_new (Same.refl H) ht
      rw [nt]
      refine iteF ⟨_, rfl, _, _, rfl, s.up s1, fun J G wk hG D hD => ?_⟩
      refine lc_vals wk (bs.map V.bl) (by simpa using n) (sz (by omega)) hD (fun H' s' => hG H' fun o e => s' _ _ e) (fun i x y H2 Q2 Pe hi hy s2 k => ?_) (fun H2 s2 hD2 => ?_)
      · rw [List.getElem?_map] at hy
        cases hb : bs[i]? with
        | none =>
          rw [hb] at hy
          cases hy
        | some b =>
          rw [hb] at hy
          have e := Option.some.inj hy
          subst e
          exact ⟨rfl, _, rfl, _, b, rfl, (hx i x b hi hb).up (s1.trans s2), k⟩
      · refine ⟨D, bs, rfl, SqL.of hD2, _, rfl, ?_⟩
        rw [f]
        exact iteT (q _ (s1.trans s2))
    | ok s z hx l =>
      rename_i a xs ts
      obtain ⟨t, ty, nt⟩ := s.ty
      refine ⟨_, rfl, (by show (2 : Nat) ≤ sizeLine; decide), fun tp ht => ⟨_, tp, _, _, _, _, rfl, upd_same, pair_lt, (ty.new ht).x, kit_lt ty, _, rfl, ?_⟩⟩
      have s1 : Same H (upd H tp (.tup [V.ty "list", V.ty "tuple"])) := same_new (Same.refl H) ht
      rw [nt]
      refine iteF ⟨_, rfl, _, _, rfl, s.up s1, fun J G wk hG D hD => ?_⟩
      have lz := hx.length
      refine lc_vals wk (xs.map fun _ => V.bl true) (by simp) (sz (by omega)) hD (fun H' s' => hG H' fun o e => s' _ _ e) (fun i x y H2 Q2 Pe hi hy s2 k => ?_) (fun H2 s2 hD2 => ?_)
      · rw [List.getElem?_map, hi] at hy
        have e := Option.some.inj hy
        subst e
        obtain ⟨t, ht2, a2, rfl, e⟩ := hx.get hi
        have lt := l t (List.mem_of_getElem? ht2)
        have lt2 := lt
        unfold tokS at lt2
        rw [Bool.and_eq_true] at lt2
        have m1 := markS_len lt2.1
        have m2 := wordS_len lt2.2
        refine ⟨rfl, _, rfl, _, true, rfl, ((Tok7.two e (.str t.1 (by omega)) (.str t.2 (by omega))).eq lt).up (s1.trans s2), k⟩
      · have f : (xs.map fun _ => true).all id = true := by
          rw [List.all_map, List.all_eq_true]
          exact fun m h => rfl
        have s3 := s1.trans s2
        refine ⟨D, xs.map fun _ => true, rfl, SqL.of (by rw [hD2, List.map_map]; rfl), _, rfl, ?_⟩
        rw [f]
        refine iteF ⟨_, rfl, _, _, rfl, s.up s3, fun J2 G2 wk2 hG2 D2 hD2 => ?_⟩
        refine lc_vals wk2 (ts.map fun t => V.str t.1) (by simp [lz]) (sz (by omega)) hD2 (fun H' s' => hG2 H' fun o e => s' _ _ e) (fun i x y H2 Q2 Pe hi hy s4 k => ?_) (fun H5 s5 hD5 => ?_)
        · obtain ⟨t, ht2, a2, rfl, e⟩ := hx.get hi
          rw [List.getElem?_map, ht2] at hy
          have e2 := Option.some.inj hy
          subst e2
          exact ⟨rfl, _, rfl, a2, _, _, _, rfl, rfl, SqT.of ((s3.trans s4) _ _ e), atI_nat (j := 0) rfl, k _ (Same.refl _)⟩
        · refine ⟨.ref D2, headPar ts, rfl, ?_, fun H6 s6 => q _ (s3.trans (s5.trans s6))⟩
          have r := RowV.ok (H := H5) (a := D2) (ms := ts.map (·.1)) (.inl (by rw [hD5, List.map_map]; rfl)) (by simp; omega) (fun m hm => by
            obtain ⟨t, h1, rfl⟩ := List.mem_map.mp hm
            have lt := l t h1
            unfold tokS at lt
            rw [Bool.and_eq_true] at lt
            exact lt.1)
          cases ts with
          | nil => exact r
          | cons t u => exact r

end
end RV


namespace RV
open PySem PySem.Spec PyProof.Rows L2 TL
section
variable {P : Program} {w : World} {K : PySem.W.Frag} {mg : Str → Option Value} {base : Heap}
theorem ok__check_text (T : TX P w K mg) : FnOk P w K mg base (L2.CX P w) 5 T.a__check_text T.d__check_text ["text"] (spCheck T.C_InvalidText) := by
  refine T.F__check_text.okX sc__check_text (fun vs H Q E h => ?_) (fun cdv A outer s H vs Q E hr h => ?_)
  · obtain ⟨v, b, rfl, tv, q1, q2⟩ := h
    rfl
  · obtain ⟨v, b, rfl, tv, q1, q2⟩ := h
    refine ⟨_, (pss_one (ps_if (pt_not (pt_val (pe_call (ok_is_text T) (hr.mono (by decide)) (by rfl) T.g_is_text T.F_is_text.kp T.b_is_text .nil pass0 (pa_cons (pv 0) pa_nil))))
        (pss_one (ps_raiseSup rfl T.x_InvalidText fld_value hr (takes_of rfl rfl rfl rfl) (pa_cons (pv 0) pa_nil))) pss_nil)), ?_⟩
    refine ⟨_, rfl, v, b, rfl, tv, fun H1 s1 => ⟨b, rfl, ?_⟩⟩
    cases b with
    | true => exact iteF (q1 rfl _ s1)
    | false => exact iteT ⟨_, rfl, v, rfl, fun d hd => q2 rfl _ d (same_new s1 hd) upd_same⟩

theorem ok_write_text (T : TX P w K mg) : FnOk P w K mg base (L2.CX P w) 6 T.a_write_text T.d_write_text ["text"] (spWrite T.C_InvalidText) := by
  refine T.F_write_text.okX sc_write_text (fun vs H Q E h => ?_) (fun cdv A outer s H vs Q E hr h => ?_)
  · obtain ⟨v, rfl, h⟩ := h
    rfl
  · obtain ⟨v, rfl, h⟩ := h
    refine ⟨_, (pss_cons (ps_expr (pe_callS (ok__check_text T) (hr.mono (by decide)) (by rfl) T.g__check_text T.F__check_text.kp T.b__check_text (fun σ => passAt (takes_of rfl rfl rfl rfl) σ) (pa_cons (pv 0) pa_nil)))
      (pss_one (ps_ret (pe_join pe_str (pe_lc (own := [("mark", 1), ("word", 2)]) (tt := tYes) rfl sc_write_text.nd (pi_seq (pv 0)) (blkOk_by (N := ["text", "mark", "word"]) (sc := defScope s_write_text) (by decide +kernel)) (fun _ _ _ _ _ => (pg_tupK (K := K) (n := 2) (by rfl) (by rfl) (pgs_cons (pg_name (i := 1) sc_write_text.nd rfl (by first | exact Or.inl rfl | exact Or.inr rfl)) (pgs_cons (pg_name (i := 2) sc_write_text.nd rfl (by first | exact Or.inl rfl | exact Or.inr rfl)) pgs_nil)))) (fun _ _ _ _ _ => pts_nil) (fun _ _ _ _ _ => (pe_op op_add_str (pv 1) (pv 2)))))))), ?_⟩
    rcases h with ⟨tv, oe⟩ | ⟨a, xs, ts, rfl, sq, tx, tk, hp, lz, q⟩
    · exact ⟨_, rfl, v, false, rfl, tv, (fun z => nomatch z), fun _ H1 d s1 f => oe H1 d s1 f⟩
    · have lx := tx.length
      have r := TextV.ok sq (by omega) tx tk
      rw [hp] at r
      refine ⟨_, rfl, .ref a, true, rfl, r, (fun _ H1 s1 => ?_), fun z => nomatch z⟩
      refine ⟨⟨_, rfl⟩, _, rfl, a, xs, rfl, sq.up s1, fun J G wk hG D hD => ?_⟩
      refine lc_vals wk (ts.map fun t => V.str (t.1 ++ t.2)) (by simp [lx]) (sz (by omega)) hD (fun H' s' => hG H' fun o e => s' _ _ e) (fun i x y H2 Q2 Pe hi hy s2 k => ?_) (fun H2 s2 hD2 => ?_)
      · obtain ⟨t, ht2, a2, rfl, e⟩ := tx.get hi
        rw [List.getElem?_map, ht2] at hy
        have e2 := Option.some.inj hy
        subst e2
        have lt := tk t (List.mem_of_getElem? ht2)
        unfold tokS at lt
        rw [Bool.and_eq_true] at lt
        have m1 := markS_len lt.1
        have m2 := wordS_len lt.2
        refine ⟨a2, _, rfl, SqT.of ((s1.trans s2) _ _ e), rfl, _, _, rfl, _, _, rfl, rfl, ?_⟩
        exact ⟨rfl, _, rfl, _, rfl, _, _, rfl, rfl, szl (by omega), k _ (Same.refl _)⟩
      · refine ⟨Str.ofString "", D, ts.map fun t => t.1 ++ t.2, rfl, rfl, .inl (SqL.of (by rw [hD2, List.map_map]; rfl)), ?_, ?_⟩
        · have := (flat_len tk).2
          have l0 : (Str.ofString "").length = 0 := by decide +kernel
          simp only [l0, List.length_map]
          omega
        · rw [join_write]
          exact q _ (s1.trans s2)

end
end RV


namespace RV
open PySem PySem.Spec PyProof.Rows L2 TL
section
variable {P : Program} {w : World} {K : PySem.W.Frag} {mg : Str → Option Value} {base : Heap}
theorem ok__pair_at (T : TX P w K mg) : FnOk P w K mg base CX0 1 T.a__pair_at T.d__pair_at ["writing", "start"] (spPair) := by
  refine T.F__pair_at.ok sc__pair_at (fun vs H Q E h => ?_) (fun cdv A outer s H vs Q E hr h => ?_)
  · obtain ⟨z, s0, rfl, hz, hne, q⟩ := h
    rfl
  · obtain ⟨z, s0, rfl, hz, hne, q⟩ := h
    refine ⟨_, (pss_cons (ps_set (i := 2) sc__pair_at.nd rfl (by first | exact Or.inl rfl | exact Or.inr rfl) (pe_ifExp (pt_cmpR op_eq (pe_ix ix_str (pv 0) (pv 1) (fun _ _ => rfl)) pe_str (nomark _)) (pe_op op_add (pv 1) pe_int) (pe_op op_add (pv 1) pe_int)))
      (pss_cons (ps_set (i := 3) sc__pair_at.nd rfl (by first | exact Or.inl rfl | exact Or.inr rfl) (pv 2))
      (pss_cons (ps_while PassesOwn.never (PW.pt (pw_and (pt_cmpR op_lt (pv 3) (pe_callB call_len_str (by rfl) T.m_len (by decide +kernel) (pa_cons (pv 0) pa_nil)) (nomark _)) (pw_and1 (pt_cmpR op_in_sign (pe_ix ix_str (pv 0) (pv 3) (fun _ _ => rfl)) (pe_glob (v := V.str (Str.ofString "abcdefghijklmnopqrstuvwxyz")) (by rfl) T.c_LETTERS ⟨_, rfl⟩) (by rfl)))))
        (pss_one (ps_aug (i := 3) sc__pair_at.nd rfl (by first | exact Or.inl rfl | exact Or.inr rfl) pe_int ip_add)))
      (pss_one (ps_ret (pe_tup (pa_cons (pe_slice sl_str (pv 0) (po_some (pv 1)) (po_some (pv 2))) (pa_cons (pe_slice sl_str (pv 0) (po_some (pv 2)) (po_some (pv 3))) pa_nil)))))))), ?_⟩
    obtain ⟨c, l, hl⟩ : ∃ c l, z.cps.toList.drop s0 = c :: l := by
      cases e : z.cps.toList.drop s0 with
      | nil => exact absurd e hne
      | cons c l => exact ⟨c, l, rfl⟩
    have h0 : z.cps.toList[s0]? = some c := by
      have e := congrArg (·[0]?) hl
      simpa using e
    have ll := len_list z
    refine ⟨_, rfl, _, rfl, z, _, c, rfl, rfl, szl (by omega), atI_nat h0, rfl, _, rfl, ite2 (fun e => ?_) (fun e => ?_)⟩
    · have c32 : c = 32 := by
        have e2 := of_decide_eq_true e
        rw [V.str.injEq, eq_comm, ← beq_iff_eq, one_eq (k := 32) (by decide +kernel), decide_eq_true_eq] at e2
        exact e2
      obtain ⟨b, eb, hA, hB⟩ : ∃ b : Nat, (s0 : Int) + 1 = (b : Int) ∧ z.cps.toList.drop b = restOf (z.cps.toList.drop s0) ∧ (z.cps.toList.drop s0).take (b - s0) = markOf (z.cps.toList.drop s0) := by
        refine ⟨s0 + 1, by omega, ?_, ?_⟩
        · rw [← List.drop_drop, hl, c32]
          rfl
        · rw [show s0 + 1 - s0 = 1 from by omega, hl, c32]
          rfl
      refine ⟨_, rfl, _, _, rfl, rfl, ?_⟩
      dsimp only
      rw [eb]
      refine ⟨_, rfl, ?_⟩
      refine ⟨fun m σ H' => ∃ k : Nat, H' = H ∧ σ = [some (.str z), some (.int (s0 : Int)), some (.int (b : Int)), some (.int ((b + k : Nat) : Int))] ∧ k ≤ ((restOf (z.cps.toList.drop s0)).takeWhile isAbc).length ∧ m = ((restOf (z.cps.toList.drop s0)).takeWhile isAbc).length - k, ⟨_, 0, rfl, rfl, Nat.zero_le _, rfl⟩, fun m σ H' hP => ?_⟩
      obtain ⟨k, rfl, rfl, hk, rfl⟩ := hP
      have hg : ∀ i, (restOf (z.cps.toList.drop s0))[i]? = z.cps.toList[b + i]? := fun i => by rw [← hA, List.getElem?_drop]
      refine ⟨_, rfl, _, rfl, _, rfl, szl (by omega), _, _, rfl, rfl, _, rfl, ite2 (fun e1 => ?_) (fun e1 => ?_)⟩
      · have lt : b + k < z.cps.toList.length := by
          have := of_decide_eq_true e1
          omega
        have hc2 := List.getElem?_eq_getElem lt
        refine ⟨_, rfl, _, rfl, z, _, z.cps.toList[b + k], rfl, rfl, szl (by omega), atI_nat hc2, _, abc, rfl, rfl, _, rfl, ite2 (fun e2 => ?_) (fun e2 => ?_)⟩
        · rw [abc_is] at e2
          have k1 := tw_next hk ((hg k).trans hc2) e2
          refine ⟨fun σ' H'' => ∃ m', m' < ((restOf (z.cps.toList.drop s0)).takeWhile isAbc).length - k ∧ ∃ k : Nat, H'' = H' ∧ σ' = [some (.str z), some (.int (s0 : Int)), some (.int (b : Int)), some (.int ((b + k : Nat) : Int))] ∧ k ≤ ((restOf (z.cps.toList.drop s0)).takeWhile isAbc).length ∧ m' = ((restOf (z.cps.toList.drop s0)).takeWhile isAbc).length - k, fun _ _ h => h, ?_⟩
          exact ⟨_, rfl, _, _, rfl, rfl, _, by omega, k + 1, rfl, rfl, k1, rfl⟩
        · have kk := tw_end (p := isAbc) hk (fun d hd => by
            rw [hg, hc2] at hd
            have e := Option.some.inj hd
            rw [← e, ← abc_is]
            exact Bool.eq_false_iff.mpr e2)
          exact ⟨_, rfl, _, rfl, _, rfl, _, rfl, _, rfl, z, rfl, szl (by omega), _, rfl, _, rfl, _, rfl, _, rfl, _, rfl, z, rfl, szl (by omega), (by show (2 : Nat) ≤ sizeLine; decide), fun t ht => q t _ (same_new (Same.refl _) ht) ht (by rw [upd_same, cut_nat, cut_nat, hA, hB, show b + k - b = k from by omega, kk, tw_take])⟩
      · have kk := tw_end (p := isAbc) hk (fun d hd => by
          rw [hg] at hd
          have lt := (List.getElem?_eq_some_iff.mp hd).1
          exact absurd (decide_eq_true (show ((b + k : Nat) : Int) < (z.length : Int) by omega)) e1)
        exact iteF ⟨_, rfl, _, rfl, _, rfl, _, rfl, _, rfl, z, rfl, szl (by omega), _, rfl, _, rfl, _, rfl, _, rfl, _, rfl, z, rfl, szl (by omega), (by show (2 : Nat) ≤ sizeLine; decide), fun t ht => q t _ (same_new (Same.refl _) ht) ht (by rw [upd_same, cut_nat, cut_nat, hA, hB, show b + k - b = k from by omega, kk, tw_take])⟩
    · have c32 : c ≠ 32 := by
        intro z2
        rw [z2] at h0 hl
        refine e (decide_eq_true ?_)
        rw [z2]
        decide +kernel
      obtain ⟨b, eb, hA, hB⟩ : ∃ b : Nat, (s0 : Int) + 2 = (b : Int) ∧ z.cps.toList.drop b = restOf (z.cps.toList.drop s0) ∧ (z.cps.toList.drop s0).take (b - s0) = markOf (z.cps.toList.drop s0) := by
        refine ⟨s0 + 2, by omega, ?_, ?_⟩
        · rw [← List.drop_drop, hl]
          show List.drop 1 l = if c = 32 then l else l.drop 1
          rw [if_neg c32]
        · rw [show s0 + 2 - s0 = 2 from by omega, hl]
          show c :: l.take 1 = if c = 32 then [c] else c :: l.take 1
          rw [if_neg c32]
      refine ⟨_, rfl, _, _, rfl, rfl, ?_⟩
      dsimp only
      rw [eb]
      refine ⟨_, rfl, ?_⟩
      refine ⟨fun m σ H' => ∃ k : Nat, H' = H ∧ σ = [some (.str z), some (.int (s0 : Int)), some (.int (b : Int)), some (.int ((b + k : Nat) : Int))] ∧ k ≤ ((restOf (z.cps.toList.drop s0)).takeWhile isAbc).length ∧ m = ((restOf (z.cps.toList.drop s0)).takeWhile isAbc).length - k, ⟨_, 0, rfl, rfl, Nat.zero_le _, rfl⟩, fun m σ H' hP => ?_⟩
      obtain ⟨k, rfl, rfl, hk, rfl⟩ := hP
      have hg : ∀ i, (restOf (z.cps.toList.drop s0))[i]? = z.cps.toList[b + i]? := fun i => by rw [← hA, List.getElem?_drop]
      refine ⟨_, rfl, _, rfl, _, rfl, szl (by omega), _, _, rfl, rfl, _, rfl, ite2 (fun e1 => ?_) (fun e1 => ?_)⟩
      · have lt : b + k < z.cps.toList.length := by
          have := of_decide_eq_true e1
          omega
        have hc2 := List.getElem?_eq_getElem lt
        refine ⟨_, rfl, _, rfl, z, _, z.cps.toList[b + k], rfl, rfl, szl (by omega), atI_nat hc2, _, abc, rfl, rfl, _, rfl, ite2 (fun e2 => ?_) (fun e2 => ?_)⟩
        · rw [abc_is] at e2
          have k1 := tw_next hk ((hg k).trans hc2) e2
          refine ⟨fun σ' H'' => ∃ m', m' < ((restOf (z.cps.toList.drop s0)).takeWhile isAbc).length - k ∧ ∃ k : Nat, H'' = H' ∧ σ' = [some (.str z), some (.int (s0 : Int)), some (.int (b : Int)), some (.int ((b + k : Nat) : Int))] ∧ k ≤ ((restOf (z.cps.toList.drop s0)).takeWhile isAbc).length ∧ m' = ((restOf (z.cps.toList.drop s0)).takeWhile isAbc).length - k, fun _ _ h => h, ?_⟩
          exact ⟨_, rfl, _, _, rfl, rfl, _, by omega, k + 1, rfl, rfl, k1, rfl⟩
        · have kk := tw_end (p := isAbc) hk (fun d hd => by
            rw [hg, hc2] at hd
            have e := Option.some.inj hd
            rw [← e, ← abc_is]
            exact Bool.eq_false_iff.mpr e2)
          exact ⟨_, rfl, _, rfl, _, rfl, _, rfl, _, rfl, z, rfl, szl (by omega), _, rfl, _, rfl, _, rfl, _, rfl, _, rfl, z, rfl, szl (by omega), (by show (2 : Nat) ≤ sizeLine; decide), fun t ht => q t _ (same_new (Same.refl _) ht) ht (by rw [upd_same, cut_nat, cut_nat, hA, hB, show b + k - b = k from by omega, kk, tw_take])⟩
      · have kk := tw_end (p := isAbc) hk (fun d hd => by
          rw [hg] at hd
          have lt := (List.getElem?_eq_some_iff.mp hd).1
          exact absurd (decide_eq_true (show ((b + k : Nat) : Int) < (z.length : Int) by omega)) e1)
        exact iteF ⟨_, rfl, _, rfl, _, rfl, _, rfl, _, rfl, z, rfl, szl (by omega), _, rfl, _, rfl, _, rfl, _, rfl, _, rfl, z, rfl, szl (by omega), (by show (2 : Nat) ≤ sizeLine; decide), fun t ht => q t _ (same_new (Same.refl _) ht) ht (by rw [upd_same, cut_nat, cut_nat, hA, hB, show b + k - b = k from by omega, kk, tw_take])⟩

end
end RV


namespace RV
open PySem PySem.Spec PyProof.Rows L2 TL
section
variable {P : Program} {w : World} {K : PySem.W.Frag} {mg : Str → Option Value} {base : Heap}
theorem ok_read_text (T : TX P w K mg) : FnOk P w K mg base (L2.CX P w) 5 T.a_read_text T.d_read_text ["writing"] (spRead T.C_InvalidText) := by
  refine T.F_read_text.okX sc_read_text (fun vs H Q E h => ?_) (fun cdv A outer s H vs Q E hr h => ?_)
  · obtain ⟨v, rfl, h⟩ := h
    rfl
  · obtain ⟨v, rfl, h⟩ := h
    refine ⟨_, (pss_cons (ps_if (pt_not (pt_val (pe_callB call_isi (by rfl) T.m_isinstance (by decide +kernel) (pa_cons (pv 0) (pa_cons (pe_bltn (v := V.ty "str") (u := .type "str") (by rfl) T.m_str (by decide +kernel) rfl) pa_nil)))))
        (pss_one (ps_raiseSup rfl T.x_InvalidText fld_value hr (takes_of rfl rfl rfl rfl) (pa_cons (pv 0) pa_nil))) pss_nil)
      (pss_cons (ps_set (i := 1) sc_read_text.nd rfl (by first | exact Or.inl rfl | exact Or.inr rfl) (pe_lst pa_nil))
      (pss_cons (ps_set (i := 2) sc_read_text.nd rfl (by first | exact Or.inl rfl | exact Or.inr rfl) pe_int)
      (pss_cons (ps_while (passes_of rfl) (pt_cmpR op_lt (pv 2) (pe_callB call_len_str (by rfl) T.m_len (by decide +kernel) (pa_cons (pv 0) pa_nil)) (nomark _))
        (pss_cons (ps_asg (pe_call (ok__pair_at T) (hr.mono (by decide)) (by rfl) T.g__pair_at T.F__pair_at.kp T.b__pair_at .nil pass0 (pa_cons (pv 0) (pa_cons (pv 2) pa_nil))) (pg_tupK (K := K) (n := 2) (by rfl) (by rfl) (pgs_cons (pg_name (i := 3) sc_read_text.nd rfl (by first | exact Or.inl rfl | exact Or.inr rfl)) (pgs_cons (pg_name (i := 4) sc_read_text.nd rfl (by first | exact Or.inl rfl | exact Or.inr rfl)) pgs_nil))))
        (pss_cons (ps_expr (pe_bm PySem.F.plainAttrs_list PySem.F.slot_list_append PySem.F.type_list_append mt_append (pv 1) (pa_cons (pe_tup (pa_cons (pv 3) (pa_cons (pv 4) pa_nil))) pa_nil)))
        (pss_one (ps_set (i := 2) sc_read_text.nd rfl (by first | exact Or.inl rfl | exact Or.inr rfl) (pe_op op_add (pe_op op_add (pv 2) (pe_callB call_len_str (by rfl) T.m_len (by decide +kernel) (pa_cons (pv 3) pa_nil))) (pe_callB call_len_str (by rfl) T.m_len (by decide +kernel) (pa_cons (pv 4) pa_nil))))))))
      (pss_cons (ps_if (pt_not (pt_val (pe_call (ok_is_text T) (hr.mono (by decide)) (by rfl) T.g_is_text T.F_is_text.kp T.b_is_text .nil pass0 (pa_cons (pv 1) pa_nil))))
        (pss_one (ps_raiseSup rfl T.x_InvalidText fld_value hr (takes_of rfl rfl rfl rfl) (pa_cons (pv 0) pa_nil))) pss_nil)
      (pss_one (ps_ret (pv 1)))))))), ?_⟩
    rcases h with ⟨t, ty, ns, oe⟩ | ⟨z, rfl, hz, q1, q2⟩
    · refine ⟨_, rfl, _, _, _, _, _, rfl, .ty _, ty.x, kit_ty (kit_str ty), _, rfl, ?_⟩
      rw [ns]
      exact iteT ⟨_, rfl, v, rfl, fun d hd => oe _ d (same_new (Same.refl _) hd) upd_same⟩
    · refine ⟨_, rfl, _, _, _, _, _, rfl, .ty _, (Ty7.str z (by omega)).x, kit_ty (kit_str (Ty7.str (H := H) z (by omega))), _, rfl, iteF ?_⟩
      refine ⟨(by show (0 : Nat) ≤ sizeLine; decide), fun D hD => ?_⟩
      have ll := len_list z
      refine ⟨fun m σ H' => ∃ (n : Nat) (done : List LT) (xs : List V) (y3 y4 : Option V), σ = [some (.str z), some (.ref D), some (.int (n : Int)), y3, y4] ∧ Same H H' ∧ H' D = some (.lst xs) ∧ TxL H' xs (done.map stk) ∧ pairsL z.cps.toList = done ++ pairsL (z.cps.toList.drop n) ∧ done.length ≤ n ∧ n ≤ z.length ∧ m = z.length - n,
        ⟨_, 0, [], [], none, none, rfl, same_new (Same.refl H) hD, upd_same, .nil, rfl, Nat.le_refl _, Nat.zero_le _, rfl⟩, fun m σ H1 hP => ?_⟩
      obtain ⟨n, done, xs, y3, y4, rfl, s1, e1, tx, hd, dl, nl, rfl⟩ := hP
      have lx : xs.length = done.length := by rw [tx.length, List.length_map]
      refine ⟨_, rfl, _, rfl, _, rfl, szl (by omega), _, _, rfl, rfl, _, rfl, ite2 (fun e => ?_) (fun e => ?_)⟩
      · have lt : n < z.length := by
          have := of_decide_eq_true e
          omega
        refine ⟨fun σ' H'' => ∃ m', m' < z.length - n ∧ ∃ (n : Nat) (done : List LT) (xs : List V) (y3 y4 : Option V), σ' = [some (.str z), some (.ref D), some (.int (n : Int)), y3, y4] ∧ Same H H'' ∧ H'' D = some (.lst xs) ∧ TxL H'' xs (done.map stk) ∧ pairsL z.cps.toList = done ++ pairsL (z.cps.toList.drop n) ∧ done.length ≤ n ∧ n ≤ z.length ∧ m' = z.length - n, fun _ _ h => h, ?_⟩
        have ne : z.cps.toList.drop n ≠ [] := fun e0 => by
          have := congrArg List.length e0
          rw [List.length_drop, List.length_nil] at this
          omega
        have pd := pair_drop z.cps.toList n
        have pl := pair_len (z.cps.toList.drop n)
        have pn := pairsL_ne ne
        have mn := List.length_pos_iff.mpr (markOf_ne ne)
        rw [List.length_drop] at pl
        refine ⟨_, rfl, _, rfl, z, n, rfl, hz, ne, fun t H2 s2 ht et => ?_⟩
        revert et pd pl pn mn
        generalize markOf (z.cps.toList.drop n) = mk
        generalize (restOf (z.cps.toList.drop n)).dropWhile isAbc = rs
        generalize (restOf (z.cps.toList.drop n)).takeWhile isAbc = wd
        intro pd pl pn mn et
        have l1 := len_mk mk
        have l2 := len_mk wd
        refine ⟨t, _, rfl, SqT.of et, rfl, _, _, rfl, _, _, rfl, rfl, ?_⟩
        refine ⟨_, rfl, .inl ⟨rfl, _, SqL.of (s2 _ _ e1)⟩, _, rfl, _, rfl, (by show (2 : Nat) ≤ sizeLine; decide), fun t2 ht2 => ⟨D, xs, _, rfl, rfl, keep_new (s2 _ _ e1) ht2, sz (by omega), ?_⟩⟩
        have s3 : Same H1 (upd H2 t2 (.tup [.str ⟨mk.toArray⟩, .str ⟨wd.toArray⟩])) := same_new s2 ht2
        have e3 : upd H2 t2 (.tup [.str ⟨mk.toArray⟩, .str ⟨wd.toArray⟩]) t2 = some (.tup [.str ⟨mk.toArray⟩, .str ⟨wd.toArray⟩]) := upd_same
        revert s3 e3
        generalize upd H2 t2 (.tup [.str ⟨mk.toArray⟩, .str ⟨wd.toArray⟩]) = H3
        intro s3 e3
        have tx3 : TxL H3 (xs ++ [.ref t2]) ((done ++ [(mk, wd)]).map stk) := by
          rw [List.map_append]
          exact (tx.up s3).append (TxL.one ⟨t2, rfl, e3⟩)
        have s4 : Sam D H3 (upd H3 D (.lst (xs ++ [.ref t2]))) := Sam.box (Sam.refl _ _)
        refine ⟨_, rfl, _, rfl, _, rfl, szl (by omega), _, _, rfl, rfl, _, rfl, _, rfl, szl (by omega), _, _, rfl, rfl, ?_⟩
        refine ⟨z.length - (n + mk.length + wd.length), by omega, n + mk.length + wd.length, done ++ [(mk, wd)], xs ++ [.ref t2], some (.str ⟨mk.toArray⟩), some (.str ⟨wd.toArray⟩), ?_, same_old (s1.trans s3) hD, upd_same, tx3.sam s4 (s3 _ _ e1), ?_, ?_, ?_, rfl⟩
        · rw [← l1, ← l2]
          rfl
        · rw [pd, hd, pn, List.append_assoc]
          rfl
        · rw [List.length_append]
          show done.length + 1 ≤ _
          omega
        · omega
      · have nz : z.length ≤ n := by
          by_cases c : z.length ≤ n
          · exact c
          · exact absurd (decide_eq_true (show (n : Int) < (z.length : Int) by omega)) e
        have en : n = z.length := by omega
        have pe : pairsS z = done.map stk := by
          unfold pairsS
          rw [hd, List.drop_of_length_le (by omega), pairsL_nil, List.append_nil]
        rw [← pe] at tx
        have fl : ∀ t ∈ pairsS z, t.1.length ≤ 100000 ∧ t.2.length ≤ 100000 := fun t ht => by
          unfold pairsS at ht
          obtain ⟨u, hu, rfl⟩ := List.mem_map.mp ht
          have := flat_mem hu
          rw [flat_pairs _ _ (Nat.le_refl _), ll] at this
          have l1 := len_mk u.1
          have l2 := len_mk u.2
          exact ⟨show (⟨u.1.toArray⟩ : Str).length ≤ _ by omega, show (⟨u.2.toArray⟩ : Str).length ≤ _ by omega⟩
        refine ⟨_, rfl, .ref D, _, rfl, TextV.of (.inl e1) (by omega) tx fl, fun H3 s3 => ⟨_, rfl, ?_⟩⟩
        cases ev : textS (pairsS z) with
        | false => exact iteT ⟨_, rfl, _, rfl, fun d hd => q1 ev _ d (same_new (s1.trans s3) hd) upd_same⟩
        | true => exact iteF ⟨_, rfl, q2 ev D H3 xs (s1.trans s3) hD (s3 _ _ e1) (tx.up s3)⟩

end
end RV


namespace RV
open PySem PySem.Spec PyProof.Rows L2 TL
section
variable {P : Program} {w : World} {K : PySem.W.Frag} {mg : Str → Option Value} {base : Heap}
theorem ok__law_cell (T : TX P w K mg) : FnOk P w K mg base CX0 1 T.a__law_cell T.d__law_cell ["_law_script", "_law_k"] (spCell K) := by
  refine T.F__law_cell.ok sc__law_cell (fun vs H Q E h => ?_) (fun cdv A outer s H vs Q E hr h => ?_)
  · obtain ⟨l, ns, j, rfl, hS, hj, q⟩ := h
    rfl
  · obtain ⟨l, ns, j, rfl, hS, hj, q⟩ := h
    refine ⟨_, (pss_cons (ps_if (pt_cmpR op_lt (pv 1) (pe_callB call_len (by rfl) T.m_len (by decide +kernel) (pa_cons (pv 0) pa_nil)) (nomark _))
        (pss_one (ps_ret (pe_ix (show IxR _ (rIxL K) from ix_list) (pv 0) (pv 1) (fun _ _ => rfl)))) pss_nil)
      (pss_one (ps_ret (pe_op op_add (pe_op op_mul pe_int (pv 1)) pe_int)))), ?_⟩
    refine ⟨_, rfl, .ref l, rfl, _, _, rfl, .inl ⟨_, hS, rfl⟩, _, _, rfl, rfl, _, rfl, ite2 (fun e => ?_) (fun e => ?_)⟩
    · have e2 := of_decide_eq_true e
      rw [List.length_map] at e2
      have hj2 : j < ns.length := by omega
      refine ⟨.ref l, rfl, _, rfl, l, _, _, .int ns[j], rfl, rfl, hS, atI_nat ?_, q _⟩
      rw [List.getElem?_map, List.getElem?_eq_getElem hj2]
      rfl
    · refine ⟨_, rfl, _, _, rfl, rfl, .inl ⟨by decide, by decide⟩, _, _, rfl, rfl, q _⟩

theorem ok__law_purse (T : TX P w K mg) : FnOk P w K mg base CX0 1 T.a__law_purse T.d__law_purse ["_law_cell_here"] (spBox) := by
  refine T.F__law_purse.ok sc__law_purse (fun vs H Q E h => ?_) (fun cdv A outer s H vs Q E hr h => ?_)
  · obtain ⟨z, rfl, q⟩ := h
    rfl
  · obtain ⟨z, rfl, q⟩ := h
    refine ⟨_, (pss_one (ps_ret (pe_lst (pa_cons (pe_callB (call_max2 rfl) (by rfl) T.m_max (by decide +kernel) (pa_cons pe_int (pa_cons (pe_op op_sub (pv 0) (pe_op op_pow pe_int pe_int)) pa_nil))) (pa_cons (pe_op op_modN (pv 0) pe_int) (pa_cons pe_int pa_nil)))))), ?_⟩
    refine ⟨_, rfl, _, _, rfl, rfl, ⟨by decide, by decide, by decide⟩, _, _, rfl, rfl, _, _, rfl, ?_⟩
    refine ⟨_, rfl, _, _, rfl, rfl, (by show (2147483629 : Int) ≠ 0; decide), ?_⟩
    refine ⟨(by show (3 : Nat) ≤ sizeLine; decide), fun p hp => q p _ _ hp ?_ ?_ ?_⟩
    · split <;> omega
    · rw [Int.fmod_eq_emod_of_nonneg _ (by decide)]
      exact Int.emod_nonneg _ (by decide)
    · rw [Int.fmod_eq_emod_of_nonneg _ (by decide)]
      exact Int.emod_lt_of_pos _ (by decide)

theorem ok__law_take (T : TX P w K mg) : FnOk P w K mg base CX0 1 T.a__law_take T.d__law_take ["_law_purse_here", "_law_many"] (spTake) := by
  refine T.F__law_take.ok sc__law_take (fun vs H Q E h => ?_) (fun cdv A outer s H vs Q E hr h => ?_)
  · obtain ⟨p, m, n, rfl, h1, h2, hn, ⟨a, b, c, e, ha, hb, hb2, hc, hcn⟩, q⟩ := h
    rfl
  · obtain ⟨p, m, n, rfl, h1, h2, hn, ⟨a, b, c, e, ha, hb, hb2, hc, hcn⟩, q⟩ := h
    refine ⟨_, (pss_cons (ps_if (pt_cmpR op_gt (pe_ix (show IxR _ (rIxL K) from ix_list) (pv 0) pe_int (fun _ _ => rfl)) pe_int (nomark _))
        (pss_cons (ps_set (i := 2) sc__law_take.nd rfl (by first | exact Or.inl rfl | exact Or.inr rfl) (pe_op op_modN (pe_ix (show IxR _ (rIxL K) from ix_list) (pv 0) pe_int (fun _ _ => rfl)) (pv 1)))
        (pss_cons (ps_asg (pe_op op_fdivW (pe_ix (show IxR _ (rIxL K) from ix_list) (pv 0) pe_int (fun _ _ => rfl)) (pv 1)) (pg_sub (pv 0) pe_int set_list))
        (pss_one (ps_ret (pv 2))))) pss_nil)
      (pss_cons (ps_asg (pe_op op_add (pe_ix (show IxR _ (rIxL K) from ix_list) (pv 0) pe_int (fun _ _ => rfl)) pe_int) (pg_sub (pv 0) pe_int set_list))
      (pss_cons (ps_set (i := 3) sc__law_take.nd rfl (by first | exact Or.inl rfl | exact Or.inr rfl) (pe_op op_modN (pe_op op_pow (pe_op op_add (pe_op op_add (pe_ix (show IxR _ (rIxL K) from ix_list) (pv 0) pe_int (fun _ _ => rfl)) (pe_op op_mul pe_int (pe_ix (show IxR _ (rIxL K) from ix_list) (pv 0) pe_int (fun _ _ => rfl)))) pe_int) pe_int) pe_int))
      (pss_cons (ps_set (i := 3) sc__law_take.nd rfl (by first | exact Or.inl rfl | exact Or.inr rfl) (pe_op op_modN (pe_op op_pow (pe_op op_add (pv 3) (pe_op op_mul pe_int (pe_ix (show IxR _ (rIxL K) from ix_list) (pv 0) pe_int (fun _ _ => rfl)))) pe_int) pe_int))
      (pss_one (ps_ret (pe_op op_modN (pe_op op_fdivW (pv 3) pe_int) (pv 1)))))))), ?_⟩
    have hm : m ≠ 0 := by omega
    have S0 : SqL K H p [.int a, .int b, .int c] := SqL.of e
    refine ⟨.ref p, rfl, p, _, _, .int a, rfl, rfl, S0, atI_nat (j := 0) rfl, _, _, rfl, rfl, _, rfl, ite2 (fun e2 => ?_) (fun e2 => ?_)⟩
    · have a0 : 0 < a := of_decide_eq_true e2
      refine ⟨.ref p, rfl, p, _, _, .int a, rfl, rfl, S0, atI_nat (j := 0) rfl, _, rfl, _, _, rfl, rfl, hm, ?_⟩
      refine ⟨.ref p, rfl, p, _, _, .int a, rfl, rfl, S0, atI_nat (j := 0) rfl, _, rfl, _, _, rfl, rfl, wide_div (b := 200) (by omega) h2 (by decide) (by decide), ?_⟩
      refine ⟨.ref p, rfl, p, _, _, 0, rfl, rfl, e, rfl, ?_⟩
      refine ⟨_, rfl, q _ _ ?_ ?_ ⟨_, _, _, upd_same, ?_, hb, hb2, hc, by omega⟩⟩
      · rw [Int.fmod_eq_emod_of_nonneg _ (by omega)]
        exact Int.emod_nonneg _ hm
      · rw [Int.fmod_eq_emod_of_nonneg _ (by omega)]
        exact Int.emod_lt_of_pos _ (by omega)
      · exact Int.ediv_nonneg ha (by omega)
    · refine ⟨.ref p, rfl, p, _, _, .int c, rfl, rfl, S0, atI_nat (j := 2) rfl, _, _, rfl, rfl, .ref p, rfl, p, _, _, 2, rfl, rfl, e, rfl, ?_⟩
      have e3 : upd H p (.lst [.int a, .int b, .int (c + 1)]) p = some (.lst [.int a, .int b, .int (c + 1)]) := upd_same
      have S1 : SqL K (upd H p (.lst [.int a, .int b, .int (c + 1)])) p [.int a, .int b, .int (c + 1)] := SqL.of e3
      refine ⟨.ref p, rfl, p, _, _, .int b, rfl, rfl, S1, atI_nat (j := 1) rfl, .ref p, rfl, p, _, _, .int (c + 1), rfl, rfl, S1, atI_nat (j := 2) rfl, _, _, rfl, rfl, .inl ⟨by decide, by decide⟩, _, _, rfl, rfl, _, _, rfl, rfl, _, _, rfl, rfl, ⟨by decide, by decide, by omega⟩, _, _, rfl, rfl, (by show (2147483647 : Int) ≠ 0; decide), ?_⟩
      refine ⟨_, rfl, .ref p, rfl, p, _, _, .int (c + 1), rfl, rfl, S1, atI_nat (j := 2) rfl, _, _, rfl, rfl, .inl ⟨by decide, by decide⟩, _, _, rfl, rfl, _, _, rfl, rfl, ⟨by decide, by decide, ?_⟩, _, _, rfl, rfl, (by show (2147483587 : Int) ≠ 0; decide), ?_⟩
      · exact take_small _ _ (by omega) (by omega)
      · refine ⟨_, rfl, _, _, rfl, rfl, ⟨by decide, by decide⟩, _, rfl, _, _, rfl, rfl, hm, q _ _ ?_ ?_ ⟨_, _, _, e3, ha, hb, hb2, by omega, by omega⟩⟩
        · rw [Int.fmod_eq_emod_of_nonneg _ (by omega)]
          exact Int.emod_nonneg _ hm
        · rw [Int.fmod_eq_emod_of_nonneg _ (by omega)]
          exact Int.emod_lt_of_pos _ (by omega)

theorem ok__law_all_marks (T : TX P w K mg) : FnOk P w K mg base CX0 1 T.a__law_all_marks T.d__law_all_marks [] (spAllMarks) := by
  refine T.F__law_all_marks.ok sc__law_all_marks (fun vs H Q E h => ?_) (fun cdv A outer s H vs Q E hr h => ?_)
  · obtain ⟨rfl, q⟩ := h
    rfl
  · obtain ⟨rfl, q⟩ := h
    refine ⟨_, (pss_one (ps_ret (pe_lst (pa_cons pe_str (pa_cons pe_str (pa_cons pe_str (pa_cons pe_str (pa_cons pe_str (pa_cons pe_str (pa_cons pe_str (pa_cons pe_str (pa_cons pe_str (pa_cons pe_str (pa_cons pe_str (pa_cons pe_str (pa_cons pe_str pa_nil)))))))))))))))), ?_⟩
    exact ⟨(by show (13 : Nat) ≤ sizeLine; decide), fun D hD => q D hD⟩

theorem ok__law_mark (T : TX P w K mg) : FnOk P w K mg base CX0 2 T.a__law_mark T.d__law_mark ["_law_purse_here"] (spMark) := by
  refine T.F__law_mark.ok sc__law_mark (fun vs H Q E h => ?_) (fun cdv A outer s H vs Q E hr h => ?_)
  · obtain ⟨p, n, rfl, hn, B0, q⟩ := h
    rfl
  · obtain ⟨p, n, rfl, hn, B0, q⟩ := h
    refine ⟨_, (pss_cons (ps_if (pt_cmpR op_eq (pe_call (ok__law_take T) (hr.mono (by decide)) (by rfl) T.g__law_take T.F__law_take.kp T.b__law_take .nil pass0 (pa_cons (pv 0) (pa_cons pe_int pa_nil))) pe_int (nomark _))
        (pss_one (ps_ret pe_str)) pss_nil)
      (pss_one (ps_ret (pe_op op_add_str (pe_ix ix_str pe_str (pe_call (ok__law_take T) (hr.mono (by decide)) (by rfl) T.g__law_take T.F__law_take.kp T.b__law_take .nil pass0 (pa_cons (pv 0) (pa_cons pe_int pa_nil))) (fun _ _ => rfl)) (pe_ix ix_str pe_str (pe_call (ok__law_take T) (hr.mono (by decide)) (by rfl) T.g__law_take T.F__law_take.kp T.b__law_take .nil pass0 (pa_cons (pv 0) (pa_cons pe_int pa_nil))) (fun _ _ => rfl)))))), ?_⟩
    refine ⟨_, rfl, _, 3, n, rfl, by omega, by first | decide | omega, by omega, (by first | exact B0 | exact B0.new (by assumption) | exact (B0.new (by assumption)).new (by assumption)), fun d1 o1 ge1 lt1 B1 => ?_⟩
    refine ⟨rfl, _, rfl, ite2 (fun e => ?_) (fun e => ?_)⟩
    · exact q _ _ (by decide +kernel) (by repeat (first | exact Sam.refl _ _ | assumption | refine Sam.box ?_ | refine Sam.new ?_ (by assumption))) (B1.mono (by omega))
    · refine ⟨_, rfl, _, 3, n + 1, rfl, by omega, by first | decide | omega, by omega, (by first | exact B1 | exact B1.new (by assumption) | exact (B1.new (by assumption)).new (by assumption)), fun d2 o2 ge2 lt2 B2 => ?_⟩
      obtain ⟨c, hc, hc2⟩ := atI_alln (xs := (Str.ofString "#|/").cps.toList) ge2 (by
        rw [show ((Str.ofString "#|/").cps.toList.length : Int) = 3 from by decide +kernel]
        exact lt2)
      refine ⟨_, _, c, rfl, rfl, (by decide +kernel), hc, ?_⟩
      refine ⟨_, rfl, _, 4, n + 1 + 1, rfl, by omega, by first | decide | omega, by omega, (by first | exact B2 | exact B2.new (by assumption) | exact (B2.new (by assumption)).new (by assumption)), fun d3 o3 ge3 lt3 B3 => ?_⟩
      obtain ⟨d, hd, hd2⟩ := atI_alln (xs := (Str.ofString "0123").cps.toList) ge3 (by
        rw [show ((Str.ofString "0123").cps.toList.length : Int) = 4 from by decide +kernel]
        exact lt3)
      refine ⟨_, _, d, rfl, rfl, (by decide +kernel), hd, ?_⟩
      refine ⟨_, _, rfl, rfl, (by rw [len_one, len_one]; exact szl (by omega)), q _ _ ?_ (by repeat (first | exact Sam.refl _ _ | assumption | refine Sam.box ?_ | refine Sam.new ?_ (by assumption))) (B3.mono (by omega))⟩
      rw [markS_iff]
      refine .inr ⟨c, d, by rw [show (⟨#[c]⟩ ++ ⟨#[d]⟩ : Str).cps.toList = [c] ++ [d] from tl_append _ _]; rfl, ?_, ?_⟩
      · rw [show (Str.ofString "#|/").cps.toList = [35, 124, 47] from by decide +kernel] at hc2
        simpa using hc2
      · rw [show (Str.ofString "0123").cps.toList = [48, 49, 50, 51] from by decide +kernel] at hd2
        simpa using hd2

theorem ok__law_word (T : TX P w K mg) : FnOk P w K mg base CX0 2 T.a__law_word T.d__law_word ["_law_purse_here", "_law_most"] (spWord) := by
  refine T.F__law_word.ok sc__law_word (fun vs H Q E h => ?_) (fun cdv A outer s H vs Q E hr h => ?_)
  · obtain ⟨p, most, n, rfl, hm1, hm2, hn, B0, q⟩ := h
    rfl
  · obtain ⟨p, most, n, rfl, hm1, hm2, hn, B0, q⟩ := h
    refine ⟨_, (pss_cons (ps_set (i := 2) sc__law_word.nd rfl (by first | exact Or.inl rfl | exact Or.inr rfl) pe_str)
      (pss_one (ps_ret (pe_join pe_str (pe_lc (own := [("_law_k", 3)]) (tt := tYes) rfl sc__law_word.nd (pi_range1 (by rfl) T.m_range (pa_cons (pe_op op_add pe_int (pe_call (ok__law_take T) (hr.mono (by decide)) (by rfl) T.g__law_take T.F__law_take.kp T.b__law_take .nil pass0 (pa_cons (pv 0) (pa_cons (pv 1) pa_nil)))) pa_nil)) (blkOk_by (N := ["_law_purse_here", "_law_most", "_law_letters", "_law_k"]) (sc := defScope s__law_word) (by decide +kernel)) (fun _ _ _ _ _ => (pg_name (i := 3) sc__law_word.nd rfl (by first | exact Or.inl rfl | exact Or.inr rfl))) (fun _ _ _ _ _ => pts_nil) (fun _ _ _ _ _ => (pe_ix ix_str (pv 2) (pe_call (ok__law_take T) (hr.mono (by decide)) (by rfl) T.g__law_take T.F__law_take.kp T.b__law_take .nil pass0 (pa_cons (pv 0) (pa_cons pe_int pa_nil))) (fun _ _ => rfl)))))))), ?_⟩
    refine ⟨⟨_, rfl⟩, _, rfl, _, rfl, _, most, n, rfl, hm1, by omega, by omega, B0, fun d1 o1 ge1 lt1 B1 => ?_⟩
    have S1 : Sam p H (upd H p o1) := Sam.box (Sam.refl _ _)
    revert B1 S1
    generalize upd H p o1 = H1
    intro B1 S1
    refine ⟨_, _, rfl, rfl, _, rfl, by omega, by omega, fun D hD => ?_⟩
    have nD : D ≠ p := (B1.ne hD).symm
    refine lc_it walk_range (fun i H' => ∃ l : List Nat, l.length = i ∧ (∀ c ∈ l, isAbc c = true) ∧ H' D = some (.lst ((signs l).map V.str)) ∧ Sam p H H' ∧ BoxAt H' p (n + 1 + i)) ⟨[], rfl, by simp, upd_same, S1.new hD, B1.new hD |>.mono (by omega)⟩ (fun _ _ _ _ => trivial) (fun i x H2 H3 hi hP hY => ?_) (fun H2 hP => ?_)
    · obtain ⟨rfl, rfl⟩ := hY
      obtain ⟨l, hl, hl2, eD, S2, B2⟩ := hP
      refine ⟨rfl, _, rfl, _, rfl, _, 26, n + 1 + i, rfl, by omega, by decide, by omega, B2, fun d2 o2 ge2 lt2 B3 => ?_⟩
      obtain ⟨c, hc, hc2⟩ := atI_alln (xs := abc.cps.toList) ge2 (by
        rw [show (abc.cps.toList.length : Int) = 26 from by decide +kernel]
        exact lt2)
      refine ⟨abc, _, c, rfl, rfl, (by decide +kernel), hc, _, by rw [upd_ne nD]; exact eD, ?_, l ++ [c], by simp [hl], ?_, ?_, ?_, ?_⟩
      · rw [List.length_map, signs_len]
        exact sz (by omega)
      · intro e he
        rcases List.mem_append.mp he with h | h
        · exact hl2 e h
        · rw [List.mem_singleton.mp h, ← abc_is]
          exact decide_eq_true hc2
      · rw [upd_same]
        simp [signs]
      · exact Sam.old (S2.trans (Sam.box (Sam.refl _ _))) (samNone S1 nD hD)
      · exact BoxAt.off (B3.mono (m := n + 1 + ((i + 1 : Nat) : Int)) (by omega)) nD
    · obtain ⟨l, hl, hl2, eD, S2, B2⟩ := hP
      refine ⟨_, D, signs l, rfl, rfl, .inl (SqL.of eD), ?_, ?_⟩
      · rw [signs_sum, signs_len, show (Str.ofString "").length = 0 from by decide +kernel]
        omega
      · rw [join_signs]
        exact q _ _ (wordS_mk hl2 (by omega) (by omega)) S2 (B2.mono (by omega))

theorem ok__law_text (T : TX P w K mg) : FnOk P w K mg base CX0 3 T.a__law_text T.d__law_text ["_law_purse_here", "_law_many", "_law_most"] (spTextD) := by
  refine T.F__law_text.ok sc__law_text (fun vs H Q E h => ?_) (fun cdv A outer s H vs Q E hr h => ?_)
  · obtain ⟨p, many, most, n, rfl, hmy, hm1, hm2, hn, B0, q⟩ := h
    rfl
  · obtain ⟨p, many, most, n, rfl, hmy, hm1, hm2, hn, B0, q⟩ := h
    refine ⟨_, (pss_cons (ps_set (i := 3) sc__law_text.nd rfl (by first | exact Or.inl rfl | exact Or.inr rfl) (pe_lst pa_nil))
      (pss_cons (ps_for PassesOwn.never rfl (pi_range1 (by rfl) T.m_range (pa_cons (pv 1) pa_nil)) (pg_name (i := 4) sc__law_text.nd rfl (by first | exact Or.inl rfl | exact Or.inr rfl))
        (pss_cons (ps_set (i := 5) sc__law_text.nd rfl (by first | exact Or.inl rfl | exact Or.inr rfl) (pe_ifExp (pt_cmpR op_gt (pv 4) pe_int (nomark _)) (pe_call (ok__law_mark T) (hr.mono (by decide)) (by rfl) T.g__law_mark T.F__law_mark.kp T.b__law_mark .nil pass0 (pa_cons (pv 0) pa_nil)) (pe_op op_add_str pe_str (pe_ix ix_str pe_str (pe_call (ok__law_take T) (hr.mono (by decide)) (by rfl) T.g__law_take T.F__law_take.kp T.b__law_take .nil pass0 (pa_cons (pv 0) (pa_cons pe_int pa_nil))) (fun _ _ => rfl)))))
        (pss_one (ps_expr (pe_bm PySem.F.plainAttrs_list PySem.F.slot_list_append PySem.F.type_list_append mt_append (pv 3) (pa_cons (pe_tup (pa_cons (pv 5) (pa_cons (pe_call (ok__law_word T) (hr.mono (by decide)) (by rfl) T.g__law_word T.F__law_word.kp T.b__law_word .nil pass0 (pa_cons (pv 0) (pa_cons (pv 2) pa_nil))) pa_nil))) pa_nil))))))
      (pss_one (ps_ret (pv 3))))), ?_⟩
    refine ⟨(by show (0 : Nat) ≤ sizeLine; decide), fun D hD => ?_⟩
    have nD : D ≠ p := (B0.ne hD).symm
    refine ⟨_, rfl, _, rfl, by omega, by omega, for_range (fun i σ H' => ∃ (xs : List V) (ts : List Tk) (y4 y5 : Option V), σ = [some (.ref p), some (.int (many : Int)), some (.int most), some (.ref D), y4, y5] ∧ Sam p H H' ∧ BoxAt H' p (n + 40 * i) ∧ H' D = some (.lst xs) ∧ TxL H' xs ts ∧ (∀ t ∈ ts, tokS t = true) ∧ headPar ts = true ∧ ts.length = i)
      ⟨[], [], none, none, rfl, (Sam.refl p H).new hD, B0.new hD |>.mono (by omega), upd_same, .nil, by simp, rfl, rfl⟩ (fun i σ H1 hi hP => ?_) (fun σ H1 hP => ?_)⟩
    · obtain ⟨xs, ts, y4, y5, rfl, S1, B1, e1, tx, tk, hp, lt⟩ := hP
      have lx := tx.length
      refine ⟨_, rfl, _, _, rfl, rfl, _, rfl, ite2 (fun e => ?a) (fun e => ?b)⟩
      case' a =>
        refine ⟨_, rfl, p, n + 40 * i, rfl, by omega, B1, fun m H2 hm S2 B2 => ?_⟩
        have B2 := B2.mono (m := n + 40 * i + 4) (by omega)
        have hh : ts = [] → m.cps.toList.head? = some 35 := fun e0 => by
          rw [e0] at lt
          have := of_decide_eq_true e
          have l0 : i = 0 := lt.symm
          omega
      case' b =>
        refine ⟨_, rfl, _, _, n + 40 * i, rfl, by omega, by decide, by omega, B1, fun d1 o1 ge1 lt1 B2 => ?_⟩
        obtain ⟨d, hd, hd2⟩ := atI_alln (xs := (Str.ofString "0123").cps.toList) ge1 (by
          rw [show ((Str.ofString "0123").cps.toList.length : Int) = 4 from by decide +kernel]
          exact lt1)
        have S2 : Sam p H1 (upd H1 p o1) := Sam.box (Sam.refl _ _)
        have B2 := B2.mono (m := n + 40 * i + 4) (by omega)
        revert S2 B2
        generalize upd H1 p o1 = H2
        intro S2 B2
        refine ⟨_, _, d, rfl, rfl, (by decide +kernel), hd, _, _, rfl, rfl, (by rw [len_one]; exact szl (by show (Str.ofString "#").length + 1 ≤ 200000; decide +kernel)), ?_⟩
        obtain ⟨m, em⟩ : ∃ m, m = (Str.ofString "#" ++ ⟨#[d]⟩ : Str) := ⟨_, rfl⟩
        have ec : m.cps.toList = [35, d] := by
          rw [em, show (Str.ofString "#" ++ ⟨#[d]⟩ : Str).cps.toList = (Str.ofString "#").cps.toList ++ [d] from tl_append _ _, show (Str.ofString "#").cps.toList = [35] from by decide +kernel]
          rfl
        have hm : markS m = true := by
          rw [markS_iff]
          refine .inr ⟨35, d, ec, .inl rfl, ?_⟩
          rw [show (Str.ofString "0123").cps.toList = [48, 49, 50, 51] from by decide +kernel] at hd2
          simpa using hd2
        have hh : ts = [] → m.cps.toList.head? = some 35 := fun _ => by rw [ec]; rfl
        rw [← em]
      all_goals
        refine ⟨_, rfl, .inl ⟨rfl, _, SqL.of (S2 _ _ nD e1)⟩, _, rfl, _, rfl, _, rfl, p, most, n + 40 * i + 4, rfl, hm1, hm2, by omega, B2, fun z H3 hz S3 B3 => ⟨(by show (2 : Nat) ≤ sizeLine; decide), fun t ht => ?_⟩⟩
        have S4 : Sam p H1 (upd H3 t (.tup [.str m, .str z])) := (S2.trans S3).new ht
        have e4 : upd H3 t (.tup [.str m, .str z]) t = some (.tup [.str m, .str z]) := upd_same
        have B4 := B3.new (o := .tup [.str m, .str z]) ht
        revert S4 e4 B4
        generalize upd H3 t (.tup [.str m, .str z]) = H4
        intro S4 e4 B4
        have tok : tokS (m, z) = true := by
          unfold tokS
          rw [hm, hz]
          rfl
        obtain ⟨b1, b2, b3, eb, _⟩ := B1
        have tx4 : TxL H4 (xs ++ [.ref t]) (ts ++ [(m, z)]) := (tx.sam S4 eb).append (TxL.one ⟨t, rfl, e4⟩)
        have S5 : Sam D H4 (upd H4 D (.lst (xs ++ [.ref t]))) := Sam.box (Sam.refl _ _)
        refine ⟨D, xs, _, rfl, rfl, S4 _ _ nD e1, sz (by omega), xs ++ [.ref t], ts ++ [(m, z)], _, _, rfl, Sam.old (S1.trans S4) hD, (B4.mono (m := n + 40 * ((i + 1 : Nat) : Int)) (by omega)).off nD, upd_same, tx4.sam S5 (S4 _ _ nD e1), ?_, ?_, ?_⟩
        · intro u hu
          rcases List.mem_append.mp hu with h | h
          · exact tk u h
          · rw [List.mem_singleton.mp h]
            exact tok
        · cases ts with
          | nil => exact decide_eq_true (hh rfl)
          | cons a r => exact hp
        · rw [List.length_append, lt]
          rfl
    · obtain ⟨xs, ts, y4, y5, rfl, S1, B1, e1, tx, tk, hp, lt⟩ := hP
      exact ⟨_, rfl, q D _ xs ts hD S1 nD (B1.mono (by omega)) e1 tx tk hp (by omega)⟩

end
end RV


namespace RV
open PySem PySem.Spec PyProof.Rows L2 TL
section
variable {P : Program} {w : World} {K : PySem.W.Frag} {mg : Str → Option Value} {base : Heap}
theorem ok__law_read (T : TX P w K mg) : FnOk P w K mg base CX0 2 T.a__law_read T.d__law_read ["_law_writing"] (spLawRead) := by
  refine T.F__law_read.ok sc__law_read (fun vs H Q E h => ?_) (fun cdv A outer s H vs Q E hr h => ?_)
  · obtain ⟨z, rfl, hz, qf, qt⟩ := h
    rfl
  · obtain ⟨z, rfl, hz, qf, qt⟩ := h
    refine ⟨_, (pss_cons (ps_set (i := 1) sc__law_read.nd rfl (by first | exact Or.inl rfl | exact Or.inr rfl) (pe_lst pa_nil))
      (pss_cons (ps_for PassesOwn.never rfl (pi_str (pv 0)) (pg_name (i := 2) sc__law_read.nd rfl (by first | exact Or.inl rfl | exact Or.inr rfl))
        (pss_one (ps_if (PW.pt (pw_and (pt_cmpR op_in_sign (pv 2) pe_str (by rfl)) (pw_and1 (pt_cmpR op_gt (pe_callB call_len (by rfl) T.m_len (by decide +kernel) (pa_cons (pv 1) pa_nil)) pe_int (nomark _)))))
          (pss_one (ps_asg (pe_op op_add_str (pe_ix (show IxR _ (rIxL K) from ix_list) (pe_ix (show IxR _ (rIxL K) from ix_list) (pv 1) (pe_un un_neg pe_int) (fun _ _ => rfl)) pe_int (fun _ _ => rfl)) (pv 2)) (pg_sub (pe_ix (show IxR _ (rIxL K) from ix_list) (pv 1) (pe_un un_neg pe_int) (fun _ _ => rfl)) pe_int set_list))) (pss_one (ps_if (PW.pt (pw_and (pt_cmpR op_gt (pe_callB call_len (by rfl) T.m_len (by decide +kernel) (pa_cons (pv 1) pa_nil)) pe_int (nomark _)) (pw_and (pt_cmpR op_in_seq (pe_ix (show IxR _ (rIxL K) from ix_list) (pe_ix (show IxR _ (rIxL K) from ix_list) (pv 1) (pe_un un_neg pe_int) (fun _ _ => rfl)) pe_int (fun _ _ => rfl)) (pe_lst (pa_cons pe_str (pa_cons pe_str (pa_cons pe_str pa_nil)))) (by rfl)) (pw_and1 (pt_cmpR op_eq (pe_ix (show IxR _ (rIxL K) from ix_list) (pe_ix (show IxR _ (rIxL K) from ix_list) (pv 1) (pe_un un_neg pe_int) (fun _ _ => rfl)) pe_int (fun _ _ => rfl)) pe_str (nomark _))))))
            (pss_one (ps_asg (pe_op op_add_str (pe_ix (show IxR _ (rIxL K) from ix_list) (pe_ix (show IxR _ (rIxL K) from ix_list) (pv 1) (pe_un un_neg pe_int) (fun _ _ => rfl)) pe_int (fun _ _ => rfl)) (pv 2)) (pg_sub (pe_ix (show IxR _ (rIxL K) from ix_list) (pv 1) (pe_un un_neg pe_int) (fun _ _ => rfl)) pe_int set_list))) (pss_one (ps_expr (pe_bm PySem.F.plainAttrs_list PySem.F.slot_list_append PySem.F.type_list_append mt_append (pv 1) (pa_cons (pe_lst (pa_cons (pv 2) (pa_cons pe_str pa_nil))) pa_nil)))))))))
      (pss_cons (ps_for PassesOwn.never rfl (pi_enum (by rfl) T.m_enumerate (pa_cons (pv 1) pa_nil)) (pg_tupK (K := K) (n := 2) (by rfl) (by rfl) (pgs_cons (pg_name (i := 3) sc__law_read.nd rfl (by first | exact Or.inl rfl | exact Or.inr rfl)) (pgs_cons (pg_lstK (K := K) (n := 2) (by rfl) (by rfl) (pgs_cons (pg_name (i := 4) sc__law_read.nd rfl (by first | exact Or.inl rfl | exact Or.inr rfl)) (pgs_cons (pg_name (i := 5) sc__law_read.nd rfl (by first | exact Or.inl rfl | exact Or.inr rfl)) pgs_nil))) pgs_nil)))
        (pss_one (ps_if (PW.pt (pw_or (pt_cmpR op_notIn_seq (pv 4) (pe_call0 (ok__law_all_marks T) (hr.mono (by decide)) (by rfl) T.g__law_all_marks T.F__law_all_marks.kp T.b__law_all_marks .nil pass0) (by rfl)) (pw_or (pt_not (pt_chain op_le op_le pe_int (pe_callB call_len_str (by rfl) T.m_len (by decide +kernel) (pa_cons (pv 5) pa_nil)) pe_int)) (pw_or1 (PW.pt (pw_and (pt_cmpR op_eq (pv 3) pe_int (nomark _)) (pw_and1 (pt_cmpR op_ne (pe_ix ix_str (pv 4) pe_int (fun _ _ => rfl)) pe_str (nomark _)))))))))
          (pss_one (ps_ret pe_non)) pss_nil)))
      (pss_one (ps_ret (pe_lc (own := [("_law_mark_here", 4), ("_law_word_here", 5)]) (tt := tYes) rfl sc__law_read.nd (pi_list (pv 1)) (blkOk_by (N := ["_law_writing", "_law_text_here", "_law_sign", "_law_k", "_law_mark_here", "_law_word_here"]) (sc := defScope s__law_read) (by decide +kernel)) (fun _ _ _ _ _ => (pg_lstK (K := K) (n := 2) (by rfl) (by rfl) (pgs_cons (pg_name (i := 4) sc__law_read.nd rfl (by first | exact Or.inl rfl | exact Or.inr rfl)) (pgs_cons (pg_name (i := 5) sc__law_read.nd rfl (by first | exact Or.inl rfl | exact Or.inr rfl)) pgs_nil)))) (fun _ _ _ _ _ => pts_nil) (fun _ _ _ _ _ => (pe_tup (pa_cons (pv 4) (pa_cons (pv 5) pa_nil)))))))))), ?_⟩
    have ll := len_list z
    refine ⟨(by show (0 : Nat) ≤ sizeLine; decide), fun D hD => ?_⟩
    refine ⟨_, rfl, _, rfl, for_it walk_str (fun i σ H' => ∃ (as : List Addr) (y2 : Option V), σ = [some (.str z), some (.ref D), y2, none, none, none] ∧ Same H H' ∧ H' D = some (.lst (as.map V.ref)) ∧ (∀ a ∈ as, H a = none) ∧ as.Nodup ∧ D ∉ as ∧ RwL H' as ((z.cps.toList.take i).foldl stepL []))
      ⟨[], none, rfl, same_new (Same.refl H) hD, upd_same, by simp, by simp, by simp, .nil⟩ (fun _ _ _ _ _ => trivial) (fun i x σ H1 H2 hi hP hY => ?_) (fun σ H1 hP => ?_)⟩
    · obtain ⟨rfl, c, hc, rfl⟩ := hY
      obtain ⟨as, y2, rfl, s1, e1, an, nd, dn, rw1⟩ := hP
      have et : (z.cps.toList.take (i + 1)).foldl stepL [] = stepL ((z.cps.toList.take i).foldl stepL []) c := by
        rw [List.take_add_one, show z.cps.toList[i]? = some c from by rw [← hc]; simp, List.foldl_append]
        rfl
      have fl : flatL ((z.cps.toList.take i).foldl stepL []) = z.cps.toList.take i := flat_read _
      have pz := fold_len (z.cps.toList.take i) []
      rw [List.length_take] at pz
      revert et fl rw1 pz
      generalize (z.cps.toList.take i).foldl stepL [] = ps
      intro rw1 et fl pz
      have fz : (flatL ps).length ≤ 50000 := by
        rw [fl, List.length_take]
        omega
      have pz : ps.length ≤ 50000 := by rw [List.length_nil] at pz; omega
      have lz := rw1.length
      cases q : ps.getLast? with
      | none =>
        have a0 := last_none rw1 q
        have es := step_none (c := c) q
        refine ⟨_, rfl, c, abc, rfl, rfl, _, rfl, ite2 (fun e => ?_) (fun e => iteF ?_)⟩
        · refine ⟨_, rfl, _, _, rfl, .inl ⟨_, SqL.of e1, rfl⟩, _, _, rfl, rfl, _, rfl, ?_⟩
          rw [decide_eq_false (by rw [a0]; decide)]
          refine iteF ?_
          refine ⟨_, rfl, _, _, rfl, .inl ⟨_, SqL.of e1, rfl⟩, _, _, rfl, rfl, _, rfl, ?_⟩
          rw [decide_eq_false (by rw [a0]; decide)]
          refine iteF (iteF ?_)
          refine ⟨_, rfl, .inl ⟨rfl, _, SqL.of e1⟩, _, rfl, (by show (2 : Nat) ≤ sizeLine; decide), fun t ht => ⟨D, _, _, rfl, rfl, keep_new e1 ht, sz (by rw [List.length_map]; omega), ?_⟩⟩
          have sx : Same H (upd H2 t (.lst [.str ⟨#[c]⟩, .str (Str.ofString "")])) := same_new s1 ht
          have ty : t ∉ as := fun hm => by
            obtain ⟨j, hj⟩ := List.getElem?_of_mem hm
            obtain ⟨_, _, e9⟩ := rw1.get hj
            rw [e9] at ht
            cases ht
          have tD : t ≠ D := fun e9 => by
            rw [e9, e1] at ht
            cases ht
          refine ⟨as ++ [t], _, rfl, same_old sx hD, by rw [upd_same, List.map_append]; rfl, ?_, ?_, ?_, ?_⟩
          · intro b hb
            rcases List.mem_append.mp hb with h | h
            · exact an b h
            · rw [List.mem_singleton.mp h]
              exact sameNone s1 ht
          · exact List.nodup_append.mpr ⟨nd, by simp, fun x hx y hy e9 => ty (by rw [← List.mem_singleton.mp hy, ← e9]; exact hx)⟩
          · intro hm
            rcases List.mem_append.mp hm with h | h
            · exact dn h
            · exact tD (List.mem_singleton.mp h).symm
          · rw [et, es]
            refine RwL.off (fun hm => ?_) ((rw1.up (same_new (Same.refl _) ht)).append (.cons (by rw [upd_same, empty_str]; rfl) .nil))
            rcases List.mem_append.mp hm with h | h
            · exact dn h
            · exact tD (List.mem_singleton.mp h).symm
        · refine ⟨_, rfl, _, _, rfl, .inl ⟨_, SqL.of e1, rfl⟩, _, _, rfl, rfl, _, rfl, ?_⟩
          rw [decide_eq_false (by rw [a0]; decide)]
          refine iteF (iteF ?_)
          refine ⟨_, rfl, .inl ⟨rfl, _, SqL.of e1⟩, _, rfl, (by show (2 : Nat) ≤ sizeLine; decide), fun t ht => ⟨D, _, _, rfl, rfl, keep_new e1 ht, sz (by rw [List.length_map]; omega), ?_⟩⟩
          have sx : Same H (upd H2 t (.lst [.str ⟨#[c]⟩, .str (Str.ofString "")])) := same_new s1 ht
          have ty : t ∉ as := fun hm => by
            obtain ⟨j, hj⟩ := List.getElem?_of_mem hm
            obtain ⟨_, _, e9⟩ := rw1.get hj
            rw [e9] at ht
            cases ht
          have tD : t ≠ D := fun e9 => by
            rw [e9, e1] at ht
            cases ht
          refine ⟨as ++ [t], _, rfl, same_old sx hD, by rw [upd_same, List.map_append]; rfl, ?_, ?_, ?_, ?_⟩
          · intro b hb
            rcases List.mem_append.mp hb with h | h
            · exact an b h
            · rw [List.mem_singleton.mp h]
              exact sameNone s1 ht
          · exact List.nodup_append.mpr ⟨nd, by simp, fun x hx y hy e9 => ty (by rw [← List.mem_singleton.mp hy, ← e9]; exact hx)⟩
          · intro hm
            rcases List.mem_append.mp hm with h | h
            · exact dn h
            · exact tD (List.mem_singleton.mp h).symm
          · rw [et, es]
            refine RwL.off (fun hm => ?_) ((rw1.up (same_new (Same.refl _) ht)).append (.cons (by rw [upd_same, empty_str]; rfl) .nil))
            rcases List.mem_append.mp hm with h | h
            · exact dn h
            · exact tD (List.mem_singleton.mp h).symm
      | some u =>
        obtain ⟨bs, a, ea0, rwb, ea⟩ := rw1.last q
        have hu : u ∈ ps := List.mem_of_getLast? q
        have uz := flat_mem hu
        have l1 := len_mk u.1
        have l2 := len_mk u.2
        have e1b : H2 D = some (.lst (bs.map V.ref ++ [.ref a])) := by
          rw [e1, ea0, List.map_append]
          rfl
        have pos : 0 < as.length := by
          rw [ea0]
          simp
        refine ⟨_, rfl, c, abc, rfl, rfl, _, rfl, ite2 (fun e => ?_) (fun e => iteF ?_)⟩
        · rw [abc_is] at e
          refine ⟨_, rfl, _, _, rfl, .inl ⟨_, SqL.of e1, rfl⟩, _, _, rfl, rfl, _, rfl, ?_⟩
          rw [decide_eq_true (by rw [List.length_map]; omega)]
          refine iteT ?_
          refine ⟨_, rfl, _, rfl, D, _, _, _, rfl, rfl, SqL.of e1b, atI_last _ _, a, _, 1, _, rfl, rfl, SqL.of ea, atI_nat (j := 1) rfl, _, rfl, _, _, rfl, rfl, szl (by show (⟨u.2.toArray⟩ : Str).length + 1 ≤ 200000; omega), _, rfl, _, rfl, D, _, _, _, rfl, rfl, SqL.of e1b, atI_last _ _, a, _, 1, 1, rfl, rfl, ea, rfl, ?_⟩
          subst ea0
          have sx : Same H (upd H2 a (.lst [.str (stk u).1, .str ((stk u).2 ++ ⟨#[c]⟩)])) := same_old s1 (an a (by simp))
          refine ⟨bs ++ [a], _, rfl, sx, by rw [upd_ne (fun e9 => dn (by rw [e9]; simp))]; rw [List.map_append]; exact e1b, an, nd, dn, ?_⟩
          rw [et, step_abc q e]
          refine RwL.append (RwL.off (fun hm => ?_) rwb) (.cons (by rw [upd_same, show (stk u).2 ++ (⟨#[c]⟩ : Str) = (stk (u.1, u.2 ++ [c])).2 from app_one u.2 c]; rfl) .nil)
          exact absurd rfl ((List.nodup_append.mp nd).2.2 a hm a (by simp))
        · have hc2 : isAbc c = false := by
            rw [← abc_is]
            exact Bool.eq_false_iff.mpr e
          refine ⟨_, rfl, _, _, rfl, .inl ⟨_, SqL.of e1, rfl⟩, _, _, rfl, rfl, _, rfl, ?_⟩
          rw [decide_eq_true (by rw [List.length_map]; omega)]
          refine iteT ?_
          refine ⟨_, rfl, _, rfl, D, _, _, _, rfl, rfl, SqL.of e1b, atI_last _ _, a, _, 0, _, rfl, rfl, SqL.of ea, atI_nat (j := 0) rfl, (by show (3 : Nat) ≤ sizeLine; decide), fun l hl => ⟨l, _, rfl, .inl (SqL.of upd_same), rfl, rfl, _, rfl, ?_⟩⟩
          have s2 : Same H2 (upd H2 l (.lst [.str (Str.ofString "#"), .str (Str.ofString "|"), .str (Str.ofString "/")])) := same_new (Same.refl _) hl
          revert s2
          generalize upd H2 l (.lst [.str (Str.ofString "#"), .str (Str.ofString "|"), .str (Str.ofString "/")]) = H3
          intro s2
          have in3 : inV (.str (stk u).1) [.str (Str.ofString "#"), .str (Str.ofString "|"), .str (Str.ofString "/")] = decide ((stk u).1 ∈ ([Str.ofString "#", Str.ofString "|", Str.ofString "/"] : List Str)) := inV_strs _ [Str.ofString "#", Str.ofString "|", Str.ofString "/"]
          have e13 := s2 _ _ e1
          have rw3 := rw1.up s2
          refine ite2 (fun e2 => ?_) (fun e2 => iteF ?_)
          · have e3 := (sign3 u.1).mp (of_decide_eq_true (in3.symm.trans e2))
            refine ⟨_, rfl, _, rfl, D, _, _, _, rfl, rfl, SqL.of (s2 _ _ e1b), atI_last _ _, a, _, 1, _, rfl, rfl, SqL.of (s2 _ _ ea), atI_nat (j := 1) rfl, rfl, _, rfl, ite2 (fun e4 => ?_) (fun e4 => ?_)⟩
            · have e5 : u.2 = [] := by
                have e6 := of_decide_eq_true e4
                rw [V.str.injEq, empty_str] at e6
                exact (mk_eq u.2 []).mp e6
              refine ⟨_, rfl, _, rfl, D, _, _, _, rfl, rfl, SqL.of (s2 _ _ e1b), atI_last _ _, a, _, 0, _, rfl, rfl, SqL.of (s2 _ _ ea), atI_nat (j := 0) rfl, _, rfl, _, _, rfl, rfl, szl (by show (⟨u.1.toArray⟩ : Str).length + 1 ≤ 200000; omega), _, rfl, _, rfl, D, _, _, _, rfl, rfl, SqL.of (s2 _ _ e1b), atI_last _ _, a, _, 0, 0, rfl, rfl, s2 _ _ ea, rfl, ?_⟩
              have e1c := s2 _ _ e1b
              have sc := s1.trans s2
              have rwc := rwb.up s2
              subst ea0
              have sx : Same H (upd H3 a (.lst [.str ((stk u).1 ++ ⟨#[c]⟩), .str (stk u).2])) := same_old sc (an a (by simp))
              refine ⟨bs ++ [a], _, rfl, sx, by rw [upd_ne (fun e9 => dn (by rw [e9]; simp))]; rw [List.map_append]; exact e1c, an, nd, dn, ?_⟩
              rw [et, step_mark q hc2 ⟨e3, e5⟩]
              refine RwL.append (RwL.off (fun hm => ?_) rwc) (.cons (by rw [upd_same, show (stk u).1 ++ (⟨#[c]⟩ : Str) = (stk (u.1 ++ [c], u.2)).1 from app_one u.1 c]; rfl) .nil)
              exact absurd rfl ((List.nodup_append.mp nd).2.2 a hm a (by simp))
            · have e5 : u.2 ≠ [] := fun e6 => by
                refine e4 (decide_eq_true ?_)
                rw [V.str.injEq, empty_str]
                exact (mk_eq u.2 []).mpr e6
              have es := step_new q hc2 (fun h => e5 h.2)
              have sc := s1.trans s2
              refine ⟨_, rfl, .inl ⟨rfl, _, SqL.of e13⟩, _, rfl, (by show (2 : Nat) ≤ sizeLine; decide), fun t ht => ⟨D, _, _, rfl, rfl, keep_new e13 ht, sz (by rw [List.length_map]; omega), ?_⟩⟩
              have sx : Same H (upd H3 t (.lst [.str ⟨#[c]⟩, .str (Str.ofString "")])) := same_new sc ht
              have ty : t ∉ as := fun hm => by
                obtain ⟨j, hj⟩ := List.getElem?_of_mem hm
                obtain ⟨_, _, e9⟩ := rw3.get hj
                rw [e9] at ht
                cases ht
              have tD : t ≠ D := fun e9 => by
                rw [e9, e13] at ht
                cases ht
              refine ⟨as ++ [t], _, rfl, same_old sx hD, by rw [upd_same, List.map_append]; rfl, ?_, ?_, ?_, ?_⟩
              · intro b hb
                rcases List.mem_append.mp hb with h | h
                · exact an b h
                · rw [List.mem_singleton.mp h]
                  exact sameNone sc ht
              · exact List.nodup_append.mpr ⟨nd, by simp, fun x hx y hy e9 => ty (by rw [← List.mem_singleton.mp hy, ← e9]; exact hx)⟩
              · intro hm
                rcases List.mem_append.mp hm with h | h
                · exact dn h
                · exact tD (List.mem_singleton.mp h).symm
              · rw [et, es]
                refine RwL.off (fun hm => ?_) ((rw3.up (same_new (Same.refl _) ht)).append (.cons (by rw [upd_same, empty_str]; rfl) .nil))
                rcases List.mem_append.mp hm with h | h
                · exact dn h
                · exact tD (List.mem_singleton.mp h).symm
          · have e3 : ¬ (u.1 = [35] ∨ u.1 = [124] ∨ u.1 = [47]) := fun h => e2 (in3.trans (decide_eq_true ((sign3 u.1).mpr h)))
            have es := step_new q hc2 (fun h => e3 h.1)
            have sc := s1.trans s2
            refine ⟨_, rfl, .inl ⟨rfl, _, SqL.of e13⟩, _, rfl, (by show (2 : Nat) ≤ sizeLine; decide), fun t ht => ⟨D, _, _, rfl, rfl, keep_new e13 ht, sz (by rw [List.length_map]; omega), ?_⟩⟩
            have sx : Same H (upd H3 t (.lst [.str ⟨#[c]⟩, .str (Str.ofString "")])) := same_new sc ht
            have ty : t ∉ as := fun hm => by
              obtain ⟨j, hj⟩ := List.getElem?_of_mem hm
              obtain ⟨_, _, e9⟩ := rw3.get hj
              rw [e9] at ht
              cases ht
            have tD : t ≠ D := fun e9 => by
              rw [e9, e13] at ht
              cases ht
            refine ⟨as ++ [t], _, rfl, same_old sx hD, by rw [upd_same, List.map_append]; rfl, ?_, ?_, ?_, ?_⟩
            · intro b hb
              rcases List.mem_append.mp hb with h | h
              · exact an b h
              · rw [List.mem_singleton.mp h]
                exact sameNone sc ht
            · exact List.nodup_append.mpr ⟨nd, by simp, fun x hx y hy e9 => ty (by rw [← List.mem_singleton.mp hy, ← e9]; exact hx)⟩
            · intro hm
              rcases List.mem_append.mp hm with h | h
              · exact dn h
              · exact tD (List.mem_singleton.mp h).symm
            · rw [et, es]
              refine RwL.off (fun hm => ?_) ((rw3.up (same_new (Same.refl _) ht)).append (.cons (by rw [upd_same, empty_str]; rfl) .nil))
              rcases List.mem_append.mp hm with h | h
              · exact dn h
              · exact tD (List.mem_singleton.mp h).symm
    · obtain ⟨as, y2, rfl, s1, e1, an, nd, dn, rw1⟩ := hP
      have et : (z.cps.toList.take z.cps.size).foldl stepL [] = readL z.cps.toList := by
        rw [List.take_of_length_le (by simp)]
        rfl
      rw [et] at rw1
      have wa := words_read z.cps.toList [] (fun t ht => by cases ht)
      have pz := fold_len z.cps.toList []
      have fl := flat_read z.cps.toList
      have qf2 : textS ((readL z.cps.toList).map stk) = false → ∀ H', Same H H' → Q .non H' := qf
      have qt2 : textS ((readL z.cps.toList).map stk) = true → ∀ D H' xs, H D = none → Same H H' → H' D = some (.lst xs) → TxL H' xs ((readL z.cps.toList).map stk) → Q (.ref D) H' := qt
      have wb : wordsAbc (readL z.cps.toList) := wa
      have pb : (readL z.cps.toList).length ≤ z.cps.toList.length := by
        rw [List.length_nil, Nat.zero_add] at pz
        exact pz
      clear wa pz qf qt et
      revert rw1 fl qf2 qt2 wb pb
      generalize readL z.cps.toList = ps
      intro rw1 fl qf2 qt2 wb pb
      have lz := rw1.length
      have el : ∀ t ∈ ps, (stk t).1.length ≤ 50000 ∧ (stk t).2.length ≤ 50000 := fun t ht => by
        have := flat_mem ht
        rw [fl] at this
        have l1 := len_mk t.1
        have l2 := len_mk t.2
        exact ⟨show (⟨t.1.toArray⟩ : Str).length ≤ 50000 by omega, show (⟨t.2.toArray⟩ : Str).length ≤ 50000 by omega⟩
      refine ⟨_, rfl, D, _, rfl, SqL.of e1, for_it (walk_enum (xs := as.map V.ref)) (fun i σ H' => ∃ y3 y4 y5 : Option V, σ = [some (.str z), some (.ref D), y2, y3, y4, y5] ∧ Same H1 H' ∧ ∀ (j : Nat) (t : LT), j < i → ps[j]? = some t → rowOk j (stk t) = true)
        ⟨_, _, _, rfl, Same.refl _, fun j t hj => absurd hj (Nat.not_lt_zero j)⟩ (fun i σ H' _ h => ?_) (fun i x σ H2 H3 hi hP hY => ?_) (fun σ H2 hP => ?_)⟩
      · obtain ⟨y3, y4, y5, rfl, s2, _⟩ := h
        exact SqL.of (s2 _ _ e1)
      · obtain ⟨y3, y4, y5, rfl, s2, ok⟩ := hP
        obtain ⟨T, x, y, rfl, hT, rfl, ex, ey⟩ := hY
        have ey : (as.map V.ref)[i]? = some y := ey
        have ex2 := Option.some.inj ex
        subst ex2
        rw [List.getElem?_map] at ey
        cases ha : as[i]? with
        | none =>
          rw [ha] at ey
          cases ey
        | some a =>
          rw [ha] at ey
          have ey2 := Option.some.inj ey
          subst ey2
          obtain ⟨t, ht, ea⟩ := rw1.get ha
          have hm := List.mem_of_getElem? ht
          have lens := el t hm
          have s3 : Same H1 (upd H2 T (.tup [.int (i : Int), .ref a])) := same_new s2 hT
          have e3 : upd H2 T (.tup [.int (i : Int), .ref a]) T = some (.tup [.int (i : Int), .ref a]) := upd_same
          revert s3 e3
          generalize upd H2 T (.tup [.int (i : Int), .ref a]) = H3
          intro s3 e3
          have bad : rowOk i (stk t) = false → ∀ H', Same H1 H' → Q .non H' := fun hb H' s' => qf2 (rows_bad wb ht hb) H' (s1.trans s')
          have good : rowOk i (stk t) = true → ∀ (j : Nat) (u : LT), j < i + 1 → ps[j]? = some u → rowOk j (stk u) = true := fun hg j u hj hu => by
            by_cases c : j < i
            · exact ok j u c hu
            · have e9 : j = i := by omega
              rw [e9] at hu ⊢
              rw [ht] at hu
              rw [← Option.some.inj hu]
              exact hg
          unfold rowOk at bad good
          refine ⟨T, _, rfl, SqT.of e3, rfl, _, _, rfl, _, _, rfl, a, _, rfl, SqL.of (s3 _ _ ea), rfl, _, _, rfl, _, _, rfl, rfl, rfl, ?_⟩
          refine ⟨_, rfl, rfl, fun D2 hD2 => ⟨D2, _, rfl, .inl (SqL.of upd_same), rfl, by decide, _, rfl, ?_⟩⟩
          have s4 : Same H1 (upd H3 D2 (.lst (marks13.map V.str))) := same_new s3 hD2
          revert s4
          generalize upd H3 D2 (.lst (marks13.map V.str)) = H4
          intro s4
          have im : inV (.str (stk t).1) (marks13.map V.str) = markS (stk t).1 := (inV_strs _ _).trans (markS_13 _).symm
          refine ite2 (fun e => ?_) (fun e => ?_)
          · have e5 : markS (stk t).1 = false := by
              rw [← im]
              have e6 : (!inV (.str (stk t).1) (marks13.map V.str)) = true := e
              simpa using e6
            exact iteT (bad (by rw [e5]; rfl) _ s4)
          · have e5 : markS (stk t).1 = true := by
              rw [← im]
              have e6 : ¬ (!inV (.str (stk t).1) (marks13.map V.str)) = true := e
              simpa using e6
            rw [e5, Bool.true_and] at bad good
            refine ⟨_, rfl, _, rfl, szl (by omega), _, _, rfl, rfl, _, rfl, ?_⟩
            by_cases c1 : (1 : Int) ≤ ((stk t).2.length : Int)
            · rw [if_pos (decide_eq_true c1)]
              rw [decide_eq_true (show 1 ≤ (stk t).2.length by omega), Bool.true_and] at bad good
              refine ⟨_, _, rfl, rfl, _, rfl, ?_⟩
              by_cases c2 : ((stk t).2.length : Int) ≤ 30
              · rw [decide_eq_true c2]
                rw [decide_eq_true (show (stk t).2.length ≤ 30 by omega), Bool.true_and] at bad good
                refine iteF ?_
                refine ⟨_, rfl, rfl, _, rfl, ite2 (fun e0 => ?_) (fun e0 => iteF ?_)⟩
                · have i0 : i = 0 := by
                    have := V.int.inj (of_decide_eq_true e0)
                    omega
                  rw [decide_eq_false (not_not_intro i0), Bool.false_or] at bad good
                  have hh : ∃ d u, (stk t).1.cps.toList = d :: u := by
                    rcases (markS_iff _).mp e5 with e | ⟨c, d, e, _⟩
                    · exact ⟨_, _, e⟩
                    · exact ⟨_, _, e⟩
                  obtain ⟨d, u, hd⟩ := hh
                  have ed : decide (V.str ⟨#[d]⟩ = V.str (Str.ofString "#")) = decide ((stk t).1.cps.toList.head? = some 35) := by
                    rw [hd, Bool.eq_iff_iff, decide_eq_true_eq, decide_eq_true_eq, V.str.injEq, eq_comm, ← beq_iff_eq, one_eq (k := 35) (by decide +kernel), decide_eq_true_eq]
                    simp
                  refine ⟨_, rfl, _, _, d, rfl, rfl, szl (by omega), atI_nat (j := 0) (by rw [hd]; rfl), rfl, _, rfl, ?_⟩
                  rw [ed]
                  cases e7 : decide ((stk t).1.cps.toList.head? = some 35) with
                  | true => exact iteF ⟨_, _, _, rfl, s4, good e7⟩
                  | false => exact iteT (bad e7 _ s4)
                · have i0 : i ≠ 0 := fun e9 => e0 (decide_eq_true (by rw [e9]; rfl))
                  rw [decide_eq_true i0, Bool.true_or] at good
                  exact ⟨_, _, _, rfl, s4, good rfl⟩
              · rw [decide_eq_false c2]
                rw [decide_eq_false (show ¬ (stk t).2.length ≤ 30 by omega), Bool.false_and] at bad
                exact iteT (bad rfl _ s4)
            · rw [if_neg (by rw [decide_eq_false c1]; exact Bool.false_ne_true)]
              rw [decide_eq_false (show ¬ 1 ≤ (stk t).2.length by omega), Bool.false_and, Bool.false_and] at bad
              exact ⟨_, rfl, iteT (bad rfl _ s4)⟩
      · obtain ⟨y3, y4, y5, rfl, s2, ok⟩ := hP
        have tr := rows_good wb fun i t ht => ok i t (by
          have := (List.getElem?_eq_some_iff.mp ht).1
          rw [List.length_map]
          omega) ht
        refine ⟨_, rfl, D, rfl, ⟨_, SqL.of (s2 _ _ e1)⟩, fun D2 hD2 => ?_⟩
        have hD3 := sameNone s1 (sameNone s2 hD2)
        refine lc_it (walk_list (xs := as.map V.ref)) (fun i H' => Same H2 H' ∧ ∃ vs, H' D2 = some (.lst vs) ∧ TxL H' vs ((ps.take i).map stk)) ⟨same_old (Same.refl _) hD2, [], upd_same, .nil⟩ (fun i H' _ h => SqL.of (h.1 _ _ (s2 _ _ e1))) (fun i x H3 H4 hi hP hY => ?_) (fun H3 hP => ?_)
        · obtain ⟨s3, vs, eD, tv⟩ := hP
          obtain ⟨rfl, hx⟩ := hY
          rw [List.getElem?_map] at hx
          cases ha : as[i]? with
          | none =>
            rw [ha] at hx
            cases hx
          | some a =>
            rw [ha] at hx
            have ey2 := Option.some.inj hx
            subst ey2
            obtain ⟨t, ht, ea⟩ := rw1.get ha
            have lv := tv.length
            rw [List.length_map, List.length_take] at lv
            refine ⟨a, _, rfl, SqL.of (s3 _ _ (s2 _ _ ea)), rfl, _, _, rfl, _, _, rfl, rfl, ?_⟩
            refine ⟨rfl, _, rfl, _, rfl, (by show (2 : Nat) ≤ sizeLine; decide), fun T hT => ⟨vs, keep_new eD hT, sz (by omega), same_old (s3.trans (same_new (Same.refl _) hT)) hD2, _, upd_same, ?_⟩⟩
            have S9 : Sam D2 (upd H4 T (.tup [.str (stk t).1, .str (stk t).2])) (upd (upd H4 T (.tup [.str (stk t).1, .str (stk t).2])) D2 (.lst (vs ++ [.ref T]))) := Sam.box (Sam.refl _ _)
            rw [List.take_add_one, ht, List.map_append]
            exact ((tv.up (same_new (Same.refl _) hT)).append (TxL.one ⟨T, rfl, upd_same⟩)).sam S9 (keep_new eD hT)
        · obtain ⟨s3, vs, eD, tv⟩ := hP
          rw [List.take_of_length_le (by rw [List.length_map]; omega)] at tv
          exact qt2 tr D2 H3 vs hD3 (s1.trans (s2.trans s3)) eD tv

end
end RV


namespace RV
open PySem PySem.Spec PyProof.Rows L2 TL
section
variable {P : Program} {w : World} {K : PySem.W.Frag} {mg : Str → Option Value} {base : Heap}
theorem ok__law_told (T : TX P w K mg) : FnOk P w K mg base CX0 7 T.a__law_told T.d__law_told ["_law_way", "_law_value"] (spTold) := by
  refine T.F__law_told.ok sc__law_told (fun vs H Q E h => ?_) (fun cdv A outer s H vs Q E hr h => ?_)
  · obtain ⟨way, v, rfl, h⟩ := h
    rfl
  · obtain ⟨way, v, rfl, h⟩ := h
    refine ⟨_, (pss_cons (ps_set (i := 2) sc__law_told.nd rfl (by first | exact Or.inl rfl | exact Or.inr rfl) (pe_lst pa_nil))
      (pss_cons (ps_try_as (i := 3) (Wout := fun _ _ _ _ => False) rfl rfl sc__law_told.nd rfl rfl ⟨rfl, by decide, Or.inl T.x_InvalidText.gC⟩ takes0
        (fun W pn xe tk _ => (pss_one (ps_set (i := 2) sc__law_told.nd rfl (by first | exact Or.inl rfl | exact Or.inr rfl) (pe_lst (pa_cons pe_str (pa_cons (pe_ifExp (pt_cmpR op_eq (pv 0) pe_int (nomark _)) (pe_callS (ok_write_text T) (hr.mono (by decide)) (by rfl) T.g_write_text T.F_write_text.kp T.b_write_text (fun σ => passAt tk σ) (pa_cons (pv 1) pa_nil)) (pe_callS (ok_read_text T) (hr.mono (by decide)) (by rfl) T.g_read_text T.F_read_text.kp T.b_read_text (fun σ => passAt tk σ) (pa_cons (pv 1) pa_nil))) pa_nil))))))
        (fun a oe cls d pn hz hf => (pss_one (ps_set (i := 2) sc__law_told.nd rfl (by first | exact Or.inl rfl | exact Or.inr rfl) (pe_lst (pa_cons pe_str (pa_cons (pe_bySup T.x_InvalidText hz hf (pv 3)) pa_nil)))))))
      (pss_one (ps_ret (pv 2))))), ?_⟩
    refine ⟨(by show (0 : Nat) ≤ sizeLine; decide), fun F hF => ?_⟩
    have s0 : Same H (upd H F (.lst [])) := same_new (Same.refl _) hF
    revert s0
    generalize upd H F (.lst []) = H0
    intro s0
    cases h with
    | wno h q =>
      exact ⟨_, rfl, rfl, _, rfl, iteT ⟨_, rfl, v, rfl, .inl ⟨h.up s0, fun H1 d s1 f => ⟨true, T.x_InvalidText.te, (fun _ a ha => ⟨_, rfl, rfl, rfl, d, v, rfl, f, (by show (2 : Nat) ≤ sizeLine; decide), fun R hR => ⟨_, rfl, q R _ (same_new (s0.trans s1) hR) (sameNone s0 (sameNone s1 hR)) upd_same⟩⟩), fun q => nomatch q⟩⟩⟩⟩
    | wyes s h k p l q =>
      exact ⟨_, rfl, rfl, _, rfl, iteT ⟨_, rfl, _, rfl, .inr ⟨_, _, _, rfl, s.up s0, h.up s0, k, p, l, fun H1 s1 => ⟨(by show (2 : Nat) ≤ sizeLine; decide), fun R hR => ⟨_, rfl, q R _ (same_new (s0.trans s1) hR) (sameNone s0 (sameNone s1 hR)) upd_same⟩⟩⟩⟩⟩
    | rno h n q =>
      exact ⟨_, rfl, rfl, _, rfl, iteF ⟨_, rfl, v, rfl, .inl ⟨_, h.up s0, n, fun H1 d s1 f => ⟨true, T.x_InvalidText.te, (fun _ a ha => ⟨_, rfl, rfl, rfl, d, v, rfl, f, (by show (2 : Nat) ≤ sizeLine; decide), fun R hR => ⟨_, rfl, q R _ (same_new (s0.trans s1) hR) (sameNone s0 (sameNone s1 hR)) upd_same⟩⟩), fun q => nomatch q⟩⟩⟩⟩
    | rstr l q1 q2 =>
      refine ⟨_, rfl, rfl, _, rfl, iteF ⟨_, rfl, _, rfl, .inr ⟨_, rfl, l, fun e => ?_, fun e => ?_⟩⟩⟩
      · exact fun H1 d s1 f => ⟨true, T.x_InvalidText.te, (fun _ a ha => ⟨_, rfl, rfl, rfl, d, _, rfl, f, (by show (2 : Nat) ≤ sizeLine; decide), fun R hR => ⟨_, rfl, q1 e R _ (same_new (s0.trans s1) hR) (sameNone s0 (sameNone s1 hR)) upd_same⟩⟩), fun q => nomatch q⟩
      · exact fun D H1 xs s1 hD eD tx => ⟨(by show (2 : Nat) ≤ sizeLine; decide), fun R hR => ⟨_, rfl, q2 e R D _ xs (same_new (s0.trans s1) hR) (sameNone s0 (sameNone s1 hR)) (sameNone s0 hD) (fun e9 => by
          rw [e9, eD] at hR
          cases hR) upd_same (keep_new eD hR) (tx.up (same_new (Same.refl _) hR))⟩⟩

end
end RV


namespace RV
open PySem PySem.Spec PyProof.Rows L2 TL
section
variable {P : Program} {w : World} {K : PySem.W.Frag} {mg : Str → Option Value} {base : Heap}
theorem ok__law_right (T : TX P w K mg) : FnG P w K mg base CX0 8 T.a__law_right T.d__law_right ["_law_purse_here"] (spRight) := by
  refine okG T.F__law_right sc__law_right (fun vs H Q E h => ?_) (fun cdv A outer s H vs Q E hgu hr h => ?_)
  · obtain ⟨p, rfl, B0, sy, q⟩ := h
    rfl
  · obtain ⟨p, rfl, B0, sy, q⟩ := h
    refine ⟨_, (pss_cons (ps_set (i := 1) sc__law_right.nd rfl (by first | exact Or.inl rfl | exact Or.inr rfl) (pe_call (ok__law_take T) (hr.mono (by decide)) (by rfl) T.g__law_take T.F__law_take.kp T.b__law_take .nil pass0 (pa_cons (pv 0) (pa_cons pe_int pa_nil))))
      (pss_cons (ps_if (pt_cmpR op_eq (pe_call (ok__law_take T) (hr.mono (by decide)) (by rfl) T.g__law_take T.F__law_take.kp T.b__law_take .nil pass0 (pa_cons (pv 0) (pa_cons pe_int pa_nil))) pe_int (nomark _))
        (pss_one (ps_set (i := 1) sc__law_right.nd rfl (by first | exact Or.inl rfl | exact Or.inr rfl) (pe_op op_add pe_int (pe_call (ok__law_take T) (hr.mono (by decide)) (by rfl) T.g__law_take T.F__law_take.kp T.b__law_take .nil pass0 (pa_cons (pv 0) (pa_cons pe_int pa_nil)))))) pss_nil)
      (pss_cons (ps_set (i := 2) sc__law_right.nd rfl (by first | exact Or.inl rfl | exact Or.inr rfl) (pe_call (ok__law_text T) (hr.mono (by decide)) (by rfl) T.g__law_text T.F__law_text.kp T.b__law_text .nil pass0 (pa_cons (pv 0) (pa_cons (pv 1) (pa_cons (pe_ix (show IxR _ (rIxL K) from ix_list) (pe_lst (pa_cons pe_int (pa_cons pe_int (pa_cons pe_int pa_nil)))) (pe_call (ok__law_take T) (hr.mono (by decide)) (by rfl) T.g__law_take T.F__law_take.kp T.b__law_take .nil pass0 (pa_cons (pv 0) (pa_cons pe_int pa_nil))) (fun _ _ => rfl)) pa_nil)))))
      (pss_cons (ps_set (i := 3) sc__law_right.nd rfl (by first | exact Or.inl rfl | exact Or.inr rfl) (pe_join pe_str (pe_lc (own := [("_law_mark_here", 4), ("_law_word_here", 5)]) (tt := tYes) rfl sc__law_right.nd (pi_list (pv 2)) (blkOk_by (N := ["_law_purse_here", "_law_many", "_law_text_here", "_law_due", "_law_mark_here", "_law_word_here", "_law_value", "_law_told_here", "_law_shown", "_law_turn", "_law_at", "_law_sign", "_law_read_here", "_law_odd", "_law_bad"]) (sc := defScope s__law_right) (by decide +kernel)) (fun _ _ _ _ _ => (pg_tupK (K := K) (n := 2) (by rfl) (by rfl) (pgs_cons (pg_name (i := 4) sc__law_right.nd rfl (by first | exact Or.inl rfl | exact Or.inr rfl)) (pgs_cons (pg_name (i := 5) sc__law_right.nd rfl (by first | exact Or.inl rfl | exact Or.inr rfl)) pgs_nil)))) (fun _ _ _ _ _ => pts_nil) (fun _ _ _ _ _ => (pe_op op_add_str (pv 4) (pv 5))))))
      (pss_cons (ps_for PassesOwn.never rfl (pi_list (pe_lst (pa_cons (pv 2) (pa_cons (pe_callTy call_tuple_of (by rfl) T.m_tuple (by decide +kernel) (pa_cons (pv 2) pa_nil)) pa_nil)))) (pg_name (i := 6) sc__law_right.nd rfl (by first | exact Or.inl rfl | exact Or.inr rfl))
        (pss_one (ps_if (pt_cmpR op_ne (pe_callB (call_repr hgu hr.units) (by rfl) T.m_repr (by decide +kernel) (pa_cons (pe_call (ok__law_told T) (hr.mono (by decide)) (by rfl) T.g__law_told T.F__law_told.kp T.b__law_told .nil pass0 (pa_cons pe_int (pa_cons (pv 6) pa_nil))) pa_nil)) (pe_callB (call_repr hgu hr.units) (by rfl) T.m_repr (by decide +kernel) (pa_cons (pe_lst (pa_cons pe_str (pa_cons (pv 3) pa_nil))) pa_nil)) (nomark _))
          (pss_one (ps_ret pe_bl)) pss_nil)))
      (pss_cons (ps_set (i := 7) sc__law_right.nd rfl (by first | exact Or.inl rfl | exact Or.inr rfl) (pe_call (ok__law_told T) (hr.mono (by decide)) (by rfl) T.g__law_told T.F__law_told.kp T.b__law_told .nil pass0 (pa_cons pe_int (pa_cons (pv 3) pa_nil))))
      (pss_cons (ps_if (pt_cmpR op_ne (pe_callB (call_repr hgu hr.units) (by rfl) T.m_repr (by decide +kernel) (pa_cons (pv 7) pa_nil)) (pe_callB (call_repr hgu hr.units) (by rfl) T.m_repr (by decide +kernel) (pa_cons (pe_lst (pa_cons pe_str (pa_cons (pv 2) pa_nil))) pa_nil)) (nomark _))
        (pss_one (ps_ret pe_bl)) pss_nil)
      (pss_cons (ps_expr (pe_bm PySem.F.plainAttrs_list PySem.F.slot_list_append PySem.F.type_list_append mt_append (pe_ix (show IxR _ (rIxL K) from ix_list) (pv 7) pe_int (fun _ _ => rfl)) (pa_cons pe_str pa_nil)))
      (pss_cons (ps_set (i := 8) sc__law_right.nd rfl (by first | exact Or.inl rfl | exact Or.inr rfl) (pv 3))
      (pss_cons (ps_for PassesOwn.never rfl (pi_range1 (by rfl) T.m_range (pa_cons (pe_op op_add pe_int (pe_call (ok__law_take T) (hr.mono (by decide)) (by rfl) T.g__law_take T.F__law_take.kp T.b__law_take .nil pass0 (pa_cons (pv 0) (pa_cons pe_int pa_nil)))) pa_nil)) (pg_name (i := 9) sc__law_right.nd rfl (by first | exact Or.inl rfl | exact Or.inr rfl))
        (pss_cons (ps_set (i := 10) sc__law_right.nd rfl (by first | exact Or.inl rfl | exact Or.inr rfl) (pe_call (ok__law_take T) (hr.mono (by decide)) (by rfl) T.g__law_take T.F__law_take.kp T.b__law_take .nil pass0 (pa_cons (pv 0) (pa_cons (pe_op op_add (pe_callB call_len_str (by rfl) T.m_len (by decide +kernel) (pa_cons (pv 8) pa_nil)) pe_int) pa_nil))))
        (pss_cons (ps_set (i := 11) sc__law_right.nd rfl (by first | exact Or.inl rfl | exact Or.inr rfl) (pe_ix (show IxR _ (rIxL K) from ix_list) (pe_lst (pa_cons pe_str (pa_cons pe_str (pa_cons pe_str (pa_cons pe_str (pa_cons pe_str (pa_cons pe_str (pa_cons pe_str (pa_cons pe_str (pa_cons pe_str (pa_cons pe_str (pa_cons pe_str (pa_cons pe_str (pa_cons pe_str (pa_cons (pe_op op_mul_str pe_str pe_int) pa_nil))))))))))))))) (pe_call (ok__law_take T) (hr.mono (by decide)) (by rfl) T.g__law_take T.F__law_take.kp T.b__law_take .nil pass0 (pa_cons (pv 0) (pa_cons pe_int pa_nil))) (fun _ _ => rfl)))
        (pss_one (ps_set (i := 8) sc__law_right.nd rfl (by first | exact Or.inl rfl | exact Or.inr rfl) (pe_op op_add_str (pe_op op_add_str (pe_slice sl_str (pv 8) po_none (po_some (pv 10))) (pe_ix (show IxR _ (rIxL K) from ix_list) (pe_lst (pa_cons pe_str (pa_cons (pv 11) pa_nil))) (pe_call (ok__law_take T) (hr.mono (by decide)) (by rfl) T.g__law_take T.F__law_take.kp T.b__law_take .nil pass0 (pa_cons (pv 0) (pa_cons pe_int pa_nil))) (fun _ _ => rfl))) (pe_slice sl_str (pv 8) (po_some (pe_op op_add (pv 10) (pe_call (ok__law_take T) (hr.mono (by decide)) (by rfl) T.g__law_take T.F__law_take.kp T.b__law_take .nil pass0 (pa_cons (pv 0) (pa_cons pe_int pa_nil))))) po_none)))))))
      (pss_cons (ps_set (i := 12) sc__law_right.nd rfl (by first | exact Or.inl rfl | exact Or.inr rfl) (pe_call (ok__law_read T) (hr.mono (by decide)) (by rfl) T.g__law_read T.F__law_read.kp T.b__law_read .nil pass0 (pa_cons (pv 8) pa_nil)))
      (pss_cons (ps_if (pt_cmpR op_ne (pe_callB (call_repr hgu hr.units) (by rfl) T.m_repr (by decide +kernel) (pa_cons (pe_call (ok__law_told T) (hr.mono (by decide)) (by rfl) T.g__law_told T.F__law_told.kp T.b__law_told .nil pass0 (pa_cons pe_int (pa_cons (pv 8) pa_nil))) pa_nil)) (pe_callB (call_repr hgu hr.units) (by rfl) T.m_repr (by decide +kernel) (pa_cons (pe_ifExp (pt_cmpR op_isN (pv 12) pe_non (nomark _)) (pe_lst (pa_cons pe_str (pa_cons (pv 8) pa_nil))) (pe_lst (pa_cons pe_str (pa_cons (pv 12) pa_nil)))) pa_nil)) (nomark _))
        (pss_one (ps_ret pe_bl)) pss_nil)
      (pss_cons (ps_set (i := 13) sc__law_right.nd rfl (by first | exact Or.inl rfl | exact Or.inr rfl) (pe_ix (show IxR _ (rIxL K) from ix_list) (pe_lst (pa_cons pe_non (pa_cons pe_int (pa_cons (pe_lst (pa_cons (pv 3) pa_nil)) (pa_cons (pe_tup (pa_cons pe_str pa_nil)) (pa_cons pe_dnewK (pa_cons pe_bl (pa_cons (pv 2) pa_nil)))))))) (pe_call (ok__law_take T) (hr.mono (by decide)) (by rfl) T.g__law_take T.F__law_take.kp T.b__law_take .nil pass0 (pa_cons (pv 0) (pa_cons pe_int pa_nil))) (fun _ _ => rfl)))
      (pss_cons (ps_if (pt_cmpR op_ne (pe_callB (call_repr hgu hr.units) (by rfl) T.m_repr (by decide +kernel) (pa_cons (pe_call (ok__law_told T) (hr.mono (by decide)) (by rfl) T.g__law_told T.F__law_told.kp T.b__law_told .nil pass0 (pa_cons pe_int (pa_cons (pv 13) pa_nil))) pa_nil)) (pe_callB (call_repr hgu hr.units) (by rfl) T.m_repr (by decide +kernel) (pa_cons (pe_lst (pa_cons pe_str (pa_cons (pv 13) pa_nil))) pa_nil)) (nomark _))
        (pss_one (ps_ret pe_bl)) pss_nil)
      (pss_cons (ps_set (i := 10) sc__law_right.nd rfl (by first | exact Or.inl rfl | exact Or.inr rfl) (pe_call (ok__law_take T) (hr.mono (by decide)) (by rfl) T.g__law_take T.F__law_take.kp T.b__law_take .nil pass0 (pa_cons (pv 0) (pa_cons (pe_op op_add (pv 1) pe_int) pa_nil))))
      (pss_cons (ps_set (i := 14) sc__law_right.nd rfl (by first | exact Or.inl rfl | exact Or.inr rfl) (pe_lst (pa_cons (pe_op op_add_str (pv 3) pe_str) (pa_cons (pe_op op_cat (pv 2) (pe_lst (pa_cons (pe_tup (pa_cons pe_str (pa_cons pe_str pa_nil))) pa_nil))) (pa_cons (pe_op op_cat (pe_lst (pa_cons (pe_tup (pa_cons pe_str (pa_cons pe_str pa_nil))) pa_nil)) (pv 2)) (pa_cons pe_non (pa_cons pe_int (pa_cons (pe_op op_cat (pe_op op_cat (pe_slice sl_list (pv 2) po_none (po_some (pv 10))) (pe_lst (pa_cons (pe_tup (pa_cons pe_str (pa_cons pe_str pa_nil))) pa_nil))) (pe_slice sl_list (pv 2) (po_some (pv 10)) po_none)) pa_nil))))))))
      (pss_cons (ps_set (i := 14) sc__law_right.nd rfl (by first | exact Or.inl rfl | exact Or.inr rfl) (pe_ix (show IxR _ (rIx K) from ix_seq) (pv 14) (pe_call (ok__law_take T) (hr.mono (by decide)) (by rfl) T.g__law_take T.F__law_take.kp T.b__law_take .nil pass0 (pa_cons (pv 0) (pa_cons pe_int pa_nil))) (fun _ _ => rfl)))
      (pss_cons (ps_set (i := 7) sc__law_right.nd rfl (by first | exact Or.inl rfl | exact Or.inr rfl) (pe_call (ok__law_told T) (hr.mono (by decide)) (by rfl) T.g__law_told T.F__law_told.kp T.b__law_told .nil pass0 (pa_cons pe_int (pa_cons (pv 14) pa_nil))))
      (pss_cons (ps_if (pt_val (pe_callB call_isi (by rfl) T.m_isinstance (by decide +kernel) (pa_cons (pv 14) (pa_cons (pe_bltn (v := V.ty "list") (u := .type "list") (by rfl) T.m_list (by decide +kernel) rfl) pa_nil))))
        (pss_one (ps_expr (pe_bm PySem.F.plainAttrs_list PySem.F.slot_list_append PySem.F.type_list_append mt_append (pv 14) (pa_cons pe_str pa_nil)))) pss_nil)
      (pss_one (ps_ret (pe_cmpR op_eq (pe_callB (call_repr hgu hr.units) (by rfl) T.m_repr (by decide +kernel) (pa_cons (pv 7) pa_nil)) (pe_callB (call_repr hgu hr.units) (by rfl) T.m_repr (by decide +kernel) (pa_cons (pe_lst (pa_cons pe_str (pa_cons (pv 14) pa_nil))) pa_nil)) (nomark _))))))))))))))))))))))), ?_⟩
    -- the number of tokens
    refine ⟨_, rfl, _, 21, 0, rfl, by omega, by decide, by omega, B0, fun d1 o1 ge1 lt1 B1 => ?_⟩
    have S1 : Sam p H (upd H p o1) := Sam.box (Sam.refl _ _)
    have sy1 := sy.sam B0 S1
    revert B1 S1 sy1
    generalize upd H p o1 = H1
    intro B1 S1 sy1
    refine ⟨_, rfl, _, 8, _, rfl, by omega, by decide, by omega, B1, fun d2 o2 ge2 lt2 B2 => ?_⟩
    have S2 : Sam p H1 (upd H1 p o2) := Sam.box (Sam.refl _ _)
    have sy2 := sy1.sam B1 S2
    replace S2 := S1.trans S2
    revert B2 S2 sy2
    generalize upd H1 p o2 = H2
    intro B2 sy2 S2
    refine' ⟨rfl, _, rfl, ite_tail (T := _) ?tail1 (fun t e => ?a1) (fun t e => ?b1)⟩
    case' a1 =>
      refine ⟨_, rfl, _, 71, _, rfl, by omega, by decide, by omega, B2, fun d3 o3 ge3 lt3 B3 => ?_⟩
      have S3 : Sam p H2 (upd H2 p o3) := Sam.box (Sam.refl _ _)
      have sy3 := sy2.sam B2 S3
      replace S3 := S2.trans S3
      replace B3 := B3.mono (m := 5) (by omega)
      revert B3 S3 sy3
      generalize upd H2 p o3 = H3
      intro sy3 S3 B3
      refine ⟨_, _, rfl, rfl, ?_⟩
      obtain ⟨many, em⟩ : ∃ many : Nat, 40 + d3 = (many : Int) := ⟨(40 + d3).toNat, by omega⟩
      have ml : many ≤ 110 := by omega
      dsimp only
      rw [em]
      clear em e
      revert H3 sy3 S3 B3 many ml
      exact t.down
    case' b1 =>
      obtain ⟨many, rfl⟩ : ∃ m : Nat, d1 = m := ⟨d1.toNat, by omega⟩
      exact t.down H2 sy2 S2 (B2.mono (by omega)) many (by omega)
    clear S1 sy1 B1 S2 sy2 B2 sy B0
    intro H3 sy3 S3 B3 many ml
    -- the text
    refine ⟨_, rfl, _, rfl, (by show (3 : Nat) ≤ sizeLine; decide), fun l hl => ?_⟩
    have nl : l ≠ p := (B3.ne hl).symm
    have B4 := B3.new (o := .lst [.int 1, .int 4, .int 30]) hl
    have sy4 := sy3.up (same_new (o := .lst [.int 1, .int 4, .int 30]) (Same.refl _) hl)
    have S4 := S3.new (o := .lst [.int 1, .int 4, .int 30]) hl
    have E4 : upd H3 l (.lst [.int 1, .int 4, .int 30]) l = some (.lst [.int 1, .int 4, .int 30]) := upd_same
    revert B4 sy4 S4 E4
    generalize upd H3 l (.lst [.int 1, .int 4, .int 30]) = H4
    intro B4 sy4 S4 E4
    refine ⟨_, rfl, _, 3, _, rfl, by omega, by decide, by omega, B4, fun d4 o4 ge4 lt4 B5 => ?_⟩
    have S5 : Sam p H4 (upd H4 p o4) := Sam.box (Sam.refl _ _)
    have sy5 := sy4.sam B4 S5
    have E5 := S5 _ _ nl E4
    replace S5 := S4.trans S5
    revert B5 sy5 E5 S5
    generalize upd H4 p o4 = H5
    intro B5 sy5 E5 S5
    obtain ⟨v, hv, most, rfl, hm1, hm2⟩ := atI_all (xs := [V.int 1, V.int 4, V.int 30]) (P := fun v => ∃ z : Int, v = .int z ∧ 1 ≤ z ∧ z ≤ 30) (by
      intro x hx
      simp only [List.mem_cons, List.not_mem_nil, or_false] at hx
      rcases hx with rfl | rfl | rfl
      all_goals exact ⟨_, rfl, by decide, by decide⟩) ge4 lt4
    refine ⟨l, _, _, _, rfl, rfl, SqL.of E5, hv, p, many, most, _, rfl, by omega, hm1, hm2, by omega, B5, fun T6 H6 xs ts hT S6 nT B6 eT tx tk hp lt => ?_⟩
    have Z : Stt H p T6 xs ts 4500 H6 := ⟨S5.trans S6, B6.mono (by omega), nT, eT, tx, sy5.sam B5 S6⟩
    clear B5 sy5 E5 B4 sy4 S4 E4 B3 sy3 S3 nl hl hv hm1 hm2 B6 eT tx
    have hT0 : H T6 = none := samNone S5 nT hT
    have asz := asc_flat tk
    have lnz := flatS_len tk
    have lx := Z.tx.length
    -- its writing
    refine ⟨⟨_, rfl⟩, _, rfl, T6, rfl, ⟨_, SqL.of Z.et⟩, fun D hD => ?_⟩
    refine lc_vals (walk_list (xs := xs)) (ts.map fun t => V.str (t.1 ++ t.2)) (by simp [lx]) (sz (by omega)) hD (fun H' s' => SqL.of (s' _ _ Z.et)) (fun i x y H2 Q2 Pe hi hy s2 k => ?_) (fun H7 s7 hD7 => ?_)
    · obtain ⟨t, ht2, a2, rfl, e⟩ := Z.tx.get hi
      rw [List.getElem?_map, ht2] at hy
      have e2 := Option.some.inj hy
      subst e2
      have lt2 := tokS_A (tk t (List.mem_of_getElem? ht2))
      refine ⟨a2, _, rfl, SqT.of (s2 _ _ e), rfl, _, _, rfl, _, _, rfl, rfl, ?_⟩
      exact ⟨rfl, _, rfl, _, rfl, _, _, rfl, rfl, szl (by have := lt2.2.2.1; have := lt2.2.2.2; omega), k _ (Same.refl _)⟩
    refine ⟨Str.ofString "", D, ts.map fun t => t.1 ++ t.2, rfl, rfl, .inl (SqL.of (by rw [hD7, List.map_map]; rfl)), ?_, ?_⟩
    · have := (flat_len tk).2
      have l0 : (Str.ofString "").length = 0 := by decide +kernel
      simp only [l0, List.length_map]
      omega
    rw [join_write]
    replace Z := Z.same s7
    clear s7 hD7 hD
    have tw := pairs_write tk
    have tex : textS (pairsS (flatS ts)) = true := by
      rw [tw]
      unfold textS
      rw [hp, Bool.and_true, List.all_eq_true]
      exact tk
    revert asz lnz tw tex
    generalize ed : flatS ts = due
    intro asz lnz tw tex
    -- written, as a list and as a tuple
    refine ⟨_, rfl, _, rfl, T6, xs, rfl, .inl ⟨SqL.of Z.et, fun U hU => ?_⟩⟩
    have S8 : Same H7 (upd H7 U (.tup xs)) := same_new (Same.refl _) hU; have E8 : upd H7 U (.tup xs) U = some (.tup xs) := upd_same; revert S8 E8; generalize upd H7 U (.tup xs) = H8; intro S8 E8
    replace Z := Z.same S8
    refine ⟨(by show (2 : Nat) ≤ sizeLine; decide), fun W hW => ?_⟩
    have S9 : Same H8 (upd H8 W (.lst [.ref T6, .ref U])) := same_new (Same.refl _) hW; have E9 : upd H8 W (.lst [.ref T6, .ref U]) W = some (.lst [.ref T6, .ref U]) := upd_same; revert S9 E9; generalize upd H8 W (.lst [.ref T6, .ref U]) = H9; intro S9 E9
    replace Z := Z.same S9
    replace E8 := S9 _ _ E8
    refine ⟨_, rfl, ⟨_, SqL.of E9⟩, for_list (K := K) (xs := [V.ref T6, V.ref U]) (fun i σ H' => ∃ y6 : Option V, σ = [some (.ref p), some (.int (many : Int)), some (.ref T6), some (.str due), none, none, y6, none, none, none, none, none, none, none, none] ∧ Same H9 H') ⟨none, rfl, Same.refl _⟩ (fun i σ H' _ h => ?_) (fun i v σ H10 hv h => ?_) (fun σ H10 h => ?_)⟩
    · obtain ⟨y6, rfl, s⟩ := h
      exact SqL.of (s _ _ E9)
    · obtain ⟨y6, rfl, s10⟩ := h
      obtain ⟨a, rfl, sa⟩ : ∃ a, v = .ref a ∧ SqA H9 a xs := by
        have hm := List.mem_of_getElem? hv
        simp only [List.mem_cons, List.not_mem_nil, or_false] at hm
        rcases hm with rfl | rfl
        · exact ⟨_, rfl, .inl Z.et⟩
        · exact ⟨_, rfl, .inr E8⟩
      have Z10 := Z.same s10
      refine ⟨_, rfl, 0, _, rfl, .wyes (sa.up s10) Z10.tx tk hp (by omega) fun R H11 s11 hR eR => ?_⟩
      rw [ed] at eR
      have f1 := ShD.two eR (ShD.str (H := H11) asz (by omega)) asc_told len_told
      refine ⟨_, _, rfl, (Z10.same s11).sy, f1.1, f1.2.1, f1.2.2.1, f1.2.2.2, _, rfl, (by show (2 : Nat) ≤ sizeLine; decide), fun R2 hR2 => ?_⟩
      have S12 : Same H11 (upd H11 R2 (.lst [.str (Str.ofString "told"), .str due])) := same_new (Same.refl _) hR2; have E12 : upd H11 R2 (.lst [.str (Str.ofString "told"), .str due]) R2 = some (.lst [.str (Str.ofString "told"), .str due]) := upd_same; revert S12 E12; generalize upd H11 R2 (.lst [.str (Str.ofString "told"), .str due]) = H12; intro S12 E12
      have f2 := ShD.two E12 (ShD.str (H := H12) asz (by omega)) asc_told len_told
      exact ⟨_, _, rfl, ((Z10.same s11).same S12).sy, f2.1, f2.2.1, f2.2.2.1, f2.2.2.2, rfl, _, rfl, iteNS rfl ⟨_, rfl, s10.trans (s11.trans S12)⟩⟩
    obtain ⟨y6, rfl, s10⟩ := h
    replace Z := Z.same s10
    clear s10 S8 E8 S9 E9 hU hW
    -- read back
    refine ⟨_, rfl, 1, _, rfl, .rstr (by omega) (fun e => absurd (tex.symm.trans e) (by decide)) fun _ R D2 H11 xs2 s11 hR hD2 nRD eR eD2 tx2 => ?_⟩
    rw [tw] at tx2
    have f1 := ShD.two eR (ShD.tx eD2 tx2 (fun t h => tokS_A (tk t h)) (by omega)) asc_told len_told
    refine ⟨_, rfl, _, _, rfl, (Z.same s11).sy, f1.1, f1.2.1, f1.2.2.1, f1.2.2.2, _, rfl, (by show (2 : Nat) ≤ sizeLine; decide), fun R2 hR2 => ?_⟩
    have S12 : Same H11 (upd H11 R2 (.lst [.str (Str.ofString "told"), .ref T6])) := same_new (Same.refl _) hR2; have E12 : upd H11 R2 (.lst [.str (Str.ofString "told"), .ref T6]) R2 = some (.lst [.str (Str.ofString "told"), .ref T6]) := upd_same; revert S12 E12; generalize upd H11 R2 (.lst [.str (Str.ofString "told"), .ref T6]) = H12; intro S12 E12
    have Z12 := (Z.same s11).same S12
    have f2 := ShD.two E12 (ShD.tx Z12.et Z12.tx (fun t h => tokS_A (tk t h)) (by omega)) asc_told len_told
    refine ⟨_, _, rfl, Z12.sy, f2.1, f2.2.1, f2.2.2.1, f2.2.2.2, rfl, _, rfl, iteNS rfl ?_⟩
    have lx2 := tx2.length
    refine ⟨_, rfl, R, _, _, .ref D2, rfl, rfl, SqL.of (S12 _ _ eR), atI_nat (j := 1) rfl, .inl ⟨rfl, _, SqL.of (S12 _ _ eD2)⟩, D2, xs2, _, rfl, rfl, S12 _ _ eD2, sz (by omega), ?_⟩
    have s13 : Same H10 (upd H12 D2 (.lst (xs2 ++ [.str (Str.ofString "later")]))) := same_old (s11.trans S12) hD2
    replace Z := Z.same s13
    clear Z12 f1 f2 s13 E12 S12 hR2 eR eD2 hR hD2 nRD s11 tx2 lx2
    revert Z
    generalize upd H12 D2 (.lst (xs2 ++ [.str (Str.ofString "later")])) = H13
    intro Z
    -- a changed writing
    refine ⟨_, rfl, ?_⟩
    refine ⟨_, rfl, _, 2, _, rfl, by omega, by decide, by omega, Z.bx, fun d5 o5 ge5 lt5 B5 => ?_⟩
    have Z := Stt.take Z B5; have SA : Sam p H13 (upd H13 p o5) := Sam.box (Sam.refl _ _); clear B5; revert Z SA; generalize upd H13 p o5 = H14; intro Z SA
    refine ⟨_, _, rfl, rfl, _, rfl, by omega, by omega, for_range (fun i σ H' => ∃ (z : Str) (y9 y10 y11 : Option V), σ = [some (.ref p), some (.int (many : Int)), some (.ref T6), some (.str due), none, none, y6, some (.ref R), some (.str z), y9, y10, y11, none, none, none] ∧ Asc z ∧ z.length ≤ 3520 + 40 * i ∧ Stt H p T6 xs ts (4600 + 5 * i) H') ⟨due, none, none, none, rfl, asz, by omega, Z.mono (by omega)⟩ (fun i σ H15 hi h => ?_) (fun σ H15 h => ?_)⟩
    · obtain ⟨z, y9, y10, y11, rfl, az, lz, Z15⟩ := h
      have hi2 : i < 2 := by omega
      -- where
      refine ⟨_, rfl, _, rfl, _, rfl, szl (by omega), _, _, rfl, rfl, _, ((z.length : Int) + 1), _, rfl, by omega, by omega, by omega, Z15.bx, fun d6 o6 ge6 lt6 B6 => ?_⟩
      have Z15 := Stt.take Z15 B6; have SA6 : Sam p H15 (upd H15 p o6) := Sam.box (Sam.refl _ _); clear B6; revert Z15 SA6; generalize upd H15 p o6 = H16; intro Z15 SA6
      -- what
      refine ⟨_, 29, rfl, rfl, by decide +kernel, by decide, (by show (14 : Nat) ≤ sizeLine; decide), fun l hl => ?_⟩
      have S17 : Same H16 (upd H16 l (.lst [.str (Str.ofString "a"), .str (Str.ofString " "), .str (Str.ofString "#"), .str (Str.ofString "|"), .str (Str.ofString "/"), .str (Str.ofString "0"), .str (Str.ofString "3"), .str (Str.ofString "4"), .str (Str.ofString "#2"), .str (Str.ofString "A"), .str (Str.ofString "\n"), .str (Str.ofString "-"), .str (Str.ofString "|1"), .str (repS (Str.ofString "z") 29)])) := same_new (Same.refl _) hl; have E17 : upd H16 l (.lst [.str (Str.ofString "a"), .str (Str.ofString " "), .str (Str.ofString "#"), .str (Str.ofString "|"), .str (Str.ofString "/"), .str (Str.ofString "0"), .str (Str.ofString "3"), .str (Str.ofString "4"), .str (Str.ofString "#2"), .str (Str.ofString "A"), .str (Str.ofString "\n"), .str (Str.ofString "-"), .str (Str.ofString "|1"), .str (repS (Str.ofString "z") 29)]) l = some (.lst [.str (Str.ofString "a"), .str (Str.ofString " "), .str (Str.ofString "#"), .str (Str.ofString "|"), .str (Str.ofString "/"), .str (Str.ofString "0"), .str (Str.ofString "3"), .str (Str.ofString "4"), .str (Str.ofString "#2"), .str (Str.ofString "A"), .str (Str.ofString "\n"), .str (Str.ofString "-"), .str (Str.ofString "|1"), .str (repS (Str.ofString "z") 29)]) := upd_same; revert S17 E17; generalize upd H16 l (.lst [.str (Str.ofString "a"), .str (Str.ofString " "), .str (Str.ofString "#"), .str (Str.ofString "|"), .str (Str.ofString "/"), .str (Str.ofString "0"), .str (Str.ofString "3"), .str (Str.ofString "4"), .str (Str.ofString "#2"), .str (Str.ofString "A"), .str (Str.ofString "\n"), .str (Str.ofString "-"), .str (Str.ofString "|1"), .str (repS (Str.ofString "z") 29)]) = H17; intro S17 E17
      have nl : l ≠ p := (Z15.bx.ne hl).symm
      replace Z15 := Z15.same S17
      refine ⟨_, rfl, _, 14, _, rfl, by omega, by decide, by omega, Z15.bx, fun d7 o7 ge7 lt7 B7 => ?_⟩
      have Z15 := Stt.take Z15 B7; have SA7 : Sam p H17 (upd H17 p o7) := Sam.box (Sam.refl _ _); clear B7; revert Z15 SA7; generalize upd H17 p o7 = H18; intro Z15 SA7
      have E18 := SA7 _ _ nl E17
      obtain ⟨v, hv, sg, rfl, asg, lsg⟩ := atI_all (xs := [V.str (Str.ofString "a"), .str (Str.ofString " "), .str (Str.ofString "#"), .str (Str.ofString "|"), .str (Str.ofString "/"), .str (Str.ofString "0"), .str (Str.ofString "3"), .str (Str.ofString "4"), .str (Str.ofString "#2"), .str (Str.ofString "A"), .str (Str.ofString "\n"), .str (Str.ofString "-"), .str (Str.ofString "|1"), .str (repS (Str.ofString "z") 29)]) (P := fun v => ∃ s, v = .str s ∧ Asc s ∧ s.length ≤ 29) (by
        intro x hx
        simp only [List.mem_cons, List.not_mem_nil, or_false] at hx
        rcases hx with rfl | rfl | rfl | rfl | rfl | rfl | rfl | rfl | rfl | rfl | rfl | rfl | rfl | rfl
        · exact ⟨_, rfl, asc_lit (by decide +kernel), by decide +kernel⟩
        · exact ⟨_, rfl, asc_lit (by decide +kernel), by decide +kernel⟩
        · exact ⟨_, rfl, asc_lit (by decide +kernel), by decide +kernel⟩
        · exact ⟨_, rfl, asc_lit (by decide +kernel), by decide +kernel⟩
        · exact ⟨_, rfl, asc_lit (by decide +kernel), by decide +kernel⟩
        · exact ⟨_, rfl, asc_lit (by decide +kernel), by decide +kernel⟩
        · exact ⟨_, rfl, asc_lit (by decide +kernel), by decide +kernel⟩
        · exact ⟨_, rfl, asc_lit (by decide +kernel), by decide +kernel⟩
        · exact ⟨_, rfl, asc_lit (by decide +kernel), by decide +kernel⟩
        · exact ⟨_, rfl, asc_lit (by decide +kernel), by decide +kernel⟩
        · exact ⟨_, rfl, asc_lit (by decide +kernel), by decide +kernel⟩
        · exact ⟨_, rfl, asc_lit (by decide +kernel), by decide +kernel⟩
        · exact ⟨_, rfl, asc_lit (by decide +kernel), by decide +kernel⟩
        · exact ⟨_, rfl, asc_rep (asc_lit (by decide +kernel)) 29, by rw [rep_len]; decide +kernel⟩) ge7 lt7
      refine ⟨l, _, _, _, rfl, rfl, SqL.of E18, hv, ?_⟩
      -- the parts
      have c1 := cutS_len z none (some d6)
      refine ⟨_, rfl, _, rfl, _, rfl, z, rfl, szl (by omega), _, rfl, (by show (2 : Nat) ≤ sizeLine; decide), fun l2 hl2 => ?_⟩
      have S19 : Same H18 (upd H18 l2 (.lst [.str (Str.ofString ""), .str sg])) := same_new (Same.refl _) hl2; have E19 : upd H18 l2 (.lst [.str (Str.ofString ""), .str sg]) l2 = some (.lst [.str (Str.ofString ""), .str sg]) := upd_same; revert S19 E19; generalize upd H18 l2 (.lst [.str (Str.ofString ""), .str sg]) = H19; intro S19 E19
      have nl2 : l2 ≠ p := (Z15.bx.ne hl2).symm
      replace Z15 := Z15.same S19
      refine ⟨_, rfl, _, 2, _, rfl, by omega, by decide, by omega, Z15.bx, fun d8 o8 ge8 lt8 B8 => ?_⟩
      have Z15 := Stt.take Z15 B8; have SA8 : Sam p H19 (upd H19 p o8) := Sam.box (Sam.refl _ _); clear B8; revert Z15 SA8; generalize upd H19 p o8 = H20; intro Z15 SA8
      have E20 := SA8 _ _ nl2 E19
      obtain ⟨v, hv2, pt, rfl, apt, lpt⟩ := atI_all (xs := [V.str (Str.ofString ""), .str sg]) (P := fun v => ∃ s, v = .str s ∧ Asc s ∧ s.length ≤ 29) (by
        intro x hx
        simp only [List.mem_cons, List.not_mem_nil, or_false] at hx
        rcases hx with rfl | rfl
        · exact ⟨_, rfl, asc_lit (by decide +kernel), by decide +kernel⟩
        · exact ⟨_, rfl, asg, lsg⟩) ge8 lt8
      refine ⟨l2, _, _, _, rfl, rfl, SqL.of E20, hv2, _, _, rfl, rfl, szl (by omega), ?_⟩
      refine ⟨_, rfl, _, rfl, _, rfl, _, 2, _, rfl, by omega, by decide, by omega, Z15.bx, fun d9 o9 ge9 lt9 B9 => ?_⟩
      have Z15 := Stt.take Z15 B9; have SA9 : Sam p H20 (upd H20 p o9) := Sam.box (Sam.refl _ _); clear B9; revert Z15 SA9; generalize upd H20 p o9 = H21; intro Z15 SA9
      have c2 := cutS_len z (some (d6 + d9)) none
      have c3 := len_app (cutS z none (some d6)) pt
      have c4 := len_app (cutS z none (some d6) ++ pt) (cutS z (some (d6 + d9)) none)
      have a2 := asc_app (asc_app (asc_cut az none (some d6)) apt) (asc_cut az (some (d6 + d9)) none)
      exact ⟨_, _, rfl, rfl, _, rfl, z, rfl, szl (by omega), _, _, rfl, rfl, szl (by omega), _, _, _, _, rfl, a2, by have := cut_sum z ge6 ge9; omega, Z15.mono (by omega)⟩
    obtain ⟨z, y9, y10, y11, rfl, az, lz, Z15⟩ := h
    replace lz : z.length ≤ 3600 := by omega
    replace Z := Z15.mono (m := 4620) (by omega)
    clear Z15
    -- read by both
    have pl := pairs_len z
    have ro := readers_ok z
    refine' with_tail (T := _) ?tail2 (fun t2 => ?main2)
    case' main2 =>
      refine ⟨_, rfl, z, rfl, by omega, fun ef H16 s16 => ?_, fun et D3 H16 xs3 hD3 s16 eD3 tx3 => ?_⟩
      · replace Z := Z.same s16
        refine ⟨_, rfl, 1, _, rfl, .rstr (by omega) (fun _ R3 H17 s17 hR3 eR3 => ?_) fun e => absurd (ef.symm.trans (ro.symm.trans e)) (by decide)⟩
        have f1 := ShD.two eR3 (ShD.str (H := H17) az (by omega)) asc_text len_text
        refine ⟨_, _, rfl, (Z.same s17).sy, f1.1, f1.2.1, f1.2.2.1, f1.2.2.2, _, rfl, rfl, _, rfl, iteT ⟨_, rfl, (by show (2 : Nat) ≤ sizeLine; decide), fun R4 hR4 => ?_⟩⟩
        have S18 : Same H17 (upd H17 R4 (.lst [.str (Str.ofString "text"), .str z])) := same_new (Same.refl _) hR4; have E18 : upd H17 R4 (.lst [.str (Str.ofString "text"), .str z]) R4 = some (.lst [.str (Str.ofString "text"), .str z]) := upd_same; revert S18 E18; generalize upd H17 R4 (.lst [.str (Str.ofString "text"), .str z]) = H18; intro S18 E18
        have f2 := ShD.two E18 (ShD.str (H := H18) az (by omega)) asc_text len_text
        refine ⟨_, _, rfl, ((Z.same s17).same S18).sy, f2.1, f2.2.1, f2.2.2.1, f2.2.2.2, rfl, _, rfl, iteNS rfl ?_⟩
        have Z18 := (Z.same s17).same S18
        refine sig_as (σ' := [some (V.ref p), some (V.int (many : Int)), some (V.ref T6), some (V.str due), none, none, y6, some (V.ref R), some (V.str z), y9, y10, y11, some V.non, none, none]) rfl ?_
        generalize hs : [some (V.ref p), some (V.int (many : Int)), some (V.ref T6), some (V.str due), none, none, y6, some (V.ref R), some (V.str z), y9, y10, y11, some V.non, none, none] = σ9
        have hσ : ∃ y12 : Option V, σ9 = [some (V.ref p), some (V.int (many : Int)), some (V.ref T6), some (V.str due), none, none, y6, some (V.ref R), some (V.str z), y9, y10, y11, y12, none, none] := ⟨_, hs.symm⟩
        clear hs f2 E18 S18
        revert H18 Z18 σ9 hσ
        exact t2.down
      · replace Z := Z.same s16
        have et2 := ro.trans et
        have erd := readers1 et2
        rw [erd] at tx3
        have tkA : ∀ t ∈ pairsS z, tokA t := fun t ht => by
          unfold textS at et2
          rw [Bool.and_eq_true] at et2
          exact tokS_A (List.all_eq_true.mp et2.1 t ht)
        refine ⟨_, rfl, 1, _, rfl, .rstr (by omega) (fun e => absurd (et2.symm.trans e) (by decide)) fun _ R3 D4 H17 xs4 s17 hR3 hD4 nRD4 eR3 eD4 tx4 => ?_⟩
        have f1 := ShD.two eR3 (ShD.tx eD4 tx4 tkA (by omega)) asc_told len_told
        refine ⟨_, _, rfl, (Z.same s17).sy, f1.1, f1.2.1, f1.2.2.1, f1.2.2.2, _, rfl, rfl, _, rfl, iteF ⟨_, rfl, (by show (2 : Nat) ≤ sizeLine; decide), fun R4 hR4 => ?_⟩⟩
        have S18 : Same H17 (upd H17 R4 (.lst [.str (Str.ofString "told"), .ref D3])) := same_new (Same.refl _) hR4; have E18 : upd H17 R4 (.lst [.str (Str.ofString "told"), .ref D3]) R4 = some (.lst [.str (Str.ofString "told"), .ref D3]) := upd_same; revert S18 E18; generalize upd H17 R4 (.lst [.str (Str.ofString "told"), .ref D3]) = H18; intro S18 E18
        have f2 := ShD.two E18 (ShD.tx (S18 _ _ (s17 _ _ eD3)) (tx3.up (s17.trans S18)) tkA (by omega)) asc_told len_told
        refine ⟨_, _, rfl, ((Z.same s17).same S18).sy, f2.1, f2.2.1, f2.2.2.1, f2.2.2.2, rfl, _, rfl, iteNS rfl ?_⟩
        exact t2.down H18 ((Z.same s17).same S18) [some (V.ref p), some (V.int (many : Int)), some (V.ref T6), some (V.str due), none, none, y6, some (V.ref R), some (V.str z), y9, y10, y11, some (V.ref D3), none, none] ⟨_, rfl⟩
    clear ro pl Z
    intro H18 Z σ9 hσ
    obtain ⟨y12, rfl⟩ := hσ
    -- what is no string
    have nb : ∀ {b : Addr} {G : Hp} {n : Int}, BoxAt G p n → G b = none → b ≠ p := fun B k => (B.ne k).symm
    refine ⟨_, rfl, (by show (1 : Nat) ≤ sizeLine; decide), fun b1 k1 => ?_⟩
    have n1 := nb Z.bx k1
    have S1 : Same H18 (upd H18 b1 (.lst [.str due])) := same_new (Same.refl _) k1; have E1 : upd H18 b1 (.lst [.str due]) b1 = some (.lst [.str due]) := upd_same; revert S1 E1; generalize upd H18 b1 (.lst [.str due]) = H19; intro S1 E1
    refine ⟨(by show (1 : Nat) ≤ sizeLine; decide), fun b2 k2 => ?_⟩
    have n2 := nb (Z.bx.up S1) k2
    have S2 : Same H19 (upd H19 b2 (.tup [.str (Str.ofString "#0a")])) := same_new (Same.refl _) k2; have E2 : upd H19 b2 (.tup [.str (Str.ofString "#0a")]) b2 = some (.tup [.str (Str.ofString "#0a")]) := upd_same; revert S2 E2; generalize upd H19 b2 (.tup [.str (Str.ofString "#0a")]) = H20; intro S2 E2
    refine fun b3 k3 => ?_
    have n3 := nb ((Z.bx.up S1).up S2) k3
    have S3 : Same H20 (upd H20 b3 (.dK [])) := same_new (Same.refl _) k3; have E3 : upd H20 b3 (.dK []) b3 = some (.dK []) := upd_same; revert S3 E3; generalize upd H20 b3 (.dK []) = H21; intro S3 E3
    replace Z := ((Z.same S1).same S2).same S3
    refine ⟨_, rfl, (by show (7 : Nat) ≤ sizeLine; decide), fun l hl => ?_⟩
    have nl := nb Z.bx hl
    have S4 : Same H21 (upd H21 l (.lst [.non, .int 7, .ref b1, .ref b2, .ref b3, .bl true, .ref T6])) := same_new (Same.refl _) hl; have E4 : upd H21 l (.lst [.non, .int 7, .ref b1, .ref b2, .ref b3, .bl true, .ref T6]) l = some (.lst [.non, .int 7, .ref b1, .ref b2, .ref b3, .bl true, .ref T6]) := upd_same; revert S4 E4; generalize upd H21 l (.lst [.non, .int 7, .ref b1, .ref b2, .ref b3, .bl true, .ref T6]) = H22; intro S4 E4
    replace Z := Z.same S4
    refine ⟨_, rfl, _, 7, _, rfl, by omega, by decide, by omega, Z.bx, fun d10 o10 ge10 lt10 B10 => ?_⟩
    have Z := Stt.take Z B10; have SA10 : Sam p H22 (upd H22 p o10) := Sam.box (Sam.refl _ _); clear B10; revert Z SA10; generalize upd H22 p o10 = H23; intro Z SA10
    replace E1 := SA10 _ _ n1 (S4 _ _ (S3 _ _ (S2 _ _ E1)))
    replace E2 := SA10 _ _ n2 (S4 _ _ (S3 _ _ E2))
    replace E3 := SA10 _ _ n3 (S4 _ _ E3)
    replace E4 := SA10 _ _ nl E4
    obtain ⟨v, hv, tv, dv, tyv, nsv, shv⟩ := atI_all (xs := [V.non, .int 7, .ref b1, .ref b2, .ref b3, .bl true, .ref T6]) (P := fun v => OddV H23 v) (by
      intro x hx
      simp only [List.mem_cons, List.not_mem_nil, or_false] at hx
      rcases hx with rfl | rfl | rfl | rfl | rfl | rfl | rfl
      · exact ⟨_, _, .non, rfl, .non⟩
      · exact ⟨_, _, .int 7, rfl, .int (by decide)⟩
      · exact ⟨_, _, .lst E1, rfl, .one E1 asz (by omega)⟩
      · exact ⟨_, _, .tup E2, rfl, .oneT E2 (asc_lit (by decide +kernel)) (by decide +kernel)⟩
      · exact ⟨_, _, .dct E3, rfl, .d0 E3⟩
      · exact ⟨_, _, .bl true, rfl, .bl true⟩
      · exact ⟨_, _, .lst Z.et, rfl, .tx Z.et Z.tx (fun t h => tokS_A (tk t h)) (by omega)⟩) ge10 lt10
    refine ⟨l, _, _, v, rfl, rfl, SqL.of E4, hv, ?_⟩
    clear E1 E2 E3 E4 S1 S2 S3 S4 n1 n2 n3 nl k1 k2 k3 hl SA10 hv
    refine ⟨_, rfl, 1, v, rfl, .rno tyv nsv (fun R3 H24 s24 hR3 eR3 => ?_)⟩
    have f1 := ShD.two eR3 (shv.up s24) asc_text len_text
    refine ⟨_, _, rfl, (Z.same s24).sy, f1.1, f1.2.1, f1.2.2.1, f1.2.2.2, _, rfl, (by show (2 : Nat) ≤ sizeLine; decide), fun R4 hR4 => ?_⟩
    have S25 : Same H24 (upd H24 R4 (.lst [.str (Str.ofString "text"), v])) := same_new (Same.refl _) hR4; have E25 : upd H24 R4 (.lst [.str (Str.ofString "text"), v]) R4 = some (.lst [.str (Str.ofString "text"), v]) := upd_same; revert S25 E25; generalize upd H24 R4 (.lst [.str (Str.ofString "text"), v]) = H25; intro S25 E25
    have f2 := ShD.two E25 ((shv.up s24).up S25) asc_text len_text
    replace Z := (Z.same s24).same S25
    refine ⟨_, _, rfl, Z.sy, f2.1, f2.2.1, f2.2.2.1, f2.2.2.2, rfl, _, rfl, iteNS rfl ?_⟩
    clear f1 f2 E25 S25 hR4 eR3 hR3 s24 tyv nsv shv
    -- what is no text
    refine ⟨_, rfl, _, rfl, _, _, rfl, rfl, _, ((many : Int) + 1), _, rfl, by omega, by omega, by omega, Z.bx, fun d11 o11 ge11 lt11 B11 => ?_⟩
    have Z := Stt.take Z B11; have SA11 : Sam p H25 (upd H25 p o11) := Sam.box (Sam.refl _ _); clear B11; revert Z SA11; generalize upd H25 p o11 = G0; intro Z SA11
    refine ⟨_, rfl, _, _, rfl, rfl, szl (by rw [show (Str.ofString "a").length = 1 from by decide +kernel]; omega), _, rfl, (by show (2 : Nat) ≤ sizeLine; decide), fun t1 kt1 => ?_⟩
    have nt1 := nb Z.bx kt1
    have St1 : Same G0 (upd G0 t1 (.tup [.str (Str.ofString " "), .str (Str.ofString "")])) := same_new (Same.refl _) kt1; have Et1 : upd G0 t1 (.tup [.str (Str.ofString " "), .str (Str.ofString "")]) t1 = some (.tup [.str (Str.ofString " "), .str (Str.ofString "")]) := upd_same; revert St1 Et1; generalize upd G0 t1 (.tup [.str (Str.ofString " "), .str (Str.ofString "")]) = G1; intro St1 Et1
    replace Z := Z.same St1
    refine ⟨(by show (1 : Nat) ≤ sizeLine; decide), fun l1 kl1 => ?_⟩
    have nl1 := nb Z.bx kl1
    have Sl1 : Same G1 (upd G1 l1 (.lst [.ref t1])) := same_new (Same.refl _) kl1; have El1 : upd G1 l1 (.lst [.ref t1]) l1 = some (.lst [.ref t1]) := upd_same; revert Sl1 El1; generalize upd G1 l1 (.lst [.ref t1]) = G2; intro Sl1 El1
    replace Z := Z.same Sl1
    refine ⟨T6, l1, xs, _, rfl, rfl, Z.et, El1, szl (by simp; omega), fun m1 km1 => ?_⟩
    have nm1 := nb Z.bx km1
    have zm1 := samNone Z.ss nm1 km1
    have Sm1 : Same G2 (upd G2 m1 (.lst (xs ++ [.ref t1]))) := same_new (Same.refl _) km1; have Em1 : upd G2 m1 (.lst (xs ++ [.ref t1])) m1 = some (.lst (xs ++ [.ref t1])) := upd_same; revert Sm1 Em1; generalize upd G2 m1 (.lst (xs ++ [.ref t1])) = G3; intro Sm1 Em1
    replace Z := Z.same Sm1
    refine ⟨(by show (2 : Nat) ≤ sizeLine; decide), fun t2 kt2 => ?_⟩
    have nt2 := nb Z.bx kt2
    have St2 : Same G3 (upd G3 t2 (.tup [.str (Str.ofString " "), .str (Str.ofString "a")])) := same_new (Same.refl _) kt2; have Et2 : upd G3 t2 (.tup [.str (Str.ofString " "), .str (Str.ofString "a")]) t2 = some (.tup [.str (Str.ofString " "), .str (Str.ofString "a")]) := upd_same; revert St2 Et2; generalize upd G3 t2 (.tup [.str (Str.ofString " "), .str (Str.ofString "a")]) = G4; intro St2 Et2
    replace Z := Z.same St2
    refine ⟨(by show (1 : Nat) ≤ sizeLine; decide), fun l2 kl2 => ?_⟩
    have nl2 := nb Z.bx kl2
    have Sl2 : Same G4 (upd G4 l2 (.lst [.ref t2])) := same_new (Same.refl _) kl2; have El2 : upd G4 l2 (.lst [.ref t2]) l2 = some (.lst [.ref t2]) := upd_same; revert Sl2 El2; generalize upd G4 l2 (.lst [.ref t2]) = G5; intro Sl2 El2
    replace Z := Z.same Sl2
    refine ⟨_, rfl, l2, T6, _, xs, rfl, rfl, El2, Z.et, szl (by simp; omega), fun m2 km2 => ?_⟩
    have nm2 := nb Z.bx km2
    have zm2 := samNone Z.ss nm2 km2
    have Sm2 : Same G5 (upd G5 m2 (.lst ([.ref t2] ++ xs))) := same_new (Same.refl _) km2; have Em2 : upd G5 m2 (.lst ([.ref t2] ++ xs)) m2 = some (.lst ([.ref t2] ++ xs)) := upd_same; revert Sm2 Em2; generalize upd G5 m2 (.lst ([.ref t2] ++ xs)) = G6; intro Sm2 Em2
    replace Z := Z.same Sm2
    refine ⟨_, rfl, _, rfl, _, rfl, T6, xs, rfl, SqL.of Z.et, fun s1 ks1 => ?_⟩
    have ns1 := nb Z.bx ks1
    have Ss1 : Same G6 (upd G6 s1 (.lst (cutV xs none (some d11)))) := same_new (Same.refl _) ks1; have Es1 : upd G6 s1 (.lst (cutV xs none (some d11))) s1 = some (.lst (cutV xs none (some d11))) := upd_same; revert Ss1 Es1; generalize upd G6 s1 (.lst (cutV xs none (some d11))) = G7; intro Ss1 Es1
    replace Z := Z.same Ss1
    refine ⟨(by show (2 : Nat) ≤ sizeLine; decide), fun t3 kt3 => ?_⟩
    have nt3 := nb Z.bx kt3
    have St3 : Same G7 (upd G7 t3 (.tup [.str (Str.ofString "|"), .str (Str.ofString "a")])) := same_new (Same.refl _) kt3; have Et3 : upd G7 t3 (.tup [.str (Str.ofString "|"), .str (Str.ofString "a")]) t3 = some (.tup [.str (Str.ofString "|"), .str (Str.ofString "a")]) := upd_same; revert St3 Et3; generalize upd G7 t3 (.tup [.str (Str.ofString "|"), .str (Str.ofString "a")]) = G8; intro St3 Et3
    replace Z := Z.same St3
    refine ⟨(by show (1 : Nat) ≤ sizeLine; decide), fun l3 kl3 => ?_⟩
    have nl3 := nb Z.bx kl3
    have Sl3 : Same G8 (upd G8 l3 (.lst [.ref t3])) := same_new (Same.refl _) kl3; have El3 : upd G8 l3 (.lst [.ref t3]) l3 = some (.lst [.ref t3]) := upd_same; revert Sl3 El3; generalize upd G8 l3 (.lst [.ref t3]) = G9; intro Sl3 El3
    replace Z := Z.same Sl3
    refine ⟨s1, l3, _, _, rfl, rfl, Sl3 _ _ (St3 _ _ Es1), El3, szl (by have := cutV_length xs none (some d11); simp; omega), fun m3 km3 => ?_⟩
    have nm3 := nb Z.bx km3
    have Sm3 : Same G9 (upd G9 m3 (.lst (cutV xs none (some d11) ++ [.ref t3]))) := same_new (Same.refl _) km3; have Em3 : upd G9 m3 (.lst (cutV xs none (some d11) ++ [.ref t3])) m3 = some (.lst (cutV xs none (some d11) ++ [.ref t3])) := upd_same; revert Sm3 Em3; generalize upd G9 m3 (.lst (cutV xs none (some d11) ++ [.ref t3])) = G10; intro Sm3 Em3
    replace Z := Z.same Sm3
    refine ⟨_, rfl, _, rfl, _, rfl, T6, xs, rfl, SqL.of Z.et, fun s2 ks2 => ?_⟩
    have ns2 := nb Z.bx ks2
    have Ss2 : Same G10 (upd G10 s2 (.lst (cutV xs (some d11) none))) := same_new (Same.refl _) ks2; have Es2 : upd G10 s2 (.lst (cutV xs (some d11) none)) s2 = some (.lst (cutV xs (some d11) none)) := upd_same; revert Ss2 Es2; generalize upd G10 s2 (.lst (cutV xs (some d11) none)) = G11; intro Ss2 Es2
    replace Z := Z.same Ss2
    refine ⟨m3, s2, _, _, rfl, rfl, Ss2 _ _ Em3, Es2, szl (by have := cutV_length xs none (some d11); have := cutV_length xs (some d11) none; simp; omega), fun m4 km4 => ?_⟩
    have nm4 := nb Z.bx km4
    have zm4 := samNone Z.ss nm4 km4
    have Sm4 : Same G11 (upd G11 m4 (.lst (cutV xs none (some d11) ++ [.ref t3] ++ cutV xs (some d11) none))) := same_new (Same.refl _) km4; have Em4 : upd G11 m4 (.lst (cutV xs none (some d11) ++ [.ref t3] ++ cutV xs (some d11) none)) m4 = some (.lst (cutV xs none (some d11) ++ [.ref t3] ++ cutV xs (some d11) none)) := upd_same; revert Sm4 Em4; generalize upd G11 m4 (.lst (cutV xs none (some d11) ++ [.ref t3] ++ cutV xs (some d11) none)) = G12; intro Sm4 Em4
    replace Z := Z.same Sm4
    refine ⟨(by show (6 : Nat) ≤ sizeLine; decide), fun LL kLL => ?_⟩
    have nLL := nb Z.bx kLL
    have SLL : Same G12 (upd G12 LL (.lst [.str (due ++ Str.ofString "a"), .ref m1, .ref m2, .non, .int 0, .ref m4])) := same_new (Same.refl _) kLL; have ELL : upd G12 LL (.lst [.str (due ++ Str.ofString "a"), .ref m1, .ref m2, .non, .int 0, .ref m4]) LL = some (.lst [.str (due ++ Str.ofString "a"), .ref m1, .ref m2, .non, .int 0, .ref m4]) := upd_same; revert SLL ELL; generalize upd G12 LL (.lst [.str (due ++ Str.ofString "a"), .ref m1, .ref m2, .non, .int 0, .ref m4]) = G13; intro SLL ELL
    replace Z := Z.same SLL
    refine ⟨_, rfl, _, rfl, _, 6, _, rfl, by omega, by decide, by omega, Z.bx, fun d12 o12 ge12 lt12 B12 => ?_⟩
    have Z := Stt.take Z B12; have SA12 : Sam p G13 (upd G13 p o12) := Sam.box (Sam.refl _ _); clear B12; revert Z SA12; generalize upd G13 p o12 = GF; intro Z SA12
    replace Et1 := SA12 _ _ nt1 (SLL _ _ (Sm4 _ _ (Ss2 _ _ (Sm3 _ _ (Sl3 _ _ (St3 _ _ (Ss1 _ _ (Sm2 _ _ (Sl2 _ _ (St2 _ _ (Sm1 _ _ (Sl1 _ _ Et1))))))))))))
    replace Em1 := SA12 _ _ nm1 (SLL _ _ (Sm4 _ _ (Ss2 _ _ (Sm3 _ _ (Sl3 _ _ (St3 _ _ (Ss1 _ _ (Sm2 _ _ (Sl2 _ _ (St2 _ _ Em1))))))))))
    replace Et2 := SA12 _ _ nt2 (SLL _ _ (Sm4 _ _ (Ss2 _ _ (Sm3 _ _ (Sl3 _ _ (St3 _ _ (Ss1 _ _ (Sm2 _ _ (Sl2 _ _ Et2)))))))))
    replace Em2 := SA12 _ _ nm2 (SLL _ _ (Sm4 _ _ (Ss2 _ _ (Sm3 _ _ (Sl3 _ _ (St3 _ _ (Ss1 _ _ Em2)))))))
    replace Et3 := SA12 _ _ nt3 (SLL _ _ (Sm4 _ _ (Ss2 _ _ (Sm3 _ _ (Sl3 _ _ Et3)))))
    replace Em4 := SA12 _ _ nm4 (SLL _ _ Em4)
    replace ELL := SA12 _ _ nLL ELL
    have aA : Asc (Str.ofString "a") := asc_lit (by decide +kernel)
    have aB : Asc (Str.ofString " ") := asc_lit (by decide +kernel)
    have aC : Asc (Str.ofString "|") := asc_lit (by decide +kernel)
    have aE : Asc (Str.ofString "") := asc_lit (by decide +kernel)
    have q1 : TxL GF (xs ++ [.ref t1]) (ts ++ [(Str.ofString " ", Str.ofString "")]) := Z.tx.append (TxL.one ⟨t1, rfl, Et1⟩)
    have q2 : TxL GF ([.ref t2] ++ xs) ([(Str.ofString " ", Str.ofString "a")] ++ ts) := (TxL.one ⟨t2, rfl, Et2⟩).append Z.tx
    have q4 : TxL GF (cutV xs none (some d11) ++ [.ref t3] ++ cutV xs (some d11) none) (cutT ts none (some d11) ++ [(Str.ofString "|", Str.ofString "a")] ++ cutT ts (some d11) none) := ((Z.tx.cut _ _).append (TxL.one ⟨t3, rfl, Et3⟩)).append (Z.tx.cut _ _)
    have tkA : ∀ t ∈ ts, tokA t := fun t h => tokS_A (tk t h)
    obtain ⟨v, hv, bad⟩ := atI_all (xs := [V.str (due ++ Str.ofString "a"), .ref m1, .ref m2, .non, .int 0, .ref m4]) (P := fun v => BadV H GF v) (by
      intro x hx
      simp only [List.mem_cons, List.not_mem_nil, or_false] at hx
      rcases hx with rfl | rfl | rfl | rfl | rfl | rfl
      · exact .str _ (asc_app asz aA) (by have := len_app due (Str.ofString "a"); rw [show (Str.ofString "a").length = 1 from by decide +kernel] at this; omega)
      · refine .lst Em1 q1 (fun t ht => ?_) (by rw [List.length_append]; show ts.length + 1 ≤ 1000; omega) ?_ zm1
        · rcases List.mem_append.mp ht with h | h
          · exact tkA t h
          · rw [List.mem_singleton.mp h]
            exact ⟨aB, aE, by show (Str.ofString " ").length ≤ 100; decide +kernel, by show (Str.ofString "").length ≤ 100; decide +kernel⟩
        · have := textS_app (a := ts) (b := []) (t := (Str.ofString " ", Str.ofString "")) (by decide +kernel)
          rw [List.append_nil] at this
          exact this
      · refine .lst Em2 q2 (fun t ht => ?_) (by rw [List.length_append]; show 1 + ts.length ≤ 1000; omega) ?_ zm2
        · rcases List.mem_append.mp ht with h | h
          · rw [List.mem_singleton.mp h]
            exact ⟨aB, aA, by show (Str.ofString " ").length ≤ 100; decide +kernel, by show (Str.ofString "a").length ≤ 100; decide +kernel⟩
          · exact tkA t h
        · unfold textS
          rw [Bool.and_eq_false_iff]
          right
          show decide ((Str.ofString " ").cps.toList.head? = some 35) = false
          decide +kernel
      · exact .non
      · exact .int
      · refine .lst Em4 q4 (fun t ht => ?_) ?_ (textS_app (by decide +kernel)) zm4
        · rcases List.mem_append.mp ht with h | h
          · rcases List.mem_append.mp h with h | h
            · exact tkA t (cutT_mem h)
            · rw [List.mem_singleton.mp h]
              exact ⟨aC, aA, by show (Str.ofString "|").length ≤ 100; decide +kernel, by show (Str.ofString "a").length ≤ 100; decide +kernel⟩
          · exact tkA t (cutT_mem h)
        · have := cutT_len ts none (some d11)
          have := cutT_len ts (some d11) none
          rw [List.length_append, List.length_append]
          show (cutT ts none (some d11)).length + 1 + (cutT ts (some d11) none).length ≤ 1000
          omega) ge12 lt12
    refine .inl ⟨LL, _, _, v, rfl, rfl, SqL.of ELL, hv, ?_⟩
    refine ⟨_, rfl, 0, v, rfl, .wno bad.tx (fun R5 H26 s26 hR5 eR5 => ?_)⟩
    cases bad with
    | str z9 h9 l9 =>
      have f1 := ShD.two eR5 (ShD.str (H := H26) h9 (by omega)) asc_text len_text
      refine ⟨_, rfl, _, _, _, _, _, rfl, .ty _, (Ty7.str z9 (by omega)).x, kit_ty (kit_list (H := H26) (Ty7.str z9 (by omega))), _, rfl, iteF ?_⟩
      refine ⟨_, rfl, _, _, rfl, (Z.same s26).sy, f1.1, f1.2.1, f1.2.2.1, f1.2.2.2, _, rfl, (by show (2 : Nat) ≤ sizeLine; decide), fun R6 hR6 => ?_⟩
      have S27 : Same H26 (upd H26 R6 (.lst [.str (Str.ofString "text"), .str z9])) := same_new (Same.refl _) hR6; have E27 : upd H26 R6 (.lst [.str (Str.ofString "text"), .str z9]) R6 = some (.lst [.str (Str.ofString "text"), .str z9]) := upd_same; revert S27 E27; generalize upd H26 R6 (.lst [.str (Str.ofString "text"), .str z9]) = H27; intro S27 E27
      have f2 := ShD.two E27 (ShD.up (ShD.str (H := H26) h9 (by omega)) S27) asc_text len_text
      refine ⟨_, _, rfl, ((Z.same s26).same S27).sy, f2.1, f2.2.1, f2.2.2.1, f2.2.2.2, rfl, ?_⟩
      rw [decide_eq_true rfl]
      exact q _ ((Z.same s26).same S27).ss
    | non =>
      have f1 := ShD.two eR5 (ShD.non (H := H26)) asc_text len_text
      refine ⟨_, rfl, _, _, _, _, _, rfl, .ty _, Ty7.non.x, kit_ty (kit_list (H := H26) Ty7.non), _, rfl, iteF ?_⟩
      refine ⟨_, rfl, _, _, rfl, (Z.same s26).sy, f1.1, f1.2.1, f1.2.2.1, f1.2.2.2, _, rfl, (by show (2 : Nat) ≤ sizeLine; decide), fun R6 hR6 => ?_⟩
      have S27 : Same H26 (upd H26 R6 (.lst [.str (Str.ofString "text"), .non])) := same_new (Same.refl _) hR6; have E27 : upd H26 R6 (.lst [.str (Str.ofString "text"), .non]) R6 = some (.lst [.str (Str.ofString "text"), .non]) := upd_same; revert S27 E27; generalize upd H26 R6 (.lst [.str (Str.ofString "text"), .non]) = H27; intro S27 E27
      have f2 := ShD.two E27 (ShD.up (ShD.non (H := H26)) S27) asc_text len_text
      refine ⟨_, _, rfl, ((Z.same s26).same S27).sy, f2.1, f2.2.1, f2.2.2.1, f2.2.2.2, rfl, ?_⟩
      rw [decide_eq_true rfl]
      exact q _ ((Z.same s26).same S27).ss
    | int =>
      have f1 := ShD.two eR5 (ShD.int (H := H26) (i := 0) (by decide)) asc_text len_text
      refine ⟨_, rfl, _, _, _, _, _, rfl, .ty _, (Ty7.int 0).x, kit_ty (kit_list (H := H26) (Ty7.int 0)), _, rfl, iteF ?_⟩
      refine ⟨_, rfl, _, _, rfl, (Z.same s26).sy, f1.1, f1.2.1, f1.2.2.1, f1.2.2.2, _, rfl, (by show (2 : Nat) ≤ sizeLine; decide), fun R6 hR6 => ?_⟩
      have S27 : Same H26 (upd H26 R6 (.lst [.str (Str.ofString "text"), .int 0])) := same_new (Same.refl _) hR6; have E27 : upd H26 R6 (.lst [.str (Str.ofString "text"), .int 0]) R6 = some (.lst [.str (Str.ofString "text"), .int 0]) := upd_same; revert S27 E27; generalize upd H26 R6 (.lst [.str (Str.ofString "text"), .int 0]) = H27; intro S27 E27
      have f2 := ShD.two E27 (ShD.up (ShD.int (H := H26) (i := 0) (by decide)) S27) asc_text len_text
      refine ⟨_, _, rfl, ((Z.same s26).same S27).sy, f2.1, f2.2.1, f2.2.2.1, f2.2.2.2, rfl, ?_⟩
      rw [decide_eq_true rfl]
      exact q _ ((Z.same s26).same S27).ss
    | lst e9 tx9 ha9 l9 f9 n9 =>
      rename_i a9 xs9 ts9
      have lx9 := tx9.length
      have e10 := s26 _ _ e9
      refine ⟨_, rfl, _, _, _, _, _, rfl, .ty _, (Ty7.lst e10).x, kit_ty (kit_list (Ty7.lst e10)), _, rfl, iteT ?_⟩
      refine ⟨_, rfl, .inl ⟨rfl, _, SqL.of e10⟩, a9, _, _, rfl, rfl, e10, sz (by omega), ?_⟩
      have SB : Sam a9 H26 (upd H26 a9 (.lst (xs9 ++ [.str (Str.ofString "late")]))) := Sam.box (Sam.refl _ _)
      have EB : upd H26 a9 (.lst (xs9 ++ [.str (Str.ofString "late")])) a9 = some (.lst (xs9 ++ [.str (Str.ofString "late")])) := upd_same
      have SS := Sam.old (Z.same s26).ss n9 (o := .lst (xs9 ++ [.str (Str.ofString "late")]))
      have na9 : sysModules ≠ a9 := (not_sys (Z.same s26).sy e10 (fun o z => by cases z)).symm
      have sy9 : SysAt (upd H26 a9 (.lst (xs9 ++ [.str (Str.ofString "late")]))) := by
        obtain ⟨o, k⟩ := (Z.same s26).sy
        exact ⟨o, SB _ _ na9 k⟩
      have nR : R5 ≠ a9 := fun e => by
        rw [e, e9] at hR5
        cases hR5
      have eR6 := SB _ _ nR eR5
      have tx10 := (tx9.up s26).sam SB e10
      revert SB EB SS sy9 eR6 tx10
      generalize upd H26 a9 (.lst (xs9 ++ [.str (Str.ofString "late")])) = H27
      intro SB EB SS sy9 eR6 tx10
      have sh := ShD.late EB tx10 ha9 (by omega) (k := Str.ofString "late") (asc_lit (by decide +kernel)) (by decide +kernel)
      have f1 := ShD.two eR6 sh asc_text len_text
      refine ⟨_, rfl, _, _, rfl, sy9, f1.1, f1.2.1, f1.2.2.1, f1.2.2.2, _, rfl, (by show (2 : Nat) ≤ sizeLine; decide), fun R6 hR6 => ?_⟩
      have S28 : Same H27 (upd H27 R6 (.lst [.str (Str.ofString "text"), .ref a9])) := same_new (Same.refl _) hR6; have E28 : upd H27 R6 (.lst [.str (Str.ofString "text"), .ref a9]) R6 = some (.lst [.str (Str.ofString "text"), .ref a9]) := upd_same; revert S28 E28; generalize upd H27 R6 (.lst [.str (Str.ofString "text"), .ref a9]) = H28; intro S28 E28
      have f2 := ShD.two E28 (sh.up S28) asc_text len_text
      refine ⟨_, _, rfl, sy9.up S28, f2.1, f2.2.1, f2.2.2.1, f2.2.2.2, rfl, ?_⟩
      rw [decide_eq_true rfl]
      exact q _ (SS.up S28)

end
end RV


namespace RV
open PySem PySem.Spec PyProof.Rows L2 TL
section
variable {P : Program} {w : World} {K : PySem.W.Frag} {mg : Str → Option Value} {base : Heap}
theorem ok_law (T : TX P w K mg) : FnG P w K mg base CX0 9 T.a_law T.d_law ["_law_script"] (spLawS K) := by
  refine okG T.F_law sc_law (fun vs H Q E h => ?_) (fun cdv A outer s H vs Q E hgu hr h => ?_)
  · obtain ⟨a, ns, rfl, sy, hS, hlen, q⟩ := h
    rfl
  · obtain ⟨a, ns, rfl, sy, hS, hlen, q⟩ := h
    refine ⟨_, (pss_cons (ps_for PassesOwn.never rfl (pi_range1 (by rfl) T.m_range (pa_cons (pe_callB (call_max2 rfl) (by rfl) T.m_max (by decide +kernel) (pa_cons pe_int (pa_cons (pe_callB (call_min2 rfl) (by rfl) T.m_min (by decide +kernel) (pa_cons pe_int (pa_cons (pe_callB call_len (by rfl) T.m_len (by decide +kernel) (pa_cons (pv 0) pa_nil)) pa_nil))) pa_nil))) pa_nil)) (pg_name (i := 1) sc_law.nd rfl (by first | exact Or.inl rfl | exact Or.inr rfl))
        (pss_one (ps_if (pt_not (pt_val (pe_callG hgu (ok__law_right T) (hr.mono (by decide)) (by rfl) T.g__law_right T.F__law_right.kp T.b__law_right .nil pass0 (pa_cons (pe_call (ok__law_purse T) (hr.mono (by decide)) (by rfl) T.g__law_purse T.F__law_purse.kp T.b__law_purse .nil pass0 (pa_cons (pe_call (ok__law_cell T) (hr.mono (by decide)) (by rfl) T.g__law_cell T.F__law_cell.kp T.b__law_cell .nil pass0 (pa_cons (pv 0) (pa_cons (pv 1) pa_nil))) pa_nil)) pa_nil))))
          (pss_one (ps_ret pe_bl)) pss_nil)))
      (pss_one (ps_ret pe_bl))), ?_⟩
    have hbnd : ∀ L : Int, 0 ≤ L → 1 ≤ (if (if L < 20 then L else 20) > 2 then (if L < 20 then L else 20) else 2) ∧ (if (if L < 20 then L else 20) > 2 then (if L < 20 then L else 20) else 2) ≤ 20 := by
      intro L h
      by_cases c : L < 20
      · rw [if_pos c]
        by_cases c2 : L > 2
        · rw [if_pos c2]
          omega
        · rw [if_neg c2]
          omega
      · rw [if_neg c]
        decide
    have hb2 := hbnd (ns.map V.int).length (by omega)
    refine ⟨.ref a, rfl, _, _, rfl, .inl ⟨_, hS, rfl⟩, _, _, rfl, _, _, rfl, _, rfl, by omega, by omega, ?_⟩
    refine for_range (fun i σ Hx => ∃ y1 : Option V, σ = [some (.ref a), y1] ∧ Same H Hx) ⟨none, rfl, Same.refl H⟩ (fun i σ H1 hi hP => ?_) (fun σ H1 hP => q H1)
    obtain ⟨y1, rfl, S0⟩ := hP
    have hi2 : i ≤ 1000 := by omega
    refine ⟨.ref a, rfl, _, rfl, a, ns, i, by rw [Int.zero_add]; rfl, S0.seq hS, hi2, fun z => ⟨z, rfl, fun p x y hp hx hy hy2 => ?_⟩⟩
    have B0 : BoxAt (upd H1 p (.lst [.int x, .int y, .int 0])) p 0 := ⟨x, y, 0, upd_same, hx, hy, hy2, Int.le_refl 0, Int.le_refl 0⟩
    have S1 : Same H1 (upd H1 p (.lst [.int x, .int y, .int 0])) := same_new (Same.refl H1) hp
    exact ⟨p, rfl, B0, (sy.up S0).up S1, fun H2 m2 => ⟨_, rfl, iteF ⟨_, rfl, S0.trans (same_sam hp S1 m2)⟩⟩⟩

end
end RV


namespace RV
open PySem PySem.Spec PyProof.Rows L2 TL
theorem all_mk {l : PySem.W.OpenLaw} {w : World} {K : PySem.W.Frag} {h : Heap} {mg : Str → Option Value} {fa f1 f2 f3 f4 f5 f6 f7 f8 f9 f10 f11 f12 f13 f14 f15 f16 f17 f18 f19 f20 f21 f22 : Addr} (X : K.In h) (G : h.Ns mainGlobals mg) (hfa : mg "law" = some (.ref fa))
    {od1 an1 od2 an2 od3 an3 od4 an4 od5 an5 od6 an6 od7 an7 od8 an8 od9 an9 od10 an10 od11 an11 od12 an12 od13 an13 od14 an14 od15 an15 od16 an16 od17 an17 od18 an18 od19 an19 od20 an20 od21 an21 od22 an22 : Option Addr} {sl1 sl2 sl3 sl4 sl5 sl6 sl7 sl8 sl9 sl10 sl11 sl12 sl13 sl14 sl15 sl16 sl17 sl18 sl19 sl20 sl21 sl22 : Array (Option Value)} {oc1 kV1 dc1 pm1 cd1 ct1 oc2 kV2 dc2 pm2 cd2 ct2 oc3 kV3 dc3 pm3 cd3 ct3 oc4 kV4 dc4 pm4 cd4 ct4 oc5 kV5 dc5 pm5 cd5 ct5 oc6 kV6 dc6 pm6 cd6 ct6 oc7 kV7 dc7 pm7 cd7 ct7 oc8 kV8 dc8 pm8 cd8 ct8 oc9 kV9 dc9 pm9 cd9 ct9 oc10 kV10 dc10 pm10 cd10 ct10 oc11 kV11 dc11 pm11 cd11 ct11 oc12 kV12 dc12 pm12 cd12 ct12 oc13 kV13 dc13 pm13 cd13 ct13 oc14 kV14 dc14 pm14 cd14 ct14 oc15 kV15 dc15 pm15 cd15 ct15 oc16 kV16 dc16 pm16 cd16 ct16 oc17 kV17 dc17 pm17 cd17 ct17 oc18 kV18 dc18 pm18 cd18 ct18 oc19 kV19 dc19 pm19 cd19 ct19 oc20 kV20 dc20 pm20 cd20 ct20 oc21 kV21 dc21 pm21 cd21 ct21 oc22 kV22 dc22 pm22 cd22 ct22 : Value}
    (a1 : PySem.W.nsIn K mainGlobals "is_word" = some (some (.ref f1))) (l1 : K.lookup f1 = some ⟨oc1, od1, .func (PySem.W.fnOf "is_word" "is_word" (defArgs s_is_word) (defBody s_is_word) (defScope s_is_word) .none kV1 dc1 pm1 an1 cd1 ct1), sl1⟩) (c1 : PySem.W.codeIn K cd1 "is_word" = true) (k1 : PySem.W.keepIn K (.ref f1) = true)
    (a2 : PySem.W.nsIn K mainGlobals "is_mark" = some (some (.ref f2))) (l2 : K.lookup f2 = some ⟨oc2, od2, .func (PySem.W.fnOf "is_mark" "is_mark" (defArgs s_is_mark) (defBody s_is_mark) (defScope s_is_mark) .none kV2 dc2 pm2 an2 cd2 ct2), sl2⟩) (c2 : PySem.W.codeIn K cd2 "is_mark" = true) (k2 : PySem.W.keepIn K (.ref f2) = true)
    (a3 : PySem.W.nsIn K mainGlobals "is_token" = some (some (.ref f3))) (l3 : K.lookup f3 = some ⟨oc3, od3, .func (PySem.W.fnOf "is_token" "is_token" (defArgs s_is_token) (defBody s_is_token) (defScope s_is_token) .none kV3 dc3 pm3 an3 cd3 ct3), sl3⟩) (c3 : PySem.W.codeIn K cd3 "is_token" = true) (k3 : PySem.W.keepIn K (.ref f3) = true)
    (a4 : PySem.W.nsIn K mainGlobals "kind_of" = some (some (.ref f4))) (l4 : K.lookup f4 = some ⟨oc4, od4, .func (PySem.W.fnOf "kind_of" "kind_of" (defArgs s_kind_of) (defBody s_kind_of) (defScope s_kind_of) .none kV4 dc4 pm4 an4 cd4 ct4), sl4⟩) (c4 : PySem.W.codeIn K cd4 "kind_of" = true) (k4 : PySem.W.keepIn K (.ref f4) = true)
    (a5 : PySem.W.nsIn K mainGlobals "_has_only" = some (some (.ref f5))) (l5 : K.lookup f5 = some ⟨oc5, od5, .func (PySem.W.fnOf "_has_only" "_has_only" (defArgs s__has_only) (defBody s__has_only) (defScope s__has_only) .none kV5 dc5 pm5 an5 cd5 ct5), sl5⟩) (c5 : PySem.W.codeIn K cd5 "_has_only" = true) (k5 : PySem.W.keepIn K (.ref f5) = true)
    (a6 : PySem.W.nsIn K mainGlobals "is_text" = some (some (.ref f6))) (l6 : K.lookup f6 = some ⟨oc6, od6, .func (PySem.W.fnOf "is_text" "is_text" (defArgs s_is_text) (defBody s_is_text) (defScope s_is_text) .none kV6 dc6 pm6 an6 cd6 ct6), sl6⟩) (c6 : PySem.W.codeIn K cd6 "is_text" = true) (k6 : PySem.W.keepIn K (.ref f6) = true)
    (a7 : PySem.W.nsIn K mainGlobals "write_text" = some (some (.ref f7))) (l7 : K.lookup f7 = some ⟨oc7, od7, .func (PySem.W.fnOf "write_text" "write_text" (defArgs s_write_text) (defBody s_write_text) (defScope s_write_text) .none kV7 dc7 pm7 an7 cd7 ct7), sl7⟩) (c7 : PySem.W.codeIn K cd7 "write_text" = true) (k7 : PySem.W.keepIn K (.ref f7) = true)
    (a8 : PySem.W.nsIn K mainGlobals "read_text" = some (some (.ref f8))) (l8 : K.lookup f8 = some ⟨oc8, od8, .func (PySem.W.fnOf "read_text" "read_text" (defArgs s_read_text) (defBody s_read_text) (defScope s_read_text) .none kV8 dc8 pm8 an8 cd8 ct8), sl8⟩) (c8 : PySem.W.codeIn K cd8 "read_text" = true) (k8 : PySem.W.keepIn K (.ref f8) = true)
    (a9 : PySem.W.nsIn K mainGlobals "_check_text" = some (some (.ref f9))) (l9 : K.lookup f9 = some ⟨oc9, od9, .func (PySem.W.fnOf "_check_text" "_check_text" (defArgs s__check_text) (defBody s__check_text) (defScope s__check_text) .none kV9 dc9 pm9 an9 cd9 ct9), sl9⟩) (c9 : PySem.W.codeIn K cd9 "_check_text" = true) (k9 : PySem.W.keepIn K (.ref f9) = true)
    (a10 : PySem.W.nsIn K mainGlobals "_is_mark_row" = some (some (.ref f10))) (l10 : K.lookup f10 = some ⟨oc10, od10, .func (PySem.W.fnOf "_is_mark_row" "_is_mark_row" (defArgs s__is_mark_row) (defBody s__is_mark_row) (defScope s__is_mark_row) .none kV10 dc10 pm10 an10 cd10 ct10), sl10⟩) (c10 : PySem.W.codeIn K cd10 "_is_mark_row" = true) (k10 : PySem.W.keepIn K (.ref f10) = true)
    (a11 : PySem.W.nsIn K mainGlobals "_pair_at" = some (some (.ref f11))) (l11 : K.lookup f11 = some ⟨oc11, od11, .func (PySem.W.fnOf "_pair_at" "_pair_at" (defArgs s__pair_at) (defBody s__pair_at) (defScope s__pair_at) .none kV11 dc11 pm11 an11 cd11 ct11), sl11⟩) (c11 : PySem.W.codeIn K cd11 "_pair_at" = true) (k11 : PySem.W.keepIn K (.ref f11) = true)
    (a12 : PySem.W.nsIn K mainGlobals "_law_cell" = some (some (.ref f12))) (l12 : K.lookup f12 = some ⟨oc12, od12, .func (PySem.W.fnOf "_law_cell" "_law_cell" (defArgs s__law_cell) (defBody s__law_cell) (defScope s__law_cell) .none kV12 dc12 pm12 an12 cd12 ct12), sl12⟩) (c12 : PySem.W.codeIn K cd12 "_law_cell" = true) (k12 : PySem.W.keepIn K (.ref f12) = true)
    (a13 : PySem.W.nsIn K mainGlobals "_law_purse" = some (some (.ref f13))) (l13 : K.lookup f13 = some ⟨oc13, od13, .func (PySem.W.fnOf "_law_purse" "_law_purse" (defArgs s__law_purse) (defBody s__law_purse) (defScope s__law_purse) .none kV13 dc13 pm13 an13 cd13 ct13), sl13⟩) (c13 : PySem.W.codeIn K cd13 "_law_purse" = true) (k13 : PySem.W.keepIn K (.ref f13) = true)
    (a14 : PySem.W.nsIn K mainGlobals "_law_take" = some (some (.ref f14))) (l14 : K.lookup f14 = some ⟨oc14, od14, .func (PySem.W.fnOf "_law_take" "_law_take" (defArgs s__law_take) (defBody s__law_take) (defScope s__law_take) .none kV14 dc14 pm14 an14 cd14 ct14), sl14⟩) (c14 : PySem.W.codeIn K cd14 "_law_take" = true) (k14 : PySem.W.keepIn K (.ref f14) = true)
    (a15 : PySem.W.nsIn K mainGlobals "_law_all_marks" = some (some (.ref f15))) (l15 : K.lookup f15 = some ⟨oc15, od15, .func (PySem.W.fnOf "_law_all_marks" "_law_all_marks" (defArgs s__law_all_marks) (defBody s__law_all_marks) (defScope s__law_all_marks) .none kV15 dc15 pm15 an15 cd15 ct15), sl15⟩) (c15 : PySem.W.codeIn K cd15 "_law_all_marks" = true) (k15 : PySem.W.keepIn K (.ref f15) = true)
    (a16 : PySem.W.nsIn K mainGlobals "_law_mark" = some (some (.ref f16))) (l16 : K.lookup f16 = some ⟨oc16, od16, .func (PySem.W.fnOf "_law_mark" "_law_mark" (defArgs s__law_mark) (defBody s__law_mark) (defScope s__law_mark) .none kV16 dc16 pm16 an16 cd16 ct16), sl16⟩) (c16 : PySem.W.codeIn K cd16 "_law_mark" = true) (k16 : PySem.W.keepIn K (.ref f16) = true)
    (a17 : PySem.W.nsIn K mainGlobals "_law_word" = some (some (.ref f17))) (l17 : K.lookup f17 = some ⟨oc17, od17, .func (PySem.W.fnOf "_law_word" "_law_word" (defArgs s__law_word) (defBody s__law_word) (defScope s__law_word) .none kV17 dc17 pm17 an17 cd17 ct17), sl17⟩) (c17 : PySem.W.codeIn K cd17 "_law_word" = true) (k17 : PySem.W.keepIn K (.ref f17) = true)
    (a18 : PySem.W.nsIn K mainGlobals "_law_text" = some (some (.ref f18))) (l18 : K.lookup f18 = some ⟨oc18, od18, .func (PySem.W.fnOf "_law_text" "_law_text" (defArgs s__law_text) (defBody s__law_text) (defScope s__law_text) .none kV18 dc18 pm18 an18 cd18 ct18), sl18⟩) (c18 : PySem.W.codeIn K cd18 "_law_text" = true) (k18 : PySem.W.keepIn K (.ref f18) = true)
    (a19 : PySem.W.nsIn K mainGlobals "_law_read" = some (some (.ref f19))) (l19 : K.lookup f19 = some ⟨oc19, od19, .func (PySem.W.fnOf "_law_read" "_law_read" (defArgs s__law_read) (defBody s__law_read) (defScope s__law_read) .none kV19 dc19 pm19 an19 cd19 ct19), sl19⟩) (c19 : PySem.W.codeIn K cd19 "_law_read" = true) (k19 : PySem.W.keepIn K (.ref f19) = true)
    (a20 : PySem.W.nsIn K mainGlobals "_law_told" = some (some (.ref f20))) (l20 : K.lookup f20 = some ⟨oc20, od20, .func (PySem.W.fnOf "_law_told" "_law_told" (defArgs s__law_told) (defBody s__law_told) (defScope s__law_told) .none kV20 dc20 pm20 an20 cd20 ct20), sl20⟩) (c20 : PySem.W.codeIn K cd20 "_law_told" = true) (k20 : PySem.W.keepIn K (.ref f20) = true)
    (a21 : PySem.W.nsIn K mainGlobals "_law_right" = some (some (.ref f21))) (l21 : K.lookup f21 = some ⟨oc21, od21, .func (PySem.W.fnOf "_law_right" "_law_right" (defArgs s__law_right) (defBody s__law_right) (defScope s__law_right) .none kV21 dc21 pm21 an21 cd21 ct21), sl21⟩) (c21 : PySem.W.codeIn K cd21 "_law_right" = true) (k21 : PySem.W.keepIn K (.ref f21) = true)
    (a22 : PySem.W.nsIn K mainGlobals "law" = some (some (.ref f22))) (l22 : K.lookup f22 = some ⟨oc22, od22, .func (PySem.W.fnOf "law" "law" (defArgs s_law) (defBody s_law) (defScope s_law) .none kV22 dc22 pm22 an22 cd22 ct22), sl22⟩) (c22 : PySem.W.codeIn K cd22 "law" = true) (k22 : PySem.W.keepIn K (.ref f22) = true)
    {CReflowError : Addr} (gReflowError : PySem.W.nsIn K mainGlobals "ReflowError" = some (some (.ref CReflowError)))
    {CInvalidMark IInvalidMark RInvalidMark NInvalidMark cdaInvalidMark ccInvalidMark : Addr} {nmInvalidMark qnInvalidMark fileInvalidMark : Str} {bsInvalidMark subInvalidMark : List Value} {snInvalidMark : List Str} {abInvalidMark : Bool} {colInvalidMark : Option Bool} {ddInvalidMark odInvalidMark anInvalidMark cldInvalidMark cddInvalidMark : Option Addr} {m0InvalidMark m1InvalidMark m2InvalidMark m3InvalidMark m5InvalidMark : Option Value} {ocInvalidMark dcInvalidMark pmInvalidMark ctInvalidMark clInvalidMark cclInvalidMark : Value} {slInvalidMark cslInvalidMark ccsInvalidMark : Array (Option Value)} {vsInvalidMark : Array Value} {tfInvalidMark : Tok}
    (gInvalidMark : PySem.W.nsIn K mainGlobals "InvalidMark" = some (some (.ref CInvalidMark))) (xLInvalidMark : K.lookup CInvalidMark = some (excClassObj nmInvalidMark qnInvalidMark CInvalidMark NInvalidMark bsInvalidMark [.ref RInvalidMark, .type "ValueError", .type "Exception", .type "BaseException", .type "object"] true snInvalidMark subInvalidMark abInvalidMark colInvalidMark ddInvalidMark m0InvalidMark m1InvalidMark m2InvalidMark m3InvalidMark m5InvalidMark "ValueError.__new__"))
    (saInvalidMark : PySem.W.findIn K (.ref CInvalidMark) "__setattr__" = some (some (.builtin "object.__setattr__"))) (gaInvalidMark : PySem.W.findIn K (.ref CInvalidMark) "__getattribute__" = some (some (.builtin "BaseException.__getattribute__"))) (ggInvalidMark : PySem.W.findIn K (.ref CInvalidMark) "__getattr__" = some none) (nbInvalidMark : PySem.W.findIn K (.ref CInvalidMark) "value" = some none)
    (iCInvalidMark : PySem.W.findIn K (.ref CInvalidMark) "__init__" = some (some (.ref IInvalidMark))) (tIInvalidMark : PySem.W.typeIn K (.ref IInvalidMark) = some (.type "function"))
    (lInvalidMark : K.lookup IInvalidMark = some ⟨ocInvalidMark, odInvalidMark, .func (PySem.W.ksFn "__init__" "InvalidMark.__init__" (PySem.SupX.supA "value" ⟨6, 17, 6, 21⟩ ⟨6, 23, 6, 28⟩) (PySem.SupX.supB "not a mark" "value" 0 ⟨7, 8, 7, 13⟩ ⟨7, 8, 7, 15⟩ ⟨7, 8, 7, 24⟩ ⟨7, 25, 7, 37⟩ ⟨7, 8, 7, 38⟩ ⟨7, 8, 7, 38⟩ ⟨8, 8, 8, 12⟩ ⟨8, 8, 8, 18⟩ ⟨8, 21, 8, 26⟩ ⟨8, 8, 8, 26⟩) (PySem.SupX.supS "value") .none .none dcInvalidMark pmInvalidMark anInvalidMark (.ref cdaInvalidMark) ctInvalidMark ccInvalidMark), slInvalidMark⟩) (cInvalidMark : PySem.W.codeIn K (.ref cdaInvalidMark) "InvalidMark.__init__" = true)
    (ceInvalidMark : K.lookup ccInvalidMark = some ⟨clInvalidMark, cldInvalidMark, .cell (some (.ref CInvalidMark)), cslInvalidMark⟩) (coInvalidMark : K.lookup cdaInvalidMark = some ⟨cclInvalidMark, cddInvalidMark, .fields vsInvalidMark, ccsInvalidMark⟩) (vfInvalidMark : vsInvalidMark[2]? = some (.str fileInvalidMark tfInvalidMark)) (feInvalidMark : ((l.prog.main.file : Str) == fileInvalidMark) = true)
    (kCInvalidMark : PySem.W.keepIn K (.ref CInvalidMark) = true) (eCInvalidMark : PySem.W.subIn K (.ref CInvalidMark) (.type "BaseException") = some true) (veInvalidMark : PySem.W.subIn K (.ref CInvalidMark) (.type "ValueError") = some true) (meInvalidMark : PySem.W.mroIn K CInvalidMark (.ref CInvalidMark) = some true) (tCInvalidMark : PySem.W.typeIn K (.ref CInvalidMark) = some (.type "type")) (hCInvalidMark : PySem.W.hasDictIn K CInvalidMark = true) (icInvalidMark : PySem.W.isClsIn K CInvalidMark = true) (sCInvalidMark : PySem.W.subIn K (.ref CInvalidMark) (.ref CInvalidMark) = some true)
    (suInvalidMark : PySem.W.ks_superIn K CInvalidMark CInvalidMark "__init__" = some (some (.builtin "ValueError.__init__"))) (xiInvalidMark : PySem.W.excInitIn K CInvalidMark PySem.HandSPX.veTail "ValueError.__new__" = true)
    {CInvalidText IInvalidText RInvalidText NInvalidText cdaInvalidText ccInvalidText : Addr} {nmInvalidText qnInvalidText fileInvalidText : Str} {bsInvalidText subInvalidText : List Value} {snInvalidText : List Str} {abInvalidText : Bool} {colInvalidText : Option Bool} {ddInvalidText odInvalidText anInvalidText cldInvalidText cddInvalidText : Option Addr} {m0InvalidText m1InvalidText m2InvalidText m3InvalidText m5InvalidText : Option Value} {ocInvalidText dcInvalidText pmInvalidText ctInvalidText clInvalidText cclInvalidText : Value} {slInvalidText cslInvalidText ccsInvalidText : Array (Option Value)} {vsInvalidText : Array Value} {tfInvalidText : Tok}
    (gInvalidText : PySem.W.nsIn K mainGlobals "InvalidText" = some (some (.ref CInvalidText))) (xLInvalidText : K.lookup CInvalidText = some (excClassObj nmInvalidText qnInvalidText CInvalidText NInvalidText bsInvalidText [.ref RInvalidText, .type "ValueError", .type "Exception", .type "BaseException", .type "object"] true snInvalidText subInvalidText abInvalidText colInvalidText ddInvalidText m0InvalidText m1InvalidText m2InvalidText m3InvalidText m5InvalidText "ValueError.__new__"))
    (saInvalidText : PySem.W.findIn K (.ref CInvalidText) "__setattr__" = some (some (.builtin "object.__setattr__"))) (gaInvalidText : PySem.W.findIn K (.ref CInvalidText) "__getattribute__" = some (some (.builtin "BaseException.__getattribute__"))) (ggInvalidText : PySem.W.findIn K (.ref CInvalidText) "__getattr__" = some none) (nbInvalidText : PySem.W.findIn K (.ref CInvalidText) "value" = some none)
    (iCInvalidText : PySem.W.findIn K (.ref CInvalidText) "__init__" = some (some (.ref IInvalidText))) (tIInvalidText : PySem.W.typeIn K (.ref IInvalidText) = some (.type "function"))
    (lInvalidText : K.lookup IInvalidText = some ⟨ocInvalidText, odInvalidText, .func (PySem.W.ksFn "__init__" "InvalidText.__init__" (PySem.SupX.supA "value" ⟨11, 17, 11, 21⟩ ⟨11, 23, 11, 28⟩) (PySem.SupX.supB "not a text" "value" 0 ⟨12, 8, 12, 13⟩ ⟨12, 8, 12, 15⟩ ⟨12, 8, 12, 24⟩ ⟨12, 25, 12, 37⟩ ⟨12, 8, 12, 38⟩ ⟨12, 8, 12, 38⟩ ⟨13, 8, 13, 12⟩ ⟨13, 8, 13, 18⟩ ⟨13, 21, 13, 26⟩ ⟨13, 8, 13, 26⟩) (PySem.SupX.supS "value") .none .none dcInvalidText pmInvalidText anInvalidText (.ref cdaInvalidText) ctInvalidText ccInvalidText), slInvalidText⟩) (cInvalidText : PySem.W.codeIn K (.ref cdaInvalidText) "InvalidText.__init__" = true)
    (ceInvalidText : K.lookup ccInvalidText = some ⟨clInvalidText, cldInvalidText, .cell (some (.ref CInvalidText)), cslInvalidText⟩) (coInvalidText : K.lookup cdaInvalidText = some ⟨cclInvalidText, cddInvalidText, .fields vsInvalidText, ccsInvalidText⟩) (vfInvalidText : vsInvalidText[2]? = some (.str fileInvalidText tfInvalidText)) (feInvalidText : ((l.prog.main.file : Str) == fileInvalidText) = true)
    (kCInvalidText : PySem.W.keepIn K (.ref CInvalidText) = true) (eCInvalidText : PySem.W.subIn K (.ref CInvalidText) (.type "BaseException") = some true) (veInvalidText : PySem.W.subIn K (.ref CInvalidText) (.type "ValueError") = some true) (meInvalidText : PySem.W.mroIn K CInvalidText (.ref CInvalidText) = some true) (tCInvalidText : PySem.W.typeIn K (.ref CInvalidText) = some (.type "type")) (hCInvalidText : PySem.W.hasDictIn K CInvalidText = true) (icInvalidText : PySem.W.isClsIn K CInvalidText = true) (sCInvalidText : PySem.W.subIn K (.ref CInvalidText) (.ref CInvalidText) = some true)
    (suInvalidText : PySem.W.ks_superIn K CInvalidText CInvalidText "__init__" = some (some (.builtin "ValueError.__init__"))) (xiInvalidText : PySem.W.excInitIn K CInvalidText PySem.HandSPX.veTail "ValueError.__new__" = true)
    (tp : PySem.W.nsIn K cStatics "thirdparty.any" = some none) (zsuper : PySem.W.nsIn K mainGlobals "super" = some none) (top : (l.prog.main.scope.names.lookup ("super" : Str)).isSome = false)
    (z0 : PySem.W.nsIn K mainGlobals "all" = some none)
    (z1 : PySem.W.nsIn K mainGlobals "enumerate" = some none)
    (z2 : PySem.W.nsIn K mainGlobals "isinstance" = some none)
    (z3 : PySem.W.nsIn K mainGlobals "len" = some none)
    (z4 : PySem.W.nsIn K mainGlobals "list" = some none)
    (z5 : PySem.W.nsIn K mainGlobals "max" = some none)
    (z6 : PySem.W.nsIn K mainGlobals "min" = some none)
    (z7 : PySem.W.nsIn K mainGlobals "range" = some none)
    (z8 : PySem.W.nsIn K mainGlobals "repr" = some none)
    (z9 : PySem.W.nsIn K mainGlobals "str" = some none)
    (z10 : PySem.W.nsIn K mainGlobals "tuple" = some none)
    {tLETTERS : Tok} (vLETTERS : PySem.W.nsIn K mainGlobals "LETTERS" = some (some (.str (Str.ofString "abcdefghijklmnopqrstuvwxyz") tLETTERS)))
    {tLONGEST_WORD : Tok} (vLONGEST_WORD : PySem.W.nsIn K mainGlobals "LONGEST_WORD" = some (some (.int 30 tLONGEST_WORD)))
    {AMARK_PLACES : Addr} {EMARK_PLACES : Array DictEntry} {NMARK_PLACES : Nat} (vMARK_PLACES : PySem.W.nsIn K mainGlobals "MARK_PLACES" = some (some (.ref AMARK_PLACES))) (wMARK_PLACES : K.lookup AMARK_PLACES = some ⟨.type "dict", none, .dict EMARK_PLACES NMARK_PLACES, #[]⟩) (yMARK_PLACES : (AMARK_PLACES == sysModules) = false) (xMARK_PLACES : PySem.W.KeysLit w.params EMARK_PLACES.toList) (uMARK_PLACES : KeysAre EMARK_PLACES.toList ([" ", "#0", "#1", "#2", "#3", "|0", "|1", "|2", "|3", "/0", "/1", "/2", "/3"] : List Str)) :
    ∃ fd : FuncData, (∀ (s : Shared) (v : Value), BindsTo s fd ⟨[v], []⟩ [("_law_script", v)]) ∧ ∀ base : Heap, K.In base → base.Ns mainGlobals mg → FnG l.prog w K mg base CX0 9 fa fd ["_law_script"] (spLawS K) := by
  have e := hfa.symm.trans (PySem.W.mg_of X G a22)
  cases e
  let T : TX l.prog w K mg := { C_ReflowError := CReflowError, gc_ReflowError := PySem.W.mg_of X G gReflowError, C_InvalidMark := CInvalidMark, I_InvalidMark := IInvalidMark, x_InvalidMark := { gC := PySem.W.mg_of X G gInvalidMark, cls := ⟨nmInvalidMark, qnInvalidMark, NInvalidMark, bsInvalidMark, _, snInvalidMark, subInvalidMark, abInvalidMark, colInvalidMark, ddInvalidMark, m0InvalidMark, m1InvalidMark, m2InvalidMark, m3InvalidMark, m5InvalidMark, xLInvalidMark, rfl⟩, sa := saInvalidMark, ga := gaInvalidMark, gg := ggInvalidMark, noN := nbInvalidMark, iC := iCInvalidMark, tC := tIInvalidMark, kC := kCInvalidMark, exC := eCInvalidMark, veC := veInvalidMark, meC := meInvalidMark, tyC := tCInvalidMark, hdC := hCInvalidMark, te := RV.exm_self eCInvalidMark icInvalidMark tCInvalidMark sCInvalidMark, su := suInvalidMark, xi := xiInvalidMark, tp := tp, sm := PySem.W.mg_none_of X G zsuper, fn := ⟨_, _, _, _, _, _, _, _, _, _, _, _, _, _, _, _, _, _, _, _, _, _, _, _, _, _, _, _, _, _, _, lInvalidMark, cInvalidMark, ceInvalidMark, coInvalidMark, vfInvalidMark, feInvalidMark, rfl⟩, top := top }, C_InvalidText := CInvalidText, I_InvalidText := IInvalidText, x_InvalidText := { gC := PySem.W.mg_of X G gInvalidText, cls := ⟨nmInvalidText, qnInvalidText, NInvalidText, bsInvalidText, _, snInvalidText, subInvalidText, abInvalidText, colInvalidText, ddInvalidText, m0InvalidText, m1InvalidText, m2InvalidText, m3InvalidText, m5InvalidText, xLInvalidText, rfl⟩, sa := saInvalidText, ga := gaInvalidText, gg := ggInvalidText, noN := nbInvalidText, iC := iCInvalidText, tC := tIInvalidText, kC := kCInvalidText, exC := eCInvalidText, veC := veInvalidText, meC := meInvalidText, tyC := tCInvalidText, hdC := hCInvalidText, te := RV.exm_self eCInvalidText icInvalidText tCInvalidText sCInvalidText, su := suInvalidText, xi := xiInvalidText, tp := tp, sm := PySem.W.mg_none_of X G zsuper, fn := ⟨_, _, _, _, _, _, _, _, _, _, _, _, _, _, _, _, _, _, _, _, _, _, _, _, _, _, _, _, _, _, _, lInvalidText, cInvalidText, ceInvalidText, coInvalidText, vfInvalidText, feInvalidText, rfl⟩, top := top }, a_is_word := f1, d_is_word := _, F_is_word := fun_mk (st := s_is_word) l1 c1 k1, g_is_word := PySem.W.mg_of X G a1, b_is_word := (fun_mk (st := s_is_word) l1 c1 k1).binds (ps := ["value"]) fun _ _ _ _ _ _ us hl => match us, hl with | [_], _ => rfl, a_is_mark := f2, d_is_mark := _, F_is_mark := fun_mk (st := s_is_mark) l2 c2 k2, g_is_mark := PySem.W.mg_of X G a2, b_is_mark := (fun_mk (st := s_is_mark) l2 c2 k2).binds (ps := ["value"]) fun _ _ _ _ _ _ us hl => match us, hl with | [_], _ => rfl, a_is_token := f3, d_is_token := _, F_is_token := fun_mk (st := s_is_token) l3 c3 k3, g_is_token := PySem.W.mg_of X G a3, b_is_token := (fun_mk (st := s_is_token) l3 c3 k3).binds (ps := ["value"]) fun _ _ _ _ _ _ us hl => match us, hl with | [_], _ => rfl, a_kind_of := f4, d_kind_of := _, F_kind_of := fun_mk (st := s_kind_of) l4 c4 k4, g_kind_of := PySem.W.mg_of X G a4, b_kind_of := (fun_mk (st := s_kind_of) l4 c4 k4).binds (ps := ["mark"]) fun _ _ _ _ _ _ us hl => match us, hl with | [_], _ => rfl, a__has_only := f5, d__has_only := _, F__has_only := fun_mk (st := s__has_only) l5 c5 k5, g__has_only := PySem.W.mg_of X G a5, b__has_only := (fun_mk (st := s__has_only) l5 c5 k5).binds (ps := ["text", "characters"]) fun _ _ _ _ _ _ us hl => match us, hl with | [_, _], _ => rfl, a_is_text := f6, d_is_text := _, F_is_text := fun_mk (st := s_is_text) l6 c6 k6, g_is_text := PySem.W.mg_of X G a6, b_is_text := (fun_mk (st := s_is_text) l6 c6 k6).binds (ps := ["value"]) fun _ _ _ _ _ _ us hl => match us, hl with | [_], _ => rfl, a_write_text := f7, d_write_text := _, F_write_text := fun_mk (st := s_write_text) l7 c7 k7, g_write_text := PySem.W.mg_of X G a7, b_write_text := (fun_mk (st := s_write_text) l7 c7 k7).binds (ps := ["text"]) fun _ _ _ _ _ _ us hl => match us, hl with | [_], _ => rfl, a_read_text := f8, d_read_text := _, F_read_text := fun_mk (st := s_read_text) l8 c8 k8, g_read_text := PySem.W.mg_of X G a8, b_read_text := (fun_mk (st := s_read_text) l8 c8 k8).binds (ps := ["writing"]) fun _ _ _ _ _ _ us hl => match us, hl with | [_], _ => rfl, a__check_text := f9, d__check_text := _, F__check_text := fun_mk (st := s__check_text) l9 c9 k9, g__check_text := PySem.W.mg_of X G a9, b__check_text := (fun_mk (st := s__check_text) l9 c9 k9).binds (ps := ["text"]) fun _ _ _ _ _ _ us hl => match us, hl with | [_], _ => rfl, a__is_mark_row := f10, d__is_mark_row := _, F__is_mark_row := fun_mk (st := s__is_mark_row) l10 c10 k10, g__is_mark_row := PySem.W.mg_of X G a10, b__is_mark_row := (fun_mk (st := s__is_mark_row) l10 c10 k10).binds (ps := ["value"]) fun _ _ _ _ _ _ us hl => match us, hl with | [_], _ => rfl, a__pair_at := f11, d__pair_at := _, F__pair_at := fun_mk (st := s__pair_at) l11 c11 k11, g__pair_at := PySem.W.mg_of X G a11, b__pair_at := (fun_mk (st := s__pair_at) l11 c11 k11).binds (ps := ["writing", "start"]) fun _ _ _ _ _ _ us hl => match us, hl with | [_, _], _ => rfl, a__law_cell := f12, d__law_cell := _, F__law_cell := fun_mk (st := s__law_cell) l12 c12 k12, g__law_cell := PySem.W.mg_of X G a12, b__law_cell := (fun_mk (st := s__law_cell) l12 c12 k12).binds (ps := ["_law_script", "_law_k"]) fun _ _ _ _ _ _ us hl => match us, hl with | [_, _], _ => rfl, a__law_purse := f13, d__law_purse := _, F__law_purse := fun_mk (st := s__law_purse) l13 c13 k13, g__law_purse := PySem.W.mg_of X G a13, b__law_purse := (fun_mk (st := s__law_purse) l13 c13 k13).binds (ps := ["_law_cell_here"]) fun _ _ _ _ _ _ us hl => match us, hl with | [_], _ => rfl, a__law_take := f14, d__law_take := _, F__law_take := fun_mk (st := s__law_take) l14 c14 k14, g__law_take := PySem.W.mg_of X G a14, b__law_take := (fun_mk (st := s__law_take) l14 c14 k14).binds (ps := ["_law_purse_here", "_law_many"]) fun _ _ _ _ _ _ us hl => match us, hl with | [_, _], _ => rfl, a__law_all_marks := f15, d__law_all_marks := _, F__law_all_marks := fun_mk (st := s__law_all_marks) l15 c15 k15, g__law_all_marks := PySem.W.mg_of X G a15, b__law_all_marks := (fun_mk (st := s__law_all_marks) l15 c15 k15).binds (ps := []) fun _ _ _ _ _ _ us hl => match us, hl with | [], _ => rfl, a__law_mark := f16, d__law_mark := _, F__law_mark := fun_mk (st := s__law_mark) l16 c16 k16, g__law_mark := PySem.W.mg_of X G a16, b__law_mark := (fun_mk (st := s__law_mark) l16 c16 k16).binds (ps := ["_law_purse_here"]) fun _ _ _ _ _ _ us hl => match us, hl with | [_], _ => rfl, a__law_word := f17, d__law_word := _, F__law_word := fun_mk (st := s__law_word) l17 c17 k17, g__law_word := PySem.W.mg_of X G a17, b__law_word := (fun_mk (st := s__law_word) l17 c17 k17).binds (ps := ["_law_purse_here", "_law_most"]) fun _ _ _ _ _ _ us hl => match us, hl with | [_, _], _ => rfl, a__law_text := f18, d__law_text := _, F__law_text := fun_mk (st := s__law_text) l18 c18 k18, g__law_text := PySem.W.mg_of X G a18, b__law_text := (fun_mk (st := s__law_text) l18 c18 k18).binds (ps := ["_law_purse_here", "_law_many", "_law_most"]) fun _ _ _ _ _ _ us hl => match us, hl with | [_, _, _], _ => rfl, a__law_read := f19, d__law_read := _, F__law_read := fun_mk (st := s__law_read) l19 c19 k19, g__law_read := PySem.W.mg_of X G a19, b__law_read := (fun_mk (st := s__law_read) l19 c19 k19).binds (ps := ["_law_writing"]) fun _ _ _ _ _ _ us hl => match us, hl with | [_], _ => rfl, a__law_told := f20, d__law_told := _, F__law_told := fun_mk (st := s__law_told) l20 c20 k20, g__law_told := PySem.W.mg_of X G a20, b__law_told := (fun_mk (st := s__law_told) l20 c20 k20).binds (ps := ["_law_way", "_law_value"]) fun _ _ _ _ _ _ us hl => match us, hl with | [_, _], _ => rfl, a__law_right := f21, d__law_right := _, F__law_right := fun_mk (st := s__law_right) l21 c21 k21, g__law_right := PySem.W.mg_of X G a21, b__law_right := (fun_mk (st := s__law_right) l21 c21 k21).binds (ps := ["_law_purse_here"]) fun _ _ _ _ _ _ us hl => match us, hl with | [_], _ => rfl, a_law := fa, d_law := _, F_law := fun_mk (st := s_law) l22 c22 k22, g_law := PySem.W.mg_of X G a22, b_law := (fun_mk (st := s_law) l22 c22 k22).binds (ps := ["_law_script"]) fun _ _ _ _ _ _ us hl => match us, hl with | [_], _ => rfl, m_all := PySem.W.mg_none_of X G z0, m_enumerate := PySem.W.mg_none_of X G z1, m_isinstance := PySem.W.mg_none_of X G z2, m_len := PySem.W.mg_none_of X G z3, m_list := PySem.W.mg_none_of X G z4, m_max := PySem.W.mg_none_of X G z5, m_min := PySem.W.mg_none_of X G z6, m_range := PySem.W.mg_none_of X G z7, m_repr := PySem.W.mg_none_of X G z8, m_str := PySem.W.mg_none_of X G z9, m_tuple := PySem.W.mg_none_of X G z10, t_LETTERS := tLETTERS, c_LETTERS := PySem.W.mg_of X G vLETTERS, t_LONGEST_WORD := tLONGEST_WORD, c_LONGEST_WORD := PySem.W.mg_of X G vLONGEST_WORD, a_MARK_PLACES := AMARK_PLACES, c_MARK_PLACES := PySem.W.mg_of X G vMARK_PLACES, e_MARK_PLACES := EMARK_PLACES, n_MARK_PLACES := NMARK_PLACES, k_MARK_PLACES := ⟨wMARK_PLACES, xMARK_PLACES, yMARK_PLACES⟩, i_MARK_PLACES := nsIn_keys wMARK_PLACES uMARK_PLACES }
  exact ⟨PySem.W.fnOf "law" "law" (defArgs s_law) (defBody s_law) (defScope s_law) .none kV22 dc22 pm22 an22 cd22 ct22, fun s v => .of_eq rfl, fun base _ _ => ok_law T⟩
end RV
open PySem PySem.W PyProof.Rows
set_option maxRecDepth 100000 in
set_option maxHeartbeats 0 in
theorem PySem.Challenge.cw_reflows_k15_writings_of_texts_holds : PySem.Challenge.rw_reflows_k15_writings_of_texts.Holds := by
  w_on; o_law; k_head; (case hw => w_witness2)
  k_fill
  refine RV.walkG (l := PySem.Challenge.rw_reflows_k15_writings_of_texts) (n := 63) (k := 9) (x := "_law_script") (sp := fun w => RV.spLawS _) rfl (by decide) rfl ⟨rfl, by decide, by decide⟩ (fun w h Y => PySem.W.kIn_of Y) ?F (by decide +kernel) (fun _ => rfl) (fun _ _ a ns hl sy hS => ⟨a, ns, rfl, sy, hS, hl, fun _ => rfl⟩)
  case F =>
    intro w mg fa h KX G hmg
    refine' RV.all_mk KX G hmg ?a1 ?l1 ?c1 ?k1 ?a2 ?l2 ?c2 ?k2 ?a3 ?l3 ?c3 ?k3 ?a4 ?l4 ?c4 ?k4 ?a5 ?l5 ?c5 ?k5 ?a6 ?l6 ?c6 ?k6 ?a7 ?l7 ?c7 ?k7 ?a8 ?l8 ?c8 ?k8 ?a9 ?l9 ?c9 ?k9 ?a10 ?l10 ?c10 ?k10 ?a11 ?l11 ?c11 ?k11 ?a12 ?l12 ?c12 ?k12 ?a13 ?l13 ?c13 ?k13 ?a14 ?l14 ?c14 ?k14 ?a15 ?l15 ?c15 ?k15 ?a16 ?l16 ?c16 ?k16 ?a17 ?l17 ?c17 ?k17 ?a18 ?l18 ?c18 ?k18 ?a19 ?l19 ?c19 ?k19 ?a20 ?l20 ?c20 ?k20 ?a21 ?l21 ?c21 ?k21 ?a22 ?l22 ?c22 ?k22 ?gReflowError ?gInvalidMark ?xLInvalidMark ?saInvalidMark ?gaInvalidMark ?ggInvalidMark ?nbInvalidMark ?iCInvalidMark ?tIInvalidMark ?lInvalidMark ?cInvalidMark ?ceInvalidMark ?coInvalidMark ?vfInvalidMark ?feInvalidMark ?kCInvalidMark ?eCInvalidMark ?veInvalidMark ?meInvalidMark ?tCInvalidMark ?hCInvalidMark ?icInvalidMark ?sCInvalidMark ?suInvalidMark ?xiInvalidMark ?gInvalidText ?xLInvalidText ?saInvalidText ?gaInvalidText ?ggInvalidText ?nbInvalidText ?iCInvalidText ?tIInvalidText ?lInvalidText ?cInvalidText ?ceInvalidText ?coInvalidText ?vfInvalidText ?feInvalidText ?kCInvalidText ?eCInvalidText ?veInvalidText ?meInvalidText ?tCInvalidText ?hCInvalidText ?icInvalidText ?sCInvalidText ?suInvalidText ?xiInvalidText ?tp ?zsuper ?top ?z0 ?z1 ?z2 ?z3 ?z4 ?z5 ?z6 ?z7 ?z8 ?z9 ?z10 ?vLETTERS ?vLONGEST_WORD ?vMARK_PLACES ?wMARK_PLACES ?yMARK_PLACES ?xMARK_PLACES ?uMARK_PLACES
    (case a1 => first | k_is | kx_is | ks_is | rfl); (case l1 => first | k_is | kx_is | ks_is | rfl); (case c1 => first | k_is | kx_is | ks_is | rfl); (case k1 => first | k_is | kx_is | ks_is | rfl); (case a2 => first | k_is | kx_is | ks_is | rfl); (case l2 => first | k_is | kx_is | ks_is | rfl); (case c2 => first | k_is | kx_is | ks_is | rfl); (case k2 => first | k_is | kx_is | ks_is | rfl); (case a3 => first | k_is | kx_is | ks_is | rfl); (case l3 => first | k_is | kx_is | ks_is | rfl); (case c3 => first | k_is | kx_is | ks_is | rfl); (case k3 => first | k_is | kx_is | ks_is | rfl); (case a4 => first | k_is | kx_is | ks_is | rfl); (case l4 => first | k_is | kx_is | ks_is | rfl); (case c4 => first | k_is | kx_is | ks_is | rfl); (case k4 => first | k_is | kx_is | ks_is | rfl); (case a5 => first | k_is | kx_is | ks_is | rfl); (case l5 => first | k_is | kx_is | ks_is | rfl); (case c5 => first | k_is | kx_is | ks_is | rfl); (case k5 => first | k_is | kx_is | ks_is | rfl); (case a6 => first | k_is | kx_is | ks_is | rfl); (case l6 => first | k_is | kx_is | ks_is | rfl); (case c6 => first | k_is | kx_is | ks_is | rfl); (case k6 => first | k_is | kx_is | ks_is | rfl); (case a7 => first | k_is | kx_is | ks_is | rfl); (case l7 => first | k_is | kx_is | ks_is | rfl); (case c7 => first | k_is | kx_is | ks_is | rfl); (case k7 => first | k_is | kx_is | ks_is | rfl); (case a8 => first | k_is | kx_is | ks_is | rfl); (case l8 => first | k_is | kx_is | ks_is | rfl); (case c8 => first | k_is | kx_is | ks_is | rfl); (case k8 => first | k_is | kx_is | ks_is | rfl); (case a9 => first | k_is | kx_is | ks_is | rfl); (case l9 => first | k_is | kx_is | ks_is | rfl); (case c9 => first | k_is | kx_is | ks_is | rfl); (case k9 => first | k_is | kx_is | ks_is | rfl); (case a10 => first | k_is | kx_is | ks_is | rfl); (case l10 => first | k_is | kx_is | ks_is | rfl); (case c10 => first | k_is | kx_is | ks_is | rfl); (case k10 => first | k_is | kx_is | ks_is | rfl); (case a11 => first | k_is | kx_is | ks_is | rfl); (case l11 => first | k_is | kx_is | ks_is | rfl); (case c11 => first | k_is | kx_is | ks_is | rfl); (case k11 => first | k_is | kx_is | ks_is | rfl); (case a12 => first | k_is | kx_is | ks_is | rfl); (case l12 => first | k_is | kx_is | ks_is | rfl); (case c12 => first | k_is | kx_is | ks_is | rfl); (case k12 => first | k_is | kx_is | ks_is | rfl); (case a13 => first | k_is | kx_is | ks_is | rfl); (case l13 => first | k_is | kx_is | ks_is | rfl); (case c13 => first | k_is | kx_is | ks_is | rfl); (case k13 => first | k_is | kx_is | ks_is | rfl); (case a14 => first | k_is | kx_is | ks_is | rfl); (case l14 => first | k_is | kx_is | ks_is | rfl); (case c14 => first | k_is | kx_is | ks_is | rfl); (case k14 => first | k_is | kx_is | ks_is | rfl); (case a15 => first | k_is | kx_is | ks_is | rfl); (case l15 => first | k_is | kx_is | ks_is | rfl); (case c15 => first | k_is | kx_is | ks_is | rfl); (case k15 => first | k_is | kx_is | ks_is | rfl); (case a16 => first | k_is | kx_is | ks_is | rfl); (case l16 => first | k_is | kx_is | ks_is | rfl); (case c16 => first | k_is | kx_is | ks_is | rfl); (case k16 => first | k_is | kx_is | ks_is | rfl); (case a17 => first | k_is | kx_is | ks_is | rfl); (case l17 => first | k_is | kx_is | ks_is | rfl); (case c17 => first | k_is | kx_is | ks_is | rfl); (case k17 => first | k_is | kx_is | ks_is | rfl); (case a18 => first | k_is | kx_is | ks_is | rfl); (case l18 => first | k_is | kx_is | ks_is | rfl); (case c18 => first | k_is | kx_is | ks_is | rfl); (case k18 => first | k_is | kx_is | ks_is | rfl); (case a19 => first | k_is | kx_is | ks_is | rfl); (case l19 => first | k_is | kx_is | ks_is | rfl); (case c19 => first | k_is | kx_is | ks_is | rfl); (case k19 => first | k_is | kx_is | ks_is | rfl); (case a20 => first | k_is | kx_is | ks_is | rfl); (case l20 => first | k_is | kx_is | ks_is | rfl); (case c20 => first | k_is | kx_is | ks_is | rfl); (case k20 => first | k_is | kx_is | ks_is | rfl); (case a21 => first | k_is | kx_is | ks_is | rfl); (case l21 => first | k_is | kx_is | ks_is | rfl); (case c21 => first | k_is | kx_is | ks_is | rfl); (case k21 => first | k_is | kx_is | ks_is | rfl); (case a22 => first | k_is | kx_is | ks_is | rfl); (case l22 => first | k_is | kx_is | ks_is | rfl); (case c22 => first | k_is | kx_is | ks_is | rfl); (case k22 => first | k_is | kx_is | ks_is | rfl); (case gReflowError => first | k_is | kx_is | ks_is | rfl); (case gInvalidMark => first | k_is | kx_is | ks_is | rfl); (case xLInvalidMark => first | k_is | kx_is | ks_is | rfl); (case saInvalidMark => first | k_is | kx_is | ks_is | rfl); (case gaInvalidMark => first | k_is | kx_is | ks_is | rfl); (case ggInvalidMark => first | k_is | kx_is | ks_is | rfl); (case nbInvalidMark => first | k_is | kx_is | ks_is | rfl); (case iCInvalidMark => first | k_is | kx_is | ks_is | rfl); (case tIInvalidMark => first | k_is | kx_is | ks_is | rfl); (case lInvalidMark => first | k_is | kx_is | ks_is | rfl); (case cInvalidMark => first | k_is | kx_is | ks_is | rfl); (case ceInvalidMark => first | k_is | kx_is | ks_is | rfl); (case coInvalidMark => first | k_is | kx_is | ks_is | rfl); (case kCInvalidMark => first | k_is | kx_is | ks_is | rfl); (case eCInvalidMark => first | k_is | kx_is | ks_is | rfl); (case veInvalidMark => first | k_is | kx_is | ks_is | rfl); (case meInvalidMark => first | k_is | kx_is | ks_is | rfl); (case tCInvalidMark => first | k_is | kx_is | ks_is | rfl); (case hCInvalidMark => first | k_is | kx_is | ks_is | rfl); (case icInvalidMark => first | k_is | kx_is | ks_is | rfl); (case sCInvalidMark => first | k_is | kx_is | ks_is | rfl); (case suInvalidMark => first | k_is | kx_is | ks_is | rfl); (case xiInvalidMark => first | k_is | kx_is | ks_is | rfl); (case gInvalidText => first | k_is | kx_is | ks_is | rfl); (case xLInvalidText => first | k_is | kx_is | ks_is | rfl); (case saInvalidText => first | k_is | kx_is | ks_is | rfl); (case gaInvalidText => first | k_is | kx_is | ks_is | rfl); (case ggInvalidText => first | k_is | kx_is | ks_is | rfl); (case nbInvalidText => first | k_is | kx_is | ks_is | rfl); (case iCInvalidText => first | k_is | kx_is | ks_is | rfl); (case tIInvalidText => first | k_is | kx_is | ks_is | rfl); (case lInvalidText => first | k_is | kx_is | ks_is | rfl); (case cInvalidText => first | k_is | kx_is | ks_is | rfl); (case ceInvalidText => first | k_is | kx_is | ks_is | rfl); (case coInvalidText => first | k_is | kx_is | ks_is | rfl); (case kCInvalidText => first | k_is | kx_is | ks_is | rfl); (case eCInvalidText => first | k_is | kx_is | ks_is | rfl); (case veInvalidText => first | k_is | kx_is | ks_is | rfl); (case meInvalidText => first | k_is | kx_is | ks_is | rfl); (case tCInvalidText => first | k_is | kx_is | ks_is | rfl); (case hCInvalidText => first | k_is | kx_is | ks_is | rfl); (case icInvalidText => first | k_is | kx_is | ks_is | rfl); (case sCInvalidText => first | k_is | kx_is | ks_is | rfl); (case suInvalidText => first | k_is | kx_is | ks_is | rfl); (case xiInvalidText => first | k_is | kx_is | ks_is | rfl); (case tp => first | k_is | kx_is | ks_is | rfl); (case zsuper => first | k_is | kx_is | ks_is | rfl); (case z0 => first | k_is | kx_is | ks_is | rfl); (case z1 => first | k_is | kx_is | ks_is | rfl); (case z2 => first | k_is | kx_is | ks_is | rfl); (case z3 => first | k_is | kx_is | ks_is | rfl); (case z4 => first | k_is | kx_is | ks_is | rfl); (case z5 => first | k_is | kx_is | ks_is | rfl); (case z6 => first | k_is | kx_is | ks_is | rfl); (case z7 => first | k_is | kx_is | ks_is | rfl); (case z8 => first | k_is | kx_is | ks_is | rfl); (case z9 => first | k_is | kx_is | ks_is | rfl); (case z10 => first | k_is | kx_is | ks_is | rfl); (case vLETTERS => first | k_is | kx_is | ks_is | rfl); (case vLONGEST_WORD => first | k_is | kx_is | ks_is | rfl); (case vMARK_PLACES => first | k_is | kx_is | ks_is | rfl); (case wMARK_PLACES => first | k_is | kx_is | ks_is | rfl)
    (case vfInvalidMark => rfl)
    (case feInvalidMark => rfl)
    (case vfInvalidText => rfl)
    (case feInvalidText => rfl)
    (case top => rfl)
    (case yMARK_PLACES => decide)
    (case xMARK_PLACES => exact ⟨⟨_, _, rfl, rfl⟩, ⟨⟨_, _, rfl, rfl⟩, ⟨⟨_, _, rfl, rfl⟩, ⟨⟨_, _, rfl, rfl⟩, ⟨⟨_, _, rfl, rfl⟩, ⟨⟨_, _, rfl, rfl⟩, ⟨⟨_, _, rfl, rfl⟩, ⟨⟨_, _, rfl, rfl⟩, ⟨⟨_, _, rfl, rfl⟩, ⟨⟨_, _, rfl, rfl⟩, ⟨⟨_, _, rfl, rfl⟩, ⟨⟨_, _, rfl, rfl⟩, ⟨⟨_, _, rfl, rfl⟩, trivial⟩⟩⟩⟩⟩⟩⟩⟩⟩⟩⟩⟩⟩)
    (case uMARK_PLACES => exact ⟨⟨_, rfl⟩, ⟨⟨_, rfl⟩, ⟨⟨_, rfl⟩, ⟨⟨_, rfl⟩, ⟨⟨_, rfl⟩, ⟨⟨_, rfl⟩, ⟨⟨_, rfl⟩, ⟨⟨_, rfl⟩, ⟨⟨_, rfl⟩, ⟨⟨_, rfl⟩, ⟨⟨_, rfl⟩, ⟨⟨_, rfl⟩, ⟨⟨_, rfl⟩, trivial⟩⟩⟩⟩⟩⟩⟩⟩⟩⟩⟩⟩⟩)


