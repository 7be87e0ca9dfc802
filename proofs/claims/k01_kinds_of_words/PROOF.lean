import PyProof.Rows.All
import Wide.All
import OpenK.AllK
import Wide.FinOn
import PyProof.NeKinds
import HandS.ForMost
import HandS.IsInst
import HandS.Wide
import HandS.Walk
import HandS.More
import HandS.Flow
import PySem.Challenge.RW_reflows_k01_kinds_of_words
set_option Elab.async false
set_option linter.all false
set_option maxRecDepth 100000
namespace PySem.SeqAt
open AutoSeq1 (wpAny_loadPart')
open MeetsSeq
theorem dict_ne_declines_tuple (l b : Addr) (items2 : Array Value) (es : Array DictEntry) (n n2 : Nat) (dd dd2 : Option Addr) (sl sl2 : Array (Option Value)) :
    Meets (Builtin.«dict.__ne__» ⟨[.ref l, .ref b], []⟩) (fun _ R s => s.heap.get? l = some { cls := .type "dict", dict := dd, data := .dict es n, slots := sl } ∧ s.heap.get? b = some { cls := .type "tuple", dict := dd2, data := .seq items2 n2, slots := sl2 } ∧ R (.ok (.ret .notImplemented)) s) :=
  .of_wp fun prog w A R s h => by obtain ⟨hp, g, d, tk, os⟩ := s; obtain ⟨hl, hb, h⟩ := h; have f1 := F.sub_tuple_dict; wp_walk using wpAny_loadPart' hl, wpAny_loadPart' hb; exact ⟨_, rfl, h⟩
theorem tuple_ne_declines_dict (l b : Addr) (items : Array Value) (es : Array DictEntry) (n n2 : Nat) (dd dd2 : Option Addr) (sl sl2 : Array (Option Value)) :
    Meets (Builtin.«tuple.__ne__» ⟨[.ref l, .ref b], []⟩) (fun _ R s => s.heap.get? l = some { cls := .type "tuple", dict := dd, data := .seq items n, slots := sl } ∧ s.heap.get? b = some { cls := .type "dict", dict := dd2, data := .dict es n2, slots := sl2 } ∧ R (.ok (.ret .notImplemented)) s) :=
  .of_wp fun prog w A R s h => by obtain ⟨hp, g, d, tk, os⟩ := s; obtain ⟨hl, hb, h⟩ := h; have f1 := F.sub_dict_tuple; wp_walk using wpAny_loadPart' hl, wpAny_loadPart' hb; exact ⟨_, rfl, h⟩
end PySem.SeqAt
namespace RV
open PySem PySem.Spec PyProof.Rows L2 PySem.SeqAt
section
variable {X : Cx}
/-- a dict is no tuple -/
def rNeDT (K : PySem.W.Frag) : R2 := fun x y H Q => ∃ a b kvs xs, x = .ref a ∧ y = .ref b ∧ H a = some (.dK kvs) ∧ H b = some (.tup xs) ∧ Q (.bl true) H
theorem op_ne_dt (hu : X.A.units < cLine) : OpR X (compareOp .NotEq) (rNeDT X.K) := by
  intro pins s σ H x y v u Q I rx ry h
  obtain ⟨a, b, kvs, xs, rfl, rfl, ha, hb, q⟩ := h
  cases (show v = Value.ref a from rx)
  cases (show u = Value.ref b from ry)
  have nab : a ≠ b := ne_of ha hb (by intro z; cases z)
  obtain ⟨_, _, vs, _, o, es, ep, h1, h2, h3, _⟩ := (show ObjOk X.prog X.w H s.heap a (.dK kvs) from I.hok a _ ha)
  obtain ⟨_, its, rv, o2, g1, g2, n2, g3⟩ := (show ObjOk X.prog X.w H s.heap b (.tup xs) from I.hok b _ hb)
  obtain ⟨c1, d1, e1, s1⟩ := o
  obtain ⟨c2, d2, e2, s2⟩ := o2
  have h21 : c1 = .type "dict" := h2.1
  simp only at h21 h3 g2 g3
  subst h21 h3 g2 g3
  exact (rc_ne_decline_or (k := false) ⟨_, h1, rfl⟩ ⟨_, g1, rfl⟩ (by decide) F.sub_tuple_dict F.slot_dict_ne F.slot_tuple_ne_refl
    (fun _ hq => call_meets F.slot_dict_ne ⟨_, h1, rfl⟩ F.entry_dict_ne (F.args_dict_ne_2 _ _) (dict_ne_declines_tuple a b _ _ _ _ _ _ _ _) ⟨h1, g1, hq⟩)
    (fun _ hq => call_meets F.slot_tuple_ne_refl ⟨_, g1, rfl⟩ F.entry_tuple_ne (F.args_tuple_ne_2 _ _) (tuple_ne_declines_dict b a _ _ _ _ _ _ _ _) ⟨g1, h1, hq⟩)
    (fun _ hq => wpAny_isSame_ref_other nab h1 g1 (by simp) hq) (.inr hu) ⟨.bl true, H, I, rfl, q⟩)
/-- != of data, or of a dict and a tuple -/
theorem op_neA (hu : X.A.units + 64 < cLine) : OpR X (compareOp .NotEq) (fun x y H Q => rNeD X.K x y H Q ∨ rNeDT X.K x y H Q) := (op_neD hu).or (op_ne_dt (by omega))
end
end RV

namespace RV
open PySem PySem.Spec PyProof.Rows L2 TL
/-! ### heaps -/
/-- all that was tracked, but what stands at p, is as it was -/
def Sam (p : Addr) (H H' : Hp) : Prop := ∀ b o, b ≠ p → H b = some o → H' b = some o
theorem Sam.refl (p : Addr) (H : Hp) : Sam p H H := fun _ _ _ h => h
theorem Sam.trans {p : Addr} {H H1 H2 : Hp} (a : Sam p H H1) (b : Sam p H1 H2) : Sam p H H2 := fun c o n h => b c o n (a c o n h)
theorem Sam.new {p l : Addr} {o : HO} {H H1 : Hp} (a : Sam p H H1) (n : H1 l = none) : Sam p H (upd H1 l o) := fun c u nc h => by
  have e := a c u nc h
  rw [upd_ne (ne_of_none e n)]
  exact e
theorem Sam.box {p : Addr} {o : HO} {H H1 : Hp} (a : Sam p H H1) : Sam p H (upd H1 p o) := fun c u nc h => by
  rw [upd_ne nc]
  exact a c u nc h
theorem same_new {H H1 : Hp} {p : Addr} {o : HO} (s : Same H H1) (h : H1 p = none) : Same H (upd H1 p o) := fun b x e => by
  have e1 := s b x e
  rw [upd_ne (ne_of_none e1 h)]
  exact e1
/-- p is new behind H: what is said of H holds on whatever stands at p -/
theorem same_sam {H H1 H2 : Hp} {p : Addr} (n : H p = none) (a : Same H H1) (b : Sam p H1 H2) : Same H H2 := fun c o h => b c o (ne_of_none h n) (a c o h)
theorem keep_new {H : Hp} {p q : Addr} {o u : HO} (h : H q = some u) (n : H p = none) : upd H p o q = some u := by
  rw [upd_ne (ne_of_none h n)]
  exact h
/-! ### the box of drawn digits -/
def BoxAt (H : Hp) (p : Addr) (n : Int) : Prop := ∃ a b c : Int, H p = some (.lst [.int a, .int b, .int c]) ∧ 0 ≤ a ∧ 0 ≤ b ∧ b < 2147483629 ∧ 0 ≤ c ∧ c ≤ n
theorem BoxAt.new {H : Hp} {p l : Addr} {n : Int} {o : HO} (b : BoxAt H p n) (h : H l = none) : BoxAt (upd H l o) p n := by
  obtain ⟨a, b, c, e, r⟩ := b
  exact ⟨a, b, c, keep_new e h, r⟩
theorem BoxAt.mono {H : Hp} {p : Addr} {n m : Int} (b : BoxAt H p n) (h : n ≤ m) : BoxAt H p m := by
  obtain ⟨a, b, c, e, h1, h2, h3, h4, h5⟩ := b
  exact ⟨a, b, c, e, h1, h2, h3, h4, Int.le_trans h5 h⟩
theorem BoxAt.ne {H : Hp} {p l : Addr} {n : Int} (b : BoxAt H p n) (h : H l = none) : p ≠ l := by
  obtain ⟨a, b, c, e, r⟩ := b
  exact ne_of_none e h
def spCell (K : PySem.W.Frag) : Sp := fun vs H Q _ => ∃ (l : Addr) (ns : List Int) (j : Nat), vs = [.ref l, .int (j : Int)] ∧ SqL K H l (ns.map V.int) ∧ j ≤ 1000 ∧ ∀ z : Int, Q (.int z) H
def spBox : Sp := fun vs H Q _ => ∃ z : Int, vs = [.int z] ∧ ∀ p (a : Int) (b : Int), H p = none → 0 ≤ a → 0 ≤ b → b < 2147483629 → Q (.ref p) (upd H p (.lst [.int a, .int b, .int 0]))
def spTake : Sp := fun vs H Q _ => ∃ (p : Addr) (m n : Int), vs = [.ref p, .int m] ∧ 1 ≤ m ∧ m.natAbs < 2 ^ 200 ∧ n ≤ 1000000 ∧ BoxAt H p n ∧
  ∀ d o, 0 ≤ d → d < m → BoxAt (upd H p o) p (n + 1) → Q (.int d) (upd H p o)
/-! ### kinds of values -/
inductive Ty7 (H : Hp) : V → String → Prop where
  | non : Ty7 H .non "NoneType"
  | bl (b : Bool) : Ty7 H (.bl b) "bool"
  | int (i : Int) : Ty7 H (.int i) "int"
  | str (z : Str) (h : z.length ≤ 100000) : Ty7 H (.str z) "str"
  | lst {a : Addr} {xs : List V} (e : H a = some (.lst xs)) : Ty7 H (.ref a) "list"
  | tup {a : Addr} {xs : List V} (e : H a = some (.tup xs)) : Ty7 H (.ref a) "tuple"
  | dct {a : Addr} {kvs : List (Key × V)} (e : H a = some (.dK kvs)) : Ty7 H (.ref a) "dict"
theorem Ty7.x {K : PySem.W.Frag} {H : Hp} {v : V} {t : String} (h : Ty7 H v t) : TyX K H v (.type t) := by
  cases h with
  | non => exact .base .non
  | bl b => exact .base (.bl b)
  | int i => exact .base (.int i)
  | str z => exact .base (.str z)
  | lst e => exact .base (.lst e)
  | tup e => exact .base (.tup e)
  | dct e => exact .base (.dK e)
theorem Ty7.up {H H' : Hp} {v : V} {t : String} (h : Ty7 H v t) (s : Same H H') : Ty7 H' v t := by
  cases h with
  | non => exact .non
  | bl b => exact .bl b
  | int i => exact .int i
  | str z l => exact .str z l
  | lst e => exact .lst (s _ _ e)
  | tup e => exact .tup (s _ _ e)
  | dct e => exact .dct (s _ _ e)
theorem Ty7.new {H : Hp} {v : V} {t : String} {p : Addr} {o : HO} (h : Ty7 H v t) (n : H p = none) : Ty7 (upd H p o) v t := h.up (same_new (Same.refl H) n)
def isStrV : V → Bool
  | .str _ => true
  | _ => false
def isIntV : V → Bool
  | .int _ => true
  | _ => false
def isBlV : V → Bool
  | .bl _ => true
  | _ => false
/-- kitB among the seven kinds -/
theorem kit_int {H : Hp} {v : V} {t : String} (h : Ty7 H v t) : kitB t "int" = some (isIntV v || isBlV v) := by
  cases h <;> first | (show _ = some true; decide +kernel) | (show _ = some false; decide +kernel)
theorem kit_bool {H : Hp} {v : V} {t : String} (h : Ty7 H v t) : kitB t "bool" = some (isBlV v) := by
  cases h <;> first | (show _ = some true; decide +kernel) | (show _ = some false; decide +kernel)
theorem kit_str {H : Hp} {v : V} {t : String} (h : Ty7 H v t) : kitB t "str" = some (isStrV v) := by
  cases h <;> first | (show _ = some true; decide +kernel) | (show _ = some false; decide +kernel)
theorem kit_tuple {H : Hp} {v : V} {t : String} (h : Ty7 H v t) : kitB t "tuple" = some (t == "tuple") := by
  cases h <;> decide +kernel
theorem kit_list {H : Hp} {v : V} {t : String} (h : Ty7 H v t) : kitB t "list" = some (t == "list") := by
  cases h <;> decide +kernel
/-! ### sizes -/
theorem sz {n : Nat} (h : n ≤ 200000) : n < sizeLine := Nat.lt_of_le_of_lt h (by decide)
theorem szl {n : Nat} (h : n ≤ 200000) : n ≤ sizeLine := Nat.le_of_lt (sz h)
theorem len_list (z : Str) : z.cps.toList.length = z.length := by simp [Str.length]
/-! ### words, marks -/
def onlyS (z cs : Str) : Bool := z.cps.toList.all fun c => decide (c ∈ cs.cps.toList)
def spOnly : Sp := fun vs H Q _ => ∃ z cs : Str, vs = [.str z, .str cs] ∧ z.length ≤ 100000 ∧ ∀ H', Same H H' → Q (.bl (onlyS z cs)) H'
def spWhole : Sp := fun vs H Q _ => ∃ (v : V) (t : String), vs = [v] ∧ Ty7 H v t ∧ Q (.bl (isIntV v)) H
def inI (v : V) (lo hi : Int) : Bool := match v with
  | .int i => decide (lo ≤ i) && decide (i ≤ hi)
  | _ => false
def spIsInteger : Sp := fun vs H Q _ => ∃ (v : V) (t : String) (lo hi : Int), vs = [v, .int lo, .int hi] ∧ Ty7 H v t ∧ Q (.bl (inI v lo hi)) H
def abc : Str := Str.ofString "abcdefghijklmnopqrstuvwxyz"
def wordS (z : Str) : Bool := decide (1 ≤ z.length) && decide (z.length ≤ 30) && onlyS z abc
def wordV : V → Bool
  | .str z => wordS z
  | _ => false
def spIsWord : Sp := fun vs H Q _ => ∃ (v : V) (t : String), vs = [v] ∧ Ty7 H v t ∧ ∀ H', Same H H' → Q (.bl (wordV v)) H'
def markS (z : Str) : Bool := decide (z ∈ ([" ", "#0", "#1", "#2", "#3", "|0", "|1", "|2", "|3", "/0", "/1", "/2", "/3"] : List Str))
def markV : V → Bool
  | .str z => markS z
  | _ => false
def spIsMark : Sp := fun vs H Q _ => ∃ (v : V) (t : String), vs = [v] ∧ Ty7 H v t ∧ Q (.bl (markV v)) H
/-- a tuple of a mark and a word -/
inductive Tok7 (H : Hp) : V → Bool → Prop where
  | odd {v : V} {t : String} (h : Ty7 H v t) (n : (t == "tuple") = false) : Tok7 H v false
  | len {a : Addr} {xs : List V} (e : H a = some (.tup xs)) (n : xs.length ≠ 2) : Tok7 H (.ref a) false
  | two {a : Addr} {x y : V} {s t : String} (e : H a = some (.tup [x, y])) (hx : Ty7 H x s) (hy : Ty7 H y t) : Tok7 H (.ref a) (markV x && wordV y)
def spIsToken : Sp := fun vs H Q _ => ∃ (v : V) (b : Bool), vs = [v] ∧ Tok7 H v b ∧ ∀ H', Same H H' → Q (.bl b) H'
/-! ### the law's readings of words and marks -/
theorem abc_list : abc.cps.toList = [97, 98, 99, 100, 101, 102, 103, 104, 105, 106, 107, 108, 109, 110, 111, 112, 113, 114, 115, 116, 117, 118, 119, 120, 121, 122] := by decide +kernel
theorem mem_abc (c : Nat) : c ∈ abc.cps.toList ↔ 97 ≤ c ∧ c ≤ 122 := by
  rw [abc_list]
  simp only [List.mem_cons, List.not_mem_nil, or_false]
  omega
def lawMarkS (z : Str) : Bool := decide (z = Str.ofString " ") || (decide (z.length = 2) && (match z.cps.toList with
  | c :: d :: _ => (decide (c = 35) || decide (c = 124) || decide (c = 47)) && (decide (d = 48) || decide (d = 49) || decide (d = 50) || decide (d = 51))
  | _ => false))
theorem str_eq {z : Str} {s : String} {l : List Nat} (h : (Str.ofString s).cps.toList = l) : (z = Str.ofString s) ↔ z.cps.toList = l := by
  constructor
  · intro e
    rw [e, h]
  · intro e
    rw [← h] at e
    have e2 : z.cps = (Str.ofString s).cps := Array.ext' e
    cases z
    cases q : Str.ofString s
    rw [q] at e2
    exact congrArg Str.mk e2
theorem markS_iff (z : Str) : markS z = true ↔ (z.cps.toList = [32] ∨ ∃ c d, z.cps.toList = [c, d] ∧ (c = 35 ∨ c = 124 ∨ c = 47) ∧ (d = 48 ∨ d = 49 ∨ d = 50 ∨ d = 51)) := by
  unfold markS
  rw [decide_eq_true_eq]
  simp only [List.mem_cons, List.not_mem_nil, or_false]
  rw [str_eq (s := " ") (l := [32]) (by decide +kernel), str_eq (s := "#0") (l := [35, 48]) (by decide +kernel), str_eq (s := "#1") (l := [35, 49]) (by decide +kernel), str_eq (s := "#2") (l := [35, 50]) (by decide +kernel), str_eq (s := "#3") (l := [35, 51]) (by decide +kernel),
    str_eq (s := "|0") (l := [124, 48]) (by decide +kernel), str_eq (s := "|1") (l := [124, 49]) (by decide +kernel), str_eq (s := "|2") (l := [124, 50]) (by decide +kernel), str_eq (s := "|3") (l := [124, 51]) (by decide +kernel),
    str_eq (s := "/0") (l := [47, 48]) (by decide +kernel), str_eq (s := "/1") (l := [47, 49]) (by decide +kernel), str_eq (s := "/2") (l := [47, 50]) (by decide +kernel), str_eq (s := "/3") (l := [47, 51]) (by decide +kernel)]
  constructor
  · rintro (h | h | h | h | h | h | h | h | h | h | h | h | h)
    · exact .inl h
    all_goals exact .inr ⟨_, _, h, by decide, by decide⟩
  · rintro (h | ⟨c, d, h, hc, hd⟩)
    · exact .inl h
    · rw [h]
      rcases hc with rfl | rfl | rfl <;> rcases hd with rfl | rfl | rfl | rfl <;> simp
/-! ### items, joins -/
theorem atI_all {xs : List V} {P : V → Prop} (h : ∀ x ∈ xs, P x) {d : Int} (h0 : 0 ≤ d) (h1 : d < xs.length) : ∃ v, atI xs d = some v ∧ P v := by
  obtain ⟨j, rfl⟩ : ∃ j : Nat, d = j := ⟨d.toNat, by omega⟩
  have hj : j < xs.length := by omega
  exact ⟨xs[j], atI_nat (List.getElem?_eq_getElem hj), h _ (List.getElem_mem hj)⟩
theorem atI_alln {xs : List Nat} {d : Int} (h0 : 0 ≤ d) (h1 : d < xs.length) : ∃ c, atI xs d = some c ∧ c ∈ xs := by
  obtain ⟨j, rfl⟩ : ∃ j : Nat, d = j := ⟨d.toNat, by omega⟩
  have hj : j < xs.length := by omega
  exact ⟨xs[j], atI_nat (List.getElem?_eq_getElem hj), List.getElem_mem hj⟩
def signs (l : List Nat) : List Str := l.map fun c => ⟨#[c]⟩
theorem joinL_signs : ∀ l : List Nat, joinL [] ((signs l).map tl) = l
  | [] => rfl
  | [c] => rfl
  | c :: d :: r => by
    have ih := joinL_signs (d :: r)
    show [c] ++ ([] ++ joinL [] ((signs (d :: r)).map tl)) = c :: d :: r
    rw [ih]
    rfl
theorem join_signs (l : List Nat) : Txt.join (Str.ofString "") (signs l) = ⟨l.toArray⟩ := by
  have e : tl (Txt.join (Str.ofString "") (signs l)) = l := by
    rw [join_eq, tl_join]
    exact joinL_signs l
  have e2 : (Txt.join (Str.ofString "") (signs l)).cps = l.toArray := Array.ext' (by rw [show (Txt.join (Str.ofString "") (signs l)).cps.toList = l from e])
  cases q : Txt.join (Str.ofString "") (signs l)
  rw [q] at e2
  exact congrArg Str.mk e2
theorem signs_sum (l : List Nat) : ((signs l).map (·.length)).sum = l.length := by
  induction l with
  | nil => rfl
  | cons c r ih =>
    show 1 + ((signs r).map (·.length)).sum = r.length + 1
    omega
theorem signs_len (l : List Nat) : (signs l).length = l.length := by simp [signs]
theorem len_mk (l : List Nat) : (⟨l.toArray⟩ : Str).length = l.length := by simp [Str.length]
theorem len_app (a b : Str) : (a ++ b).length = a.length + b.length := by
  show (a.cps ++ b.cps).size = _
  rw [Array.size_append]
  rfl
theorem len_one (c : Nat) : (⟨#[c]⟩ : Str).length = 1 := rfl
/-! ### plain texts -/
def Asc (z : Str) : Prop := ∀ c ∈ z.cps.toList, c < 128
theorem asc_app {a b : Str} (ha : Asc a) (hb : Asc b) : Asc (a ++ b) := fun c h => by
  rw [show (a ++ b).cps.toList = a.cps.toList ++ b.cps.toList from tl_append a b] at h
  exact (List.mem_append.mp h).elim (ha c) (hb c)
theorem asc_cut {a : Str} (h : Asc a) (lo hi : Option Int) : Asc (cutS a lo hi) := fun c hc => by
  have e : c ∈ (a.cps.toList.drop (HT.sIx a.length 0 lo)).take (HT.sIx a.length a.length hi - HT.sIx a.length 0 lo) := by
    simpa [cutS] using hc
  exact h c (List.mem_of_mem_drop (List.mem_of_mem_take e))
theorem asc_one {c : Nat} (h : c < 128) : Asc ⟨#[c]⟩ := fun d hd => by
  have : d = c := by simpa using hd
  omega
theorem asc_lit {s : String} (h : (Str.ofString s).cps.toList.all (· < 128) = true) : Asc (Str.ofString s) := fun c hc => of_decide_eq_true (List.all_eq_true.mp h c hc)
theorem asc_mk {l : List Nat} (h : ∀ c ∈ l, c < 128) : Asc ⟨l.toArray⟩ := fun c hc => h c (by simpa using hc)
def spNumber : Sp := fun vs H Q _ => ∃ (p : Addr) (n : Int), vs = [.ref p] ∧ n ≤ 100000 ∧ BoxAt H p n ∧ ∀ (z : Int) H', z.natAbs < 2 ^ 133 → Sam p H H' → BoxAt H' p (n + 10) → Q (.int z) H'
def spString : Sp := fun vs H Q _ => ∃ (p : Addr) (n : Int), vs = [.ref p] ∧ n ≤ 100000 ∧ BoxAt H p n ∧ ∀ (z : Str) H', z.length ≤ 200 → Asc z → Sam p H H' → BoxAt H' p (n + 20) → Q (.str z) H'
def spIsMarkL : Sp := fun vs H Q _ => ∃ z : Str, vs = [.str z] ∧ z.length ≤ 200 ∧ Asc z ∧ ∀ H', Same H H' → Q (.bl (markS z)) H'
def spIsWordL : Sp := fun vs H Q _ => ∃ z : Str, vs = [.str z] ∧ z.length ≤ 200 ∧ Asc z ∧ ∀ H', Same H H' → Q (.bl (wordS z)) H'
def spIs : Sp := fun vs H Q _ => ∃ a b : Bool, vs = [.bl a, .bl b] ∧ Q (.bl (decide (a = b))) H
/-! ### one sign among written ones -/
theorem one_eq {c k : Nat} {s : String} (h : (Str.ofString s).cps.toList = [k]) : (Str.ofString s == (⟨#[c]⟩ : Str)) = decide (c = k) := by
  rw [Bool.eq_iff_iff, beq_iff_eq, decide_eq_true_eq]
  constructor
  · intro e
    rw [e] at h
    exact (List.cons.inj (show [c] = [k] from h)).1
  · intro e
    refine ext_tl ?_
    rw [show tl (Str.ofString s) = [k] from h, e]
def eqv_strs_nil : ∀ l : List Str, PyData.eqv (.list (l.map PyData.str)) (.list []) = decide (l = [])
  | [] => by simp [PyData.eqv, PyData.eqvAll]
  | _ :: _ => by simp [PyData.eqv, PyData.eqvAll]
theorem lay_strs : ∀ l : List Str, (∀ z ∈ l, PyData.strOk z = true) → PyData.canLayAll0 (l.map PyData.str) = true
  | [], _ => by simp [PyData.canLayAll0]
  | z :: r, h => by
    simp only [List.map_cons, PyData.canLayAll0, PyData.canLay0, Bool.and_eq_true]
    exact ⟨h z (by simp), lay_strs r fun y hy => h y (by simp [hy])⟩
theorem dep_strs : ∀ l : List Str, PyData.depthAll (l.map PyData.str) = 0
  | [] => by simp [PyData.depthAll]
  | z :: r => by
    have := dep_strs r
    simp only [List.map_cons, PyData.depthAll, PyData.depth]
    omega
theorem shaped_strs (l : List Str) (h : ∀ z ∈ l, PyData.strOk z = true) : SeqAt.shaped (.list (l.map PyData.str)) = true := by
  have h2 : PyData.depth (.list (l.map PyData.str)) ≤ 64 := by
    simp only [PyData.depth]
    rw [dep_strs]
    omega
  show (PyData.canLay0 (.list (l.map PyData.str)) && decide (PyData.depth (.list (l.map PyData.str)) ≤ 64)) = true
  rw [Bool.and_eq_true]
  exact ⟨by simp only [PyData.canLay0]; exact lay_strs l h, decide_eq_true h2⟩
theorem dp_strs {K : PySem.W.Frag} {H : Hp} : ∀ l : List Str, DpAll K H (l.map V.str) (l.map PyData.str)
  | [] => .nil
  | z :: r => .cons (.str z) (dp_strs r)
theorem strOk_asc {z : Str} (h : Asc z) : PyData.strOk z = true := by
  unfold PyData.strOk
  rw [Array.all_eq_true']
  intro c hc
  have := h c (by simpa using hc)
  exact decide_eq_true (by omega)
def spLaw (K : PySem.W.Frag) : Sp := fun vs H Q _ => ∃ (a : Addr) (ns : List Int), vs = [.ref a] ∧ SqL K H a (ns.map V.int) ∧ ns.length ≤ 63 ∧ ∀ H', Q (.bl true) H'
theorem log_of {z : Int} {k : Nat} (h : z.natAbs < 2 ^ k) (h0 : 0 < k) (hk : k ≤ 1920) : z.natAbs.log2 < 1920 := Nat.lt_of_lt_of_le (PySem.Flt.log2_lt_of h0 h) hk
/-- a value of one of the seven kinds that is no int -/
def NoInt (H : Hp) (v : V) : Prop := ∃ t, Ty7 H v t ∧ isIntV v = false
theorem inI_no {v : V} {lo hi : Int} (h : isIntV v = false) : inI v lo hi = false := by
  cases v with
  | int i => exact absurd (show true = false from h) (fun e => nomatch e)
  | _ => rfl
end RV

namespace RV
open PySem PySem.Spec PyProof.Rows L2 TL
theorem andV_go {ta tb : TE} {σ : L2.St} {H : Hp} {Q : VK} {c d : Bool} (ha : ∀ Q' : VK, (∀ H', Same H H' → Q' (.bl c) H') → ta σ H Q') (hb : ∀ (H' : Hp) (Q' : VK), Same H H' → (∀ H'', Same H' H'' → Q' (.bl d) H'') → tb σ H' Q')
    (k : ∀ H', Same H H' → Q (.bl (c && d)) H') : tAndV ta tb σ H Q := by
  refine ha _ fun H1 s1 => ⟨c, rfl, ?_⟩
  cases c with
  | true => exact iteT (hb H1 _ s1 fun H2 s2 => k H2 (s1.trans s2))
  | false => exact iteF (k H1 s1)
theorem BoxAt.up {H H' : Hp} {p : Addr} {n : Int} (b : BoxAt H p n) (s : Same H H') : BoxAt H' p n := by
  obtain ⟨x, y, z, e, r⟩ := b
  exact ⟨x, y, z, s _ _ e, r⟩
theorem Tok7.up {H H' : Hp} {v : V} {b : Bool} (h : Tok7 H v b) (s : Same H H') : Tok7 H' v b := by
  cases h with
  | odd h n => exact .odd (h.up s) n
  | len e n => exact .len (s _ _ e) n
  | two e hx hy => exact .two (s _ _ e) (hx.up s) (hy.up s)
theorem Tok7.eq {H : Hp} {v : V} {b c : Bool} (h : Tok7 H v b) (e : b = c) : Tok7 H v c := e ▸ h
theorem keep_box {H : Hp} {p q : Addr} {o u : HO} (h : H q = some u) (n : q ≠ p) : upd H p o q = some u := by
  rw [upd_ne n]
  exact h
/-- what the last loop's items are -/
inductive Odd7 (H : Hp) : V → Prop where
  | non : Odd7 H .non
  | bl (b : Bool) : Odd7 H (.bl b)
  | int (z : Int) : Odd7 H (.int z)
  | lst {a : Addr} {l : List Str} (e : H a = some (.lst (l.map V.str))) (o : ∀ z ∈ l, Asc z) : Odd7 H (.ref a)
  | one {a : Addr} {z : Str} (e : H a = some (.tup [V.str z])) (o : Asc z) : Odd7 H (.ref a)
  | two {a : Addr} (e : H a = some (.tup [V.str (Str.ofString "#0"), V.str (Str.ofString "a")])) : Odd7 H (.ref a)
  | dct {a : Addr} {kvs : List (Key × V)} (e : H a = some (.dK kvs)) : Odd7 H (.ref a)
theorem shaped_tups (l : List Str) (h : ∀ z ∈ l, PyData.strOk z = true) : SeqAt.shaped (.tuple (l.map PyData.str)) = true := by
  have h2 : PyData.depth (.tuple (l.map PyData.str)) ≤ 64 := by
    simp only [PyData.depth]
    rw [dep_strs]
    omega
  show (PyData.canLay0 (.tuple (l.map PyData.str)) && decide (PyData.depth (.tuple (l.map PyData.str)) ≤ 64)) = true
  rw [Bool.and_eq_true]
  exact ⟨by simp only [PyData.canLay0]; exact lay_strs l h, decide_eq_true h2⟩
/-- the keys of a written dict -/
def KeysAre : List DictEntry → List Str → Prop
  | [], [] => True
  | e :: r, k :: ks => (∃ t, e.key = .str k t) ∧ KeysAre r ks
  | _, _ => False
theorem keys_find : ∀ {l : List DictEntry} {ks : List Str} (z : Str), KeysAre l ks → (l.find? (·.key.isStr z)).isSome = decide (z ∈ ks) ∧ l.any (·.refKey) = false
  | [], [], z, _ => ⟨by simp, rfl⟩
  | e :: r, k :: ks, z, h => by
    obtain ⟨⟨t, h1⟩, h2⟩ := h
    obtain ⟨i1, i2⟩ := keys_find (l := r) (ks := ks) z h2
    have e1 : e.key.isStr z = decide (z = k) := by
      rw [h1, Bool.eq_iff_iff, decide_eq_true_eq]
      show (k == z) = true ↔ _
      rw [beq_iff_eq]
      exact eq_comm
    have e2 : e.refKey = false := by
      unfold DictEntry.refKey
      rw [h1]
    constructor
    · rw [List.find?_cons, e1]
      by_cases c : z = k
      · rw [decide_eq_true c]
        simp [c]
      · rw [decide_eq_false c, i1]
        simp [c]
    · rw [List.any_cons, e2, i2]
      rfl
theorem nsIn_keys {K : PySem.W.Frag} {d : Addr} {es : Array DictEntry} {n : Nat} {ks : List Str} (lk : K.lookup d = some ⟨.type "dict", none, .dict es n, #[]⟩) (h : KeysAre es.toList ks) (z : Str) :
    ∃ r, PySem.W.nsIn K d z = some r ∧ r.isSome = decide (z ∈ ks) := by
  obtain ⟨h1, h2⟩ := keys_find z h
  unfold PySem.W.nsIn
  rw [lk]
  cases q : es.toList.find? (·.key.isStr z) with
  | some e =>
    rw [q] at h1
    exact ⟨some e.val, by simp only [q], h1⟩
  | none =>
    rw [q] at h1
    refine ⟨none, ?_, h1⟩
    simp only [q]
    rw [h2]
    rfl
end RV

namespace RV
open PySem PySem.Spec PyProof.Rows L2
def topS (i : Nat) : Stmt := PySem.Challenge.pw_reflows_k01_kinds_of_words.main.body.getD i (.Pass ⟨0, 0, 0, 0⟩)
abbrev s_is_integer : Stmt := topS 4
theorem sc_is_integer : FnScope ["value", "low", "high"] ["value", "low", "high"] (defScope s_is_integer) := ⟨rfl, rfl, rfl, by decide +kernel, rfl, by decide +kernel, by decide +kernel⟩
abbrev s_is_word : Stmt := topS 5
theorem sc_is_word : FnScope ["value"] ["value"] (defScope s_is_word) := ⟨rfl, rfl, rfl, by decide +kernel, rfl, by decide +kernel, by decide +kernel⟩
abbrev s_is_mark : Stmt := topS 6
theorem sc_is_mark : FnScope ["value"] ["value"] (defScope s_is_mark) := ⟨rfl, rfl, rfl, by decide +kernel, rfl, by decide +kernel, by decide +kernel⟩
abbrev s_is_token : Stmt := topS 7
theorem sc_is_token : FnScope ["value"] ["value"] (defScope s_is_token) := ⟨rfl, rfl, rfl, by decide +kernel, rfl, by decide +kernel, by decide +kernel⟩
abbrev s__is_whole : Stmt := topS 8
theorem sc__is_whole : FnScope ["value"] ["value"] (defScope s__is_whole) := ⟨rfl, rfl, rfl, by decide +kernel, rfl, by decide +kernel, by decide +kernel⟩
abbrev s__has_only : Stmt := topS 9
theorem sc__has_only : FnScope ["text", "characters", "character"] ["text", "characters"] (defScope s__has_only) := ⟨rfl, rfl, rfl, by decide +kernel, rfl, by decide +kernel, by decide +kernel⟩
abbrev s__law_cell : Stmt := topS 11
theorem sc__law_cell : FnScope ["_law_script", "_law_k"] ["_law_script", "_law_k"] (defScope s__law_cell) := ⟨rfl, rfl, rfl, by decide +kernel, rfl, by decide +kernel, by decide +kernel⟩
abbrev s__law_box : Stmt := topS 12
theorem sc__law_box : FnScope ["_law_cell_here"] ["_law_cell_here"] (defScope s__law_box) := ⟨rfl, rfl, rfl, by decide +kernel, rfl, by decide +kernel, by decide +kernel⟩
abbrev s__law_take : Stmt := topS 13
theorem sc__law_take : FnScope ["_law_box_here", "_law_many", "_law_digit", "_law_number_here"] ["_law_box_here", "_law_many"] (defScope s__law_take) := ⟨rfl, rfl, rfl, by decide +kernel, rfl, by decide +kernel, by decide +kernel⟩
abbrev s__law_number : Stmt := topS 14
theorem sc__law_number : FnScope ["_law_box_here", "_law_far", "_law_some"] ["_law_box_here"] (defScope s__law_number) := ⟨rfl, rfl, rfl, by decide +kernel, rfl, by decide +kernel, by decide +kernel⟩
abbrev s__law_string : Stmt := topS 15
theorem sc__law_string : FnScope ["_law_box_here", "_law_letters", "_law_many", "_law_first", "_law_step", "_law_text", "_law_k", "_law_at", "_law_sign"] ["_law_box_here"] (defScope s__law_string) := ⟨rfl, rfl, rfl, by decide +kernel, rfl, by decide +kernel, by decide +kernel⟩
abbrev s__law_mark : Stmt := topS 16
theorem sc__law_mark : FnScope ["_law_box_here", "_law_kind", "_law_text"] ["_law_box_here"] (defScope s__law_mark) := ⟨rfl, rfl, rfl, by decide +kernel, rfl, by decide +kernel, by decide +kernel⟩
abbrev s__law_is_mark : Stmt := topS 17
theorem sc__law_is_mark : FnScope ["_law_text"] ["_law_text"] (defScope s__law_is_mark) := ⟨rfl, rfl, rfl, by decide +kernel, rfl, by decide +kernel, by decide +kernel⟩
abbrev s__law_is_word : Stmt := topS 18
theorem sc__law_is_word : FnScope ["_law_text", "_law_sign"] ["_law_text"] (defScope s__law_is_word) := ⟨rfl, rfl, rfl, by decide +kernel, rfl, by decide +kernel, by decide +kernel⟩
abbrev s__law_is : Stmt := topS 19
theorem sc__law_is : FnScope ["_law_found", "_law_due"] ["_law_found", "_law_due"] (defScope s__law_is) := ⟨rfl, rfl, rfl, by decide +kernel, rfl, by decide +kernel, by decide +kernel⟩
abbrev s_law : Stmt := topS 20
theorem sc_law : FnScope ["_law_script", "_law_k", "_law_box_here", "_law_low", "_law_high", "_law_number_here", "_law_odd", "_law_turn", "_law_word", "_law_mark_here", "_law_some"] ["_law_script"] (defScope s_law) := ⟨rfl, rfl, rfl, by decide +kernel, rfl, by decide +kernel, by decide +kernel⟩
structure TX (w : World) (K : PySem.W.Frag) (mg : Str → Option Value) where
  a_is_integer : Addr
  d_is_integer : FuncData
  F_is_integer : Fun K "is_integer" "is_integer" s_is_integer a_is_integer d_is_integer
  g_is_integer : mg "is_integer" = some (.ref a_is_integer)
  b_is_integer : Binds K d_is_integer ["value", "low", "high"] []
  a_is_word : Addr
  d_is_word : FuncData
  F_is_word : Fun K "is_word" "is_word" s_is_word a_is_word d_is_word
  g_is_word : mg "is_word" = some (.ref a_is_word)
  b_is_word : Binds K d_is_word ["value"] []
  a_is_mark : Addr
  d_is_mark : FuncData
  F_is_mark : Fun K "is_mark" "is_mark" s_is_mark a_is_mark d_is_mark
  g_is_mark : mg "is_mark" = some (.ref a_is_mark)
  b_is_mark : Binds K d_is_mark ["value"] []
  a_is_token : Addr
  d_is_token : FuncData
  F_is_token : Fun K "is_token" "is_token" s_is_token a_is_token d_is_token
  g_is_token : mg "is_token" = some (.ref a_is_token)
  b_is_token : Binds K d_is_token ["value"] []
  a__is_whole : Addr
  d__is_whole : FuncData
  F__is_whole : Fun K "_is_whole" "_is_whole" s__is_whole a__is_whole d__is_whole
  g__is_whole : mg "_is_whole" = some (.ref a__is_whole)
  b__is_whole : Binds K d__is_whole ["value"] []
  a__has_only : Addr
  d__has_only : FuncData
  F__has_only : Fun K "_has_only" "_has_only" s__has_only a__has_only d__has_only
  g__has_only : mg "_has_only" = some (.ref a__has_only)
  b__has_only : Binds K d__has_only ["text", "characters"] []
  a__law_cell : Addr
  d__law_cell : FuncData
  F__law_cell : Fun K "_law_cell" "_law_cell" s__law_cell a__law_cell d__law_cell
  g__law_cell : mg "_law_cell" = some (.ref a__law_cell)
  b__law_cell : Binds K d__law_cell ["_law_script", "_law_k"] []
  a__law_box : Addr
  d__law_box : FuncData
  F__law_box : Fun K "_law_box" "_law_box" s__law_box a__law_box d__law_box
  g__law_box : mg "_law_box" = some (.ref a__law_box)
  b__law_box : Binds K d__law_box ["_law_cell_here"] []
  a__law_take : Addr
  d__law_take : FuncData
  F__law_take : Fun K "_law_take" "_law_take" s__law_take a__law_take d__law_take
  g__law_take : mg "_law_take" = some (.ref a__law_take)
  b__law_take : Binds K d__law_take ["_law_box_here", "_law_many"] []
  a__law_number : Addr
  d__law_number : FuncData
  F__law_number : Fun K "_law_number" "_law_number" s__law_number a__law_number d__law_number
  g__law_number : mg "_law_number" = some (.ref a__law_number)
  b__law_number : Binds K d__law_number ["_law_box_here"] []
  a__law_string : Addr
  d__law_string : FuncData
  F__law_string : Fun K "_law_string" "_law_string" s__law_string a__law_string d__law_string
  g__law_string : mg "_law_string" = some (.ref a__law_string)
  b__law_string : Binds K d__law_string ["_law_box_here"] []
  a__law_mark : Addr
  d__law_mark : FuncData
  F__law_mark : Fun K "_law_mark" "_law_mark" s__law_mark a__law_mark d__law_mark
  g__law_mark : mg "_law_mark" = some (.ref a__law_mark)
  b__law_mark : Binds K d__law_mark ["_law_box_here"] []
  a__law_is_mark : Addr
  d__law_is_mark : FuncData
  F__law_is_mark : Fun K "_law_is_mark" "_law_is_mark" s__law_is_mark a__law_is_mark d__law_is_mark
  g__law_is_mark : mg "_law_is_mark" = some (.ref a__law_is_mark)
  b__law_is_mark : Binds K d__law_is_mark ["_law_text"] []
  a__law_is_word : Addr
  d__law_is_word : FuncData
  F__law_is_word : Fun K "_law_is_word" "_law_is_word" s__law_is_word a__law_is_word d__law_is_word
  g__law_is_word : mg "_law_is_word" = some (.ref a__law_is_word)
  b__law_is_word : Binds K d__law_is_word ["_law_text"] []
  a__law_is : Addr
  d__law_is : FuncData
  F__law_is : Fun K "_law_is" "_law_is" s__law_is a__law_is d__law_is
  g__law_is : mg "_law_is" = some (.ref a__law_is)
  b__law_is : Binds K d__law_is ["_law_found", "_law_due"] []
  a_law : Addr
  d_law : FuncData
  F_law : Fun K "law" "law" s_law a_law d_law
  g_law : mg "law" = some (.ref a_law)
  b_law : Binds K d_law ["_law_script"] []
  m_all : mg "all" = none
  m_bool : mg "bool" = none
  m_int : mg "int" = none
  m_isinstance : mg "isinstance" = none
  m_len : mg "len" = none
  m_max : mg "max" = none
  m_min : mg "min" = none
  m_range : mg "range" = none
  m_str : mg "str" = none
  m_tuple : mg "tuple" = none
  t_LETTERS : Tok
  c_LETTERS : mg "LETTERS" = some (.str (Str.ofString "abcdefghijklmnopqrstuvwxyz") t_LETTERS)
  t_LONGEST_WORD : Tok
  c_LONGEST_WORD : mg "LONGEST_WORD" = some (.int 30 t_LONGEST_WORD)
  a_MARK_PLACES : Addr
  c_MARK_PLACES : mg "MARK_PLACES" = some (.ref a_MARK_PLACES)
  e_MARK_PLACES : Array DictEntry
  n_MARK_PLACES : Nat
  k_MARK_PLACES : KDict K w a_MARK_PLACES e_MARK_PLACES n_MARK_PLACES
  i_MARK_PLACES : ∀ z : Str, ∃ r, PySem.W.nsIn K a_MARK_PLACES z = some r ∧ r.isSome = markS z
section
variable {P : Program} {w : World} {K : PySem.W.Frag} {mg : Str → Option Value} {base : Heap}
theorem ok__law_cell (T : TX w K mg) : FnOk P w K mg base CX0 1 T.a__law_cell T.d__law_cell ["_law_script", "_law_k"] (spCell K) := by
  refine T.F__law_cell.ok sc__law_cell (fun vs H Q E h => ?_) (fun cdv A outer s H vs Q E hr h => ?_)
  · obtain ⟨l, ns, j, rfl, hS, hj, q⟩ := h
    rfl
  · obtain ⟨l, ns, j, rfl, hS, hj, q⟩ := h
    refine ⟨_, (pss_cons (ps_if (pt_cmpR op_lt (pv 1) (pe_callB call_len (by rfl) T.m_len (by decide +kernel) (pa_cons (pv 0) pa_nil)) (nomark _))
        (pss_one (ps_ret (pe_ix ix_list (pv 0) (pv 1) (fun _ _ => rfl)))) pss_nil)
      (pss_one (ps_ret (pe_op op_add (pe_op op_mul pe_int (pv 1)) pe_int)))), ?_⟩
    refine ⟨_, rfl, .ref l, rfl, _, _, rfl, .inl ⟨_, hS, rfl⟩, _, _, rfl, rfl, _, rfl, ite2 (fun e => ?_) (fun e => ?_)⟩
    · have e2 := of_decide_eq_true e
      rw [List.length_map] at e2
      have hj2 : j < ns.length := by omega
      refine ⟨.ref l, rfl, _, rfl, l, _, _, .int ns[j], rfl, rfl, hS, atI_nat ?_, q _⟩
      rw [List.getElem?_map, List.getElem?_eq_getElem hj2]
      rfl
    · refine ⟨_, rfl, _, _, rfl, rfl, .inl ⟨by decide, by decide⟩, _, _, rfl, rfl, q _⟩
theorem ok__law_box (T : TX w K mg) : FnOk P w K mg base CX0 1 T.a__law_box T.d__law_box ["_law_cell_here"] (spBox) := by
  refine T.F__law_box.ok sc__law_box (fun vs H Q E h => ?_) (fun cdv A outer s H vs Q E hr h => ?_)
  · obtain ⟨z, rfl, q⟩ := h
    rfl
  · obtain ⟨z, rfl, q⟩ := h
    refine ⟨_, (pss_one (ps_ret (pe_lst (pa_cons (pe_callB (call_max2 rfl) (by rfl) T.m_max (by decide +kernel) (pa_cons pe_int (pa_cons (pe_op op_sub (pv 0) (pe_op op_pow pe_int pe_int)) pa_nil))) (pa_cons (pe_op op_modN (pv 0) pe_int) (pa_cons pe_int pa_nil)))))), ?_⟩
    refine ⟨_, rfl, _, _, rfl, rfl, ⟨by decide, by decide, by decide⟩, _, _, rfl, rfl, _, _, rfl, ?_⟩
    refine ⟨_, rfl, _, _, rfl, rfl, (by show (2147483629 : Int) ≠ 0; decide), ?_⟩
    refine ⟨(by show (3 : Nat) ≤ sizeLine; decide), fun p hp => q p _ _ hp ?_ ?_ ?_⟩
    · split <;> omega
    · rw [Int.fmod_eq_emod_of_nonneg _ (by decide)]
      exact Int.emod_nonneg _ (by decide)
    · rw [Int.fmod_eq_emod_of_nonneg _ (by decide)]
      exact Int.emod_lt_of_pos _ (by decide)
theorem ok__law_take (T : TX w K mg) : FnOk P w K mg base CX0 1 T.a__law_take T.d__law_take ["_law_box_here", "_law_many"] (spTake) := by
  refine T.F__law_take.ok sc__law_take (fun vs H Q E h => ?_) (fun cdv A outer s H vs Q E hr h => ?_)
  · obtain ⟨p, m, n, rfl, h1, h2, hn, ⟨a, b, c, e, ha, hb, hb2, hc, hcn⟩, q⟩ := h
    rfl
  · obtain ⟨p, m, n, rfl, h1, h2, hn, ⟨a, b, c, e, ha, hb, hb2, hc, hcn⟩, q⟩ := h
    refine ⟨_, (pss_cons (ps_if (pt_cmpR op_gt (pe_ix ix_list (pv 0) pe_int (fun _ _ => rfl)) pe_int (nomark _))
        (pss_cons (ps_set (i := 2) sc__law_take.nd rfl (by first | exact Or.inl rfl | exact Or.inr rfl) (pe_op op_modN (pe_ix ix_list (pv 0) pe_int (fun _ _ => rfl)) (pv 1)))
        (pss_cons (ps_asg (pe_op op_fdivW (pe_ix ix_list (pv 0) pe_int (fun _ _ => rfl)) (pv 1)) (pg_sub (pv 0) pe_int set_list))
        (pss_one (ps_ret (pv 2))))) pss_nil)
      (pss_cons (ps_asg (pe_op op_add (pe_ix ix_list (pv 0) pe_int (fun _ _ => rfl)) pe_int) (pg_sub (pv 0) pe_int set_list))
      (pss_cons (ps_set (i := 3) sc__law_take.nd rfl (by first | exact Or.inl rfl | exact Or.inr rfl) (pe_op op_modN (pe_op op_pow (pe_op op_add (pe_op op_add (pe_ix ix_list (pv 0) pe_int (fun _ _ => rfl)) (pe_op op_mul pe_int (pe_ix ix_list (pv 0) pe_int (fun _ _ => rfl)))) pe_int) pe_int) pe_int))
      (pss_cons (ps_set (i := 3) sc__law_take.nd rfl (by first | exact Or.inl rfl | exact Or.inr rfl) (pe_op op_modN (pe_op op_pow (pe_op op_add (pv 3) (pe_op op_mul pe_int (pe_ix ix_list (pv 0) pe_int (fun _ _ => rfl)))) pe_int) pe_int))
      (pss_one (ps_ret (pe_op op_modN (pe_op op_fdivW (pv 3) pe_int) (pv 1)))))))), ?_⟩
    have hm : m ≠ 0 := by omega
    have S0 : SqL K H p [.int a, .int b, .int c] := SqL.of e
    refine ⟨.ref p, rfl, p, _, _, .int a, rfl, rfl, S0, atI_nat (j := 0) rfl, _, _, rfl, rfl, _, rfl, ite2 (fun e2 => ?_) (fun e2 => ?_)⟩
    · have a0 : 0 < a := of_decide_eq_true e2
      refine ⟨.ref p, rfl, p, _, _, .int a, rfl, rfl, S0, atI_nat (j := 0) rfl, _, rfl, _, _, rfl, rfl, hm, ?_⟩
      refine ⟨.ref p, rfl, p, _, _, .int a, rfl, rfl, S0, atI_nat (j := 0) rfl, _, rfl, _, _, rfl, rfl, wide_div (b := 200) (by omega) h2 (by decide) (by decide), ?_⟩
      refine ⟨.ref p, rfl, p, _, _, 0, rfl, rfl, e, rfl, ?_⟩
      refine ⟨_, rfl, q _ _ ?_ ?_ ⟨_, _, _, upd_same, ?_, hb, hb2, hc, by omega⟩⟩
      · rw [Int.fmod_eq_emod_of_nonneg _ (by omega)]
        exact Int.emod_nonneg _ hm
      · rw [Int.fmod_eq_emod_of_nonneg _ (by omega)]
        exact Int.emod_lt_of_pos _ (by omega)
      · exact Int.ediv_nonneg ha (by omega)
    · refine ⟨.ref p, rfl, p, _, _, .int c, rfl, rfl, S0, atI_nat (j := 2) rfl, _, _, rfl, rfl, .ref p, rfl, p, _, _, 2, rfl, rfl, e, rfl, ?_⟩
      have e3 : upd H p (.lst [.int a, .int b, .int (c + 1)]) p = some (.lst [.int a, .int b, .int (c + 1)]) := upd_same
      have S1 : SqL K (upd H p (.lst [.int a, .int b, .int (c + 1)])) p [.int a, .int b, .int (c + 1)] := SqL.of e3
      refine ⟨.ref p, rfl, p, _, _, .int b, rfl, rfl, S1, atI_nat (j := 1) rfl, .ref p, rfl, p, _, _, .int (c + 1), rfl, rfl, S1, atI_nat (j := 2) rfl, _, _, rfl, rfl, .inl ⟨by decide, by decide⟩, _, _, rfl, rfl, _, _, rfl, rfl, _, _, rfl, rfl, ⟨by decide, by decide, by omega⟩, _, _, rfl, rfl, (by show (2147483647 : Int) ≠ 0; decide), ?_⟩
      refine ⟨_, rfl, .ref p, rfl, p, _, _, .int (c + 1), rfl, rfl, S1, atI_nat (j := 2) rfl, _, _, rfl, rfl, .inl ⟨by decide, by decide⟩, _, _, rfl, rfl, _, _, rfl, rfl, ⟨by decide, by decide, ?_⟩, _, _, rfl, rfl, (by show (2147483587 : Int) ≠ 0; decide), ?_⟩
      · rw [Int.fmod_eq_emod_of_nonneg _ (by decide)]
        have z1 := Int.emod_nonneg ((b + 7919 * (c + 1) + 43) ^ (5 : Int).toNat) (show (2147483647 : Int) ≠ 0 by decide)
        have z2 := Int.emod_lt_of_pos ((b + 7919 * (c + 1) + 43) ^ (5 : Int).toNat) (show (0 : Int) < 2147483647 by decide)
        omega
      · refine ⟨_, rfl, _, _, rfl, rfl, ⟨by decide, by decide⟩, _, rfl, _, _, rfl, rfl, hm, q _ _ ?_ ?_ ⟨_, _, _, e3, ha, hb, hb2, by omega, by omega⟩⟩
        · rw [Int.fmod_eq_emod_of_nonneg _ (by omega)]
          exact Int.emod_nonneg _ hm
        · rw [Int.fmod_eq_emod_of_nonneg _ (by omega)]
          exact Int.emod_lt_of_pos _ (by omega)
theorem ok__is_whole (T : TX w K mg) : FnOk P w K mg base CX0 1 T.a__is_whole T.d__is_whole ["value"] (spWhole) := by
  refine T.F__is_whole.ok sc__is_whole (fun vs H Q E h => ?_) (fun cdv A outer s H vs Q E hr h => ?_)
  · obtain ⟨v, t, rfl, ty, q⟩ := h
    rfl
  · obtain ⟨v, t, rfl, ty, q⟩ := h
    refine ⟨_, (pss_one (ps_ret (pe_and (pe_callB call_isi (by rfl) T.m_isinstance (by decide +kernel) (pa_cons (pv 0) (pa_cons (pe_bltn (v := V.ty "int") (u := .type "int") (by rfl) T.m_int (by decide +kernel) rfl) pa_nil))) (pe_one (pe_not (pe_callB call_isi (by rfl) T.m_isinstance (by decide +kernel) (pa_cons (pv 0) (pa_cons (pe_bltn (v := V.ty "bool") (u := .type "bool") (by rfl) T.m_bool (by decide +kernel) rfl) pa_nil)))))))), ?_⟩
    refine ⟨_, rfl, _, _, _, _, _, rfl, .ty _, ty.x, kit_ty (kit_int ty), _, rfl, ?_⟩
    have r := kit_ty (K := K) (kit_bool ty)
    have x := ty.x (K := K)
    cases ty with
    | int i => exact iteT ⟨_, rfl, _, _, _, _, _, rfl, .ty _, x, r, _, rfl, q⟩
    | bl b => exact iteT ⟨_, rfl, _, _, _, _, _, rfl, .ty _, x, r, _, rfl, q⟩
    | non => exact iteF q
    | str z h => exact iteF q
    | lst e => exact iteF q
    | tup e => exact iteF q
    | dct e => exact iteF q
theorem ok_is_integer (T : TX w K mg) : FnOk P w K mg base CX0 2 T.a_is_integer T.d_is_integer ["value", "low", "high"] (spIsInteger) := by
  refine T.F_is_integer.ok sc_is_integer (fun vs H Q E h => ?_) (fun cdv A outer s H vs Q E hr h => ?_)
  · obtain ⟨v, t, lo, hi, rfl, ty, q⟩ := h
    rfl
  · obtain ⟨v, t, lo, hi, rfl, ty, q⟩ := h
    refine ⟨_, (pss_one (ps_ret (pe_and (pe_call (ok__is_whole T) (hr.mono (by decide)) (by rfl) T.g__is_whole T.F__is_whole.kp T.b__is_whole .nil pass0 (pa_cons (pv 0) pa_nil)) (pe_one (pe_chain op_le op_le (pv 1) (pv 0) (pv 2)))))), ?_⟩
    refine ⟨_, rfl, v, t, rfl, ty, _, rfl, ?_⟩
    cases v with
    | int i =>
      refine iteT ⟨_, rfl, _, rfl, _, _, rfl, rfl, _, rfl, ?_⟩
      by_cases c : lo ≤ i
      · rw [if_pos (decide_eq_true c)]
        refine ⟨_, rfl, _, _, rfl, rfl, ?_⟩
        have e : inI (.int i) lo hi = decide (i ≤ hi) := by
          show (decide (lo ≤ i) && decide (i ≤ hi)) = _
          rw [decide_eq_true c]
          rfl
        rw [e] at q
        exact q
      · rw [if_neg (by rw [decide_eq_false c]; exact Bool.false_ne_true)]
        have e : inI (.int i) lo hi = false := by
          show (decide (lo ≤ i) && decide (i ≤ hi)) = _
          rw [decide_eq_false c]
          rfl
        rw [e] at q
        exact q
    | _ => exact iteF q
theorem ok__has_only (T : TX w K mg) : FnOk P w K mg base CX0 1 T.a__has_only T.d__has_only ["text", "characters"] (spOnly) := by
  refine T.F__has_only.ok sc__has_only (fun vs H Q E h => ?_) (fun cdv A outer s H vs Q E hr h => ?_)
  · obtain ⟨z, cs, rfl, hz, q⟩ := h
    rfl
  · obtain ⟨z, cs, rfl, hz, q⟩ := h
    refine ⟨_, (pss_one (ps_ret (pe_callB (cr_all rfl) (by rfl) T.m_all (by decide +kernel) (pa_cons (pe_lc (own := [("character", 2)]) (tt := tYes) rfl sc__has_only.nd (pi_str (pv 0)) (blkOk_by (N := ["text", "characters", "character"]) (sc := defScope s__has_only) (by decide +kernel)) (fun _ _ _ _ _ => (pg_name (i := 2) sc__has_only.nd rfl (by first | exact Or.inl rfl | exact Or.inr rfl))) (fun _ _ _ _ _ => pts_nil) (fun _ _ _ _ _ => (pe_cmpR op_in_sign (pv 2) (pv 1) (by rfl)))) pa_nil)))), ?_⟩
    refine ⟨_, rfl, z, rfl, fun D hD => ?_⟩
    refine lc_it walk_str (fun i H' => H' = upd H D (.lst (((z.cps.toList.take i).map fun c => decide (c ∈ cs.cps.toList)).map V.bl))) rfl (fun _ _ _ _ => trivial) (fun i x H1 H2 hi hP hY => ?_) (fun H1 hP => ?_)
    · obtain ⟨rfl, c, hc, rfl⟩ := hY
      subst hP
      refine ⟨rfl, _, rfl, _, rfl, c, cs, rfl, rfl, _, upd_same, ?_, ?_⟩
      · rw [List.length_map, List.length_map, List.length_take]
        exact sz (by rw [len_list]; omega)
      · rw [upd_upd, List.take_add_one, show z.cps.toList[i]? = some c from by rw [← hc]; simp]
        simp
    · subst hP
      refine ⟨D, _, rfl, SqL.of upd_same, ?_⟩
      have e : ((z.cps.toList.take z.cps.size).map fun c => decide (c ∈ cs.cps.toList)).all id = onlyS z cs := by
        rw [List.take_of_length_le (by simp)]
        unfold onlyS
        rw [List.all_map]
        rfl
      rw [e]
      exact q _ (same_new (Same.refl H) hD)
theorem ok_is_word (T : TX w K mg) : FnOk P w K mg base CX0 2 T.a_is_word T.d_is_word ["value"] (spIsWord) := by
  refine T.F_is_word.ok sc_is_word (fun vs H Q E h => ?_) (fun cdv A outer s H vs Q E hr h => ?_)
  · obtain ⟨v, t, rfl, ty, q⟩ := h
    rfl
  · obtain ⟨v, t, rfl, ty, q⟩ := h
    refine ⟨_, (pss_one (ps_ret (pe_and (pe_callB call_isi (by rfl) T.m_isinstance (by decide +kernel) (pa_cons (pv 0) (pa_cons (pe_bltn (v := V.ty "str") (u := .type "str") (by rfl) T.m_str (by decide +kernel) rfl) pa_nil))) (pe_and (pe_chain op_le op_le pe_int (pe_callB call_len_str (by rfl) T.m_len (by decide +kernel) (pa_cons (pv 0) pa_nil)) (pe_glob (v := V.int 30) (by rfl) T.c_LONGEST_WORD ⟨_, rfl⟩)) (pe_one (pe_call (ok__has_only T) (hr.mono (by decide)) (by rfl) T.g__has_only T.F__has_only.kp T.b__has_only .nil pass0 (pa_cons (pv 0) (pa_cons (pe_glob (v := V.str (Str.ofString "abcdefghijklmnopqrstuvwxyz")) (by rfl) T.c_LETTERS ⟨_, rfl⟩) pa_nil)))))))), ?_⟩
    refine ⟨_, rfl, _, _, _, _, _, rfl, .ty _, ty.x, kit_ty (kit_str ty), _, rfl, ?_⟩
    cases ty with
    | str z h =>
      refine iteT ⟨_, rfl, z, rfl, szl (by omega), _, _, rfl, rfl, _, rfl, ?_⟩
      have qq : ∀ (b : Bool), wordS z = b → ∀ H', Same H H' → Q (.bl b) H' := fun b e => by
        rw [← e]
        exact q
      by_cases c : (1 : Int) ≤ (z.length : Int)
      · rw [if_pos (decide_eq_true c)]
        refine ⟨_, _, rfl, rfl, _, rfl, ?_⟩
        by_cases c2 : (z.length : Int) ≤ 30
        · rw [if_pos (decide_eq_true c2)]
          refine ⟨_, rfl, z, abc, rfl, h, fun H' s => qq _ ?_ H' s⟩
          unfold wordS
          rw [decide_eq_true (show 1 ≤ z.length by omega), decide_eq_true (show z.length ≤ 30 by omega)]
          rfl
        · rw [if_neg (by rw [decide_eq_false c2]; exact Bool.false_ne_true)]
          refine qq _ ?_ H (Same.refl H)
          unfold wordS
          rw [decide_eq_false (show ¬ z.length ≤ 30 by omega), Bool.and_false]
          rfl
      · rw [if_neg (by rw [decide_eq_false c]; exact Bool.false_ne_true)]
        refine ⟨_, rfl, iteF (qq _ ?_ H (Same.refl H))⟩
        unfold wordS
        rw [decide_eq_false (show ¬ 1 ≤ z.length by omega)]
        rfl
    | _ => exact iteF (q H (Same.refl H))
theorem ok_is_mark (T : TX w K mg) : FnOk P w K mg base CX0 1 T.a_is_mark T.d_is_mark ["value"] (spIsMark) := by
  refine T.F_is_mark.ok sc_is_mark (fun vs H Q E h => ?_) (fun cdv A outer s H vs Q E hr h => ?_)
  · obtain ⟨v, t, rfl, ty, q⟩ := h
    rfl
  · obtain ⟨v, t, rfl, ty, q⟩ := h
    refine ⟨_, (pss_one (ps_ret (pe_and (pe_callB call_isi (by rfl) T.m_isinstance (by decide +kernel) (pa_cons (pv 0) (pa_cons (pe_bltn (v := V.ty "str") (u := .type "str") (by rfl) T.m_str (by decide +kernel) rfl) pa_nil))) (pe_one (pe_cmpR (op_in_kd T.k_MARK_PLACES) (pv 0) (pe_glob (v := V.ref T.a_MARK_PLACES) (by rfl) T.c_MARK_PLACES rfl) (by rfl)))))), ?_⟩
    refine ⟨_, rfl, _, _, _, _, _, rfl, .ty _, ty.x, kit_ty (kit_str ty), _, rfl, ?_⟩
    cases ty with
    | str z h =>
      obtain ⟨r, e1, e2⟩ := T.i_MARK_PLACES z
      refine iteT ⟨_, rfl, z, r, rfl, rfl, e1, ?_⟩
      rw [e2]
      exact q
    | _ => exact iteF q
theorem ok_is_token (T : TX w K mg) : FnOk P w K mg base CX0 3 T.a_is_token T.d_is_token ["value"] (spIsToken) := by
  refine T.F_is_token.ok sc_is_token (fun vs H Q E h => ?_) (fun cdv A outer s H vs Q E hr h => ?_)
  · obtain ⟨v, b, rfl, tk, q⟩ := h
    rfl
  · obtain ⟨v, b, rfl, tk, q⟩ := h
    refine ⟨_, (pss_one (ps_ret (pe_and (pe_callB call_isi (by rfl) T.m_isinstance (by decide +kernel) (pa_cons (pv 0) (pa_cons (pe_bltn (v := V.ty "tuple") (u := .type "tuple") (by rfl) T.m_tuple (by decide +kernel) rfl) pa_nil))) (pe_and (pe_cmpR op_eq (pe_callB call_len (by rfl) T.m_len (by decide +kernel) (pa_cons (pv 0) pa_nil)) pe_int (nomark _)) (pe_and (pe_call (ok_is_mark T) (hr.mono (by decide)) (by rfl) T.g_is_mark T.F_is_mark.kp T.b_is_mark .nil pass0 (pa_cons (pe_ix ix_tup (pv 0) pe_int (fun _ _ => rfl)) pa_nil)) (pe_one (pe_call (ok_is_word T) (hr.mono (by decide)) (by rfl) T.g_is_word T.F_is_word.kp T.b_is_word .nil pass0 (pa_cons (pe_ix ix_tup (pv 0) pe_int (fun _ _ => rfl)) pa_nil)))))))), ?_⟩
    cases tk with
    | odd ty n =>
      refine ⟨_, rfl, _, _, _, _, _, rfl, .ty _, ty.x, kit_ty (kit_tuple ty), _, rfl, ?_⟩
      rw [n]
      exact iteF (q H (Same.refl H))
    | len e n =>
      refine ⟨_, rfl, _, _, _, _, _, rfl, .ty _, (Ty7.tup e).x, kit_ty (kit_tuple (Ty7.tup e)), _, rfl, iteT ?_⟩
      refine ⟨_, rfl, _, _, rfl, .inr ⟨_, SqT.of e, rfl⟩, rfl, _, rfl, ?_⟩
      rw [decide_eq_false (by intro z; exact n (by have z2 := V.int.inj z; omega))]
      exact iteF (q H (Same.refl H))
    | two e hx hy =>
      refine ⟨_, rfl, _, _, _, _, _, rfl, .ty _, (Ty7.tup e).x, kit_ty (kit_tuple (Ty7.tup e)), _, rfl, iteT ?_⟩
      refine ⟨_, rfl, _, _, rfl, .inr ⟨_, SqT.of e, rfl⟩, rfl, _, rfl, iteT ?_⟩
      refine ⟨_, rfl, _, _, _, _, rfl, rfl, SqT.of e, atI_nat (j := 0) rfl, _, _, rfl, hx, _, rfl, ?_⟩
      rename_i a x y s' t'
      cases hm : markV x with
      | true =>
        rw [hm] at q
        refine iteT ⟨_, rfl, _, _, _, _, rfl, rfl, SqT.of e, atI_nat (j := 1) rfl, _, _, rfl, hy, q⟩
      | false =>
        rw [hm] at q
        exact iteF (q H (Same.refl H))
end
end RV


namespace RV
open PySem PySem.Spec PyProof.Rows L2 TL
section
variable {P : Program} {w : World} {K : PySem.W.Frag} {mg : Str → Option Value} {base : Heap}
theorem ok__law_number (T : TX w K mg) : FnOk P w K mg base CX0 2 T.a__law_number T.d__law_number ["_law_box_here"] (spNumber) := by
  refine T.F__law_number.ok sc__law_number (fun vs H Q E h => ?_) (fun cdv A outer s H vs Q E hr h => ?_)
  · obtain ⟨p, n, rfl, hn, B0, q⟩ := h
    rfl
  · obtain ⟨p, n, rfl, hn, B0, q⟩ := h
    refine ⟨_, (pss_cons (ps_set (i := 1) sc__law_number.nd rfl (by first | exact Or.inl rfl | exact Or.inr rfl) (pe_op op_add (pe_op op_add (pe_op op_mul (pe_call (ok__law_take T) (hr.mono (by decide)) (by rfl) T.g__law_take T.F__law_take.kp T.b__law_take .nil pass0 (pa_cons (pv 0) (pa_cons (pe_op op_pow pe_int pe_int) pa_nil))) (pe_op op_pow pe_int pe_int)) (pe_op op_mul (pe_call (ok__law_take T) (hr.mono (by decide)) (by rfl) T.g__law_take T.F__law_take.kp T.b__law_take .nil pass0 (pa_cons (pv 0) (pa_cons (pe_op op_pow pe_int pe_int) pa_nil))) (pe_op op_pow pe_int pe_int))) (pe_call (ok__law_take T) (hr.mono (by decide)) (by rfl) T.g__law_take T.F__law_take.kp T.b__law_take .nil pass0 (pa_cons (pv 0) (pa_cons (pe_op op_pow pe_int pe_int) pa_nil)))))
      (pss_cons (ps_set (i := 2) sc__law_number.nd rfl (by first | exact Or.inl rfl | exact Or.inr rfl) (pe_lst (pa_cons (pe_call (ok__law_take T) (hr.mono (by decide)) (by rfl) T.g__law_take T.F__law_take.kp T.b__law_take .nil pass0 (pa_cons (pv 0) (pa_cons pe_int pa_nil))) (pa_cons (pe_call (ok__law_take T) (hr.mono (by decide)) (by rfl) T.g__law_take T.F__law_take.kp T.b__law_take .nil pass0 (pa_cons (pv 0) (pa_cons (pe_op op_pow pe_int pe_int) pa_nil))) (pa_cons (pv 1) (pa_cons (pe_op op_sub (pe_op op_sub (pe_op op_pow pe_int pe_int) pe_int) (pe_call (ok__law_take T) (hr.mono (by decide)) (by rfl) T.g__law_take T.F__law_take.kp T.b__law_take .nil pass0 (pa_cons (pv 0) (pa_cons pe_int pa_nil)))) pa_nil))))))
      (pss_one (ps_ret (pe_op op_mul (pe_ix ix_list (pv 2) (pe_call (ok__law_take T) (hr.mono (by decide)) (by rfl) T.g__law_take T.F__law_take.kp T.b__law_take .nil pass0 (pa_cons (pv 0) (pa_cons pe_int pa_nil))) (fun _ _ => rfl)) (pe_ix ix_list (pe_lst (pa_cons pe_int (pa_cons (pe_un un_neg pe_int) pa_nil))) (pe_call (ok__law_take T) (hr.mono (by decide)) (by rfl) T.g__law_take T.F__law_take.kp T.b__law_take .nil pass0 (pa_cons (pv 0) (pa_cons pe_int pa_nil))) (fun _ _ => rfl))))))), ?_⟩
    refine ⟨_, rfl, _, _, rfl, rfl, ⟨by decide, by decide, by decide⟩, _, 100000000, n, rfl, by omega, by first | decide | omega, by omega, (by first | exact B0 | exact B0.new (by assumption) | exact (B0.new (by assumption)).new (by assumption)), fun d1 o1 ge1 lt1 B1 => ?_⟩
    refine ⟨_, _, rfl, rfl, ⟨by decide, by decide, by decide⟩, d1, 10000000000000000000000, rfl, rfl, .inl ⟨by omega, by omega⟩, ?_⟩
    refine ⟨_, rfl, _, _, rfl, rfl, ⟨by decide, by decide, by decide⟩, _, 100000000, n + 1, rfl, by omega, by first | decide | omega, by omega, (by first | exact B1 | exact B1.new (by assumption) | exact (B1.new (by assumption)).new (by assumption)), fun d2 o2 ge2 lt2 B2 => ?_⟩
    refine ⟨_, _, rfl, rfl, ⟨by decide, by decide, by decide⟩, d2, 100000000000, rfl, rfl, .inl ⟨by omega, by omega⟩, _, _, rfl, rfl, ?_⟩
    refine ⟨_, rfl, _, _, rfl, rfl, ⟨by decide, by decide, by decide⟩, _, 100000000, n + 1 + 1, rfl, by omega, by first | decide | omega, by omega, (by first | exact B2 | exact B2.new (by assumption) | exact (B2.new (by assumption)).new (by assumption)), fun d3 o3 ge3 lt3 B3 => ?_⟩
    refine ⟨_, _, rfl, rfl, ?_⟩
    refine ⟨_, rfl, _, 41, n + 1 + 1 + 1, rfl, by omega, by first | decide | omega, by omega, (by first | exact B3 | exact B3.new (by assumption) | exact (B3.new (by assumption)).new (by assumption)), fun d4 o4 ge4 lt4 B4 => ?_⟩
    refine ⟨_, rfl, _, _, rfl, rfl, ⟨by decide, by decide, by decide⟩, _, 100000000, n + 1 + 1 + 1 + 1, rfl, by omega, by first | decide | omega, by omega, (by first | exact B4 | exact B4.new (by assumption) | exact (B4.new (by assumption)).new (by assumption)), fun d5 o5 ge5 lt5 B5 => ?_⟩
    refine ⟨_, rfl, _, _, rfl, rfl, ⟨by decide, by decide, by decide⟩, 1000000000000000000000000000000, _, rfl, rfl, ?_⟩
    refine ⟨_, rfl, _, 3, n + 1 + 1 + 1 + 1 + 1, rfl, by omega, by first | decide | omega, by omega, (by first | exact B5 | exact B5.new (by assumption) | exact (B5.new (by assumption)).new (by assumption)), fun d6 o6 ge6 lt6 B6 => ?_⟩
    refine ⟨_, _, rfl, rfl, (by show (4 : Nat) ≤ sizeLine; decide), fun l hl => ?_⟩
    have nl : l ≠ p := (B6.ne hl).symm
    refine ⟨_, rfl, _, rfl, _, 4, n + 1 + 1 + 1 + 1 + 1 + 1, rfl, by omega, by first | decide | omega, by omega, (by first | exact B6 | exact B6.new (by assumption) | exact (B6.new (by assumption)).new (by assumption)), fun d7 o7 ge7 lt7 B7 => ?_⟩
    obtain ⟨v, hv, z, rfl, hz⟩ := atI_all (xs := [V.int d4, V.int d5, V.int (d1 * 10000000000000000000000 + d2 * 100000000000 + d3), V.int (1000000000000000000000000000000 - 9 - d6)]) (P := fun v => ∃ z : Int, v = .int z ∧ z.natAbs < 2 ^ 133) (by
      intro x hx
      simp only [List.mem_cons, List.not_mem_nil, or_false] at hx
      rcases hx with rfl | rfl | rfl | rfl
      all_goals exact ⟨_, rfl, by omega⟩) ge7 lt7
    refine ⟨l, _, _, _, rfl, rfl, SqL.of (by repeat (first | assumption | exact upd_same | refine Eq.trans (upd_ne (by assumption)) ?_ | refine keep_new ?_ (by assumption))), hv, ?_⟩
    refine ⟨_, rfl, (by show (2 : Nat) ≤ sizeLine; decide), fun l2 hl2 => ?_⟩
    have nl2 : l2 ≠ p := (B7.ne hl2).symm
    refine ⟨_, rfl, _, 2, n + 1 + 1 + 1 + 1 + 1 + 1 + 1, rfl, by omega, by first | decide | omega, by omega, (by first | exact B7 | exact B7.new (by assumption) | exact (B7.new (by assumption)).new (by assumption)), fun d8 o8 ge8 lt8 B8 => ?_⟩
    obtain ⟨v2, hv2, z2, rfl, hz2⟩ := atI_all (xs := [V.int 1, V.int (-1)]) (P := fun v => ∃ z : Int, v = .int z ∧ (z = 1 ∨ z = -1)) (by
      intro x hx
      simp only [List.mem_cons, List.not_mem_nil, or_false] at hx
      rcases hx with rfl | rfl
      · exact ⟨_, rfl, .inl rfl⟩
      · exact ⟨_, rfl, .inr rfl⟩) ge8 lt8
    refine ⟨l2, _, _, _, rfl, rfl, SqL.of (by repeat (first | assumption | exact upd_same | refine Eq.trans (upd_ne (by assumption)) ?_ | refine keep_new ?_ (by assumption))), hv2, _, _, rfl, rfl, .inr (by omega), q _ _ ?_ (by repeat (first | exact Sam.refl _ _ | assumption | refine Sam.box ?_ | refine Sam.new ?_ (by assumption))) (B8.mono (by omega))⟩
    rcases hz2 with rfl | rfl
    · rw [Int.mul_one]
      exact hz
    · rw [Int.mul_neg, Int.mul_one, Int.natAbs_neg]
      exact hz
theorem ok__law_string (T : TX w K mg) : FnOk P w K mg base CX0 2 T.a__law_string T.d__law_string ["_law_box_here"] (spString) := by
  refine T.F__law_string.ok sc__law_string (fun vs H Q E h => ?_) (fun cdv A outer s H vs Q E hr h => ?_)
  · obtain ⟨p, n, rfl, hn, B0, q⟩ := h
    rfl
  · obtain ⟨p, n, rfl, hn, B0, q⟩ := h
    refine ⟨_, (pss_cons (ps_set (i := 1) sc__law_string.nd rfl (by first | exact Or.inl rfl | exact Or.inr rfl) pe_str)
      (pss_cons (ps_set (i := 2) sc__law_string.nd rfl (by first | exact Or.inl rfl | exact Or.inr rfl) (pe_ix ix_list (pe_lst (pa_cons (pe_call (ok__law_take T) (hr.mono (by decide)) (by rfl) T.g__law_take T.F__law_take.kp T.b__law_take .nil pass0 (pa_cons (pv 0) (pa_cons pe_int pa_nil))) (pa_cons (pe_op op_add pe_int (pe_call (ok__law_take T) (hr.mono (by decide)) (by rfl) T.g__law_take T.F__law_take.kp T.b__law_take .nil pass0 (pa_cons (pv 0) (pa_cons pe_int pa_nil)))) pa_nil))) (pe_call (ok__law_take T) (hr.mono (by decide)) (by rfl) T.g__law_take T.F__law_take.kp T.b__law_take .nil pass0 (pa_cons (pv 0) (pa_cons pe_int pa_nil))) (fun _ _ => rfl)))
      (pss_cons (ps_asg (pe_tup (pa_cons (pe_call (ok__law_take T) (hr.mono (by decide)) (by rfl) T.g__law_take T.F__law_take.kp T.b__law_take .nil pass0 (pa_cons (pv 0) (pa_cons pe_int pa_nil))) (pa_cons (pe_call (ok__law_take T) (hr.mono (by decide)) (by rfl) T.g__law_take T.F__law_take.kp T.b__law_take .nil pass0 (pa_cons (pv 0) (pa_cons pe_int pa_nil))) pa_nil))) (pg_tup (by rfl) (pgs_cons (pg_name (i := 3) sc__law_string.nd rfl (by first | exact Or.inl rfl | exact Or.inr rfl)) (pgs_cons (pg_name (i := 4) sc__law_string.nd rfl (by first | exact Or.inl rfl | exact Or.inr rfl)) pgs_nil))))
      (pss_cons (ps_set (i := 5) sc__law_string.nd rfl (by first | exact Or.inl rfl | exact Or.inr rfl) (pe_join pe_str (pe_lc (own := [("_law_k", 6)]) (tt := tYes) rfl sc__law_string.nd (pi_range1 (by rfl) T.m_range (pa_cons (pv 2) pa_nil)) (blkOk_by (N := ["_law_box_here", "_law_letters", "_law_many", "_law_first", "_law_step", "_law_text", "_law_k", "_law_at", "_law_sign"]) (sc := defScope s__law_string) (by decide +kernel)) (fun _ _ _ _ _ => (pg_name (i := 6) sc__law_string.nd rfl (by first | exact Or.inl rfl | exact Or.inr rfl))) (fun _ _ _ _ _ => pts_nil) (fun _ _ _ _ _ => (pe_ix ix_str (pv 1) (pe_op op_modN (pe_op op_add (pv 3) (pe_op op_mul (pv 4) (pv 6))) pe_int) (fun _ _ => rfl))))))
      (pss_cons (ps_if (pt_cmpR op_eq (pe_call (ok__law_take T) (hr.mono (by decide)) (by rfl) T.g__law_take T.F__law_take.kp T.b__law_take .nil pass0 (pa_cons (pv 0) (pa_cons pe_int pa_nil))) pe_int (nomark _))
        (pss_cons (ps_set (i := 7) sc__law_string.nd rfl (by first | exact Or.inl rfl | exact Or.inr rfl) (pe_call (ok__law_take T) (hr.mono (by decide)) (by rfl) T.g__law_take T.F__law_take.kp T.b__law_take .nil pass0 (pa_cons (pv 0) (pa_cons (pe_op op_add (pe_callB call_len_str (by rfl) T.m_len (by decide +kernel) (pa_cons (pv 5) pa_nil)) pe_int) pa_nil))))
        (pss_cons (ps_set (i := 8) sc__law_string.nd rfl (by first | exact Or.inl rfl | exact Or.inr rfl) (pe_ix ix_str pe_str (pe_call (ok__law_take T) (hr.mono (by decide)) (by rfl) T.g__law_take T.F__law_take.kp T.b__law_take .nil pass0 (pa_cons (pv 0) (pa_cons pe_int pa_nil))) (fun _ _ => rfl)))
        (pss_one (ps_set (i := 5) sc__law_string.nd rfl (by first | exact Or.inl rfl | exact Or.inr rfl) (pe_ix ix_list (pe_lst (pa_cons (pe_op op_add_str (pe_op op_add_str (pe_slice sl_str (pv 5) po_none (po_some (pv 7))) (pv 8)) (pe_slice sl_str (pv 5) (po_some (pe_op op_add (pv 7) pe_int)) po_none)) (pa_cons (pe_op op_add_str (pe_op op_add_str (pe_slice sl_str (pv 5) po_none (po_some (pv 7))) (pv 8)) (pe_slice sl_str (pv 5) (po_some (pv 7)) po_none)) pa_nil))) (pe_call (ok__law_take T) (hr.mono (by decide)) (by rfl) T.g__law_take T.F__law_take.kp T.b__law_take .nil pass0 (pa_cons (pv 0) (pa_cons pe_int pa_nil))) (fun _ _ => rfl)))))) pss_nil)
      (pss_one (ps_ret (pv 5)))))))), ?_⟩
    refine ⟨_, rfl, _, 5, n, rfl, by omega, by first | decide | omega, by omega, (by first | exact B0 | exact B0.new (by assumption) | exact (B0.new (by assumption)).new (by assumption)), fun d1 o1 ge1 lt1 B1 => ?_⟩
    refine ⟨_, rfl, _, 4, n + 1, rfl, by omega, by first | decide | omega, by omega, (by first | exact B1 | exact B1.new (by assumption) | exact (B1.new (by assumption)).new (by assumption)), fun d2 o2 ge2 lt2 B2 => ?_⟩
    refine ⟨_, _, rfl, rfl, (by show (2 : Nat) ≤ sizeLine; decide), fun l hl => ?_⟩
    have nl : l ≠ p := (B2.ne hl).symm
    refine ⟨_, rfl, _, 2, n + 1 + 1, rfl, by omega, by first | decide | omega, by omega, (by first | exact B2 | exact B2.new (by assumption) | exact (B2.new (by assumption)).new (by assumption)), fun d3 o3 ge3 lt3 B3 => ?_⟩
    obtain ⟨v, hv, m, rfl, hm0, hm1⟩ := atI_all (xs := [V.int d1, V.int (28 + d2)]) (P := fun v => ∃ z : Int, v = .int z ∧ 0 ≤ z ∧ z ≤ 31) (by
      intro x hx
      simp only [List.mem_cons, List.not_mem_nil, or_false] at hx
      rcases hx with rfl | rfl
      all_goals exact ⟨_, rfl, by omega, by omega⟩) ge3 lt3
    refine ⟨l, _, _, _, rfl, rfl, SqL.of (by repeat (first | assumption | exact upd_same | refine Eq.trans (upd_ne (by assumption)) ?_ | refine keep_new ?_ (by assumption))), hv, ?_⟩
    refine ⟨_, rfl, _, 26, n + 1 + 1 + 1, rfl, by omega, by first | decide | omega, by omega, (by first | exact B3 | exact B3.new (by assumption) | exact (B3.new (by assumption)).new (by assumption)), fun d4 o4 ge4 lt4 B4 => ?_⟩
    refine ⟨_, rfl, _, 26, n + 1 + 1 + 1 + 1, rfl, by omega, by first | decide | omega, by omega, (by first | exact B4 | exact B4.new (by assumption) | exact (B4.new (by assumption)).new (by assumption)), fun d5 o5 ge5 lt5 B5 => ?_⟩
    refine ⟨(by show (2 : Nat) ≤ sizeLine; decide), fun tt ht => ⟨_, _, rfl, SqT.of upd_same, rfl, _, _, rfl, _, _, rfl, rfl, ?_⟩⟩
    have B5 := B5.new (o := .tup [.int d4, .int d5]) ht
    refine ⟨⟨_, rfl⟩, _, rfl, m, rfl, by omega, by omega, fun D hD => ?_⟩
    have nD : D ≠ p := (B5.ne hD).symm
    refine lc_it walk_range (fun i H' => ∃ l : List Nat, l.length = i ∧ (∀ c ∈ l, c < 128) ∧ H' = upd _ D (.lst ((signs l).map V.str))) ⟨[], rfl, by simp, rfl⟩ (fun _ _ _ _ => trivial) (fun i x H1 H2 hi hP hY => ?_) (fun H1 hP => ?_)
    · obtain ⟨rfl, rfl⟩ := hY
      obtain ⟨l, hl, hl2, rfl⟩ := hP
      obtain ⟨c, hc, hc2⟩ := atI_alln (xs := abc.cps.toList) (d := (d4 + d5 * (0 + (i : Int))).fmod 26) (by
        rw [Int.fmod_eq_emod_of_nonneg _ (by decide)]
        exact Int.emod_nonneg _ (by decide)) (by
        rw [Int.fmod_eq_emod_of_nonneg _ (by decide), show (abc.cps.toList.length : Int) = 26 from by decide +kernel]
        exact Int.emod_lt_of_pos _ (by decide))
      refine ⟨rfl, _, rfl, _, rfl, _, rfl, _, rfl, _, _, rfl, rfl, .inl ⟨by omega, by omega⟩, _, _, rfl, rfl, _, _, rfl, rfl, (by show (26 : Int) ≠ 0; decide), abc, _, c, rfl, rfl, (by decide +kernel), hc, _, upd_same, ?_, l ++ [c], by simp [hl], ?_, ?_⟩
      · rw [List.length_map, signs_len]
        exact sz (by omega)
      · intro e he
        rcases List.mem_append.mp he with h | h
        · exact hl2 e h
        · have := List.mem_singleton.mp h
          have := (mem_abc c).mp hc2
          omega
      · rw [upd_upd]
        simp [signs]
    · obtain ⟨l9, hl9, ha9, rfl⟩ := hP
      refine ⟨_, D, signs l9, rfl, rfl, .inl (SqL.of upd_same), ?_, ?_⟩
      · rw [signs_sum, signs_len, show (Str.ofString "").length = 0 from by decide +kernel]
        omega
      rw [join_signs]
      have hz : (⟨l9.toArray⟩ : Str).length ≤ 31 := by
        rw [len_mk]
        omega
      have az : Asc ⟨l9.toArray⟩ := asc_mk ha9
      revert hz az
      generalize (⟨l9.toArray⟩ : Str) = z
      intro hz az
      refine ⟨_, rfl, _, 3, n + 1 + 1 + 1 + 1 + 1, rfl, by omega, by first | decide | omega, by omega, (by first | exact B5 | exact B5.new (by assumption) | exact (B5.new (by assumption)).new (by assumption)), fun d6 o6 ge6 lt6 B6 => ?_⟩
      refine ⟨rfl, _, rfl, ite2 (fun e => ?_) (fun e => ?_)⟩
      · refine ⟨_, rfl, _, rfl, z, rfl, szl (by omega), _, _, rfl, rfl, _, ((z.length : Int) + 1), n + 1 + 1 + 1 + 1 + 1 + 1, rfl, by omega, by first | decide | omega, by omega, (by first | exact B6 | exact B6.new (by assumption) | exact (B6.new (by assumption)).new (by assumption)), fun d7 o7 ge7 lt7 B7 => ?_⟩
        refine ⟨_, rfl, _, 17, n + 1 + 1 + 1 + 1 + 1 + 1 + 1, rfl, by omega, by first | decide | omega, by omega, (by first | exact B7 | exact B7.new (by assumption) | exact (B7.new (by assumption)).new (by assumption)), fun d8 o8 ge8 lt8 B8 => ?_⟩
        obtain ⟨c, hc, hc2⟩ := atI_alln (xs := (Str.ofString "ABZ019 _-.?$!\n,@{").cps.toList) ge8 (by
          rw [show ((Str.ofString "ABZ019 _-.?$!\n,@{").cps.toList.length : Int) = 17 from by decide +kernel]
          exact lt8)
        have hc3 : c < 128 := asc_lit (s := "ABZ019 _-.?$!\n,@{") (by decide +kernel) c hc2
        refine ⟨_, _, c, rfl, rfl, (by decide +kernel), hc, ?_⟩
        have hcut := fun lo hi => cutS_length z lo hi
        refine ⟨_, rfl, _, rfl, _, rfl, z, rfl, szl (by omega), _, rfl, _, _, rfl, rfl, szl ?_, _, rfl, _, rfl, _, _, rfl, rfl, _, rfl, z, rfl, szl (by omega), _, _, rfl, rfl, szl ?_, ?_⟩
        · have := hcut none (some d7)
          rw [len_one]
          omega
        · have := hcut none (some d7)
          have := hcut (some (d7 + 1)) none
          rw [len_app, len_one]
          omega
        refine ⟨_, rfl, _, rfl, _, rfl, z, rfl, szl (by omega), _, rfl, _, _, rfl, rfl, szl ?_, _, rfl, _, rfl, _, rfl, z, rfl, szl (by omega), _, _, rfl, rfl, szl ?_, (by show (2 : Nat) ≤ sizeLine; decide), fun l2 hl2 => ?_⟩
        · have := hcut none (some d7)
          rw [len_one]
          omega
        · have := hcut none (some d7)
          have := hcut (some d7) none
          rw [len_app, len_one]
          omega
        have nl2 : l2 ≠ p := (B8.ne hl2).symm
        refine ⟨_, rfl, _, 2, n + 1 + 1 + 1 + 1 + 1 + 1 + 1 + 1, rfl, by omega, by first | decide | omega, by omega, (by first | exact B8 | exact B8.new (by assumption) | exact (B8.new (by assumption)).new (by assumption)), fun d9 o9 ge9 lt9 B9 => ?_⟩
        obtain ⟨v, hv, y, rfl, hy0, hy1⟩ := atI_all (xs := [V.str (cutS z none (some d7) ++ ⟨#[c]⟩ ++ cutS z (some (d7 + 1)) none), V.str (cutS z none (some d7) ++ ⟨#[c]⟩ ++ cutS z (some d7) none)]) (P := fun v => ∃ y : Str, v = .str y ∧ y.length ≤ 200 ∧ Asc y) (by
          intro x hx
          simp only [List.mem_cons, List.not_mem_nil, or_false] at hx
          have h1 := hcut none (some d7)
          have h2 := hcut (some (d7 + 1)) none
          have h3 := hcut (some d7) none
          rcases hx with rfl | rfl
          · refine ⟨_, rfl, ?_, asc_app (asc_app (asc_cut az _ _) (asc_one hc3)) (asc_cut az _ _)⟩
            rw [len_app, len_app, len_one]
            omega
          · refine ⟨_, rfl, ?_, asc_app (asc_app (asc_cut az _ _) (asc_one hc3)) (asc_cut az _ _)⟩
            rw [len_app, len_app, len_one]
            omega) ge9 lt9
        refine ⟨l2, _, _, _, rfl, rfl, SqL.of (by repeat (first | assumption | exact upd_same | refine Eq.trans (upd_ne (by assumption)) ?_ | refine keep_new ?_ (by assumption))), hv, _, rfl, q y _ hy0 hy1 (by repeat (first | exact Sam.refl _ _ | assumption | refine Sam.box ?_ | refine Sam.new ?_ (by assumption))) (B9.mono (by omega))⟩
      · exact ⟨_, rfl, q z _ (by omega) az (by repeat (first | exact Sam.refl _ _ | assumption | refine Sam.box ?_ | refine Sam.new ?_ (by assumption))) (B6.mono (by omega))⟩
theorem ok__law_mark (T : TX w K mg) : FnOk P w K mg base CX0 2 T.a__law_mark T.d__law_mark ["_law_box_here"] (spString) := by
  refine T.F__law_mark.ok sc__law_mark (fun vs H Q E h => ?_) (fun cdv A outer s H vs Q E hr h => ?_)
  · obtain ⟨p, n, rfl, hn, B0, q⟩ := h
    rfl
  · obtain ⟨p, n, rfl, hn, B0, q⟩ := h
    refine ⟨_, (pss_cons (ps_set (i := 1) sc__law_mark.nd rfl (by first | exact Or.inl rfl | exact Or.inr rfl) (pe_ix ix_list (pe_lst (pa_cons pe_str (pa_cons pe_str (pa_cons pe_str (pa_cons pe_str (pa_cons pe_str (pa_cons pe_str (pa_cons pe_str pa_nil)))))))) (pe_call (ok__law_take T) (hr.mono (by decide)) (by rfl) T.g__law_take T.F__law_take.kp T.b__law_take .nil pass0 (pa_cons (pv 0) (pa_cons pe_int pa_nil))) (fun _ _ => rfl)))
      (pss_cons (ps_set (i := 2) sc__law_mark.nd rfl (by first | exact Or.inl rfl | exact Or.inr rfl) (pe_op op_add_str (pv 1) (pe_ix ix_list (pe_lst (pa_cons pe_str (pa_cons pe_str (pa_cons pe_str (pa_cons pe_str (pa_cons pe_str (pa_cons pe_str (pa_cons pe_str (pa_cons pe_str (pa_cons pe_str (pa_cons pe_str (pa_cons pe_str (pa_cons pe_str (pa_cons pe_str pa_nil)))))))))))))) (pe_call (ok__law_take T) (hr.mono (by decide)) (by rfl) T.g__law_take T.F__law_take.kp T.b__law_take .nil pass0 (pa_cons (pv 0) (pa_cons pe_int pa_nil))) (fun _ _ => rfl))))
      (pss_one (ps_ret (pe_op op_add_str (pv 2) (pe_ix ix_list (pe_lst (pa_cons pe_str (pa_cons pe_str (pa_cons pe_str (pa_cons pe_str (pa_cons pe_str pa_nil)))))) (pe_call (ok__law_take T) (hr.mono (by decide)) (by rfl) T.g__law_take T.F__law_take.kp T.b__law_take .nil pass0 (pa_cons (pv 0) (pa_cons pe_int pa_nil))) (fun _ _ => rfl))))))), ?_⟩
    refine ⟨(by show (7 : Nat) ≤ sizeLine; decide), fun l hl => ?_⟩
    have nl : l ≠ p := (B0.ne hl).symm
    refine ⟨_, rfl, _, 7, n, rfl, by omega, by first | decide | omega, by omega, (by first | exact B0 | exact B0.new (by assumption) | exact (B0.new (by assumption)).new (by assumption)), fun d1 o1 ge1 lt1 B1 => ?_⟩
    obtain ⟨v, hv, x, rfl, hx0, hx1⟩ := atI_all (xs := [V.str (Str.ofString " "), V.str (Str.ofString "#"), V.str (Str.ofString "|"), V.str (Str.ofString "/"), V.str (Str.ofString ""), V.str (Str.ofString "-"), V.str (Str.ofString "a")]) (P := fun v => ∃ y : Str, v = .str y ∧ y.length ≤ 1 ∧ Asc y) (by
      intro x hx
      simp only [List.mem_cons, List.not_mem_nil, or_false] at hx
      rcases hx with rfl | rfl | rfl | rfl | rfl | rfl | rfl
      all_goals exact ⟨_, rfl, by decide +kernel, asc_lit (by decide +kernel)⟩) ge1 lt1
    refine ⟨l, _, _, _, rfl, rfl, SqL.of (by repeat (first | assumption | exact upd_same | refine Eq.trans (upd_ne (by assumption)) ?_ | refine keep_new ?_ (by assumption))), hv, ?_⟩
    refine ⟨_, rfl, (by show (13 : Nat) ≤ sizeLine; decide), fun l2 hl2 => ?_⟩
    have nl2 : l2 ≠ p := (B1.ne hl2).symm
    refine ⟨_, rfl, _, 13, n + 1, rfl, by omega, by first | decide | omega, by omega, (by first | exact B1 | exact B1.new (by assumption) | exact (B1.new (by assumption)).new (by assumption)), fun d2 o2 ge2 lt2 B2 => ?_⟩
    obtain ⟨v, hv, y, rfl, hy0, hy1⟩ := atI_all (xs := [V.str (Str.ofString "0"), V.str (Str.ofString "1"), V.str (Str.ofString "2"), V.str (Str.ofString "3"), V.str (Str.ofString "4"), V.str (Str.ofString ""), V.str (Str.ofString "a"), V.str (Str.ofString " "), V.str (Str.ofString "9"), V.str (Str.ofString "01"), V.str (Str.ofString "12"), V.str (Str.ofString "23"), V.str (Str.ofString "0123")]) (P := fun v => ∃ y : Str, v = .str y ∧ y.length ≤ 4 ∧ Asc y) (by
      intro x hx
      simp only [List.mem_cons, List.not_mem_nil, or_false] at hx
      rcases hx with rfl | rfl | rfl | rfl | rfl | rfl | rfl | rfl | rfl | rfl | rfl | rfl | rfl
      all_goals exact ⟨_, rfl, by decide +kernel, asc_lit (by decide +kernel)⟩) ge2 lt2
    refine ⟨l2, _, _, _, rfl, rfl, SqL.of (by repeat (first | assumption | exact upd_same | refine Eq.trans (upd_ne (by assumption)) ?_ | refine keep_new ?_ (by assumption))), hv, _, _, rfl, rfl, szl (by omega), ?_⟩
    refine ⟨_, rfl, (by show (5 : Nat) ≤ sizeLine; decide), fun l3 hl3 => ?_⟩
    have nl3 : l3 ≠ p := (B2.ne hl3).symm
    refine ⟨_, rfl, _, 5, n + 1 + 1, rfl, by omega, by first | decide | omega, by omega, (by first | exact B2 | exact B2.new (by assumption) | exact (B2.new (by assumption)).new (by assumption)), fun d3 o3 ge3 lt3 B3 => ?_⟩
    obtain ⟨v, hv, u, rfl, hu0, hu1⟩ := atI_all (xs := [V.str (Str.ofString ""), V.str (Str.ofString ""), V.str (Str.ofString ""), V.str (Str.ofString "0"), V.str (Str.ofString " ")]) (P := fun v => ∃ y : Str, v = .str y ∧ y.length ≤ 4 ∧ Asc y) (by
      intro x hx
      simp only [List.mem_cons, List.not_mem_nil, or_false] at hx
      rcases hx with rfl | rfl | rfl | rfl | rfl
      all_goals exact ⟨_, rfl, by decide +kernel, asc_lit (by decide +kernel)⟩) ge3 lt3
    have e1 := len_app x y
    have e2 := len_app (x ++ y) u
    refine ⟨l3, _, _, _, rfl, rfl, SqL.of (by repeat (first | assumption | exact upd_same | refine Eq.trans (upd_ne (by assumption)) ?_ | refine keep_new ?_ (by assumption))), hv, _, _, rfl, rfl, szl (by omega), q _ _ (by omega) (asc_app (asc_app hx1 hy1) hu1) (by repeat (first | exact Sam.refl _ _ | assumption | refine Sam.box ?_ | refine Sam.new ?_ (by assumption))) (B3.mono (by omega))⟩
end
end RV


namespace RV
open PySem PySem.Spec PyProof.Rows L2 TL
section
variable {P : Program} {w : World} {K : PySem.W.Frag} {mg : Str → Option Value} {base : Heap}
theorem markS_of {z : Str} {b : Bool} (h : markS z = true ↔ b = true) : markS z = b := Bool.eq_iff_iff.mpr h
theorem ok__law_is (T : TX w K mg) : FnOk P w K mg base CX0 1 T.a__law_is T.d__law_is ["_law_found", "_law_due"] (spIs) := by
  refine T.F__law_is.ok sc__law_is (fun vs H Q E h => ?_) (fun cdv A outer s H vs Q E hr h => ?_)
  · obtain ⟨a, b, rfl, q⟩ := h
    rfl
  · obtain ⟨a, b, rfl, q⟩ := h
    refine ⟨_, (pss_one (ps_ret (pe_and (pe_callB call_isi (by rfl) T.m_isinstance (by decide +kernel) (pa_cons (pv 0) (pa_cons (pe_bltn (v := V.ty "bool") (u := .type "bool") (by rfl) T.m_bool (by decide +kernel) rfl) pa_nil))) (pe_one (pe_cmpR op_eq (pv 0) (pv 1) (nomark _)))))), ?_⟩
    refine ⟨_, rfl, _, _, _, _, _, rfl, .ty _, (Ty7.bl (H := H) a).x, kit_ty (kit_bool (Ty7.bl (H := H) a)), _, rfl, iteT ?_⟩
    refine ⟨_, rfl, _, rfl, rfl, ?_⟩
    have e : decide (V.bl a = V.bl b) = decide (a = b) := by cases a <;> cases b <;> rfl
    rw [e]
    exact q
theorem ok__law_is_mark (T : TX w K mg) : FnOk P w K mg base CX0 1 T.a__law_is_mark T.d__law_is_mark ["_law_text"] (spIsMarkL) := by
  refine T.F__law_is_mark.ok sc__law_is_mark (fun vs H Q E h => ?_) (fun cdv A outer s H vs Q E hr h => ?_)
  · obtain ⟨z, rfl, hz, az, q⟩ := h
    rfl
  · obtain ⟨z, rfl, hz, az, q⟩ := h
    refine ⟨_, (pss_cons (ps_if (pt_cmpR op_eq (pv 0) pe_str (nomark _))
        (pss_one (ps_ret pe_bl)) pss_nil)
      (pss_one (ps_ret (pe_and (pe_cmpR op_eq (pe_callB call_len_str (by rfl) T.m_len (by decide +kernel) (pa_cons (pv 0) pa_nil)) pe_int (nomark _)) (pe_and (pe_cmpR op_in_seq (pe_ix ix_str (pv 0) pe_int (fun _ _ => rfl)) (pe_tup (pa_cons pe_str (pa_cons pe_str (pa_cons pe_str pa_nil)))) (by rfl)) (pe_one (pe_cmpR op_in_seq (pe_ix ix_str (pv 0) pe_int (fun _ _ => rfl)) (pe_tup (pa_cons pe_str (pa_cons pe_str (pa_cons pe_str (pa_cons pe_str pa_nil))))) (by rfl)))))))), ?_⟩
    have qq : ∀ b : Bool, (markS z = true ↔ b = true) → ∀ H', Same H H' → Q (.bl b) H' := fun b e => by
      rw [← markS_of e]
      exact q
    refine ⟨_, rfl, rfl, _, rfl, ite2 (fun e => ?_) (fun e => ?_)⟩
    · have e1 : z = Str.ofString " " := V.str.inj (of_decide_eq_true e)
      refine qq true ?_ H (Same.refl H)
      rw [e1]
      decide +kernel
    · have e1 : ¬ z.cps.toList = [32] := fun x => e (decide_eq_true (congrArg V.str ((str_eq (s := " ") (l := [32]) (by decide +kernel)).mpr x)))
      have hlen := len_list z
      refine ⟨_, rfl, z, rfl, szl (by omega), rfl, _, rfl, ?_⟩
      by_cases c : z.length = 2
      · have ec : (z.length : Int) = 2 := by omega
        rw [ec, decide_eq_true rfl]
        obtain ⟨x, y, exy⟩ : ∃ x y, z.cps.toList = [x, y] := by
          rw [c] at hlen
          match hq : z.cps.toList, hlen with
          | [x, y], _ => exact ⟨x, y, rfl⟩
        have key : markS z = true ↔ ((x = 35 ∨ x = 124 ∨ x = 47) ∧ (y = 48 ∨ y = 49 ∨ y = 50 ∨ y = 51)) := by
          rw [markS_iff]
          constructor
          · rintro (h | ⟨c', d', h, hc, hd⟩)
            · exact absurd h e1
            · rw [exy] at h
              obtain ⟨rfl, h2⟩ := List.cons.inj h
              obtain ⟨rfl, _⟩ := List.cons.inj h2
              exact ⟨hc, hd⟩
          · rintro ⟨hc, hd⟩
            exact .inr ⟨x, y, exy, hc, hd⟩
        refine iteT ⟨_, rfl, z, _, x, rfl, rfl, szl (by omega), atI_nat (j := 0) (by rw [exy]; rfl), (by show (3 : Nat) ≤ sizeLine; decide), fun t1 ht1 => ?_⟩
        have s1 : Same H (upd H t1 (.tup [V.str (Str.ofString "#"), V.str (Str.ofString "|"), V.str (Str.ofString "/")])) := same_new (Same.refl H) ht1
        refine ⟨t1, _, rfl, .inr (SqT.of upd_same), rfl, rfl, _, rfl, ?_⟩
        have i1 : inV (.str ⟨#[x]⟩) [V.str (Str.ofString "#"), V.str (Str.ofString "|"), V.str (Str.ofString "/")] = decide (x = 35 ∨ x = 124 ∨ x = 47) := by
          show ((Str.ofString "#" == (⟨#[x]⟩ : Str)) || ((Str.ofString "|" == (⟨#[x]⟩ : Str)) || ((Str.ofString "/" == (⟨#[x]⟩ : Str)) || false))) = _
          rw [one_eq (k := 35) (by decide +kernel), one_eq (k := 124) (by decide +kernel), one_eq (k := 47) (by decide +kernel)]
          simp
        show if inV (.str ⟨#[x]⟩) [V.str (Str.ofString "#"), V.str (Str.ofString "|"), V.str (Str.ofString "/")] = true then _ else _
        rw [i1]
        by_cases cx : x = 35 ∨ x = 124 ∨ x = 47
        · rw [decide_eq_true cx]
          refine iteT ⟨_, rfl, z, _, y, rfl, rfl, szl (by omega), atI_nat (j := 1) (by rw [exy]; rfl), (by show (4 : Nat) ≤ sizeLine; decide), fun t2 ht2 => ?_⟩
          refine ⟨t2, _, rfl, .inr (SqT.of upd_same), rfl, rfl, ?_⟩
          have i2 : inV (.str ⟨#[y]⟩) [V.str (Str.ofString "0"), V.str (Str.ofString "1"), V.str (Str.ofString "2"), V.str (Str.ofString "3")] = decide (y = 48 ∨ y = 49 ∨ y = 50 ∨ y = 51) := by
            show ((Str.ofString "0" == (⟨#[y]⟩ : Str)) || ((Str.ofString "1" == (⟨#[y]⟩ : Str)) || ((Str.ofString "2" == (⟨#[y]⟩ : Str)) || ((Str.ofString "3" == (⟨#[y]⟩ : Str)) || false)))) = _
            rw [one_eq (k := 48) (by decide +kernel), one_eq (k := 49) (by decide +kernel), one_eq (k := 50) (by decide +kernel), one_eq (k := 51) (by decide +kernel)]
            simp
          refine qq _ ?_ _ (same_new s1 ht2)
          show _ ↔ inV (.str ⟨#[y]⟩) [V.str (Str.ofString "0"), V.str (Str.ofString "1"), V.str (Str.ofString "2"), V.str (Str.ofString "3")] = true
          rw [i2, key, decide_eq_true_eq]
          exact ⟨fun h => h.2, fun h => ⟨cx, h⟩⟩
        · rw [decide_eq_false cx]
          refine iteF (qq false ?_ _ s1)
          rw [key]
          exact ⟨fun h => absurd h.1 cx, fun h => absurd h Bool.false_ne_true⟩
      · have ec : ¬ V.int (z.length : Int) = V.int 2 := fun x => c (by have := V.int.inj x; omega)
        rw [decide_eq_false ec]
        refine iteF (qq false ?_ H (Same.refl H))
        rw [markS_iff]
        refine ⟨?_, fun h => absurd h Bool.false_ne_true⟩
        rintro (h | ⟨c', d', h, _⟩)
        · exact absurd h e1
        · rw [h] at hlen
          exact absurd hlen.symm c
def oddS (c : Nat) : Bool := !(decide (97 ≤ c) && decide (c ≤ 122))
theorem ok__law_is_word (T : TX w K mg) : FnOk P w K mg base CX0 1 T.a__law_is_word T.d__law_is_word ["_law_text"] (spIsWordL) := by
  refine T.F__law_is_word.ok sc__law_is_word (fun vs H Q E h => ?_) (fun cdv A outer s H vs Q E hr h => ?_)
  · obtain ⟨z, rfl, hz, az, q⟩ := h
    rfl
  · obtain ⟨z, rfl, hz, az, q⟩ := h
    refine ⟨_, (pss_one (ps_ret (pe_and (pe_chain op_lt op_lt pe_int (pe_callB call_len_str (by rfl) T.m_len (by decide +kernel) (pa_cons (pv 0) pa_nil)) pe_int) (pe_one (pe_cmpR (op_eqD hr.units) (pe_lc (own := [("_law_sign", 1)]) rfl sc__law_is_word.nd (pi_str (pv 0)) (blkOk_by (N := ["_law_text", "_law_sign"]) (sc := defScope s__law_is_word) (by decide +kernel)) (fun _ _ _ _ _ => (pg_name (i := 1) sc__law_is_word.nd rfl (by first | exact Or.inl rfl | exact Or.inr rfl))) (fun _ _ _ _ _ => (pts_one (pt_not (pt_chain op_le_str op_le_str pe_str (pv 1) pe_str)))) (fun _ _ _ _ _ => (pv 1))) (pe_lst pa_nil) (nomark _)))))), ?_⟩
    have qq : ∀ b : Bool, wordS z = b → ∀ H', Same H H' → Q (.bl b) H' := fun b e => by
      rw [← e]
      exact q
    refine ⟨_, rfl, z, rfl, szl (by omega), _, _, rfl, rfl, _, rfl, ?_⟩
    by_cases c : (0 : Int) < (z.length : Int)
    · rw [if_pos (decide_eq_true c)]
      refine ⟨_, _, rfl, rfl, _, rfl, ?_⟩
      by_cases c2 : (z.length : Int) < 31
      · rw [if_pos (decide_eq_true c2)]
        refine ⟨_, rfl, z, rfl, fun D hD => ?_⟩
        refine lc_it walk_str (fun i H' => H' = upd H D (.lst ((((z.cps.toList.take i).filter oddS).map fun c => (⟨#[c]⟩ : Str)).map V.str))) rfl (fun _ _ _ _ => trivial) (fun i x H1 H2 hi hP hY => ?_) (fun H1 hP => ?_)
        · obtain ⟨rfl, c, hc, rfl⟩ := hY
          subst hP
          have tk : z.cps.toList.take (i + 1) = z.cps.toList.take i ++ [c] := by
            rw [List.take_add_one, show z.cps.toList[i]? = some c from by rw [← hc]; simp]
            rfl
          have l1 : decide ((⟨#[c]⟩ : Str).cps.toList < (Str.ofString "a").cps.toList) = decide (c < 97) := by
            rw [show (Str.ofString "a").cps.toList = [97] from by decide +kernel]
            show decide ([c] < [97]) = _
            rw [Bool.eq_iff_iff, decide_eq_true_eq, decide_eq_true_eq]
            simp [List.cons_lt_cons_iff]
          have l2 : decide ((Str.ofString "z").cps.toList < (⟨#[c]⟩ : Str).cps.toList) = decide (122 < c) := by
            rw [show (Str.ofString "z").cps.toList = [122] from by decide +kernel]
            show decide ([122] < [c]) = _
            rw [Bool.eq_iff_iff, decide_eq_true_eq, decide_eq_true_eq]
            simp [List.cons_lt_cons_iff]
          have acc : ∀ H3 : Hp, H3 = upd H D (.lst ((((z.cps.toList.take i).filter oddS).map fun c => (⟨#[c]⟩ : Str)).map V.str)) → (oddS c = true → upd H3 D (.lst (((((z.cps.toList.take i).filter oddS).map fun c => (⟨#[c]⟩ : Str)).map V.str) ++ [V.str ⟨#[c]⟩])) = upd H D (.lst ((((z.cps.toList.take (i + 1)).filter oddS).map fun c => (⟨#[c]⟩ : Str)).map V.str))) ∧ (oddS c = false → H3 = upd H D (.lst ((((z.cps.toList.take (i + 1)).filter oddS).map fun c => (⟨#[c]⟩ : Str)).map V.str))) := fun H3 e => by
            subst e
            constructor
            · intro o
              rw [upd_upd, tk, List.filter_append]
              simp [o]
            · intro o
              rw [tk, List.filter_append]
              simp [o]
          have hsz : ((((z.cps.toList.take i).filter oddS).map fun c => (⟨#[c]⟩ : Str)).map V.str).length < sizeLine := by
            rw [List.length_map, List.length_map]
            have h1 := List.length_filter_le oddS (z.cps.toList.take i)
            rw [List.length_take, len_list] at h1
            exact sz (by omega)
          refine ⟨rfl, _, rfl, _, _, rfl, rfl, _, rfl, ?_⟩
          by_cases k1 : c < 97
          · rw [l1, decide_eq_true k1]
            have o : oddS c = true := by
              unfold oddS
              rw [decide_eq_false (show ¬ 97 ≤ c by omega)]
              rfl
            exact iteF ⟨_, rfl, iteT ⟨_, rfl, _, upd_same, hsz, (acc _ rfl).1 o⟩⟩
          · rw [l1, decide_eq_false k1]
            refine iteT ⟨_, _, rfl, rfl, _, rfl, ?_⟩
            by_cases k2 : 122 < c
            · rw [l2, decide_eq_true k2]
              have o : oddS c = true := by
                unfold oddS
                rw [decide_eq_false (show ¬ c ≤ 122 by omega), Bool.and_false]
                rfl
              exact iteT ⟨_, rfl, _, upd_same, hsz, (acc _ rfl).1 o⟩
            · rw [l2, decide_eq_false k2]
              have o : oddS c = false := by
                unfold oddS
                rw [decide_eq_true (show 97 ≤ c by omega), decide_eq_true (show c ≤ 122 by omega)]
                rfl
              exact iteF ((acc _ rfl).2 o)
        · subst hP
          have e0 : z.cps.toList.take z.cps.size = z.cps.toList := List.take_of_length_le (by simp)
          rw [e0]
          refine ⟨(by show (0 : Nat) ≤ sizeLine; decide), fun D2 hD2 => ?_⟩
          have n2 : D ≠ D2 := ne_of_none upd_same hD2
          refine ⟨_, _, .lst (SqL.of (keep_new upd_same hD2)) (dp_strs _), .lst (SqL.of upd_same) .nil, shaped_strs _ ?_, by decide +kernel, ?_⟩
          · intro y hy
            obtain ⟨c, hc, rfl⟩ := List.mem_map.mp hy
            exact strOk_asc (asc_one (az c (List.mem_filter.mp hc).1))
          · rw [eqv_strs_nil]
            refine qq _ ?_ _ (same_new (same_new (Same.refl H) hD) hD2)
            unfold wordS
            rw [decide_eq_true (show 1 ≤ z.length by omega), decide_eq_true (show z.length ≤ 30 by omega), Bool.eq_iff_iff, decide_eq_true_eq]
            unfold onlyS
            simp only [Bool.and_true, Bool.true_and, List.all_eq_true, decide_eq_true_eq, List.map_eq_nil_iff, List.filter_eq_nil_iff]
            constructor
            · intro h c hc
              have := (mem_abc c).mp (h c hc)
              unfold oddS
              rw [decide_eq_true this.1, decide_eq_true this.2]
              exact Bool.false_ne_true
            · intro h c hc
              have h2 := h c hc
              unfold oddS at h2
              rw [mem_abc]
              by_cases k1 : 97 ≤ c
              · by_cases k2 : c ≤ 122
                · exact ⟨k1, k2⟩
                · rw [decide_eq_false k2, Bool.and_false] at h2
                  exact absurd rfl h2
              · rw [decide_eq_false k1] at h2
                exact absurd rfl h2
      · rw [if_neg (by rw [decide_eq_false c2]; exact Bool.false_ne_true)]
        refine qq _ ?_ H (Same.refl H)
        unfold wordS
        rw [decide_eq_false (show ¬ z.length ≤ 30 by omega), Bool.and_false]
        rfl
    · rw [if_neg (by rw [decide_eq_false c]; exact Bool.false_ne_true)]
      refine ⟨_, rfl, iteF (qq _ ?_ H (Same.refl H))⟩
      unfold wordS
      rw [decide_eq_false (show ¬ 1 ≤ z.length by omega)]
      rfl
end
end RV


namespace RV
open PySem PySem.Spec PyProof.Rows L2 TL
section
variable {P : Program} {w : World} {K : PySem.W.Frag} {mg : Str → Option Value} {base : Heap}
theorem ok_law (T : TX w K mg) : FnOk P w K mg base CX0 4 T.a_law T.d_law ["_law_script"] (spLaw K) := by
  refine T.F_law.ok sc_law (fun vs H Q E h => ?_) (fun cdv A outer s H vs Q E hr h => ?_)
  · obtain ⟨a, ns, rfl, hS, hlen, q⟩ := h
    rfl
  · obtain ⟨a, ns, rfl, hS, hlen, q⟩ := h
    refine ⟨_, (pss_cons (ps_for PassesOwn.never rfl (pi_range1 (by rfl) T.m_range (pa_cons (pe_callB (call_max2 rfl) (by rfl) T.m_max (by decide +kernel) (pa_cons pe_int (pa_cons (pe_callB (call_min2 rfl) (by rfl) T.m_min (by decide +kernel) (pa_cons pe_int (pa_cons (pe_callB call_len (by rfl) T.m_len (by decide +kernel) (pa_cons (pv 0) pa_nil)) pa_nil))) pa_nil))) pa_nil)) (pg_name (i := 1) sc_law.nd rfl (by first | exact Or.inl rfl | exact Or.inr rfl))
        (pss_cons (ps_set (i := 2) sc_law.nd rfl (by first | exact Or.inl rfl | exact Or.inr rfl) (pe_call (ok__law_box T) (hr.mono (by decide)) (by rfl) T.g__law_box T.F__law_box.kp T.b__law_box .nil pass0 (pa_cons (pe_call (ok__law_cell T) (hr.mono (by decide)) (by rfl) T.g__law_cell T.F__law_cell.kp T.b__law_cell .nil pass0 (pa_cons (pv 0) (pa_cons (pv 1) pa_nil))) pa_nil)))
        (pss_cons (ps_set (i := 3) sc_law.nd rfl (by first | exact Or.inl rfl | exact Or.inr rfl) (pe_call (ok__law_number T) (hr.mono (by decide)) (by rfl) T.g__law_number T.F__law_number.kp T.b__law_number .nil pass0 (pa_cons (pv 2) pa_nil)))
        (pss_cons (ps_set (i := 4) sc_law.nd rfl (by first | exact Or.inl rfl | exact Or.inr rfl) (pe_ix ix_list (pe_lst (pa_cons (pe_op op_add (pe_op op_sub (pv 3) pe_int) (pe_call (ok__law_take T) (hr.mono (by decide)) (by rfl) T.g__law_take T.F__law_take.kp T.b__law_take .nil pass0 (pa_cons (pv 2) (pa_cons pe_int pa_nil)))) (pa_cons (pe_call (ok__law_number T) (hr.mono (by decide)) (by rfl) T.g__law_number T.F__law_number.kp T.b__law_number .nil pass0 (pa_cons (pv 2) pa_nil)) pa_nil))) (pe_call (ok__law_take T) (hr.mono (by decide)) (by rfl) T.g__law_take T.F__law_take.kp T.b__law_take .nil pass0 (pa_cons (pv 2) (pa_cons pe_int pa_nil))) (fun _ _ => rfl)))
        (pss_cons (ps_for PassesOwn.never rfl (pi_list (pe_lst (pa_cons (pe_op op_sub (pv 3) pe_int) (pa_cons (pv 3) (pa_cons (pe_op op_add (pv 3) pe_int) (pa_cons (pe_op op_sub (pv 4) pe_int) (pa_cons (pv 4) (pa_cons (pe_op op_add (pv 4) pe_int) (pa_cons pe_int (pa_cons (pe_call (ok__law_number T) (hr.mono (by decide)) (by rfl) T.g__law_number T.F__law_number.kp T.b__law_number .nil pass0 (pa_cons (pv 2) pa_nil)) pa_nil)))))))))) (pg_name (i := 5) sc_law.nd rfl (by first | exact Or.inl rfl | exact Or.inr rfl))
          (pss_one (ps_if (pt_not (pt_val (pe_call (ok__law_is T) (hr.mono (by decide)) (by rfl) T.g__law_is T.F__law_is.kp T.b__law_is .nil pass0 (pa_cons (pe_call (ok_is_integer T) (hr.mono (by decide)) (by rfl) T.g_is_integer T.F_is_integer.kp T.b_is_integer .nil pass0 (pa_cons (pv 5) (pa_cons (pv 3) (pa_cons (pv 4) pa_nil)))) (pa_cons (pe_chain op_le op_le (pv 3) (pv 5) (pv 4)) pa_nil)))))
            (pss_one (ps_ret pe_bl)) pss_nil)))
        (pss_cons (ps_for PassesOwn.never rfl (pi_list (pe_lst (pa_cons pe_non (pa_cons pe_bl (pa_cons pe_bl (pa_cons pe_str (pa_cons pe_str (pa_cons (pe_callTy call_str_int (by rfl) T.m_str (by decide +kernel) (pa_cons (pv 3) pa_nil)) (pa_cons (pe_lst (pa_cons (pv 3) pa_nil)) (pa_cons (pe_tup (pa_cons (pv 3) pa_nil)) (pa_cons pe_dnewK (pa_cons (pe_disp (pps_cons pe_str (pv 3) pps_nil) (by rfl) (by rfl) (fun z => by cases z) (by decide)) pa_nil)))))))))))) (pg_name (i := 6) sc_law.nd rfl (by first | exact Or.inl rfl | exact Or.inr rfl))
          (pss_one (ps_if (PW.pt (pw_or (pt_not (pt_val (pe_call (ok__law_is T) (hr.mono (by decide)) (by rfl) T.g__law_is T.F__law_is.kp T.b__law_is .nil pass0 (pa_cons (pe_call (ok_is_integer T) (hr.mono (by decide)) (by rfl) T.g_is_integer T.F_is_integer.kp T.b_is_integer .nil pass0 (pa_cons (pv 6) (pa_cons (pv 3) (pa_cons (pv 4) pa_nil)))) (pa_cons pe_bl pa_nil))))) (pw_or1 (pt_not (pt_val (pe_call (ok__law_is T) (hr.mono (by decide)) (by rfl) T.g__law_is T.F__law_is.kp T.b__law_is .nil pass0 (pa_cons (pe_call (ok_is_integer T) (hr.mono (by decide)) (by rfl) T.g_is_integer T.F_is_integer.kp T.b_is_integer .nil pass0 (pa_cons (pv 6) (pa_cons pe_int (pa_cons pe_int pa_nil)))) (pa_cons pe_bl pa_nil))))))))
            (pss_one (ps_ret pe_bl)) pss_nil)))
        (pss_cons (ps_for PassesOwn.never rfl (pi_range1 (by rfl) T.m_range (pa_cons pe_int pa_nil)) (pg_name (i := 7) sc_law.nd rfl (by first | exact Or.inl rfl | exact Or.inr rfl))
          (pss_cons (ps_par (i := 8) (j := 9) (by rfl) sc_law.nd rfl rfl (by decide) rfl rfl (pa_cons (pe_call (ok__law_string T) (hr.mono (by decide)) (by rfl) T.g__law_string T.F__law_string.kp T.b__law_string .nil pass0 (pa_cons (pv 2) pa_nil)) (pa_cons (pe_call (ok__law_mark T) (hr.mono (by decide)) (by rfl) T.g__law_mark T.F__law_mark.kp T.b__law_mark .nil pass0 (pa_cons (pv 2) pa_nil)) pa_nil)) (by rfl))
          (pss_cons (ps_if (PW.pt (pw_or (pt_not (pt_val (pe_call (ok__law_is T) (hr.mono (by decide)) (by rfl) T.g__law_is T.F__law_is.kp T.b__law_is .nil pass0 (pa_cons (pe_call (ok_is_word T) (hr.mono (by decide)) (by rfl) T.g_is_word T.F_is_word.kp T.b_is_word .nil pass0 (pa_cons (pv 8) pa_nil)) (pa_cons (pe_call (ok__law_is_word T) (hr.mono (by decide)) (by rfl) T.g__law_is_word T.F__law_is_word.kp T.b__law_is_word .nil pass0 (pa_cons (pv 8) pa_nil)) pa_nil))))) (pw_or1 (pt_not (pt_val (pe_call (ok__law_is T) (hr.mono (by decide)) (by rfl) T.g__law_is T.F__law_is.kp T.b__law_is .nil pass0 (pa_cons (pe_call (ok_is_mark T) (hr.mono (by decide)) (by rfl) T.g_is_mark T.F_is_mark.kp T.b_is_mark .nil pass0 (pa_cons (pv 9) pa_nil)) (pa_cons (pe_call (ok__law_is_mark T) (hr.mono (by decide)) (by rfl) T.g__law_is_mark T.F__law_is_mark.kp T.b__law_is_mark .nil pass0 (pa_cons (pv 9) pa_nil)) pa_nil))))))))
            (pss_one (ps_ret pe_bl)) pss_nil)
          (pss_cons (ps_if (pt_not (pt_val (pe_call (ok__law_is T) (hr.mono (by decide)) (by rfl) T.g__law_is T.F__law_is.kp T.b__law_is .nil pass0 (pa_cons (pe_call (ok_is_token T) (hr.mono (by decide)) (by rfl) T.g_is_token T.F_is_token.kp T.b_is_token .nil pass0 (pa_cons (pe_tup (pa_cons (pv 9) (pa_cons (pv 8) pa_nil))) pa_nil)) (pa_cons (pe_and (pe_call (ok__law_is_mark T) (hr.mono (by decide)) (by rfl) T.g__law_is_mark T.F__law_is_mark.kp T.b__law_is_mark .nil pass0 (pa_cons (pv 9) pa_nil)) (pe_one (pe_call (ok__law_is_word T) (hr.mono (by decide)) (by rfl) T.g__law_is_word T.F__law_is_word.kp T.b__law_is_word .nil pass0 (pa_cons (pv 8) pa_nil)))) pa_nil)))))
            (pss_one (ps_ret pe_bl)) pss_nil)
          (pss_cons (ps_set (i := 10) sc_law.nd rfl (by first | exact Or.inl rfl | exact Or.inr rfl) (pe_lst (pa_cons (pe_lst (pa_cons (pv 9) (pa_cons (pv 8) pa_nil))) (pa_cons (pe_tup (pa_cons (pv 9) pa_nil)) (pa_cons (pe_tup (pa_cons (pv 9) (pa_cons (pv 8) (pa_cons (pv 8) pa_nil)))) (pa_cons (pe_tup (pa_cons (pv 8) (pa_cons (pv 9) pa_nil))) (pa_cons (pe_tup (pa_cons (pv 9) (pa_cons (pe_lst (pa_cons (pv 8) pa_nil)) pa_nil))) (pa_cons (pe_tup (pa_cons pe_non (pa_cons (pv 8) pa_nil))) (pa_cons (pe_tup (pa_cons (pv 9) (pa_cons pe_int pa_nil))) pa_nil)))))))))
          (pss_cons (ps_set (i := 6) sc_law.nd rfl (by first | exact Or.inl rfl | exact Or.inr rfl) (pe_ix ix_list (pv 10) (pe_call (ok__law_take T) (hr.mono (by decide)) (by rfl) T.g__law_take T.F__law_take.kp T.b__law_take .nil pass0 (pa_cons (pv 2) (pa_cons pe_int pa_nil))) (fun _ _ => rfl)))
          (pss_one (ps_if (PW.pt (pw_and (pt_not (pt_val (pe_call (ok__law_is T) (hr.mono (by decide)) (by rfl) T.g__law_is T.F__law_is.kp T.b__law_is .nil pass0 (pa_cons (pe_call (ok_is_token T) (hr.mono (by decide)) (by rfl) T.g_is_token T.F_is_token.kp T.b_is_token .nil pass0 (pa_cons (pv 6) pa_nil)) (pa_cons pe_bl pa_nil))))) (pw_and1 (pt_not (PW.pt (pw_and (pt_val (pe_call (ok__law_is_mark T) (hr.mono (by decide)) (by rfl) T.g__law_is_mark T.F__law_is_mark.kp T.b__law_is_mark .nil pass0 (pa_cons (pv 8) pa_nil))) (pw_and1 (pt_val (pe_call (ok__law_is_word T) (hr.mono (by decide)) (by rfl) T.g__law_is_word T.F__law_is_word.kp T.b__law_is_word .nil pass0 (pa_cons (pv 9) pa_nil))))))))))
            (pss_one (ps_ret pe_bl)) pss_nil))))))))
        (pss_one (ps_for PassesOwn.never rfl (pi_list (pe_lst (pa_cons pe_non (pa_cons pe_bl (pa_cons pe_int (pa_cons (pv 3) (pa_cons (pe_lst (pa_cons pe_str pa_nil)) (pa_cons (pe_tup (pa_cons pe_str pa_nil)) (pa_cons (pe_tup (pa_cons pe_str pa_nil)) (pa_cons (pe_disp (pps_cons pe_str pe_str pps_nil) (by rfl) (by rfl) (fun z => by cases z) (by decide)) (pa_cons pe_dnewK (pa_cons (pe_tup (pa_cons pe_str (pa_cons pe_str pa_nil))) pa_nil)))))))))))) (pg_name (i := 6) sc_law.nd rfl (by first | exact Or.inl rfl | exact Or.inr rfl))
          (pss_cons (ps_if (PW.pt (pw_or (pt_not (pt_val (pe_call (ok__law_is T) (hr.mono (by decide)) (by rfl) T.g__law_is T.F__law_is.kp T.b__law_is .nil pass0 (pa_cons (pe_call (ok_is_word T) (hr.mono (by decide)) (by rfl) T.g_is_word T.F_is_word.kp T.b_is_word .nil pass0 (pa_cons (pv 6) pa_nil)) (pa_cons pe_bl pa_nil))))) (pw_or1 (pt_not (pt_val (pe_call (ok__law_is T) (hr.mono (by decide)) (by rfl) T.g__law_is T.F__law_is.kp T.b__law_is .nil pass0 (pa_cons (pe_call (ok_is_mark T) (hr.mono (by decide)) (by rfl) T.g_is_mark T.F_is_mark.kp T.b_is_mark .nil pass0 (pa_cons (pv 6) pa_nil)) (pa_cons pe_bl pa_nil))))))))
            (pss_one (ps_ret pe_bl)) pss_nil)
          (pss_one (ps_if (PW.pt (pw_and (pt_cmpR (op_neA hr.units) (pv 6) (pe_tup (pa_cons pe_str (pa_cons pe_str pa_nil))) (nomark _)) (pw_and1 (pt_not (pt_val (pe_call (ok__law_is T) (hr.mono (by decide)) (by rfl) T.g__law_is T.F__law_is.kp T.b__law_is .nil pass0 (pa_cons (pe_call (ok_is_token T) (hr.mono (by decide)) (by rfl) T.g_is_token T.F_is_token.kp T.b_is_token .nil pass0 (pa_cons (pv 6) pa_nil)) (pa_cons pe_bl pa_nil))))))))
            (pss_one (ps_ret pe_bl)) pss_nil))))))))))))
      (pss_one (ps_ret pe_bl))), ?_⟩
    have hbnd : ∀ L : Int, 0 ≤ L → 1 ≤ (if (if L < 30 then L else 30) > 1 then (if L < 30 then L else 30) else 1) ∧ (if (if L < 30 then L else 30) > 1 then (if L < 30 then L else 30) else 1) ≤ 30 := by
      intro L h
      by_cases c : L < 30
      · rw [if_pos c]
        by_cases c2 : L > 1
        · rw [if_pos c2]
          omega
        · rw [if_neg c2]
          omega
      · rw [if_neg c]
        decide
    have hb2 := hbnd (ns.map V.int).length (by omega)
    refine ⟨.ref a, rfl, _, _, rfl, .inl ⟨_, hS, rfl⟩, _, _, rfl, _, _, rfl, _, rfl, by omega, by omega, ?_⟩
    refine for_range (fun i σ Hx => ∃ y1 y2 y3 y4 y5 y6 y7 y8 y9 y10 : Option V, σ = [some (.ref a), y1, y2, y3, y4, y5, y6, y7, y8, y9, y10] ∧ Same H Hx) ⟨none, none, none, none, none, none, none, none, none, none, rfl, Same.refl H⟩ (fun i σ H1 hi hP => ?_) (fun σ H1 hP => q H1)
    obtain ⟨y1, y2, y3, y4, y5, y6, y7, y8, y9, y10, rfl, S0⟩ := hP
    have hi2 : i ≤ 1000 := by omega
    refine ⟨.ref a, rfl, _, rfl, a, ns, i, by rw [Int.zero_add]; rfl, S0.seq hS, hi2, fun z => ⟨z, rfl, fun p x y hp hx hy hy2 => ?_⟩⟩
    have B0 : BoxAt (upd H1 p (.lst [.int x, .int y, .int 0])) p 0 := ⟨x, y, 0, upd_same, hx, hy, hy2, Int.le_refl 0, Int.le_refl 0⟩
    have S1 : Same H1 (upd H1 p (.lst [.int x, .int y, .int 0])) := same_new (Same.refl H1) hp
    refine ⟨_, rfl, p, _, rfl, by omega, B0, fun low H2 hlow m2 B2 => ?_⟩
    have S2 : Same H1 H2 := same_sam hp S1 m2
    refine ⟨_, rfl, _, _, rfl, rfl, _, rfl, _, 6, _, rfl, by decide, by decide, by omega, B2, fun d1 o1 ge1 lt1 B3 => ?_⟩
    refine ⟨_, _, rfl, rfl, _, rfl, p, _, rfl, by omega, B3, fun hg H4 hhg m4 B4 => ?_⟩
    have S4 : Same H1 H4 := same_sam hp S2 ((Sam.refl p H2).box.trans m4)
    refine ⟨(by show (2 : Nat) ≤ sizeLine; decide), fun l hl => ?_⟩
    have nl : l ≠ p := (B4.ne hl).symm
    refine ⟨_, rfl, _, 2, _, rfl, by decide, by decide, by omega, B4.new hl, fun d2 o2 ge2 lt2 B5 => ?_⟩
    obtain ⟨v, hv, high, rfl, hhigh⟩ := atI_all (xs := [V.int (low - 2 + d1), V.int hg]) (P := fun v => ∃ z : Int, v = .int z ∧ z.natAbs < 2 ^ 140) (by
      intro x hx
      simp only [List.mem_cons, List.not_mem_nil, or_false] at hx
      rcases hx with rfl | rfl
      all_goals exact ⟨_, rfl, by omega⟩) ge2 lt2
    refine ⟨l, _, _, _, rfl, rfl, SqL.of (by repeat (first | assumption | exact upd_same | refine Eq.trans (upd_ne (by assumption)) ?_ | refine keep_new ?_ (by assumption))), hv, ?_⟩
    have S5 := same_sam hp (same_new (o := .lst [V.int (low - 2 + d1), V.int hg]) S4 hl) ((Sam.refl p _).box (o := o2))
    revert B5 S5
    generalize upd (upd H4 l (.lst [V.int (low - 2 + d1), V.int hg])) p o2 = H5
    intro B5 S5
    -- the integers near the bounds
    refine ⟨_, rfl, _, _, rfl, rfl, _, rfl, _, rfl, _, _, rfl, rfl, _, rfl, _, _, rfl, rfl, _, rfl, _, rfl, _, _, rfl, rfl, _, rfl, p, _, rfl, by omega, B5, fun z6 H6 hz6 m6 B6 => ?_⟩
    have S6 : Same H1 H6 := same_sam hp S5 m6
    refine ⟨(by show (8 : Nat) ≤ sizeLine; decide), fun l8 hl8 => ?_⟩
    have S7 := same_new (o := .lst [V.int (low - 1), V.int low, V.int (low + 1), V.int (high - 1), V.int high, V.int (high + 1), V.int 0, V.int z6]) S6 hl8
    have B7 := B6.new (o := .lst [V.int (low - 1), V.int low, V.int (low + 1), V.int (high - 1), V.int high, V.int (high + 1), V.int 0, V.int z6]) hl8
    refine ⟨_, rfl, ⟨_, SqL.of upd_same⟩, for_list (K := K) (xs := [V.int (low - 1), V.int low, V.int (low + 1), V.int (high - 1), V.int high, V.int (high + 1), V.int 0, V.int z6]) (fun i' σ Hx => ∃ y5 : Option V, σ = [some (.ref a), some (.int (0 + (i : Int))), some (.ref p), some (.int low), some (.int high), y5, y6, y7, y8, y9, y10] ∧ Hx = upd H6 l8 (.lst [V.int (low - 1), V.int low, V.int (low + 1), V.int (high - 1), V.int high, V.int (high + 1), V.int 0, V.int z6])) ⟨y5, rfl, rfl⟩ (fun i' σ Hx _ h => ?_) (fun i' v σ Hx hv h => ?_) (fun σ Hx h => ?_)⟩
    · obtain ⟨_, _, rfl⟩ := h
      exact SqL.of upd_same
    · obtain ⟨y5, rfl, rfl⟩ := h
      obtain ⟨z, rfl⟩ : ∃ z : Int, v = .int z := by
        have hm := List.mem_of_getElem? hv
        simp only [List.mem_cons, List.not_mem_nil, or_false] at hm
        rcases hm with rfl | rfl | rfl | rfl | rfl | rfl | rfl | rfl
        all_goals exact ⟨_, rfl⟩
      refine ⟨_, rfl, _, rfl, _, rfl, _, _, low, high, rfl, .int z, _, rfl, _, rfl, _, _, rfl, rfl, _, rfl, ?_⟩
      by_cases c : low ≤ z
      · rw [if_pos (decide_eq_true c)]
        refine ⟨_, rfl, _, _, rfl, rfl, _, _, rfl, _, rfl, iteNS ?_ ⟨_, rfl, rfl⟩⟩
        show (decide (low ≤ z) && decide (z ≤ high)) = decide (z ≤ high)
        rw [decide_eq_true c]
        rfl
      · rw [if_neg (by rw [decide_eq_false c]; exact Bool.false_ne_true)]
        refine ⟨_, _, rfl, _, rfl, iteNS ?_ ⟨_, rfl, rfl⟩⟩
        show (decide (low ≤ z) && decide (z ≤ high)) = false
        rw [decide_eq_false c]
        rfl
    obtain ⟨y5', rfl, rfl⟩ := h
    revert B7 S7
    generalize upd H6 l8 (.lst [V.int (low - 1), V.int low, V.int (low + 1), V.int (high - 1), V.int high, V.int (high + 1), V.int 0, V.int z6]) = H7
    intro S7 B7
    -- odd things
    refine ⟨_, rfl, low, rfl, log_of hlow (by decide) (by decide), _, rfl, (by show (1 : Nat) ≤ sizeLine; decide), fun a1 h1 => ⟨_, rfl, (by show (1 : Nat) ≤ sizeLine; decide), fun a2 h2 => fun a3 h3 => fun a4 h4 => ⟨_, rfl, upd_same, [(Sum.inr (Str.ofString "a"), .int low)], rfl, (by show 1 ≤ 15; decide), (by show (10 : Nat) ≤ sizeLine; decide), fun l10 hl10 => ?_⟩⟩⟩
    rw [upd_upd]
    rw [upd_upd] at hl10
    have I10 : ∀ v ∈ [V.non, V.bl true, V.bl false, V.str (Str.ofString ""), V.str (Str.ofString "0"), V.str (Str.ofString (toString low)), V.ref a1, V.ref a2, V.ref a3, V.ref a4], NoInt (upd (upd (upd (upd (upd H7 a1 (.lst [V.int low])) a2 (.tup [V.int low])) a3 (.dK [])) a4 (.dK (mergeK [] [(Sum.inr (Str.ofString "a"), .int low)]))) l10 (.lst [V.non, V.bl true, V.bl false, V.str (Str.ofString ""), V.str (Str.ofString "0"), V.str (Str.ofString (toString low)), V.ref a1, V.ref a2, V.ref a3, V.ref a4])) v := by
      intro v hv
      simp only [List.mem_cons, List.not_mem_nil, or_false] at hv
      rcases hv with rfl | rfl | rfl | rfl | rfl | rfl | rfl | rfl | rfl | rfl
      · exact ⟨_, .non, rfl⟩
      · exact ⟨_, .bl true, rfl⟩
      · exact ⟨_, .bl false, rfl⟩
      · exact ⟨_, .str _ (by decide +kernel), rfl⟩
      · exact ⟨_, .str _ (by decide +kernel), rfl⟩
      · exact ⟨_, .str _ (Nat.le_trans (PyProof.Rows.int_text_len_1921 (log_of hlow (by decide) (by decide))) (by decide)), rfl⟩
      · exact ⟨_, .lst (keep_new (keep_new (keep_new (keep_new upd_same h2) h3) h4) hl10), rfl⟩
      · exact ⟨_, .tup (keep_new (keep_new (keep_new upd_same h3) h4) hl10), rfl⟩
      · exact ⟨_, .dct (keep_new (keep_new upd_same h4) hl10), rfl⟩
      · exact ⟨_, .dct (keep_new upd_same hl10), rfl⟩
    have S8 := same_new (o := .lst [V.non, V.bl true, V.bl false, V.str (Str.ofString ""), V.str (Str.ofString "0"), V.str (Str.ofString (toString low)), V.ref a1, V.ref a2, V.ref a3, V.ref a4]) (same_new (o := .dK (mergeK [] [(Sum.inr (Str.ofString "a"), .int low)])) (same_new (o := .dK []) (same_new (o := .tup [V.int low]) (same_new (o := .lst [V.int low]) S7 h1) h2) h3) h4) hl10
    have B8 := (((((B7.new (o := .lst [V.int low]) h1).new (o := .tup [V.int low]) h2).new (o := .dK []) h3).new (o := .dK (mergeK [] [(Sum.inr (Str.ofString "a"), .int low)])) h4).new (o := .lst [V.non, V.bl true, V.bl false, V.str (Str.ofString ""), V.str (Str.ofString "0"), V.str (Str.ofString (toString low)), V.ref a1, V.ref a2, V.ref a3, V.ref a4]) hl10).mono (m := 100) (by omega)
    have E8 : upd (upd (upd (upd (upd H7 a1 (.lst [V.int low])) a2 (.tup [V.int low])) a3 (.dK [])) a4 (.dK (mergeK [] [(Sum.inr (Str.ofString "a"), .int low)]))) l10 (.lst [V.non, V.bl true, V.bl false, V.str (Str.ofString ""), V.str (Str.ofString "0"), V.str (Str.ofString (toString low)), V.ref a1, V.ref a2, V.ref a3, V.ref a4]) l10 = some (.lst [V.non, V.bl true, V.bl false, V.str (Str.ofString ""), V.str (Str.ofString "0"), V.str (Str.ofString (toString low)), V.ref a1, V.ref a2, V.ref a3, V.ref a4]) := upd_same
    revert I10 S8 B8 E8
    generalize [V.non, V.bl true, V.bl false, V.str (Str.ofString ""), V.str (Str.ofString "0"), V.str (Str.ofString (toString low)), V.ref a1, V.ref a2, V.ref a3, V.ref a4] = X10
    generalize upd (upd (upd (upd (upd H7 a1 (.lst [V.int low])) a2 (.tup [V.int low])) a3 (.dK [])) a4 (.dK (mergeK [] [(Sum.inr (Str.ofString "a"), .int low)]))) l10 (.lst X10) = H8
    intro I10 S8 B8 E8
    refine ⟨_, rfl, ⟨_, SqL.of E8⟩, for_list (K := K) (xs := X10) (fun i' σ Hx => ∃ y6 : Option V, σ = [some (.ref a), some (.int (0 + (i : Int))), some (.ref p), some (.int low), some (.int high), y5', y6, y7, y8, y9, y10] ∧ Hx = H8) ⟨y6, rfl, rfl⟩ (fun i' σ Hx _ h => ?_) (fun i' v σ Hx hv h => ?_) (fun σ Hx h => ?_)⟩
    · obtain ⟨_, _, rfl⟩ := h
      exact SqL.of E8
    · obtain ⟨y6, rfl, rfl⟩ := h
      obtain ⟨t, ty, hn⟩ := I10 v (List.mem_of_getElem? hv)
      refine ⟨_, rfl, _, rfl, _, rfl, v, t, low, high, rfl, ty, _, _, rfl, _, rfl, iteNS (inI_no hn) ?_⟩
      refine ⟨_, rfl, v, t, 0, 1, rfl, ty, _, _, rfl, _, rfl, iteNS (inI_no hn) ⟨_, rfl, rfl⟩⟩
    obtain ⟨y6', rfl, rfl⟩ := h
    -- strings and marks, four turns
    refine ⟨4, rfl, by decide, by decide, for_range (fun i' σ Hx => ∃ y6 y7 y8 y9 y10 : Option V, σ = [some (.ref a), some (.int (0 + (i : Int))), some (.ref p), some (.int low), some (.int high), y5', y6, y7, y8, y9, y10] ∧ Same H1 Hx ∧ BoxAt Hx p (100 + 100 * (i' : Int))) ⟨_, _, _, _, _, rfl, S8, B8.mono (by omega)⟩ (fun i' σ Hx hi4 hP => ?_) (fun σ Hx hP => ?_)⟩
    · obtain ⟨y6, y7, y8, y9, y10, rfl, S, B⟩ := hP
      have hi5 : i' < 4 := hi4
      refine ⟨_, rfl, p, _, rfl, by omega, B, fun wd H2 hw aw mw Bw => ⟨_, rfl, p, _, rfl, by omega, Bw, fun mk H3 hm am mm Bm => ⟨_, _, rfl, ?_⟩⟩⟩
      have S3 : Same H1 H3 := same_sam hp S (mw.trans mm)
      have tw : ∀ Hy : Hp, Ty7 Hy (.str wd) "str" := fun Hy => .str wd (by omega)
      have tm : ∀ Hy : Hp, Ty7 Hy (.str mk) "str" := fun Hy => .str mk (by omega)
      refine ⟨_, rfl, _, _, rfl, tw _, fun H4 s4 => ⟨_, rfl, wd, rfl, hw, aw, fun H5 s5 => ⟨_, _, rfl, _, rfl, iteNS rfl ?_⟩⟩⟩
      refine ⟨_, rfl, _, _, rfl, tm _, _, rfl, mk, rfl, hm, am, fun H6 s6 => ⟨_, _, rfl, _, rfl, iteNS rfl ?_⟩⟩
      have S6 := s4.trans (s5.trans s6)
      refine ⟨_, rfl, _, rfl, (by show (2 : Nat) ≤ sizeLine; decide), fun t ht => ⟨_, _, rfl, .two upd_same (tm _) (tw _), fun H7 s7 => ?_⟩⟩
      have S7 := S6.trans ((same_new (Same.refl H6) ht).trans s7)
      refine andV_go (c := markS mk) (d := wordS wd) (fun Q' k => ⟨_, rfl, mk, rfl, hm, am, k⟩) (fun H' Q' s' k => ⟨_, rfl, wd, rfl, hw, aw, k⟩) (fun H8 s8 => ⟨_, _, rfl, _, rfl, iteNS rfl ?_⟩)
      have S8 := S7.trans s8
      have B8 := Bm.up S8
      -- odd tokens
      refine ⟨_, rfl, _, rfl, (by show (2 : Nat) ≤ sizeLine; decide), fun x1 n1 => ⟨_, rfl, (by show (1 : Nat) ≤ sizeLine; decide), fun x2 n2 => ⟨_, rfl, _, rfl, _, rfl, (by show (3 : Nat) ≤ sizeLine; decide), fun x3 n3 => ⟨_, rfl, _, rfl, (by show (2 : Nat) ≤ sizeLine; decide), fun x4 n4 => ⟨_, rfl, _, rfl, (by show (1 : Nat) ≤ sizeLine; decide), fun x5 n5 => ⟨(by show (2 : Nat) ≤ sizeLine; decide), fun x6 n6 => ⟨_, rfl, (by show (2 : Nat) ≤ sizeLine; decide), fun x7 n7 => ⟨_, rfl, (by show (2 : Nat) ≤ sizeLine; decide), fun x8 n8 => ⟨(by show (7 : Nat) ≤ sizeLine; decide), fun l7 nl7 => ?_⟩⟩⟩⟩⟩⟩⟩⟩⟩
      have b1 := B8.new (o := .lst [V.str mk, V.str wd]) n1
      have b2 := b1.new (o := .tup [V.str mk]) n2
      have b3 := b2.new (o := .tup [V.str mk, V.str wd, V.str wd]) n3
      have b4 := b3.new (o := .tup [V.str wd, V.str mk]) n4
      have b5 := b4.new (o := .lst [V.str wd]) n5
      have b6 := b5.new (o := .tup [V.str mk, V.ref x5]) n6
      have b7 := b6.new (o := .tup [V.non, V.str wd]) n7
      have b8 := b7.new (o := .tup [V.str mk, V.int 5]) n8
      have b9 := b8.new (o := .lst [V.ref x1, V.ref x2, V.ref x3, V.ref x4, V.ref x6, V.ref x7, V.ref x8]) nl7
      have q1 := (B8.ne n1).symm
      have q2 := (b1.ne n2).symm
      have q3 := (b2.ne n3).symm
      have q4 := (b3.ne n4).symm
      have q5 := (b4.ne n5).symm
      have q6 := (b5.ne n6).symm
      have q7 := (b6.ne n7).symm
      have q8 := (b7.ne n8).symm
      have q9 := (b8.ne nl7).symm
      refine ⟨_, rfl, _, rfl, _, 7, _, rfl, by decide, by decide, by omega, b9, fun d o ge lt B10 => ?_⟩
      have S9 := same_sam hp (S3.trans (same_new (o := .lst [V.ref x1, V.ref x2, V.ref x3, V.ref x4, V.ref x6, V.ref x7, V.ref x8]) (same_new (same_new (same_new (same_new (same_new (same_new (same_new (same_new S8 n1) n2) n3) n4) n5) n6) n7) n8) nl7)) ((Sam.refl p _).box (o := o))
      have F1 := keep_box (o := o) (keep_new (o := .lst [V.ref x1, V.ref x2, V.ref x3, V.ref x4, V.ref x6, V.ref x7, V.ref x8]) (keep_new (keep_new (keep_new (keep_new (keep_new (keep_new (keep_new (upd_same (H := H8) (a := x1) (o := .lst [V.str mk, V.str wd])) n2) n3) n4) n5) n6) n7) n8) nl7) q1
      have F2 := keep_box (o := o) (keep_new (o := .lst [V.ref x1, V.ref x2, V.ref x3, V.ref x4, V.ref x6, V.ref x7, V.ref x8]) (keep_new (keep_new (keep_new (keep_new (keep_new (keep_new (upd_same (a := x2) (o := .tup [V.str mk])) n3) n4) n5) n6) n7) n8) nl7) q2
      have F3 := keep_box (o := o) (keep_new (o := .lst [V.ref x1, V.ref x2, V.ref x3, V.ref x4, V.ref x6, V.ref x7, V.ref x8]) (keep_new (keep_new (keep_new (keep_new (keep_new (upd_same (a := x3) (o := .tup [V.str mk, V.str wd, V.str wd])) n4) n5) n6) n7) n8) nl7) q3
      have F4 := keep_box (o := o) (keep_new (o := .lst [V.ref x1, V.ref x2, V.ref x3, V.ref x4, V.ref x6, V.ref x7, V.ref x8]) (keep_new (keep_new (keep_new (keep_new (upd_same (a := x4) (o := .tup [V.str wd, V.str mk])) n5) n6) n7) n8) nl7) q4
      have F5 := keep_box (o := o) (keep_new (o := .lst [V.ref x1, V.ref x2, V.ref x3, V.ref x4, V.ref x6, V.ref x7, V.ref x8]) (keep_new (keep_new (keep_new (upd_same (a := x5) (o := .lst [V.str wd])) n6) n7) n8) nl7) q5
      have F6 := keep_box (o := o) (keep_new (o := .lst [V.ref x1, V.ref x2, V.ref x3, V.ref x4, V.ref x6, V.ref x7, V.ref x8]) (keep_new (keep_new (upd_same (a := x6) (o := .tup [V.str mk, V.ref x5])) n7) n8) nl7) q6
      have F7 := keep_box (o := o) (keep_new (o := .lst [V.ref x1, V.ref x2, V.ref x3, V.ref x4, V.ref x6, V.ref x7, V.ref x8]) (keep_new (upd_same (a := x7) (o := .tup [V.non, V.str wd])) n8) nl7) q7
      have F8 := keep_box (o := o) (keep_new (o := .lst [V.ref x1, V.ref x2, V.ref x3, V.ref x4, V.ref x6, V.ref x7, V.ref x8]) (upd_same (a := x8) (o := .tup [V.str mk, V.int 5])) nl7) q8
      obtain ⟨v, hv, b, tk, hb⟩ := atI_all (xs := [V.ref x1, V.ref x2, V.ref x3, V.ref x4, V.ref x6, V.ref x7, V.ref x8]) (P := fun v => ∃ b, Tok7 _ v b ∧ (b = true → markS wd = true ∧ wordS mk = true)) (by
        intro x hx
        simp only [List.mem_cons, List.not_mem_nil, or_false] at hx
        rcases hx with rfl | rfl | rfl | rfl | rfl | rfl | rfl
        · exact ⟨false, .odd (.lst F1) rfl, fun z => nomatch z⟩
        · exact ⟨false, .len F2 (by show (1 : Nat) ≠ 2; decide), fun z => nomatch z⟩
        · exact ⟨false, .len F3 (by show (3 : Nat) ≠ 2; decide), fun z => nomatch z⟩
        · exact ⟨_, .two F4 (tw _) (tm _), fun z => (Bool.and_eq_true _ _).mp z⟩
        · exact ⟨false, (Tok7.two F6 (tm _) (.lst F5)).eq (Bool.and_false _), fun z => nomatch z⟩
        · exact ⟨false, .two F7 .non (tw _), fun z => nomatch z⟩
        · exact ⟨false, (Tok7.two F8 (tm _) (.int 5)).eq (Bool.and_false _), fun z => nomatch z⟩) ge lt
      refine ⟨l7, _, _, _, rfl, rfl, SqL.of (keep_box upd_same q9), hv, ?_⟩
      refine ⟨_, rfl, _, b, rfl, tk, fun H11 s11 => ⟨_, _, rfl, _, rfl, ?_⟩⟩
      cases b with
      | false => exact iteF (iteF ⟨_, _, _, _, _, rfl, S9.trans s11, (B10.up s11).mono (by omega)⟩)
      | true =>
        obtain ⟨e1, e2⟩ := hb rfl
        refine iteT ⟨_, rfl, wd, rfl, hw, aw, fun H12 s12 => ⟨_, rfl, ?_⟩⟩
        rw [e1]
        refine iteT ⟨_, rfl, mk, rfl, hm, am, fun H13 s13 => ⟨_, rfl, ?_⟩⟩
        rw [e2]
        have s := s11.trans (s12.trans s13)
        exact iteF ⟨_, _, _, _, _, rfl, S9.trans s, (B10.up s).mono (by omega)⟩
    obtain ⟨y6, y7, y8, y9, y10, rfl, S9, B9⟩ := hP
    refine ⟨_, rfl, (by show (1 : Nat) ≤ sizeLine; decide), fun b1 k1 => ⟨(by show (1 : Nat) ≤ sizeLine; decide), fun b2 k2 => ⟨(by show (1 : Nat) ≤ sizeLine; decide), fun b3 k3 => fun b4 k4 => ⟨upd_same, [(Sum.inr (Str.ofString "a"), .str (Str.ofString "a"))], rfl, (by show 1 ≤ 15; decide), fun b5 k5 => ⟨(by show (2 : Nat) ≤ sizeLine; decide), fun b6 k6 => ⟨(by show (10 : Nat) ≤ sizeLine; decide), fun l9 hl9 => ?_⟩⟩⟩⟩⟩⟩
    rw [upd_upd]
    rw [upd_upd] at hl9 k6 k5
    have G1 := keep_new (o := .lst [V.non, V.bl true, V.int 0, V.int low, V.ref b1, V.ref b2, V.ref b3, V.ref b4, V.ref b5, V.ref b6]) (keep_new (keep_new (keep_new (keep_new (keep_new (upd_same (H := Hx) (a := b1) (o := .lst [V.str (Str.ofString "#0")])) k2) k3) k4) k5) k6) hl9
    have G2 := keep_new (o := .lst [V.non, V.bl true, V.int 0, V.int low, V.ref b1, V.ref b2, V.ref b3, V.ref b4, V.ref b5, V.ref b6]) (keep_new (keep_new (keep_new (keep_new (upd_same (a := b2) (o := .tup [V.str (Str.ofString "#0")])) k3) k4) k5) k6) hl9
    have G3 := keep_new (o := .lst [V.non, V.bl true, V.int 0, V.int low, V.ref b1, V.ref b2, V.ref b3, V.ref b4, V.ref b5, V.ref b6]) (keep_new (keep_new (keep_new (upd_same (a := b3) (o := .tup [V.str (Str.ofString "a")])) k4) k5) k6) hl9
    have G4 := keep_new (o := .lst [V.non, V.bl true, V.int 0, V.int low, V.ref b1, V.ref b2, V.ref b3, V.ref b4, V.ref b5, V.ref b6]) (keep_new (keep_new (upd_same (a := b4) (o := .dK (mergeK [] [(Sum.inr (Str.ofString "a"), .str (Str.ofString "a"))]))) k5) k6) hl9
    have G5 := keep_new (o := .lst [V.non, V.bl true, V.int 0, V.int low, V.ref b1, V.ref b2, V.ref b3, V.ref b4, V.ref b5, V.ref b6]) (keep_new (upd_same (a := b5) (o := .dK [])) k6) hl9
    have G6 := keep_new (o := .lst [V.non, V.bl true, V.int 0, V.int low, V.ref b1, V.ref b2, V.ref b3, V.ref b4, V.ref b5, V.ref b6]) (upd_same (a := b6) (o := .tup [V.str (Str.ofString "#0"), V.str (Str.ofString "a")])) hl9
    have G7 := upd_same (H := upd (upd (upd (upd (upd (upd Hx b1 (.lst [V.str (Str.ofString "#0")])) b2 (.tup [V.str (Str.ofString "#0")])) b3 (.tup [V.str (Str.ofString "a")])) b4 (.dK (mergeK [] [(Sum.inr (Str.ofString "a"), .str (Str.ofString "a"))]))) b5 (.dK [])) b6 (.tup [V.str (Str.ofString "#0"), V.str (Str.ofString "a")])) (a := l9) (o := .lst [V.non, V.bl true, V.int 0, V.int low, V.ref b1, V.ref b2, V.ref b3, V.ref b4, V.ref b5, V.ref b6])
    have S10 := same_new (o := .lst [V.non, V.bl true, V.int 0, V.int low, V.ref b1, V.ref b2, V.ref b3, V.ref b4, V.ref b5, V.ref b6]) (same_new (o := .tup [V.str (Str.ofString "#0"), V.str (Str.ofString "a")]) (same_new (o := .dK []) (same_new (o := .dK (mergeK [] [(Sum.inr (Str.ofString "a"), .str (Str.ofString "a"))])) (same_new (o := .tup [V.str (Str.ofString "a")]) (same_new (o := .tup [V.str (Str.ofString "#0")]) (same_new (o := .lst [V.str (Str.ofString "#0")]) S9 k1) k2) k3) k4) k5) k6) hl9
    have I9 : ∀ v ∈ [V.non, V.bl true, V.int 0, V.int low, V.ref b1, V.ref b2, V.ref b3, V.ref b4, V.ref b5, V.ref b6], Odd7 (upd (upd (upd (upd (upd (upd (upd Hx b1 (.lst [V.str (Str.ofString "#0")])) b2 (.tup [V.str (Str.ofString "#0")])) b3 (.tup [V.str (Str.ofString "a")])) b4 (.dK (mergeK [] [(Sum.inr (Str.ofString "a"), .str (Str.ofString "a"))]))) b5 (.dK [])) b6 (.tup [V.str (Str.ofString "#0"), V.str (Str.ofString "a")])) l9 (.lst [V.non, V.bl true, V.int 0, V.int low, V.ref b1, V.ref b2, V.ref b3, V.ref b4, V.ref b5, V.ref b6])) v := by
      intro v hv
      simp only [List.mem_cons, List.not_mem_nil, or_false] at hv
      rcases hv with rfl | rfl | rfl | rfl | rfl | rfl | rfl | rfl | rfl | rfl
      · exact .non
      · exact .bl true
      · exact .int 0
      · exact .int low
      · exact .lst (l := [Str.ofString "#0"]) G1 (by intro z hz; rw [List.mem_singleton.mp hz]; exact asc_lit (by decide +kernel))
      · exact .one G2 (asc_lit (by decide +kernel))
      · exact .one G3 (asc_lit (by decide +kernel))
      · exact .dct G4
      · exact .dct G5
      · exact .two G6
    clear G1 G2 G3 G4 G5 G6
    revert G7 S10 I9
    generalize [V.non, V.bl true, V.int 0, V.int low, V.ref b1, V.ref b2, V.ref b3, V.ref b4, V.ref b5, V.ref b6] = X9
    generalize upd (upd (upd (upd (upd (upd (upd Hx b1 (.lst [V.str (Str.ofString "#0")])) b2 (.tup [V.str (Str.ofString "#0")])) b3 (.tup [V.str (Str.ofString "a")])) b4 (.dK (mergeK [] [(Sum.inr (Str.ofString "a"), .str (Str.ofString "a"))]))) b5 (.dK [])) b6 (.tup [V.str (Str.ofString "#0"), V.str (Str.ofString "a")])) l9 (.lst X9) = H9
    intro G7 S10 I9
    refine ⟨_, rfl, ⟨_, SqL.of G7⟩, for_list (K := K) (xs := X9) (fun i' σ Hx => ∃ y6 : Option V, σ = [some (.ref a), some (.int (0 + (i : Int))), some (.ref p), some (.int low), some (.int high), y5', y6, y7, y8, y9, y10] ∧ Same H9 Hx) ⟨y6, rfl, Same.refl H9⟩ (fun i' σ Hx _ h => ?_) (fun i' v σ Hx hv h => ?_) (fun σ Hx h => ?_)⟩
    · obtain ⟨_, _, s⟩ := h
      exact SqL.of (s _ _ G7)
    · obtain ⟨y6, rfl, s⟩ := h
      have od := I9 v (List.mem_of_getElem? hv)
      obtain ⟨t, ty, hw, hm⟩ : ∃ t, Ty7 Hx v t ∧ wordV v = false ∧ markV v = false := by
        cases od with
        | non => exact ⟨_, .non, rfl, rfl⟩
        | bl b => exact ⟨_, .bl b, rfl, rfl⟩
        | int z => exact ⟨_, .int z, rfl, rfl⟩
        | lst e _ => exact ⟨_, .lst (s _ _ e), rfl, rfl⟩
        | one e _ => exact ⟨_, .tup (s _ _ e), rfl, rfl⟩
        | two e => exact ⟨_, .tup (s _ _ e), rfl, rfl⟩
        | dct e => exact ⟨_, .dct (s _ _ e), rfl, rfl⟩
      refine ⟨_, rfl, v, t, rfl, ty, fun H4 s4 => ⟨_, _, rfl, _, rfl, iteNS hw ?_⟩⟩
      refine ⟨_, rfl, v, t, rfl, ty.up s4, _, _, rfl, _, rfl, iteNS hm ?_⟩
      refine ⟨_, rfl, (by show (2 : Nat) ≤ sizeLine; decide), fun t9 n9 => ?_⟩
      have s9 := (s.trans s4).trans (same_new (o := .tup [V.str (Str.ofString "#0"), V.str (Str.ofString "a")]) (Same.refl H4) n9)
      have sx := s4.trans (same_new (o := .tup [V.str (Str.ofString "#0"), V.str (Str.ofString "a")]) (Same.refl H4) n9)
      have T9 : Dp K (upd H4 t9 (.tup [V.str (Str.ofString "#0"), V.str (Str.ofString "a")])) (.ref t9) (.tuple ([Str.ofString "#0", Str.ofString "a"].map PyData.str)) := .tup (SqT.of upd_same) (dp_strs [Str.ofString "#0", Str.ofString "a"])
      cases od with
      | non =>
        refine .inl ⟨_, _, .non, T9, by decide +kernel, by decide +kernel, _, rfl, iteT ?_⟩
        exact ⟨_, rfl, _, _, rfl, .odd .non rfl, fun H5 s5 => ⟨_, _, rfl, _, rfl, iteF ⟨_, rfl, (s9.trans s5)⟩⟩⟩
      | bl b =>
        refine .inl ⟨_, _, .bl b, T9, by cases b <;> decide +kernel, by decide +kernel, _, rfl, iteT ?_⟩
        exact ⟨_, rfl, _, _, rfl, .odd (.bl b) rfl, fun H5 s5 => ⟨_, _, rfl, _, rfl, iteF ⟨_, rfl, (s9.trans s5)⟩⟩⟩
      | int z =>
        refine .inl ⟨_, _, .int z, T9, by simp [SeqAt.shaped, PyData.canLay0, PyData.depth], by decide +kernel, _, rfl, iteT ?_⟩
        exact ⟨_, rfl, _, _, rfl, .odd (.int z) rfl, fun H5 s5 => ⟨_, _, rfl, _, rfl, iteF ⟨_, rfl, (s9.trans s5)⟩⟩⟩
      | lst e o =>
        refine .inl ⟨_, _, .lst (SqL.of (s9 _ _ e)) (dp_strs _), T9, shaped_strs _ (fun z hz => strOk_asc (o z hz)), by decide +kernel, _, rfl, iteT ?_⟩
        exact ⟨_, rfl, _, _, rfl, .odd (.lst (s9 _ _ e)) rfl, fun H5 s5 => ⟨_, _, rfl, _, rfl, iteF ⟨_, rfl, (s9.trans s5)⟩⟩⟩
      | one e o =>
        rename_i b' z
        refine .inl ⟨_, _, .tup (SqT.of (s9 _ _ e)) (dp_strs [z]), T9, shaped_tups [z] (fun y hy => by rw [List.mem_singleton.mp hy]; exact strOk_asc o), by decide +kernel, _, rfl, ?_⟩
        rw [show PyData.eqv (.tuple ([z].map PyData.str)) (.tuple ([Str.ofString "#0", Str.ofString "a"].map PyData.str)) = false from by simp [PyData.eqv, PyData.eqvAll]]
        refine iteT ?_
        exact ⟨_, rfl, _, _, rfl, .len (s9 _ _ e) (by show (1 : Nat) ≠ 2; decide), fun H5 s5 => ⟨_, _, rfl, _, rfl, iteF ⟨_, rfl, (s9.trans s5)⟩⟩⟩
      | two e =>
        refine .inl ⟨_, _, .tup (SqT.of (s9 _ _ e)) (dp_strs [Str.ofString "#0", Str.ofString "a"]), T9, by decide +kernel, by decide +kernel, _, rfl, ?_⟩
        rw [show PyData.eqv (.tuple ([Str.ofString "#0", Str.ofString "a"].map PyData.str)) (.tuple ([Str.ofString "#0", Str.ofString "a"].map PyData.str)) = true from by decide +kernel]
        exact iteF (iteF ⟨_, rfl, s9⟩)
      | dct e =>
        refine .inr ⟨_, _, _, _, rfl, rfl, s9 _ _ e, upd_same, _, rfl, iteT ?_⟩
        exact ⟨_, rfl, _, _, rfl, .odd (.dct (s9 _ _ e)) rfl, fun H5 s5 => ⟨_, _, rfl, _, rfl, iteF ⟨_, rfl, (s9.trans s5)⟩⟩⟩
    obtain ⟨y6, rfl, s⟩ := h
    exact ⟨_, _, _, _, _, _, _, _, _, _, rfl, S0.trans (S10.trans s)⟩
end
end RV


namespace RV
open PySem PySem.Spec PyProof.Rows L2 TL
theorem all_mk {l : PySem.W.OpenLaw} {w : World} {K : PySem.W.Frag} {h : Heap} {mg : Str → Option Value} {fa f1 f2 f3 f4 f5 f6 f7 f8 f9 f10 f11 f12 f13 f14 f15 f16 : Addr} (X : K.In h) (G : h.Ns mainGlobals mg) (hfa : mg "law" = some (.ref fa))
    {od1 an1 od2 an2 od3 an3 od4 an4 od5 an5 od6 an6 od7 an7 od8 an8 od9 an9 od10 an10 od11 an11 od12 an12 od13 an13 od14 an14 od15 an15 od16 an16 : Option Addr} {sl1 sl2 sl3 sl4 sl5 sl6 sl7 sl8 sl9 sl10 sl11 sl12 sl13 sl14 sl15 sl16 : Array (Option Value)} {oc1 kV1 dc1 pm1 cd1 ct1 oc2 kV2 dc2 pm2 cd2 ct2 oc3 kV3 dc3 pm3 cd3 ct3 oc4 kV4 dc4 pm4 cd4 ct4 oc5 kV5 dc5 pm5 cd5 ct5 oc6 kV6 dc6 pm6 cd6 ct6 oc7 kV7 dc7 pm7 cd7 ct7 oc8 kV8 dc8 pm8 cd8 ct8 oc9 kV9 dc9 pm9 cd9 ct9 oc10 kV10 dc10 pm10 cd10 ct10 oc11 kV11 dc11 pm11 cd11 ct11 oc12 kV12 dc12 pm12 cd12 ct12 oc13 kV13 dc13 pm13 cd13 ct13 oc14 kV14 dc14 pm14 cd14 ct14 oc15 kV15 dc15 pm15 cd15 ct15 oc16 kV16 dc16 pm16 cd16 ct16 : Value}
    (a1 : PySem.W.nsIn K mainGlobals "is_integer" = some (some (.ref f1))) (l1 : K.lookup f1 = some ⟨oc1, od1, .func (PySem.W.fnOf "is_integer" "is_integer" (defArgs s_is_integer) (defBody s_is_integer) (defScope s_is_integer) .none kV1 dc1 pm1 an1 cd1 ct1), sl1⟩) (c1 : PySem.W.codeIn K cd1 "is_integer" = true) (k1 : PySem.W.keepIn K (.ref f1) = true)
    (a2 : PySem.W.nsIn K mainGlobals "is_word" = some (some (.ref f2))) (l2 : K.lookup f2 = some ⟨oc2, od2, .func (PySem.W.fnOf "is_word" "is_word" (defArgs s_is_word) (defBody s_is_word) (defScope s_is_word) .none kV2 dc2 pm2 an2 cd2 ct2), sl2⟩) (c2 : PySem.W.codeIn K cd2 "is_word" = true) (k2 : PySem.W.keepIn K (.ref f2) = true)
    (a3 : PySem.W.nsIn K mainGlobals "is_mark" = some (some (.ref f3))) (l3 : K.lookup f3 = some ⟨oc3, od3, .func (PySem.W.fnOf "is_mark" "is_mark" (defArgs s_is_mark) (defBody s_is_mark) (defScope s_is_mark) .none kV3 dc3 pm3 an3 cd3 ct3), sl3⟩) (c3 : PySem.W.codeIn K cd3 "is_mark" = true) (k3 : PySem.W.keepIn K (.ref f3) = true)
    (a4 : PySem.W.nsIn K mainGlobals "is_token" = some (some (.ref f4))) (l4 : K.lookup f4 = some ⟨oc4, od4, .func (PySem.W.fnOf "is_token" "is_token" (defArgs s_is_token) (defBody s_is_token) (defScope s_is_token) .none kV4 dc4 pm4 an4 cd4 ct4), sl4⟩) (c4 : PySem.W.codeIn K cd4 "is_token" = true) (k4 : PySem.W.keepIn K (.ref f4) = true)
    (a5 : PySem.W.nsIn K mainGlobals "_is_whole" = some (some (.ref f5))) (l5 : K.lookup f5 = some ⟨oc5, od5, .func (PySem.W.fnOf "_is_whole" "_is_whole" (defArgs s__is_whole) (defBody s__is_whole) (defScope s__is_whole) .none kV5 dc5 pm5 an5 cd5 ct5), sl5⟩) (c5 : PySem.W.codeIn K cd5 "_is_whole" = true) (k5 : PySem.W.keepIn K (.ref f5) = true)
    (a6 : PySem.W.nsIn K mainGlobals "_has_only" = some (some (.ref f6))) (l6 : K.lookup f6 = some ⟨oc6, od6, .func (PySem.W.fnOf "_has_only" "_has_only" (defArgs s__has_only) (defBody s__has_only) (defScope s__has_only) .none kV6 dc6 pm6 an6 cd6 ct6), sl6⟩) (c6 : PySem.W.codeIn K cd6 "_has_only" = true) (k6 : PySem.W.keepIn K (.ref f6) = true)
    (a7 : PySem.W.nsIn K mainGlobals "_law_cell" = some (some (.ref f7))) (l7 : K.lookup f7 = some ⟨oc7, od7, .func (PySem.W.fnOf "_law_cell" "_law_cell" (defArgs s__law_cell) (defBody s__law_cell) (defScope s__law_cell) .none kV7 dc7 pm7 an7 cd7 ct7), sl7⟩) (c7 : PySem.W.codeIn K cd7 "_law_cell" = true) (k7 : PySem.W.keepIn K (.ref f7) = true)
    (a8 : PySem.W.nsIn K mainGlobals "_law_box" = some (some (.ref f8))) (l8 : K.lookup f8 = some ⟨oc8, od8, .func (PySem.W.fnOf "_law_box" "_law_box" (defArgs s__law_box) (defBody s__law_box) (defScope s__law_box) .none kV8 dc8 pm8 an8 cd8 ct8), sl8⟩) (c8 : PySem.W.codeIn K cd8 "_law_box" = true) (k8 : PySem.W.keepIn K (.ref f8) = true)
    (a9 : PySem.W.nsIn K mainGlobals "_law_take" = some (some (.ref f9))) (l9 : K.lookup f9 = some ⟨oc9, od9, .func (PySem.W.fnOf "_law_take" "_law_take" (defArgs s__law_take) (defBody s__law_take) (defScope s__law_take) .none kV9 dc9 pm9 an9 cd9 ct9), sl9⟩) (c9 : PySem.W.codeIn K cd9 "_law_take" = true) (k9 : PySem.W.keepIn K (.ref f9) = true)
    (a10 : PySem.W.nsIn K mainGlobals "_law_number" = some (some (.ref f10))) (l10 : K.lookup f10 = some ⟨oc10, od10, .func (PySem.W.fnOf "_law_number" "_law_number" (defArgs s__law_number) (defBody s__law_number) (defScope s__law_number) .none kV10 dc10 pm10 an10 cd10 ct10), sl10⟩) (c10 : PySem.W.codeIn K cd10 "_law_number" = true) (k10 : PySem.W.keepIn K (.ref f10) = true)
    (a11 : PySem.W.nsIn K mainGlobals "_law_string" = some (some (.ref f11))) (l11 : K.lookup f11 = some ⟨oc11, od11, .func (PySem.W.fnOf "_law_string" "_law_string" (defArgs s__law_string) (defBody s__law_string) (defScope s__law_string) .none kV11 dc11 pm11 an11 cd11 ct11), sl11⟩) (c11 : PySem.W.codeIn K cd11 "_law_string" = true) (k11 : PySem.W.keepIn K (.ref f11) = true)
    (a12 : PySem.W.nsIn K mainGlobals "_law_mark" = some (some (.ref f12))) (l12 : K.lookup f12 = some ⟨oc12, od12, .func (PySem.W.fnOf "_law_mark" "_law_mark" (defArgs s__law_mark) (defBody s__law_mark) (defScope s__law_mark) .none kV12 dc12 pm12 an12 cd12 ct12), sl12⟩) (c12 : PySem.W.codeIn K cd12 "_law_mark" = true) (k12 : PySem.W.keepIn K (.ref f12) = true)
    (a13 : PySem.W.nsIn K mainGlobals "_law_is_mark" = some (some (.ref f13))) (l13 : K.lookup f13 = some ⟨oc13, od13, .func (PySem.W.fnOf "_law_is_mark" "_law_is_mark" (defArgs s__law_is_mark) (defBody s__law_is_mark) (defScope s__law_is_mark) .none kV13 dc13 pm13 an13 cd13 ct13), sl13⟩) (c13 : PySem.W.codeIn K cd13 "_law_is_mark" = true) (k13 : PySem.W.keepIn K (.ref f13) = true)
    (a14 : PySem.W.nsIn K mainGlobals "_law_is_word" = some (some (.ref f14))) (l14 : K.lookup f14 = some ⟨oc14, od14, .func (PySem.W.fnOf "_law_is_word" "_law_is_word" (defArgs s__law_is_word) (defBody s__law_is_word) (defScope s__law_is_word) .none kV14 dc14 pm14 an14 cd14 ct14), sl14⟩) (c14 : PySem.W.codeIn K cd14 "_law_is_word" = true) (k14 : PySem.W.keepIn K (.ref f14) = true)
    (a15 : PySem.W.nsIn K mainGlobals "_law_is" = some (some (.ref f15))) (l15 : K.lookup f15 = some ⟨oc15, od15, .func (PySem.W.fnOf "_law_is" "_law_is" (defArgs s__law_is) (defBody s__law_is) (defScope s__law_is) .none kV15 dc15 pm15 an15 cd15 ct15), sl15⟩) (c15 : PySem.W.codeIn K cd15 "_law_is" = true) (k15 : PySem.W.keepIn K (.ref f15) = true)
    (a16 : PySem.W.nsIn K mainGlobals "law" = some (some (.ref f16))) (l16 : K.lookup f16 = some ⟨oc16, od16, .func (PySem.W.fnOf "law" "law" (defArgs s_law) (defBody s_law) (defScope s_law) .none kV16 dc16 pm16 an16 cd16 ct16), sl16⟩) (c16 : PySem.W.codeIn K cd16 "law" = true) (k16 : PySem.W.keepIn K (.ref f16) = true)
    (z0 : PySem.W.nsIn K mainGlobals "all" = some none)
    (z1 : PySem.W.nsIn K mainGlobals "bool" = some none)
    (z2 : PySem.W.nsIn K mainGlobals "int" = some none)
    (z3 : PySem.W.nsIn K mainGlobals "isinstance" = some none)
    (z4 : PySem.W.nsIn K mainGlobals "len" = some none)
    (z5 : PySem.W.nsIn K mainGlobals "max" = some none)
    (z6 : PySem.W.nsIn K mainGlobals "min" = some none)
    (z7 : PySem.W.nsIn K mainGlobals "range" = some none)
    (z8 : PySem.W.nsIn K mainGlobals "str" = some none)
    (z9 : PySem.W.nsIn K mainGlobals "tuple" = some none)
    {tLETTERS : Tok} (vLETTERS : PySem.W.nsIn K mainGlobals "LETTERS" = some (some (.str (Str.ofString "abcdefghijklmnopqrstuvwxyz") tLETTERS)))
    {tLONGEST_WORD : Tok} (vLONGEST_WORD : PySem.W.nsIn K mainGlobals "LONGEST_WORD" = some (some (.int 30 tLONGEST_WORD)))
    {AMARK_PLACES : Addr} {EMARK_PLACES : Array DictEntry} {NMARK_PLACES : Nat} (vMARK_PLACES : PySem.W.nsIn K mainGlobals "MARK_PLACES" = some (some (.ref AMARK_PLACES))) (wMARK_PLACES : K.lookup AMARK_PLACES = some ⟨.type "dict", none, .dict EMARK_PLACES NMARK_PLACES, #[]⟩) (yMARK_PLACES : (AMARK_PLACES == sysModules) = false) (xMARK_PLACES : PySem.W.KeysLit w.params EMARK_PLACES.toList) (uMARK_PLACES : KeysAre EMARK_PLACES.toList ([" ", "#0", "#1", "#2", "#3", "|0", "|1", "|2", "|3", "/0", "/1", "/2", "/3"] : List Str)) :
    ∃ fd : FuncData, (∀ (s : Shared) (v : Value), BindsTo s fd ⟨[v], []⟩ [("_law_script", v)]) ∧ ∀ base : Heap, K.In base → base.Ns mainGlobals mg → FnOk l.prog w K mg base CX0 4 fa fd ["_law_script"] (spLaw K) := by
  have e := hfa.symm.trans (PySem.W.mg_of X G a16)
  cases e
  let T : TX w K mg := { a_is_integer := f1, d_is_integer := _, F_is_integer := fun_mk (st := s_is_integer) l1 c1 k1, g_is_integer := PySem.W.mg_of X G a1, b_is_integer := (fun_mk (st := s_is_integer) l1 c1 k1).binds (ps := ["value", "low", "high"]) fun _ _ _ _ _ _ us hl => match us, hl with | [_, _, _], _ => rfl, a_is_word := f2, d_is_word := _, F_is_word := fun_mk (st := s_is_word) l2 c2 k2, g_is_word := PySem.W.mg_of X G a2, b_is_word := (fun_mk (st := s_is_word) l2 c2 k2).binds (ps := ["value"]) fun _ _ _ _ _ _ us hl => match us, hl with | [_], _ => rfl, a_is_mark := f3, d_is_mark := _, F_is_mark := fun_mk (st := s_is_mark) l3 c3 k3, g_is_mark := PySem.W.mg_of X G a3, b_is_mark := (fun_mk (st := s_is_mark) l3 c3 k3).binds (ps := ["value"]) fun _ _ _ _ _ _ us hl => match us, hl with | [_], _ => rfl, a_is_token := f4, d_is_token := _, F_is_token := fun_mk (st := s_is_token) l4 c4 k4, g_is_token := PySem.W.mg_of X G a4, b_is_token := (fun_mk (st := s_is_token) l4 c4 k4).binds (ps := ["value"]) fun _ _ _ _ _ _ us hl => match us, hl with | [_], _ => rfl, a__is_whole := f5, d__is_whole := _, F__is_whole := fun_mk (st := s__is_whole) l5 c5 k5, g__is_whole := PySem.W.mg_of X G a5, b__is_whole := (fun_mk (st := s__is_whole) l5 c5 k5).binds (ps := ["value"]) fun _ _ _ _ _ _ us hl => match us, hl with | [_], _ => rfl, a__has_only := f6, d__has_only := _, F__has_only := fun_mk (st := s__has_only) l6 c6 k6, g__has_only := PySem.W.mg_of X G a6, b__has_only := (fun_mk (st := s__has_only) l6 c6 k6).binds (ps := ["text", "characters"]) fun _ _ _ _ _ _ us hl => match us, hl with | [_, _], _ => rfl, a__law_cell := f7, d__law_cell := _, F__law_cell := fun_mk (st := s__law_cell) l7 c7 k7, g__law_cell := PySem.W.mg_of X G a7, b__law_cell := (fun_mk (st := s__law_cell) l7 c7 k7).binds (ps := ["_law_script", "_law_k"]) fun _ _ _ _ _ _ us hl => match us, hl with | [_, _], _ => rfl, a__law_box := f8, d__law_box := _, F__law_box := fun_mk (st := s__law_box) l8 c8 k8, g__law_box := PySem.W.mg_of X G a8, b__law_box := (fun_mk (st := s__law_box) l8 c8 k8).binds (ps := ["_law_cell_here"]) fun _ _ _ _ _ _ us hl => match us, hl with | [_], _ => rfl, a__law_take := f9, d__law_take := _, F__law_take := fun_mk (st := s__law_take) l9 c9 k9, g__law_take := PySem.W.mg_of X G a9, b__law_take := (fun_mk (st := s__law_take) l9 c9 k9).binds (ps := ["_law_box_here", "_law_many"]) fun _ _ _ _ _ _ us hl => match us, hl with | [_, _], _ => rfl, a__law_number := f10, d__law_number := _, F__law_number := fun_mk (st := s__law_number) l10 c10 k10, g__law_number := PySem.W.mg_of X G a10, b__law_number := (fun_mk (st := s__law_number) l10 c10 k10).binds (ps := ["_law_box_here"]) fun _ _ _ _ _ _ us hl => match us, hl with | [_], _ => rfl, a__law_string := f11, d__law_string := _, F__law_string := fun_mk (st := s__law_string) l11 c11 k11, g__law_string := PySem.W.mg_of X G a11, b__law_string := (fun_mk (st := s__law_string) l11 c11 k11).binds (ps := ["_law_box_here"]) fun _ _ _ _ _ _ us hl => match us, hl with | [_], _ => rfl, a__law_mark := f12, d__law_mark := _, F__law_mark := fun_mk (st := s__law_mark) l12 c12 k12, g__law_mark := PySem.W.mg_of X G a12, b__law_mark := (fun_mk (st := s__law_mark) l12 c12 k12).binds (ps := ["_law_box_here"]) fun _ _ _ _ _ _ us hl => match us, hl with | [_], _ => rfl, a__law_is_mark := f13, d__law_is_mark := _, F__law_is_mark := fun_mk (st := s__law_is_mark) l13 c13 k13, g__law_is_mark := PySem.W.mg_of X G a13, b__law_is_mark := (fun_mk (st := s__law_is_mark) l13 c13 k13).binds (ps := ["_law_text"]) fun _ _ _ _ _ _ us hl => match us, hl with | [_], _ => rfl, a__law_is_word := f14, d__law_is_word := _, F__law_is_word := fun_mk (st := s__law_is_word) l14 c14 k14, g__law_is_word := PySem.W.mg_of X G a14, b__law_is_word := (fun_mk (st := s__law_is_word) l14 c14 k14).binds (ps := ["_law_text"]) fun _ _ _ _ _ _ us hl => match us, hl with | [_], _ => rfl, a__law_is := f15, d__law_is := _, F__law_is := fun_mk (st := s__law_is) l15 c15 k15, g__law_is := PySem.W.mg_of X G a15, b__law_is := (fun_mk (st := s__law_is) l15 c15 k15).binds (ps := ["_law_found", "_law_due"]) fun _ _ _ _ _ _ us hl => match us, hl with | [_, _], _ => rfl, a_law := fa, d_law := _, F_law := fun_mk (st := s_law) l16 c16 k16, g_law := PySem.W.mg_of X G a16, b_law := (fun_mk (st := s_law) l16 c16 k16).binds (ps := ["_law_script"]) fun _ _ _ _ _ _ us hl => match us, hl with | [_], _ => rfl, m_all := PySem.W.mg_none_of X G z0, m_bool := PySem.W.mg_none_of X G z1, m_int := PySem.W.mg_none_of X G z2, m_isinstance := PySem.W.mg_none_of X G z3, m_len := PySem.W.mg_none_of X G z4, m_max := PySem.W.mg_none_of X G z5, m_min := PySem.W.mg_none_of X G z6, m_range := PySem.W.mg_none_of X G z7, m_str := PySem.W.mg_none_of X G z8, m_tuple := PySem.W.mg_none_of X G z9, t_LETTERS := tLETTERS, c_LETTERS := PySem.W.mg_of X G vLETTERS, t_LONGEST_WORD := tLONGEST_WORD, c_LONGEST_WORD := PySem.W.mg_of X G vLONGEST_WORD, a_MARK_PLACES := AMARK_PLACES, c_MARK_PLACES := PySem.W.mg_of X G vMARK_PLACES, e_MARK_PLACES := EMARK_PLACES, n_MARK_PLACES := NMARK_PLACES, k_MARK_PLACES := ⟨wMARK_PLACES, xMARK_PLACES, yMARK_PLACES⟩, i_MARK_PLACES := nsIn_keys wMARK_PLACES uMARK_PLACES }
  exact ⟨PySem.W.fnOf "law" "law" (defArgs s_law) (defBody s_law) (defScope s_law) .none kV16 dc16 pm16 an16 cd16 ct16, fun s v => .of_eq rfl, fun base _ _ => ok_law T⟩
end RV
open PySem PySem.W PyProof.Rows
set_option maxRecDepth 100000 in
set_option maxHeartbeats 0 in
theorem PySem.Challenge.cw_reflows_k01_kinds_of_words_holds : PySem.Challenge.rw_reflows_k01_kinds_of_words.Holds := by
  w_on; o_law; k_head; (case hw => w_witness2)
  k_fill
  refine L2.walk_of (l := PySem.Challenge.rw_reflows_k01_kinds_of_words) (n := 63) (k := 4) (x := "_law_script") (CX := fun _ => L2.CX0) (sp := fun w => RV.spLaw _) rfl (by decide) rfl ⟨rfl, by decide, by decide⟩ (fun w h Y => PySem.W.kIn_of Y) ?F (fun _ _ a ns hl _ hS => ⟨a, ns, rfl, hS, hl, fun _ => rfl⟩) (fun _ _ _ _ _ h => h)
  case F =>
    intro w mg fa h KX G hmg
    refine' RV.all_mk KX G hmg ?a1 ?l1 ?c1 ?k1 ?a2 ?l2 ?c2 ?k2 ?a3 ?l3 ?c3 ?k3 ?a4 ?l4 ?c4 ?k4 ?a5 ?l5 ?c5 ?k5 ?a6 ?l6 ?c6 ?k6 ?a7 ?l7 ?c7 ?k7 ?a8 ?l8 ?c8 ?k8 ?a9 ?l9 ?c9 ?k9 ?a10 ?l10 ?c10 ?k10 ?a11 ?l11 ?c11 ?k11 ?a12 ?l12 ?c12 ?k12 ?a13 ?l13 ?c13 ?k13 ?a14 ?l14 ?c14 ?k14 ?a15 ?l15 ?c15 ?k15 ?a16 ?l16 ?c16 ?k16 ?z0 ?z1 ?z2 ?z3 ?z4 ?z5 ?z6 ?z7 ?z8 ?z9 ?vLETTERS ?vLONGEST_WORD ?vMARK_PLACES ?wMARK_PLACES ?yMARK_PLACES ?xMARK_PLACES ?uMARK_PLACES
    (case a1 => k_is); (case l1 => k_is); (case c1 => k_is); (case k1 => k_is); (case a2 => k_is); (case l2 => k_is); (case c2 => k_is); (case k2 => k_is); (case a3 => k_is); (case l3 => k_is); (case c3 => k_is); (case k3 => k_is); (case a4 => k_is); (case l4 => k_is); (case c4 => k_is); (case k4 => k_is); (case a5 => k_is); (case l5 => k_is); (case c5 => k_is); (case k5 => k_is); (case a6 => k_is); (case l6 => k_is); (case c6 => k_is); (case k6 => k_is); (case a7 => k_is); (case l7 => k_is); (case c7 => k_is); (case k7 => k_is); (case a8 => k_is); (case l8 => k_is); (case c8 => k_is); (case k8 => k_is); (case a9 => k_is); (case l9 => k_is); (case c9 => k_is); (case k9 => k_is); (case a10 => k_is); (case l10 => k_is); (case c10 => k_is); (case k10 => k_is); (case a11 => k_is); (case l11 => k_is); (case c11 => k_is); (case k11 => k_is); (case a12 => k_is); (case l12 => k_is); (case c12 => k_is); (case k12 => k_is); (case a13 => k_is); (case l13 => k_is); (case c13 => k_is); (case k13 => k_is); (case a14 => k_is); (case l14 => k_is); (case c14 => k_is); (case k14 => k_is); (case a15 => k_is); (case l15 => k_is); (case c15 => k_is); (case k15 => k_is); (case a16 => k_is); (case l16 => k_is); (case c16 => k_is); (case k16 => k_is); (case z0 => k_is); (case z1 => k_is); (case z2 => k_is); (case z3 => k_is); (case z4 => k_is); (case z5 => k_is); (case z6 => k_is); (case z7 => k_is); (case z8 => k_is); (case z9 => k_is); (case vLETTERS => k_is); (case vLONGEST_WORD => k_is); (case vMARK_PLACES => k_is); (case wMARK_PLACES => k_is)
    (case yMARK_PLACES => decide)
    (case xMARK_PLACES => exact ⟨⟨_, _, rfl, rfl⟩, ⟨⟨_, _, rfl, rfl⟩, ⟨⟨_, _, rfl, rfl⟩, ⟨⟨_, _, rfl, rfl⟩, ⟨⟨_, _, rfl, rfl⟩, ⟨⟨_, _, rfl, rfl⟩, ⟨⟨_, _, rfl, rfl⟩, ⟨⟨_, _, rfl, rfl⟩, ⟨⟨_, _, rfl, rfl⟩, ⟨⟨_, _, rfl, rfl⟩, ⟨⟨_, _, rfl, rfl⟩, ⟨⟨_, _, rfl, rfl⟩, ⟨⟨_, _, rfl, rfl⟩, trivial⟩⟩⟩⟩⟩⟩⟩⟩⟩⟩⟩⟩⟩)
    (case uMARK_PLACES => exact ⟨⟨_, rfl⟩, ⟨⟨_, rfl⟩, ⟨⟨_, rfl⟩, ⟨⟨_, rfl⟩, ⟨⟨_, rfl⟩, ⟨⟨_, rfl⟩, ⟨⟨_, rfl⟩, ⟨⟨_, rfl⟩, ⟨⟨_, rfl⟩, ⟨⟨_, rfl⟩, ⟨⟨_, rfl⟩, ⟨⟨_, rfl⟩, ⟨⟨_, rfl⟩, trivial⟩⟩⟩⟩⟩⟩⟩⟩⟩⟩⟩⟩⟩)


