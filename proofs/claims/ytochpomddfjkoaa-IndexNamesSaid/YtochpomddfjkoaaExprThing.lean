/- What lies on the pile: a value as a thing, its kind and its value; asked: the value may be. -/
import Derived.Test.YtochpomddfjkoaaExprTwos
import Derived.Test.YtochpomddfjkoaaExprGoes
import Derived.Test.YtochpomddfjkoaaExprPile
namespace Go.Proofs.Ytochpomddfjkoaa.Ex
open Go.RowKit Go.Proofs.Ytochpomddfjkoaa.BM Go.Proofs.Ytochpomddfjkoaa.LM Go.Proofs.Ytochpomddfjkoaa.VaM Go.Proofs.Ytochpomddfjkoaa.Va Go.Proofs.Ytochpomddfjkoaa.ExM Go.Proofs.Ytochpomddfjkoaa.EvM

/-- A value as a thing. -/
def th (v : V) : Value := if v.k = 0 then .iface 102 (.int .i64 v.n) else if v.k = 1 then .iface 69 (.bool (v.n == 1)) else if v.k = 2 then .iface 103 (.string v.s) else .iface 104 (.int .i64 v.n)

theorem th_0 (n : Int) (s : ByteArray) : th ⟨0, n, s⟩ = .iface 102 (.int .i64 n) := rfl
theorem th_1 (b : Bool) : th (truth b) = .iface 69 (.bool b) := by cases b <;> rfl
theorem th_2 (n : Int) (s : ByteArray) : th ⟨2, n, s⟩ = .iface 103 (.string s) := rfl
theorem th_3 (n : Int) (s : ByteArray) : th ⟨3, n, s⟩ = .iface 104 (.int .i64 n) := rfl

/-- What a value that may be is. -/
theorem may_ways {v : V} (h : VaM.May v) : (∃ n, v = ⟨0, n, e0⟩) ∨ (∃ b : Bool, v = truth b) ∨ (∃ s, v = ⟨2, 0, s⟩) ∨ (∃ n, v = ⟨3, n, e0⟩) := by
  obtain ⟨k, n, s⟩ := v
  rcases h with ⟨h1, h2, _⟩ | ⟨h1, h2⟩
  · simp only at h1 h2
    subst h1 h2
    exact Or.inr (Or.inr (Or.inl ⟨s, rfl⟩))
  · simp only at h1 h2
    obtain rfl : s = e0 := by
      cases s with
      | mk d => rw [show d = #[] from Array.eq_empty_of_size_eq_zero h1]; rfl
    rcases h2 with h2 | ⟨h2, h3⟩ | ⟨h2, _⟩
    · subst h2
      exact Or.inl ⟨n, rfl⟩
    · subst h2
      rcases h3 with rfl | rfl
      · exact Or.inr (Or.inl ⟨false, rfl⟩)
      · exact Or.inr (Or.inl ⟨true, rfl⟩)
    · subst h2
      exact Or.inr (Or.inr (Or.inr ⟨n, rfl⟩))

/-- A thing's value, or why there is none. -/
def laid (r : V × Int) : Value := .tuple #[if r.2 = 0 then th r.1 else .nilIface, .int .i64 r.2]
theorem laid_ok (v : V) : laid (v, 0) = .tuple #[th v, .int .i64 0] := rfl
theorem laid_no (v : V) {e : Int} (h : e ≠ 0) : laid (v, e) = .tuple #[.nilIface, .int .i64 e] := by
  unfold laid
  rw [if_neg h]

set_option maxRecDepth 100000 in
theorem kind_number (v : Value) (w : World) : Calls Try.prog 89 #[v] w fun e w' => e = .returned (.int .i64 0) ∧ w = w' := by
  go_enter Try.func89, Try.ntmps89
  go_wp2_with fail
  go_ret
  exact ⟨rfl, rfl⟩
set_option maxRecDepth 100000 in
theorem kind_truth (v : Value) (w : World) : Calls Try.prog 88 #[v] w fun e w' => e = .returned (.int .i64 1) ∧ w = w' := by
  go_enter Try.func88, Try.ntmps88
  go_wp2_with fail
  go_ret
  exact ⟨rfl, rfl⟩
set_option maxRecDepth 100000 in
theorem kind_text (v : Value) (w : World) : Calls Try.prog 91 #[v] w fun e w' => e = .returned (.int .i64 2) ∧ w = w' := by
  go_enter Try.func91, Try.ntmps91
  go_wp2_with fail
  go_ret
  exact ⟨rfl, rfl⟩
set_option maxRecDepth 100000 in
theorem kind_moment (v : Value) (w : World) : Calls Try.prog 93 #[v] w fun e w' => e = .returned (.int .i64 3) ∧ w = w' := by
  go_enter Try.func93, Try.ntmps93
  go_wp2_with fail
  go_ret
  exact ⟨rfl, rfl⟩

/-- What value answers. -/
def ValueV (x : V) (w : World) (e : Ending) (w' : World) : Prop := e = .returned (.agg #[.int .i64 x.k, .int .i64 x.n, .string x.s]) ∧ Below w.heap.size w w'

set_option maxRecDepth 100000 in
theorem value_number (n : Int) (w : World) : Calls Try.prog 90 #[.int .i64 n] w (ValueV ⟨0, n, e0⟩ w) := by
  have HB := Lib.hid ((Below.refl w.heap.size w).alloc (Nat.le_refl _) (.cells #[.int .i64 0, .int .i64 n, .string ⟨#[]⟩] 52))
  have HX := Lib.hid (bx_new_t w 52 (.int .i64 0) (.int .i64 n) (.string ⟨#[]⟩))
  go_enter Try.func90, Try.ntmps90
  go_wp2_with fail
  obtain ⟨⟨g0, g1, g2⟩, _⟩ := HX.out
  exact bodyPost_ret (v := .agg #[.int .i64 0, .int .i64 n, .string ⟨#[]⟩]) (by simp [results, Try.results90, go_sem, g0, g1, g2]) rfl ⟨rfl, HB.out⟩

set_option maxRecDepth 100000 in
theorem value_text (s : ByteArray) (w : World) : Calls Try.prog 92 #[.string s] w (ValueV ⟨2, 0, s⟩ w) := by
  have HB := Lib.hid ((Below.refl w.heap.size w).alloc (Nat.le_refl _) (.cells #[.int .i64 2, .int .i64 0, .string s] 52))
  have HX := Lib.hid (bx_new_t w 52 (.int .i64 2) (.int .i64 0) (.string s))
  go_enter Try.func92, Try.ntmps92
  go_wp2_with fail
  obtain ⟨⟨g0, g1, g2⟩, _⟩ := HX.out
  exact bodyPost_ret (v := .agg #[.int .i64 2, .int .i64 0, .string s]) (by simp [results, Try.results92, go_sem, g0, g1, g2]) rfl ⟨rfl, HB.out⟩

set_option maxRecDepth 100000 in
theorem value_moment (n : Int) (w : World) : Calls Try.prog 94 #[.int .i64 n] w (ValueV ⟨3, n, e0⟩ w) := by
  have HB := Lib.hid ((Below.refl w.heap.size w).alloc (Nat.le_refl _) (.cells #[.int .i64 3, .int .i64 n, .string ⟨#[]⟩] 52))
  have HX := Lib.hid (bx_new_t w 52 (.int .i64 3) (.int .i64 n) (.string ⟨#[]⟩))
  go_enter Try.func94, Try.ntmps94
  go_wp2_with fail
  obtain ⟨⟨g0, g1, g2⟩, _⟩ := HX.out
  exact bodyPost_ret (v := .agg #[.int .i64 3, .int .i64 n, .string ⟨#[]⟩]) (by simp [results, Try.results94, go_sem, g0, g1, g2]) rfl ⟨rfl, HB.out⟩

set_option maxRecDepth 100000 in
theorem value_truth (b : Bool) (w : World) : Calls Try.prog 35 #[.bool b] w (ValueV (truth b) w) := by
  have HB := Lib.hid (fun n => (Below.refl w.heap.size w).alloc (Nat.le_refl _) (.cells #[.int .i64 1, .int .i64 n, .string ⟨#[]⟩] 52))
  have HX := Lib.hid (fun n => bx_new_t w 52 (.int .i64 1) (.int .i64 n) (.string ⟨#[]⟩))
  cases b with
  | true =>
    go_enter Try.func35, Try.ntmps35
    go_wp2_with fail
    obtain ⟨⟨g0, g1, g2⟩, _⟩ := HX.out 1
    exact bodyPost_ret (v := .agg #[.int .i64 1, .int .i64 1, .string ⟨#[]⟩]) (by simp [results, Try.results35, go_sem, g0, g1, g2]) rfl ⟨rfl, HB.out 1⟩
  | false =>
    go_enter Try.func35, Try.ntmps35
    go_wp2_with fail
    obtain ⟨⟨g0, g1, g2⟩, _⟩ := HX.out 0
    exact bodyPost_ret (v := .agg #[.int .i64 1, .int .i64 0, .string ⟨#[]⟩]) (by simp [results, Try.results35, go_sem, g0, g1, g2]) rfl ⟨rfl, HB.out 0⟩

set_option maxRecDepth 100000 in
/-- A value that may be, as a thing. -/
theorem thingOf_any (v : V) (w : World) (hm : VaM.May v) : Calls Try.prog 56 #[.agg #[.int .i64 v.k, .int .i64 v.n, .string v.s]] w fun e w' => e = .returned (th v) ∧ Below w.heap.size w w' := by
  have hw : v.k = 0 ∨ v.k = 1 ∨ v.k = 2 ∨ v.k = 3 := by
    rcases may_ways hm with ⟨n, rfl⟩ | ⟨b, rfl⟩ | ⟨s, rfl⟩ | ⟨n, rfl⟩
    · exact Or.inl rfl
    · exact Or.inr (Or.inl rfl)
    · exact Or.inr (Or.inr (Or.inl rfl))
    · exact Or.inr (Or.inr (Or.inr rfl))
  obtain ⟨k, n, s⟩ := v
  have HB := Lib.hid ((Below.refl w.heap.size w).alloc (Nat.le_refl _) (.cells #[.int .i64 k, .int .i64 n, .string s] 52))
  obtain ⟨⟨g0, g1, g2⟩, _⟩ := bx_new_t w 52 (.int .i64 k) (.int .i64 n) (.string s)
  clear hm
  simp only at hw
  rcases hw with rfl | rfl | rfl | rfl
  all_goals
    go_enter Try.func56, Try.ntmps56
    go_wp2_with fail
    go_ret
    exact ⟨rfl, HB.out⟩

/- The method that a thing's dynamic type has. -/
section
variable (v : Value) (w : World)
theorem meth_k0 : (method 228 102 v "towncrier/expr.kind").run Try.prog w = .ok (89, v) w := by kernel_rfl
theorem meth_k1 : (method 228 69 v "towncrier/expr.kind").run Try.prog w = .ok (88, v) w := by kernel_rfl
theorem meth_k2 : (method 228 103 v "towncrier/expr.kind").run Try.prog w = .ok (91, v) w := by kernel_rfl
theorem meth_k3 : (method 228 104 v "towncrier/expr.kind").run Try.prog w = .ok (93, v) w := by kernel_rfl
theorem meth_v0 : (method 228 102 v "towncrier/expr.value").run Try.prog w = .ok (90, v) w := by kernel_rfl
theorem meth_v1 : (method 228 69 v "towncrier/expr.value").run Try.prog w = .ok (35, v) w := by kernel_rfl
theorem meth_v2 : (method 228 103 v "towncrier/expr.value").run Try.prog w = .ok (92, v) w := by kernel_rfl
theorem meth_v3 : (method 228 104 v "towncrier/expr.value").run Try.prog w = .ok (94, v) w := by kernel_rfl
end
end Go.Proofs.Ytochpomddfjkoaa.Ex
