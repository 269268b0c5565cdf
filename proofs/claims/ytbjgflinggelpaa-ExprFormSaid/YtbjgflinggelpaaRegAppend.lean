/- append of bytes inside a region that draws its order: the operation alone; no function of the program; nothing is asked. -/
import Derived.Test.YtbjgflinggelpaaSlB
import Derived.Test.YtbjgflinggelpaaRegionB
namespace Go.Proofs.Ytbjgflinggelpaa.RegA
open Go.RowKit Go.Proofs.Ytbjgflinggelpaa.BM Go.Proofs.Ytbjgflinggelpaa.LM

theorem own_below {w w' : World} {base n : Nat} {e : TypeId} {size : Nat} {v : Value} {xs : List Value} (h : w.ownsRow base e size v n xs) (hb : Below w.heap.size w w') : w'.ownsRow base e size v n xs :=
  h.kept (row := none) ⟨hb.os, hb.tape, hb.output, hb.size, fun k hk _ => hb.block k hk⟩ (by cases v.ownBlock <;> simp)

theorem op_append_b {w : World} {o : Oper} {a : Act} {K : Act → World → Prop} {Q : Exit → Act → World → Prop} (s x : Operand)
    (ho : o.op = .call { callee := .builtin .append, args := #[s, x], argTypes := #[29, 29] })
    (base : Nat) (v : Value) (n : Nat) (xs : List Int) (hs : a.eval s = v) (hown : w.ownsRow base 5 1 v n (cs xs))
    (A : Option Addr) (m c : Nat) (ys : List Int) (hx : a.eval x = .slice A m c) (hm : ys.length = m) (hB : IsB w A ys) (hpos : 0 < m)
    (hsz : n + m ≤ 1000000000) (hbase : base ≤ w.heap.size)
    (h : ∀ v' w', w'.ownsRow base 5 1 v' (n + m) (cs (xs ++ ys)) → w.grownBy w' v.ownBlock → K (a.put o.dst v') w') : o.wp Try.prog a w K Q := by
  obtain ⟨i0, hi, hz0, hz1, hz2⟩ := info_parts info_u8
  have hcs : cs (xs ++ ys) = cs xs ++ cs ys := by simp [cs]
  obtain ⟨b, q, rfl, hc⟩ := hB.2 (by omega)
  obtain ⟨v', w', hr, h2, h3, _⟩ := run_append_own (P := Try.prog) w base 29 o.type 5 i0 (.int .u8 0) 1 1 Try.underlying29 hi hz0 hz1 hz2 rfl (by decide) v n (cs xs) hown ⟨b, q, none⟩ m c (cs ys) (by rw [cs_len, hm, Nat.mul_one])
    (fun j u hj => by
      have hjl : j < ys.length := by
        rw [← cs_len]
        exact (List.getElem?_eq_some_iff.1 hj).1
      rw [Addr.add_lit, hc j hjl, ← hj]
      simp [cs, List.getD_eq_getElem?_getD, hjl])
    (ints_oneCell .u8 ys) (by unfold maxLen; omega) (by omega) hbase
  unfold Oper.wp execOp
  simp only [ho, resolve, invoke, builtin, Sem.run_bind, Sem.run_pure, Result.andThen_ok, List.map_toArray, List.map_cons, List.map_nil, hs, hx, hr]
  exact h v' w' (by rw [hcs]; exact h2) h3
end Go.Proofs.Ytbjgflinggelpaa.RegA
