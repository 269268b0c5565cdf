/- append of values onto a row of the call's own, in a walk; a new value in a block of its own; no function of the program; nothing is asked. -/
import Derived.Test.YtochpomddfjkoaaValueRow
namespace Go.Proofs.Ytochpomddfjkoaa.Va
open Go.RowKit Go.Proofs.Ytochpomddfjkoaa.BM Go.Proofs.Ytochpomddfjkoaa.LM Go.Proofs.Ytochpomddfjkoaa.VaM

/-- A new value in a block of its own. -/
theorem one_new (w : World) (x : V) : RG.SlG KV (fun _ => True) (w.alloc (.cells #[.int .i64 x.k, .int .i64 x.n, .string x.s] 52)) (some ⟨w.heap.size, 0, none⟩) [x] 1 := by
  obtain ⟨h1, h2⟩ := RG.elem_new (K := KV) (p := fun _ => True) w 52 x (encV x) rfl
  exact ⟨⟨_, h1, h2⟩, Nat.le_refl _, (fun h => by cases h), by decide⟩

theorem wp_append_v {w : World} {ops : Array Oper} {rest : List Oper} {o : Oper} {a : Act} {Q : Exit → Act → World → Prop} (hgd : o.guard = none) (s x : Operand)
    (ho : o.op = .call { callee := .builtin .append, args := #[s, x], argTypes := #[27, 27] })
    (base : Nat) (v : Value) (n : Nat) (l : List V) (hs : a.eval s = v) (hown : w.ownsRow base 52 3 v n (l.flatMap encV))
    (A : Option Addr) (m c : Nat) (r : List V) (hx : a.eval x = .slice A m c) (hm : r.length = m) (hB : RG.SlG KV (fun _ => True) w A r c)
    (hsz : n + m ≤ 1000000000) (hbase : base ≤ w.heap.size)
    (hk : ∀ v' w', w'.ownsRow base 52 3 v' (n + m) ((l ++ r).flatMap encV) → w.grownBy w' v.ownBlock → wpList Try.prog ops Q rest (a.put o.dst v') w') : wpList Try.prog ops Q (o :: rest) a w :=
  wpList_plain hgd fun _ hK2 => op_append_v s x ho base v n l hs hown A m c r hx hm hB hsz hbase fun v' w' g1 g2 => hK2 _ _ (hk v' w' g1 g2)
end Go.Proofs.Ytochpomddfjkoaa.Va
