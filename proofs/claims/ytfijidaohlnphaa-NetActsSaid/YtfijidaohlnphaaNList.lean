/- A list of messages that the law makes. No conditions beyond those in each statement. -/
import Derived.Test.YtfijidaohlnphaaNHead
import Derived.Test.YtfijidaohlnphaaNLoad
import Derived.Maps.AppendAt
namespace Go.Proofs.Ytfijidaohlnphaa
open Go.RowKit
set_option linter.unusedVariables false
set_option linter.unusedSimpArgs false
set_option maxRecDepth 100000

theorem run_mix (W : World) (g n c i : Nat) (h : i < n) (hn : n ≤ 100000) : (Instr.indexAt 48 (.slice (some ⟨g, 0, none⟩) n c) (.int .i64 (i : Int))).run Try.prog W = .ok (.pointer (some ⟨g, i * 17, none⟩)) W := by
  have h0 : (0 : Int) ≤ (i : Int) := by omega
  have h1 : (i : Int) < (n : Int) := by omega
  go_simp
/-- A row of messages 0, 1, .. of one's own. -/
def ixs (n : Nat) : List Int := (List.range n).map (fun j : Nat => (j : Int))
theorem ixs_len (n : Nat) : (ixs n).length = n := by simp [ixs]
theorem ixs_at {n j : Nat} (h : j < n) : (ixs n)[j]? = some (j : Int) := by simp [ixs, h]
theorem ixs_succ (n : Nat) : ixs (n + 1) = ixs n ++ [(n : Int)] := by simp [ixs, List.range_succ]
def MRowI (w : World) (base : Nat) (v : Value) (n : Nat) : Prop := w.ownsRow base 41 17 v n (cellsK mgOne (ixs n))
theorem MRowI.block {w : World} {base : Nat} {v : Value} {n : Nat} (h : MRowI w base v n) (q : Nat) (hq : v.ownBlock = some q) : ∃ cs, w.heap[q]? = some (.cells cs 41 (0, 0)) := by
  rcases h.2 with ⟨rfl, _⟩ | ⟨g, c, cur, rfl, _, hg, _⟩
  · simp [Value.ownBlock] at hq
  · simp [Value.ownBlock] at hq; subst hq; exact ⟨cur, hg⟩
theorem MRowI.msr {w : World} {base : Nat} {v : Value} {n : Nat} (h : MRowI w base v n) (hn : n ≤ 100000) : MsR (fun q => v.ownBlock = some q) w v ((ixs n).map miI) := by
  rcases h.2 with ⟨rfl, h0⟩ | ⟨g, c, cur, rfl, _, hg, _⟩
  · subst h0
    exact ⟨⟨none, 0, rfl⟩, fun j hj => by simp [ixs] at hj⟩
  · refine ⟨⟨some ⟨g, 0, none⟩, c, by simp [ixs_len]⟩, fun j hj => ?_⟩
    have hjn : j < n := by simpa [ixs_len] using hj
    have e : ((ixs n).map miI).getD j Mi.zero = miI j := by
      rw [List.getD_eq_getElem?_getD, List.getElem?_map, ixs_at hjn]; rfl
    refine ⟨g, j * 17, fun W => run_mix W g n c j hjn hn, ?_⟩
    rw [e]
    refine ⟨rfl, fun W hW => ?_, .inl ⟨rfl, rfl⟩, .inl ⟨rfl, rfl⟩, (by show 0 * 32 ≤ _; decide), (by show 0 * 4 ≤ _; decide)⟩
    refine run_loadAt fun r x hx => ?_
    have hr : r < 17 := by have := (List.getElem?_eq_some_iff.1 hx).1; rwa [mgOne_len] at this
    rw [cell_same (w := w) (w' := W) hW]
    have h1 := cellsK_at (one := mgOne) (k := 17) mgOne_len (ixs n) j r _ (ixs_at hjn) hr
    rw [hx] at h1
    have h2 := h.cells (g := g) rfl (j * 17 + r) x h1
    rwa [show (⟨g, 0, none⟩ : Addr).add (j * 17 + r) = ⟨g, j * 17 + r, none⟩ by rw [Addr.add_lit, Nat.zero_add]] at h2
theorem i64_and15 (n : Int) : bits .and .i64 n 15 = n % 16 := by
  have h127 : (BitVec.ofInt 64 15).toNat = 2 ^ 4 - 1 := by decide
  have key : (BitVec.ofInt 64 n &&& BitVec.ofInt 64 15).toNat = (n % ((2 ^ 64 : Nat) : Int)).toNat % 2 ^ 4 := by
    rw [BitVec.toNat_and, BitVec.toNat_ofInt, h127, Nat.and_two_pow_sub_one_eq_mod]
  show IntKind.i64.wrap ((BitVec.ofInt 64 n &&& BitVec.ofInt 64 15).toNat : Nat) = n % 16
  rw [key, IntKind.wrap_i64]
  omega
theorem i64_and31 (n : Int) : bits .and .i64 n 31 = n % 32 := by
  have h127 : (BitVec.ofInt 64 31).toNat = 2 ^ 5 - 1 := by decide
  have key : (BitVec.ofInt 64 n &&& BitVec.ofInt 64 31).toNat = (n % ((2 ^ 64 : Nat) : Int)).toNat % 2 ^ 5 := by
    rw [BitVec.toNat_and, BitVec.toNat_ofInt, h127, Nat.and_two_pow_sub_one_eq_mod]
  show IntKind.i64.wrap ((BitVec.ofInt 64 n &&& BitVec.ofInt 64 31).toNat : Nat) = n % 32
  rw [key, IntKind.wrap_i64]
  omega
end Go.Proofs.Ytfijidaohlnphaa
