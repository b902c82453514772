/- A message is copied into memory of its own. No conditions beyond those in each statement. -/
import Derived.Test.YtfijidaohlnphaaNHeap
import Derived.Test.YtfijidaohlnphaaNLs
import Derived.Laws.AppendOwn
import Derived.Maps.RangeWalk
namespace Go.Proofs.Ytfijidaohlnphaa
open Go.RowKit
set_option linter.unusedVariables false
set_option linter.unusedSimpArgs false
set_option maxRecDepth 100000

/-- A slice of n elements of k cells each that can be read; its cells lie in a block of K. -/
def RdK (k : Nat) (K : Nat → Prop) (w : World) (u : Value) (n : Nat) : Prop :=
  (u = .slice none 0 0 ∧ n = 0) ∨ ∃ (ad : Addr) (c : Nat) (cs : List Value), u = .slice (some ad) n c ∧ cs.length = n * k ∧ (∀ x ∈ cs, x.oneCell' = true) ∧ (∀ j x, cs[j]? = some x → w.cell? (ad.add j) = some x) ∧ (n = 0 ∨ K ad.block)
theorem cell_same {w w' : World} {a : Addr} (h : w'.heap[a.block]? = w.heap[a.block]?) : w'.cell? a = w.cell? a := by
  cases a with
  | mk b o s => cases s with
    | none => simp only [World.cell?]; rw [h]
    | some s => simp only [World.cell?]; rw [h]
theorem RdK.keep {k : Nat} {K : Nat → Prop} {w w' : World} {u : Value} {n : Nat} (h : RdK k K w u n) (hk : ∀ b, K b → w'.heap[b]? = w.heap[b]?) : RdK k K w' u n := by
  rcases h with h | ⟨ad, c, cs, h1, h2, h3, h4, h5⟩
  · exact .inl h
  · refine .inr ⟨ad, c, cs, h1, h2, h3, fun j x hx => ?_, h5⟩
    rcases h5 with h5 | h5
    · subst h5
      have : cs = [] := List.eq_nil_of_length_eq_zero (by simpa using h2)
      subst this; simp at hx
    · have hb : (ad.add j).block = ad.block := by unfold Addr.add; split <;> rfl
      rw [cell_same (w := w) (w' := w') (by rw [hb]; exact hk _ h5)]
      exact h4 j x hx
theorem RdK.form {k : Nat} {K : Nat → Prop} {w : World} {u : Value} {n : Nat} (h : RdK k K w u n) : ∃ a c, u = .slice a n c := by
  rcases h with ⟨rfl, rfl⟩ | ⟨ad, c, cs, h1, _⟩
  · exact ⟨none, 0, rfl⟩
  · exact ⟨_, c, h1⟩
theorem RdK.nil (k : Nat) (K : Nat → Prop) (w : World) : RdK k K w (.slice none 0 0) 0 := .inl ⟨rfl, rfl⟩

theorem info_en : (Try.prog.info? 66).map (fun i => (i.zero, i.size, i.bytes)) = some (some (.agg #[.int .i64 0, .int .i64 0, .string ⟨#[]⟩]), 3, 32) := by kernel_rfl
theorem und_ens : Try.prog.underlying 35 = some (.slice 66) := by kernel_rfl
set_option maxHeartbeats 4000000 in
theorem clone_en {K : Nat → Prop} {w : World} {u : Value} {n : Nat} (h : RdK 3 K w u n) (hn : n * 32 ≤ 140737488355328) :
    Calls Try.prog 19 #[u] w fun e w' => ∃ a c, e = .returned (.slice a n c) ∧ Below w.heap.size w w' := by
  obtain ⟨i1, hi1, hz1, hz2, hz3⟩ := info_parts info_en
  have q22 : ∀ (w : World) (a : Option Addr) (n c n' c' : Nat), (binOp .eql 35 (.slice a n c) (.slice none n' c')).run Try.prog w = .ok (.bool a.isNone) w := fun w a n c n' c' => Lib.run_eql_slice_nil w _ _ a n c n' c' und_ens
  rcases h with ⟨rfl, rfl⟩ | ⟨ad, c, cs, rfl, h1, h2, h3, h4⟩
  · go_enter Try.func19, Try.ntmps19
    go_wp2_with fail
    go_ret
    exact ⟨none, 0, rfl, Below.refl _ _⟩
  · have bA := (Below.refl w.heap.size w).alloc (Nat.le_refl _) (.cells #[] 66)
    obtain ⟨w1, hw1⟩ : ∃ w1, w1 = w.alloc (.cells #[] 66) := ⟨_, rfl⟩
    have O1 : w1.ownsRow w.heap.size 66 3 (.slice (some ⟨w.heap.size, 0, none⟩) 0 0) 0 [] := by
      rw [hw1]; exact World.ownsRow_made (base := w.heap.size) (e := 66) (size := 3) w #[] 0 (Nat.le_refl _) (Nat.zero_le _) rfl
    rw [← hw1] at bA
    have HC : Hid (∀ j u, cs[j]? = some u → w1.cell? (ad.add j) = some u) := Lib.hid fun j u hu => by
      have h5 := h3 j u hu
      have hlt := World.block_lt_of_cell? w _ h5
      rw [bA.cell hlt]; exact h5
    have HO := Lib.hid O1
    have HW1 := Lib.hid hw1
    have HB := Lib.hid bA
    have H1 := Lib.hid h1
    have H2 := Lib.hid h2
    have HNN := Lib.hid hn
    clear h1 h2 h3 h4 O1 bA hw1 hn
    go_enter Try.func19, Try.ntmps19
    go_wp2_with (at_builtin; rw [← HW1.out]; refine wpList_append_own _ rfl _ _ _ rfl w.heap.size 66 i1 _ 3 32 und_ens hi1 hz1 hz2 hz3 rfl (by decide) (.slice (some ⟨w.heap.size, 0, none⟩) 0 0) 0 [] rfl HO.out ad n c cs rfl H1.out HC.out H2.out (by have := HNN.out; unfold maxLen; omega) (by have := HNN.out; omega) HB.out.size ?_; intro v8 w8 hown8 hgrow8 hiff8; go_frame)
    go_ret
    rw [Nat.zero_add] at hown8
    have hb := HB.out.grown hgrow8 HB.out.size (fun q hq => by simp [Value.ownBlock] at hq; omega)
    rcases hown8.2 with ⟨rfl, rfl⟩ | ⟨g, c', cur, rfl, _⟩
    · exact ⟨none, 0, rfl, hb⟩
    · exact ⟨_, c', rfl, hb⟩

theorem info_sm : (Try.prog.info? 69).map (fun i => (i.zero, i.size, i.bytes)) = some (some (.int .u32 0), 1, 4) := by kernel_rfl
theorem und_sms : Try.prog.underlying 37 = some (.slice 69) := by kernel_rfl
set_option maxHeartbeats 4000000 in
theorem clone_sm {K : Nat → Prop} {w : World} {u : Value} {n : Nat} (h : RdK 1 K w u n) (hn : n * 4 ≤ 140737488355328) :
    Calls Try.prog 20 #[u] w fun e w' => ∃ a c, e = .returned (.slice a n c) ∧ Below w.heap.size w w' := by
  obtain ⟨i1, hi1, hz1, hz2, hz3⟩ := info_parts info_sm
  have q22 : ∀ (w : World) (a : Option Addr) (n c n' c' : Nat), (binOp .eql 37 (.slice a n c) (.slice none n' c')).run Try.prog w = .ok (.bool a.isNone) w := fun w a n c n' c' => Lib.run_eql_slice_nil w _ _ a n c n' c' und_sms
  rcases h with ⟨rfl, rfl⟩ | ⟨ad, c, cs, rfl, h1, h2, h3, h4⟩
  · go_enter Try.func20, Try.ntmps20
    go_wp2_with fail
    go_ret
    exact ⟨none, 0, rfl, Below.refl _ _⟩
  · have bA := (Below.refl w.heap.size w).alloc (Nat.le_refl _) (.cells #[] 69)
    obtain ⟨w1, hw1⟩ : ∃ w1, w1 = w.alloc (.cells #[] 69) := ⟨_, rfl⟩
    have O1 : w1.ownsRow w.heap.size 69 1 (.slice (some ⟨w.heap.size, 0, none⟩) 0 0) 0 [] := by
      rw [hw1]; exact World.ownsRow_made (base := w.heap.size) (e := 69) (size := 1) w #[] 0 (Nat.le_refl _) (Nat.zero_le _) rfl
    rw [← hw1] at bA
    have HC : Hid (∀ j u, cs[j]? = some u → w1.cell? (ad.add j) = some u) := Lib.hid fun j u hu => by
      have h5 := h3 j u hu
      have hlt := World.block_lt_of_cell? w _ h5
      rw [bA.cell hlt]; exact h5
    have HO := Lib.hid O1
    have HW1 := Lib.hid hw1
    have HB := Lib.hid bA
    have H1 := Lib.hid h1
    have H2 := Lib.hid h2
    have HNN := Lib.hid hn
    clear h1 h2 h3 h4 O1 bA hw1 hn
    go_enter Try.func20, Try.ntmps20
    go_wp2_with (at_builtin; rw [← HW1.out]; refine wpList_append_own _ rfl _ _ _ rfl w.heap.size 69 i1 _ 1 4 und_sms hi1 hz1 hz2 hz3 rfl (by decide) (.slice (some ⟨w.heap.size, 0, none⟩) 0 0) 0 [] rfl HO.out ad n c cs rfl H1.out HC.out H2.out (by have := HNN.out; unfold maxLen; omega) (by have := HNN.out; omega) HB.out.size ?_; intro v8 w8 hown8 hgrow8 hiff8; go_frame)
    go_ret
    rw [Nat.zero_add] at hown8
    have hb := HB.out.grown hgrow8 HB.out.size (fun q hq => by simp [Value.ownBlock] at hq; omega)
    rcases hown8.2 with ⟨rfl, rfl⟩ | ⟨g, c', cur, rfl, _⟩
    · exact ⟨none, 0, rfl, hb⟩
    · exact ⟨_, c', rfl, hb⟩

end Go.Proofs.Ytfijidaohlnphaa
