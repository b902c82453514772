/- The law's Do: a Delete of both. No conditions beyond those in each statement. -/
import Derived.Test.YtblcpihfnpgfiaaGreatDoorTreeDoK
import Derived.Test.YtblcpihfnpgfiaaGreatDoorTreeDelM
import Derived.Test.YtblcpihfnpgfiaaGreatDoorTreeDelK
namespace Go.Proofs.YtblcpihfnpgfiaaGreatDoor
open Go.RowKit
set_option linter.unusedVariables false
set_option linter.unusedSimpArgs false
set_option maxRecDepth 100000

theorem SmallK.none {j : Nat} {T : List UInt8 → Option Nd} (h : SmallK j T) (z : List UInt8) : SmallK j (updN T z none) := by
  intro x m hx
  by_cases e : x = z
  · subst e; rw [updN_same] at hx; cases hx
  · rw [updN_other e] at hx; exact h x m hx
theorem SmallK.less {j : Nat} {T : List UInt8 → Option Nd} (h : SmallK j T) {z : List UInt8} {par : Nd} (hp : T (upP z) = some par) : SmallK (j + 1) (lessN T z par) := by
  obtain ⟨h1, h2, h3⟩ := h _ _ hp
  exact ((h.mono (Nat.le_succ j)).none z).upd _ _ (by unfold upC; simp; omega)
/-- What a Delete leaves. -/
def DelR (T : List UInt8 → Option Nd) (s : List UInt8) (c : Nat) (T' : List UInt8 → Option Nd) (c' : Nat) : Prop :=
  (T' = T ∧ c' = c) ∨ ∃ nd par, T s = some nd ∧ T (upP s) = some par ∧ s ≠ [47] ∧ (∀ x n, T x = some n → upP x ≠ s) ∧ T' = lessN T s par ∧ c' = c - 1
theorem del_two {m jj tb mb k mp g cap : Nat} {T : List UInt8 → Option Nd} {L : List Me} {w : World} (s : List UInt8) (v : Int) (h2 : Two m jj w tb mb k mp g cap T L) (hjj : jj ≤ 90) (hL : L.length ≤ 100) (hk : k < 100000) (hsl : s.length ≤ 1000) (hK : KeysOk T) (hP : ParOk T) :
    ∃ (ce : Int) (T' : List UInt8 → Option Nd) (c' : Nat), SmallK (jj + 1) T' ∧ DelR T s L.length T' c' ∧
      (∀ W : World, Below w.heap.size w W → Calls Tryz.prog 34 #[.pointer (some ⟨tb, 0, none⟩), .string (bs s), .int .i64 v] W fun e w' => e = .returned (.int .i64 ce) ∧ Left W tb mb (k + 1) c' T' w') ∧
      (∀ W : World, ModL W 0 mp g cap L → Calls Tryz.prog 35 #[.pointer (some ⟨mp, 0, none⟩), .string (bs s), .int .i64 v] W fun e w' => e = .returned (.int .i64 ce) ∧ ∃ g' cap' L', ModL w' 0 mp g' cap' L' ∧ Rep T' L' ∧ L'.length = c' ∧ Only W w' mp g ∧ (g' = g ∨ W.heap.size ≤ g')) := by
  obtain ⟨hTr, hM, hR, hSK, _, _⟩ := h2
  have hKL : ∀ e ∈ L, checkL e.1 = true := fun e he => hK e.1 e.2 ((hR.mem _ _).2 he)
  have same : ∀ ce : Int, (∀ W : World, Below w.heap.size w W → Calls Tryz.prog 34 #[.pointer (some ⟨tb, 0, none⟩), .string (bs s), .int .i64 v] W fun e w' => e = .returned (.int .i64 ce) ∧ Below W.heap.size W w') →
      (∀ W : World, ModL W 0 mp g cap L → Calls Tryz.prog 35 #[.pointer (some ⟨mp, 0, none⟩), .string (bs s), .int .i64 v] W fun e w' => e = .returned (.int .i64 ce) ∧ Below W.heap.size W w') →
      ∃ (ce : Int) (T' : List UInt8 → Option Nd) (c' : Nat), SmallK (jj + 1) T' ∧ DelR T s L.length T' c' ∧
      (∀ W : World, Below w.heap.size w W → Calls Tryz.prog 34 #[.pointer (some ⟨tb, 0, none⟩), .string (bs s), .int .i64 v] W fun e w' => e = .returned (.int .i64 ce) ∧ Left W tb mb (k + 1) c' T' w') ∧
      (∀ W : World, ModL W 0 mp g cap L → Calls Tryz.prog 35 #[.pointer (some ⟨mp, 0, none⟩), .string (bs s), .int .i64 v] W fun e w' => e = .returned (.int .i64 ce) ∧ ∃ g' cap' L', ModL w' 0 mp g' cap' L' ∧ Rep T' L' ∧ L'.length = c' ∧ Only W w' mp g ∧ (g' = g ∨ W.heap.size ≤ g')) := fun ce hA hB =>
    ⟨ce, T, L.length, hSK.mono (Nat.le_succ _), .inl ⟨rfl, rfl⟩,
      fun W hW => (hA W hW).mono fun e w' ⟨he, hb⟩ => ⟨he, ((hTr.below hW).below hb).mono (Nat.le_succ _), below_grownBy hb _⟩,
      fun W hW => (hB W hW).mono fun e w' ⟨he, hb⟩ => ⟨he, g, cap, L, hW.below hb, hR, rfl, Only.of_below mp g hb, .inl rfl⟩⟩
  by_cases h0 : chkN T s v = 0
  · obtain ⟨nd, hnd⟩ := chk_some h0
    have hck := hK s nd hnd
    have hs0 : s ≠ [] := by rintro rfl; exact absurd hck (by decide)
    by_cases hr : s = [47]
    · subst hr
      exact same 1 (fun W hW => delete_root tb mb k L.length T v W (hTr.below hW) h0) (fun W hW => mdelete_root 0 mp g cap L T v W hW hR (by omega) h0)
    · by_cases hk0 : kidsL L s = []
      · have hn : ∀ x n, T x = some n → upP x ≠ s := fun x n hx e => (kids_rep hR hs0).1 ⟨x, n, hx, e⟩ hk0
        obtain ⟨par, hpar⟩ := hP s nd hnd hr
        obtain ⟨p1, p2, p3⟩ := hSK _ _ hpar
        refine ⟨0, lessN T s par, L.length - 1, hSK.less hpar, .inr ⟨nd, par, hnd, hpar, hr, hn, rfl, rfl⟩, fun W hW => ?_, fun W hW => ?_⟩
        · exact delete_ok tb mb k L.length T s v W (hTr.below hW) hsl hK hn nd hck hnd h0 hr par hpar (by omega) (by omega)
        · exact mdelete_ok 0 mp g cap L T s v W hW hR hL hKL hck h0 hr hk0 par hpar (by omega)
      · have hn : ∃ x n, T x = some n ∧ upP x = s := (kids_rep hR hs0).2 hk0
        exact same 13 (fun W hW => delete_kids tb mb k L.length T s v W (hTr.below hW) (by omega) hsl hK hn nd hck hnd h0 hr) (fun W hW => mdelete_kids 0 mp g cap L T s v W hW hR (by omega) hKL h0 hr hk0)
  · exact same _ (fun W hW => delete_err tb mb k L.length T s v _ W (hTr.below hW) hsl rfl h0) (fun W hW => mdelete_err 0 mp g cap L T s v _ W hW hR (by omega) rfl h0)
set_option maxHeartbeats 4000000 in
theorem do_delete (m jj tb mb k : Nat) (T : List UInt8 → Option Nd) (mp g cap : Nat) (L : List Me) (a : Ac) (pv : Value) (t : Int) (w : World) (h2 : Two m jj w tb mb k mp g cap T L) (hjj : jj ≤ 90) (hL : L.length ≤ 100) (hk : k < 100000) (hp : IntsR w pv a.path) (hpl : a.path.length ≤ 12) (hrl : a.raw.size ≤ 100) (hK : KeysOk T) (hP : ParOk T)
    (hq : wrap64 ((IntKind.u64.wrap a.k).tmod 6) = 4) :
    Calls Tryz.prog 10 #[.pointer (some ⟨tb, 0, none⟩), .pointer (some ⟨mp, 0, none⟩), acV a pv, .int .i64 t] w fun e w' => e = .returned (.bool true) ∧ Below m w w' ∧ K3 w w' mb mp g ∧ ∃ T' g' cap' L', Two m (jj + 1) w' tb mb (k + 1) mp g' cap' T' L' ∧ DelR T (acS a) L.length T' L'.length := by
  have h2' := h2
  obtain ⟨hTr, hM, hR, hSK, ⟨n1, n2, n3, n4⟩, ab1, ab2, ab3, ab4, ab5⟩ := h2
  obtain ⟨n, hn4, hn⟩ : ∃ n : Nat, n < 4 ∧ bits .and .i64 a.ver 3 = (n : Int) := ⟨(a.ver % 4).toNat, by omega, by rw [i64_and3']; omega⟩
  obtain ⟨o, ho4, ho⟩ : ∃ o : Nat, o < 4 ∧ bits .and .i64 a.owner 3 = (o : Int) := ⟨(a.owner % 4).toNat, by omega, by rw [i64_and3']; omega⟩
  obtain ⟨v, hv⟩ : ∃ v : Int, IntKind.i64.wrap ((n : Int) - 1) = v := ⟨_, rfl⟩
  have hsl : (acS a).length ≤ 1000 := by
    unfold acS
    split
    · have := made_len a.path; omega
    · have := hrl; rw [Lib.size_eq] at this; omega
  obtain ⟨ce, T', c', hSM, hDR, hA, hB⟩ := del_two (acS a) v h2' hjj hL hk hsl hK hP
  have b1 := (Below.refl w.heap.size w).alloc (Nat.le_refl _) (.cells #[.int .i64 a.k, .int .i64 a.ver, .int .i64 a.owner, pv, .string a.raw, .string a.data, .bool a.serial] 31)
  have HS := Lib.hid (fun (W : World) (hb : Below w.heap.size w W) => acts_any a pv W ⟨hp.1.below hb, hp.2⟩ (by omega))
  have HCT := Lib.hid hA
  have HCM := Lib.hid hB
  have HMM := Lib.hid (fun (W : World) (hb : Below w.heap.size w W) => hM.below hb)
  have HSM := Lib.hid hSM
  have HDR := Lib.hid hDR
  have HLT := Lib.hid hTr.map.lt
  have hi := hp.1
  obtain ⟨xa, xc, hva, _⟩ := hi
  subst hva
  obtain ⟨s, hs⟩ : ∃ s, s = acS a := ⟨_, rfl⟩
  rw [← hs] at HS HCT HCM HDR ⊢
  clear hTr hM hR hp hs hn4 ho4 hSK h2' hSM hDR hA hB hK hP
  unfold acV
  go_enter Tryz.func10, Tryz.ntmps10
  go_wp2_with fail
  refine (HS.out _ b1).mono ?_
  rintro e w1 ⟨rfl, b2⟩
  have N2 : w1.heap[w.heap.size]? = some (.cells #[.int .i64 a.k, .int .i64 a.ver, .int .i64 a.owner, .slice xa a.path.length xc, .string a.raw, .string a.data, .bool a.serial] 31 (0, 0)) := (b2.block w.heap.size (by simp)).trans (heap_alloc_new w _)
  have c0 : w1.cell? ⟨w.heap.size, 0, none⟩ = some (.int .i64 a.k) := by simp [World.cell?, N2]
  have c1 : w1.cell? ⟨w.heap.size, 1, none⟩ = some (.int .i64 a.ver) := by simp [World.cell?, N2]
  have c2 : w1.cell? ⟨w.heap.size, 2, none⟩ = some (.int .i64 a.owner) := by simp [World.cell?, N2]
  replace b2 := b1.trans (b2.mono b1.size)
  clear N2 b1
  have eqq : (ce == ce) = true := by simp
  go_wp2_with fail
  refine (HCT.out _ b2).mono ?_
  rintro e w3 ⟨rfl, L3⟩
  have M3 := (HMM.out _ b2).left L3.2 (fun e => n3 e.symm) (fun e => n4 e.symm)
  have b3 := (b2.mono ab5).trans (left_below L3 ab2 (by have := b2.size; omega))
  have H3 := L3.1
  have G3 := L3.2
  clear L3
  go_wp2_with fail
  refine (HCM.out _ M3).mono ?_
  rintro e w4 ⟨rfl, g', cap', L', M4, R4, hl4, O4, hg'⟩
  have H4 := H3.only O4 n1 n2 n3 n4
  have b4 := b3.trans (O4.below ab3 ab4 (Nat.le_trans ab5 b3.size))
  have ht3 := H3.lt
  have hm3 := H3.map.lt
  go_wp2_with fail
  go_ret
  refine ⟨rfl, b4, K3.of3 b2 G3 O4, T', g', cap', L', ⟨by rw [hl4]; exact H4, M4, R4, HSM.out, ⟨n1, ?_, n3, ?_⟩, ab1, ab2, ab3, ?_, ?_⟩, by rw [hl4]; exact HDR.out⟩
  · rcases hg' with rfl | hg'
    · exact n2
    · omega
  · rcases hg' with rfl | hg'
    · exact n4
    · omega
  · rcases hg' with rfl | hg'
    · exact ab4
    · have := b3.size; omega
  · have := b4.size; omega
end Go.Proofs.YtblcpihfnpgfiaaGreatDoor
