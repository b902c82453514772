/- The law's Do: a Set, a Create of both. No conditions beyond those in each statement. -/
import Derived.Test.YtblcpihfnpgfiaaGreatDoorTreeDoC
namespace Go.Proofs.YtblcpihfnpgfiaaGreatDoor
open Go.RowKit
set_option linter.unusedVariables false
set_option linter.unusedSimpArgs false
set_option maxRecDepth 100000

theorem Only.below {w w' : World} {p q m : Nat} (h : Only w w' p q) (h1 : m ≤ p) (h2 : m ≤ q) (h3 : m ≤ w.heap.size) : Below m w w' :=
  ⟨h.os, h.tape, h.output, h.size, fun k hk => h.block k (by omega) (by omega) (by omega)⟩
theorem TrW.only {w w' : World} {tb mb k c p q : Nat} {T : List UInt8 → Option Nd} (h : TrW w tb mb k c T) (hO : Only w w' p q) (h1 : tb ≠ p) (h2 : tb ≠ q) (h3 : mb ≠ p) (h4 : mb ≠ q) : TrW w' tb mb k c T :=
  ⟨(hO.block tb h.lt h1 h2).trans h.tree, h.map.keep0 (hO.block mb h.map.lt h3 h4)⟩
theorem ModL.left {w w' : World} {base mp g cap mb : Nat} {L : List Me} (h : ModL w base mp g cap L) (hg : w.grownBy w' (some mb)) (h1 : mp ≠ mb) (h2 : g ≠ mb) : ModL w' base mp g cap L :=
  h.same (hg.block mp h.ltm (fun e => h1 (Option.some.inj e))) (hg.block g h.ltg (fun e => h2 (Option.some.inj e)))
/-- Numbers that grow by the acts. -/
def SmallK (j : Nat) (T : List UInt8 → Option Nd) : Prop := ∀ x n, T x = some n → (0 ≤ n.serial ∧ n.serial ≤ (j : Int)) ∧ (0 ≤ n.below ∧ n.below ≤ 2 * (j : Int)) ∧ (0 ≤ n.ver ∧ n.ver ≤ (j : Int))
theorem SmallK.small {j : Nat} {T : List UInt8 → Option Nd} (h : SmallK j T) (hj : j ≤ 98) : SmallT T := fun x n hx => by
  obtain ⟨h1, h2, h3⟩ := h x n hx; exact ⟨by omega, by omega, by omega⟩
theorem SmallK.mono {j i : Nat} {T : List UInt8 → Option Nd} (h : SmallK j T) (hj : j ≤ i) : SmallK i T := fun x n hx => by
  obtain ⟨h1, h2, h3⟩ := h x n hx; exact ⟨by omega, by omega, by omega⟩
theorem SmallK.set {j : Nat} {T : List UInt8 → Option Nd} (h : SmallK j T) (z : List UInt8) (d : ByteArray) (v t : Int) : SmallK (j + 1) (setN T z d v t).T := by
  unfold setN
  by_cases h1 : chkN T z v ≠ 0
  · rw [if_pos h1]; exact h.mono (by omega)
  · rw [if_neg h1]
    by_cases h2 : 60 < d.size
    · rw [if_pos h2]; exact h.mono (by omega)
    · rw [if_neg h2]
      obtain ⟨nd, hnd⟩ := chk_some (by simpa using h1)
      intro x n hx
      simp only at hx
      by_cases e : x = z
      · rw [e, updN_same] at hx
        cases hx
        obtain ⟨h3, h4, h5⟩ := h z nd hnd
        rw [hnd]; unfold putN; simp; omega
      · rw [updN_other e] at hx; exact h.mono (by omega) x n hx
/-- A tree and its model beside each other, from block m on. -/
structure Two (m j : Nat) (w : World) (tb mb k mp g cap : Nat) (T : List UInt8 → Option Nd) (L : List Me) : Prop where
  tree : TrW w tb mb k L.length T
  mod : ModL w 0 mp g cap L
  rep : Rep T L
  small : SmallK j T
  ne : tb ≠ mp ∧ tb ≠ g ∧ mb ≠ mp ∧ mb ≠ g
  above : m ≤ tb ∧ m ≤ mb ∧ m ≤ mp ∧ m ≤ g ∧ m ≤ w.heap.size
/-- Only three blocks have turned. -/
def K3 (w w' : World) (p q r : Nat) : Prop := w.heap.size ≤ w'.heap.size ∧ ∀ k, k < w.heap.size → k ≠ p → k ≠ q → k ≠ r → w'.heap[k]? = w.heap[k]?
theorem K3.of3 {w w1 w3 w4 : World} {mb mp g : Nat} (b : Below w.heap.size w w1) (h : w1.grownBy w3 (some mb)) (o : Only w3 w4 mp g) : K3 w w4 mb mp g :=
  ⟨Nat.le_trans b.size (Nat.le_trans h.size o.size), fun k hk h1 h2 h3 => (o.block k (Nat.lt_of_lt_of_le hk (Nat.le_trans b.size h.size)) h2 h3).trans ((h.block k (Nat.lt_of_lt_of_le hk b.size) (fun e => h1 (Option.some.inj e))).trans (b.block k hk))⟩
theorem K3.of_below {w w' : World} (b : Below w.heap.size w w') (p q r : Nat) : K3 w w' p q r := ⟨b.size, fun k hk _ _ _ => b.block k hk⟩
set_option maxHeartbeats 4000000 in
theorem do_set (m jj tb mb k : Nat) (T : List UInt8 → Option Nd) (mp g cap : Nat) (L : List Me) (a : Ac) (pv : Value) (t : Int) (w : World) (h2 : Two m jj w tb mb k mp g cap T L) (hjj : jj ≤ 90) (hL : L.length ≤ 100) (hk : k < 100000) (hdl : a.data.size ≤ 200) (hp : IntsR w pv a.path) (hpl : a.path.length ≤ 12) (hrl : a.raw.size ≤ 100)
    (hq : wrap64 ((IntKind.u64.wrap a.k).tmod 6) = 3) :
    Calls Tryz.prog 10 #[.pointer (some ⟨tb, 0, none⟩), .pointer (some ⟨mp, 0, none⟩), acV a pv, .int .i64 t] w fun e w' => e = .returned (.bool true) ∧ Below m w w' ∧ K3 w w' mb mp g ∧ ∃ v T' L', Two m (jj + 1) w' tb mb (k + 1) mp g cap T' L' ∧ L'.length = L.length ∧ T' = (setN T (acS a) a.data v t).T := by
  obtain ⟨hTr, hM, hR, hSK, ⟨n1, n2, n3, n4⟩, ab1, ab2, ab3, ab4, ab5⟩ := h2
  have hS := hSK.small (by omega)
  obtain ⟨n, hn4, hn⟩ : ∃ n : Nat, n < 4 ∧ bits .and .i64 a.ver 3 = (n : Int) := ⟨(a.ver % 4).toNat, by omega, by rw [i64_and3']; omega⟩
  obtain ⟨o, ho4, ho⟩ : ∃ o : Nat, o < 4 ∧ bits .and .i64 a.owner 3 = (o : Int) := ⟨(a.owner % 4).toNat, by omega, by rw [i64_and3']; omega⟩
  obtain ⟨v, hv⟩ : ∃ v : Int, IntKind.i64.wrap ((n : Int) - 1) = v := ⟨_, rfl⟩
  have hsl : (acS a).length ≤ 1000 := by
    unfold acS
    split
    · have := made_len a.path; omega
    · have := hrl; rw [Lib.size_eq] at this; omega
  have b1 := (Below.refl w.heap.size w).alloc (Nat.le_refl _) (.cells #[.int .i64 a.k, .int .i64 a.ver, .int .i64 a.owner, pv, .string a.raw, .string a.data, .bool a.serial] 31)
  have HS := Lib.hid (fun (W : World) (hb : Below w.heap.size w W) => acts_any a pv W ⟨hp.1.below hb, hp.2⟩ (by omega))
  have HCT := Lib.hid (fun (W : World) (hb : Below w.heap.size w W) => set_any tb mb k L.length T (acS a) a.data v t W (hTr.below hb) (by omega) (by omega) hS (by omega))
  have HCM := Lib.hid (fun (W : World) (hb : ModL W 0 mp g cap L) => mset_any 0 mp g cap L T (acS a) a.data v t W hb hR hS (by omega) (by omega))
  have HMM := Lib.hid (fun (W : World) (hb : Below w.heap.size w W) => hM.below hb)
  have HSM := Lib.hid (hSK.set (acS a) a.data v t)
  have HLT := Lib.hid hTr.map.lt
  have hi := hp.1
  obtain ⟨xa, xc, hva, _⟩ := hi
  subst hva
  obtain ⟨s, hs⟩ : ∃ s, s = acS a := ⟨_, rfl⟩
  rw [← hs] at HS HCT HCM HSM ⊢
  obtain ⟨R, hRR⟩ : ∃ R, R = setN T s a.data v t := ⟨_, rfl⟩
  rw [← hRR] at HCT HCM HSM
  have HRR := Lib.hid hRR
  clear hTr hM hR hp hs hRR hn4 ho4 hS hSK
  unfold acV
  go_enter Tryz.func10, Tryz.ntmps10
  go_wp2_with fail
  refine (HS.out _ b1).mono ?_
  rintro e w1 ⟨rfl, b2⟩
  have N2 : w1.heap[w.heap.size]? = some (.cells #[.int .i64 a.k, .int .i64 a.ver, .int .i64 a.owner, .slice xa a.path.length xc, .string a.raw, .string a.data, .bool a.serial] 31 (0, 0)) := (b2.block w.heap.size (by simp)).trans (heap_alloc_new w _)
  have c0 : w1.cell? ⟨w.heap.size, 0, none⟩ = some (.int .i64 a.k) := by simp [World.cell?, N2]
  have c1 : w1.cell? ⟨w.heap.size, 1, none⟩ = some (.int .i64 a.ver) := by simp [World.cell?, N2]
  have c2 : w1.cell? ⟨w.heap.size, 2, none⟩ = some (.int .i64 a.owner) := by simp [World.cell?, N2]
  have c5 : w1.cell? ⟨w.heap.size, 5, none⟩ = some (.string a.data) := by simp [World.cell?, N2]
  replace b2 := b1.trans (b2.mono b1.size)
  clear b1
  have eqq : (R.ver == R.ver) = true := by simp
  have eqr : (R.err == R.err) = true := by simp
  have hlw : w.heap.size < w1.heap.size := (Array.getElem?_eq_some_iff.1 N2).1
  go_wp2_with fail
  refine (HCT.out _ b2).mono ?_
  rintro e w3 ⟨rfl, L3⟩
  have N3 := (L3.2.block w.heap.size hlw (fun e => by have := Option.some.inj e; have := HLT.out; omega)).trans N2
  have M3 := (HMM.out _ b2).left L3.2 (fun e => n3 e.symm) (fun e => n4 e.symm)
  have b3 := (b2.mono ab5).trans (left_below L3 ab2 (by have := b2.size; omega))
  have H3 := L3.1
  have d5 : w3.cell? ⟨w.heap.size, 5, none⟩ = some (.string a.data) := by simp [World.cell?, N3]
  have G3 := L3.2
  clear L3 c0 c1 c2 c5 N2
  go_wp2_with fail
  refine (HCM.out _ M3).mono ?_
  rintro e w4 ⟨rfl, L', M4, R4, hl4, O4⟩
  have H4 := H3.only O4 n1 n2 n3 n4
  have b4 := b3.trans (O4.below ab3 ab4 (Nat.le_trans ab5 b3.size))
  go_wp2_with fail
  go_ret
  exact ⟨by simp, b4, K3.of3 b2 G3 O4, v, R.T, L', ⟨by rw [hl4]; exact H4, M4, R4, HSM.out, ⟨n1, n2, n3, n4⟩, ab1, ab2, ab3, ab4, by have := b4.size; omega⟩, hl4, by rw [HRR.out]⟩
end Go.Proofs.YtblcpihfnpgfiaaGreatDoor
