/- The law's Do: a Create of both. No conditions beyond those in each statement. -/
import Derived.Test.YtblcpihfnpgfiaaGreatDoorTreeDoS
namespace Go.Proofs.YtblcpihfnpgfiaaGreatDoor
open Go.RowKit
set_option linter.unusedVariables false
set_option linter.unusedSimpArgs false
set_option maxRecDepth 100000

theorem SmallK.upd {j : Nat} {T : List UInt8 → Option Nd} (h : SmallK j T) (z : List UInt8) (n : Nd) (hn : (0 ≤ n.serial ∧ n.serial ≤ (j : Int)) ∧ (0 ≤ n.below ∧ n.below ≤ 2 * (j : Int)) ∧ (0 ≤ n.ver ∧ n.ver ≤ (j : Int))) : SmallK j (updN T z (some n)) := by
  intro x m hx
  by_cases e : x = z
  · subst e; rw [updN_same] at hx; cases hx; exact hn
  · rw [updN_other e] at hx; exact h x m hx
theorem SmallK.create {j : Nat} {T : List UInt8 → Option Nd} (h : SmallK j T) (c : Nat) (z : List UInt8) (d : ByteArray) (owner t : Int) (serial : Bool) : SmallK (j + 1) (createN T c z d owner t serial).T := by
  have h' := h.mono (Nat.le_succ j)
  unfold createN
  by_cases h0 : (placeN T z d).2.2 ≠ 0
  · rw [if_pos h0]; exact h'
  · rw [if_neg h0]
    split
    · exact h'
    · split
      · exact h'
      · split
        · exact h'
        · obtain ⟨hT, _⟩ := place_ok (by simpa using h0)
          obtain ⟨h1, h2, h3⟩ := h _ _ hT
          refine (h'.upd _ _ ?_).upd _ _ (by unfold newC; simp; omega)
          unfold upC parC
          split <;> simp <;> omega
set_option maxHeartbeats 4000000 in
theorem do_create (m jj tb mb k : Nat) (T : List UInt8 → Option Nd) (mp g cap : Nat) (L : List Me) (q : Int) (a : Ac) (pv : Value) (t : Int) (w : World) (h2 : Two m jj w tb mb k mp g cap T L) (hjj : jj ≤ 90) (hL : L.length ≤ 100) (hk : k < 100000) (hdl : a.data.size ≤ 200) (hp : IntsR w pv a.path) (hpl : a.path.length ≤ 12) (hrl : a.raw.size ≤ 100)
    (hq : wrap64 ((IntKind.u64.wrap a.k).tmod 6) = q) (hq3 : q = 0 ∨ q = 1 ∨ q = 2) :
    Calls Tryz.prog 10 #[.pointer (some ⟨tb, 0, none⟩), .pointer (some ⟨mp, 0, none⟩), acV a pv, .int .i64 t] w fun e w' => e = .returned (.bool true) ∧ Below m w w' ∧ K3 w w' mb mp g ∧ ∃ (o : Int) (T' : List UInt8 → Option Nd) (g' cap' : Nat) (L' : List Me), Two m (jj + 1) w' tb mb (k + 2) mp g' cap' T' L' ∧ (0 ≤ o ∧ o < 4) ∧ L'.length = (createN T L.length (acS a) a.data o t a.serial).c ∧ T' = (createN T L.length (acS a) a.data o t a.serial).T := by
  obtain ⟨hTr, hM, hR, hSK, ⟨n1, n2, n3, n4⟩, ab1, ab2, ab3, ab4, ab5⟩ := h2
  have hS := hSK.small (by omega)
  obtain ⟨n, hn4, hn⟩ : ∃ n : Nat, n < 4 ∧ bits .and .i64 a.ver 3 = (n : Int) := ⟨(a.ver % 4).toNat, by omega, by rw [i64_and3']; omega⟩
  obtain ⟨o, ho4, ho⟩ : ∃ o : Nat, o < 4 ∧ bits .and .i64 a.owner 3 = (o : Int) := ⟨(a.owner % 4).toNat, by omega, by rw [i64_and3']; omega⟩
  obtain ⟨v, hv⟩ : ∃ v : Int, IntKind.i64.wrap ((n : Int) - 1) = v := ⟨_, rfl⟩
  have hsl : (acS a).length ≤ 1000 := by
    unfold acS
    split
    · have := made_len a.path; omega
    · have := hrl; rw [Lib.size_eq] at this; omega
  have b1 := (Below.refl w.heap.size w).alloc (Nat.le_refl _) (.cells #[.int .i64 a.k, .int .i64 a.ver, .int .i64 a.owner, pv, .string a.raw, .string a.data, .bool a.serial] 31)
  have HS := Lib.hid (fun (W : World) (hb : Below w.heap.size w W) => acts_any a pv W ⟨hp.1.below hb, hp.2⟩ (by omega))
  have HCT := Lib.hid (fun (W : World) (hb : Below w.heap.size w W) => create_any tb mb k L.length T (acS a) a.data (o : Int) t a.serial W (hTr.below hb) (by omega) (by omega) hS (by omega))
  have HCM := Lib.hid (fun (W : World) (hb : ModL W 0 mp g cap L) => mcreate_any 0 mp g cap L T (acS a) a.data (o : Int) t a.serial W hb hR hS (by omega) (by omega))
  have HMM := Lib.hid (fun (W : World) (hb : Below w.heap.size w W) => hM.below hb)
  have HSM := Lib.hid (hSK.create L.length (acS a) a.data (o : Int) t a.serial)
  have HLT := Lib.hid hTr.map.lt
  have HLT2 := Lib.hid hTr.lt
  have hi := hp.1
  obtain ⟨xa, xc, hva, _⟩ := hi
  subst hva
  obtain ⟨s, hs⟩ : ∃ s, s = acS a := ⟨_, rfl⟩
  rw [← hs] at HS HCT HCM HSM ⊢
  obtain ⟨R, hRR⟩ : ∃ R, R = createN T L.length s a.data (o : Int) t a.serial := ⟨_, rfl⟩
  rw [← hRR] at HCT HCM HSM
  have HRR := Lib.hid hRR
  clear hTr hM hR hp hs hRR hn4 hS hSK
  unfold acV
  go_enter Tryz.func10, Tryz.ntmps10
  go_wp2_with fail
  refine (HS.out _ b1).mono ?_
  rintro e w1 ⟨rfl, b2⟩
  have N2 : w1.heap[w.heap.size]? = some (.cells #[.int .i64 a.k, .int .i64 a.ver, .int .i64 a.owner, .slice xa a.path.length xc, .string a.raw, .string a.data, .bool a.serial] 31 (0, 0)) := (b2.block w.heap.size (by simp)).trans (heap_alloc_new w _)
  have c0 : w1.cell? ⟨w.heap.size, 0, none⟩ = some (.int .i64 a.k) := by simp [World.cell?, N2]
  have c1 : w1.cell? ⟨w.heap.size, 1, none⟩ = some (.int .i64 a.ver) := by simp [World.cell?, N2]
  have c2 : w1.cell? ⟨w.heap.size, 2, none⟩ = some (.int .i64 a.owner) := by simp [World.cell?, N2]
  have c6 : w1.cell? ⟨w.heap.size, 6, none⟩ = some (.bool a.serial) := by simp [World.cell?, N2]
  have c5 : w1.cell? ⟨w.heap.size, 5, none⟩ = some (.string a.data) := by simp [World.cell?, N2]
  replace b2 := b1.trans (b2.mono b1.size)
  clear b1
  have eqq : ((bs R.path).toList == (bs R.path).toList) = true := by simp
  have eqr : (R.err == R.err) = true := by simp
  have hlw : w.heap.size < w1.heap.size := (Array.getElem?_eq_some_iff.1 N2).1
  rcases hq3 with rfl | rfl | rfl
  all_goals
    go_wp2_with fail
    refine (HCT.out _ b2).mono ?_
    rintro e w3 ⟨rfl, L3⟩
    have N3 := (L3.2.block w.heap.size hlw (fun e => by have := Option.some.inj e; have := HLT.out; omega)).trans N2
    have M3 := (HMM.out _ b2).left L3.2 (fun e => n3 e.symm) (fun e => n4 e.symm)
    have b3 := (b2.mono ab5).trans (left_below L3 ab2 (by have := b2.size; omega))
    have H3 := L3.1
    have d2 : w3.cell? ⟨w.heap.size, 2, none⟩ = some (.int .i64 a.owner) := by simp [World.cell?, N3]
    have d5 : w3.cell? ⟨w.heap.size, 5, none⟩ = some (.string a.data) := by simp [World.cell?, N3]
    have d6 : w3.cell? ⟨w.heap.size, 6, none⟩ = some (.bool a.serial) := by simp [World.cell?, N3]
    have htl := HLT2.out
    have hml := HLT.out
    have hs3 : w.heap.size ≤ w3.heap.size := Nat.le_trans b2.size L3.2.size
    have G3 := L3.2
    clear L3 c0 c1 c2 c5 c6 N2
    go_wp2_with fail
    refine (HCM.out _ M3).mono ?_
    rintro e w4 ⟨rfl, g', cap', L', M4, R4, hl4, O4, hg4⟩
    have H4 := H3.only O4 n1 n2 n3 n4
    have b4 := b3.trans (O4.below ab3 ab4 (Nat.le_trans ab5 b3.size))
    go_wp2_with fail
    go_ret
    exact ⟨by simp, b4, K3.of3 b2 G3 O4, (o : Int), R.T, g', cap', L', ⟨by rw [hl4]; exact H4, M4, R4, HSM.out, ⟨n1, by omega, n3, by omega⟩, ab1, ab2, ab3, by omega, by have := b4.size; omega⟩, by omega, by rw [hl4, HRR.out], by rw [HRR.out]⟩
end Go.Proofs.YtblcpihfnpgfiaaGreatDoor
