/- The law's Do: a Check of both. No conditions beyond those in each statement. -/
import Derived.Test.YtblcpihfnpgfiaaGreatDoorTreeFew
import Derived.Test.YtblcpihfnpgfiaaGreatDoorTreeModD
namespace Go.Proofs.YtblcpihfnpgfiaaGreatDoor
open Go.RowKit
set_option linter.unusedVariables false
set_option linter.unusedSimpArgs false
set_option maxRecDepth 100000

theorem pick6 (z : Int) : ∃ q : Nat, q < 6 ∧ (z % 18446744073709551616) % 6 = (q : Int) ∧ wrap64 ((IntKind.u64.wrap z).tmod 6) = (q : Int) := by
  have hw := wrapu z
  have h0 : 0 ≤ IntKind.u64.wrap z := by omega
  have ht : (IntKind.u64.wrap z).tmod 6 = IntKind.u64.wrap z % 6 := Int.tmod_eq_emod_of_nonneg h0
  refine ⟨((z % 18446744073709551616) % 6).toNat, by omega, by omega, ?_⟩
  rw [ht]; unfold wrap64; omega
theorem i64_and3' (n : Int) : bits .and .i64 n 3 = n % 4 := by
  have h127 : (BitVec.ofInt 64 3).toNat = 2 ^ 2 - 1 := by decide
  have key : (BitVec.ofInt 64 n &&& BitVec.ofInt 64 3).toNat = (n % ((2 ^ 64 : Nat) : Int)).toNat % 2 ^ 2 := by
    rw [BitVec.toNat_and, BitVec.toNat_ofInt, h127, Nat.and_two_pow_sub_one_eq_mod]
  show IntKind.i64.wrap ((BitVec.ofInt 64 n &&& BitVec.ofInt 64 3).toNat : Nat) = n % 4
  rw [key, IntKind.wrap_i64]
  omega
set_option maxHeartbeats 4000000 in
theorem do_check (tb mb k c : Nat) (T : List UInt8 → Option Nd) (base mp g cap : Nat) (L : List Me) (a : Ac) (pv : Value) (t : Int) (w : World) (h : TrW w tb mb k c T) (hM : ModL w base mp g cap L) (hR : Rep T L) (hL : L.length ≤ 100) (hp : IntsR w pv a.path) (hpl : a.path.length ≤ 12) (hrl : a.raw.size ≤ 100)
    (hq : wrap64 ((IntKind.u64.wrap a.k).tmod 6) = 5) :
    Calls Tryz.prog 10 #[.pointer (some ⟨tb, 0, none⟩), .pointer (some ⟨mp, 0, none⟩), acV a pv, .int .i64 t] w fun e w' => e = .returned (.bool true) ∧ Below w.heap.size w w' := by
  obtain ⟨n, hn4, hn⟩ : ∃ n : Nat, n < 4 ∧ bits .and .i64 a.ver 3 = (n : Int) := ⟨(a.ver % 4).toNat, by omega, by rw [i64_and3']; omega⟩
  obtain ⟨o, ho4, ho⟩ : ∃ o : Nat, o < 4 ∧ bits .and .i64 a.owner 3 = (o : Int) := ⟨(a.owner % 4).toNat, by omega, by rw [i64_and3']; omega⟩
  obtain ⟨v, hv⟩ : ∃ v : Int, IntKind.i64.wrap ((n : Int) - 1) = v := ⟨_, rfl⟩
  have hsl : (acS a).length ≤ 1000 := by
    unfold acS
    split
    · have := made_len a.path; omega
    · have := hrl; rw [Lib.size_eq] at this; omega
  have b1 := (Below.refl w.heap.size w).alloc (Nat.le_refl _) (.cells #[.int .i64 a.k, .int .i64 a.ver, .int .i64 a.owner, pv, .string a.raw, .string a.data, .bool a.serial] 31)
  have HS := Lib.hid (fun (W : World) (hb : Below w.heap.size w W) => acts_any a pv W ⟨hp.1.below hb, hp.2⟩ (by omega))
  have HCT := Lib.hid (fun (W : World) (hb : Below w.heap.size w W) => chk_any tb mb k c T (acS a) v W (h.below hb) (by omega))
  have HCM := Lib.hid (fun (W : World) (hb : Below w.heap.size w W) => mchk_any base mp g cap L T (acS a) v W (hM.below hb) hR (by omega))
  have hi := hp.1
  obtain ⟨xa, xc, hva, _⟩ := hi
  subst hva
  obtain ⟨s, hs⟩ : ∃ s, s = acS a := ⟨_, rfl⟩
  rw [← hs] at HS HCT HCM
  obtain ⟨ce, hce⟩ : ∃ ce, ce = chkN T s v := ⟨_, rfl⟩
  rw [← hce] at HCT HCM
  clear h hM hR hp hs hce hn4 ho4
  unfold acV
  go_enter Tryz.func10, Tryz.ntmps10
  go_wp2_with fail
  refine (HS.out _ b1).mono ?_
  rintro e w1 ⟨rfl, b2⟩
  have N2 : w1.heap[w.heap.size]? = some (.cells #[.int .i64 a.k, .int .i64 a.ver, .int .i64 a.owner, .slice xa a.path.length xc, .string a.raw, .string a.data, .bool a.serial] 31 (0, 0)) := (b2.block w.heap.size (by simp)).trans (heap_alloc_new w _)
  have c0 : w1.cell? ⟨w.heap.size, 0, none⟩ = some (.int .i64 a.k) := by simp [World.cell?, N2]
  have c1 : w1.cell? ⟨w.heap.size, 1, none⟩ = some (.int .i64 a.ver) := by simp [World.cell?, N2]
  have c2 : w1.cell? ⟨w.heap.size, 2, none⟩ = some (.int .i64 a.owner) := by simp [World.cell?, N2]
  replace b2 := b1.trans (b2.mono b1.size)
  clear N2 b1
  have eqq : (ce == ce) = true := by simp
  go_wp2_with fail
  refine (HCT.out _ b2).mono ?_
  rintro e w3 ⟨rfl, b3⟩
  replace b3 := b2.trans (b3.mono b2.size)
  go_wp2_with fail
  refine (HCM.out _ b3).mono ?_
  rintro e w4 ⟨rfl, b4⟩
  replace b4 := b3.trans (b4.mono b3.size)
  go_wp2_with fail
  go_ret
  exact ⟨rfl, b4⟩
end Go.Proofs.YtblcpihfnpgfiaaGreatDoor
