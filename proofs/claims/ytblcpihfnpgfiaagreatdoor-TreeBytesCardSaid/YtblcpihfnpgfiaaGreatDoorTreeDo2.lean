/- The law's Do where the tree and the model are not the same. No conditions beyond those in each statement. -/
import Derived.Test.YtblcpihfnpgfiaaGreatDoorTreeGood
namespace Go.Proofs.YtblcpihfnpgfiaaGreatDoor
open Go.RowKit
set_option linter.unusedVariables false
set_option linter.unusedSimpArgs false
set_option maxRecDepth 100000

/-- A tree and a model, each by itself. -/
structure Apt (m j : Nat) (w : World) (tb mb k c mp g cap : Nat) (T T2 : List UInt8 → Option Nd) (L : List Me) : Prop where
  tree : TrW w tb mb k c T
  mod : ModL w 0 mp g cap L
  rep : Rep T2 L
  small : SmallK j T
  smallM : SmallK j T2
  keys : KeysOk T
  par : ParOk T
  keysM : KeysOk T2
  parM : ParOk T2
  ne : tb ≠ mp ∧ tb ≠ g ∧ mb ≠ mp ∧ mb ≠ g
  above : m ≤ tb ∧ m ≤ mb ∧ m ≤ mp ∧ m ≤ g ∧ m ≤ w.heap.size
/-- What the tree is behind an act. -/
def AptR (j : Nat) (w' : World) (tb mb k c : Nat) (T : List UInt8 → Option Nd) : Prop := ∃ T' c', TrW w' tb mb k c' T' ∧ c' ≤ c + 1 ∧ SmallK j T' ∧ StepB T T'
theorem del_tree {m jj tb mb k c mp g cap : Nat} {T T2 : List UInt8 → Option Nd} {L : List Me} {w : World} (s : List UInt8) (v : Int) (h2 : Apt m jj w tb mb k c mp g cap T T2 L) (hjj : jj ≤ 90) (hc : c ≤ 500) (hk : k < 100000) (hsl : s.length ≤ 1000) :
    ∃ (ce : Int) (T' : List UInt8 → Option Nd) (c' : Nat), SmallK (jj + 1) T' ∧ StepB T T' ∧ c' ≤ c + 1 ∧
      (∀ W : World, Below w.heap.size w W → Calls Tryz.prog 34 #[.pointer (some ⟨tb, 0, none⟩), .string (bs s), .int .i64 v] W fun e w' => e = .returned (.int .i64 ce) ∧ Left W tb mb (k + 1) c' T' w') := by
  obtain ⟨hTr, _, _, hSK, _, hK, hP, _, _, _, _⟩ := h2
  have same : ∀ ce : Int, (∀ W : World, Below w.heap.size w W → Calls Tryz.prog 34 #[.pointer (some ⟨tb, 0, none⟩), .string (bs s), .int .i64 v] W fun e w' => e = .returned (.int .i64 ce) ∧ Below W.heap.size W w') →
      ∃ (ce : Int) (T' : List UInt8 → Option Nd) (c' : Nat), SmallK (jj + 1) T' ∧ StepB T T' ∧ c' ≤ c + 1 ∧
      (∀ W : World, Below w.heap.size w W → Calls Tryz.prog 34 #[.pointer (some ⟨tb, 0, none⟩), .string (bs s), .int .i64 v] W fun e w' => e = .returned (.int .i64 ce) ∧ Left W tb mb (k + 1) c' T' w') := fun ce hA =>
    ⟨ce, T, c, hSK.mono (Nat.le_succ _), StepB.refl T, Nat.le_succ _,
      fun W hW => (hA W hW).mono fun e w' ⟨he, hb⟩ => ⟨he, ((hTr.below hW).below hb).mono (Nat.le_succ _), below_grownBy hb _⟩⟩
  by_cases h0 : chkN T s v = 0
  · obtain ⟨nd, hnd⟩ := chk_some h0
    have hck := hK s nd hnd
    by_cases hr : s = [47]
    · subst hr
      exact same 1 (fun W hW => delete_root tb mb k c T v W (hTr.below hW) h0)
    · by_cases hk0 : ∃ x n, T x = some n ∧ upP x = s
      · exact same 13 (fun W hW => delete_kids tb mb k c T s v W (hTr.below hW) (by omega) hsl hK hk0 nd hck hnd h0 hr)
      · have hn : ∀ x n, T x = some n → upP x ≠ s := fun x n hx e => hk0 ⟨x, n, hx, e⟩
        obtain ⟨par, hpar⟩ := hP s nd hnd hr
        obtain ⟨p1, p2, p3⟩ := hSK _ _ hpar
        refine ⟨0, lessN T s par, c - 1, hSK.less hpar, .inr (.inr ⟨_, nd, par, hr, hnd, hpar, hn, rfl⟩), by omega, fun W hW => ?_⟩
        exact delete_ok tb mb k c T s v W (hTr.below hW) hsl hK hn nd hck hnd h0 hr par hpar (by omega) (by omega)
  · exact same _ (fun W hW => delete_err tb mb k c T s v _ W (hTr.below hW) hsl rfl h0)
theorem del_mod {m jj tb mb k c mp g cap : Nat} {T T2 : List UInt8 → Option Nd} {L : List Me} {w : World} (s : List UInt8) (v : Int) (h2 : Apt m jj w tb mb k c mp g cap T T2 L) (hjj : jj ≤ 90) (hL : L.length ≤ 100) :
    ∃ (ce : Int), ∀ W : World, ModL W 0 mp g cap L → Calls Tryz.prog 35 #[.pointer (some ⟨mp, 0, none⟩), .string (bs s), .int .i64 v] W fun e w' => e = .returned (.int .i64 ce) ∧ Only W w' mp g := by
  obtain ⟨_, hM, hR, _, hSK, _, _, hK, hP, _, _⟩ := h2
  have hKL : ∀ e ∈ L, checkL e.1 = true := fun e he => hK e.1 e.2 ((hR.mem _ _).2 he)
  by_cases h0 : chkN T2 s v = 0
  · obtain ⟨nd, hnd⟩ := chk_some h0
    have hck := hK s nd hnd
    have hs0 : s ≠ [] := by rintro rfl; exact absurd hck (by decide)
    by_cases hr : s = [47]
    · subst hr
      exact ⟨1, fun W hW => (mdelete_root 0 mp g cap L T2 v W hW hR (by omega) h0).mono fun e w' ⟨he, hb⟩ => ⟨he, Only.of_below _ _ hb⟩⟩
    · by_cases hk0 : kidsL L s = []
      · obtain ⟨par, hpar⟩ := hP s nd hnd hr
        obtain ⟨p1, p2, p3⟩ := hSK _ _ hpar
        exact ⟨0, fun W hW => (mdelete_ok 0 mp g cap L T2 s v W hW hR hL hKL hck h0 hr hk0 par hpar (by omega)).mono fun e w' ⟨he, _, _, _, _, _, _, hO, _⟩ => ⟨he, hO⟩⟩
      · exact ⟨13, fun W hW => (mdelete_kids 0 mp g cap L T2 s v W hW hR (by omega) hKL h0 hr hk0).mono fun e w' ⟨he, hb⟩ => ⟨he, Only.of_below _ _ hb⟩⟩
  · exact ⟨_, fun W hW => (mdelete_err 0 mp g cap L T2 s v _ W hW hR (by omega) rfl h0).mono fun e w' ⟨he, hb⟩ => ⟨he, Only.of_below _ _ hb⟩⟩
set_option maxHeartbeats 8000000 in
theorem do_create2 (m jj tb mb k c : Nat) (T T2 : List UInt8 → Option Nd) (mp g cap : Nat) (L : List Me) (a : Ac) (pv : Value) (t : Int) (w : World) (h2 : Apt m jj w tb mb k c mp g cap T T2 L) (hjj : jj ≤ 90) (hL : L.length ≤ 100) (hc : c ≤ 500) (hk : k < 100000) (hdl : a.data.size ≤ 200) (hp : IntsR w pv a.path) (hpl : a.path.length ≤ 12) (hrl : a.raw.size ≤ 100)
    (q : Int) (hq : wrap64 ((IntKind.u64.wrap a.k).tmod 6) = q) (hq3 : q = 0 ∨ q = 1 ∨ q = 2) :
    Calls Tryz.prog 10 #[.pointer (some ⟨tb, 0, none⟩), .pointer (some ⟨mp, 0, none⟩), acV a pv, .int .i64 t] w fun e w' => (∃ b, e = .returned (.bool b)) ∧ Below m w w' ∧ K3 w w' mb mp g ∧ AptR (jj + 1) w' tb mb (k + 2) c T := by
  have h2' := h2
  obtain ⟨hTr, hM, hR, hSK, hSM, hK, hP, hKM, hPM, ⟨n1, n2, n3, n4⟩, ab1, ab2, ab3, ab4, ab5⟩ := h2
  have hS := hSK.small (by omega)
  have hS2 := hSM.small (by omega)
  obtain ⟨n, hn4, hn⟩ : ∃ n : Nat, n < 4 ∧ bits .and .i64 a.ver 3 = (n : Int) := ⟨(a.ver % 4).toNat, by omega, by rw [i64_and3']; omega⟩
  obtain ⟨o, ho4, ho⟩ : ∃ o : Nat, o < 4 ∧ bits .and .i64 a.owner 3 = (o : Int) := ⟨(a.owner % 4).toNat, by omega, by rw [i64_and3']; omega⟩
  obtain ⟨v, hv⟩ : ∃ v : Int, IntKind.i64.wrap ((n : Int) - 1) = v := ⟨_, rfl⟩
  have hsl : (acS a).length ≤ 1000 := by
    unfold acS
    split
    · have := made_len a.path; omega
    · have := hrl; rw [Lib.size_eq] at this; omega
  have b1 := (Below.refl w.heap.size w).alloc (Nat.le_refl _) (.cells #[.int .i64 a.k, .int .i64 a.ver, .int .i64 a.owner, pv, .string a.raw, .string a.data, .bool a.serial] 31)
  have HS := Lib.hid (fun (W : World) (hb : Below w.heap.size w W) => acts_any a pv W ⟨hp.1.below hb, hp.2⟩ (by omega))
  have HMM := Lib.hid (fun (W : World) (hb : Below w.heap.size w W) => hM.below hb)
  have HLT := Lib.hid hTr.map.lt
  have HLT2 := Lib.hid hTr.lt
  have HCT := Lib.hid (fun (W : World) (hb : Below w.heap.size w W) => create_any tb mb k c T (acS a) a.data (o : Int) t a.serial W (hTr.below hb) (by omega) (by omega) hS (by omega))
  have HCM := Lib.hid (fun (W : World) (hb : ModL W 0 mp g cap L) => mcreate_any 0 mp g cap L T2 (acS a) a.data (o : Int) t a.serial W hb hR hS2 (by omega) (by omega))
  have HSM := Lib.hid (hSK.create c (acS a) a.data (o : Int) t a.serial)
  have HST := Lib.hid (create_step T c (acS a) a.data (o : Int) t a.serial)
  have hi := hp.1
  obtain ⟨xa, xc, hva, _⟩ := hi
  subst hva
  obtain ⟨s, hs⟩ : ∃ s, s = acS a := ⟨_, rfl⟩
  rw [← hs] at HS HCT HCM HSM HST
  obtain ⟨R, hRR⟩ : ∃ R, R = createN T c s a.data (o : Int) t a.serial := ⟨_, rfl⟩
  obtain ⟨R2, hRR2⟩ : ∃ R2, R2 = createN T2 L.length s a.data (o : Int) t a.serial := ⟨_, rfl⟩
  rw [← hRR] at HCT HSM HST
  rw [← hRR2] at HCM
  clear hTr hM hR hp hs hRR hRR2 hn4 hS hS2 hSK hSM hK hP hKM hPM h2'
  unfold acV
  go_enter Tryz.func10, Tryz.ntmps10
  go_wp2_with fail
  refine (HS.out _ b1).mono ?_
  rintro e w1 ⟨rfl, b2⟩
  have N2 : w1.heap[w.heap.size]? = some (.cells #[.int .i64 a.k, .int .i64 a.ver, .int .i64 a.owner, .slice xa a.path.length xc, .string a.raw, .string a.data, .bool a.serial] 31 (0, 0)) := (b2.block w.heap.size (by simp)).trans (heap_alloc_new w _)
  have c0 : w1.cell? ⟨w.heap.size, 0, none⟩ = some (.int .i64 a.k) := by simp [World.cell?, N2]
  have c1 : w1.cell? ⟨w.heap.size, 1, none⟩ = some (.int .i64 a.ver) := by simp [World.cell?, N2]
  have c2 : w1.cell? ⟨w.heap.size, 2, none⟩ = some (.int .i64 a.owner) := by simp [World.cell?, N2]
  have c5 : w1.cell? ⟨w.heap.size, 5, none⟩ = some (.string a.data) := by simp [World.cell?, N2]
  have c6 : w1.cell? ⟨w.heap.size, 6, none⟩ = some (.bool a.serial) := by simp [World.cell?, N2]
  replace b2 := b1.trans (b2.mono b1.size)
  clear b1
  have hlw : w.heap.size < w1.heap.size := (Array.getElem?_eq_some_iff.1 N2).1
  rcases hq3 with rfl | rfl | rfl
  all_goals
    go_wp2_with fail
    refine (HCT.out _ b2).mono ?_
    rintro e w3 ⟨rfl, L3⟩
    have N3 := (L3.2.block w.heap.size hlw (fun e => by have := Option.some.inj e; have := HLT.out; omega)).trans N2
    have M3 := (HMM.out _ b2).left L3.2 (fun e => n3 e.symm) (fun e => n4 e.symm)
    have b3 := (b2.mono ab5).trans (left_below L3 ab2 (by have := b2.size; omega))
    have H3 := L3.1
    have d2 : w3.cell? ⟨w.heap.size, 2, none⟩ = some (.int .i64 a.owner) := by simp [World.cell?, N3]
    have d5 : w3.cell? ⟨w.heap.size, 5, none⟩ = some (.string a.data) := by simp [World.cell?, N3]
    have d6 : w3.cell? ⟨w.heap.size, 6, none⟩ = some (.bool a.serial) := by simp [World.cell?, N3]
    have G3 := L3.2
    clear L3 c0 c1 c2 c5 c6 N2
    go_wp2_with fail
    refine (HCM.out _ M3).mono ?_
    rintro e w4 ⟨rfl, _, _, _, _, _, _, O4, _⟩
    have H4 := H3.only O4 n1 n2 n3 n4
    have b4 := b3.trans (O4.below ab3 ab4 (Nat.le_trans ab5 b3.size))
    have KK := K3.of3 b2 G3 O4
    clear G3 O4 N3 M3 d2 d5 d6
    cases hq1 : ((bs R.path).toList == (bs R2.path).toList) <;> cases hq2 : (R.err == R2.err)
    all_goals
      go_wp2_with fail
      go_ret
      exact ⟨⟨_, rfl⟩, b4, KK, R.T, R.c, H4, HST.out.2, HSM.out, HST.out.1⟩
set_option maxHeartbeats 8000000 in
theorem do_set2 (m jj tb mb k c : Nat) (T T2 : List UInt8 → Option Nd) (mp g cap : Nat) (L : List Me) (a : Ac) (pv : Value) (t : Int) (w : World) (h2 : Apt m jj w tb mb k c mp g cap T T2 L) (hjj : jj ≤ 90) (hL : L.length ≤ 100) (hc : c ≤ 500) (hk : k < 100000) (hdl : a.data.size ≤ 200) (hp : IntsR w pv a.path) (hpl : a.path.length ≤ 12) (hrl : a.raw.size ≤ 100)
    (hq : wrap64 ((IntKind.u64.wrap a.k).tmod 6) = 3) :
    Calls Tryz.prog 10 #[.pointer (some ⟨tb, 0, none⟩), .pointer (some ⟨mp, 0, none⟩), acV a pv, .int .i64 t] w fun e w' => (∃ b, e = .returned (.bool b)) ∧ Below m w w' ∧ K3 w w' mb mp g ∧ AptR (jj + 1) w' tb mb (k + 2) c T := by
  have h2' := h2
  obtain ⟨hTr, hM, hR, hSK, hSM, hK, hP, hKM, hPM, ⟨n1, n2, n3, n4⟩, ab1, ab2, ab3, ab4, ab5⟩ := h2
  have hS := hSK.small (by omega)
  have hS2 := hSM.small (by omega)
  obtain ⟨n, hn4, hn⟩ : ∃ n : Nat, n < 4 ∧ bits .and .i64 a.ver 3 = (n : Int) := ⟨(a.ver % 4).toNat, by omega, by rw [i64_and3']; omega⟩
  obtain ⟨o, ho4, ho⟩ : ∃ o : Nat, o < 4 ∧ bits .and .i64 a.owner 3 = (o : Int) := ⟨(a.owner % 4).toNat, by omega, by rw [i64_and3']; omega⟩
  obtain ⟨v, hv⟩ : ∃ v : Int, IntKind.i64.wrap ((n : Int) - 1) = v := ⟨_, rfl⟩
  have hsl : (acS a).length ≤ 1000 := by
    unfold acS
    split
    · have := made_len a.path; omega
    · have := hrl; rw [Lib.size_eq] at this; omega
  have b1 := (Below.refl w.heap.size w).alloc (Nat.le_refl _) (.cells #[.int .i64 a.k, .int .i64 a.ver, .int .i64 a.owner, pv, .string a.raw, .string a.data, .bool a.serial] 31)
  have HS := Lib.hid (fun (W : World) (hb : Below w.heap.size w W) => acts_any a pv W ⟨hp.1.below hb, hp.2⟩ (by omega))
  have HMM := Lib.hid (fun (W : World) (hb : Below w.heap.size w W) => hM.below hb)
  have HLT := Lib.hid hTr.map.lt
  have HLT2 := Lib.hid hTr.lt
  have HCT := Lib.hid (fun (W : World) (hb : Below w.heap.size w W) => set_any tb mb k c T (acS a) a.data v t W (hTr.below hb) (by omega) (by omega) hS (by omega))
  have HCM := Lib.hid (fun (W : World) (hb : ModL W 0 mp g cap L) => mset_any 0 mp g cap L T2 (acS a) a.data v t W hb hR hS2 (by omega) (by omega))
  have HSM := Lib.hid (hSK.set (acS a) a.data v t)
  have HST := Lib.hid (set_step T (acS a) a.data v t)
  have hi := hp.1
  obtain ⟨xa, xc, hva, _⟩ := hi
  subst hva
  obtain ⟨s, hs⟩ : ∃ s, s = acS a := ⟨_, rfl⟩
  rw [← hs] at HS HCT HCM HSM HST
  obtain ⟨R, hRR⟩ : ∃ R, R = setN T s a.data v t := ⟨_, rfl⟩
  obtain ⟨R2, hRR2⟩ : ∃ R2, R2 = setN T2 s a.data v t := ⟨_, rfl⟩
  rw [← hRR] at HCT HSM HST
  rw [← hRR2] at HCM
  clear hTr hM hR hp hs hRR hRR2 hn4 ho4 hS hS2 hSK hSM hK hP hKM hPM h2'
  unfold acV
  go_enter Tryz.func10, Tryz.ntmps10
  go_wp2_with fail
  refine (HS.out _ b1).mono ?_
  rintro e w1 ⟨rfl, b2⟩
  have N2 : w1.heap[w.heap.size]? = some (.cells #[.int .i64 a.k, .int .i64 a.ver, .int .i64 a.owner, .slice xa a.path.length xc, .string a.raw, .string a.data, .bool a.serial] 31 (0, 0)) := (b2.block w.heap.size (by simp)).trans (heap_alloc_new w _)
  have c0 : w1.cell? ⟨w.heap.size, 0, none⟩ = some (.int .i64 a.k) := by simp [World.cell?, N2]
  have c1 : w1.cell? ⟨w.heap.size, 1, none⟩ = some (.int .i64 a.ver) := by simp [World.cell?, N2]
  have c2 : w1.cell? ⟨w.heap.size, 2, none⟩ = some (.int .i64 a.owner) := by simp [World.cell?, N2]
  have c5 : w1.cell? ⟨w.heap.size, 5, none⟩ = some (.string a.data) := by simp [World.cell?, N2]
  have c6 : w1.cell? ⟨w.heap.size, 6, none⟩ = some (.bool a.serial) := by simp [World.cell?, N2]
  replace b2 := b1.trans (b2.mono b1.size)
  clear b1
  have hlw : w.heap.size < w1.heap.size := (Array.getElem?_eq_some_iff.1 N2).1
  go_wp2_with fail
  refine (HCT.out _ b2).mono ?_
  rintro e w3 ⟨rfl, L3⟩
  have N3 := (L3.2.block w.heap.size hlw (fun e => by have := Option.some.inj e; have := HLT.out; omega)).trans N2
  have M3 := (HMM.out _ b2).left L3.2 (fun e => n3 e.symm) (fun e => n4 e.symm)
  have b3 := (b2.mono ab5).trans (left_below L3 ab2 (by have := b2.size; omega))
  have H3 := L3.1
  have d2 : w3.cell? ⟨w.heap.size, 2, none⟩ = some (.int .i64 a.owner) := by simp [World.cell?, N3]
  have d5 : w3.cell? ⟨w.heap.size, 5, none⟩ = some (.string a.data) := by simp [World.cell?, N3]
  have d6 : w3.cell? ⟨w.heap.size, 6, none⟩ = some (.bool a.serial) := by simp [World.cell?, N3]
  have G3 := L3.2
  clear L3 c0 c1 c2 c5 c6 N2
  go_wp2_with fail
  refine (HCM.out _ M3).mono ?_
  rintro e w4 ⟨rfl, _, _, _, _, O4⟩
  have H4 := H3.only O4 n1 n2 n3 n4
  have b4 := b3.trans (O4.below ab3 ab4 (Nat.le_trans ab5 b3.size))
  have KK := K3.of3 b2 G3 O4
  clear G3 O4 N3 M3 d2 d5 d6
  cases hq1 : (R.ver == R2.ver) <;> cases hq2 : (R.err == R2.err)
  all_goals
    go_wp2_with fail
    go_ret
    exact ⟨⟨_, rfl⟩, b4, KK, R.T, c, H4.mono (by omega), by omega, HSM.out, HST.out⟩
set_option maxHeartbeats 8000000 in
theorem do_delete2 (m jj tb mb k c : Nat) (T T2 : List UInt8 → Option Nd) (mp g cap : Nat) (L : List Me) (a : Ac) (pv : Value) (t : Int) (w : World) (h2 : Apt m jj w tb mb k c mp g cap T T2 L) (hjj : jj ≤ 90) (hL : L.length ≤ 100) (hc : c ≤ 500) (hk : k < 100000) (hdl : a.data.size ≤ 200) (hp : IntsR w pv a.path) (hpl : a.path.length ≤ 12) (hrl : a.raw.size ≤ 100)
    (hq : wrap64 ((IntKind.u64.wrap a.k).tmod 6) = 4) :
    Calls Tryz.prog 10 #[.pointer (some ⟨tb, 0, none⟩), .pointer (some ⟨mp, 0, none⟩), acV a pv, .int .i64 t] w fun e w' => (∃ b, e = .returned (.bool b)) ∧ Below m w w' ∧ K3 w w' mb mp g ∧ AptR (jj + 1) w' tb mb (k + 2) c T := by
  have h2' := h2
  obtain ⟨hTr, hM, hR, hSK, hSM, hK, hP, hKM, hPM, ⟨n1, n2, n3, n4⟩, ab1, ab2, ab3, ab4, ab5⟩ := h2
  have hS := hSK.small (by omega)
  have hS2 := hSM.small (by omega)
  obtain ⟨n, hn4, hn⟩ : ∃ n : Nat, n < 4 ∧ bits .and .i64 a.ver 3 = (n : Int) := ⟨(a.ver % 4).toNat, by omega, by rw [i64_and3']; omega⟩
  obtain ⟨o, ho4, ho⟩ : ∃ o : Nat, o < 4 ∧ bits .and .i64 a.owner 3 = (o : Int) := ⟨(a.owner % 4).toNat, by omega, by rw [i64_and3']; omega⟩
  obtain ⟨v, hv⟩ : ∃ v : Int, IntKind.i64.wrap ((n : Int) - 1) = v := ⟨_, rfl⟩
  have hsl : (acS a).length ≤ 1000 := by
    unfold acS
    split
    · have := made_len a.path; omega
    · have := hrl; rw [Lib.size_eq] at this; omega
  have b1 := (Below.refl w.heap.size w).alloc (Nat.le_refl _) (.cells #[.int .i64 a.k, .int .i64 a.ver, .int .i64 a.owner, pv, .string a.raw, .string a.data, .bool a.serial] 31)
  have HS := Lib.hid (fun (W : World) (hb : Below w.heap.size w W) => acts_any a pv W ⟨hp.1.below hb, hp.2⟩ (by omega))
  have HMM := Lib.hid (fun (W : World) (hb : Below w.heap.size w W) => hM.below hb)
  have HLT := Lib.hid hTr.map.lt
  have HLT2 := Lib.hid hTr.lt
  obtain ⟨ce, T', c', hSM', hST, hcc, hA⟩ := del_tree (acS a) v h2' hjj hc hk hsl
  obtain ⟨ce2, hB⟩ := del_mod (acS a) v h2' hjj hL
  have HCT := Lib.hid hA
  have HCM := Lib.hid hB
  have HSM := Lib.hid hSM'
  have HST := Lib.hid hST
  have hi := hp.1
  obtain ⟨xa, xc, hva, _⟩ := hi
  subst hva
  obtain ⟨s, hs⟩ : ∃ s, s = acS a := ⟨_, rfl⟩
  rw [← hs] at HS HCT HCM
  clear hTr hM hR hp hs hn4 ho4 hS hS2 hSK hSM hK hP hKM hPM h2' hA hB hSM' hST
  unfold acV
  go_enter Tryz.func10, Tryz.ntmps10
  go_wp2_with fail
  refine (HS.out _ b1).mono ?_
  rintro e w1 ⟨rfl, b2⟩
  have N2 : w1.heap[w.heap.size]? = some (.cells #[.int .i64 a.k, .int .i64 a.ver, .int .i64 a.owner, .slice xa a.path.length xc, .string a.raw, .string a.data, .bool a.serial] 31 (0, 0)) := (b2.block w.heap.size (by simp)).trans (heap_alloc_new w _)
  have c0 : w1.cell? ⟨w.heap.size, 0, none⟩ = some (.int .i64 a.k) := by simp [World.cell?, N2]
  have c1 : w1.cell? ⟨w.heap.size, 1, none⟩ = some (.int .i64 a.ver) := by simp [World.cell?, N2]
  have c2 : w1.cell? ⟨w.heap.size, 2, none⟩ = some (.int .i64 a.owner) := by simp [World.cell?, N2]
  have c5 : w1.cell? ⟨w.heap.size, 5, none⟩ = some (.string a.data) := by simp [World.cell?, N2]
  have c6 : w1.cell? ⟨w.heap.size, 6, none⟩ = some (.bool a.serial) := by simp [World.cell?, N2]
  replace b2 := b1.trans (b2.mono b1.size)
  clear b1
  have hlw : w.heap.size < w1.heap.size := (Array.getElem?_eq_some_iff.1 N2).1
  go_wp2_with fail
  refine (HCT.out _ b2).mono ?_
  rintro e w3 ⟨rfl, L3⟩
  have N3 := (L3.2.block w.heap.size hlw (fun e => by have := Option.some.inj e; have := HLT.out; omega)).trans N2
  have M3 := (HMM.out _ b2).left L3.2 (fun e => n3 e.symm) (fun e => n4 e.symm)
  have b3 := (b2.mono ab5).trans (left_below L3 ab2 (by have := b2.size; omega))
  have H3 := L3.1
  have d2 : w3.cell? ⟨w.heap.size, 2, none⟩ = some (.int .i64 a.owner) := by simp [World.cell?, N3]
  have d5 : w3.cell? ⟨w.heap.size, 5, none⟩ = some (.string a.data) := by simp [World.cell?, N3]
  have d6 : w3.cell? ⟨w.heap.size, 6, none⟩ = some (.bool a.serial) := by simp [World.cell?, N3]
  have G3 := L3.2
  clear L3 c0 c1 c2 c5 c6 N2
  go_wp2_with fail
  refine (HCM.out _ M3).mono ?_
  rintro e w4 ⟨rfl, O4⟩
  have H4 := H3.only O4 n1 n2 n3 n4
  have b4 := b3.trans (O4.below ab3 ab4 (Nat.le_trans ab5 b3.size))
  have KK := K3.of3 b2 G3 O4
  clear G3 O4 N3 M3 d2 d5 d6
  go_wp2_with fail
  go_ret
  exact ⟨⟨_, rfl⟩, b4, KK, T', c', H4.mono (by omega), hcc, HSM.out, HST.out⟩
set_option maxHeartbeats 8000000 in
theorem do_check2 (m jj tb mb k c : Nat) (T T2 : List UInt8 → Option Nd) (mp g cap : Nat) (L : List Me) (a : Ac) (pv : Value) (t : Int) (w : World) (h2 : Apt m jj w tb mb k c mp g cap T T2 L) (hjj : jj ≤ 90) (hL : L.length ≤ 100) (hc : c ≤ 500) (hk : k < 100000) (hdl : a.data.size ≤ 200) (hp : IntsR w pv a.path) (hpl : a.path.length ≤ 12) (hrl : a.raw.size ≤ 100)
    (hq : wrap64 ((IntKind.u64.wrap a.k).tmod 6) = 5) :
    Calls Tryz.prog 10 #[.pointer (some ⟨tb, 0, none⟩), .pointer (some ⟨mp, 0, none⟩), acV a pv, .int .i64 t] w fun e w' => (∃ b, e = .returned (.bool b)) ∧ Below m w w' ∧ K3 w w' mb mp g ∧ AptR (jj + 1) w' tb mb (k + 2) c T := by
  have h2' := h2
  obtain ⟨hTr, hM, hR, hSK, hSM, hK, hP, hKM, hPM, ⟨n1, n2, n3, n4⟩, ab1, ab2, ab3, ab4, ab5⟩ := h2
  have hS := hSK.small (by omega)
  have hS2 := hSM.small (by omega)
  obtain ⟨n, hn4, hn⟩ : ∃ n : Nat, n < 4 ∧ bits .and .i64 a.ver 3 = (n : Int) := ⟨(a.ver % 4).toNat, by omega, by rw [i64_and3']; omega⟩
  obtain ⟨o, ho4, ho⟩ : ∃ o : Nat, o < 4 ∧ bits .and .i64 a.owner 3 = (o : Int) := ⟨(a.owner % 4).toNat, by omega, by rw [i64_and3']; omega⟩
  obtain ⟨v, hv⟩ : ∃ v : Int, IntKind.i64.wrap ((n : Int) - 1) = v := ⟨_, rfl⟩
  have hsl : (acS a).length ≤ 1000 := by
    unfold acS
    split
    · have := made_len a.path; omega
    · have := hrl; rw [Lib.size_eq] at this; omega
  have b1 := (Below.refl w.heap.size w).alloc (Nat.le_refl _) (.cells #[.int .i64 a.k, .int .i64 a.ver, .int .i64 a.owner, pv, .string a.raw, .string a.data, .bool a.serial] 31)
  have HS := Lib.hid (fun (W : World) (hb : Below w.heap.size w W) => acts_any a pv W ⟨hp.1.below hb, hp.2⟩ (by omega))
  have HMM := Lib.hid (fun (W : World) (hb : Below w.heap.size w W) => hM.below hb)
  have HLT := Lib.hid hTr.map.lt
  have HLT2 := Lib.hid hTr.lt
  have HCT := Lib.hid (fun (W : World) (hb : Below w.heap.size w W) => (chk_any tb mb k c T (acS a) v W (hTr.below hb) (by omega)).mono (R' := fun e w' => e = .returned (.int .i64 (chkN T (acS a) v)) ∧ Left W tb mb k c T w') fun e w' ⟨he, hb2⟩ => ⟨he, (hTr.below hb).below hb2, below_grownBy hb2 _⟩)
  have HCM := Lib.hid (fun (W : World) (hb : ModL W 0 mp g cap L) => (mchk_any 0 mp g cap L T2 (acS a) v W hb hR (by omega)).mono (R' := fun e w' => e = .returned (.int .i64 (chkN T2 (acS a) v)) ∧ Only W w' mp g) fun e w' ⟨he, hb2⟩ => ⟨he, Only.of_below _ _ hb2⟩)
  have HSM := Lib.hid (hSK.mono (Nat.le_succ _))
  have hi := hp.1
  obtain ⟨xa, xc, hva, _⟩ := hi
  subst hva
  obtain ⟨s, hs⟩ : ∃ s, s = acS a := ⟨_, rfl⟩
  rw [← hs] at HS HCT HCM
  obtain ⟨ce, hce⟩ : ∃ ce, ce = chkN T s v := ⟨_, rfl⟩
  obtain ⟨ce2, hce2⟩ : ∃ ce2, ce2 = chkN T2 s v := ⟨_, rfl⟩
  rw [← hce] at HCT
  rw [← hce2] at HCM
  clear hTr hM hR hp hs hn4 ho4 hS hS2 hSK hSM hK hP hKM hPM h2' hce hce2
  unfold acV
  go_enter Tryz.func10, Tryz.ntmps10
  go_wp2_with fail
  refine (HS.out _ b1).mono ?_
  rintro e w1 ⟨rfl, b2⟩
  have N2 : w1.heap[w.heap.size]? = some (.cells #[.int .i64 a.k, .int .i64 a.ver, .int .i64 a.owner, .slice xa a.path.length xc, .string a.raw, .string a.data, .bool a.serial] 31 (0, 0)) := (b2.block w.heap.size (by simp)).trans (heap_alloc_new w _)
  have c0 : w1.cell? ⟨w.heap.size, 0, none⟩ = some (.int .i64 a.k) := by simp [World.cell?, N2]
  have c1 : w1.cell? ⟨w.heap.size, 1, none⟩ = some (.int .i64 a.ver) := by simp [World.cell?, N2]
  have c2 : w1.cell? ⟨w.heap.size, 2, none⟩ = some (.int .i64 a.owner) := by simp [World.cell?, N2]
  have c5 : w1.cell? ⟨w.heap.size, 5, none⟩ = some (.string a.data) := by simp [World.cell?, N2]
  have c6 : w1.cell? ⟨w.heap.size, 6, none⟩ = some (.bool a.serial) := by simp [World.cell?, N2]
  replace b2 := b1.trans (b2.mono b1.size)
  clear b1
  have hlw : w.heap.size < w1.heap.size := (Array.getElem?_eq_some_iff.1 N2).1
  go_wp2_with fail
  refine (HCT.out _ b2).mono ?_
  rintro e w3 ⟨rfl, L3⟩
  have N3 := (L3.2.block w.heap.size hlw (fun e => by have := Option.some.inj e; have := HLT.out; omega)).trans N2
  have M3 := (HMM.out _ b2).left L3.2 (fun e => n3 e.symm) (fun e => n4 e.symm)
  have b3 := (b2.mono ab5).trans (left_below L3 ab2 (by have := b2.size; omega))
  have H3 := L3.1
  have d2 : w3.cell? ⟨w.heap.size, 2, none⟩ = some (.int .i64 a.owner) := by simp [World.cell?, N3]
  have d5 : w3.cell? ⟨w.heap.size, 5, none⟩ = some (.string a.data) := by simp [World.cell?, N3]
  have d6 : w3.cell? ⟨w.heap.size, 6, none⟩ = some (.bool a.serial) := by simp [World.cell?, N3]
  have G3 := L3.2
  clear L3 c0 c1 c2 c5 c6 N2
  go_wp2_with fail
  refine (HCM.out _ M3).mono ?_
  rintro e w4 ⟨rfl, O4⟩
  have H4 := H3.only O4 n1 n2 n3 n4
  have b4 := b3.trans (O4.below ab3 ab4 (Nat.le_trans ab5 b3.size))
  have KK := K3.of3 b2 G3 O4
  clear G3 O4 N3 M3 d2 d5 d6
  go_wp2_with fail
  go_ret
  exact ⟨⟨_, rfl⟩, b4, KK, T, c, H4.mono (by omega), by omega, HSM.out, StepB.refl T⟩
theorem do_two (m jj tb mb k c : Nat) (T T2 : List UInt8 → Option Nd) (mp g cap : Nat) (L : List Me) (a : Ac) (pv : Value) (t : Int) (w : World) (h2 : Apt m jj w tb mb k c mp g cap T T2 L) (hjj : jj ≤ 90) (hL : L.length ≤ 100) (hc : c ≤ 500) (hk : k < 100000) (hdl : a.data.size ≤ 200) (hp : IntsR w pv a.path) (hpl : a.path.length ≤ 12) (hrl : a.raw.size ≤ 100) :
    Calls Tryz.prog 10 #[.pointer (some ⟨tb, 0, none⟩), .pointer (some ⟨mp, 0, none⟩), acV a pv, .int .i64 t] w fun e w' => (∃ b, e = .returned (.bool b)) ∧ Below m w w' ∧ K3 w w' mb mp g ∧ AptR (jj + 1) w' tb mb (k + 2) c T := by
  obtain ⟨q, hq6, _, hq⟩ := pick6 a.k
  have hc6 : q = 0 ∨ q = 1 ∨ q = 2 ∨ q = 3 ∨ q = 4 ∨ q = 5 := by omega
  rcases hc6 with rfl | rfl | rfl | rfl | rfl | rfl
  · exact do_create2 m jj tb mb k c T T2 mp g cap L a pv t w h2 hjj hL hc hk hdl hp hpl hrl 0 hq (by omega)
  · exact do_create2 m jj tb mb k c T T2 mp g cap L a pv t w h2 hjj hL hc hk hdl hp hpl hrl 1 hq (by omega)
  · exact do_create2 m jj tb mb k c T T2 mp g cap L a pv t w h2 hjj hL hc hk hdl hp hpl hrl 2 hq (by omega)
  · exact do_set2 m jj tb mb k c T T2 mp g cap L a pv t w h2 hjj hL hc hk hdl hp hpl hrl hq
  · exact do_delete2 m jj tb mb k c T T2 mp g cap L a pv t w h2 hjj hL hc hk hdl hp hpl hrl hq
  · exact do_check2 m jj tb mb k c T T2 mp g cap L a pv t w h2 hjj hL hc hk hdl hp hpl hrl hq
end Go.Proofs.YtblcpihfnpgfiaaGreatDoor
