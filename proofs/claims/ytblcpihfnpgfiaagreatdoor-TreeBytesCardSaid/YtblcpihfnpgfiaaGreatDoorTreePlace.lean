/- Where a node may be: place of a tree. No conditions beyond those in each statement. -/
import Derived.Test.YtblcpihfnpgfiaaGreatDoorTreeNew
namespace Go.Proofs.YtblcpihfnpgfiaaGreatDoor
open Go.RowKit Go.Maps
set_option linter.unusedVariables false
set_option linter.unusedSimpArgs false
set_option maxRecDepth 100000

/-- The path above, and the last part. -/
def upX (z : List UInt8) : List UInt8 := ((z.reverse.dropWhile (fun c => c != 47)).drop 1).reverse
def lastX (z : List UInt8) : List UInt8 := (z.reverse.takeWhile (fun c => c != 47)).reverse
def upP (z : List UInt8) : List UInt8 := if z = [47] then [] else upB (upX z)
def lastP (z : List UInt8) : List UInt8 := if z = [47] then [] else lastX z
theorem dw_app : ∀ (q r : List UInt8), (47 : UInt8) ∉ q → (q ++ 47 :: r).dropWhile (fun c => c != 47) = 47 :: r ∧ (q ++ 47 :: r).takeWhile (fun c => c != 47) = q
  | [], r, _ => by simp
  | c :: q, r, h => by
    have hc : c ≠ 47 := fun e => h (by simp [e])
    have := dw_app q r (fun e => h (by simp [e]))
    simp [hc, this.1, this.2]
theorem upX_app (x q : List UInt8) (h : (47 : UInt8) ∉ q) : upX (x ++ 47 :: q) = x ∧ lastX (x ++ 47 :: q) = q := by
  have e : (x ++ 47 :: q).reverse = q.reverse ++ 47 :: x.reverse := by simp
  have := dw_app q.reverse x.reverse (by simpa using h)
  unfold upX lastX
  rw [e, this.1, this.2]; simp
theorem split_last : ∀ z : List UInt8, (47 : UInt8) ∈ z → ∃ x q, z = x ++ 47 :: q ∧ (47 : UInt8) ∉ q
  | [], h => by cases h
  | c :: z, h => by
    by_cases hz : (47 : UInt8) ∈ z
    · obtain ⟨x, q, rfl, hq⟩ := split_last z hz
      exact ⟨c :: x, q, rfl, hq⟩
    · have : c = 47 := by
        rcases List.mem_cons.1 h with h1 | h1
        · exact h1.symm
        · exact absurd h1 hz
      subst this
      exact ⟨[], z, rfl, hz⟩
theorem pieces_last : ∀ (x q : List UInt8), (47 : UInt8) ∉ q → ∃ ps, pieces (x ++ 47 :: q) = ps ++ [q]
  | [], q, h => ⟨[[]], by simp [pieces, pieces_none q h]⟩
  | c :: x, q, h => by
    obtain ⟨ps, hps⟩ := pieces_last x q h
    by_cases hc : c = 47
    · subst hc
      exact ⟨[] :: ps, by simp [pieces, hps]⟩
    · cases ps with
      | nil =>
        exfalso
        obtain ⟨r, rs, h1, _⟩ := pieces_cons hc (x ++ 47 :: q)
        have hp : pieces (x ++ 47 :: q) = [q] := by simpa using hps
        have hlen : ∀ y : List UInt8, 2 ≤ (pieces (y ++ 47 :: q)).length := by
          intro y
          induction y with
          | nil => simp [pieces, pieces_none q h]
          | cons d y ih =>
            by_cases hd : d = 47
            · subst hd; simp [pieces]; omega
            · obtain ⟨a, b, h2, h3⟩ := pieces_cons hd (y ++ 47 :: q)
              have : pieces (d :: y ++ 47 :: q) = (d :: a) :: b := h3
              rw [this]; rw [h2] at ih; simpa using ih
        have := hlen x
        rw [hp] at this; simp at this
      | cons p ps =>
        exact ⟨(c :: p) :: ps, by simp [pieces, hc, hps]⟩
theorem check_split {z : List UInt8} (h : checkL z = true) (hr : z ≠ [47]) : ∃ x q, z = x ++ 47 :: q ∧ (47 : UInt8) ∉ q ∧ q ≠ [] ∧ z.length ≤ 60 := by
  unfold checkL at h
  simp [hr] at h
  obtain ⟨h1, h2, h3⟩ := h
  cases z with
  | nil => simp at h1
  | cons c l =>
    obtain rfl : c = 47 := by simpa using h1
    obtain ⟨x, q, e, hq⟩ := split_last (47 :: l) (by simp)
    refine ⟨x, q, e, hq, ?_, h2⟩
    rintro rfl
    have hmem : ([] : List UInt8) ∈ pieces l := by
      cases x with
      | nil =>
        simp at e
        exact absurd (by rw [e]) hr
      | cons d x =>
        simp at e
        obtain ⟨ps, hps⟩ := pieces_last x [] hq
        rw [e.2, hps]; simp
    have := h3 [] (by simpa using hmem)
    exact absurd this (by decide)
theorem upP_app {x q : List UInt8} (h : (47 : UInt8) ∉ q) (hr : x ++ 47 :: q ≠ [47]) : upP (x ++ 47 :: q) = upB x ∧ lastP (x ++ 47 :: q) = q := by
  unfold upP lastP
  rw [if_neg hr, if_neg hr, (upX_app x q h).1, (upX_app x q h).2]; exact ⟨rfl, rfl⟩
/-- Up at any path. -/
theorem up_path (z : List UInt8) (w : World) (h : checkL z = true) : Calls Tryz.prog 28 #[.string (bs z)] w fun e w' => e = .returned (.tuple #[.string (bs (upP z)), .string (bs (lastP z))]) ∧ ∃ n, w' = w.drewN n := by
  by_cases hr : z = [47]
  · subst hr; exact up_root w
  · obtain ⟨x, q, rfl, hq, hne, hl⟩ := check_split h hr
    have := upP_app hq hr
    rw [this.1, this.2]
    exact up_any x q w hq (by simp at hl; omega) (by simp at hl; omega) (fun _ => hne)
/-- What place answers. -/
def placeN (T : List UInt8 → Option Nd) (z : List UInt8) (d : ByteArray) : List UInt8 × Nd × Int :=
  if checkL z = false then ([], Nd.zero, 10) else if z = [47] then ([], Nd.zero, 12) else if 60 < d.size then ([], Nd.zero, 3)
  else if (getN T (upP z)).2 ≠ 0 then ([], Nd.zero, (getN T (upP z)).2) else if (getN T (upP z)).1.owner ≠ 0 then ([], Nd.zero, 15) else (upP z, (getN T (upP z)).1, 0)
theorem place_results (W : World) (tmps : Array Value) (b : Nat) (n : Nd) (e : Int) (s : ByteArray) (h6 : tmps.getD 6 undef = .string s) (h4 : tmps.getD 7 undef = .pointer (some ⟨b, 0, none⟩)) (h5 : tmps.getD 8 undef = .int .i64 e) (hN : NdB W b n) :
    (results Tryz.f55 tmps).run Tryz.prog W = .ok (.tuple #[.string s, ndV n, .int .i64 e]) W := by
  obtain ⟨⟨c0, c1, c2, c3, c4, c5, c6⟩, _⟩ := NdB.cells hN
  simp at h6 h4 h5
  simp [results, Tryz.results55, go_sem, h6, h4, h5, c0, c1, c2, c3, c4, c5, c6, ndV]
theorem NdB.drew {x : World} {b : Nat} {m : Nd} (h : NdB x b m) : NdB x.drew b m := h
set_option maxHeartbeats 4000000 in
theorem place_any (tb mb k c : Nat) (T : List UInt8 → Option Nd) (z : List UInt8) (d : ByteArray) (w : World) (h : TrW w tb mb k c T) (hz : z.length ≤ 1000000) (hd : d.size ≤ maxLen) : Calls Tryz.prog 55 #[.pointer (some ⟨tb, 0, none⟩), .string (bs z), .string d] w fun e w' => e = .returned (.tuple #[.string (bs (placeN T z d).1), ndV (placeN T z d).2.1, .int .i64 (placeN T z d).2.2]) ∧ Below w.heap.size w w' := by
  unfold maxLen at hd
  have HC := Lib.hid (fun W : World => check_any (bs z) W)
  have b0 := (Below.refl _ w).alloc (Nat.le_refl _) (.cells #[.string ⟨#[]⟩, .int .i64 0, .int .i64 0, .int .i64 0, .int .i64 0, .int .i64 0, .int .i64 0] 40)
  have H0 := h.below b0
  have N0 := NdB.new w Nd.zero
  cases hck : checkL z
  · have hE : checkE z = 10 := by unfold checkE; rw [hck]; rfl
    have hP : placeN T z d = ([], Nd.zero, 10) := by unfold placeN; rw [if_pos hck]
    rw [hP]
    have HE := Lib.hid hE
    clear hck hE hP H0 h
    go_enter Tryz.func55, Tryz.ntmps55
    go_wp2_with fail
    refine (HC.out _).mono ?_
    rintro e w1 ⟨rfl, b1⟩
    rw [bs_list, HE.out]
    have N1 := N0.below b1
    obtain ⟨⟨c0, c1, c2, c3, c4, c5, c6⟩, f0, f1, f2, f3, f4, f5, f6⟩ := N1.cells
    go_wp2_with fail
    have NN := NdB.set7 N1 Nd.zero
    exact bodyPost_ret (place_results _ _ w.heap.size Nd.zero 10 (bs []) rfl rfl rfl NN) rfl ⟨rfl, below7 (b0.trans (b1.mono b0.size)) (Nat.le_refl _) _ _ _ _ _ _ _⟩
  have hE : checkE z = 0 := by unfold checkE; rw [hck]; rfl
  have HE := Lib.hid hE
  clear hE
  by_cases hr : z = [47]
  · have hP : placeN T z d = ([], Nd.zero, 12) := by unfold placeN; rw [if_neg (by rw [hck]; simp), if_pos hr]
    rw [hP]
    have er : ((bs z).toList == [47]) = true := eq_true (by rw [bs_list, hr])
    clear hck hP H0 h hr
    go_enter Tryz.func55, Tryz.ntmps55
    go_wp2_with fail
    refine (HC.out _).mono ?_
    rintro e w1 ⟨rfl, b1⟩
    rw [bs_list, HE.out]
    have N1 := N0.below b1
    obtain ⟨⟨c0, c1, c2, c3, c4, c5, c6⟩, f0, f1, f2, f3, f4, f5, f6⟩ := N1.cells
    go_wp2_with fail
    have NN := NdB.set7 N1 Nd.zero
    exact bodyPost_ret (place_results _ _ w.heap.size Nd.zero 12 (bs []) rfl rfl rfl NN) rfl ⟨rfl, below7 (b0.trans (b1.mono b0.size)) (Nat.le_refl _) _ _ _ _ _ _ _⟩
  have er : ((bs z).toList == [47]) = false := eq_false (by rw [bs_list]; exact hr)
  by_cases hd6 : 60 < d.size
  · have hP : placeN T z d = ([], Nd.zero, 3) := by unfold placeN; rw [if_neg (by rw [hck]; simp), if_neg hr, if_pos hd6]
    rw [hP]
    have ed : decide ((60 : Int) < (d.size : Int)) = true := by simp; omega
    clear hck hP H0 h hr
    go_enter Tryz.func55, Tryz.ntmps55
    go_wp2_with fail
    refine (HC.out _).mono ?_
    rintro e w1 ⟨rfl, b1⟩
    rw [bs_list, HE.out]
    have N1 := N0.below b1
    obtain ⟨⟨c0, c1, c2, c3, c4, c5, c6⟩, f0, f1, f2, f3, f4, f5, f6⟩ := N1.cells
    go_wp2_with fail
    have NN := NdB.set7 N1 Nd.zero
    exact bodyPost_ret (place_results _ _ w.heap.size Nd.zero 3 (bs []) rfl rfl rfl NN) rfl ⟨rfl, below7 (b0.trans (b1.mono b0.size)) (Nat.le_refl _) _ _ _ _ _ _ _⟩
  have ed : decide ((60 : Int) < (d.size : Int)) = false := by simp; omega
  have HU := Lib.hid (fun W : World => up_path z W hck)
  have hul : (upP z).length ≤ 1000000 := by
    obtain ⟨x, q, e, hq, _, hl⟩ := check_split hck hr
    subst e
    rw [(upP_app hq hr).1]; unfold upB; simp at hl; split
    · simp
    · omega
  obtain ⟨nd, hnd⟩ : ∃ nd, nd = (getN T (upP z)).1 := ⟨_, rfl⟩
  obtain ⟨ge, hge⟩ : ∃ ge, ge = (getN T (upP z)).2 := ⟨_, rfl⟩
  have HG : Hid (∀ W : World, Below w.heap.size w W → Calls Tryz.prog 14 #[.pointer (some ⟨tb, 0, none⟩), .string (bs (upP z))] W fun e w' => e = .returned (.tuple #[.agg #[.string nd.data, .int .i64 nd.ver, .int .i64 nd.below, .int .i64 nd.owner, .int .i64 nd.made, .int .i64 nd.put, .int .i64 nd.serial], .int .i64 ge]) ∧ Below W.heap.size W w') := Lib.hid (fun W hb => by
    have := get_any tb mb k c T (upP z) W (h.below hb) hul
    rw [← hnd, ← hge] at this; exact this)
  by_cases hg0 : ge = 0
  · by_cases ho : nd.owner = 0
    · have hP : placeN T z d = (upP z, nd, 0) := by unfold placeN; rw [if_neg (by rw [hck]; simp), if_neg hr, if_neg hd6, if_neg (by rw [← hge]; exact fun h => h hg0), if_neg (by rw [← hnd]; exact fun h => h ho), ← hnd]
      rw [hP]
      have eo : (nd.owner != 0) = false := by simpa using ho
      have eo2 : (nd.owner == 0) = true := by simpa using ho
      subst hg0
      obtain ⟨u, hu⟩ : ∃ u, u = bs (upP z) := ⟨_, rfl⟩
      rw [← hu] at HU HG ⊢
      clear hck hP H0 h hr hnd hge ho hul hu
      go_enter Tryz.func55, Tryz.ntmps55
      go_wp2_with fail
      refine (HC.out _).mono ?_
      rintro e w1 ⟨rfl, b1⟩
      rw [bs_list, HE.out]
      have N1 := N0.below b1
      obtain ⟨⟨c0, c1, c2, c3, c4, c5, c6⟩, f0, f1, f2, f3, f4, f5, f6⟩ := N1.cells
      go_wp2_with fail
      refine (HU.out _).mono ?_
      rintro e w2 ⟨rfl, n2, hw2⟩
      have b2 : Below w1.heap.size w1 w2 := by rw [hw2]; exact ⟨rfl, rfl, rfl, Nat.le_refl _, fun _ _ => rfl⟩
      have N2 := N1.below b2
      have B2 := (b0.trans (b1.mono b0.size)).trans (b2.mono (b0.trans (b1.mono b0.size)).size)
      clear hw2 c0 c1 c2 c3 c4 c5 c6 f0 f1 f2 f3 f4 f5 f6
      go_wp2_with fail
      refine (HG.out _ B2).mono ?_
      rintro e w3 ⟨rfl, b3⟩
      have N3 := N2.below b3
      have B3 := B2.trans (b3.mono B2.size)
      obtain ⟨⟨c0, c1, c2, c3, c4, c5, c6⟩, f0, f1, f2, f3, f4, f5, f6⟩ := N3.cells
      have hlt := N3.lt
      have hne : ¬ w3.heap.size = w.heap.size := by omega
      have hne2 : ¬ w.heap.size = w3.heap.size := by omega
      go_wp2_with fail
      have bb := (Below.refl _ w3).alloc (Nat.le_refl _) (.cells (ndC nd) 40)
      have N4 := N3.below bb
      have B4 := B3.trans (bb.mono B3.size)
      have Q4 := NdB.new w3 nd
      obtain ⟨w4, hw4⟩ : ∃ w4, w4 = w3.alloc (.cells (ndC nd) 40) := ⟨_, rfl⟩
      rw [← hw4] at N4 B4 Q4
      have hw4' : w3.alloc (.cells #[.string nd.data, .int .i64 nd.ver, .int .i64 nd.below, .int .i64 nd.owner, .int .i64 nd.made, .int .i64 nd.put, .int .i64 nd.serial] 40) = w4 := hw4.symm
      rw [hw4']
      clear hw4 hw4' bb
      obtain ⟨q, hq⟩ : ∃ q, q = w3.heap.size := ⟨_, rfl⟩
      obtain ⟨r, hr⟩ : ∃ r, r = w.heap.size := ⟨_, rfl⟩
      have HR := Lib.hid hr
      rw [← hq] at Q4 hne hne2 ⊢
      rw [← hr] at N4 hne hne2 ⊢
      clear c0 c1 c2 c3 c4 c5 c6 f0 f1 f2 f3 f4 f5 f6 hq hr
      obtain ⟨⟨c0, c1, c2, c3, c4, c5, c6⟩, f0, f1, f2, f3, f4, f5, f6⟩ := N4.cells
      obtain ⟨⟨d0, d1, d2, d3, d4, d5, d6⟩, _⟩ := Q4.cells
      go_region_held3 (fun w' => w'.cell? ⟨q, 0, none⟩ = some (.string nd.data) ∧ w'.cell? ⟨q, 1, none⟩ = some (.int .i64 nd.ver) ∧ w'.cell? ⟨q, 2, none⟩ = some (.int .i64 nd.below) ∧ w'.cell? ⟨q, 3, none⟩ = some (.int .i64 nd.owner) ∧ w'.cell? ⟨q, 4, none⟩ = some (.int .i64 nd.made) ∧ w'.cell? ⟨q, 5, none⟩ = some (.int .i64 nd.put) ∧ w'.cell? ⟨q, 6, none⟩ = some (.int .i64 nd.serial)) (first | (with_reducible assumption) | (refine ⟨?_, ?_, ?_, ?_, ?_, ?_, ?_⟩ <;> with_reducible assumption) | go_keep) (fail)
      go_wp2_with fail
      have NN := NdB.drew (NdB.set7 N4 nd)
      have B5 : Below r w w4 := by rw [HR.out]; exact B4
      refine bodyPost_ret (place_results _ _ r nd 0 u rfl rfl rfl NN) rfl ⟨rfl, ?_⟩
      rw [← HR.out]
      exact (below7 B5 (Nat.le_refl _) _ _ _ _ _ _ _).drew
    · have hP : placeN T z d = ([], Nd.zero, 15) := by unfold placeN; rw [if_neg (by rw [hck]; simp), if_neg hr, if_neg hd6, if_neg (by rw [← hge]; exact fun h => h hg0), if_pos (by rw [← hnd]; exact ho)]
      rw [hP]
      have eo : (nd.owner != 0) = true := by simpa using ho
      have eo2 : (nd.owner == 0) = false := by simpa using ho
      subst hg0
      obtain ⟨u, hu⟩ : ∃ u, u = bs (upP z) := ⟨_, rfl⟩
      rw [← hu] at HU HG
      clear hck hP H0 h hr hnd hge ho hul hu
      go_enter Tryz.func55, Tryz.ntmps55
      go_wp2_with fail
      refine (HC.out _).mono ?_
      rintro e w1 ⟨rfl, b1⟩
      rw [bs_list, HE.out]
      have N1 := N0.below b1
      obtain ⟨⟨c0, c1, c2, c3, c4, c5, c6⟩, f0, f1, f2, f3, f4, f5, f6⟩ := N1.cells
      go_wp2_with fail
      refine (HU.out _).mono ?_
      rintro e w2 ⟨rfl, n2, hw2⟩
      have b2 : Below w1.heap.size w1 w2 := by rw [hw2]; exact ⟨rfl, rfl, rfl, Nat.le_refl _, fun _ _ => rfl⟩
      have N2 := N1.below b2
      have B2 := (b0.trans (b1.mono b0.size)).trans (b2.mono (b0.trans (b1.mono b0.size)).size)
      clear hw2 c0 c1 c2 c3 c4 c5 c6 f0 f1 f2 f3 f4 f5 f6
      go_wp2_with fail
      refine (HG.out _ B2).mono ?_
      rintro e w3 ⟨rfl, b3⟩
      have N3 := N2.below b3
      have B3 := B2.trans (b3.mono B2.size)
      obtain ⟨⟨c0, c1, c2, c3, c4, c5, c6⟩, f0, f1, f2, f3, f4, f5, f6⟩ := N3.cells
      have hlt := N3.lt
      have hne : ¬ w3.heap.size = w.heap.size := by omega
      have hne2 : ¬ w.heap.size = w3.heap.size := by omega
      go_wp2_with fail
      have NN := NdB.alloc (NdB.set7 N3 Nd.zero) (.cells (ndC nd) 40)
      exact bodyPost_ret (place_results _ _ w.heap.size Nd.zero 15 (bs []) rfl rfl rfl NN) rfl ⟨rfl, (below7 B3 (Nat.le_refl _) _ _ _ _ _ _ _).alloc (by simp; omega) _⟩
  · have hP : placeN T z d = ([], Nd.zero, ge) := by unfold placeN; rw [if_neg (by rw [hck]; simp), if_neg hr, if_neg hd6, if_pos (by rw [← hge]; exact hg0), ← hge]
    rw [hP]
    have eo : (ge != 0) = true := by simpa using hg0
    have eo2 : (ge == 0) = false := by simpa using hg0
    obtain ⟨u, hu⟩ : ∃ u, u = bs (upP z) := ⟨_, rfl⟩
    rw [← hu] at HU HG
    clear hck hP H0 h hr hnd hge hul hu hg0
    go_enter Tryz.func55, Tryz.ntmps55
    go_wp2_with fail
    refine (HC.out _).mono ?_
    rintro e w1 ⟨rfl, b1⟩
    rw [bs_list, HE.out]
    have N1 := N0.below b1
    obtain ⟨⟨c0, c1, c2, c3, c4, c5, c6⟩, f0, f1, f2, f3, f4, f5, f6⟩ := N1.cells
    go_wp2_with fail
    refine (HU.out _).mono ?_
    rintro e w2 ⟨rfl, n2, hw2⟩
    have b2 : Below w1.heap.size w1 w2 := by rw [hw2]; exact ⟨rfl, rfl, rfl, Nat.le_refl _, fun _ _ => rfl⟩
    have N2 := N1.below b2
    have B2 := (b0.trans (b1.mono b0.size)).trans (b2.mono (b0.trans (b1.mono b0.size)).size)
    clear hw2 c0 c1 c2 c3 c4 c5 c6 f0 f1 f2 f3 f4 f5 f6
    go_wp2_with fail
    refine (HG.out _ B2).mono ?_
    rintro e w3 ⟨rfl, b3⟩
    have N3 := N2.below b3
    have B3 := B2.trans (b3.mono B2.size)
    obtain ⟨⟨c0, c1, c2, c3, c4, c5, c6⟩, f0, f1, f2, f3, f4, f5, f6⟩ := N3.cells
    have hlt := N3.lt
    have hne : ¬ w3.heap.size = w.heap.size := by omega
    have hne2 : ¬ w.heap.size = w3.heap.size := by omega
    go_wp2_with fail
    have NN := NdB.alloc (NdB.set7 N3 Nd.zero) (.cells (ndC nd) 40)
    exact bodyPost_ret (place_results _ _ w.heap.size Nd.zero ge (bs []) rfl rfl rfl NN) rfl ⟨rfl, (below7 B3 (Nat.le_refl _) _ _ _ _ _ _ _).alloc (by simp; omega) _⟩
end Go.Proofs.YtblcpihfnpgfiaaGreatDoor
