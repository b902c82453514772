/- Create of a tree. No conditions beyond those in each statement. -/
import Derived.Test.YtblcpihfnpgfiaaGreatDoorTreePlace
namespace Go.Proofs.YtblcpihfnpgfiaaGreatDoor
open Go.RowKit Go.Maps
set_option linter.unusedVariables false
set_option linter.unusedSimpArgs false
set_option maxRecDepth 100000

theorem clone_any (s : ByteArray) (w : World) (hs : s.size ≤ 1000000) : Calls Tryz.prog 57 #[.string s] w fun e w' => e = .returned (.string s) ∧ Below w.heap.size w w' := by
  have HA := Lib.hid (Tryz.stringslite_Clone s w (by omega))
  go_enter Tryz.func57, Tryz.ntmps57
  go_wp2_with fail
  refine HA.out.mono ?_
  rintro e w' ⟨rfl, hb⟩
  go_wp2_with fail
  go_ret
  exact ⟨rfl, hb⟩
/-- The numbers of nodes are small. -/
def SmallT (T : List UInt8 → Option Nd) : Prop := ∀ x n, T x = some n → (0 ≤ n.serial ∧ n.serial ≤ 98) ∧ (0 ≤ n.below ∧ n.below ≤ 1000000) ∧ (0 ≤ n.ver ∧ n.ver ≤ 1000000)
/-- The path that Create makes, and its parent behind it. -/
def pathC (z : List UInt8) (p : Nd) (serial : Bool) : List UInt8 := if serial then z ++ dig 10 p.serial.toNat else z
theorem serialL_dig (z : List UInt8) (n : Nat) (h : n < 10000000000) : serialL z n = z ++ dig 10 n := by
  unfold serialL; rw [(pad_dig 10 n (by omega) h).2]
def parC (p : Nd) (serial : Bool) : Nd := if serial then { p with serial := p.serial + 1 } else p
def upC (p : Nd) : Nd := { p with below := p.below + 1 }
def newC (d : ByteArray) (owner t : Int) : Nd := ⟨d, 0, 0, owner, t, t, 0⟩
structure CrN where
  path : List UInt8
  err : Int
  T : List UInt8 → Option Nd
  c : Nat
def createN (T : List UInt8 → Option Nd) (c : Nat) (z : List UInt8) (d : ByteArray) (owner t : Int) (serial : Bool) : CrN :=
  if (placeN T z d).2.2 ≠ 0 then ⟨[], (placeN T z d).2.2, T, c⟩
  else if (getN T (pathC z (placeN T z d).2.1 serial)).2 = 10 then ⟨[], 10, T, c⟩
  else if (getN T (pathC z (placeN T z d).2.1 serial)).2 = 0 then ⟨[], 12, T, c⟩
  else if 60 ≤ c then ⟨[], 16, T, c⟩
  else ⟨pathC z (placeN T z d).2.1 serial, 0, updN (updN T (placeN T z d).1 (some (upC (parC (placeN T z d).2.1 serial)))) (pathC z (placeN T z d).2.1 serial) (some (newC d owner t)), c + 1⟩
/-- What a call that may change the tree leaves. -/
def Left (w : World) (tb mb k c : Nat) (T : List UInt8 → Option Nd) (w' : World) : Prop := TrW w' tb mb k c T ∧ w.grownBy w' (some mb)
theorem place_ok {T : List UInt8 → Option Nd} {z : List UInt8} {d : ByteArray} (h : (placeN T z d).2.2 = 0) : T (placeN T z d).1 = some (placeN T z d).2.1 ∧ z ≠ [47] ∧ checkL z = true ∧ (placeN T z d).1 = upP z := by
  unfold placeN at h ⊢
  by_cases h1 : checkL z = false
  · rw [if_pos h1] at h; simp at h
  · rw [if_neg h1] at h ⊢
    by_cases h2 : z = [47]
    · rw [if_pos h2] at h; simp at h
    · rw [if_neg h2] at h ⊢
      by_cases h3 : 60 < d.size
      · rw [if_pos h3] at h; simp at h
      · rw [if_neg h3] at h ⊢
        by_cases h4 : (getN T (upP z)).2 ≠ 0
        · rw [if_pos h4] at h; exact absurd h h4
        · rw [if_neg h4] at h ⊢
          by_cases h5 : (getN T (upP z)).1.owner ≠ 0
          · rw [if_pos h5] at h; simp at h
          · rw [if_neg h5]
            refine ⟨?_, h2, by simpa using h1, rfl⟩
            simp at h4
            unfold getN at h4 ⊢
            cases hc : checkL (upP z)
            · rw [hc] at h4; simp at h4
            · rw [hc] at h4
              simp only [if_true] at h4 ⊢
              cases hT : T (upP z) with
              | none => rw [hT] at h4; simp at h4
              | some n => rfl
theorem get_err (T : List UInt8 → Option Nd) (z : List UInt8) : (getN T z).2 = 10 ∨ ((getN T z).2 = 0 ∧ ∃ n, T z = some n) ∨ ((getN T z).2 = 11 ∧ T z = none) := by
  unfold getN
  cases checkL z
  · exact .inl rfl
  · cases T z with
    | none => exact .inr (.inr ⟨rfl, rfl⟩)
    | some n => exact .inr (.inl ⟨rfl, n, rfl⟩)
theorem below_grownBy {w w' : World} (h : Below w.heap.size w w') (r : Option Nat) : w.grownBy w' r := ⟨h.os, h.tape, h.output, h.size, fun k hk _ => h.block k hk⟩
def ranW (r : Result Unit) (w : World) : World := match r with
  | .ok _ x => x
  | _ => w
/-- The world behind a store into the map. -/
noncomputable def stoW (mb : Nat) (z : List UInt8) (n : Nd) (w : World) : World := ranW ((Instr.mapUpdate 68 (.map (some mb)) (.string (bs z)) (ndV n)).run Tryz.prog w) w
theorem TrW.run {w : World} {tb mb k c : Nat} {T : List UInt8 → Option Nd} (h : TrW w tb mb k c T) (hk : k < 1000000000) (z : List UInt8) (hz : z.length ≤ maxLen) (n : Nd) :
    (Instr.mapUpdate 68 (.map (some mb)) (.string (bs z)) (.agg #[.string n.data, .int .i64 n.ver, .int .i64 n.below, .int .i64 n.owner, .int .i64 n.made, .int .i64 n.put, .int .i64 n.serial])).run Tryz.prog w = .ok () (stoW mb z n w) ∧ TrW (stoW mb z n w) tb mb (k + 1) (if (T z).isSome then c else c + 1) (updN T z (some n)) ∧ w.grownBy (stoW mb z n w) (some mb) := by
  obtain ⟨x, hr, hm, hg⟩ := h.map.store hk z hz n
  have e : stoW mb z n w = x := by unfold stoW; rw [hr]; rfl
  rw [e]
  exact ⟨hr, h.stored hg hm, hg⟩
theorem TrW.drew {w : World} {tb mb k c : Nat} {T : List UInt8 → Option Nd} (h : TrW w tb mb k c T) : TrW w.drew tb mb k c T := h.below ((Below.refl _ w).drew)
theorem TrW.setCell {w : World} {tb mb k c : Nat} {T : List UInt8 → Option Nd} (h : TrW w tb mb k c T) (p : Addr) (v : Value) (h1 : p.block ≠ tb) (h2 : p.block ≠ mb) : TrW (w.setCell p v) tb mb k c T :=
  ⟨(Below.heap_setCell w p v tb (fun e => h1 e.symm)).trans h.tree, h.map.keep0 (Below.heap_setCell w p v mb (fun e => h2 e.symm))⟩
theorem NdB.set_serial {x : World} {b : Nat} {n : Nd} (h : NdB x b n) (v : Int) : NdB (x.setCell ⟨b, 6, none⟩ (.int .i64 v)) b { n with serial := v } := by
  unfold NdB ndC at h ⊢
  have h6 := bset (i := 6) (u := .int .i64 v) h
  simp only [List.setIfInBounds_toArray, List.set_cons_zero, List.set_cons_succ] at h6
  exact h6
theorem NdB.set_below {x : World} {b : Nat} {n : Nd} (h : NdB x b n) (v : Int) : NdB (x.setCell ⟨b, 2, none⟩ (.int .i64 v)) b { n with below := v } := by
  unfold NdB ndC at h ⊢
  have h6 := bset (i := 2) (u := .int .i64 v) h
  simp only [List.setIfInBounds_toArray, List.set_cons_zero, List.set_cons_succ] at h6
  exact h6
theorem grownBy_trans {a b c : World} {r : Option Nat} (h : a.grownBy b r) (k : b.grownBy c r) : a.grownBy c r :=
  ⟨k.os.trans h.os, k.tape.trans h.tape, k.output.trans h.output, Nat.le_trans h.size k.size, fun j hj hne => (k.block j (Nat.lt_of_lt_of_le hj h.size) hne).trans (h.block j hj hne)⟩
set_option maxHeartbeats 4000000 in
theorem create_any (tb mb k c : Nat) (T : List UInt8 → Option Nd) (z : List UInt8) (d : ByteArray) (owner t : Int) (serial : Bool) (w : World) (h : TrW w tb mb k c T) (hz : z.length ≤ 1000) (hd : d.size ≤ 1000) (hS : SmallT T) (hk : k < 1000000) :
    Calls Tryz.prog 30 #[.pointer (some ⟨tb, 0, none⟩), .string (bs z), .string d, .int .i64 owner, .int .i64 t, .bool serial] w fun e w' => e = .returned (.tuple #[.string (bs (createN T c z d owner t serial).path), .int .i64 (createN T c z d owner t serial).err]) ∧ Left w tb mb (k + 2) (createN T c z d owner t serial).c (createN T c z d owner t serial).T w' := by
  have HP := Lib.hid (place_any tb mb k c T z d w h (by omega) (by unfold maxLen; omega))
  obtain ⟨up, hup⟩ : ∃ up, up = (placeN T z d).1 := ⟨_, rfl⟩
  obtain ⟨par, hpar⟩ : ∃ par, par = (placeN T z d).2.1 := ⟨_, rfl⟩
  obtain ⟨pe, hpe⟩ : ∃ pe, pe = (placeN T z d).2.2 := ⟨_, rfl⟩
  rw [← hup, ← hpar, ← hpe] at HP
  by_cases h0 : pe = 0
  · obtain ⟨hTp, hzr, hck, hupz⟩ := place_ok (by rw [← hpe]; exact h0)
    rw [← hup, ← hpar] at hTp
    obtain ⟨⟨s0, s1⟩, ⟨s2, s3⟩, _⟩ := hS up par hTp
    have hul : up.length ≤ 1000 := by
      obtain ⟨x, q, e, hq, _, hl⟩ := check_split hck hzr
      rw [hup, hupz]; subst e
      rw [(upP_app hq hzr).1]; unfold upB; simp at hl; split
      · simp
      · omega
    obtain ⟨z1, hz1⟩ : ∃ z1, z1 = pathC z par serial := ⟨_, rfl⟩
    obtain ⟨par1, hpar1⟩ : ∃ p1, p1 = parC par serial := ⟨_, rfl⟩
    have hz1l : z1.length ≤ 2000 := by
      rw [hz1]; unfold pathC; split
      · simp [dig_len]; omega
      · omega
    have HSer : serial = true → Hid (∀ W : World, Calls Tryz.prog 56 #[.string (bs z), .int .i64 par.serial] W fun e w' => e = .returned (.string (bs z1)) ∧ Below W.heap.size W w') := fun hs => Lib.hid (fun W => by
      have := serial_small (bs z) par.serial.toNat W (by rw [bs_size]; omega) (by omega)
      rw [bs_list, Int.toNat_of_nonneg s0, serialL_dig _ _ (by omega)] at this
      rw [hz1, hs]; exact this)
    have HH := Lib.hid h
    have HZ1 := Lib.hid hz1
    have HP1 := Lib.hid hpar1
    have HUP := Lib.hid hup
    have HPAR := Lib.hid hpar
    have HPE := Lib.hid hpe
    have HTP := Lib.hid hTp
    obtain ⟨R, hR⟩ : ∃ R, R = createN T c z d owner t serial := ⟨_, rfl⟩
    rw [← hR]
    have HR := Lib.hid hR
    subst h0
    unfold ndV at HP
    clear hR hz1 hpar1 hup hpar hpe hTp h hupz
    go_enter Tryz.func30, Tryz.ntmps30
    go_wp2_with fail
    refine HP.out.mono ?_
    rintro e w1 ⟨rfl, b1⟩
    go_upto_if 28 with (fail)
    have b2 := b1.alloc b1.size (.cells (ndC par) 40)
    have N2 := NdB.new w1 par
    obtain ⟨w2, hw2⟩ : ∃ w2, w2 = w1.alloc (.cells (ndC par) 40) := ⟨_, rfl⟩
    rw [← hw2] at b2 N2
    have hw2' : w1.alloc (.cells #[.string par.data, .int .i64 par.ver, .int .i64 par.below, .int .i64 par.owner, .int .i64 par.made, .int .i64 par.put, .int .i64 par.serial] 40) = w2 := hw2.symm
    rw [hw2']
    clear hw2 hw2'
    obtain ⟨pb, hpb⟩ : ∃ pb, pb = w1.heap.size := ⟨_, rfl⟩
    have hpw : w.heap.size ≤ pb := by rw [hpb]; exact b1.size
    rw [← hpb] at N2 ⊢
    clear hpb b1
    go_cut [1] (fun v wx => v = .string (bs z1) ∧ NdB wx pb par1 ∧ Below w.heap.size w wx)
    case first =>
      obtain ⟨⟨c0, c1, c2, c3, c4, c5, c6⟩, f0, f1, f2, f3, f4, f5, f6⟩ := N2.cells
      cases serial
      · go_wp2_with fail
        go_meet
        exact ⟨by rw [HZ1.out]; rfl, by rw [HP1.out]; exact N2, b2⟩
      · have HS := HSer rfl
        go_wp2_with fail
        refine (HS.out _).mono ?_
        rintro e w3 ⟨rfl, b3⟩
        have N3 := N2.below b3
        clear c0 c1 c2 c3 c4 c5 c6 f0 f1 f2 f3 f4 f5 f6
        obtain ⟨⟨c0, c1, c2, c3, c4, c5, c6⟩, f0, f1, f2, f3, f4, f5, f6⟩ := N3.cells
        go_wp2_with fail
        go_meet
        exact ⟨rfl, by rw [HP1.out]; exact N3.set_serial _, (b2.trans (b3.mono b2.size)).setCell hpw _⟩
    case rest =>
      obtain ⟨rfl, N5, b5⟩ := hcut
      obtain ⟨w5, hw5⟩ : ∃ w5, w5 = wc := ⟨_, rfl⟩
      rw [← hw5] at N5 b5 ⊢
      clear hw5 N2 b2 HSer
      have H5 := HH.out.below b5
      obtain ⟨ge, hge⟩ : ∃ ge, ge = (getN T z1).2 := ⟨_, rfl⟩
      obtain ⟨gn, hgn⟩ : ∃ gn, gn = (getN T z1).1 := ⟨_, rfl⟩
      have HG := Lib.hid (get_any tb mb k c T z1 w5 H5 (by omega))
      rw [← hge, ← hgn] at HG
      unfold ndV at HG
      rcases get_err T z1 with h1 | ⟨h1, n1, hn1⟩ | ⟨h1, hn1⟩
      · have hC : R = ⟨[], 10, T, c⟩ := by
          rw [HR.out]; unfold createN
          rw [if_neg (by rw [← HPE.out]; simp), ← HPAR.out, ← HZ1.out, if_pos h1]
        rw [h1] at hge
        subst hge
        have HC := Lib.hid hC
        clear hC h1 H5
        go_wp2_with fail
        refine HG.out.mono ?_
        rintro e w6 ⟨rfl, b6⟩
        go_wp2_with fail
        go_ret2
        have b7 := b5.trans (b6.mono b5.size)
        rw [HC.out]
        exact ⟨rfl, (HH.out.below b7).mono (by omega), below_grownBy b7 _⟩
      · have hC : R = ⟨[], 12, T, c⟩ := by
          rw [HR.out]; unfold createN
          rw [if_neg (by rw [← HPE.out]; simp), ← HPAR.out, ← HZ1.out, if_neg (by rw [h1]; decide), if_pos h1]
        rw [h1] at hge
        subst hge
        have HC := Lib.hid hC
        clear hC h1 H5 hn1
        go_wp2_with fail
        refine HG.out.mono ?_
        rintro e w6 ⟨rfl, b6⟩
        go_wp2_with fail
        go_ret2
        have b7 := b5.trans (b6.mono b5.size)
        rw [HC.out]
        exact ⟨rfl, (HH.out.below b7).mono (by omega), below_grownBy b7 _⟩
      · rw [h1] at hge
        subst hge
        by_cases hc60 : 60 ≤ c
        · have hC : R = ⟨[], 16, T, c⟩ := by
            rw [HR.out]; unfold createN
            rw [if_neg (by rw [← HPE.out]; simp), ← HPAR.out, ← HZ1.out, if_neg (by rw [h1]; decide), if_neg (by rw [h1]; decide), if_pos hc60]
          have HC := Lib.hid hC
          have d1 : decide ((60 : Int) ≤ (c : Int)) = true := by simp; omega
          clear hC h1 hn1
          go_wp2_with fail
          refine HG.out.mono ?_
          rintro e w6 ⟨rfl, b6⟩
          have HL := Lib.hid (len_any tb mb k c T w6 (H5.below b6))
          go_wp2_with fail
          refine HL.out.mono ?_
          rintro e w7 ⟨rfl, rfl⟩
          go_wp2_with fail
          go_ret2
          have b7 := b5.trans (b6.mono b5.size)
          rw [HC.out]
          exact ⟨rfl, (HH.out.below b7).mono (by omega), below_grownBy b7 _⟩
        · have hC : R = ⟨z1, 0, updN (updN T up (some (upC par1))) z1 (some (newC d owner t)), c + 1⟩ := by
            rw [HR.out]; unfold createN
            rw [if_neg (by rw [← HPE.out]; simp), ← HPAR.out, ← HZ1.out, if_neg (by rw [h1]; decide), if_neg (by rw [h1]; decide), if_neg hc60, ← HUP.out, ← HP1.out]
          have HC := Lib.hid hC
          have d1 : decide ((60 : Int) ≤ (c : Int)) = false := by simp; omega
          have hpb1 : par1.below = par.below := by rw [HP1.out]; unfold parC; cases serial <;> rfl
          have hpb2 : 0 ≤ par1.below ∧ par1.below ≤ 1000000 := by rw [hpb1]; exact ⟨s2, s3⟩
          have HN1 := Lib.hid hn1
          clear hC h1 hn1 hpb1
          go_wp2_with fail
          refine HG.out.mono ?_
          rintro e w6 ⟨rfl, b6⟩
          have H6 := H5.below b6
          have N6 := N5.below b6
          have b7 := b5.trans (b6.mono b5.size)
          have HL := Lib.hid (len_any tb mb k c T w6 H6)
          go_wp2_with fail
          refine HL.out.mono ?_
          rintro e w7 ⟨rfl, rfl⟩
          obtain ⟨⟨c0, c1, c2, c3, c4, c5, c6⟩, f0, f1, f2, f3, f4, f5, f6⟩ := N6.cells
          go_upto_region 15 with fail
          have htl := HH.out.lt
          have hml := HH.out.map.lt
          have hpt : pb ≠ tb := by omega
          have hpm : pb ≠ mb := by omega
          have H8 := H6.setCell ⟨pb, 2, none⟩ (.int .i64 (par1.below + 1)) hpt hpm
          have N8 : NdB (w7.setCell ⟨pb, 2, none⟩ (.int .i64 (par1.below + 1))) pb (upC par1) := N6.set_below _
          have b8 := b7.setCell (p := ⟨pb, 2, none⟩) hpw (.int .i64 (par1.below + 1))
          obtain ⟨w8, hw8⟩ : ∃ w8, w8 = w7.setCell ⟨pb, 2, none⟩ (.int .i64 (par1.below + 1)) := ⟨_, rfl⟩
          rw [← hw8] at H8 N8 b8 ⊢
          obtain ⟨pn, hpn⟩ : ∃ pn, pn = upC par1 := ⟨_, rfl⟩
          rw [← hpn] at N8
          have HPN := Lib.hid hpn
          clear hw8 c0 c1 c2 c3 c4 c5 c6 f0 f1 f2 f3 f4 f5 f6 N6 H6 N5 H5 HG HL hpn b7 b6 b5
          have H8d := H8.drew
          obtain ⟨hr9, H9, g9⟩ := H8d.run (by omega) up (by unfold maxLen; omega) pn
          have e9 : (if (T up).isSome then c else c + 1) = c := by rw [HTP.out]; rfl
          rw [e9] at H9
          have N9 : NdB (stoW mb up pn w8.drew) pb pn := (g9.block pb N8.lt (fun e => hpm (Option.some.inj e))).trans N8
          have x0 := H8d.cell
          obtain ⟨⟨c0, c1, c2, c3, c4, c5, c6⟩, _⟩ := N8.drew.cells
          have y0 := H9.cell
          obtain ⟨⟨d0, d1, d2, d3, d4, d5, d6⟩, _⟩ := N9.cells
          go_region_held3 (fun w' => w'.cell? ⟨tb, 0, none⟩ = some (.map (some mb)) ∧ w'.cell? ⟨pb, 0, none⟩ = some (.string pn.data) ∧ w'.cell? ⟨pb, 1, none⟩ = some (.int .i64 pn.ver) ∧ w'.cell? ⟨pb, 2, none⟩ = some (.int .i64 pn.below) ∧ w'.cell? ⟨pb, 3, none⟩ = some (.int .i64 pn.owner) ∧ w'.cell? ⟨pb, 4, none⟩ = some (.int .i64 pn.made) ∧ w'.cell? ⟨pb, 5, none⟩ = some (.int .i64 pn.put) ∧ w'.cell? ⟨pb, 6, none⟩ = some (.int .i64 pn.serial)) (first | (with_reducible assumption) | (refine ⟨?_, ?_, ?_, ?_, ?_, ?_, ?_, ?_⟩ <;> with_reducible assumption) | go_keep) (fail)
          obtain ⟨w9, hw9⟩ : ∃ w9, w9 = stoW mb up pn w8.drew := ⟨_, rfl⟩
          rw [← hw9] at H9 g9 ⊢
          have g1 : w.grownBy w9 (some mb) := ⟨g9.os.trans b8.os, g9.tape.trans b8.tape, g9.output.trans b8.output, Nat.le_trans b8.size g9.size, fun j hj hne => (g9.block j (Nat.lt_of_lt_of_le hj b8.size) hne).trans (b8.block j hj)⟩
          clear hw9 hr9 c0 c1 c2 c3 c4 c5 c6 d0 d1 d2 d3 d4 d5 d6 x0 y0 N9 N8 H8 H8d b8 g9 e9
          go_upto_region 16 with fail
          have hzl1 : z1.length ≤ maxLen := by unfold maxLen; omega
          have HCZ := Lib.hid (fun W : World => clone_any (bs z1) W (by rw [bs_size]; omega))
          have HCD := Lib.hid (fun W : World => clone_any d W (by omega))
          have bd := (Below.refl w9.heap.size w9).drew
          have H9d := H9.drew
          have hrd := (H9d.run (by omega) z1 hzl1 (newC d owner t)).1
          have x0 := H9d.cell
          have HQ : Hid (∀ y : World, TrW y tb mb (k + 1) c (updN T up (some pn)) → y.cell? ⟨tb, 0, none⟩ = some (.map (some mb)) ∧ (Instr.mapUpdate 68 (.map (some mb)) (.string (bs z1)) (.agg #[.string d, .int .i64 0, .int .i64 0, .int .i64 owner, .int .i64 t, .int .i64 t, .int .i64 0])).run Tryz.prog y = .ok () (stoW mb z1 (newC d owner t) y) ∧ (stoW mb z1 (newC d owner t) y).cell? ⟨tb, 0, none⟩ = some (.map (some mb)) ∧ (Instr.mapUpdate 68 (.map (some mb)) (.string (bs z1)) (.agg #[.string d, .int .i64 0, .int .i64 0, .int .i64 owner, .int .i64 t, .int .i64 t, .int .i64 0])).run Tryz.prog (stoW mb z1 (newC d owner t) y) = .ok () (stoW mb z1 (newC d owner t) (stoW mb z1 (newC d owner t) y))) := Lib.hid (fun y h1 => by
            have h2 := h1.run (by omega) z1 hzl1 (newC d owner t)
            exact ⟨h1.cell, h2.1, h2.2.1.cell, (h2.2.1.run (by omega) z1 hzl1 (newC d owner t)).1⟩)
          have HB : Hid (∀ x y : World, Below w9.heap.size w9 x ∧ TrW x tb mb (k + 1) c (updN T up (some pn)) → Below x.heap.size x y → (Below w9.heap.size w9 y ∧ TrW y tb mb (k + 1) c (updN T up (some pn)))) := Lib.hid (fun x y hx hb => ⟨hx.1.trans (hb.mono hx.1.size), hx.2.below hb⟩)
          have HX : Below w9.heap.size w9 w9.drew ∧ TrW w9.drew tb mb (k + 1) c (updN T up (some pn)) := ⟨bd, H9d⟩
          obtain ⟨p1, p2, p3, p4⟩ := HQ.out _ H9d
          clear hrd bd H9d x0
          go_region_held3 (fun w' => w'.cell? ⟨tb, 0, none⟩ = some (.map (some mb)) ∧ (Instr.mapUpdate 68 (.map (some mb)) (.string (bs z1)) (.agg #[.string d, .int .i64 0, .int .i64 0, .int .i64 owner, .int .i64 t, .int .i64 t, .int .i64 0])).run Tryz.prog w' = .ok () (stoW mb z1 (newC d owner t) w')) (first | (with_reducible assumption) | (refine ⟨?_, ?_⟩ <;> with_reducible assumption) | go_keep)
            ((first
              | (go_at_call 57; ((with_reducible refine (HCZ.out _).mono ?_); rintro e w10 ⟨rfl, b10⟩; have HX2 := HB.out _ _ (by with_reducible assumption) b10; obtain ⟨q1, q2, q3, q4⟩ := HQ.out _ HX2.2))
              | (go_at_call 57; ((with_reducible refine (HCD.out _).mono ?_); rintro e w10 ⟨rfl, b10⟩; have HX2 := HB.out _ _ (by with_reducible assumption) b10; obtain ⟨q1, q2, q3, q4⟩ := HQ.out _ HX2.2))))
          obtain ⟨_, H11, g11⟩ := HX2.2.run (by omega) z1 hzl1 (newC d owner t)
          have hne : z1 ≠ up := by
            intro e; have h1 := HN1.out; rw [e, HTP.out] at h1; cases h1
          have e11 : (if (updN T up (some pn) z1).isSome then c else c + 1) = c + 1 := by rw [updN_other hne, HN1.out]; rfl
          rw [e11] at H11
          have g12 := grownBy_trans g1 (grownBy_trans (below_grownBy HX2.1 (some mb)) g11)
          clear p1 p2 p3 p4 q1 q2 q3 q4
          go_wp2_with fail
          go_ret2
          rw [HC.out, ← HPN.out]
          exact ⟨rfl, H11, g12⟩
  · have hC : createN T c z d owner t serial = ⟨[], pe, T, c⟩ := by unfold createN; rw [if_pos (by rw [← hpe]; exact h0), ← hpe]
    rw [hC]
    have e1 : (pe != 0) = true := by simpa using h0
    have e2 : (pe == 0) = false := by simpa using h0
    unfold ndV at HP
    have HH := Lib.hid h
    clear hC h0 hup hpar hpe h
    go_enter Tryz.func30, Tryz.ntmps30
    go_wp2_with fail
    refine HP.out.mono ?_
    rintro e w1 ⟨rfl, b1⟩
    go_wp2_with fail
    go_ret2
    have b2 := b1.alloc b1.size (.cells (ndC par) 40)
    exact ⟨rfl, (HH.out.below b2).mono (by omega), below_grownBy b2 _⟩
end Go.Proofs.YtblcpihfnpgfiaaGreatDoor
