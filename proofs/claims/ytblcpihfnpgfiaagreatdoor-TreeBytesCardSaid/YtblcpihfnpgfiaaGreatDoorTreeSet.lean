/- Set of a tree. No conditions beyond those in each statement. -/
import Derived.Test.YtblcpihfnpgfiaaGreatDoorTreeHead
namespace Go.Proofs.YtblcpihfnpgfiaaGreatDoor
open Go.RowKit Go.Maps
set_option linter.unusedVariables false
set_option linter.unusedSimpArgs false
set_option maxRecDepth 100000

structure SetN where
  ver : Int
  err : Int
  T : List UInt8 → Option Nd
def putN (n : Nd) (d : ByteArray) (t : Int) : Nd := { n with data := d, put := t, ver := n.ver + 1 }
def setN (T : List UInt8 → Option Nd) (z : List UInt8) (d : ByteArray) (v t : Int) : SetN :=
  if chkN T z v ≠ 0 then ⟨0, chkN T z v, T⟩
  else if 60 < d.size then ⟨0, 3, T⟩
  else ⟨((T z).getD Nd.zero).ver + 1, 0, updN T z (some (putN ((T z).getD Nd.zero) d t))⟩
theorem chk_some {T : List UInt8 → Option Nd} {z : List UInt8} {v : Int} (h : chkN T z v = 0) : ∃ n, T z = some n := by
  unfold chkN at h
  cases hc : checkL z
  · rw [hc] at h; simp at h
  · cases hT : T z with
    | none => rw [hc, hT] at h; simp at h
    | some n => exact ⟨n, rfl⟩
theorem NdB.put {x : World} {b : Nat} {n : Nd} (h : NdB x b n) (d : ByteArray) (t : Int) : NdB (((x.setCell ⟨b, 0, none⟩ (.string d)).setCell ⟨b, 5, none⟩ (.int .i64 t)).setCell ⟨b, 1, none⟩ (.int .i64 (n.ver + 1))) b (putN n d t) := by
  show _ = some (Obj.cells (ndC ⟨d, n.ver + 1, n.below, n.owner, n.made, t, n.serial⟩) _ (0, 0))
  unfold NdB ndC at h
  unfold ndC
  have h0 := bset (i := 0) (u := .string d) h
  have h5 := bset (i := 5) (u := .int .i64 t) h0
  have h1 := bset (i := 1) (u := .int .i64 (n.ver + 1)) h5
  simp only [List.setIfInBounds_toArray, List.set_cons_zero, List.set_cons_succ] at h1
  exact h1
set_option maxHeartbeats 4000000 in
theorem set_any (tb mb k c : Nat) (T : List UInt8 → Option Nd) (z : List UInt8) (d : ByteArray) (v t : Int) (w : World) (h : TrW w tb mb k c T) (hz : z.length ≤ 1000) (hd : d.size ≤ 1000) (hS : SmallT T) (hk : k < 1000000) :
    Calls Tryz.prog 32 #[.pointer (some ⟨tb, 0, none⟩), .string (bs z), .string d, .int .i64 v, .int .i64 t] w fun e w' => e = .returned (.tuple #[.int .i64 (setN T z d v t).ver, .int .i64 (setN T z d v t).err]) ∧ Left w tb mb (k + 1) c (setN T z d v t).T w' := by
  obtain ⟨ce, hce⟩ : ∃ ce, ce = chkN T z v := ⟨_, rfl⟩
  have HC := Lib.hid (chk_any tb mb k c T z v w h (by omega))
  rw [← hce] at HC
  have HH := Lib.hid h
  obtain ⟨R, hR⟩ : ∃ R, R = setN T z d v t := ⟨_, rfl⟩
  rw [← hR]
  by_cases h0 : ce = 0
  · obtain ⟨nd, hnd⟩ := chk_some (hce.symm.trans h0)
    by_cases hd60 : 60 < d.size
    · have HR : Hid (R = ⟨0, 3, T⟩) := Lib.hid (by rw [hR]; unfold setN; rw [if_neg (by rw [← hce]; exact fun e => e h0), if_pos hd60])
      have d1 : decide ((60 : Int) < (d.size : Int)) = true := by simp; omega
      subst h0
      clear hR hce hnd hS h
      go_enter Tryz.func32, Tryz.ntmps32
      go_wp2_with fail
      refine HC.out.mono ?_
      rintro e w1 ⟨rfl, b1⟩
      go_wp2_with fail
      go_ret2
      rw [HR.out]
      exact ⟨rfl, (HH.out.below b1).mono (by omega), below_grownBy b1 _⟩
    · have HR : Hid (R = ⟨nd.ver + 1, 0, updN T z (some (putN nd d t))⟩) := Lib.hid (by rw [hR]; unfold setN; rw [if_neg (by rw [← hce]; exact fun e => e h0), if_neg hd60, hnd]; rfl)
      have d1 : decide ((60 : Int) < (d.size : Int)) = false := by simp; omega
      obtain ⟨_, _, s0, s1⟩ := hS z nd hnd
      have HCD := Lib.hid (fun W : World => clone_any d W (by omega))
      have HN := Lib.hid hnd
      have hzl : z.length ≤ maxLen := by unfold maxLen; omega
      subst h0
      clear hR hce hS h hnd
      go_enter Tryz.func32, Tryz.ntmps32
      go_wp2_with fail
      refine HC.out.mono ?_
      rintro e w1 ⟨rfl, b1⟩
      have H1 := HH.out.below b1
      have x0 := H1.cell
      have hl := H1.map.look z hzl
      rw [HN.out] at hl
      simp only [Option.getD_some, ndV] at hl
      go_upto_region 7 with fail
      have b2 := b1.alloc b1.size (.cells (ndC nd) 40)
      have N2 := NdB.new w1 nd
      obtain ⟨w2, hw2⟩ : ∃ w2, w2 = w1.alloc (.cells (ndC nd) 40) := ⟨_, rfl⟩
      rw [← hw2] at b2 N2
      have hw2' : w1.alloc (.cells #[.string nd.data, .int .i64 nd.ver, .int .i64 nd.below, .int .i64 nd.owner, .int .i64 nd.made, .int .i64 nd.put, .int .i64 nd.serial] 40) = w2 := hw2.symm
      rw [hw2']
      clear hw2 hw2'
      obtain ⟨pb, hpb⟩ : ∃ pb, pb = w1.heap.size := ⟨_, rfl⟩
      have hpw : w.heap.size ≤ pb := by rw [hpb]; exact b1.size
      rw [← hpb] at N2 ⊢
      clear hpb b1 H1 x0 hl
      go_wp2_with fail
      refine (HCD.out _).mono ?_
      rintro e w3 ⟨rfl, b3⟩
      have N3 := N2.below b3
      replace b3 := b2.trans (b3.mono b2.size)
      clear N2 b2
      obtain ⟨⟨c0, c1, c2, c3, c4, c5, c6⟩, f0, f1, f2, f3, f4, f5, f6⟩ := N3.cells
      have H3 := HH.out.below b3
      go_upto_region 9 with fail
      have htl := HH.out.lt
      have hml := HH.out.map.lt
      have hpt : pb ≠ tb := by omega
      have hpm : pb ≠ mb := by omega
      have H8 := ((H3.setCell ⟨pb, 0, none⟩ (.string d) hpt hpm).setCell ⟨pb, 5, none⟩ (.int .i64 t) hpt hpm).setCell ⟨pb, 1, none⟩ (.int .i64 (nd.ver + 1)) hpt hpm
      have N8 := N3.put d t
      have b8 := ((b3.setCell (p := ⟨pb, 0, none⟩) hpw (.string d)).setCell (p := ⟨pb, 5, none⟩) hpw (.int .i64 t)).setCell (p := ⟨pb, 1, none⟩) hpw (.int .i64 (nd.ver + 1))
      obtain ⟨w8, hw8⟩ : ∃ w8, w8 = ((w3.setCell ⟨pb, 0, none⟩ (.string d)).setCell ⟨pb, 5, none⟩ (.int .i64 t)).setCell ⟨pb, 1, none⟩ (.int .i64 (nd.ver + 1)) := ⟨_, rfl⟩
      rw [← hw8] at H8 N8 b8 ⊢
      obtain ⟨pn, hpn⟩ : ∃ pn, pn = putN nd d t := ⟨_, rfl⟩
      rw [← hpn] at N8
      have hpv : pn.ver = nd.ver + 1 := by rw [hpn]; rfl
      have HPN := Lib.hid hpn
      have HPV := Lib.hid hpv
      clear hw8 c0 c1 c2 c3 c4 c5 c6 f0 f1 f2 f3 f4 f5 f6 N3 H3 hpn b3 hpv
      have H8d := H8.drew
      obtain ⟨hr9, H9, g9⟩ := H8d.run (by omega) z hzl pn
      have e9 : (if (T z).isSome then c else c + 1) = c := by rw [HN.out]; rfl
      rw [e9] at H9
      have N9 : NdB (stoW mb z pn w8.drew) pb pn := (g9.block pb N8.lt (fun e => hpm (Option.some.inj e))).trans N8
      have x0 := H8d.cell
      obtain ⟨⟨c0, c1, c2, c3, c4, c5, c6⟩, _⟩ := N8.drew.cells
      have y0 := H9.cell
      obtain ⟨⟨d0, d1, d2, d3, d4, d5, d6⟩, _⟩ := N9.cells
      go_region_held3 (fun w' => w'.cell? ⟨tb, 0, none⟩ = some (.map (some mb)) ∧ w'.cell? ⟨pb, 0, none⟩ = some (.string pn.data) ∧ w'.cell? ⟨pb, 1, none⟩ = some (.int .i64 pn.ver) ∧ w'.cell? ⟨pb, 2, none⟩ = some (.int .i64 pn.below) ∧ w'.cell? ⟨pb, 3, none⟩ = some (.int .i64 pn.owner) ∧ w'.cell? ⟨pb, 4, none⟩ = some (.int .i64 pn.made) ∧ w'.cell? ⟨pb, 5, none⟩ = some (.int .i64 pn.put) ∧ w'.cell? ⟨pb, 6, none⟩ = some (.int .i64 pn.serial)) (first | (with_reducible assumption) | (refine ⟨?_, ?_, ?_, ?_, ?_, ?_, ?_, ?_⟩ <;> with_reducible assumption) | go_keep) (fail)
      have g12 := grownBy_trans (below_grownBy b8.drew (some mb)) g9
      clear hr9 c0 c1 c2 c3 c4 c5 c6 x0
      go_wp2_with fail
      go_ret2
      rw [HR.out, ← HPN.out, ← HPV.out]
      exact ⟨rfl, H9, g12⟩
  · have HR : Hid (R = ⟨0, ce, T⟩) := Lib.hid (by rw [hR]; unfold setN; rw [if_pos (by rw [← hce]; exact h0), ← hce])
    have e1 : (ce != 0) = true := by simpa using h0
    have e2 : (ce == 0) = false := by simpa using h0
    clear hR hce h0 h
    go_enter Tryz.func32, Tryz.ntmps32
    go_wp2_with fail
    refine HC.out.mono ?_
    rintro e w1 ⟨rfl, b1⟩
    go_wp2_with fail
    go_ret2
    rw [HR.out]
    exact ⟨rfl, (HH.out.below b1).mono (by omega), below_grownBy b1 _⟩
end Go.Proofs.YtblcpihfnpgfiaaGreatDoor
