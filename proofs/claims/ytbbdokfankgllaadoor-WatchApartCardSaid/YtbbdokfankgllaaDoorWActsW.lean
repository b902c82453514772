/- WatchActs: any acts; the nil book. No conditions beyond those in each statement. -/
import Derived.Test.YtbbdokfankgllaaDoorWSame
namespace Go.Proofs.YtbbdokfankgllaaDoor
open Go.RowKit Go.Maps Go.Shelf
set_option linter.unusedVariables false
set_option linter.unusedSimpArgs false
set_option maxRecDepth 100000

theorem fire_nil (s : ByteArray) (what when : Int) (w : World) : Calls Tryd.prog 11 #[.pointer none, .string s, .int .i64 what, .int .i64 when] w fun e w' => e = .returned (.tuple #[]) ∧ Below w.heap.size w w' := by
  go_enter Tryd.func11, Tryd.ntmps11
  go_wp2_with fail
  (try simp only [Exit.inBlock, Exit.then])
  refine bodyPost_ret (results_none rfl _ _ _) rfl ?_
  exact ⟨rfl, Below.refl _ _⟩
theorem noted_nil (s no : Int) (w : World) : Calls Tryd.prog 12 #[.pointer none, .int .i64 s, .int .i64 no] w fun e w' => e = .returned (.tuple #[]) ∧ Below w.heap.size w w' := by
  have b1 := (Below.refl w.heap.size w).alloc (Nat.le_refl _) (.cells #[.int .i64 s] 3)
  have b2 := b1.alloc b1.size (.cells #[.int .i64 no] 3)
  have HB := Lib.hid b2
  clear b1 b2
  go_enter Tryd.func12, Tryd.ntmps12
  go_wp2_with fail
  (try simp only [Exit.inBlock, Exit.then])
  refine bodyPost_ret (results_none rfl _ _ _) rfl ?_
  exact ⟨rfl, HB.out⟩
theorem drop_nil (s : Int) (w : World) : Calls Tryd.prog 13 #[.pointer none, .int .i64 s] w fun e w' => e = .returned (.tuple #[]) ∧ Below w.heap.size w w' := by
  have b1 := (Below.refl w.heap.size w).alloc (Nat.le_refl _) (.cells #[.int .i64 s] 3)
  have HB := Lib.hid b1
  clear b1
  go_enter Tryd.func13, Tryd.ntmps13
  go_wp2_with fail
  (try simp only [Exit.inBlock, Exit.then])
  refine bodyPost_ret (results_none rfl _ _ _) rfl ?_
  exact ⟨rfl, HB.out⟩
theorem add_nil (x : Wa) (w : World) : Calls Tryd.prog 14 #[.pointer none, .agg #[.int .i64 x.ses, .string x.path, .bool x.kids, .bool x.once]] w fun e w' => e = .returned (.int .i64 1) ∧ Below w.heap.size w w' := by
  have b1 := (Below.refl w.heap.size w).alloc (Nat.le_refl _) (.cells #[.int .i64 x.ses, .string x.path, .bool x.kids, .bool x.once] 45)
  have HB := Lib.hid b1
  clear b1
  go_enter Tryd.func14, Tryd.ntmps14
  go_wp2_with fail
  go_ret
  exact ⟨rfl, HB.out⟩
theorem watches_nil (w : World) : Calls Tryd.prog 15 #[.pointer none] w fun e w' => e = .returned (.slice none 0 0) ∧ w' = w := by
  go_enter Tryd.func15, Tryd.ntmps15
  go_wp2_with fail
  go_ret
  exact ⟨rfl, rfl⟩
theorem events_nil (s : Int) (w : World) : Calls Tryd.prog 16 #[.pointer none, .int .i64 s] w fun e w' => e = .returned (.slice none 0 0) ∧ w' = w := by
  go_enter Tryd.func16, Tryd.ntmps16
  go_wp2_with fail
  go_ret
  exact ⟨rfl, rfl⟩
theorem clone_nil (w : World) : Calls Tryd.prog 17 #[.pointer none] w fun e w' => e = .returned (.pointer (some ⟨w.heap.size, 0, none⟩)) ∧ BkW w' w.heap.size w.heap.size (.slice none 0 0) (.slice none 0 0) (.map none) [] [] 0 0 (fun _ => none) ∧ Below w.heap.size w w' := by
  have HN := Lib.hid (bnew_any w)
  go_enter Tryd.func17, Tryd.ntmps17
  go_wp2_with fail
  refine HN.out.mono ?_
  rintro e w1 ⟨rfl, hk, hb⟩
  have HK := Lib.hid hk
  have HB := Lib.hid hb
  clear hk hb HN
  go_wp2_with fail
  go_ret
  exact ⟨rfl, HK.out, HB.out⟩
/-- A new book, and a new model. -/
theorem pair_new {w : World} {base bb : Nat} (hb : BkW w base bb (.slice none 0 0) (.slice none 0 0) (.map none) [] [] 0 0 (fun _ => none)) :
    PairW (w.alloc (.cells #[.slice none 0 0, .slice none 0 0, .map none] 32)) base bb w.heap.size 0 (fun b => b = bb ∨ b = w.heap.size) [] [] (fun _ => none) [] [] (fun _ => none) := by
  have hb2 := (Below.refl w.heap.size w).alloc (Nat.le_refl _) (.cells #[.slice none 0 0, .slice none 0 0, .map none] 32)
  have hn := heap_alloc_new w (.cells #[.slice none 0 0, .slice none 0 0, .map none] 32)
  have hlt := hb.lt
  have hown : ∀ (q b : Nat), OwnM q (.slice none 0 0) (.slice none 0 0) (.map none) b ↔ b = q := fun q b => by
    unfold OwnM
    simp [Value.ownBlock]
  refine ⟨_, _, _, _, _, .slice none 0 0, .slice none 0 0, .map none, 0, 0, hb.below hb2, ⟨hn, World.ownsRow_nil _ _ _ _, World.ownsRow_nil _ _ _ _, .inl ⟨rfl, rfl, rfl⟩, hb.lo.2, Nat.le_trans hb.lo.2 hb2.size⟩, fun b h1 h2 => ?_, fun b => ?_, Nat.le_refl _, Nat.le_refl _⟩
  · rw [hown] at h1 h2; omega
  · rw [hown, hown]
set_option maxHeartbeats 16000000 in
theorem acts_walk (a : Option Addr) (cap : Nat) (qs : List Aq) (w : World) (hA : Acts11 w (.slice a qs.length cap) qs) :
    Calls Tryd.prog 3 #[.slice a qs.length cap] w fun e w' => e = .returned (.bool true) ∧ Below w.heap.size w w' := by
  have HH := Lib.hid (fun W => head_any W)
  have HACT := Lib.hid hA
  clear hA
  go_enter Tryd.func3, Tryd.ntmps3
  go_wp2_with fail
  refine (HH.out _).mono ?_
  rintro e w2 ⟨rfl, b2⟩
  have HF := Lib.hid (few11_any a cap qs w2 (HACT.out.below b2))
  have HB2 := Lib.hid b2
  clear b2 HH
  go_wp2_with fail
  refine HF.out.mono ?_
  rintro e w3 ⟨rfl, b3⟩
  have HB3 : Hid (Below w.heap.size w w3) := Lib.hid (HB2.out.trans (b3.mono HB2.out.size))
  clear b3 HF HB2
  cases hfew : few11 qs with
  | false =>
    go_wp2_with fail
    go_ret
    exact ⟨rfl, HB3.out⟩
  | true =>
    have HFEW := Lib.hid hfew
    clear hfew
    have HN := Lib.hid (bnew_any w3)
    go_wp2_with fail
    refine HN.out.mono ?_
    rintro e w4 ⟨rfl, hk4, b4⟩
    obtain ⟨bb, hbb⟩ : ∃ bb, bb = w3.heap.size := ⟨_, rfl⟩
    have hbase : w.heap.size ≤ bb := by rw [hbb]; exact HB3.out.size
    rw [← hbb] at hk4 ⊢
    have hp := pair_new hk4
    have bA := (Below.refl w4.heap.size w4).alloc (Nat.le_refl _) (.cells #[.slice none 0 0, .slice none 0 0, .map none] 32)
    have HB5 : Hid (Below w.heap.size w (w4.alloc (.cells #[.slice none 0 0, .slice none 0 0, .map none] 32))) := Lib.hid (HB3.out.trans ((b4.trans (bA.mono b4.size)).mono HB3.out.size))
    have hq60 : qs.length ≤ 60 := by
      by_cases h0 : 0 < qs.length
      · exact (few11_at HFEW.out h0).2
      · omega
    have HP5 := Lib.hid hp
    clear HN hk4 b4 hp bA hbb
    go_upto_region 7 with fail
    obtain ⟨w5, hw5⟩ : ∃ w5, w5 = w4.alloc (.cells #[.slice none 0 0, .slice none 0 0, .map none] 32) := ⟨_, rfl⟩
    obtain ⟨mb, hmb⟩ : ∃ mb, mb = w4.heap.size := ⟨_, rfl⟩
    rw [← hw5, ← hmb] at HP5
    rw [← hw5] at HB5 ⊢
    rw [← hmb]
    clear hw5 hmb
    go_wp2_with fail
    go_loopw [18] (fun iv wr => ∃ (j : Nat) (O : Nat → Prop) (S : Sb), j ≤ qs.length ∧ iv = .int .i64 j ∧ Hid (PairW wr bb bb mb (80 * j) O S.ws S.es S.n S.ws S.es S.n) ∧ Hid (SbOk S (80 * j)) ∧ Hid (Below w.heap.size w wr)) (fun iv _ => qs.length - (intOf iv).toNat)
    case atStart => exact ⟨0, _, sb0, by omega, rfl, HP5, Lib.hid sb0_ok, HB5⟩
    case round =>
      obtain ⟨j, O, S, hj, rfl, HP, HS, HB⟩ := hrel
      clear HP5 HB5
      by_cases hlt : j < qs.length
      · have hlt2 : decide ((j : Int) < (qs.length : Int)) = true := by simp; omega
        obtain ⟨hok, hpv, ga, off, rfl, h0, h1, h2, h3, h4, h5⟩ := act11_at HACT.out HB.out hlt
        have hf12 := (few11_at HFEW.out hlt).1
        have HPV := Lib.hid hpv
        have t2 : IntKind.i64.wrap ((j : Int) + 1) = (j : Int) + 1 := IntWalk.i64_in _ (by omega)
        have hj0 : (0 : Int) ≤ (j : Int) := by omega
        have hji : (j : Int) < (qs.length : Int) := by omega
        clear hok
        generalize qs.getD j aq0 = y at *
        obtain ⟨fa, fcap, hfv, _, hfm, _⟩ := hpv.1
        obtain ⟨q, pv⟩ := y
        simp only at *
        subst hfv
        clear hpv hfm
        have bA := (Below.refl _ wr).alloc (Nat.le_refl _) (.cells #[.int .i64 q.k, .int .i64 q.ses, .int .i64 q.n, .slice fa q.path.length fcap, .bool q.kids, .bool q.once] 35)
        have N8 := heap_alloc_new wr (.cells #[.int .i64 q.k, .int .i64 q.ses, .int .i64 q.n, .slice fa q.path.length fcap, .bool q.kids, .bool q.once] 35)
        go_upto_region 10 with fail
        obtain ⟨w8, hw8⟩ : ∃ w8, w8 = wr.alloc (.cells #[.int .i64 q.k, .int .i64 q.ses, .int .i64 q.n, .slice fa q.path.length fcap, .bool q.kids, .bool q.once] 35) := ⟨_, rfl⟩
        rw [← hw8] at bA N8 ⊢
        have c0 : w8.cell? ⟨wr.heap.size, 0, none⟩ = some (.int .i64 q.k) := by simp [World.cell?, N8]
        have c1 : w8.cell? ⟨wr.heap.size, 1, none⟩ = some (.int .i64 q.ses) := by simp [World.cell?, N8]
        have c2 : w8.cell? ⟨wr.heap.size, 2, none⟩ = some (.int .i64 q.n) := by simp [World.cell?, N8]
        have c3 : w8.cell? ⟨wr.heap.size, 3, none⟩ = some (.slice fa q.path.length fcap) := by simp [World.cell?, N8]
        have c4 : w8.cell? ⟨wr.heap.size, 4, none⟩ = some (.bool q.kids) := by simp [World.cell?, N8]
        have c5 : w8.cell? ⟨wr.heap.size, 5, none⟩ = some (.bool q.once) := by simp [World.cell?, N8]
        have hdo := do_any bb bb mb (80 * j) O S q fa fcap ((j : Int) + 1) w8 (HP.out.below bA) HS.out (by omega) ⟨HPV.out.1.below bA, HPV.out.2⟩ hf12
        have HDO := Lib.hid hdo
        have HB8 : Hid (Below w.heap.size w w8) := Lib.hid (HB.out.trans (bA.mono HB.out.size))
        have HLO := Lib.hid (HP.out.below bA).lo
        have HS2 : Hid (SbOk (doS q ((j : Int) + 1) S) (80 * (j + 1))) := Lib.hid ((HS.out.step q _ hf12).mono (by omega))
        clear hw8 h0 h1 h2 h3 h4 h5 N8 HP HB bA HPV hdo HS
        go_wp2_with fail
        refine HDO.out.mono ?_
        rintro e w9 ⟨rfl, O9, hp9, hf9⟩
        have HP9 : Hid (PairW w9 bb bb mb (80 * (j + 1)) O9 (doS q ((j : Int) + 1) S).ws (doS q ((j : Int) + 1) S).es (doS q ((j : Int) + 1) S).n (doS q ((j : Int) + 1) S).ws (doS q ((j : Int) + 1) S).es (doS q ((j : Int) + 1) S).n) := Lib.hid (hp9.mono (by omega))
        have HB9 : Hid (Below w.heap.size w w9) := Lib.hid (HB8.out.trans ((hf9.below (fun b hb => (HLO.out.1 b hb).1) HLO.out.2).mono hbase))
        obtain ⟨S9, hS9⟩ : ∃ S9, S9 = doS q ((j : Int) + 1) S := ⟨_, rfl⟩
        rw [← hS9] at HP9 HS2
        have HSM := Lib.hid (same_any bb bb mb _ O9 S9.ws S9.es S9.n w9 HP9.out HS2.out.l40 (by have := HS2.out.les; omega))
        clear hp9 hf9 HB8 HDO HLO hS9 c0 c1 c2 c3 c4 c5
        go_wp2_with fail
        refine HSM.out.mono ?_
        rintro e w10 ⟨rfl, b10⟩
        have HP10 := Lib.hid (HP9.out.below b10)
        have HB10 : Hid (Below w.heap.size w w10) := Lib.hid (HB9.out.trans (b10.mono HB9.out.size))
        clear HSM b10 HP9 HB9
        go_wp2_with fail
        go_roundw
        case rel => exact ⟨j + 1, O9, S9, by omega, by go_num, HP10, HS2, HB10⟩
        case measure => simp [intOf]; omega
      · have hlt2 : decide ((j : Int) < (qs.length : Int)) = false := by simp; omega
        have HFN := Lib.hid (fun W => fire_nil ⟨#[47]⟩ 3 1 W)
        have HNN := Lib.hid (fun W => noted_nil 1 1 W)
        have HDN := Lib.hid (fun W => drop_nil 1 W)
        have HAN := Lib.hid (fun W => add_nil ⟨1, ⟨#[47]⟩, false, false⟩ W)
        have HWN := Lib.hid (fun W => watches_nil W)
        have HEN := Lib.hid (fun W => events_nil 1 W)
        have HCN := Lib.hid (fun W => clone_nil W)
        clear HP HS HACT HFEW
        go_wp2_with fail
        refine (HFN.out _).mono ?_
        rintro e w5 ⟨rfl, b5⟩
        have HB5 : Hid (Below w.heap.size w w5) := Lib.hid (HB.out.trans (b5.mono HB.out.size))
        clear b5 HB HFN
        go_wp2_with fail
        refine (HNN.out _).mono ?_
        rintro e w6 ⟨rfl, b6⟩
        have HB6 : Hid (Below w.heap.size w w6) := Lib.hid (HB5.out.trans (b6.mono HB5.out.size))
        clear b6 HB5 HNN
        go_wp2_with fail
        refine (HDN.out _).mono ?_
        rintro e w7 ⟨rfl, b7⟩
        have HB7 : Hid (Below w.heap.size w w7) := Lib.hid (HB6.out.trans (b7.mono HB6.out.size))
        clear b7 HB6 HDN
        go_wp2_with fail
        refine (HAN.out _).mono ?_
        rintro e w8 ⟨rfl, b8⟩
        have HB8 : Hid (Below w.heap.size w w8) := Lib.hid (HB7.out.trans (b8.mono HB7.out.size))
        clear b8 HB7 HAN
        go_wp2_with fail
        refine (HWN.out _).mono ?_
        rintro e w9 ⟨rfl, rfl⟩
        go_wp2_with fail
        refine (HEN.out _).mono ?_
        rintro e w10 ⟨rfl, rfl⟩
        go_wp2_with fail
        refine (HCN.out _).mono ?_
        rintro e w11 ⟨rfl, hk11, b11⟩
        have HWA := Lib.hid (watches_any _ _ _ _ _ [] [] 0 0 _ w11 hk11 (by simp))
        have HB11 : Hid (Below w.heap.size w w11) := Lib.hid (HB8.out.trans (b11.mono HB8.out.size))
        clear hk11 b11 HB8 HCN
        go_wp2_with fail
        refine HWA.out.mono ?_
        rintro e w12 ⟨v12, rfl, hr12, b12⟩
        obtain ⟨ra, rc, hv12, _, _⟩ := waV_form hr12
        simp only [List.length_nil] at hv12
        subst hv12
        have HB12 : Hid (Below w.heap.size w w12) := Lib.hid (HB11.out.trans (b12.mono HB11.out.size))
        clear hr12 b12 HB11 HWA
        go_wp2_with fail
        go_ret
        exact ⟨rfl, HB12.out⟩
end Go.Proofs.YtbbdokfankgllaaDoor
