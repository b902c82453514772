/- The law's model: Create. No conditions beyond those in each statement. -/
import Derived.Test.YtblcpihfnpgfiaaGreatDoorTreeUpOk
namespace Go.Proofs.YtblcpihfnpgfiaaGreatDoor
open Go.RowKit Go.Maps Go.Sort
set_option linter.unusedVariables false
set_option linter.unusedSimpArgs false
set_option maxRecDepth 100000

theorem place_A {T : List UInt8 → Option Nd} {z : List UInt8} {d : ByteArray} (h : checkL z = false) : placeN T z d = ([], Nd.zero, 10) := by unfold placeN; rw [if_pos h]
theorem place_B {T : List UInt8 → Option Nd} {d : ByteArray} : placeN T [47] d = ([], Nd.zero, 12) := by unfold placeN; rw [if_neg (by decide), if_pos rfl]
theorem place_C {T : List UInt8 → Option Nd} {z : List UInt8} {d : ByteArray} (h : checkL z = true) (hr : z ≠ [47]) (hd : 60 < d.size) : placeN T z d = ([], Nd.zero, 3) := by unfold placeN; rw [if_neg (by rw [h]; decide), if_neg hr, if_pos hd]
theorem get_none {T : List UInt8 → Option Nd} {z : List UInt8} (h : checkL z = true) (hT : T z = none) : getN T z = (Nd.zero, 11) := by unfold getN; rw [h, hT]; rfl
theorem get_some {T : List UInt8 → Option Nd} {z : List UInt8} {n : Nd} (h : checkL z = true) (hT : T z = some n) : getN T z = (n, 0) := by unfold getN; rw [h, hT]; rfl
theorem place_D {T : List UInt8 → Option Nd} {z : List UInt8} {d : ByteArray} (h : checkL z = true) (hr : z ≠ [47]) (hd : ¬ 60 < d.size) (hT : T (upP z) = none) : placeN T z d = ([], Nd.zero, 11) := by
  unfold placeN; rw [if_neg (by rw [h]; decide), if_neg hr, if_neg hd, get_none (check_up h hr) hT, if_pos (by decide)]
theorem place_E {T : List UInt8 → Option Nd} {z : List UInt8} {d : ByteArray} {par : Nd} (h : checkL z = true) (hr : z ≠ [47]) (hd : ¬ 60 < d.size) (hT : T (upP z) = some par) (ho : par.owner ≠ 0) : placeN T z d = ([], Nd.zero, 15) := by
  unfold placeN; rw [if_neg (by rw [h]; decide), if_neg hr, if_neg hd, get_some (check_up h hr) hT, if_neg (fun h => h rfl), if_pos ho]
theorem place_F {T : List UInt8 → Option Nd} {z : List UInt8} {d : ByteArray} {par : Nd} (h : checkL z = true) (hr : z ≠ [47]) (hd : ¬ 60 < d.size) (hT : T (upP z) = some par) (ho : par.owner = 0) : placeN T z d = (upP z, par, 0) := by
  unfold placeN; rw [if_neg (by rw [h]; decide), if_neg hr, if_neg hd, get_some (check_up h hr) hT, if_neg (fun h => h rfl), if_neg (fun h => h ho)]
theorem create_bad {T : List UInt8 → Option Nd} {z : List UInt8} {d : ByteArray} {er : Int} (h : placeN T z d = ([], Nd.zero, er)) (h0 : er ≠ 0) (c : Nat) (owner t : Int) (serial : Bool) : createN T c z d owner t serial = ⟨[], er, T, c⟩ := by
  unfold createN; rw [h, if_pos h0]
theorem cr_F {T : List UInt8 → Option Nd} {z : List UInt8} {d : ByteArray} {par : Nd} {serial : Bool} (hp : placeN T z d = (upP z, par, 0)) (h : checkL (pathC z par serial) = false) (c : Nat) (owner t : Int) : createN T c z d owner t serial = ⟨[], 10, T, c⟩ := by
  have hg : getN T (pathC z par serial) = (Nd.zero, 10) := by unfold getN; rw [h]; rfl
  unfold createN; rw [hp]; simp only [hg]; rfl
theorem cr_G {T : List UInt8 → Option Nd} {z : List UInt8} {d : ByteArray} {par n : Nd} {serial : Bool} (hp : placeN T z d = (upP z, par, 0)) (h : checkL (pathC z par serial) = true) (hT : T (pathC z par serial) = some n) (c : Nat) (owner t : Int) : createN T c z d owner t serial = ⟨[], 12, T, c⟩ := by
  unfold createN; rw [hp]; simp only [get_some h hT]; rfl
theorem cr_H {T : List UInt8 → Option Nd} {z : List UInt8} {d : ByteArray} {par : Nd} {serial : Bool} (hp : placeN T z d = (upP z, par, 0)) (h : checkL (pathC z par serial) = true) (hT : T (pathC z par serial) = none) (c : Nat) (hc : 60 ≤ c) (owner t : Int) : createN T c z d owner t serial = ⟨[], 16, T, c⟩ := by
  unfold createN; rw [hp]; simp only [get_none h hT]; rw [if_neg (by decide), if_neg (by decide), if_neg (by decide), if_pos hc]
theorem cr_I {T : List UInt8 → Option Nd} {z : List UInt8} {d : ByteArray} {par : Nd} {serial : Bool} (hp : placeN T z d = (upP z, par, 0)) (h : checkL (pathC z par serial) = true) (hT : T (pathC z par serial) = none) (c : Nat) (hc : ¬ 60 ≤ c) (owner t : Int) : createN T c z d owner t serial = ⟨pathC z par serial, 0, updN (updN T (upP z) (some (upC (parC par serial)))) (pathC z par serial) (some (newC d owner t)), c + 1⟩ := by
  unfold createN; rw [hp]; simp only [get_none h hT]; rw [if_neg (by decide), if_neg (by decide), if_neg (by decide), if_neg hc]
/-- What a call that may change the model leaves. -/
def MLeft (w : World) (base mp g : Nat) (R : CrN) (w' : World) : Prop := ∃ g' cap' L', ModL w' base mp g' cap' L' ∧ Rep R.T L' ∧ L'.length = R.c ∧ Only w w' mp g ∧ (g' = g ∨ w.heap.size ≤ g')
theorem MLeft.same {w w' : World} {base mp g cap : Nat} {L : List Me} {T : List UInt8 → Option Nd} {R : CrN} (h : ModL w base mp g cap L) (hR : Rep T L) (hT : R.T = T) (hc : R.c = L.length) (hb : Below w.heap.size w w') : MLeft w base mp g R w' :=
  ⟨g, cap, L, h.below hb, by rw [hT]; exact hR, hc.symm, Only.of_below _ _ hb, .inl rfl⟩
theorem und_mes : Tryz.prog.underlying 45 = some (.slice 49) := by kernel_rfl
theorem info_me : (Tryz.prog.info? 49).map (fun i => (i.zero, i.size, i.bytes)) = some (some (.agg #[.string ⟨#[]⟩, .string ⟨#[]⟩, .int .i64 0, .int .i64 0, .int .i64 0, .int .i64 0, .int .i64 0, .int .i64 0]), 8, 80) := by kernel_rfl
theorem meCells_one : ∀ l : List Me, ∀ v ∈ meCells l, v.oneCell' = true
  | [], v, h => by cases h
  | e :: l, v, h => by
    rcases List.mem_append.1 (show v ∈ meOne e ++ meCells l from h) with h1 | h1
    · simp [meOne] at h1
      rcases h1 with rfl | rfl | rfl | rfl | rfl | rfl | rfl | rfl <;> rfl
    · exact meCells_one l v h1
theorem meCells_drop : ∀ (l : List Me) (j q : Nat), (meCells (l.drop j))[q]? = (meCells l)[j * 8 + q]?
  | l, 0, q => by simp
  | [], j + 1, q => by simp [meCells]
  | e :: l, j + 1, q => by
    rw [List.drop_succ_cons, meCells_drop l j q]
    show _ = (meOne e ++ meCells l)[(j + 1) * 8 + q]?
    rw [List.getElem?_append_right (by simp [meOne]; omega)]
    congr 1; simp [meOne]; omega
theorem ModL.news {w : World} {base mp g cap : Nat} {L : List Me} (h : ModL w base mp g cap L) (j q : Nat) (u : Value) (hu : (meCells (L.drop j))[q]? = some u) : w.cell? ((⟨g, j * 8, none⟩ : Addr).add q) = some u := by
  rw [meCells_drop] at hu
  have hlt := (List.getElem?_eq_some_iff.1 hu).1
  rw [meCells_len] at hlt
  rw [show (⟨g, j * 8, none⟩ : Addr).add q = ⟨g, j * 8 + q, none⟩ by simp [Addr.add], h.row.cellAt (j * 8 + q) hlt, hu]
theorem meCells_take : ∀ (l : List Me) (j q : Nat) (u : Value), (meCells (l.take j))[q]? = some u → (meCells l)[q]? = some u
  | l, 0, q, u, h => by simp [meCells] at h
  | [], j + 1, q, u, h => by simp [meCells] at h
  | e :: l, j + 1, q, u, h => by
    rw [List.take_succ_cons] at h
    have h' : (meOne e ++ meCells (l.take j))[q]? = some u := h
    show (meOne e ++ meCells l)[q]? = some u
    by_cases hq : q < 8
    · rw [List.getElem?_append_left (by simpa [meOne] using hq)] at h' ⊢; exact h'
    · rw [List.getElem?_append_right (by simp [meOne]; omega)] at h' ⊢
      exact meCells_take l j _ u h'
theorem ModL.olds {w : World} {base mp g cap : Nat} {L : List Me} (h : ModL w base mp g cap L) (j q : Nat) (u : Value) (hu : (meCells (L.take j))[q]? = some u) (o : Obj) : (w.alloc o).cell? ((⟨g, 0, none⟩ : Addr).add q) = some u := by
  have h1 := meCells_take L j q u hu
  have hlt := (List.getElem?_eq_some_iff.1 h1).1
  rw [meCells_len] at hlt
  rw [show (⟨g, 0, none⟩ : Addr).add q = ⟨g, q, none⟩ by rw [Addr.add_lit, Nat.zero_add], ((Below.refl w.heap.size w).alloc (Nat.le_refl _) _).cell (p := ⟨g, q, none⟩) h.ltg, h.row.cellAt q hlt, h1]
theorem ModL.frz {w : World} {base mp g cap : Nat} {L : List Me} (h : ModL w base mp g cap L) : w.frozen? ⟨mp, 0, none⟩ = false := by simp [World.frozen?, h.box]
theorem ModL.turn {w : World} {base mp g cap : Nat} {L L' : List Me} {b9 g9 cap9 : Nat} (h : ModL w base mp g cap L) (hr : w.ownsRow b9 49 8 (.slice (some ⟨g9, 0, none⟩) L'.length cap9) L'.length (meCells L')) (hb : base ≤ b9) (hne : mp < b9) : ModL (w.setCell ⟨mp, 0, none⟩ (.slice (some ⟨g9, 0, none⟩) L'.length cap9)) base mp g9 cap9 L' := by
  have hg9 := (hr.lt g9 rfl).1
  refine ⟨?_, (hr.mono hb).kept (row := some mp) ⟨rfl, rfl, rfl, by simp, fun k _ hk => heap_setCell_other w ⟨mp, 0, none⟩ k _ (fun e => hk (by simp [e]))⟩ (.inr (by simp [Value.ownBlock]; omega))⟩
  have := bset (i := 0) (u := .slice (some ⟨g9, 0, none⟩) L'.length cap9) h.box
  simpa using this
theorem Rep.ins {T : List UInt8 → Option Nd} {L : List Me} (h : Rep T L) {s : List UInt8} (hs : T s = none) (n : Nd) (j : Nat) (h1 : LowL L j s) (h2 : StopL L j s) : Rep (updN T s (some n)) (L.take j ++ (s, n) :: L.drop j) := by
  have hp : (L.take j ++ (s, n) :: L.drop j).Perm ((s, n) :: L) := by
    have := List.perm_middle (a := (s, n)) (l₁ := L.take j) (l₂ := L.drop j)
    rw [List.take_append_drop] at this; exact this
  have hns : ∀ m, (s, m) ∉ L := fun m hm => by have := (h.mem s m).2 hm; rw [hs] at this; cases this
  refine ⟨(hp.map _).nodup_iff.2 ?_, fun x m => ?_, ins_sorted h.sorted n h1 h2 hns⟩
  · rw [List.map_cons, List.nodup_cons]
    refine ⟨fun hm => ?_, h.nodup⟩
    obtain ⟨e, he, hes⟩ := List.mem_map.1 hm
    exact hns e.2 (by have h1 : e.1 = s := hes; rw [← h1]; exact he)
  · rw [hp.mem_iff, List.mem_cons]
    by_cases hx : x = s
    · subst hx
      rw [updN_same]
      constructor
      · intro e; injection e with e; exact .inl (by rw [e])
      · rintro (e | e)
        · injection e with _ e; rw [e]
        · exact absurd e (hns m)
    · rw [updN_other hx, h.mem x m]
      constructor
      · exact .inr
      · rintro (e | e)
        · injection e with e _; exact absurd e hx
        · exact e
theorem Only.setp {a b : World} {p q : Nat} (h : Only a b p q) (o : Nat) (u : Value) : Only a (b.setCell ⟨p, o, none⟩ u) p q :=
  h.trans ⟨rfl, rfl, rfl, by simp, fun k _ h1 _ => heap_setCell_other b ⟨p, o, none⟩ k u (fun e => h1 (by simp [e]))⟩
theorem ModL.base_le {w : World} {base mp g cap : Nat} {L : List Me} (h : ModL w base mp g cap L) : base ≤ w.heap.size := by
  have := h.row.lt g rfl; omega
theorem ModL.cap_le {w : World} {base mp g cap : Nat} {L : List Me} (h : ModL w base mp g cap L) : L.length ≤ cap ∧ cap ≤ maxLen := by
  rcases h.row.2 with ⟨h0, _⟩ | ⟨g', cap', cur, hv, hb, hg, h4, h5, _⟩
  · cases h0
  · injection hv with _ _ hc; rw [hc]; exact ⟨h4, h5⟩
set_option maxHeartbeats 8000000 in
theorem mcreate_ok (base mp g cap : Nat) (L : List Me) (T : List UInt8 → Option Nd) (z : List UInt8) (d : ByteArray) (owner t : Int) (serial : Bool) (w : World) (h : ModL w base mp g cap L) (hR : Rep T L) (hS : SmallT T) (hL : L.length ≤ 100) (hd : d.size ≤ 1000)
    (hck : checkL z = true) (hzr : z ≠ [47]) (hd60 : ¬ 60 < d.size) (par : Nd) (hTu : T (upP z) = some par) (ho : par.owner = 0) :
    Calls Tryz.prog 31 #[.pointer (some ⟨mp, 0, none⟩), .string (bs z), .string d, .int .i64 owner, .int .i64 t, .bool serial] w fun e w' => e = .returned (.tuple #[.string (bs (createN T L.length z d owner t serial).path), .int .i64 (createN T L.length z d owner t serial).err]) ∧ MLeft w base mp g (createN T L.length z d owner t serial) w' := by
  have HC := Lib.hid (fun W : World => check_any (bs z) W)
  have HM := Lib.hid h
  have HR := Lib.hid hR
  have hE : checkE z = 0 := by unfold checkE; rw [hck]; rfl
  have HE := Lib.hid hE
  have e1 : ((bs z).toList == [47]) = false := by rw [Lib.toList_data, bs_list]; simpa using hzr
  have d1 : decide ((60 : Int) < (d.size : Int)) = false := by simp; omega
  have HU := Lib.hid (fun W : World => up_path z W hck)
  have HF := Lib.hid (fun (x : List UInt8) (W : World) (hb : Below w.heap.size w W) => mfind_any base mp g cap L x W (h.below hb) (by omega))
  obtain ⟨i, hi, hLi⟩ := hR.find_some hTu
  have hil : i < L.length := (List.getElem?_eq_some_iff.1 hLi).1
  have HI := Lib.hid hi
  have HLI := Lib.hid hLi
  have i0 : (0 : Int) ≤ (i : Int) := by omega
  have i1 : decide ((i : Int) < 0) = false := by simp
  have i2 : (i : Int) < (L.length : Int) := by omega
  have hp := place_F (d := d) hck hzr hd60 hTu ho
  have O0 : (par.owner != 0) = false := by simpa using ho
  have O1 : (par.owner == 0) = true := by simpa using ho
  obtain ⟨⟨s0, s1⟩, ⟨s2, s3⟩, _⟩ := hS _ par hTu
  have hzl : z.length ≤ 60 := by
    obtain ⟨_, _, _, _, _, hl⟩ := check_split hck hzr
    exact hl
  cases serial
  · cases hT1 : T z with
    | some n1 =>
      rw [cr_G hp (serial := false) hck hT1]
      obtain ⟨j, hj, _⟩ := hR.find_some hT1
      have HJ := Lib.hid hj
      have j0 : decide ((0 : Int) ≤ (j : Int)) = true := by simp
      have j1 : (0 : Int) ≤ (j : Int) := by omega
      clear hj
      clear hp hck hE hS h hR hzr hTu hi hLi ho hd60 hT1
      go_enter Tryz.func31, Tryz.ntmps31
      go_wp2_with fail
      refine (HC.out _).mono ?_
      rintro e w1 ⟨rfl, b1⟩
      rw [bs_list, HE.out]
      go_wp2_with fail
      refine (HU.out _).mono ?_
      rintro e w2 ⟨rfl, m, hw2⟩
      have b2 : Below w.heap.size w w2 := by rw [hw2]; exact b1.trans ((drewN_below w1 m).mono b1.size)
      clear hw2
      go_wp2_with fail
      refine (HF.out _ _ b2).mono ?_
      rintro e w3 ⟨rfl, b3⟩
      rw [HI.out]
      replace b3 := b2.trans (b3.mono b2.size)
      have M3 := HM.out.below b3
      have x0 := M3.cell
      obtain ⟨c0, c1, c2, c3, c4, c5, c6, c7⟩ := M3.cells i _ HLI.out
      clear M3
      go_wp2_with fail
      have b5 := b3
      refine (HF.out _ _ b5).mono ?_
      rintro e w6 ⟨rfl, b6⟩
      rw [HJ.out]
      replace b6 := b5.trans (b6.mono b5.size)
      go_wp2_with fail
      go_ret2
      exact ⟨rfl, MLeft.same HM.out HR.out rfl rfl b6⟩
    | none =>
      by_cases hc60 : 60 ≤ L.length
      · rw [cr_H hp (serial := false) hck hT1 L.length hc60]
        have HJ := Lib.hid (hR.find_none hT1)
        have d60 : decide ((60 : Int) ≤ (L.length : Int)) = true := by simp; omega
        clear hp hck hE hS h hR hzr hTu hi hLi ho hd60 hT1
        go_enter Tryz.func31, Tryz.ntmps31
        go_wp2_with fail
        refine (HC.out _).mono ?_
        rintro e w1 ⟨rfl, b1⟩
        rw [bs_list, HE.out]
        go_wp2_with fail
        refine (HU.out _).mono ?_
        rintro e w2 ⟨rfl, m, hw2⟩
        have b2 : Below w.heap.size w w2 := by rw [hw2]; exact b1.trans ((drewN_below w1 m).mono b1.size)
        clear hw2
        go_wp2_with fail
        refine (HF.out _ _ b2).mono ?_
        rintro e w3 ⟨rfl, b3⟩
        rw [HI.out]
        replace b3 := b2.trans (b3.mono b2.size)
        have M3 := HM.out.below b3
        have x0 := M3.cell
        obtain ⟨c0, c1, c2, c3, c4, c5, c6, c7⟩ := M3.cells i _ HLI.out
        clear M3
        go_wp2_with fail
        have b5 := b3
        refine (HF.out _ _ b5).mono ?_
        rintro e w6 ⟨rfl, b6⟩
        rw [HJ.out]
        replace b6 := b5.trans (b6.mono b5.size)
        have y0 := (HM.out.below b6).cell
        go_wp2_with fail
        go_ret2
        exact ⟨rfl, MLeft.same HM.out HR.out rfl rfl b6⟩
      · rw [cr_I hp (serial := false) hck hT1 L.length hc60]
        have HJ := Lib.hid (hR.find_none hT1)
        have d60 : decide ((60 : Int) ≤ (L.length : Int)) = false := by simp; omega
        have hc59 : L.length < 60 := by omega
        rw [show pathC z par false = z from rfl]
        have HT1 := Lib.hid hT1
        have hzn : z ≠ upP z := by intro e; rw [e, hTu] at hT1; cases hT1
        have HZN := Lib.hid hzn
        clear hzn
        clear hp hck hE hS h hR hzr hTu hi hLi ho hd60 hT1
        clear hc60
        go_enter Tryz.func31, Tryz.ntmps31
        go_wp2_with fail
        refine (HC.out _).mono ?_
        rintro e w1 ⟨rfl, b1⟩
        rw [bs_list, HE.out]
        go_wp2_with fail
        refine (HU.out _).mono ?_
        rintro e w2 ⟨rfl, m, hw2⟩
        have b2 : Below w.heap.size w w2 := by rw [hw2]; exact b1.trans ((drewN_below w1 m).mono b1.size)
        clear hw2
        go_wp2_with fail
        refine (HF.out _ _ b2).mono ?_
        rintro e w3 ⟨rfl, b3⟩
        rw [HI.out]
        replace b3 := b2.trans (b3.mono b2.size)
        have M3 := HM.out.below b3
        have x0 := M3.cell
        obtain ⟨c0, c1, c2, c3, c4, c5, c6, c7⟩ := M3.cells i _ HLI.out
        clear M3
        go_wp2_with fail
        have b5 := b3
        refine (HF.out _ _ b5).mono ?_
        rintro e w6 ⟨rfl, b6⟩
        rw [HJ.out]
        replace b6 := b5.trans (b6.mono b5.size)
        have M6 := HM.out.below b6
        have y0 := M6.cell
        obtain ⟨k0, k1, k2, k3, k4, k5, k6, k7⟩ := M6.cells i _ HLI.out
        have f3 := M6.row.frozenAt (i * 8 + 3)
        have f7 := M6.row.frozenAt (i * 8 + 7)
        clear c0 c1 c2 c3 c4 c5 c6 c7 x0 b1 b2 b3 b5 M6
        go_upto_region 24 with fail
        have M8 := (HM.out.below b6).put i 3 _ (upP z, upC (parC par false)) (.int .i64 (par.below + 1)) HLI.out (by decide) rfl
        have O8 := (Only.of_below mp g b6).set (i * 8 + 3) (.int .i64 (par.below + 1))
        obtain ⟨w8, hw8⟩ : ∃ w8, w8 = w6.setCell ⟨g, i * 8 + 3, none⟩ (.int .i64 (par.below + 1)) := ⟨_, rfl⟩
        rw [← hw8] at M8 O8 ⊢
        clear hw8 k0 k1 k2 k3 k4 k5 k6 k7 f3 f7 y0 b6
        have R8 := Lib.hid (HR.out.set HLI.out (upC (parC par false)))
        obtain ⟨L1, hL1⟩ : ∃ L1, L1 = L.set i (upP z, upC (parC par false)) := ⟨_, rfl⟩
        have hl1 : L.length = L1.length := by rw [hL1, List.length_set]
        rw [← hL1] at M8 R8
        clear hL1
        go_wp2_with fail
        go_loopw [17] (fun iv wr => ∃ j : Nat, j ≤ L1.length ∧ iv = .int .i64 j ∧ ModL wr base mp g cap L1 ∧ Only w wr mp g ∧ LowL L1 j z) (fun iv _ => L1.length - (intOf iv).toNat)
        case atStart => exact ⟨0, by omega, rfl, M8, O8, LowL.zero L1 z⟩
        case round =>
          obtain ⟨j, hj, rfl, M9, O9, HLW⟩ := hrel
          clear M8 O8
          have y0 := M9.cell
          have j0 : (0 : Int) ≤ (j : Int) := by omega
          have j3 : (j : Int) ≤ (L1.length : Int) := by omega
          by_cases hlt : j < L1.length
          · obtain ⟨e, he⟩ : ∃ e, L1[j]? = some e := ⟨L1[j], by simp [hlt]⟩
            obtain ⟨k0, k1, k2, k3, k4, k5, k6, k7⟩ := M9.cells j e he
            have hlt2 : decide ((j : Int) < (L1.length : Int)) = true := by simp; omega
            have t2 : IntKind.i64.wrap ((j : Int) + 1) = (j : Int) + 1 := IntWalk.i64_in _ (by omega)
            cases hB : Op.bytesLess (bs e.1).toList (bs z).toList
            · have HST : StopL L1 j z := StopL.at he hB
              clear k1 k2 k3 k4 k5 k6 k7 he
              have HM9 := Lib.hid M9
              have hm9 := M9.ltm
              have hmne : ¬ mp = wr.heap.size := by omega
              have hmne2 : ¬ wr.heap.size = mp := by omega
              have hcap := M9.cap_le
              clear M9 hd hL i0 i1 i2 s0 s1 s2 s3 O0 O1 d1 d60 e1
              obtain ⟨i1, hi1, hz1, hz2, hz3⟩ := info_parts info_me
              have RM := World.ownsRow_made (base := wr.heap.size) (e := 49) (size := 8) wr #[] 0 (Nat.le_refl _) (Nat.zero_le _) rfl
              have HNW := Lib.hid (HM9.out.news j)
              have HNA : Hid (∀ q u, (meCells (L1.drop j))[q]? = some u → (wr.alloc (.cells #[] 49)).cell? ((⟨g, j * 8, none⟩ : Addr).add q) = some u) := Lib.hid (fun q u hq => by
                have h1 := HNW.out q u hq
                have hga : (⟨g, j * 8, none⟩ : Addr).add q = ⟨g, j * 8 + q, none⟩ := by simp [Addr.add]
                rw [hga] at h1 ⊢
                rw [((Below.refl wr.heap.size wr).alloc (Nat.le_refl _) _).cell (p := ⟨g, j * 8 + q, none⟩) HM9.out.ltg]; exact h1)
              have HLN : (meCells (L1.drop j)).length = (L1.length - j) * 8 := by rw [meCells_len, List.length_drop]
              have hO1 := meCells_one (L1.drop j)
              have hj2 : j < cap := by omega
              have hj4 : ¬ cap = j := by omega
              have hj5 : ¬ j = cap := by omega
              have hj6 : (j : Int) ≤ (cap : Int) := by omega
              go_upto_region 28 with (at_builtin; refine wpList_append_own _ rfl _ _ _ rfl wr.heap.size 49 i1 _ 8 80 und_mes hi1 hz1 hz2 hz3 rfl (by decide) (.slice (some ⟨wr.heap.size, 0, none⟩) 0 0) 0 [] rfl RM ⟨g, j * 8, none⟩ (L1.length - j) (cap - j) (meCells (L1.drop j)) rfl HLN (fun q u hq => HNA.out q u hq) hO1 (by unfold maxLen; omega) (by omega) (by simp) ?_; intro v7 w7 hown7 hgrow7 hiff7; go_frame)
              have b7 : Below wr.heap.size wr w7 := ((Below.refl wr.heap.size wr).alloc (Nat.le_refl _) (.cells #[] 49)).grown hgrow7 (by simp) (fun q hq => by cases hq; exact Nat.le_refl _)
              rw [Nat.zero_add, List.nil_append] at hown7
              have hv7 : ∃ g7 cap7, v7 = .slice (some ⟨g7, 0, none⟩) (L1.length - j) cap7 := by
                rcases hown7.2 with ⟨h0, _⟩ | ⟨g7, cap7, _, h0, _⟩
                · have := (hiff7.1 h0).1; cases this
                · exact ⟨g7, cap7, h0⟩
              obtain ⟨g7, cap7, rfl⟩ := hv7
              have M7 := HM9.out.below b7
              have y7 := M7.cell
              have hm7 := M7.ltm
              have n7 : ¬ mp = w7.heap.size := by omega
              have n8 : ¬ w7.heap.size = mp := by omega
              have HM7 := Lib.hid M7
              have HO7 := Lib.hid hown7
              have q1 : (j : Int) ≤ (L1.length : Int) := by omega
              have q2 : (0 : Int) ≤ (L1.length : Int) := by omega
              clear M7 hown7 hgrow7 hiff7 RM HNW HNA HLN hO1 y0 k0 hmne hmne2 hm9 hlt2 t2 hB
              have HNE := Lib.hid (World.news_of_block (heap_alloc_new w7 (.cells #[.string (bs z), .string d, .int .i64 0, .int .i64 0, .int .i64 owner, .int .i64 t, .int .i64 t, .int .i64 0] 49)))
              have HOL : Hid (∀ b, some (⟨g, 0, none⟩ : Addr) = some b → ∀ q u, (meCells (L1.take j))[q]? = some u → (w7.alloc (.cells #[.string (bs z), .string d, .int .i64 0, .int .i64 0, .int .i64 owner, .int .i64 t, .int .i64 t, .int .i64 0] 49)).cell? (b.add q) = some u) := Lib.hid (fun b hb q u hq => by
                cases hb
                exact HM7.out.olds j q u hq _)
              have HLT : (meCells (L1.take j)).length = j * 8 := by rw [meCells_len, List.length_take, Nat.min_eq_left hj]
              have hO2 := meCells_one [(z, newC d owner t)]
              have rE : (w7.alloc (.cells #[.string (bs z), .string d, .int .i64 0, .int .i64 0, .int .i64 owner, .int .i64 t, .int .i64 t, .int .i64 0] 49)).heap.size = w7.heap.size + 1 := by simp
              have HX : Hid (∀ (W8 : World) (v8 : Value) (n : Nat) (xs : List Value) (W9 : World), (w7.alloc (.cells #[.string (bs z), .string d, .int .i64 0, .int .i64 0, .int .i64 owner, .int .i64 t, .int .i64 t, .int .i64 0] 49)).grownBy W8 none → W8.ownsRow (w7.alloc (.cells #[.string (bs z), .string d, .int .i64 0, .int .i64 0, .int .i64 owner, .int .i64 t, .int .i64 t, .int .i64 0] 49)).heap.size 49 8 v8 n xs → W8.grownBy W9 v8.ownBlock → Below w7.heap.size w7 W9) := Lib.hid (fun W8 v8 n xs W9 h1 h2 h3 => by
                have b := ((Below.refl w7.heap.size w7).alloc (Nat.le_refl _) _).grown h1 (by simp) (fun q hq => by cases hq)
                exact b.grown h3 b.size (fun q hq => by have := (World.ownsRow.lt h2 q hq).1; simp at this; omega))
              have HNX : Hid (∀ W8 : World, (w7.alloc (.cells #[.string (bs z), .string d, .int .i64 0, .int .i64 0, .int .i64 owner, .int .i64 t, .int .i64 t, .int .i64 0] 49)).grownBy W8 none → ∀ q u, (meCells (L1.drop j))[q]? = some u → W8.cell? ((⟨g7, 0, none⟩ : Addr).add q) = some u) := Lib.hid (fun W8 h1 q u hq => ((HO7.out.alloc _).kept h1 (by simp [Value.ownBlock])).cells rfl q u hq)
              have HLN : (meCells (L1.drop j)).length = (L1.length - j) * 8 := by rw [meCells_len, List.length_drop]
              have hO3 := meCells_one (L1.drop j)
              go_wp2_with (first
                | (at_builtin; refine wpList_append_grows _ rfl _ _ _ rfl 49 i1 _ 8 80 und_mes hi1 hz1 hz2 hz3 rfl (by decide) (some ⟨g, 0, none⟩) j j (meCells (L1.take j)) rfl (fun h => by cases h) HLT HOL.out ⟨w7.heap.size, 0, none⟩ 1 1 (meCells [(z, newC d owner t)]) rfl rfl HNE.out hO2 (by omega) (by unfold maxLen; omega) (by omega) ?_; intro v8 w8' hown8 hgrow8; obtain ⟨g8, cap8, rfl, _⟩ := hown8.form (by omega); have HN8 := Lib.hid (HNX.out w8' hgrow8); have HGR := Lib.hid hgrow8; have HOW := Lib.hid hown8; have hs8 := hgrow8.size; clear hown8 hgrow8; go_frame)
                | (at_builtin; refine wpList_append_own _ rfl _ _ _ rfl (w7.alloc (.cells #[.string (bs z), .string d, .int .i64 0, .int .i64 0, .int .i64 owner, .int .i64 t, .int .i64 t, .int .i64 0] 49)).heap.size 49 i1 _ 8 80 und_mes hi1 hz1 hz2 hz3 rfl (by decide) (.slice (some ⟨g8, 0, none⟩) (j + 1) cap8) (j + 1) (meCells (L1.take j) ++ meCells [(z, newC d owner t)]) rfl HOW.out ⟨g7, 0, none⟩ (L1.length - j) cap7 (meCells (L1.drop j)) rfl HLN HN8.out hO3 (by unfold maxLen; omega) (by omega) hs8 ?_; intro v9 w9 hown9 hgrow9 hiff9; obtain ⟨g9, cap9, rfl, _⟩ := hown9.form (by omega); have b9 := HX.out _ _ _ _ _ HGR.out HOW.out hgrow9; have M9' := HM7.out.below b9; have z9 := M9'.cell; have z8 := M9'.frz; have HM9' := Lib.hid M9'; have HO9 := Lib.hid hown9; have HF9 := Lib.hid hiff9; clear hown9 hgrow9 hiff9 M9'; go_frame))
              go_ret2
              have HLL : (L1.take j ++ (z, newC d owner t) :: L1.drop j).length = j + 1 + (L1.length - j) := by rw [List.length_append, List.length_cons, List.length_take, List.length_drop, Nat.min_eq_left hj]; omega
              have HCC : meCells (L1.take j ++ (z, newC d owner t) :: L1.drop j) = (meCells (L1.take j) ++ meCells [(z, newC d owner t)]) ++ meCells (L1.drop j) := by rw [← meCells_append, ← meCells_append, List.append_assoc]; rfl
              have R9 := HO9.out
              rw [← HLL, ← HCC] at R9
              have MT := HM9'.out.turn R9 (by have := HM7.out.base_le; simp; omega) (by simp; omega)
              rw [HLL] at MT
              refine ⟨rfl, g9, cap9, _, MT, R8.out.ins (by rw [updN_other HZN.out]; exact HT1.out) _ j HLW HST, ?_, ((O9.trans (Only.of_below _ _ (b7.trans (b9.mono b7.size)))).setp 0 _), .inr ?_⟩
              · rw [HLL]; first | (show j + 1 + (L1.length - j) = L.length + 1; omega) | (show j + 1 + (L1.length - j) = L1.length + 1; omega)
              · have := (R9.lt g9 rfl).1; simp at this; have := O9.size; have := b7.size; omega
            · have HLW2 := HLW.succ he hB
              have M10 := M9
              clear M9
              go_wp2_with fail
              go_roundw
              case rel => exact ⟨j + 1, by omega, by go_num, M10, O9, HLW2⟩
              case measure => simp [intOf]; omega
          · have hjl : j = L1.length := by omega
            have HST : StopL L1 j z := StopL.len hjl
            have hlt2 : decide ((j : Int) < (L1.length : Int)) = false := by simp; omega
            have hcap0 := M9.cap_le
            have HJL := Lib.hid hjl
            by_cases hcj : cap = j
            · subst hcj
              have HM9 := Lib.hid M9
              have hm9 := M9.ltm
              have hmne : ¬ mp = wr.heap.size := by omega
              have hmne2 : ¬ wr.heap.size = mp := by omega
              have hcap := M9.cap_le
              clear hjl
              clear M9 hd hL i0 i1 i2 s0 s1 s2 s3 O0 O1 d1 d60 e1
              obtain ⟨i1, hi1, hz1, hz2, hz3⟩ := info_parts info_me
              have RM := World.ownsRow_made (base := wr.heap.size) (e := 49) (size := 8) wr #[] 0 (Nat.le_refl _) (Nat.zero_le _) rfl
              go_upto_region 28 with (at_builtin; refine wpList_append_own _ rfl _ _ _ rfl wr.heap.size 49 i1 _ 8 80 und_mes hi1 hz1 hz2 hz3 rfl (by decide) (.slice (some ⟨wr.heap.size, 0, none⟩) 0 0) 0 [] rfl RM ⟨g, 0, none⟩ 0 0 [] rfl rfl (fun q u hq => by simp at hq) (fun u hu => by cases hu) (by unfold maxLen; omega) (by omega) (by simp) ?_; intro v7 w7 hown7 hgrow7 hiff7; go_frame)
              have b7 : Below wr.heap.size wr w7 := ((Below.refl wr.heap.size wr).alloc (Nat.le_refl _) (.cells #[] 49)).grown hgrow7 (by simp) (fun q hq => by cases hq; exact Nat.le_refl _)
              rw [Nat.zero_add, List.nil_append] at hown7
              have hv7 : ∃ g7 cap7, v7 = .slice (some ⟨g7, 0, none⟩) 0 cap7 := by
                rcases hown7.2 with ⟨h0, _⟩ | ⟨g7, cap7, _, h0, _⟩
                · have := (hiff7.1 h0).1; cases this
                · exact ⟨g7, cap7, h0⟩
              obtain ⟨g7, cap7, rfl⟩ := hv7
              have M7 := HM9.out.below b7
              have y7 := M7.cell
              have hm7 := M7.ltm
              have n7 : ¬ mp = w7.heap.size := by omega
              have n8 : ¬ w7.heap.size = mp := by omega
              have HM7 := Lib.hid M7
              have HO7 := Lib.hid hown7
              have q1 : (cap : Int) ≤ (L1.length : Int) := by omega
              have q2 : (0 : Int) ≤ (L1.length : Int) := by omega
              clear M7 hown7 hgrow7 hiff7 RM y0 hmne hmne2 hm9 hlt2
              have HNE := Lib.hid (World.news_of_block (heap_alloc_new w7 (.cells #[.string (bs z), .string d, .int .i64 0, .int .i64 0, .int .i64 owner, .int .i64 t, .int .i64 t, .int .i64 0] 49)))
              have HOL : Hid (∀ b, some (⟨g, 0, none⟩ : Addr) = some b → ∀ q u, (meCells (L1.take cap))[q]? = some u → (w7.alloc (.cells #[.string (bs z), .string d, .int .i64 0, .int .i64 0, .int .i64 owner, .int .i64 t, .int .i64 t, .int .i64 0] 49)).cell? (b.add q) = some u) := Lib.hid (fun b hb q u hq => by
                cases hb
                exact HM7.out.olds cap q u hq _)
              have HLT : (meCells (L1.take cap)).length = cap * 8 := by rw [meCells_len, List.length_take, Nat.min_eq_left hj]
              have hO2 := meCells_one [(z, newC d owner t)]
              have rE : (w7.alloc (.cells #[.string (bs z), .string d, .int .i64 0, .int .i64 0, .int .i64 owner, .int .i64 t, .int .i64 t, .int .i64 0] 49)).heap.size = w7.heap.size + 1 := by simp
              have HX : Hid (∀ (W8 : World) (v8 : Value) (n : Nat) (xs : List Value) (W9 : World), (w7.alloc (.cells #[.string (bs z), .string d, .int .i64 0, .int .i64 0, .int .i64 owner, .int .i64 t, .int .i64 t, .int .i64 0] 49)).grownBy W8 none → W8.ownsRow (w7.alloc (.cells #[.string (bs z), .string d, .int .i64 0, .int .i64 0, .int .i64 owner, .int .i64 t, .int .i64 t, .int .i64 0] 49)).heap.size 49 8 v8 n xs → W8.grownBy W9 v8.ownBlock → Below w7.heap.size w7 W9) := Lib.hid (fun W8 v8 n xs W9 h1 h2 h3 => by
                have b := ((Below.refl w7.heap.size w7).alloc (Nat.le_refl _) _).grown h1 (by simp) (fun q hq => by cases hq)
                exact b.grown h3 b.size (fun q hq => by have := (World.ownsRow.lt h2 q hq).1; simp at this; omega))
              go_wp2_with (first
                | (at_builtin; refine wpList_append_grows _ rfl _ _ _ rfl 49 i1 _ 8 80 und_mes hi1 hz1 hz2 hz3 rfl (by decide) (some ⟨g, 0, none⟩) cap cap (meCells (L1.take cap)) rfl (fun h => by cases h) HLT HOL.out ⟨w7.heap.size, 0, none⟩ 1 1 (meCells [(z, newC d owner t)]) rfl rfl HNE.out hO2 (by omega) (by unfold maxLen; omega) (by omega) ?_; intro v8 w8' hown8 hgrow8; obtain ⟨g8, cap8, rfl, _⟩ := hown8.form (by omega); have HGR := Lib.hid hgrow8; have HOW := Lib.hid hown8; have hs8 := hgrow8.size; clear hown8 hgrow8; go_frame)
                | (at_builtin; refine wpList_append_own _ rfl _ _ _ rfl (w7.alloc (.cells #[.string (bs z), .string d, .int .i64 0, .int .i64 0, .int .i64 owner, .int .i64 t, .int .i64 t, .int .i64 0] 49)).heap.size 49 i1 _ 8 80 und_mes hi1 hz1 hz2 hz3 rfl (by decide) (.slice (some ⟨g8, 0, none⟩) (cap + 1) cap8) (cap + 1) (meCells (L1.take cap) ++ meCells [(z, newC d owner t)]) rfl HOW.out ⟨g7, 0, none⟩ 0 cap7 [] rfl rfl (fun q u hq => by simp at hq) (fun u hu => by cases hu) (by unfold maxLen; omega) (by omega) hs8 ?_; intro v9 w9 hown9 hgrow9 hiff9; obtain ⟨g9, cap9, rfl, _⟩ := hown9.form (by omega); have b9 := HX.out _ _ _ _ _ HGR.out HOW.out hgrow9; have M9' := HM7.out.below b9; have z9 := M9'.cell; have z8 := M9'.frz; have HM9' := Lib.hid M9'; have HO9 := Lib.hid hown9; have HF9 := Lib.hid hiff9; clear hown9 hgrow9 hiff9 M9'; go_frame))
              go_ret2
              have hdrop : L1.drop cap = [] := List.drop_eq_nil_of_le (by have := HJL.out; omega)
              have HLL : (L1.take cap ++ (z, newC d owner t) :: L1.drop cap).length = cap + 1 + 0 := by rw [hdrop, List.length_append, List.length_cons, List.length_take, Nat.min_eq_left hj]; rfl
              have HCC : meCells (L1.take cap ++ (z, newC d owner t) :: L1.drop cap) = (meCells (L1.take cap) ++ meCells [(z, newC d owner t)]) ++ [] := by rw [hdrop, ← meCells_append, List.append_nil]
              have R9 := HO9.out
              rw [← HLL, ← HCC] at R9
              have MT := HM9'.out.turn R9 (by have := HM7.out.base_le; simp; omega) (by simp; omega)
              rw [HLL] at MT
              refine ⟨rfl, g9, cap9, _, MT, R8.out.ins (by rw [updN_other HZN.out]; exact HT1.out) _ cap HLW HST, ?_, ((O9.trans (Only.of_below _ _ (b7.trans (b9.mono b7.size)))).setp 0 _), .inr ?_⟩
              · rw [HLL]; first | (show cap + 1 + 0 = L.length + 1; omega) | (show cap + 1 + 0 = L1.length + 1; omega)
              · have := (R9.lt g9 rfl).1; simp at this; have := O9.size; have := b7.size; omega
            · clear hcap0 hjl
              have HM9 := Lib.hid M9
              have hm9 := M9.ltm
              have hmne : ¬ mp = wr.heap.size := by omega
              have hmne2 : ¬ wr.heap.size = mp := by omega
              have hcap := M9.cap_le
              clear M9 hd hL i0 i1 i2 s0 s1 s2 s3 O0 O1 d1 d60 e1
              obtain ⟨i1, hi1, hz1, hz2, hz3⟩ := info_parts info_me
              have RM := World.ownsRow_made (base := wr.heap.size) (e := 49) (size := 8) wr #[] 0 (Nat.le_refl _) (Nat.zero_le _) rfl
              have HNW := Lib.hid (HM9.out.news j)
              have HNA : Hid (∀ q u, (meCells (L1.drop j))[q]? = some u → (wr.alloc (.cells #[] 49)).cell? ((⟨g, j * 8, none⟩ : Addr).add q) = some u) := Lib.hid (fun q u hq => by
                have h1 := HNW.out q u hq
                have hga : (⟨g, j * 8, none⟩ : Addr).add q = ⟨g, j * 8 + q, none⟩ := by simp [Addr.add]
                rw [hga] at h1 ⊢
                rw [((Below.refl wr.heap.size wr).alloc (Nat.le_refl _) _).cell (p := ⟨g, j * 8 + q, none⟩) HM9.out.ltg]; exact h1)
              have HLN : (meCells (L1.drop j)).length = (L1.length - j) * 8 := by rw [meCells_len, List.length_drop]
              have hO1 := meCells_one (L1.drop j)
              have hj2 : j < cap := by have := HJL.out; omega
              have hj4 : ¬ cap = j := by omega
              have hj5 : ¬ j = cap := by omega
              have hj6 : (j : Int) ≤ (cap : Int) := by omega
              go_upto_region 28 with (at_builtin; refine wpList_append_own _ rfl _ _ _ rfl wr.heap.size 49 i1 _ 8 80 und_mes hi1 hz1 hz2 hz3 rfl (by decide) (.slice (some ⟨wr.heap.size, 0, none⟩) 0 0) 0 [] rfl RM ⟨g, j * 8, none⟩ (L1.length - j) (cap - j) (meCells (L1.drop j)) rfl HLN (fun q u hq => HNA.out q u hq) hO1 (by unfold maxLen; omega) (by omega) (by simp) ?_; intro v7 w7 hown7 hgrow7 hiff7; go_frame)
              have b7 : Below wr.heap.size wr w7 := ((Below.refl wr.heap.size wr).alloc (Nat.le_refl _) (.cells #[] 49)).grown hgrow7 (by simp) (fun q hq => by cases hq; exact Nat.le_refl _)
              rw [Nat.zero_add, List.nil_append] at hown7
              have hv7 : ∃ g7 cap7, v7 = .slice (some ⟨g7, 0, none⟩) (L1.length - j) cap7 := by
                rcases hown7.2 with ⟨h0, _⟩ | ⟨g7, cap7, _, h0, _⟩
                · have := (hiff7.1 h0).1; cases this
                · exact ⟨g7, cap7, h0⟩
              obtain ⟨g7, cap7, rfl⟩ := hv7
              have M7 := HM9.out.below b7
              have y7 := M7.cell
              have hm7 := M7.ltm
              have n7 : ¬ mp = w7.heap.size := by omega
              have n8 : ¬ w7.heap.size = mp := by omega
              have HM7 := Lib.hid M7
              have HO7 := Lib.hid hown7
              have q1 : (j : Int) ≤ (L1.length : Int) := by omega
              have q2 : (0 : Int) ≤ (L1.length : Int) := by omega
              clear M7 hown7 hgrow7 hiff7 RM HNW HNA HLN hO1 y0 hmne hmne2 hm9 hlt2
              have HNE := Lib.hid (World.news_of_block (heap_alloc_new w7 (.cells #[.string (bs z), .string d, .int .i64 0, .int .i64 0, .int .i64 owner, .int .i64 t, .int .i64 t, .int .i64 0] 49)))
              have HOL : Hid (∀ b, some (⟨g, 0, none⟩ : Addr) = some b → ∀ q u, (meCells (L1.take j))[q]? = some u → (w7.alloc (.cells #[.string (bs z), .string d, .int .i64 0, .int .i64 0, .int .i64 owner, .int .i64 t, .int .i64 t, .int .i64 0] 49)).cell? (b.add q) = some u) := Lib.hid (fun b hb q u hq => by
                cases hb
                exact HM7.out.olds j q u hq _)
              have HLT : (meCells (L1.take j)).length = j * 8 := by rw [meCells_len, List.length_take, Nat.min_eq_left hj]
              have hO2 := meCells_one [(z, newC d owner t)]
              have rE : (w7.alloc (.cells #[.string (bs z), .string d, .int .i64 0, .int .i64 0, .int .i64 owner, .int .i64 t, .int .i64 t, .int .i64 0] 49)).heap.size = w7.heap.size + 1 := by simp
              have HX : Hid (∀ (W8 : World) (v8 : Value) (n : Nat) (xs : List Value) (W9 : World), (w7.alloc (.cells #[.string (bs z), .string d, .int .i64 0, .int .i64 0, .int .i64 owner, .int .i64 t, .int .i64 t, .int .i64 0] 49)).grownBy W8 none → W8.ownsRow (w7.alloc (.cells #[.string (bs z), .string d, .int .i64 0, .int .i64 0, .int .i64 owner, .int .i64 t, .int .i64 t, .int .i64 0] 49)).heap.size 49 8 v8 n xs → W8.grownBy W9 v8.ownBlock → Below w7.heap.size w7 W9) := Lib.hid (fun W8 v8 n xs W9 h1 h2 h3 => by
                have b := ((Below.refl w7.heap.size w7).alloc (Nat.le_refl _) _).grown h1 (by simp) (fun q hq => by cases hq)
                exact b.grown h3 b.size (fun q hq => by have := (World.ownsRow.lt h2 q hq).1; simp at this; omega))
              have HNX : Hid (∀ W8 : World, (w7.alloc (.cells #[.string (bs z), .string d, .int .i64 0, .int .i64 0, .int .i64 owner, .int .i64 t, .int .i64 t, .int .i64 0] 49)).grownBy W8 none → ∀ q u, (meCells (L1.drop j))[q]? = some u → W8.cell? ((⟨g7, 0, none⟩ : Addr).add q) = some u) := Lib.hid (fun W8 h1 q u hq => ((HO7.out.alloc _).kept h1 (by simp [Value.ownBlock])).cells rfl q u hq)
              have HLN : (meCells (L1.drop j)).length = (L1.length - j) * 8 := by rw [meCells_len, List.length_drop]
              have hO3 := meCells_one (L1.drop j)
              go_wp2_with (first
                | (at_builtin; refine wpList_append_grows _ rfl _ _ _ rfl 49 i1 _ 8 80 und_mes hi1 hz1 hz2 hz3 rfl (by decide) (some ⟨g, 0, none⟩) j j (meCells (L1.take j)) rfl (fun h => by cases h) HLT HOL.out ⟨w7.heap.size, 0, none⟩ 1 1 (meCells [(z, newC d owner t)]) rfl rfl HNE.out hO2 (by omega) (by unfold maxLen; omega) (by omega) ?_; intro v8 w8' hown8 hgrow8; obtain ⟨g8, cap8, rfl, _⟩ := hown8.form (by omega); have HN8 := Lib.hid (HNX.out w8' hgrow8); have HGR := Lib.hid hgrow8; have HOW := Lib.hid hown8; have hs8 := hgrow8.size; clear hown8 hgrow8; go_frame)
                | (at_builtin; refine wpList_append_own _ rfl _ _ _ rfl (w7.alloc (.cells #[.string (bs z), .string d, .int .i64 0, .int .i64 0, .int .i64 owner, .int .i64 t, .int .i64 t, .int .i64 0] 49)).heap.size 49 i1 _ 8 80 und_mes hi1 hz1 hz2 hz3 rfl (by decide) (.slice (some ⟨g8, 0, none⟩) (j + 1) cap8) (j + 1) (meCells (L1.take j) ++ meCells [(z, newC d owner t)]) rfl HOW.out ⟨g7, 0, none⟩ (L1.length - j) cap7 (meCells (L1.drop j)) rfl HLN HN8.out hO3 (by unfold maxLen; omega) (by omega) hs8 ?_; intro v9 w9 hown9 hgrow9 hiff9; obtain ⟨g9, cap9, rfl, _⟩ := hown9.form (by omega); have b9 := HX.out _ _ _ _ _ HGR.out HOW.out hgrow9; have M9' := HM7.out.below b9; have z9 := M9'.cell; have z8 := M9'.frz; have HM9' := Lib.hid M9'; have HO9 := Lib.hid hown9; have HF9 := Lib.hid hiff9; clear hown9 hgrow9 hiff9 M9'; go_frame))
              go_ret2
              have HLL : (L1.take j ++ (z, newC d owner t) :: L1.drop j).length = j + 1 + (L1.length - j) := by rw [List.length_append, List.length_cons, List.length_take, List.length_drop, Nat.min_eq_left hj]; omega
              have HCC : meCells (L1.take j ++ (z, newC d owner t) :: L1.drop j) = (meCells (L1.take j) ++ meCells [(z, newC d owner t)]) ++ meCells (L1.drop j) := by rw [← meCells_append, ← meCells_append, List.append_assoc]; rfl
              have R9 := HO9.out
              rw [← HLL, ← HCC] at R9
              have MT := HM9'.out.turn R9 (by have := HM7.out.base_le; simp; omega) (by simp; omega)
              rw [HLL] at MT
              refine ⟨rfl, g9, cap9, _, MT, R8.out.ins (by rw [updN_other HZN.out]; exact HT1.out) _ j HLW HST, ?_, ((O9.trans (Only.of_below _ _ (b7.trans (b9.mono b7.size)))).setp 0 _), .inr ?_⟩
              · rw [HLL]; first | (show j + 1 + (L1.length - j) = L.length + 1; omega) | (show j + 1 + (L1.length - j) = L1.length + 1; omega)
              · have := (R9.lt g9 rfl).1; simp at this; have := O9.size; have := b7.size; omega
  · obtain ⟨z1, hz1⟩ : ∃ z1, z1 = pathC z par true := ⟨_, rfl⟩
    have HSer : Hid (∀ W : World, Calls Tryz.prog 56 #[.string (bs z), .int .i64 par.serial] W fun e w' => e = .returned (.string (bs z1)) ∧ Below W.heap.size W w') := Lib.hid (fun W => by
      have := serial_small (bs z) par.serial.toNat W (by rw [bs_size]; omega) (by omega)
      rw [bs_list, Int.toNat_of_nonneg s0, serialL_dig _ _ (by omega)] at this
      rw [hz1]; exact this)
    have HC1 := Lib.hid (fun W : World => check_any (bs z1) W)
    cases hck1 : checkL z1
    · rw [cr_F hp (by rw [← hz1]; exact hck1)]
      have hE1 : checkE z1 = 10 := by unfold checkE; rw [hck1]; rfl
      have HE1 := Lib.hid hE1
      clear hE1 hck1 hp hck hE hS h hR hzr hTu hi hLi ho hz1 hd60
      go_enter Tryz.func31, Tryz.ntmps31
      go_wp2_with fail
      refine (HC.out _).mono ?_
      rintro e w1 ⟨rfl, b1⟩
      rw [bs_list, HE.out]
      go_wp2_with fail
      refine (HU.out _).mono ?_
      rintro e w2 ⟨rfl, m, hw2⟩
      have b2 : Below w.heap.size w w2 := by rw [hw2]; exact b1.trans ((drewN_below w1 m).mono b1.size)
      clear hw2
      go_wp2_with fail
      refine (HF.out _ _ b2).mono ?_
      rintro e w3 ⟨rfl, b3⟩
      rw [HI.out]
      replace b3 := b2.trans (b3.mono b2.size)
      have M3 := HM.out.below b3
      have x0 := M3.cell
      obtain ⟨c0, c1, c2, c3, c4, c5, c6, c7⟩ := M3.cells i _ HLI.out
      clear M3
      go_wp2_with fail
      refine (HSer.out _).mono ?_
      rintro e w4 ⟨rfl, b4⟩
      replace b4 := b3.trans (b4.mono b3.size)
      go_wp2_with fail
      refine (HC1.out _).mono ?_
      rintro e w5 ⟨rfl, b5⟩
      rw [bs_list, HE1.out]
      replace b5 := b4.trans (b5.mono b4.size)
      go_wp2_with fail
      go_ret2
      exact ⟨rfl, MLeft.same HM.out HR.out rfl rfl b5⟩
    · cases hT1 : T z1 with
      | some n1 =>
        rw [cr_G hp (by rw [← hz1]; exact hck1) (by rw [← hz1]; exact hT1)]
        have hE1 : checkE z1 = 0 := by unfold checkE; rw [hck1]; rfl
        have HE1 := Lib.hid hE1
        clear hE1 hck1
        obtain ⟨j, hj, _⟩ := hR.find_some hT1
        have HJ := Lib.hid hj
        have j0 : decide ((0 : Int) ≤ (j : Int)) = true := by simp
        have j1 : (0 : Int) ≤ (j : Int) := by omega
        clear hj
        clear hp hck hE hS h hR hzr hTu hi hLi ho hz1 hd60 hT1
        go_enter Tryz.func31, Tryz.ntmps31
        go_wp2_with fail
        refine (HC.out _).mono ?_
        rintro e w1 ⟨rfl, b1⟩
        rw [bs_list, HE.out]
        go_wp2_with fail
        refine (HU.out _).mono ?_
        rintro e w2 ⟨rfl, m, hw2⟩
        have b2 : Below w.heap.size w w2 := by rw [hw2]; exact b1.trans ((drewN_below w1 m).mono b1.size)
        clear hw2
        go_wp2_with fail
        refine (HF.out _ _ b2).mono ?_
        rintro e w3 ⟨rfl, b3⟩
        rw [HI.out]
        replace b3 := b2.trans (b3.mono b2.size)
        have M3 := HM.out.below b3
        have x0 := M3.cell
        obtain ⟨c0, c1, c2, c3, c4, c5, c6, c7⟩ := M3.cells i _ HLI.out
        clear M3
        go_wp2_with fail
        refine (HSer.out _).mono ?_
        rintro e w4 ⟨rfl, b4⟩
        replace b4 := b3.trans (b4.mono b3.size)
        go_wp2_with fail
        refine (HC1.out _).mono ?_
        rintro e w5 ⟨rfl, b5⟩
        rw [bs_list, HE1.out]
        replace b5 := b4.trans (b5.mono b4.size)
        go_wp2_with fail
        refine (HF.out _ _ b5).mono ?_
        rintro e w6 ⟨rfl, b6⟩
        rw [HJ.out]
        replace b6 := b5.trans (b6.mono b5.size)
        go_wp2_with fail
        go_ret2
        exact ⟨rfl, MLeft.same HM.out HR.out rfl rfl b6⟩
      | none =>
        by_cases hc60 : 60 ≤ L.length
        · rw [cr_H hp (by rw [← hz1]; exact hck1) (by rw [← hz1]; exact hT1) L.length hc60]
          have hE1 : checkE z1 = 0 := by unfold checkE; rw [hck1]; rfl
          have HE1 := Lib.hid hE1
          clear hE1 hck1
          have HJ := Lib.hid (hR.find_none hT1)
          have d60 : decide ((60 : Int) ≤ (L.length : Int)) = true := by simp; omega
          clear hp hck hE hS h hR hzr hTu hi hLi ho hz1 hd60 hT1
          go_enter Tryz.func31, Tryz.ntmps31
          go_wp2_with fail
          refine (HC.out _).mono ?_
          rintro e w1 ⟨rfl, b1⟩
          rw [bs_list, HE.out]
          go_wp2_with fail
          refine (HU.out _).mono ?_
          rintro e w2 ⟨rfl, m, hw2⟩
          have b2 : Below w.heap.size w w2 := by rw [hw2]; exact b1.trans ((drewN_below w1 m).mono b1.size)
          clear hw2
          go_wp2_with fail
          refine (HF.out _ _ b2).mono ?_
          rintro e w3 ⟨rfl, b3⟩
          rw [HI.out]
          replace b3 := b2.trans (b3.mono b2.size)
          have M3 := HM.out.below b3
          have x0 := M3.cell
          obtain ⟨c0, c1, c2, c3, c4, c5, c6, c7⟩ := M3.cells i _ HLI.out
          clear M3
          go_wp2_with fail
          refine (HSer.out _).mono ?_
          rintro e w4 ⟨rfl, b4⟩
          replace b4 := b3.trans (b4.mono b3.size)
          go_wp2_with fail
          refine (HC1.out _).mono ?_
          rintro e w5 ⟨rfl, b5⟩
          rw [bs_list, HE1.out]
          replace b5 := b4.trans (b5.mono b4.size)
          go_wp2_with fail
          refine (HF.out _ _ b5).mono ?_
          rintro e w6 ⟨rfl, b6⟩
          rw [HJ.out]
          replace b6 := b5.trans (b6.mono b5.size)
          have y0 := (HM.out.below b6).cell
          go_wp2_with fail
          go_ret2
          exact ⟨rfl, MLeft.same HM.out HR.out rfl rfl b6⟩
        · rw [cr_I hp (by rw [← hz1]; exact hck1) (by rw [← hz1]; exact hT1) L.length hc60]
          have hE1 : checkE z1 = 0 := by unfold checkE; rw [hck1]; rfl
          have HE1 := Lib.hid hE1
          clear hE1 hck1
          have HJ := Lib.hid (hR.find_none hT1)
          have d60 : decide ((60 : Int) ≤ (L.length : Int)) = false := by simp; omega
          have hc59 : L.length < 60 := by omega
          rw [← hz1]
          have HT1 := Lib.hid hT1
          have hzn : z1 ≠ upP z := by intro e; rw [e, hTu] at hT1; cases hT1
          have HZN := Lib.hid hzn
          clear hzn
          clear hp hck hE hS h hR hzr hTu hi hLi ho hz1 hd60 hT1
          clear hc60
          go_enter Tryz.func31, Tryz.ntmps31
          go_wp2_with fail
          refine (HC.out _).mono ?_
          rintro e w1 ⟨rfl, b1⟩
          rw [bs_list, HE.out]
          go_wp2_with fail
          refine (HU.out _).mono ?_
          rintro e w2 ⟨rfl, m, hw2⟩
          have b2 : Below w.heap.size w w2 := by rw [hw2]; exact b1.trans ((drewN_below w1 m).mono b1.size)
          clear hw2
          go_wp2_with fail
          refine (HF.out _ _ b2).mono ?_
          rintro e w3 ⟨rfl, b3⟩
          rw [HI.out]
          replace b3 := b2.trans (b3.mono b2.size)
          have M3 := HM.out.below b3
          have x0 := M3.cell
          obtain ⟨c0, c1, c2, c3, c4, c5, c6, c7⟩ := M3.cells i _ HLI.out
          clear M3
          go_wp2_with fail
          refine (HSer.out _).mono ?_
          rintro e w4 ⟨rfl, b4⟩
          replace b4 := b3.trans (b4.mono b3.size)
          go_wp2_with fail
          refine (HC1.out _).mono ?_
          rintro e w5 ⟨rfl, b5⟩
          rw [bs_list, HE1.out]
          replace b5 := b4.trans (b5.mono b4.size)
          go_wp2_with fail
          refine (HF.out _ _ b5).mono ?_
          rintro e w6 ⟨rfl, b6⟩
          rw [HJ.out]
          replace b6 := b5.trans (b6.mono b5.size)
          have M6 := HM.out.below b6
          have y0 := M6.cell
          obtain ⟨k0, k1, k2, k3, k4, k5, k6, k7⟩ := M6.cells i _ HLI.out
          have f3 := M6.row.frozenAt (i * 8 + 3)
          have f7 := M6.row.frozenAt (i * 8 + 7)
          clear c0 c1 c2 c3 c4 c5 c6 c7 x0 b1 b2 b3 b5 M6
          clear b4
          go_upto_region 24 with fail
          have M8 := ((HM.out.below b6).put i 7 _ (upP z, { par with serial := par.serial + 1 }) (.int .i64 (par.serial + 1)) HLI.out (by decide) rfl).put i 3 (upP z, { par with serial := par.serial + 1 }) (upP z, upC (parC par true)) (.int .i64 (par.below + 1)) (by rw [List.getElem?_set_self hil]) (by decide) rfl
          rw [List.set_set] at M8
          have O8 := ((Only.of_below mp g b6).set (i * 8 + 7) (.int .i64 (par.serial + 1))).set (i * 8 + 3) (.int .i64 (par.below + 1))
          obtain ⟨w8, hw8⟩ : ∃ w8, w8 = (w6.setCell ⟨g, i * 8 + 7, none⟩ (.int .i64 (par.serial + 1))).setCell ⟨g, i * 8 + 3, none⟩ (.int .i64 (par.below + 1)) := ⟨_, rfl⟩
          rw [← hw8] at M8 O8 ⊢
          clear hw8 k0 k1 k2 k3 k4 k5 k6 k7 f3 f7 y0 b6
          have R8 := Lib.hid (HR.out.set HLI.out (upC (parC par true)))
          obtain ⟨L1, hL1⟩ : ∃ L1, L1 = L.set i (upP z, upC (parC par true)) := ⟨_, rfl⟩
          have hl1 : L.length = L1.length := by rw [hL1, List.length_set]
          rw [← hL1] at M8 R8
          clear hL1
          go_wp2_with fail
          go_loopw [17] (fun iv wr => ∃ j : Nat, j ≤ L1.length ∧ iv = .int .i64 j ∧ ModL wr base mp g cap L1 ∧ Only w wr mp g ∧ LowL L1 j z1) (fun iv _ => L1.length - (intOf iv).toNat)
          case atStart => exact ⟨0, by omega, rfl, M8, O8, LowL.zero L1 z1⟩
          case round =>
            obtain ⟨j, hj, rfl, M9, O9, HLW⟩ := hrel
            clear M8 O8
            have y0 := M9.cell
            have j0 : (0 : Int) ≤ (j : Int) := by omega
            have j3 : (j : Int) ≤ (L1.length : Int) := by omega
            by_cases hlt : j < L1.length
            · obtain ⟨e, he⟩ : ∃ e, L1[j]? = some e := ⟨L1[j], by simp [hlt]⟩
              obtain ⟨k0, k1, k2, k3, k4, k5, k6, k7⟩ := M9.cells j e he
              have hlt2 : decide ((j : Int) < (L1.length : Int)) = true := by simp; omega
              have t2 : IntKind.i64.wrap ((j : Int) + 1) = (j : Int) + 1 := IntWalk.i64_in _ (by omega)
              cases hB : Op.bytesLess (bs e.1).toList (bs z1).toList
              · have HST : StopL L1 j z1 := StopL.at he hB
                clear k1 k2 k3 k4 k5 k6 k7 he
                have HM9 := Lib.hid M9
                have hm9 := M9.ltm
                have hmne : ¬ mp = wr.heap.size := by omega
                have hmne2 : ¬ wr.heap.size = mp := by omega
                have hcap := M9.cap_le
                clear M9 hd hL i0 i1 i2 s0 s1 s2 s3 O0 O1 d1 d60 e1
                obtain ⟨i1, hi1, hz1, hz2, hz3⟩ := info_parts info_me
                have RM := World.ownsRow_made (base := wr.heap.size) (e := 49) (size := 8) wr #[] 0 (Nat.le_refl _) (Nat.zero_le _) rfl
                have HNW := Lib.hid (HM9.out.news j)
                have HNA : Hid (∀ q u, (meCells (L1.drop j))[q]? = some u → (wr.alloc (.cells #[] 49)).cell? ((⟨g, j * 8, none⟩ : Addr).add q) = some u) := Lib.hid (fun q u hq => by
                  have h1 := HNW.out q u hq
                  have hga : (⟨g, j * 8, none⟩ : Addr).add q = ⟨g, j * 8 + q, none⟩ := by simp [Addr.add]
                  rw [hga] at h1 ⊢
                  rw [((Below.refl wr.heap.size wr).alloc (Nat.le_refl _) _).cell (p := ⟨g, j * 8 + q, none⟩) HM9.out.ltg]; exact h1)
                have HLN : (meCells (L1.drop j)).length = (L1.length - j) * 8 := by rw [meCells_len, List.length_drop]
                have hO1 := meCells_one (L1.drop j)
                have hj2 : j < cap := by omega
                have hj4 : ¬ cap = j := by omega
                have hj5 : ¬ j = cap := by omega
                have hj6 : (j : Int) ≤ (cap : Int) := by omega
                go_upto_region 28 with (at_builtin; refine wpList_append_own _ rfl _ _ _ rfl wr.heap.size 49 i1 _ 8 80 und_mes hi1 hz1 hz2 hz3 rfl (by decide) (.slice (some ⟨wr.heap.size, 0, none⟩) 0 0) 0 [] rfl RM ⟨g, j * 8, none⟩ (L1.length - j) (cap - j) (meCells (L1.drop j)) rfl HLN (fun q u hq => HNA.out q u hq) hO1 (by unfold maxLen; omega) (by omega) (by simp) ?_; intro v7 w7 hown7 hgrow7 hiff7; go_frame)
                have b7 : Below wr.heap.size wr w7 := ((Below.refl wr.heap.size wr).alloc (Nat.le_refl _) (.cells #[] 49)).grown hgrow7 (by simp) (fun q hq => by cases hq; exact Nat.le_refl _)
                rw [Nat.zero_add, List.nil_append] at hown7
                have hv7 : ∃ g7 cap7, v7 = .slice (some ⟨g7, 0, none⟩) (L1.length - j) cap7 := by
                  rcases hown7.2 with ⟨h0, _⟩ | ⟨g7, cap7, _, h0, _⟩
                  · have := (hiff7.1 h0).1; cases this
                  · exact ⟨g7, cap7, h0⟩
                obtain ⟨g7, cap7, rfl⟩ := hv7
                have M7 := HM9.out.below b7
                have y7 := M7.cell
                have hm7 := M7.ltm
                have n7 : ¬ mp = w7.heap.size := by omega
                have n8 : ¬ w7.heap.size = mp := by omega
                have HM7 := Lib.hid M7
                have HO7 := Lib.hid hown7
                have q1 : (j : Int) ≤ (L1.length : Int) := by omega
                have q2 : (0 : Int) ≤ (L1.length : Int) := by omega
                clear M7 hown7 hgrow7 hiff7 RM HNW HNA HLN hO1 y0 k0 hmne hmne2 hm9 hlt2 t2 hB
                have HNE := Lib.hid (World.news_of_block (heap_alloc_new w7 (.cells #[.string (bs z1), .string d, .int .i64 0, .int .i64 0, .int .i64 owner, .int .i64 t, .int .i64 t, .int .i64 0] 49)))
                have HOL : Hid (∀ b, some (⟨g, 0, none⟩ : Addr) = some b → ∀ q u, (meCells (L1.take j))[q]? = some u → (w7.alloc (.cells #[.string (bs z1), .string d, .int .i64 0, .int .i64 0, .int .i64 owner, .int .i64 t, .int .i64 t, .int .i64 0] 49)).cell? (b.add q) = some u) := Lib.hid (fun b hb q u hq => by
                  cases hb
                  exact HM7.out.olds j q u hq _)
                have HLT : (meCells (L1.take j)).length = j * 8 := by rw [meCells_len, List.length_take, Nat.min_eq_left hj]
                have hO2 := meCells_one [(z1, newC d owner t)]
                have rE : (w7.alloc (.cells #[.string (bs z1), .string d, .int .i64 0, .int .i64 0, .int .i64 owner, .int .i64 t, .int .i64 t, .int .i64 0] 49)).heap.size = w7.heap.size + 1 := by simp
                have HX : Hid (∀ (W8 : World) (v8 : Value) (n : Nat) (xs : List Value) (W9 : World), (w7.alloc (.cells #[.string (bs z1), .string d, .int .i64 0, .int .i64 0, .int .i64 owner, .int .i64 t, .int .i64 t, .int .i64 0] 49)).grownBy W8 none → W8.ownsRow (w7.alloc (.cells #[.string (bs z1), .string d, .int .i64 0, .int .i64 0, .int .i64 owner, .int .i64 t, .int .i64 t, .int .i64 0] 49)).heap.size 49 8 v8 n xs → W8.grownBy W9 v8.ownBlock → Below w7.heap.size w7 W9) := Lib.hid (fun W8 v8 n xs W9 h1 h2 h3 => by
                  have b := ((Below.refl w7.heap.size w7).alloc (Nat.le_refl _) _).grown h1 (by simp) (fun q hq => by cases hq)
                  exact b.grown h3 b.size (fun q hq => by have := (World.ownsRow.lt h2 q hq).1; simp at this; omega))
                have HNX : Hid (∀ W8 : World, (w7.alloc (.cells #[.string (bs z1), .string d, .int .i64 0, .int .i64 0, .int .i64 owner, .int .i64 t, .int .i64 t, .int .i64 0] 49)).grownBy W8 none → ∀ q u, (meCells (L1.drop j))[q]? = some u → W8.cell? ((⟨g7, 0, none⟩ : Addr).add q) = some u) := Lib.hid (fun W8 h1 q u hq => ((HO7.out.alloc _).kept h1 (by simp [Value.ownBlock])).cells rfl q u hq)
                have HLN : (meCells (L1.drop j)).length = (L1.length - j) * 8 := by rw [meCells_len, List.length_drop]
                have hO3 := meCells_one (L1.drop j)
                go_wp2_with (first
                  | (at_builtin; refine wpList_append_grows _ rfl _ _ _ rfl 49 i1 _ 8 80 und_mes hi1 hz1 hz2 hz3 rfl (by decide) (some ⟨g, 0, none⟩) j j (meCells (L1.take j)) rfl (fun h => by cases h) HLT HOL.out ⟨w7.heap.size, 0, none⟩ 1 1 (meCells [(z1, newC d owner t)]) rfl rfl HNE.out hO2 (by omega) (by unfold maxLen; omega) (by omega) ?_; intro v8 w8' hown8 hgrow8; obtain ⟨g8, cap8, rfl, _⟩ := hown8.form (by omega); have HN8 := Lib.hid (HNX.out w8' hgrow8); have HGR := Lib.hid hgrow8; have HOW := Lib.hid hown8; have hs8 := hgrow8.size; clear hown8 hgrow8; go_frame)
                  | (at_builtin; refine wpList_append_own _ rfl _ _ _ rfl (w7.alloc (.cells #[.string (bs z1), .string d, .int .i64 0, .int .i64 0, .int .i64 owner, .int .i64 t, .int .i64 t, .int .i64 0] 49)).heap.size 49 i1 _ 8 80 und_mes hi1 hz1 hz2 hz3 rfl (by decide) (.slice (some ⟨g8, 0, none⟩) (j + 1) cap8) (j + 1) (meCells (L1.take j) ++ meCells [(z1, newC d owner t)]) rfl HOW.out ⟨g7, 0, none⟩ (L1.length - j) cap7 (meCells (L1.drop j)) rfl HLN HN8.out hO3 (by unfold maxLen; omega) (by omega) hs8 ?_; intro v9 w9 hown9 hgrow9 hiff9; obtain ⟨g9, cap9, rfl, _⟩ := hown9.form (by omega); have b9 := HX.out _ _ _ _ _ HGR.out HOW.out hgrow9; have M9' := HM7.out.below b9; have z9 := M9'.cell; have z8 := M9'.frz; have HM9' := Lib.hid M9'; have HO9 := Lib.hid hown9; have HF9 := Lib.hid hiff9; clear hown9 hgrow9 hiff9 M9'; go_frame))
                go_ret2
                have HLL : (L1.take j ++ (z1, newC d owner t) :: L1.drop j).length = j + 1 + (L1.length - j) := by rw [List.length_append, List.length_cons, List.length_take, List.length_drop, Nat.min_eq_left hj]; omega
                have HCC : meCells (L1.take j ++ (z1, newC d owner t) :: L1.drop j) = (meCells (L1.take j) ++ meCells [(z1, newC d owner t)]) ++ meCells (L1.drop j) := by rw [← meCells_append, ← meCells_append, List.append_assoc]; rfl
                have R9 := HO9.out
                rw [← HLL, ← HCC] at R9
                have MT := HM9'.out.turn R9 (by have := HM7.out.base_le; simp; omega) (by simp; omega)
                rw [HLL] at MT
                refine ⟨rfl, g9, cap9, _, MT, R8.out.ins (by rw [updN_other HZN.out]; exact HT1.out) _ j HLW HST, ?_, ((O9.trans (Only.of_below _ _ (b7.trans (b9.mono b7.size)))).setp 0 _), .inr ?_⟩
                · rw [HLL]; first | (show j + 1 + (L1.length - j) = L.length + 1; omega) | (show j + 1 + (L1.length - j) = L1.length + 1; omega)
                · have := (R9.lt g9 rfl).1; simp at this; have := O9.size; have := b7.size; omega
              · have HLW2 := HLW.succ he hB
                have M10 := M9
                clear M9
                go_wp2_with fail
                go_roundw
                case rel => exact ⟨j + 1, by omega, by go_num, M10, O9, HLW2⟩
                case measure => simp [intOf]; omega
            · have hjl : j = L1.length := by omega
              have HST : StopL L1 j z1 := StopL.len hjl
              have hlt2 : decide ((j : Int) < (L1.length : Int)) = false := by simp; omega
              have hcap0 := M9.cap_le
              have HJL := Lib.hid hjl
              by_cases hcj : cap = j
              · subst hcj
                have HM9 := Lib.hid M9
                have hm9 := M9.ltm
                have hmne : ¬ mp = wr.heap.size := by omega
                have hmne2 : ¬ wr.heap.size = mp := by omega
                have hcap := M9.cap_le
                clear hjl
                clear M9 hd hL i0 i1 i2 s0 s1 s2 s3 O0 O1 d1 d60 e1
                obtain ⟨i1, hi1, hz1, hz2, hz3⟩ := info_parts info_me
                have RM := World.ownsRow_made (base := wr.heap.size) (e := 49) (size := 8) wr #[] 0 (Nat.le_refl _) (Nat.zero_le _) rfl
                go_upto_region 28 with (at_builtin; refine wpList_append_own _ rfl _ _ _ rfl wr.heap.size 49 i1 _ 8 80 und_mes hi1 hz1 hz2 hz3 rfl (by decide) (.slice (some ⟨wr.heap.size, 0, none⟩) 0 0) 0 [] rfl RM ⟨g, 0, none⟩ 0 0 [] rfl rfl (fun q u hq => by simp at hq) (fun u hu => by cases hu) (by unfold maxLen; omega) (by omega) (by simp) ?_; intro v7 w7 hown7 hgrow7 hiff7; go_frame)
                have b7 : Below wr.heap.size wr w7 := ((Below.refl wr.heap.size wr).alloc (Nat.le_refl _) (.cells #[] 49)).grown hgrow7 (by simp) (fun q hq => by cases hq; exact Nat.le_refl _)
                rw [Nat.zero_add, List.nil_append] at hown7
                have hv7 : ∃ g7 cap7, v7 = .slice (some ⟨g7, 0, none⟩) 0 cap7 := by
                  rcases hown7.2 with ⟨h0, _⟩ | ⟨g7, cap7, _, h0, _⟩
                  · have := (hiff7.1 h0).1; cases this
                  · exact ⟨g7, cap7, h0⟩
                obtain ⟨g7, cap7, rfl⟩ := hv7
                have M7 := HM9.out.below b7
                have y7 := M7.cell
                have hm7 := M7.ltm
                have n7 : ¬ mp = w7.heap.size := by omega
                have n8 : ¬ w7.heap.size = mp := by omega
                have HM7 := Lib.hid M7
                have HO7 := Lib.hid hown7
                have q1 : (cap : Int) ≤ (L1.length : Int) := by omega
                have q2 : (0 : Int) ≤ (L1.length : Int) := by omega
                clear M7 hown7 hgrow7 hiff7 RM y0 hmne hmne2 hm9 hlt2
                have HNE := Lib.hid (World.news_of_block (heap_alloc_new w7 (.cells #[.string (bs z1), .string d, .int .i64 0, .int .i64 0, .int .i64 owner, .int .i64 t, .int .i64 t, .int .i64 0] 49)))
                have HOL : Hid (∀ b, some (⟨g, 0, none⟩ : Addr) = some b → ∀ q u, (meCells (L1.take cap))[q]? = some u → (w7.alloc (.cells #[.string (bs z1), .string d, .int .i64 0, .int .i64 0, .int .i64 owner, .int .i64 t, .int .i64 t, .int .i64 0] 49)).cell? (b.add q) = some u) := Lib.hid (fun b hb q u hq => by
                  cases hb
                  exact HM7.out.olds cap q u hq _)
                have HLT : (meCells (L1.take cap)).length = cap * 8 := by rw [meCells_len, List.length_take, Nat.min_eq_left hj]
                have hO2 := meCells_one [(z1, newC d owner t)]
                have rE : (w7.alloc (.cells #[.string (bs z1), .string d, .int .i64 0, .int .i64 0, .int .i64 owner, .int .i64 t, .int .i64 t, .int .i64 0] 49)).heap.size = w7.heap.size + 1 := by simp
                have HX : Hid (∀ (W8 : World) (v8 : Value) (n : Nat) (xs : List Value) (W9 : World), (w7.alloc (.cells #[.string (bs z1), .string d, .int .i64 0, .int .i64 0, .int .i64 owner, .int .i64 t, .int .i64 t, .int .i64 0] 49)).grownBy W8 none → W8.ownsRow (w7.alloc (.cells #[.string (bs z1), .string d, .int .i64 0, .int .i64 0, .int .i64 owner, .int .i64 t, .int .i64 t, .int .i64 0] 49)).heap.size 49 8 v8 n xs → W8.grownBy W9 v8.ownBlock → Below w7.heap.size w7 W9) := Lib.hid (fun W8 v8 n xs W9 h1 h2 h3 => by
                  have b := ((Below.refl w7.heap.size w7).alloc (Nat.le_refl _) _).grown h1 (by simp) (fun q hq => by cases hq)
                  exact b.grown h3 b.size (fun q hq => by have := (World.ownsRow.lt h2 q hq).1; simp at this; omega))
                go_wp2_with (first
                  | (at_builtin; refine wpList_append_grows _ rfl _ _ _ rfl 49 i1 _ 8 80 und_mes hi1 hz1 hz2 hz3 rfl (by decide) (some ⟨g, 0, none⟩) cap cap (meCells (L1.take cap)) rfl (fun h => by cases h) HLT HOL.out ⟨w7.heap.size, 0, none⟩ 1 1 (meCells [(z1, newC d owner t)]) rfl rfl HNE.out hO2 (by omega) (by unfold maxLen; omega) (by omega) ?_; intro v8 w8' hown8 hgrow8; obtain ⟨g8, cap8, rfl, _⟩ := hown8.form (by omega); have HGR := Lib.hid hgrow8; have HOW := Lib.hid hown8; have hs8 := hgrow8.size; clear hown8 hgrow8; go_frame)
                  | (at_builtin; refine wpList_append_own _ rfl _ _ _ rfl (w7.alloc (.cells #[.string (bs z1), .string d, .int .i64 0, .int .i64 0, .int .i64 owner, .int .i64 t, .int .i64 t, .int .i64 0] 49)).heap.size 49 i1 _ 8 80 und_mes hi1 hz1 hz2 hz3 rfl (by decide) (.slice (some ⟨g8, 0, none⟩) (cap + 1) cap8) (cap + 1) (meCells (L1.take cap) ++ meCells [(z1, newC d owner t)]) rfl HOW.out ⟨g7, 0, none⟩ 0 cap7 [] rfl rfl (fun q u hq => by simp at hq) (fun u hu => by cases hu) (by unfold maxLen; omega) (by omega) hs8 ?_; intro v9 w9 hown9 hgrow9 hiff9; obtain ⟨g9, cap9, rfl, _⟩ := hown9.form (by omega); have b9 := HX.out _ _ _ _ _ HGR.out HOW.out hgrow9; have M9' := HM7.out.below b9; have z9 := M9'.cell; have z8 := M9'.frz; have HM9' := Lib.hid M9'; have HO9 := Lib.hid hown9; have HF9 := Lib.hid hiff9; clear hown9 hgrow9 hiff9 M9'; go_frame))
                go_ret2
                have hdrop : L1.drop cap = [] := List.drop_eq_nil_of_le (by have := HJL.out; omega)
                have HLL : (L1.take cap ++ (z1, newC d owner t) :: L1.drop cap).length = cap + 1 + 0 := by rw [hdrop, List.length_append, List.length_cons, List.length_take, Nat.min_eq_left hj]; rfl
                have HCC : meCells (L1.take cap ++ (z1, newC d owner t) :: L1.drop cap) = (meCells (L1.take cap) ++ meCells [(z1, newC d owner t)]) ++ [] := by rw [hdrop, ← meCells_append, List.append_nil]
                have R9 := HO9.out
                rw [← HLL, ← HCC] at R9
                have MT := HM9'.out.turn R9 (by have := HM7.out.base_le; simp; omega) (by simp; omega)
                rw [HLL] at MT
                refine ⟨rfl, g9, cap9, _, MT, R8.out.ins (by rw [updN_other HZN.out]; exact HT1.out) _ cap HLW HST, ?_, ((O9.trans (Only.of_below _ _ (b7.trans (b9.mono b7.size)))).setp 0 _), .inr ?_⟩
                · rw [HLL]; first | (show cap + 1 + 0 = L.length + 1; omega) | (show cap + 1 + 0 = L1.length + 1; omega)
                · have := (R9.lt g9 rfl).1; simp at this; have := O9.size; have := b7.size; omega
              · clear hcap0 hjl
                have HM9 := Lib.hid M9
                have hm9 := M9.ltm
                have hmne : ¬ mp = wr.heap.size := by omega
                have hmne2 : ¬ wr.heap.size = mp := by omega
                have hcap := M9.cap_le
                clear M9 hd hL i0 i1 i2 s0 s1 s2 s3 O0 O1 d1 d60 e1
                obtain ⟨i1, hi1, hz1, hz2, hz3⟩ := info_parts info_me
                have RM := World.ownsRow_made (base := wr.heap.size) (e := 49) (size := 8) wr #[] 0 (Nat.le_refl _) (Nat.zero_le _) rfl
                have HNW := Lib.hid (HM9.out.news j)
                have HNA : Hid (∀ q u, (meCells (L1.drop j))[q]? = some u → (wr.alloc (.cells #[] 49)).cell? ((⟨g, j * 8, none⟩ : Addr).add q) = some u) := Lib.hid (fun q u hq => by
                  have h1 := HNW.out q u hq
                  have hga : (⟨g, j * 8, none⟩ : Addr).add q = ⟨g, j * 8 + q, none⟩ := by simp [Addr.add]
                  rw [hga] at h1 ⊢
                  rw [((Below.refl wr.heap.size wr).alloc (Nat.le_refl _) _).cell (p := ⟨g, j * 8 + q, none⟩) HM9.out.ltg]; exact h1)
                have HLN : (meCells (L1.drop j)).length = (L1.length - j) * 8 := by rw [meCells_len, List.length_drop]
                have hO1 := meCells_one (L1.drop j)
                have hj2 : j < cap := by have := HJL.out; omega
                have hj4 : ¬ cap = j := by omega
                have hj5 : ¬ j = cap := by omega
                have hj6 : (j : Int) ≤ (cap : Int) := by omega
                go_upto_region 28 with (at_builtin; refine wpList_append_own _ rfl _ _ _ rfl wr.heap.size 49 i1 _ 8 80 und_mes hi1 hz1 hz2 hz3 rfl (by decide) (.slice (some ⟨wr.heap.size, 0, none⟩) 0 0) 0 [] rfl RM ⟨g, j * 8, none⟩ (L1.length - j) (cap - j) (meCells (L1.drop j)) rfl HLN (fun q u hq => HNA.out q u hq) hO1 (by unfold maxLen; omega) (by omega) (by simp) ?_; intro v7 w7 hown7 hgrow7 hiff7; go_frame)
                have b7 : Below wr.heap.size wr w7 := ((Below.refl wr.heap.size wr).alloc (Nat.le_refl _) (.cells #[] 49)).grown hgrow7 (by simp) (fun q hq => by cases hq; exact Nat.le_refl _)
                rw [Nat.zero_add, List.nil_append] at hown7
                have hv7 : ∃ g7 cap7, v7 = .slice (some ⟨g7, 0, none⟩) (L1.length - j) cap7 := by
                  rcases hown7.2 with ⟨h0, _⟩ | ⟨g7, cap7, _, h0, _⟩
                  · have := (hiff7.1 h0).1; cases this
                  · exact ⟨g7, cap7, h0⟩
                obtain ⟨g7, cap7, rfl⟩ := hv7
                have M7 := HM9.out.below b7
                have y7 := M7.cell
                have hm7 := M7.ltm
                have n7 : ¬ mp = w7.heap.size := by omega
                have n8 : ¬ w7.heap.size = mp := by omega
                have HM7 := Lib.hid M7
                have HO7 := Lib.hid hown7
                have q1 : (j : Int) ≤ (L1.length : Int) := by omega
                have q2 : (0 : Int) ≤ (L1.length : Int) := by omega
                clear M7 hown7 hgrow7 hiff7 RM HNW HNA HLN hO1 y0 hmne hmne2 hm9 hlt2
                have HNE := Lib.hid (World.news_of_block (heap_alloc_new w7 (.cells #[.string (bs z1), .string d, .int .i64 0, .int .i64 0, .int .i64 owner, .int .i64 t, .int .i64 t, .int .i64 0] 49)))
                have HOL : Hid (∀ b, some (⟨g, 0, none⟩ : Addr) = some b → ∀ q u, (meCells (L1.take j))[q]? = some u → (w7.alloc (.cells #[.string (bs z1), .string d, .int .i64 0, .int .i64 0, .int .i64 owner, .int .i64 t, .int .i64 t, .int .i64 0] 49)).cell? (b.add q) = some u) := Lib.hid (fun b hb q u hq => by
                  cases hb
                  exact HM7.out.olds j q u hq _)
                have HLT : (meCells (L1.take j)).length = j * 8 := by rw [meCells_len, List.length_take, Nat.min_eq_left hj]
                have hO2 := meCells_one [(z1, newC d owner t)]
                have rE : (w7.alloc (.cells #[.string (bs z1), .string d, .int .i64 0, .int .i64 0, .int .i64 owner, .int .i64 t, .int .i64 t, .int .i64 0] 49)).heap.size = w7.heap.size + 1 := by simp
                have HX : Hid (∀ (W8 : World) (v8 : Value) (n : Nat) (xs : List Value) (W9 : World), (w7.alloc (.cells #[.string (bs z1), .string d, .int .i64 0, .int .i64 0, .int .i64 owner, .int .i64 t, .int .i64 t, .int .i64 0] 49)).grownBy W8 none → W8.ownsRow (w7.alloc (.cells #[.string (bs z1), .string d, .int .i64 0, .int .i64 0, .int .i64 owner, .int .i64 t, .int .i64 t, .int .i64 0] 49)).heap.size 49 8 v8 n xs → W8.grownBy W9 v8.ownBlock → Below w7.heap.size w7 W9) := Lib.hid (fun W8 v8 n xs W9 h1 h2 h3 => by
                  have b := ((Below.refl w7.heap.size w7).alloc (Nat.le_refl _) _).grown h1 (by simp) (fun q hq => by cases hq)
                  exact b.grown h3 b.size (fun q hq => by have := (World.ownsRow.lt h2 q hq).1; simp at this; omega))
                have HNX : Hid (∀ W8 : World, (w7.alloc (.cells #[.string (bs z1), .string d, .int .i64 0, .int .i64 0, .int .i64 owner, .int .i64 t, .int .i64 t, .int .i64 0] 49)).grownBy W8 none → ∀ q u, (meCells (L1.drop j))[q]? = some u → W8.cell? ((⟨g7, 0, none⟩ : Addr).add q) = some u) := Lib.hid (fun W8 h1 q u hq => ((HO7.out.alloc _).kept h1 (by simp [Value.ownBlock])).cells rfl q u hq)
                have HLN : (meCells (L1.drop j)).length = (L1.length - j) * 8 := by rw [meCells_len, List.length_drop]
                have hO3 := meCells_one (L1.drop j)
                go_wp2_with (first
                  | (at_builtin; refine wpList_append_grows _ rfl _ _ _ rfl 49 i1 _ 8 80 und_mes hi1 hz1 hz2 hz3 rfl (by decide) (some ⟨g, 0, none⟩) j j (meCells (L1.take j)) rfl (fun h => by cases h) HLT HOL.out ⟨w7.heap.size, 0, none⟩ 1 1 (meCells [(z1, newC d owner t)]) rfl rfl HNE.out hO2 (by omega) (by unfold maxLen; omega) (by omega) ?_; intro v8 w8' hown8 hgrow8; obtain ⟨g8, cap8, rfl, _⟩ := hown8.form (by omega); have HN8 := Lib.hid (HNX.out w8' hgrow8); have HGR := Lib.hid hgrow8; have HOW := Lib.hid hown8; have hs8 := hgrow8.size; clear hown8 hgrow8; go_frame)
                  | (at_builtin; refine wpList_append_own _ rfl _ _ _ rfl (w7.alloc (.cells #[.string (bs z1), .string d, .int .i64 0, .int .i64 0, .int .i64 owner, .int .i64 t, .int .i64 t, .int .i64 0] 49)).heap.size 49 i1 _ 8 80 und_mes hi1 hz1 hz2 hz3 rfl (by decide) (.slice (some ⟨g8, 0, none⟩) (j + 1) cap8) (j + 1) (meCells (L1.take j) ++ meCells [(z1, newC d owner t)]) rfl HOW.out ⟨g7, 0, none⟩ (L1.length - j) cap7 (meCells (L1.drop j)) rfl HLN HN8.out hO3 (by unfold maxLen; omega) (by omega) hs8 ?_; intro v9 w9 hown9 hgrow9 hiff9; obtain ⟨g9, cap9, rfl, _⟩ := hown9.form (by omega); have b9 := HX.out _ _ _ _ _ HGR.out HOW.out hgrow9; have M9' := HM7.out.below b9; have z9 := M9'.cell; have z8 := M9'.frz; have HM9' := Lib.hid M9'; have HO9 := Lib.hid hown9; have HF9 := Lib.hid hiff9; clear hown9 hgrow9 hiff9 M9'; go_frame))
                go_ret2
                have HLL : (L1.take j ++ (z1, newC d owner t) :: L1.drop j).length = j + 1 + (L1.length - j) := by rw [List.length_append, List.length_cons, List.length_take, List.length_drop, Nat.min_eq_left hj]; omega
                have HCC : meCells (L1.take j ++ (z1, newC d owner t) :: L1.drop j) = (meCells (L1.take j) ++ meCells [(z1, newC d owner t)]) ++ meCells (L1.drop j) := by rw [← meCells_append, ← meCells_append, List.append_assoc]; rfl
                have R9 := HO9.out
                rw [← HLL, ← HCC] at R9
                have MT := HM9'.out.turn R9 (by have := HM7.out.base_le; simp; omega) (by simp; omega)
                rw [HLL] at MT
                refine ⟨rfl, g9, cap9, _, MT, R8.out.ins (by rw [updN_other HZN.out]; exact HT1.out) _ j HLW HST, ?_, ((O9.trans (Only.of_below _ _ (b7.trans (b9.mono b7.size)))).setp 0 _), .inr ?_⟩
                · rw [HLL]; first | (show j + 1 + (L1.length - j) = L.length + 1; omega) | (show j + 1 + (L1.length - j) = L1.length + 1; omega)
                · have := (R9.lt g9 rfl).1; simp at this; have := O9.size; have := b7.size; omega
set_option maxHeartbeats 4000000 in
theorem mcreate_any (base mp g cap : Nat) (L : List Me) (T : List UInt8 → Option Nd) (z : List UInt8) (d : ByteArray) (owner t : Int) (serial : Bool) (w : World) (h : ModL w base mp g cap L) (hR : Rep T L) (hS : SmallT T) (hL : L.length ≤ 100) (hd : d.size ≤ 1000) :
    Calls Tryz.prog 31 #[.pointer (some ⟨mp, 0, none⟩), .string (bs z), .string d, .int .i64 owner, .int .i64 t, .bool serial] w fun e w' => e = .returned (.tuple #[.string (bs (createN T L.length z d owner t serial).path), .int .i64 (createN T L.length z d owner t serial).err]) ∧ MLeft w base mp g (createN T L.length z d owner t serial) w' := by
  have HC := Lib.hid (fun W : World => check_any (bs z) W)
  have HM := Lib.hid h
  have HR := Lib.hid hR
  cases hck : checkL z
  · have hE : checkE z = 10 := by unfold checkE; rw [hck]; rfl
    rw [create_bad (place_A hck) (by decide)]
    have HE := Lib.hid hE
    clear hck hE hS h hR
    go_enter Tryz.func31, Tryz.ntmps31
    go_wp2_with fail
    refine (HC.out _).mono ?_
    rintro e w1 ⟨rfl, b1⟩
    rw [bs_list, HE.out]
    go_wp2_with fail
    go_ret2
    exact ⟨rfl, MLeft.same HM.out HR.out rfl rfl b1⟩
  have hE : checkE z = 0 := by unfold checkE; rw [hck]; rfl
  have HE := Lib.hid hE
  by_cases hzr : z = [47]
  · subst hzr
    rw [create_bad place_B (by decide)]
    have e1 : ((bs [47]).toList == [47]) = true := by rw [Lib.toList_data, bs_list]; decide
    clear hck hE hS h hR
    go_enter Tryz.func31, Tryz.ntmps31
    go_wp2_with fail
    refine (HC.out _).mono ?_
    rintro e w1 ⟨rfl, b1⟩
    rw [bs_list, HE.out]
    go_wp2_with fail
    go_ret2
    exact ⟨rfl, MLeft.same HM.out HR.out rfl rfl b1⟩
  have e1 : ((bs z).toList == [47]) = false := by rw [Lib.toList_data, bs_list]; simpa using hzr
  by_cases hd60 : 60 < d.size
  · rw [create_bad (place_C hck hzr hd60) (by decide)]
    have d1 : decide ((60 : Int) < (d.size : Int)) = true := by simp; omega
    clear hck hE hS h hR hzr
    go_enter Tryz.func31, Tryz.ntmps31
    go_wp2_with fail
    refine (HC.out _).mono ?_
    rintro e w1 ⟨rfl, b1⟩
    rw [bs_list, HE.out]
    go_wp2_with fail
    go_ret2
    exact ⟨rfl, MLeft.same HM.out HR.out rfl rfl b1⟩
  have d1 : decide ((60 : Int) < (d.size : Int)) = false := by simp; omega
  have HU := Lib.hid (fun W : World => up_path z W hck)
  have HF := Lib.hid (fun (x : List UInt8) (W : World) (hb : Below w.heap.size w W) => mfind_any base mp g cap L x W (h.below hb) (by omega))
  cases hTu : T (upP z) with
  | none =>
    rw [create_bad (place_D hck hzr hd60 hTu) (by decide)]
    have HI := Lib.hid (hR.find_none hTu)
    clear hck hE hS h hR hzr hTu
    go_enter Tryz.func31, Tryz.ntmps31
    go_wp2_with fail
    refine (HC.out _).mono ?_
    rintro e w1 ⟨rfl, b1⟩
    rw [bs_list, HE.out]
    go_wp2_with fail
    refine (HU.out _).mono ?_
    rintro e w2 ⟨rfl, m, hw2⟩
    have b2 : Below w.heap.size w w2 := by rw [hw2]; exact b1.trans ((drewN_below w1 m).mono b1.size)
    clear hw2
    go_wp2_with fail
    refine (HF.out _ _ b2).mono ?_
    rintro e w3 ⟨rfl, b3⟩
    rw [HI.out]
    replace b3 := b2.trans (b3.mono b2.size)
    go_wp2_with fail
    go_ret2
    exact ⟨rfl, MLeft.same HM.out HR.out rfl rfl b3⟩
  | some par =>
    obtain ⟨i, hi, hLi⟩ := hR.find_some hTu
    have hil : i < L.length := (List.getElem?_eq_some_iff.1 hLi).1
    have HI := Lib.hid hi
    have HLI := Lib.hid hLi
    have i0 : (0 : Int) ≤ (i : Int) := by omega
    have i1 : decide ((i : Int) < 0) = false := by simp
    have i2 : (i : Int) < (L.length : Int) := by omega
    by_cases ho : par.owner = 0
    · exact mcreate_ok base mp g cap L T z d owner t serial w h hR hS hL hd hck hzr hd60 par hTu ho
    · rw [create_bad (place_E hck hzr hd60 hTu ho) (by decide)]
      have e2 : (par.owner != 0) = true := by simpa using ho
      have e3 : (par.owner == 0) = false := by simpa using ho
      clear hck hE hS h hR hzr hTu hi hLi ho
      go_enter Tryz.func31, Tryz.ntmps31
      go_wp2_with fail
      refine (HC.out _).mono ?_
      rintro e w1 ⟨rfl, b1⟩
      rw [bs_list, HE.out]
      go_wp2_with fail
      refine (HU.out _).mono ?_
      rintro e w2 ⟨rfl, m, hw2⟩
      have b2 : Below w.heap.size w w2 := by rw [hw2]; exact b1.trans ((drewN_below w1 m).mono b1.size)
      clear hw2
      go_wp2_with fail
      refine (HF.out _ _ b2).mono ?_
      rintro e w3 ⟨rfl, b3⟩
      rw [HI.out]
      replace b3 := b2.trans (b3.mono b2.size)
      have M3 := HM.out.below b3
      have x0 := M3.cell
      obtain ⟨c0, c1, c2, c3, c4, c5, c6, c7⟩ := M3.cells i _ HLI.out
      clear M3
      go_wp2_with fail
      go_ret2
      exact ⟨rfl, MLeft.same HM.out HR.out rfl rfl b3⟩
end Go.Proofs.YtblcpihfnpgfiaaGreatDoor
