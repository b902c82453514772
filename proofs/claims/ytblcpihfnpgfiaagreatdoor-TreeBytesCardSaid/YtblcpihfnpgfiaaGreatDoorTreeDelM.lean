/- The law's model: Delete of a node without kids. No conditions beyond those in each statement. -/
import Derived.Test.YtblcpihfnpgfiaaGreatDoorTreeModD
import Derived.Test.YtblcpihfnpgfiaaGreatDoorInvAll
import Derived.Deep.DeepCutAuto
namespace Go.Proofs.YtblcpihfnpgfiaaGreatDoor
open Go.RowKit Go.Maps Go.Sort
set_option linter.unusedVariables false
set_option linter.unusedSimpArgs false
set_option maxRecDepth 100000

theorem run_mdf (W : World) (b : Nat) : (Instr.fieldAt 47 (.pointer (some ⟨b, 0, none⟩)) 0).run Tryz.prog W = .ok (.pointer (some ⟨b, 0, none⟩)) W := by go_simp
theorem run_loadMs (W : World) (p : Addr) (a : Option Addr) (n c : Nat) (h : W.cell? p = some (.slice a n c)) : (Instr.loadAt 45 (.pointer (some p))).run Tryz.prog W = .ok (.slice a n c) W := by go_simp
theorem run_loadI (W : World) (p : Addr) (z : Int) (h : W.cell? p = some (.int .i64 z)) : (Instr.loadAt 3 (.pointer (some p))).run Tryz.prog W = .ok (.int .i64 z) W := by go_simp
theorem run_idxE (W : World) (g n c i : Nat) (h : i < n) (hn : n ≤ 1000) : (Instr.indexAt 45 (.slice (some ⟨g, 0, none⟩) n c) (.int .i64 (i : Int))).run Tryz.prog W = .ok (.pointer (some ⟨g, i * 8, none⟩)) W := by
  have h1 : (i : Int) < (n : Int) := by omega
  have h0 : (0 : Int) ≤ (i : Int) := by omega
  go_simp
theorem run_fE1 (W : World) (g k : Nat) : (Instr.fieldAt 49 (.pointer (some ⟨g, k, none⟩)) 1).run Tryz.prog W = .ok (.pointer (some ⟨g, k + 1, none⟩)) W := by go_simp
theorem run_fN2 (W : World) (g k : Nat) : (Instr.fieldAt 40 (.pointer (some ⟨g, k + 1, none⟩)) 2).run Tryz.prog W = .ok (.pointer (some ⟨g, k + 3, none⟩)) W := by go_simp
theorem run_addI (W : World) (x y z : Int) (h : IntKind.i64.wrap (x + y) = z) (s1 s2 : Operand) : (do eqGuard .add 3 s1 s2 (.int .i64 x) (.int .i64 y); binOp .add 3 (.int .i64 x) (.int .i64 y) : Sem Value).run Tryz.prog W = .ok (.int .i64 z) W := by go_simp
theorem run_storeI (W : World) (p : Addr) (u z : Int) (h : W.cell? p = some (.int .i64 u)) (hf : W.frozen? p = false) : (Instr.storeAt 3 (.pointer (some p)) (.int .i64 z)).run Tryz.prog W = .ok () (W.setCell p (.int .i64 z)) := by go_simp
theorem run_storeMs (W : World) (p : Addr) (a : Option Addr) (n c : Nat) (u : Value) (h : W.cell? p = some u) (hf : W.frozen? p = false) : (Instr.storeAt 45 (.pointer (some p)) (.slice a n c)).run Tryz.prog W = .ok () (W.setCell p (.slice a n c)) := by go_simp
theorem run_rowE (W : World) : (Instr.buildSlice 45 0 #[]).run Tryz.prog W = .ok (.slice (some ⟨W.heap.size, 0, none⟩) 0 0) (W.alloc (.cells #[] 49)) := by go_simp
theorem run_cutE (W : World) (g n c q : Nat) (h : q ≤ n) (hn : n ≤ c ∧ n ≤ 1000) : (Instr.sliceAt 45 (.slice (some ⟨g, 0, none⟩) n c) none (some (.int .i64 (q : Int))) none).run Tryz.prog W = .ok (.slice (some ⟨g, 0, none⟩) q c) W := by
  have h1 : (q : Int) ≤ (c : Int) := by omega
  have h0 : (0 : Int) ≤ (q : Int) := by omega
  go_simp
theorem run_tailE (W : World) (g n c q : Nat) (h : q ≤ n) (hn : n ≤ c ∧ n ≤ 1000) : ∃ ad c2, (∀ W : World, (Instr.sliceAt 45 (.slice (some ⟨g, 0, none⟩) n c) (some (.int .i64 (q : Int))) none none).run Tryz.prog W = .ok (.slice (some ad) (n - q) c2) W) ∧ (ad = ⟨g, q * 8, none⟩ ∨ n - q = 0) := by
  have h1 : (q : Int) ≤ (n : Int) := by omega
  have h0 : (0 : Int) ≤ (q : Int) := by omega
  by_cases hc : q = c
  · refine ⟨⟨g, 0, none⟩, 0, fun W => ?_, .inr (by omega)⟩
    have hnq : n = q := by omega
    subst hnq hc
    go_simp
  · have hc2 : ¬ c = q := fun e => hc e.symm
    have h3 : q < c := by omega
    refine ⟨⟨g, q * 8, none⟩, c - q, fun W => ?_, .inl rfl⟩
    go_simp
def FD9 (mp g n cap i : Nat) (z : ByteArray) (u : Int) : Nat → Value → World → Prop
  | 0, v, _ => v = .pointer (some ⟨mp, 0, none⟩)
  | 1, v, _ => v = .pointer (some ⟨mp, 0, none⟩)
  | 2, v, _ => v = .pointer (some ⟨mp, 0, none⟩)
  | 3, v, _ => v = .slice (some ⟨g, 0, none⟩) n cap
  | 4, v, _ => v = .pointer (some ⟨mp, 0, none⟩)
  | 5, v, _ => v = .string z
  | 6, v, _ => v = .int .i64 (i : Int)
  | 7, v, _ => v = .pointer (some ⟨g, i * 8, none⟩)
  | 8, v, _ => v = .pointer (some ⟨g, i * 8 + 1, none⟩)
  | 9, v, _ => v = .pointer (some ⟨g, i * 8 + 3, none⟩)
  | 10, v, _ => v = .int .i64 u
  | 11, v, _ => v = .int .i64 (u + 1)
  | 12, v, _ => v = .pointer (some ⟨g, i * 8, none⟩)
  | 13, v, _ => v = .pointer (some ⟨g, i * 8 + 1, none⟩)
  | 14, v, _ => v = .pointer (some ⟨g, i * 8 + 3, none⟩)
  | _, _, _ => True
theorem FD9_keep {mp g n cap i : Nat} {z : ByteArray} {u : Int} {v : Value} {w w' : World} : ∀ j : Nat, FD9 mp g n cap i z u j v w → FD9 mp g n cap i z u j v w'
  | 0, h => h
  | 1, h => h
  | 2, h => h
  | 3, h => h
  | 4, h => h
  | 5, h => h
  | 6, h => h
  | 7, h => h
  | 8, h => h
  | 9, h => h
  | 10, h => h
  | 11, h => h
  | 12, h => h
  | 13, h => h
  | 14, h => h
  | _ + 15, _ => trivial
def FD11 (mp g n cap q : Nat) (ad : Addr) (c2 : Nat) : Nat → Value → Prop
  | 0, v => v = .pointer (some ⟨mp, 0, none⟩)
  | 1, _ => True
  | 2, v => v = .pointer (some ⟨mp, 0, none⟩)
  | 3, v => v = .pointer (some ⟨mp, 0, none⟩)
  | 4, v => v = .pointer (some ⟨mp, 0, none⟩)
  | 5, v => v = .slice (some ⟨g, 0, none⟩) n cap
  | 6, v => v = .int .i64 (q : Int)
  | 7, v => v = .slice (some ⟨g, 0, none⟩) q cap
  | 8, _ => True
  | 9, v => v = .pointer (some ⟨mp, 0, none⟩)
  | 10, v => v = .pointer (some ⟨mp, 0, none⟩)
  | 11, v => v = .pointer (some ⟨mp, 0, none⟩)
  | 12, v => v = .slice (some ⟨g, 0, none⟩) n cap
  | 13, v => v = .int .i64 (q : Int)
  | 14, v => v = .int .i64 ((q : Int) + 1)
  | 15, v => v = .slice (some ad) (n - (q + 1)) c2
  | 16, _ => True
  | 17, v => v = .pointer (some ⟨mp, 0, none⟩)
  | 18, v => v = .pointer (some ⟨mp, 0, none⟩)
  | _, _ => True
/-- What stands behind the appends. -/
def JDl (w0 : World) (L : List Me) (q : Nat) (b : Nat → Bool) (x : Nat → Value) (w : World) : Prop :=
  Below w0.heap.size w0 w ∧ (b 16 = true → b 8 = true) ∧ (b 8 = true → b 1 = true) ∧
  (if b 16 then w.ownsRow w0.heap.size 49 8 (x 16) (L.length - 1) (meCells (L.take q ++ L.drop (q + 1)))
   else if b 8 then w.ownsRow w0.heap.size 49 8 (x 8) q (meCells (L.take q))
   else if b 1 then w.ownsRow w0.heap.size 49 8 (x 1) 0 [] else True)
section
variable {w0 w w' : World} {L : List Me} {q : Nat} {b : Nat → Bool} {x : Nat → Value}
theorem JDl.pure {i : Nat} {v : Value} (h : JDl w0 L q b x w) (hi : ¬ 1 = i ∧ ¬ 8 = i ∧ ¬ 16 = i) : JDl w0 L q (setB b i) (setX x i v) w := by
  obtain ⟨h1, h2, h3⟩ := hi
  unfold JDl at h ⊢
  rw [setB_ne h1, setB_ne h2, setB_ne h3, setX_ne h1, setX_ne h2, setX_ne h3]
  exact h
theorem JDl.one (h : JDl w0 L q b x w) (hb : b 1 = false) : JDl w0 L q (setB b 1) (setX x 1 (.slice (some ⟨w.heap.size, 0, none⟩) 0 0)) (w.alloc (.cells #[] 49)) := by
  obtain ⟨h1, h2, h3, _⟩ := h
  have h8 : b 8 = false := by cases e : b 8; rfl; have := h3 e; rw [hb] at this; cases this
  have h16 : b 16 = false := by cases e : b 16; rfl; have := h2 e; rw [h8] at this; cases this
  unfold JDl
  rw [setB_same, setB_ne (by decide), setB_ne (by decide), setX_same, h8, h16]
  exact ⟨h1.alloc h1.size _, by simp, by simp, World.ownsRow_made (base := w0.heap.size) (e := 49) (size := 8) w #[] 0 h1.size (Nat.zero_le _) rfl⟩
theorem JDl.at1 (h : JDl w0 L q b x w) (hb : b 1 = true) (h8 : b 8 = false) : w.ownsRow w0.heap.size 49 8 (x 1) 0 [] := by
  obtain ⟨_, h2, _, h4⟩ := h
  have h16 : b 16 = false := by cases e : b 16; rfl; have := h2 e; rw [h8] at this; cases this
  rw [h16, h8, hb] at h4
  exact h4
theorem row_base {v : Value} {n m : Nat} {xs : List Value} (h : w.ownsRow m 49 8 v n xs) (j : Nat) (e : v.ownBlock = some j) : m ≤ j := (h.lt j e).1
theorem JDl.two {v : Value} (h : JDl w0 L q b x w) (hb : b 1 = true) (h8 : b 8 = false) (hown : w.ownsRow w0.heap.size 49 8 (x 1) 0 []) (ho : w'.ownsRow w0.heap.size 49 8 v (0 + q) ([] ++ meCells (L.take q))) (hg : w.grownBy w' (x 1).ownBlock) :
    JDl w0 L q (setB b 8) (setX x 8 v) w' := by
  obtain ⟨h1, h2, h3, _⟩ := h
  have h16 : b 16 = false := by cases e : b 16; rfl; have := h2 e; rw [h8] at this; cases this
  unfold JDl
  rw [setB_same, setB_ne (by decide), setB_ne (by decide), setX_same, hb, h16]
  rw [Nat.zero_add, List.nil_append] at ho
  exact ⟨h1.grown hg h1.size (fun j hj => row_base hown j hj), by simp, by simp, ho⟩
theorem JDl.at8 (h : JDl w0 L q b x w) (hb : b 8 = true) (h16 : b 16 = false) : w.ownsRow w0.heap.size 49 8 (x 8) q (meCells (L.take q)) := by
  obtain ⟨_, _, _, h4⟩ := h
  rw [h16, hb] at h4
  exact h4
theorem JDl.three {v : Value} (h : JDl w0 L q b x w) (hb : b 8 = true) (h16 : b 16 = false) (hown : w.ownsRow w0.heap.size 49 8 (x 8) q (meCells (L.take q))) (ho : w'.ownsRow w0.heap.size 49 8 v (L.length - 1) (meCells (L.take q) ++ meCells (L.drop (q + 1)))) (hg : w.grownBy w' (x 8).ownBlock) :
    JDl w0 L q (setB b 16) (setX x 16 v) w' := by
  obtain ⟨h1, h2, h3, _⟩ := h
  unfold JDl
  rw [setB_same, setB_ne (by decide), setB_ne (by decide), setX_same, hb]
  exact ⟨h1.grown hg h1.size (fun j hj => row_base hown j hj), by simp, fun _ => h3 hb, by rw [meCells_append]; exact ho⟩
theorem JDl.at16 (h : JDl w0 L q b x w) (h16 : b 16 = true) : w.ownsRow w0.heap.size 49 8 (x 16) (L.length - 1) (meCells (L.take q ++ L.drop (q + 1))) := by
  obtain ⟨_, _, _, h4⟩ := h
  rw [h16] at h4
  exact h4
end
theorem Rep.del {T : List UInt8 → Option Nd} {L : List Me} (h : Rep T L) {q : Nat} {s : List UInt8} {n : Nd} (hq : L[q]? = some (s, n)) : Rep (updN T s none) (L.take q ++ L.drop (q + 1)) := by
  obtain ⟨hlt, he⟩ := List.getElem?_eq_some_iff.1 hq
  have hp : ((s, n) :: (L.take q ++ L.drop (q + 1))).Perm L := by
    have h1 := List.perm_middle (a := (s, n)) (l₁ := L.take q) (l₂ := L.drop (q + 1))
    have h2 : L.take q ++ (s, n) :: L.drop (q + 1) = L := by
      rw [← he, ← List.drop_eq_getElem_cons hlt, List.take_append_drop]
    rw [h2] at h1; exact h1.symm
  have hn := ((hp.map (·.1)).nodup_iff).2 h.nodup
  rw [List.map_cons, List.nodup_cons] at hn
  refine ⟨hn.2, fun x m => ?_, List.Pairwise.sublist (List.Sublist.map _ (by
    have h9 : (L.take q ++ L.drop (q + 1)).Sublist (L.take q ++ L.drop q) := List.Sublist.append (List.Sublist.refl _) (by rw [List.drop_eq_getElem_cons hlt]; exact List.sublist_cons_self _ _)
    rw [List.take_append_drop] at h9; exact h9)) h.sorted⟩
  have hm : (x, m) ∈ L ↔ (x, m) = (s, n) ∨ (x, m) ∈ L.take q ++ L.drop (q + 1) := by rw [← hp.mem_iff, List.mem_cons]
  by_cases hx : x = s
  · subst hx
    rw [updN_same]
    constructor
    · intro e; cases e
    · intro hm2; exact absurd (List.mem_map_of_mem (f := (·.1)) hm2) hn.1
  · rw [updN_other hx, h.mem x m, hm]
    constructor
    · rintro (e | e)
      · injection e with e _; exact absurd e hx
      · exact e
    · exact .inr
set_option maxHeartbeats 4000000 in
theorem mdelete_ok (base mp g cap : Nat) (L : List Me) (T : List UInt8 → Option Nd) (s : List UInt8) (v : Int) (w : World) (h : ModL w base mp g cap L) (hR : Rep T L) (hL : L.length ≤ 100) (hK : ∀ e ∈ L, checkL e.1 = true) (hck : checkL s = true) (hce : chkN T s v = 0) (hsr : s ≠ [47]) (hk : kidsL L s = []) (par : Nd) (hTu : T (upP s) = some par) (hpb : 0 ≤ par.below ∧ par.below ≤ 1000000) :
    Calls Tryz.prog 35 #[.pointer (some ⟨mp, 0, none⟩), .string (bs s), .int .i64 v] w fun e w' => e = .returned (.int .i64 0) ∧ ∃ g' cap' L', ModL w' base mp g' cap' L' ∧ Rep (lessN T s par) L' ∧ L'.length = L.length - 1 ∧ Only w w' mp g ∧ (g' = g ∨ w.heap.size ≤ g') := by
  have HC := Lib.hid (mchk_any base mp g cap L T s v w h hR (by omega))
  rw [hce] at HC
  have HKN := Lib.hid (fun (W : World) (hb : Below w.heap.size w W) => mkids_any base mp g cap L s W (h.below hb) (by omega) hK)
  rw [hk] at HKN
  have e1 : ((bs s).toList == [47]) = false := by rw [Lib.toList_data, bs_list]; simpa using hsr
  have HU := Lib.hid (fun W : World => up_path s W hck)
  obtain ⟨i, hi, hLi⟩ := hR.find_some hTu
  have hil : i < L.length := (List.getElem?_eq_some_iff.1 hLi).1
  have HI := Lib.hid hi
  have HLI := Lib.hid hLi
  have i0 : (0 : Int) ≤ (i : Int) := by omega
  have i2 : (i : Int) < (L.length : Int) := by omega
  have HM := Lib.hid h
  have HF := Lib.hid (fun (W : World) (hb : Below w.heap.size w W) => by
    have := mfind_any base mp g cap L (upP s) W (h.below hb) (by omega)
    rw [hi] at this; exact this)
  have HB := Lib.hid (fun (x y : World) (hx : Below w.heap.size w x) (hb : Below x.heap.size x y) => (⟨(h.below (hx.trans (hb.mono hx.size))).cell, ((h.below (hx.trans (hb.mono hx.size))).cells i _ hLi).2.2.2.1, (h.below (hx.trans (hb.mono hx.size))).row.frozenAt _, hx.trans (hb.mono hx.size)⟩ : y.cell? ⟨mp, 0, none⟩ = some (.slice (some ⟨g, 0, none⟩) L.length cap) ∧ y.cell? ⟨g, i * 8 + 3, none⟩ = some (.int .i64 par.below) ∧ y.frozen? ⟨g, i * 8 + 3, none⟩ = false ∧ Below w.heap.size w y))
  obtain ⟨nd, hnd⟩ := chk_some hce
  have hs0 : s ≠ [] := by rintro rfl; exact absurd hck (by decide)
  have hne : s ≠ upP s := fun e => (kids_rep hR hs0).1 ⟨s, nd, hnd, e.symm⟩ hk
  clear hs0
  have HTS : Hid (updN T (upP s) (some (upC par)) s = some nd) := Lib.hid (by rw [updN_other hne]; exact hnd)
  have HR7 : Hid (Rep (updN T (upP s) (some (upC par))) (L.set i (upP s, upC par))) := Lib.hid (hR.set hLi _)
  have HLS : Hid (lessN T s par = updN (updN T (upP s) (some (upC par))) s none) := Lib.hid (by
    funext x; unfold lessN updN
    by_cases h1 : x = upP s
    · rw [if_pos h1, if_neg (fun e => hne (e.symm.trans h1)), if_pos h1]
    · rw [if_neg h1]
      by_cases h2 : x = s
      · rw [if_pos h2, if_pos h2]
      · rw [if_neg h2, if_neg h2, if_neg h1])
  have hlw : L.length ≤ 100 := hL
  have HNE := Lib.hid hne
  clear hnd hne
  obtain ⟨p0, p1⟩ := hpb
  clear hce h hR hk hi hLi hsr hTu
  go_enter Tryz.func35, Tryz.ntmps35
  go_wp2_with fail
  refine HC.out.mono ?_
  rintro e w1 ⟨rfl, b1⟩
  go_wp2_with fail
  refine (HKN.out _ b1).mono ?_
  rintro e w2 ⟨u, rfl, hrow, b2⟩
  replace b2 := b1.trans (b2.mono b1.size)
  have hu : ∃ ao c2, u = .slice ao 0 c2 := by
    rcases hrow.2 with ⟨h1, _⟩ | ⟨g2, cap2, cur, h1, _⟩
    · exact ⟨_, _, h1⟩
    · exact ⟨_, _, h1⟩
  obtain ⟨ao, c2, rfl⟩ := hu
  clear hrow
  go_wp2_with fail
  refine (HU.out _).mono ?_
  rintro e w3 ⟨rfl, m, hw3⟩
  have b3 : Below w.heap.size w w3 := by rw [hw3]; exact b2.trans ((drewN_below w2 m).mono b2.size)
  clear hw3
  obtain ⟨wv, hwv⟩ : ∃ wv, wv = w3 := ⟨_, rfl⟩
  subst hwv
  have HDR : Hid (∀ W : World, Below wv.drew.heap.size wv.drew W → Below w.heap.size w W) := Lib.hid fun W hW => b3.trans (((Below.refl _ wv).drew.trans (hW.mono (Nat.le_refl _))).mono b3.size)
  have HCE : Hid (∀ W : World, Below wv.drew.heap.size wv.drew W → W.cell? ⟨mp, 0, none⟩ = some (.slice (some ⟨g, 0, none⟩) L.length cap) ∧ W.cell? ⟨g, i * 8 + 3, none⟩ = some (.int .i64 par.below) ∧ W.frozen? ⟨g, i * 8 + 3, none⟩ = false) := Lib.hid fun W hW => by
    obtain ⟨q1, q2, q3, q4⟩ := HB.out _ _ (HDR.out W hW) (Below.refl _ _)
    exact ⟨q1, q2, q3⟩
  have HFD : Hid (∀ W : World, Below wv.drew.heap.size wv.drew W → Calls Tryz.prog 58 #[.pointer (some ⟨mp, 0, none⟩), .string (bs (upP s))] W fun e w' => e = .returned (.int .i64 (i : Int)) ∧ Below W.heap.size W w') := Lib.hid fun W hW => HF.out W (HDR.out W hW)
  have HIL := Lib.hid hil
  have HNL : Hid (L.length ≤ 1000) := Lib.hid (by omega)
  have HUW : Hid (IntKind.i64.wrap (par.below + 1) = par.below + 1) := Lib.hid (IntWalk.i64_in _ (by omega))
  go_upto_region 9 with fail
  go_cut [9] (fun p wx => ∃ w6, Below w.heap.size w w6 ∧ wx = w6.setCell ⟨g, i * 8 + 3, none⟩ (.int .i64 (par.below + 1)))
  case first =>
    refine wp_region_steps_last 15 (FD9 mp g L.length cap i (bs (upP s)) par.below) (fun w w' => Below w.heap.size w w') (by kernel_rfl) (by kernel_rfl) (by kernel_rfl) (by kernel_rfl) (by kernel_rfl) (Below.refl _ _) ?_ (fun u v w h1 h2 => h1.trans (h2.mono h1.size)) ?_ ?_
    · intro i v w w' _ h1 h2
      exact FD9_keep i h1
    · intro j o hi ho x w1 hR hF
      match j, ho with
      | 0, ho =>
        obtain rfl := Option.some.inj ho
        exact gstep_move rfl (wanted0 rfl) _ rfl _ (eval_of 0 _ (by kernel_rfl) rfl) ⟨_, rfl, rfl, Below.refl _ _⟩
      | 1, ho =>
        obtain rfl := Option.some.inj ho
        exact gstep_nil rfl (wanted0 rfl) _ rfl _ (eval_at 30 0 _ (by kernel_rfl) (show 30 < 67 by decide) (hF 0 (by kernel_rfl))) ⟨_, rfl, rfl, Below.refl _ _⟩
      | 2, ho =>
        obtain rfl := Option.some.inj ho
        exact gstep_field rfl (wanted0 rfl) _ _ _ rfl _ (eval_at 31 1 _ (by kernel_rfl) (show 31 < 67 by decide) (hF 1 (by kernel_rfl))) _ (run_mdf w1 _) ⟨_, rfl, rfl, Below.refl _ _⟩
      | 3, ho =>
        obtain rfl := Option.some.inj ho
        exact gstep_load rfl (wanted0 rfl) _ _ rfl _ (eval_at 32 2 _ (by kernel_rfl) (show 32 < 67 by decide) (hF 2 (by kernel_rfl))) _ (run_loadMs w1 _ _ _ _ (HCE.out w1 hR).1) ⟨_, rfl, rfl, Below.refl _ _⟩
      | 4, ho =>
        obtain rfl := Option.some.inj ho
        exact gstep_move rfl (wanted0 rfl) _ rfl _ (eval_of 0 _ (by kernel_rfl) rfl) ⟨_, rfl, rfl, Below.refl _ _⟩
      | 5, ho =>
        obtain rfl := Option.some.inj ho
        exact gstep_move rfl (wanted0 rfl) _ rfl _ (eval_of 8 _ (by kernel_rfl) rfl) ⟨_, rfl, rfl, Below.refl _ _⟩
      | 6, ho =>
        obtain rfl := Option.some.inj ho
        refine gstep_call2 rfl (wanted0 rfl) _ _ _ _ rfl _ _ (eval_at 34 4 _ (by kernel_rfl) (show 34 < 67 by decide) (hF 4 (by kernel_rfl))) (eval_at 35 5 _ (by kernel_rfl) (show 35 < 67 by decide) (hF 5 (by kernel_rfl))) (by kernel_rfl) ?_
        refine (HFD.out _ hR).mono ?_
        rintro e w2 ⟨rfl, b2⟩
        exact ⟨_, rfl, _, rfl, rfl, b2⟩
      | 7, ho =>
        obtain rfl := Option.some.inj ho
        exact gstep_index rfl (wanted0 rfl) _ _ _ rfl _ _ (eval_at 33 3 _ (by kernel_rfl) (show 33 < 67 by decide) (hF 3 (by kernel_rfl))) (eval_at 36 6 _ (by kernel_rfl) (show 36 < 67 by decide) (hF 6 (by kernel_rfl))) _ (run_idxE w1 _ _ _ _ HIL.out HNL.out) ⟨_, rfl, rfl, Below.refl _ _⟩
      | 8, ho =>
        obtain rfl := Option.some.inj ho
        exact gstep_field rfl (wanted0 rfl) _ _ _ rfl _ (eval_at 37 7 _ (by kernel_rfl) (show 37 < 67 by decide) (hF 7 (by kernel_rfl))) _ (run_fE1 w1 _ _) ⟨_, rfl, rfl, Below.refl _ _⟩
      | 9, ho =>
        obtain rfl := Option.some.inj ho
        exact gstep_field rfl (wanted0 rfl) _ _ _ rfl _ (eval_at 38 8 _ (by kernel_rfl) (show 38 < 67 by decide) (hF 8 (by kernel_rfl))) _ (run_fN2 w1 _ _) ⟨_, rfl, rfl, Below.refl _ _⟩
      | 10, ho =>
        obtain rfl := Option.some.inj ho
        exact gstep_load rfl (wanted0 rfl) _ _ rfl _ (eval_at 39 9 _ (by kernel_rfl) (show 39 < 67 by decide) (hF 9 (by kernel_rfl))) _ (run_loadI w1 _ _ (HCE.out w1 hR).2.1) ⟨_, rfl, rfl, Below.refl _ _⟩
      | 11, ho =>
        obtain rfl := Option.some.inj ho
        exact gstep_bin rfl (wanted0 rfl) _ _ _ _ _ rfl _ _ (eval_at 40 10 _ (by kernel_rfl) (show 40 < 67 by decide) (hF 10 (by kernel_rfl))) rfl _ (run_addI w1 _ _ _ HUW.out _ _) ⟨_, rfl, rfl, Below.refl _ _⟩
      | 12, ho =>
        obtain rfl := Option.some.inj ho
        exact gstep_index rfl (wanted0 rfl) _ _ _ rfl _ _ (eval_at 33 3 _ (by kernel_rfl) (show 33 < 67 by decide) (hF 3 (by kernel_rfl))) (eval_at 36 6 _ (by kernel_rfl) (show 36 < 67 by decide) (hF 6 (by kernel_rfl))) _ (run_idxE w1 _ _ _ _ HIL.out HNL.out) ⟨_, rfl, rfl, Below.refl _ _⟩
      | 13, ho =>
        obtain rfl := Option.some.inj ho
        exact gstep_field rfl (wanted0 rfl) _ _ _ rfl _ (eval_at 42 12 _ (by kernel_rfl) (show 42 < 67 by decide) (hF 12 (by kernel_rfl))) _ (run_fE1 w1 _ _) ⟨_, rfl, rfl, Below.refl _ _⟩
      | 14, ho =>
        obtain rfl := Option.some.inj ho
        exact gstep_field rfl (wanted0 rfl) _ _ _ rfl _ (eval_at 43 13 _ (by kernel_rfl) (show 43 < 67 by decide) (hF 13 (by kernel_rfl))) _ (run_fN2 w1 _ _) ⟨_, rfl, rfl, Below.refl _ _⟩
      | n + 15, ho => omega
    · intro o ho x w1 hR hF
      obtain rfl := Option.some.inj ho
      refine gstep_store rfl (wanted0 rfl) _ _ _ rfl _ _ (eval_at 44 14 _ (by kernel_rfl) (show 44 < 67 by decide) (hF 14 (by decide))) (eval_at 41 11 _ (by kernel_rfl) (show 41 < 67 by decide) (hF 11 (by decide))) _ (run_storeI w1 _ _ _ (HCE.out w1 hR).2.1 (HCE.out w1 hR).2.2) ?_
      simp only [putAll, Act.put, List.setIfInBounds_toArray, List.set_cons_succ, List.set_cons_zero]
      go_wp2_with fail
      go_meet
      exact ⟨w1, HDR.out w1 hR, rfl⟩
  case rest =>
    obtain ⟨w6, b6, rfl⟩ := hcut
    have M6 := HM.out.below b6
    have M7 := M6.put i 3 (upP s, par) (upP s, upC par) (.int .i64 (par.below + 1)) HLI.out (by decide) rfl
    have R7 := HR7.out
    have O7 : Only w (w6.setCell ⟨g, i * 8 + 3, none⟩ (.int .i64 (par.below + 1))) mp g := (Only.of_below mp g b6).set _ _
    obtain ⟨w7, hw7⟩ : ∃ w7, w7 = w6.setCell ⟨g, i * 8 + 3, none⟩ (.int .i64 (par.below + 1)) := ⟨_, rfl⟩
    rw [← hw7] at M7 O7 ⊢
    obtain ⟨L1, hL1⟩ : ∃ L1, L1 = L.set i (upP s, upC par) := ⟨_, rfl⟩
    have hl1 : L1.length = L.length := by rw [hL1, List.length_set]
    rw [← hL1] at M7 R7
    obtain ⟨q, hq, hLq⟩ := R7.find_some HTS.out
    have hql : q < L1.length := (List.getElem?_eq_some_iff.1 hLq).1
    have HF7 := Lib.hid (fun W (hW : Below w7.heap.size w7 W) => by
      have := mfind_any base mp g cap L1 s W (M7.below hW) (by omega)
      rw [hq] at this; exact this)
    have HM7 := Lib.hid M7
    have HR8 := Lib.hid (R7.del hLq)
    have HL1 := Lib.hid hl1
    have HQL := Lib.hid hql
    have HTWO : Hid (2 ≤ L1.length) := Lib.hid (by
      have h1 : L1[i]? = some (upP s, upC par) := by rw [hL1]; exact List.getElem?_set_self HIL.out
      have h2 := (List.getElem?_eq_some_iff.1 h1).1
      have h3 : i ≠ q := by
        rintro rfl
        rw [h1] at hLq
        injection hLq with h4
        injection h4 with h4 _
        exact HNE.out h4.symm
      omega)
    have q0 : (0 : Int) ≤ (q : Int) := by omega
    clear M6 hw7 M7 R7 hq hLq HM HLI HB HF HCE HFD HDR b3 b6 hL1 hil HIL HUW p0 p1 HU HKN HC hl1
    go_wp2_with fail
    refine (HF7.out _ (Below.refl _ _)).mono ?_
    rintro e w8 ⟨rfl, b8⟩
    go_wp2_with fail
    obtain ⟨wd, hwd⟩ : ∃ wd, wd = w8 := ⟨_, rfl⟩
    subst hwd
    have HDR : Hid (∀ W : World, Below wd.drew.heap.size wd.drew W → Below w7.heap.size w7 W) := Lib.hid fun W hW => b8.trans (((Below.refl _ wd).drew.trans (hW.mono (Nat.le_refl _))).mono b8.size)
    have HCE : Hid (∀ W : World, Below wd.drew.heap.size wd.drew W → W.cell? ⟨mp, 0, none⟩ = some (.slice (some ⟨g, 0, none⟩) L1.length cap) ∧ W.frozen? ⟨mp, 0, none⟩ = false) := Lib.hid fun W hW => ⟨(HM7.out.below (HDR.out W hW)).cell, (HM7.out.below (HDR.out W hW)).frz⟩
    obtain ⟨hc1, hc2⟩ := HM7.out.cap_le
    have HQ : Hid (q ≤ L1.length) := Lib.hid (by omega)
    have HNL : Hid (L1.length ≤ cap ∧ L1.length ≤ 1000) := Lib.hid ⟨hc1, by have := HL1.out; omega⟩
    have HLT : Hid ((meCells (L1.take q)).length = q * 8) := Lib.hid (by rw [meCells_len, List.length_take, Nat.min_eq_left (by omega)])
    have HLD : Hid ((meCells (L1.drop (q + 1))).length = (L1.length - (q + 1)) * 8) := Lib.hid (by rw [meCells_len, List.length_drop])
    have HLE : Hid (q + (L1.length - (q + 1)) = L1.length - 1) := Lib.hid (by omega)
    have HQW : Hid (IntKind.i64.wrap ((q : Int) + 1) = (q : Int) + 1) := Lib.hid (IntWalk.i64_in _ (by have := HNL.out; omega))
    obtain ⟨ad, c2, hsl, hadd⟩ := run_tailE w g L1.length cap (q + 1) (by omega) ⟨hc1, by have := HNL.out; omega⟩
    have HSL : Hid (∀ W : World, (Instr.sliceAt 45 (.slice (some ⟨g, 0, none⟩) L1.length cap) (some (.int .i64 ((q : Int) + 1))) none none).run Tryz.prog W = .ok (.slice (some ad) (L1.length - (q + 1)) c2) W) := Lib.hid (fun W => by have := hsl W; rw [show (((q + 1 : Nat) : Int)) = (q : Int) + 1 by omega] at this; exact this)
    have HOL : Hid (∀ W : World, Below wd.drew.heap.size wd.drew W → ∀ j u, (meCells (L1.take q))[j]? = some u → W.cell? ((⟨g, 0, none⟩ : Addr).add j) = some u) := Lib.hid fun W hW j u hu => by
      have h1 := meCells_take L1 q j u hu
      have hlt := (List.getElem?_eq_some_iff.1 h1).1
      rw [meCells_len] at hlt
      rw [show (⟨g, 0, none⟩ : Addr).add j = ⟨g, j, none⟩ by rw [Addr.add_lit, Nat.zero_add], (HM7.out.below (HDR.out W hW)).row.cellAt j hlt, h1]
    have HOD : Hid (∀ W : World, Below wd.drew.heap.size wd.drew W → ∀ j u, (meCells (L1.drop (q + 1)))[j]? = some u → W.cell? (ad.add j) = some u) := Lib.hid fun W hW j u hu => by
      rcases hadd with rfl | h0
      · exact (HM7.out.below (HDR.out W hW)).news (q + 1) j u hu
      · have hlt := (List.getElem?_eq_some_iff.1 hu).1
        rw [HLD.out, h0] at hlt; omega
    clear hsl hadd hc1 hc2
    go_cut [10] (fun p wx => ∃ w9 g9 cap9, Below wd.drew.heap.size wd.drew w9 ∧ w9.ownsRow wd.drew.heap.size 49 8 (.slice (some ⟨g9, 0, none⟩) (L1.length - 1) cap9) (L1.length - 1) (meCells (L1.take q ++ L1.drop (q + 1))) ∧ wx = w9.setCell ⟨mp, 0, none⟩ (.slice (some ⟨g9, 0, none⟩) (L1.length - 1) cap9))
    case first =>
      refine wp_region_inv_last 19 (IFJ (FD11 mp g L1.length cap q ad c2) (JDl wd.drew L1 q)) (by kernel_rfl) (by kernel_rfl) (by kernel_rfl) (by kernel_rfl) (by kernel_rfl) ?_ ?_ ?_
      · intro x
        exact ⟨fun j hj => (by cases hj), Below.refl _ _, (by simp), (by simp), (by simp)⟩
      · intro j o hi ho b x w1 hI hbi hW
        have hF : ∀ k, Region.waitsFor .any _ j k = true → FD11 mp g L1.length cap q ad c2 k (x k) := fun k hk => hI.1 k (hW k hk)
        match j, ho with
        | 0, ho =>
          obtain rfl := Option.some.inj ho
          exact gstep_move rfl (wanted0 rfl) _ rfl _ (eval_of 0 _ (by kernel_rfl) rfl) ⟨_, rfl, IFJ.step hI rfl (JDl.pure hI.2 (by decide))⟩
        | 1, ho =>
          obtain rfl := Option.some.inj ho
          exact gstep_rowN rfl (wanted0 rfl) _ rfl _ _ (run_rowE w1) ⟨_, rfl, IFJ.step hI trivial (JDl.one hI.2 hbi)⟩
        | 2, ho =>
          obtain rfl := Option.some.inj ho
          exact gstep_move rfl (wanted0 rfl) _ rfl _ (eval_of 0 _ (by kernel_rfl) rfl) ⟨_, rfl, IFJ.step hI rfl (JDl.pure hI.2 (by decide))⟩
        | 3, ho =>
          obtain rfl := Option.some.inj ho
          exact gstep_nil rfl (wanted0 rfl) _ rfl _ (eval_at 50 2 _ (by kernel_rfl) (show 50 < 67 by decide) (hF 2 (by kernel_rfl))) ⟨_, rfl, IFJ.step hI rfl (JDl.pure hI.2 (by decide))⟩
        | 4, ho =>
          obtain rfl := Option.some.inj ho
          exact gstep_field rfl (wanted0 rfl) _ _ _ rfl _ (eval_at 51 3 _ (by kernel_rfl) (show 51 < 67 by decide) (hF 3 (by kernel_rfl))) _ (run_mdf w1 _) ⟨_, rfl, IFJ.step hI rfl (JDl.pure hI.2 (by decide))⟩
        | 5, ho =>
          obtain rfl := Option.some.inj ho
          exact gstep_load rfl (wanted0 rfl) _ _ rfl _ (eval_at 52 4 _ (by kernel_rfl) (show 52 < 67 by decide) (hF 4 (by kernel_rfl))) _ (run_loadMs w1 _ _ _ _ (HCE.out w1 hI.2.1).1) ⟨_, rfl, IFJ.step hI rfl (JDl.pure hI.2 (by decide))⟩
        | 6, ho =>
          obtain rfl := Option.some.inj ho
          exact gstep_move rfl (wanted0 rfl) _ rfl _ (eval_of 10 _ (by kernel_rfl) rfl) ⟨_, rfl, IFJ.step hI rfl (JDl.pure hI.2 (by decide))⟩
        | 7, ho =>
          obtain rfl := Option.some.inj ho
          exact gstep_slice1 rfl (wanted0 rfl) _ _ _ rfl _ _ (eval_at 53 5 _ (by kernel_rfl) (show 53 < 67 by decide) (hF 5 (by kernel_rfl))) (eval_at 54 6 _ (by kernel_rfl) (show 54 < 67 by decide) (hF 6 (by kernel_rfl))) _ (run_cutE w1 _ _ _ _ HQ.out HNL.out) ⟨_, rfl, IFJ.step hI rfl (JDl.pure hI.2 (by decide))⟩
        | 8, ho =>
          obtain rfl := Option.some.inj ho
          obtain ⟨i1, hi1, hz1, hz2, hz3⟩ := info_parts info_me
          have hb1 : b 1 = true := hW 1 (by kernel_rfl)
          have hown := JDl.at1 hI.2 hb1 hbi
          refine gstep_append rfl (wanted0 rfl) _ _ _ rfl wd.drew.heap.size 49 i1 _ 8 80 und_mes hi1 hz1 hz2 hz3 rfl (by decide) _ 0 [] (eval_at 49 1 _ (by kernel_rfl) (show 49 < 67 by decide) rfl) hown ⟨g, 0, none⟩ q cap (meCells (L1.take q)) (eval_at 55 7 _ (by kernel_rfl) (show 55 < 67 by decide) (hF 7 (by kernel_rfl))) HLT.out (fun j u hu => HOL.out w1 hI.2.1 j u hu) (meCells_one _) (by have := HQ.out; have := HNL.out; unfold maxLen; omega) (by have := HQ.out; have := HNL.out; omega) hI.2.1.size ?_
          intro v' w' ho hg
          exact ⟨_, rfl, IFJ.step hI trivial (JDl.two hI.2 hb1 hbi hown ho hg)⟩
        | 9, ho =>
          obtain rfl := Option.some.inj ho
          exact gstep_move rfl (wanted0 rfl) _ rfl _ (eval_of 0 _ (by kernel_rfl) rfl) ⟨_, rfl, IFJ.step hI rfl (JDl.pure hI.2 (by decide))⟩
        | 10, ho =>
          obtain rfl := Option.some.inj ho
          exact gstep_nil rfl (wanted0 rfl) _ rfl _ (eval_at 57 9 _ (by kernel_rfl) (show 57 < 67 by decide) (hF 9 (by kernel_rfl))) ⟨_, rfl, IFJ.step hI rfl (JDl.pure hI.2 (by decide))⟩
        | 11, ho =>
          obtain rfl := Option.some.inj ho
          exact gstep_field rfl (wanted0 rfl) _ _ _ rfl _ (eval_at 58 10 _ (by kernel_rfl) (show 58 < 67 by decide) (hF 10 (by kernel_rfl))) _ (run_mdf w1 _) ⟨_, rfl, IFJ.step hI rfl (JDl.pure hI.2 (by decide))⟩
        | 12, ho =>
          obtain rfl := Option.some.inj ho
          exact gstep_load rfl (wanted0 rfl) _ _ rfl _ (eval_at 59 11 _ (by kernel_rfl) (show 59 < 67 by decide) (hF 11 (by kernel_rfl))) _ (run_loadMs w1 _ _ _ _ (HCE.out w1 hI.2.1).1) ⟨_, rfl, IFJ.step hI rfl (JDl.pure hI.2 (by decide))⟩
        | 13, ho =>
          obtain rfl := Option.some.inj ho
          exact gstep_move rfl (wanted0 rfl) _ rfl _ (eval_of 10 _ (by kernel_rfl) rfl) ⟨_, rfl, IFJ.step hI rfl (JDl.pure hI.2 (by decide))⟩
        | 14, ho =>
          obtain rfl := Option.some.inj ho
          exact gstep_bin rfl (wanted0 rfl) _ _ _ _ _ rfl _ _ (eval_at 61 13 _ (by kernel_rfl) (show 61 < 67 by decide) (hF 13 (by kernel_rfl))) rfl _ (run_addI w1 _ _ _ HQW.out _ _) ⟨_, rfl, IFJ.step hI rfl (JDl.pure hI.2 (by decide))⟩
        | 15, ho =>
          obtain rfl := Option.some.inj ho
          exact gstep_slice2 rfl (wanted0 rfl) _ _ _ rfl _ _ (eval_at 60 12 _ (by kernel_rfl) (show 60 < 67 by decide) (hF 12 (by kernel_rfl))) (eval_at 62 14 _ (by kernel_rfl) (show 62 < 67 by decide) (hF 14 (by kernel_rfl))) _ (HSL.out w1) ⟨_, rfl, IFJ.step hI rfl (JDl.pure hI.2 (by decide))⟩
        | 16, ho =>
          obtain rfl := Option.some.inj ho
          obtain ⟨i1, hi1, hz1, hz2, hz3⟩ := info_parts info_me
          have hb8 : b 8 = true := hW 8 (by kernel_rfl)
          have hown := JDl.at8 hI.2 hb8 hbi
          refine gstep_append rfl (wanted0 rfl) _ _ _ rfl wd.drew.heap.size 49 i1 _ 8 80 und_mes hi1 hz1 hz2 hz3 rfl (by decide) _ q (meCells (L1.take q)) (eval_at 56 8 _ (by kernel_rfl) (show 56 < 67 by decide) rfl) hown ad (L1.length - (q + 1)) c2 (meCells (L1.drop (q + 1))) (eval_at 63 15 _ (by kernel_rfl) (show 63 < 67 by decide) (hF 15 (by kernel_rfl))) HLD.out (fun j u hu => HOD.out w1 hI.2.1 j u hu) (meCells_one _) (by have := HQ.out; have := HNL.out; unfold maxLen; omega) (by have := HQ.out; have := HNL.out; omega) hI.2.1.size ?_
          intro v' w' ho hg
          exact ⟨_, rfl, IFJ.step hI trivial (JDl.three hI.2 hb8 hbi hown (HLE.out ▸ ho) hg)⟩
        | 17, ho =>
          obtain rfl := Option.some.inj ho
          exact gstep_nil rfl (wanted0 rfl) _ rfl _ (eval_at 48 0 _ (by kernel_rfl) (show 48 < 67 by decide) (hF 0 (by kernel_rfl))) ⟨_, rfl, IFJ.step hI rfl (JDl.pure hI.2 (by decide))⟩
        | 18, ho =>
          obtain rfl := Option.some.inj ho
          exact gstep_field rfl (wanted0 rfl) _ _ _ rfl _ (eval_at 65 17 _ (by kernel_rfl) (show 65 < 67 by decide) (hF 17 (by kernel_rfl))) _ (run_mdf w1 _) ⟨_, rfl, IFJ.step hI rfl (JDl.pure hI.2 (by decide))⟩
        | n + 19, ho => omega
      · intro o ho b x w1 hI hA
        obtain rfl := Option.some.inj ho
        have hF : ∀ k, k < 19 → FD11 mp g L1.length cap q ad c2 k (x k) := fun k hk => hI.1 k (hA k hk)
        have hrow := JDl.at16 hI.2 (hA 16 (by decide))
        obtain ⟨g9, cap9, hx16, _⟩ := hrow.form (by have := HTWO.out; omega)
        rw [hx16] at hrow
        refine gstep_store rfl (wanted0 rfl) _ _ _ rfl _ _ (eval_at 66 18 _ (by kernel_rfl) (show 66 < 67 by decide) (hF 18 (by decide))) (eval_at 64 16 _ (by kernel_rfl) (show 64 < 67 by decide) hx16) _ (run_storeMs w1 _ _ _ _ _ (HCE.out w1 hI.2.1).1 (HCE.out w1 hI.2.1).2) ?_
        simp only [putAll, Act.put, List.setIfInBounds_toArray, List.set_cons_succ, List.set_cons_zero]
        go_wp2_with fail
        go_meet
        exact ⟨w1, g9, cap9, hI.2.1, hrow, rfl⟩
    case rest =>
      obtain ⟨w9, g9, cap9, b9, hrow, rfl⟩ := hcut
      have b9' := HDR.out _ b9
      have M9 := HM7.out.below b9'
      have hlen : (L1.take q ++ L1.drop (q + 1)).length = L1.length - 1 := by
        have := HQL.out
        rw [List.length_append, List.length_take, List.length_drop, Nat.min_eq_left (by omega)]; omega
      rw [← hlen] at hrow ⊢
      have hmw : mp < wd.drew.heap.size := Nat.lt_of_lt_of_le HM7.out.ltm (by have := b8.size; exact this)
      have M10 := M9.turn hrow (by have := HM7.out.base_le; have := b8.size; exact Nat.le_trans (by assumption) this) hmw
      have hg9 := (hrow.lt g9 rfl).1
      go_wp2_with fail
      go_ret
      refine ⟨rfl, g9, cap9, _, M10, ?_, by rw [hlen, HL1.out], (O7.trans (Only.of_below mp g b9')).setp _ _, .inr ?_⟩
      · rw [HLS.out]; exact HR8.out
      · have := O7.size; have := b8.size; exact Nat.le_trans (by assumption) (Nat.le_trans (by assumption) hg9)
end Go.Proofs.YtblcpihfnpgfiaaGreatDoor
