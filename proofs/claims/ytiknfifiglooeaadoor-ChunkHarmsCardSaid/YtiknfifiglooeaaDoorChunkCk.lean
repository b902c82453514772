/- Chunk: a chunk of the snapshot, as it is on the device. No conditions beyond those in each statement. -/
import Derived.Test.YtiknfifiglooeaaDoorChunkHas
namespace Go.Proofs.YtiknfifiglooeaaDoor
open Go Go.RowKit Go.Proofs.Tryd
set_option linter.unusedVariables false
set_option maxRecDepth 100000

theorem run_loadCl (W : World) (b B : Nat) (base i t n area : Int) (p : Option Addr) (k c : Nat) (h : CsB W b B base i t n (.slice p k c) area) : (Instr.loadAt 67 (.pointer (some ⟨b, 2, none⟩))).run Tryd.prog W = .ok (.agg #[.int .i64 i, .int .i64 t, .int .i64 n, .slice p k c]) W := by
  obtain ⟨⟨d0, d1, d2, d3, d4, d5, d6⟩, _⟩ := h.cells
  go_simp
theorem run_loadRc (W : World) (b : Nat) (r : Rc) (h : RecB W b r) : (Instr.loadAt 58 (.pointer (some ⟨b, 0, none⟩))).run Tryd.prog W = .ok (recV r) W := by
  obtain ⟨⟨c0, c1, c2, c3⟩, _⟩ := h.cells
  unfold recV
  go_simp
theorem run_neRc (W : World) (x y : Rc) (B : Bool) (h : (B = false) ↔ x = y) (s1 s2 : Operand) : (do eqGuard .neq 58 s1 s2 (recV x) (recV y); binOp .neq 58 (recV x) (recV y) : Sem Value).run Tryd.prog W = .ok (.bool B) W := by
  unfold recV
  go_simp
  obtain ⟨k, i, t, d⟩ := x
  obtain ⟨k', i', t', d'⟩ := y
  simp only
  have hT : ¬ ((⟨k, i, t, d⟩ : Rc) = ⟨k', i', t', d'⟩) → B = true := fun hn => by
    cases hB : B with
    | true => rfl
    | false => exact absurd (h.1 hB) hn
  split
  · split
    · split
      · split
        · rename_i h1 h2 h3 h4
          have hd : d = d' := by
            rw [ByteArray.toList_eq, ByteArray.toList_eq] at h4
            exact ByteArray.ext (Array.toList_inj.1 h4)
          rw [h.2 (by rw [h1, h2, h3, hd])]
        · rename_i h4
          rw [hT (fun e => h4 (by rw [(Rc.mk.inj e).2.2.2]))]
      · rename_i h4
        rw [hT (fun e => h4 (Rc.mk.inj e).2.2.1)]
    · rename_i h4
      rw [hT (fun e => h4 (Rc.mk.inj e).2.1)]
  · rename_i h4
    rw [hT (fun e => h4 (Rc.mk.inj e).1)]
theorem call_chunkr (W : World) (u v x : Value) : (callFunc 79 #[u, v, x]).run Tryd.prog W = .ok (.enter 79 #[u, v, x]) W := by go_simp
theorem call_matches (W : World) (u v x : Value) : (callFunc 85 #[u, v, x]).run Tryd.prog W = .ok (.enter 85 #[u, v, x]) W := by go_simp
def FCa (b rb k : Nat) (l : Ls) (lv : Value) (r : Rc) : Nat → Value → World → Prop
  | 0, v, _ => v = recV r
  | 1, v, _ => v = .pointer (some ⟨b, 0, none⟩)
  | 2, v, _ => v = .pointer (some ⟨b, 0, none⟩)
  | 3, v, _ => v = .pointer (some ⟨b, 2, none⟩)
  | 4, v, _ => v = lsV l lv
  | 5, v, _ => v = .int .i64 (k : Int)
  | 6, v, _ => v = .pointer (some ⟨rb, 3, none⟩)
  | 7, v, _ => v = .string r.data
  | 8, v, _ => v = recV (chunkR l.index (k : Int) r.data)
  | 9, v, _ => v = .bool false
  | 10, v, _ => v = .bool false
  | 11, v, _ => v = .pointer (some ⟨b, 0, none⟩)
  | 12, v, _ => v = .pointer (some ⟨b, 0, none⟩)
  | 13, v, _ => v = .pointer (some ⟨b, 2, none⟩)
  | 14, v, _ => v = lsV l lv
  | 15, v, _ => v = .int .i64 (k : Int)
  | 16, v, _ => v = .pointer (some ⟨rb, 3, none⟩)
  | 17, v, _ => v = .string r.data
  | 18, v, _ => v = .bool true
  | 19, v, _ => v = .bool false
  | 20, v, _ => v = .bool false
  | _, _, _ => True
theorem FCa_keep {b rb k : Nat} {l : Ls} {lv : Value} {r : Rc} {v : Value} {w w' : World} : ∀ j : Nat, FCa b rb k l lv r j v w → FCa b rb k l lv r j v w'
  | 0, h => h
  | 1, h => h
  | 2, h => h
  | 3, h => h
  | 4, h => h
  | 5, h => h
  | 6, h => h
  | 7, h => h
  | 8, h => h
  | 9, h => h
  | 10, h => h
  | 11, h => h
  | 12, h => h
  | 13, h => h
  | 14, h => h
  | 15, h => h
  | 16, h => h
  | 17, h => h
  | 18, h => h
  | 19, h => h
  | 20, h => h
  | _ + 21, _ => trivial

def FCb (b rb k : Nat) (l : Ls) (lv : Value) (r : Rc) : Nat → Value → World → Prop
  | 0, v, _ => v = recV r
  | 1, v, _ => v = .pointer (some ⟨b, 0, none⟩)
  | 2, v, _ => v = .pointer (some ⟨b, 0, none⟩)
  | 3, v, _ => v = .pointer (some ⟨b, 2, none⟩)
  | 4, v, _ => v = lsV l lv
  | 5, v, _ => v = .int .i64 (k : Int)
  | 6, v, _ => v = .pointer (some ⟨rb, 3, none⟩)
  | 7, v, _ => v = .string r.data
  | 8, v, _ => v = recV (chunkR l.index (k : Int) r.data)
  | 9, v, _ => v = .bool false
  | 10, v, _ => v = .bool false
  | 11, v, _ => v = .pointer (some ⟨b, 0, none⟩)
  | 12, v, _ => v = .pointer (some ⟨b, 0, none⟩)
  | 13, v, _ => v = .pointer (some ⟨b, 2, none⟩)
  | 14, v, _ => v = lsV l lv
  | 15, v, _ => v = .int .i64 (k : Int)
  | 16, v, _ => v = .pointer (some ⟨rb, 3, none⟩)
  | 17, v, _ => v = .string r.data
  | 18, v, _ => v = .bool false
  | 19, v, _ => v = .bool true
  | 20, v, _ => v = .bool true
  | _, _, _ => True
theorem FCb_keep {b rb k : Nat} {l : Ls} {lv : Value} {r : Rc} {v : Value} {w w' : World} : ∀ j : Nat, FCb b rb k l lv r j v w → FCb b rb k l lv r j v w'
  | 0, h => h
  | 1, h => h
  | 2, h => h
  | 3, h => h
  | 4, h => h
  | 5, h => h
  | 6, h => h
  | 7, h => h
  | 8, h => h
  | 9, h => h
  | 10, h => h
  | 11, h => h
  | 12, h => h
  | 13, h => h
  | 14, h => h
  | 15, h => h
  | 16, h => h
  | 17, h => h
  | 18, h => h
  | 19, h => h
  | 20, h => h
  | _ + 21, _ => trivial

def FCc (b rb k : Nat) (l : Ls) (lv : Value) (r : Rc) : Nat → Value → World → Prop
  | 0, v, _ => v = recV r
  | 1, v, _ => v = .pointer (some ⟨b, 0, none⟩)
  | 2, v, _ => v = .pointer (some ⟨b, 0, none⟩)
  | 3, v, _ => v = .pointer (some ⟨b, 2, none⟩)
  | 4, v, _ => v = lsV l lv
  | 5, v, _ => v = .int .i64 (k : Int)
  | 6, v, _ => v = .pointer (some ⟨rb, 3, none⟩)
  | 7, v, _ => v = .string r.data
  | 8, v, _ => v = recV (chunkR l.index (k : Int) r.data)
  | 9, v, _ => v = .bool true
  | 10, v, _ => v = .bool true
  | 11, v, _ => v = undef
  | 12, v, _ => v = undef
  | 13, v, _ => v = undef
  | 14, v, _ => v = undef
  | 15, v, _ => v = undef
  | 16, v, _ => v = undef
  | 17, v, _ => v = undef
  | 18, v, _ => v = undef
  | 19, v, _ => v = undef
  | 20, v, _ => v = .bool true
  | _, _, _ => True
theorem FCc_keep {b rb k : Nat} {l : Ls} {lv : Value} {r : Rc} {v : Value} {w w' : World} : ∀ j : Nat, FCc b rb k l lv r j v w → FCc b rb k l lv r j v w'
  | 0, h => h
  | 1, h => h
  | 2, h => h
  | 3, h => h
  | 4, h => h
  | 5, h => h
  | 6, h => h
  | 7, h => h
  | 8, h => h
  | 9, h => h
  | 10, h => h
  | 11, h => h
  | 12, h => h
  | 13, h => h
  | 14, h => h
  | 15, h => h
  | 16, h => h
  | 17, h => h
  | 18, h => h
  | 19, h => h
  | 20, h => h
  | _ + 21, _ => trivial

theorem c_sread_fits {D : Dv} (hf : D.Fits) (i : Int) : (D.sread i).1.data.size ≤ 512 := by
  unfold Dv.sread
  split
  · exact Nat.zero_le _
  · split
    · have hs := read_size hf i
      rcases get_cases (D.read i).1 with ⟨_, h⟩ | ⟨_, h⟩ | ⟨r, hr, _, h⟩
      · rw [h]; exact Nat.zero_le _
      · rw [h]; exact Nat.zero_le _
      · rw [h]; have := hr.data; show r.data.size ≤ 512; omega
    · exact Nat.zero_le _
open Classical in
/-- What Chunk answers. -/
noncomputable def chunkF (D : Dv) (base area : Int) (l : Ls) (k : Nat) : ByteArray × Int :=
  if (D.sread (base + area * 66 + 2 + (k : Int))).2.2 = 0 then
    if (D.sread (base + area * 66 + 2 + (k : Int))).1 = chunkR l.index (k : Int) (D.sread (base + area * 66 + 2 + (k : Int))).1.data ∧ matchB l k (D.sread (base + area * 66 + 2 + (k : Int))).1.data = true then ((D.sread (base + area * 66 + 2 + (k : Int))).1.data, 0) else (⟨#[]⟩, 6)
  else (⟨#[]⟩, (D.sread (base + area * 66 + 2 + (k : Int))).2.2)
/-- What stands behind the reading. -/
def CkRel (w : World) (r : Rc) (st x : Int) (p q s : Value) (wx : World) : Prop := ∃ rb, p = .pointer (some ⟨rb, 0, none⟩) ∧ q = .int .i64 st ∧ s = .int .i64 x ∧ RecB wx rb r ∧ Below w.heap.size w wx
open Classical in
set_option maxHeartbeats 8000000 in
theorem cchunk_any {m : Nat} {E : Nat → Prop} {w : World} {b B : Nat} {base : Int} {l : Ls} {sv : Value} {area : Int} {D : Dv} (k : Nat) (h : StoW m E w b B base l sv area D) (h0 : l.index ≠ 0) (hk : k < l.sums.length) (ht : Tabs w) (hw : D.writes ≤ 1073741824) :
    Calls Tryd.prog 43 #[.pointer (some ⟨b, 0, none⟩), .int .i64 (k : Int)] w fun e w' => e = .returned (.tuple #[.string (chunkF D base area l k).1, .int .i64 (chunkF D base area l k).2]) ∧ Below w.heap.size w w' := by
  obtain ⟨i, t, n, ss⟩ := l
  obtain ⟨a, cap, rfl, hl, _⟩ := id h.sums
  simp only at hl hk h0
  have hbl := h.base
  have hal := h.area
  have hin : -9223372036854775808 ≤ (k : Int) ∧ (k : Int) ≤ 9223372036854775807 := by omega
  have HH := Lib.hid (chas_any (k : Int) hin h.st)
  rw [show decide (i ≠ 0 ∧ 0 ≤ (k : Int) ∧ (k : Int) < (ss.length : Int)) = true by simp [h0]; omega] at HH
  obtain ⟨q, hq⟩ : ∃ q : Int, q = base + area * 66 + 2 + (k : Int) := ⟨_, rfl⟩
  have HCB := Lib.hid (fun (W : World) (hb : Below w.heap.size w W) => cchunkb_any (h.st.below hb) area (k : Int) hbl (by omega) ⟨by omega, by omega⟩)
  rw [← hq] at HCB
  obtain ⟨r, st, x, hD⟩ : ∃ r st x, D.sread q = (r, st, x) := ⟨_, _, _, rfl⟩
  have HRD := Lib.hid (fun (W : World) (hb : Below w.heap.size w W) => devw_sread q (ht.below hb) hw (h.dev.below hb))
  rw [hD] at HRD
  unfold sreadV recV at HRD
  simp only at HRD
  have hCF : chunkF D base area ⟨i, t, n, ss⟩ k = if x = 0 then (if r = chunkR i (k : Int) r.data ∧ matchB ⟨i, t, n, ss⟩ k r.data = true then (r.data, 0) else (⟨#[]⟩, 6)) else (⟨#[]⟩, x) := by
    unfold chunkF
    rw [← hq, hD]
  have HCF := Lib.hid hCF
  have hsz := c_sread_fits h.dev.fits q
  rw [hD] at hsz
  have HSZ : Hid (r.data.size ≤ 512) := hsz
  clear hsz
  have H := Lib.hid h
  have HT := Lib.hid ht
  obtain ⟨⟨c0, c1, c2, c3, c4, c5, c6⟩, _⟩ := h.st.cells
  have bd := (Below.refl w.heap.size w).drew
  have BA : Below w.heap.size w (w.alloc (.cells #[.int .i64 0, .int .i64 0, .int .i64 0, .string ⟨#[]⟩] 58)).drew := ((Below.refl _ w).alloc (Nat.le_refl _) _).drew
  have NA : RecB (w.alloc (.cells #[.int .i64 0, .int .i64 0, .int .i64 0, .string ⟨#[]⟩] 58)).drew w.heap.size rc0 := RecB.new w rc0
  have HCW := Lib.hid (fun (W : World) (hb : Below w.heap.size w W) => (h.st.below hb).cells.1)
  have y1 : ¬ b = w.heap.size := Nat.ne_of_lt h.st.lt
  have y2 : ¬ w.heap.size = b := Nat.ne_of_gt h.st.lt
  clear h ht hCF hq hD
  go_enter Tryd.func43, Tryd.ntmps43
  go_wp2_with fail
  refine HH.out.mono ?_
  rintro e w1 ⟨rfl, rfl⟩
  go_wp2_with fail
  go_cut [6, 7, 8] (CkRel w r st x)
  case first =>
    go_region_held3 (fun w' => w'.cell? ⟨b, 0, none⟩ = some (.pointer (some ⟨B, 0, none⟩)) ∧ w'.cell? ⟨b, 6, none⟩ = some (.int .i64 area)) (first | (with_reducible assumption) | (refine ⟨?_, ?_⟩ <;> with_reducible assumption) | go_keep)
      ((first
        | (go_at_call 78; refine (HCB.out _ ?hBa).mono ?_; (case hBa => first | (with_reducible exact BA) | (with_reducible exact bd)); rintro e w2 ⟨rfl, rfl⟩)
        | (go_at_call 26; refine (HRD.out _ ?hBb).mono ?_; (case hBb => first | (with_reducible exact BA) | (with_reducible exact bd)); rintro e w3 ⟨rfl, hb3⟩; (first
          | (have N3 : RecB w3 w.heap.size rc0 := (by with_reducible exact NA.below hb3); have B3 : Below w.heap.size w w3 := (by with_reducible exact BA.trans (hb3.mono BA.size)); obtain ⟨g0, _, _, _, _, _, g6⟩ := HCW.out w3 B3; obtain ⟨⟨n0, n1, n2, n3⟩, k0, k1, k2, k3⟩ := N3.cells; simp only [rc0] at n0 n1 n2 n3)
          | (have B3 : Below w.heap.size w w3 := (by with_reducible exact bd.trans (hb3.mono bd.size)); obtain ⟨g0, _, _, _, _, _, g6⟩ := HCW.out w3 B3)))))
    all_goals (go_wp2_with fail; go_meet)
    all_goals first
      | (exact ⟨w.heap.size, rfl, rfl, rfl, N3.set r, below_rec B3 (Nat.le_refl _) r⟩)
      | (exact ⟨w3.heap.size, rfl, rfl, rfl, RecB.new w3 r, B3.alloc B3.size _⟩)
  case rest =>
    obtain ⟨rb, rfl, rfl, rfl, RB, B4⟩ := hcut
    clear HCB HRD HCW bd BA NA y1 y2 c0 c1 c2 c3 c4 c5 c6 HH
    by_cases hx : x = 0
    · subst hx
      have HSB0 := Lib.hid (H.out.st.below B4)
      have HB4 := Lib.hid B4
      have HRB0 := Lib.hid RB
      obtain ⟨wk, hwk⟩ : ∃ W : World, Below w.heap.size w W := ⟨_, B4⟩
      clear hwk wk
      have hcmx : r.data.size ≤ maxLen := by unfold maxLen; have := HSZ.out; omega
      have HMTg := Lib.hid (fun (W : World) (hb : Below w.heap.size w W) => cmatches_any ⟨i, t, n, ss⟩ (.slice a ss.length cap) k r.data W (H.out.sums.below hb) hk H.out.bytes (HT.out.below hb) hcmx)
      have HCR := Lib.hid (fun (W : World) => cchunkr_any i t n (.slice a ss.length cap) ⟨_, _, _, rfl⟩ (k : Int) r.data W)
      have hCC := HCF.out
      rw [if_pos rfl] at hCC
      have HC2 := Lib.hid hCC
      clear hCC RB B4
      go_wp2_with fail
      have HB := Lib.hid (fun (W : World) (h : Below wc.drew.heap.size wc.drew W) => show Below wc.heap.size wc W from ((Below.refl _ wc).drew).trans h)
      have HSB := Lib.hid (fun (W : World) (h : Below wc.drew.heap.size wc.drew W) => show CsB W b B base i t n (.slice a ss.length cap) area from CsB.below (w := wc) HSB0.out (HB.out W h))
      have HRB := Lib.hid (fun (W : World) (h : Below wc.drew.heap.size wc.drew W) => show RecB W rb r from HRB0.out.below (HB.out W h))
      have HMT := Lib.hid (fun (W : World) (h : Below wc.drew.heap.size wc.drew W) => HMTg.out W (HB4.out.trans ((HB.out W h).mono HB4.out.size)))
      by_cases h1 : r = chunkR i (k : Int) r.data
      · have HEQ : Hid ((false = false) ↔ r = chunkR i (k : Int) r.data) := by show _ ↔ _; simp [← h1]
        by_cases h2 : matchB ⟨i, t, n, ss⟩ k r.data = true
        · rw [h2] at HMT
          have HV : Hid (chunkF D base area ⟨i, t, n, ss⟩ k = (r.data, 0)) := by show _ = _; rw [HC2.out, if_pos ⟨h1, h2⟩]
          clear h1 h2
          go_cut [52] (fun v wx => v = .bool false ∧ Below wc.heap.size wc wx)
          case first =>
            refine wp_region_steps (FCa b rb k ⟨i, t, n, ss⟩ (.slice a ss.length cap) r) (fun w w' => Below w.heap.size w w') (by kernel_rfl) (by kernel_rfl) (by kernel_rfl) (Below.refl _ _) ?_ (fun u v w h1 h2 => h1.trans (h2.mono h1.size)) ?_ ?_
            · intro j v w w' _ h1 _
              exact FCa_keep j h1
            · intro j o ho x w1 hR hF
              match j, ho with
              | 0, ho =>
                obtain rfl := Option.some.inj ho
                exact gstep_load rfl (wanted0 rfl) _ _ rfl _ (eval_of 6 _ (by kernel_rfl) rfl) _ (run_loadRc w1 _ _ (HRB.out w1 hR)) ⟨_, rfl, rfl, Below.refl _ _⟩
              | 1, ho =>
                obtain rfl := Option.some.inj ho
                exact gstep_move rfl (wanted0 rfl) _ rfl _ (eval_of 0 _ (by kernel_rfl) rfl) ⟨_, rfl, rfl, Below.refl _ _⟩
              | 2, ho =>
                obtain rfl := Option.some.inj ho
                exact gstep_nil rfl (wanted0 rfl) _ rfl _ (eval_at 33 1 _ (by kernel_rfl) (show 33 < 55 by decide) (hF 1 (by kernel_rfl))) ⟨_, rfl, rfl, Below.refl _ _⟩
              | 3, ho =>
                obtain rfl := Option.some.inj ho
                exact gstep_field rfl (wanted0 rfl) _ _ _ rfl _ (eval_at 34 2 _ (by kernel_rfl) (show 34 < 55 by decide) (hF 2 (by kernel_rfl))) _ (run_csf2 w1 _) ⟨_, rfl, rfl, Below.refl _ _⟩
              | 4, ho =>
                obtain rfl := Option.some.inj ho
                exact gstep_load rfl (wanted0 rfl) _ _ rfl _ (eval_at 35 3 _ (by kernel_rfl) (show 35 < 55 by decide) (hF 3 (by kernel_rfl))) _ (run_loadCl w1 _ _ _ _ _ _ _ _ _ _ (HSB.out w1 hR)) ⟨_, rfl, rfl, Below.refl _ _⟩
              | 5, ho =>
                obtain rfl := Option.some.inj ho
                exact gstep_move rfl (wanted0 rfl) _ rfl _ (eval_of 1 _ (by kernel_rfl) rfl) ⟨_, rfl, rfl, Below.refl _ _⟩
              | 6, ho =>
                obtain rfl := Option.some.inj ho
                exact gstep_field rfl (wanted0 rfl) _ _ _ rfl _ (eval_of 6 _ (by kernel_rfl) rfl) _ (run_recf3 w1 _) ⟨_, rfl, rfl, Below.refl _ _⟩
              | 7, ho =>
                obtain rfl := Option.some.inj ho
                exact gstep_load rfl (wanted0 rfl) _ _ rfl _ (eval_at 38 6 _ (by kernel_rfl) (show 38 < 55 by decide) (hF 6 (by kernel_rfl))) _ (run_loadS w1 _ _ (HRB.out w1 hR).cells.1.2.2.2) ⟨_, rfl, rfl, Below.refl _ _⟩
              | 8, ho =>
                obtain rfl := Option.some.inj ho
                refine gstep_call3 rfl (wanted0 rfl) _ _ _ _ _ rfl _ _ _ (eval_at 36 4 _ (by kernel_rfl) (show 36 < 55 by decide) (hF 4 (by kernel_rfl))) (eval_at 37 5 _ (by kernel_rfl) (show 37 < 55 by decide) (hF 5 (by kernel_rfl))) (eval_at 39 7 _ (by kernel_rfl) (show 39 < 55 by decide) (hF 7 (by kernel_rfl))) (call_chunkr w1 _ _ _) ?_
                refine (HCR.out w1).mono ?_
                rintro e w2 ⟨rfl, hb⟩
                exact ⟨_, rfl, _, rfl, rfl, hb⟩
              | 9, ho =>
                obtain rfl := Option.some.inj ho
                exact gstep_bin rfl (wanted0 rfl) _ _ _ _ _ rfl _ _ (eval_at 32 0 _ (by kernel_rfl) (show 32 < 55 by decide) (hF 0 (by kernel_rfl))) (eval_at 40 8 _ (by kernel_rfl) (show 40 < 55 by decide) (hF 8 (by kernel_rfl))) _ (run_neRc w1 _ _ _ HEQ.out _ _) ⟨_, rfl, rfl, Below.refl _ _⟩
              | 10, ho =>
                obtain rfl := Option.some.inj ho
                exact gstep_move rfl (wanted0 rfl) _ rfl _ (eval_at 41 9 _ (by kernel_rfl) (show 41 < 55 by decide) (hF 9 (by kernel_rfl))) ⟨_, rfl, rfl, Below.refl _ _⟩
              | 11, ho =>
                obtain rfl := Option.some.inj ho
                exact gstep_move rfl (wanted_at 42 10 false _ true rfl (by kernel_rfl) (show 42 < 55 by decide) (hF 10 (by kernel_rfl)) rfl) _ rfl _ (eval_of 0 _ (by kernel_rfl) rfl) ⟨_, rfl, rfl, Below.refl _ _⟩
              | 12, ho =>
                obtain rfl := Option.some.inj ho
                exact gstep_nil rfl (wanted_at 42 10 false _ true rfl (by kernel_rfl) (show 42 < 55 by decide) (hF 10 (by kernel_rfl)) rfl) _ rfl _ (eval_at 43 11 _ (by kernel_rfl) (show 43 < 55 by decide) (hF 11 (by kernel_rfl))) ⟨_, rfl, rfl, Below.refl _ _⟩
              | 13, ho =>
                obtain rfl := Option.some.inj ho
                exact gstep_field rfl (wanted_at 42 10 false _ true rfl (by kernel_rfl) (show 42 < 55 by decide) (hF 10 (by kernel_rfl)) rfl) _ _ _ rfl _ (eval_at 44 12 _ (by kernel_rfl) (show 44 < 55 by decide) (hF 12 (by kernel_rfl))) _ (run_csf2 w1 _) ⟨_, rfl, rfl, Below.refl _ _⟩
              | 14, ho =>
                obtain rfl := Option.some.inj ho
                exact gstep_load rfl (wanted_at 42 10 false _ true rfl (by kernel_rfl) (show 42 < 55 by decide) (hF 10 (by kernel_rfl)) rfl) _ _ rfl _ (eval_at 45 13 _ (by kernel_rfl) (show 45 < 55 by decide) (hF 13 (by kernel_rfl))) _ (run_loadCl w1 _ _ _ _ _ _ _ _ _ _ (HSB.out w1 hR)) ⟨_, rfl, rfl, Below.refl _ _⟩
              | 15, ho =>
                obtain rfl := Option.some.inj ho
                exact gstep_move rfl (wanted_at 42 10 false _ true rfl (by kernel_rfl) (show 42 < 55 by decide) (hF 10 (by kernel_rfl)) rfl) _ rfl _ (eval_of 1 _ (by kernel_rfl) rfl) ⟨_, rfl, rfl, Below.refl _ _⟩
              | 16, ho =>
                obtain rfl := Option.some.inj ho
                exact gstep_field rfl (wanted_at 42 10 false _ true rfl (by kernel_rfl) (show 42 < 55 by decide) (hF 10 (by kernel_rfl)) rfl) _ _ _ rfl _ (eval_of 6 _ (by kernel_rfl) rfl) _ (run_recf3 w1 _) ⟨_, rfl, rfl, Below.refl _ _⟩
              | 17, ho =>
                obtain rfl := Option.some.inj ho
                exact gstep_load rfl (wanted_at 42 10 false _ true rfl (by kernel_rfl) (show 42 < 55 by decide) (hF 10 (by kernel_rfl)) rfl) _ _ rfl _ (eval_at 48 16 _ (by kernel_rfl) (show 48 < 55 by decide) (hF 16 (by kernel_rfl))) _ (run_loadS w1 _ _ (HRB.out w1 hR).cells.1.2.2.2) ⟨_, rfl, rfl, Below.refl _ _⟩
              | 18, ho =>
                obtain rfl := Option.some.inj ho
                refine gstep_call3 rfl (wanted_at 42 10 false _ true rfl (by kernel_rfl) (show 42 < 55 by decide) (hF 10 (by kernel_rfl)) rfl) _ _ _ _ _ rfl _ _ _ (eval_at 46 14 _ (by kernel_rfl) (show 46 < 55 by decide) (hF 14 (by kernel_rfl))) (eval_at 47 15 _ (by kernel_rfl) (show 47 < 55 by decide) (hF 15 (by kernel_rfl))) (eval_at 49 17 _ (by kernel_rfl) (show 49 < 55 by decide) (hF 17 (by kernel_rfl))) (call_matches w1 _ _ _) ?_
                refine (HMT.out w1 hR).mono ?_
                rintro e w2 ⟨rfl, hb⟩
                exact ⟨_, rfl, _, rfl, rfl, hb⟩
              | 19, ho =>
                obtain rfl := Option.some.inj ho
                exact gstep_not rfl (wanted_at 42 10 false _ true rfl (by kernel_rfl) (show 42 < 55 by decide) (hF 10 (by kernel_rfl)) rfl) _ _ rfl _ (eval_at 50 18 _ (by kernel_rfl) (show 50 < 55 by decide) (hF 18 (by kernel_rfl))) ⟨_, rfl, rfl, Below.refl _ _⟩
              | 20, ho =>
                obtain rfl := Option.some.inj ho
                exact gstep_pick rfl (wanted0 rfl) _ _ _ rfl false (eval_at 42 10 _ (by kernel_rfl) (show 42 < 55 by decide) (hF 10 (by kernel_rfl))) _ (by rw [if_neg (by decide)]; exact (eval_at 51 19 _ (by kernel_rfl) (show 51 < 55 by decide) (hF 19 (by kernel_rfl)))) ⟨_, rfl, rfl, Below.refl _ _⟩
              | n + 21, ho => simp at ho
            · intro x w5 hR hF
              have h20 := hF 20 (by decide)
              unfold FCa at h20
              simp only [putAll, Act.put, List.setIfInBounds_toArray, List.set_cons_succ, List.set_cons_zero]
              generalize x 20 = v20 at h20 ⊢
              subst h20
              have B5 := HB.out w5 hR
              clear hF hR
              go_wp2_with fail
              go_meet
              exact ⟨rfl, B5⟩
          case rest =>
            obtain ⟨rfl, hb5⟩ := hcut
            have B6 := HB4.out.trans (hb5.mono HB4.out.size)
            obtain ⟨⟨r0, r1, r2, r3⟩, _⟩ := (HRB0.out.below hb5).cells
            clear HB HSB HRB HMT HCR HMTg
            go_wp2_with fail
            go_ret2
            exact ⟨(by rw [HV.out]; rfl), B6⟩
        · have h2' : matchB ⟨i, t, n, ss⟩ k r.data = false := by simpa using h2
          rw [h2'] at HMT
          have HV : Hid (chunkF D base area ⟨i, t, n, ss⟩ k = (⟨#[]⟩, 6)) := by show _ = _; rw [HC2.out, if_neg (fun h => h2 h.2)]
          clear h1 h2 h2'
          go_cut [52] (fun v wx => v = .bool true ∧ Below wc.heap.size wc wx)
          case first =>
            refine wp_region_steps (FCb b rb k ⟨i, t, n, ss⟩ (.slice a ss.length cap) r) (fun w w' => Below w.heap.size w w') (by kernel_rfl) (by kernel_rfl) (by kernel_rfl) (Below.refl _ _) ?_ (fun u v w h1 h2 => h1.trans (h2.mono h1.size)) ?_ ?_
            · intro j v w w' _ h1 _
              exact FCb_keep j h1
            · intro j o ho x w1 hR hF
              match j, ho with
              | 0, ho =>
                obtain rfl := Option.some.inj ho
                exact gstep_load rfl (wanted0 rfl) _ _ rfl _ (eval_of 6 _ (by kernel_rfl) rfl) _ (run_loadRc w1 _ _ (HRB.out w1 hR)) ⟨_, rfl, rfl, Below.refl _ _⟩
              | 1, ho =>
                obtain rfl := Option.some.inj ho
                exact gstep_move rfl (wanted0 rfl) _ rfl _ (eval_of 0 _ (by kernel_rfl) rfl) ⟨_, rfl, rfl, Below.refl _ _⟩
              | 2, ho =>
                obtain rfl := Option.some.inj ho
                exact gstep_nil rfl (wanted0 rfl) _ rfl _ (eval_at 33 1 _ (by kernel_rfl) (show 33 < 55 by decide) (hF 1 (by kernel_rfl))) ⟨_, rfl, rfl, Below.refl _ _⟩
              | 3, ho =>
                obtain rfl := Option.some.inj ho
                exact gstep_field rfl (wanted0 rfl) _ _ _ rfl _ (eval_at 34 2 _ (by kernel_rfl) (show 34 < 55 by decide) (hF 2 (by kernel_rfl))) _ (run_csf2 w1 _) ⟨_, rfl, rfl, Below.refl _ _⟩
              | 4, ho =>
                obtain rfl := Option.some.inj ho
                exact gstep_load rfl (wanted0 rfl) _ _ rfl _ (eval_at 35 3 _ (by kernel_rfl) (show 35 < 55 by decide) (hF 3 (by kernel_rfl))) _ (run_loadCl w1 _ _ _ _ _ _ _ _ _ _ (HSB.out w1 hR)) ⟨_, rfl, rfl, Below.refl _ _⟩
              | 5, ho =>
                obtain rfl := Option.some.inj ho
                exact gstep_move rfl (wanted0 rfl) _ rfl _ (eval_of 1 _ (by kernel_rfl) rfl) ⟨_, rfl, rfl, Below.refl _ _⟩
              | 6, ho =>
                obtain rfl := Option.some.inj ho
                exact gstep_field rfl (wanted0 rfl) _ _ _ rfl _ (eval_of 6 _ (by kernel_rfl) rfl) _ (run_recf3 w1 _) ⟨_, rfl, rfl, Below.refl _ _⟩
              | 7, ho =>
                obtain rfl := Option.some.inj ho
                exact gstep_load rfl (wanted0 rfl) _ _ rfl _ (eval_at 38 6 _ (by kernel_rfl) (show 38 < 55 by decide) (hF 6 (by kernel_rfl))) _ (run_loadS w1 _ _ (HRB.out w1 hR).cells.1.2.2.2) ⟨_, rfl, rfl, Below.refl _ _⟩
              | 8, ho =>
                obtain rfl := Option.some.inj ho
                refine gstep_call3 rfl (wanted0 rfl) _ _ _ _ _ rfl _ _ _ (eval_at 36 4 _ (by kernel_rfl) (show 36 < 55 by decide) (hF 4 (by kernel_rfl))) (eval_at 37 5 _ (by kernel_rfl) (show 37 < 55 by decide) (hF 5 (by kernel_rfl))) (eval_at 39 7 _ (by kernel_rfl) (show 39 < 55 by decide) (hF 7 (by kernel_rfl))) (call_chunkr w1 _ _ _) ?_
                refine (HCR.out w1).mono ?_
                rintro e w2 ⟨rfl, hb⟩
                exact ⟨_, rfl, _, rfl, rfl, hb⟩
              | 9, ho =>
                obtain rfl := Option.some.inj ho
                exact gstep_bin rfl (wanted0 rfl) _ _ _ _ _ rfl _ _ (eval_at 32 0 _ (by kernel_rfl) (show 32 < 55 by decide) (hF 0 (by kernel_rfl))) (eval_at 40 8 _ (by kernel_rfl) (show 40 < 55 by decide) (hF 8 (by kernel_rfl))) _ (run_neRc w1 _ _ _ HEQ.out _ _) ⟨_, rfl, rfl, Below.refl _ _⟩
              | 10, ho =>
                obtain rfl := Option.some.inj ho
                exact gstep_move rfl (wanted0 rfl) _ rfl _ (eval_at 41 9 _ (by kernel_rfl) (show 41 < 55 by decide) (hF 9 (by kernel_rfl))) ⟨_, rfl, rfl, Below.refl _ _⟩
              | 11, ho =>
                obtain rfl := Option.some.inj ho
                exact gstep_move rfl (wanted_at 42 10 false _ true rfl (by kernel_rfl) (show 42 < 55 by decide) (hF 10 (by kernel_rfl)) rfl) _ rfl _ (eval_of 0 _ (by kernel_rfl) rfl) ⟨_, rfl, rfl, Below.refl _ _⟩
              | 12, ho =>
                obtain rfl := Option.some.inj ho
                exact gstep_nil rfl (wanted_at 42 10 false _ true rfl (by kernel_rfl) (show 42 < 55 by decide) (hF 10 (by kernel_rfl)) rfl) _ rfl _ (eval_at 43 11 _ (by kernel_rfl) (show 43 < 55 by decide) (hF 11 (by kernel_rfl))) ⟨_, rfl, rfl, Below.refl _ _⟩
              | 13, ho =>
                obtain rfl := Option.some.inj ho
                exact gstep_field rfl (wanted_at 42 10 false _ true rfl (by kernel_rfl) (show 42 < 55 by decide) (hF 10 (by kernel_rfl)) rfl) _ _ _ rfl _ (eval_at 44 12 _ (by kernel_rfl) (show 44 < 55 by decide) (hF 12 (by kernel_rfl))) _ (run_csf2 w1 _) ⟨_, rfl, rfl, Below.refl _ _⟩
              | 14, ho =>
                obtain rfl := Option.some.inj ho
                exact gstep_load rfl (wanted_at 42 10 false _ true rfl (by kernel_rfl) (show 42 < 55 by decide) (hF 10 (by kernel_rfl)) rfl) _ _ rfl _ (eval_at 45 13 _ (by kernel_rfl) (show 45 < 55 by decide) (hF 13 (by kernel_rfl))) _ (run_loadCl w1 _ _ _ _ _ _ _ _ _ _ (HSB.out w1 hR)) ⟨_, rfl, rfl, Below.refl _ _⟩
              | 15, ho =>
                obtain rfl := Option.some.inj ho
                exact gstep_move rfl (wanted_at 42 10 false _ true rfl (by kernel_rfl) (show 42 < 55 by decide) (hF 10 (by kernel_rfl)) rfl) _ rfl _ (eval_of 1 _ (by kernel_rfl) rfl) ⟨_, rfl, rfl, Below.refl _ _⟩
              | 16, ho =>
                obtain rfl := Option.some.inj ho
                exact gstep_field rfl (wanted_at 42 10 false _ true rfl (by kernel_rfl) (show 42 < 55 by decide) (hF 10 (by kernel_rfl)) rfl) _ _ _ rfl _ (eval_of 6 _ (by kernel_rfl) rfl) _ (run_recf3 w1 _) ⟨_, rfl, rfl, Below.refl _ _⟩
              | 17, ho =>
                obtain rfl := Option.some.inj ho
                exact gstep_load rfl (wanted_at 42 10 false _ true rfl (by kernel_rfl) (show 42 < 55 by decide) (hF 10 (by kernel_rfl)) rfl) _ _ rfl _ (eval_at 48 16 _ (by kernel_rfl) (show 48 < 55 by decide) (hF 16 (by kernel_rfl))) _ (run_loadS w1 _ _ (HRB.out w1 hR).cells.1.2.2.2) ⟨_, rfl, rfl, Below.refl _ _⟩
              | 18, ho =>
                obtain rfl := Option.some.inj ho
                refine gstep_call3 rfl (wanted_at 42 10 false _ true rfl (by kernel_rfl) (show 42 < 55 by decide) (hF 10 (by kernel_rfl)) rfl) _ _ _ _ _ rfl _ _ _ (eval_at 46 14 _ (by kernel_rfl) (show 46 < 55 by decide) (hF 14 (by kernel_rfl))) (eval_at 47 15 _ (by kernel_rfl) (show 47 < 55 by decide) (hF 15 (by kernel_rfl))) (eval_at 49 17 _ (by kernel_rfl) (show 49 < 55 by decide) (hF 17 (by kernel_rfl))) (call_matches w1 _ _ _) ?_
                refine (HMT.out w1 hR).mono ?_
                rintro e w2 ⟨rfl, hb⟩
                exact ⟨_, rfl, _, rfl, rfl, hb⟩
              | 19, ho =>
                obtain rfl := Option.some.inj ho
                exact gstep_not rfl (wanted_at 42 10 false _ true rfl (by kernel_rfl) (show 42 < 55 by decide) (hF 10 (by kernel_rfl)) rfl) _ _ rfl _ (eval_at 50 18 _ (by kernel_rfl) (show 50 < 55 by decide) (hF 18 (by kernel_rfl))) ⟨_, rfl, rfl, Below.refl _ _⟩
              | 20, ho =>
                obtain rfl := Option.some.inj ho
                exact gstep_pick rfl (wanted0 rfl) _ _ _ rfl false (eval_at 42 10 _ (by kernel_rfl) (show 42 < 55 by decide) (hF 10 (by kernel_rfl))) _ (by rw [if_neg (by decide)]; exact (eval_at 51 19 _ (by kernel_rfl) (show 51 < 55 by decide) (hF 19 (by kernel_rfl)))) ⟨_, rfl, rfl, Below.refl _ _⟩
              | n + 21, ho => simp at ho
            · intro x w5 hR hF
              have h20 := hF 20 (by decide)
              unfold FCb at h20
              simp only [putAll, Act.put, List.setIfInBounds_toArray, List.set_cons_succ, List.set_cons_zero]
              generalize x 20 = v20 at h20 ⊢
              subst h20
              have B5 := HB.out w5 hR
              clear hF hR
              go_wp2_with fail
              go_meet
              exact ⟨rfl, B5⟩
          case rest =>
            obtain ⟨rfl, hb5⟩ := hcut
            have B6 := HB4.out.trans (hb5.mono HB4.out.size)
            obtain ⟨⟨r0, r1, r2, r3⟩, _⟩ := (HRB0.out.below hb5).cells
            clear HB HSB HRB HMT HCR HMTg
            go_wp2_with fail
            go_ret2
            exact ⟨(by rw [HV.out]; rfl), B6⟩
      · have HEQ : Hid ((true = false) ↔ r = chunkR i (k : Int) r.data) := by show _ ↔ _; simp [h1]
        have HV : Hid (chunkF D base area ⟨i, t, n, ss⟩ k = (⟨#[]⟩, 6)) := by show _ = _; rw [HC2.out, if_neg (fun h => h1 h.1)]
        go_cut [52] (fun v wx => v = .bool true ∧ Below wc.heap.size wc wx)
        case first =>
          refine wp_region_steps (FCc b rb k ⟨i, t, n, ss⟩ (.slice a ss.length cap) r) (fun w w' => Below w.heap.size w w') (by kernel_rfl) (by kernel_rfl) (by kernel_rfl) (Below.refl _ _) ?_ (fun u v w h1 h2 => h1.trans (h2.mono h1.size)) ?_ ?_
          · intro j v w w' _ h1 _
            exact FCc_keep j h1
          · intro j o ho x w1 hR hF
            match j, ho with
            | 0, ho =>
              obtain rfl := Option.some.inj ho
              exact gstep_load rfl (wanted0 rfl) _ _ rfl _ (eval_of 6 _ (by kernel_rfl) rfl) _ (run_loadRc w1 _ _ (HRB.out w1 hR)) ⟨_, rfl, rfl, Below.refl _ _⟩
            | 1, ho =>
              obtain rfl := Option.some.inj ho
              exact gstep_move rfl (wanted0 rfl) _ rfl _ (eval_of 0 _ (by kernel_rfl) rfl) ⟨_, rfl, rfl, Below.refl _ _⟩
            | 2, ho =>
              obtain rfl := Option.some.inj ho
              exact gstep_nil rfl (wanted0 rfl) _ rfl _ (eval_at 33 1 _ (by kernel_rfl) (show 33 < 55 by decide) (hF 1 (by kernel_rfl))) ⟨_, rfl, rfl, Below.refl _ _⟩
            | 3, ho =>
              obtain rfl := Option.some.inj ho
              exact gstep_field rfl (wanted0 rfl) _ _ _ rfl _ (eval_at 34 2 _ (by kernel_rfl) (show 34 < 55 by decide) (hF 2 (by kernel_rfl))) _ (run_csf2 w1 _) ⟨_, rfl, rfl, Below.refl _ _⟩
            | 4, ho =>
              obtain rfl := Option.some.inj ho
              exact gstep_load rfl (wanted0 rfl) _ _ rfl _ (eval_at 35 3 _ (by kernel_rfl) (show 35 < 55 by decide) (hF 3 (by kernel_rfl))) _ (run_loadCl w1 _ _ _ _ _ _ _ _ _ _ (HSB.out w1 hR)) ⟨_, rfl, rfl, Below.refl _ _⟩
            | 5, ho =>
              obtain rfl := Option.some.inj ho
              exact gstep_move rfl (wanted0 rfl) _ rfl _ (eval_of 1 _ (by kernel_rfl) rfl) ⟨_, rfl, rfl, Below.refl _ _⟩
            | 6, ho =>
              obtain rfl := Option.some.inj ho
              exact gstep_field rfl (wanted0 rfl) _ _ _ rfl _ (eval_of 6 _ (by kernel_rfl) rfl) _ (run_recf3 w1 _) ⟨_, rfl, rfl, Below.refl _ _⟩
            | 7, ho =>
              obtain rfl := Option.some.inj ho
              exact gstep_load rfl (wanted0 rfl) _ _ rfl _ (eval_at 38 6 _ (by kernel_rfl) (show 38 < 55 by decide) (hF 6 (by kernel_rfl))) _ (run_loadS w1 _ _ (HRB.out w1 hR).cells.1.2.2.2) ⟨_, rfl, rfl, Below.refl _ _⟩
            | 8, ho =>
              obtain rfl := Option.some.inj ho
              refine gstep_call3 rfl (wanted0 rfl) _ _ _ _ _ rfl _ _ _ (eval_at 36 4 _ (by kernel_rfl) (show 36 < 55 by decide) (hF 4 (by kernel_rfl))) (eval_at 37 5 _ (by kernel_rfl) (show 37 < 55 by decide) (hF 5 (by kernel_rfl))) (eval_at 39 7 _ (by kernel_rfl) (show 39 < 55 by decide) (hF 7 (by kernel_rfl))) (call_chunkr w1 _ _ _) ?_
              refine (HCR.out w1).mono ?_
              rintro e w2 ⟨rfl, hb⟩
              exact ⟨_, rfl, _, rfl, rfl, hb⟩
            | 9, ho =>
              obtain rfl := Option.some.inj ho
              exact gstep_bin rfl (wanted0 rfl) _ _ _ _ _ rfl _ _ (eval_at 32 0 _ (by kernel_rfl) (show 32 < 55 by decide) (hF 0 (by kernel_rfl))) (eval_at 40 8 _ (by kernel_rfl) (show 40 < 55 by decide) (hF 8 (by kernel_rfl))) _ (run_neRc w1 _ _ _ HEQ.out _ _) ⟨_, rfl, rfl, Below.refl _ _⟩
            | 10, ho =>
              obtain rfl := Option.some.inj ho
              exact gstep_move rfl (wanted0 rfl) _ rfl _ (eval_at 41 9 _ (by kernel_rfl) (show 41 < 55 by decide) (hF 9 (by kernel_rfl))) ⟨_, rfl, rfl, Below.refl _ _⟩
            | 11, ho =>
              obtain rfl := Option.some.inj ho
              exact gstep_skip rfl (wanted_at 42 10 false _ false rfl (by kernel_rfl) (show 42 < 55 by decide) (hF 10 (by kernel_rfl)) rfl) ⟨_, rfl, rfl, Below.refl _ _⟩
            | 12, ho =>
              obtain rfl := Option.some.inj ho
              exact gstep_skip rfl (wanted_at 42 10 false _ false rfl (by kernel_rfl) (show 42 < 55 by decide) (hF 10 (by kernel_rfl)) rfl) ⟨_, rfl, rfl, Below.refl _ _⟩
            | 13, ho =>
              obtain rfl := Option.some.inj ho
              exact gstep_skip rfl (wanted_at 42 10 false _ false rfl (by kernel_rfl) (show 42 < 55 by decide) (hF 10 (by kernel_rfl)) rfl) ⟨_, rfl, rfl, Below.refl _ _⟩
            | 14, ho =>
              obtain rfl := Option.some.inj ho
              exact gstep_skip rfl (wanted_at 42 10 false _ false rfl (by kernel_rfl) (show 42 < 55 by decide) (hF 10 (by kernel_rfl)) rfl) ⟨_, rfl, rfl, Below.refl _ _⟩
            | 15, ho =>
              obtain rfl := Option.some.inj ho
              exact gstep_skip rfl (wanted_at 42 10 false _ false rfl (by kernel_rfl) (show 42 < 55 by decide) (hF 10 (by kernel_rfl)) rfl) ⟨_, rfl, rfl, Below.refl _ _⟩
            | 16, ho =>
              obtain rfl := Option.some.inj ho
              exact gstep_skip rfl (wanted_at 42 10 false _ false rfl (by kernel_rfl) (show 42 < 55 by decide) (hF 10 (by kernel_rfl)) rfl) ⟨_, rfl, rfl, Below.refl _ _⟩
            | 17, ho =>
              obtain rfl := Option.some.inj ho
              exact gstep_skip rfl (wanted_at 42 10 false _ false rfl (by kernel_rfl) (show 42 < 55 by decide) (hF 10 (by kernel_rfl)) rfl) ⟨_, rfl, rfl, Below.refl _ _⟩
            | 18, ho =>
              obtain rfl := Option.some.inj ho
              exact gstep_skip rfl (wanted_at 42 10 false _ false rfl (by kernel_rfl) (show 42 < 55 by decide) (hF 10 (by kernel_rfl)) rfl) ⟨_, rfl, rfl, Below.refl _ _⟩
            | 19, ho =>
              obtain rfl := Option.some.inj ho
              exact gstep_skip rfl (wanted_at 42 10 false _ false rfl (by kernel_rfl) (show 42 < 55 by decide) (hF 10 (by kernel_rfl)) rfl) ⟨_, rfl, rfl, Below.refl _ _⟩
            | 20, ho =>
              obtain rfl := Option.some.inj ho
              exact gstep_pick rfl (wanted0 rfl) _ _ _ rfl true (eval_at 42 10 _ (by kernel_rfl) (show 42 < 55 by decide) (hF 10 (by kernel_rfl))) _ (by rw [if_pos rfl]; exact rfl) ⟨_, rfl, rfl, Below.refl _ _⟩
            | n + 21, ho => simp at ho
          · intro x w5 hR hF
            have h20 := hF 20 (by decide)
            unfold FCc at h20
            simp only [putAll, Act.put, List.setIfInBounds_toArray, List.set_cons_succ, List.set_cons_zero]
            generalize x 20 = v20 at h20 ⊢
            subst h20
            have B5 := HB.out w5 hR
            clear hF hR
            go_wp2_with fail
            go_meet
            exact ⟨rfl, B5⟩
        case rest =>
          obtain ⟨rfl, hb5⟩ := hcut
          have B6 := HB4.out.trans (hb5.mono HB4.out.size)
          obtain ⟨⟨r0, r1, r2, r3⟩, _⟩ := (HRB0.out.below hb5).cells
          clear HB HSB HRB HMT HCR HMTg
          go_wp2_with fail
          go_ret2
          exact ⟨(by rw [HV.out]; rfl), B6⟩
    · have hx2 : (x == 0) = false := by simp [hx]
      have hx3 : (x != 0) = true := by simp [hx]
      have HV : Hid (chunkF D base area ⟨i, t, n, ss⟩ k = (⟨#[]⟩, x)) := by show _ = _; rw [HCF.out, if_neg hx]
      go_wp2_with fail
      go_ret2
      exact ⟨(by rw [HV.out]; rfl), B4⟩
end Go.Proofs.YtiknfifiglooeaaDoor
