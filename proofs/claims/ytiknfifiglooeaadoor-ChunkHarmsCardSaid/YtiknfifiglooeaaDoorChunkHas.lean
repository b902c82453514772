/- Has a store a chunk? Does a text match it? No conditions beyond those in each statement. -/
import Derived.Test.YtiknfifiglooeaaDoorChunkPut
namespace Go.Proofs.YtiknfifiglooeaaDoor
open Go Go.RowKit Go.Proofs.Tryd
set_option linter.unusedVariables false
set_option maxRecDepth 100000

theorem chas_any {w : World} {b B : Nat} {base i t n area : Int} {sa : Option Addr} {m cap : Nat} (k : Int) (hk : -9223372036854775808 ≤ k ∧ k ≤ 9223372036854775807) (h : CsB w b B base i t n (.slice sa m cap) area) :
    Calls Tryd.prog 84 #[.pointer (some ⟨b, 0, none⟩), .int .i64 k] w fun e w' => e = .returned (.bool (decide (i ≠ 0 ∧ 0 ≤ k ∧ k < (m : Int)))) ∧ w = w' := by
  have HE := Lib.hid (cempty_any h)
  obtain ⟨⟨c0, c1, c2, c3, c4, c5, c6⟩, _⟩ := h.cells
  clear h
  by_cases h0 : i = 0
  · have HV : Hid (decide (i ≠ 0 ∧ 0 ≤ k ∧ k < (m : Int)) = false) := by show _ = _; simp [h0]
    have d0 : decide (i = 0) = true := by simpa using h0
    rw [d0] at HE
    go_enter Tryd.func84, Tryd.ntmps84
    go_wp2_with fail
    refine HE.out.mono ?_
    rintro e w1 ⟨rfl, rfl⟩
    go_wp2_with fail
    go_ret
    exact ⟨(by rw [HV.out]; rfl), rfl⟩
  · have d0 : decide (i = 0) = false := by simpa using h0
    rw [d0] at HE
    by_cases h1 : 0 ≤ k
    · have d1 : decide ((0 : Int) ≤ k) = true := by simpa using h1
      by_cases h2 : k < (m : Int)
      · have d2 : decide (k < (m : Int)) = true := by simpa using h2
        have HV : Hid (decide (i ≠ 0 ∧ 0 ≤ k ∧ k < (m : Int)) = true) := by show _ = _; simp [h0, h1, h2]
        go_enter Tryd.func84, Tryd.ntmps84
        go_wp2_with fail
        refine HE.out.mono ?_
        rintro e w1 ⟨rfl, rfl⟩
        go_wp2_with fail
        go_ret
        exact ⟨(by rw [HV.out]; rfl), rfl⟩
      · have d2 : decide (k < (m : Int)) = false := by simpa using h2
        have HV : Hid (decide (i ≠ 0 ∧ 0 ≤ k ∧ k < (m : Int)) = false) := by show _ = _; simp; omega
        go_enter Tryd.func84, Tryd.ntmps84
        go_wp2_with fail
        refine HE.out.mono ?_
        rintro e w1 ⟨rfl, rfl⟩
        go_wp2_with fail
        go_ret
        exact ⟨(by rw [HV.out]; rfl), rfl⟩
    · have d1 : decide ((0 : Int) ≤ k) = false := by simpa using h1
      have HV : Hid (decide (i ≠ 0 ∧ 0 ≤ k ∧ k < (m : Int)) = false) := by show _ = _; simp; omega
      go_enter Tryd.func84, Tryd.ntmps84
      go_wp2_with fail
      refine HE.out.mono ?_
      rintro e w1 ⟨rfl, rfl⟩
      go_wp2_with fail
      go_ret
      exact ⟨(by rw [HV.out]; rfl), rfl⟩
theorem chas_nil (k : Int) (w : World) : Calls Tryd.prog 84 #[.pointer none, .int .i64 k] w fun e w' => e = .returned (.bool false) ∧ w = w' := by
  have HE := Lib.hid (cempty_nil w)
  go_enter Tryd.func84, Tryd.ntmps84
  go_wp2_with fail
  refine HE.out.mono ?_
  rintro e w1 ⟨rfl, rfl⟩
  go_wp2_with fail
  go_ret
  exact ⟨rfl, rfl⟩
theorem run_lsf2 (W : World) (b : Nat) : (Instr.fieldAt 67 (.pointer (some ⟨b, 0, none⟩)) 2).run Tryd.prog W = .ok (.pointer (some ⟨b, 2, none⟩)) W := by go_simp
theorem run_mulI (W : World) (x y z : Int) (h : IntKind.i64.wrap (x * y) = z) (s1 s2 : Operand) : (do eqGuard .mul 3 s1 s2 (.int .i64 x) (.int .i64 y); binOp .mul 3 (.int .i64 x) (.int .i64 y) : Sem Value).run Tryd.prog W = .ok (.int .i64 z) W := by go_simp
theorem run_subI (W : World) (x y z : Int) (h : IntKind.i64.wrap (x - y) = z) (s1 s2 : Operand) : (do eqGuard .sub 3 s1 s2 (.int .i64 x) (.int .i64 y); binOp .sub 3 (.int .i64 x) (.int .i64 y) : Sem Value).run Tryd.prog W = .ok (.int .i64 z) W := by go_simp
theorem run_eqI (W : World) (x y : Int) (B : Bool) (h : (x == y) = B) (s1 s2 : Operand) : (do eqGuard .eql 3 s1 s2 (.int .i64 x) (.int .i64 y); binOp .eql 3 (.int .i64 x) (.int .i64 y) : Sem Value).run Tryd.prog W = .ok (.bool B) W := by go_simp
theorem run_eqU (W : World) (x y : Int) (B : Bool) (h : (x == y) = B) (s1 s2 : Operand) : (do eqGuard .eql 70 s1 s2 (.int .u32 x) (.int .u32 y); binOp .eql 70 (.int .u32 x) (.int .u32 y) : Sem Value).run Tryd.prog W = .ok (.bool B) W := by go_simp
theorem run_ixSm (W : World) (g k n c : Nat) (h : k < n) : (Instr.indexAt 65 (.slice (some ⟨g, 0, none⟩) n c) (.int .i64 (k : Int))).run Tryd.prog W = .ok (.pointer (some ⟨g, k, none⟩)) W := by
  have h1 : (k : Int) < (n : Int) := by omega
  have h0 : (0 : Int) ≤ (k : Int) := by omega
  go_simp
theorem run_loadU (W : World) (p : Addr) (z : Int) (h : W.cell? p = some (.int .u32 z)) : (Instr.loadAt 70 (.pointer (some p))).run Tryd.prog W = .ok (.int .u32 z) W := by go_simp
section
variable {Q : Exit → Act → World → Prop} {l : List Oper}
theorem gstep_lenS {i : Nat} {o : Oper} {a : Act} {w : World} {K : Act → World → Prop} (ho : l[i]? = some o) (hw : WantedIs l a o true) (s : Operand) (hop : o.op = .call { callee := .builtin .len, args := #[s], argTypes := #[9] }) {c : ByteArray} (he : a.eval s = .string c)
    (h : K (a.put o.dst (.int .i64 (c.size : Int))) w) : Step Tryd.prog l Q i K a w :=
  gstep_value ho hw _ w (by simp only [execOp, hop, resolve, List.map_toArray, List.map_cons, List.map_nil, he]; go_simp) h
theorem gstep_min {i : Nat} {o : Oper} {a : Act} {w : World} {K : Act → World → Prop} (ho : l[i]? = some o) (hw : WantedIs l a o true) (s x : Operand) (hop : o.op = .call { callee := .builtin .min, args := #[s, x], argTypes := #[3, 3] }) (y z q : Int) (he : a.eval s = .int .i64 y) (hx : a.eval x = .int .i64 z) (hq : min y z = q)
    (h : K (a.put o.dst (.int .i64 q)) w) : Step Tryd.prog l Q i K a w :=
  gstep_value ho hw _ w (by simp only [execOp, hop, resolve, List.map_toArray, List.map_cons, List.map_nil, he, hx]; go_simp) h
end
def FMa (lb g : Nat) (n q : Int) (k : Nat) (c : ByteArray) (m cap : Nat) (z : Int) (zs : Int) : Nat → Value → World → Prop
  | 0, v, _ => v = .string c
  | 1, v, _ => v = .int .i64 (c.size : Int)
  | 2, v, _ => v = .pointer (some ⟨lb, 2, none⟩)
  | 3, v, _ => v = .int .i64 n
  | 4, v, _ => v = .int .i64 (k : Int)
  | 5, v, _ => v = .int .i64 ((k : Int) * 400)
  | 6, v, _ => v = .int .i64 (n - (k : Int) * 400)
  | 7, v, _ => v = .int .i64 q
  | 8, v, _ => v = .bool true
  | 9, v, _ => v = .bool true
  | 10, v, _ => v = .string c
  | 11, v, w => ∃ x, v = .slice (some ⟨x, 0, none⟩) 1 1 ∧ w.heap[x]? = some (.cells #[.string c] 9 (0, 0))
  | 12, v, _ => v = .int .u32 z
  | 13, v, _ => v = .pointer (some ⟨lb, 3, none⟩)
  | 14, v, _ => v = .slice (some ⟨g, 0, none⟩) m cap
  | 15, v, _ => v = .int .i64 (k : Int)
  | 16, v, _ => v = .pointer (some ⟨g, k, none⟩)
  | 17, v, _ => v = .int .u32 zs
  | 18, v, _ => v = .bool true
  | 19, v, _ => v = .bool true
  | 20, v, _ => v = .bool true
  | _, _, _ => True
theorem FMa_keep {lb g : Nat} {n q : Int} {k : Nat} {c : ByteArray} {m cap : Nat} {z zs : Int} {v : Value} {w w' : World} (hb : Below w.heap.size w w') : ∀ j : Nat, FMa lb g n q k c m cap z zs j v w → FMa lb g n q k c m cap z zs j v w'
  | 0, h => h
  | 1, h => h
  | 2, h => h
  | 3, h => h
  | 4, h => h
  | 5, h => h
  | 6, h => h
  | 7, h => h
  | 8, h => h
  | 9, h => h
  | 10, h => h
  | 11, ⟨x, h1, h2⟩ => ⟨x, h1, (hb.block x (lt_of_block h2)).trans h2⟩
  | 12, h => h
  | 13, h => h
  | 14, h => h
  | 15, h => h
  | 16, h => h
  | 17, h => h
  | 18, h => h
  | 19, h => h
  | 20, h => h
  | _ + 21, _ => trivial

def FMb (lb g : Nat) (n q : Int) (k : Nat) (c : ByteArray) (m cap : Nat) (z : Int) (zs : Int) : Nat → Value → World → Prop
  | 0, v, _ => v = .string c
  | 1, v, _ => v = .int .i64 (c.size : Int)
  | 2, v, _ => v = .pointer (some ⟨lb, 2, none⟩)
  | 3, v, _ => v = .int .i64 n
  | 4, v, _ => v = .int .i64 (k : Int)
  | 5, v, _ => v = .int .i64 ((k : Int) * 400)
  | 6, v, _ => v = .int .i64 (n - (k : Int) * 400)
  | 7, v, _ => v = .int .i64 q
  | 8, v, _ => v = .bool true
  | 9, v, _ => v = .bool true
  | 10, v, _ => v = .string c
  | 11, v, w => ∃ x, v = .slice (some ⟨x, 0, none⟩) 1 1 ∧ w.heap[x]? = some (.cells #[.string c] 9 (0, 0))
  | 12, v, _ => v = .int .u32 z
  | 13, v, _ => v = .pointer (some ⟨lb, 3, none⟩)
  | 14, v, _ => v = .slice (some ⟨g, 0, none⟩) m cap
  | 15, v, _ => v = .int .i64 (k : Int)
  | 16, v, _ => v = .pointer (some ⟨g, k, none⟩)
  | 17, v, _ => v = .int .u32 zs
  | 18, v, _ => v = .bool false
  | 19, v, _ => v = .bool false
  | 20, v, _ => v = .bool false
  | _, _, _ => True
theorem FMb_keep {lb g : Nat} {n q : Int} {k : Nat} {c : ByteArray} {m cap : Nat} {z zs : Int} {v : Value} {w w' : World} (hb : Below w.heap.size w w') : ∀ j : Nat, FMb lb g n q k c m cap z zs j v w → FMb lb g n q k c m cap z zs j v w'
  | 0, h => h
  | 1, h => h
  | 2, h => h
  | 3, h => h
  | 4, h => h
  | 5, h => h
  | 6, h => h
  | 7, h => h
  | 8, h => h
  | 9, h => h
  | 10, h => h
  | 11, ⟨x, h1, h2⟩ => ⟨x, h1, (hb.block x (lt_of_block h2)).trans h2⟩
  | 12, h => h
  | 13, h => h
  | 14, h => h
  | 15, h => h
  | 16, h => h
  | 17, h => h
  | 18, h => h
  | 19, h => h
  | 20, h => h
  | _ + 21, _ => trivial

def FMc (lb g : Nat) (n q : Int) (k : Nat) (c : ByteArray) (m cap : Nat) (z : Int) (zs : Int) : Nat → Value → World → Prop
  | 0, v, _ => v = .string c
  | 1, v, _ => v = .int .i64 (c.size : Int)
  | 2, v, _ => v = .pointer (some ⟨lb, 2, none⟩)
  | 3, v, _ => v = .int .i64 n
  | 4, v, _ => v = .int .i64 (k : Int)
  | 5, v, _ => v = .int .i64 ((k : Int) * 400)
  | 6, v, _ => v = .int .i64 (n - (k : Int) * 400)
  | 7, v, _ => v = .int .i64 q
  | 8, v, _ => v = .bool false
  | 9, v, _ => v = .bool false
  | 10, v, _ => v = undef
  | 11, v, _ => v = undef
  | 12, v, _ => v = undef
  | 13, v, _ => v = undef
  | 14, v, _ => v = undef
  | 15, v, _ => v = undef
  | 16, v, _ => v = undef
  | 17, v, _ => v = undef
  | 18, v, _ => v = undef
  | 19, v, _ => v = .bool false
  | 20, v, _ => v = .bool false
  | _, _, _ => True
theorem FMc_keep {lb g : Nat} {n q : Int} {k : Nat} {c : ByteArray} {m cap : Nat} {z zs : Int} {v : Value} {w w' : World} (hb : Below w.heap.size w w') : ∀ j : Nat, FMc lb g n q k c m cap z zs j v w → FMc lb g n q k c m cap z zs j v w'
  | 0, h => h
  | 1, h => h
  | 2, h => h
  | 3, h => h
  | 4, h => h
  | 5, h => h
  | 6, h => h
  | 7, h => h
  | 8, h => h
  | 9, h => h
  | 10, h => h
  | 11, h => h
  | 12, h => h
  | 13, h => h
  | 14, h => h
  | 15, h => h
  | 16, h => h
  | 17, h => h
  | 18, h => h
  | 19, h => h
  | 20, h => h
  | _ + 21, _ => trivial

/-- Has the text the length and the checksum of the k-th chunk? -/
def matchB (l : Ls) (k : Nat) (c : ByteArray) : Bool := decide ((c.size : Int) = min (l.bytes - (k : Int) * 400) 400 ∧ ((addN 0 c.data.toList : Nat) : Int) = l.sums.getD k 0)
set_option maxHeartbeats 8000000 in
theorem cmatches_any (l : Ls) (sv : Value) (k : Nat) (c : ByteArray) (w : World) (hs : SmR w sv l.sums) (hk : k < l.sums.length) (hb : 0 ≤ l.bytes ∧ l.bytes ≤ 281474976710655) (ht : Tabs w) (hc : c.size ≤ maxLen) :
    Calls Tryd.prog 85 #[lsV l sv, .int .i64 (k : Int), .string c] w fun e w' => e = .returned (.bool (matchB l k c)) ∧ Below w.heap.size w w' := by
  obtain ⟨i, t, n, ss⟩ := l
  obtain ⟨a, cap, rfl, hl, hsc, hz⟩ := id hs
  simp only at hs hb hl hsc hz hk ⊢
  obtain ⟨g, rfl, hgl, hcell⟩ := hsc.resolve_left (by omega)
  unfold lsV
  simp only
  have b1 := (Below.refl w.heap.size w).alloc (Nat.le_refl _) (.cells #[.int .i64 i, .int .i64 t, .int .i64 n, .slice (some ⟨g, 0, none⟩) ss.length cap] 67)
  have L1 := LsB.new w i t n (.slice (some ⟨g, 0, none⟩) ss.length cap)
  obtain ⟨m, hm⟩ : ∃ m, m = ss.length := ⟨_, rfl⟩
  rw [← hm] at hk hcell L1 b1 ⊢
  obtain ⟨zs, hzs⟩ : ∃ zs, zs = ss.getD k 0 := ⟨_, rfl⟩
  have hck := hcell k hk
  rw [← hzs] at hck
  obtain ⟨z, hz'⟩ : ∃ z : Int, z = ((addN 0 c.data.toList : Nat) : Int) := ⟨_, rfl⟩
  obtain ⟨q, hq⟩ : ∃ q : Int, min (n - (k : Int) * 400) 400 = q := ⟨_, rfl⟩
  have HMB : Hid (matchB ⟨i, t, n, ss⟩ k c = decide ((c.size : Int) = q ∧ z = zs)) := by show _ = _; unfold matchB; simp only; rw [hq, ← hz', ← hzs]
  have HE1 : Hid (IntKind.i64.wrap ((k : Int) * 400) = (k : Int) * 400) := IntWalk.i64_in _ (by omega)
  have HE2 : Hid (IntKind.i64.wrap (n - (k : Int) * 400) = n - (k : Int) * 400) := IntWalk.i64_in _ (by omega)
  have HE3 := Lib.hid hq
  have HK := Lib.hid hk
  have hcs : c.size ≤ 9223372036854775807 := by unfold maxLen at hc; omega
  have HTT := Lib.hid ht
  have HCC := Lib.hid hc
  have HZ := Lib.hid hz'
  clear hs hsc hz hl hm hcell hzs hz' hq hk ht hc
  go_enter Tryd.func85, Tryd.ntmps85
  go_upto_region 1 with fail
  generalize w.alloc (.cells #[.int .i64 i, .int .i64 t, .int .i64 n, .slice (some ⟨g, 0, none⟩) m cap] 67) = w2 at b1 L1 ⊢
  have HB := Lib.hid (fun (W : World) (h : Below w2.drew.heap.size w2.drew W) => show Below w.heap.size w W from (b1.drew).trans (h.mono b1.size))
  have HLB := Lib.hid (fun (W : World) (h : Below w2.drew.heap.size w2.drew W) => show LsB W w.heap.size i t n (.slice (some ⟨g, 0, none⟩) m cap) from LsB.below (w := w2.drew) L1 h)
  have HSM := Lib.hid (fun (W : World) (h : Below w2.drew.heap.size w2.drew W) => show W.cell? ⟨g, k, none⟩ = some (.int .u32 zs) from ((HB.out W h).cell (p := ⟨g, k, none⟩) hgl).trans hck)
  have HOF := Lib.hid (fun (W : World) (h : Below w2.drew.heap.size w2.drew W) (x' : Nat) (hB : W.heap[x']? = some (.cells #[.string c] 9 (0, 0))) => sumof_at (HTT.out.below (HB.out W h)) hB HCC.out)
  rw [← HZ.out] at HOF
  clear b1 L1 hck hgl
  by_cases h1 : (c.size : Int) = q
  · have HE4 : Hid (((c.size : Int) == q) = true) := by show _ = _; simpa using h1
    by_cases h2 : z = zs
    · have HE5 : Hid ((z == zs) = true) := by show _ = _; simpa using h2
      have HV : Hid (matchB ⟨i, t, n, ss⟩ k c = true) := by show _ = _; rw [HMB.out]; simp [h1, h2]
      clear h1 h2
      refine wp_region_steps (FMa w.heap.size g n q k c m cap z zs) (fun w w' => Below w.heap.size w w') (by kernel_rfl) (by kernel_rfl) (by kernel_rfl) (Below.refl _ _) ?_ (fun u v w h1 h2 => h1.trans (h2.mono h1.size)) ?_ ?_
      · intro j v w w' _ h1 h2
        exact FMa_keep h2 j h1
      · intro j o ho x w1 hR hF
        match j, ho with
        | 0, ho =>
          obtain rfl := Option.some.inj ho
          exact gstep_move rfl (wanted0 rfl) _ rfl _ (eval_of 2 _ (by kernel_rfl) rfl) ⟨_, rfl, rfl, Below.refl _ _⟩
        | 1, ho =>
          obtain rfl := Option.some.inj ho
          exact gstep_lenS rfl (wanted0 rfl) _ rfl (eval_at 7 0 _ (by kernel_rfl) (show 7 < 27 by decide) (hF 0 (by kernel_rfl))) ⟨_, rfl, rfl, Below.refl _ _⟩
        | 2, ho =>
          obtain rfl := Option.some.inj ho
          exact gstep_field rfl (wanted0 rfl) _ _ _ rfl _ (eval_of 3 _ (by kernel_rfl) rfl) _ (run_lsf2 w1 _) ⟨_, rfl, rfl, Below.refl _ _⟩
        | 3, ho =>
          obtain rfl := Option.some.inj ho
          exact gstep_load rfl (wanted0 rfl) _ _ rfl _ (eval_at 9 2 _ (by kernel_rfl) (show 9 < 27 by decide) (hF 2 (by kernel_rfl))) _ (run_loadI w1 _ _ (HLB.out w1 hR).cells.1.2.2.1) ⟨_, rfl, rfl, Below.refl _ _⟩
        | 4, ho =>
          obtain rfl := Option.some.inj ho
          exact gstep_move rfl (wanted0 rfl) _ rfl _ (eval_of 1 _ (by kernel_rfl) rfl) ⟨_, rfl, rfl, Below.refl _ _⟩
        | 5, ho =>
          obtain rfl := Option.some.inj ho
          exact gstep_bin rfl (wanted0 rfl) _ _ _ _ _ rfl _ _ (eval_at 11 4 _ (by kernel_rfl) (show 11 < 27 by decide) (hF 4 (by kernel_rfl))) rfl _ (run_mulI w1 _ _ _ HE1.out _ _) ⟨_, rfl, rfl, Below.refl _ _⟩
        | 6, ho =>
          obtain rfl := Option.some.inj ho
          exact gstep_bin rfl (wanted0 rfl) _ _ _ _ _ rfl _ _ (eval_at 10 3 _ (by kernel_rfl) (show 10 < 27 by decide) (hF 3 (by kernel_rfl))) (eval_at 12 5 _ (by kernel_rfl) (show 12 < 27 by decide) (hF 5 (by kernel_rfl))) _ (run_subI w1 _ _ _ HE2.out _ _) ⟨_, rfl, rfl, Below.refl _ _⟩
        | 7, ho =>
          obtain rfl := Option.some.inj ho
          exact gstep_min rfl (wanted0 rfl) _ _ rfl _ _ _ (eval_at 13 6 _ (by kernel_rfl) (show 13 < 27 by decide) (hF 6 (by kernel_rfl))) rfl HE3.out ⟨_, rfl, rfl, Below.refl _ _⟩
        | 8, ho =>
          obtain rfl := Option.some.inj ho
          exact gstep_bin rfl (wanted0 rfl) _ _ _ _ _ rfl _ _ (eval_at 8 1 _ (by kernel_rfl) (show 8 < 27 by decide) (hF 1 (by kernel_rfl))) (eval_at 14 7 _ (by kernel_rfl) (show 14 < 27 by decide) (hF 7 (by kernel_rfl))) _ (run_eqI w1 _ _ _ HE4.out _ _) ⟨_, rfl, rfl, Below.refl _ _⟩
        | 9, ho =>
          obtain rfl := Option.some.inj ho
          exact gstep_move rfl (wanted0 rfl) _ rfl _ (eval_at 15 8 _ (by kernel_rfl) (show 15 < 27 by decide) (hF 8 (by kernel_rfl))) ⟨_, rfl, rfl, Below.refl _ _⟩
        | 10, ho =>
          obtain rfl := Option.some.inj ho
          exact gstep_move rfl (wanted_at 16 9 true _ true rfl (by kernel_rfl) (show 16 < 27 by decide) (hF 9 (by kernel_rfl)) rfl) _ rfl _ (eval_of 2 _ (by kernel_rfl) rfl) ⟨_, rfl, rfl, Below.refl _ _⟩
        | 11, ho =>
          obtain rfl := Option.some.inj ho
          exact gstep_rowS rfl (wanted_at 16 9 true _ true rfl (by kernel_rfl) (show 16 < 27 by decide) (hF 9 (by kernel_rfl)) rfl) _ rfl _ (eval_at 17 10 _ (by kernel_rfl) (show 17 < 27 by decide) (hF 10 (by kernel_rfl))) ⟨_, rfl, ⟨w1.heap.size, rfl, heap_alloc_new w1 _⟩, (Below.refl _ _).alloc (Nat.le_refl _) _⟩
        | 12, ho =>
          obtain rfl := Option.some.inj ho
          obtain ⟨x', hg, hB⟩ := hF 11 (by kernel_rfl)
          refine gstep_call rfl (wanted_at 16 9 true _ true rfl (by kernel_rfl) (show 16 < 27 by decide) (hF 9 (by kernel_rfl)) rfl) _ _ _ rfl _ (eval_at 18 11 _ (by kernel_rfl) (show 18 < 27 by decide) hg) (call_of w1 _) ?_
          refine (HOF.out w1 hR x' hB).mono ?_
          rintro e w2 ⟨rfl, hb⟩
          exact ⟨_, rfl, _, rfl, rfl, hb⟩
        | 13, ho =>
          obtain rfl := Option.some.inj ho
          exact gstep_field rfl (wanted_at 16 9 true _ true rfl (by kernel_rfl) (show 16 < 27 by decide) (hF 9 (by kernel_rfl)) rfl) _ _ _ rfl _ (eval_of 3 _ (by kernel_rfl) rfl) _ (run_lsf3 w1 _) ⟨_, rfl, rfl, Below.refl _ _⟩
        | 14, ho =>
          obtain rfl := Option.some.inj ho
          exact gstep_load rfl (wanted_at 16 9 true _ true rfl (by kernel_rfl) (show 16 < 27 by decide) (hF 9 (by kernel_rfl)) rfl) _ _ rfl _ (eval_at 20 13 _ (by kernel_rfl) (show 20 < 27 by decide) (hF 13 (by kernel_rfl))) _ (run_loadSm w1 _ _ _ _ (HLB.out w1 hR).cells.1.2.2.2) ⟨_, rfl, rfl, Below.refl _ _⟩
        | 15, ho =>
          obtain rfl := Option.some.inj ho
          exact gstep_move rfl (wanted_at 16 9 true _ true rfl (by kernel_rfl) (show 16 < 27 by decide) (hF 9 (by kernel_rfl)) rfl) _ rfl _ (eval_of 1 _ (by kernel_rfl) rfl) ⟨_, rfl, rfl, Below.refl _ _⟩
        | 16, ho =>
          obtain rfl := Option.some.inj ho
          exact gstep_index rfl (wanted_at 16 9 true _ true rfl (by kernel_rfl) (show 16 < 27 by decide) (hF 9 (by kernel_rfl)) rfl) _ _ _ rfl _ _ (eval_at 21 14 _ (by kernel_rfl) (show 21 < 27 by decide) (hF 14 (by kernel_rfl))) (eval_at 22 15 _ (by kernel_rfl) (show 22 < 27 by decide) (hF 15 (by kernel_rfl))) _ (run_ixSm w1 _ _ _ _ HK.out) ⟨_, rfl, rfl, Below.refl _ _⟩
        | 17, ho =>
          obtain rfl := Option.some.inj ho
          exact gstep_load rfl (wanted_at 16 9 true _ true rfl (by kernel_rfl) (show 16 < 27 by decide) (hF 9 (by kernel_rfl)) rfl) _ _ rfl _ (eval_at 23 16 _ (by kernel_rfl) (show 23 < 27 by decide) (hF 16 (by kernel_rfl))) _ (run_loadU w1 _ _ (HSM.out w1 hR)) ⟨_, rfl, rfl, Below.refl _ _⟩
        | 18, ho =>
          obtain rfl := Option.some.inj ho
          exact gstep_bin rfl (wanted_at 16 9 true _ true rfl (by kernel_rfl) (show 16 < 27 by decide) (hF 9 (by kernel_rfl)) rfl) _ _ _ _ _ rfl _ _ (eval_at 19 12 _ (by kernel_rfl) (show 19 < 27 by decide) (hF 12 (by kernel_rfl))) (eval_at 24 17 _ (by kernel_rfl) (show 24 < 27 by decide) (hF 17 (by kernel_rfl))) _ (run_eqU w1 _ _ _ HE5.out _ _) ⟨_, rfl, rfl, Below.refl _ _⟩
        | 19, ho =>
          obtain rfl := Option.some.inj ho
          exact gstep_pick rfl (wanted0 rfl) _ _ _ rfl true (eval_at 16 9 _ (by kernel_rfl) (show 16 < 27 by decide) (hF 9 (by kernel_rfl))) _ (by rw [if_pos rfl]; exact (eval_at 25 18 _ (by kernel_rfl) (show 25 < 27 by decide) (hF 18 (by kernel_rfl)))) ⟨_, rfl, rfl, Below.refl _ _⟩
        | 20, ho =>
          obtain rfl := Option.some.inj ho
          exact gstep_assign rfl (wanted0 rfl) _ rfl _ (eval_at 26 19 _ (by kernel_rfl) (show 26 < 27 by decide) (hF 19 (by kernel_rfl))) ⟨_, rfl, rfl, Below.refl _ _⟩
        | n + 21, ho => simp at ho
      · intro x w5 hR hF
        have h20 := hF 20 (by decide)
        unfold FMa at h20
        simp only [putAll, Act.put, List.setIfInBounds_toArray, List.set_cons_succ, List.set_cons_zero]
        generalize x 20 = v20 at h20 ⊢
        subst h20
        have B5 := HB.out w5 hR
        clear hF hR
        go_wp2_with fail
        go_ret
        exact ⟨(by rw [HV.out]; rfl), B5⟩
    · have HE5 : Hid ((z == zs) = false) := by show _ = _; simpa using h2
      have HV : Hid (matchB ⟨i, t, n, ss⟩ k c = false) := by show _ = _; rw [HMB.out]; simp [h2]
      clear h1 h2
      refine wp_region_steps (FMb w.heap.size g n q k c m cap z zs) (fun w w' => Below w.heap.size w w') (by kernel_rfl) (by kernel_rfl) (by kernel_rfl) (Below.refl _ _) ?_ (fun u v w h1 h2 => h1.trans (h2.mono h1.size)) ?_ ?_
      · intro j v w w' _ h1 h2
        exact FMb_keep h2 j h1
      · intro j o ho x w1 hR hF
        match j, ho with
        | 0, ho =>
          obtain rfl := Option.some.inj ho
          exact gstep_move rfl (wanted0 rfl) _ rfl _ (eval_of 2 _ (by kernel_rfl) rfl) ⟨_, rfl, rfl, Below.refl _ _⟩
        | 1, ho =>
          obtain rfl := Option.some.inj ho
          exact gstep_lenS rfl (wanted0 rfl) _ rfl (eval_at 7 0 _ (by kernel_rfl) (show 7 < 27 by decide) (hF 0 (by kernel_rfl))) ⟨_, rfl, rfl, Below.refl _ _⟩
        | 2, ho =>
          obtain rfl := Option.some.inj ho
          exact gstep_field rfl (wanted0 rfl) _ _ _ rfl _ (eval_of 3 _ (by kernel_rfl) rfl) _ (run_lsf2 w1 _) ⟨_, rfl, rfl, Below.refl _ _⟩
        | 3, ho =>
          obtain rfl := Option.some.inj ho
          exact gstep_load rfl (wanted0 rfl) _ _ rfl _ (eval_at 9 2 _ (by kernel_rfl) (show 9 < 27 by decide) (hF 2 (by kernel_rfl))) _ (run_loadI w1 _ _ (HLB.out w1 hR).cells.1.2.2.1) ⟨_, rfl, rfl, Below.refl _ _⟩
        | 4, ho =>
          obtain rfl := Option.some.inj ho
          exact gstep_move rfl (wanted0 rfl) _ rfl _ (eval_of 1 _ (by kernel_rfl) rfl) ⟨_, rfl, rfl, Below.refl _ _⟩
        | 5, ho =>
          obtain rfl := Option.some.inj ho
          exact gstep_bin rfl (wanted0 rfl) _ _ _ _ _ rfl _ _ (eval_at 11 4 _ (by kernel_rfl) (show 11 < 27 by decide) (hF 4 (by kernel_rfl))) rfl _ (run_mulI w1 _ _ _ HE1.out _ _) ⟨_, rfl, rfl, Below.refl _ _⟩
        | 6, ho =>
          obtain rfl := Option.some.inj ho
          exact gstep_bin rfl (wanted0 rfl) _ _ _ _ _ rfl _ _ (eval_at 10 3 _ (by kernel_rfl) (show 10 < 27 by decide) (hF 3 (by kernel_rfl))) (eval_at 12 5 _ (by kernel_rfl) (show 12 < 27 by decide) (hF 5 (by kernel_rfl))) _ (run_subI w1 _ _ _ HE2.out _ _) ⟨_, rfl, rfl, Below.refl _ _⟩
        | 7, ho =>
          obtain rfl := Option.some.inj ho
          exact gstep_min rfl (wanted0 rfl) _ _ rfl _ _ _ (eval_at 13 6 _ (by kernel_rfl) (show 13 < 27 by decide) (hF 6 (by kernel_rfl))) rfl HE3.out ⟨_, rfl, rfl, Below.refl _ _⟩
        | 8, ho =>
          obtain rfl := Option.some.inj ho
          exact gstep_bin rfl (wanted0 rfl) _ _ _ _ _ rfl _ _ (eval_at 8 1 _ (by kernel_rfl) (show 8 < 27 by decide) (hF 1 (by kernel_rfl))) (eval_at 14 7 _ (by kernel_rfl) (show 14 < 27 by decide) (hF 7 (by kernel_rfl))) _ (run_eqI w1 _ _ _ HE4.out _ _) ⟨_, rfl, rfl, Below.refl _ _⟩
        | 9, ho =>
          obtain rfl := Option.some.inj ho
          exact gstep_move rfl (wanted0 rfl) _ rfl _ (eval_at 15 8 _ (by kernel_rfl) (show 15 < 27 by decide) (hF 8 (by kernel_rfl))) ⟨_, rfl, rfl, Below.refl _ _⟩
        | 10, ho =>
          obtain rfl := Option.some.inj ho
          exact gstep_move rfl (wanted_at 16 9 true _ true rfl (by kernel_rfl) (show 16 < 27 by decide) (hF 9 (by kernel_rfl)) rfl) _ rfl _ (eval_of 2 _ (by kernel_rfl) rfl) ⟨_, rfl, rfl, Below.refl _ _⟩
        | 11, ho =>
          obtain rfl := Option.some.inj ho
          exact gstep_rowS rfl (wanted_at 16 9 true _ true rfl (by kernel_rfl) (show 16 < 27 by decide) (hF 9 (by kernel_rfl)) rfl) _ rfl _ (eval_at 17 10 _ (by kernel_rfl) (show 17 < 27 by decide) (hF 10 (by kernel_rfl))) ⟨_, rfl, ⟨w1.heap.size, rfl, heap_alloc_new w1 _⟩, (Below.refl _ _).alloc (Nat.le_refl _) _⟩
        | 12, ho =>
          obtain rfl := Option.some.inj ho
          obtain ⟨x', hg, hB⟩ := hF 11 (by kernel_rfl)
          refine gstep_call rfl (wanted_at 16 9 true _ true rfl (by kernel_rfl) (show 16 < 27 by decide) (hF 9 (by kernel_rfl)) rfl) _ _ _ rfl _ (eval_at 18 11 _ (by kernel_rfl) (show 18 < 27 by decide) hg) (call_of w1 _) ?_
          refine (HOF.out w1 hR x' hB).mono ?_
          rintro e w2 ⟨rfl, hb⟩
          exact ⟨_, rfl, _, rfl, rfl, hb⟩
        | 13, ho =>
          obtain rfl := Option.some.inj ho
          exact gstep_field rfl (wanted_at 16 9 true _ true rfl (by kernel_rfl) (show 16 < 27 by decide) (hF 9 (by kernel_rfl)) rfl) _ _ _ rfl _ (eval_of 3 _ (by kernel_rfl) rfl) _ (run_lsf3 w1 _) ⟨_, rfl, rfl, Below.refl _ _⟩
        | 14, ho =>
          obtain rfl := Option.some.inj ho
          exact gstep_load rfl (wanted_at 16 9 true _ true rfl (by kernel_rfl) (show 16 < 27 by decide) (hF 9 (by kernel_rfl)) rfl) _ _ rfl _ (eval_at 20 13 _ (by kernel_rfl) (show 20 < 27 by decide) (hF 13 (by kernel_rfl))) _ (run_loadSm w1 _ _ _ _ (HLB.out w1 hR).cells.1.2.2.2) ⟨_, rfl, rfl, Below.refl _ _⟩
        | 15, ho =>
          obtain rfl := Option.some.inj ho
          exact gstep_move rfl (wanted_at 16 9 true _ true rfl (by kernel_rfl) (show 16 < 27 by decide) (hF 9 (by kernel_rfl)) rfl) _ rfl _ (eval_of 1 _ (by kernel_rfl) rfl) ⟨_, rfl, rfl, Below.refl _ _⟩
        | 16, ho =>
          obtain rfl := Option.some.inj ho
          exact gstep_index rfl (wanted_at 16 9 true _ true rfl (by kernel_rfl) (show 16 < 27 by decide) (hF 9 (by kernel_rfl)) rfl) _ _ _ rfl _ _ (eval_at 21 14 _ (by kernel_rfl) (show 21 < 27 by decide) (hF 14 (by kernel_rfl))) (eval_at 22 15 _ (by kernel_rfl) (show 22 < 27 by decide) (hF 15 (by kernel_rfl))) _ (run_ixSm w1 _ _ _ _ HK.out) ⟨_, rfl, rfl, Below.refl _ _⟩
        | 17, ho =>
          obtain rfl := Option.some.inj ho
          exact gstep_load rfl (wanted_at 16 9 true _ true rfl (by kernel_rfl) (show 16 < 27 by decide) (hF 9 (by kernel_rfl)) rfl) _ _ rfl _ (eval_at 23 16 _ (by kernel_rfl) (show 23 < 27 by decide) (hF 16 (by kernel_rfl))) _ (run_loadU w1 _ _ (HSM.out w1 hR)) ⟨_, rfl, rfl, Below.refl _ _⟩
        | 18, ho =>
          obtain rfl := Option.some.inj ho
          exact gstep_bin rfl (wanted_at 16 9 true _ true rfl (by kernel_rfl) (show 16 < 27 by decide) (hF 9 (by kernel_rfl)) rfl) _ _ _ _ _ rfl _ _ (eval_at 19 12 _ (by kernel_rfl) (show 19 < 27 by decide) (hF 12 (by kernel_rfl))) (eval_at 24 17 _ (by kernel_rfl) (show 24 < 27 by decide) (hF 17 (by kernel_rfl))) _ (run_eqU w1 _ _ _ HE5.out _ _) ⟨_, rfl, rfl, Below.refl _ _⟩
        | 19, ho =>
          obtain rfl := Option.some.inj ho
          exact gstep_pick rfl (wanted0 rfl) _ _ _ rfl true (eval_at 16 9 _ (by kernel_rfl) (show 16 < 27 by decide) (hF 9 (by kernel_rfl))) _ (by rw [if_pos rfl]; exact (eval_at 25 18 _ (by kernel_rfl) (show 25 < 27 by decide) (hF 18 (by kernel_rfl)))) ⟨_, rfl, rfl, Below.refl _ _⟩
        | 20, ho =>
          obtain rfl := Option.some.inj ho
          exact gstep_assign rfl (wanted0 rfl) _ rfl _ (eval_at 26 19 _ (by kernel_rfl) (show 26 < 27 by decide) (hF 19 (by kernel_rfl))) ⟨_, rfl, rfl, Below.refl _ _⟩
        | n + 21, ho => simp at ho
      · intro x w5 hR hF
        have h20 := hF 20 (by decide)
        unfold FMb at h20
        simp only [putAll, Act.put, List.setIfInBounds_toArray, List.set_cons_succ, List.set_cons_zero]
        generalize x 20 = v20 at h20 ⊢
        subst h20
        have B5 := HB.out w5 hR
        clear hF hR
        go_wp2_with fail
        go_ret
        exact ⟨(by rw [HV.out]; rfl), B5⟩
  · have HE4 : Hid (((c.size : Int) == q) = false) := by show _ = _; simpa using h1
    have HV : Hid (matchB ⟨i, t, n, ss⟩ k c = false) := by show _ = _; rw [HMB.out]; simp [h1]
    clear h1
    refine wp_region_steps (FMc w.heap.size g n q k c m cap z zs) (fun w w' => Below w.heap.size w w') (by kernel_rfl) (by kernel_rfl) (by kernel_rfl) (Below.refl _ _) ?_ (fun u v w h1 h2 => h1.trans (h2.mono h1.size)) ?_ ?_
    · intro j v w w' _ h1 h2
      exact FMc_keep h2 j h1
    · intro j o ho x w1 hR hF
      match j, ho with
      | 0, ho =>
        obtain rfl := Option.some.inj ho
        exact gstep_move rfl (wanted0 rfl) _ rfl _ (eval_of 2 _ (by kernel_rfl) rfl) ⟨_, rfl, rfl, Below.refl _ _⟩
      | 1, ho =>
        obtain rfl := Option.some.inj ho
        exact gstep_lenS rfl (wanted0 rfl) _ rfl (eval_at 7 0 _ (by kernel_rfl) (show 7 < 27 by decide) (hF 0 (by kernel_rfl))) ⟨_, rfl, rfl, Below.refl _ _⟩
      | 2, ho =>
        obtain rfl := Option.some.inj ho
        exact gstep_field rfl (wanted0 rfl) _ _ _ rfl _ (eval_of 3 _ (by kernel_rfl) rfl) _ (run_lsf2 w1 _) ⟨_, rfl, rfl, Below.refl _ _⟩
      | 3, ho =>
        obtain rfl := Option.some.inj ho
        exact gstep_load rfl (wanted0 rfl) _ _ rfl _ (eval_at 9 2 _ (by kernel_rfl) (show 9 < 27 by decide) (hF 2 (by kernel_rfl))) _ (run_loadI w1 _ _ (HLB.out w1 hR).cells.1.2.2.1) ⟨_, rfl, rfl, Below.refl _ _⟩
      | 4, ho =>
        obtain rfl := Option.some.inj ho
        exact gstep_move rfl (wanted0 rfl) _ rfl _ (eval_of 1 _ (by kernel_rfl) rfl) ⟨_, rfl, rfl, Below.refl _ _⟩
      | 5, ho =>
        obtain rfl := Option.some.inj ho
        exact gstep_bin rfl (wanted0 rfl) _ _ _ _ _ rfl _ _ (eval_at 11 4 _ (by kernel_rfl) (show 11 < 27 by decide) (hF 4 (by kernel_rfl))) rfl _ (run_mulI w1 _ _ _ HE1.out _ _) ⟨_, rfl, rfl, Below.refl _ _⟩
      | 6, ho =>
        obtain rfl := Option.some.inj ho
        exact gstep_bin rfl (wanted0 rfl) _ _ _ _ _ rfl _ _ (eval_at 10 3 _ (by kernel_rfl) (show 10 < 27 by decide) (hF 3 (by kernel_rfl))) (eval_at 12 5 _ (by kernel_rfl) (show 12 < 27 by decide) (hF 5 (by kernel_rfl))) _ (run_subI w1 _ _ _ HE2.out _ _) ⟨_, rfl, rfl, Below.refl _ _⟩
      | 7, ho =>
        obtain rfl := Option.some.inj ho
        exact gstep_min rfl (wanted0 rfl) _ _ rfl _ _ _ (eval_at 13 6 _ (by kernel_rfl) (show 13 < 27 by decide) (hF 6 (by kernel_rfl))) rfl HE3.out ⟨_, rfl, rfl, Below.refl _ _⟩
      | 8, ho =>
        obtain rfl := Option.some.inj ho
        exact gstep_bin rfl (wanted0 rfl) _ _ _ _ _ rfl _ _ (eval_at 8 1 _ (by kernel_rfl) (show 8 < 27 by decide) (hF 1 (by kernel_rfl))) (eval_at 14 7 _ (by kernel_rfl) (show 14 < 27 by decide) (hF 7 (by kernel_rfl))) _ (run_eqI w1 _ _ _ HE4.out _ _) ⟨_, rfl, rfl, Below.refl _ _⟩
      | 9, ho =>
        obtain rfl := Option.some.inj ho
        exact gstep_move rfl (wanted0 rfl) _ rfl _ (eval_at 15 8 _ (by kernel_rfl) (show 15 < 27 by decide) (hF 8 (by kernel_rfl))) ⟨_, rfl, rfl, Below.refl _ _⟩
      | 10, ho =>
        obtain rfl := Option.some.inj ho
        exact gstep_skip rfl (wanted_at 16 9 true _ false rfl (by kernel_rfl) (show 16 < 27 by decide) (hF 9 (by kernel_rfl)) rfl) ⟨_, rfl, rfl, Below.refl _ _⟩
      | 11, ho =>
        obtain rfl := Option.some.inj ho
        exact gstep_skip rfl (wanted_at 16 9 true _ false rfl (by kernel_rfl) (show 16 < 27 by decide) (hF 9 (by kernel_rfl)) rfl) ⟨_, rfl, rfl, Below.refl _ _⟩
      | 12, ho =>
        obtain rfl := Option.some.inj ho
        exact gstep_skip rfl (wanted_at 16 9 true _ false rfl (by kernel_rfl) (show 16 < 27 by decide) (hF 9 (by kernel_rfl)) rfl) ⟨_, rfl, rfl, Below.refl _ _⟩
      | 13, ho =>
        obtain rfl := Option.some.inj ho
        exact gstep_skip rfl (wanted_at 16 9 true _ false rfl (by kernel_rfl) (show 16 < 27 by decide) (hF 9 (by kernel_rfl)) rfl) ⟨_, rfl, rfl, Below.refl _ _⟩
      | 14, ho =>
        obtain rfl := Option.some.inj ho
        exact gstep_skip rfl (wanted_at 16 9 true _ false rfl (by kernel_rfl) (show 16 < 27 by decide) (hF 9 (by kernel_rfl)) rfl) ⟨_, rfl, rfl, Below.refl _ _⟩
      | 15, ho =>
        obtain rfl := Option.some.inj ho
        exact gstep_skip rfl (wanted_at 16 9 true _ false rfl (by kernel_rfl) (show 16 < 27 by decide) (hF 9 (by kernel_rfl)) rfl) ⟨_, rfl, rfl, Below.refl _ _⟩
      | 16, ho =>
        obtain rfl := Option.some.inj ho
        exact gstep_skip rfl (wanted_at 16 9 true _ false rfl (by kernel_rfl) (show 16 < 27 by decide) (hF 9 (by kernel_rfl)) rfl) ⟨_, rfl, rfl, Below.refl _ _⟩
      | 17, ho =>
        obtain rfl := Option.some.inj ho
        exact gstep_skip rfl (wanted_at 16 9 true _ false rfl (by kernel_rfl) (show 16 < 27 by decide) (hF 9 (by kernel_rfl)) rfl) ⟨_, rfl, rfl, Below.refl _ _⟩
      | 18, ho =>
        obtain rfl := Option.some.inj ho
        exact gstep_skip rfl (wanted_at 16 9 true _ false rfl (by kernel_rfl) (show 16 < 27 by decide) (hF 9 (by kernel_rfl)) rfl) ⟨_, rfl, rfl, Below.refl _ _⟩
      | 19, ho =>
        obtain rfl := Option.some.inj ho
        exact gstep_pick rfl (wanted0 rfl) _ _ _ rfl false (eval_at 16 9 _ (by kernel_rfl) (show 16 < 27 by decide) (hF 9 (by kernel_rfl))) _ (by rw [if_neg (by decide)]; exact rfl) ⟨_, rfl, rfl, Below.refl _ _⟩
      | 20, ho =>
        obtain rfl := Option.some.inj ho
        exact gstep_assign rfl (wanted0 rfl) _ rfl _ (eval_at 26 19 _ (by kernel_rfl) (show 26 < 27 by decide) (hF 19 (by kernel_rfl))) ⟨_, rfl, rfl, Below.refl _ _⟩
      | n + 21, ho => simp at ho
    · intro x w5 hR hF
      have h20 := hF 20 (by decide)
      unfold FMc at h20
      simp only [putAll, Act.put, List.setIfInBounds_toArray, List.set_cons_succ, List.set_cons_zero]
      generalize x 20 = v20 at h20 ⊢
      subst h20
      have B5 := HB.out w5 hR
      clear hF hR
      go_wp2_with fail
      go_ret
      exact ⟨(by rw [HV.out]; rfl), B5⟩
end Go.Proofs.YtiknfifiglooeaaDoor
