/- New, Has, Open, Close, Seen and Keep of a table of sessions. No conditions beyond those in each statement. -/
import Derived.Test.YtckengglamkaaaaSessMap
import Derived.Test.YtckengglamkaaaaInvar4
import Derived.Deep.DeepCutAuto
namespace Go.Proofs.Ytckengglamkaaaa
open Go.RowKit Go.Maps
set_option linter.unusedVariables false
set_option maxRecDepth 100000

theorem sclone_any (s : ByteArray) (w : World) (hs : s.size ≤ 1000000) : Calls Try.prog 32 #[.string s] w fun e w' => e = .returned (.string s) ∧ Below w.heap.size w w' := by
  have HA := Lib.hid (Try.stringslite_Clone s w (by omega))
  go_enter Try.func32, Try.ntmps32
  go_wp2_with fail
  refine HA.out.mono ?_
  rintro e w' ⟨rfl, hb⟩
  go_wp2_with fail
  go_ret
  exact ⟨rfl, hb⟩
theorem new_any (w : World) : Calls Try.prog 11 #[] w fun e w' => ∃ tb mb, e = .returned (.pointer (some ⟨tb, 0, none⟩)) ∧ TbW w' tb mb 0 0 (fun _ => none) ∧ Below w.heap.size w w' ∧ w.heap.size ≤ tb ∧ w.heap.size ≤ mb := by
  have hmm := @run_makeMap Try.prog
  have M0 := MapS.new w
  have b1 : Below w.heap.size w (w.alloc (.map #[] 0)) := (Below.refl _ w).alloc (Nat.le_refl _) _
  go_enter Try.func11, Try.ntmps11
  go_wp2_with fail
  go_ret
  have b2 := b1.alloc b1.size (.cells #[.map (some w.heap.size)] 63)
  exact ⟨w.heap.size + 1, w.heap.size, rfl, ⟨by have := heap_alloc_new (w.alloc (.map #[] 0)) (.cells #[.map (some w.heap.size)] 63); rw [World.size_alloc] at this; exact this, M0.below ((Below.refl _ _).alloc (Nat.le_refl _) _)⟩, b2, Nat.le_succ _, Nat.le_refl _⟩
theorem sessions_any (tb mb : Nat) (w : World) (h : w.cell? ⟨tb, 0, none⟩ = some (.map (some mb))) : Calls Try.prog 30 #[.pointer (some ⟨tb, 0, none⟩)] w fun e w' => e = .returned (.map (some mb)) ∧ w' = w := by
  go_enter Try.func30, Try.ntmps30
  go_wp2_with fail
  go_ret
  exact ⟨rfl, rfl⟩
theorem sessions_nil (w : World) : Calls Try.prog 30 #[.pointer none] w fun e w' => e = .returned (.map none) ∧ w' = w := by
  go_enter Try.func30, Try.ntmps30
  go_wp2_with fail
  go_ret
  exact ⟨rfl, rfl⟩
/-- May this be a number of a session, or of a request? -/
def okN (n : Int) : Bool := decide (1 ≤ n) && decide (n ≤ 281474976710655)
theorem valid_any (n : Int) (w : World) : Calls Try.prog 31 #[.int .i64 n] w fun e w' => e = .returned (.bool (okN n)) ∧ w' = w := by
  by_cases h1 : 1 ≤ n
  · have d1 : decide ((1 : Int) ≤ n) = true := by simpa using h1
    have e : Hid (okN n = decide (n ≤ 281474976710655)) := Lib.hid (by unfold okN; rw [d1]; rfl)
    go_enter Try.func31, Try.ntmps31
    go_wp2_with fail
    go_ret
    exact ⟨by rw [e.out]; rfl, rfl⟩
  · have d1 : decide ((1 : Int) ≤ n) = false := by simpa using h1
    have e : Hid (okN n = false) := Lib.hid (by unfold okN; rw [d1]; rfl)
    go_enter Try.func31, Try.ntmps31
    go_wp2_with fail
    go_ret
    exact ⟨by rw [e.out]; rfl, rfl⟩
theorem has_any (tb mb k c : Nat) (T : Int → Option Ss) (id : Int) (w : World) (h : TbW w tb mb k c T) (hz : InR id) : Calls Try.prog 14 #[.pointer (some ⟨tb, 0, none⟩), .int .i64 id] w fun e w' => e = .returned (.bool (T id).isSome) ∧ Below w.heap.size w w' := by
  have hl := h.map.look_ok id hz
  have HA := Lib.hid (sessions_any tb mb w h.cell)
  unfold ssV at hl
  clear h
  go_enter Try.func14, Try.ntmps14
  go_wp2_with fail
  refine HA.out.mono ?_
  rintro e w' ⟨rfl, rfl⟩
  go_wp2_with fail
  go_ret
  exact ⟨rfl, (Below.refl _ _).alloc (Nat.le_refl _) _⟩
/-- What Open answers. -/
def openE (T : Int → Option Ss) (c : Nat) (id : Int) : Int := if okN id = false then 1 else if (T id).isSome then 12 else if 16 ≤ c then 16 else 0
def openT (T : Int → Option Ss) (c : Nat) (id : Int) : Int → Option Ss := if openE T c id = 0 then updS T id (some Ss.zero) else T
def openC (T : Int → Option Ss) (c : Nat) (id : Int) : Nat := if openE T c id = 0 then c + 1 else c
set_option maxHeartbeats 4000000 in
theorem open_any (tb mb k c : Nat) (T : Int → Option Ss) (id : Int) (w : World) (h : TbW w tb mb k c T) (hz : InR id) (hk : k < 1000000) :
    Calls Try.prog 17 #[.pointer (some ⟨tb, 0, none⟩), .int .i64 id] w fun e w' => e = .returned (.int .i64 (openE T c id)) ∧ Left10 w tb mb (k + 1) (openC T c id) (openT T c id) w' := by
  have HV := Lib.hid (valid_any id w)
  have HH := Lib.hid (has_any tb mb k c T id w h hz)
  have HT := Lib.hid h
  cases hv : okN id
  · have e1 : openE T c id = 1 := by unfold openE; rw [if_pos hv]
    have HR : Hid (openE T c id = 1 ∧ openT T c id = T ∧ openC T c id = c) := Lib.hid ⟨e1, by unfold openT; rw [e1, if_neg (by decide)], by unfold openC; rw [e1, if_neg (by decide)]⟩
    rw [hv] at HV
    clear e1 hv h
    go_enter Try.func17, Try.ntmps17
    go_wp2_with fail
    refine HV.out.mono ?_
    rintro e w1 ⟨rfl, rfl⟩
    go_wp2_with fail
    go_ret
    rw [HR.out.1, HR.out.2.1, HR.out.2.2]
    exact ⟨rfl, HT.out.mono (by omega), only_refl10 _ _⟩
  · rw [hv] at HV
    cases hs : (T id).isSome
    · rw [hs] at HH
      by_cases hc : 16 ≤ c
      · have e1 : openE T c id = 16 := by unfold openE; rw [if_neg (by rw [hv]; decide), hs, if_neg (by decide), if_pos hc]
        have HR : Hid (openE T c id = 16 ∧ openT T c id = T ∧ openC T c id = c) := Lib.hid ⟨e1, by unfold openT; rw [e1, if_neg (by decide)], by unfold openC; rw [e1, if_neg (by decide)]⟩
        have d1 : decide ((16 : Int) ≤ (c : Int)) = true := by simp; omega
        clear e1 hv hs h hc
        go_enter Try.func17, Try.ntmps17
        go_wp2_with fail
        refine HV.out.mono ?_
        rintro e w1 ⟨rfl, rfl⟩
        go_wp2_with fail
        refine HH.out.mono ?_
        rintro e w2 ⟨rfl, b1⟩
        have H1 := HT.out.below b1
        have hl := H1.map.len
        have hcell := H1.cell
        go_wp2_with fail
        go_ret
        rw [HR.out.1, HR.out.2.1, HR.out.2.2]
        exact ⟨rfl, H1.mono (by omega), below_grownBy b1 _⟩
      · have e1 : openE T c id = 0 := by unfold openE; rw [if_neg (by rw [hv]; decide), hs, if_neg (by decide), if_neg hc]
        have HR : Hid (openE T c id = 0 ∧ openT T c id = updS T id (some Ss.zero) ∧ openC T c id = c + 1) := Lib.hid ⟨e1, by unfold openT; rw [e1, if_pos rfl], by unfold openC; rw [e1, if_pos rfl]⟩
        have d1 : decide ((16 : Int) ≤ (c : Int)) = false := by simp; omega
        have HS := Lib.hid hs
        clear e1 hv hs h hc
        go_enter Try.func17, Try.ntmps17
        go_wp2_with fail
        refine HV.out.mono ?_
        rintro e w1 ⟨rfl, rfl⟩
        go_wp2_with fail
        refine HH.out.mono ?_
        rintro e w2 ⟨rfl, b1⟩
        have H1 := HT.out.below b1
        have hl := H1.map.len
        have hcell := H1.cell
        obtain ⟨hrun, H2, g2⟩ := H1.run (by omega) id hz Ss.zero
        rw [HS.out] at H2
        have hrun2 : (Instr.mapUpdate 61 (.map (some mb)) (.int .i64 id) (.agg #[.int .i64 0, .string ⟨#[]⟩])).run Try.prog w2 = .ok () (stoW mb id Ss.zero w2) := hrun
        clear hrun
        go_wp2_with fail
        go_ret
        rw [HR.out.1, HR.out.2.1, HR.out.2.2]
        exact ⟨rfl, H2, grownBy_trans (below_grownBy b1 _) g2⟩
    · rw [hs] at HH
      have e1 : openE T c id = 12 := by unfold openE; rw [if_neg (by rw [hv]; decide), hs, if_pos rfl]
      have HR : Hid (openE T c id = 12 ∧ openT T c id = T ∧ openC T c id = c) := Lib.hid ⟨e1, by unfold openT; rw [e1, if_neg (by decide)], by unfold openC; rw [e1, if_neg (by decide)]⟩
      clear e1 hv hs h
      go_enter Try.func17, Try.ntmps17
      go_wp2_with fail
      refine HV.out.mono ?_
      rintro e w1 ⟨rfl, rfl⟩
      go_wp2_with fail
      refine HH.out.mono ?_
      rintro e w2 ⟨rfl, b1⟩
      go_wp2_with fail
      go_ret
      rw [HR.out.1, HR.out.2.1, HR.out.2.2]
      exact ⟨rfl, (HT.out.below b1).mono (by omega), below_grownBy b1 _⟩
/-- What Close answers. -/
def closeE (T : Int → Option Ss) (id : Int) : Int := if (T id).isSome then 0 else 17
def closeC (T : Int → Option Ss) (c : Nat) (id : Int) : Nat := if (T id).isSome then c - 1 else c
theorem updS_none {T : Int → Option Ss} {id : Int} (h : (T id).isSome = false) : updS T id none = T := by
  funext x; unfold updS
  by_cases e : x = id
  · rw [if_pos e, e]; cases hT : T id with
    | none => rfl
    | some n => rw [hT] at h; cases h
  · rw [if_neg e]
set_option maxHeartbeats 4000000 in
theorem close_any (tb mb k c : Nat) (T : Int → Option Ss) (id : Int) (w : World) (h : TbW w tb mb k c T) (hz : InR id) :
    Calls Try.prog 18 #[.pointer (some ⟨tb, 0, none⟩), .int .i64 id] w fun e w' => e = .returned (.int .i64 (closeE T id)) ∧ Left10 w tb mb k (closeC T c id) (updS T id none) w' := by
  have HH := Lib.hid (has_any tb mb k c T id w h hz)
  have HT := Lib.hid h
  cases hs : (T id).isSome
  · have HR : Hid (closeE T id = 17 ∧ updS T id none = T ∧ closeC T c id = c) := Lib.hid ⟨by unfold closeE; rw [hs]; rfl, updS_none hs, by unfold closeC; rw [hs]; rfl⟩
    rw [hs] at HH
    clear hs h
    go_enter Try.func18, Try.ntmps18
    go_wp2_with fail
    refine HH.out.mono ?_
    rintro e w1 ⟨rfl, b1⟩
    go_wp2_with fail
    go_ret
    rw [HR.out.1, HR.out.2.1, HR.out.2.2]
    exact ⟨rfl, HT.out.below b1, below_grownBy b1 _⟩
  · have HR : Hid (closeE T id = 0 ∧ closeC T c id = c - 1) := Lib.hid ⟨by unfold closeE; rw [hs]; rfl, by unfold closeC; rw [hs]; rfl⟩
    have HS := Lib.hid hs
    rw [hs] at HH
    clear hs h
    go_enter Try.func18, Try.ntmps18
    go_wp2_with fail
    refine HH.out.mono ?_
    rintro e w1 ⟨rfl, b1⟩
    have H1 := HT.out.below b1
    have hcell := H1.cell
    obtain ⟨w2, hrun, hm, hg⟩ := H1.map.del id hz 0
    rw [HS.out] at hm
    have H2 := Lib.hid (H1.stored hg hm)
    clear hm
    go_wp2_with fail
    go_ret
    rw [HR.out.1, HR.out.2]
    exact ⟨rfl, H2.out, grownBy_trans (below_grownBy b1 _) hg⟩
/-- What Seen answers. -/
def seenS (T : Int → Option Ss) (id req : Int) : ByteArray × Bool × Int := match T id with
  | none => (⟨#[]⟩, false, 17)
  | some s => if okN req = false then (⟨#[]⟩, false, 1) else if req < s.req then (⟨#[]⟩, false, 18) else if req = s.req then (s.ans, true, 0) else (⟨#[]⟩, false, 0)
/-- A session in a block of its own. -/
theorem ssB_new (w : World) (n : Ss) : (w.alloc (.cells #[.int .i64 n.req, .string n.ans] 65)).heap[w.heap.size]? = some (.cells #[.int .i64 n.req, .string n.ans] 65 (0, 0)) := World.alloc_heap_new w _
theorem ssB_cells {w : World} {b : Nat} {n : Ss} (h : w.heap[b]? = some (.cells #[.int .i64 n.req, .string n.ans] 65 (0, 0))) : w.cell? ⟨b, 0, none⟩ = some (.int .i64 n.req) ∧ w.cell? ⟨b, 1, none⟩ = some (.string n.ans) := by simp [World.cell?, h]
set_option maxHeartbeats 4000000 in
theorem seen_any (tb mb k c : Nat) (T : Int → Option Ss) (id req : Int) (w : World) (h : TbW w tb mb k c T) (hz : InR id) :
    Calls Try.prog 16 #[.pointer (some ⟨tb, 0, none⟩), .int .i64 id, .int .i64 req] w fun e w' => e = .returned (.tuple #[.string (seenS T id req).1, .bool (seenS T id req).2.1, .int .i64 (seenS T id req).2.2]) ∧ Below w.heap.size w w' := by
  have HV := Lib.hid (fun W : World => valid_any req W)
  have hl := h.map.look_ok id hz
  have HA := Lib.hid (sessions_any tb mb _ h.cell)
  unfold ssV at hl
  cases hT : T id with
  | none =>
    have HR : Hid (seenS T id req = (⟨#[]⟩, false, 17)) := Lib.hid (by unfold seenS; rw [hT])
    rw [hT] at hl
    simp only [Option.getD_none, Option.isSome_none, Ss.zero] at hl
    clear h hT
    go_enter Try.func16, Try.ntmps16
    go_wp2_with fail
    refine HA.out.mono ?_
    rintro e w1 ⟨rfl, rfl⟩
    go_wp2_with fail
    go_ret3
    rw [HR.out]
    exact ⟨rfl, (Below.refl _ _).alloc (Nat.le_refl _) _⟩
  | some s =>
    rw [hT] at hl
    simp only [Option.getD_some, Option.isSome_some] at hl
    have N1 := ssB_new w s
    have b1 := (Below.refl _ w).alloc (Nat.le_refl _) (.cells #[.int .i64 s.req, .string s.ans] 65)
    obtain ⟨c0, c1⟩ := ssB_cells N1
    have hcase : (okN req = false ∧ seenS T id req = (⟨#[]⟩, false, 1)) ∨ (okN req = true ∧ decide (req < s.req) = true ∧ seenS T id req = (⟨#[]⟩, false, 18)) ∨ (okN req = true ∧ decide (req < s.req) = false ∧ (req == s.req) = true ∧ seenS T id req = (s.ans, true, 0)) ∨ (okN req = true ∧ decide (req < s.req) = false ∧ (req == s.req) = false ∧ seenS T id req = (⟨#[]⟩, false, 0)) := by
      unfold seenS; rw [hT]; simp only
      cases okN req
      · exact .inl ⟨rfl, rfl⟩
      · by_cases h1 : req < s.req
        · exact .inr (.inl ⟨rfl, by simpa using h1, by rw [if_neg (by decide), if_pos h1]⟩)
        · by_cases h2 : req = s.req
          · exact .inr (.inr (.inl ⟨rfl, by simpa using h1, by simpa using h2, by rw [if_neg (by decide), if_neg h1, if_pos h2]⟩))
          · exact .inr (.inr (.inr ⟨rfl, by simpa using h1, by simpa using h2, by rw [if_neg (by decide), if_neg h1, if_neg h2]⟩))
    clear h hT N1
    rcases hcase with ⟨ho, hR⟩ | ⟨ho, d1, hR⟩ | ⟨ho, d1, d2, hR⟩ | ⟨ho, d1, d2, hR⟩
    all_goals
      rw [hR]
      rw [ho] at HV
      clear ho hR
      go_enter Try.func16, Try.ntmps16
      go_wp2_with fail
      refine HA.out.mono ?_
      rintro e w1 ⟨rfl, rfl⟩
      go_wp2_with fail
      refine (HV.out _).mono ?_
      rintro e w2 ⟨rfl, rfl⟩
      go_wp2_with fail
      go_ret3
      exact ⟨rfl, b1⟩
section
variable {P : Program} {Q : Exit → Act → World → Prop} {l : List Oper}
theorem gstep_build2 {i : Nat} {o : Oper} {a : Act} {w : World} {K : Act → World → Prop} (ho : l[i]? = some o) (hw : WantedIs l a o true) (t : TypeId) (i1 i2 : Nat) (s1 s2 : Operand) (hop : o.op = .build t #[(i1, s1), (i2, s2)]) (v1 v2 : Value) (he1 : a.eval s1 = v1) (he2 : a.eval s2 = v2) (v' : Value)
    (hr : (Instr.build t #[(i1, v1), (i2, v2)]).run P w = .ok v' w) (h : K (a.put o.dst v') w) : Step P l Q i K a w :=
  gstep_value ho hw v' w (by simp only [execOp, hop, List.map_toArray, List.map_cons, List.map_nil, he1, he2, Sem.run_bind, Sem.run_pure, hr, Result.andThen_ok]) h
theorem gstep_mapu {i : Nat} {o : Oper} {a : Act} {w : World} {K : Act → World → Prop} (ho : l[i]? = some o) (hw : WantedIs l a o true) (t : TypeId) (s1 s2 s3 : Operand) (hop : o.op = .mapUpdate t s1 s2 s3) (v1 v2 v3 : Value) (he1 : a.eval s1 = v1) (he2 : a.eval s2 = v2) (he3 : a.eval s3 = v3) (w' : World)
    (hr : (Instr.mapUpdate t v1 v2 v3).run P w = .ok () w') (h : K (a.put o.dst undef) w') : Step P l Q i K a w := by
  refine ⟨?_⟩
  unfold wpOp
  rw [show l.toArray[i]? = some o by simpa using ho]
  simp only [show Region.wanted o (yielded l.toArray a.tmps) = true from hw, if_true]
  left
  unfold Oper.wp
  rw [show (execOp a.eval o).run P w = .ok .skip w' by simp only [execOp, hop, he1, he2, he3, Sem.run_bind, Sem.run_pure, hr, Result.andThen_ok]]
  exact h
end
theorem run_tbf (w : World) (b : Nat) : (Instr.fieldAt 63 (.pointer (some ⟨b, 0, none⟩)) 0).run Try.prog w = .ok (.pointer (some ⟨b, 0, none⟩)) w := by kernel_rfl
theorem run_loadM (w : World) (p : Addr) (v : Value) (h : w.cell? p = some v) : (Instr.loadAt 61 (.pointer (some p))).run Try.prog w = .ok v w := by go_simp
theorem run_bss (w : World) (r : Int) (s : ByteArray) : (Instr.build 65 #[(0, .int .i64 r), (1, .string s)]).run Try.prog w = .ok (.agg #[.int .i64 r, .string s]) w := by kernel_rfl
def FKp (tb mb : Nat) (id req : Int) (a : ByteArray) : Nat → Value → World → Prop
  | 0, v, _ => v = .pointer (some ⟨tb, 0, none⟩)
  | 1, v, _ => v = .pointer (some ⟨tb, 0, none⟩)
  | 2, v, _ => v = .pointer (some ⟨tb, 0, none⟩)
  | 3, v, _ => v = .map (some mb)
  | 4, v, _ => v = .int .i64 id
  | 5, v, _ => v = .int .i64 req
  | 6, v, _ => v = .string a
  | 7, v, _ => v = .string a
  | 8, v, _ => v = .agg #[.int .i64 req, .string a]
  | _, _, _ => True
theorem FKp_keep {tb mb : Nat} {id req : Int} {a : ByteArray} {v : Value} {w w' : World} : ∀ i : Nat, FKp tb mb id req a i v w → FKp tb mb id req a i v w'
  | 0, h => h
  | 1, h => h
  | 2, h => h
  | 3, h => h
  | 4, h => h
  | 5, h => h
  | 6, h => h
  | 7, h => h
  | 8, h => h
  | _ + 9, _ => trivial
/-- What Keep answers. -/
def keepE (T : Int → Option Ss) (id req : Int) (a : ByteArray) : Int := if (seenS T id req).2.2 ≠ 0 then (seenS T id req).2.2 else if (seenS T id req).2.1 then 18 else if 400 < a.size then 3 else 0
def keepT (T : Int → Option Ss) (id req : Int) (a : ByteArray) : Int → Option Ss := if keepE T id req a = 0 then updS T id (some ⟨req, a⟩) else T
theorem seen_ok {T : Int → Option Ss} {id req : Int} (h : (seenS T id req).2.2 = 0) : (T id).isSome = true := by
  unfold seenS at h
  cases hT : T id with
  | none => rw [hT] at h; simp at h
  | some s => rfl
set_option maxHeartbeats 4000000 in
theorem keep_any (tb mb k c : Nat) (T : Int → Option Ss) (id req : Int) (a : ByteArray) (w : World) (h : TbW w tb mb k c T) (hz : InR id) (ha : a.size ≤ 1000000) (hk : k < 1000000) :
    Calls Try.prog 19 #[.pointer (some ⟨tb, 0, none⟩), .int .i64 id, .int .i64 req, .string a] w fun e w' => e = .returned (.int .i64 (keepE T id req a)) ∧ Left10 w tb mb (k + 1) c (keepT T id req a) w' := by
  have HS := Lib.hid (seen_any tb mb k c T id req w h hz)
  have HT := Lib.hid h
  obtain ⟨er, her⟩ : ∃ er, er = (seenS T id req).2.2 := ⟨_, rfl⟩
  obtain ⟨sn, hsn⟩ : ∃ sn, sn = (seenS T id req).2.1 := ⟨_, rfl⟩
  obtain ⟨tx, htx⟩ : ∃ tx, tx = (seenS T id req).1 := ⟨_, rfl⟩
  rw [← her, ← hsn, ← htx] at HS
  by_cases h0 : er = 0
  · have hsome : (T id).isSome = true := seen_ok (her.symm.trans h0)
    cases hs : sn
    · by_cases h4 : 400 < a.size
      · have HR : Hid (keepE T id req a = 3 ∧ keepT T id req a = T) := by
          have e1 : keepE T id req a = 3 := by unfold keepE; rw [if_neg (by rw [← her]; exact fun e => e h0), ← hsn, hs, if_neg (by decide), if_pos h4]
          exact Lib.hid ⟨e1, by unfold keepT; rw [e1, if_neg (by decide)]⟩
        have d1 : decide ((400 : Int) < (a.size : Int)) = true := by simp; omega
        subst h0 hs
        clear her hsn htx hsome h h4
        go_enter Try.func19, Try.ntmps19
        go_wp2_with fail
        refine HS.out.mono ?_
        rintro e w1 ⟨rfl, b1⟩
        go_wp2_with fail
        go_ret
        rw [HR.out.1, HR.out.2]
        exact ⟨rfl, (HT.out.below b1).mono (by omega), below_grownBy b1 _⟩
      · have HR : Hid (keepE T id req a = 0 ∧ keepT T id req a = updS T id (some ⟨req, a⟩)) := by
          have e1 : keepE T id req a = 0 := by unfold keepE; rw [if_neg (by rw [← her]; exact fun e => e h0), ← hsn, hs, if_neg (by decide), if_neg h4]
          exact Lib.hid ⟨e1, by unfold keepT; rw [e1, if_pos rfl]⟩
        have d1 : decide ((400 : Int) < (a.size : Int)) = false := by simp; omega
        have HCD := Lib.hid (fun W : World => sclone_any a W ha)
        have HSM := Lib.hid hsome
        subst h0 hs
        clear her hsn htx hsome h h4
        go_enter Try.func19, Try.ntmps19
        go_wp2_with fail
        refine HS.out.mono ?_
        rintro e wv ⟨rfl, b1⟩
        have HCE : Hid (∀ W : World, Below wv.drew.heap.size wv.drew W → W.cell? ⟨tb, 0, none⟩ = some (.map (some mb))) := Lib.hid fun W hW => (HT.out.below (b1.trans ((Below.refl _ wv).drew.trans (hW.mono (Nat.le_refl _))|>.mono b1.size))).cell
        have HRU : Hid (∀ W : World, Below wv.drew.heap.size wv.drew W → (Instr.mapUpdate 61 (.map (some mb)) (.int .i64 id) (.agg #[.int .i64 req, .string a])).run Try.prog W = .ok () (stoW mb id ⟨req, a⟩ W) ∧ True) := Lib.hid fun W hW => ⟨((HT.out.below (b1.trans ((Below.refl _ wv).drew.trans (hW.mono (Nat.le_refl _))|>.mono b1.size))).run (by omega) id hz ⟨req, a⟩).1, trivial⟩
        have HDR : Hid (∀ W : World, Below wv.drew.heap.size wv.drew W → Below wv.heap.size wv W) := Lib.hid fun W hW => (Below.refl _ wv).drew.trans (hW.mono (Nat.le_refl _))
        go_upto_region 8 with fail
        go_cut [8] (fun p wx => ∃ w6, Below wv.heap.size wv w6 ∧ wx = stoW mb id ⟨req, a⟩ w6)
        case first =>
          refine wp_region_steps_last 9 (FKp tb mb id req a) (fun w w' => Below w.heap.size w w') (by kernel_rfl) (by kernel_rfl) (by kernel_rfl) (by kernel_rfl) (by kernel_rfl) (Below.refl _ _) ?_ (fun u v w h1 h2 => h1.trans (h2.mono h1.size)) ?_ ?_
          · intro i v w w' _ h1 h2
            exact FKp_keep i h1
          · intro i o hi ho x w1 hR hF
            match i, ho with
            | 0, ho =>
              obtain rfl := Option.some.inj ho
              exact gstep_move rfl (wanted0 rfl) _ rfl _ (eval_of 0 _ (by kernel_rfl) rfl) ⟨_, rfl, rfl, Below.refl _ _⟩
            | 1, ho =>
              obtain rfl := Option.some.inj ho
              exact gstep_nil rfl (wanted0 rfl) _ rfl _ (eval_at 30 0 _ (by kernel_rfl) (show 30 < 39 by decide) (hF 0 (by kernel_rfl))) ⟨_, rfl, rfl, Below.refl _ _⟩
            | 2, ho =>
              obtain rfl := Option.some.inj ho
              exact gstep_field rfl (wanted0 rfl) _ _ _ rfl _ (eval_at 31 1 _ (by kernel_rfl) (show 31 < 39 by decide) (hF 1 (by kernel_rfl))) _ (run_tbf w1 _) ⟨_, rfl, rfl, Below.refl _ _⟩
            | 3, ho =>
              obtain rfl := Option.some.inj ho
              exact gstep_load rfl (wanted0 rfl) _ _ rfl _ (eval_at 32 2 _ (by kernel_rfl) (show 32 < 39 by decide) (hF 2 (by kernel_rfl))) _ (run_loadM w1 _ _ (HCE.out w1 hR)) ⟨_, rfl, rfl, Below.refl _ _⟩
            | 4, ho =>
              obtain rfl := Option.some.inj ho
              exact gstep_move rfl (wanted0 rfl) _ rfl _ (eval_of 1 _ (by kernel_rfl) rfl) ⟨_, rfl, rfl, Below.refl _ _⟩
            | 5, ho =>
              obtain rfl := Option.some.inj ho
              exact gstep_move rfl (wanted0 rfl) _ rfl _ (eval_of 2 _ (by kernel_rfl) rfl) ⟨_, rfl, rfl, Below.refl _ _⟩
            | 6, ho =>
              obtain rfl := Option.some.inj ho
              exact gstep_move rfl (wanted0 rfl) _ rfl _ (eval_of 3 _ (by kernel_rfl) rfl) ⟨_, rfl, rfl, Below.refl _ _⟩
            | 7, ho =>
              obtain rfl := Option.some.inj ho
              refine gstep_call rfl (wanted0 rfl) _ _ _ rfl _ (eval_at 36 6 _ (by kernel_rfl) (show 36 < 39 by decide) (hF 6 (by kernel_rfl))) (by kernel_rfl) ?_
              refine (HCD.out _).mono ?_
              rintro e w2 ⟨rfl, b2⟩
              exact ⟨_, rfl, _, rfl, rfl, b2⟩
            | 8, ho =>
              obtain rfl := Option.some.inj ho
              exact gstep_build2 rfl (wanted0 rfl) _ _ _ _ _ rfl _ _ (eval_at 35 5 _ (by kernel_rfl) (show 35 < 39 by decide) (hF 5 (by kernel_rfl))) (eval_at 37 7 _ (by kernel_rfl) (show 37 < 39 by decide) (hF 7 (by kernel_rfl))) _ (run_bss w1 _ _) ⟨_, rfl, rfl, Below.refl _ _⟩
            | n + 9, ho => omega
          · intro o ho x w1 hR hF0
            have hF := fun j (hj : j < 9) => hF0 j hj
            obtain rfl := Option.some.inj ho
            refine gstep_mapu rfl (wanted0 rfl) _ _ _ _ rfl _ _ _ (eval_at 33 3 _ (by kernel_rfl) (show 33 < 39 by decide) (hF 3 (by decide))) (eval_at 34 4 _ (by kernel_rfl) (show 34 < 39 by decide) (hF 4 (by decide))) (eval_at 38 8 _ (by kernel_rfl) (show 38 < 39 by decide) (hF 8 (by decide))) _ (HRU.out w1 hR).1 ?_
            simp only [putAll, Act.put, List.setIfInBounds_toArray, List.set_cons_succ, List.set_cons_zero]
            go_wp2_with fail
            go_meet
            exact ⟨w1, HDR.out w1 hR, rfl⟩
        case rest =>
          obtain ⟨w6, b6, rfl⟩ := hcut
          obtain ⟨_, H7, g7⟩ := (HT.out.below (b1.trans (b6.mono b1.size))).run (by omega) id hz ⟨req, a⟩
          rw [HSM.out] at H7
          go_wp2_with fail
          go_ret
          rw [HR.out.1, HR.out.2]
          exact ⟨rfl, H7, grownBy_trans (below_grownBy (b1.trans (b6.mono b1.size)) _) g7⟩
    · have HR : Hid (keepE T id req a = 18 ∧ keepT T id req a = T) := by
        have e1 : keepE T id req a = 18 := by unfold keepE; rw [if_neg (by rw [← her]; exact fun e => e h0), ← hsn, hs, if_pos rfl]
        exact Lib.hid ⟨e1, by unfold keepT; rw [e1, if_neg (by decide)]⟩
      subst h0 hs
      clear her hsn htx hsome h
      go_enter Try.func19, Try.ntmps19
      go_wp2_with fail
      refine HS.out.mono ?_
      rintro e w1 ⟨rfl, b1⟩
      go_wp2_with fail
      go_ret
      rw [HR.out.1, HR.out.2]
      exact ⟨rfl, (HT.out.below b1).mono (by omega), below_grownBy b1 _⟩
  · have HR : Hid (keepE T id req a = er ∧ keepT T id req a = T) := by
      have e1 : keepE T id req a = er := by unfold keepE; rw [if_pos (by rw [← her]; exact h0), ← her]
      exact Lib.hid ⟨e1, by unfold keepT; rw [e1, if_neg h0]⟩
    have e1 : (er != 0) = true := by simpa using h0
    have e2 : (er == 0) = false := by simpa using h0
    clear her hsn htx h h0
    go_enter Try.func19, Try.ntmps19
    go_wp2_with fail
    refine HS.out.mono ?_
    rintro e w1 ⟨rfl, b1⟩
    go_wp2_with fail
    go_ret
    rw [HR.out.1, HR.out.2]
    exact ⟨rfl, (HT.out.below b1).mono (by omega), below_grownBy b1 _⟩
end Go.Proofs.Ytckengglamkaaaa
