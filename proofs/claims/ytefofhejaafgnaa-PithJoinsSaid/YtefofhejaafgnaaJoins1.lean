/- What PithJoins leans on: the statement's own 'laid', and the row of parts that its appends make; no condition on the input beside the lengths. -/
import Derived.Test.YtefofhejaafgnaaCutsMath
import Derived.Laws.AppendOwnNone
import Derived.Deep.RegionWith
import Derived.Deep.DeepCutAuto
namespace Go.Proofs.Ytefofhejaafgnaa.pithJoins
open Go.ChangeShapes Go.WideShapes Go.ChangeAt Go.RowKit
open Go.ChangeMaps (open_string shut_string)
set_option linter.unusedVariables false

/-- The parts, as they lie in memory. -/
def At (w : World) (b off len1 : Nat) (ps : List Pt) : Prop := b < w.heap.size ∧ ∀ j, j < len1 →
  (w.cell? ⟨b, off + j * 3, none⟩ = some (.int .i64 (ps.getD j pt0).k) ∧ w.cell? ⟨b, off + j * 3 + 1, none⟩ = some (.int .i64 (ps.getD j pt0).n) ∧ w.cell? ⟨b, off + j * 3 + 2, none⟩ = some (.string (ps.getD j pt0).s)) ∧
  (-9223372036854775808 ≤ (ps.getD j pt0).n ∧ (ps.getD j pt0).n ≤ 9223372036854775807) ∧ (ps.getD j pt0).s.size ≤ maxLen
theorem At.below {w w' : World} {b off len1 : Nat} {ps : List Pt} (h : At w b off len1 ps) (k : Below w.heap.size w w') : At w' b off len1 ps := by
  obtain ⟨hb, hc⟩ := h
  refine ⟨Nat.lt_of_lt_of_le hb k.size, fun j hj => ?_⟩
  obtain ⟨⟨c0, c1, c2⟩, h2⟩ := hc j hj
  refine ⟨⟨?_, ?_, ?_⟩, h2⟩
  · rw [k.cell (p := ⟨b, off + j * 3, none⟩) hb]; exact c0
  · rw [k.cell (p := ⟨b, off + j * 3 + 1, none⟩) hb]; exact c1
  · rw [k.cell (p := ⟨b, off + j * 3 + 2, none⟩) hb]; exact c2

set_option maxHeartbeats 4000000 in
/-- The statement's own 'laid'. -/
theorem laid_any (v : Value) (l : List UInt8) (b off len1 cap1 : Nat) (ps : List Pt) (w : World) (hv : Src w v l) (hl : l.length ≤ 100000000) (hps : ps.length = len1) (h1 : len1 ≤ 20) (a1 : Option Addr) (ha1 : 0 < len1 → a1 = some ⟨b, off, none⟩ ∧ At w b off len1 ps) :
    Calls Try.prog 24 #[v, .slice a1 len1 cap1] w fun e w' => ∃ v', e = .returned v' ∧ Src w' v' (l ++ laysE ps) ∧ Below w.heap.size w w' := by
  have HA := Lib.hid ha1
  have HPS := Lib.hid hps
  clear ha1 hps
  go_enter Try.func24, Try.ntmps24
  go_wp2_with fail
  go_loopw [0, 9] (fun x i wr => ∃ k : Nat, k ≤ len1 ∧ i = .int .i64 k ∧ Src wr x (l ++ laysE (ps.take k)) ∧ Below w.heap.size w wr) (fun _ i _ => len1 - (intOf i).toNat)
  case atStart => exact ⟨0, Nat.zero_le _, rfl, by simpa [laysE] using hv, Below.refl _ _⟩
  case round =>
    obtain ⟨k, hk, rfl, hown, hbw⟩ := hrel
    clear hv
    by_cases hlt : k < len1
    · obtain ⟨ha, hat⟩ := HA.out (by omega)
      obtain ⟨hbb, hcc⟩ := hat.below hbw
      obtain ⟨⟨c0, c1, c2⟩, ⟨b0, b1⟩, b2⟩ := hcc k hlt
      subst ha
      clear hcc hat
      have HES := Lib.hid (show l ++ laysE (ps.take (k + 1)) = (l ++ laysE (ps.take k)) ++ layE (ps.getD k pt0) by rw [laysE_snoc ps k (by rw [HPS.out]; exact hlt), List.append_assoc])
      have hlen : (l ++ laysE (ps.take k)).length ≤ 101400000 := by
        rw [List.length_append]
        have := laysE_length (ps.take k)
        rw [List.length_take] at this
        omega
      generalize l ++ laysE (ps.take k) = m at *
      generalize ps.getD k pt0 = p at *
      obtain ⟨pk, pn, s⟩ := p
      simp only at c0 c1 c2 b0 b1 b2
      unfold maxLen at b2
      have hsz := hbw.size
      have hbe := (hbw.alloc hsz (.cells #[.int .i64 pk, .int .i64 pn, .string s] 26)).alloc (by simp; omega) (.cells #[.int .i64 pk, .int .i64 pn, .string s] 26)
      have hB2 : Below wr.heap.size wr ((wr.alloc (.cells #[.int .i64 pk, .int .i64 pn, .string s] 26)).alloc (.cells #[.int .i64 pk, .int .i64 pn, .string s] 26)) := ((Below.refl _ wr).alloc (Nat.le_refl _) _).alloc (by simp) _
      have hsrc := hown.below hB2
      clear hB2
      by_cases hk0 : kindN pk = 0
      · skip
        have HK := Lib.hid (show (0 : Int) = kindN pk by rw [hk0]; rfl)
        have HLE := Lib.hid (show layE ⟨pk, pn, s⟩ = numE pn by unfold layE; rw [if_pos hk0])
        clear hk0
        go_wp2_with (go_at_call 11; refine (kind_any pk pn s 0 HK.out _).mono ?_; rintro e w' ⟨rfl, rfl⟩)
        refine (num_one_at _ _ pn _ _ (by simp) hsrc (by omega) ⟨b0, b1⟩).mono ?_
        rintro e w3 ⟨v3, rfl, ho3, hb3⟩
        rw [← HLE.out, ← HES.out] at ho3
        have ho4 := ho3.src
        have hb4 := hbe.trans (hb3.mono hbe.size)
        clear ho3 hb3 hbe hsrc hown hbw
        go_wp2_with fail
        go_roundw
        case rel => exact ⟨k + 1, by omega, by go_num, ho4, hb4⟩
        case measure => simp [intOf]; omega
      · by_cases hk1 : kindN pk = 1
        · skip
          have HK := Lib.hid (show (1 : Int) = kindN pk by rw [hk1]; rfl)
          have HLE := Lib.hid (show layE ⟨pk, pn, s⟩ = textE s.data.toList by unfold layE; rw [if_neg hk0, if_pos hk1])
          clear hk0 hk1
          go_wp2_with (go_at_call 11; refine (kind_any pk pn s 1 HK.out _).mono ?_; rintro e w' ⟨rfl, rfl⟩)
          refine (text_one_at _ _ s _ _ (by simp) hsrc (by omega) (by unfold maxLen; omega)).mono ?_
          rintro e w3 ⟨v3, rfl, ho3, hb3⟩
          rw [← HLE.out, ← HES.out] at ho3
          have ho4 := ho3.src
          have hb4 := hbe.trans (hb3.mono hbe.size)
          clear ho3 hb3 hbe hsrc hown hbw
          go_wp2_with fail
          go_roundw
          case rel => exact ⟨k + 1, by omega, by go_num, ho4, hb4⟩
          case measure => simp [intOf]; omega
        · have hk2 : kindN pk = 2 := by have := kindN_lt pk; omega
          have HK := Lib.hid (show (2 : Int) = kindN pk by rw [hk2]; rfl)
          have HLE := Lib.hid (show layE ⟨pk, pn, s⟩ = flagE (pn % 2 == 1) by unfold layE; rw [if_neg hk0, if_neg hk1]; rfl)
          have hand1 := i64_and1
          clear hk0 hk1 hk2
          go_wp2_with (go_at_call 11; refine (kind_any pk pn s 2 HK.out _).mono ?_; rintro e w' ⟨rfl, rfl⟩)
          refine (flag_one_at _ _ (pn % 2 == 1) _ _ (by simp) hsrc (by omega)).mono ?_
          rintro e w3 ⟨v3, rfl, ho3, hb3⟩
          rw [← HLE.out, ← HES.out] at ho3
          have ho4 := ho3.src
          have hb4 := hbe.trans (hb3.mono hbe.size)
          clear ho3 hb3 hbe hsrc hown hbw
          go_wp2_with fail
          go_roundw
          case rel => exact ⟨k + 1, by omega, by go_num, ho4, hb4⟩
          case measure => simp [intOf]; omega
    · have hkk : ps.take k = ps := List.take_of_length_le (by rw [HPS.out]; omega)
      rw [hkk] at hown
      have HO := Lib.hid hown
      clear hown hkk
      go_wp2_with fail
      go_ret
      exact ⟨_, rfl, HO.out, hbw⟩

/-- Parts as cells. -/
def pc (ps : List Pt) : List Value := ps.flatMap fun p => [.int .i64 p.k, .int .i64 p.n, .string p.s]
theorem pc_length (ps : List Pt) : (pc ps).length = ps.length * 3 := by
  induction ps with
  | nil => rfl
  | cons p ps ih => unfold pc at *; rw [List.flatMap_cons, List.length_append, ih, List.length_cons]; simp; omega
theorem pc_append (a b : List Pt) : pc (a ++ b) = pc a ++ pc b := by unfold pc; rw [List.flatMap_append]
theorem pc_one (ps : List Pt) : ∀ u ∈ pc ps, u.oneCell' = true := by
  intro u hu
  unfold pc at hu
  simp only [List.mem_flatMap] at hu
  obtain ⟨p, _, hp⟩ := hu
  simp at hp
  rcases hp with rfl | rfl | rfl <;> rfl
theorem pc_get (ps : List Pt) : ∀ i, i < ps.length → (pc ps)[i * 3]? = some (.int .i64 (ps.getD i pt0).k) ∧ (pc ps)[i * 3 + 1]? = some (.int .i64 (ps.getD i pt0).n) ∧ (pc ps)[i * 3 + 2]? = some (.string (ps.getD i pt0).s) := by
  induction ps with
  | nil => intro i hi; simp at hi
  | cons p ps ih =>
    intro i hi
    cases i with
    | zero => exact ⟨rfl, rfl, rfl⟩
    | succ i =>
      have h := ih i (by simpa using hi)
      have e : ∀ r, (pc (p :: ps))[(i + 1) * 3 + r]? = (pc ps)[i * 3 + r]? := by
        intro r
        unfold pc
        rw [List.flatMap_cons, show (i + 1) * 3 + r = i * 3 + r + 1 + 1 + 1 by omega]
        rfl
      have e0 := e 0
      rw [Nat.add_zero, Nat.add_zero] at e0
      rw [e0, e 1, e 2]
      simpa using h
theorem pc_news {w : World} {b off len1 : Nat} {ps : List Pt} (h : At w b off len1 ps) (hl : ps.length = len1) : ∀ j u, (pc ps)[j]? = some u → w.cell? ((⟨b, off, none⟩ : Addr).add j) = some u := by
  intro j u hu
  have hj : j < ps.length * 3 := by
    have := (List.getElem?_eq_some_iff.1 hu).1
    rwa [pc_length] at this
  obtain ⟨⟨c0, c1, c2⟩, _⟩ := h.2 (j / 3) (by omega)
  obtain ⟨g0, g1, g2⟩ := pc_get ps (j / 3) (by omega)
  rw [show (Addr.add ⟨b, off, none⟩ j : Addr) = ⟨b, off + j, none⟩ by simp [Addr.add]]
  have hr : j = j / 3 * 3 ∨ j = j / 3 * 3 + 1 ∨ j = j / 3 * 3 + 2 := by omega
  rcases hr with hr | hr | hr
  · rw [hr] at hu ⊢
    rw [g0] at hu
    rw [← hu]
    exact c0
  · rw [hr] at hu ⊢
    rw [g1] at hu
    rw [← hu]
    exact c1
  · rw [hr] at hu ⊢
    rw [g2] at hu
    rw [← hu]
    exact c2
theorem info_part : (Try.prog.info? 26).map (fun i => (i.zero, i.size, i.bytes)) = some (some (.agg #[.int .i64 0, .int .i64 0, .string ⟨#[]⟩]), 3, 32) := by kernel_rfl
theorem und_parts : Try.prog.underlying 22 = some (.slice 26) := by kernel_rfl

/-- What an append of the parts asks. -/
def SrcP (w : World) (a : Option Addr) (len cap : Nat) (ps : List Pt) : Prop :=
  (a = none ∧ len = 0 ∧ cap = 0 ∧ ps = []) ∨ ∃ x, a = some x ∧ ∀ j u, (pc ps)[j]? = some u → w.cell? (Addr.add x j) = some u
theorem SrcP.below {w w' : World} {a : Option Addr} {len cap : Nat} {ps : List Pt} (h : SrcP w a len cap ps) (k : Below w.heap.size w w') : SrcP w' a len cap ps := by
  rcases h with h | ⟨x, hx, hc⟩
  · exact .inl h
  · refine .inr ⟨x, hx, fun j u hu => ?_⟩
    have h1 := hc j u hu
    rw [k.cell (World.block_lt_of_cell? w _ h1)]
    exact h1
/-- The row of parts that the call owns. -/
def Ps (w : World) (B : Nat) (v : Value) (ps : List Pt) : Prop := w.ownsRow B 26 3 v ps.length (pc ps)
theorem Ps.own {w : World} {B : Nat} {v : Value} {L : List Pt} (h : Ps w B v L) : ∀ y, v.ownBlock = some y → B ≤ y := by
  intro y hy
  rcases h.2 with ⟨h2, _⟩ | ⟨g, cap, cur, hv, hg, _⟩
  · rw [h2] at hy; simp [Value.ownBlock] at hy
  · rw [hv] at hy; simp [Value.ownBlock] at hy; omega

theorem Ps.shape {w : World} {B : Nat} {v : Value} {L : List Pt} (h : Ps w B v L) (n : Nat) (hn : L.length = n) : ∃ a c, v = .slice a n c ∧ (0 < n → ∃ g, a = some ⟨g, 0, none⟩ ∧ g < w.heap.size ∧ ∀ j, j < n →
    (w.cell? ⟨g, j * 3, none⟩ = some (.int .i64 (L.getD j pt0).k) ∧ w.cell? ⟨g, j * 3 + 1, none⟩ = some (.int .i64 (L.getD j pt0).n) ∧ w.cell? ⟨g, j * 3 + 2, none⟩ = some (.string (L.getD j pt0).s))) := by
  subst hn
  rcases h.2 with ⟨rfl, h3⟩ | ⟨g, cap, cur, rfl, hg, hh, hc1, hc2, hc3, hc4⟩
  · exact ⟨none, 0, by rw [h3], fun h => absurd h (by omega)⟩
  · refine ⟨_, cap, rfl, fun _ => ⟨g, rfl, lt_of_block hh, fun j hj => ?_⟩⟩
    obtain ⟨g0, g1, g2⟩ := pc_get L j hj
    have hx : ∀ i u, i < L.length * 3 → (pc L)[i]? = some u → w.cell? ⟨g, i, none⟩ = some u := by
      intro i u hi hu
      rw [← hc4, List.getElem?_take] at hu
      simp only [hi, if_true] at hu
      simp only [World.cell?, hh]
      simpa using hu
    exact ⟨hx _ _ (by omega) g0, hx _ _ (by omega) g1, hx _ _ (by omega) g2⟩
theorem ps_new {w : World} {B : Nat} {v : Value} {M : List Pt} {m : Nat} (hm : M.length = m) (h : w.ownsRow B 26 3 v m (pc [] ++ pc M)) : Ps w B v M := by
  unfold Ps
  rw [hm]
  exact h
theorem none_stop {P : Program} {w : World} {ops : Array Oper} {rest : List Oper} {o : Oper} {a : Act} {Q : Exit → Act → World → Prop} (hgd : o.guard = none) (s x : Operand) (t : TypeId)
    (ho : o.op = .call { callee := .builtin .append, args := #[s, x], argTypes := #[t, t] })
    (base : Nat) (e : TypeId) (i : TypeInfo) (size : Nat) (ht : P.underlying t = some (.slice e)) (hi : P.info? e = some i)
    (v : Value) (n : Nat) (xs : List Value) (hs : a.eval s = v) (hown : w.ownsRow base e size v n xs) (hx : a.eval x = .slice none 0 0)
    (h : ∀ z : Value, Hid (z = v) → wpList P ops Q rest (a.put o.dst z) w) : wpList P ops Q (o :: rest) a w :=
  wpList_append_own_none hgd s x t ho base e i size ht hi v n xs hs hown hx (h v rfl)
theorem ps_add {w : World} {B : Nat} {v : Value} {L M : List Pt} {n m : Nat} (hn : L.length = n) (hm : M.length = m) (h : w.ownsRow B 26 3 v (n + m) (pc L ++ pc M)) : Ps w B v (L ++ M) := by
  unfold Ps
  rw [List.length_append, pc_append, hn, hm]
  exact h
end Go.Proofs.Ytefofhejaafgnaa.pithJoins
