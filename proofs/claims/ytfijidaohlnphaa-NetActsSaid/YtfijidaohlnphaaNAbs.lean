/- A net as its flights in the order of sending: Send, Next, Pass, Clear, Len, Now. No conditions beyond those in each statement. -/
import Derived.Test.YtfijidaohlnphaaNSend
namespace Go.Proofs.Ytfijidaohlnphaa
open Go.RowKit
set_option linter.unusedVariables false
set_option linter.unusedSimpArgs false
set_option maxRecDepth 100000

/-- A net whose flights are these, in the order of sending. -/
structure NetS (w : World) (base nb : Nat) (now sent : Int) (v : Value) (F : List Fl) : Prop where
  ex : ∃ L, NHp w base nb now sent v L ∧ L.Perm F
  inc : F.Pairwise fun a b => a.no < b.no
  lt : ∀ f ∈ F, f.no < sent
  n0 : 0 ≤ now
  s0 : 0 ≤ sent
  rw : ∀ q, v.ownBlock = some q → base ≤ q
def NetX (w : World) (base nb : Nat) (now sent : Int) (F : List Fl) : Prop := ∃ v, NetS w base nb now sent v F
/-- Blocks of other kinds are left alone. -/
def KeepT (w w' : World) : Prop := ∀ (b : Nat) (cs : Array Value) (t : TypeId) (fz : Nat × Nat), w.heap[b]? = some (.cells cs t fz) → t ≠ 28 → t ≠ 55 → w'.heap[b]? = w.heap[b]?
section
variable {w w' w'' : World} {base nb : Nat} {now sent : Int} {v v' : Value} {F : List Fl}
theorem KeepT.trans (h : KeepT w w') (k : KeepT w' w'') : KeepT w w'' := fun b cs t fz hb h1 h2 => (k b cs t fz ((h b cs t fz hb h1 h2).trans hb) h1 h2).trans (h b cs t fz hb h1 h2)
theorem KeepT.of_below (h : Below w.heap.size w w') : KeepT w w' := fun b cs t fz hb _ _ => h.block b (lt_of_block hb)
theorem KeepT.of_fr (h : FrN nb v.ownBlock w w') {L : List Fl} (hh : NHp w base nb now sent v L) : KeepT w w' := fun b cs t fz hb h1 h2 => h.block b (lt_of_block hb)
  (fun e => by
    have := hh.box
    unfold NBx at this
    rw [← e, hb] at this
    injection this with this
    injection this with _ this
    exact h1 this)
  (fun e => by
    obtain ⟨_, _, cs', hcs⟩ := hh.row.own e.symm
    rw [hb] at hcs
    injection hcs with hcs
    injection hcs with _ hcs
    exact h2 hcs)
theorem NHp.of {L : List Fl} (h : NHp w base nb now sent v L) (hk : ∀ (b : Nat) (cs : Array Value) (t : TypeId), w.heap[b]? = some (.cells cs t (0, 0)) → (t = 28 ∨ t = 55 ∨ t = 58) → w'.heap[b]? = w.heap[b]?) : NHp w' base nb now sent v L :=
  ⟨h.row.same (fun y hy => hk _ _ _ (h.row.2.1 y hy) (.inr (.inr rfl))) (fun g hg => by obtain ⟨_, _, cs, hcs⟩ := h.row.own hg; exact hk _ _ _ hcs (.inr (.inl rfl))), h.box.same (hk _ _ _ h.box (.inl rfl)), h.heap, h.low⟩
theorem NetX.of (h : NetX w base nb now sent F) (hk : ∀ (b : Nat) (cs : Array Value) (t : TypeId), w.heap[b]? = some (.cells cs t (0, 0)) → (t = 28 ∨ t = 55 ∨ t = 58) → w'.heap[b]? = w.heap[b]?) : NetX w' base nb now sent F := by
  obtain ⟨v, ⟨L, h1, h2⟩, h3, h4, h5, h6, h7⟩ := h
  exact ⟨v, ⟨L, h1.of hk, h2⟩, h3, h4, h5, h6, h7⟩
theorem NetX.below (h : NetX w base nb now sent F) (hb : Below w.heap.size w w') : NetX w' base nb now sent F := h.of fun b cs t hc _ => hb.block b (lt_of_block hc)
theorem NetX.other (h : NetX w base nb now sent F) {r : Option Nat} (hg : w.grownBy w' r) (hr : ∀ q, r = some q → ∃ (cs : Array Value) (t : TypeId) (fz : Nat × Nat), w.heap[q]? = some (.cells cs t fz) ∧ t ≠ 28 ∧ t ≠ 55 ∧ t ≠ 58) : NetX w' base nb now sent F :=
  h.of fun b cs t hc ht => hg.block b (lt_of_block hc) fun e => by
    obtain ⟨cs', t', fz', h1, h2, h3, h4⟩ := hr b e.symm
    rw [hc] at h1
    injection h1 with h1
    injection h1 with _ h1 _
    subst h1
    rcases ht with ht | ht | ht
    · exact h2 ht
    · exact h3 ht
    · exact h4 ht
theorem NetX.nb_lt (h : NetX w base nb now sent F) : base ≤ nb ∧ nb < w.heap.size := by
  obtain ⟨v, ⟨L, h1, _⟩, _⟩ := h; exact ⟨h1.low, h1.box.lt⟩
theorem NetX.len (h : NetX w base nb now sent F) : F.length ≤ 2000 := by
  obtain ⟨v, ⟨L, h1, h2⟩, _⟩ := h
  have := h1.row.1
  rwa [h2.length_eq] at this
theorem fr_below {L : List Fl} (hh : NHp w base nb now sent v L) (hr : ∀ q, v.ownBlock = some q → base ≤ q) (h : FrN nb v.ownBlock w w') : Below base w w' :=
  h.below hh.low hr (by have := hh.low; have := hh.box.lt; omega)
theorem own_rw (hr : ∀ q, v.ownBlock = some q → base ≤ q) (hb : base ≤ w.heap.size) (ho : OwnN w v v') : ∀ q, v'.ownBlock = some q → base ≤ q := by
  intro q hq
  rcases ho with h1 | ⟨p, h1, h2⟩
  · exact hr q (h1 ▸ hq)
  · rw [h1] at hq
    have := Option.some.inj hq
    omega
/-- A net that was just made. -/
theorem NetX.new (h : w.heap[nb]? = some (.cells #[.int .i64 0, .int .i64 0, .slice none 0 0] 28 (0, 0))) (hb : base ≤ nb) : NetX w base nb 0 0 [] :=
  ⟨.slice none 0 0, ⟨⟨[], ⟨⟨Nat.zero_le _, fun f hf => (by cases hf), .inl ⟨rfl, rfl⟩⟩, h, fun k _ hk => absurd hk (Nat.not_lt_zero _), hb⟩, List.Perm.refl _⟩, List.Pairwise.nil, fun f hf => (by cases hf), Int.le_refl _, Int.le_refl _, fun q hq => (by simp [Value.ownBlock] at hq)⟩⟩
/-- Messages that were sent, behind those that were there. -/
def Sent (X : List Fl) (Ms : List Mi) (due sent : Int) : Prop := ∀ j, j < X.length → Fits (X.getD j Fl.zero) (Ms.getD j Mi.zero) due (sent + j)
theorem pair_app {F X : List Fl} {Ms : List Mi} {due sent : Int} (h1 : F.Pairwise fun a b => a.no < b.no) (h2 : ∀ f ∈ F, f.no < sent) (h3 : Sent X Ms due sent) : (F ++ X).Pairwise (fun a b => a.no < b.no) ∧ ∀ f ∈ F ++ X, f.no < sent + X.length := by
  have hx : ∀ j (hj : j < X.length), X[j].no = sent + j := fun j hj => by
    have := (h3 j hj).no
    rwa [show X.getD j Fl.zero = X[j] by simp [List.getD_eq_getElem?_getD, hj]] at this
  refine ⟨List.pairwise_append.2 ⟨h1, List.pairwise_iff_getElem.2 fun i j hi hj hij => ?_, fun a ha b hb => ?_⟩, fun f hf => ?_⟩
  · rw [hx i hi, hx j hj]; omega
  · obtain ⟨j, hj, rfl⟩ := List.getElem_of_mem hb
    rw [hx j hj]
    have := h2 a ha
    omega
  · rcases List.mem_append.1 hf with hf | hf
    · have := h2 f hf; omega
    · obtain ⟨j, hj, rfl⟩ := List.getElem_of_mem hf
      rw [hx j hj]; omega
theorem NetX.send {K : Nat → Prop} {lv : Value} {Ms : List Mi} (h : NetX w base nb now sent F) (d : Int) (hm : MsR K w lv Ms) (hK : ∀ b, K b → b < base ∨ ∃ (cs : Array Value) (t : TypeId) (fz : Nat × Nat), w.heap[b]? = some (.cells cs t fz) ∧ t ≠ 28 ∧ t ≠ 55)
    (hn1 : now ≤ 2305843009213693952) (hs1 : sent + Ms.length ≤ 2305843009213693952) :
    Calls Try.prog 8 #[.pointer (some ⟨nb, 0, none⟩), .int .i64 d, lv] w fun e w' => e = .returned (.tuple #[]) ∧ ∃ X, X.length = min Ms.length (2000 - F.length) ∧ Sent X Ms (now + min (max d 0) 1048576) sent ∧ NetX w' base nb now (sent + X.length) (F ++ X) ∧ Below base w w' ∧ KeepT w w' := by
  obtain ⟨v, ⟨L, h1, h2⟩, h3, h4, h5, h6, h7⟩ := h
  have hbw : base ≤ w.heap.size := by have := h1.low; have := h1.box.lt; omega
  refine (send_any d h1 hm (fun b hb => ?_) h5 hn1 h6 hs1).mono ?_
  · rcases hK b hb with hb' | ⟨cs, t, fz, h8, h9, h10⟩
    · refine ⟨by omega, by have := h1.low; omega, fun e => ?_⟩
      have := h7 b e.symm
      omega
    · refine ⟨lt_of_block h8, fun e => ?_, fun e => ?_⟩
      · have := h1.box
        unfold NBx at this
        rw [← e, h8] at this
        injection this with this
        injection this with _ this
        exact h9 this
      · obtain ⟨_, _, cs', hcs⟩ := h1.row.own e.symm
        rw [h8] at hcs
        injection hcs with hcs
        injection hcs with _ hcs
        exact h10 hcs
  · rintro e w' ⟨rfl, v', M, X, e1, e2, e3, e4, e5, e6⟩
    rw [h2.length_eq] at e1
    have hS : Sent X Ms (now + min (max d 0) 1048576) sent := fun j hj => e2 j (by rw [h2.length_eq, ← e1]; exact hj)
    obtain ⟨p1, p2⟩ := pair_app h3 h4 hS
    refine ⟨rfl, X, e1, hS, ⟨v', ⟨M, by rw [h2.length_eq, ← e1] at e4; exact e4, e3.trans (h2.append_right X)⟩, p1, p2, h5, by omega, own_rw h7 hbw e5⟩, fr_below h1 h7 e6, KeepT.of_fr e6 h1⟩
theorem NetX.pass (h : NetX w base nb now sent F) (hn1 : now < 2305843009213693952) :
    Calls Try.prog 10 #[.pointer (some ⟨nb, 0, none⟩)] w fun e w' => e = .returned (.tuple #[]) ∧ NetX w' base nb (now + 1) sent F ∧ Below base w w' ∧ KeepT w w' := by
  obtain ⟨v, ⟨L, h1, h2⟩, h3, h4, h5, h6, h7⟩ := h
  refine (pass_any h1 h5 (by omega)).mono ?_
  rintro e w' ⟨rfl, e1, e2⟩
  exact ⟨rfl, ⟨v, ⟨L, e1, h2⟩, h3, h4, by omega, h6, h7⟩, fr_below h1 h7 e2, KeepT.of_fr e2 h1⟩
theorem NetX.clear (h : NetX w base nb now sent F) :
    Calls Try.prog 11 #[.pointer (some ⟨nb, 0, none⟩)] w fun e w' => e = .returned (.tuple #[]) ∧ NetX w' base nb now sent [] ∧ Below base w w' ∧ KeepT w w' := by
  obtain ⟨v, ⟨L, h1, h2⟩, h3, h4, h5, h6, h7⟩ := h
  refine (clear_any h1).mono ?_
  rintro e w' ⟨rfl, e1, e2⟩
  exact ⟨rfl, ⟨.slice none 0 0, ⟨[], e1, List.Perm.refl _⟩, List.Pairwise.nil, fun f hf => (by cases hf), h5, h6, fun q hq => (by simp [Value.ownBlock] at hq)⟩, fr_below h1 h7 e2, KeepT.of_fr e2 h1⟩
theorem NetX.nlen (h : NetX w base nb now sent F) :
    Calls Try.prog 12 #[.pointer (some ⟨nb, 0, none⟩)] w fun e w' => e = .returned (.int .i64 F.length) ∧ w' = w := by
  obtain ⟨v, ⟨L, h1, h2⟩, _⟩ := h
  rw [← h2.length_eq]
  exact nlen_any h1
theorem NetX.nnow (h : NetX w base nb now sent F) :
    Calls Try.prog 13 #[.pointer (some ⟨nb, 0, none⟩)] w fun e w' => e = .returned (.int .i64 now) ∧ w' = w := by
  obtain ⟨v, ⟨L, h1, h2⟩, _⟩ := h
  exact now_any h1.box
/-- Nothing is due. -/
theorem NetX.late (h : NetX w base nb now sent F) (hd : ∀ f ∈ F, now < f.due) :
    Calls Try.prog 9 #[.pointer (some ⟨nb, 0, none⟩)] w fun e w' => e = .returned (.tuple #[mgV (.slice none 0 0) (.slice none 0 0) Mg.zero, .bool false]) ∧ NetX w' base nb now sent F ∧ Below base w w' ∧ KeepT w w' := by
  have hx := h
  obtain ⟨v, ⟨L, h1, h2⟩, h3, h4, h5, h6, h7⟩ := h
  have hbw : base ≤ w.heap.size := by have := h1.low; have := h1.box.lt; omega
  have key : ∀ {e : Ending} {w' : World}, (e = .returned (.tuple #[mgV (.slice none 0 0) (.slice none 0 0) Mg.zero, .bool false]) ∧ Below w.heap.size w w') → e = .returned (.tuple #[mgV (.slice none 0 0) (.slice none 0 0) Mg.zero, .bool false]) ∧ NetX w' base nb now sent F ∧ Below base w w' ∧ KeepT w w' := by
    rintro e w' ⟨rfl, hb⟩
    exact ⟨rfl, hx.below hb, hb.mono hbw, KeepT.of_below hb⟩
  cases L with
  | nil => exact (next_empty h1).mono fun e w' hq => key hq
  | cons f L =>
    refine (next_late h1 (L.length + 1) rfl (Nat.succ_pos _) ?_).mono fun e w' hq => key hq
    exact hd f (h2.subset (List.mem_cons_self ..))
/-- What is due first, and of several what was sent first. -/
theorem NetX.next {A B : List Fl} {f : Fl} (h : NetX w base nb now sent (A ++ f :: B)) (hd : f.due ≤ now) (hA : ∀ g ∈ A, f.due < g.due) (hB : ∀ g ∈ B, f.due ≤ g.due) :
    Calls Try.prog 9 #[.pointer (some ⟨nb, 0, none⟩)] w fun e w' => e = .returned (.tuple #[mgV f.u f.v f.m, .bool true]) ∧ NetX w' base nb now sent (A ++ B) ∧ Below base w w' ∧ KeepT w w' := by
  obtain ⟨v, ⟨L, h1, h2⟩, h3, h4, h5, h6, h7⟩ := h
  have hbw : base ≤ w.heap.size := by have := h1.low; have := h1.box.lt; omega
  have hlen : 0 < L.length := by rw [h2.length_eq, List.length_append, List.length_cons]; omega
  cases L with
  | nil => simp at hlen
  | cons f0 L =>
    have hp := List.pairwise_append.1 h3
    have hp2 := List.pairwise_cons.1 hp.2.1
    have hmin : ∀ g ∈ f0 :: L, lessF g f0 = false := fun g hg => by
      obtain ⟨k, hk, rfl⟩ := List.getElem_of_mem hg
      have := h1.heap.min k hk
      rw [show (f0 :: L).getD k Fl.zero = (f0 :: L)[k] by rw [List.getD_eq_getElem?_getD, List.getElem?_eq_getElem hk]; rfl] at this
      exact this
    have h0 : f0 ∈ A ++ f :: B := h2.subset (List.mem_cons_self ..)
    have hf : lessF f f0 = false := hmin f (h2.symm.subset (by simp))
    have e : f0 = f := by
      rw [lessF_false] at hf
      rcases List.mem_append.1 h0 with h0 | h0
      · have := hA f0 h0; omega
      · rcases List.mem_cons.1 h0 with h0 | h0
        · exact h0
        · have h8 := hB f0 h0
          have h9 := hp2.1 f0 h0
          omega
    subst e
    refine (next_some h1 (L.length + 1) rfl (Nat.succ_pos _) (by show ¬ now < f0.due; omega)).mono ?_
    rintro e w' ⟨rfl, v', M, e1, e2, e3, e4⟩
    have hperm : L.Perm (A ++ B) := (List.perm_cons f0).1 (h2.trans List.perm_middle)
    have hsub : (A ++ B).Sublist (A ++ f0 :: B) := List.Sublist.append (List.Sublist.refl _) (List.sublist_cons_self _ _)
    exact ⟨rfl, ⟨v', ⟨M, e2, e1.trans hperm⟩, h3.sublist hsub, fun g hg => h4 g (hsub.subset hg), h5, h6, own_rw h7 hbw e3⟩, fr_below h1 h7 e4, KeepT.of_fr e4 h1⟩
end
/-- One plain message in a block of its own. -/
def mgI (ix : Int) : Mg := ⟨0, 0, 0, 0, ix, 0, 0, 0, [], false, 0, 0, 0, 0, [], 0, ⟨#[]⟩⟩
def miI (ix : Int) : Mi := ⟨none, 0, 0, none, 0, 0, mgI ix⟩
theorem run_ix1 (W : World) (b : Nat) : (Instr.indexAt 48 (.slice (some ⟨b, 0, none⟩) 1 1) (.int .i64 0)).run Try.prog W = .ok (.pointer (some ⟨b, 0, none⟩)) W := by go_simp
theorem one_msr {w : World} {b : Nat} {ix : Int} (h : MgB w b (.slice none 0 0) (.slice none 0 0) (mgI ix)) : MsR (fun x => x = b) w (.slice (some ⟨b, 0, none⟩) 1 1) [miI ix] := by
  refine ⟨⟨_, _, rfl⟩, fun j hj => ?_⟩
  obtain rfl : j = 0 := by simp at hj; exact hj
  exact ⟨b, 0, fun W => run_ix1 W b, ⟨rfl, fun W hW => run_loadM (show MgB W b _ _ _ from hW.trans h), .inl ⟨rfl, rfl⟩, .inl ⟨rfl, rfl⟩, (by show 0 * 32 ≤ _; decide), (by show 0 * 4 ≤ _; decide)⟩⟩
/-- A flight that bears a plain message. -/
structure IsI (f : Fl) (ix due : Int) : Prop where
  due : f.due = due
  ix : f.m.ix = ix
theorem NetX.send1 {w : World} {base nb : Nat} {now sent : Int} {F : List Fl} (h : NetX w base nb now sent F) (hl : F.length < 2000) (d : Int) {b : Nat} {ix : Int} (hb : MgB w b (.slice none 0 0) (.slice none 0 0) (mgI ix)) (hn1 : now ≤ 2305843009213693952) (hs1 : sent < 2305843009213693952) :
    Calls Try.prog 8 #[.pointer (some ⟨nb, 0, none⟩), .int .i64 d, .slice (some ⟨b, 0, none⟩) 1 1] w fun e w' => e = .returned (.tuple #[]) ∧ ∃ f, IsI f ix (now + min (max d 0) 1048576) ∧ NetX w' base nb now (sent + 1) (F ++ [f]) ∧ Below base w w' ∧ KeepT w w' := by
  refine (h.send d (one_msr hb) (fun x hx => .inr (by subst hx; exact ⟨_, _, _, hb, by decide, by decide⟩)) hn1 (by simp; omega)).mono ?_
  rintro e w' ⟨rfl, X, h1, h2, h3, h4, h5⟩
  have hx1 : X.length = 1 := by rw [h1]; simp; omega
  obtain ⟨f, rfl⟩ := List.length_eq_one_iff.1 hx1
  have hfit := h2 0 (by simp)
  have e1 : ([f].getD 0 Fl.zero) = f := rfl
  rw [e1] at hfit
  exact ⟨rfl, f, ⟨hfit.due, by rw [hfit.m]; rfl⟩, h3, h4, h5⟩
end Go.Proofs.Ytfijidaohlnphaa
