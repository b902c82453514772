/- The law's Do, whatever the act; what an act does to the nodes below a path. No conditions beyond those in each statement. -/
import Derived.Test.YtblcpihfnpgfiaaGreatDoorTreeDoD
import Derived.Test.YtblcpihfnpgfiaaGreatDoorTreeUpOk
namespace Go.Proofs.YtblcpihfnpgfiaaGreatDoor
open Go.RowKit
set_option linter.unusedVariables false
set_option linter.unusedSimpArgs false
set_option maxRecDepth 100000

/-- What an act may do to a tree. -/
def StepB (T T' : List UInt8 → Option Nd) : Prop :=
  (∀ x, (T' x).map (·.below) = (T x).map (·.below)) ∨
  (∃ z par P N, checkL z = true ∧ z ≠ [47] ∧ T z = none ∧ T (upP z) = some par ∧ P.below = par.below + 1 ∧ N.below = 0 ∧ T' = updN (updN T (upP z) (some P)) z (some N)) ∨
  (∃ z nd par, z ≠ [47] ∧ T z = some nd ∧ T (upP z) = some par ∧ (∀ x n, T x = some n → upP x ≠ z) ∧ T' = lessN T z par)
theorem StepB.refl (T : List UInt8 → Option Nd) : StepB T T := .inl fun _ => rfl
theorem pathC_up {z : List UInt8} {par : Nd} {s : Bool} (hc : checkL z = true) (hr : z ≠ [47]) : upP (pathC z par s) = upP z ∧ pathC z par s ≠ [47] := by
  obtain ⟨x, q, rfl, hq, hne, hl⟩ := check_split hc hr
  unfold pathC
  cases s
  · exact ⟨rfl, hr⟩
  · simp only [if_true]
    have hq2 : (47 : UInt8) ∉ q ++ dig 10 par.serial.toNat := fun h => by
      rcases List.mem_append.1 h with h | h
      · exact hq h
      · exact dig_noslash _ _ h
    have e : (x ++ 47 :: q) ++ dig 10 par.serial.toNat = x ++ 47 :: (q ++ dig 10 par.serial.toNat) := by simp
    have hr2 : x ++ 47 :: (q ++ dig 10 par.serial.toNat) ≠ [47] := fun h => by
      have := congrArg List.length h; simp [dig_len] at this; omega
    rw [e, (upP_app hq2 hr2).1, (upP_app hq hr).1]
    exact ⟨rfl, hr2⟩
theorem get_11 {T : List UInt8 → Option Nd} {z : List UInt8} (h1 : (getN T z).2 ≠ 10) (h2 : (getN T z).2 ≠ 0) : checkL z = true ∧ T z = none := by
  unfold getN at h1 h2
  cases hc : checkL z
  · rw [hc] at h1; simp at h1
  · cases hT : T z with
    | none => exact ⟨rfl, rfl⟩
    | some n => rw [hc, hT] at h2; simp at h2
theorem create_step (T : List UInt8 → Option Nd) (c : Nat) (z : List UInt8) (d : ByteArray) (owner t : Int) (serial : Bool) : StepB T (createN T c z d owner t serial).T ∧ (createN T c z d owner t serial).c ≤ c + 1 := by
  unfold createN
  by_cases h0 : (placeN T z d).2.2 ≠ 0
  · rw [if_pos h0]; exact ⟨StepB.refl T, Nat.le_succ _⟩
  · rw [if_neg h0]
    by_cases h1 : (getN T (pathC z (placeN T z d).2.1 serial)).2 = 10
    · rw [if_pos h1]; exact ⟨StepB.refl T, Nat.le_succ _⟩
    · rw [if_neg h1]
      by_cases h2 : (getN T (pathC z (placeN T z d).2.1 serial)).2 = 0
      · rw [if_pos h2]; exact ⟨StepB.refl T, Nat.le_succ _⟩
      · rw [if_neg h2]
        by_cases h3 : 60 ≤ c
        · rw [if_pos h3]; exact ⟨StepB.refl T, Nat.le_succ _⟩
        · rw [if_neg h3]
          obtain ⟨hT, hr, hck, hup⟩ := place_ok (by simpa using h0)
          obtain ⟨hc2, hn⟩ := get_11 h1 h2
          obtain ⟨hu, hr2⟩ := pathC_up (par := (placeN T z d).2.1) (s := serial) hck hr
          refine ⟨.inr (.inl ⟨pathC z (placeN T z d).2.1 serial, (placeN T z d).2.1, upC (parC (placeN T z d).2.1 serial), newC d owner t, hc2, hr2, hn, ?_, ?_, rfl, ?_⟩), Nat.le_refl _⟩
          · rw [hu, ← hup]; exact hT
          · unfold upC parC; split <;> rfl
          · rw [hu, hup]
theorem set_step (T : List UInt8 → Option Nd) (z : List UInt8) (d : ByteArray) (v t : Int) : StepB T (setN T z d v t).T := by
  unfold setN
  by_cases h1 : chkN T z v ≠ 0
  · rw [if_pos h1]; exact StepB.refl T
  · rw [if_neg h1]
    by_cases h2 : 60 < d.size
    · rw [if_pos h2]; exact StepB.refl T
    · rw [if_neg h2]
      obtain ⟨nd, hnd⟩ := chk_some (by simpa using h1)
      refine .inl fun x => ?_
      show Option.map _ (updN T z (some (putN ((T z).getD Nd.zero) d t)) x) = _
      by_cases e : x = z
      · rw [e, updN_same, hnd]; rfl
      · rw [updN_other e]
theorem isSome_map {a b : Option Nd} (h : a.map (·.below) = b.map (·.below)) : a.isSome = b.isSome := by
  cases a <;> cases b <;> simp_all
theorem StepB.keys {T T' : List UInt8 → Option Nd} (h : StepB T T') (hK : KeysOk T) : KeysOk T' := by
  intro x n hx
  rcases h with h | ⟨z, par, P, N, hc, hr, hz, hp, _, _, rfl⟩ | ⟨z, nd, par, hr, hz, hp, hn, rfl⟩
  · have := isSome_map (h x)
    rw [hx] at this
    obtain ⟨m, hm⟩ := Option.isSome_iff_exists.1 this.symm
    exact hK x m hm
  · by_cases e : x = z
    · rw [e]; exact hc
    · rw [updN_other e] at hx
      by_cases e2 : x = upP z
      · rw [e2]; exact hK _ _ hp
      · rw [updN_other e2] at hx; exact hK _ _ hx
  · unfold lessN at hx
    by_cases e2 : x = upP z
    · rw [e2]; exact hK _ _ hp
    · rw [updN_other e2] at hx
      by_cases e : x = z
      · rw [e, updN_same] at hx; cases hx
      · rw [updN_other e] at hx; exact hK _ _ hx
theorem StepB.par {T T' : List UInt8 → Option Nd} (h : StepB T T') (hP : ParOk T) : ParOk T' := by
  intro x n hx hxr
  rcases h with h | ⟨z, par, P, N, hc, hr, hz, hp, _, _, rfl⟩ | ⟨z, nd, par, hr, hz, hp, hn, rfl⟩
  · have := isSome_map (h x)
    rw [hx] at this
    obtain ⟨m, hm⟩ := Option.isSome_iff_exists.1 this.symm
    obtain ⟨p, hpp⟩ := hP x m hm hxr
    have h2 := isSome_map (h (upP x))
    rw [hpp] at h2
    exact Option.isSome_iff_exists.1 h2
  · have up : ∀ y p, T y = some p → ∃ p', updN (updN T (upP z) (some P)) z (some N) y = some p' := fun y p hy => by
      by_cases e : y = z
      · exact ⟨N, by rw [e, updN_same]⟩
      · rw [updN_other e]
        by_cases e2 : y = upP z
        · exact ⟨P, by rw [e2, updN_same]⟩
        · exact ⟨p, by rw [updN_other e2]; exact hy⟩
    by_cases e : x = z
    · rw [e]; exact up _ _ hp
    · rw [updN_other e] at hx
      have hTx : ∃ m, T x = some m := by
        by_cases e2 : x = upP z
        · rw [e2]; exact ⟨_, hp⟩
        · rw [updN_other e2] at hx; exact ⟨_, hx⟩
      obtain ⟨m, hm⟩ := hTx
      obtain ⟨p, hpp⟩ := hP x m hm hxr
      exact up _ _ hpp
  · have hTx : ∃ m, T x = some m := by
      unfold lessN at hx
      by_cases e2 : x = upP z
      · rw [e2]; exact ⟨_, hp⟩
      · rw [updN_other e2] at hx
        by_cases e : x = z
        · rw [e, updN_same] at hx; cases hx
        · rw [updN_other e] at hx; exact ⟨_, hx⟩
    obtain ⟨m, hm⟩ := hTx
    obtain ⟨p, hpp⟩ := hP x m hm hxr
    have hxz := hn x m hm
    unfold lessN
    by_cases e2 : upP x = upP z
    · exact ⟨_, by rw [e2, updN_same]⟩
    · exact ⟨p, by rw [updN_other e2, updN_other hxz]; exact hpp⟩
/-! How many kids. -/
def isK (p x : List UInt8) : Bool := decide (upP x = p) && !(decide (x = [47]))
theorem kids_len (L : List Me) (p : List UInt8) : (kidsL L p).length = ((L.map (·.1)).filter (isK p)).length := by
  unfold kidsL
  rw [List.length_map, List.filter_map, List.length_map]
  rfl
theorem Rep.keys {T : List UInt8 → Option Nd} {L : List Me} (h : Rep T L) (x : List UInt8) : x ∈ L.map (·.1) ↔ (T x).isSome = true := by
  rw [List.mem_map, Option.isSome_iff_exists]
  constructor
  · rintro ⟨e, he, rfl⟩; exact ⟨e.2, (h.mem _ _).2 he⟩
  · rintro ⟨n, hn⟩; exact ⟨(x, n), (h.mem _ _).1 hn, rfl⟩
theorem kids_same {T T' : List UInt8 → Option Nd} {L L' : List Me} (h : Rep T L) (h' : Rep T' L') (hk : ∀ x, (T' x).isSome = (T x).isSome) (p : List UInt8) : (kidsL L' p).length = (kidsL L p).length := by
  rw [kids_len, kids_len]
  refine ((List.perm_ext_iff_of_nodup h'.nodup h.nodup).2 fun x => ?_).filter _ |>.length_eq
  rw [h'.keys, h.keys, hk]
theorem kids_more {T T' : List UInt8 → Option Nd} {L L' : List Me} (h : Rep T L) (h' : Rep T' L') {z : List UInt8} (hz : T z = none) (hk : ∀ x, (T' x).isSome = (decide (x = z) || (T x).isSome)) (p : List UInt8) : (kidsL L' p).length = (kidsL L p).length + (if isK p z then 1 else 0) := by
  rw [kids_len, kids_len]
  have hnz : z ∉ L.map (·.1) := fun hm => by have := (h.keys z).1 hm; rw [hz] at this; cases this
  have hp : (L'.map (·.1)).Perm (z :: L.map (·.1)) := (List.perm_ext_iff_of_nodup h'.nodup (List.nodup_cons.2 ⟨hnz, h.nodup⟩)).2 fun x => by
    rw [h'.keys, hk, List.mem_cons, h.keys]
    simp
  rw [(hp.filter _).length_eq, List.filter_cons]
  split <;> simp
/-- A node's count goes up just where the number of its kids turns. -/
theorem StepB.below {T T' : List UInt8 → Option Nd} {L L' : List Me} (hS : StepB T T') (h : Rep T L) (h' : Rep T' L') {p : List UInt8} {nd nd' : Nd} (hp : T p = some nd) (hp' : T' p = some nd') :
    nd'.below = nd.below + (if (kidsL L' p).length ≠ (kidsL L p).length then 1 else 0) := by
  rcases hS with hS | ⟨z, par, P, N, hc, hr, hz, hpar, hP, _, rfl⟩ | ⟨z, zd, par, hr, hz, hpar, hn, rfl⟩
  · rw [kids_same h h' (fun x => isSome_map (hS x)) p]
    have := hS p
    rw [hp, hp'] at this
    simp at this
    simpa using this
  · have hpz : p ≠ z := by rintro rfl; rw [hz] at hp; cases hp
    have huz : upP z ≠ z := fun e => by rw [e, hz] at hpar; cases hpar
    have hk := kids_more h h' hz (fun x => by
      by_cases e : x = z
      · rw [e, updN_same]; simp
      · rw [updN_other e]
        by_cases e2 : x = upP z
        · rw [e2, updN_same, hpar]; simp
        · rw [updN_other e2]; simp [e]) p
    rw [updN_other hpz] at hp'
    by_cases e : upP z = p
    · have hi : isK p z = true := by unfold isK; simp [e, hr]
      rw [hi] at hk
      rw [if_pos (by rw [hk]; simp)]
      rw [← e, updN_same] at hp'
      injection hp' with hp'
      rw [← e, hpar] at hp
      injection hp with hp
      rw [← hp', hP, hp]
    · have hi : isK p z = false := by unfold isK; simp [e]
      rw [hi] at hk
      rw [if_neg (by rw [hk]; simp)]
      rw [updN_other (fun e2 => e e2.symm), hp] at hp'
      injection hp' with hp'
      rw [hp']; omega
  · have huz : upP z ≠ z := hn z zd hz
    have hpz : p ≠ z := by
      rintro rfl
      unfold lessN at hp'
      rw [updN_other (fun e => huz e.symm), updN_same] at hp'; cases hp'
    have hz' : lessN T z par z = none := by unfold lessN; rw [updN_other (fun e => huz e.symm), updN_same]
    have hk := kids_more h' h hz' (fun x => by
      unfold lessN
      by_cases e : x = z
      · rw [e, hz]; simp
      · by_cases e2 : x = upP z
        · rw [e2, updN_same, hpar]; simp
        · rw [updN_other e2, updN_other e]; simp [e]) p
    by_cases e : upP z = p
    · have hi : isK p z = true := by unfold isK; simp [e, hr]
      rw [hi] at hk
      rw [if_pos (by rw [hk]; simp)]
      unfold lessN at hp'
      rw [← e, updN_same] at hp'
      injection hp' with hp'
      rw [← e, hpar] at hp
      injection hp with hp
      rw [← hp', ← hp]; rfl
    · have hi : isK p z = false := by unfold isK; simp [e]
      rw [hi] at hk
      rw [if_neg (by rw [hk]; simp)]
      unfold lessN at hp'
      rw [updN_other (fun e2 => e e2.symm), updN_other hpz, hp] at hp'
      injection hp' with hp'
      rw [hp']; omega
theorem do_all (m jj tb mb k : Nat) (T : List UInt8 → Option Nd) (mp g cap : Nat) (L : List Me) (a : Ac) (pv : Value) (t : Int) (w : World) (h2 : Two m jj w tb mb k mp g cap T L) (hjj : jj ≤ 90) (hL : L.length ≤ 100) (hk : k < 100000) (hdl : a.data.size ≤ 200) (hp : IntsR w pv a.path) (hpl : a.path.length ≤ 12) (hrl : a.raw.size ≤ 100) (hK : KeysOk T) (hP : ParOk T) :
    Calls Tryz.prog 10 #[.pointer (some ⟨tb, 0, none⟩), .pointer (some ⟨mp, 0, none⟩), acV a pv, .int .i64 t] w fun e w' => e = .returned (.bool true) ∧ Below m w w' ∧ K3 w w' mb mp g ∧ ∃ T' g' cap' L', Two m (jj + 1) w' tb mb (k + 2) mp g' cap' T' L' ∧ StepB T T' ∧ L'.length ≤ L.length + 1 := by
  have up : ∀ {k' g' cap' : Nat} {T' : List UInt8 → Option Nd} {L' : List Me} {w' : World}, Two m (jj + 1) w' tb mb k' mp g' cap' T' L' → k' ≤ k + 2 → Two m (jj + 1) w' tb mb (k + 2) mp g' cap' T' L' := fun h hk => ⟨h.tree.mono hk, h.mod, h.rep, h.small, h.ne, h.above⟩
  obtain ⟨q, hq6, _, hq⟩ := pick6 a.k
  have hc : q = 0 ∨ q = 1 ∨ q = 2 ∨ q = 3 ∨ q = 4 ∨ q = 5 := by omega
  have hcr : (q = 0 ∨ q = 1 ∨ q = 2) → Calls Tryz.prog 10 #[.pointer (some ⟨tb, 0, none⟩), .pointer (some ⟨mp, 0, none⟩), acV a pv, .int .i64 t] w fun e w' => e = .returned (.bool true) ∧ Below m w w' ∧ K3 w w' mb mp g ∧ ∃ T' g' cap' L', Two m (jj + 1) w' tb mb (k + 2) mp g' cap' T' L' ∧ StepB T T' ∧ L'.length ≤ L.length + 1 := fun hc =>
    (do_create m jj tb mb k T mp g cap L (q : Int) a pv t w h2 hjj hL hk hdl hp hpl hrl hq (by omega)).mono fun e w' ⟨he, hb, h3, o, T', g', cap', L', hT, _, hl, hTe⟩ =>
      ⟨he, hb, h3, T', g', cap', L', hT, by rw [hTe]; exact (create_step T L.length (acS a) a.data o t a.serial).1, by rw [hl]; exact (create_step T L.length (acS a) a.data o t a.serial).2⟩
  rcases hc with rfl | rfl | rfl | rfl | rfl | rfl
  · exact hcr (by omega)
  · exact hcr (by omega)
  · exact hcr (by omega)
  · exact (do_set m jj tb mb k T mp g cap L a pv t w h2 hjj hL hk hdl hp hpl hrl hq).mono fun e w' ⟨he, hb, h3, v, T', L', hT, hl, hTe⟩ =>
      ⟨he, hb, h3, T', g, cap, L', up hT (by omega), by rw [hTe]; exact set_step T (acS a) a.data v t, by omega⟩
  · exact (do_delete m jj tb mb k T mp g cap L a pv t w h2 hjj hL hk hp hpl hrl hK hP hq).mono fun e w' ⟨he, hb, h3, T', g', cap', L', hT, hD⟩ => by
      refine ⟨he, hb, h3, T', g', cap', L', up hT (by omega), ?_, ?_⟩
      · rcases hD with ⟨rfl, _⟩ | ⟨nd, par, h1, h3, h4, h5, rfl, _⟩
        · exact StepB.refl _
        · exact .inr (.inr ⟨_, nd, par, h4, h1, h3, h5, rfl⟩)
      · rcases hD with ⟨_, h⟩ | ⟨nd, par, _, _, _, _, _, h⟩ <;> omega
  · exact (do_check tb mb k L.length T 0 mp g cap L a pv t w h2.tree h2.mod h2.rep hL hp hpl hrl hq).mono fun e w' ⟨he, hb⟩ =>
      ⟨he, hb.mono h2.above.2.2.2.2, K3.of_below hb _ _ _, T, g, cap, L, ⟨(h2.tree.below hb).mono (by omega), h2.mod.below hb, h2.rep, h2.small.mono (Nat.le_succ _), h2.ne, h2.above.1, h2.above.2.1, h2.above.2.2.1, h2.above.2.2.2.1, by have := h2.above.2.2.2.2; have := hb.size; omega⟩, StepB.refl T, Nat.le_succ _⟩
theorem Two.below {m jj tb mb k mp g cap : Nat} {T : List UInt8 → Option Nd} {L : List Me} {w w' : World} (h : Two m jj w tb mb k mp g cap T L) (hb : Below w.heap.size w w') : Two m jj w' tb mb k mp g cap T L :=
  ⟨h.tree.below hb, h.mod.below hb, h.rep, h.small, h.ne, h.above.1, h.above.2.1, h.above.2.2.1, h.above.2.2.2.1, Nat.le_trans h.above.2.2.2.2 hb.size⟩
theorem ParOk.root : ParOk rootT := fun x n hx hr => by
  unfold rootT at hx; rw [updN_other hr] at hx; cases hx
theorem SmallK.root : SmallK 0 rootT := SmallK.upd (fun x n h => by cases h) _ _ (by decide)
/-- What the count is, as long as there is such a node. -/
def CntOk (T : List UInt8 → Option Nd) (p : List UInt8) (c : Nat) : Prop := ∀ nd, T p = some nd → nd.below = (c : Int)
theorem CntOk.root (p : List UInt8) : CntOk rootT p 0 := fun nd h => by
  unfold rootT at h
  by_cases e : p = [47]
  · subst e; rw [updN_same] at h; cases h; rfl
  · rw [updN_other e] at h; cases h
theorem StepB.new {T T' : List UInt8 → Option Nd} (h : StepB T T') {p : List UInt8} (hp : T p = none) : CntOk T' p 0 := by
  intro nd' hp'
  rcases h with h | ⟨z, par, P, N, hc, hr, hz, hpar, _, hN, rfl⟩ | ⟨z, zd, par, hr, hz, hpar, hn, rfl⟩
  · have := h p; rw [hp, hp'] at this; cases this
  · by_cases e : p = z
    · rw [e, updN_same] at hp'; injection hp' with hp'; rw [← hp', hN]; rfl
    · rw [updN_other e] at hp'
      by_cases e2 : p = upP z
      · rw [e2, hpar] at hp; cases hp
      · rw [updN_other e2, hp] at hp'; cases hp'
  · unfold lessN at hp'
    by_cases e2 : p = upP z
    · rw [e2, hpar] at hp; cases hp
    · rw [updN_other e2] at hp'
      by_cases e : p = z
      · rw [e, updN_same] at hp'; cases hp'
      · rw [updN_other e, hp] at hp'; cases hp'
theorem row_form {w : World} {base n : Nat} {e : TypeId} {size : Nat} {v : Value} {xs : List Value} (h : w.ownsRow base e size v n xs) : ∃ a c, v = .slice a n c := by
  rcases h.2 with ⟨h1, h2⟩ | ⟨g, c, cur, h1, _⟩
  · exact ⟨none, 0, by rw [h1, h2]⟩
  · exact ⟨_, _, h1⟩
end Go.Proofs.YtblcpihfnpgfiaaGreatDoor
