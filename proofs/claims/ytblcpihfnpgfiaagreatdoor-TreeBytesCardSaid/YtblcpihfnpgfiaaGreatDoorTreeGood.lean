/- What the acts keep of a tree, so that its bytes are read again. No program but the acts'. No conditions beyond those in each statement. -/
import Derived.Test.YtblcpihfnpgfiaaGreatDoorTreeRd
import Derived.Test.YtblcpihfnpgfiaaGreatDoorTreeDoA
namespace Go.Proofs.YtblcpihfnpgfiaaGreatDoor
open Go.RowKit Go.Maps
set_option linter.unusedVariables false
set_option linter.unusedSimpArgs false
set_option maxRecDepth 100000

/-- Numbers and bytes of a node that an act makes. -/
def NdG (n : Nd) : Prop := n.data.size ≤ 60 ∧ (0 ≤ n.owner ∧ n.owner ≤ 3) ∧ (0 ≤ n.made ∧ n.made ≤ 1000) ∧ (0 ≤ n.put ∧ n.put ≤ 1000)
structure GdT (T : List UInt8 → Option Nd) : Prop where
  root : ∃ r, T [47] = some r ∧ r.owner = 0
  par : ∀ x n, T x = some n → x ≠ [47] → ∃ p, T (upP x) = some p ∧ p.owner = 0
  nd : ∀ x n, T x = some n → NdG n
theorem GdT.root0 : GdT rootT := by
  refine ⟨⟨Nd.zero, by unfold rootT; rw [updN_same], rfl⟩, fun x n hx hr => ?_, fun x n hx => ?_⟩
  · unfold rootT at hx; rw [updN_other hr] at hx; cases hx
  · unfold rootT at hx
    by_cases e : x = [47]
    · subst e; rw [updN_same] at hx; injection hx with hx; rw [← hx]; exact ⟨by decide, by decide, by decide, by decide⟩
    · rw [updN_other e] at hx; cases hx
/-- One node turned: its owner as before. -/
theorem GdT.turn {T : List UInt8 → Option Nd} (h : GdT T) {z : List UInt8} {n n' : Nd} (hz : T z = some n) (ho : n'.owner = n.owner) (hg : NdG n') : GdT (updN T z (some n')) := by
  have own : ∀ x p, T x = some p → p.owner = 0 → ∃ q, updN T z (some n') x = some q ∧ q.owner = 0 := fun x p hx hp => by
    by_cases e : x = z
    · subst e; rw [hz] at hx; injection hx with hx; subst hx
      exact ⟨n', updN_same _ _ _, ho.trans hp⟩
    · exact ⟨p, (updN_other e).trans hx, hp⟩
  refine ⟨?_, fun x m hx hr => ?_, fun x m hx => ?_⟩
  · obtain ⟨r, h1, h2⟩ := h.root; exact own _ r h1 h2
  · by_cases e : x = z
    · subst e
      obtain ⟨p, h1, h2⟩ := h.par x n hz hr; exact own _ p h1 h2
    · rw [updN_other e] at hx
      obtain ⟨p, h1, h2⟩ := h.par x m hx hr; exact own _ p h1 h2
  · by_cases e : x = z
    · subst e; rw [updN_same] at hx; injection hx with hx; rw [← hx]; exact hg
    · rw [updN_other e] at hx; exact h.nd x m hx
/-- One node more. -/
theorem GdT.more {T : List UInt8 → Option Nd} (h : GdT T) {z : List UInt8} {n p : Nd} (hz : T z = none) (hp : T (upP z) = some p) (hp0 : p.owner = 0) (hg : NdG n) : GdT (updN T z (some n)) := by
  have own : ∀ x p, T x = some p → p.owner = 0 → ∃ q, updN T z (some n) x = some q ∧ q.owner = 0 := fun x p hx hp => by
    by_cases e : x = z
    · subst e; rw [hz] at hx; cases hx
    · exact ⟨p, (updN_other e).trans hx, hp⟩
  refine ⟨?_, fun x m hx hr => ?_, fun x m hx => ?_⟩
  · obtain ⟨r, h1, h2⟩ := h.root; exact own _ r h1 h2
  · by_cases e : x = z
    · subst e; exact own _ p hp hp0
    · rw [updN_other e] at hx
      obtain ⟨p, h1, h2⟩ := h.par x m hx hr; exact own _ p h1 h2
  · by_cases e : x = z
    · subst e; rw [updN_same] at hx; injection hx with hx; rw [← hx]; exact hg
    · rw [updN_other e] at hx; exact h.nd x m hx
/-- One node less, of which nothing is a kid. -/
theorem GdT.less {T : List UInt8 → Option Nd} (h : GdT T) {z : List UInt8} (hr : z ≠ [47]) (hn : ∀ x n, T x = some n → upP x ≠ z) : GdT (updN T z none) := by
  refine ⟨?_, fun x m hx hr => ?_, fun x m hx => ?_⟩
  · obtain ⟨r, h1, h2⟩ := h.root
    exact ⟨r, (updN_other (fun e => hr e.symm)).trans h1, h2⟩
  · by_cases e : x = z
    · subst e; rw [updN_same] at hx; cases hx
    · rw [updN_other e] at hx
      obtain ⟨p, h1, h2⟩ := h.par x m hx hr
      exact ⟨p, (updN_other (hn x m hx)).trans h1, h2⟩
  · by_cases e : x = z
    · subst e; rw [updN_same] at hx; cases hx
    · rw [updN_other e] at hx; exact h.nd x m hx
theorem GdT.create {T : List UInt8 → Option Nd} (h : GdT T) (c : Nat) (z : List UInt8) (d : ByteArray) (owner t : Int) (serial : Bool) (ho : 0 ≤ owner ∧ owner ≤ 3) (ht : 0 ≤ t ∧ t ≤ 1000) : GdT (createN T c z d owner t serial).T := by
  unfold createN
  by_cases h1 : (placeN T z d).2.2 ≠ 0
  · rw [if_pos h1]; exact h
  rw [if_neg h1]
  have h1' : (placeN T z d).2.2 = 0 := by omega
  by_cases h2 : (getN T (pathC z (placeN T z d).2.1 serial)).2 = 10
  · rw [if_pos h2]; exact h
  rw [if_neg h2]
  by_cases h3 : (getN T (pathC z (placeN T z d).2.1 serial)).2 = 0
  · rw [if_pos h3]; exact h
  rw [if_neg h3]
  by_cases h4 : 60 ≤ c
  · rw [if_pos h4]; exact h
  rw [if_neg h4]
  obtain ⟨p1, p2, p3, p4⟩ := place_ok h1'
  obtain ⟨_, _, hd, p, hp, hp0⟩ := place_zero h1'
  obtain ⟨_, hT⟩ := get_11 h2 h3
  obtain ⟨hu, hur⟩ := pathC_up (par := (placeN T z d).2.1) (s := serial) p3 p2
  rw [p4] at p1 ⊢
  rw [p1] at hp; injection hp with hp
  have hpo : (upC (parC (placeN T z d).2.1 serial)).owner = (placeN T z d).2.1.owner := by unfold upC parC; cases serial <;> rfl
  have hpg : NdG (upC (parC (placeN T z d).2.1 serial)) := by
    have := h.nd _ _ p1
    unfold NdG upC parC at *; cases serial <;> exact this
  have hne : upP z ≠ pathC z (placeN T z d).2.1 serial := fun e => by rw [← e, p1] at hT; cases hT
  refine (h.turn p1 hpo hpg).more (p := upC (parC (placeN T z d).2.1 serial)) ((updN_other (fun e => hne e.symm)).trans hT) (by rw [hu, updN_same]) (by rw [hpo, hp]; exact hp0) ⟨hd, ho, ht, ht⟩
theorem GdT.set {T : List UInt8 → Option Nd} (h : GdT T) (z : List UInt8) (d : ByteArray) (v t : Int) (ht : 0 ≤ t ∧ t ≤ 1000) : GdT (setN T z d v t).T := by
  unfold setN
  by_cases h1 : chkN T z v ≠ 0
  · rw [if_pos h1]; exact h
  rw [if_neg h1]
  by_cases h2 : 60 < d.size
  · rw [if_pos h2]; exact h
  rw [if_neg h2]
  obtain ⟨n, hn⟩ := chk_some (v := v) (T := T) (z := z) (by omega)
  rw [hn]
  have hg := h.nd _ _ hn
  exact h.turn hn rfl ⟨by show d.size ≤ 60; omega, hg.2.1, hg.2.2.1, ht⟩
theorem GdT.lessN {T : List UInt8 → Option Nd} (h : GdT T) {z : List UInt8} {par : Nd} (hr : z ≠ [47]) (hn : ∀ x n, T x = some n → upP x ≠ z) (hz : ∃ n, T z = some n) (hp : T (upP z) = some par) : GdT (lessN T z par) := by
  unfold Go.Proofs.YtblcpihfnpgfiaaGreatDoor.lessN
  obtain ⟨n, hz⟩ := hz
  have hne := hn z n hz
  have h1 := h.nd _ _ hp
  have hg : NdG (upC par) := h1
  exact (h.less hr hn).turn (n := par) ((updN_other hne).trans hp) rfl hg
/-- What one act leaves: the same, a node more, a node set, a node less. -/
def StepG (T T' : List UInt8 → Option Nd) : Prop := GdT T → GdT T'
theorem do_good (m jj tb mb k : Nat) (T : List UInt8 → Option Nd) (mp g cap : Nat) (L : List Me) (a : Ac) (pv : Value) (t : Int) (w : World) (h2 : Two m jj w tb mb k mp g cap T L) (hjj : jj ≤ 90) (hL : L.length ≤ 100) (hk : k < 100000) (hdl : a.data.size ≤ 200) (hp : IntsR w pv a.path) (hpl : a.path.length ≤ 12) (hrl : a.raw.size ≤ 100) (hK : KeysOk T) (hP : ParOk T) (ht : 0 ≤ t ∧ t ≤ 1000) :
    Calls Tryz.prog 10 #[.pointer (some ⟨tb, 0, none⟩), .pointer (some ⟨mp, 0, none⟩), acV a pv, .int .i64 t] w fun e w' => e = .returned (.bool true) ∧ Below m w w' ∧ K3 w w' mb mp g ∧ ∃ T' g' cap' L', Two m (jj + 1) w' tb mb (k + 2) mp g' cap' T' L' ∧ StepB T T' ∧ L'.length ≤ L.length + 1 ∧ StepG T T' := by
  have up : ∀ {k' g' cap' : Nat} {T' : List UInt8 → Option Nd} {L' : List Me} {w' : World}, Two m (jj + 1) w' tb mb k' mp g' cap' T' L' → k' ≤ k + 2 → Two m (jj + 1) w' tb mb (k + 2) mp g' cap' T' L' := fun h hk => ⟨h.tree.mono hk, h.mod, h.rep, h.small, h.ne, h.above⟩
  obtain ⟨q, hq6, _, hq⟩ := pick6 a.k
  have hc : q = 0 ∨ q = 1 ∨ q = 2 ∨ q = 3 ∨ q = 4 ∨ q = 5 := by omega
  have hcr : (q = 0 ∨ q = 1 ∨ q = 2) → Calls Tryz.prog 10 #[.pointer (some ⟨tb, 0, none⟩), .pointer (some ⟨mp, 0, none⟩), acV a pv, .int .i64 t] w fun e w' => e = .returned (.bool true) ∧ Below m w w' ∧ K3 w w' mb mp g ∧ ∃ T' g' cap' L', Two m (jj + 1) w' tb mb (k + 2) mp g' cap' T' L' ∧ StepB T T' ∧ L'.length ≤ L.length + 1 ∧ StepG T T' := fun hc =>
    (do_create m jj tb mb k T mp g cap L (q : Int) a pv t w h2 hjj hL hk hdl hp hpl hrl hq (by omega)).mono fun e w' ⟨he, hb, h3, o, T', g', cap', L', hT, ho, hl, hTe⟩ =>
      ⟨he, hb, h3, T', g', cap', L', hT, by rw [hTe]; exact (create_step T L.length (acS a) a.data o t a.serial).1, by rw [hl]; exact (create_step T L.length (acS a) a.data o t a.serial).2, fun hG => by rw [hTe]; exact hG.create _ _ _ _ _ _ (by omega) ht⟩
  rcases hc with rfl | rfl | rfl | rfl | rfl | rfl
  · exact hcr (by omega)
  · exact hcr (by omega)
  · exact hcr (by omega)
  · exact (do_set m jj tb mb k T mp g cap L a pv t w h2 hjj hL hk hdl hp hpl hrl hq).mono fun e w' ⟨he, hb, h3, v, T', L', hT, hl, hTe⟩ =>
      ⟨he, hb, h3, T', g, cap, L', up hT (by omega), by rw [hTe]; exact set_step T (acS a) a.data v t, by omega, fun hG => by rw [hTe]; exact hG.set _ _ _ _ ht⟩
  · exact (do_delete m jj tb mb k T mp g cap L a pv t w h2 hjj hL hk hp hpl hrl hK hP hq).mono fun e w' ⟨he, hb, h3, T', g', cap', L', hT, hD⟩ => by
      refine ⟨he, hb, h3, T', g', cap', L', up hT (by omega), ?_, ?_, ?_⟩
      · rcases hD with ⟨rfl, _⟩ | ⟨nd, par, h1, h3, h4, h5, rfl, _⟩
        · exact StepB.refl _
        · exact .inr (.inr ⟨_, nd, par, h4, h1, h3, h5, rfl⟩)
      · rcases hD with ⟨_, h⟩ | ⟨nd, par, _, _, _, _, _, h⟩ <;> omega
      · rcases hD with ⟨rfl, _⟩ | ⟨nd, par, h1, h3, h4, h5, rfl, _⟩
        · exact fun h => h
        · exact fun hG => hG.lessN h4 h5 ⟨nd, h1⟩ h3
  · exact (do_check tb mb k L.length T 0 mp g cap L a pv t w h2.tree h2.mod h2.rep hL hp hpl hrl hq).mono fun e w' ⟨he, hb⟩ =>
      ⟨he, hb.mono h2.above.2.2.2.2, K3.of_below hb _ _ _, T, g, cap, L, ⟨(h2.tree.below hb).mono (by omega), h2.mod.below hb, h2.rep, h2.small.mono (Nat.le_succ _), h2.ne, h2.above.1, h2.above.2.1, h2.above.2.2.1, h2.above.2.2.2.1, by have := h2.above.2.2.2.2; have := hb.size; omega⟩, StepB.refl T, Nat.le_succ _, fun h => h⟩
end Go.Proofs.YtblcpihfnpgfiaaGreatDoor
