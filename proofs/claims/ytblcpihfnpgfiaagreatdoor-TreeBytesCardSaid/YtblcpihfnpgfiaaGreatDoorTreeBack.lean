/- A tree that acts made is read back from its bytes; a beginning of its bytes is none. No program. No conditions beyond those in each statement. -/
import Derived.Test.YtblcpihfnpgfiaaGreatDoorTreeGood
import Derived.Test.YtblcpihfnpgfiaaGreatDoorTreeRead
namespace Go.Proofs.YtblcpihfnpgfiaaGreatDoor
open Go.RowKit Go.Maps
set_option linter.unusedVariables false
set_option linter.unusedSimpArgs false
set_option maxRecDepth 100000

theorem check_len {z : List UInt8} (h : checkL z = true) : z.length ≤ 60 ∧ z ≠ [] := by
  by_cases hr : z = [47]
  · subst hr; exact ⟨by decide, by decide⟩
  · obtain ⟨x, q, rfl, _, _, hl⟩ := check_split h hr
    exact ⟨hl, by simp⟩
theorem ltL_app : ∀ (x : List UInt8) {y : List UInt8}, y ≠ [] → x < x ++ y
  | [], y, h => by
    cases y with
    | nil => exact absurd rfl h
    | cons c l => exact List.Lex.nil
  | c :: x, y, h => List.Lex.cons (ltL_app x h)
theorem up_lt {z : List UInt8} (h : checkL z = true) (hr : z ≠ [47]) : upP z < z := by
  obtain ⟨x, q, rfl, hq, hne, hl⟩ := check_split h hr
  rw [(upP_app hq hr).1]
  unfold upB
  by_cases hx : x = []
  · rw [if_pos hx, hx]
    exact ltL_app [47] hne
  · rw [if_neg hx]; exact ltL_app x (by simp)
theorem nil_lastK {L : List Me} (h : L = []) : lastK L = [] := by subst h; rfl
/-- What stands at the head of the rest can be put there. -/
theorem goodK_next {T T0 : List UInt8 → Option Nd} {L0 M : List Me} {e : Me} (hR : Rep T (L0 ++ e :: M)) (hK : KeysOk T) (hG : GdT T) (h0 : ∀ x n, T0 x = some n ↔ (x, n) ∈ L0) : goodK T0 L0 e = true := by
  obtain ⟨s, n⟩ := e
  have hT : T s = some n := (hR.mem s n).2 (by simp)
  have hck := hK s n hT
  have hs := hR.sorted
  rw [List.map_append, List.map_cons, List.pairwise_append] at hs
  obtain ⟨_, hs2, hs3⟩ := hs
  rw [List.pairwise_cons] at hs2
  unfold goodK
  rw [Bool.and_eq_true, bytesLess_eq]
  constructor
  · refine decide_eq_true ?_
    rcases List.eq_nil_or_concat L0 with hl | ⟨K, x, hl⟩
    · rw [nil_lastK hl]
      show [] < s
      have := (check_len hck).2
      cases s with
      | nil => exact absurd rfl this
      | cons c l => exact List.Lex.nil
    · have hx : lastK L0 = x.1 := by unfold lastK; rw [hl]; simp
      rw [hx]
      exact hs3 x.1 (List.mem_map_of_mem (by rw [hl]; simp)) s (by simp)
  · show fitsT T0 s n = true
    unfold fitsT
    by_cases hr : s = [47]
    · rw [if_pos hr]
      subst hr
      obtain ⟨r, h1, h2⟩ := hG.root
      rw [hT] at h1; injection h1 with h1; subst h1
      simpa using h2
    · rw [if_neg hr]
      obtain ⟨p, hp, hp0⟩ := hG.par s n hT hr
      have hlt := up_lt hck hr
      have hmem : (upP s, p) ∈ L0 := by
        have := (hR.mem _ _).1 hp
        rcases List.mem_append.1 this with h1 | h1
        · exact h1
        · exfalso
          rcases List.mem_cons.1 h1 with h2 | h2
          · have : upP s = s := congrArg Prod.fst h2
            rw [this] at hlt; exact List.lt_irrefl _ hlt
          · have := hs2.1 (upP s) (List.mem_map_of_mem (f := (·.1)) h2)
            exact List.lt_irrefl _ (ltL_trans hlt this)
      have hT0 := (h0 _ _).2 hmem
      have hd := (hG.nd s n hT).1
      have hget : getN T0 (upP s) = (p, 0) := by
        unfold getN; rw [check_up hck hr, if_pos rfl, hT0]
      unfold placeN
      rw [if_neg (by rw [hck]; simp), if_neg hr, if_neg (by omega), hget]
      simp [hp0]
theorem GdT.ndOk {T : List UInt8 → Option Nd} {j : Nat} (h : GdT T) (hs : SmallK j T) (hj : j ≤ 1000) {x : List UInt8} {n : Nd} (hx : T x = some n) : NdOk n := by
  obtain ⟨h1, h2, h3, h4⟩ := h.nd x n hx
  obtain ⟨h5, h6, h7⟩ := hs x n hx
  exact ⟨h1, by omega, by omega, by omega, by omega, by omega, by omega⟩
theorem rdN_full {T : List UInt8 → Option Nd} {L : List Me} {j : Nat} (hR : Rep T L) (hK : KeysOk T) (hG : GdT T) (hs : SmallK j T) (hj : j ≤ 1000) (r : List UInt8) : ∀ (M L0 : List Me) (T0 : List UInt8 → Option Nd), L = L0 ++ M → (∀ x n, T0 x = some n ↔ (x, n) ∈ L0) →
    ∃ T', rdN M.length T0 L0 (some (M.flatMap entE ++ r)) = ⟨T', L, some r⟩ ∧ ∀ x n, T' x = some n ↔ (x, n) ∈ L
  | [], L0, T0, hL, h0 => by
    rw [List.append_nil] at hL
    refine ⟨T0, ?_, by rw [hL]; exact h0⟩
    rw [hL]; rfl
  | e :: M, L0, T0, hL, h0 => by
    have hg := goodK_next (hL ▸ hR) hK hG h0
    have hTe : T e.1 = some e.2 := (hR.mem _ _).2 (by rw [hL]; simp)
    have hrd : rdNd (some ((e :: M).flatMap entE ++ r)) = (e, some (M.flatMap entE ++ r)) := by
      rw [List.flatMap_cons, List.append_assoc]
      exact rdNd_good e _ (hG.ndOk hs hj hTe) (check_len (hK _ _ hTe)).1
    have hnot : e.1 ∉ L0.map (·.1) := fun hm => by
      have := hR.nodup
      rw [hL, List.map_append, List.nodup_append] at this
      exact this.2.2 e.1 hm e.1 (by simp) rfl
    obtain ⟨T', h1, h2⟩ := rdN_full hR hK hG hs hj r M (L0 ++ [e]) (updN T0 e.1 (some e.2)) (by rw [hL]; simp) (fun x n => by
      by_cases hx : x = e.1
      · subst hx
        rw [updN_same, List.mem_append]
        constructor
        · intro h; injection h with h; rw [← h]; exact .inr (by simp)
        · rintro (h | h)
          · exact absurd (List.mem_map_of_mem (f := (·.1)) h) hnot
          · have := List.mem_singleton.1 h
            rw [← this]
      · rw [updN_other hx, h0 x n, List.mem_append]
        constructor
        · exact .inl
        · rintro (h | h)
          · exact h
          · have := List.mem_singleton.1 h
            exact absurd (by rw [← this]) hx)
    refine ⟨T', ?_, h2⟩
    rw [List.length_cons]
    show rdN (M.length + 1) T0 L0 _ = _
    rw [rdN, hrd]
    simp only
    rw [if_pos hg]
    exact h1
theorem readT_full {T : List UInt8 → Option Nd} {L : List Me} {j : Nat} (hR : Rep T L) (hK : KeysOk T) (hG : GdT T) (hs : SmallK j T) (hj : j ≤ 1000) (h1 : 1 ≤ L.length) (hL : L.length ≤ 60) (r : List UInt8) : readT (some (layE L ++ r)) = ⟨T, L, some r⟩ := by
  obtain ⟨T', h2, h3⟩ := rdN_full hR hK hG hs hj r L [] (fun _ => none) rfl (fun x n => by simp)
  have hTT : T' = T := funext fun x => by
    cases hx : T x with
    | some n => exact (h3 x n).2 ((hR.mem x n).1 hx)
    | none =>
      cases hy : T' x with
      | none => rfl
      | some n =>
        have := (hR.mem x n).2 ((h3 x n).1 hy)
        rw [hx] at this; cases this
  have hn : numF 6 60 (some (layE L ++ r)) = ((L.length : Int), some (L.flatMap entE ++ r)) := by
    unfold layE
    rw [List.append_assoc]
    exact numF_good _ 60 _ (by omega) (by omega) (by decide)
  rw [readT_end, hn]
  simp only
  rw [show ((L.length : Int)).toNat = L.length from rfl, h2, endT_ok (by show ¬ L.length = 0; omega) rfl, hTT]
theorem numF_ext {most : Int} (hm : most ≤ 281474976710655) (h0 : 0 ≤ most) {l l' : List UInt8} (t : List UInt8) (h : (numF 6 most (some l)).2 = some l') : numF 6 most (some (l ++ t)) = ((numF 6 most (some l)).1, some (l' ++ t)) := by
  obtain ⟨l0, h1, h2, _⟩ := numF_some hm h
  obtain rfl := Option.some.inj h1
  have hb := numF_most (some l) most h0
  rw [h2, List.append_assoc]
  conv => lhs; rw [numF_good _ most _ hb.1 hb.2 hm]
  rw [← h2]
theorem rdNd_ext {l l' : List UInt8} (t : List UInt8) (h : (rdNd (some l)).2 = some l') : rdNd (some (l ++ t)) = ((rdNd (some l)).1, some (l' ++ t)) := by
  obtain ⟨l0, h1, h2⟩ := rdNd_some h
  obtain rfl := Option.some.inj h1
  have hk := rdNd_ok (some l)
  rw [h2, List.append_assoc]
  conv => lhs; rw [rdNd_good _ _ hk.1 hk.2]
  rw [← h2]
theorem rdNd_none : (rdNd none).2 = none := by
  cases h : (rdNd none).2 with
  | none => rfl
  | some l' => obtain ⟨l, h1, _⟩ := rdNd_some h; cases h1
theorem rdN_none : ∀ (n : Nat) (T : List UInt8 → Option Nd) (L : List Me), (rdN n T L none).st = none
  | 0, T, L => rfl
  | n + 1, T, L => by
    unfold rdN
    by_cases hb : goodK T L (rdNd none).1 = true
    · rw [if_pos hb, rdNd_none]; exact rdN_none n _ _
    · rw [if_neg hb]
theorem rdN_ext : ∀ (n : Nat) (T : List UInt8 → Option Nd) (L : List Me) (l l' t : List UInt8), (rdN n T L (some l)).st = some l' → rdN n T L (some (l ++ t)) = ⟨(rdN n T L (some l)).T, (rdN n T L (some l)).L, some (l' ++ t)⟩
  | 0, T, L, l, l', t, h => by
    have e : l = l' := Option.some.inj h
    rw [e]; rfl
  | n + 1, T, L, l, l', t, h => by
    by_cases hb : goodK T L (rdNd (some l)).1 = true
    · rw [rdN, if_pos hb] at h
      cases hm : (rdNd (some l)).2 with
      | none => rw [hm, rdN_none] at h; cases h
      | some m =>
        rw [hm] at h
        have e := rdNd_ext t hm
        rw [rdN, e]
        simp only
        rw [if_pos hb]
        rw [show rdN (n + 1) T L (some l) = rdN n (updN T (rdNd (some l)).1.1 (some (rdNd (some l)).1.2)) (L ++ [(rdNd (some l)).1]) (some m) by rw [rdN, if_pos hb, hm]]
        exact rdN_ext n _ _ m l' t h
    · rw [rdN, if_neg hb] at h; cases h
theorem readT_ext {l : List UInt8} (t : List UInt8) (h : okF (readT (some l)).st = true) : ∃ l', (readT (some l)).st = some l' ∧ (readT (some (l ++ t))).st = some (l' ++ t) := by
  rw [readT_end] at h ⊢
  rw [readT_end]
  cases hm : (numF 6 60 (some l)).2 with
  | none =>
    rw [hm] at h
    exfalso
    have hn := rdN_none (numF 6 60 (some l)).1.toNat (fun _ => none) []
    by_cases hl : (rdN (numF 6 60 (some l)).1.toNat (fun _ => none) [] none).L.length = 0
    · rw [endT_none hl] at h; exact Bool.noConfusion h
    · have hb : okF (rdN (numF 6 60 (some l)).1.toNat (fun _ => none) [] none).st = false := by rw [hn]; rfl
      rw [endT_bad hl hb] at h
      simp only at h
      rw [hn] at h; exact Bool.noConfusion h
  | some m =>
    rw [hm] at h
    rw [numF_ext (by decide) (by decide) t hm]
    simp only
    by_cases hl : (rdN (numF 6 60 (some l)).1.toNat (fun _ => none) [] (some m)).L.length = 0
    · rw [endT_none hl] at h; exact Bool.noConfusion h
    · cases hr : (rdN (numF 6 60 (some l)).1.toNat (fun _ => none) [] (some m)).st with
      | none =>
        have hb : okF (rdN (numF 6 60 (some l)).1.toNat (fun _ => none) [] (some m)).st = false := by rw [hr]; rfl
        rw [endT_bad hl hb] at h
        simp only at h
        rw [hr] at h; exact Bool.noConfusion h
      | some l' =>
        have hb : okF (rdN (numF 6 60 (some l)).1.toNat (fun _ => none) [] (some m)).st = true := by rw [hr]; rfl
        rw [rdN_ext _ _ _ m l' t hr]
        exact ⟨l', by rw [endT_ok hl hb, hr], congrArg Trs.st (endT_ok (r := ⟨(rdN (numF 6 60 (some l)).1.toNat (fun _ => none) [] (some m)).T, (rdN (numF 6 60 (some l)).1.toNat (fun _ => none) [] (some m)).L, some (l' ++ t)⟩) hl rfl)⟩
/-- A beginning of what was laid is none. -/
theorem readT_cut {T : List UInt8 → Option Nd} {L : List Me} {j : Nat} (hR : Rep T L) (hK : KeysOk T) (hG : GdT T) (hs : SmallK j T) (hj : j ≤ 1000) (h1 : 1 ≤ L.length) (hL : L.length ≤ 60) (u : Nat) (hu : u < (layE L).length) : okF (readT (some ((layE L).take u))).st = false := by
  cases h : okF (readT (some ((layE L).take u))).st with
  | false => rfl
  | true =>
    exfalso
    obtain ⟨l', _, h2⟩ := readT_ext ((layE L).drop u) h
    rw [List.take_append_drop] at h2
    have h3 := readT_full hR hK hG hs hj h1 hL []
    rw [List.append_nil] at h3
    rw [h3] at h2
    simp only at h2
    have h4 := congrArg List.length (Option.some.inj h2)
    rw [List.length_append, List.length_drop, List.length_nil] at h4
    omega
end Go.Proofs.YtblcpihfnpgfiaaGreatDoor
