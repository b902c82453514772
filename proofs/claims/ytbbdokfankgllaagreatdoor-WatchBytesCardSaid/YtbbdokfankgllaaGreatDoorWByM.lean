/- What was laid is read; what is cut is not. No program. No conditions beyond those in each statement. -/
import Derived.Test.YtbbdokfankgllaaGreatDoorWRead
import Derived.Test.YtbbdokfankgllaaGreatDoorWLay
import Derived.Test.YtbbdokfankgllaaGreatDoorWLayI
namespace Go.Proofs.YtbbdokfankgllaaGreatDoor
open Go.RowKit Go.Maps
set_option linter.unusedVariables false
set_option linter.unusedSimpArgs false
set_option maxRecDepth 100000

theorem numS_good (z : Int) (r : List UInt8) (h : 0 ≤ z ∧ z ≤ 281474976710655) : numS (some (numE z ++ r)) = (z, some r) := numF_good z 281474976710655 r h.1 h.2 (by decide)
theorem rdWa_good {x : Wa} (h : WaOk x) (r : List UInt8) : rdWa (some (waE x ++ r)) = (x, some r) := by
  unfold rdWa waE
  have hp : (x.path.data.toList.length : Int) ≤ 60 := by have := h.path; rw [Lib.size_eq] at this; omega
  simp only [List.append_assoc]
  rw [numS_good _ _ h.ses]
  simp only
  rw [textF_good _ 60 _ hp (by decide)]
  simp only
  rw [flagF_good]
  simp only
  rw [flagF_good]
  simp only
  rw [bs_of]
theorem rdEv_good {x : Ev} (h : EvOk x) (r : List UInt8) : rdEv (some (evE x ++ r)) = (x, some r) := by
  unfold rdEv evE
  have hp : (x.path.data.toList.length : Int) ≤ 60 := by have := h.path; rw [Lib.size_eq] at this; omega
  simp only [List.append_assoc]
  rw [numS_good _ _ h.ses]
  simp only
  rw [numS_good _ _ h.no]
  simp only
  rw [textF_good _ 60 _ hp (by decide)]
  simp only
  rw [numF_good _ 4 _ h.what.1 h.what.2 (by decide)]
  simp only
  rw [numS_good _ _ h.when]
  simp only
  rw [bs_of]
theorem rdEs_good : ∀ (M L : List Ev) (r : List UInt8), (∀ e ∈ M, EvOk e) → rdEs M.length L (some (M.flatMap evE ++ r)) = ⟨L ++ M, some r⟩
  | [], L, r, _ => by simp [rdEs]
  | x :: M, L, r, h => by
    rw [List.length_cons, List.flatMap_cons, List.append_assoc, rdEs, rdEv_good (h x (by simp))]
    simp only
    rw [rdEs_good M _ r (fun e he => h e (by simp [he]))]
    simp
theorem goodW_of {L : List Wa} {x : Wa} (hL : WsOk L) (h1 : ∀ y ∈ L, LtW y x) (hb : badS x = false) (hc : checkE x.path.data.toList = 0) (hp : 1 ≤ x.ses) (hl : L.length < 40) : goodW L x = true := by
  have hn : ¬ x ∈ L := fun hm => (h1 x hm).irrefl
  unfold goodW
  rw [(add_new hb hc (isB_not hL hn) hl).1, Bool.and_eq_true]
  refine ⟨?_, by simp⟩
  rw [decide_eq_true_iff]
  rcases List.eq_nil_or_concat L with h0 | ⟨M, z, h0⟩
  · rw [h0]
    exact orderF_lt.2 (.inl (by show waZ.ses < x.ses; unfold waZ; simp only; omega))
  · rw [List.concat_eq_append] at h0
    subst h0
    rw [lastW_snoc]
    exact orderF_lt.2 (h1 z (by simp))
theorem rdWs_goods : ∀ (M L : List Wa) (r : List UInt8), WsOk (L ++ M) → (∀ x ∈ M, WaG x) → (L ++ M).length ≤ 40 → rdWs M.length L (some (M.flatMap waE ++ r)) = ⟨L ++ M, some r⟩
  | [], L, r, _, _, _ => by simp [rdWs]
  | x :: M, L, r, h, hg, hl => by
    have hup := List.pairwise_append.1 h.up
    have hx := hg x (by simp)
    have hwa := h.ok x (by simp)
    have hLo : WsOk L := ⟨hup.1, fun y hy => h.ok y (by simp [hy])⟩
    have hgd : goodW L x = true := goodW_of hLo (fun y hy => hup.2.2 y hy x (by simp)) hx.1 hx.2.1 hx.pos (by rw [List.length_append, List.length_cons] at hl; omega)
    rw [List.length_cons, List.flatMap_cons, List.append_assoc]
    have e1 := rdWa_good hwa (M.flatMap waE ++ r)
    rw [rdWs_good (by rw [e1]; exact hgd), e1]
    simp only
    rw [rdWs_goods M (L ++ [x]) r (by simpa using h) (fun y hy => hg y (by simp [hy])) (by simpa using hl)]
    simp
theorem lastZ_lt {L : List (Int × Int)} {e : Int × Int} (h : ∀ x ∈ L, x.1 < e.1) (h0 : 0 < e.1) : ¬ e.1 ≤ lastZ L := by
  rcases List.eq_nil_or_concat L with h1 | ⟨M, z, h1⟩
  · rw [h1]; show ¬ e.1 ≤ 0; omega
  · rw [List.concat_eq_append] at h1
    subst h1
    rw [lastZ_snoc]
    have := h z (by simp)
    omega
theorem rdLs_goods : ∀ (M L : List (Int × Int)) (N : Int → Option Int) (r : List UInt8), ((L ++ M).map (·.1)).Pairwise (· < ·) → (∀ e ∈ M, 0 < e.1 ∧ e.1 ≤ 281474976710655 ∧ 0 ≤ e.2 ∧ e.2 ≤ 281474976710655) → ∃ N', rdLs M.length N L (some (lsE M ++ r)) = ⟨N', L ++ M, some r⟩
  | [], L, N, r, _, _ => ⟨N, by simp [rdLs, lsE]⟩
  | x :: M, L, N, r, h, hg => by
    have hx := hg x (by simp)
    have hlt : ∀ y ∈ L, y.1 < x.1 := fun y hy => by
      rw [List.map_append, List.pairwise_append] at h
      exact h.2.2 y.1 (List.mem_map_of_mem hy) x.1 (by simp)
    have e0 : lsE (x :: M) ++ r = numE x.1 ++ (numE x.2 ++ (lsE M ++ r)) := by simp [lsE]
    have e1 := numS_good x.1 (numE x.2 ++ (lsE M ++ r)) ⟨by omega, hx.2.1⟩
    have e2 := numS_good x.2 (lsE M ++ r) ⟨hx.2.2.1, hx.2.2.2⟩
    rw [e0, List.length_cons, rdLs_good (by rw [e1]; exact lastZ_lt hlt hx.1), e1]
    simp only
    rw [e2]
    simp only
    obtain ⟨N', h9⟩ := rdLs_goods M (L ++ [(x.1, x.2)]) (updN N x.1 (some x.2)) r (by simpa using h) (fun y hy => hg y (by simp [hy]))
    exact ⟨N', by rw [h9]; simp⟩
/-- What was laid is read. -/
theorem readB_full {W : List Wa} {E : List Ev} {N : Int → Option Int} {L : List (Int × Int)} {st : RS} (hb : BksOk ⟨W, E, N, L, st⟩) (hg : ∀ x ∈ W, WaG x) (r : List UInt8) : readB (some (layB W E L ++ r)) = ⟨W, E, N, L, some r⟩ := by
  obtain ⟨h1, h2, h3, h4, h5, h6⟩ := hb
  simp only at h1 h2 h3 h4 h5 h6
  have w1 : readWs (some (layB W E L ++ r)) = ⟨W, some (numE (E.length : Int) ++ (E.flatMap evE ++ (numE (L.length : Int) ++ (lsE L ++ r))))⟩ := by
    unfold readWs layB
    simp only [List.append_assoc]
    rw [numF_good _ 40 _ (by omega) (by omega) (by decide)]
    simp only [Int.toNat_natCast]
    rw [rdWs_goods W [] _ (by simpa using h1) hg (by simpa using h4)]
    simp
  have w2 : readEs (some (numE (E.length : Int) ++ (E.flatMap evE ++ (numE (L.length : Int) ++ (lsE L ++ r))))) = ⟨E, some (numE (L.length : Int) ++ (lsE L ++ r))⟩ := by
    unfold readEs
    rw [numF_good _ 1024 _ (by omega) (by omega) (by decide)]
    simp only [Int.toNat_natCast]
    rw [rdEs_good E [] _ h2]
    simp
  have w3 : ∃ N', readLs (some (numE (L.length : Int) ++ (lsE L ++ r))) = ⟨N', L, some r⟩ := by
    unfold readLs
    rw [numF_good _ 1024 _ (by omega) (by omega) (by decide)]
    simp only [Int.toNat_natCast]
    obtain ⟨N', h9⟩ := rdLs_goods L [] (fun _ => none) r (by simpa using h3.up) (fun e he => by have := h3.pos e he; omega)
    exact ⟨N', by rw [h9]; simp⟩
  obtain ⟨N', w3⟩ := w3
  have hN : N' = N := by
    have hs := rdLs_some (numF 6 1024 (some (numE (L.length : Int) ++ (lsE L ++ r)))).1.toNat (fun _ => none) [] (numF 6 1024 (some (numE (L.length : Int) ++ (lsE L ++ r)))).2 r LsOk.nil (by
      have : (readLs (some (numE (L.length : Int) ++ (lsE L ++ r)))).st = some r := by rw [w3]
      exact this)
    obtain ⟨_, _, _, _, _, _, h7⟩ := hs
    have h8 : LsOk (readLs (some (numE (L.length : Int) ++ (lsE L ++ r)))).N (readLs (some (numE (L.length : Int) ++ (lsE L ++ r)))).L := h7
    rw [w3] at h8
    simp only at h8
    funext x
    cases e1 : N' x with
    | some v => exact ((h3.mem x v).2 ((h8.mem x v).1 e1)).symm
    | none =>
      cases e2 : N x with
      | none => rfl
      | some v => have := (h8.mem x v).2 ((h3.mem x v).1 e2); rw [e1] at this; cases this
  have hok : okF (readLs (readEs (readWs (some (layB W E L ++ r))).st).st).st = true := by rw [w1]; simp only; rw [w2]; simp only; rw [w3]; rfl
  rw [readB_good hok, w1]
  simp only
  rw [w2]
  simp only
  rw [w3, hN]
theorem numF_ext {most : Int} (hm : most ≤ 281474976710655) (h0 : 0 ≤ most) {l l' : List UInt8} (t : List UInt8) (h : (numF 6 most (some l)).2 = some l') : numF 6 most (some (l ++ t)) = ((numF 6 most (some l)).1, some (l' ++ t)) := by
  obtain ⟨l0, h1, h2, _⟩ := numF_some hm h
  obtain rfl := Option.some.inj h1
  have hb := numF_most (some l) most h0
  rw [h2, List.append_assoc]
  conv => lhs; rw [numF_good _ most _ hb.1 hb.2 hm]
  rw [← h2]
theorem numS_ext {l l' : List UInt8} (t : List UInt8) (h : (numS (some l)).2 = some l') : numS (some (l ++ t)) = ((numS (some l)).1, some (l' ++ t)) := numF_ext (by decide) (by decide) t h
theorem rdWa_ext {l l' : List UInt8} (t : List UInt8) (h : (rdWa (some l)).2 = some l') : rdWa (some (l ++ t)) = ((rdWa (some l)).1, some (l' ++ t)) := by
  obtain ⟨l0, h1, h2⟩ := rdWa_some h
  obtain rfl := Option.some.inj h1
  have hk := rdWa_ok (some l)
  rw [h2, List.append_assoc]
  conv => lhs; rw [rdWa_good hk]
  rw [← h2]
theorem rdEv_ext {l l' : List UInt8} (t : List UInt8) (h : (rdEv (some l)).2 = some l') : rdEv (some (l ++ t)) = ((rdEv (some l)).1, some (l' ++ t)) := by
  obtain ⟨l0, h1, h2⟩ := rdEv_some h
  obtain rfl := Option.some.inj h1
  have hk := rdEv_ok (some l)
  rw [h2, List.append_assoc]
  conv => lhs; rw [rdEv_good hk]
  rw [← h2]
theorem rdWa_none : (rdWa none).2 = none := by
  cases h : (rdWa none).2 with
  | none => rfl
  | some l' => obtain ⟨l, h1, _⟩ := rdWa_some h; cases h1
theorem rdEv_none : (rdEv none).2 = none := by
  cases h : (rdEv none).2 with
  | none => rfl
  | some l' => obtain ⟨l, h1, _⟩ := rdEv_some h; cases h1
theorem numS_none : (numS none).2 = none := by
  cases h : (numS none).2 with
  | none => rfl
  | some l' => obtain ⟨l, h1, _⟩ := numS_some h; cases h1
theorem rdWs_none : ∀ (n : Nat) (L : List Wa), (rdWs n L none).st = none
  | 0, L => rfl
  | n + 1, L => by
    cases hb : goodW L (rdWa none).1 with
    | false => rw [rdWs_bad hb]
    | true => rw [rdWs_good hb, rdWa_none]; exact rdWs_none n _
theorem rdEs_none : ∀ (n : Nat) (L : List Ev), (rdEs n L none).st = none
  | 0, L => rfl
  | n + 1, L => by rw [rdEs, rdEv_none]; exact rdEs_none n _
theorem rdLs_none : ∀ (n : Nat) (N : Int → Option Int) (L : List (Int × Int)), (rdLs n N L none).st = none
  | 0, N, L => rfl
  | n + 1, N, L => by
    by_cases hb : (numS none).1 ≤ lastZ L
    · rw [rdLs_bad hb]
    · rw [rdLs_good hb, numS_none, numS_none]; exact rdLs_none n _ _
theorem rdWs_ext : ∀ (n : Nat) (L : List Wa) (l l' t : List UInt8), (rdWs n L (some l)).st = some l' → rdWs n L (some (l ++ t)) = ⟨(rdWs n L (some l)).L, some (l' ++ t)⟩
  | 0, L, l, l', t, h => by
    have e : l = l' := Option.some.inj h
    rw [e]; rfl
  | n + 1, L, l, l', t, h => by
    cases hb : goodW L (rdWa (some l)).1 with
    | false => rw [rdWs_bad hb] at h; cases h
    | true =>
      rw [rdWs_good hb] at h ⊢
      cases hm : (rdWa (some l)).2 with
      | none => rw [hm, rdWs_none] at h; cases h
      | some m =>
        rw [hm] at h
        have e := rdWa_ext t hm
        rw [rdWs_good (by rw [e]; exact hb), e]
        exact rdWs_ext n _ m l' t h
theorem rdEs_ext : ∀ (n : Nat) (L : List Ev) (l l' t : List UInt8), (rdEs n L (some l)).st = some l' → rdEs n L (some (l ++ t)) = ⟨(rdEs n L (some l)).L, some (l' ++ t)⟩
  | 0, L, l, l', t, h => by
    have e : l = l' := Option.some.inj h
    rw [e]; rfl
  | n + 1, L, l, l', t, h => by
    rw [rdEs] at h ⊢
    cases hm : (rdEv (some l)).2 with
    | none => rw [hm, rdEs_none] at h; cases h
    | some m =>
      rw [hm] at h
      have e := rdEv_ext t hm
      rw [rdEs, e, hm]
      exact rdEs_ext n _ m l' t h
theorem rdLs_ext : ∀ (n : Nat) (N : Int → Option Int) (L : List (Int × Int)) (l l' t : List UInt8), (rdLs n N L (some l)).st = some l' → (rdLs n N L (some (l ++ t))).st = some (l' ++ t)
  | 0, N, L, l, l', t, h => by
    have e : l = l' := Option.some.inj h
    rw [e]; rfl
  | n + 1, N, L, l, l', t, h => by
    by_cases hb : (numS (some l)).1 ≤ lastZ L
    · rw [rdLs_bad hb] at h; cases h
    · rw [rdLs_good hb] at h
      cases hm : (numS (some l)).2 with
      | none => rw [hm, numS_none, rdLs_none] at h; cases h
      | some m =>
        rw [hm] at h
        cases hm2 : (numS (some m)).2 with
        | none => rw [hm2, rdLs_none] at h; cases h
        | some m2 =>
          rw [hm2] at h
          have e := numS_ext t hm
          have e2 := numS_ext t hm2
          rw [rdLs_good (by rw [e]; exact hb), e]
          simp only
          rw [e2]
          exact rdLs_ext n _ _ m2 l' t h
/-- A beginning that is read is read with more behind it too. -/
theorem readB_ext {l l' : List UInt8} (t : List UInt8) (h : okF (readB (some l)).st = true) : ∃ l', (readB (some l)).st = some l' ∧ (readB (some (l ++ t))).st = some (l' ++ t) := by
  obtain ⟨e1, hok⟩ := readB_ok h
  cases h3 : (readLs (readEs (readWs (some l)).st).st).st with
  | none => rw [h3] at hok; cases hok
  | some l3 =>
    cases h2 : (readEs (readWs (some l)).st).st with
    | none =>
      rw [h2] at h3
      have : (readLs none).st = none := rdLs_none _ _ _
      rw [this] at h3; cases h3
    | some l2 =>
      cases h1 : (readWs (some l)).st with
      | none =>
        rw [h1] at h2
        have : (readEs none).st = none := rdEs_none _ _
        rw [this] at h2; cases h2
      | some l1 =>
        rw [h1] at h2
        rw [h1, h2] at h3
        have f1 : (readWs (some (l ++ t))).st = some (l1 ++ t) := by
          unfold readWs at h1 ⊢
          cases hm : (numF 6 40 (some l)).2 with
          | none => rw [hm, rdWs_none] at h1; cases h1
          | some m =>
            rw [hm] at h1
            rw [numF_ext (by decide) (by decide) t hm]
            simp only
            rw [rdWs_ext _ _ m l1 t h1]
        have f2 : (readEs (some (l1 ++ t))).st = some (l2 ++ t) := by
          unfold readEs at h2 ⊢
          cases hm : (numF 6 1024 (some l1)).2 with
          | none => rw [hm, rdEs_none] at h2; cases h2
          | some m =>
            rw [hm] at h2
            rw [numF_ext (by decide) (by decide) t hm]
            simp only
            rw [rdEs_ext _ _ m l2 t h2]
        have f3 : (readLs (some (l2 ++ t))).st = some (l3 ++ t) := by
          unfold readLs at h3 ⊢
          cases hm : (numF 6 1024 (some l2)).2 with
          | none => rw [hm, rdLs_none] at h3; cases h3
          | some m =>
            rw [hm] at h3
            rw [numF_ext (by decide) (by decide) t hm]
            simp only
            exact rdLs_ext _ _ _ m l3 t h3
        refine ⟨l3, by rw [e1]; simp only; rw [h1, h2, h3], ?_⟩
        have hok2 : okF (readLs (readEs (readWs (some (l ++ t))).st).st).st = true := by rw [f1, f2, f3]; rfl
        rw [readB_good hok2]
        simp only
        rw [f1, f2, f3]
/-- A beginning of what was laid is none. -/
theorem readB_cut {W : List Wa} {E : List Ev} {N : Int → Option Int} {L : List (Int × Int)} {st : RS} (hb : BksOk ⟨W, E, N, L, st⟩) (hg : ∀ x ∈ W, WaG x) (u : Nat) (hu : u < (layB W E L).length) : okF (readB (some ((layB W E L).take u))).st = false := by
  cases h : okF (readB (some ((layB W E L).take u))).st with
  | false => rfl
  | true =>
    exfalso
    obtain ⟨l', _, h2⟩ := readB_ext (l' := []) ((layB W E L).drop u) h
    rw [List.take_append_drop] at h2
    have h3 := readB_full hb hg []
    rw [List.append_nil] at h3
    rw [h3] at h2
    simp only at h2
    have h4 := congrArg List.length (Option.some.inj h2)
    rw [List.length_append, List.length_drop, List.length_nil] at h4
    omega
/-- A state that acts made can be encoded. -/
theorem LayI.bks {S : Sb} {kk k2 c : Nat} {zs : List Int} (h : LayI S kk) (hs : SbOk S k2) (hk : kk ≤ 100000) (he : S.es.length ≤ 1000) (hz : IdsOf S.n c zs) : BksOk ⟨S.ws, S.es, S.n, zs.map (fun z => (z, (S.n z).getD 0)), none⟩ := by
  have hmem : ∀ z ∈ zs, ∃ v, S.n z = some v := fun z hz2 => Option.isSome_iff_exists.1 ((hz.mem z).1 hz2)
  have hfst : (zs.map (fun z => (z, (S.n z).getD 0))).map (·.1) = zs := by rw [List.map_map]; simp [Function.comp_def]
  have hup : zs.Pairwise (· < ·) := hz.sorted.imp (fun h => by omega)
  have hlast : ∀ e ∈ zs.map (fun z => (z, (S.n z).getD 0)), e.1 ≤ lastZ (zs.map (fun z => (z, (S.n z).getD 0))) := fun e he2 => by
    rcases List.eq_nil_or_concat (zs.map (fun z => (z, (S.n z).getD 0))) with h1 | ⟨M, y, h1⟩
    · rw [h1] at he2; cases he2
    · rw [List.concat_eq_append] at h1
      rw [h1] at he2 ⊢
      rw [lastZ_snoc]
      rcases List.mem_append.1 he2 with h2 | h2
      · have h3 := hup
        rw [← hfst, h1, List.map_append, List.pairwise_append] at h3
        have := h3.2.2 e.1 (List.mem_map_of_mem h2) y.1 (by simp)
        omega
      · rw [List.mem_singleton.1 h2]; exact Int.le_refl _
  refine ⟨hs.ws, fun e he2 => ?_, ⟨?_, fun x v => ?_, fun e he2 => ?_, ?_⟩, hs.l40, by simp only; omega, ?_⟩
  · have := h.eg e he2
    unfold EvG at this
    exact ⟨by omega, by omega, by omega, by omega, by omega⟩
  · simp only; rw [hfst]; exact hup
  · simp only
    rw [List.mem_map]
    constructor
    · intro hx
      exact ⟨x, (hz.mem x).2 (by rw [hx]; rfl), by rw [hx]; rfl⟩
    · rintro ⟨y, hy, e⟩
      injection e with e1 e2
      obtain ⟨v2, hv2⟩ := hmem y hy
      rw [hv2] at e2
      rw [← e1, hv2]
      simp at e2
      rw [e2]
  · have hl := hlast e he2
    obtain ⟨y, hy, rfl⟩ := List.mem_map.1 he2
    obtain ⟨v2, hv2⟩ := hmem y hy
    have := h.ng y v2 hv2
    simp only at hl ⊢
    rw [hv2]
    simp only [Option.getD_some]
    omega
  · simp only
    rcases List.eq_nil_or_concat (zs.map (fun z => (z, (S.n z).getD 0))) with h1 | ⟨M, y, h1⟩
    · rw [h1]; decide
    · have hy : y ∈ zs.map (fun z => (z, (S.n z).getD 0)) := by rw [h1]; simp
      obtain ⟨x, hx, rfl⟩ := List.mem_map.1 hy
      obtain ⟨v2, hv2⟩ := hmem x hx
      have := h.ng x v2 hv2
      rw [h1, List.concat_eq_append, lastZ_snoc]
      simp only
      omega
  · simp only
    rw [List.length_map]
    rcases few_up 7 zs 1 hup (fun z hz2 => by obtain ⟨v2, hv2⟩ := hmem z hz2; have := h.ng z v2 hv2; omega) with e | e
    · omega
    · rw [e]; simp
end Go.Proofs.YtbbdokfankgllaaGreatDoor
