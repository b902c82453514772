/- A device and the model agree behind a power failure. No conditions beyond those in each statement. -/
import Derived.Test.YtmfkbddfjfjfkaaMdCrash
namespace Go.Proofs.Ytmfkbddfjfjfkaa
open Go.RowKit
set_option linter.unusedVariables false

/-- What the writes to a block leave of it, in order. -/
def cfold (zs : List Int) : List Wr → ByteArray × Bool → ByteArray × Bool
  | [], x => x
  | p :: ps, x => cfold zs ps (if fateF zs p.place = 1 then (p.data, false) else if fateF zs p.place = 2 then (p.data.extract 0 (p.data.size / 2), true) else x)
theorem crash_cfold (zs : List Int) : ∀ (l : List Wr) (b : Blk), (l.reverse.findSome? (oneHit zs b)).getD ⟨b.durable, b.spoiled, b.lost, []⟩ = ⟨(cfold zs l (b.durable, b.spoiled)).1, (cfold zs l (b.durable, b.spoiled)).2, b.lost, []⟩
  | [], b => rfl
  | p :: l, b => by
    rw [List.reverse_cons, List.findSome?_append]
    have hb : ∀ (b' : Blk), b'.lost = b.lost → oneHit zs b' = oneHit zs b := fun b' e => funext fun q => by simp only [oneHit, e]
    by_cases h1 : fateF zs p.place = 1
    · have ih := crash_cfold zs l ⟨p.data, false, b.lost, []⟩
      rw [hb ⟨p.data, false, b.lost, []⟩ rfl] at ih
      have e : ([p] : List Wr).findSome? (oneHit zs b) = some ⟨p.data, false, b.lost, []⟩ := by simp [oneHit, h1]
      rw [e]
      simp only [cfold, h1, if_true]
      rw [← ih]
      cases l.reverse.findSome? (oneHit zs b) <;> rfl
    · by_cases h2 : fateF zs p.place = 2
      · have ih := crash_cfold zs l ⟨p.data.extract 0 (p.data.size / 2), true, b.lost, []⟩
        rw [hb ⟨p.data.extract 0 (p.data.size / 2), true, b.lost, []⟩ rfl] at ih
        have e : ([p] : List Wr).findSome? (oneHit zs b) = some ⟨p.data.extract 0 (p.data.size / 2), true, b.lost, []⟩ := by simp [oneHit, h2]
        rw [e]
        have h21 : ¬ ((2 : Int) = 1) := by decide
        simp only [cfold, h2, h21, if_true, if_false]
        rw [← ih]
        cases l.reverse.findSome? (oneHit zs b) <;> rfl
      · have ih := crash_cfold zs l b
        have e : ([p] : List Wr).findSome? (oneHit zs b) = none := by simp [oneHit, h1, h2]
        rw [e]
        simp only [cfold, h1, h2, if_false]
        rw [← ih]
        cases l.reverse.findSome? (oneHit zs b) <;> rfl
theorem steps_at (zs : List Int) (i : Nat) : ∀ (ps : List Wr) (n : Nat) (M : Md) (s : ByteArray) (t : Bool), M.safe[i]? = some s → M.hurt[i]? = some t →
    (stepsC zs n ps M).safe[i]? = some (cfold zs (pendAt i ps n) (s, t)).1 ∧ (stepsC zs n ps M).hurt[i]? = some (cfold zs (pendAt i ps n) (s, t)).2
  | [], n, M, s, t, hs, ht => ⟨hs, ht⟩
  | p :: ps, n, M, s, t, hs, ht => by
    have his := (List.getElem?_eq_some_iff.1 hs).1
    have hit := (List.getElem?_eq_some_iff.1 ht).1
    show (stepsC zs (n + 1) ps (stepC zs n p M)).safe[i]? = _ ∧ (stepsC zs (n + 1) ps (stepC zs n p M)).hurt[i]? = _
    by_cases hp : p.place = i
    · have hpe : pendAt i (p :: ps) n = ⟨n, p.data⟩ :: pendAt i ps (n + 1) := by simp [pendAt, hp]
      rw [hpe]
      by_cases h1 : fateF zs n = 1
      · have := steps_at zs i ps (n + 1) (stepC zs n p M) p.data false (by simp only [stepC, h1, if_true, app]; rw [getElem?_set_map _ _ _ _ his, if_pos hp]) (by simp only [stepC, h1, if_true, app]; rw [getElem?_set_map _ _ _ _ hit, if_pos hp])
        simpa [cfold, h1] using this
      · by_cases h2 : fateF zs n = 2
        · have := steps_at zs i ps (n + 1) (stepC zs n p M) (p.data.extract 0 (p.data.size / 2)) true (by simp only [stepC, h1, h2, if_true, if_false]; simp [getElem?_set_map _ _ _ _ his, hp]) (by simp only [stepC, h1, h2, if_true, if_false]; simp [getElem?_set_map _ _ _ _ hit, hp])
          simpa [cfold, h1, h2] using this
        · have := steps_at zs i ps (n + 1) (stepC zs n p M) s t (by simp only [stepC, h1, h2, if_false]; exact hs) (by simp only [stepC, h1, h2, if_false]; exact ht)
          simpa [cfold, h1, h2] using this
    · have hpe : pendAt i (p :: ps) n = pendAt i ps (n + 1) := by simp [pendAt, hp]
      rw [hpe]
      refine steps_at zs i ps (n + 1) (stepC zs n p M) s t ?_ ?_
      · unfold stepC
        split
        · simp only [app]; rw [getElem?_set_map _ _ _ _ his, if_neg hp]; exact hs
        · split
          · simp only []; rw [getElem?_set_map _ _ _ _ his, if_neg hp]; exact hs
          · exact hs
      · unfold stepC
        split
        · simp only [app]; rw [getElem?_set_map _ _ _ _ hit, if_neg hp]; exact ht
        · split
          · simp only []; rw [getElem?_set_map _ _ _ _ hit, if_neg hp]; exact ht
          · exact ht
theorem Agree.crash {D : Dv} {M : Md} (h : Agree D M) (hf : D.Fits) (zs : List Int) : Agree (D.crash zs) (M.crash zs) := by
  obtain ⟨a1, a2, a3, a4, a5, a6⟩ := stepsC_keep zs M.since 0 M.crash0
  refine ⟨?_, ?_, ?_, ?_, fun i b hb => ?_⟩
  · show (stepsC zs 0 M.since M.crash0).safe.length = _
    rw [a5]
    simpa [Dv.crash, Md.crash0] using h.len
  · exact a4
  · exact a3
  · show 0 = (stepsC zs 0 M.since M.crash0).since.length
    rw [a1]
    rfl
  · simp only [Dv.crash, List.getElem?_map, Option.map_eq_some_iff] at hb
    obtain ⟨d, hd, rfl⟩ := hb
    obtain ⟨h1, h2, h3, h4⟩ := h.blk i d hd
    have hm := List.mem_of_getElem? hd
    obtain ⟨s1, s2, s3⟩ := crash_shape zs d (hf.durable d hm) (fun p hp => (hf.pending d hm p hp).1)
    obtain ⟨k1, k2⟩ := steps_at zs i M.since 0 M.crash0 d.durable d.spoiled h1 h2
    have e : d.crash zs = ⟨(cfold zs d.pending (d.durable, d.spoiled)).1, (cfold zs d.pending (d.durable, d.spoiled)).2, d.lost, []⟩ := crash_cfold zs d.pending d
    refine ⟨?_, ?_, ?_, ?_⟩
    · show (stepsC zs 0 M.since M.crash0).safe[i]? = _
      rw [k1, e, h4]
    · show (stepsC zs 0 M.since M.crash0).hurt[i]? = _
      rw [k2, e, h4]
    · show (stepsC zs 0 M.since M.crash0).gone[i]? = _
      rw [a2, s3]
      exact h3
    · rw [s1]
      show [] = pendAt i (stepsC zs 0 M.since M.crash0).since 0
      rw [a1]
      rfl
theorem Dv.crash_writes (D : Dv) (zs : List Int) : (D.crash zs).writes = 0 := rfl

section
variable {n : Nat} {w x : World} {B C : Nat} {D : Dv} {M : Md}
/-- Both behind a power failure. -/
theorem Duo.crash (h : Duo n w B D C M) (fv : Value) (zs : List Int) (hw : D.writes ≤ 1073741824) (hz : Fts w fv zs) :
    Calls Try.prog 16 #[.pointer (some ⟨B, 0, none⟩), fv] w fun e w' => NewDev (D.crash zs) w e w' := by
  obtain ⟨S, T, h1, _⟩ := h
  exact crash_any fv zs (by omega) h1 hz
theorem Duo.mcrash (h : Duo n w B D C M) (fv : Value) (zs : List Int) (hz : Fts w fv zs) :
    Calls Try.prog 17 #[.pointer (some ⟨C, 0, none⟩), fv] w fun e w' => NewMd (M.crash zs) w e w' := by
  obtain ⟨S, T, _, h2, _⟩ := h
  exact mcrash_any fv zs h2 hz
/-- 'same' of a new device and the model. -/
theorem same_new {w1 w2 w3 : World} (hd : DevAt (span w1.heap.size w2.heap.size) w2 B D) (h : Duo n w3 B D C M) (hA : Agree D M) (hw : D.writes ≤ 1073741824) :
    Calls Try.prog 14 #[.pointer (some ⟨B, 0, none⟩), .pointer (some ⟨C, 0, none⟩)] w3 fun e w' => e = .returned (.bool true) ∧ Below w3.heap.size w3 w' := h.same hA hw
/-- A new device beside the model. -/
theorem Duo.swap {w1 w2 : World} {B' : Nat} {D' : Dv} (h : Duo n w1 B D C M) (hn : n ≤ w1.heap.size) (hb : Below w1.heap.size w1 w2) (hd : DevAt (span w1.heap.size w2.heap.size) w2 B' D') : Duo n w2 B' D' C M := by
  obtain ⟨S, T, h1, h2, h3, h4, h5⟩ := h
  exact ⟨_, T, hd, h2.below hb, fun k hk hk' => by have := h2.lt k hk'; have := hk.1; omega, fun k hk => Nat.le_trans hn hk.1, h5⟩
theorem crash_nil (D : Dv) (zs : List Int) (hf : (D.crash zs).Fits) : (D.crash zs).crash [] = D.crash zs := by
  simp only [Dv.crash, List.map_map]
  congr 1
  refine List.map_congr_left (fun b hb => ?_)
  simp only [Function.comp]
  have hp : (b.crash zs).pending = [] := by
    have hc := hf.count (b.crash zs) (List.mem_map.2 ⟨b, hb, rfl⟩)
    exact List.eq_nil_of_length_eq_zero (by simpa [Dv.crash] using hc)
  generalize b.crash zs = d at *
  obtain ⟨d1, d2, d3, d4⟩ := d
  simp only at hp
  subst hp
  rfl
end
end Go.Proofs.Ytmfkbddfjfjfkaa
