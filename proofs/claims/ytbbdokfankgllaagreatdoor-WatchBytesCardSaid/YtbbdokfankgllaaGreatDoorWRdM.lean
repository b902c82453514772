/- What the reader of a book makes of bytes, as functions. No program. No conditions beyond those in each statement. -/
import Derived.Test.YtbbdokfankgllaaGreatDoorWGen
import Derived.Test.YtbbdokfankgllaaGreatDoorWLt
import Derived.Sort.QuietIn
namespace Go.Proofs.YtbbdokfankgllaaGreatDoor
open Go.RowKit Go.Maps
set_option linter.unusedVariables false
set_option linter.unusedSimpArgs false
set_option maxRecDepth 100000

def numS (st : RS) : Int × RS := numF 6 281474976710655 st
theorem numS_bd (st : RS) : 0 ≤ (numS st).1 ∧ (numS st).1 ≤ 281474976710655 := numF_most _ _ (by decide)
theorem numS_some {st : RS} {l' : List UInt8} (h : (numS st).2 = some l') : ∃ l, st = some l ∧ l = numE (numS st).1 ++ l' := by
  obtain ⟨l, h1, h2, _⟩ := numF_some (by decide) h
  exact ⟨l, h1, h2⟩
/-- The last numbers: so many more, behind those that have been read. -/
structure Las where
  N : Int → Option Int
  L : List (Int × Int)
  st : RS
def lastZ (L : List (Int × Int)) : Int := (L.getLast?.map (·.1)).getD 0
def rdLs : Nat → (Int → Option Int) → List (Int × Int) → RS → Las
  | 0, N, L, st => ⟨N, L, st⟩
  | n + 1, N, L, st => if (numS st).1 ≤ lastZ L then ⟨N, L, none⟩ else rdLs n (updN N (numS st).1 (some (numS (numS st).2).1)) (L ++ [((numS st).1, (numS (numS st).2).1)]) (numS (numS st).2).2
def readLs (st : RS) : Las := rdLs (numF 6 1024 st).1.toNat (fun _ => none) [] (numF 6 1024 st).2
theorem lastZ_snoc (L : List (Int × Int)) (e : Int × Int) : lastZ (L ++ [e]) = e.1 := by unfold lastZ; simp
theorem rdLs_bad {n : Nat} {N : Int → Option Int} {L : List (Int × Int)} {st : RS} (h : (numS st).1 ≤ lastZ L) : rdLs (n + 1) N L st = ⟨N, L, none⟩ := by rw [rdLs, if_pos h]
theorem rdLs_good {n : Nat} {N : Int → Option Int} {L : List (Int × Int)} {st : RS} (h : ¬ (numS st).1 ≤ lastZ L) : rdLs (n + 1) N L st = rdLs n (updN N (numS st).1 (some (numS (numS st).2).1)) (L ++ [((numS st).1, (numS (numS st).2).1)]) (numS (numS st).2).2 := by rw [rdLs, if_neg h]
/-- The last numbers that were read: rising sessions, each with its number. -/
structure LsOk (N : Int → Option Int) (L : List (Int × Int)) : Prop where
  up : (L.map (·.1)).Pairwise (· < ·)
  mem : ∀ x v, N x = some v ↔ (x, v) ∈ L
  pos : ∀ e ∈ L, 0 < e.1 ∧ e.1 ≤ lastZ L ∧ e.1 ≤ 281474976710655 ∧ 0 ≤ e.2 ∧ e.2 ≤ 281474976710655
  nn : 0 ≤ lastZ L
theorem LsOk.nil : LsOk (fun _ => none) [] := ⟨List.Pairwise.nil, fun x v => by simp, fun e h => (by cases h), by decide⟩
theorem LsOk.step {N : Int → Option Int} {L : List (Int × Int)} {x v : Int} (h : LsOk N L) (hx : ¬ x ≤ lastZ L) (h1 : x ≤ 281474976710655) (h2 : 0 ≤ v ∧ v ≤ 281474976710655) : LsOk (updN N x (some v)) (L ++ [(x, v)]) := by
  have hn := h.nn
  refine ⟨?_, fun y u => ?_, fun e he => ?_, by rw [lastZ_snoc]; show 0 ≤ x; omega⟩
  · rw [List.map_append]
    refine List.pairwise_append.2 ⟨h.up, by simp, fun a ha b hb => ?_⟩
    simp at hb
    subst hb
    obtain ⟨e, he, rfl⟩ := List.mem_map.1 ha
    have := (h.pos e he).2.1
    omega
  · rw [List.mem_append, List.mem_singleton]
    by_cases hy : y = x
    · subst hy
      rw [updN_same]
      constructor
      · intro e; injection e with e; exact .inr (by rw [e])
      · rintro (e | e)
        · have := (h.pos _ e).2.1; omega
        · injection e with _ e; rw [e]
    · rw [updN_other hy, h.mem]
      constructor
      · exact .inl
      · rintro (e | e)
        · exact e
        · injection e with e _; exact absurd e hy
  · rw [lastZ_snoc]
    rcases List.mem_append.1 he with he | he
    · have := h.pos e he; omega
    · obtain rfl := List.mem_singleton.1 he
      simp only
      omega
def lsE (L : List (Int × Int)) : List UInt8 := L.flatMap fun e => numE e.1 ++ numE e.2
theorem lsE_snoc (L : List (Int × Int)) (e : Int × Int) : lsE (L ++ [e]) = lsE L ++ (numE e.1 ++ numE e.2) := by simp [lsE]
/-- What was read is what was there. -/
theorem rdLs_some : ∀ (n : Nat) (N : Int → Option Int) (L : List (Int × Int)) (st : RS) (l' : List UInt8), LsOk N L → (rdLs n N L st).st = some l' → ∃ l M, st = some l ∧ (rdLs n N L st).L = L ++ M ∧ M.length = n ∧ l = lsE M ++ l' ∧ LsOk (rdLs n N L st).N (rdLs n N L st).L
  | 0, N, L, st, l', h, hs => ⟨l', [], hs, by simp [rdLs], rfl, by simp [lsE], h⟩
  | n + 1, N, L, st, l', h, hs => by
    by_cases hb : (numS st).1 ≤ lastZ L
    · rw [rdLs_bad hb] at hs; cases hs
    · rw [rdLs_good hb] at hs ⊢
      obtain ⟨l, M, h1, h2, h3, h4, h5⟩ := rdLs_some n _ _ _ l' (h.step hb (numS_bd st).2 (numS_bd _)) hs
      obtain ⟨m1, e1, e2⟩ := numS_some h1
      obtain ⟨m2, e3, e4⟩ := numS_some e1
      refine ⟨m2, ((numS st).1, (numS (numS st).2).1) :: M, e3, by rw [h2]; simp, by simp [h3], ?_, h5⟩
      rw [e4, e2, h4]
      simp [lsE]
/-- The events: so many more. -/
structure Evs where
  L : List Ev
  st : RS
def rdEv (st : RS) : Ev × RS :=
  let a := numS st
  let b := numS a.2
  let c := textF 60 b.2
  let d := numF 6 4 c.2
  let e := numS d.2
  (⟨a.1, b.1, bs c.1, d.1, e.1⟩, e.2)
def rdEs : Nat → List Ev → RS → Evs
  | 0, L, st => ⟨L, st⟩
  | n + 1, L, st => rdEs n (L ++ [(rdEv st).1]) (rdEv st).2
def readEs (st : RS) : Evs := rdEs (numF 6 1024 st).1.toNat [] (numF 6 1024 st).2
def evE (x : Ev) : List UInt8 := numE x.ses ++ (numE x.no ++ (textE x.path.data.toList ++ (numE x.what ++ numE x.when)))
structure EvOk (x : Ev) : Prop where
  ses : 0 ≤ x.ses ∧ x.ses ≤ 281474976710655
  no : 0 ≤ x.no ∧ x.no ≤ 281474976710655
  path : x.path.size ≤ 60
  what : 0 ≤ x.what ∧ x.what ≤ 4
  when : 0 ≤ x.when ∧ x.when ≤ 281474976710655
theorem rdEv_ok (st : RS) : EvOk (rdEv st).1 := by
  unfold rdEv
  refine ⟨numS_bd _, numS_bd _, ?_, numF_most _ _ (by decide), numS_bd _⟩
  simp only
  rw [bs_size]; exact textF_len 60 _
theorem rdEv_some {st : RS} {l' : List UInt8} (h : (rdEv st).2 = some l') : ∃ l, st = some l ∧ l = evE (rdEv st).1 ++ l' := by
  unfold rdEv at h ⊢
  simp only at h ⊢
  obtain ⟨l4, e4, f4⟩ := numS_some h
  obtain ⟨l3, e3, f3, _⟩ := numF_some (by decide) e4
  obtain ⟨l2, e2, f2, _⟩ := textF_some (by decide) e3
  obtain ⟨l1, e1, f1⟩ := numS_some e2
  obtain ⟨l0, e0, f0⟩ := numS_some e1
  refine ⟨l0, e0, ?_⟩
  unfold evE
  simp only [List.append_assoc]
  rw [bs_list, ← f4, ← f3, ← f2, ← f1, ← f0]
theorem rdEs_some : ∀ (n : Nat) (L : List Ev) (st : RS) (l' : List UInt8), (rdEs n L st).st = some l' → ∃ l M, st = some l ∧ (rdEs n L st).L = L ++ M ∧ M.length = n ∧ l = M.flatMap evE ++ l' ∧ ∀ e ∈ M, EvOk e
  | 0, L, st, l', hs => ⟨l', [], hs, by simp [rdEs], rfl, by simp, by simp⟩
  | n + 1, L, st, l', hs => by
    rw [rdEs] at hs ⊢
    obtain ⟨l, M, h1, h2, h3, h4, h5⟩ := rdEs_some n _ _ l' hs
    obtain ⟨m, e1, e2⟩ := rdEv_some h1
    refine ⟨m, (rdEv st).1 :: M, e1, by rw [h2]; simp, by simp [h3], by rw [e2, h4]; simp, ?_⟩
    intro e he
    rcases List.mem_cons.1 he with rfl | he
    · exact rdEv_ok st
    · exact h5 e he
/-- The watches: so many more. -/
structure Was where
  L : List Wa
  st : RS
def waZ : Wa := ⟨0, ⟨#[]⟩, false, false⟩
def rdWa (st : RS) : Wa × RS :=
  let a := numS st
  let p := textF 60 a.2
  let k := flagF p.2
  let o := flagF k.2
  (⟨a.1, bs p.1, k.1, o.1⟩, o.2)
def lastW (L : List Wa) : Wa := L.getLast?.getD waZ
def goodW (L : List Wa) (x : Wa) : Bool := decide (orderF (lastW L) x < 0) && (addE L x == 0)
def rdWs : Nat → List Wa → RS → Was
  | 0, L, st => ⟨L, st⟩
  | n + 1, L, st => if goodW L (rdWa st).1 = true then rdWs n (L ++ [(rdWa st).1]) (rdWa st).2 else ⟨L, none⟩
def readWs (st : RS) : Was := rdWs (numF 6 40 st).1.toNat [] (numF 6 40 st).2
theorem rdWs_good {n : Nat} {L : List Wa} {st : RS} (h : goodW L (rdWa st).1 = true) : rdWs (n + 1) L st = rdWs n (L ++ [(rdWa st).1]) (rdWa st).2 := by rw [rdWs, if_pos h]
theorem rdWs_bad {n : Nat} {L : List Wa} {st : RS} (h : goodW L (rdWa st).1 = false) : rdWs (n + 1) L st = ⟨L, none⟩ := by rw [rdWs, if_neg (by rw [h]; decide)]
theorem lastW_snoc (L : List Wa) (x : Wa) : lastW (L ++ [x]) = x := by unfold lastW; simp
theorem rdWa_ok (st : RS) : WaOk (rdWa st).1 := by
  unfold rdWa
  refine ⟨numS_bd _, ?_⟩
  simp only
  rw [bs_size]; exact textF_len 60 _
theorem WsOk.all {L : List Wa} (h : WsOk L) {x : Wa} (hx : LtW (lastW L) x) : ∀ y ∈ L, LtW y x := by
  intro y hy
  rcases List.eq_nil_or_concat L with h0 | ⟨M, z, h0⟩
  · rw [h0] at hy; cases hy
  · rw [List.concat_eq_append] at h0
    subst h0
    rw [lastW_snoc] at hx
    rcases List.mem_append.1 hy with h1 | h1
    · exact ((List.pairwise_append.1 h.up).2.2 y h1 z (by simp)).trans hx
    · rw [List.mem_singleton.1 h1]; exact hx
theorem posF_all : ∀ {L : List Wa} {x : Wa}, (∀ y ∈ L, LtW y x) → posF L x = L.length
  | [], x, _ => rfl
  | y :: L, x, h => by
    have ih := posF_all (L := L) (x := x) (fun z hz => h z (by simp [hz]))
    unfold posF at ih ⊢
    rw [List.takeWhile_cons, if_pos (by simpa using orderF_lt.2 (h y (by simp))), List.length_cons, ih, List.length_cons]
theorem goodW_parts {L : List Wa} {x : Wa} (h : goodW L x = true) : LtW (lastW L) x ∧ addE L x = 0 := by
  unfold goodW at h
  rw [Bool.and_eq_true] at h
  exact ⟨orderF_lt.1 (of_decide_eq_true h.1), by simpa using h.2⟩
theorem goodW_add {L : List Wa} {x : Wa} (hL : WsOk L) (h : goodW L x = true) : addL L x = L ++ [x] := by
  obtain ⟨h1, h2⟩ := goodW_parts h
  have hp := posF_all (hL.all h1)
  have hi : isB L x L.length = false := by unfold isB; simp
  unfold addE at h2
  unfold addL
  rw [hp, hi] at h2 ⊢
  by_cases hb : badS x = true
  · rw [if_pos hb] at h2; omega
  rw [if_neg hb] at h2 ⊢
  by_cases hc : checkE x.path.data.toList = 0
  · rw [if_pos hc, if_neg (by decide)] at h2
    by_cases h4 : 40 ≤ L.length
    · rw [if_pos h4] at h2; omega
    · rw [if_pos hc, if_neg (by decide), if_neg h4]; simp
  · rw [if_neg hc] at h2; exact absurd h2 hc
theorem WsOk.step {L : List Wa} {x : Wa} (h : WsOk L) (hg : goodW L x = true) (hx : WaOk x) : WsOk (L ++ [x]) := by
  refine ⟨List.pairwise_append.2 ⟨h.up, by simp, fun a ha b hb => ?_⟩, fun y hy => ?_⟩
  · rw [List.mem_singleton.1 hb]; exact h.all (goodW_parts hg).1 a ha
  · rcases List.mem_append.1 hy with hy | hy
    · exact h.ok y hy
    · rw [List.mem_singleton.1 hy]; exact hx
def waE (x : Wa) : List UInt8 := numE x.ses ++ (textE x.path.data.toList ++ (flagE x.kids ++ flagE x.once))
theorem rdWa_some {st : RS} {l' : List UInt8} (h : (rdWa st).2 = some l') : ∃ l, st = some l ∧ l = waE (rdWa st).1 ++ l' := by
  unfold rdWa at h ⊢
  simp only at h ⊢
  obtain ⟨l3, e3, f3⟩ := flagF_some h
  obtain ⟨l2, e2, f2⟩ := flagF_some e3
  obtain ⟨l1, e1, f1, _⟩ := textF_some (by decide) e2
  obtain ⟨l0, e0, f0⟩ := numS_some e1
  refine ⟨l0, e0, ?_⟩
  unfold waE
  simp only [List.append_assoc]
  rw [bs_list, ← f3, ← f2, ← f1, ← f0]
theorem rdWs_some : ∀ (n : Nat) (L : List Wa) (st : RS) (l' : List UInt8), WsOk L → (rdWs n L st).st = some l' → ∃ l M, st = some l ∧ (rdWs n L st).L = L ++ M ∧ M.length = n ∧ l = M.flatMap waE ++ l' ∧ WsOk (rdWs n L st).L
  | 0, L, st, l', h, hs => ⟨l', [], hs, by simp [rdWs], rfl, by simp, h⟩
  | n + 1, L, st, l', h, hs => by
    cases hb : goodW L (rdWa st).1 with
    | false => rw [rdWs_bad hb] at hs; cases hs
    | true =>
      rw [rdWs_good hb] at hs ⊢
      obtain ⟨l, M, h1, h2, h3, h4, h5⟩ := rdWs_some n _ _ l' (h.step hb (rdWa_ok st)) hs
      obtain ⟨m, e1, e2⟩ := rdWa_some h1
      exact ⟨m, (rdWa st).1 :: M, e1, by rw [h2]; simp, by simp [h3], by rw [e2, h4]; simp, h5⟩
end Go.Proofs.YtbbdokfankgllaaGreatDoor
