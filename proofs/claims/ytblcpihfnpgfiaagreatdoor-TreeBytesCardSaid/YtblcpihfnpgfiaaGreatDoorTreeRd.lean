/- What the reader of a tree makes of bytes, as a function; a tree's bytes. No program. No conditions beyond those in each statement. -/
import Derived.Test.YtblcpihfnpgfiaaGreatDoorTreeGen
import Derived.Test.YtblcpihfnpgfiaaGreatDoorTreeUpOk
import Derived.Test.YtblcpihfnpgfiaaGreatDoorTreeDel
namespace Go.Proofs.YtblcpihfnpgfiaaGreatDoor
open Go.RowKit Go.Maps
set_option linter.unusedVariables false
set_option linter.unusedSimpArgs false
set_option maxRecDepth 100000

/-- A node's bytes; a tree's. -/
def entE (e : Me) : List UInt8 := textE e.1 ++ (textE e.2.data.data.toList ++ (numE e.2.ver ++ (numE e.2.below ++ (numE e.2.owner ++ (numE e.2.made ++ (numE e.2.put ++ numE e.2.serial))))))
def layE (L : List Me) : List UInt8 := numE (L.length : Int) ++ L.flatMap entE
/-- A node as it is read. -/
def rdNd (st : RS) : Me × RS :=
  let s := textF 60 st
  let d := textF 60 s.2
  let a := numF 6 281474976710655 d.2
  let b := numF 6 281474976710655 a.2
  let c := numF 6 281474976710655 b.2
  let e := numF 6 281474976710655 c.2
  let f := numF 6 281474976710655 e.2
  let g := numF 6 281474976710655 f.2
  ((s.1, ⟨bs d.1, a.1, b.1, c.1, e.1, f.1, g.1⟩), g.2)
def fitsT (T : List UInt8 → Option Nd) (s : List UInt8) (n : Nd) : Bool := if s = [47] then n.owner == 0 else (placeN T s n.data).2.2 == 0
def lastK (L : List Me) : List UInt8 := (L.getLast?.map (·.1)).getD []
structure Trs where
  T : List UInt8 → Option Nd
  L : List Me
  st : RS
def goodK (T : List UInt8 → Option Nd) (L : List Me) (e : Me) : Bool := Op.bytesLess (lastK L) e.1 && fitsT T e.1 e.2
/-- So many nodes, behind those that have been read. -/
def rdN : Nat → (List UInt8 → Option Nd) → List Me → RS → Trs
  | 0, T, L, st => ⟨T, L, st⟩
  | n + 1, T, L, st => if goodK T L (rdNd st).1 = true then rdN n (updN T (rdNd st).1.1 (some (rdNd st).1.2)) (L ++ [(rdNd st).1]) (rdNd st).2 else ⟨T, L, none⟩
def readT (st : RS) : Trs :=
  let r := rdN (numF 6 60 st).1.toNat (fun _ => none) [] (numF 6 60 st).2
  let s := if r.L.length = 0 then none else r.st
  if okF s then ⟨r.T, r.L, s⟩ else ⟨rootT, [([47], Nd.zero)], s⟩
/-- Numbers and texts that can be encoded. -/
structure NdOk (n : Nd) : Prop where
  data : n.data.size ≤ 60
  ver : 0 ≤ n.ver ∧ n.ver ≤ 281474976710655
  below : 0 ≤ n.below ∧ n.below ≤ 281474976710655
  owner : 0 ≤ n.owner ∧ n.owner ≤ 281474976710655
  made : 0 ≤ n.made ∧ n.made ≤ 281474976710655
  put : 0 ≤ n.put ∧ n.put ≤ 281474976710655
  serial : 0 ≤ n.serial ∧ n.serial ≤ 281474976710655
theorem NdOk.zero : NdOk Nd.zero := ⟨by decide, by decide, by decide, by decide, by decide, by decide, by decide⟩
theorem rdNd_ok (st : RS) : NdOk (rdNd st).1.2 ∧ (rdNd st).1.1.length ≤ 60 := by
  unfold rdNd
  refine ⟨⟨?_, numF_most _ _ (by decide), numF_most _ _ (by decide), numF_most _ _ (by decide), numF_most _ _ (by decide), numF_most _ _ (by decide), numF_most _ _ (by decide)⟩, textF_len 60 st⟩
  simp only
  rw [bs_size]; exact textF_len 60 _
theorem entE_form (e : Me) (r : List UInt8) : entE e ++ r = textE e.1 ++ (textE e.2.data.data.toList ++ (numE e.2.ver ++ (numE e.2.below ++ (numE e.2.owner ++ (numE e.2.made ++ (numE e.2.put ++ (numE e.2.serial ++ r))))))) := by
  unfold entE; simp only [List.append_assoc]
theorem rdNd_some {st : RS} {l' : List UInt8} (h : (rdNd st).2 = some l') : ∃ l, st = some l ∧ l = entE (rdNd st).1 ++ l' := by
  unfold rdNd at h ⊢
  simp only at h ⊢
  obtain ⟨l7, e7, f7, _⟩ := numF_some (by decide) h
  obtain ⟨l6, e6, f6, _⟩ := numF_some (by decide) e7
  obtain ⟨l5, e5, f5, _⟩ := numF_some (by decide) e6
  obtain ⟨l4, e4, f4, _⟩ := numF_some (by decide) e5
  obtain ⟨l3, e3, f3, _⟩ := numF_some (by decide) e4
  obtain ⟨l2, e2, f2, _⟩ := numF_some (by decide) e3
  obtain ⟨l1, e1, f1, _⟩ := textF_some (by decide) e2
  obtain ⟨l0, e0, f0, _⟩ := textF_some (by decide) e1
  refine ⟨l0, e0, ?_⟩
  rw [entE_form]
  simp only
  rw [bs_list, ← f7, ← f6, ← f5, ← f4, ← f3, ← f2, ← f1, ← f0]
theorem rdNd_good (e : Me) (r : List UInt8) (h : NdOk e.2) (hl : e.1.length ≤ 60) : rdNd (some (entE e ++ r)) = (e, some r) := by
  rw [entE_form]
  unfold rdNd
  rw [textF_good _ _ _ (by omega) (by decide)]
  simp only
  rw [textF_good _ _ _ (by rw [← Lib.size_eq]; have := h.data; omega) (by decide)]
  simp only
  rw [numF_good _ _ _ h.ver.1 h.ver.2 (by decide)]
  simp only
  rw [numF_good _ _ _ h.below.1 h.below.2 (by decide)]
  simp only
  rw [numF_good _ _ _ h.owner.1 h.owner.2 (by decide)]
  simp only
  rw [numF_good _ _ _ h.made.1 h.made.2 (by decide)]
  simp only
  rw [numF_good _ _ _ h.put.1 h.put.2 (by decide)]
  simp only
  rw [numF_good _ _ _ h.serial.1 h.serial.2 (by decide)]
  rw [bs_of]
/-- What a tree that is read keeps. -/
structure TrOk (T : List UInt8 → Option Nd) (L : List Me) : Prop where
  rep : Rep T L
  keys : KeysOk T
  par : ParOk T
  nd : ∀ x n, T x = some n → NdOk n
theorem TrOk.empty : TrOk (fun _ => none) [] := ⟨⟨by simp, fun x n => by simp, by simp⟩, fun x n h => (by cases h), fun x n h => (by cases h), fun x n h => (by cases h)⟩
theorem TrOk.root : TrOk rootT [([47], Nd.zero)] := ⟨Rep.root, KeysOk.root, (fun x n hx hr => by
    unfold rootT at hx; rw [updN_other hr] at hx; cases hx), fun x n hx => by
    unfold rootT at hx
    by_cases e : x = [47]
    · subst e; rw [updN_same] at hx; injection hx with hx; rw [← hx]; exact NdOk.zero
    · rw [updN_other e] at hx; cases hx⟩
theorem less_last {L : List Me} (h : (L.map (·.1)).Pairwise (fun a b => a < b)) {s : List UInt8} (hs : lastK L < s) : ∀ e ∈ L, e.1 < s := by
  intro e he
  rcases List.eq_nil_or_concat L with h0 | ⟨M, x, h0⟩
  · rw [h0] at he; cases he
  · have hx : lastK L = x.1 := by unfold lastK; rw [h0]; simp
    rw [hx] at hs
    rw [h0] at he h
    rw [List.concat_eq_append] at he h
    rcases List.mem_append.1 he with h1 | h1
    · have hp := List.pairwise_map.1 h
      exact ltL_trans ((List.pairwise_append.1 hp).2.2 e h1 x (by simp)) hs
    · rw [List.mem_singleton.1 h1]; exact hs
theorem goodK_parts {T : List UInt8 → Option Nd} {L : List Me} {e : Me} (h : goodK T L e = true) : lastK L < e.1 ∧ fitsT T e.1 e.2 = true := by
  unfold goodK at h
  rw [Bool.and_eq_true, bytesLess_eq] at h
  exact ⟨of_decide_eq_true h.1, h.2⟩
theorem place_zero {T : List UInt8 → Option Nd} {z : List UInt8} {d : ByteArray} (h : (placeN T z d).2.2 = 0) : checkL z = true ∧ z ≠ [47] ∧ d.size ≤ 60 ∧ ∃ p, T (upP z) = some p ∧ p.owner = 0 := by
  unfold placeN at h
  by_cases h1 : checkL z = false
  · rw [if_pos h1] at h; cases h
  rw [if_neg h1] at h
  have h1' : checkL z = true := by cases hh : checkL z; exact absurd hh h1; rfl
  by_cases h2 : z = [47]
  · rw [if_pos h2] at h; cases h
  rw [if_neg h2] at h
  by_cases h3 : 60 < d.size
  · rw [if_pos h3] at h; cases h
  rw [if_neg h3] at h
  by_cases h4 : (getN T (upP z)).2 ≠ 0
  · rw [if_pos h4] at h; exact absurd h h4
  rw [if_neg h4] at h
  by_cases h5 : (getN T (upP z)).1.owner ≠ 0
  · rw [if_pos h5] at h; cases h
  refine ⟨h1', h2, by omega, ?_⟩
  have h6 : (getN T (upP z)).2 = 0 := by omega
  have h7 : (getN T (upP z)).1.owner = 0 := by
    by_cases h8 : (getN T (upP z)).1.owner = 0
    · exact h8
    · exact absurd h8 h5
  unfold getN at h6 h7
  rw [check_up h1' h2] at h6 h7
  cases hT : T (upP z) with
  | none => rw [hT] at h6; cases h6
  | some p => rw [hT] at h7; exact ⟨p, rfl, h7⟩
theorem TrOk.step {T : List UInt8 → Option Nd} {L : List Me} (h : TrOk T L) {e : Me} (hg : goodK T L e = true) (hn : NdOk e.2) : TrOk (updN T e.1 (some e.2)) (L ++ [e]) := by
  obtain ⟨hlt, hf⟩ := goodK_parts hg
  have hall := less_last h.rep.sorted hlt
  have hnot : e.1 ∉ L.map (·.1) := fun hm => by
    obtain ⟨x, hx, he⟩ := List.mem_map.1 hm
    exact ltL_ne (hall x hx) he
  have hTn : T e.1 = none := by
    cases hT : T e.1 with
    | none => rfl
    | some n => exact absurd (List.mem_map_of_mem (f := (·.1)) ((h.rep.mem _ _).1 hT)) hnot
  have hck : checkL e.1 = true ∧ (e.1 ≠ [47] → ∃ p, T (upP e.1) = some p) := by
    unfold fitsT at hf
    by_cases h1 : e.1 = [47]
    · exact ⟨by rw [h1]; exact root_check, fun h2 => absurd h1 h2⟩
    · rw [if_neg h1] at hf
      obtain ⟨h2, _, _, p, hp, _⟩ := place_zero (by simpa using hf)
      exact ⟨h2, fun _ => ⟨p, hp⟩⟩
  refine ⟨⟨?_, fun x m => ?_, ?_⟩, h.keys.upd hck.1 _, fun x m hx hr => ?_, fun x m hx => ?_⟩
  · rw [List.map_append, List.map_cons, List.map_nil, List.nodup_append]
    refine ⟨h.rep.nodup, by simp, fun a ha b hb => ?_⟩
    rw [List.mem_singleton.1 hb]
    rintro rfl; exact hnot ha
  · by_cases hx : x = e.1
    · subst hx
      rw [updN_same]
      constructor
      · intro h1; injection h1 with h1; rw [← h1]; simp
      · intro h1
        rcases List.mem_append.1 h1 with h2 | h2
        · exact absurd (List.mem_map_of_mem (f := (·.1)) h2) hnot
        · have := List.mem_singleton.1 h2; rw [← this]
    · rw [updN_other hx, h.rep.mem x m, List.mem_append]
      constructor
      · exact .inl
      · rintro (h1 | h1)
        · exact h1
        · have := List.mem_singleton.1 h1; exact absurd (by rw [← this]) hx
  · refine List.pairwise_map.2 (List.pairwise_append.2 ⟨List.pairwise_map.1 h.rep.sorted, by simp, fun a ha b hb => ?_⟩)
    rw [List.mem_singleton.1 hb]; exact hall a ha
  · have up : ∀ y p, T y = some p → ∃ q, updN T e.1 (some e.2) y = some q := fun y p hy => by
      by_cases h1 : y = e.1
      · exact ⟨_, by rw [h1, updN_same]⟩
      · exact ⟨p, by rw [updN_other h1]; exact hy⟩
    by_cases h1 : x = e.1
    · subst h1
      obtain ⟨p, hp⟩ := hck.2 hr
      exact up _ p hp
    · rw [updN_other h1] at hx
      obtain ⟨p, hp⟩ := h.par x m hx hr
      exact up _ p hp
  · by_cases h1 : x = e.1
    · rw [h1, updN_same] at hx; injection hx with hx; rw [← hx]; exact hn
    · rw [updN_other h1] at hx; exact h.nd x m hx
theorem rdN_ok : ∀ (n : Nat) (T : List UInt8 → Option Nd) (L : List Me) (st : RS), TrOk T L → TrOk (rdN n T L st).T (rdN n T L st).L
  | 0, T, L, st, h => h
  | n + 1, T, L, st, h => by
    unfold rdN
    by_cases hg : goodK T L (rdNd st).1 = true
    · rw [if_pos hg]; exact rdN_ok n _ _ _ (h.step hg (rdNd_ok st).1)
    · rw [if_neg hg]; exact h
theorem rdN_len : ∀ (n : Nat) (T : List UInt8 → Option Nd) (L : List Me) (st : RS), (rdN n T L st).L.length ≤ L.length + n
  | 0, T, L, st => Nat.le_refl _
  | n + 1, T, L, st => by
    unfold rdN
    by_cases hg : goodK T L (rdNd st).1 = true
    · rw [if_pos hg]
      have := rdN_len n (updN T (rdNd st).1.1 (some (rdNd st).1.2)) (L ++ [(rdNd st).1]) (rdNd st).2
      rw [List.length_append, List.length_singleton] at this; omega
    · rw [if_neg hg]; exact Nat.le_add_right _ _
theorem rdN_some : ∀ (n : Nat) (T : List UInt8 → Option Nd) (L : List Me) (st : RS) {r : List UInt8}, (rdN n T L st).st = some r → ∃ t M, st = some t ∧ (rdN n T L st).L = L ++ M ∧ M.length = n ∧ t = M.flatMap entE ++ r
  | 0, T, L, st, r, h => ⟨r, [], h, by simp [rdN], rfl, by simp⟩
  | n + 1, T, L, st, r, h => by
    unfold rdN at h ⊢
    by_cases hg : goodK T L (rdNd st).1 = true
    · rw [if_pos hg] at h ⊢
      obtain ⟨t, M, h1, h2, h3, h4⟩ := rdN_some n _ _ _ h
      obtain ⟨l, h5, h6⟩ := rdNd_some h1
      refine ⟨l, (rdNd st).1 :: M, h5, by rw [h2, List.append_assoc]; rfl, by rw [List.length_cons, h3], ?_⟩
      rw [List.flatMap_cons, List.append_assoc, ← h4]; exact h6
    · rw [if_neg hg] at h; cases h
theorem readT_ok (st : RS) : TrOk (readT st).T (readT st).L ∧ (readT st).L.length ≤ 60 ∧ 1 ≤ (readT st).L.length := by
  have h1 := rdN_ok (numF 6 60 st).1.toNat (fun _ => none) [] (numF 6 60 st).2 TrOk.empty
  have h2 := rdN_len (numF 6 60 st).1.toNat (fun _ => none) [] (numF 6 60 st).2
  have h3 := numF_most st 60 (by decide)
  unfold readT
  simp only
  generalize rdN (numF 6 60 st).1.toNat (fun _ => none) [] (numF 6 60 st).2 = R at h1 h2 ⊢
  simp only [List.length_nil] at h2
  by_cases h0 : R.L.length = 0
  · rw [if_pos h0]
    exact ⟨TrOk.root, (by decide : (1 : Nat) ≤ 60), (by decide : (1 : Nat) ≤ 1)⟩
  · rw [if_neg h0]
    cases hs : okF R.st
    · exact ⟨TrOk.root, (by decide : (1 : Nat) ≤ 60), (by decide : (1 : Nat) ≤ 1)⟩
    · exact ⟨h1, by show R.L.length ≤ 60; omega, by show 1 ≤ R.L.length; omega⟩
theorem readT_some {st : RS} {r : List UInt8} (h : (readT st).st = some r) : ∃ t, st = some t ∧ t = layE (readT st).L ++ r := by
  unfold readT at h ⊢
  simp only at h ⊢
  have h0 := fun r' => rdN_some (numF 6 60 st).1.toNat (fun _ => none) [] (numF 6 60 st).2 (r := r')
  have h3 := numF_most st 60 (by decide)
  generalize hR : rdN (numF 6 60 st).1.toNat (fun _ => none) [] (numF 6 60 st).2 = R at h h0 ⊢
  by_cases hl : R.L.length = 0
  · rw [if_pos hl] at h; cases h
  · rw [if_neg hl] at h ⊢
    cases hs : R.st with
    | none => rw [hs] at h; cases h
    | some r2 =>
      rw [hs] at h
      have hr : r2 = r := by
        have : (some r2 : RS) = some r := h
        injection this
      subst hr
      obtain ⟨t, M, h1, h2, h4, h5⟩ := h0 r2 hs
      obtain ⟨l, h6, h7, _⟩ := numF_some (by decide) h1
      refine ⟨l, h6, ?_⟩
      show l = layE R.L ++ r2
      unfold layE
      rw [h2, List.nil_append, h4, List.append_assoc, ← h5, Int.toNat_of_nonneg h3.1]
      exact h7
theorem readT_fail {st : RS} (h : okF (readT st).st = false) : (readT st).T = rootT ∧ (readT st).L = [([47], Nd.zero)] := by
  unfold readT at h ⊢
  simp only at h ⊢
  generalize (if (rdN (numF 6 60 st).1.toNat (fun _ => none) [] (numF 6 60 st).2).L.length = 0 then none else (rdN (numF 6 60 st).1.toNat (fun _ => none) [] (numF 6 60 st).2).st) = s at h ⊢
  cases hs : okF s
  · exact ⟨rfl, rfl⟩
  · rw [hs] at h
    exact absurd h (by show ¬ okF s = false; rw [hs]; decide)
end Go.Proofs.YtblcpihfnpgfiaaGreatDoor
