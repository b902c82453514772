/- Read of a table. No conditions beyond those in each statement. -/
import Derived.Test.YtckengglamkaaaaSessLay
import Derived.Test.YtckengglamkaaaaPithMath
import Derived.Test.YtckengglamkaaaaPithGood
import Derived.Test.YtckengglamkaaaaSessHead
import Derived.Laws.IdiomStrings
import Derived.Lib.BufferRead
namespace Go.Proofs.Ytckengglamkaaaa
open Go.RowKit Go.Maps Go.Sort
set_option linter.unusedVariables false
set_option maxRecDepth 100000

theorem numF_some {most : Int} {st : RS} {l' : List UInt8} (hm : most ≤ 281474976710655) (h : (numF 6 most st).2 = some l') : ∃ l, st = some l ∧ l = numE (numF 6 most st).1 ++ l' ∧ 0 ≤ (numF 6 most st).1 ∧ (numF 6 most st).1 ≤ most := by
  cases st with
  | none => cases h
  | some l =>
    refine ⟨l, rfl, ?_⟩
    by_cases hc : l.length < 6 ∨ most < (val (l.take 6) : Int)
    · simp only [numF, hc, if_true] at h; cases h
    · simp only [numF, hc, if_false] at h ⊢
      injection h with h
      have h6 : (l.take 6).length = 6 := by rw [List.length_take]; omega
      have hv := val_lt (l.take 6)
      rw [h6] at hv
      have he : numE (val (l.take 6) : Int) = l.take 6 := by
        unfold numE
        have : (min (max (val (l.take 6) : Int) 0) 281474976710655).toNat = val (l.take 6) := by
          have : (256 : Nat) ^ 6 = 281474976710656 := by decide
          omega
        rw [this]
        have := be_val (l.take 6)
        rw [h6] at this; exact this
      rw [he, ← h, List.take_append_drop]
      exact ⟨rfl, by omega, by omega⟩
theorem textF_some {most : Int} {st : RS} {l' : List UInt8} (hm : most ≤ 65535) (h : (textF most st).2 = some l') : ∃ l, st = some l ∧ l = textE (textF most st).1 ++ l' ∧ ((textF most st).1.length : Int) ≤ most := by
  cases st with
  | none => cases h
  | some l =>
    refine ⟨l, rfl, ?_⟩
    unfold textF at h ⊢
    by_cases hc : l.length < 2 ∨ most < (val (l.take 2) : Int)
    · simp only [numF, hc, if_true] at h; cases h
    · simp only [numF, hc, if_false] at h ⊢
      have h2 : (l.take 2).length = 2 := by rw [List.length_take]; omega
      obtain ⟨n, hn⟩ : ∃ n, n = val (l.take 2) := ⟨_, rfl⟩
      rw [← hn] at h hc ⊢
      rw [Int.toNat_natCast] at h ⊢
      by_cases hl : (l.drop 2).length < n
      · simp only [takeF, hl, if_true] at h; cases h
      · simp only [takeF, hl, if_false] at h ⊢
        injection h with h
        have hln : ((l.drop 2).take n).length = n := by rw [List.length_take]; omega
        refine ⟨?_, by rw [hln]; omega⟩
        unfold textE
        rw [List.take_of_length_le (by rw [hln]; omega), hln, ← h]
        have hb := be_val (l.take 2)
        rw [h2, ← hn] at hb
        rw [hb, List.append_assoc, List.take_append_drop, List.take_append_drop]
/-- A table out of a list. -/
def tabS (es : List (Int × Ss)) : Int → Option Ss := es.foldl (fun T e => updS T e.1 (some e.2)) noS
theorem tabS_snoc (es : List (Int × Ss)) (e : Int × Ss) : tabS (es ++ [e]) = updS (tabS es) e.1 (some e.2) := by simp [tabS, List.foldl_append]
def ents (es : List (Int × Ss)) : List UInt8 := es.flatMap fun e => entE e.1 e.2
theorem ents_app (es : List (Int × Ss)) (e : Int × Ss) : ents (es ++ [e]) = ents es ++ entE e.1 e.2 := by simp [ents]
/-- A list that was read: rising from 1 on, up to last; its texts are short. -/
structure AscS (es : List (Int × Ss)) (last : Int) : Prop where
  asc : (es.map (·.1)).Pairwise (· < ·)
  le : ∀ e ∈ es, e.1 ≤ last
  att : ∀ e ∈ es, tabS es e.1 = some e.2
  mem : ∀ x s, tabS es x = some s → (x, s) ∈ es
  small : ∀ e ∈ es, (0 ≤ e.2.req ∧ e.2.req ≤ 281474976710655) ∧ e.2.ans.size ≤ 400
  pos : 0 ≤ last
theorem AscS.nil : AscS [] 0 := ⟨List.Pairwise.nil, fun e h => (by cases h), fun e h => (by cases h), fun x s h => (by cases h), fun e h => (by cases h), Int.le_refl 0⟩
theorem AscS.snoc {es : List (Int × Ss)} {last : Int} (h : AscS es last) {id : Int} {s : Ss} (h1 : last < id) (h2 : (0 ≤ s.req ∧ s.req ≤ 281474976710655) ∧ s.ans.size ≤ 400) : AscS (es ++ [(id, s)]) id := by
  have hp := h.pos
  refine ⟨?_, fun e he => ?_, fun e he => ?_, fun x t hx => ?_, fun e he => ?_, by omega⟩
  · rw [List.map_append, List.pairwise_append]
    refine ⟨h.asc, by simp, fun a ha b hb => ?_⟩
    obtain ⟨e, he, rfl⟩ := List.mem_map.1 ha
    have := h.le e he
    simp at hb; subst hb; omega
  · rcases List.mem_append.1 he with he | he
    · have := h.le e he; omega
    · rw [List.mem_singleton.1 he]; exact Int.le_refl _
  · rw [tabS_snoc]
    rcases List.mem_append.1 he with he | he
    · have := h.le e he
      rw [updS_other (by show e.1 ≠ id; omega)]; exact h.att e he
    · rw [List.mem_singleton.1 he, updS_same]
  · rw [tabS_snoc] at hx
    by_cases e : x = id
    · subst e; rw [updS_same] at hx; injection hx with hx; rw [← hx]; simp
    · rw [updS_other e] at hx; exact List.mem_append_left _ (h.mem x t hx)
  · rcases List.mem_append.1 he with he | he
    · exact h.small e he
    · rw [List.mem_singleton.1 he]; exact h2
theorem AscS.ids {es : List (Int × Ss)} {last : Int} (h : AscS es last) : IdsOf (tabS es) es.length (es.map (·.1)) := by
  refine ⟨h.asc, fun x => ?_, by simp⟩
  rw [List.mem_map, Option.isSome_iff_exists]
  constructor
  · rintro ⟨e, he, rfl⟩; exact ⟨e.2, h.att e he⟩
  · rintro ⟨s, hs⟩; exact ⟨(x, s), h.mem x s hs, rfl⟩
theorem AscS.lay {es : List (Int × Ss)} {last : Int} (h : AscS es last) : layE (tabS es) (es.map (·.1)) = numE (es.length : Int) ++ ents es := by
  unfold layE ents
  rw [List.length_map, List.flatMap_map]
  congr 1
  have : ∀ l : List (Int × Ss), (∀ e ∈ l, tabS es e.1 = some e.2) → (l.flatMap fun e => entE e.1 ((tabS es e.1).getD Ss.zero)) = l.flatMap fun e => entE e.1 e.2 := by
    intro l
    induction l with
    | nil => intro _; rfl
    | cons e l ih =>
      intro hl
      rw [List.flatMap_cons, List.flatMap_cons, ih (fun x hx => hl x (List.mem_cons_of_mem _ hx)), hl e (List.mem_cons_self ..)]; rfl
  exact this es h.att
/-- What may stand in a list that was read. -/
def OkE (e : Int × Ss) : Prop := 0 < e.1 ∧ e.1 ≤ 281474976710655 ∧ (e.2.req = 0 → e.2.ans = ⟨#[]⟩)
def ValE (es : List (Int × Ss)) (last : Int) : Prop := (∀ e ∈ es, OkE e) ∧ (last = 0 ∨ ∃ e ∈ es, e.1 = last)
/-- A list that has an encoding. -/
def ValS (es : List (Int × Ss)) : Prop := es.length ≤ 16 ∧ (∃ last, AscS es last) ∧ ∀ e ∈ es, OkE e
/-- Whatever list the bytes encode: where the reader is in it. -/
def FullS (l : List UInt8) (N : Nat) (es : List (Int × Ss)) (j : Nat) (st : RS) : Prop :=
  ∀ es0 r, ValS es0 → l = numE (es0.length : Int) ++ ents es0 ++ r → N = es0.length ∧ es = es0.take j ∧ st = some (ents (es0.drop j) ++ r)
theorem ValE.snoc {es : List (Int × Ss)} {last : Int} (h : ValE es last) {id : Int} {s : Ss} (h1 : OkE (id, s)) : ValE (es ++ [(id, s)]) id := by
  refine ⟨fun e he => ?_, .inr ⟨(id, s), by simp, rfl⟩⟩
  rcases List.mem_append.1 he with he | he
  · exact h.1 e he
  · rw [List.mem_singleton.1 he]; exact h1
theorem full_start {l : List UInt8} {N : Nat} (hN : (numF 6 16 (some l)).1 = (N : Int)) : FullS l N [] 0 (numF 6 16 (some l)).2 := by
  intro es0 r hv hl
  have h := numF_good (es0.length : Int) 16 (ents es0 ++ r) (by omega) (by have := hv.1; omega) (by decide)
  rw [← List.append_assoc, ← hl] at h
  rw [h] at hN
  exact ⟨by simp only at hN; omega, by simp, by rw [h]; simp⟩
theorem full_step {l : List UInt8} {N j : Nat} {es : List (Int × Ss)} {st : RS} (h : FullS l N es j st) (hj : j < N) : ∀ es0 r, ValS es0 → l = numE (es0.length : Int) ++ ents es0 ++ r →
    ∃ e0, es0[j]? = some e0 ∧ (numF 6 281474976710655 st).1 = e0.1 ∧ (numF 6 281474976710655 (numF 6 281474976710655 st).2).1 = e0.2.req ∧
      (textF 400 (numF 6 281474976710655 (numF 6 281474976710655 st).2).2).1 = e0.2.ans.data.toList ∧ (textF 400 (numF 6 281474976710655 (numF 6 281474976710655 st).2).2).2 = some (ents (es0.drop (j + 1)) ++ r) := by
  intro es0 r hv hl
  obtain ⟨h1, _, h3⟩ := h es0 r hv hl
  have hjl : j < es0.length := by omega
  obtain ⟨e0, he0⟩ : ∃ e0, e0 = es0[j] := ⟨_, rfl⟩
  have hm : e0 ∈ es0 := by rw [he0]; exact List.getElem_mem hjl
  have hok := hv.2.2 e0 hm
  obtain ⟨last, hA⟩ := hv.2.1
  obtain ⟨⟨r0, r1⟩, a1⟩ := hA.small e0 hm
  have hd : es0.drop j = e0 :: es0.drop (j + 1) := by rw [he0]; exact List.drop_eq_getElem_cons hjl
  have hs : st = some (numE e0.1 ++ (numE e0.2.req ++ (textE e0.2.ans.data.toList ++ (ents (es0.drop (j + 1)) ++ r)))) := by
    rw [h3, hd]; simp [ents, entE]
  refine ⟨e0, by rw [he0, List.getElem?_eq_getElem hjl], ?_⟩
  rw [hs, numF_good _ _ _ (by have := hok.1; omega) hok.2.1 (by decide), numF_good _ _ _ r0 r1 (by decide), textF_good _ _ _ (by rw [← Lib.size_eq]; omega) (by decide)]
  exact ⟨rfl, rfl, rfl, rfl⟩
theorem full_low {l : List UInt8} {N j : Nat} {es : List (Int × Ss)} {st : RS} {last : Int} (h : FullS l N es j st) (hV : ValE es last) {es0 : List (Int × Ss)} {r : List UInt8} (hv : ValS es0) (hl : l = numE (es0.length : Int) ++ ents es0 ++ r) {e0 : Int × Ss} (h0 : es0[j]? = some e0) : last < e0.1 := by
  obtain ⟨_, h2, _⟩ := h es0 r hv hl
  have hm : e0 ∈ es0 := List.mem_of_getElem? h0
  rcases hV.2 with rfl | ⟨e, he, rfl⟩
  · exact (hv.2.2 e0 hm).1
  · rw [h2] at he
    obtain ⟨i, hi⟩ := List.getElem?_of_mem he
    obtain ⟨last', hA⟩ := hv.2.1
    rw [List.getElem?_take] at hi
    split at hi
    · have hp := List.pairwise_iff_getElem.1 hA.asc i j (by rw [List.length_map]; exact (List.getElem?_eq_some_iff.1 hi).1) (by rw [List.length_map]; exact (List.getElem?_eq_some_iff.1 h0).1) (by assumption)
      rw [List.getElem_map, List.getElem_map, (List.getElem?_eq_some_iff.1 hi).2, (List.getElem?_eq_some_iff.1 h0).2] at hp
      exact hp
    · cases hi
theorem full_next {l : List UInt8} {N j : Nat} {es : List (Int × Ss)} {st st' : RS} {id : Int} {s : Ss} (h : FullS l N es j st)
    (hs : ∀ es0 r, ValS es0 → l = numE (es0.length : Int) ++ ents es0 ++ r → ∃ e0, es0[j]? = some e0 ∧ id = e0.1 ∧ s.req = e0.2.req ∧ s.ans = e0.2.ans ∧ st' = some (ents (es0.drop (j + 1)) ++ r)) : FullS l N (es ++ [(id, s)]) (j + 1) st' := by
  intro es0 r hv hl
  obtain ⟨h1, h2, _⟩ := h es0 r hv hl
  obtain ⟨e0, g0, g1, g2, g3, g4⟩ := hs es0 r hv hl
  refine ⟨h1, ?_, g4⟩
  have he : (id, s) = e0 := by
    obtain ⟨a, ⟨b, c⟩⟩ := e0
    obtain ⟨b', c'⟩ := s
    simp only at g1 g2 g3
    rw [g1, g2, g3]
  obtain ⟨hjl, hje⟩ := List.getElem?_eq_some_iff.1 g0
  rw [List.take_succ_eq_append_getElem hjl, ← h2, he, hje]
theorem und_u8 : Try.prog.underlying 5 = some (.int .u8) := by kernel_rfl
theorem run_str {w : World} {v : Value} {l : List UInt8} (h : Src w v l) : (convert 44 9 v).run Try.prog w = .ok (.string ⟨l.toArray⟩) w := by
  obtain ⟨p, cap, rfl, ⟨rfl, rfl, rfl⟩ | ⟨a, rfl, hc⟩⟩ := h
  · exact Lib.run_convert_nil_bytes w 44 9 5 0 und_bytes und_u8 und_string
  · exact run_convert_bytes_back w 44 9 5 a cap l und_bytes und_u8 und_string (fun j hj => hc j _ (by simp [cellsOf, hj]))
/-- What Read leaves. -/
structure ReadS (l : List UInt8) (w0 : Nat) (rb : Nat) (w' : World) (tb mb k c : Nat) (T : Int → Option Ss) (st : RS) : Prop where
  table : TbW w' tb mb k c T
  reader : Rs w' rb st
  few : c ≤ 16
  small : ∀ x s, T x = some s → InR s.req ∧ s.ans.size ≤ 400
  bad : st = none → c = 0
  good : ∀ l', st = some l' → ∃ zs, IdsOf T c zs ∧ l = layE T zs ++ l'
  full : ∀ es0 r, ValS es0 → l = numE (es0.length : Int) ++ ents es0 ++ r → st = some r ∧ T = tabS es0
  good2 : ∀ l', st = some l' → ∃ es, ValS es ∧ T = tabS es ∧ c = es.length ∧ l = numE (es.length : Int) ++ ents es ++ l'
  new : w0 ≤ tb ∧ w0 ≤ mb
theorem strOf (l : List UInt8) : (⟨l.toArray⟩ : ByteArray).size = l.length := by simp [ByteArray.size]
/-- A step of the reading: what was consumed. -/
theorem read_step {l : List UInt8} {N : Int} {es : List (Int × Ss)} {st : RS} (h : ∀ l', st = some l' → l = numE N ++ ents es ++ l') {l' : List UInt8}
    (h' : (textF 400 (numF 6 281474976710655 (numF 6 281474976710655 st).2).2).2 = some l') :
    l = numE N ++ ents (es ++ [((numF 6 281474976710655 st).1, ⟨(numF 6 281474976710655 (numF 6 281474976710655 st).2).1, ⟨(textF 400 (numF 6 281474976710655 (numF 6 281474976710655 st).2).2).1.toArray⟩⟩)]) ++ l' := by
  obtain ⟨l3, h3, e3, _⟩ := textF_some (by decide) h'
  obtain ⟨l2, h2, e2, _⟩ := numF_some (by decide) h3
  obtain ⟨l1, h1, e1, _⟩ := numF_some (by decide) h2
  rw [h l1 h1, ents_app, e1, e2, e3]
  unfold entE
  simp
theorem textF_len (st : RS) : (textF 400 st).1.length ≤ 400 := by
  cases st with
  | none => simp [textF, numF, takeF]
  | some l =>
    unfold textF
    by_cases hc : l.length < 2 ∨ (400 : Int) < (val (l.take 2) : Int)
    · simp only [numF, hc, if_true]; simp [takeF]
    · simp only [numF, hc, if_false]
      have := takeF_len (val (l.take 2)) (some (l.drop 2))
      rw [Int.toNat_natCast]; omega
theorem numF_most (st : RS) (most : Int) (h0 : 0 ≤ most) : 0 ≤ (numF 6 most st).1 ∧ (numF 6 most st).1 ≤ most := by
  cases st with
  | none => exact ⟨Int.le_refl 0, h0⟩
  | some l =>
    by_cases hc : l.length < 6 ∨ most < (val (l.take 6) : Int)
    · simp only [numF, hc, if_true]; exact ⟨Int.le_refl 0, h0⟩
    · simp only [numF, hc, if_false]; omega
theorem TbW.kept {w w' : World} {tb mb k c : Nat} {T : Int → Option Ss} {rb : Nat} (h : TbW w tb mb k c T) (hg : w.grownBy w' (some rb)) (h1 : tb ≠ rb) (h2 : mb ≠ rb) : TbW w' tb mb k c T :=
  ⟨(hg.block tb h.lt (fun e => h1 (Option.some.inj e))).trans h.table, h.map.keep0 (hg.block mb h.map.lt (fun e => h2 (Option.some.inj e)))⟩
set_option maxHeartbeats 8000000 in
theorem sread_any (rb : Nat) (l : List UInt8) (w : World) (h : Rs w rb (some l)) :
    Calls Try.prog 26 #[.pointer (some ⟨rb, 0, none⟩)] w fun e w' => ∃ tb mb k c T st, e = .returned (.pointer (some ⟨tb, 0, none⟩)) ∧ ReadS l w.heap.size rb w' tb mb k c T st ∧ w.grownBy w' (some rb) := by
  have HN := Lib.hid (new_any w)
  have HR := Lib.hid h
  have hrb := h.lt
  clear h
  go_enter Try.func26, Try.ntmps26
  go_wp2_with fail
  refine HN.out.mono ?_
  rintro e w1 ⟨tb, mb, rfl, H1, b1, ht, hm⟩
  have R1 := HR.out.below b1
  have g1 := only_of_below b1 (some rb)
  have HNM := Lib.hid (num_rs rb 16 _ w1 R1)
  rw [show max (16 : Int) 0 = 16 by decide] at HNM
  obtain ⟨N, hN⟩ := Int.eq_ofNat_of_zero_le (numF_most (some l) 16 (by decide)).1
  have hN16 : N ≤ 16 := by have := (numF_most (some l) 16 (by decide)).2; omega
  obtain ⟨st1, hst1⟩ : ∃ st1, st1 = (numF 6 16 (some l)).2 := ⟨_, rfl⟩
  have HST : Hid (∀ l', st1 = some l' → l = numE (N : Int) ++ ents [] ++ l') := Lib.hid (fun l' hl' => by
    rw [hst1] at hl'
    obtain ⟨l0, h0, e0, _⟩ := numF_some (by decide) hl'
    obtain rfl : l = l0 := by injection h0
    rw [hN] at e0; simpa [ents] using e0)
  have HFS : Hid (FullS l N [] 0 st1) := Lib.hid (by rw [hst1]; exact full_start hN)
  rw [hN, ← hst1] at HNM
  clear hN hst1 HN R1 HR
  go_wp2_with fail
  refine HNM.out.mono ?_
  rintro e w2 ⟨rfl, R2, g2⟩
  have H2 := H1.kept g2 (by omega) (by omega)
  have g2' := only_trans g1 g2
  have hbt : tb ≠ rb := by omega
  have hbm : mb ≠ rb := by omega
  clear g2 g1 H1 HNM b1
  go_wp2_with fail
  go_loopw [4, 10] (fun lv iv wr => ∃ (j : Nat) (es : List (Int × Ss)) (last : Int) (st : RS), j ≤ N ∧ es.length = j ∧ lv = .int .i64 last ∧ iv = .int .i64 j ∧ TbW wr tb mb j j (tabS es) ∧ Rs wr rb st ∧ Hid (AscS es last ∧ (∀ l', st = some l' → l = numE (N : Int) ++ ents es ++ l') ∧ ValE es last ∧ FullS l N es j st) ∧ w.grownBy wr (some rb)) (fun _ iv _ => N - (intOf iv).toNat)
  case atStart => exact ⟨0, [], 0, st1, by omega, rfl, rfl, rfl, H2, R2, Lib.hid ⟨AscS.nil, HST.out, ⟨fun e h => (by cases h), .inl rfl⟩, HFS.out⟩, g2'⟩
  case round =>
    obtain ⟨j, es, last, st, hj, hes, rfl, rfl, HT, hR, HI, gk⟩ := hrel
    clear H2 R2 g2'
    by_cases hlt : j < N
    · have hlt2 : decide ((j : Int) < (N : Int)) = true := by simp; omega
      have t2 : IntKind.i64.wrap ((j : Int) + 1) = (j : Int) + 1 := IntWalk.i64_in _ (by omega)
      have q1 := numF_most st 281474976710655 (by decide)
      have q2 := numF_most (numF 6 281474976710655 st).2 281474976710655 (by decide)
      have q3 := textF_len (numF 6 281474976710655 (numF 6 281474976710655 st).2).2
      have hstep := fun l' => read_step (l := l) (N := (N : Int)) (es := es) (st := st) HI.out.2.1 (l' := l')
      have hfull := full_step HI.out.2.2.2 hlt
      have C1 := num_rs rb 281474976710655 st wr hR
      rw [show max (281474976710655 : Int) 0 = 281474976710655 by decide] at C1
      have HC2 := Lib.hid (fun (W : World) (hW : Rs W rb (numF 6 281474976710655 st).2) => num_rs rb 281474976710655 _ W hW)
      rw [show max (281474976710655 : Int) 0 = 281474976710655 by decide] at HC2
      have HC3 := Lib.hid (fun (W : World) (hW : Rs W rb (numF 6 281474976710655 (numF 6 281474976710655 st).2).2) => text_rs rb 400 _ W hW)
      have HC1 := Lib.hid C1
      obtain ⟨id, hid⟩ : ∃ id, id = (numF 6 281474976710655 st).1 := ⟨_, rfl⟩
      obtain ⟨rq, hrq⟩ : ∃ rq, rq = (numF 6 281474976710655 (numF 6 281474976710655 st).2).1 := ⟨_, rfl⟩
      obtain ⟨tx, htx⟩ : ∃ tx, tx = (textF 400 (numF 6 281474976710655 (numF 6 281474976710655 st).2).2).1 := ⟨_, rfl⟩
      obtain ⟨sA, hsA⟩ : ∃ sA, sA = (numF 6 281474976710655 st).2 := ⟨_, rfl⟩
      rw [← hsA] at hrq htx q2 q3 hstep hfull HC1 HC2 HC3
      obtain ⟨sB, hsB⟩ : ∃ sB, sB = (numF 6 281474976710655 sA).2 := ⟨_, rfl⟩
      rw [← hsB] at htx q3 hstep hfull HC2 HC3
      obtain ⟨sC, hsC⟩ : ∃ sC, sC = (textF 400 sB).2 := ⟨_, rfl⟩
      rw [← hsC] at hstep hfull HC3
      rw [← hid] at q1 hstep hfull HC1
      rw [← hrq] at q2 hstep hfull HC2
      rw [← htx] at q3 hstep hfull HC3
      obtain ⟨ts, hts⟩ : ∃ ts : ByteArray, ts = ⟨tx.toArray⟩ := ⟨_, rfl⟩
      have htl : ts.size ≤ 400 := by rw [hts, strOf]; exact q3
      rw [← hts] at hstep HC3
      have HSTEP := Lib.hid hstep
      have HFULL : Hid (∀ es0 r, ValS es0 → l = numE (es0.length : Int) ++ ents es0 ++ r → ∃ e0, es0[j]? = some e0 ∧ id = e0.1 ∧ rq = e0.2.req ∧ ts = e0.2.ans ∧ sC = some (ents (es0.drop (j + 1)) ++ r)) := Lib.hid (fun es0 r hv hl => by
        obtain ⟨e0, a1, a2, a3, a4, a5⟩ := hfull es0 r hv hl
        exact ⟨e0, a1, a2, a3, (by rw [hts, a4]), a5⟩)
      have HT0 := Lib.hid HT
      clear C1 hid hrq htx hsA hsB hsC q3 hts hR hstep hfull HT
      go_wp2_with fail
      refine HC1.out.mono ?_
      rintro e w3 ⟨rfl, R3, g3⟩
      go_wp2_with fail
      refine (HC2.out _ R3).mono ?_
      rintro e w4 ⟨rfl, R4, g4⟩
      go_wp2_with fail
      refine (HC3.out _ R4).mono ?_
      rintro e w5 ⟨rfl, R5, g5⟩
      have gg := only_trans (only_trans g3 g4) g5
      have H5 := HT0.out.kept gg hbt hbm
      have gk5 := only_trans gk gg
      clear R3 R4 g3 g4 g5 HC1 HC2 HC3 gg
      by_cases hil : id ≤ last
      · have d1 : decide (id ≤ last) = true := by simpa using hil
        have R6 := R5.below ((Below.refl _ w5).alloc (Nat.le_refl _) (.cells #[.int .i64 rq, .string ts] 65))
        have g6 := only_alloc gk5 (.cells #[.int .i64 rq, .string ts] 65)
        have HF := Lib.hid (fail_rs rb sC _ R6)
        clear HSTEP HT0 R5 H5 R6 gk5
        go_wp2_with fail
        refine HF.out.mono ?_
        rintro e w7 ⟨rfl, R7, g7⟩
        have g7' := only_trans g6 g7
        have HOK := Lib.hid (ok_rs rb none w7 R7)
        have HRR := Lib.hid R7
        clear R7 g7 g6 HF
        go_wp2_with fail
        refine HOK.out.mono ?_
        rintro e w8 ⟨rfl, rfl⟩
        have HN2 := Lib.hid (new_any w7)
        go_wp2_with fail
        refine HN2.out.mono ?_
        rintro e w9 ⟨tb2, mb2, rfl, H9, b9, ht9, hm9⟩
        go_wp2_with fail
        go_ret
        have := g7'.size
        exact ⟨tb2, mb2, 0, 0, _, none, rfl, ⟨H9, HRR.out.below b9, by omega, fun x s h => (by cases h), fun _ => rfl, fun l' h => (by cases h), fun es0 r hv hl => (by
              obtain ⟨e0, a1, a2, _⟩ := HFULL.out es0 r hv hl
              have := full_low HI.out.2.2.2 HI.out.2.2.1 hv hl a1
              exact absurd this (by rw [← a2]; omega)), fun l' h => (by cases h), by omega, by omega⟩, only_trans g7' (only_of_below b9 _)⟩
      · have d1 : decide (id ≤ last) = false := by simpa using hil
        by_cases hr0 : rq = 0
        · subst hr0
          by_cases hte : ts.size = 0
          · obtain rfl : ts = ⟨#[]⟩ := ByteArray.ext (Array.eq_empty_of_size_eq_zero hte)
            have hAsc := HI.out.1.snoc (id := id) (s := ⟨0, ⟨#[]⟩⟩) (by omega) ⟨⟨by simp only; omega, by simp only; omega⟩, htl⟩
            have HASC := Lib.hid hAsc
            have hnone : (tabS es id).isSome = false := by
              cases hx : tabS es id with
              | none => rfl
              | some s => have := HI.out.1.le (id, s) (HI.out.1.mem id s hx); simp only at this; omega
            have bA := (Below.refl _ w5).alloc (Nat.le_refl _) (.cells #[.int .i64 0, .string ⟨#[]⟩] 65)
            have hsw5 := gk5.size
            have hm5 := H5.map.lt
            have R6 := R5.below bA
            have H6 := H5.below bA
            have g6 := only_alloc gk5 (.cells #[.int .i64 0, .string ⟨#[]⟩] 65)
            have N6 := ssB_new w5 ⟨0, ⟨#[]⟩⟩
            simp only at N6
            obtain ⟨pb, hpb⟩ : ∃ pb, pb = w5.heap.size := ⟨_, rfl⟩
            have hidR : InR id := by unfold InR; omega
            clear R5 H5 gk5 hAsc
            go_upto_region 9 with fail
            obtain ⟨w6, hw6⟩ : ∃ w6, w6 = w5.alloc (.cells #[.int .i64 0, .string ⟨#[]⟩] 65) := ⟨_, rfl⟩
            rw [← hw6] at R6 H6 g6 N6 ⊢
            rw [← hpb] at N6 ⊢
            have hps : pb < w6.heap.size := (Array.getElem?_eq_some_iff.1 N6).1
            have hpg : w.heap.size ≤ pb := by rw [hpb]; exact hsw5
            have htp : pb ≠ mb := by rw [hpb]; omega
            clear hw6 hpb bA
            have H6d := H6.drew
            obtain ⟨hr9, H9, g9⟩ := H6d.run (by omega) id hidR ⟨0, ⟨#[]⟩⟩
            rw [hnone] at H9
            have hr9' : (Instr.mapUpdate 61 (.map (some mb)) (.int .i64 id) (.agg #[.int .i64 0, .string ⟨#[]⟩])).run Try.prog w6.drew = .ok () (stoW mb id ⟨0, ⟨#[]⟩⟩ w6.drew) := hr9
            have N9 := (g9.block pb hps (fun e => htp (Option.some.inj e))).trans (show w6.drew.heap[pb]? = _ from N6)
            have x0 := H6d.cell
            obtain ⟨c0, c1⟩ := ssB_cells (w := w6.drew) (n := ⟨0, ⟨#[]⟩⟩) (b := pb) N6
            have y0 := H9.cell
            obtain ⟨d0, d1'⟩ := ssB_cells (n := ⟨0, ⟨#[]⟩⟩) N9
            simp only at c0 c1 d0 d1'
            have HR6 := Lib.hid R6
            have HH9 := Lib.hid H9
            have hbm6 : mb ≠ rb := hbm
            clear hr9 R6 H6 H9 N9 N6 H6d
            go_region_held3 (fun w' => w'.cell? ⟨tb, 0, none⟩ = some (.map (some mb)) ∧ w'.cell? ⟨pb, 0, none⟩ = some (.int .i64 0) ∧ w'.cell? ⟨pb, 1, none⟩ = some (.string ⟨#[]⟩)) (first | (with_reducible assumption) | (refine ⟨?_, ?_, ?_⟩ <;> with_reducible assumption) | go_keep) (fail)
            have R9 : Rs (stoW mb id ⟨0, ⟨#[]⟩⟩ w6.drew) rb sC := (HR6.out.below ((Below.refl _ w6).drew)).kept g9 (fun e => hbm6 (Option.some.inj e).symm)
            have hsz6 := g6.size
            have g10 : w.grownBy (stoW mb id ⟨0, ⟨#[]⟩⟩ w6.drew) (some rb) := ⟨g9.os.trans g6.os, g9.tape.trans g6.tape, g9.output.trans g6.output, Nat.le_trans g6.size g9.size, fun q hq hne => (g9.block q (by show q < w6.heap.size; omega) (fun e => by have := Option.some.inj e; omega)).trans (g6.block q hq hne)⟩
            have hel : (es ++ [(id, (⟨0, ⟨#[]⟩⟩ : Ss))]).length = j + 1 := by simp; omega
            have HH10 : Hid (TbW (stoW mb id ⟨0, ⟨#[]⟩⟩ w6.drew) tb mb (j + 1) (j + 1) (tabS (es ++ [(id, (⟨0, ⟨#[]⟩⟩ : Ss))]))) := Lib.hid (by rw [tabS_snoc]; exact HH9.out)
            clear g9 hr9' x0 c0 c1 y0 d0 d1'
            go_wp2_with fail
            go_roundw
            case rel => exact ⟨j + 1, es ++ [(id, (⟨0, ⟨#[]⟩⟩ : Ss))], id, sC, by omega, hel, rfl, by go_num, HH10.out, R9, Lib.hid ⟨HASC.out, HSTEP.out, HI.out.2.2.1.snoc ⟨by have := HI.out.1.pos; simp only; omega, q1.2, fun h => rfl⟩, full_next HI.out.2.2.2 HFULL.out⟩, g10⟩
            case measure => simp [intOf]; omega
          · have e2 : ts.toList.isEmpty = false := empty_false hte
            have R6 := R5.below ((Below.refl _ w5).alloc (Nat.le_refl _) (.cells #[.int .i64 0, .string ts] 65))
            have g6 := only_alloc gk5 (.cells #[.int .i64 0, .string ts] 65)
            have HF := Lib.hid (fail_rs rb sC _ R6)
            clear HSTEP HT0 R5 H5 R6 gk5
            go_wp2_with fail
            refine HF.out.mono ?_
            rintro e w7 ⟨rfl, R7, g7⟩
            have g7' := only_trans g6 g7
            have HOK := Lib.hid (ok_rs rb none w7 R7)
            have HRR := Lib.hid R7
            clear R7 g7 g6 HF
            go_wp2_with fail
            refine HOK.out.mono ?_
            rintro e w8 ⟨rfl, rfl⟩
            have HN2 := Lib.hid (new_any w7)
            go_wp2_with fail
            refine HN2.out.mono ?_
            rintro e w9 ⟨tb2, mb2, rfl, H9, b9, ht9, hm9⟩
            go_wp2_with fail
            go_ret
            have := g7'.size
            exact ⟨tb2, mb2, 0, 0, _, none, rfl, ⟨H9, HRR.out.below b9, by omega, fun x s h => (by cases h), fun _ => rfl, fun l' h => (by cases h), fun es0 r hv hl => (by
              obtain ⟨e0, a1, a2, a3, a4, _⟩ := HFULL.out es0 r hv hl
              have := (hv.2.2 e0 (List.mem_of_getElem? a1)).2.2 a3.symm
              exact absurd (show ts.size = 0 by rw [a4, this]; rfl) hte), fun l' h => (by cases h), by omega, by omega⟩, only_trans g7' (only_of_below b9 _)⟩
        · have e1 : (rq == 0) = false := by simpa using hr0
          have hAsc := HI.out.1.snoc (id := id) (s := ⟨rq, ts⟩) (by omega) ⟨⟨by simp only; omega, by simp only; omega⟩, htl⟩
          have HASC := Lib.hid hAsc
          have hnone : (tabS es id).isSome = false := by
            cases hx : tabS es id with
            | none => rfl
            | some s => have := HI.out.1.le (id, s) (HI.out.1.mem id s hx); simp only at this; omega
          have bA := (Below.refl _ w5).alloc (Nat.le_refl _) (.cells #[.int .i64 rq, .string ts] 65)
          have hsw5 := gk5.size
          have hm5 := H5.map.lt
          have R6 := R5.below bA
          have H6 := H5.below bA
          have g6 := only_alloc gk5 (.cells #[.int .i64 rq, .string ts] 65)
          have N6 := ssB_new w5 ⟨rq, ts⟩
          simp only at N6
          obtain ⟨pb, hpb⟩ : ∃ pb, pb = w5.heap.size := ⟨_, rfl⟩
          have hidR : InR id := by unfold InR; omega
          clear R5 H5 gk5 hAsc
          go_upto_region 9 with fail
          obtain ⟨w6, hw6⟩ : ∃ w6, w6 = w5.alloc (.cells #[.int .i64 rq, .string ts] 65) := ⟨_, rfl⟩
          rw [← hw6] at R6 H6 g6 N6 ⊢
          rw [← hpb] at N6 ⊢
          have hps : pb < w6.heap.size := (Array.getElem?_eq_some_iff.1 N6).1
          have hpg : w.heap.size ≤ pb := by rw [hpb]; exact hsw5
          have htp : pb ≠ mb := by rw [hpb]; omega
          clear hw6 hpb bA
          have H6d := H6.drew
          obtain ⟨hr9, H9, g9⟩ := H6d.run (by omega) id hidR ⟨rq, ts⟩
          rw [hnone] at H9
          have hr9' : (Instr.mapUpdate 61 (.map (some mb)) (.int .i64 id) (.agg #[.int .i64 rq, .string ts])).run Try.prog w6.drew = .ok () (stoW mb id ⟨rq, ts⟩ w6.drew) := hr9
          have N9 := (g9.block pb hps (fun e => htp (Option.some.inj e))).trans (show w6.drew.heap[pb]? = _ from N6)
          have x0 := H6d.cell
          obtain ⟨c0, c1⟩ := ssB_cells (w := w6.drew) (n := ⟨rq, ts⟩) (b := pb) N6
          have y0 := H9.cell
          obtain ⟨d0, d1'⟩ := ssB_cells (n := ⟨rq, ts⟩) N9
          simp only at c0 c1 d0 d1'
          have HR6 := Lib.hid R6
          have HH9 := Lib.hid H9
          have hbm6 : mb ≠ rb := hbm
          clear hr9 R6 H6 H9 N9 N6 H6d
          go_region_held3 (fun w' => w'.cell? ⟨tb, 0, none⟩ = some (.map (some mb)) ∧ w'.cell? ⟨pb, 0, none⟩ = some (.int .i64 rq) ∧ w'.cell? ⟨pb, 1, none⟩ = some (.string ts)) (first | (with_reducible assumption) | (refine ⟨?_, ?_, ?_⟩ <;> with_reducible assumption) | go_keep) (fail)
          have R9 : Rs (stoW mb id ⟨rq, ts⟩ w6.drew) rb sC := (HR6.out.below ((Below.refl _ w6).drew)).kept g9 (fun e => hbm6 (Option.some.inj e).symm)
          have hsz6 := g6.size
          have g10 : w.grownBy (stoW mb id ⟨rq, ts⟩ w6.drew) (some rb) := ⟨g9.os.trans g6.os, g9.tape.trans g6.tape, g9.output.trans g6.output, Nat.le_trans g6.size g9.size, fun q hq hne => (g9.block q (by show q < w6.heap.size; omega) (fun e => by have := Option.some.inj e; omega)).trans (g6.block q hq hne)⟩
          have hel : (es ++ [(id, (⟨rq, ts⟩ : Ss))]).length = j + 1 := by simp; omega
          have HH10 : Hid (TbW (stoW mb id ⟨rq, ts⟩ w6.drew) tb mb (j + 1) (j + 1) (tabS (es ++ [(id, (⟨rq, ts⟩ : Ss))]))) := Lib.hid (by rw [tabS_snoc]; exact HH9.out)
          clear g9 hr9' x0 c0 c1 y0 d0 d1'
          go_wp2_with fail
          go_roundw
          case rel => exact ⟨j + 1, es ++ [(id, (⟨rq, ts⟩ : Ss))], id, sC, by omega, hel, rfl, by go_num, HH10.out, R9, Lib.hid ⟨HASC.out, HSTEP.out, HI.out.2.2.1.snoc ⟨by have := HI.out.1.pos; simp only; omega, q1.2, fun h => absurd h hr0⟩, full_next HI.out.2.2.2 HFULL.out⟩, g10⟩
          case measure => simp [intOf]; omega
    · obtain rfl : j = N := by omega
      have hlt2 : decide ((j : Int) < (j : Int)) = false := by simp
      have HOK := Lib.hid (ok_rs rb st wr hR)
      have HRR := Lib.hid hR
      have HTT := Lib.hid HT
      clear HT hR
      cases st with
      | none =>
        go_wp2_with fail
        refine HOK.out.mono ?_
        rintro e w3 ⟨rfl, rfl⟩
        have HN2 := Lib.hid (new_any wr)
        go_wp2_with fail
        refine HN2.out.mono ?_
        rintro e w4 ⟨tb2, mb2, rfl, H4, b4, ht4, hm4⟩
        go_wp2_with fail
        go_ret
        have := gk.size
        exact ⟨tb2, mb2, 0, 0, _, none, rfl, ⟨H4, HRR.out.below b4, by omega, fun x s h => (by cases h), fun _ => rfl, fun l' h => (by cases h), fun es0 r hv hl => (by
              obtain ⟨_, _, a3⟩ := HI.out.2.2.2 es0 r hv hl
              cases a3), fun l' h => (by cases h), by omega, by omega⟩, only_trans gk (only_of_below b4 _)⟩
      | some lr =>
        go_wp2_with fail
        refine HOK.out.mono ?_
        rintro e w3 ⟨rfl, rfl⟩
        go_wp2_with fail
        go_ret
        refine ⟨tb, mb, j, j, tabS es, some lr, rfl, ⟨HTT.out, HRR.out, hN16, fun x s hx => ?_, fun h => (by cases h), fun l' hl' => ?_, fun es0 r hv hl0 => ?_, fun l' hl' => ?_, ht, hm⟩, gk⟩
        · obtain ⟨⟨a1, a2⟩, a3⟩ := HI.out.1.small (x, s) (HI.out.1.mem x s hx)
          exact ⟨by unfold InR; simp only at a1 a2; omega, a3⟩
        · refine ⟨es.map (·.1), by rw [← hes]; exact HI.out.1.ids, ?_⟩
          rw [HI.out.1.lay, hes]; exact HI.out.2.1 l' hl'
        · obtain ⟨e1, e2, e3⟩ := HI.out.2.2.2 es0 r hv hl0
          rw [e1, List.take_length] at e2
          rw [e1, List.drop_length] at e3
          exact ⟨by rw [e3]; simp [ents], by rw [e2]⟩
        · refine ⟨es, ⟨by omega, ⟨last, HI.out.1⟩, HI.out.2.2.1.1⟩, rfl, hes.symm, ?_⟩
          rw [hes]; exact HI.out.2.1 l' hl'
end Go.Proofs.Ytckengglamkaaaa
