/- Package slot in plain words: a record, its bytes, and what bytes read as; no program. slot.Put: what it answers; no conditions beyond those in each statement. slot.Get: what it answers; no conditions beyond those in each statement. -/
import Derived.Test.YtiknfifiglooeaaDoorPithEn
import Derived.Test.YtiknfifiglooeaaDoorSumSeal
import Derived.Test.YtiknfifiglooeaaDoorDevFlip
namespace Go.Proofs.YtiknfifiglooeaaDoor
section
set_option linter.unusedVariables false

/-- What a block holds. -/
structure Rc where
  kind : Int
  index : Int
  term : Int
  data : ByteArray
def recV (r : Rc) : Value := .agg #[.int .i64 r.kind, .int .i64 r.index, .int .i64 r.term, .string r.data]
def rc0 : Rc := ⟨0, 0, 0, ⟨#[]⟩⟩
theorem Rc.ext' {a b : Rc} (h1 : a.kind = b.kind) (h2 : a.index = b.index) (h3 : a.term = b.term) (h4 : a.data = b.data) : a = b := by
  cases a; cases b; simp_all
/-- Its numbers are Go's. -/
structure Rc.Fits (r : Rc) : Prop where
  kind : -9223372036854775808 ≤ r.kind ∧ r.kind ≤ 9223372036854775807
  index : -9223372036854775808 ≤ r.index ∧ r.index ≤ 9223372036854775807
  term : -9223372036854775808 ≤ r.term ∧ r.term ≤ 9223372036854775807
  data : r.data.size ≤ maxLen
/-- Its numbers can be encoded. -/
structure Rc.Num (r : Rc) : Prop where
  kind : 0 ≤ r.kind ∧ r.kind ≤ 281474976710655
  index : 0 ≤ r.index ∧ r.index ≤ 281474976710655
  term : 0 ≤ r.term ∧ r.term ≤ 281474976710655
/-- It can be put. -/
structure Rc.Ok (r : Rc) : Prop extends r.Num where
  data : r.data.size ≤ 488
def Rc.enc (r : Rc) : List UInt8 := numsE [r.kind, r.index, r.term] ++ textE r.data.data.toList
def Rc.bytes (r : Rc) : ByteArray := ⟨(sealN r.enc).toArray⟩
open Classical in
/-- What Put answers. -/
noncomputable def Rc.put (r : Rc) : ByteArray × Int := if r.Num then (if r.data.size ≤ 488 then (r.bytes, 0) else (⟨#[]⟩, 3)) else (⟨#[]⟩, 1)
theorem put_ok {r : Rc} (h : r.Ok) : r.put = (r.bytes, 0) := by unfold Rc.put; rw [if_pos h.toNum, if_pos h.data]
theorem put_long {r : Rc} (h : r.Num) (h2 : 488 < r.data.size) : r.put = (⟨#[]⟩, 3) := by unfold Rc.put; rw [if_pos h, if_neg (by omega)]
theorem put_arg {r : Rc} (h : ¬ r.Num) : r.put = (⟨#[]⟩, 1) := by unfold Rc.put; rw [if_neg h]
theorem put_zero {r : Rc} (h : r.put.2 = 0) : r.Ok := by
  by_cases h1 : r.Num
  · by_cases h2 : r.data.size ≤ 488
    · exact ⟨h1, h2⟩
    · rw [put_long h1 (by omega)] at h; simp at h
  · rw [put_arg h1] at h; simp at h

/-- What the text of a seal reads as. -/
def parseA (t : List UInt8) : Int × RS := numF 6 281474976710655 (some t)
def parseB (t : List UInt8) : Int × RS := numF 6 281474976710655 (parseA t).2
def parseC (t : List UInt8) : Int × RS := numF 6 281474976710655 (parseB t).2
def parseD (t : List UInt8) : List UInt8 × RS := textF 488 (parseC t).2
def parseR (t : List UInt8) : Rc := ⟨(parseA t).1, (parseB t).1, (parseC t).1, ⟨(parseD t).1.toArray⟩⟩
/-- What Get answers: the record, and 0 (empty), 1 (good) or 2 (bad). -/
def getF (s : ByteArray) : Rc × Int :=
  if s.size = 0 then (rc0, 0)
  else if s.size < 4 then (rc0, 2)
  else if opensN s.data.toList then (if doneF (parseD (s.data.toList.drop 4)).2 = 0 then (parseR (s.data.toList.drop 4), 1) else (rc0, 2))
  else (rc0, 2)

theorem numE_be {z : Int} (h : 0 ≤ z ∧ z ≤ 281474976710655) : numE z = be 6 z.toNat := by
  unfold numE
  rw [show min (max z 0) 281474976710655 = z by omega]
theorem numF_E {z : Int} (h : 0 ≤ z ∧ z ≤ 281474976710655) (l : List UInt8) : numF 6 281474976710655 (some (numE z ++ l)) = (z, some l) := by
  rw [numE_be h, numF_be 6 z.toNat 281474976710655 l (by omega), if_pos (by omega)]
  rw [show ((z.toNat : Nat) : Int) = z by omega]
theorem enc_def (r : Rc) : r.enc = numE r.kind ++ (numE r.index ++ (numE r.term ++ (textE r.data.data.toList ++ []))) := by
  simp [Rc.enc, numsE, List.append_assoc]
theorem parse_enc {r : Rc} (h : r.Ok) : parseR r.enc = r ∧ (parseD r.enc).2 = some [] := by
  have a : parseA r.enc = (r.kind, some (numE r.index ++ (numE r.term ++ (textE r.data.data.toList ++ [])))) := by unfold parseA; rw [enc_def, numF_E h.kind]
  have b : parseB r.enc = (r.index, some (numE r.term ++ (textE r.data.data.toList ++ []))) := by unfold parseB; rw [a]; exact numF_E h.index _
  have c : parseC r.enc = (r.term, some (textE r.data.data.toList ++ [])) := by unfold parseC; rw [b]; exact numF_E h.term _
  have hl : r.data.data.toList.length ≤ 488 := by have := h.data; rw [← Lib.size_eq]; exact this
  have d : parseD r.enc = (r.data.data.toList, some []) := by unfold parseD; rw [c]; rw [textF_E _ [] 488 (by omega), if_pos (by omega)]
  unfold parseR
  rw [a, b, c, d]
  exact ⟨Rc.ext' rfl rfl rfl (by simp), rfl⟩
theorem enc_length {r : Rc} (h : r.Ok) : r.enc.length = 20 + r.data.size := by
  have hl : r.data.data.toList.length = r.data.size := (Lib.size_eq _).symm
  have := h.data
  rw [enc_def, textE_short _ (by omega)]
  simp [numE_length, be_length, hl]
  omega
theorem bytes_list (r : Rc) : r.bytes.data.toList = sealN r.enc := by simp [Rc.bytes]
theorem sealN_length (l : List UInt8) : (sealN l).length = l.length + 4 := by simp [sealN, bytesN_length]; omega
theorem sealN_drop (l : List UInt8) : (sealN l).drop 4 = l := List.drop_left' (bytesN_length _)
theorem bytes_size {r : Rc} (h : r.Ok) : r.bytes.size = 24 + r.data.size := by
  rw [Lib.size_eq, bytes_list, sealN_length, enc_length h]; omega
/-- What was put is got. -/
theorem get_put {r : Rc} (h : r.Ok) : getF r.bytes = (r, 1) := by
  have hs := bytes_size h
  obtain ⟨h1, h2⟩ := parse_enc h
  unfold getF
  rw [if_neg (by omega), if_neg (by omega), bytes_list, if_pos (opens_seal _), sealN_drop, h2, if_pos (show doneF (some []) = 0 from rfl), h1]
theorem parse_good {t : List UInt8} (h : doneF (parseD t).2 = 0) : (parseR t).Ok ∧ (parseR t).enc = t := by
  have hd : (parseD t).2 = some [] := by
    cases hq : (parseD t).2 with
    | none => rw [hq] at h; simp [doneF] at h
    | some l =>
      rw [hq] at h
      cases l with
      | nil => rfl
      | cons c l => simp [doneF] at h
  have none_num : ∀ k m, (numF k m none).2 = none := fun _ _ => rfl
  cases hc : (parseC t).2 with
  | none =>
    have : (parseD t).2 = none := by unfold parseD; rw [hc]; rfl
    rw [this] at hd; cases hd
  | some lc =>
    cases hb : (parseB t).2 with
    | none =>
      have : (parseC t).2 = none := by unfold parseC; rw [hb]; rfl
      rw [this] at hc; cases hc
    | some lb =>
      cases ha : (parseA t).2 with
      | none =>
        have : (parseB t).2 = none := by unfold parseB; rw [ha]; rfl
        rw [this] at hb; cases hb
      | some la =>
        obtain ⟨a0, a1, a2, a3⟩ := numF_some (k := 6) (most := 281474976710655) (v := (parseA t).1) (l := t) (l' := la) (by rw [← ha]; rfl)
        obtain ⟨b0, b1, b2, b3⟩ := numF_some (k := 6) (most := 281474976710655) (v := (parseB t).1) (l := la) (l' := lb) (by rw [← hb, ← ha]; rfl)
        obtain ⟨c0, c1, c2, c3⟩ := numF_some (k := 6) (most := 281474976710655) (v := (parseC t).1) (l := lb) (l' := lc) (by rw [← hc, ← hb]; rfl)
        obtain ⟨d0, d1, d2⟩ := textF_some (most := 488) (m := (parseD t).1) (l := lc) (l' := []) (by rw [← hd, ← hc]; rfl)
        refine ⟨⟨⟨⟨a0, a1⟩, ⟨b0, b1⟩, ⟨c0, c1⟩⟩, ?_⟩, ?_⟩
        · show (ByteArray.mk (parseD t).1.toArray).size ≤ 488
          rw [size_mk]; omega
        · rw [enc_def]
          show numE (parseA t).1 ++ (numE (parseB t).1 ++ (numE (parseC t).1 ++ (textE (ByteArray.mk (parseD t).1.toArray).data.toList ++ []))) = t
          rw [numE_be ⟨a0, a1⟩, numE_be ⟨b0, b1⟩, numE_be ⟨c0, c1⟩, data_mk, ← d2, ← c3, ← b3, ← a3]
/-- What Get answers, in three ways. -/
theorem get_cases (s : ByteArray) : (s.size = 0 ∧ getF s = (rc0, 0)) ∨ (s.size ≠ 0 ∧ getF s = (rc0, 2)) ∨ ∃ r : Rc, r.Ok ∧ s = r.bytes ∧ getF s = (r, 1) := by
  by_cases h0 : s.size = 0
  · exact .inl ⟨h0, by unfold getF; rw [if_pos h0]⟩
  · by_cases h4 : s.size < 4
    · exact .inr (.inl ⟨h0, by unfold getF; rw [if_neg h0, if_pos h4]⟩)
    · by_cases ho : opensN s.data.toList = true
      · by_cases hd : doneF (parseD (s.data.toList.drop 4)).2 = 0
        · obtain ⟨h1, h2⟩ := parse_good hd
          refine .inr (.inr ⟨_, h1, ?_, by unfold getF; rw [if_neg h0, if_neg h4, if_pos ho, if_pos hd]⟩)
          unfold Rc.bytes
          rw [h2]
          have hl : sealN (s.data.toList.drop 4) = s.data.toList := by
            unfold opensN at ho
            rw [beq_iff_eq] at ho
            unfold sealN
            rw [ho, List.take_append_drop]
          rw [hl]
        · exact .inr (.inl ⟨h0, by unfold getF; rw [if_neg h0, if_neg h4, if_pos ho, if_neg hd]⟩)
      · exact .inr (.inl ⟨h0, by unfold getF; rw [if_neg h0, if_neg h4, if_neg ho]⟩)
/-- Unlike records have unlike bytes. -/
theorem bytes_inj {a b : Rc} (ha : a.Ok) (hb : b.Ok) (h : a.bytes = b.bytes) : a = b := by
  have h1 := get_put ha
  rw [h, get_put hb] at h1
  exact (Prod.mk.inj h1).1.symm
theorem get_closed {s : ByteArray} (h0 : s.size ≠ 0) (h : opensN s.data.toList = false) : getF s = (rc0, 2) := by
  unfold getF
  rw [if_neg h0]
  by_cases h4 : s.size < 4
  · rw [if_pos h4]
  · rw [if_neg h4, if_neg (by rw [h]; simp)]
/-- The first half of a record's bytes is bad. -/
theorem get_half {r : Rc} (h : r.Ok) : getF (r.bytes.extract 0 (r.bytes.size / 2)) = (rc0, 2) := by
  have hs := bytes_size h
  have hx : (r.bytes.extract 0 (r.bytes.size / 2)).size = r.bytes.size / 2 := by simp; omega
  have hd := h.data
  rcases get_cases (r.bytes.extract 0 (r.bytes.size / 2)) with ⟨h0, _⟩ | ⟨_, h2⟩ | ⟨q, hq, he, _⟩
  · omega
  · exact h2
  · exfalso
    have hqs := bytes_size hq
    have hql : q.bytes.data.toList = r.bytes.data.toList.take (r.bytes.size / 2) := by rw [← he, Lib.extract_data]; simp
    rw [bytes_list, bytes_list] at hql
    have e1 := sealN_drop q.enc
    rw [hql, List.drop_take, sealN_drop] at e1
    have hl : q.bytes.size = r.bytes.size / 2 := by rw [← he]; exact hx
    have hn : 20 ≤ r.bytes.size / 2 - 4 := by omega
    -- the length field is the same
    have e2 : q.enc.take 20 = r.enc.take 20 := by rw [← e1, List.take_take, Nat.min_eq_left hn]
    have f : ∀ {x : Rc}, x.Ok → ((x.enc.drop 18).take 2) = be 2 x.data.size := by
      intro x hx
      have hxl : x.data.data.toList.length = x.data.size := (Lib.size_eq _).symm
      have := hx.data
      have e : x.enc = (numE x.kind ++ numE x.index ++ numE x.term) ++ (be 2 x.data.size ++ x.data.data.toList) := by
        rw [enc_def, textE_short _ (by omega), hxl]; simp [List.append_assoc]
      rw [e, List.drop_left' (by simp [numE_length]), List.take_left' (be_length _ _)]
    have g : ∀ l : List UInt8, (l.drop 18).take 2 = (l.take 20).drop 18 := fun l => by rw [List.drop_take]
    have e3 : be 2 q.data.size = be 2 r.data.size := by rw [← f hq, ← f h, g, g, e2]
    have e4 := congrArg val e3
    have := hq.data
    rw [val_be_lt _ _ (by omega), val_be_lt _ _ (by omega)] at e4
    omega
theorem turn_one (l : List UInt8) (p tn : Nat) (hp : p < l.length) (ht : tn < 256) (h4 : p + 4 ≤ l.length) : turnL l p tn 4 = l.set p (flip8 (l.getD p 0) tn) := by
  obtain ⟨c0, c1, c2, c3, hl⟩ := split4 l p h4
  obtain ⟨A, hA⟩ : ∃ A, A = l.take p := ⟨_, rfl⟩
  obtain ⟨B, hB⟩ : ∃ B, B = l.drop (p + 4) := ⟨_, rfl⟩
  have hAl : A.length = p := by rw [hA, List.length_take]; omega
  rw [← hA, ← hB] at hl
  rw [hl, turnL_four A B c0 c1 c2 c3 p tn hAl]
  subst hAl
  have z : ∀ c : UInt8, flip8 c 0 = c := fun c => by unfold flip8; simp
  rw [show tn % 256 = tn by omega, show tn / 256 % 256 = 0 by omega, show tn / 65536 % 256 = 0 by omega, show tn / 16777216 % 256 = 0 by omega, z, z, z]
  simp
end
section
open Go.RowKit
set_option linter.unusedVariables false
set_option maxRecDepth 100000

/-- Three numbers in an array. -/
theorem num_three (a b c : Int) (g : Nat) (w : World) (hb : g < w.heap.size)
    (ha : -9223372036854775808 ≤ a ∧ a ≤ 9223372036854775807) (hbb : -9223372036854775808 ≤ b ∧ b ≤ 9223372036854775807) (hcc : -9223372036854775808 ≤ c ∧ c ≤ 9223372036854775807)
    (c0 : w.cell? ⟨g, 0, none⟩ = some (.int .i64 a)) (c1 : w.cell? ⟨g, 1, none⟩ = some (.int .i64 b)) (c2 : w.cell? ⟨g, 2, none⟩ = some (.int .i64 c)) :
    Calls Tryd.prog 47 #[.slice none 0 0, .slice (some ⟨g, 0, none⟩) 3 3] w fun e w' => ∃ v', e = .returned v' ∧ Bs w' w.heap.size v' (numsE [a, b, c]) ∧ Below w.heap.size w w' := by
  refine (num_list (.slice none 0 0) [] g 0 3 [a, b, c] w (Src.nil w) hb (by simp) ?_ ?_).mono ?_
  · intro j hj
    match j, hj with
    | 0, _ => exact ha
    | 1, _ => exact hbb
    | 2, _ => exact hcc
  · intro j hj
    match j, hj with
    | 0, _ => exact c0
    | 1, _ => exact c1
    | 2, _ => exact c2
  · rintro e w' ⟨v', he, ho, hb⟩
    exact ⟨v', he, by simpa using ho, hb⟩

theorem und_int3 : Tryd.prog.underlying 196 = some (.array 3 3) := by kernel_rfl
theorem info_int : (Tryd.prog.info? 3).map (fun i => (i.zero, i.size, i.bytes)) = some (some (.int .i64 0), 1, 8) := by kernel_rfl
theorem idx3 (a b c : Value) (j : Nat) (hj : j < 3) (W : World) : (Instr.index 196 (.agg #[a, b, c]) (.int .i64 (j : Int))).run Tryd.prog W = .ok (#[a, b, c][j]'hj) W := by
  match j, hj with
  | 0, _ => simp [Instr.index, run_underlying und_int3, asIntOf, sizeOf, go_sem]
  | 1, _ => simp [Instr.index, run_underlying und_int3, asIntOf, sizeOf, go_sem]; rfl
  | 2, _ => simp [Instr.index, run_underlying und_int3, asIntOf, sizeOf, go_sem]; rfl
set_option maxHeartbeats 4000000 in
theorem put_good (r : Rc) (w : World) (ht : Tabs w) (hn : r.Num) (hd : r.data.size ≤ 488) :
    Calls Tryd.prog 112 #[recV r] w fun e w' => e = .returned (.tuple #[.string r.bytes, .int .i64 0]) ∧ Below w.heap.size w w' := by
  have HN3 := Lib.hid (fun (g : Nat) (W : World) => num_three r.kind r.index r.term g W)
  have HT1 := Lib.hid (fun (v : Value) (l : List UInt8) (W : World) => text_one v l r.data W)
  have HSL := Lib.hid (fun (s : ByteArray) (W : World) => seal_any s W)
  have HB := Lib.hid (show ByteArray.mk (sealN (numsE [r.kind, r.index, r.term] ++ textE r.data.data.toList)).toArray = r.bytes from rfl)
  have HL : (numsE [r.kind, r.index, r.term] ++ textE r.data.data.toList).length ≤ 70000 := by
    rw [List.length_append, numsE_length]
    have := textE_length r.data.data.toList
    simp
    omega
  have HL1 : (numsE [r.kind, r.index, r.term]).length ≤ 18 := by rw [numsE_length]; simp
  generalize r.bytes = y at *
  obtain ⟨⟨k0, k1⟩, ⟨i0, i1⟩, ⟨t0, t1⟩⟩ := hn
  obtain ⟨k, i, t, d⟩ := r
  simp only at *
  generalize numsE [k, i, t] = p at *
  have HLL := Lib.hid HL
  have HLL1 := Lib.hid HL1
  clear HL HL1
  have ek0 : decide (k < 0) = false := by simp; omega
  have ek1 : decide (281474976710655 < k) = false := by simp; omega
  have ei0 : decide (i < 0) = false := by simp; omega
  have ei1 : decide (281474976710655 < i) = false := by simp; omega
  have et0 : decide (t < 0) = false := by simp; omega
  have et1 : decide (281474976710655 < t) = false := by simp; omega
  have ed : decide ((488 : Int) < (d.size : Int)) = false := by simp; omega
  have HT := Lib.hid ht
  clear ht
  have x0 : ∀ W, (Instr.index 196 (.agg #[.int .i64 k, .int .i64 i, .int .i64 t]) (.int .i64 0)).run Tryd.prog W = .ok (.int .i64 k) W := idx3 (.int .i64 k) (.int .i64 i) (.int .i64 t) 0 (by omega)
  have x1 : ∀ W, (Instr.index 196 (.agg #[.int .i64 k, .int .i64 i, .int .i64 t]) (.int .i64 1)).run Tryd.prog W = .ok (.int .i64 i) W := idx3 (.int .i64 k) (.int .i64 i) (.int .i64 t) 1 (by omega)
  have x2 : ∀ W, (Instr.index 196 (.agg #[.int .i64 k, .int .i64 i, .int .i64 t]) (.int .i64 2)).run Tryd.prog W = .ok (.int .i64 t) W := idx3 (.int .i64 k) (.int .i64 i) (.int .i64 t) 2 (by omega)
  unfold recV
  go_enter Tryd.func112, Tryd.ntmps112
  go_wp2_with fail
  refine wp_loop_rounds 4 ?_
  rw [rounds_succ]
  go_wp2_with fail
  rw [rounds_succ]
  go_wp2_with fail
  rw [rounds_succ]
  go_wp2_with fail
  rw [rounds_succ]
  go_wp2_with fail
  have q1 := heap_alloc_new (w.alloc (.cells #[.int .i64 k, .int .i64 i, .int .i64 t, .string d] 58)) (.cells #[.int .i64 k, .int .i64 i, .int .i64 t] 196)
  rw [World.size_alloc] at q1
  have q0 : ((w.alloc (.cells #[.int .i64 k, .int .i64 i, .int .i64 t, .string d] 58)).alloc (.cells #[.int .i64 k, .int .i64 i, .int .i64 t] 196)).heap[w.heap.size]? = some (.cells #[.int .i64 k, .int .i64 i, .int .i64 t, .string d] 58 (0, 0)) :=
    (heap_alloc_old _ _ (by simp)).trans (heap_alloc_new w _)
  have b0 : Below w.heap.size w ((w.alloc (.cells #[.int .i64 k, .int .i64 i, .int .i64 t, .string d] 58)).alloc (.cells #[.int .i64 k, .int .i64 i, .int .i64 t] 196)) := ((Below.refl _ w).alloc (Nat.le_refl _) _).alloc (by simp) _
  have hlt0 : w.heap.size < ((w.alloc (.cells #[.int .i64 k, .int .i64 i, .int .i64 t, .string d] 58)).alloc (.cells #[.int .i64 k, .int .i64 i, .int .i64 t] 196)).heap.size := by simp; omega
  refine (HN3.out (w.heap.size + 1) _ (by simp) (by omega) (by omega) (by omega) (cell_of q1 rfl) (cell_of q1 rfl) (cell_of q1 rfl)).mono ?_
  rintro e w1 ⟨v1, rfl, ho1, hb1⟩
  have d3 : w1.cell? ⟨w.heap.size, 3, none⟩ = some (.string d) := cell_of ((hb1.block _ hlt0).trans q0) rfl
  have B1 := b0.trans (hb1.mono b0.size)
  clear q1 q0 b0 hb1 hlt0
  go_wp2_with fail
  refine (HT1.out v1 p w1 ho1.src (by have := HLL1.out; omega) (by unfold maxLen; omega)).mono ?_
  rintro e w2 ⟨v2, rfl, ho2, hb2⟩
  have B2 := B1.trans (hb2.mono B1.size)
  have hcv := run_str ho2.src
  clear ho1 ho2 hb2 d3
  obtain ⟨x, hx⟩ : ∃ x, x = ByteArray.mk (p ++ textE d.data.toList).toArray := ⟨_, rfl⟩
  rw [← hx] at hcv
  have hxs : x.size ≤ 281474976710656 := by rw [hx, size_mk]; have := HLL.out; omega
  have hxd : x.data.toList = p ++ textE d.data.toList := by rw [hx, data_mk]
  have HXD := Lib.hid hxd
  clear hx hxd
  go_wp2_with fail
  refine (HSL.out x w2 (HT.out.below B2) hxs).mono ?_
  rintro e w3 ⟨rfl, hb3⟩
  go_wp2_with fail
  go_ret2
  exact ⟨by rw [HXD.out, HB.out]; rfl, B2.trans (hb3.mono B2.size)⟩
set_option maxHeartbeats 4000000 in
theorem put_bad (r : Rc) (w : World) (hn : ¬ r.Num) :
    Calls Tryd.prog 112 #[recV r] w fun e w' => e = .returned (.tuple #[.string ⟨#[]⟩, .int .i64 1]) ∧ Below w.heap.size w w' := by
  obtain ⟨k, i, t, d⟩ := r
  have hn : ¬ ((0 ≤ k ∧ k ≤ 281474976710655) ∧ (0 ≤ i ∧ i ≤ 281474976710655) ∧ (0 ≤ t ∧ t ≤ 281474976710655)) := fun h => hn ⟨h.1, h.2.1, h.2.2⟩
  have x0 : ∀ W, (Instr.index 196 (.agg #[.int .i64 k, .int .i64 i, .int .i64 t]) (.int .i64 0)).run Tryd.prog W = .ok (.int .i64 k) W := idx3 (.int .i64 k) (.int .i64 i) (.int .i64 t) 0 (by omega)
  have x1 : ∀ W, (Instr.index 196 (.agg #[.int .i64 k, .int .i64 i, .int .i64 t]) (.int .i64 1)).run Tryd.prog W = .ok (.int .i64 i) W := idx3 (.int .i64 k) (.int .i64 i) (.int .i64 t) 1 (by omega)
  have x2 : ∀ W, (Instr.index 196 (.agg #[.int .i64 k, .int .i64 i, .int .i64 t]) (.int .i64 2)).run Tryd.prog W = .ok (.int .i64 t) W := idx3 (.int .i64 k) (.int .i64 i) (.int .i64 t) 2 (by omega)
  unfold recV
  by_cases hk : 0 ≤ k ∧ k ≤ 281474976710655
  · by_cases hi : 0 ≤ i ∧ i ≤ 281474976710655
    · have ht : ¬ (0 ≤ t ∧ t ≤ 281474976710655) := fun h => hn ⟨hk, hi, h⟩
      have ek0 : decide (k < 0) = false := by simp; omega
      have ek1 : decide (281474976710655 < k) = false := by simp; omega
      have ei0 : decide (i < 0) = false := by simp; omega
      have ei1 : decide (281474976710655 < i) = false := by simp; omega
      clear hn
      by_cases h : t < 0
      · have et0 : decide (t < 0) = true := by simp; omega
        go_enter Tryd.func112, Tryd.ntmps112
        go_wp2_with fail
        refine wp_loop_rounds 4 ?_
        rw [rounds_succ]
        go_wp2_with fail
        rw [rounds_succ]
        go_wp2_with fail
        rw [rounds_succ]
        go_wp2_with fail
        go_ret2
        exact ⟨rfl, ((Below.refl _ w).alloc (Nat.le_refl _) _).alloc (by simp) _⟩
      · have et0 : decide (t < 0) = false := by simp; omega
        have et1 : decide (281474976710655 < t) = true := by simp; omega
        go_enter Tryd.func112, Tryd.ntmps112
        go_wp2_with fail
        refine wp_loop_rounds 4 ?_
        rw [rounds_succ]
        go_wp2_with fail
        rw [rounds_succ]
        go_wp2_with fail
        rw [rounds_succ]
        go_wp2_with fail
        go_ret2
        exact ⟨rfl, ((Below.refl _ w).alloc (Nat.le_refl _) _).alloc (by simp) _⟩
    · have ek0 : decide (k < 0) = false := by simp; omega
      have ek1 : decide (281474976710655 < k) = false := by simp; omega
      clear hn
      by_cases h : i < 0
      · have ei0 : decide (i < 0) = true := by simp; omega
        go_enter Tryd.func112, Tryd.ntmps112
        go_wp2_with fail
        refine wp_loop_rounds 4 ?_
        rw [rounds_succ]
        go_wp2_with fail
        rw [rounds_succ]
        go_wp2_with fail
        go_ret2
        exact ⟨rfl, ((Below.refl _ w).alloc (Nat.le_refl _) _).alloc (by simp) _⟩
      · have ei0 : decide (i < 0) = false := by simp; omega
        have ei1 : decide (281474976710655 < i) = true := by simp; omega
        go_enter Tryd.func112, Tryd.ntmps112
        go_wp2_with fail
        refine wp_loop_rounds 4 ?_
        rw [rounds_succ]
        go_wp2_with fail
        rw [rounds_succ]
        go_wp2_with fail
        go_ret2
        exact ⟨rfl, ((Below.refl _ w).alloc (Nat.le_refl _) _).alloc (by simp) _⟩
  · clear hn
    by_cases h : k < 0
    · have ek0 : decide (k < 0) = true := by simp; omega
      go_enter Tryd.func112, Tryd.ntmps112
      go_wp2_with fail
      refine wp_loop_rounds 4 ?_
      rw [rounds_succ]
      go_wp2_with fail
      go_ret2
      exact ⟨rfl, ((Below.refl _ w).alloc (Nat.le_refl _) _).alloc (by simp) _⟩
    · have ek0 : decide (k < 0) = false := by simp; omega
      have ek1 : decide (281474976710655 < k) = true := by simp; omega
      go_enter Tryd.func112, Tryd.ntmps112
      go_wp2_with fail
      refine wp_loop_rounds 4 ?_
      rw [rounds_succ]
      go_wp2_with fail
      go_ret2
      exact ⟨rfl, ((Below.refl _ w).alloc (Nat.le_refl _) _).alloc (by simp) _⟩

set_option maxHeartbeats 4000000 in
theorem put_much (r : Rc) (w : World) (hn : r.Num) (hd : 488 < r.data.size) :
    Calls Tryd.prog 112 #[recV r] w fun e w' => e = .returned (.tuple #[.string ⟨#[]⟩, .int .i64 3]) ∧ Below w.heap.size w w' := by
  obtain ⟨k, i, t, d⟩ := r
  obtain ⟨⟨k0, k1⟩, ⟨i0, i1⟩, ⟨t0, t1⟩⟩ := hn
  simp only at *
  have x0 : ∀ W, (Instr.index 196 (.agg #[.int .i64 k, .int .i64 i, .int .i64 t]) (.int .i64 0)).run Tryd.prog W = .ok (.int .i64 k) W := idx3 (.int .i64 k) (.int .i64 i) (.int .i64 t) 0 (by omega)
  have x1 : ∀ W, (Instr.index 196 (.agg #[.int .i64 k, .int .i64 i, .int .i64 t]) (.int .i64 1)).run Tryd.prog W = .ok (.int .i64 i) W := idx3 (.int .i64 k) (.int .i64 i) (.int .i64 t) 1 (by omega)
  have x2 : ∀ W, (Instr.index 196 (.agg #[.int .i64 k, .int .i64 i, .int .i64 t]) (.int .i64 2)).run Tryd.prog W = .ok (.int .i64 t) W := idx3 (.int .i64 k) (.int .i64 i) (.int .i64 t) 2 (by omega)
  have ek0 : decide (k < 0) = false := by simp; omega
  have ek1 : decide (281474976710655 < k) = false := by simp; omega
  have ei0 : decide (i < 0) = false := by simp; omega
  have ei1 : decide (281474976710655 < i) = false := by simp; omega
  have et0 : decide (t < 0) = false := by simp; omega
  have et1 : decide (281474976710655 < t) = false := by simp; omega
  have ed : decide ((488 : Int) < (d.size : Int)) = true := by simp; omega
  unfold recV
  go_enter Tryd.func112, Tryd.ntmps112
  go_wp2_with fail
  refine wp_loop_rounds 4 ?_
  rw [rounds_succ]
  go_wp2_with fail
  rw [rounds_succ]
  go_wp2_with fail
  rw [rounds_succ]
  go_wp2_with fail
  rw [rounds_succ]
  go_wp2_with fail
  go_ret2
  exact ⟨rfl, ((Below.refl _ w).alloc (Nat.le_refl _) _).alloc (by simp) _⟩

/-- Put, whatever the record. -/
theorem put_any (r : Rc) (w : World) (ht : Tabs w) : Calls Tryd.prog 112 #[recV r] w fun e w' => e = .returned (.tuple #[.string r.put.1, .int .i64 r.put.2]) ∧ Below w.heap.size w w' := by
  by_cases hn : r.Num
  · by_cases hd : r.data.size ≤ 488
    · rw [put_ok ⟨hn, hd⟩]; exact put_good r w ht hn hd
    · rw [put_long hn (by omega)]; exact put_much r w hn (by omega)
  · rw [put_arg hn]; exact put_bad r w hn
end
section
open Go.RowKit
set_option linter.unusedVariables false
set_option maxRecDepth 100000

/-- What Get answers, as a value. -/
def getV (x : Rc × Int) : Value := .tuple #[recV x.1, .int .i64 x.2]

/-- The result's block: four cells. -/
def RecB (w : World) (b : Nat) (r : Rc) : Prop := w.heap[b]? = some (.cells #[.int .i64 r.kind, .int .i64 r.index, .int .i64 r.term, .string r.data] 58 (0, 0))
theorem RecB.cells {w : World} {b : Nat} {r : Rc} (h : RecB w b r) :
    (w.cell? ⟨b, 0, none⟩ = some (.int .i64 r.kind) ∧ w.cell? ⟨b, 1, none⟩ = some (.int .i64 r.index) ∧ w.cell? ⟨b, 2, none⟩ = some (.int .i64 r.term) ∧ w.cell? ⟨b, 3, none⟩ = some (.string r.data)) ∧
    w.frozen? ⟨b, 0, none⟩ = false ∧ w.frozen? ⟨b, 1, none⟩ = false ∧ w.frozen? ⟨b, 2, none⟩ = false ∧ w.frozen? ⟨b, 3, none⟩ = false :=
  ⟨⟨cell_of h rfl, cell_of h rfl, cell_of h rfl, cell_of h rfl⟩, free_of h, free_of h, free_of h, free_of h⟩
theorem RecB.lt {w : World} {b : Nat} {r : Rc} (h : RecB w b r) : b < w.heap.size := lt_of_block h
theorem RecB.below {w w' : World} {b : Nat} {r : Rc} (h : RecB w b r) (k : Below w.heap.size w w') : RecB w' b r := (k.block b h.lt).trans h
theorem RecB.kept {w w' : World} {b : Nat} {r : Rc} {row : Option Nat} (h : RecB w b r) (k : w.grownBy w' row) (hr : some b ≠ row) : RecB w' b r := (k.block b h.lt hr).trans h
theorem RecB.new (w : World) (r : Rc) : RecB (w.alloc (.cells #[.int .i64 r.kind, .int .i64 r.index, .int .i64 r.term, .string r.data] 58)) w.heap.size r := heap_alloc_new w _

set_option maxHeartbeats 4000000 in
theorem get_empty (s : ByteArray) (w : World) (hs : s.size = 0) :
    Calls Tryd.prog 70 #[.string s] w fun e w' => e = .returned (getV (rc0, 0)) ∧ Below w.heap.size w w' := by
  obtain rfl : s = ⟨#[]⟩ := ByteArray.ext (Array.eq_empty_of_size_eq_zero hs)
  clear hs
  have hn := (RecB.new w rc0).cells
  obtain ⟨⟨c0, c1, c2, c3⟩, f0, f1, f2, f3⟩ := hn
  go_enter Tryd.func70, Tryd.ntmps70
  go_wp2_with fail
  exact bodyPost_ret (v := getV (rc0, 0)) (by simp [results, Tryd.results70, go_sem, getV, recV, rc0]) rfl ⟨rfl, (Below.refl _ w).alloc (Nat.le_refl _) _⟩

theorem get_ret (A : Act) (W : World) (b : Nat) (n : Int) (r : Rc) (Q : Ending → World → Prop) (h2 : A.tmps.getD 2 undef = .pointer (some ⟨b, 0, none⟩)) (h3 : A.tmps.getD 3 undef = .int .i64 n) (hd : A.defers = []) (hr : RecB W b r)
    (hq : Q (.returned (getV (r, n))) W) : bodyPost Tryd.prog Tryd.f70 Q Exit.ret A W := by
  obtain ⟨⟨c0, c1, c2, c3⟩, _⟩ := hr.cells
  have e2 : A.tmps[2]?.getD undef = .pointer (some ⟨b, 0, none⟩) := by simpa using h2
  have e3 : A.tmps[3]?.getD undef = .int .i64 n := by simpa using h3
  exact bodyPost_ret (v := getV (r, n)) (by simp [results, Tryd.results70, go_sem, getV, recV, e2, e3, c0, c1, c2, c3]) hd hq
/-- A record is stored in a block. -/
def setRec (W : World) (b : Nat) (r : Rc) : World :=
  (((W.setCell ⟨b, 0, none⟩ (.int .i64 r.kind)).setCell ⟨b, 1, none⟩ (.int .i64 r.index)).setCell ⟨b, 2, none⟩ (.int .i64 r.term)).setCell ⟨b, 3, none⟩ (.string r.data)
theorem RecB.set {W : World} {b : Nat} {r0 : Rc} (h : RecB W b r0) (r : Rc) : RecB (setRec W b r) b r := by
  have := block_setCell (i := 3) (u := .string r.data) (block_setCell (i := 2) (u := .int .i64 r.term) (block_setCell (i := 1) (u := .int .i64 r.index) (block_setCell (i := 0) (u := .int .i64 r.kind) h)))
  exact this
theorem below_rec {B : Nat} {a W : World} {b : Nat} (h : Below B a W) (hb : B ≤ b) (r : Rc) : Below B a (setRec W b r) :=
  (((h.setCell (p := ⟨b, 0, none⟩) hb _).setCell (p := ⟨b, 1, none⟩) hb _).setCell (p := ⟨b, 2, none⟩) hb _).setCell (p := ⟨b, 3, none⟩) hb _

set_option maxHeartbeats 4000000 in
theorem get_shut (s : ByteArray) (w : World) (h0 : s.size ≠ 0)
    (HO : Hid (∀ W : World, Below w.heap.size w W → Calls Tryd.prog 104 #[.string s] W fun e w' => e = .returned (.tuple #[.string ⟨#[]⟩, .bool false]) ∧ Below W.heap.size W w')) :
    Calls Tryd.prog 70 #[.string s] w fun e w' => e = .returned (getV (rc0, 2)) ∧ Below w.heap.size w w' := by
  have he := empty_false h0
  have hn := RecB.new w rc0
  have b0 := (Below.refl _ w).alloc (Nat.le_refl _) (.cells #[.int .i64 rc0.kind, .int .i64 rc0.index, .int .i64 rc0.term, .string rc0.data] 58)
  have HO1 := Lib.hid (HO.out _ b0)
  clear HO
  go_enter Tryd.func70, Tryd.ntmps70
  go_wp2_with fail
  refine HO1.out.mono ?_
  rintro e w1 ⟨rfl, hb1⟩
  have hr := hn.below hb1
  obtain ⟨⟨c0, c1, c2, c3⟩, f0, f1, f2, f3⟩ := hr.cells
  have hx := (hr.set rc0).cells.1
  have B1 := below_rec (b0.trans (hb1.mono b0.size)) (Nat.le_refl _) rc0
  clear HO1 hb1 b0 hn
  go_wp2_with fail
  obtain ⟨x0, x1, x2, x3⟩ := hx
  exact bodyPost_ret (v := getV (rc0, 2)) (by simp [results, Tryd.results70, go_sem, getV, recV, rc0, c0, c1, c2, c3]) rfl ⟨rfl, B1⟩

set_option maxHeartbeats 4000000 in
theorem get_text (s : ByteArray) (t : List UInt8) (w : World) (h0 : s.size ≠ 0) (ht : t.length ≤ 140737488355328)
    (HO : Hid (∀ W : World, Below w.heap.size w W → Calls Tryd.prog 104 #[.string s] W fun e w' => e = .returned (.tuple #[.string ⟨t.toArray⟩, .bool true]) ∧ Below W.heap.size W w')) :
    Calls Tryd.prog 70 #[.string s] w fun e w' => e = .returned (getV (if doneF (parseD t).2 = 0 then (parseR t, 1) else (rc0, 2))) ∧ Below w.heap.size w w' := by
  have he := empty_false h0
  have hn := RecB.new w rc0
  have b0 := (Below.refl _ w).alloc (Nat.le_refl _) (.cells #[.int .i64 rc0.kind, .int .i64 rc0.index, .int .i64 rc0.term, .string rc0.data] 58)
  have HO1 := Lib.hid (HO.out _ b0)
  have HNA := Lib.hid (fun (b : Nat) (W : World) (hW : Rs W b (some t)) => show Calls Tryd.prog 106 #[.pointer (some ⟨b, 0, none⟩), .int .i64 281474976710655] W fun e w' => e = .returned (.int .i64 (parseA t).1) ∧ Rs w' b (parseA t).2 ∧ W.grownBy w' (some b) from num_rs b 281474976710655 (some t) W hW)
  have HNB := Lib.hid (fun (b : Nat) (W : World) (hW : Rs W b (parseA t).2) => show Calls Tryd.prog 106 #[.pointer (some ⟨b, 0, none⟩), .int .i64 281474976710655] W fun e w' => e = .returned (.int .i64 (parseB t).1) ∧ Rs w' b (parseB t).2 ∧ W.grownBy w' (some b) from num_rs b 281474976710655 _ W hW)
  have HNC := Lib.hid (fun (b : Nat) (W : World) (hW : Rs W b (parseB t).2) => show Calls Tryd.prog 106 #[.pointer (some ⟨b, 0, none⟩), .int .i64 281474976710655] W fun e w' => e = .returned (.int .i64 (parseC t).1) ∧ Rs w' b (parseC t).2 ∧ W.grownBy w' (some b) from num_rs b 281474976710655 _ W hW)
  have HND := Lib.hid (fun (b : Nat) (W : World) (hW : Rs W b (parseC t).2) => show Calls Tryd.prog 107 #[.pointer (some ⟨b, 0, none⟩), .int .i64 488] W fun e w' => e = .returned (.string ⟨(parseD t).1.toArray⟩) ∧ Rs w' b (parseD t).2 ∧ W.grownBy w' (some b) from text_rs b 488 _ W hW)
  have HRD := Lib.hid (fun (W : World) => pread_any ⟨t.toArray⟩ W)
  have HRS := Lib.hid (fun (W : World) (b : Nat) (h : RdB W b ⟨t.toArray⟩ false) => show Rs W b (some t) from ⟨h, ht⟩)
  obtain ⟨r, hr⟩ : ∃ r, r = parseR t := ⟨_, rfl⟩
  have hr1 : (parseA t).1 = r.kind := by rw [hr]; rfl
  have hr2 : (parseB t).1 = r.index := by rw [hr]; rfl
  have hr3 : (parseC t).1 = r.term := by rw [hr]; rfl
  have hr4 : ByteArray.mk (parseD t).1.toArray = r.data := by rw [hr]; rfl
  rw [← hr]
  rw [hr1] at HNA
  rw [hr2] at HNB
  rw [hr3] at HNC
  rw [hr4] at HND
  clear HO hr hr1 hr2 hr3 hr4
  generalize (parseA t).2 = sa at *
  generalize (parseB t).2 = sb at *
  generalize (parseC t).2 = sc at *
  generalize (parseD t).2 = sd at *
  generalize ByteArray.mk t.toArray = x at *
  obtain ⟨V, hV⟩ : ∃ V : Rc × Int, V = (if doneF sd = 0 then (r, 1) else (rc0, 2)) := ⟨_, rfl⟩
  rw [← hV]
  have HVP := Lib.hid (fun (h : doneF sd = 0) => show V = (r, 1) by rw [hV, if_pos h])
  have HVN := Lib.hid (fun (h : ¬ doneF sd = 0) => show V = (rc0, 2) by rw [hV, if_neg h])
  clear hV
  go_enter Tryd.func70, Tryd.ntmps70
  go_wp2_with fail
  refine HO1.out.mono ?_
  rintro e w1 ⟨rfl, hb1⟩
  have B1 := b0.trans (hb1.mono b0.size)
  have R1 := hn.below hb1
  clear HO1 hb1 b0 hn
  go_wp2_with fail
  refine (HRD.out w1).mono ?_
  rintro e w2 ⟨rfl, hrd, hb2, hs2⟩
  have S2 := HRS.out _ _ hrd
  have R2 := R1.below hb2
  have hne : some w.heap.size ≠ some w1.heap.size := by have := R1.lt; simp; omega
  have B2 := B1.trans (hb2.mono B1.size)
  clear hrd HRD HRS R1
  go_wp2_with fail
  refine (HNA.out _ _ S2).mono ?_
  rintro e w3 ⟨rfl, S3, hg3⟩
  have R3 := R2.kept hg3 hne
  have B3 := B2.grown hg3 B2.size (fun q hq => by obtain rfl := Option.some.inj hq; exact B1.size)
  clear S2 R2 hg3 B2 HNA
  go_wp2_with fail
  refine (HNB.out _ _ S3).mono ?_
  rintro e w4 ⟨rfl, S4, hg4⟩
  have R4 := R3.kept hg4 hne
  have B4 := B3.grown hg4 B3.size (fun q hq => by obtain rfl := Option.some.inj hq; exact B1.size)
  clear S3 R3 hg4 B3 HNB
  go_wp2_with fail
  refine (HNC.out _ _ S4).mono ?_
  rintro e w5 ⟨rfl, S5, hg5⟩
  have R5 := R4.kept hg5 hne
  have B5 := B4.grown hg5 B4.size (fun q hq => by obtain rfl := Option.some.inj hq; exact B1.size)
  clear S4 R4 hg5 B4 HNC
  go_wp2_with fail
  refine (HND.out _ _ S5).mono ?_
  rintro e w6 ⟨rfl, S6, hg6⟩
  have R6 := R5.kept hg6 hne
  have B6 := B5.grown hg6 B5.size (fun q hq => by obtain rfl := Option.some.inj hq; exact B1.size)
  clear S5 R5 hg6 B5 HND
  have b7 := (Below.refl w6.heap.size w6).alloc (Nat.le_refl _) (.cells #[.int .i64 r.kind, .int .i64 r.index, .int .i64 r.term, .string r.data] 58)
  have HD := Lib.hid (done_rs _ sd _ (S6.below b7))
  have R7 := R6.below b7
  have N7 := RecB.new w6 r
  have B7 := B6.trans (b7.mono B6.size)
  clear b7 S6
  obtain ⟨⟨c0, c1, c2, c3⟩, f0, f1, f2, f3⟩ := R7.cells
  obtain ⟨⟨n0, n1, n2, n3⟩, _⟩ := N7.cells
  by_cases hz : doneF sd = 0
  · have HV := Lib.hid (HVP.out hz)
    rw [hz] at HD
    have B8 := below_rec B7 (Nat.le_refl _) r
    clear hz
    go_wp2_with (go_at_call 108; refine HD.out.mono ?_; rintro e w' ⟨rfl, rfl⟩)
    exact get_ret _ (setRec _ w.heap.size r) _ 1 r _ rfl rfl rfl (R7.set r) ⟨by rw [HV.out], B8⟩
  · have HV := Lib.hid (HVN.out hz)
    have hzz : (doneF sd == 0) = false := by simpa using hz
    have B8 := below_rec B7 (Nat.le_refl _) rc0
    clear hz
    go_wp2_with (go_at_call 108; refine HD.out.mono ?_; rintro e w' ⟨rfl, rfl⟩)
    exact get_ret _ (setRec _ w.heap.size rc0) _ 2 rc0 _ rfl rfl rfl (R7.set rc0) ⟨by rw [HV.out], B8⟩

/-- Get, whatever the bytes. -/
theorem get_any (s : ByteArray) (w : World) (ht : Tabs w) (hs : s.size ≤ 140737488355328) :
    Calls Tryd.prog 70 #[.string s] w fun e w' => e = .returned (getV (getF s)) ∧ Below w.heap.size w w' := by
  by_cases h0 : s.size = 0
  · rw [show getF s = (rc0, 0) by unfold getF; rw [if_pos h0]]
    exact get_empty s w h0
  · by_cases h4 : s.size < 4
    · rw [show getF s = (rc0, 2) by unfold getF; rw [if_neg h0, if_pos h4]]
      exact get_shut s w h0 (fun W hW => open_short s W h4)
    · by_cases ho : opensN s.data.toList = true
      · rw [show getF s = (if doneF (parseD (s.data.toList.drop 4)).2 = 0 then (parseR (s.data.toList.drop 4), 1) else (rc0, 2)) by unfold getF; rw [if_neg h0, if_neg h4, if_pos ho]]
        refine get_text s _ w h0 (by rw [List.length_drop, ← Lib.size_eq]; omega) (fun W hW => ?_)
        exact open_any s W (by omega) (ht.below hW) hs true ho.symm
      · rw [show getF s = (rc0, 2) by unfold getF; rw [if_neg h0, if_neg h4, if_neg ho]]
        refine get_shut s w h0 (fun W hW => ?_)
        exact open_any s W (by omega) (ht.below hW) hs false (by rw [Bool.not_eq_true] at ho; exact ho.symm)
end
end Go.Proofs.YtiknfifiglooeaaDoor
