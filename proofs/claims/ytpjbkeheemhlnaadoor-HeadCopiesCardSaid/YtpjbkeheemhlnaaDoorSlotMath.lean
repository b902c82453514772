/- Package slot in plain words: a record, its bytes, and what bytes read as; no program. -/
import Derived.Test.YtpjbkeheemhlnaaDoorPithMath2
import Derived.Test.YtpjbkeheemhlnaaDoorSumBurst
import Derived.Test.YtpjbkeheemhlnaaDoorDevFlip
namespace Go.Proofs.YtpjbkeheemhlnaaDoor
set_option linter.unusedVariables false

/-- What a block holds. -/
structure Rc where
  kind : Int
  index : Int
  term : Int
  data : ByteArray
def recV (r : Rc) : Value := .agg #[.int .i64 r.kind, .int .i64 r.index, .int .i64 r.term, .string r.data]
def rc0 : Rc := ⟨0, 0, 0, ⟨#[]⟩⟩
theorem Rc.ext' {a b : Rc} (h1 : a.kind = b.kind) (h2 : a.index = b.index) (h3 : a.term = b.term) (h4 : a.data = b.data) : a = b := by
  cases a; cases b; simp_all
/-- Its numbers are Go's. -/
structure Rc.Fits (r : Rc) : Prop where
  kind : -9223372036854775808 ≤ r.kind ∧ r.kind ≤ 9223372036854775807
  index : -9223372036854775808 ≤ r.index ∧ r.index ≤ 9223372036854775807
  term : -9223372036854775808 ≤ r.term ∧ r.term ≤ 9223372036854775807
  data : r.data.size ≤ maxLen
/-- Its numbers can be encoded. -/
structure Rc.Num (r : Rc) : Prop where
  kind : 0 ≤ r.kind ∧ r.kind ≤ 281474976710655
  index : 0 ≤ r.index ∧ r.index ≤ 281474976710655
  term : 0 ≤ r.term ∧ r.term ≤ 281474976710655
/-- It can be put. -/
structure Rc.Ok (r : Rc) : Prop extends r.Num where
  data : r.data.size ≤ 488
def Rc.enc (r : Rc) : List UInt8 := numsE [r.kind, r.index, r.term] ++ textE r.data.data.toList
def Rc.bytes (r : Rc) : ByteArray := ⟨(sealN r.enc).toArray⟩
open Classical in
/-- What Put answers. -/
noncomputable def Rc.put (r : Rc) : ByteArray × Int := if r.Num then (if r.data.size ≤ 488 then (r.bytes, 0) else (⟨#[]⟩, 3)) else (⟨#[]⟩, 1)
theorem put_ok {r : Rc} (h : r.Ok) : r.put = (r.bytes, 0) := by unfold Rc.put; rw [if_pos h.toNum, if_pos h.data]
theorem put_long {r : Rc} (h : r.Num) (h2 : 488 < r.data.size) : r.put = (⟨#[]⟩, 3) := by unfold Rc.put; rw [if_pos h, if_neg (by omega)]
theorem put_arg {r : Rc} (h : ¬ r.Num) : r.put = (⟨#[]⟩, 1) := by unfold Rc.put; rw [if_neg h]
theorem put_zero {r : Rc} (h : r.put.2 = 0) : r.Ok := by
  by_cases h1 : r.Num
  · by_cases h2 : r.data.size ≤ 488
    · exact ⟨h1, h2⟩
    · rw [put_long h1 (by omega)] at h; simp at h
  · rw [put_arg h1] at h; simp at h

/-- What the text of a seal reads as. -/
def parseA (t : List UInt8) : Int × RS := numF 6 281474976710655 (some t)
def parseB (t : List UInt8) : Int × RS := numF 6 281474976710655 (parseA t).2
def parseC (t : List UInt8) : Int × RS := numF 6 281474976710655 (parseB t).2
def parseD (t : List UInt8) : List UInt8 × RS := textF 488 (parseC t).2
def parseR (t : List UInt8) : Rc := ⟨(parseA t).1, (parseB t).1, (parseC t).1, ⟨(parseD t).1.toArray⟩⟩
/-- What Get answers: the record, and 0 (empty), 1 (good) or 2 (bad). -/
def getF (s : ByteArray) : Rc × Int :=
  if s.size = 0 then (rc0, 0)
  else if s.size < 4 then (rc0, 2)
  else if opensN s.data.toList then (if doneF (parseD (s.data.toList.drop 4)).2 = 0 then (parseR (s.data.toList.drop 4), 1) else (rc0, 2))
  else (rc0, 2)

theorem numE_be {z : Int} (h : 0 ≤ z ∧ z ≤ 281474976710655) : numE z = be 6 z.toNat := by
  unfold numE
  rw [show min (max z 0) 281474976710655 = z by omega]
theorem numF_E {z : Int} (h : 0 ≤ z ∧ z ≤ 281474976710655) (l : List UInt8) : numF 6 281474976710655 (some (numE z ++ l)) = (z, some l) := by
  rw [numE_be h, numF_be 6 z.toNat 281474976710655 l (by omega), if_pos (by omega)]
  rw [show ((z.toNat : Nat) : Int) = z by omega]
theorem enc_def (r : Rc) : r.enc = numE r.kind ++ (numE r.index ++ (numE r.term ++ (textE r.data.data.toList ++ []))) := by
  simp [Rc.enc, numsE, List.append_assoc]
theorem parse_enc {r : Rc} (h : r.Ok) : parseR r.enc = r ∧ (parseD r.enc).2 = some [] := by
  have a : parseA r.enc = (r.kind, some (numE r.index ++ (numE r.term ++ (textE r.data.data.toList ++ [])))) := by unfold parseA; rw [enc_def, numF_E h.kind]
  have b : parseB r.enc = (r.index, some (numE r.term ++ (textE r.data.data.toList ++ []))) := by unfold parseB; rw [a]; exact numF_E h.index _
  have c : parseC r.enc = (r.term, some (textE r.data.data.toList ++ [])) := by unfold parseC; rw [b]; exact numF_E h.term _
  have hl : r.data.data.toList.length ≤ 488 := by have := h.data; rw [← Lib.size_eq]; exact this
  have d : parseD r.enc = (r.data.data.toList, some []) := by unfold parseD; rw [c]; rw [textF_E _ [] 488 (by omega), if_pos (by omega)]
  unfold parseR
  rw [a, b, c, d]
  exact ⟨Rc.ext' rfl rfl rfl (by simp), rfl⟩
theorem enc_length {r : Rc} (h : r.Ok) : r.enc.length = 20 + r.data.size := by
  have hl : r.data.data.toList.length = r.data.size := (Lib.size_eq _).symm
  have := h.data
  rw [enc_def, textE_short _ (by omega)]
  simp [numE_length, be_length, hl]
  omega
theorem bytes_list (r : Rc) : r.bytes.data.toList = sealN r.enc := by simp [Rc.bytes]
theorem sealN_length (l : List UInt8) : (sealN l).length = l.length + 4 := by simp [sealN, bytesN_length]; omega
theorem sealN_drop (l : List UInt8) : (sealN l).drop 4 = l := List.drop_left' (bytesN_length _)
theorem bytes_size {r : Rc} (h : r.Ok) : r.bytes.size = 24 + r.data.size := by
  rw [Lib.size_eq, bytes_list, sealN_length, enc_length h]; omega
/-- What was put is got. -/
theorem get_put {r : Rc} (h : r.Ok) : getF r.bytes = (r, 1) := by
  have hs := bytes_size h
  obtain ⟨h1, h2⟩ := parse_enc h
  unfold getF
  rw [if_neg (by omega), if_neg (by omega), bytes_list, if_pos (opens_seal _), sealN_drop, h2, if_pos (show doneF (some []) = 0 from rfl), h1]
theorem parse_good {t : List UInt8} (h : doneF (parseD t).2 = 0) : (parseR t).Ok ∧ (parseR t).enc = t := by
  have hd : (parseD t).2 = some [] := by
    cases hq : (parseD t).2 with
    | none => rw [hq] at h; simp [doneF] at h
    | some l =>
      rw [hq] at h
      cases l with
      | nil => rfl
      | cons c l => simp [doneF] at h
  have none_num : ∀ k m, (numF k m none).2 = none := fun _ _ => rfl
  cases hc : (parseC t).2 with
  | none =>
    have : (parseD t).2 = none := by unfold parseD; rw [hc]; rfl
    rw [this] at hd; cases hd
  | some lc =>
    cases hb : (parseB t).2 with
    | none =>
      have : (parseC t).2 = none := by unfold parseC; rw [hb]; rfl
      rw [this] at hc; cases hc
    | some lb =>
      cases ha : (parseA t).2 with
      | none =>
        have : (parseB t).2 = none := by unfold parseB; rw [ha]; rfl
        rw [this] at hb; cases hb
      | some la =>
        obtain ⟨a0, a1, a2, a3⟩ := numF_some (k := 6) (most := 281474976710655) (v := (parseA t).1) (l := t) (l' := la) (by rw [← ha]; rfl)
        obtain ⟨b0, b1, b2, b3⟩ := numF_some (k := 6) (most := 281474976710655) (v := (parseB t).1) (l := la) (l' := lb) (by rw [← hb, ← ha]; rfl)
        obtain ⟨c0, c1, c2, c3⟩ := numF_some (k := 6) (most := 281474976710655) (v := (parseC t).1) (l := lb) (l' := lc) (by rw [← hc, ← hb]; rfl)
        obtain ⟨d0, d1, d2⟩ := textF_some (most := 488) (m := (parseD t).1) (l := lc) (l' := []) (by rw [← hd, ← hc]; rfl)
        refine ⟨⟨⟨⟨a0, a1⟩, ⟨b0, b1⟩, ⟨c0, c1⟩⟩, ?_⟩, ?_⟩
        · show (ByteArray.mk (parseD t).1.toArray).size ≤ 488
          rw [size_mk]; omega
        · rw [enc_def]
          show numE (parseA t).1 ++ (numE (parseB t).1 ++ (numE (parseC t).1 ++ (textE (ByteArray.mk (parseD t).1.toArray).data.toList ++ []))) = t
          rw [numE_be ⟨a0, a1⟩, numE_be ⟨b0, b1⟩, numE_be ⟨c0, c1⟩, data_mk, ← d2, ← c3, ← b3, ← a3]
/-- What Get answers, in three ways. -/
theorem get_cases (s : ByteArray) : (s.size = 0 ∧ getF s = (rc0, 0)) ∨ (s.size ≠ 0 ∧ getF s = (rc0, 2)) ∨ ∃ r : Rc, r.Ok ∧ s = r.bytes ∧ getF s = (r, 1) := by
  by_cases h0 : s.size = 0
  · exact .inl ⟨h0, by unfold getF; rw [if_pos h0]⟩
  · by_cases h4 : s.size < 4
    · exact .inr (.inl ⟨h0, by unfold getF; rw [if_neg h0, if_pos h4]⟩)
    · by_cases ho : opensN s.data.toList = true
      · by_cases hd : doneF (parseD (s.data.toList.drop 4)).2 = 0
        · obtain ⟨h1, h2⟩ := parse_good hd
          refine .inr (.inr ⟨_, h1, ?_, by unfold getF; rw [if_neg h0, if_neg h4, if_pos ho, if_pos hd]⟩)
          unfold Rc.bytes
          rw [h2]
          have hl : sealN (s.data.toList.drop 4) = s.data.toList := by
            unfold opensN at ho
            rw [beq_iff_eq] at ho
            unfold sealN
            rw [ho, List.take_append_drop]
          rw [hl]
        · exact .inr (.inl ⟨h0, by unfold getF; rw [if_neg h0, if_neg h4, if_pos ho, if_neg hd]⟩)
      · exact .inr (.inl ⟨h0, by unfold getF; rw [if_neg h0, if_neg h4, if_neg ho]⟩)
/-- Unlike records have unlike bytes. -/
theorem bytes_inj {a b : Rc} (ha : a.Ok) (hb : b.Ok) (h : a.bytes = b.bytes) : a = b := by
  have h1 := get_put ha
  rw [h, get_put hb] at h1
  exact (Prod.mk.inj h1).1.symm
theorem get_closed {s : ByteArray} (h0 : s.size ≠ 0) (h : opensN s.data.toList = false) : getF s = (rc0, 2) := by
  unfold getF
  rw [if_neg h0]
  by_cases h4 : s.size < 4
  · rw [if_pos h4]
  · rw [if_neg h4, if_neg (by rw [h]; simp)]
/-- The first half of a record's bytes is bad. -/
theorem get_half {r : Rc} (h : r.Ok) : getF (r.bytes.extract 0 (r.bytes.size / 2)) = (rc0, 2) := by
  have hs := bytes_size h
  have hx : (r.bytes.extract 0 (r.bytes.size / 2)).size = r.bytes.size / 2 := by simp; omega
  have hd := h.data
  rcases get_cases (r.bytes.extract 0 (r.bytes.size / 2)) with ⟨h0, _⟩ | ⟨_, h2⟩ | ⟨q, hq, he, _⟩
  · omega
  · exact h2
  · exfalso
    have hqs := bytes_size hq
    have hql : q.bytes.data.toList = r.bytes.data.toList.take (r.bytes.size / 2) := by rw [← he, Lib.extract_data]; simp
    rw [bytes_list, bytes_list] at hql
    have e1 := sealN_drop q.enc
    rw [hql, List.drop_take, sealN_drop] at e1
    have hl : q.bytes.size = r.bytes.size / 2 := by rw [← he]; exact hx
    have hn : 20 ≤ r.bytes.size / 2 - 4 := by omega
    -- the length field is the same
    have e2 : q.enc.take 20 = r.enc.take 20 := by rw [← e1, List.take_take, Nat.min_eq_left hn]
    have f : ∀ {x : Rc}, x.Ok → ((x.enc.drop 18).take 2) = be 2 x.data.size := by
      intro x hx
      have hxl : x.data.data.toList.length = x.data.size := (Lib.size_eq _).symm
      have := hx.data
      have e : x.enc = (numE x.kind ++ numE x.index ++ numE x.term) ++ (be 2 x.data.size ++ x.data.data.toList) := by
        rw [enc_def, textE_short _ (by omega), hxl]; simp [List.append_assoc]
      rw [e, List.drop_left' (by simp [numE_length]), List.take_left' (be_length _ _)]
    have g : ∀ l : List UInt8, (l.drop 18).take 2 = (l.take 20).drop 18 := fun l => by rw [List.drop_take]
    have e3 : be 2 q.data.size = be 2 r.data.size := by rw [← f hq, ← f h, g, g, e2]
    have e4 := congrArg val e3
    have := hq.data
    rw [val_be_lt _ _ (by omega), val_be_lt _ _ (by omega)] at e4
    omega
theorem turn_one (l : List UInt8) (p tn : Nat) (hp : p < l.length) (ht : tn < 256) (h4 : p + 4 ≤ l.length) : turnL l p tn 4 = l.set p (flip8 (l.getD p 0) tn) := by
  obtain ⟨c0, c1, c2, c3, hl⟩ := split4 l p h4
  obtain ⟨A, hA⟩ : ∃ A, A = l.take p := ⟨_, rfl⟩
  obtain ⟨B, hB⟩ : ∃ B, B = l.drop (p + 4) := ⟨_, rfl⟩
  have hAl : A.length = p := by rw [hA, List.length_take]; omega
  rw [← hA, ← hB] at hl
  rw [hl, turnL_four A B c0 c1 c2 c3 p tn hAl]
  subst hAl
  have z : ∀ c : UInt8, flip8 c 0 = c := fun c => by unfold flip8; simp
  rw [show tn % 256 = tn by omega, show tn / 256 % 256 = 0 by omega, show tn / 65536 % 256 = 0 by omega, show tn / 16777216 % 256 = 0 by omega, z, z, z]
  simp
end Go.Proofs.YtpjbkeheemhlnaaDoor
