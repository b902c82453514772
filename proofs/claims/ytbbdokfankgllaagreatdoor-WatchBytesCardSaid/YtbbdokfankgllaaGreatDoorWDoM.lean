/- An act, said without memory. No conditions beyond those in each statement. -/
import Derived.Test.YtbbdokfankgllaaGreatDoorWPair
import Derived.Test.YtbbdokfankgllaaGreatDoorWPath
namespace Go.Proofs.YtbbdokfankgllaaGreatDoor
open Go.RowKit Go.Maps Go.Shelf
set_option linter.unusedVariables false
set_option maxRecDepth 100000

noncomputable def upM (a : List Int) : ByteArray := if h : a.length ≤ 12 then Classical.choose (up_mkP a h) else ⟨#[]⟩
theorem upM_spec (a : List Int) (h : a.length ≤ 12) : ∃ l : ByteArray, ∀ W : World, Calls Tryz.prog 48 #[.string (mkP a)] W fun e w' => e = .returned (.tuple #[.string (upM a), .string l]) ∧ ∃ n, w' = W.drewN n := by
  unfold upM
  rw [dif_pos h]
  exact Classical.choose_spec (up_mkP a h)
/-- The watches, the events, the last numbers. -/
structure Sb where
  ws : List Wa
  es : List Ev
  n : Int → Option Int
def sb0 : Sb := ⟨[], [], fun _ => none⟩
def kdo (q : Ac) : Int := wrap64 ((IntKind.u64.wrap q.k).tmod 7)
def sesO (q : Ac) : Int := q.ses % 8
def waO (q : Ac) : Wa := ⟨sesO q, mkP q.path, q.kids, q.once⟩
noncomputable def doS (q : Ac) (when : Int) (S : Sb) : Sb :=
  if kdo q = 0 ∨ kdo q = 1 then ⟨addL S.ws (waO q), S.es, S.n⟩
  else if kdo q = 2 ∨ kdo q = 3 ∨ kdo q = 4 then ⟨fireW (mkP q.path) (upM q.path) (kdo q - 1) S.ws, (fireS (mkP q.path) (upM q.path) (kdo q - 1) when S.ws (S.es, S.n)).1, (fireS (mkP q.path) (upM q.path) (kdo q - 1) when S.ws (S.es, S.n)).2⟩
  else if kdo q = 5 then ⟨S.ws, S.es.filter fun x => !notB (sesO q) (q.n % 16) x, S.n⟩
  else ⟨S.ws.filter fun x => !(x.ses == sesO q), S.es.filter fun x => !(x.ses == sesO q), updN S.n (sesO q) none⟩
theorem pick7 (z : Int) : ∃ q : Nat, q < 7 ∧ wrap64 ((IntKind.u64.wrap z).tmod 7) = (q : Int) := by
  have hw : IntKind.u64.wrap z = z % 18446744073709551616 := by simp [IntKind.wrap, IntKind.bits, IntKind.signed]
  have h0 : 0 ≤ IntKind.u64.wrap z := by omega
  have ht : (IntKind.u64.wrap z).tmod 7 = IntKind.u64.wrap z % 7 := Int.tmod_eq_emod_of_nonneg h0
  refine ⟨((z % 18446744073709551616) % 7).toNat, by omega, ?_⟩
  rw [ht]; unfold wrap64; omega
theorem i64_andp (n : Int) (k : Nat) (hk : k = 3 ∨ k = 4) : bits .and .i64 n ((2 : Int) ^ k - 1) = n % (2 : Int) ^ k := by
  rcases hk with rfl | rfl
  · have h127 : (BitVec.ofInt 64 7).toNat = 2 ^ 3 - 1 := by decide
    have key : (BitVec.ofInt 64 n &&& BitVec.ofInt 64 7).toNat = (n % ((2 ^ 64 : Nat) : Int)).toNat % 2 ^ 3 := by
      rw [BitVec.toNat_and, BitVec.toNat_ofInt, h127, Nat.and_two_pow_sub_one_eq_mod]
    show IntKind.i64.wrap ((BitVec.ofInt 64 n &&& BitVec.ofInt 64 7).toNat : Nat) = n % 8
    rw [key, IntKind.wrap_i64]
    omega
  · have h127 : (BitVec.ofInt 64 15).toNat = 2 ^ 4 - 1 := by decide
    have key : (BitVec.ofInt 64 n &&& BitVec.ofInt 64 15).toNat = (n % ((2 ^ 64 : Nat) : Int)).toNat % 2 ^ 4 := by
      rw [BitVec.toNat_and, BitVec.toNat_ofInt, h127, Nat.and_two_pow_sub_one_eq_mod]
    show IntKind.i64.wrap ((BitVec.ofInt 64 n &&& BitVec.ofInt 64 15).toNat : Nat) = n % 16
    rw [key, IntKind.wrap_i64]
    omega
theorem i64_and7 (n : Int) : bits .and .i64 n 7 = n % 8 := i64_andp n 3 (.inl rfl)
theorem i64_and15 (n : Int) : bits .and .i64 n 15 = n % 16 := i64_andp n 4 (.inr rfl)
structure SbOk (S : Sb) (kk : Nat) : Prop where
  ws : WsOk S.ws
  l40 : S.ws.length ≤ 40
  les : S.es.length ≤ kk
theorem SbOk.inr {S : Sb} {kk : Nat} (h : SbOk S kk) : ∀ x ∈ S.ws, InR x.ses := fun x hx => by
  have := (h.ws.ok x hx).ses
  unfold InR; omega
theorem waO_ok (q : Ac) (h : q.path.length ≤ 12) : WaOk (waO q) := by
  have h1 := chk_mkP q.path h
  have h2 := checkE_len h1
  refine ⟨by unfold waO sesO; simp only; omega, ?_⟩
  rw [Lib.size_eq]; exact h2
theorem SbOk.mono {S : Sb} {kk k2 : Nat} (h : SbOk S kk) (hk : kk ≤ k2) : SbOk S k2 := ⟨h.ws, h.l40, Nat.le_trans h.les hk⟩
theorem sb0_ok : SbOk sb0 0 := ⟨WsOk.nil, by simp [sb0], by simp [sb0]⟩
theorem SbOk.step {S : Sb} {kk : Nat} (h : SbOk S kk) (q : Ac) (when : Int) (hp : q.path.length ≤ 12) : SbOk (doS q when S) (kk + 40) := by
  have h40 := h.l40
  have hes := h.les
  unfold doS
  split
  · have := h.ws.add h.l40 (x := waO q) (fun _ _ => waO_ok q hp)
    exact ⟨this.1, this.2, by simp only; omega⟩
  · split
    · refine ⟨?_, ?_, ?_⟩
      · exact h.ws.filt _
      · exact Nat.le_trans fireW_len h.l40
      · have := fireS_len (s := mkP q.path) (up := upM q.path) (what := kdo q - 1) (when := when) S.ws (S.es, S.n)
        simp only at this ⊢
        omega
    · split
      · exact ⟨h.ws, h.l40, Nat.le_trans (List.length_filter_le ..) (by omega)⟩
      · exact ⟨h.ws.filt _, Nat.le_trans (List.length_filter_le ..) h.l40, Nat.le_trans (List.length_filter_le ..) (by omega)⟩
end Go.Proofs.YtbbdokfankgllaaGreatDoor
