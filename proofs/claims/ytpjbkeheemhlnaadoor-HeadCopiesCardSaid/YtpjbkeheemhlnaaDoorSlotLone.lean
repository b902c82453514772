/- A device alone among what a call has made, with records; what its blocks read as, in plain words. No conditions beyond those in each statement. -/
import Derived.Test.YtpjbkeheemhlnaaDoorSlotTurn
namespace Go.Proofs.YtpjbkeheemhlnaaDoor
open Go.RowKit
set_option linter.unusedVariables false
set_option maxRecDepth 100000

section
variable {n : Nat} {w x : World} {B : Nat} {D D' : Dv}
theorem lone_sread (i : Int) (ht : Tabs w) (hw : D.writes ≤ 1073741824) (h : Lone n w B D) :
    Calls Tryd.prog 23 #[.pointer (some ⟨B, 0, none⟩), .int .i64 i] w fun e w' => e = .returned (sreadV (D.sread i)) ∧ Below w.heap.size w w' := by
  obtain ⟨S, h, hS⟩ := h
  exact sread_any i h ht hw
theorem lone_swrite (i : Int) (r : Rc) (hn : n ≤ w.heap.size) (ht : Tabs w) (hw : D.writes ≤ 1073741824) (h : Lone n w B D) :
    Calls Tryd.prog 78 #[.pointer (some ⟨B, 0, none⟩), .int .i64 i, recV r] w fun e w' => e = .returned (.int .i64 (D.swrite i r).1) ∧ Lone n w' B (D.swrite i r).2 ∧ Below n w w' := by
  obtain ⟨S, h, hS⟩ := h
  refine (swrite_any i r h ht hw).mono ?_
  rintro e w' ⟨rfl, S', h', hS', hm⟩
  exact ⟨rfl, ⟨S', h', fun k hk => (hS' k hk).elim (hS k) (fun e => Nat.le_trans hn e)⟩, hm.toBelow hS hn⟩
theorem lone_lose (i : Int) (hn : n ≤ w.heap.size) (h : Lone n w B D) :
    Calls Tryd.prog 26 #[.pointer (some ⟨B, 0, none⟩), .int .i64 i] w fun e w' => e = .returned (.tuple #[]) ∧ Lone n w' B (D.onB i Blk.lose) ∧ Below n w w' := by
  obtain ⟨S, h, hS⟩ := h
  refine (lose_any i h).mono ?_
  rintro e w' ⟨rfl, h', hm⟩
  exact ⟨rfl, ⟨S, h', hS⟩, hm.toBelow hS hn⟩
theorem lone_flip (i a : Int) (bt : Nat) (ha : -9223372036854775808 ≤ a ∧ a ≤ 9223372036854775807) (hbt : bt < 256) (hn : n ≤ w.heap.size) (h : Lone n w B D) :
    Calls Tryd.prog 27 #[.pointer (some ⟨B, 0, none⟩), .int .i64 i, .int .i64 a, .int .u8 bt] w fun e w' => e = .returned (.tuple #[]) ∧ Lone n w' B (D.onB i fun b => b.flip a bt) ∧ Below n w w' := by
  obtain ⟨S, h, hS⟩ := h
  refine (flip_any i a bt ha hbt h).mono ?_
  rintro e w' ⟨rfl, h', hm⟩
  exact ⟨rfl, ⟨S, h', hS⟩, hm.toBelow hS hn⟩
end

theorem sread_lost {D : Dv} {b : Blk} (k : Nat) (hd : D.down = false) (hb : D.bs[k]? = some b) (hl : b.lost = true) : D.sread (k : Int) = (rc0, 2, 0) := by
  have hk := (List.getElem?_eq_some_iff.1 hb).1
  have hh : D.hasB (k : Int) = true := by simp [Dv.hasB]; omega
  have e : D.read (k : Int) = (⟨#[]⟩, 6) := by simp [Dv.read, hd, hh, hb, hl]
  unfold Dv.sread
  rw [e, if_pos rfl]
theorem sread_of {D : Dv} {b : Blk} (k : Nat) (hd : D.down = false) (hb : D.bs[k]? = some b) (hl : b.lost = false) : D.sread (k : Int) = ((getF b.contents).1, (getF b.contents).2, 0) := by
  unfold Dv.sread
  rw [read_of k hd hb hl, if_neg (show ¬ (0 : Int) = 6 by decide), if_pos rfl]
theorem sread_down {D : Dv} (i : Int) (hd : D.down = true) : D.sread i = (rc0, 0, 5) := by
  have e : D.read i = (⟨#[]⟩, 5) := by simp [Dv.read, hd]
  unfold Dv.sread
  rw [e, if_neg (show ¬ (5 : Int) = 6 by decide), if_neg (show ¬ (5 : Int) = 0 by decide)]
theorem sread_out {D : Dv} (i : Int) (hd : D.down = false) (hh : D.hasB i = false) : D.sread i = (rc0, 0, 7) := by
  have e : D.read i = (⟨#[]⟩, 7) := by simp [Dv.read, hd, hh]
  unfold Dv.sread
  rw [e, if_neg (show ¬ (7 : Int) = 6 by decide), if_neg (show ¬ (7 : Int) = 0 by decide)]
theorem swrite_of {D : Dv} {b : Blk} (k : Nat) {r : Rc} (ho : r.Ok) (hu : D.up = true) (hb : D.bs[k]? = some b) : D.swrite (k : Int) r = (0, { D.op with bs := D.bs.set k (b.write D.writes r.bytes), writes := D.writes + 1 }) := by
  unfold Dv.swrite
  rw [put_ok ho, if_pos rfl]
  exact write_of k r.bytes hu hb (by rw [bytes_size ho]; have := ho.data; omega)
theorem swrite_down {D : Dv} (i : Int) {r : Rc} (ho : r.Ok) (hu : D.up = false) : D.swrite i r = (5, D.op) := by
  unfold Dv.swrite
  rw [put_ok ho, if_pos rfl]
  simp [Dv.write, hu]
theorem swrite_bad {D : Dv} (i : Int) {r : Rc} (h : r.put.2 ≠ 0) : D.swrite i r = (r.put.2, D) := by
  unfold Dv.swrite
  rw [if_neg h]

/-- m empty blocks, but for the k-th; n writes since the last Flush. -/
def DB (m k n : Nat) (b : Blk) : Dv := ⟨(List.replicate m blk0).set k b, n, false, 0, false⟩
theorem DB_new (m k : Nat) (hk : k < m) (hm : m ≤ 4096) : Dv.new (m : Int) = DB m k 0 blk0 := by
  have e : howMany (m : Int) = m := by unfold howMany; omega
  unfold Dv.new Dv.newN DB
  rw [e, set_self _ _ _ (by rw [List.getElem?_replicate, if_pos hk])]
theorem DB_at (m k n : Nat) (b : Blk) (hk : k < m) : (DB m k n b).bs[k]? = some b := by
  show ((List.replicate m blk0).set k b)[k]? = some b
  rw [List.getElem?_set_self (by simpa using hk)]
theorem DB_len (m k n : Nat) (b : Blk) : (DB m k n b).bs.length = m := by simp [DB]
theorem DB_write (m k n : Nat) (b : Blk) (hk : k < m) {r : Rc} (ho : r.Ok) : (DB m k n b).swrite (k : Int) r = (0, DB m k (n + 1) (b.write n r.bytes)) := by
  rw [swrite_of k ho rfl (DB_at m k n b hk)]
  unfold DB Dv.op
  simp
theorem DB_flush (m k n : Nat) (b : Blk) : (DB m k n b).flush = (0, DB m k 0 b.flush) := by
  have e : blk0.flush = blk0 := rfl
  have hu : (DB m k n b).up = true := rfl
  have ho : (DB m k n b).op = DB m k n b := rfl
  unfold Dv.flush
  rw [if_pos hu, ho]
  unfold Dv.flushed DB
  simp only [List.map_set, List.map_replicate, e]
theorem DB_on (m k n : Nat) (b : Blk) (f : Blk → Blk) (hk : k < m) : (DB m k n b).onB (k : Int) f = DB m k n (f b) := by
  rw [onB_at rfl (DB_at m k n b hk)]
  unfold DB
  simp
theorem DB_read (m k n : Nat) (b : Blk) (hk : k < m) (hl : b.lost = false) : (DB m k n b).sread (k : Int) = ((getF b.contents).1, (getF b.contents).2, 0) := sread_of k rfl (DB_at m k n b hk) hl
theorem DB_lost (m k n : Nat) (b : Blk) (hk : k < m) (hl : b.lost = true) : (DB m k n b).sread (k : Int) = (rc0, 2, 0) := sread_lost k rfl (DB_at m k n b hk) hl
theorem DB_crash (m k n : Nat) (b : Blk) (zs : List Int) : (DB m k n b).crash zs = DB m k 0 (b.crash zs) := by
  have e : blk0.crash zs = blk0 := rfl
  unfold Dv.crash DB
  simp only [List.map_set, List.map_replicate, e]
theorem write_contents (b : Blk) (n : Nat) (s : ByteArray) : (b.write n s).contents = s := contents_snoc (l := b.pending) (p := ⟨n, s⟩) rfl
theorem write_flush (b : Blk) (n : Nat) (s : ByteArray) : (b.write n s).flush = ⟨s, false, false, []⟩ := by
  unfold Blk.flush
  rw [if_neg (by simp [Blk.write]), write_contents]
  rfl

/-- One byte of four turned. -/
theorem turn_byte (l : List UInt8) (p c bt : Nat) (h4 : p + 4 ≤ l.length) (hc : c < 4) (hb : bt < 256) : turnL l p (bt * 256 ^ c) 4 = l.set (p + c) (flip8 (l.getD (p + c) 0) bt) := by
  obtain ⟨c0, c1, c2, c3, hl⟩ := split4 l p h4
  obtain ⟨A, hA⟩ : ∃ A, A = l.take p := ⟨_, rfl⟩
  obtain ⟨E, hE⟩ : ∃ E, E = l.drop (p + 4) := ⟨_, rfl⟩
  have hAl : A.length = p := by rw [hA, List.length_take]; omega
  rw [← hA, ← hE] at hl
  rw [hl, turnL_four A E c0 c1 c2 c3 p _ hAl]
  clear hl hA hE h4
  subst hAl
  have z : ∀ c : UInt8, flip8 c 0 = c := fun c => by unfold flip8; simp
  match c, hc with
  | 0, _ =>
    rw [show bt * 256 ^ 0 = bt by omega, show bt % 256 = bt by omega, show bt / 256 % 256 = 0 by omega, show bt / 65536 % 256 = 0 by omega, show bt / 16777216 % 256 = 0 by omega, z, z, z]
    simp
  | 1, _ =>
    rw [show bt * 256 ^ 1 = bt * 256 by omega, show bt * 256 % 256 = 0 by omega, show bt * 256 / 256 % 256 = bt by omega, show bt * 256 / 65536 % 256 = 0 by omega, show bt * 256 / 16777216 % 256 = 0 by omega, z, z, z]
    simp
  | 2, _ =>
    rw [show bt * 256 ^ 2 = bt * 65536 by omega, show bt * 65536 % 256 = 0 by omega, show bt * 65536 / 256 % 256 = 0 by omega, show bt * 65536 / 65536 % 256 = bt by omega, show bt * 65536 / 16777216 % 256 = 0 by omega, z, z, z]
    simp
  | 3, _ =>
    rw [show bt * 256 ^ 3 = bt * 16777216 by omega, show bt * 16777216 % 256 = 0 by omega, show bt * 16777216 / 256 % 256 = 0 by omega, show bt * 16777216 / 65536 % 256 = 0 by omega, show bt * 16777216 / 16777216 % 256 = bt by omega, z, z, z]
    simp
/-- A record's bytes with one byte turned are bad. -/
theorem get_flipped {r : Rc} (h : r.Ok) (n : Int) (bt : Nat) (h0 : bt ≠ 0) (hb : bt < 256) : getF (flipS r.bytes n bt) = (rc0, 2) := by
  have hs := bytes_size h
  have hl := enc_length h
  have hix : flipIx n r.bytes.size < r.bytes.size := Nat.mod_lt _ (by omega)
  refine get_closed (by rw [flipS_size]; omega) ?_
  obtain ⟨ix, hie⟩ : ∃ ix, ix = flipIx n r.bytes.size := ⟨_, rfl⟩
  have hfl : (flipS r.bytes n bt).data.toList = (sealN r.enc).set ix (flip8 ((sealN r.enc).getD ix 0) bt) := by
    unfold flipS
    rw [← hie, data_mk, bytes_list]
    congr 1
    unfold flip8
    apply UInt8.toNat.inj
    rw [UInt8.toNat_xor, UInt8.toNat_ofNat', UInt8.toNat_ofNat', Nat.mod_eq_of_lt hb, Nat.mod_eq_of_lt (xor_lt8 _ _ (UInt8.toNat_lt _) hb)]
  rw [hfl]
  rw [← hie] at hix
  have hsl := sealN_length r.enc
  by_cases h4 : ix < 4
  · have e := turn_byte (sealN r.enc) 0 ix bt (by omega) h4 hb
    rw [Nat.zero_add] at e
    rw [← e]
    refine opens_turned_sum r.enc _ ?_ ?_
    · exact Nat.mul_ne_zero h0 (Nat.ne_of_gt (Nat.pow_pos (show 0 < 256 by decide)))
    · have : 256 ^ ix ≤ 256 ^ 3 := Nat.pow_le_pow_right (by omega) (by omega)
      calc bt * 256 ^ ix ≤ 255 * 256 ^ 3 := Nat.mul_le_mul (by omega) this
        _ < 4294967296 := by decide
  · obtain ⟨q, c, hc, hq, hqc⟩ : ∃ q c, c < 4 ∧ q + 4 ≤ r.enc.length ∧ 4 + q + c = ix := by
      by_cases hh : ix + 4 ≤ (sealN r.enc).length
      · exact ⟨ix - 4, 0, by omega, by omega, by omega⟩
      · exact ⟨r.enc.length - 4, ix - r.enc.length, by omega, by omega, by omega⟩
    have e := turn_byte (sealN r.enc) (4 + q) c bt (by omega) hc hb
    rw [hqc] at e
    rw [← e]
    refine opens_turned_text r.enc q _ hq ?_ ?_
    · exact Nat.mul_ne_zero h0 (Nat.ne_of_gt (Nat.pow_pos (show 0 < 256 by decide)))
    · have : 256 ^ c ≤ 256 ^ 3 := Nat.pow_le_pow_right (by omega) (by omega)
      calc bt * 256 ^ c ≤ 255 * 256 ^ 3 := Nat.mul_le_mul (by omega) this
        _ < 4294967296 := by decide
end Go.Proofs.YtpjbkeheemhlnaaDoor
