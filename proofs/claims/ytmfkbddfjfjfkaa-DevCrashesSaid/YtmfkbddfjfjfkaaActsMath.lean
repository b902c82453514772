/- A device and the model agree: new, behind each act, in what they read. No conditions beyond those in each statement. -/
import Derived.Test.YtmfkbddfjfjfkaaMdFlush
namespace Go.Proofs.Ytmfkbddfjfjfkaa
open Go.RowKit
set_option linter.unusedVariables false

/-- The writes to block i, each with its place among all. -/
def pendAt (i : Nat) : List Wr → Nat → List Wr
  | [], _ => []
  | p :: ps, n => if p.place = i then ⟨n, p.data⟩ :: pendAt i ps (n + 1) else pendAt i ps (n + 1)
theorem pendAt_snoc (i : Nat) (p : Wr) : ∀ (ps : List Wr) (n : Nat), pendAt i (ps ++ [p]) n = pendAt i ps n ++ (if p.place = i then [⟨n + ps.length, p.data⟩] else [])
  | [], n => by simp [pendAt]
  | q :: ps, n => by
    simp only [List.cons_append, pendAt, pendAt_snoc i p ps (n + 1), List.length_cons]
    have e : n + 1 + ps.length = n + (ps.length + 1) := by omega
    split <;> simp [e]
theorem lastAt_pend (i : Nat) : ∀ (ps : List Wr) (s : ByteArray) (n : Nat), lastAt i s ps = match (pendAt i ps n).getLast? with
    | some p => p.data
    | none => s
  | [], s, n => rfl
  | p :: ps, s, n => by
    have e : lastAt i s (p :: ps) = lastAt i (if p.place = i then p.data else s) ps := rfl
    rw [e, lastAt_pend i ps _ (n + 1)]
    by_cases h : p.place = i
    · simp only [h, if_true, pendAt, List.getLast?_cons]
      cases (pendAt i ps (n + 1)).getLast? <;> rfl
    · simp only [h, if_false, pendAt]
structure Agree (D : Dv) (M : Md) : Prop where
  len : M.safe.length = D.bs.length
  down : M.down = D.down
  falls : M.falls = if D.falling then (D.turns : Int) else -1
  writes : D.writes = M.since.length
  blk : ∀ i b, D.bs[i]? = some b → M.safe[i]? = some b.durable ∧ M.hurt[i]? = some b.spoiled ∧ M.gone[i]? = some b.lost ∧ b.pending = pendAt i M.since 0

section
variable {D : Dv} {M : Md}
theorem agree_new (n : Int) : Agree (Dv.new n) (Md.new n) := by
  refine ⟨by simp [Dv.new, Md.new, Dv.newN, Md.newN], rfl, rfl, rfl, fun i b hb => ?_⟩
  simp only [Dv.new, Dv.newN, List.getElem?_replicate] at hb
  split at hb
  · rename_i hi
    obtain rfl := Option.some.inj hb
    simp [Md.new, Md.newN, hi, blk0, pendAt]
  · cases hb
theorem Agree.has (h : Agree D M) (i : Int) : M.inB i = D.hasB i := by simp [Md.inB, Dv.hasB, h.len]
theorem Agree.read (h : Agree D M) (i : Int) : D.read i = M.read i := by
  unfold Dv.read Md.read
  rw [h.down, h.has i]
  by_cases hd : D.down = true
  · simp [hd]
  · by_cases hh : D.hasB i = true
    · obtain ⟨k, b, rfl, hk, hb⟩ := Dv.has_at hh
      obtain ⟨h1, h2, h3, h4⟩ := h.blk k b hb
      simp only [hd, hh, if_true, Int.toNat_natCast, hb, List.getD_eq_getElem?_getD, h1, h3, Option.getD_some]
      by_cases hl : b.lost = true
      · simp [hl]
      · simp only [hl, lastAt_pend k M.since _ 0, Blk.contents, h4]
        cases (pendAt k M.since 0).getLast? <;> rfl
    · simp [hd, hh]
theorem Agree.up (h : Agree D M) : M.up = D.up := by
  unfold Md.up Dv.up
  rw [h.down, h.falls]
  cases D.falling with
  | false => simp
  | true =>
    simp only [if_true, Bool.true_and]
    congr 2
    rw [Bool.eq_iff_iff]
    simp
theorem Agree.op (h : Agree D M) : Agree D.op M.op := by
  have hu := h.up
  have hf := h.falls
  have hd := h.down
  by_cases hdd : D.down = true
  · have h1 : D.up = false := by simp [Dv.up, hdd]
    have e1 : D.op = D := by simp [Dv.op, hdd]
    have e2 : M.op = { M with down := true } := by simp [Md.op, hu, h1]
    rw [e1, e2]
    exact ⟨h.len, hdd.symm, h.falls, h.writes, h.blk⟩
  · have hdd' : D.down = false := by simpa using hdd
    by_cases hff : D.falling = true
    · rw [hff, if_pos rfl] at hf
      by_cases ht : D.turns = 0
      · have h1 : D.up = false := by simp [Dv.up, hff, ht]
        have e1 : D.op = { D with down := true } := by simp [Dv.op, hdd', hff, ht]
        have e2 : M.op = { M with down := true } := by simp [Md.op, hu, h1]
        rw [e1, e2]
        exact ⟨h.len, rfl, h.falls, h.writes, h.blk⟩
      · have h1 : D.up = true := by simp [Dv.up, hdd', ht]
        have hpos : 0 < M.falls := by omega
        have e1 : D.op = { D with turns := D.turns - 1 } := by simp [Dv.op, hdd', hff, ht]
        have e2 : M.op = { M with falls := M.falls - 1 } := by simp [Md.op, hu, h1, hpos]
        rw [e1, e2]
        exact ⟨h.len, h.down, by show M.falls - 1 = if D.falling then ((D.turns - 1 : Nat) : Int) else -1; rw [hff, if_pos rfl]; omega, h.writes, h.blk⟩
    · have hff' : D.falling = false := by simpa using hff
      rw [hff', if_neg (by decide)] at hf
      have h1 : D.up = true := by simp [Dv.up, hdd', hff']
      have hneg : ¬ 0 < M.falls := by rw [hf]; decide
      have e1 : D.op = D := by simp [Dv.op, hdd', hff']
      have e2 : M.op = M := by simp [Md.op, hu, h1, hneg]
      rw [e1, e2]
      exact h
theorem getElem?_set_map {α : Type} (l : List α) (i k : Nat) (x : α) (hi : i < l.length) : (l.set k x)[i]? = if k = i then some x else l[i]? := by
  rw [List.getElem?_set]
  by_cases h : k = i
  · subst h; simp [hi]
  · simp [h]
theorem Agree.fall (h : Agree D M) (n : Int) : Agree (D.fall n) { M with falls := (n.toNat : Int) } := ⟨h.len, h.down, rfl, h.writes, h.blk⟩
theorem Agree.lose (h : Agree D M) (hM : M.Fits) (i : Int) : Agree (D.onB i Blk.lose) (M.loseB i) := by
  by_cases hh : D.hasB i = true
  · obtain ⟨k, b, rfl, hk, hb⟩ := Dv.has_at hh
    rw [onB_at rfl hb, Md.loseB, h.has, if_pos hh, Int.toNat_natCast]
    refine ⟨by simpa using h.len, h.down, h.falls, h.writes, fun j d hj => ?_⟩
    have hjl : j < D.bs.length := by have := (List.getElem?_eq_some_iff.1 hj).1; simpa using this
    simp only at hj
    rw [getElem?_set_map _ _ _ _ hjl] at hj
    by_cases e : k = j
    · subst e
      simp only [if_true, Option.some.injEq] at hj
      subst hj
      obtain ⟨h1, h2, h3, h4⟩ := h.blk k b hb
      exact ⟨h1, h2, by rw [getElem?_set_map _ _ _ _ (by rw [hM.gone, h.len]; exact hjl)]; simp [Blk.lose], h4⟩
    · rw [if_neg e] at hj
      obtain ⟨h1, h2, h3, h4⟩ := h.blk j d hj
      exact ⟨h1, h2, by rw [getElem?_set_map _ _ _ _ (by rw [hM.gone, h.len]; exact hjl), if_neg e]; exact h3, h4⟩
  · have hh' : D.hasB i = false := by simpa using hh
    rw [onB_none hh', Md.loseB, h.has, hh']
    exact h
theorem Agree.flip (h : Agree D M) (hM : M.Fits) (i n : Int) (bt : Nat) : Agree (D.onB i fun b => b.flip n bt) (M.flipB i n bt) := by
  by_cases hh : D.hasB i = true
  · obtain ⟨k, b, rfl, hk, hb⟩ := Dv.has_at hh
    obtain ⟨h1, h2, h3, h4⟩ := h.blk k b hb
    have e1 : M.safe.getD (k : Int).toNat ⟨#[]⟩ = b.durable := by rw [Int.toNat_natCast, List.getD_eq_getElem?_getD, h1]; rfl
    have e2 : M.hurt.getD (k : Int).toNat false = b.spoiled := by rw [Int.toNat_natCast, List.getD_eq_getElem?_getD, h2]; rfl
    rw [onB_at rfl hb]
    unfold Md.flipB Blk.flip
    rw [h.has, e1, e2]
    by_cases hno : bt = 0 ∨ b.durable.size = 0 ∨ b.spoiled = true
    · rw [if_pos hno, if_neg (fun hx => hx.2 hno), set_self _ _ _ hb]
      exact h
    · rw [if_neg hno, if_pos ⟨hh, hno⟩, Int.toNat_natCast]
      refine ⟨by simpa using h.len, h.down, h.falls, h.writes, fun j d hj => ?_⟩
      have hjl : j < D.bs.length := by have := (List.getElem?_eq_some_iff.1 hj).1; simpa using this
      simp only at hj
      rw [getElem?_set_map _ _ _ _ hjl] at hj
      by_cases e : k = j
      · subst e
        simp only [if_true, Option.some.injEq] at hj
        subst hj
        exact ⟨by rw [getElem?_set_map _ _ _ _ (by rw [h.len]; exact hjl)]; simp, by rw [getElem?_set_map _ _ _ _ (by rw [hM.hurt, h.len]; exact hjl)]; simp, h3, h4⟩
      · rw [if_neg e] at hj
        obtain ⟨h1, h2, h3, h4⟩ := h.blk j d hj
        exact ⟨by rw [getElem?_set_map _ _ _ _ (by rw [h.len]; exact hjl), if_neg e]; exact h1, by rw [getElem?_set_map _ _ _ _ (by rw [hM.hurt, h.len]; exact hjl), if_neg e]; exact h2, h3, h4⟩
  · have hh' : D.hasB i = false := by simpa using hh
    rw [onB_none hh', Md.flipB, h.has, hh']
    simpa using h
theorem Agree.note (h : Agree D M) (hM : M.Fits) {k : Nat} {b : Blk} (s : ByteArray) (hb : D.bs[k]? = some b) : Agree { D with bs := D.bs.set k (b.write D.writes s), writes := D.writes + 1 } (M.noted k s) := by
  refine ⟨by simpa [Md.noted] using h.len, h.down, h.falls, by simp [Md.noted, h.writes], fun j d hj => ?_⟩
  have hjl : j < D.bs.length := by have := (List.getElem?_eq_some_iff.1 hj).1; simpa using this
  simp only at hj
  rw [getElem?_set_map _ _ _ _ hjl] at hj
  simp only [Md.noted]
  rw [pendAt_snoc]
  by_cases e : k = j
  · subst e
    simp only [if_true, Option.some.injEq] at hj
    subst hj
    obtain ⟨h1, h2, h3, h4⟩ := h.blk k b hb
    exact ⟨h1, h2, by rw [getElem?_set_map _ _ _ _ (by rw [hM.gone, h.len]; exact hjl)]; simp [Blk.write], by simp [Blk.write, h4, h.writes]⟩
  · rw [if_neg e] at hj
    obtain ⟨h1, h2, h3, h4⟩ := h.blk j d hj
    exact ⟨h1, h2, by rw [getElem?_set_map _ _ _ _ (by rw [hM.gone, h.len]; exact hjl), if_neg e]; exact h3, by simp [e, h4]⟩
/-- What the writes leave of a block. -/
theorem apps_at (i : Nat) : ∀ (ps : List Wr) (M : Md) (s : ByteArray) (t : Bool) (n : Nat), M.safe[i]? = some s → M.hurt[i]? = some t →
    (apps ps M).safe[i]? = some (lastAt i s ps) ∧ (apps ps M).hurt[i]? = some (if (pendAt i ps n).length = 0 then t else false)
  | [], M, s, t, n, hs, ht => ⟨hs, by simpa [apps, pendAt] using ht⟩
  | p :: ps, M, s, t, n, hs, ht => by
    have his := (List.getElem?_eq_some_iff.1 hs).1
    have hit := (List.getElem?_eq_some_iff.1 ht).1
    by_cases h : p.place = i
    · have k := apps_at i ps (app p M) p.data false (n + 1) (by simp only [app]; rw [getElem?_set_map _ _ _ _ his, if_pos h]) (by simp only [app]; rw [getElem?_set_map _ _ _ _ hit, if_pos h])
      refine ⟨?_, ?_⟩
      · rw [show apps (p :: ps) M = apps ps (app p M) from rfl, k.1]
        simp [lastAt, h]
      · rw [show apps (p :: ps) M = apps ps (app p M) from rfl, k.2]
        simp [pendAt, h]
    · have k := apps_at i ps (app p M) s t (n + 1) (by simp only [app]; rw [getElem?_set_map _ _ _ _ his, if_neg h]; exact hs) (by simp only [app]; rw [getElem?_set_map _ _ _ _ hit, if_neg h]; exact ht)
      refine ⟨?_, ?_⟩
      · rw [show apps (p :: ps) M = apps ps (app p M) from rfl, k.1]
        simp [lastAt, h]
      · rw [show apps (p :: ps) M = apps ps (app p M) from rfl, k.2]
        simp [pendAt, h]
theorem Agree.flushed (h : Agree D M) : Agree D.flushed M.flushed := by
  obtain ⟨a1, a2, a3, a4, a5, a6⟩ := apps_keep M.since M
  refine ⟨by simp only [Md.flushed, Dv.flushed, a5, List.length_map]; exact h.len, by simp only [Md.flushed, a4]; exact h.down, by simp only [Md.flushed, a3]; exact h.falls, rfl, fun j d hj => ?_⟩
  simp only [Dv.flushed, List.getElem?_map, Option.map_eq_some_iff] at hj
  obtain ⟨b, hb, rfl⟩ := hj
  obtain ⟨h1, h2, h3, h4⟩ := h.blk j b hb
  obtain ⟨k1, k2⟩ := apps_at j M.since M b.durable b.spoiled 0 h1 h2
  refine ⟨?_, ?_, by simp only [Md.flushed, a2, h3]; unfold Blk.flush; split <;> rfl, by rw [flush_pending]; rfl⟩
  · simp only [Md.flushed, k1]
    rw [lastAt_pend j M.since _ 0, ← h4]
    unfold Blk.flush
    by_cases hz : b.pending.length = 0
    · rw [if_pos hz, List.eq_nil_of_length_eq_zero hz]
      rfl
    · rw [if_neg hz]
      rfl
  · simp only [Md.flushed, k2]
    rw [← h4]
    unfold Blk.flush
    split <;> rfl
theorem Md.op_fits (h : M.Fits) : M.op.Fits := by
  unfold Md.op
  split
  · split
    · exact fits_of h rfl rfl rfl rfl ⟨by have := h.falls; show -1 ≤ M.falls - 1; omega, by have := h.falls; show M.falls - 1 ≤ _; omega⟩
    · exact h
  · exact fits_of h rfl rfl rfl rfl h.falls
theorem agree_play (h : Agree D M) (hM : M.Fits) (a : Ac) : (D.play a).1 = (M.do a).1 ∧ Agree (D.play a).2 (M.do a).2 := by
  have hk := kindA_lt a.k
  by_cases h5 : kindA a.k = 5
  · rw [show D.play a = (0, D.fall a.n) by simp [Dv.play, h5], show M.do a = (0, { M with falls := (a.n.toNat : Int) }) by simp [Md.do, h5]]
    exact ⟨rfl, h.fall a.n⟩
  · by_cases h4 : kindA a.k = 4
    · rw [show D.play a = (0, D.onB a.block Blk.lose) by simp [Dv.play, h4], show M.do a = (0, M.loseB a.block) by simp [Md.do, h4]]
      exact ⟨rfl, h.lose hM a.block⟩
    · by_cases h3 : kindA a.k = 3
      · rw [show D.play a = (0, D.onB a.block fun b => b.flip a.n a.bits) by simp [Dv.play, h3], show M.do a = (0, M.flipB a.block a.n a.bits) by simp [Md.do, h3]]
        exact ⟨rfl, h.flip hM a.block a.n a.bits⟩
      · have hop := h.op
        have hup := h.up
        by_cases h2 : kindA a.k = 2
        · rw [show D.play a = D.flush by simp [Dv.play, h2], show M.do a = if M.up then (0, M.op.flushed) else (5, M.op) by simp [Md.do, h2], hup, Dv.flush]
          by_cases hu : D.up = true
          · rw [if_pos hu, if_pos hu]
            exact ⟨rfl, hop.flushed⟩
          · rw [if_neg hu, if_neg hu]
            exact ⟨rfl, hop⟩
        · have h01 : kindA a.k = 0 ∨ kindA a.k = 1 := by omega
          have e1 : D.play a = D.write a.block a.data := by rcases h01 with h | h <;> simp [Dv.play, h]
          have e2 : M.do a = if M.up then (if M.inB a.block then (if 512 < a.data.size then (3, M.op) else (0, M.op.noted a.block.toNat a.data)) else (7, M.op)) else (5, M.op) := by rcases h01 with h | h <;> simp [Md.do, h]
          rw [e1, e2, hup, h.has, Dv.write]
          by_cases hu : D.up = true
          · rw [if_pos hu, if_pos hu]
            by_cases hh : D.hasB a.block = true
            · obtain ⟨k, b, hbk, hkl, hb⟩ := Dv.has_at hh
              rw [if_pos hh, if_pos hh, hbk, Int.toNat_natCast, hb]
              by_cases hs : 512 < a.data.size
              · simp only [hs, if_true]
                exact ⟨by trivial, hop⟩
              · simp only [hs, if_false]
                have hb' : D.op.bs[k]? = some b := by rw [D.op_bs]; exact hb
                have := hop.note (Md.op_fits hM) a.data hb'
                rw [D.op_bs, D.op_writes] at this
                exact ⟨by trivial, this⟩
            · have hh' : D.hasB a.block = false := by simpa using hh
              rw [hh']
              exact ⟨rfl, hop⟩
          · rw [if_neg hu, if_neg hu]
            exact ⟨rfl, hop⟩
/-- How many writes there may be. -/
theorem do_since (M : Md) (a : Ac) : (M.do a).2.since.length ≤ M.since.length + 1 := by
  unfold Md.do
  split
  · simp
  · simp only [Md.loseB]; split <;> simp
  · simp only [Md.flipB]; split <;> simp
  · split
    · simp [Md.flushed]
    · simp [M.op_since]
  · split
    · split
      · split
        · simp [M.op_since]
        · simp [Md.noted, M.op_since]
      · simp [M.op_since]
    · simp [M.op_since]
end
end Go.Proofs.Ytmfkbddfjfjfkaa
