/- An entry mended while the power fails, on a device in plain words; no program. -/
import Derived.Test.YtpkhhecmddpnmaaDoorPlogLo
namespace Go.Proofs.YtpkhhecmddpnmaaDoor
set_option linter.unusedVariables false
set_option maxRecDepth 100000

/-- Whatever was written to a block is one text. -/
structure Sf (s : ByteArray) (b : Blk) : Prop where
  dur : b.durable = s
  pend : ∀ p ∈ b.pending, p.data = s
section
variable {s : ByteArray} {b : Blk}
theorem Sf.contents (h : Sf s b) : b.contents = s := by
  unfold Blk.contents
  split
  · rename_i p hp
    exact h.pend p (List.mem_of_getLast? hp)
  · exact h.dur
theorem Sf.write (h : Sf s b) (n : Nat) : Sf s (b.write n s) := ⟨h.dur, fun p hp => by
  rcases List.mem_append.1 hp with hp | hp
  · exact h.pend p hp
  · rw [List.mem_singleton.1 hp]⟩
theorem Sf.flush (h : Sf s b) : Sf s b.flush := by
  unfold Blk.flush
  split
  · exact h
  · exact ⟨h.contents, fun p hp => by cases hp⟩
theorem Sf.lose (h : Sf s b) : Sf s b.lose := ⟨h.dur, h.pend⟩
theorem Sf.crash {r : Rc} (h : Sf r.bytes b) (ho : r.Ok) (zs : List Int) : (b.crash zs).pending = [] ∧ (rd (b.crash zs) = (r, 1) ∨ rd (b.crash zs) = (rc0, 2)) := by
  have key : ∀ (x : ByteArray) (sp l : Bool), (x = r.bytes ∨ x = r.bytes.extract 0 (r.bytes.size / 2)) → rd ⟨x, sp, l, []⟩ = (r, 1) ∨ rd ⟨x, sp, l, []⟩ = (rc0, 2) := by
    intro x sp l hx
    cases l with
    | true => exact .inr (rd_lost rfl)
    | false =>
      have e : rd ⟨x, sp, false, []⟩ = getF x := by
        unfold rd
        rw [if_neg (show ¬ (false = true) by decide), contents_nil rfl]
      rw [e]
      rcases hx with rfl | rfl
      · exact .inl (get_put ho)
      · exact .inr (get_half ho)
  unfold Blk.crash
  cases hf : b.pending.reverse.findSome? (oneHit zs b) with
  | none => exact ⟨rfl, key _ _ _ (.inl h.dur)⟩
  | some b' =>
    obtain ⟨p, hp, hh⟩ := List.exists_of_findSome?_eq_some hf
    have hd := h.pend p (by simpa using hp)
    unfold oneHit at hh
    show b'.pending = [] ∧ (rd b' = (r, 1) ∨ rd b' = (rc0, 2))
    split at hh
    · obtain rfl := Option.some.inj hh
      exact ⟨rfl, key _ _ _ (.inl hd)⟩
    · split at hh
      · obtain rfl := Option.some.inj hh
        exact ⟨rfl, key _ _ _ (.inr (by rw [hd]))⟩
      · cases hh
end
/-- Two blocks of one text each; the others are as they were. -/
structure Two2 (D D0 : Dv) (e q : Nat) (se sq : ByteArray) : Prop where
  len : D.bs.length = D0.bs.length
  same : ∀ j, j ≠ e → j ≠ q → D.bs[j]? = D0.bs[j]?
  be : ∃ b, D.bs[e]? = some b ∧ Sf se b
  bq : ∃ b, D.bs[q]? = some b ∧ Sf sq b
section
variable {D D' D0 : Dv} {e q : Nat} {se sq : ByteArray}
theorem Two2.of_bs (h : Two2 D D0 e q se sq) (hb : D'.bs = D.bs) : Two2 D' D0 e q se sq := ⟨by rw [hb]; exact h.len, by rw [hb]; exact h.same, by rw [hb]; exact h.be, by rw [hb]; exact h.bq⟩
theorem Two2.setE (h : Two2 D D0 e q se sq) (hne : e ≠ q) {b : Blk} (hb : Sf se b) (he : D'.bs = D.bs.set e b) : Two2 D' D0 e q se sq := by
  obtain ⟨b0, hb0, _⟩ := h.be
  obtain ⟨b1, hb1, hs1⟩ := h.bq
  have hl := (List.getElem?_eq_some_iff.1 hb0).1
  refine ⟨by rw [he]; simpa using h.len, fun j h1 h2 => ?_, ⟨b, by rw [he]; simp [hl], hb⟩, ⟨b1, ?_, hs1⟩⟩
  · rw [he, List.getElem?_set_ne (fun e => h1 e.symm)]; exact h.same j h1 h2
  · rw [he, List.getElem?_set_ne hne]; exact hb1
theorem Two2.setQ (h : Two2 D D0 e q se sq) (hne : e ≠ q) {b : Blk} (hb : Sf sq b) (he : D'.bs = D.bs.set q b) : Two2 D' D0 e q se sq := by
  obtain ⟨b0, hb0, hs0⟩ := h.be
  obtain ⟨b1, hb1, _⟩ := h.bq
  have hl := (List.getElem?_eq_some_iff.1 hb1).1
  refine ⟨by rw [he]; simpa using h.len, fun j h1 h2 => ?_, ⟨b0, ?_, hs0⟩, ⟨b, by rw [he]; simp [hl], hb⟩⟩
  · rw [he, List.getElem?_set_ne (fun e => h2 e.symm)]; exact h.same j h1 h2
  · rw [he, List.getElem?_set_ne (fun e => hne e.symm)]; exact hb0
theorem Two2.flush (h : Two2 D D0 e q se sq) (hc : ∀ b ∈ D0.bs, b.pending = [] ∨ D0.bs[e]? = some b ∨ D0.bs[q]? = some b) (hp : ∀ j b, j ≠ e → j ≠ q → D0.bs[j]? = some b → b.pending = []) : Two2 D.flush.2 D0 e q se sq := by
  unfold Dv.flush
  split
  · have hb : ∀ j : Nat, D.op.flushed.bs[j]? = (D.bs[j]?).map Blk.flush := fun j => by unfold Dv.flushed; simp only [op_bs]; exact List.getElem?_map
    obtain ⟨b0, hb0, hs0⟩ := h.be
    obtain ⟨b1, hb1, hs1⟩ := h.bq
    refine ⟨by simp only [Dv.flushed, op_bs, List.length_map]; exact h.len, fun j h1 h2 => ?_, ⟨b0.flush, by rw [hb, hb0]; rfl, hs0.flush⟩, ⟨b1.flush, by rw [hb, hb1]; rfl, hs1.flush⟩⟩
    rw [hb, h.same j h1 h2]
    cases hj : D0.bs[j]? with
    | none => rfl
    | some b =>
      have := hp j b h1 h2 hj
      show some b.flush = some b
      unfold Blk.flush
      rw [this]
      rfl
  · exact h.of_bs (op_bs D)
/-- One block written, with a text that it may have; what is answered. -/
theorem swrite_two {r : Rc} (ho : r.Ok) {k : Nat} {b : Blk} (hb : D.bs[k]? = some b) : ((D.swrite (k : Int) r).1 = 0 ∧ (D.swrite (k : Int) r).2.bs = D.bs.set k (b.write D.writes r.bytes)) ∨ ((D.swrite (k : Int) r).1 = 5 ∧ (D.swrite (k : Int) r).2.bs = D.bs) := by
  cases hu : D.up with
  | true => rw [swrite_of k ho hu hb]; exact .inl ⟨rfl, rfl⟩
  | false =>
    right
    unfold Dv.swrite
    rw [put_ok ho, if_pos rfl]
    unfold Dv.write
    rw [hu, if_neg (by decide)]
    exact ⟨rfl, op_bs D⟩
theorem flush_two (D : Dv) : (D.flush.1 = 0 ∧ D.flush.2.bs = D.bs.map Blk.flush) ∨ (D.flush.1 = 5 ∧ D.flush.2.bs = D.bs) := by
  unfold Dv.flush
  split
  · exact .inl ⟨rfl, by simp only [Dv.flushed, op_bs]⟩
  · exact .inr ⟨rfl, op_bs D⟩
/-- A block that is whole and durable. -/
def Dn (D : Dv) (e : Nat) (s : ByteArray) : Prop := ∃ b, D.bs[e]? = some b ∧ b.pending = [] ∧ b.lost = false ∧ b.durable = s
theorem Dn.of_bs (h : Dn D e se) (hb : D'.bs = D.bs) : Dn D' e se := by unfold Dn; rw [hb]; exact h
theorem Dn.flush (h : Dn D e se) : Dn D.flush.2 e se := by
  rcases flush_two D with ⟨_, hb⟩ | ⟨_, hb⟩
  · obtain ⟨b, h1, h2, h3, h4⟩ := h
    refine ⟨b, ?_, h2, h3, h4⟩
    rw [hb, List.getElem?_map, h1]
    show some b.flush = some b
    unfold Blk.flush
    rw [h2]
    rfl
  · exact h.of_bs hb
end
section
variable {L : Lg} {xs : List En} {m : Nat → Bool} {M k : Nat} {D D0 : Dv} {x : En}
/-- One record written and flushed. -/
theorem wr_two {r : Rc} (ho : r.Ok) {e q : Nat} {se sq : ByteArray} (hne : e ≠ q) (h : Two2 D D0 e q se sq) (hp : ∀ j b, j ≠ e → j ≠ q → D0.bs[j]? = some b → b.pending = []) (hr : (L.blk r.kind r.index = (e : Int) ∧ r.bytes = se) ∨ (L.blk r.kind r.index = (q : Int) ∧ r.bytes = sq)) :
    Two2 (D.wr L [r]).2 D0 e q se sq ∧ ((D.wr L [r]).1 = 0 ∨ (D.wr L [r]).1 = 5) ∧ ((D.wr L [r]).1 = 0 → (L.blk r.kind r.index = (e : Int) ∧ r.bytes = se) → Dn (D.wr L [r]).2 e se) ∧ ((L.blk r.kind r.index = (q : Int) ∧ r.bytes = sq) → Dn D e se → Dn (D.wr L [r]).2 e se) := by
  have hc : ∀ b ∈ D0.bs, b.pending = [] ∨ D0.bs[e]? = some b ∨ D0.bs[q]? = some b := by
    intro b hb
    obtain ⟨j, hj⟩ := List.getElem?_of_mem hb
    by_cases h1 : j = e
    · subst h1; exact .inr (.inl hj)
    · by_cases h2 : j = q
      · subst h2; exact .inr (.inr hj)
      · exact .inl (hp j b h1 h2 hj)
  obtain ⟨i, b, hi, hb, hsf⟩ : ∃ i b, L.blk r.kind r.index = ((i : Nat) : Int) ∧ D.bs[i]? = some b ∧ Sf r.bytes b := by
    rcases hr with ⟨h1, h2⟩ | ⟨h1, h2⟩
    · obtain ⟨b, hb, hs⟩ := h.be; exact ⟨e, b, h1, hb, by rw [h2]; exact hs⟩
    · obtain ⟨b, hb, hs⟩ := h.bq; exact ⟨q, b, h1, hb, by rw [h2]; exact hs⟩
  have hil := (List.getElem?_eq_some_iff.1 hb).1
  rcases swrite_two (D := D) ho hb with ⟨e1, e2⟩ | ⟨e1, e2⟩
  · rw [← hi] at e1 e2
    have h2 : Two2 (D.swrite (L.blk r.kind r.index) r).2 D0 e q se sq := by
      rcases hr with ⟨h1, hs⟩ | ⟨h1, hs⟩
      · obtain rfl : i = e := by omega
        exact h.setE hne (b := b.write D.writes r.bytes) (by rw [hs] at hsf ⊢; exact hsf.write _) e2
      · obtain rfl : i = q := by omega
        exact h.setQ hne (b := b.write D.writes r.bytes) (by rw [hs] at hsf ⊢; exact hsf.write _) e2
    rw [wr_go e1, wr_nil]
    refine ⟨h2.flush hc hp, ?_, fun h0 he => ?_, fun he hd => ?_⟩
    · rcases flush_two (D.swrite (L.blk r.kind r.index) r).2 with ⟨h, _⟩ | ⟨h, _⟩
      · exact .inl h
      · exact .inr h
    · rcases flush_two (D.swrite (L.blk r.kind r.index) r).2 with ⟨_, hb'⟩ | ⟨h, _⟩
      · obtain rfl : i = e := by have := he.1; omega
        refine ⟨(b.write D.writes r.bytes).flush, ?_, flush_pending _, ?_, ?_⟩
        · rw [hb', e2, List.getElem?_map]; simp [hil]
        · unfold Blk.flush; split <;> rfl
        · rw [← he.2]
          unfold Blk.flush
          rw [if_neg (by simp [Blk.write])]
          exact write_contents _ _ _
      · rw [h0] at h; cases h
    · have hd2 : Dn (D.swrite (L.blk r.kind r.index) r).2 e se := by
        obtain rfl : i = q := by have := he.1; omega
        obtain ⟨b2, g1, g2⟩ := hd
        exact ⟨b2, by rw [e2, List.getElem?_set_ne (fun e => hne e.symm)]; exact g1, g2⟩
      exact hd2.flush
  · rw [← hi] at e1 e2
    rw [wr_stop (by rw [e1]; decide)]
    exact ⟨h.of_bs e2, .inr e1, (fun h0 => by rw [e1] at h0; cases h0), (fun _ hd => hd.of_bs e2)⟩
theorem sread_fall (D : Dv) (t i : Int) : (D.fall t).sread i = D.sread i := rfl
/-- Mend of a damaged entry, the power failing at some time, or not. -/
theorem mend_power {g : Nat → Bool} (H : Harmd D0 L xs g m M) (hx : xs[k]? = some x) (hg : g k = false) (h2 : Two2 D0 D0 (L.at 2 x.index) (L.at 3 x.index) (entR x).bytes (mkR x).bytes) (t : Int) :
    (((D0.fall t).mendV L x).1 = 0 ∨ ((D0.fall t).mendV L x).1 = 5) ∧ Two2 ((D0.fall t).mendV L x).2 D0 (L.at 2 x.index) (L.at 3 x.index) (entR x).bytes (mkR x).bytes ∧ (((D0.fall t).mendV L x).1 = 0 → Dn ((D0.fall t).mendV L x).2 (L.at 2 x.index) (entR x).bytes) := by
  have G := H.geo
  have R := H.ents
  obtain ⟨_, _, a1, _, a2, _⟩ := R.at hx
  have hok := R.ok x (List.mem_of_getElem? hx)
  have hs : (D0.fall t).sread (L.blk 2 x.index) = (rc0, 2, 0) := by
    rw [sread_fall, G.sread H.calm.toLive H.len (.inl rfl) x.index, H.lay.ent k x hx, hg]
    rfl
  have hl : mendL (D0.fall t) L x = [entR x] := by
    unfold mendL
    rw [hs, if_neg]
    exact fun e => by have := congrArg Rc.kind e; simp [rc0, entR] at this
  have hp : ∀ j b, j ≠ L.at 2 x.index → j ≠ L.at 3 x.index → D0.bs[j]? = some b → b.pending = [] := fun j b _ _ hb => H.calm.pend b (List.mem_of_getElem? hb)
  have hne := G.ne x.index x.index
  have b2 : L.blk (entR x).kind (entR x).index = (L.at 2 x.index : Int) := (G.lt (.inl rfl) x.index).2
  have b3 : L.blk (mkR x).kind (mkR x).index = (L.at 3 x.index : Int) := (G.lt (.inr rfl) x.index).2
  have hf : Two2 (D0.fall t) D0 (L.at 2 x.index) (L.at 3 x.index) (entR x).bytes (mkR x).bytes := h2.of_bs rfl
  obtain ⟨t1, c1, d1, _⟩ := wr_two (entR_ok a1 a2 hok) hne hf hp (.inl ⟨b2, rfl⟩)
  have hm : (D0.fall t).mendV L x = if ((D0.fall t).wr L [entR x]).1 ≠ 0 then (D0.fall t).wr L [entR x] else ((D0.fall t).wr L [entR x]).2.wr L [mkR x] := by
    unfold Dv.mendV
    rw [hs, hl, if_neg (by decide)]
  rw [hm]
  by_cases h0 : ((D0.fall t).wr L [entR x]).1 = 0
  · rw [if_neg (by rw [h0]; decide)]
    obtain ⟨t2, c2, _, d2⟩ := wr_two (mkR_ok a1 a2 hok) hne t1 hp (.inr ⟨b3, rfl⟩)
    exact ⟨c2, t2, fun _ => d2 ⟨b3, rfl⟩ (d1 h0 ⟨b2, rfl⟩)⟩
  · rw [if_pos h0]
    exact ⟨c1, t1, fun h => absurd h h0⟩
/-- .. and opened again. -/
theorem crash_two {g : Nat → Bool} (H : Harmd D0 L xs g m M) (hx : xs[k]? = some x) (h2 : Two2 D D0 (L.at 2 x.index) (L.at 3 x.index) (entR x).bytes (mkR x).bytes) (zs : List Int) :
    ∃ q1 q2, Harmd (D.crash zs) L xs (updB g k q1) (updB m k q2) M ∧ (Dn D (L.at 2 x.index) (entR x).bytes → q1 = true) := by
  have G := H.geo
  have R := H.ents
  obtain ⟨_, _, a1, _, a2, _⟩ := R.at hx
  have hok := R.ok x (List.mem_of_getElem? hx)
  have hbs : ∀ j : Nat, (D.crash zs).bs[j]? = (D.bs[j]?).map (Blk.crash zs) := fun j => by unfold Dv.crash; exact List.getElem?_map
  have hsame : ∀ j, j ≠ L.at 2 x.index → j ≠ L.at 3 x.index → cont (D.crash zs) j = cont D0 j := fun j h1 h3 => by
    unfold cont
    rw [hbs, h2.same j h1 h3]
    cases hj : D0.bs[j]? with
    | none => rfl
    | some b => rw [Option.map_some, blk_crash_calm (H.calm.pend b (List.mem_of_getElem? hj))]
  obtain ⟨be, hbe, hse⟩ := h2.be
  obtain ⟨bq, hbq, hsq⟩ := h2.bq
  have ce : cont (D.crash zs) (L.at 2 x.index) = rd (be.crash zs) := by unfold cont; rw [hbs, hbe]; rfl
  have cq : cont (D.crash zs) (L.at 3 x.index) = rd (bq.crash zs) := by unfold cont; rw [hbs, hbq]; rfl
  have hE := hse.crash (entR_ok a1 a2 hok) zs
  have hQ := hsq.crash (mkR_ok a1 a2 hok) zs
  obtain ⟨q1, h1⟩ : ∃ q1 : Bool, rd (be.crash zs) = if q1 = true then (entR x, 1) else (rc0, 2) := by
    rcases hE.2 with h | h
    · exact ⟨true, by rw [h, if_pos rfl]⟩
    · exact ⟨false, by rw [h, if_neg (by decide)]⟩
  obtain ⟨q2, h3⟩ : ∃ q2 : Bool, rd (bq.crash zs) = if q2 = true then (mkR x, 1) else (rc0, 2) := by
    rcases hQ.2 with h | h
    · exact ⟨true, by rw [h, if_pos rfl]⟩
    · exact ⟨false, by rw [h, if_neg (by decide)]⟩
  have hpend : ∀ b ∈ (D.crash zs).bs, b.pending = [] := by
    intro b hb
    obtain ⟨j, hj⟩ := List.getElem?_of_mem hb
    rw [hbs] at hj
    cases hd : D.bs[j]? with
    | none => rw [hd] at hj; cases hj
    | some b0 =>
      rw [hd] at hj
      obtain rfl : b0.crash zs = b := Option.some.inj hj
      by_cases e1 : j = L.at 2 x.index
      · rw [e1, hbe] at hd; obtain rfl := Option.some.inj hd; exact hE.1
      · by_cases e3 : j = L.at 3 x.index
        · rw [e3, hbq] at hd; obtain rfl := Option.some.inj hd; exact hQ.1
        · rw [h2.same j e1 e3] at hd
          have hb0 := H.calm.pend b0 (List.mem_of_getElem? hd)
          rw [blk_crash_calm hb0]; exact hb0
  refine ⟨q1, q2, ⟨G, ?_, ⟨⟨rfl, rfl⟩, hpend, rfl⟩, R, ⟨fun j y hy => ?_, fun j y hy => ?_⟩, fun hl => ?_⟩, fun hd => ?_⟩
  · unfold Dv.crash; simp only [List.length_map]; exact h2.len.trans H.len
  · by_cases hj : j = k
    · subst hj
      rw [hx] at hy
      obtain rfl := Option.some.inj hy
      rw [updB_same, ce, h1]
    · rw [updB_other hj, hsame _ (fun e => hj (R.same G (.inl rfl) hy hx e).1) (G.ne _ _)]
      exact H.lay.ent j y hy
  · by_cases hj : j = k
    · subst hj
      rw [hx] at hy
      obtain rfl := Option.some.inj hy
      rw [updB_same, cq, h3]
    · rw [updB_other hj, hsame _ (fun e => G.ne _ _ e.symm) (fun e => hj (R.same G (.inr rfl) hy hx e).1)]
      exact H.lay.mrk j y hy
  · have hcn := R.cnt
    rw [hsame _ (R.apart G (.inl rfl) hx (by omega) (by omega)) (G.ne _ _), hsame _ (fun e => G.ne _ _ e.symm) (R.apart G (.inr rfl) hx (by omega) (by omega))]
    exact H.stop hl
  · obtain ⟨b, g1, g2, g3, g4⟩ := hd
    rw [hbe] at g1
    obtain rfl := Option.some.inj g1
    rw [blk_crash_calm g2] at h1
    cases q1 with
    | true => rfl
    | false =>
      exfalso
      have : rd be = (entR x, 1) := by
        unfold rd
        rw [if_neg (by rw [g3]; decide), contents_nil g2, g4]
        exact get_put (entR_ok a1 a2 hok)
      rw [this] at h1
      have := congrArg Prod.snd h1
      simp at this
/-- An entry's two blocks, as they are before anything befalls them. -/
theorem two_neat {g : Nat → Bool} (H : Harmd D L xs g m M) (hx : xs[k]? = some x) (hg : g k = true) (hm : m k = true) : Two2 D D (L.at 2 x.index) (L.at 3 x.index) (entR x).bytes (mkR x).bytes := by
  have G := H.geo
  have key : ∀ kd (r : Rc), (kd = 2 ∨ kd = 3) → cont D (L.at kd x.index) = (r, 1) → ∃ b, D.bs[L.at kd x.index]? = some b ∧ Sf r.bytes b := by
    intro kd r hk hc
    have hlt := (G.lt hk x.index).1
    have hb := at_lt (D := D) (k := L.at kd x.index) (by rw [H.len]; exact hlt)
    have hp := H.calm.pend _ (List.mem_of_getElem? hb)
    obtain ⟨_, _, h3⟩ := rd_one hp hc
    exact ⟨_, hb, h3, fun p hp' => by rw [hp] at hp'; cases hp'⟩
  refine ⟨rfl, fun _ _ _ => rfl, key 2 _ (.inl rfl) ?_, key 3 _ (.inr rfl) ?_⟩
  · rw [H.lay.ent k x hx, hg]; rfl
  · rw [H.lay.mrk k x hx, hm]; rfl
theorem Two2.lose2 (h : Two2 D D0 (L.at 2 x.index) (L.at 3 x.index) (entR x).bytes (mkR x).bytes) (G : Geo L M) (hb : L.blk 2 x.index = (L.at 2 x.index : Int)) : Two2 (D.onB (L.blk 2 x.index) Blk.lose) D0 (L.at 2 x.index) (L.at 3 x.index) (entR x).bytes (mkR x).bytes := by
  obtain ⟨b, h1, h2⟩ := h.be
  refine h.setE (G.ne _ _) h2.lose ?_
  rw [onB_at hb h1]
theorem Two2.lose3 (h : Two2 D D0 (L.at 2 x.index) (L.at 3 x.index) (entR x).bytes (mkR x).bytes) (G : Geo L M) (hb : L.blk 3 x.index = (L.at 3 x.index : Int)) : Two2 (D.onB (L.blk 3 x.index) Blk.lose) D0 (L.at 2 x.index) (L.at 3 x.index) (entR x).bytes (mkR x).bytes := by
  obtain ⟨b, h1, h2⟩ := h.bq
  refine h.setQ (G.ne _ _) h2.lose ?_
  rw [onB_at hb h1]
theorem Two2.self {e q : Nat} {se sq : ByteArray} (h : Two2 D D0 e q se sq) : Two2 D D e q se sq := ⟨rfl, fun _ _ _ => rfl, h.be, h.bq⟩
end
end Go.Proofs.YtpkhhecmddpnmaaDoor
