/- The model's Crash. No conditions beyond those in each statement. -/
import Derived.Test.YtmfkbddfjfjfkaaTrio
import Derived.Laws.CopyOwn
import Derived.Deep.RegionHeld3
namespace Go.Proofs.Ytmfkbddfjfjfkaa
open Go.RowKit
set_option linter.unusedVariables false

/-- 'copy' between two rows that are known whole, as one step of a region that draws its order: the world behind it. -/
theorem step_copy_row {P : Program} {ops : Array Oper} {o : Oper} {a : Act} {w : World} {K : Act → World → Prop} {Q : Exit → Act → World → Prop} {E : Prop} (hgd : o.guard = none) (d s : Operand) (dT sT : TypeId)
    (ho : o.op = .call { callee := .builtin .copy, args := #[d, s], argTypes := #[dT, sT] }) (elem : TypeId) (hu : P.underlying dT = some (.slice elem)) (hsz : (P.info? elem).map (·.size) = some 1)
    (g n : Nat) (ad : Addr) (hd : a.eval d = .slice (some ⟨g, 0, none⟩) n n) (hs : a.eval s = .slice (some ad) n n)
    (cur : Array Value) (t : TypeId) (hg : w.heap[g]? = some (.cells cur t (0, 0))) (hc : cur.size = n) (cs : List Value) (hn : cs.length = n)
    (hsrc : ∀ j v, cs[j]? = some v → w.cell? (ad.add j) = some v) (h1 : ∀ v ∈ cs, v.oneCell' = true)
    (h : K (a.put o.dst (.int .i64 (n : Int))) (w.setRow g cs.toArray)) :
    if Region.wanted o (yielded ops a.tmps) = true then Oper.wp P o a w K Q else E := by
  have hw : Region.wanted o (yielded ops a.tmps) = true := by simp [Region.wanted, hgd]
  rw [if_pos hw]
  have hrun := run_copy_row (P := P) w dT sT o.type elem g 0 n n ad n n cur t cs hu hsz hg (by simp [hn]) hsrc (by omega) h1
  have e : (cur.toList.take 0 ++ cs ++ cur.toList.drop (0 + cs.length)).toArray = cs.toArray := by
    rw [List.take_zero, List.nil_append, List.drop_of_length_le (by rw [Array.length_toList]; omega), List.append_nil]
  rw [e, hn] at hrun
  unfold Oper.wp
  simp [execOp, ho, resolve, invoke, builtin, hd, hs, hrun, Result.andThen]
  exact h

section
variable {S T : Nat → Prop} {w x : World} {B C RS RG RH : Nat} {sv : Value} {M N : Md}
theorem Whole.row {W : World} {B : Nat} {t : TypeId} {vs : Array Value} (us : Array Value) (h : Whole W B t vs) : Whole (W.setRow B us) B t us := setRow_heap W B vs us t (0, 0) h
theorem Whole.row_other {W : World} {B k : Nat} {t : TypeId} {vs : Array Value} (us : Array Value) (h : Whole W B t vs) (hne : B ≠ k) : Whole (W.setRow k us) B t vs := (setRow_other W k B us hne).trans h
theorem setRow_mod (hS : S B) (us : Array Value) (h : Mod S w x) : Mod S w (x.setRow B us) :=
  ⟨h.os, h.tape, h.output, by simpa [World.setRow] using h.size, fun k hk hn => (setRow_other x B k us (fun e => hn (by rw [e]; exact hS))).trans (h.block k hk hn)⟩
theorem setRow_size (W : World) (g : Nat) (us : Array Value) : (W.setRow g us).heap.size = W.heap.size := by simp [World.setRow]
theorem MdIn.setS (h : MdIn S w B RS RG RH sv M) (l : List ByteArray) (hl : l.length = M.safe.length) (hs : ∀ s ∈ l, s.size ≤ 512) : MdIn S (w.setRow RS (strCells l)) B RS RG RH sv { M with safe := l } := by
  refine h.turn0 ?_ (h.hS.row _) (h.hG.row_other _ h.SG.symm) (h.hH.row_other _ h.SH.symm) rfl (fun j e => setRow_other _ _ _ _ (h.apart e).2.1) (by simp [setRow_size]) ⟨by rw [hl]; exact h.fits.many, by rw [hl]; exact h.fits.gone, by rw [hl]; exact h.fits.hurt, hs, by rw [hl]; exact h.fits.since, h.fits.count, h.fits.falls⟩
  rw [show mdCells RS RG RH sv { M with safe := l } = mdCells RS RG RH sv M by simp [mdCells, hl]]
  exact h.hB.row_other _ h.BS
theorem MdIn.setG (h : MdIn S w B RS RG RH sv M) (l : List Bool) (hl : l.length = M.safe.length) : MdIn S (w.setRow RG (boolCells l)) B RS RG RH sv { M with gone := l } :=
  h.turn0 (h.hB.row_other _ h.BG) (h.hS.row_other _ h.SG) (h.hG.row _) (h.hH.row_other _ h.ne.symm) rfl (fun j e => setRow_other _ _ _ _ (h.apart e).2.2.1) (by simp [setRow_size]) ⟨h.fits.many, hl, h.fits.hurt, h.fits.sizes, h.fits.since, h.fits.count, h.fits.falls⟩
theorem MdIn.setH (h : MdIn S w B RS RG RH sv M) (l : List Bool) (hl : l.length = M.safe.length) : MdIn S (w.setRow RH (boolCells l)) B RS RG RH sv { M with hurt := l } :=
  h.turn0 (h.hB.row_other _ h.BH) (h.hS.row_other _ h.SH) (h.hG.row_other _ h.ne) (h.hH.row _) rfl (fun j e => setRow_other _ _ _ _ (h.apart e).2.2.2) (by simp [setRow_size]) ⟨h.fits.many, h.fits.gone, hl, h.fits.sizes, h.fits.since, h.fits.count, h.fits.falls⟩

/-- What a write of a fate does to the new model. -/
def stepC (zs : List Int) (i : Nat) (p : Wr) (N : Md) : Md :=
  if fateF zs i = 1 then app p N else if fateF zs i = 2 then { N with safe := N.safe.set p.place (p.data.extract 0 (p.data.size / 2)), hurt := N.hurt.set p.place true } else N
def stepsC (zs : List Int) : Nat → List Wr → Md → Md
  | _, [], N => N
  | i, p :: ps, N => stepsC zs (i + 1) ps (stepC zs i p N)
theorem stepsC_snoc (zs : List Int) (p : Wr) : ∀ (ps : List Wr) (i : Nat) (N : Md), stepsC zs i (ps ++ [p]) N = stepC zs (i + ps.length) p (stepsC zs i ps N)
  | [], i, N => rfl
  | q :: ps, i, N => by
    show stepsC zs (i + 1) (ps ++ [p]) (stepC zs i q N) = _
    rw [stepsC_snoc zs p ps (i + 1) (stepC zs i q N), List.length_cons, show i + 1 + ps.length = i + (ps.length + 1) by omega]
    rfl
theorem stepsC_late (zs : List Int) : ∀ (ps : List Wr) (i : Nat) (N : Md), zs.length ≤ i → stepsC zs i ps N = N
  | [], i, N, h => rfl
  | p :: ps, i, N, h => by
    have hz : fateF zs i = 0 := by simp [fateF, List.getD_eq_getElem?_getD, List.getElem?_eq_none h]
    show stepsC zs (i + 1) ps (stepC zs i p N) = N
    rw [show stepC zs i p N = N by simp [stepC, hz]]
    exact stepsC_late zs ps (i + 1) N (by omega)
theorem stepsC_append (zs : List Int) : ∀ (ps qs : List Wr) (i : Nat) (N : Md), stepsC zs i (ps ++ qs) N = stepsC zs (i + ps.length) qs (stepsC zs i ps N)
  | [], qs, i, N => rfl
  | p :: ps, qs, i, N => by
    show stepsC zs (i + 1) (ps ++ qs) (stepC zs i p N) = _
    rw [stepsC_append zs ps qs (i + 1), List.length_cons, show i + 1 + ps.length = i + (ps.length + 1) by omega]
    rfl
theorem stepC_keep (zs : List Int) (i : Nat) (p : Wr) (N : Md) : (stepC zs i p N).since = N.since ∧ (stepC zs i p N).gone = N.gone ∧ (stepC zs i p N).falls = N.falls ∧ (stepC zs i p N).down = N.down ∧ (stepC zs i p N).safe.length = N.safe.length ∧ (stepC zs i p N).hurt.length = N.hurt.length := by
  unfold stepC
  split
  · simp [app]
  · split <;> simp
theorem stepsC_keep (zs : List Int) : ∀ (ps : List Wr) (i : Nat) (N : Md), (stepsC zs i ps N).since = N.since ∧ (stepsC zs i ps N).gone = N.gone ∧ (stepsC zs i ps N).falls = N.falls ∧ (stepsC zs i ps N).down = N.down ∧ (stepsC zs i ps N).safe.length = N.safe.length ∧ (stepsC zs i ps N).hurt.length = N.hurt.length
  | [], i, N => ⟨rfl, rfl, rfl, rfl, rfl, rfl⟩
  | p :: ps, i, N => by
    obtain ⟨h1, h2, h3, h4, h5, h6⟩ := stepsC_keep zs ps (i + 1) (stepC zs i p N)
    obtain ⟨g1, g2, g3, g4, g5, g6⟩ := stepC_keep zs i p N
    exact ⟨h1.trans g1, h2.trans g2, h3.trans g3, h4.trans g4, h5.trans g5, h6.trans g6⟩
def Md.crash0 (M : Md) : Md := ⟨M.safe, [], M.gone, M.hurt, -1, false⟩
def Md.crash (M : Md) (zs : List Int) : Md := stepsC zs 0 M.since M.crash0

theorem size_string : (Try.prog.info? 9).map (·.size) = some 1 := by
  obtain ⟨i0, hi, _, hz1, _⟩ := info_parts info_string
  rw [hi]; simp [hz1]
theorem size_bool : (Try.prog.info? 4).map (·.size) = some 1 := by
  obtain ⟨i0, hi, _, hz1, _⟩ := info_parts info_bool
  rw [hi]; simp [hz1]
theorem src_of {W : World} {R : Nat} {t : TypeId} {vs : Array Value} (h : Whole W R t vs) : ∀ j v, vs.toList[j]? = some v → W.cell? ((⟨R, 0, none⟩ : Addr).add j) = some v := by
  intro j v hv
  have hadd : ∀ j, (⟨R, 0, none⟩ : Addr).add j = ⟨R, j, none⟩ := fun j => by unfold Addr.add; split <;> simp_all
  rw [hadd]
  exact h.cell (by simpa using hv)
/-- What a walk reads of both models between the copies. -/
theorem MdIn.slots (h : MdIn S w B RS RG RH sv M) : w.cell? ⟨B, 1, none⟩ = some (.slice (some ⟨RS, 0, none⟩) M.safe.length M.safe.length) ∧ w.cell? ⟨B, 2, none⟩ = some sv ∧ w.cell? ⟨B, 3, none⟩ = some (.slice (some ⟨RG, 0, none⟩) M.safe.length M.safe.length) ∧ w.cell? ⟨B, 4, none⟩ = some (.slice (some ⟨RH, 0, none⟩) M.safe.length M.safe.length) := ⟨h.c1, h.c2, h.c3, h.c4⟩

/-- Two models side by side, the second one new. -/
structure Side (n : Nat) (w : World) (B RS RG RH : Nat) (sv : Value) (M : Md) (C RS' RG' RH' : Nat) (sv' : Value) (N : Md) : Prop where
  src : ∃ S, MdIn S w B RS RG RH sv M ∧ ∀ k, S k → k < n
  dst : ∃ T, MdIn T w C RS' RG' RH' sv' N ∧ ∀ k, T k → n ≤ k
  len : N.safe.length = M.safe.length
section
variable {n RS' RG' RH' : Nat} {sv' : Value}
theorem Side.below (h : Side n w B RS RG RH sv M C RS' RG' RH' sv' N) (hb : Below w.heap.size w x) : Side n x B RS RG RH sv M C RS' RG' RH' sv' N := by
  obtain ⟨⟨S, h1, h2⟩, ⟨T, h3, h4⟩, h5⟩ := h
  exact ⟨⟨S, h1.keep hb.size (fun j hj => hb.block j (h1.lt j hj)), h2⟩, ⟨T, h3.keep hb.size (fun j hj => hb.block j (h3.lt j hj)), h4⟩, h5⟩
theorem Side.facts (h : Side n w B RS RG RH sv M C RS' RG' RH' sv' N) : (w.cell? ⟨B, 1, none⟩ = some (.slice (some ⟨RS, 0, none⟩) M.safe.length M.safe.length) ∧ w.cell? ⟨B, 2, none⟩ = some sv ∧ w.cell? ⟨B, 3, none⟩ = some (.slice (some ⟨RG, 0, none⟩) M.safe.length M.safe.length) ∧ w.cell? ⟨B, 4, none⟩ = some (.slice (some ⟨RH, 0, none⟩) M.safe.length M.safe.length)) ∧
    (w.cell? ⟨C, 1, none⟩ = some (.slice (some ⟨RS', 0, none⟩) M.safe.length M.safe.length) ∧ w.cell? ⟨C, 3, none⟩ = some (.slice (some ⟨RG', 0, none⟩) M.safe.length M.safe.length) ∧ w.cell? ⟨C, 4, none⟩ = some (.slice (some ⟨RH', 0, none⟩) M.safe.length M.safe.length)) := by
  obtain ⟨⟨S, h1, h2⟩, ⟨T, h3, h4⟩, h5⟩ := h
  have k1 := h3.c1
  have k3 := h3.c3
  have k4 := h3.c4
  rw [h5] at k1 k3 k4
  exact ⟨⟨h1.c1, h1.c2, h1.c3, h1.c4⟩, k1, k3, k4⟩
theorem Side.setS (h : Side n w B RS RG RH sv M C RS' RG' RH' sv' N) : Side n (w.setRow RS' (strCells M.safe)) B RS RG RH sv M C RS' RG' RH' sv' { N with safe := M.safe } := by
  obtain ⟨⟨S, h1, h2⟩, ⟨T, h3, h4⟩, h5⟩ := h
  have hr := h4 _ h3.sS
  exact ⟨⟨S, h1.keep (by simp [setRow_size]) (fun j hj => setRow_other _ _ _ _ (by have := h2 j hj; omega)), h2⟩, ⟨T, h3.setS M.safe h5.symm h1.fits.sizes, h4⟩, rfl⟩
theorem Side.setG (h : Side n w B RS RG RH sv M C RS' RG' RH' sv' N) : Side n (w.setRow RG' (boolCells M.gone)) B RS RG RH sv M C RS' RG' RH' sv' { N with gone := M.gone } := by
  obtain ⟨⟨S, h1, h2⟩, ⟨T, h3, h4⟩, h5⟩ := h
  have hr := h4 _ h3.sG
  exact ⟨⟨S, h1.keep (by simp [setRow_size]) (fun j hj => setRow_other _ _ _ _ (by have := h2 j hj; omega)), h2⟩, ⟨T, h3.setG M.gone (by rw [h1.fits.gone, h5]), h4⟩, h5⟩
theorem Side.setH (h : Side n w B RS RG RH sv M C RS' RG' RH' sv' N) : Side n (w.setRow RH' (boolCells M.hurt)) B RS RG RH sv M C RS' RG' RH' sv' { N with hurt := M.hurt } := by
  obtain ⟨⟨S, h1, h2⟩, ⟨T, h3, h4⟩, h5⟩ := h
  have hr := h4 _ h3.sH
  exact ⟨⟨S, h1.keep (by simp [setRow_size]) (fun j hj => setRow_other _ _ _ _ (by have := h2 j hj; omega)), h2⟩, ⟨T, h3.setH M.hurt (by rw [h1.fits.hurt, h5]), h4⟩, h5⟩
/-- The rows as 'copy' wants them. -/
theorem Side.rows (h : Side n w B RS RG RH sv M C RS' RG' RH' sv' N) :
    (Whole w RS 9 (strCells M.safe) ∧ Whole w RG 4 (boolCells M.gone) ∧ Whole w RH 4 (boolCells M.hurt)) ∧ (Whole w RS' 9 (strCells N.safe) ∧ Whole w RG' 4 (boolCells N.gone) ∧ Whole w RH' 4 (boolCells N.hurt)) ∧
    ((strCells N.safe).size = M.safe.length ∧ (boolCells N.gone).size = M.safe.length ∧ (boolCells N.hurt).size = M.safe.length) ∧ ((M.safe.map Value.string).length = M.safe.length ∧ (M.gone.map Value.bool).length = M.safe.length ∧ (M.hurt.map Value.bool).length = M.safe.length) ∧ n ≤ RS' ∧ n ≤ RG' ∧ n ≤ RH' := by
  obtain ⟨⟨S, h1, h2⟩, ⟨T, h3, h4⟩, h5⟩ := h
  refine ⟨⟨h1.hS, h1.hG, h1.hH⟩, ⟨h3.hS, h3.hG, h3.hH⟩, ⟨by simp [strCells, h5], by simp [boolCells, h3.fits.gone, h5], by simp [boolCells, h3.fits.hurt, h5]⟩, ⟨by simp, by simp [h1.fits.gone], by simp [h1.fits.hurt]⟩, h4 _ h3.sS, h4 _ h3.sG, h4 _ h3.sH⟩
theorem one_strings (l : List ByteArray) : ∀ v ∈ l.map Value.string, v.oneCell' = true := by
  intro v hv
  obtain ⟨s, _, rfl⟩ := List.mem_map.1 hv
  rfl
theorem one_bools (l : List Bool) : ∀ v ∈ l.map Value.bool, v.oneCell' = true := by
  intro v hv
  obtain ⟨s, _, rfl⟩ := List.mem_map.1 hv
  rfl
theorem below_row {a : World} {g : Nat} (us : Array Value) (h : Below n a w) (hg : n ≤ g) : Below n a (w.setRow g us) :=
  h.trans ⟨rfl, rfl, rfl, by simp [setRow_size], fun k hk => setRow_other w g k us (by omega)⟩
end

theorem put2 {o : Obj} {k : Nat} {s' : ByteArray} {t' : Bool} (h : MdIn S w B RS RG RH sv M) (hp : s'.size ≤ 512) : MdIn S ((((w.alloc o).setCell ⟨RS, k, none⟩ (.string s')).drew.setCell ⟨RH, k, none⟩ (.bool t')).drew) B RS RG RH sv { M with safe := M.safe.set k s', hurt := M.hurt.set k t' } := by
  have k1 := h.keep (x := w.alloc o) (by simp) (fun j hj => Below.heap_alloc w o j (h.lt j hj))
  have hm : mdCells RS RG RH sv { M with safe := M.safe.set k s', hurt := M.hurt.set k t' } = mdCells RS RG RH sv M := by simp [mdCells]
  refine k1.turn0 ?_ ?_ ?_ ?_ rfl ?_ (by simp [World.setCell]) ⟨by simpa using h.fits.many, by simpa using h.fits.gone, by simpa using h.fits.hurt, (fun t ht => (List.mem_or_eq_of_mem_set ht).elim (h.fits.sizes t) (fun e => e ▸ hp)), by simpa using h.fits.since, h.fits.count, h.fits.falls⟩
  · rw [hm]; exact (k1.hB.other h.BS k _).other h.BH k _
  · have := (k1.hS.set k (.string s')).other h.SH k (.bool t')
    rw [strCells_set] at this
    exact this
  · exact (k1.hG.other h.SG.symm k _).other h.ne k _
  · have := (k1.hH.other h.SH.symm k (.string s')).set k (.bool t')
    rw [boolCells_set] at this
    exact this
  · intro j e
    obtain ⟨_, n2, _, n4⟩ := h.apart e
    have h1 : ((((w.alloc o).setCell ⟨RS, k, none⟩ (.string s')).drew.setCell ⟨RH, k, none⟩ (.bool t')).drew).heap[j]? = ((w.alloc o).setCell ⟨RS, k, none⟩ (.string s')).heap[j]? := block_setCell_other n4
    rw [h1]
    exact block_setCell_other n2
section
variable {n RS' RG' RH' : Nat} {sv' : Value}
theorem Side.put {o : Obj} {k : Nat} {s' : ByteArray} {t' : Bool} (h : Side n w B RS RG RH sv M C RS' RG' RH' sv' N) (hp : s'.size ≤ 512) : Side n ((((w.alloc o).setCell ⟨RS', k, none⟩ (.string s')).drew.setCell ⟨RH', k, none⟩ (.bool t')).drew) B RS RG RH sv M C RS' RG' RH' sv' { N with safe := N.safe.set k s', hurt := N.hurt.set k t' } := by
  obtain ⟨⟨S, h1, h2⟩, ⟨T, h3, h4⟩, h5⟩ := h
  have hr := h4 _ h3.sS
  have hr2 := h4 _ h3.sH
  refine ⟨⟨S, h1.keep (by simp [World.setCell]) (fun j hj => ?_), h2⟩, ⟨T, put2 h3 hp, h4⟩, by simpa using h5⟩
  have hj2 := h2 j hj
  have e1 : ((((w.alloc o).setCell ⟨RS', k, none⟩ (.string s')).drew.setCell ⟨RH', k, none⟩ (.bool t')).drew).heap[j]? = ((w.alloc o).setCell ⟨RS', k, none⟩ (.string s')).heap[j]? := block_setCell_other (by omega)
  have e2 : ((w.alloc o).setCell ⟨RS', k, none⟩ (.string s')).heap[j]? = (w.alloc o).heap[j]? := block_setCell_other (by omega)
  rw [e1, e2]
  exact Below.heap_alloc w o j (h1.lt j hj)
/-- What a round's walk reads of the new model at a block. -/
theorem Side.at (h : Side n w B RS RG RH sv M C RS' RG' RH' sv' N) {k : Nat} (hk : k < M.safe.length) : ∃ s0 t0, ∀ x, Below w.heap.size w x → (x.cell? ⟨C, 1, none⟩ = some (.slice (some ⟨RS', 0, none⟩) M.safe.length M.safe.length) ∧ x.cell? ⟨C, 4, none⟩ = some (.slice (some ⟨RH', 0, none⟩) M.safe.length M.safe.length)) ∧
    (x.cell? ⟨RS', k, none⟩ = some (.string s0) ∧ x.cell? ⟨RH', k, none⟩ = some (.bool t0)) ∧ x.frozen? ⟨RS', k, none⟩ = false ∧ x.frozen? ⟨RH', k, none⟩ = false := by
  obtain ⟨⟨S, h1, h2⟩, ⟨T, h3, h4⟩, h5⟩ := h
  have hl : k < N.safe.length := by omega
  obtain ⟨s0, hs0⟩ : ∃ s0, N.safe[k]? = some s0 := ⟨_, List.getElem?_eq_getElem hl⟩
  obtain ⟨t0, hh0⟩ : ∃ t0, N.hurt[k]? = some t0 := ⟨_, List.getElem?_eq_getElem (by rw [h3.fits.hurt]; exact hl)⟩
  obtain ⟨g0, hg0⟩ : ∃ g0, N.gone[k]? = some g0 := ⟨_, List.getElem?_eq_getElem (by rw [h3.fits.gone]; exact hl)⟩
  refine ⟨s0, t0, fun x hx => ?_⟩
  obtain ⟨⟨d0, d1, d3, d4⟩, ⟨q0, q1, q2⟩, f0, f1, f2⟩ := h3.facts hx hs0 hg0 hh0
  rw [h5] at d1 d4
  exact ⟨⟨d1, d4⟩, ⟨q0, q2⟩, f0, f2⟩
theorem Side.apart (h : Side n w B RS RG RH sv M C RS' RG' RH' sv' N) : (RS' ≠ RH' ∧ C ≠ RS' ∧ C ≠ RH' ∧ w.heap.size ≠ RS' ∧ w.heap.size ≠ RH') ∧ n ≤ RS' ∧ n ≤ RH' := by
  obtain ⟨_, ⟨T, h3, h4⟩, _⟩ := h
  have a1 := h3.lt _ h3.sS
  have a2 := h3.lt _ h3.sH
  exact ⟨⟨h3.SH, h3.BS, h3.BH, by omega, by omega⟩, h4 _ h3.sS, h4 _ h3.sH⟩
/-- The slice of the old model's writes, its cells, in a world that has grown. -/
theorem Side.writes (h : Side n w B RS RG RH sv M C RS' RG' RH' sv' N) : (∃ a cap, sv = .slice a M.since.length cap ∧ (M.since.length = 0 ∨ ∃ g, a = some ⟨g, 0, none⟩ ∧ ∀ j p, M.since[j]? = some p → w.cell? ⟨g, j * 2, none⟩ = some (.int .i64 p.place) ∧ w.cell? ⟨g, j * 2 + 1, none⟩ = some (.string p.data))) := by
  obtain ⟨⟨S, h1, h2⟩, _, _⟩ := h
  rcases mrow_of h1.row with ⟨rfl, h0⟩ | ⟨g, cap, rfl, _, _, _, hc⟩
  · exact ⟨none, 0, by rw [h0]; rfl, .inl (by rw [h0]; rfl)⟩
  · exact ⟨_, cap, rfl, .inr ⟨g, rfl, hc⟩⟩
theorem Side.end_ (h : Side w.heap.size x B RS RG RH sv M C RS' RG' RH' sv' N) (hb : Below w.heap.size w x) : NewMd N w (.returned (.pointer (some ⟨C, 0, none⟩))) x := by
  obtain ⟨_, ⟨T, h3, h4⟩, _⟩ := h
  exact ⟨C, rfl, (show MdAt T x C N from ⟨RS', RG', RH', sv', h3⟩).wide (fun k hk => ⟨h4 k hk, h3.lt k hk⟩) (fun k hk => hk.2), hb⟩
end

set_option maxRecDepth 100000 in
set_option maxHeartbeats 8000000 in
theorem mcrash_any (fv : Value) (zs : List Int) (h : MdAt S w B M) (hz : Fts w fv zs) :
    Calls Try.prog 17 #[.pointer (some ⟨B, 0, none⟩), fv] w fun e w' => NewMd (M.crash zs) w e w' := by
  have hmany := h.fits.many
  obtain ⟨RS, RG, RH, sv, h0⟩ := id h
  have c0 := h0.c0
  obtain ⟨fa, fcap, hfv, hzm, _⟩ := id hz
  subst hfv
  unfold maxLen at hzm
  have hnew := mnew_any (M.safe.length : Int) (by omega) w
  have e0 : Md.new (M.safe.length : Int) = Md.newN M.safe.length := by unfold Md.new; congr 1; unfold howMany; omega
  rw [e0] at hnew
  have HZ := Lib.hid hz
  clear e0 hz h
  go_enter Try.func17, Try.ntmps17
  go_wp2_with fail
  refine hnew.mono ?_
  rintro e w1 ⟨C, rfl, ⟨RS', RG', RH', sv', hI1⟩, hb1⟩
  clear hnew c0
  have hS_w1 : Side w.heap.size w1 B RS RG RH sv M C RS' RG' RH' sv' (Md.newN M.safe.length) :=
    ⟨⟨S, h0.keep hb1.size (fun j hj => hb1.block j (h0.lt j hj)), h0.lt⟩, ⟨_, hI1, fun k hk => hk.1⟩, by simp [Md.newN]⟩
  clear hI1
  obtain ⟨⟨x1, x2, x3, x4⟩, y1, y3, y4⟩ := hS_w1.facts
  obtain ⟨⟨r1, r2, r3⟩, ⟨t1, t2, t3⟩, ⟨z1, z2, z3⟩, ⟨l1, l2, l3⟩, n1, n2, n3⟩ := hS_w1.rows
  go_wp2_with fail
  go_region_held3 (fun w' => w'.cell? ⟨C, 1, none⟩ = some (.slice (some ⟨RS', 0, none⟩) M.safe.length M.safe.length) ∧ w'.cell? ⟨B, 1, none⟩ = some (.slice (some ⟨RS, 0, none⟩) M.safe.length M.safe.length))
    (first | exact ⟨y1, x1⟩ | exact ⟨g1, g2⟩)
    ((refine step_copy_row (by rfl) _ _ _ _ (by rfl) 9 und_strings size_string RS' M.safe.length ⟨RS, 0, none⟩ (by rfl) (by rfl) (strCells (Md.newN M.safe.length).safe) 9 t1 z1 (M.safe.map Value.string) l1 (src_of r1) (one_strings _) ?_; obtain ⟨w2, hw2⟩ : ∃ wn, wn = w1.drew.setRow RS' (M.safe.map Value.string).toArray := ⟨_, rfl⟩; rw [← hw2]; have HW_w2 := Lib.hid hw2; clear hw2; have g1 : w2.cell? ⟨C, 1, none⟩ = some (.slice (some ⟨RS', 0, none⟩) M.safe.length M.safe.length) := (by rw [HW_w2.out]; exact ((hS_w1.below (below_drewN w1 1)).setS).facts.2.1); have g2 : w2.cell? ⟨B, 1, none⟩ = some (.slice (some ⟨RS, 0, none⟩) M.safe.length M.safe.length) := (by rw [HW_w2.out]; exact ((hS_w1.below (below_drewN w1 1)).setS).facts.1.1)))
  have hS_w2 := (hS_w1.below (below_drewN w1 1)).setS
  have hb_w2 : Below w.heap.size w w2 := by rw [HW_w2.out]; exact below_row _ (hb1.drew) (by first | exact n1 | exact n2 | exact n3)
  rw [show (w1.drewN 1).setRow RS' (strCells M.safe) = w2 from HW_w2.out.symm] at hS_w2
  clear x1 x2 x3 x4 y1 y3 y4 r1 r2 r3 t1 t2 t3 z1 z2 z3 l1 l2 l3 n1 n2 n3 g1 g2 HW_w2 hS_w1 hb1
  obtain ⟨⟨x1, x2, x3, x4⟩, y1, y3, y4⟩ := hS_w2.facts
  obtain ⟨⟨r1, r2, r3⟩, ⟨t1, t2, t3⟩, ⟨z1, z2, z3⟩, ⟨l1, l2, l3⟩, n1, n2, n3⟩ := hS_w2.rows
  go_wp2_with fail
  go_region_held3 (fun w' => w'.cell? ⟨C, 3, none⟩ = some (.slice (some ⟨RG', 0, none⟩) M.safe.length M.safe.length) ∧ w'.cell? ⟨B, 3, none⟩ = some (.slice (some ⟨RG, 0, none⟩) M.safe.length M.safe.length))
    (first | exact ⟨y3, x3⟩ | exact ⟨g1, g2⟩)
    ((refine step_copy_row (by rfl) _ _ _ _ (by rfl) 4 und_bools size_bool RG' M.safe.length ⟨RG, 0, none⟩ (by rfl) (by rfl) (boolCells (Md.newN M.safe.length).gone) 4 t2 z2 (M.gone.map Value.bool) l2 (src_of r2) (one_bools _) ?_; obtain ⟨w3, hw2⟩ : ∃ wn, wn = w2.drew.setRow RG' (M.gone.map Value.bool).toArray := ⟨_, rfl⟩; rw [← hw2]; have HW_w3 := Lib.hid hw2; clear hw2; have g1 : w3.cell? ⟨C, 3, none⟩ = some (.slice (some ⟨RG', 0, none⟩) M.safe.length M.safe.length) := (by rw [HW_w3.out]; exact ((hS_w2.below (below_drewN w2 1)).setG).facts.2.2.1); have g2 : w3.cell? ⟨B, 3, none⟩ = some (.slice (some ⟨RG, 0, none⟩) M.safe.length M.safe.length) := (by rw [HW_w3.out]; exact ((hS_w2.below (below_drewN w2 1)).setG).facts.1.2.2.1)))
  have hS_w3 := (hS_w2.below (below_drewN w2 1)).setG
  have hb_w3 : Below w.heap.size w w3 := by rw [HW_w3.out]; exact below_row _ (hb_w2.drew) (by first | exact n1 | exact n2 | exact n3)
  rw [show (w2.drewN 1).setRow RG' (boolCells M.gone) = w3 from HW_w3.out.symm] at hS_w3
  clear x1 x2 x3 x4 y1 y3 y4 r1 r2 r3 t1 t2 t3 z1 z2 z3 l1 l2 l3 n1 n2 n3 g1 g2 HW_w3 hS_w2 hb_w2
  obtain ⟨⟨x1, x2, x3, x4⟩, y1, y3, y4⟩ := hS_w3.facts
  obtain ⟨⟨r1, r2, r3⟩, ⟨t1, t2, t3⟩, ⟨z1, z2, z3⟩, ⟨l1, l2, l3⟩, n1, n2, n3⟩ := hS_w3.rows
  go_wp2_with fail
  go_region_held3 (fun w' => w'.cell? ⟨C, 4, none⟩ = some (.slice (some ⟨RH', 0, none⟩) M.safe.length M.safe.length) ∧ w'.cell? ⟨B, 4, none⟩ = some (.slice (some ⟨RH, 0, none⟩) M.safe.length M.safe.length))
    (first | exact ⟨y4, x4⟩ | exact ⟨g1, g2⟩)
    ((refine step_copy_row (by rfl) _ _ _ _ (by rfl) 4 und_bools size_bool RH' M.safe.length ⟨RH, 0, none⟩ (by rfl) (by rfl) (boolCells (Md.newN M.safe.length).hurt) 4 t3 z3 (M.hurt.map Value.bool) l3 (src_of r3) (one_bools _) ?_; obtain ⟨w4, hw2⟩ : ∃ wn, wn = w3.drew.setRow RH' (M.hurt.map Value.bool).toArray := ⟨_, rfl⟩; rw [← hw2]; have HW_w4 := Lib.hid hw2; clear hw2; have g1 : w4.cell? ⟨C, 4, none⟩ = some (.slice (some ⟨RH', 0, none⟩) M.safe.length M.safe.length) := (by rw [HW_w4.out]; exact ((hS_w3.below (below_drewN w3 1)).setH).facts.2.2.2); have g2 : w4.cell? ⟨B, 4, none⟩ = some (.slice (some ⟨RH, 0, none⟩) M.safe.length M.safe.length) := (by rw [HW_w4.out]; exact ((hS_w3.below (below_drewN w3 1)).setH).facts.1.2.2.2)))
  have hS_w4 := (hS_w3.below (below_drewN w3 1)).setH
  have hb_w4 : Below w.heap.size w w4 := by rw [HW_w4.out]; exact below_row _ (hb_w3.drew) (by first | exact n1 | exact n2 | exact n3)
  rw [show (w3.drewN 1).setRow RH' (boolCells M.hurt) = w4 from HW_w4.out.symm] at hS_w4
  clear x1 x2 x3 x4 y1 y3 y4 r1 r2 r3 t1 t2 t3 z1 z2 z3 l1 l2 l3 n1 n2 n3 g1 g2 HW_w4 hS_w3 hb_w3
  obtain ⟨⟨x1, x2, x3, x4⟩, y1, y3, y4⟩ := hS_w4.facts
  obtain ⟨⟨r1, r2, r3⟩, ⟨t1, t2, t3⟩, ⟨z1, z2, z3⟩, ⟨l1, l2, l3⟩, n1, n2, n3⟩ := hS_w4.rows
  have hN : Side w.heap.size w4 B RS RG RH sv M C RS' RG' RH' sv' (stepsC zs 0 (M.since.take 0) M.crash0) := hS_w4
  obtain ⟨sa, scap, hsv, _⟩ := hS_w4.writes
  subst hsv
  have hcnt := h0.fits.count
  have HSI := Lib.hid h0.fits.since
  clear hS_w4 y1 y3 y4 r1 r2 r3 t1 t2 t3 z1 z2 z3 l1 l2 l3 n1 n2 n3 x1 x3 x4 h0
  go_wp2_with fail
  go_loopw [45] (fun i wr => ∃ j : Nat, j ≤ M.since.length ∧ i = .int .i64 j ∧ Side w.heap.size wr B RS RG RH (.slice sa M.since.length scap) M C RS' RG' RH' sv' (stepsC zs 0 (M.since.take j) M.crash0) ∧ Below w.heap.size w wr) (fun i _ => M.since.length - (intOf i).toNat)
  case atStart => exact ⟨0, Nat.zero_le _, rfl, hN, hb_w4⟩
  case round =>
    obtain ⟨j, hj, rfl, hI, hbw⟩ := hrel
    clear hN hb_w4 x2
    by_cases hlt : j < M.since.length
    · have hp := List.getElem?_eq_getElem hlt
      have hT := List.take_succ_eq_append_getElem hlt
      have hfp := HSI.out _ (List.getElem_mem hlt)
      have hlate : zs.length ≤ j → M.crash zs = stepsC zs 0 (M.since.take j) M.crash0 := fun hz => by
        have e := stepsC_append zs (M.since.take j) (M.since.drop j) 0 M.crash0
        rw [List.take_append_drop, List.length_take, Nat.min_eq_left (by omega), stepsC_late zs (M.since.drop j) _ _ (by omega)] at e
        exact e
      obtain ⟨_, _, hsl, hcell⟩ := hI.writes
      obtain ⟨rfl, rfl⟩ : sa = _ ∧ scap = _ := by simpa using hsl
      rcases hcell with h0 | ⟨g, rfl, hcell⟩
      · omega
      · obtain ⟨x0, x1⟩ := hcell j _ hp
        generalize M.since[j] = p at *
        obtain ⟨pp, pd⟩ := p
        simp only at hfp x0 x1
        have HLATE := Lib.hid hlate
        have hb0 : Below wr.heap.size wr (wr.alloc (.cells #[.int .i64 (pp : Int), .string pd] 65)) := (Below.refl _ _).alloc (Nat.le_refl _) _
        have HIA := Lib.hid (hI.below hb0)
        have HBA := Lib.hid (hbw.trans (hb0.mono hbw.size))
        have HSN := Lib.hid (show stepsC zs 0 (M.since.take (j + 1)) M.crash0 = stepC zs j ⟨pp, pd⟩ (stepsC zs 0 (M.since.take j) M.crash0) by
          rw [hT, stepsC_snoc, List.length_take, Nat.min_eq_left (by omega), Nat.zero_add])
        clear hlate hp hT hcell hsl
        by_cases hz : j < zs.length
        · have hzc : ∀ W, Below w.heap.size w W → ∃ g off, fa = some ⟨g, off, none⟩ ∧ W.cell? ⟨g, off + j, none⟩ = some (.int .i64 (fateF zs j)) := fun W hW => by
            obtain ⟨_, _, e0, _, hZ0⟩ := HZ.out
            obtain ⟨rfl, rfl⟩ : fa = _ ∧ fcap = _ := by simpa using e0
            rcases hZ0 with hZ0 | ⟨g, off, rfl, hg, hc⟩
            · omega
            · exact ⟨g, off, rfl, (hW.cell (p := ⟨g, off + j, none⟩) hg).trans (hc j hz)⟩
          obtain ⟨fg, foff, rfl, hfc⟩ := hzc _ HBA.out
          obtain ⟨s0, t0, hat⟩ := hI.at hfp.2
          obtain ⟨⟨d1, d4⟩, ⟨q0, q2⟩, f0, f2⟩ := hat _ hb0
          have HPUT := Lib.hid (fun (s' : ByteArray) (t' : Bool) (hs : s'.size ≤ 512) => hI.put (o := .cells #[.int .i64 (pp : Int), .string pd] 65) (k := pp) (t' := t') hs)
          obtain ⟨⟨m1, m2, m3, m4, m5⟩, m6, m7⟩ := hI.apart
          have hw0 := Whole.new wr 65 #[.int .i64 (pp : Int), .string pd]
          have y0 : (wr.alloc (.cells #[.int .i64 (pp : Int), .string pd] 65)).cell? ⟨wr.heap.size, 0, none⟩ = some (.int .i64 (pp : Int)) := hw0.cell rfl
          have y1 : (wr.alloc (.cells #[.int .i64 (pp : Int), .string pd] 65)).cell? ⟨wr.heap.size, 1, none⟩ = some (.string pd) := hw0.cell rfl
          have hppl : (pp : Int) < (M.safe.length : Int) := by omega
          have hppn : pp < M.safe.length := by omega
          have hpd := hfp.1
          have hpdm : pd.size ≤ 9223372036854775807 := by omega
          have hstep : stepC zs j ⟨pp, pd⟩ (stepsC zs 0 (M.since.take j) M.crash0) = if fateF zs j = 1 then app ⟨pp, pd⟩ (stepsC zs 0 (M.since.take j) M.crash0) else if fateF zs j = 2 then { stepsC zs 0 (M.since.take j) M.crash0 with safe := (stepsC zs 0 (M.since.take j) M.crash0).safe.set pp (pd.extract 0 (pd.size / 2)), hurt := (stepsC zs 0 (M.since.take j) M.crash0).hurt.set pp true } else stepsC zs 0 (M.since.take j) M.crash0 := rfl
          clear hzc hat hI hfp
          generalize stepsC zs 0 (M.since.take j) M.crash0 = N at *
          generalize fateF zs j = z at *
          by_cases h1 : z = 1
          · subst h1
            have HST := Lib.hid (hstep.trans (if_pos rfl))
            have HP := Lib.hid (HPUT.out pd false hpd)
            clear hstep
            go_wp2_with fail
            generalize hWA : wr.alloc (.cells #[.int .i64 (pp : Int), .string pd] 65) = wa at *
            go_region
            all_goals
              go_wp2_with fail
              go_region
              all_goals
                go_wp2_with fail
                go_roundw
                case rel => exact ⟨j + 1, by omega, by go_num, by rw [HSN.out, HST.out]; exact HP.out, ((HBA.out.setCell (p := ⟨RS', pp, none⟩) m6 _).drew.setCell (p := ⟨RH', pp, none⟩) m7 _).drew⟩
                case measure => simp [intOf]; omega
          · by_cases h2 : z = 2
            · subst h2
              have HST := Lib.hid (hstep.trans ((if_neg h1).trans (if_pos rfl)))
              have HP := Lib.hid (HPUT.out (pd.extract 0 (pd.size / 2)) true (by rw [ByteArray.size_extract]; omega))
              clear hstep h1
              go_wp2_with fail
              generalize hWA : wr.alloc (.cells #[.int .i64 (pp : Int), .string pd] 65) = wa at *
              go_region
              all_goals
                go_wp2_with fail
                go_region
                all_goals
                  go_wp2_with fail
                  go_roundw
                  case rel => exact ⟨j + 1, by omega, by go_num, by rw [HSN.out, HST.out]; exact HP.out, ((HBA.out.setCell (p := ⟨RS', pp, none⟩) m6 _).drew.setCell (p := ⟨RH', pp, none⟩) m7 _).drew⟩
                  case measure => simp [intOf]; omega
            · have HST := Lib.hid (hstep.trans ((if_neg h1).trans (if_neg h2)))
              have g1 : (z == 1) = false := by simpa using h1
              have g2 : (z == 2) = false := by simpa using h2
              clear hstep h1 h2
              go_wp2_with fail
              go_roundw
              case rel => exact ⟨j + 1, by omega, by go_num, by rw [HSN.out, HST.out]; exact HIA.out, HBA.out⟩
              case measure => simp [intOf]; omega
        · have hzl : zs.length ≤ j := by omega
          have HE := Lib.hid (HLATE.out hzl)
          go_wp2_with fail
          go_ret
          show NewMd (M.crash zs) w (.returned (.pointer (some ⟨C, 0, none⟩))) _
          rw [HE.out]
          exact HIA.out.end_ HBA.out
    · obtain rfl : j = M.since.length := by omega
      have HE := Lib.hid (show stepsC zs 0 (M.since.take M.since.length) M.crash0 = M.crash zs by rw [List.take_length]; rfl)
      go_wp2_with fail
      go_ret
      show NewMd (M.crash zs) w (.returned (.pointer (some ⟨C, 0, none⟩))) _
      rw [← HE.out]
      exact hI.end_ hbw
end
end Go.Proofs.Ytmfkbddfjfjfkaa
