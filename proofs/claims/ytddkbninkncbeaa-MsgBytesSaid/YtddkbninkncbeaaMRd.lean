/- What Read of a message reads. No conditions beyond those in each statement. -/
import Derived.Test.YtddkbninkncbeaaMList
namespace Go.Proofs.Ytddkbninkncbeaa
open Go.RowKit
set_option linter.unusedVariables false
set_option linter.unusedSimpArgs false
set_option maxRecDepth 100000

/-- What Read reads. -/
def rdM (st : RS) : Mg × RS :=
  let a0 := numF 6 8 st
  let a1 := numF 6 281474976710655 a0.2
  let a2 := numF 6 281474976710655 a1.2
  let a3 := numF 6 281474976710655 a2.2
  let a4 := numF 6 281474976710655 a3.2
  let a5 := numF 6 281474976710655 a4.2
  let a6 := numF 6 281474976710655 a5.2
  let a7 := numF 6 281474976710655 a6.2
  let e := rdEnts a7.2
  let k := flagF e.2
  let s := numF 6 3 k.2
  let q := rdL s.2
  let p := numF 6 281474976710655 q.2
  let d := textF 400 p.2
  (⟨a0.1, a1.1, a2.1, a3.1, a4.1, a5.1, a6.1, a7.1, e.1, k.1, s.1, q.1.i, q.1.t, q.1.n, q.1.S, p.1, ⟨d.1.toArray⟩⟩, d.2)
def readM (l : List UInt8) : Mg × Int := if doneF (rdM (some l)).2 = 0 ∧ rightM (rdM (some l)).1 = true then ((rdM (some l)).1, 0) else (Mg.zero, 2)
theorem inR_num {most : Int} {st : RS} (h0 : 0 ≤ most) (h1 : most ≤ 281474976710655) : InR (numF 6 most st).1 := by
  have := numF_most st most h0
  unfold InR; omega
theorem rdEnts_len (st : RS) : (rdEnts st).1.length ≤ 4 := by
  unfold rdEnts; rw [rdEs_len]
  have := numF_most st 4 (by decide)
  omega
theorem rdL_len (st : RS) : (rdL st).1.S.length ≤ 64 := by
  unfold rdL; simp only; rw [rdSs_len]
  have := numF_most (numF 6 281474976710655 (numF 6 281474976710655 (numF 6 281474976710655 st).2).2).2 64 (by decide)
  omega
theorem rdM_ok (st : RS) : (rdM st).1.Ok ∧ (rdM st).1.es.length ≤ 4 ∧ (∀ x ∈ (rdM st).1.es, x.Ok) ∧ (rdM st).1.ss.length ≤ 64 ∧ (∀ x ∈ (rdM st).1.ss, 0 ≤ x ∧ x ≤ 4294967295) := by
  refine ⟨?_, ?_, ?_, ?_, ?_⟩
  · unfold rdM; simp only
    refine {kd := inR_num (by decide) (by decide), fr := inR_num (by decide) (by decide), dt := inR_num (by decide) (by decide), tm := inR_num (by decide) (by decide), ix := inR_num (by decide) (by decide), lg := inR_num (by decide) (by decide), la := inR_num (by decide) (by decide), co := inR_num (by decide) (by decide), st := inR_num (by decide) (by decide), li := by unfold rdL; exact inR_num (by decide) (by decide), lt := by unfold rdL; exact inR_num (by decide) (by decide), lb := by unfold rdL; exact inR_num (by decide) (by decide), pa := inR_num (by decide) (by decide), da := ?_}
    rw [size_arr]
    have := textF_len 400 (numF 6 281474976710655 (rdL (numF 6 3 (flagF (rdEnts (numF 6 281474976710655 (numF 6 281474976710655 (numF 6 281474976710655 (numF 6 281474976710655 (numF 6 281474976710655 (numF 6 281474976710655 (numF 6 281474976710655 (numF 6 8 st).2).2).2).2).2).2).2).2).2).2).2).2).2
    rw [show ((400 : Nat) : Int) = 400 from rfl] at this
    unfold maxLen; omega
  · unfold rdM; exact rdEnts_len _
  · unfold rdM; exact rdEs_ok _ _
  · unfold rdM; exact rdL_len _
  · unfold rdM rdL; exact rdSs_ok _ _
theorem wpList_load_run {P : Program} {w : World} {ops : Array Oper} {rest : List Oper} {o : Oper} {a : Act} {Q : Exit → Act → World → Prop} {t : TypeId} {x : Operand} {v v' : Value} (hr : (Instr.loadAt t v).run P w = .ok v' w) (hgd : o.guard = none) (ho : o.op = .load t x) (hx : a.eval x = v)
    (h : wpList P ops Q rest (a.put o.dst v') w) : wpList P ops Q (o :: rest) a w :=
  wpList_plain hgd fun _ hK => by
    unfold Oper.wp execOp
    simp only [ho, hx, Sem.run_bind, Sem.run_pure, Result.andThen_ok, hr]
    exact hK _ _ h
theorem wpList_store_run {P : Program} {w w' : World} {ops : Array Oper} {rest : List Oper} {o : Oper} {a : Act} {Q : Exit → Act → World → Prop} {t : TypeId} {x y : Operand} {v1 v2 : Value} (hr : (Instr.storeAt t v1 v2).run P w = .ok () w') (hgd : o.guard = none) (ho : o.op = .store t x y) (hx : a.eval x = v1) (hy : a.eval y = v2)
    (h : wpList P ops Q rest (a.put o.dst undef) w') : wpList P ops Q (o :: rest) a w :=
  wpList_plain hgd fun _ hK => by
    unfold Oper.wp execOp
    simp only [ho, hx, hy, Sem.run_bind, Sem.run_pure, Result.andThen_ok, hr]
    exact hK _ _ h
end Go.Proofs.Ytddkbninkncbeaa
