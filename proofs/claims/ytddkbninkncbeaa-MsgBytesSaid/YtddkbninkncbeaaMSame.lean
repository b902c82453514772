/- Same of messages: all of it. No conditions beyond those in each statement. -/
import Derived.Test.YtddkbninkncbeaaMSameA
import Derived.Test.YtddkbninkncbeaaMSameB
import Derived.Test.YtddkbninkncbeaaMSameC
namespace Go.Proofs.Ytddkbninkncbeaa
open Go.RowKit
set_option linter.unusedVariables false
set_option linter.unusedSimpArgs false
set_option maxRecDepth 100000

theorem msame_any (u1 v1 u2 v2 : Value) (m o : Mg) (w : World) (h1 : EnsR w u1 m.es) (h2 : SmsR w v1 m.ss) (h3 : EnsR w u2 o.es) (h4 : SmsR w v2 o.ss) :
    Calls Try.prog 17 #[mgV u1 v1 m, mgV u2 v2 o] w fun e w' => e = .returned (.bool (eqB m o)) ∧ Below w.heap.size w w' := by
  by_cases e0 : m.kd = o.kd
  case neg =>
    rw [eqB_ne (fun e : m = o => e0 (by rw [e]))]
    exact msame_ne0 u1 v1 u2 v2 m o w h1 h2 h3 h4 e0
  by_cases e1 : m.fr = o.fr
  case neg =>
    rw [eqB_ne (fun e : m = o => e1 (by rw [e]))]
    exact msame_ne1 u1 v1 u2 v2 m o w h1 h2 h3 h4 e0 e1
  by_cases e2 : m.dt = o.dt
  case neg =>
    rw [eqB_ne (fun e : m = o => e2 (by rw [e]))]
    exact msame_ne2 u1 v1 u2 v2 m o w h1 h2 h3 h4 e0 e1 e2
  by_cases e3 : m.tm = o.tm
  case neg =>
    rw [eqB_ne (fun e : m = o => e3 (by rw [e]))]
    exact msame_ne3 u1 v1 u2 v2 m o w h1 h2 h3 h4 e0 e1 e2 e3
  by_cases e4 : m.ix = o.ix
  case neg =>
    rw [eqB_ne (fun e : m = o => e4 (by rw [e]))]
    exact msame_ne4 u1 v1 u2 v2 m o w h1 h2 h3 h4 e0 e1 e2 e3 e4
  by_cases e5 : m.lg = o.lg
  case neg =>
    rw [eqB_ne (fun e : m = o => e5 (by rw [e]))]
    exact msame_ne5 u1 v1 u2 v2 m o w h1 h2 h3 h4 e0 e1 e2 e3 e4 e5
  by_cases e6 : m.la = o.la
  case neg =>
    rw [eqB_ne (fun e : m = o => e6 (by rw [e]))]
    exact msame_ne6 u1 v1 u2 v2 m o w h1 h2 h3 h4 e0 e1 e2 e3 e4 e5 e6
  by_cases e7 : m.co = o.co
  case neg =>
    rw [eqB_ne (fun e : m = o => e7 (by rw [e]))]
    exact msame_ne7 u1 v1 u2 v2 m o w h1 h2 h3 h4 e0 e1 e2 e3 e4 e5 e6 e7
  exact msame_rest u1 v1 u2 v2 m o w h1 h2 h3 h4 e0 e1 e2 e3 e4 e5 e6 e7
end Go.Proofs.Ytddkbninkncbeaa
