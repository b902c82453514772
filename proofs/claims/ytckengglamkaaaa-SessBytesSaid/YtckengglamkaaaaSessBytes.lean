/- SessBytes: a table as bytes, and back; cut off it is none; apart from a clone. No conditions. -/
import Derived.Test.YtckengglamkaaaaSessCl
import Derived.Test.YtckengglamkaaaaSessNil
import Derived.Test.YtckengglamkaaaaRows
import Derived.ProofKit
import Derived.OpenShut
import Derived.ShutString
import Derived.ChangeOld
import Derived.Deep.DeepHandedRow
import Derived.Lib.LaidTab
import Derived.Stop.LaidErr
import Derived.Lay
namespace Go.Proofs.Ytckengglamkaaaa.sessBytes
open Go.ChangeShapes Go.WideShapes Go.ChangeAt Go.RowKit
open Go.ChangeMaps (open_string shut_string)
set_option linter.unusedVariables false
set_option maxRecDepth 100000
theorem wp_region_inv0 {P : Program} {Q : Exit → Act → World → Prop} {l : List Oper} {id : Nat} {a0 : Act} {w0 : World} (I : (Nat → Bool) → (Nat → Value) → World → Prop) (hm : P.follows .mixedOrders = true) (hap : apartB l = true) (hb : backB l.toArray = true)
    (h0 : I (fun _ => false) (fun j => match l[j]? with | some o => slotOf a0 o | none => undef) w0.drew)
    (hstep : ∀ i o, l[i]? = some o → ∀ (b : Nat → Bool) (x : Nat → Value) (w : World), I b x w → b i = false → (∀ j, Region.waitsFor .any l.toArray i j = true → b j = true) →
      Step P l Q i (fun a' w' => ∃ v, a' = (putAll x l 0 a0).put o.dst v ∧ I (setB b i) (setX x i v) w') (putAll x l 0 a0) w)
    (hend : ∀ (b : Nat → Bool) (x : Nat → Value) (w : World), I b x w → (∀ i, i < l.length → b i = true) → Q .normal (putAll x l 0 a0) w) :
    (Code.region id l.toArray true).wp P Q a0 w0 := by
  refine wp_region_any hm ?_
  have hx : putAll (fun j => match l[j]? with | some o => slotOf a0 o | none => undef) l 0 a0 = a0 :=
    putAll_self a0 l 0 _ (fun j o ho => by simp only [Nat.zero_add, ho])
  have h := any_of_inv (P := P) (Q := Q) (a0 := a0) I hap hb (fun i o ho b x w hI hbi hW => (hstep i o ho b x w hI hbi hW).out) hend l.length (Array.replicate l.length false) (fun j => match l[j]? with | some o => slotOf a0 o | none => undef) w0.drew
    (by simp) (by simp) (by
      have e : (fun j => (Array.replicate l.length false).getD j false) = fun _ => false := by funext j; exact getD_replicate_false _ _
      rw [e]; exact h0)
  rw [hx] at h
  simpa using h
theorem run_rowI (W : World) (z : Int) : (Instr.buildSlice 42 1 #[(0, .int .i64 z)]).run Try.prog W = .ok (.slice (some ⟨W.heap.size, 0, none⟩) 1 1) (W.alloc (.cells #[.int .i64 z] 3)) := by go_simp
theorem run_rowT (W : World) (z : ByteArray) : (Instr.buildSlice 56 1 #[(0, .string z)]).run Try.prog W = .ok (.slice (some ⟨W.heap.size, 0, none⟩) 1 1) (W.alloc (.cells #[.string z] 9)) := by go_simp
theorem cell_rowI (W : World) (z : Int) : (W.alloc (.cells #[.int .i64 z] 3)).cell? ⟨W.heap.size, 0, none⟩ = some (.int .i64 z) := by
  have h := heap_alloc_new W (.cells #[.int .i64 z] 3)
  generalize W.alloc (.cells #[.int .i64 z] 3) = V at h
  simp [World.cell?, h]
theorem cell_rowT (W : World) (z : ByteArray) : (W.alloc (.cells #[.string z] 9)).cell? ⟨W.heap.size, 0, none⟩ = some (.string z) := by
  have h := heap_alloc_new W (.cells #[.string z] 9)
  generalize W.alloc (.cells #[.string z] 9) = V at h
  simp [World.cell?, h]
theorem call_num (W : World) (v1 v2 : Value) : (callFunc 23 #[v1, v2]).run Try.prog W = .ok (.enter 23 #[v1, v2]) W := by kernel_rfl
theorem call_text (W : World) (v1 v2 : Value) : (callFunc 24 #[v1, v2]).run Try.prog W = .ok (.enter 24 #[v1, v2]) W := by kernel_rfl
theorem i64_and16 (n : Int) : bits .and .i64 n 65535 = n % 65536 := by
  have h127 : (BitVec.ofInt 64 65535).toNat = 2 ^ 16 - 1 := by decide
  have key : (BitVec.ofInt 64 n &&& BitVec.ofInt 64 65535).toNat = (n % ((2 ^ 64 : Nat) : Int)).toNat % 2 ^ 16 := by
    rw [BitVec.toNat_and, BitVec.toNat_ofInt, h127, Nat.and_two_pow_sub_one_eq_mod]
  show IntKind.i64.wrap ((BitVec.ofInt 64 n &&& BitVec.ofInt 64 65535).toNat : Nat) = n % 65536
  rw [key, IntKind.wrap_i64]
  omega
theorem MoW.new (w : World) : MoW (w.alloc (.cells #[.slice none 0 0] 30)) w.heap.size none 0 [] := ⟨heap_alloc_new w _, World.ownsRow_nil _ _ _ _, .inl ⟨rfl, rfl, rfl⟩⟩
def FBy (wv : Value) (eb : Nat) (id req : Int) (ans : ByteArray) : Nat → Value → Prop
  | 0, v => v = wv
  | 1, v => v = .pointer (some ⟨eb, 0, none⟩)
  | 2, v => v = .int .i64 id
  | 3, _ => True
  | 4, _ => True
  | 5, v => v = .pointer (some ⟨eb, 1, none⟩)
  | 6, v => v = .int .i64 req
  | 7, _ => True
  | 8, _ => True
  | 9, v => v = .pointer (some ⟨eb, 2, none⟩)
  | 10, v => v = .string ans
  | 11, _ => True
  | 12, _ => True
  | 13, _ => True
  | _, _ => True
structure JBy (wd : World) (B : Nat) (wv : Value) (E : List UInt8) (id req : Int) (ans : ByteArray) (b : Nat → Bool) (x : Nat → Value) (w : World) : Prop where
  bel : Below wd.heap.size wd w
  pre : b 13 = false → x 13 = wv
  ord : b 13 = true → b 0 = true
  h3 : b 3 = true → ∃ g, x 3 = .slice (some ⟨g, 0, none⟩) 1 1 ∧ g < w.heap.size ∧ w.cell? ⟨g, 0, none⟩ = some (.int .i64 id)
  h4 : b 4 = true → Bs w B (x 4) (E ++ numE id)
  h7 : b 7 = true → ∃ g, x 7 = .slice (some ⟨g, 0, none⟩) 1 1 ∧ g < w.heap.size ∧ w.cell? ⟨g, 0, none⟩ = some (.int .i64 req)
  h8 : b 8 = true → Bs w B (x 8) ((E ++ numE id) ++ numE req)
  h11 : b 11 = true → ∃ g, x 11 = .slice (some ⟨g, 0, none⟩) 1 1 ∧ g < w.heap.size ∧ w.cell? ⟨g, 0, none⟩ = some (.string ans)
  h12 : b 12 = true → Bs w B (x 12) (((E ++ numE id) ++ numE req) ++ textE ans.data.toList)
  h13 : b 13 = true → Bs w B (x 13) (((E ++ numE id) ++ numE req) ++ textE ans.data.toList)
section
variable {wd w w' : World} {B : Nat} {wv : Value} {E : List UInt8} {id req : Int} {ans : ByteArray} {b : Nat → Bool} {x : Nat → Value}
theorem JBy.grow (h : JBy wd B wv E id req ans b x w) (hb : Below w.heap.size w w') : JBy wd B wv E id req ans b x w' := by
  refine ⟨h.bel.trans (hb.mono h.bel.size), h.pre, h.ord, ?_, ?_, ?_, ?_, ?_, ?_, ?_⟩
  · intro hi
    obtain ⟨g, h1, h2, h3⟩ := h.h3 hi
    exact ⟨g, h1, Nat.lt_of_lt_of_le h2 hb.size, (hb.cell (p := ⟨g, 0, none⟩) h2).trans h3⟩
  · exact fun hi => (h.h4 hi).below hb
  · intro hi
    obtain ⟨g, h1, h2, h3⟩ := h.h7 hi
    exact ⟨g, h1, Nat.lt_of_lt_of_le h2 hb.size, (hb.cell (p := ⟨g, 0, none⟩) h2).trans h3⟩
  · exact fun hi => (h.h8 hi).below hb
  · intro hi
    obtain ⟨g, h1, h2, h3⟩ := h.h11 hi
    exact ⟨g, h1, Nat.lt_of_lt_of_le h2 hb.size, (hb.cell (p := ⟨g, 0, none⟩) h2).trans h3⟩
  · exact fun hi => (h.h12 hi).below hb
  · exact fun hi => (h.h13 hi).below hb
theorem JBy.pure {i : Nat} {v : Value} (h : JBy wd B wv E id req ans b x w) (hi : ¬ 3 = i ∧ ¬ 4 = i ∧ ¬ 7 = i ∧ ¬ 8 = i ∧ ¬ 11 = i ∧ ¬ 12 = i ∧ ¬ 13 = i) : JBy wd B wv E id req ans (setB b i) (setX x i v) w := by
  obtain ⟨e3, e4, e7, e8, e11, e12, e13⟩ := hi
  exact ⟨h.bel, by rw [setB_ne e13, setX_ne e13]; exact h.pre, by rw [setB_ne e13]; intro hb; have := h.ord hb; unfold setB; split; rfl; exact this, by rw [setB_ne e3, setX_ne e3]; exact h.h3, by rw [setB_ne e4, setX_ne e4]; exact h.h4, by rw [setB_ne e7, setX_ne e7]; exact h.h7, by rw [setB_ne e8, setX_ne e8]; exact h.h8, by rw [setB_ne e11, setX_ne e11]; exact h.h11, by rw [setB_ne e12, setX_ne e12]; exact h.h12, by rw [setB_ne e13, setX_ne e13]; exact h.h13⟩
theorem JBy.no13 (h : JBy wd B wv E id req ans b x w) (hb : b 0 = false) : b 13 = false := by
  cases e : b 13
  · rfl
  · have := h.ord e; rw [hb] at this; cases this
theorem JBy.s3 {v : Value} (h : JBy wd B wv E id req ans b x w) (hv : ∃ g, v = .slice (some ⟨g, 0, none⟩) 1 1 ∧ g < w.heap.size ∧ w.cell? ⟨g, 0, none⟩ = some (.int .i64 id)) : JBy wd B wv E id req ans (setB b 3) (setX x 3 v) w :=
  ⟨h.bel, by rw [setB_ne (by decide), setX_ne (by decide)]; exact h.pre, by rw [setB_ne (by decide), setB_ne (by decide)]; exact h.ord, fun _ => by rw [setX_same]; exact hv, by rw [setB_ne (by decide), setX_ne (by decide)]; exact h.h4, by rw [setB_ne (by decide), setX_ne (by decide)]; exact h.h7, by rw [setB_ne (by decide), setX_ne (by decide)]; exact h.h8, by rw [setB_ne (by decide), setX_ne (by decide)]; exact h.h11, by rw [setB_ne (by decide), setX_ne (by decide)]; exact h.h12, by rw [setB_ne (by decide), setX_ne (by decide)]; exact h.h13⟩
theorem JBy.s4 {v : Value} (h : JBy wd B wv E id req ans b x w) (hv : Bs w B v (E ++ numE id)) : JBy wd B wv E id req ans (setB b 4) (setX x 4 v) w :=
  ⟨h.bel, by rw [setB_ne (by decide), setX_ne (by decide)]; exact h.pre, by rw [setB_ne (by decide), setB_ne (by decide)]; exact h.ord, by rw [setB_ne (by decide), setX_ne (by decide)]; exact h.h3, fun _ => by rw [setX_same]; exact hv, by rw [setB_ne (by decide), setX_ne (by decide)]; exact h.h7, by rw [setB_ne (by decide), setX_ne (by decide)]; exact h.h8, by rw [setB_ne (by decide), setX_ne (by decide)]; exact h.h11, by rw [setB_ne (by decide), setX_ne (by decide)]; exact h.h12, by rw [setB_ne (by decide), setX_ne (by decide)]; exact h.h13⟩
theorem JBy.s7 {v : Value} (h : JBy wd B wv E id req ans b x w) (hv : ∃ g, v = .slice (some ⟨g, 0, none⟩) 1 1 ∧ g < w.heap.size ∧ w.cell? ⟨g, 0, none⟩ = some (.int .i64 req)) : JBy wd B wv E id req ans (setB b 7) (setX x 7 v) w :=
  ⟨h.bel, by rw [setB_ne (by decide), setX_ne (by decide)]; exact h.pre, by rw [setB_ne (by decide), setB_ne (by decide)]; exact h.ord, by rw [setB_ne (by decide), setX_ne (by decide)]; exact h.h3, by rw [setB_ne (by decide), setX_ne (by decide)]; exact h.h4, fun _ => by rw [setX_same]; exact hv, by rw [setB_ne (by decide), setX_ne (by decide)]; exact h.h8, by rw [setB_ne (by decide), setX_ne (by decide)]; exact h.h11, by rw [setB_ne (by decide), setX_ne (by decide)]; exact h.h12, by rw [setB_ne (by decide), setX_ne (by decide)]; exact h.h13⟩
theorem JBy.s8 {v : Value} (h : JBy wd B wv E id req ans b x w) (hv : Bs w B v ((E ++ numE id) ++ numE req)) : JBy wd B wv E id req ans (setB b 8) (setX x 8 v) w :=
  ⟨h.bel, by rw [setB_ne (by decide), setX_ne (by decide)]; exact h.pre, by rw [setB_ne (by decide), setB_ne (by decide)]; exact h.ord, by rw [setB_ne (by decide), setX_ne (by decide)]; exact h.h3, by rw [setB_ne (by decide), setX_ne (by decide)]; exact h.h4, by rw [setB_ne (by decide), setX_ne (by decide)]; exact h.h7, fun _ => by rw [setX_same]; exact hv, by rw [setB_ne (by decide), setX_ne (by decide)]; exact h.h11, by rw [setB_ne (by decide), setX_ne (by decide)]; exact h.h12, by rw [setB_ne (by decide), setX_ne (by decide)]; exact h.h13⟩
theorem JBy.s11 {v : Value} (h : JBy wd B wv E id req ans b x w) (hv : ∃ g, v = .slice (some ⟨g, 0, none⟩) 1 1 ∧ g < w.heap.size ∧ w.cell? ⟨g, 0, none⟩ = some (.string ans)) : JBy wd B wv E id req ans (setB b 11) (setX x 11 v) w :=
  ⟨h.bel, by rw [setB_ne (by decide), setX_ne (by decide)]; exact h.pre, by rw [setB_ne (by decide), setB_ne (by decide)]; exact h.ord, by rw [setB_ne (by decide), setX_ne (by decide)]; exact h.h3, by rw [setB_ne (by decide), setX_ne (by decide)]; exact h.h4, by rw [setB_ne (by decide), setX_ne (by decide)]; exact h.h7, by rw [setB_ne (by decide), setX_ne (by decide)]; exact h.h8, fun _ => by rw [setX_same]; exact hv, by rw [setB_ne (by decide), setX_ne (by decide)]; exact h.h12, by rw [setB_ne (by decide), setX_ne (by decide)]; exact h.h13⟩
theorem JBy.s12 {v : Value} (h : JBy wd B wv E id req ans b x w) (hv : Bs w B v (((E ++ numE id) ++ numE req) ++ textE ans.data.toList)) : JBy wd B wv E id req ans (setB b 12) (setX x 12 v) w :=
  ⟨h.bel, by rw [setB_ne (by decide), setX_ne (by decide)]; exact h.pre, by rw [setB_ne (by decide), setB_ne (by decide)]; exact h.ord, by rw [setB_ne (by decide), setX_ne (by decide)]; exact h.h3, by rw [setB_ne (by decide), setX_ne (by decide)]; exact h.h4, by rw [setB_ne (by decide), setX_ne (by decide)]; exact h.h7, by rw [setB_ne (by decide), setX_ne (by decide)]; exact h.h8, by rw [setB_ne (by decide), setX_ne (by decide)]; exact h.h11, fun _ => by rw [setX_same]; exact hv, by rw [setB_ne (by decide), setX_ne (by decide)]; exact h.h13⟩
theorem JBy.s13 {v : Value} (h : JBy wd B wv E id req ans b x w) (h0 : b 0 = true) (hv : Bs w B v (((E ++ numE id) ++ numE req) ++ textE ans.data.toList)) : JBy wd B wv E id req ans (setB b 13) (setX x 13 v) w :=
  ⟨h.bel, fun e => (by rw [setB_same] at e; cases e), fun _ => by rw [setB_ne (by decide)]; exact h0, by rw [setB_ne (by decide), setX_ne (by decide)]; exact h.h3, by rw [setB_ne (by decide), setX_ne (by decide)]; exact h.h4, by rw [setB_ne (by decide), setX_ne (by decide)]; exact h.h7, by rw [setB_ne (by decide), setX_ne (by decide)]; exact h.h8, by rw [setB_ne (by decide), setX_ne (by decide)]; exact h.h11, by rw [setB_ne (by decide), setX_ne (by decide)]; exact h.h12, fun _ => by rw [setX_same]; exact hv⟩
end
set_option maxHeartbeats 16000000 in
theorem walk (v0 : Value) (qs : List Sa) (v1 : Value) (zs : List Sa) (a2 : Int) (w : World) (w0 : Acts10 w v0 qs) (w1 : Acts10 w v1 zs) (w2 : (Lit.int .i64 a2).wf = true) :
    Calls Try.prog 4 #[v0, v1, .int .i64 a2] w fun e w' => e = .returned (.bool true) ∧ Below w.heap.size w w' := by
  have HH := Lib.hid (head10_any w)
  have w0' := w0
  obtain ⟨xa, xc, hva, hxm, _⟩ := w0'
  subst hva
  have w1' := w1
  obtain ⟨ya, yc, hva, hym, _⟩ := w1'
  subst hva
  have HA := Lib.hid w0
  have HZ := Lib.hid w1
  have HF := Lib.hid (fun (W : World) (hb : Below w.heap.size w W) => few10_any xa xc qs W (w0.below hb))
  have HG := Lib.hid (fun (W : World) (hb : Below w.heap.size w W) => few10_any ya yc zs W (w1.below hb))
  clear w0 w1 w2
  by_cases hfw : few10 qs = false
  · rw [hfw] at HF
    go_enter Try.func4, Try.ntmps4
    go_wp2_with fail
    refine HH.out.mono ?_
    rintro e w1 ⟨rfl, b1⟩
    go_wp2_with fail
    refine (HF.out _ b1).mono ?_
    rintro e w2 ⟨rfl, b2⟩
    go_wp2_with fail
    go_ret
    exact ⟨rfl, b1.trans (b2.mono b1.size)⟩
  have hfew : few10 qs = true := by cases h : few10 qs; exact absurd h hfw; rfl
  rw [hfew] at HF
  by_cases hfz : few10 zs = false
  · rw [hfz] at HG
    go_enter Try.func4, Try.ntmps4
    go_wp2_with fail
    refine HH.out.mono ?_
    rintro e w1 ⟨rfl, b1⟩
    go_wp2_with fail
    refine (HF.out _ b1).mono ?_
    rintro e w2 ⟨rfl, b2⟩
    replace b2 := b1.trans (b2.mono b1.size)
    go_wp2_with fail
    refine (HG.out _ b2).mono ?_
    rintro e w3 ⟨rfl, b3⟩
    go_wp2_with fail
    go_ret
    exact ⟨rfl, b2.trans (b3.mono b2.size)⟩
  have hfew2 : few10 zs = true := by cases h : few10 zs; exact absurd h hfz; rfl
  rw [hfew2] at HG
  have HFW := Lib.hid hfew
  have HFZ := Lib.hid hfew2
  have hq60 : qs.length ≤ 60 := by unfold few10 at hfew; rw [Bool.and_eq_true] at hfew; simpa using hfew.2
  have hz60 : zs.length ≤ 60 := by unfold few10 at hfew2; rw [Bool.and_eq_true] at hfew2; simpa using hfew2.2
  obtain ⟨u, hu, hu16⟩ : ∃ u : Nat, bits .and .i64 a2 65535 = (u : Int) ∧ u < 65536 := ⟨(a2 % 65536).toNat, by rw [i64_and16]; omega, by omega⟩
  clear hfw hfew hxm hfz hfew2 hym
  go_enter Try.func4, Try.ntmps4
  go_wp2_with fail
  refine HH.out.mono ?_
  rintro e w1 ⟨rfl, b1⟩
  go_wp2_with fail
  refine (HF.out _ b1).mono ?_
  rintro e w2 ⟨rfl, b2⟩
  replace b2 := b1.trans (b2.mono b1.size)
  go_wp2_with fail
  refine (HG.out _ b2).mono ?_
  rintro e w3 ⟨rfl, b3⟩
  replace b3 := b2.trans (b3.mono b2.size)
  have HN := Lib.hid (new_any w3)
  clear b1 b2 HH HF HG
  go_wp2_with fail
  refine HN.out.mono ?_
  rintro e w4 ⟨tb, mb, rfl, H3, b4, htb, hmb⟩
  have hmw : w.heap.size ≤ mb := Nat.le_trans b3.size hmb
  have htw : w.heap.size ≤ tb := Nat.le_trans b3.size htb
  replace b4 := b3.trans (b4.mono b3.size)
  have b5 := b4.alloc b4.size (.cells #[.slice none 0 0] 30)
  have H4 := H3.below ((Below.refl _ w4).alloc (Nat.le_refl _) (.cells #[.slice none 0 0] 30))
  have M4 : MoW (w4.alloc (.cells #[.slice none 0 0] 30)) w4.heap.size none 0 [] := MoW.new w4
  have hs4 : (w4.alloc (.cells #[.slice none 0 0] 30)).heap.size = w4.heap.size + 1 := Array.size_push _
  have hw4 := b4.size
  have l3 := H3.lt
  have l4 := H3.map.lt
  have T4 : TwoS w.heap.size (w4.alloc (.cells #[.slice none 0 0] 30)) tb mb 0 w4.heap.size 0 none noS [] :=
    ⟨H4, M4, RepS.nil, by simp, fun x s h => (by cases h), ⟨by omega, by omega, fun g hg => (by cases hg)⟩, ⟨htw, hmw, hw4, by omega, fun g hg => (by cases hg)⟩⟩
  obtain ⟨mp, hmp⟩ : ∃ mp, mp = w4.heap.size := ⟨_, rfl⟩
  clear H4 M4 H3 HN hs4 htb hmb b3
  go_wp2_with fail
  rw [← hmp] at T4 ⊢
  go_loopw [38] (fun iv wr => ∃ (j k cap : Nat) (a : Option Addr) (T : Int → Option Ss) (L : List Me), j ≤ qs.length ∧ k ≤ j ∧ iv = .int .i64 j ∧ TwoS w.heap.size wr tb mb k mp cap a T L ∧ Below w.heap.size w wr) (fun iv _ => qs.length - (intOf iv).toNat)
  case atStart => exact ⟨0, 0, 0, none, noS, [], by omega, by omega, rfl, T4, b5⟩
  case round =>
    obtain ⟨j, k, cap, a, T, L, hj, hk, rfl, h2, bk⟩ := hrel
    clear T4 b5 b4 hmp hw4 l3 l4
    by_cases hlt : j < qs.length
    · have hlt2 : decide ((j : Int) < (qs.length : Int)) = true := by simp; omega
      obtain ⟨hok, g, off, rfl, h0, h1, h2', h3⟩ := act10_at HA.out bk hlt
      obtain ⟨hsz, _⟩ := few10_at HFW.out hlt
      have hidA := inR_of hok.id
      have hrqA := inR_of hok.req
      have t2 : IntKind.i64.wrap ((j : Int) + 1) = (j : Int) + 1 := IntWalk.i64_in _ (by omega)
      have hj0 : (0 : Int) ≤ (j : Int) := by omega
      have hji : (j : Int) < (qs.length : Int) := by omega
      clear hok
      generalize qs.getD j sa0 = q at *
      obtain ⟨ak, ai, ar, ad⟩ := q
      simp only at *
      have bA := bk.alloc bk.size (.cells #[.int .i64 ak, .int .i64 ai, .int .i64 ar, .string ad] 32)
      have H6 := h2.below ((Below.refl _ wr).alloc (Nat.le_refl _) (.cells #[.int .i64 ak, .int .i64 ai, .int .i64 ar, .string ad] 32))
      have HDO : Hid (Calls Try.prog 12 #[.pointer (some ⟨mp, 0, none⟩), .pointer (some ⟨tb, 0, none⟩), .agg #[.int .i64 ak, .int .i64 ai, .int .i64 ar, .string ad]] (wr.alloc (.cells #[.int .i64 ak, .int .i64 ai, .int .i64 ar, .string ad] 32)) fun e w' => e = .returned (.bool true) ∧ DoR w.heap.size (wr.alloc (.cells #[.int .i64 ak, .int .i64 ai, .int .i64 ar, .string ad] 32)) w' tb mb k mp a) :=
        Lib.hid (do_all w.heap.size tb mb k mp cap a T L ⟨ak, ai, ar, ad⟩ _ H6 hidA hrqA (by simp only; omega) (by omega))
      have HK := Lib.hid hk
      have HJ := Lib.hid hlt
      have HBA := Lib.hid bA
      clear h2 H6 hsz hidA hrqA bA
      go_wp2_with fail
      refine HDO.out.mono ?_
      rintro e w6 ⟨rfl, hd⟩
      obtain ⟨d1, d2, cap', a', T', L', h9⟩ := hd
      have b9 := HBA.out.trans d1
      have H9 := Lib.hid h9
      clear h0 h1 h2' h3 HDO d1 d2 h9
      go_wp2_with fail
      go_roundw
      case rel => exact ⟨j + 1, k + 1, cap', a', T', L', by have := HJ.out; omega, by have := HK.out; omega, by go_num, H9.out, b9⟩
      case measure => have := HJ.out; simp [intOf]; omega
    · obtain rfl : j = qs.length := by omega
      have hlt2 : decide ((qs.length : Int) < (qs.length : Int)) = false := by simp
      obtain ⟨wE, hwE⟩ : ∃ wE, wE = wr := ⟨_, rfl⟩
      rw [← hwE] at h2 bk ⊢
      clear hwE hlt hj
      have H2 := Lib.hid h2
      have hL16 := h2.few
      have HLY := Lib.hid (lay_any tb mb k L.length T wE h2.table (by omega) (fun x s h => ⟨(h2.small x s h).1.1, by have := (h2.small x s h).1.2.1; omega⟩))
      clear h2
      go_wp2_with fail
      refine HLY.out.mono ?_
      rintro e w5 ⟨v5, ids, rfl, hI5, hB5, b5⟩
      rw [ids_rep hI5 H2.out.rep, H2.out.rep.layE H2.out.small] at hB5
      have hln : 6 ≤ (modE L).length := by unfold modE; rw [List.length_append, numE_length]; omega
      have hln2 : (modE L).length ≤ 2000000 := by have := ents_len2 L; unfold modE; rw [List.length_append, numE_length]; omega
      have HVS := Lib.hid (H2.out.rep.val H2.out.small hL16)
      have HTB := Lib.hid H2.out.rep.tab
      obtain ⟨l, hl⟩ : ∃ l, l = modE L := ⟨_, rfl⟩
      rw [← hl] at hB5 hln hln2
      have HL := Lib.hid hl
      have hstr := run_str hB5.src
      obtain ⟨g5, c5, rfl, _⟩ := hB5.cut (by omega)
      obtain ⟨nl, hnl⟩ : ∃ nl, nl = l.length := ⟨_, rfl⟩
      obtain ⟨S, hS⟩ : ∃ S : ByteArray, S = ⟨l.toArray⟩ := ⟨_, rfl⟩
      rw [← hnl, ← hS] at hstr
      rw [← hnl] at hln hln2
      have hSn : S.size = nl := by rw [hS, strOf, hnl]
      have HNL := Lib.hid hnl
      have HS := Lib.hid hS
      have x0 := (H2.out.mod.below b5).cell
      rw [← hnl]
      have HNUM := Lib.hid (num_one (.slice none 0 0) [] (L.length : Int) w5 (Src.nil w5) (by simp) (by omega))
      clear hB5 hI5 hl hnl hS HLY
      go_wp2_with fail
      refine HNUM.out.mono ?_
      rintro e w6 ⟨v6, rfl, B6, b6⟩
      have B6' : Bs w6 w5.heap.size v6 (numE (L.length : Int) ++ ents (L.take 0)) := by simpa [ents] using B6
      have bE6 := b5.trans (b6.mono b5.size)
      have x0 := (H2.out.mod.below bE6).cell
      have hw5 := b6.size
      clear HNUM B6 hstr b6
      go_wp2_with fail
      go_loopw [12, 62] (fun ov iv wr => ∃ (vv : Value) (j : Nat), vv = ov ∧ j ≤ L.length ∧ iv = .int .i64 j ∧ Bs wr w5.heap.size ov (numE (L.length : Int) ++ ents (L.take j)) ∧ Below wE.heap.size wE wr ∧ w5.heap.size ≤ wr.heap.size) (fun _ iv _ => L.length - (intOf iv).toNat)
      case atStart => exact ⟨_, 0, rfl, by omega, rfl, B6', bE6, hw5⟩
      case round =>
        obtain ⟨wv, j, hwv, hj, rfl, HB, bj, hw5j⟩ := hrel
        subst hwv
        clear B6' bE6 x0 hw5
        by_cases hlt : j < L.length
        · have hlt2 : decide ((j : Int) < (L.length : Int)) = true := by simp; omega
          obtain ⟨⟨id, s⟩, he⟩ : ∃ e, L[j]? = some e := ⟨L[j], by simp [hlt]⟩
          obtain ⟨g, rfl, z0, z1, z2⟩ := (H2.out.mod.below bj).cells j _ he
          have hTs : T id = some s := (H2.out.rep.mem id s).2 (List.mem_of_getElem? he)
          have hidR : InR id := H2.out.table.map.1 id (by rw [hTs]; rfl)
          have hsm := (H2.out.small id s hTs).1
          obtain ⟨req, ans⟩ := s
          simp only at z0 z1 z2
          have HIR := Lib.hid hidR
          have HRR : Hid (InR req) := Lib.hid hsm.1
          have HTR : Hid (ans.size ≤ maxLen) := Lib.hid (by have := hsm.2.1; unfold maxLen; simp only at this; omega)
          have hel := ents_len2 (L.take j)
          obtain ⟨E, hE⟩ : ∃ E, E = numE (L.length : Int) ++ ents (L.take j) := ⟨_, rfl⟩
          have hEl : E.length ≤ 2000000 := by rw [hE, List.length_append, numE_length]; rw [List.length_take] at hel; omega
          have HEN : Hid (numE (L.length : Int) ++ ents (L.take (j + 1)) = ((E ++ numE id) ++ numE req) ++ textE ans.data.toList) := Lib.hid (by rw [ents_take L j _ he, hE]; simp [entE])
          rw [← hE] at HB
          have t2 : IntKind.i64.wrap ((j : Int) + 1) = (j : Int) + 1 := IntWalk.i64_in _ (by omega)
          have j0 : (0 : Int) ≤ (j : Int) := by omega
          have j1 : (j : Int) < (L.length : Int) := by omega
          have bA := (Below.refl wr.heap.size wr).alloc (Nat.le_refl _) (.cells #[.int .i64 id, .int .i64 req, .string ans] 48)
          have NA := heap_alloc_new wr (.cells #[.int .i64 id, .int .i64 req, .string ans] 48)
          have HJ := Lib.hid hlt
          have HBj := Lib.hid bj
          clear hTs hsm hidR he hel hE bj hlt
          go_upto_region 17 with fail
          obtain ⟨w7, hw7⟩ : ∃ w7, w7 = wr.alloc (.cells #[.int .i64 id, .int .i64 req, .string ans] 48) := ⟨_, rfl⟩
          rw [← hw7] at bA NA ⊢
          have hlt7 : wr.heap.size < w7.heap.size := (Array.getElem?_eq_some_iff.1 NA).1
          have HSRC : Hid (Bs w7.drew w5.heap.size wv E) := Lib.hid ((HB.below bA).below ((Below.refl _ w7).drew))
          have HBS : Hid (w5.heap.size ≤ w7.drew.heap.size) := Lib.hid (Nat.le_trans hw5j bA.size)
          have HCE : Hid (∀ W : World, Below w7.drew.heap.size w7.drew W → W.cell? ⟨wr.heap.size, 0, none⟩ = some (.int .i64 id) ∧ W.cell? ⟨wr.heap.size, 1, none⟩ = some (.int .i64 req) ∧ W.cell? ⟨wr.heap.size, 2, none⟩ = some (.string ans)) := Lib.hid fun W hW => by
            have hN := (hW.block wr.heap.size hlt7).trans (show w7.drew.heap[wr.heap.size]? = _ from NA)
            exact ⟨by simp [World.cell?, hN], by simp [World.cell?, hN], by simp [World.cell?, hN]⟩
          have HBW : Hid (∀ W : World, Below w7.drew.heap.size w7.drew W → Below wE.heap.size wE W ∧ w5.heap.size ≤ W.heap.size) := Lib.hid fun W hW => by
            have h1 := bA.trans (((Below.refl _ w7).drew.trans (hW.mono (Nat.le_refl _))).mono bA.size)
            exact ⟨HBj.out.trans (h1.mono HBj.out.size), Nat.le_trans hw5j h1.size⟩
          clear hw7 NA z0 z1 z2 HB bA
          refine wp_region_inv0 (IFJ (FBy wv wr.heap.size id req ans) (JBy w7.drew w5.heap.size wv E id req ans)) (by kernel_rfl) (by kernel_rfl) (by kernel_rfl) ?_ ?_ ?_
          · exact ⟨fun j hj => (by cases hj), ⟨Below.refl _ _, fun _ => rfl, fun hj => (by cases hj), fun hj => (by cases hj), fun hj => (by cases hj), fun hj => (by cases hj), fun hj => (by cases hj), fun hj => (by cases hj), fun hj => (by cases hj), fun hj => (by cases hj)⟩⟩
          · intro i o ho b x w1 hI hbi hW
            match i, ho with
            | 0, ho =>
              obtain rfl := Option.some.inj ho
              have hb13 : b 13 = false := hI.2.no13 hbi
              exact gstep_move rfl (wanted0 rfl) _ rfl _ (eval_at 12 13 _ (by kernel_rfl) (show 12 < 140 by decide) (hI.2.pre hb13)) ⟨_, rfl, IFJ.step hI rfl (hI.2.pure (by decide))⟩
            | 1, ho =>
              obtain rfl := Option.some.inj ho
              exact gstep_field rfl (wanted0 rfl) _ _ _ rfl _ (eval_of 14 _ (by kernel_rfl) rfl) _ (run_fE0 w1 _) ⟨_, rfl, IFJ.step hI rfl (hI.2.pure (by decide))⟩
            | 2, ho =>
              obtain rfl := Option.some.inj ho
              exact gstep_load rfl (wanted0 rfl) _ _ rfl _ (eval_at 67 1 _ (by kernel_rfl) (show 67 < 140 by decide) (hI.1 1 (hW 1 (by kernel_rfl)))) _ (run_loadI w1 _ _ (HCE.out w1 hI.2.bel).1) ⟨_, rfl, IFJ.step hI rfl (hI.2.pure (by decide))⟩
            | 3, ho =>
              obtain rfl := Option.some.inj ho
              exact gstep_row1 rfl (wanted0 rfl) _ _ rfl _ (eval_at 68 2 _ (by kernel_rfl) (show 68 < 140 by decide) (hI.1 2 (hW 2 (by kernel_rfl)))) _ _ (run_rowI w1 _) ⟨_, rfl, IFJ.step hI trivial ((hI.2.grow ((Below.refl _ w1).alloc (Nat.le_refl _) _)).s3 ⟨_, rfl, (Array.getElem?_eq_some_iff.1 (heap_alloc_new w1 _)).1, cell_rowI w1 _⟩)⟩
            | 4, ho =>
              obtain rfl := Option.some.inj ho
              obtain ⟨g, hx, hg, hc⟩ := hI.2.h3 (hW 3 (by kernel_rfl))
              refine gstep_call2 rfl (wanted0 rfl) _ _ _ _ rfl _ _ (eval_at 66 0 _ (by kernel_rfl) (show 66 < 140 by decide) (hI.1 0 (hW 0 (by kernel_rfl)))) (eval_at 69 3 _ (by kernel_rfl) (show 69 < 140 by decide) hx) (call_num w1 _ _) ?_
              refine (num_list wv E g 0 1 [id] w1 (HSRC.out.below hI.2.bel).src hg (by simp; omega) (fun q hq => by obtain rfl : q = 0 := (by simpa using hq); exact HIR.out) (fun q hq => by obtain rfl : q = 0 := (by simpa using hq); exact hc)).mono ?_
              rintro e w2 ⟨v', rfl, hB', hb⟩
              exact ⟨_, rfl, _, rfl, IFJ.step hI trivial ((hI.2.grow hb).s4 (by simpa [numsE, textsE] using hB'.mono (Nat.le_trans HBS.out hI.2.bel.size)))⟩
            | 5, ho =>
              obtain rfl := Option.some.inj ho
              exact gstep_field rfl (wanted0 rfl) _ _ _ rfl _ (eval_of 14 _ (by kernel_rfl) rfl) _ (run_fE1 w1 _ 0) ⟨_, rfl, IFJ.step hI rfl (hI.2.pure (by decide))⟩
            | 6, ho =>
              obtain rfl := Option.some.inj ho
              exact gstep_load rfl (wanted0 rfl) _ _ rfl _ (eval_at 71 5 _ (by kernel_rfl) (show 71 < 140 by decide) (hI.1 5 (hW 5 (by kernel_rfl)))) _ (run_loadI w1 _ _ (HCE.out w1 hI.2.bel).2.1) ⟨_, rfl, IFJ.step hI rfl (hI.2.pure (by decide))⟩
            | 7, ho =>
              obtain rfl := Option.some.inj ho
              exact gstep_row1 rfl (wanted0 rfl) _ _ rfl _ (eval_at 72 6 _ (by kernel_rfl) (show 72 < 140 by decide) (hI.1 6 (hW 6 (by kernel_rfl)))) _ _ (run_rowI w1 _) ⟨_, rfl, IFJ.step hI trivial ((hI.2.grow ((Below.refl _ w1).alloc (Nat.le_refl _) _)).s7 ⟨_, rfl, (Array.getElem?_eq_some_iff.1 (heap_alloc_new w1 _)).1, cell_rowI w1 _⟩)⟩
            | 8, ho =>
              obtain rfl := Option.some.inj ho
              obtain ⟨g, hx, hg, hc⟩ := hI.2.h7 (hW 7 (by kernel_rfl))
              have hp := hI.2.h4 (hW 4 (by kernel_rfl))
              refine gstep_call2 rfl (wanted0 rfl) _ _ _ _ rfl _ _ (eval_at 70 4 _ (by kernel_rfl) (show 70 < 140 by decide) rfl) (eval_at 73 7 _ (by kernel_rfl) (show 73 < 140 by decide) hx) (call_num w1 _ _) ?_
              refine (num_list (x 4) _ g 0 1 [req] w1 hp.src hg (by simp [numE_length]; omega) (fun q hq => by obtain rfl : q = 0 := (by simpa using hq); exact HRR.out) (fun q hq => by obtain rfl : q = 0 := (by simpa using hq); exact hc)).mono ?_
              rintro e w2 ⟨v', rfl, hB', hb⟩
              exact ⟨_, rfl, _, rfl, IFJ.step hI trivial ((hI.2.grow hb).s8 (by simpa [numsE, textsE] using hB'.mono (Nat.le_trans HBS.out hI.2.bel.size)))⟩
            | 9, ho =>
              obtain rfl := Option.some.inj ho
              exact gstep_field rfl (wanted0 rfl) _ _ _ rfl _ (eval_of 14 _ (by kernel_rfl) rfl) _ (run_fE2 w1 _ 0) ⟨_, rfl, IFJ.step hI rfl (hI.2.pure (by decide))⟩
            | 10, ho =>
              obtain rfl := Option.some.inj ho
              exact gstep_load rfl (wanted0 rfl) _ _ rfl _ (eval_at 75 9 _ (by kernel_rfl) (show 75 < 140 by decide) (hI.1 9 (hW 9 (by kernel_rfl)))) _ (run_loadT w1 _ _ (HCE.out w1 hI.2.bel).2.2) ⟨_, rfl, IFJ.step hI rfl (hI.2.pure (by decide))⟩
            | 11, ho =>
              obtain rfl := Option.some.inj ho
              exact gstep_row1 rfl (wanted0 rfl) _ _ rfl _ (eval_at 76 10 _ (by kernel_rfl) (show 76 < 140 by decide) (hI.1 10 (hW 10 (by kernel_rfl)))) _ _ (run_rowT w1 _) ⟨_, rfl, IFJ.step hI trivial ((hI.2.grow ((Below.refl _ w1).alloc (Nat.le_refl _) _)).s11 ⟨_, rfl, (Array.getElem?_eq_some_iff.1 (heap_alloc_new w1 _)).1, cell_rowT w1 _⟩)⟩
            | 12, ho =>
              obtain rfl := Option.some.inj ho
              obtain ⟨g, hx, hg, hc⟩ := hI.2.h11 (hW 11 (by kernel_rfl))
              have hp := hI.2.h8 (hW 8 (by kernel_rfl))
              refine gstep_call2 rfl (wanted0 rfl) _ _ _ _ rfl _ _ (eval_at 74 8 _ (by kernel_rfl) (show 74 < 140 by decide) rfl) (eval_at 77 11 _ (by kernel_rfl) (show 77 < 140 by decide) hx) (call_text w1 _ _) ?_
              refine (text_list (x 8) _ g 0 1 [ans] w1 hp.src hg (by simp [numE_length]; omega) (fun q hq => by obtain rfl : q = 0 := (by simpa using hq); exact HTR.out) (fun q hq => by obtain rfl : q = 0 := (by simpa using hq); exact hc)).mono ?_
              rintro e w2 ⟨v', rfl, hB', hb⟩
              exact ⟨_, rfl, _, rfl, IFJ.step hI trivial ((hI.2.grow hb).s12 (by simpa [numsE, textsE] using hB'.mono (Nat.le_trans HBS.out hI.2.bel.size)))⟩
            | 13, ho =>
              obtain rfl := Option.some.inj ho
              have hp := hI.2.h12 (hW 12 (by kernel_rfl))
              exact gstep_assign rfl (wanted0 rfl) _ rfl _ (eval_at 78 12 _ (by kernel_rfl) (show 78 < 140 by decide) rfl) ⟨_, rfl, IFJ.step hI trivial (hI.2.s13 (hW 0 (by kernel_rfl)) hp)⟩
            | n + 14, ho => simp at ho
          · intro b x w1 hI hA
            have h13 := hI.2.h13 (hA 13 (by decide))
            have hb := HBW.out w1 hI.2.bel
            have HB9 := Lib.hid h13
            simp only [putAll, Act.put, List.setIfInBounds_toArray, List.set_cons_succ, List.set_cons_zero]
            clear hI hA h13
            obtain ⟨b9, hs9⟩ := hb
            go_wp2_with fail
            go_roundw
            case rel => exact ⟨_, j + 1, rfl, by have := HJ.out; omega, by go_num, by rw [HEN.out]; exact HB9.out, b9, hs9⟩
            case measure => have := HJ.out; simp [intOf]; omega
        · obtain rfl : j = L.length := by omega
          have hlt2 : decide ((L.length : Int) < (L.length : Int)) = false := by simp
          rw [List.take_length] at HB
          have HB' : Bs wr w5.heap.size wv l := by rw [HL.out]; exact HB
          clear HB hj hlt
          obtain ⟨gW, cW, hvW, _⟩ := HB'.cut (by rw [← HNL.out]; omega)
          have HSTRW : Hid (∀ W : World, Below wr.heap.size wr W → (convert 44 9 (.slice (some ⟨gW, 0, none⟩) nl cW)).run Try.prog W = .ok (.string S) W) := Lib.hid fun W hW => by
            have h := run_str (HB'.below hW).src
            rw [hvW, ← HNL.out, ← HS.out] at h; exact h
          rw [← HNL.out] at hvW
          have HRD := Lib.hid (read_any S wr)
          clear HB'
          subst hvW
          go_wp2_with fail
          refine HRD.out.mono ?_
          rintro e w7 ⟨rfl, R7, b7, hsz7⟩
          have R7' : Rs w7 wr.heap.size (some l) := ⟨by rw [← HS.out]; exact R7, by rw [← HNL.out]; omega⟩
          obtain ⟨rb, hrb⟩ : ∃ rb, rb = wr.heap.size := ⟨_, rfl⟩
          rw [← hrb] at R7' ⊢
          have bE7 := bj.trans (b7.mono bj.size)
          have hrbE : wE.heap.size ≤ rb := by rw [hrb]; exact bj.size
          have HSR := Lib.hid (sread_any rb l w7 R7')
          have HRB := Lib.hid hrb
          clear R7 R7' HRD hsz7 hrb
          go_wp2_with fail
          refine HSR.out.mono ?_
          rintro e w8 ⟨tu, mu, ku, cu, Tu, st, rfl, HR8, g8⟩
          have bE8 : Below wE.heap.size wE w8 := bE7.grown g8 bE7.size (fun q hq => by cases hq; exact hrbE)
          have bW8 : Below wr.heap.size wr w8 := b7.grown g8 b7.size (fun q hq => by cases hq; have := HRB.out; omega)
          have hl8 : l = numE (L.length : Int) ++ ents L ++ [] := by rw [HL.out, List.append_nil]; rfl
          obtain ⟨hst, hTu⟩ := HR8.full L [] HVS.out hl8
          rw [HTB.out] at hTu
          obtain ⟨ys, hY, _⟩ := HR8.good [] hst
          rw [hTu] at hY
          have hcu : cu = L.length := by have h1 := ids_rep hY H2.out.rep; rw [← hY.len, h1, List.length_map]
          have HU : Hid (TbW w8 tu mu ku L.length T) := Lib.hid (by rw [← hTu, ← hcu]; exact HR8.table)
          have HFULL : Hid (∀ es0 r, ValS es0 → l = numE (es0.length : Int) ++ ents es0 ++ r → (some [] : RS) = some r) := Lib.hid fun es0 r hv hl => by rw [← hst]; exact (HR8.full es0 r hv hl).1
          have hnew := HR8.new
          have HDN := HR8.reader
          rw [hst] at HDN
          replace HDN := Lib.hid (done_rs rb (some []) w8 HDN)
          have hd : doneF (some []) = 0 := rfl
          rw [hd] at HDN
          have hmpE := H2.out.mod.ltm
          have hbs := bE7.size
          have HNEU : Hid (tu ≠ mp ∧ mu ≠ mp ∧ ∀ g, a = some ⟨g, 0, none⟩ → tu ≠ g ∧ mu ≠ g) := Lib.hid ⟨by omega, by omega, fun g hg => by have := H2.out.mod.ltg hg; omega⟩
          have HINR : Hid (∀ x s, T x = some s → InR x) := Lib.hid (fun x s hx => H2.out.table.map.1 x (by rw [hx]; rfl))
          have HSU := Lib.hid (fun (W : World) (hW : Below w8.heap.size w8 W) => shows_any 0 tu mu ku mp cap a T L W (TwoS.other (HU.out.below hW) (H2.out.mod.below (bE8.trans (hW.mono bE8.size))) H2.out.rep hL16 H2.out.small HNEU.out) HINR.out)
          have hstr8 := HSTRW.out w8 bW8
          have eS : (S.toList == S.toList) = true := by simp
          clear HR8 g8 hl8 hst hTu hY hcu hd HSR bW8 b7 bj hw5j
          go_wp2_with fail
          refine HDN.out.mono ?_
          rintro e w9 ⟨rfl, rfl⟩
          go_wp2_with fail
          refine (HSU.out _ (Below.refl _ _)).mono ?_
          rintro e w9 ⟨rfl, b9⟩
          have bE9 := bE8.trans (b9.mono bE8.size)
          have hnz : ¬ (nl : Int) = 0 := by omega
          have hb0 : (0 : Int) ≤ (u : Int) % (nl : Int) := Int.emod_nonneg _ hnz
          have hb1 : (u : Int) % (nl : Int) ≤ (nl : Int) := Int.le_of_lt (Int.emod_lt_of_pos _ (by omega))
          have hNl : u % nl < nl := Nat.mod_lt _ (by omega)
          have HNlt := Lib.hid hNl
          clear hNl
          go_wp2_with fail
          obtain ⟨N, hN⟩ : ∃ N, N = u % nl := ⟨_, rfl⟩
          rw [← hN] at HNlt ⊢
          have hcut : S.extract 0 N = ⟨(l.take N).toArray⟩ := by rw [HS.out, extract_head]
          obtain ⟨S2, hS2⟩ : ∃ S2, S2 = S.extract 0 N := ⟨_, rfl⟩
          rw [← hS2] at hcut ⊢
          have HRD2 := Lib.hid (read_any S2 w9)
          have hN9 : N < nl := HNlt.out
          clear hN hb0 hb1 hS2
          refine HRD2.out.mono ?_
          rintro e w10 ⟨rfl, R10, b10, hsz10⟩
          have R10' : Rs w10 w9.heap.size (some (l.take N)) := ⟨by rw [← hcut]; exact R10, by rw [List.length_take]; omega⟩
          obtain ⟨rs, hrs⟩ : ∃ rs, rs = w9.heap.size := ⟨_, rfl⟩
          rw [← hrs] at R10' ⊢
          have c10 : Below w8.heap.size w8 w10 := b9.trans (b10.mono b9.size)
          have hrs8 : w8.heap.size ≤ rs := by rw [hrs]; exact b9.size
          have HSR2 := Lib.hid (sread_any rs (l.take N) w10 R10')
          clear R10 R10' HRD2 hsz10 hrs hcut hN9
          go_wp2_with fail
          refine HSR2.out.mono ?_
          rintro e w11 ⟨tv, mv, kv, cv, Tv, sv, rfl, HRv, g11⟩
          have c11 : Below w8.heap.size w8 w11 := c10.grown g11 c10.size (fun q hq => by cases hq; exact hrs8)
          have hsv : sv = none := by
            cases hsv : sv with
            | none => rfl
            | some l' =>
              obtain ⟨es, h1, _, _, h2⟩ := HRv.good2 l' hsv
              exact (cut_none HVS.out HL.out (by rw [← HNL.out]; exact HNlt.out) h1 h2 HFULL.out).elim
          have hcv := HRv.bad hsv
          have HOK2 := HRv.reader
          rw [hsv] at HOK2
          replace HOK2 := Lib.hid (ok_rs rs none w11 HOK2)
          have hokn : okF none = false := rfl
          rw [hokn] at HOK2
          have HTV := HRv.table
          rw [hcv] at HTV
          have HALv := Lib.hid (all_any tv mv kv 0 Tv w11 HTV (by omega))
          clear HRv g11 hsv hcv HTV hokn c10 HSR2
          go_wp2_with fail
          refine HOK2.out.mono ?_
          rintro e w12 ⟨rfl, rfl⟩
          go_wp2_with fail
          refine HALv.out.mono ?_
          rintro e w12 ⟨v12, z12, rfl, hI12, hrow12, b12⟩
          have hz12 := hI12.len
          obtain ⟨a12, c12, rfl, _⟩ := row_form hrow12
          rw [hz12]
          have c12' : Below w8.heap.size w8 w12 := c11.trans (b12.mono c11.size)
          have bE12 := bE8.trans (c12'.mono bE8.size)
          have HCLN := Lib.hid (tclone_any tb mb k L.length T w12 (H2.out.table.below bE12))
          clear hrow12 hI12 hz12 b12 c11 HOK2 HALv
          go_wp2_with fail
          refine HCLN.out.mono ?_
          rintro e w13 ⟨tc, mc, rfl, TC, b13, htc, hmc⟩
          have c13 := c12'.trans (b13.mono c12'.size)
          have bE13 := bE8.trans (c13.mono bE8.size)
          have b14 := (bk.trans (bE13.mono bk.size))
          have T13 := H2.out.table.below bE13
          have M13 := H2.out.mod.below bE13
          have U13 := HU.out.below c13
          have T14 : TwoX w.heap.size (w13.alloc (.cells #[.slice none 0 0] 30)) tb mb k w13.heap.size 0 none noS [] := by
            have hs : (w13.alloc (.cells #[.slice none 0 0] 30)).heap.size = w13.heap.size + 1 := Array.size_push _
            have l3 := T13.lt
            have l4 := T13.map.lt
            have := b14.size
            exact ⟨⟨L.length, T, T13.below ((Below.refl _ w13).alloc (Nat.le_refl _) _)⟩, MoW.new w13, RepS.nil, by simp, fun x s h => (by cases h), ⟨by omega, by omega, fun g hg => (by cases hg)⟩, ⟨htw, hmw, by omega, by omega, fun g hg => (by cases hg)⟩⟩
          have b15 := b14.alloc b14.size (.cells #[.slice none 0 0] 30)
          have hk60 := hk
          have HKP : Hid (∀ p, p < w13.heap.size → p ≠ mb → (w13.alloc (.cells #[.slice none 0 0] 30)).heap[p]? = w13.heap[p]?) := Lib.hid fun p hp _ => ((Below.refl _ w13).alloc (Nat.le_refl _) (.cells #[.slice none 0 0] 30)).block p hp
          have hs14 : w13.heap.size ≤ (w13.alloc (.cells #[.slice none 0 0] 30)).heap.size := ((Below.refl _ w13).alloc (Nat.le_refl _) (.cells #[.slice none 0 0] 30)).size
          have HM13 := Lib.hid M13
          have HU13 := Lib.hid U13
          have HTC := Lib.hid TC
          have hmbE := H2.out.table.map.lt
          have HNM : Hid (tc ≠ mb ∧ mc ≠ mb ∧ tu ≠ mb ∧ mu ≠ mb ∧ mp ≠ mb ∧ ∀ g, a = some ⟨g, 0, none⟩ → g ≠ mb) := Lib.hid ⟨by have := bE12.size; omega, by have := bE12.size; omega, by omega, by omega, H2.out.ne.2.1.symm, fun g hg => (H2.out.ne.2.2 g hg).2.symm⟩
          have HNEC : Hid (tc ≠ mp ∧ mc ≠ mp ∧ ∀ g, a = some ⟨g, 0, none⟩ → tc ≠ g ∧ mc ≠ g) := Lib.hid ⟨by have := bE12.size; omega, by have := bE12.size; omega, fun g hg => by have := H2.out.mod.ltg hg; have := bE12.size; omega⟩
          obtain ⟨mp2, hmp2⟩ : ∃ mp2, mp2 = w13.heap.size := ⟨_, rfl⟩
          have HMP2 := Lib.hid hmp2
          clear TC U13 M13 T13 b13 c13 c12' b14 hmp2 htc hmc hnew hmbE HCLN HSU
          go_wp2_with fail
          rw [← HMP2.out] at T14 HKP hs14 ⊢
          go_loopw [123] (fun iv wr => ∃ (j k2 cap2 : Nat) (aX : Option Addr) (T2 : Int → Option Ss) (L2 : List Me), j ≤ zs.length ∧ k2 ≤ k + j ∧ iv = .int .i64 j ∧ TwoX w.heap.size wr tb mb k2 mp2 cap2 aX T2 L2 ∧ Below w.heap.size w wr ∧ Hid (∀ p, p < mp2 → p ≠ mb → wr.heap[p]? = w13.heap[p]?) ∧ Hid (∀ g, aX = some ⟨g, 0, none⟩ → mp2 ≤ g) ∧ mp2 ≤ wr.heap.size) (fun iv _ => zs.length - (intOf iv).toNat)
          case atStart => exact ⟨0, k, 0, none, noS, [], by omega, by omega, rfl, T14, b15, HKP, Lib.hid (fun g hg => (by cases hg)), hs14⟩
          case round =>
            obtain ⟨j, k2, cap2, aX, T2, L2, hj, hk2, rfl, h2, bz, hkp, hgx, hsz⟩ := hrel
            clear T14 b15 HKP hs14
            by_cases hlt : j < zs.length
            · have hlt2 : decide ((j : Int) < (zs.length : Int)) = true := by simp; omega
              obtain ⟨hok, g, off, rfl, h0, h1, h2', h3⟩ := act10_at HZ.out bz hlt
              obtain ⟨hszA, _⟩ := few10_at HFZ.out hlt
              have hidA := inR_of hok.id
              have hrqA := inR_of hok.req
              have t2 : IntKind.i64.wrap ((j : Int) + 1) = (j : Int) + 1 := IntWalk.i64_in _ (by omega)
              have hj0 : (0 : Int) ≤ (j : Int) := by omega
              have hji : (j : Int) < (zs.length : Int) := by omega
              clear hok
              generalize zs.getD j sa0 = q at *
              obtain ⟨ak, ai, ar, ad⟩ := q
              simp only at *
              have bA0 := (Below.refl wr.heap.size wr).alloc (Nat.le_refl _) (.cells #[.int .i64 ak, .int .i64 ai, .int .i64 ar, .string ad] 32)
              have H6 := h2.below bA0
              have HDO : Hid (Calls Try.prog 12 #[.pointer (some ⟨mp2, 0, none⟩), .pointer (some ⟨tb, 0, none⟩), .agg #[.int .i64 ak, .int .i64 ai, .int .i64 ar, .string ad]] (wr.alloc (.cells #[.int .i64 ak, .int .i64 ai, .int .i64 ar, .string ad] 32)) fun e w' => (∃ bv, e = .returned (.bool bv)) ∧ DoX w.heap.size (wr.alloc (.cells #[.int .i64 ak, .int .i64 ai, .int .i64 ar, .string ad] 32)) w' tb mb k2 mp2 aX) :=
                Lib.hid (dx_all w.heap.size tb mb k2 mp2 cap2 aX T2 L2 ⟨ak, ai, ar, ad⟩ _ H6 hidA hrqA (by simp only; omega) (by omega))
              have HK := Lib.hid hk2
              have HJ := Lib.hid hlt
              have HBZ := Lib.hid bz
              have HBA0 := Lib.hid bA0
              clear h2 H6 hszA hidA hrqA bA0
              go_wp2_with fail
              refine HDO.out.mono ?_
              rintro e w6 ⟨⟨bv, rfl⟩, hd⟩
              obtain ⟨d1, d2, cap', a', T', L', h9, hga⟩ := hd
              have b9 := (HBZ.out.trans (HBA0.out.mono HBZ.out.size)).trans d1
              have H9 := Lib.hid h9
              have HKN : Hid (∀ p, p < mp2 → p ≠ mb → w6.heap[p]? = w13.heap[p]?) := Lib.hid fun p hp hpm => by
                have hpw : p < wr.heap.size := by omega
                refine (d2 p (Nat.lt_of_lt_of_le hpw HBA0.out.size) hpm (by omega) (fun g hg => by have := hgx.out g hg; omega)).trans ?_
                exact (HBA0.out.block p hpw).trans (hkp.out p hp hpm)
              have hsA := HBA0.out.size
              have HGN : Hid (∀ g, a' = some ⟨g, 0, none⟩ → mp2 ≤ g) := Lib.hid fun g hg => by
                rcases hga with rfl | hga
                · exact hgx.out g hg
                · have := hga g hg; omega
              have hs6 : mp2 ≤ w6.heap.size := Nat.le_of_lt h9.mod.ltm
              clear h0 h1 h2' h3 HDO d1 d2 h9 hga hsA
              go_wp2_with fail
              go_roundw
              case rel => exact ⟨j + 1, k2 + 1, cap', a', T', L', by have := HJ.out; omega, by have := HK.out; omega, by go_num, H9.out, b9, HKN, HGN, hs6⟩
              case measure => have := HJ.out; simp [intOf]; omega
            · obtain rfl : j = zs.length := by omega
              have hlt2 : decide ((zs.length : Int) < (zs.length : Int)) = false := by simp
              have hmp2 := HMP2.out
              have kp : ∀ p, p < w13.heap.size → p ≠ mb → wr.heap[p]? = w13.heap[p]? := fun p hp hpm => hkp.out p (by rw [hmp2]; exact hp) hpm
              have MF : MoW wr mp a cap L := HM13.out.same (kp mp HM13.out.ltm HNM.out.2.2.2.2.1) (fun g hg => kp g (HM13.out.ltg hg) (HNM.out.2.2.2.2.2 g hg))
              have CF : TbW wr tc mc k L.length T := ⟨(kp tc HTC.out.lt HNM.out.1).trans HTC.out.table, HTC.out.map.keep0 (kp mc HTC.out.map.lt HNM.out.2.1)⟩
              have UF : TbW wr tu mu ku L.length T := ⟨(kp tu HU13.out.lt HNM.out.2.2.1).trans HU13.out.table, HU13.out.map.keep0 (kp mu HU13.out.map.lt HNM.out.2.2.2.1)⟩
              have HSC := Lib.hid (shows_any 0 tc mc k mp cap a T L wr (TwoS.other CF MF H2.out.rep hL16 H2.out.small HNEC.out) HINR.out)
              have HSV := Lib.hid (fun (W : World) (hW : Below wr.heap.size wr W) => shows_any 0 tu mu ku mp cap a T L W (TwoS.other (UF.below hW) (MF.below hW) H2.out.rep hL16 H2.out.small HNEU.out) HINR.out)
              clear h2 kp MF CF UF hmp2 hkp hgx hsz
              go_wp2_with fail
              refine HSC.out.mono ?_
              rintro e w15 ⟨rfl, b15⟩
              go_wp2_with fail
              refine (HSV.out _ b15).mono ?_
              rintro e w16 ⟨rfl, b16⟩
              have bf := bz.trans ((b15.trans (b16.mono b15.size)).mono bz.size)
              go_wp2_with fail
              go_ret
              exact ⟨rfl, bf⟩

theorem own : ownKnob Try.prog.godebug = none := by kernel_rfl
theorem laidOut : laidOutB Try.prog = true := by kernel_rfl

set_option maxRecDepth 100000 in
theorem lifted (os : Os) (started : os.Started) (H : Type) (enc : TypeId × Value → H) :
    ReturnsInHanded {} Try.checked os 4 .any (Rows.sessBytesSpec.pre6 enc Try.prog Try.f4 Rows.sessBytesRow.domain false) (Rows.sessBytesSpec.post enc Try.prog Try.f4 false true false false) := by
  refine returnsInHanded_of_change (C := Try.checked) own started (by kernel_rfl) Try.func4
    (ChangeSpec.witness6 (enc := enc) (C := Try.checked) false ⟨#[], #[.slice none 0 0, .slice none 0 0, .int .i64 0], []⟩ 8 (by kernel_rfl) (by kernel_rfl) (by kernel_rfl) (by kernel_rfl)) ?_
  intro W base args ds gs before hval0 hW hcnd _
  have hval : ∀ (j : Nat) t v, Try.f4.params[j]? = some t → args[j]? = some v → Value.okWide Try.prog W .any base t v := hval0
  have hW' := hW
  obtain ⟨p, q, hA0, hV, rfl, hfz, hnd⟩ := hW
  have hA : DataW.TrodAll enc Try.prog W 0 (fun _ => true) true Try.f4.params.toList args.toList ds p := hA0
  rw [Try.params4] at hA hval
  obtain ⟨v0, vs0, d0, ds0, p0, q0, hargs, rfl, rfl, h0, r0⟩ := trodAll_cons hA
  obtain ⟨v1, vs1, d1, ds1, p1, q1, rfl, rfl, rfl, h1, r1⟩ := trodAll_cons r0
  obtain ⟨v2, vs2, d2, ds2, p2, q2, rfl, rfl, rfl, h2, r2⟩ := trodAll_cons r1
  obtain ⟨rfl, rfl, rfl⟩ := trodAll_nil r2
  obtain rfl : args = #[v0, v1, v2] := by cases args; simp_all
  obtain ⟨rfl, rfl⟩ := trodVars_none hV
  have k0 := h0
  have lt0 : ∀ x ∈ p0, x.block < W.heap.size := by obtain ⟨m, hm⟩ := k0; exact DataW.trod_lt m _ _ _ hm
  obtain ⟨z0, w0⟩ := acts10_of (hval 0 22 v0 rfl rfl) h0
  have k1 := h1
  have lt1 : ∀ x ∈ p1, x.block < W.heap.size := by obtain ⟨m, hm⟩ := k1; exact DataW.trod_lt m _ _ _ hm
  obtain ⟨z1, w1⟩ := acts10_of (hval 1 22 v1 rfl rfl) h1
  obtain ⟨a2, rfl, rfl, rfl, w2⟩ := open_int Try.underlying3 (hval 2 3 v2 rfl rfl) h2
  clear hA0 hval0
  refine (walk v0 z0 v1 z1 a2 W w0 w1 w2).mono fun e W' ⟨he, bel⟩ => ?_
  subst he
  exact ⟨_, rfl, _, _, _, [], _, [], hW', trodAll_mk1 (shut_bool Try.underlying4 _), (trodAll_cons_mk (Below.trod laidOut (by kernel_rfl) (of_decide_eq_true (by kernel_rfl)) k0 bel lt0) (trodAll_cons_mk (Below.trod laidOut (by kernel_rfl) (of_decide_eq_true (by kernel_rfl)) k1 bel lt1) (trodAll_cons_mk (shut_int Try.underlying3 w2) trodAll_mk0))), rfl, bel.frame _, fun h => by cases h⟩

theorem over : Rows.sessBytesRow.holds Try.pinned (OpenSpec.ofChange Rows.sessBytesSpec) :=
  OpenClaim.holds_of_wide 4 Try.f4 rfl rfl rfl rfl rfl rfl rfl ⟨rfl, rfl, rfl, rfl, rfl⟩ rfl rfl rfl rfl rfl (by kernel_rfl) Try.func4 (by kernel_rfl)
    (of_decide_eq_true (by kernel_rfl)) (by unfold Func.isWrapper; first | (rw [if_pos (by decide +kernel)]; kernel_rfl) | (rw [if_neg (by decide +kernel)]; exact ⟨rfl, rfl⟩))
    (fun os started H enc _ => lifted os started H enc)

theorem proved : Rows.SessBytesSaid := over
end Go.Proofs.Ytckengglamkaaaa.sessBytes
