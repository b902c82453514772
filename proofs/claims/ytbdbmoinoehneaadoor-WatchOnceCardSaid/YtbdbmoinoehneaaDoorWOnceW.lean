/- WatchOnce: one watch. No condition on the input. -/
import Derived.Test.YtbdbmoinoehneaaDoorWPath
import Derived.Test.YtbdbmoinoehneaaDoorWOnceM
import Derived.Maps.AppendAt
import Derived.Lib.AppendZeros
import Derived.Deep.DeepCutAuto
namespace Go.Proofs.YtbdbmoinoehneaaDoor
open Go.RowKit Go.Maps Go.Shelf
set_option linter.unusedVariables false
set_option maxRecDepth 100000
theorem ERow.keepF {w w' : World} {base : Nat} {v : Value} {M : List Ev} (h : ERow w base v M) (hk : ∀ (b : Nat) (cs : Array Value) (t : TypeId), w.heap[b]? = some (.cells cs t (0, 0)) → v.ownBlock = some b → w'.heap[b]? = some (.cells cs t (0, 0))) : ERow w' base v M := by
  refine ⟨h.1, h.2.imp id ?_⟩
  rintro ⟨g, c, cur, h1, h3, h4, h5⟩
  exact ⟨g, c, cur, h1, h3, hk g _ _ h4 (by rw [h1]; rfl), h5⟩
theorem ERow.blk {w : World} {base : Nat} {v : Value} {M : List Ev} (h : ERow w base v M) {b : Nat} (hb : v.ownBlock = some b) : ∃ cs, w.heap[b]? = some (.cells cs 52 (0, 0)) := by
  rcases h.2 with ⟨h1, _⟩ | ⟨g, c, cur, h1, h3, h4, h5⟩
  · rw [h1] at hb; simp [Value.ownBlock] at hb
  · rw [h1] at hb; simp [Value.ownBlock] at hb; subst hb; exact ⟨_, h4⟩
theorem ERow.ptr {w : World} {base : Nat} {oa : Option Addr} {oc : Nat} {M : List Ev} (h : ERow w base (.slice oa M.length oc) M) (h0 : 0 < M.length) : ∃ g, oa = some ⟨g, 0, none⟩ := by
  rcases h.2 with ⟨h1, h2⟩ | ⟨g, c, cur, h1, h3, h4, h5⟩
  · omega
  · injection h1 with h1; exact ⟨g, h1⟩
/-- A row of events of one's own, apart from the book's. -/
structure Wnt (w : World) (lo bb : Nat) (vw ve v : Value) (M : List Ev) : Prop where
  row : ERow w lo v M
  apart : ∀ b, v.ownBlock = some b → b ≠ bb ∧ vw.ownBlock ≠ some b ∧ ve.ownBlock ≠ some b
theorem Wnt.low {w w' : World} {lo bb : Nat} {vw ve v : Value} {M : List Ev} (h : Wnt w lo bb vw ve v M) (hb : Below w.heap.size w w') : Wnt w' lo bb vw ve v M :=
  ⟨h.row.keepF fun b cs t h1 _ => (hb.block b (Array.getElem?_eq_some_iff.1 h1).1).trans h1, h.apart⟩
theorem Wnt.fire {w w' : World} {lo bb : Nat} {vw ve vw' ve' v : Value} {M : List Ev} (h : Wnt w lo bb vw ve v M) (hf : FK w w' bb vw ve vw' ve') : Wnt w' lo bb vw' ve' v M :=
  ⟨h.row.keepF fun b cs t h1 h2 => (hf b cs t h1 (h.apart b h2).1 (h.apart b h2).2.1 (h.apart b h2).2.2).1, fun b h2 => by
    obtain ⟨cs, h1⟩ := h.row.blk h2
    exact ⟨(h.apart b h2).1, (hf b cs _ h1 (h.apart b h2).1 (h.apart b h2).2.1 (h.apart b h2).2.2).2⟩⟩
theorem BkW.other {w w' : World} {base bb : Nat} {vw ve vm v : Value} {Ws : List Wa} {Es : List Ev} {k c : Nat} {N : Int → Option Int} (h : BkW w base bb vw ve vm Ws Es k c N) (hg : w.grownBy w' v.ownBlock) (ha : ∀ b, v.ownBlock = some b → b ≠ bb ∧ vw.ownBlock ≠ some b ∧ ve.ownBlock ≠ some b) (hc : ∀ b, v.ownBlock = some b → ∃ cs, w.heap[b]? = some (.cells cs 52 (0, 0))) : BkW w' base bb vw ve vm Ws Es k c N := by
  refine ⟨(hg.block bb h.lt (fun e => (ha bb e.symm).1 rfl)).trans h.box, World.ownsRow.kept h.ws hg ?_, World.ownsRow.kept h.es hg ?_, h.last.imp id ?_, h.lo.1, Nat.le_trans h.lo.2 hg.size⟩
  · cases e : vw.ownBlock with
    | none => exact .inl rfl
    | some g => right; intro e2; exact (ha g e2.symm).2.1 e
  · cases e : ve.ownBlock with
    | none => exact .inl rfl
    | some g => right; intro e2; exact (ha g e2.symm).2.2 e
  · rintro ⟨mb, h1, h2, h3⟩
    refine ⟨mb, h1, h2.keep0 (hg.block mb h2.lt (fun e => ?_)), h3⟩
    obtain ⟨cs, h4⟩ := hc mb e.symm
    obtain ⟨_, D, ⟨es, clock, h5, _⟩, _⟩ := h2
    rw [h5] at h4; cases h4
theorem eq_ev (y : Ev) (W : World) : (binOp .neq 52 (evV y) (evV y)).run Tryd.prog W = .ok (.bool false) W := by
  unfold evV
  simp [go_sem]
theorem i64_and3w (n : Int) : bits .and .i64 n 3 = n % 4 := by
  have h127 : (BitVec.ofInt 64 3).toNat = 2 ^ 2 - 1 := by decide
  have key : (BitVec.ofInt 64 n &&& BitVec.ofInt 64 3).toNat = (n % ((2 ^ 64 : Nat) : Int)).toNat % 2 ^ 2 := by
    rw [BitVec.toNat_and, BitVec.toNat_ofInt, h127, Nat.and_two_pow_sub_one_eq_mod]
  show IntKind.i64.wrap ((BitVec.ofInt 64 n &&& BitVec.ofInt 64 3).toNat : Nat) = n % 4
  rw [key, IntKind.wrap_i64]
  omega
theorem eq_dec (a b : ByteArray) : (a.toList == b.toList) = decide (b = a) := by
  by_cases h : a = b
  · subst h; simp
  · have h2 : ¬ b = a := fun e => h e.symm
    rw [decide_eq_false h2, Lib.toList_data, Lib.toList_data]
    have : ¬ a.data.toList = b.data.toList := fun e => h (by
      obtain ⟨⟨x⟩⟩ := a
      obtain ⟨⟨y⟩⟩ := b
      simp at e; rw [e])
    simpa using this
/-- The watch of WatchOnce. -/
def onceX (x : Ac) : Wa := ⟨3, mkP x.path, x.kids, x.once⟩
theorem onceX_add (x : Ac) (h : x.path.length ≤ 12) : addE [] (onceX x) = 0 ∧ addL [] (onceX x) = [onceX x] :=
  add_new (Ws := []) (x := onceX x) rfl (chk_mkP x.path h) rfl (by decide)
set_option maxHeartbeats 8000000 in
theorem once_walk (a : Option Addr) (cap : Nat) (qs : List Aq) (x : Ac) (pa : Option Addr) (pc : Nat) (w : World) (hA : Acts11 w (.slice a qs.length cap) qs) (hI : IntsR w (.slice pa x.path.length pc) x.path) :
    Calls Tryd.prog 4 #[.slice a qs.length cap, .agg #[.int .i64 x.k, .int .i64 x.ses, .int .i64 x.n, .slice pa x.path.length pc, .bool x.kids, .bool x.once]] w fun e w' => e = .returned (.bool true) ∧ Below w.heap.size w w' := by
  have HH := Lib.hid (fun W => head_any W)
  have HACTW := Lib.hid hA
  have bA := (Below.refl w.heap.size w).alloc (Nat.le_refl _) (.cells #[.int .i64 x.k, .int .i64 x.ses, .int .i64 x.n, .slice pa x.path.length pc, .bool x.kids, .bool x.once] 35)
  have NA := heap_alloc_new w (.cells #[.int .i64 x.k, .int .i64 x.ses, .int .i64 x.n, .slice pa x.path.length pc, .bool x.kids, .bool x.once] 35)
  obtain ⟨w1, hw1⟩ : ∃ w1, w1 = w.alloc (.cells #[.int .i64 x.k, .int .i64 x.ses, .int .i64 x.n, .slice pa x.path.length pc, .bool x.kids, .bool x.once] 35) := ⟨_, rfl⟩
  rw [← hw1] at bA NA
  have HW1 := Lib.hid hw1
  have HB1 := Lib.hid bA
  have HNA := Lib.hid NA
  have HACT := Lib.hid (hA.below bA)
  have HINT : Hid (IntsR w1 (.slice pa x.path.length pc) x.path) := Lib.hid ⟨hI.1.below bA, hI.2⟩
  obtain ⟨xb, hxb⟩ : ∃ xb, xb = w.heap.size := ⟨_, rfl⟩
  have HXB := Lib.hid hxb
  clear hw1 bA NA hA hI hxb
  go_enter Tryd.func4, Tryd.ntmps4
  go_upto_region 1 with fail
  rw [← HW1.out, ← HXB.out]
  go_wp2_with fail
  refine (HH.out _).mono ?_
  rintro e w2 ⟨rfl, b2⟩
  have HACT2 := Lib.hid (HACT.out.below b2)
  have HF := Lib.hid (few11_any a cap qs w2 HACT2.out)
  have N2 := (b2.block w.heap.size (Array.getElem?_eq_some_iff.1 HNA.out).1).trans HNA.out
  rw [← HXB.out] at N2
  have HN2 := Lib.hid N2
  have HI2 : Hid (IntsR w2 (.slice pa x.path.length pc) x.path) := Lib.hid ⟨HINT.out.1.below b2, HINT.out.2⟩
  have HB2 : Hid (Below w.heap.size w w2) := Lib.hid (HB1.out.trans (b2.mono HB1.out.size))
  clear N2 b2 HINT HACT HNA HB1
  go_wp2_with fail
  refine HF.out.mono ?_
  rintro e w3 ⟨rfl, b3⟩
  have N3 := (b3.block xb (Array.getElem?_eq_some_iff.1 HN2.out).1).trans HN2.out
  have HN3 := Lib.hid N3
  have HI3 : Hid (IntsR w3 (.slice pa x.path.length pc) x.path) := Lib.hid ⟨HI2.out.1.below b3, HI2.out.2⟩
  have HACT3 := Lib.hid (HACT2.out.below b3)
  have HB3 : Hid (Below w.heap.size w w3) := Lib.hid (HB2.out.trans (b3.mono HB2.out.size))
  have x3 : w3.cell? ⟨xb, 3, none⟩ = some (.slice pa x.path.length pc) := by simp [World.cell?, N3]
  have hxl : xb < w3.heap.size := (Array.getElem?_eq_some_iff.1 N3).1
  clear N3 b3 HF HI2 HACT2 HB2 HN2
  cases hfew : few11 qs with
  | false =>
    go_wp2_with fail
    go_ret
    exact ⟨rfl, HB3.out⟩
  | true =>
    have HFEW := Lib.hid hfew
    clear hfew
    by_cases h12 : x.path.length ≤ 12
    · have d12 : decide ((12 : Int) < (x.path.length : Int)) = false := by simp; omega
      have HN := Lib.hid (bnew_any w3)
      go_wp2_with fail
      refine HN.out.mono ?_
      rintro e w4 ⟨rfl, hk4, b4⟩
      obtain ⟨bb, hbb⟩ : ∃ bb, bb = w3.heap.size := ⟨_, rfl⟩
      have hbase : w.heap.size ≤ bb := by rw [hbb]; exact HB3.out.size
      rw [← hbb] at hk4 ⊢
      have N4 := (b4.block xb hxl).trans HN3.out
      have hne : xb ≠ bb := by omega
      have HN4 := Lib.hid N4
      have HK4 := Lib.hid hk4
      have HACT4 := Lib.hid (HACT3.out.below b4)
      have HB4 : Hid (Below w.heap.size w w4) := Lib.hid (HB3.out.trans (b4.mono HB3.out.size))
      have hxl4 : xb < w4.heap.size := (Array.getElem?_eq_some_iff.1 N4).1
      have HMD := made_any (.slice pa x.path.length pc) x.path w4 (HI3.out.1.below b4) (by omega) HI3.out.2
      rw [show bs (madeL (wsOf x.path)) = mkP x.path from rfl] at HMD
      have HMD' := Lib.hid HMD
      have y3 : w4.cell? ⟨xb, 3, none⟩ = some (.slice pa x.path.length pc) := by simp [World.cell?, N4]
      clear x3 hxl HN hbb N4 hk4 b4 HMD HN3 HB3 HACT3 HI3
      go_wp2_with fail
      refine HMD'.out.mono ?_
      rintro e w5 ⟨rfl, b5⟩
      have N5 := (b5.block xb hxl4).trans HN4.out
      have hxl5 : xb < w5.heap.size := (Array.getElem?_eq_some_iff.1 N5).1
      have z4 : w5.cell? ⟨xb, 4, none⟩ = some (.bool x.kids) := by simp [World.cell?, N5]
      have z5 : w5.cell? ⟨xb, 5, none⟩ = some (.bool x.once) := by simp [World.cell?, N5]
      have ha := add_any bb bb _ _ _ [] [] 0 0 _ (onceX x) w5 (HK4.out.below b5) (mono_nil _) (by decide)
      rw [(onceX_add x h12).1, (onceX_add x h12).2] at ha
      have HA := Lib.hid ha
      have HN5 := Lib.hid N5
      have HACT5 := Lib.hid (HACT4.out.below b5)
      have HB5 : Hid (Below w.heap.size w w5) := Lib.hid (HB4.out.trans (b5.mono HB4.out.size))
      clear y3 hxl4 HMD' N5 ha b5 HN4 HACT4 HK4 HB4
      go_wp2_with fail
      refine HA.out.mono ?_
      rintro e w6 ⟨rfl, v6, hk6, b6, hkp6⟩
      have N6 := (hkp6 xb hxl5 (by simp [Value.ownBlock]) hne).trans HN5.out
      have HN6 := Lib.hid N6
      have HK6 := Lib.hid hk6
      have HB6 : Hid (Below w.heap.size w w6) := Lib.hid (HB5.out.trans (b6.mono hbase))
      clear z4 z5 hxl5 HA HN5 N6 hk6
      go_upto_region 10 with fail
      have bW := (Below.refl _ w6).alloc (Nat.le_refl _) (.cells #[] 52)
      have RW : ERow (w6.alloc (.cells #[] 52)) w.heap.size (.slice (some ⟨w6.heap.size, 0, none⟩) 0 0) [] := World.ownsRow_made w6 #[] 0 HB6.out.size (Nat.zero_le _) rfl
      have HWN : Hid (Wnt (w6.alloc (.cells #[] 52)) w.heap.size bb v6 (.slice none 0 0) (.slice (some ⟨w6.heap.size, 0, none⟩) 0 0) []) := Lib.hid ⟨RW, fun b hb => by
        simp [Value.ownBlock] at hb
        subst hb
        refine ⟨by have := HK6.out.lt; omega, fun e => ?_, by simp [Value.ownBlock]⟩
        obtain ⟨c1, q, _⟩ := row_own HK6.out.ws e
        have := (Array.getElem?_eq_some_iff.1 q).1; omega⟩
      have HK7 := Lib.hid (HK6.out.below bW)
      have N7 := Lib.hid ((bW.block xb (Array.getElem?_eq_some_iff.1 HN6.out).1).trans HN6.out)
      have HB7 : Hid (Below w.heap.size w (w6.alloc (.cells #[] 52))) := Lib.hid (HB6.out.trans (bW.mono HB6.out.size))
      obtain ⟨w7, hw7⟩ : ∃ w7, w7 = w6.alloc (.cells #[] 52) := ⟨_, rfl⟩
      rw [← hw7] at HWN HK7 N7 HB7 ⊢
      have hq60 : qs.length ≤ 60 := by
        by_cases h0 : 0 < qs.length
        · exact (few11_at HFEW.out h0).2
        · omega
      obtain ⟨X, hX⟩ : ∃ X, X = onceX x := ⟨_, rfl⟩
      have hxw : xb < bb := by have := HXB.out; omega
      have hXs : X.ses = 3 := by rw [hX]; rfl
      have hXp : X.path = mkP x.path := by rw [hX]; rfl
      have hXk : X.kids = x.kids := by rw [hX]; rfl
      have hXo : X.once = x.once := by rw [hX]; rfl
      rw [← hX] at HK7
      have HK7' : Hid (BkW w7 bb bb v6 (.slice none 0 0) (.map none) (onceW X []) [] 0 0 (fun _ => none)) := Lib.hid (by have := HK7.out; simpa [onceW] using this)
      clear bW RW hw7 HK6 HN6 HB6 HK7 HACT5 HB5 hX
      go_wp2_with fail
      go_loopw [7, 44] (fun wv iv wr => ∃ (j k c : Nat) (M : List Ev) (vw ve vm : Value) (N : Int → Option Int), j ≤ qs.length ∧ iv = .int .i64 j ∧ M.length ≤ j ∧ k ≤ j ∧ (∃ a c, wv = .slice a M.length c) ∧ Hid (BkW wr bb bb vw ve vm (onceW X M) M k c N) ∧ Hid ((N X.ses).getD 0 = (M.length : Int)) ∧ Hid (Wnt wr w.heap.size bb vw ve wv M) ∧ Hid (∀ y ∈ M, y.ses = 3) ∧ Hid (wr.heap[xb]? = some (.cells #[.int .i64 x.k, .int .i64 x.ses, .int .i64 x.n, .slice pa x.path.length pc, .bool x.kids, .bool x.once] 35 (0, 0))) ∧ Hid (Below w.heap.size w wr)) (fun _ iv _ => qs.length - (intOf iv).toNat)
      case atStart => exact ⟨0, 0, 0, [], _, _, _, _, by omega, rfl, by simp, by omega, ⟨_, _, rfl⟩, HK7', Lib.hid rfl, HWN, Lib.hid (fun y hy => by cases hy), N7, HB7⟩
      case round =>
        obtain ⟨j, k, c, M, vw, ve, vm, N, hj, rfl, hM, hk, ⟨oa, oc, rfl⟩, HK, HN, HW, HS3, HXB, HB⟩ := hrel
        clear HK7' HWN N7 HB7
        by_cases hlt : j < qs.length
        · have hlt2 : decide ((j : Int) < (qs.length : Int)) = true := by simp; omega
          obtain ⟨hok, hpv, ga, off, rfl, h0, h1, h2, h3, h4, h5⟩ := act11_at HACTW.out HB.out hlt
          have hf12 := (few11_at HFEW.out hlt).1
          have HPV := Lib.hid hpv
          have t2 : IntKind.i64.wrap ((j : Int) + 1) = (j : Int) + 1 := IntWalk.i64_in _ (by omega)
          have hj0 : (0 : Int) ≤ (j : Int) := by omega
          have hji : (j : Int) < (qs.length : Int) := by omega
          clear hok
          generalize qs.getD j aq0 = y at *
          obtain ⟨fa, fcap, hfv, _, hfm, _⟩ := hpv.1
          obtain ⟨⟨ak, ase, an, ap, aki, aon⟩, pv⟩ := y
          simp only at *
          subst hfv
          clear hpv hfm
          obtain ⟨m, hm4, hm⟩ : ∃ m : Nat, m < 4 ∧ bits .and .i64 an 3 = (m : Int) := ⟨(an % 4).toNat, by omega, by rw [i64_and3w]; omega⟩
          obtain ⟨wt, hwt, hwt2⟩ : ∃ wt : Int, wt = 1 + (m : Int) % 3 ∧ 1 ≤ wt ∧ wt ≤ 3 := ⟨_, rfl, by omega, by omega⟩
          have bA := (Below.refl _ wr).alloc (Nat.le_refl _) (.cells #[.int .i64 ak, .int .i64 ase, .int .i64 an, .slice fa ap.length fcap, .bool aki, .bool aon] 35)
          have N8 := heap_alloc_new wr (.cells #[.int .i64 ak, .int .i64 ase, .int .i64 an, .slice fa ap.length fcap, .bool aki, .bool aon] 35)
          go_upto_region 13 with fail
          obtain ⟨w8, hw8⟩ : ∃ w8, w8 = wr.alloc (.cells #[.int .i64 ak, .int .i64 ase, .int .i64 an, .slice fa ap.length fcap, .bool aki, .bool aon] 35) := ⟨_, rfl⟩
          rw [← hw8] at bA N8 ⊢
          have c2 : w8.cell? ⟨wr.heap.size, 2, none⟩ = some (.int .i64 an) := by simp [World.cell?, N8]
          have c3 : w8.cell? ⟨wr.heap.size, 3, none⟩ = some (.slice fa ap.length fcap) := by simp [World.cell?, N8]
          have hmd := made_any (.slice fa ap.length fcap) ap w8 (HPV.out.1.below bA) (by omega) HPV.out.2
          rw [show bs (madeL (wsOf ap)) = mkP ap from rfl] at hmd
          have HMD := Lib.hid hmd
          have HK8 := Lib.hid (HK.out.below bA)
          have HW8 := Lib.hid (HW.out.low bA)
          have HX8 := Lib.hid ((bA.block xb (Array.getElem?_eq_some_iff.1 HXB.out).1).trans HXB.out)
          have HB8 : Hid (Below w.heap.size w w8) := Lib.hid (HB.out.trans (bA.mono HB.out.size))
          clear hw8 h0 h1 h2 h3 h4 h5 N8 hmd HK HW HXB HB bA HPV
          go_upto_region 15 with fail
          refine HMD.out.mono ?_
          rintro e w9 ⟨rfl, b9⟩
          have HK9 := Lib.hid (HK8.out.below b9)
          have HW9 := Lib.hid (HW8.out.low b9)
          have HX9 := Lib.hid ((b9.block xb (Array.getElem?_eq_some_iff.1 HX8.out).1).trans HX8.out)
          have HB9 : Hid (Below w.heap.size w w9) := Lib.hid (HB8.out.trans (b9.mono HB8.out.size))
          rw [← hwt]
          obtain ⟨up, la, hup⟩ := up_mkP ap hf12
          have HUP := Lib.hid hup
          have hol : (onceW X M).length ≤ 1 := by unfold onceW; split <;> simp
          have hfi := fire_full bb bb vw ve vm (onceW X M) M k c N (mkP ap) up la wt ((j : Int) + 1) w9 HK9.out hup (fun y hy => by
            have : y = X := by
              unfold onceW at hy
              split at hy
              · cases hy
              · simpa using hy
            rw [this, hXs]; unfold InR; omega) (by omega) (by omega) (by omega)
          have hS := once_S (s := mkP ap) (up := up) (what := wt) (when := (j : Int) + 1) (x := X) (L := M) HN.out (by omega)
          rw [once_W, hS.1] at hfi
          have HFI := Lib.hid hfi
          have HN2 := Lib.hid hS.2
          have hlen2 := onceL_len (s := mkP ap) (up := up) (what := wt) (when := (j : Int) + 1) (x := X) (L := M)
          obtain ⟨tk, htk⟩ : ∃ tk, tk = trigK (mkP ap) up wt X := ⟨_, rfl⟩
          have htb : trigB (mkP ap) up wt X = (tk != 0) := by
            rw [htk]; unfold trigB trigK
            cases (decide (X.path = mkP ap) && (!X.kids || (wt == 2))) <;> cases (decide (X.path = up) && X.kids && !(wt == 3)) <;> simp <;> omega
          obtain ⟨M2, hM2⟩ : ∃ M2, M2 = onceL (mkP ap) up wt ((j : Int) + 1) X M := ⟨_, rfl⟩
          rw [← hM2] at HFI HN2 hlen2
          have HM2 := Lib.hid hM2
          clear hfi hS hup hM2 HK8 HW8 HX8 HB8 b9 hm hwt c2 c3 HMD HK9 HN
          go_wp2_with fail
          refine HFI.out.mono ?_
          rintro e w10 ⟨rfl, vw2, ve2, vm2, k2, c2, hk2, hkk, hb2, hfk⟩
          have HK10 := Lib.hid hk2
          have HW10 := Lib.hid (HW9.out.fire hfk)
          have HX10 := Lib.hid ((hb2.block xb hxw).trans HX9.out)
          have HB10 : Hid (Below w.heap.size w w10) := Lib.hid (HB9.out.trans (hb2.mono hbase))
          clear hk2 hb2 hfk HW9 HX9 HB9 HFI
          go_wp2_with fail
          refine (HUP.out _).mono ?_
          rintro e w11 ⟨rfl, nd, hw11⟩
          have b11 : Below w10.heap.size w10 w11 := by rw [hw11]; exact below_drewN (Below.refl _ w10) nd
          have HK11 := Lib.hid (HK10.out.below b11)
          have HW11 := Lib.hid (HW10.out.low b11)
          have HX11 := Lib.hid ((b11.block xb (Array.getElem?_eq_some_iff.1 HX10.out).1).trans HX10.out)
          have HB11 : Hid (Below w.heap.size w w11) := Lib.hid (HB10.out.trans (b11.mono HB10.out.size))
          have x4 : w11.cell? ⟨xb, 4, none⟩ = some (.bool x.kids) := by simp [World.cell?, HX11.out]
          have x5 : w11.cell? ⟨xb, 5, none⟩ = some (.bool x.once) := by simp [World.cell?, HX11.out]
          clear hw11 b11 HK10 HW10 HX10 HB10 HUP
          go_upto_region 17 with fail
          go_cut [14] (fun v wx => v = .int .i64 0 ∧ wx = w11)
          case first =>
            go_wp2_with fail
            go_meet
            exact ⟨rfl, rfl⟩
          case rest =>
            obtain ⟨rfl, hwc⟩ := hcut
            obtain rfl := hwc.symm
            rename_i K9 a9
            refine a9 _ _ ?_
            refine wp_seq_k (fun K8 a8 => ?_)
            go_cut [14] (fun v wx => v = .int .i64 tk ∧ wx = w11)
            case first =>
              obtain ⟨q1, hq1⟩ : ∃ q1, q1 = decide (X.path = mkP ap) := ⟨_, rfl⟩
              obtain ⟨q2, hq2⟩ : ∃ q2, q2 = decide (X.path = up) := ⟨_, rfl⟩
              have e1 : ((mkP ap).toList == (mkP x.path).toList) = q1 := by rw [hq1, hXp]; exact eq_dec _ _
              have e2 : (up.toList == (mkP x.path).toList) = q2 := by rw [hq2, hXp]; exact eq_dec _ _
              have HT : Hid (tk = if (q1 && (!x.kids || (wt == 2))) = true then wt else if (q2 && x.kids && !(wt == 3)) = true then 4 else 0) := Lib.hid (by rw [htk]; unfold trigK; rw [← hq1, ← hq2, hXk])
              obtain ⟨ki, hki⟩ : ∃ ki, ki = x.kids := ⟨_, rfl⟩
              rw [← hki] at x4 HT
              have hw3 : wt = 1 ∨ wt = 2 ∨ wt = 3 := by omega
              clear hq1 hq2 htk htb hwt2 HM2 hlen2 HN2 HS3 hXp hXk hXs hXo x5 HK11 HW11 HX11 HB11 hki
              rcases hw3 with rfl | rfl | rfl <;> cases q1 <;> cases ki <;> cases q2 <;> (go_wp2_with fail; go_meet; exact ⟨by rw [HT.out]; rfl, rfl⟩)
            case rest =>
              obtain ⟨rfl, hwc⟩ := hcut
              obtain rfl := hwc.symm
              have t5 : IntKind.i64.wrap ((M.length : Int) + 1) = (M.length : Int) + 1 := IntWalk.i64_in _ (by omega)
              have hon : M2 = onceL (mkP ap) up wt ((j : Int) + 1) X M := HM2.out
              unfold onceL at hon
              rw [htb, hXo, hXs, hXp, ← htk] at hon
              obtain ⟨tb, htb2⟩ : ∃ tb, tb = (tk != 0) := ⟨_, rfl⟩
              rw [← htb2] at hon
              have e5 : (tk != 0) = tb := htb2.symm
              obtain ⟨so, hso⟩ : ∃ so, so = x.once := ⟨_, rfl⟩
              rw [← hso] at x5 hon
              have hsame : M2 = M → Hid (BkW w11 bb bb vw2 ve2 vm2 (onceW X M) M k2 c2 (fireS (mkP ap) up wt ((j : Int) + 1) (onceW X M) (M, N)).2) ∧ Hid (((fireS (mkP ap) up wt ((j : Int) + 1) (onceW X M) (M, N)).2 X.ses).getD 0 = (M.length : Int)) := fun h => by
                rw [h] at HK11 HN2; exact ⟨HK11, HN2⟩
              clear htb htb2 htk hwt2 HM2 hso
              cases tb with
              | false =>
                have h9 : M2 = M := hon.trans (if_neg (by simp only [Bool.false_and]; decide))
                obtain ⟨HKa, HNa⟩ := hsame h9
                clear hon hsame h9
                go_wp2_with fail
                go_roundw
                case rel => exact ⟨j + 1, k2, c2, M, vw2, ve2, vm2, _, by omega, by go_num, by omega, by omega, ⟨_, _, rfl⟩, HKa, HNa, HW11, HS3, HX11, HB11⟩
                case measure => simp [intOf]; omega
              | true =>
                by_cases hap9 : so = false ∨ M.length = 0
                · have h9 : M2 = M ++ [(⟨3, (M.length : Int) + 1, mkP x.path, tk, (j : Int) + 1⟩ : Ev)] := hon.trans (if_pos (by
                    rcases hap9 with h | h
                    · rw [h]; rfl
                    · rw [List.eq_nil_of_length_eq_zero h]; cases so <;> rfl))
                  obtain ⟨i1, hi1, hz1, hz2, hz3⟩ := info_parts info_ev
                  obtain ⟨ev, hev⟩ : ∃ ev : Ev, ev = ⟨3, (M.length : Int) + 1, mkP x.path, tk, (j : Int) + 1⟩ := ⟨_, rfl⟩
                  rw [← hev] at h9
                  have bE := (Below.refl _ w11).alloc (Nat.le_refl _) (.cells #[.int .i64 ev.ses, .int .i64 ev.no, .string ev.path, .int .i64 ev.what, .int .i64 ev.when] 52)
                  have NE := heap_alloc_new w11 (.cells #[.int .i64 ev.ses, .int .i64 ev.no, .string ev.path, .int .i64 ev.what, .int .i64 ev.when] 52)
                  obtain ⟨w12, hw12⟩ : ∃ w12, w12 = w11.alloc (.cells #[.int .i64 ev.ses, .int .i64 ev.no, .string ev.path, .int .i64 ev.what, .int .i64 ev.when] 52) := ⟨_, rfl⟩
                  rw [← hw12] at bE NE
                  have hWn := HW11.out.low bE
                  have hK12 := HK11.out.below bE
                  have hlt12 : w11.heap.size < w12.heap.size := (Array.getElem?_eq_some_iff.1 NE).1
                  obtain ⟨v8, w13, hr13, hown, hgrow, _, hat⟩ := run_append_own_at (P := Tryd.prog) w12 w.heap.size 29 29 52 i1 _ 5 48 und_evs hi1 hz1 hz2 hz3 rfl (by decide) (.slice oa M.length oc) M.length (cellsK evOne M) hWn.row ⟨w11.heap.size, 0, none⟩ 1 1 (evOne ev) rfl (fun q u hu => ev_cells ev _ w12 NE q u hu) (evOne_one ev) (by unfold maxLen; omega) (by omega) (Nat.le_trans HB11.out.size bE.size)
                  have hRow : ERow w13 w.heap.size v8 M2 := by
                    rw [h9]; unfold ERow
                    rw [cellsK_append, List.length_append]
                    simpa [cellsK] using hown
                  have hap : ∀ b, (Value.slice oa M.length oc).ownBlock = some b → b ≠ bb ∧ vw2.ownBlock ≠ some b ∧ ve2.ownBlock ≠ some b := hWn.apart
                  have hK13 : BkW w13 bb bb vw2 ve2 vm2 (onceW X M2) M2 k2 c2 (fireS (mkP ap) up wt ((j : Int) + 1) (onceW X M) (M, N)).2 := hK12.other hgrow (fun b hb => ⟨(hap b hb).1, (hap b hb).2⟩) (fun b hb => hWn.row.blk hb)
                  have hWn13 : Wnt w13 w.heap.size bb vw2 ve2 v8 M2 := ⟨hRow, fun b hb => by
                    rcases hat with h | h
                    · exact hap b (by rw [← h]; exact hb)
                    · rw [h] at hb
                      have hb' := Option.some.inj hb
                      refine ⟨by have := hK12.lt; omega, fun e => ?_, fun e => ?_⟩
                      · obtain ⟨c1, q, _⟩ := row_own hK12.ws e
                        have := (Array.getElem?_eq_some_iff.1 q).1; omega
                      · obtain ⟨c1, q, _⟩ := row_own hK12.es e
                        have := (Array.getElem?_eq_some_iff.1 q).1; omega⟩
                  have hXB13 := (hgrow.block xb (by have := (Array.getElem?_eq_some_iff.1 HX11.out).1; omega) (fun e => by
                    obtain ⟨cs, h1⟩ := hWn.row.blk e.symm
                    have h2 := (bE.block xb (Array.getElem?_eq_some_iff.1 HX11.out).1).trans HX11.out
                    rw [h1] at h2
                    injection h2 with h2
                    injection h2 with _ h3
                    exact absurd h3 (by decide))).trans ((bE.block xb (Array.getElem?_eq_some_iff.1 HX11.out).1).trans HX11.out)
                  have hB13 : Below w.heap.size w w13 := (HB11.out.trans (bE.mono HB11.out.size)).grown hgrow (Nat.le_trans HB11.out.size bE.size) (fun q hq => (World.ownsRow.lt hWn.row q hq).1)
                  have HR13 := Lib.hid hr13
                  have HK13 := Lib.hid hK13
                  have HW13 := Lib.hid hWn13
                  have HX13 := Lib.hid hXB13
                  have HB13 := Lib.hid hB13
                  have HW12 := Lib.hid hw12
                  have HS13 : Hid (∀ y ∈ M2, y.ses = 3) := Lib.hid (fun y hy => by
                    rw [h9] at hy
                    rcases List.mem_append.1 hy with h | h
                    · exact HS3.out y h
                    · rw [List.mem_singleton.1 h, hev])
                  have hml : M2.length = M.length + 1 := by rw [h9]; simp
                  have hv8 : ∃ a c, v8 = .slice a M2.length c := by
                    rcases hRow.2 with ⟨h1, h2⟩ | ⟨g, c, cur, h1, _⟩
                    · exact ⟨none, 0, by rw [h1, h2]⟩
                    · exact ⟨_, _, h1⟩
                  obtain ⟨a8, c8, hv8⟩ := hv8
                  have HV8 := Lib.hid hv8
                  have HML := Lib.hid hml
                  rw [hev] at HW12
                  simp only at HW12
                  have e6 : ∀ b : Bool, so = b → (b = true → ((M.length : Int) == 0) = true) := fun b h hb => by
                    rcases hap9 with h2 | h2
                    · rw [h2] at h; rw [← h] at hb; cases hb
                    · rw [h2]; rfl
                  clear hon hsame hr13 hK13 hWn13 hXB13 hB13 hw12 hown hgrow hat hRow hap hWn hK12 hlt12 bE NE hap9 h9 hev hml HK11 HW11 HX11 HB11 HS3
                  cases so with
                  | false =>
                    go_wp2_with (at_builtin; rw [← HW12.out]; refine Lib.wpList_append_run _ rfl _ _ _ _ rfl _ _ rfl rfl _ _ HR13.out ?_; go_frame)
                    rw [HV8.out]
                    go_roundw
                    case rel => exact ⟨j + 1, k2, c2, M2, vw2, ve2, vm2, _, by omega, by go_num, by have := HML.out; omega, by omega, ⟨_, _, rfl⟩, HK13, HN2, by rw [HV8.out] at HW13; exact HW13, HS13, HX13, HB13⟩
                    case measure => simp [intOf]; omega
                  | true =>
                    have e7 := e6 true rfl rfl
                    clear e6
                    go_wp2_with (at_builtin; rw [← HW12.out]; refine Lib.wpList_append_run _ rfl _ _ _ _ rfl _ _ rfl rfl _ _ HR13.out ?_; go_frame)
                    rw [HV8.out]
                    go_roundw
                    case rel => exact ⟨j + 1, k2, c2, M2, vw2, ve2, vm2, _, by omega, by go_num, by have := HML.out; omega, by omega, ⟨_, _, rfl⟩, HK13, HN2, by rw [HV8.out] at HW13; exact HW13, HS13, HX13, HB13⟩
                    case measure => simp [intOf]; omega
                · have hso : so = true := by cases so; exact absurd (.inl rfl) hap9; rfl
                  have hm0 : M.length ≠ 0 := fun h => hap9 (.inr h)
                  subst hso
                  have h9 : M2 = M := hon.trans (if_neg (by
                    cases M with
                    | nil => exact absurd rfl hm0
                    | cons a l => simp))
                  obtain ⟨HKa, HNa⟩ := hsame h9
                  have e6 : ((M.length : Int) == 0) = false := by simpa using hm0
                  clear hon hsame h9 hap9
                  go_wp2_with fail
                  go_roundw
                  case rel => exact ⟨j + 1, k2, c2, M, vw2, ve2, vm2, _, by omega, by go_num, by omega, by omega, ⟨_, _, rfl⟩, HKa, HNa, HW11, HS3, HX11, HB11⟩
                  case measure => simp [intOf]; omega
        · have hlt2 : decide ((j : Int) < (qs.length : Int)) = false := by simp; omega
          have x5 : wr.cell? ⟨xb, 5, none⟩ = some (.bool x.once) := by simp [World.cell?, HXB.out]
          have hol : (onceW X M).length ≤ 1 := by unfold onceW; split <;> simp
          have hev := events_any bb bb vw ve vm (onceW X M) M k c N 3 wr HK.out (by omega)
          rw [show (M.filter fun y => y.ses == 3) = M from List.filter_eq_self.2 (fun y hy => by rw [HS3.out y hy]; rfl)] at hev
          have HE := Lib.hid hev
          clear hev
          go_wp2_with fail
          refine HE.out.mono ?_
          rintro e w8 ⟨v8, rfl, hr8, b8⟩
          obtain ⟨ea, ec, rfl, hea, _⟩ := evV_form hr8
          have HEA := Lib.hid hea
          have HR8 := Lib.hid hr8
          have HK8 := Lib.hid (HK.out.below b8)
          have HW8 := Lib.hid (HW.out.low b8)
          have x58 : w8.cell? ⟨xb, 5, none⟩ = some (.bool x.once) := (b8.cell (p := ⟨xb, 5, none⟩) (Array.getElem?_eq_some_iff.1 HXB.out).1).trans x5
          have HB8 : Hid (Below w.heap.size w w8) := Lib.hid (HB.out.trans (b8.mono HB.out.size))
          have HWT := Lib.hid (watches_any bb bb vw ve vm (onceW X M) M k c N w8 HK8.out (by omega))
          obtain ⟨so, hso⟩ : ∃ so, so = x.once := ⟨_, rfl⟩
          rw [← hso] at x58
          rw [← hso] at hXo
          obtain ⟨eb, heb⟩ : ∃ eb, eb = wr.heap.size := ⟨_, rfl⟩
          rw [← heb] at HR8
          clear hea hr8 b8 HE HK HW HXB HB hXp hXk hXs hlt x5 HN HS3 hso heb
          have main : ∀ W : World, Below w8.heap.size w8 W → Hid (ERow W eb (.slice ea M.length ec) M) ∧ Hid (Wnt W w.heap.size bb vw ve (.slice oa M.length oc) M) ∧ Hid (Below w.heap.size w W) := fun W hW => ⟨Lib.hid (HR8.out.keepF fun b cs t h1 _ => (hW.block b (Array.getElem?_eq_some_iff.1 h1).1).trans h1), Lib.hid (HW8.out.low hW), Lib.hid (HB8.out.trans (hW.mono HB8.out.size))⟩
          cases so with
          | false =>
            obtain ⟨HR9, HW9, HB9⟩ := main w8 (Below.refl _ _)
            clear main HWT HK8 HR8 HW8 HB8
            go_wp2_with fail
            go_loopw [141] (fun iv wx => ∃ i : Nat, i ≤ M.length ∧ iv = .int .i64 i ∧ Hid (ERow wx eb (.slice ea M.length ec) M) ∧ Hid (Wnt wx w.heap.size bb vw ve (.slice oa M.length oc) M) ∧ Hid (Below w.heap.size w wx)) (fun iv _ => M.length - (intOf iv).toNat)
            case atStart => exact ⟨0, by omega, rfl, HR9, HW9, HB9⟩
            case round =>
              obtain ⟨i, hi, rfl, HR2, HW2, HB2⟩ := hrel
              clear HR9 HW9 HB9
              by_cases hlk : i < M.length
              · have hlk2 : decide ((i : Int) < (M.length : Int)) = true := by simp; omega
                have t3 : IntKind.i64.wrap ((i : Int) + 1) = (i : Int) + 1 := IntWalk.i64_in _ (by omega)
                have hi0 : (0 : Int) ≤ (i : Int) := by omega
                have hii : (i : Int) < (M.length : Int) := by omega
                obtain ⟨y, hy⟩ : ∃ y, M[i]? = some y := ⟨M[i], by simp [hlk]⟩
                obtain ⟨ge, rfl, _, _⟩ := HEA.out (by omega)
                obtain ⟨gw, rfl⟩ := ERow.ptr HW2.out.row (by omega)
                have a0 := evC0 HR2.out hy rfl
                have a1 := evC1 HR2.out hy rfl
                have a2 := evC2 HR2.out hy rfl
                have a3 := evC3 HR2.out hy rfl
                have a4 := evC4 HR2.out hy rfl
                have d0 := evC0 HW2.out.row hy rfl
                have d1 := evC1 HW2.out.row hy rfl
                have d2 := evC2 HW2.out.row hy rfl
                have d3 := evC3 HW2.out.row hy rfl
                have d4 := evC4 HW2.out.row hy rfl
                have heq : ∀ W : World, (binOp .neq 52 (.agg #[.int .i64 y.ses, .int .i64 y.no, .string y.path, .int .i64 y.what, .int .i64 y.when]) (.agg #[.int .i64 y.ses, .int .i64 y.no, .string y.path, .int .i64 y.what, .int .i64 y.when])).run Tryd.prog W = .ok (.bool false) W := eq_ev y
                clear hy
                go_upto_region 31 with fail
                go_quiet (fail)
                have b9 : Below wr.heap.size wr (wr.drewN nq) := below_drewN (Below.refl _ wr) nq
                have HR5 := Lib.hid (HR2.out.keepF fun b cs t h1 _ => (b9.block b (Array.getElem?_eq_some_iff.1 h1).1).trans h1)
                have HW5 := Lib.hid (HW2.out.low b9)
                have HB5 : Hid (Below w.heap.size w (wr.drewN nq)) := Lib.hid (HB2.out.trans (b9.mono HB2.out.size))
                obtain ⟨w9, hw9⟩ : ∃ w9, w9 = wr.drewN nq := ⟨_, rfl⟩
                rw [← hw9] at HR5 HW5 HB5 ⊢
                clear hw9 b9 heq a0 a1 a2 a3 a4 d0 d1 d2 d3 d4 HR2 HW2 HB2
                go_wp2_with fail
                go_roundw
                case rel => exact ⟨i + 1, by omega, by go_num, HR5, HW5, HB5⟩
                case measure => simp [intOf]; omega
              · have hlk2 : decide ((i : Int) < (M.length : Int)) = false := by simp; omega
                go_wp2_with fail
                go_ret
                exact ⟨rfl, HB2.out⟩
          | true =>
            have hcs : (M.length = 0 ∧ (onceW X M).length = 1) ∨ (M.length ≠ 0 ∧ (onceW X M).length = 0) := by
              unfold onceW
              rw [hXo]
              cases M with
              | nil => exact .inl ⟨rfl, rfl⟩
              | cons a l => exact .inr ⟨by simp, rfl⟩
            rcases hcs with ⟨hm, hw⟩ | ⟨hm, hw⟩
            · have HWL : Hid (1 = (onceW X M).length) := Lib.hid hw.symm
              have d0 : decide (0 < M.length) = false := decide_eq_false (by omega)
              clear hw hm
              go_wp2_with fail
              refine HWT.out.mono ?_
              rintro e w9 ⟨v9, rfl, hr9, b9⟩
              obtain ⟨wa, wc, hv9, _, _⟩ := waV_form hr9
              rw [← HWL.out] at hv9
              subst hv9
              obtain ⟨HR9, HW9, HB9⟩ := main w9 b9
              clear main HWT HK8 HR8 HW8 HB8 hr9 HWL b9
              go_wp2_with fail
              go_loopw [141] (fun iv wx => ∃ i : Nat, i ≤ M.length ∧ iv = .int .i64 i ∧ Hid (ERow wx eb (.slice ea M.length ec) M) ∧ Hid (Wnt wx w.heap.size bb vw ve (.slice oa M.length oc) M) ∧ Hid (Below w.heap.size w wx)) (fun iv _ => M.length - (intOf iv).toNat)
              case atStart => exact ⟨0, by omega, rfl, HR9, HW9, HB9⟩
              case round =>
                obtain ⟨i, hi, rfl, HR2, HW2, HB2⟩ := hrel
                clear HR9 HW9 HB9
                by_cases hlk : i < M.length
                · have hlk2 : decide ((i : Int) < (M.length : Int)) = true := by simp; omega
                  have t3 : IntKind.i64.wrap ((i : Int) + 1) = (i : Int) + 1 := IntWalk.i64_in _ (by omega)
                  have hi0 : (0 : Int) ≤ (i : Int) := by omega
                  have hii : (i : Int) < (M.length : Int) := by omega
                  obtain ⟨y, hy⟩ : ∃ y, M[i]? = some y := ⟨M[i], by simp [hlk]⟩
                  obtain ⟨ge, rfl, _, _⟩ := HEA.out (by omega)
                  obtain ⟨gw, rfl⟩ := ERow.ptr HW2.out.row (by omega)
                  have a0 := evC0 HR2.out hy rfl
                  have a1 := evC1 HR2.out hy rfl
                  have a2 := evC2 HR2.out hy rfl
                  have a3 := evC3 HR2.out hy rfl
                  have a4 := evC4 HR2.out hy rfl
                  have d0 := evC0 HW2.out.row hy rfl
                  have d1 := evC1 HW2.out.row hy rfl
                  have d2 := evC2 HW2.out.row hy rfl
                  have d3 := evC3 HW2.out.row hy rfl
                  have d4 := evC4 HW2.out.row hy rfl
                  have heq : ∀ W : World, (binOp .neq 52 (.agg #[.int .i64 y.ses, .int .i64 y.no, .string y.path, .int .i64 y.what, .int .i64 y.when]) (.agg #[.int .i64 y.ses, .int .i64 y.no, .string y.path, .int .i64 y.what, .int .i64 y.when])).run Tryd.prog W = .ok (.bool false) W := eq_ev y
                  clear hy
                  go_upto_region 31 with fail
                  go_quiet (fail)
                  have b9 : Below wr.heap.size wr (wr.drewN nq) := below_drewN (Below.refl _ wr) nq
                  have HR5 := Lib.hid (HR2.out.keepF fun b cs t h1 _ => (b9.block b (Array.getElem?_eq_some_iff.1 h1).1).trans h1)
                  have HW5 := Lib.hid (HW2.out.low b9)
                  have HB5 : Hid (Below w.heap.size w (wr.drewN nq)) := Lib.hid (HB2.out.trans (b9.mono HB2.out.size))
                  obtain ⟨w9, hw9⟩ : ∃ w9, w9 = wr.drewN nq := ⟨_, rfl⟩
                  rw [← hw9] at HR5 HW5 HB5 ⊢
                  clear hw9 b9 heq a0 a1 a2 a3 a4 d0 d1 d2 d3 d4 HR2 HW2 HB2
                  go_wp2_with fail
                  go_roundw
                  case rel => exact ⟨i + 1, by omega, by go_num, HR5, HW5, HB5⟩
                  case measure => simp [intOf]; omega
                · have hlk2 : decide ((i : Int) < (M.length : Int)) = false := by simp; omega
                  go_wp2_with fail
                  go_ret
                  exact ⟨rfl, HB2.out⟩
            · have HWL : Hid (0 = (onceW X M).length) := Lib.hid hw.symm
              have d0 : decide (0 < M.length) = true := decide_eq_true (by omega)
              clear hw hm
              go_wp2_with fail
              refine HWT.out.mono ?_
              rintro e w9 ⟨v9, rfl, hr9, b9⟩
              obtain ⟨wa, wc, hv9, _, _⟩ := waV_form hr9
              rw [← HWL.out] at hv9
              subst hv9
              obtain ⟨HR9, HW9, HB9⟩ := main w9 b9
              clear main HWT HK8 HR8 HW8 HB8 hr9 HWL b9
              go_wp2_with fail
              go_loopw [141] (fun iv wx => ∃ i : Nat, i ≤ M.length ∧ iv = .int .i64 i ∧ Hid (ERow wx eb (.slice ea M.length ec) M) ∧ Hid (Wnt wx w.heap.size bb vw ve (.slice oa M.length oc) M) ∧ Hid (Below w.heap.size w wx)) (fun iv _ => M.length - (intOf iv).toNat)
              case atStart => exact ⟨0, by omega, rfl, HR9, HW9, HB9⟩
              case round =>
                obtain ⟨i, hi, rfl, HR2, HW2, HB2⟩ := hrel
                clear HR9 HW9 HB9
                by_cases hlk : i < M.length
                · have hlk2 : decide ((i : Int) < (M.length : Int)) = true := by simp; omega
                  have t3 : IntKind.i64.wrap ((i : Int) + 1) = (i : Int) + 1 := IntWalk.i64_in _ (by omega)
                  have hi0 : (0 : Int) ≤ (i : Int) := by omega
                  have hii : (i : Int) < (M.length : Int) := by omega
                  obtain ⟨y, hy⟩ : ∃ y, M[i]? = some y := ⟨M[i], by simp [hlk]⟩
                  obtain ⟨ge, rfl, _, _⟩ := HEA.out (by omega)
                  obtain ⟨gw, rfl⟩ := ERow.ptr HW2.out.row (by omega)
                  have a0 := evC0 HR2.out hy rfl
                  have a1 := evC1 HR2.out hy rfl
                  have a2 := evC2 HR2.out hy rfl
                  have a3 := evC3 HR2.out hy rfl
                  have a4 := evC4 HR2.out hy rfl
                  have d0 := evC0 HW2.out.row hy rfl
                  have d1 := evC1 HW2.out.row hy rfl
                  have d2 := evC2 HW2.out.row hy rfl
                  have d3 := evC3 HW2.out.row hy rfl
                  have d4 := evC4 HW2.out.row hy rfl
                  have heq : ∀ W : World, (binOp .neq 52 (.agg #[.int .i64 y.ses, .int .i64 y.no, .string y.path, .int .i64 y.what, .int .i64 y.when]) (.agg #[.int .i64 y.ses, .int .i64 y.no, .string y.path, .int .i64 y.what, .int .i64 y.when])).run Tryd.prog W = .ok (.bool false) W := eq_ev y
                  clear hy
                  go_upto_region 31 with fail
                  go_quiet (fail)
                  have b9 : Below wr.heap.size wr (wr.drewN nq) := below_drewN (Below.refl _ wr) nq
                  have HR5 := Lib.hid (HR2.out.keepF fun b cs t h1 _ => (b9.block b (Array.getElem?_eq_some_iff.1 h1).1).trans h1)
                  have HW5 := Lib.hid (HW2.out.low b9)
                  have HB5 : Hid (Below w.heap.size w (wr.drewN nq)) := Lib.hid (HB2.out.trans (b9.mono HB2.out.size))
                  obtain ⟨w9, hw9⟩ : ∃ w9, w9 = wr.drewN nq := ⟨_, rfl⟩
                  rw [← hw9] at HR5 HW5 HB5 ⊢
                  clear hw9 b9 heq a0 a1 a2 a3 a4 d0 d1 d2 d3 d4 HR2 HW2 HB2
                  go_wp2_with fail
                  go_roundw
                  case rel => exact ⟨i + 1, by omega, by go_num, HR5, HW5, HB5⟩
                  case measure => simp [intOf]; omega
                · have hlk2 : decide ((i : Int) < (M.length : Int)) = false := by simp; omega
                  go_wp2_with fail
                  go_ret
                  exact ⟨rfl, HB2.out⟩
    · have d12 : decide ((12 : Int) < (x.path.length : Int)) = true := by simp; omega
      go_wp2_with fail
      go_ret
      exact ⟨rfl, HB3.out⟩
end Go.Proofs.YtbdbmoinoehneaaDoor
