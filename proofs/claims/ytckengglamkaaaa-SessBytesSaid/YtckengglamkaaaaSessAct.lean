/- The law's do: Seen, Close, Keep of both. No conditions beyond those in each statement. -/
import Derived.Test.YtckengglamkaaaaSessMod
import Derived.Test.YtckengglamkaaaaSessDoC
import Derived.Test.YtckengglamkaaaaSessDoK
import Derived.Test.YtckengglamkaaaaSessDoO
import Derived.Test.YtckengglamkaaaaSessAll
import Derived.Test.YtckengglamkaaaaInvar6
import Derived.Deep.DeepCutAuto
namespace Go.Proofs.Ytckengglamkaaaa
open Go.RowKit Go.Maps Go.Sort
set_option linter.unusedVariables false
set_option maxRecDepth 100000

def FSh (tb eb g2 n c2 j : Nat) (id req : Int) (ans : ByteArray) (pb : Bool) : Nat → Value → World → Prop
  | 0, v, _ => v = .slice (some ⟨g2, 0, none⟩) n c2
  | 1, v, _ => v = .int .i64 (j : Int)
  | 2, v, _ => v = .pointer (some ⟨g2, j, none⟩)
  | 3, v, _ => v = .int .i64 id
  | 4, v, _ => v = .pointer (some ⟨eb, 0, none⟩)
  | 5, v, _ => v = .int .i64 id
  | 6, v, _ => v = .bool false
  | 7, v, _ => v = .bool false
  | 8, v, _ => v = .pointer (some ⟨tb, 0, none⟩)
  | 9, v, _ => v = .pointer (some ⟨eb, 0, none⟩)
  | 10, v, _ => v = .int .i64 id
  | 11, v, _ => v = .bool true
  | 12, v, _ => v = .bool false
  | 13, v, _ => v = .bool false
  | 14, v, _ => v = .bool false
  | 15, v, _ => v = .int .i64 0
  | 16, v, _ => v = .bool false
  | 17, v, _ => v = .bool false
  | 18, v, _ => v = .bool false
  | 19, v, _ => v = .bool pb
  | 20, v, _ => v = .pointer (some ⟨eb, 1, none⟩)
  | 21, v, _ => v = .int .i64 req
  | 22, v, _ => v = .bool pb
  | 23, v, _ => v = .bool false
  | 24, v, _ => v = .bool false
  | 25, v, _ => v = .bool false
  | 26, v, _ => v = .string ans
  | 27, v, _ => v = .pointer (some ⟨eb, 2, none⟩)
  | 28, v, _ => v = .string ans
  | 29, v, _ => v = .bool false
  | 30, v, _ => v = .bool false
  | _, _, _ => True
theorem FSh_keep {tb eb g2 n c2 j : Nat} {id req : Int} {ans : ByteArray} {pb : Bool} {v : Value} {w w' : World} : ∀ i : Nat, FSh tb eb g2 n c2 j id req ans pb i v w → FSh tb eb g2 n c2 j id req ans pb i v w'
  | 0, h => h
  | 1, h => h
  | 2, h => h
  | 3, h => h
  | 4, h => h
  | 5, h => h
  | 6, h => h
  | 7, h => h
  | 8, h => h
  | 9, h => h
  | 10, h => h
  | 11, h => h
  | 12, h => h
  | 13, h => h
  | 14, h => h
  | 15, h => h
  | 16, h => h
  | 17, h => h
  | 18, h => h
  | 19, h => h
  | 20, h => h
  | 21, h => h
  | 22, h => h
  | 23, h => h
  | 24, h => h
  | 25, h => h
  | 26, h => h
  | 27, h => h
  | 28, h => h
  | 29, h => h
  | 30, h => h
  | _ + 31, _ => trivial
theorem run_fE0 (W : World) (g : Nat) : (Instr.fieldAt 48 (.pointer (some ⟨g, 0, none⟩)) 0).run Try.prog W = .ok (.pointer (some ⟨g, 0, none⟩)) W := by go_simp
theorem run_idxI (W : World) (g n c i : Nat) (h : i < n) (hn : n ≤ 1000) : (Instr.indexAt 42 (.slice (some ⟨g, 0, none⟩) n c) (.int .i64 (i : Int))).run Try.prog W = .ok (.pointer (some ⟨g, i, none⟩)) W := by
  have h1 : (i : Int) < (n : Int) := by omega
  have h0 : (0 : Int) ≤ (i : Int) := by omega
  go_simp
theorem run_neI (W : World) (x : Int) (s1 s2 : Operand) : (do eqGuard .neq 3 s1 s2 (.int .i64 x) (.int .i64 x); binOp .neq 3 (.int .i64 x) (.int .i64 x) : Sem Value).run Try.prog W = .ok (.bool false) W := by go_simp
theorem run_neE (W : World) (x : Int) (s1 s2 : Operand) : (do eqGuard .neq 37 s1 s2 (.int .i64 x) (.int .i64 x); binOp .neq 37 (.int .i64 x) (.int .i64 x) : Sem Value).run Try.prog W = .ok (.bool false) W := by go_simp
theorem run_neB (W : World) (x : Bool) (s1 s2 : Operand) : (do eqGuard .neq 4 s1 s2 (.bool x) (.bool x); binOp .neq 4 (.bool x) (.bool x) : Sem Value).run Try.prog W = .ok (.bool false) W := by cases x <;> go_simp
theorem run_neT (W : World) (x : ByteArray) (s1 s2 : Operand) : (do eqGuard .neq 9 s1 s2 (.string x) (.string x); binOp .neq 9 (.string x) (.string x) : Sem Value).run Try.prog W = .ok (.bool false) W := by go_simp
theorem run_gtr (W : World) (x y : Int) (b : Bool) (h : decide (y < x) = b) (s1 s2 : Operand) : (do eqGuard .gtr 3 s1 s2 (.int .i64 x) (.int .i64 y); binOp .gtr 3 (.int .i64 x) (.int .i64 y) : Sem Value).run Try.prog W = .ok (.bool b) W := by subst h; go_simp
theorem call_has (W : World) (v1 v2 : Value) : (callFunc 14 #[v1, v2]).run Try.prog W = .ok (.enter 14 #[v1, v2]) W := by kernel_rfl
theorem rowForm10 {w : World} {base n : Nat} {e : TypeId} {size : Nat} {v : Value} {xs : List Value} (h : w.ownsRow base e size v n xs) : ∃ a c, v = .slice a n c ∧ n ≤ c ∧ (0 < n → ∃ g, a = some ⟨g, 0, none⟩ ∧ g < w.heap.size) := by
  have hl := h.lt
  rcases h.2 with ⟨h1, h2⟩ | ⟨g, c, cur, h1, h3⟩
  · exact ⟨none, 0, by rw [h1, h2], by omega, fun h => by omega⟩
  · exact ⟨_, _, h1, by first | omega | exact h3.1 | exact h3.2.1 | exact h3.2.2.1, fun _ => ⟨g, rfl, (hl g (by rw [h1]; rfl)).2⟩⟩
/-- The numbers of a table are those of its model. -/
theorem ids_rep {T : Int → Option Ss} {L : List Me} {c : Nat} {zs : List Int} (h : IdsOf T c zs) (hR : RepS T L) : zs = L.map (·.1) := by
  have h1 : ∀ x, x ∈ zs ↔ x ∈ L.map (·.1) := fun x => by
    rw [h.mem x, List.mem_map]
    constructor
    · intro hs
      obtain ⟨s, hs⟩ := Option.isSome_iff_exists.1 hs
      exact ⟨(x, s), (hR.mem x s).1 hs, rfl⟩
    · rintro ⟨⟨y, s⟩, hm, rfl⟩
      rw [(hR.mem y s).2 hm]; rfl
  have hn : zs.Nodup := h.sorted.imp (by intro a b h; omega)
  have hp : zs.Perm (L.map (·.1)) := (List.perm_ext_iff_of_nodup hn hR.nodup).2 h1
  exact List.Perm.eq_of_pairwise (le := fun a b : Int => a < b) (fun a b _ _ h1 h2 => by omega) h.sorted hR.asc hp
theorem pick5 (z : Int) : ∃ q : Nat, q < 5 ∧ wrap64 ((IntKind.u64.wrap z).tmod 5) = (q : Int) := by
  have hw : IntKind.u64.wrap z = z % 18446744073709551616 := by simp [IntKind.wrap, IntKind.bits, IntKind.signed]
  have h0 : 0 ≤ IntKind.u64.wrap z := by omega
  have ht : (IntKind.u64.wrap z).tmod 5 = IntKind.u64.wrap z % 5 := Int.tmod_eq_emod_of_nonneg h0
  refine ⟨((z % 18446744073709551616) % 5).toNat, by omega, ?_⟩
  rw [ht]; unfold wrap64; omega
/-- Any act of both. -/
theorem do_all (m tb mb k mp cap : Nat) (a : Option Addr) (T : Int → Option Ss) (L : List Me) (q : Sa) (w : World) (h2 : TwoS m w tb mb k mp cap a T L) (hid : InR q.id) (hrq : InR q.req) (hqa : q.ans.size ≤ 1000) (hk : k < 100000) :
    Calls Try.prog 12 #[.pointer (some ⟨mp, 0, none⟩), .pointer (some ⟨tb, 0, none⟩), actV q] w fun e w' => e = .returned (.bool true) ∧ DoR m w w' tb mb k mp a := by
  obtain ⟨p, hp5, hp⟩ := pick5 q.k
  have hq' : p = 0 ∨ p = 1 ∨ p = 2 ∨ p = 3 ∨ p = 4 := by omega
  rcases hq' with rfl | rfl | rfl | rfl | rfl
  · cases hok : okN q.id
    · exact sdo_open_no m tb mb k mp cap a T L q w h2 hid hk hp (.inl hok)
    · cases hT : (T q.id).isSome
      · by_cases hc : 16 ≤ L.length
        · exact sdo_open_no m tb mb k mp cap a T L q w h2 hid hk hp (.inr (.inr hc))
        · exact sdo_open_ok m tb mb k mp cap a T L q w h2 hid hk hp hok (by cases h : T q.id; rfl; rw [h] at hT; cases hT) (by omega)
      · exact sdo_open_no m tb mb k mp cap a T L q w h2 hid hk hp (.inr (.inl hT))
  · exact sdo_close m tb mb k mp cap a T L q w h2 hid hk hp
  · exact sdo_keep m tb mb k mp cap a T L q 2 w h2 hid hrq hqa hk hp (.inl rfl)
  · exact sdo_keep m tb mb k mp cap a T L q 3 w h2 hid hrq hqa hk hp (.inr rfl)
  · exact sdo_seen m tb mb k mp cap a T L q w h2 hid hp
set_option maxHeartbeats 8000000 in
/-- shows: the table has just the model's sessions. -/
theorem shows_any (m tb mb k mp cap : Nat) (a : Option Addr) (T : Int → Option Ss) (L : List Me) (w : World) (h2 : TwoS m w tb mb k mp cap a T L) (hin : ∀ x s, T x = some s → InR x) :
    Calls Try.prog 13 #[.pointer (some ⟨mp, 0, none⟩), .pointer (some ⟨tb, 0, none⟩)] w fun e w' => e = .returned (.bool true) ∧ Below w.heap.size w w' := by
  have hl1000 : L.length ≤ 1000 := by have := h2.few; omega
  have HM := Lib.hid h2.mod
  have HT := Lib.hid h2.table
  have HRP := Lib.hid h2.rep
  have HSM := Lib.hid h2.small
  have HIN := Lib.hid hin
  have HALL := Lib.hid (all_any tb mb k L.length T w h2.table hl1000)
  have hcap := h2.mod.cap_le
  have HNL : Hid (L.length ≤ cap ∧ L.length ≤ 1000) := Lib.hid ⟨hcap.1, hl1000⟩
  clear h2 hin hcap
  go_enter Try.func13, Try.ntmps13
  go_wp2_with fail
  refine HALL.out.mono ?_
  rintro e w2 ⟨v, zs, rfl, hz, hrow, b2⟩
  have hzs := ids_rep hz HRP.out
  have hzl : zs.length = L.length := hz.len
  obtain ⟨a2, c2, rfl, hc2, ha2⟩ := rowForm10 hrow
  have HID : Hid (∀ W : World, Below w2.heap.size w2 W → ∀ j e, L[j]? = some e → ∃ g2, a2 = some ⟨g2, 0, none⟩ ∧ W.cell? ⟨g2, j, none⟩ = some (.int .i64 e.1)) := Lib.hid fun W hW j e he => by
    have hjl : j < L.length := (List.getElem?_eq_some_iff.1 he).1
    obtain ⟨g2, rfl, hg2⟩ := ha2 (by omega)
    refine ⟨g2, rfl, ?_⟩
    rw [hW.cell (p := ⟨g2, j, none⟩) hg2, hrow.cellAt j (by omega), hzs]
    simp [he, encZ]
  rw [hzl] at hc2 ⊢
  have x0 := (HM.out.below b2).cell
  clear hz hrow ha2 hzs hzl
  go_wp2_with fail
  go_loopw [26] (fun iv wr => ∃ j : Nat, j ≤ L.length ∧ iv = .int .i64 j ∧ Below w2.heap.size w2 wr) (fun iv _ => L.length - (intOf iv).toNat)
  case atStart => exact ⟨0, by omega, rfl, Below.refl _ _⟩
  case round =>
    obtain ⟨j, hj, rfl, bk⟩ := hrel
    by_cases hlt : j < L.length
    · obtain ⟨⟨id, s⟩, he⟩ : ∃ e, L[j]? = some e := ⟨L[j], by simp [hlt]⟩
      have f1 : decide ((j : Int) < (L.length : Int)) = true := by simp; omega
      have bw := b2.trans (bk.mono b2.size)
      obtain ⟨g, hg, z0, z1, z2⟩ := (HM.out.below bw).cells j _ he
      have hgl : g < wr.heap.size := (HM.out.below bw).ltg hg
      obtain ⟨g2, rfl, z3⟩ := HID.out wr bk j _ he
      simp only at z0 z1 z2 z3
      have hTs : T id = some s := (HRP.out.mem id s).2 (List.mem_of_getElem? he)
      have hidR : InR id := HIN.out id s hTs
      have hsm := (HSM.out id s hTs).1
      have hseen : seenS T id (max s.req 1) = (s.ans, decide (0 < s.req), 0) := by
        unfold seenS; rw [hTs]; simp only
        rcases hsm.2.2 with h | h
        · subst h; rfl
        · have h1 : 1 ≤ s.req ∧ s.req ≤ 281474976710655 := by unfold okN at h; rw [Bool.and_eq_true] at h; simpa using h
          have hmx : max s.req 1 = s.req := by omega
          rw [hmx, if_neg (by rw [h]; decide), if_neg (by omega), if_pos rfl]
          have : decide (0 < s.req) = true := by simp; omega
          rw [this]
      have j0 : (0 : Int) ≤ (j : Int) := by omega
      have j1 : (j : Int) < (L.length : Int) := by omega
      have t2 : IntKind.i64.wrap ((j : Int) + 1) = (j : Int) + 1 := IntWalk.i64_in _ (by omega)
      have bA := (Below.refl wr.heap.size wr).alloc (Nat.le_refl _) (.cells #[.int .i64 id, .int .i64 s.req, .string s.ans] 48)
      have NA := heap_alloc_new wr (.cells #[.int .i64 id, .int .i64 s.req, .string s.ans] 48)
      have HSE := Lib.hid (fun (W : World) (hW : Below wr.heap.size wr W) => by
        have := seen_any tb mb k L.length T id (max s.req 1) W ((HT.out.below bw).below hW) hidR
        rw [hseen] at this; exact this)
      have HH := Lib.hid (fun (W : World) (hW : Below wr.heap.size wr W) => by
        have := has_any tb mb k L.length T id W ((HT.out.below bw).below hW) hidR
        rw [hTs] at this; exact this)
      have HE := Lib.hid he
      have HJ8 := Lib.hid hlt
      have HN8 := Lib.hid hl1000
      obtain ⟨pb, hpb⟩ : ∃ pb, pb = decide (0 < s.req) := ⟨_, rfl⟩
      have HPB : Hid (decide (0 < s.req) = pb) := Lib.hid hpb.symm
      rw [← hpb] at HSE
      clear hseen hTs hsm he x0 hpb
      subst hg
      go_upto_region 7 with fail
      obtain ⟨w5, hw5⟩ : ∃ w5, w5 = wr.alloc (.cells #[.int .i64 id, .int .i64 s.req, .string s.ans] 48) := ⟨_, rfl⟩
      rw [← hw5] at bA NA ⊢
      have y0 : w5.cell? ⟨wr.heap.size, 0, none⟩ = some (.int .i64 id) := by simp [World.cell?, NA]
      have y1 : w5.cell? ⟨wr.heap.size, 1, none⟩ = some (.int .i64 s.req) := by simp [World.cell?, NA]
      have hlt5 : wr.heap.size < w5.heap.size := (Array.getElem?_eq_some_iff.1 NA).1
      clear hw5 z0 z1 z2
      go_wp2_with fail
      refine (HSE.out _ bA).mono ?_
      rintro e w6 ⟨rfl, b6⟩
      have N6 := (b6.block wr.heap.size hlt5).trans NA
      have b7 := bA.trans (b6.mono bA.size)
      have hlt6 : wr.heap.size < w6.heap.size := Nat.lt_of_lt_of_le hlt5 b6.size
      have HN6 := Lib.hid N6
      have HB7 := Lib.hid b7
      clear NA y0 y1 N6 z3
      go_upto_region 8 with fail
      have HC8 : Hid (∀ W : World, Below w6.drew.heap.size w6.drew W → W.cell? ⟨g2, j, none⟩ = some (.int .i64 id) ∧ W.cell? ⟨wr.heap.size, 0, none⟩ = some (.int .i64 id) ∧ W.cell? ⟨wr.heap.size, 1, none⟩ = some (.int .i64 s.req) ∧ W.cell? ⟨wr.heap.size, 2, none⟩ = some (.string s.ans)) := Lib.hid fun W hW => by
        have hW' : Below w6.heap.size w6 W := (Below.refl _ w6).drew.trans (hW.mono (Nat.le_refl _))
        have hN := (hW'.block wr.heap.size hlt6).trans HN6.out
        obtain ⟨g3, hg3, h3⟩ := HID.out W (bk.trans ((HB7.out.trans (hW'.mono HB7.out.size)).mono bk.size)) j _ HE.out
        obtain rfl : g2 = g3 := by injection hg3 with hg3; injection hg3 with hg3 _ _
        exact ⟨h3, by simp [World.cell?, hN], by simp [World.cell?, hN], by simp [World.cell?, hN]⟩
      have HD8 : Hid (∀ W : World, Below w6.drew.heap.size w6.drew W → Below wr.heap.size wr W) := Lib.hid fun W hW => HB7.out.trans (((Below.refl _ w6).drew.trans (hW.mono (Nat.le_refl _))).mono HB7.out.size)
      have HH8 : Hid (∀ W : World, Below w6.drew.heap.size w6.drew W → Calls Try.prog 14 #[.pointer (some ⟨tb, 0, none⟩), .int .i64 id] W fun e w' => e = .returned (.bool true) ∧ Below W.heap.size W w') := Lib.hid fun W hW => HH.out W (HD8.out W hW)
      go_cut [72] (fun p wx => p = .bool false ∧ Below wr.heap.size wr wx)
      case first =>
        refine wp_region_steps (FSh tb wr.heap.size g2 L.length c2 j id s.req s.ans pb) (fun w w' => Below w.heap.size w w') (by kernel_rfl) (by kernel_rfl) (by kernel_rfl) (Below.refl _ _) ?_ (fun u v w h1 h2 => h1.trans (h2.mono h1.size)) ?_ ?_
        · intro i v w w' _ h1 h2
          exact FSh_keep i h1
        · intro i o ho x w1 hR hF
          match i, ho with
          | 0, ho =>
            obtain rfl := Option.some.inj ho
            exact gstep_move rfl (wanted0 rfl) _ rfl _ (eval_of 5 _ (by kernel_rfl) rfl) ⟨_, rfl, rfl, Below.refl _ _⟩
          | 1, ho =>
            obtain rfl := Option.some.inj ho
            exact gstep_move rfl (wanted0 rfl) _ rfl _ (eval_of 6 _ (by kernel_rfl) rfl) ⟨_, rfl, rfl, Below.refl _ _⟩
          | 2, ho =>
            obtain rfl := Option.some.inj ho
            exact gstep_index rfl (wanted0 rfl) _ _ _ rfl _ _ (eval_at 42 0 _ (by kernel_rfl) (show 42 < 74 by decide) (hF 0 (by kernel_rfl))) (eval_at 43 1 _ (by kernel_rfl) (show 43 < 74 by decide) (hF 1 (by kernel_rfl))) _ (run_idxI w1 _ _ _ _ HJ8.out HN8.out) ⟨_, rfl, rfl, Below.refl _ _⟩
          | 3, ho =>
            obtain rfl := Option.some.inj ho
            exact gstep_load rfl (wanted0 rfl) _ _ rfl _ (eval_at 44 2 _ (by kernel_rfl) (show 44 < 74 by decide) (hF 2 (by kernel_rfl))) _ (run_loadI w1 _ _ (HC8.out w1 hR).1) ⟨_, rfl, rfl, Below.refl _ _⟩
          | 4, ho =>
            obtain rfl := Option.some.inj ho
            exact gstep_field rfl (wanted0 rfl) _ _ _ rfl _ (eval_of 7 _ (by kernel_rfl) rfl) _ (run_fE0 w1 _) ⟨_, rfl, rfl, Below.refl _ _⟩
          | 5, ho =>
            obtain rfl := Option.some.inj ho
            exact gstep_load rfl (wanted0 rfl) _ _ rfl _ (eval_at 46 4 _ (by kernel_rfl) (show 46 < 74 by decide) (hF 4 (by kernel_rfl))) _ (run_loadI w1 _ _ (HC8.out w1 hR).2.1) ⟨_, rfl, rfl, Below.refl _ _⟩
          | 6, ho =>
            obtain rfl := Option.some.inj ho
            exact gstep_bin rfl (wanted0 rfl) _ _ _ _ _ rfl _ _ (eval_at 45 3 _ (by kernel_rfl) (show 45 < 74 by decide) (hF 3 (by kernel_rfl))) (eval_at 47 5 _ (by kernel_rfl) (show 47 < 74 by decide) (hF 5 (by kernel_rfl))) _ (run_neI w1 _ _ _) ⟨_, rfl, rfl, Below.refl _ _⟩
          | 7, ho =>
            obtain rfl := Option.some.inj ho
            exact gstep_move rfl (wanted0 rfl) _ rfl _ (eval_at 48 6 _ (by kernel_rfl) (show 48 < 74 by decide) (hF 6 (by kernel_rfl))) ⟨_, rfl, rfl, Below.refl _ _⟩
          | 8, ho =>
            obtain rfl := Option.some.inj ho
            exact gstep_move rfl (wanted_at 49 7 false _ true rfl (by kernel_rfl) (show 49 < 74 by decide) (hF 7 (by kernel_rfl)) rfl) _ rfl _ (eval_of 1 _ (by kernel_rfl) rfl) ⟨_, rfl, rfl, Below.refl _ _⟩
          | 9, ho =>
            obtain rfl := Option.some.inj ho
            exact gstep_field rfl (wanted_at 49 7 false _ true rfl (by kernel_rfl) (show 49 < 74 by decide) (hF 7 (by kernel_rfl)) rfl) _ _ _ rfl _ (eval_of 7 _ (by kernel_rfl) rfl) _ (run_fE0 w1 _) ⟨_, rfl, rfl, Below.refl _ _⟩
          | 10, ho =>
            obtain rfl := Option.some.inj ho
            exact gstep_load rfl (wanted_at 49 7 false _ true rfl (by kernel_rfl) (show 49 < 74 by decide) (hF 7 (by kernel_rfl)) rfl) _ _ rfl _ (eval_at 51 9 _ (by kernel_rfl) (show 51 < 74 by decide) (hF 9 (by kernel_rfl))) _ (run_loadI w1 _ _ (HC8.out w1 hR).2.1) ⟨_, rfl, rfl, Below.refl _ _⟩
          | 11, ho =>
            obtain rfl := Option.some.inj ho
            refine gstep_call2 rfl (wanted_at 49 7 false _ true rfl (by kernel_rfl) (show 49 < 74 by decide) (hF 7 (by kernel_rfl)) rfl) _ _ _ _ rfl _ _ (eval_at 50 8 _ (by kernel_rfl) (show 50 < 74 by decide) (hF 8 (by kernel_rfl))) (eval_at 52 10 _ (by kernel_rfl) (show 52 < 74 by decide) (hF 10 (by kernel_rfl))) (call_has w1 _ _) ?_
            refine (HH8.out w1 hR).mono ?_
            rintro e w2 ⟨rfl, hb⟩
            exact ⟨_, rfl, _, rfl, rfl, hb⟩
          | 12, ho =>
            obtain rfl := Option.some.inj ho
            exact gstep_not rfl (wanted_at 49 7 false _ true rfl (by kernel_rfl) (show 49 < 74 by decide) (hF 7 (by kernel_rfl)) rfl) _ _ rfl _ (eval_at 53 11 _ (by kernel_rfl) (show 53 < 74 by decide) (hF 11 (by kernel_rfl))) ⟨_, rfl, rfl, Below.refl _ _⟩
          | 13, ho =>
            obtain rfl := Option.some.inj ho
            exact gstep_pick rfl (wanted0 rfl) _ _ _ rfl false (eval_at 49 7 _ (by kernel_rfl) (show 49 < 74 by decide) (hF 7 (by kernel_rfl))) _ (by rw [if_neg (by decide)]; exact (eval_at 54 12 _ (by kernel_rfl) (show 54 < 74 by decide) (hF 12 (by kernel_rfl)))) ⟨_, rfl, rfl, Below.refl _ _⟩
          | 14, ho =>
            obtain rfl := Option.some.inj ho
            exact gstep_move rfl (wanted0 rfl) _ rfl _ (eval_at 55 13 _ (by kernel_rfl) (show 55 < 74 by decide) (hF 13 (by kernel_rfl))) ⟨_, rfl, rfl, Below.refl _ _⟩
          | 15, ho =>
            obtain rfl := Option.some.inj ho
            exact gstep_move rfl (wanted_at 56 14 false _ true rfl (by kernel_rfl) (show 56 < 74 by decide) (hF 14 (by kernel_rfl)) rfl) _ rfl _ (eval_of 10 _ (by kernel_rfl) rfl) ⟨_, rfl, rfl, Below.refl _ _⟩
          | 16, ho =>
            obtain rfl := Option.some.inj ho
            exact gstep_bin rfl (wanted_at 56 14 false _ true rfl (by kernel_rfl) (show 56 < 74 by decide) (hF 14 (by kernel_rfl)) rfl) _ _ _ _ _ rfl _ _ (eval_at 57 15 _ (by kernel_rfl) (show 57 < 74 by decide) (hF 15 (by kernel_rfl))) rfl _ (run_neE w1 _ _ _) ⟨_, rfl, rfl, Below.refl _ _⟩
          | 17, ho =>
            obtain rfl := Option.some.inj ho
            exact gstep_pick rfl (wanted0 rfl) _ _ _ rfl false (eval_at 56 14 _ (by kernel_rfl) (show 56 < 74 by decide) (hF 14 (by kernel_rfl))) _ (by rw [if_neg (by decide)]; exact (eval_at 58 16 _ (by kernel_rfl) (show 58 < 74 by decide) (hF 16 (by kernel_rfl)))) ⟨_, rfl, rfl, Below.refl _ _⟩
          | 18, ho =>
            obtain rfl := Option.some.inj ho
            exact gstep_move rfl (wanted0 rfl) _ rfl _ (eval_at 59 17 _ (by kernel_rfl) (show 59 < 74 by decide) (hF 17 (by kernel_rfl))) ⟨_, rfl, rfl, Below.refl _ _⟩
          | 19, ho =>
            obtain rfl := Option.some.inj ho
            exact gstep_move rfl (wanted_at 60 18 false _ true rfl (by kernel_rfl) (show 60 < 74 by decide) (hF 18 (by kernel_rfl)) rfl) _ rfl _ (eval_of 9 _ (by kernel_rfl) rfl) ⟨_, rfl, rfl, Below.refl _ _⟩
          | 20, ho =>
            obtain rfl := Option.some.inj ho
            exact gstep_field rfl (wanted_at 60 18 false _ true rfl (by kernel_rfl) (show 60 < 74 by decide) (hF 18 (by kernel_rfl)) rfl) _ _ _ rfl _ (eval_of 7 _ (by kernel_rfl) rfl) _ (run_fE1 w1 _ 0) ⟨_, rfl, rfl, Below.refl _ _⟩
          | 21, ho =>
            obtain rfl := Option.some.inj ho
            exact gstep_load rfl (wanted_at 60 18 false _ true rfl (by kernel_rfl) (show 60 < 74 by decide) (hF 18 (by kernel_rfl)) rfl) _ _ rfl _ (eval_at 62 20 _ (by kernel_rfl) (show 62 < 74 by decide) (hF 20 (by kernel_rfl))) _ (run_loadI w1 _ _ (HC8.out w1 hR).2.2.1) ⟨_, rfl, rfl, Below.refl _ _⟩
          | 22, ho =>
            obtain rfl := Option.some.inj ho
            exact gstep_bin rfl (wanted_at 60 18 false _ true rfl (by kernel_rfl) (show 60 < 74 by decide) (hF 18 (by kernel_rfl)) rfl) _ _ _ _ _ rfl _ _ (eval_at 63 21 _ (by kernel_rfl) (show 63 < 74 by decide) (hF 21 (by kernel_rfl))) rfl _ (run_gtr w1 _ _ _ HPB.out _ _) ⟨_, rfl, rfl, Below.refl _ _⟩
          | 23, ho =>
            obtain rfl := Option.some.inj ho
            exact gstep_bin rfl (wanted_at 60 18 false _ true rfl (by kernel_rfl) (show 60 < 74 by decide) (hF 18 (by kernel_rfl)) rfl) _ _ _ _ _ rfl _ _ (eval_at 61 19 _ (by kernel_rfl) (show 61 < 74 by decide) (hF 19 (by kernel_rfl))) (eval_at 64 22 _ (by kernel_rfl) (show 64 < 74 by decide) (hF 22 (by kernel_rfl))) _ (run_neB w1 _ _ _) ⟨_, rfl, rfl, Below.refl _ _⟩
          | 24, ho =>
            obtain rfl := Option.some.inj ho
            exact gstep_pick rfl (wanted0 rfl) _ _ _ rfl false (eval_at 60 18 _ (by kernel_rfl) (show 60 < 74 by decide) (hF 18 (by kernel_rfl))) _ (by rw [if_neg (by decide)]; exact (eval_at 65 23 _ (by kernel_rfl) (show 65 < 74 by decide) (hF 23 (by kernel_rfl)))) ⟨_, rfl, rfl, Below.refl _ _⟩
          | 25, ho =>
            obtain rfl := Option.some.inj ho
            exact gstep_move rfl (wanted0 rfl) _ rfl _ (eval_at 66 24 _ (by kernel_rfl) (show 66 < 74 by decide) (hF 24 (by kernel_rfl))) ⟨_, rfl, rfl, Below.refl _ _⟩
          | 26, ho =>
            obtain rfl := Option.some.inj ho
            exact gstep_move rfl (wanted_at 67 25 false _ true rfl (by kernel_rfl) (show 67 < 74 by decide) (hF 25 (by kernel_rfl)) rfl) _ rfl _ (eval_of 8 _ (by kernel_rfl) rfl) ⟨_, rfl, rfl, Below.refl _ _⟩
          | 27, ho =>
            obtain rfl := Option.some.inj ho
            exact gstep_field rfl (wanted_at 67 25 false _ true rfl (by kernel_rfl) (show 67 < 74 by decide) (hF 25 (by kernel_rfl)) rfl) _ _ _ rfl _ (eval_of 7 _ (by kernel_rfl) rfl) _ (run_fE2 w1 _ 0) ⟨_, rfl, rfl, Below.refl _ _⟩
          | 28, ho =>
            obtain rfl := Option.some.inj ho
            exact gstep_load rfl (wanted_at 67 25 false _ true rfl (by kernel_rfl) (show 67 < 74 by decide) (hF 25 (by kernel_rfl)) rfl) _ _ rfl _ (eval_at 69 27 _ (by kernel_rfl) (show 69 < 74 by decide) (hF 27 (by kernel_rfl))) _ (run_loadT w1 _ _ (HC8.out w1 hR).2.2.2) ⟨_, rfl, rfl, Below.refl _ _⟩
          | 29, ho =>
            obtain rfl := Option.some.inj ho
            exact gstep_bin rfl (wanted_at 67 25 false _ true rfl (by kernel_rfl) (show 67 < 74 by decide) (hF 25 (by kernel_rfl)) rfl) _ _ _ _ _ rfl _ _ (eval_at 68 26 _ (by kernel_rfl) (show 68 < 74 by decide) (hF 26 (by kernel_rfl))) (eval_at 70 28 _ (by kernel_rfl) (show 70 < 74 by decide) (hF 28 (by kernel_rfl))) _ (run_neT w1 _ _ _) ⟨_, rfl, rfl, Below.refl _ _⟩
          | 30, ho =>
            obtain rfl := Option.some.inj ho
            exact gstep_pick rfl (wanted0 rfl) _ _ _ rfl false (eval_at 67 25 _ (by kernel_rfl) (show 67 < 74 by decide) (hF 25 (by kernel_rfl))) _ (by rw [if_neg (by decide)]; exact (eval_at 71 29 _ (by kernel_rfl) (show 71 < 74 by decide) (hF 29 (by kernel_rfl)))) ⟨_, rfl, rfl, Below.refl _ _⟩
          | n + 31, ho => simp at ho
        · intro x w1 hR hF
          have h30 : x 30 = .bool false := hF 30 (by decide)
          simp only [putAll, Act.put, List.setIfInBounds_toArray, List.set_cons_succ, List.set_cons_zero]
          go_wp2_with fail
          go_meet
          exact ⟨h30, HD8.out w1 hR⟩
      case rest =>
        obtain ⟨rfl, b9⟩ := hcut
        go_wp2_with fail
        go_roundw
        case rel => exact ⟨j + 1, by omega, by go_num, bk.trans (b9.mono bk.size)⟩
        case measure => simp [intOf]; omega
    · obtain rfl : j = L.length := by omega
      have f1 : decide ((L.length : Int) < (L.length : Int)) = false := by simp
      go_wp2_with fail
      go_ret
      exact ⟨rfl, b2.trans (bk.mono b2.size)⟩
end Go.Proofs.Ytckengglamkaaaa
