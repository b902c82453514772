/- Bytes of a command. No conditions beyond those in each statement. -/
import Derived.Test.YtkdbkbfloiponaaOpRight
import Derived.Test.YtkdbkbfloiponaaPithFlg
import Derived.Laws.IdiomStrings
import Derived.Lib.BufferRead
namespace Go.Proofs.Ytkdbkbfloiponaa
open Go.RowKit
set_option linter.unusedVariables false
set_option linter.unusedSimpArgs false
set_option maxRecDepth 100000

/-- An operation's bytes; a command's. -/
def encO (o : Opr) : List UInt8 := (numsE [o.does, o.ver + 1] ++ textsE [o.path, o.data]) ++ flagsE [o.ser, o.own]
def headE (c : Cm) : List UInt8 := numsE [c.kind, c.ses, c.req, c.noted, (c.ops.length : Int)]
def encC (c : Cm) : List UInt8 := ((headE c ++ c.ops.flatMap encO) ++ textsE [c.path]) ++ flagsE [c.kids, c.once]
theorem encO_len (o : Opr) : (encO o).length ≤ 131088 := by
  have := textsE_length [o.path, o.data]
  unfold encO; rw [List.length_append, List.length_append, numsE_length, flagsE_length]; simp only [List.length_cons, List.length_nil] at this ⊢; omega
theorem encOs_len : ∀ L : List Opr, (L.flatMap encO).length ≤ 131088 * L.length
  | [] => by simp
  | z :: l => by
    have h1 := encOs_len l
    have h2 := encO_len z
    rw [List.flatMap_cons, List.length_append, List.length_cons]; omega
theorem encOs_snoc (L : List Opr) (k : Nat) (h : k < L.length) : (L.take (k + 1)).flatMap encO = (L.take k).flatMap encO ++ encO (L.getD k Opr.zero) := by
  rw [take_snoc_getD L Opr.zero k h, List.flatMap_append]; simp
/-- What Bytes of a command answers. -/
def bytesC (c : Cm) : ByteArray × Int := if rightC c = true then (if 488 < (encC c).length then (⟨#[]⟩, 3) else (⟨(encC c).toArray⟩, 0)) else (⟨#[]⟩, 1)
theorem opB_new (w : World) (k : Int) (p t : ByteArray) (v : Int) (x y : Bool) : (w.alloc (.cells #[.int .i64 k, .string p, .string t, .int .i64 v, .bool x, .bool y] 50)).heap[w.heap.size]? = some (.cells #[.int .i64 k, .string p, .string t, .int .i64 v, .bool x, .bool y] 50 (0, 0)) := heap_alloc_new w _
theorem opB_cells {w : World} {b : Nat} {k v : Int} {p t : ByteArray} {x y : Bool} (h : w.heap[b]? = some (.cells #[.int .i64 k, .string p, .string t, .int .i64 v, .bool x, .bool y] 50 (0, 0))) :
    w.cell? ⟨b, 0, none⟩ = some (.int .i64 k) ∧ w.cell? ⟨b, 1, none⟩ = some (.string p) ∧ w.cell? ⟨b, 2, none⟩ = some (.string t) ∧ w.cell? ⟨b, 3, none⟩ = some (.int .i64 v) ∧ w.cell? ⟨b, 4, none⟩ = some (.bool x) ∧ w.cell? ⟨b, 5, none⟩ = some (.bool y) := by
  simp [World.cell?, h]
theorem cells_new {w : World} {vs : Array Value} {t : TypeId} {j : Nat} {u : Value} (h : vs[j]? = some u) : (w.alloc (.cells vs t)).cell? ⟨w.heap.size, 0 + j, none⟩ = some u := by
  have h1 := heap_alloc_new w (.cells vs t)
  generalize w.alloc (.cells vs t) = W at h1
  simp [World.cell?, h1, h]
theorem Bs.mk {w : World} {B : Nat} {v : Value} {l m : List UInt8} (h : Bs w B v l) (e : l = m) : Bs w B v m := e ▸ h
theorem Bs.cut {w : World} {B : Nat} {v : Value} {l : List UInt8} (h : Bs w B v l) (h0 : 0 < l.length) : ∃ g c, v = .slice (some ⟨g, 0, none⟩) l.length c ∧ ∀ j u, (cellsOf l)[j]? = some u → w.cell? (Addr.add ⟨g, 0, none⟩ j) = some u := by
  obtain ⟨p, cap, hv, h1⟩ := h.src
  rcases h1 with ⟨_, hl, _⟩ | ⟨a, ha, hc⟩
  · rw [hl] at h0; simp at h0
  · rcases h.2 with ⟨_, h2⟩ | ⟨g, c, cur, h2, _⟩
    · omega
    · rw [hv] at h2
      injection h2 with e1 e2 e3
      rw [ha] at e1
      obtain rfl : a = ⟨g, 0, none⟩ := Option.some.inj e1
      exact ⟨g, cap, by rw [hv, ha], hc⟩
theorem und_u8 : Try.prog.underlying 5 = some (.int .u8) := by kernel_rfl
theorem run_str {w : World} {v : Value} {l : List UInt8} (h : Src w v l) : (convert 37 9 v).run Try.prog w = .ok (.string ⟨l.toArray⟩) w := by
  obtain ⟨p, cap, rfl, ⟨rfl, rfl, rfl⟩ | ⟨a, rfl, hc⟩⟩ := h
  · exact Lib.run_convert_nil_bytes w 37 9 5 0 und_bytes und_u8 und_string
  · exact run_convert_bytes_back w 37 9 5 a cap l und_bytes und_u8 und_string (fun j hj => hc j _ (by simp [cellsOf, hj]))
theorem getD_five (a b c d e : Int) (P : Int → Prop) (ha : P a) (hb : P b) (hc : P c) (hd : P d) (he : P e) : ∀ j, j < [a, b, c, d, e].length → P ([a, b, c, d, e].getD j 0) := fun j hj => by
  match j, hj with
  | 0, _ => exact ha
  | 1, _ => exact hb
  | 2, _ => exact hc
  | 3, _ => exact hd
  | 4, _ => exact he
theorem rightC_parts {c : Cm} (h : rightC c = true) : (0 ≤ c.ses ∧ c.ses ≤ 281474976710655) ∧ (0 ≤ c.req ∧ c.req ≤ 281474976710655) ∧ (0 ≤ c.noted ∧ c.noted ≤ 281474976710655) ∧ (∀ o ∈ c.ops, rightO o = true) ∧ (0 ≤ c.kind ∧ c.kind ≤ 5) ∧ c.ops.length ≤ 4 ∧ c.path.size ≤ 60 := by
  simp only [rightC, rightN, lowB, highB, rightT, Bool.and_eq_true, Bool.not_eq_true', decide_eq_false_iff_not, decide_eq_true_eq, List.all_eq_true] at h
  obtain ⟨⟨⟨⟨⟨a1, a2⟩, ⟨b1, b2⟩⟩, ⟨c1, c2⟩⟩, d⟩, ⟨⟨⟨e1, e2⟩, e3⟩, e4⟩⟩ := h
  exact ⟨by omega, by omega, by omega, d, by omega, by omega, by omega⟩
theorem rightO_parts {o : Opr} (h : rightO o = true) : (1 ≤ o.does ∧ o.does ≤ 4) ∧ o.path.size ≤ 60 ∧ o.data.size ≤ 61 ∧ -1 ≤ o.ver ∧ o.ver < 281474976710655 := by
  simp only [rightO, Bool.and_eq_true, decide_eq_true_eq] at h
  omega
set_option maxHeartbeats 8000000 in
theorem bytes_any (u : Value) (c : Cm) (w : World) (h : CmR w (cmV u c) c) :
    Calls Try.prog 11 #[cmV u c] w fun e w' => e = .returned (.tuple #[.string (bytesC c).1, .int .i64 (bytesC c).2]) ∧ Below w.heap.size w w' := by
  have HR0 := Lib.hid h
  obtain ⟨⟨k1, k2, k3, k4, k5⟩, u', hu, hO⟩ := h
  have HPT := Lib.hid (rightC_parts (c := c))
  have HBY := Lib.hid (show bytesC c = if rightC c = true then (if 488 < (encC c).length then (⟨#[]⟩, 3) else (⟨(encC c).toArray⟩, 0)) else (⟨#[]⟩, 1) from rfl)
  have HHE := Lib.hid (show headE c = numsE [c.kind, c.ses, c.req, c.noted, (c.ops.length : Int)] from rfl)
  have HEN := Lib.hid (show encC c = ((headE c ++ c.ops.flatMap encO) ++ textsE [c.path]) ++ flagsE [c.kids, c.once] from rfl)
  have HRC := Lib.hid (fun (W : World) (hW : CmR W (cmV u c) c) => rightcm_any u c W hW)
  obtain ⟨r, hr⟩ : ∃ r, r = rightC c := ⟨_, rfl⟩
  obtain ⟨E, hE⟩ : ∃ E, E = encC c := ⟨_, rfl⟩
  obtain ⟨H0, hH0⟩ : ∃ H0, H0 = headE c := ⟨_, rfl⟩
  obtain ⟨Y, hY⟩ : ∃ Y, Y = bytesC c := ⟨_, rfl⟩
  rw [← hr] at HPT HBY HRC
  rw [← hE] at HBY HEN
  rw [← hH0] at HEN HHE
  rw [← hY] at HBY ⊢
  clear hr hE hH0 hY
  obtain ⟨k, s, q, n, L, p, x, y⟩ := c
  simp only at k1 k2 k3 k4 k5 hO HPT HHE HEN
  obtain rfl : u = u' := by simpa [cmV] using hu
  clear hu
  obtain ⟨a, cap, rfl, hLm⟩ := (show ∃ a cap, u = .slice a L.length cap ∧ L.length ≤ maxLen by obtain ⟨a, cap, h1, h2, _⟩ := hO; exact ⟨a, cap, h1, h2⟩)
  unfold maxLen at hLm k5
  unfold cmV at HR0 HRC ⊢
  simp only at HR0 HRC ⊢
  have bA := (Below.refl w.heap.size w).alloc (Nat.le_refl _) (.cells #[.int .i64 k, .int .i64 s, .int .i64 q, .int .i64 n, .slice a L.length cap, .string p, .bool x, .bool y] 26)
  have N1 := cmB_new w (.slice a L.length cap) k s q n p x y
  have HO := Lib.hid hO
  clear hO
  go_enter Try.func11, Try.ntmps11
  go_upto_region 1 with fail
  obtain ⟨w1, hw1⟩ : ∃ w1, w1 = w.alloc (.cells #[.int .i64 k, .int .i64 s, .int .i64 q, .int .i64 n, .slice a L.length cap, .string p, .bool x, .bool y] 26) := ⟨_, rfl⟩
  rw [← hw1] at bA N1 ⊢
  obtain ⟨c0, c1, c2, c3, c4, c5, c6, c7⟩ := cmB_cells N1
  have hbs : w.heap.size < w1.heap.size := (Array.getElem?_eq_some_iff.1 N1).1
  have HN1 := Lib.hid N1
  have HC := Lib.hid (HRC.out w1 (HR0.out.below bA))
  clear hw1 N1 HRC HR0
  go_wp2_with fail
  refine HC.out.mono ?_
  rintro e w2 ⟨rfl, b2⟩
  have bB := bA.trans (b2.mono bA.size)
  have N2 := (b2.block w.heap.size hbs).trans HN1.out
  clear HC c0 c1 c2 c3 c4 c5 c6 c7
  obtain ⟨c0, c1, c2, c3, c4, c5, c6, c7⟩ := cmB_cells N2
  cases r with
  | false =>
    have HY : Y = (⟨#[]⟩, 1) := HBY.out
    have HYH := Lib.hid HY
    clear HY
    go_wp2_with fail
    go_ret2
    exact ⟨by rw [HYH.out]; rfl, bB⟩
  | true =>
    obtain ⟨q1, q2, q3, q4, q5, q6, q7⟩ := HPT.out rfl
    have HQ4 := Lib.hid q4
    have HYH : Hid (Y = if 488 < E.length then (⟨#[]⟩, 3) else (⟨E.toArray⟩, 0)) := Lib.hid HBY.out
    have hbs2 : w.heap.size < w2.heap.size := (Array.getElem?_eq_some_iff.1 N2).1
    have bN := (Below.refl _ w2).alloc (Nat.le_refl _) (.cells #[.int .i64 k, .int .i64 s, .int .i64 q, .int .i64 n, .int .i64 (L.length : Int)] 3)
    have HNM := Lib.hid (num_list (.slice none 0 0) [] w2.heap.size 0 5 [k, s, q, n, (L.length : Int)] (w2.alloc (.cells #[.int .i64 k, .int .i64 s, .int .i64 q, .int .i64 n, .int .i64 (L.length : Int)] 3)) (Src.nil _) (by simp) (by simp)
      (getD_five _ _ _ _ _ (fun z => -9223372036854775808 ≤ z ∧ z ≤ 9223372036854775807) k1 k2 k3 k4 (by omega))
      (fun j hj => cells_new (by match j, hj with
        | 0, _ => rfl
        | 1, _ => rfl
        | 2, _ => rfl
        | 3, _ => rfl
        | 4, _ => rfl)))
    have HN2 := Lib.hid N2
    have HB := Lib.hid bB
    clear N2 bB
    go_wp2_with fail
    refine HNM.out.mono ?_
    rintro e w3 ⟨v3, rfl, B3, b3⟩
    rw [List.nil_append, ← HHE.out] at B3
    have b23 := bN.trans (b3.mono bN.size)
    have bC := HB.out.trans (b23.mono HB.out.size)
    have N3 := (b23.block w.heap.size hbs2).trans HN2.out
    have hbs3 : w.heap.size < w3.heap.size := (Array.getElem?_eq_some_iff.1 N3).1
    have B3' : Bs w3 (w.heap.size + 1) v3 (H0 ++ (L.take 0).flatMap encO) := by
      have h := B3.mono (C := w.heap.size + 1) (by simp; omega)
      simpa using h
    have bC1 : Below (w.heap.size + 1) w3 w3 := Below.refl _ _
    have hH0l : H0.length = 30 := by rw [HHE.out, numsE_length]; rfl
    clear c0 c1 c2 c3 c4 c5 c6 c7
    obtain ⟨c0, c1, c2, c3, c4, c5, c6, c7⟩ := cmB_cells N3
    have HBC := Lib.hid bC
    have HN3 := Lib.hid N3
    have HOB := Lib.hid (HO.out.below bC)
    clear HNM B3 b3 b23 bN bC HN2 HB N3
    go_wp2_with fail
    go_loopw [4, 26] (fun ov i wr => ∃ j : Nat, j ≤ L.length ∧ i = .int .i64 j ∧ Bs wr (w.heap.size + 1) ov (H0 ++ (L.take j).flatMap encO) ∧ Below w3.heap.size w3 wr) (fun _ i _ => L.length - (intOf i).toNat)
    case atStart => exact ⟨0, Nat.zero_le _, rfl, B3', Below.refl _ _⟩
    case round =>
      obtain ⟨j, hj, rfl, HBS, hb⟩ := hrel
      clear B3'
      by_cases hlt : j < L.length
      · obtain ⟨hok, g, off, rfl, h0, h1, h2, h3, h4, h5⟩ := HOB.out.at hb hlt
        have hzr := HQ4.out _ (getD_mem (d := Opr.zero) hlt)
        have HSN := Lib.hid (encOs_snoc L j hlt)
        have hEL := encOs_len (L.take j)
        rw [List.length_take] at hEL
        have t2 : IntKind.i64.wrap ((j : Int) + 1) = (j : Int) + 1 := IntWalk.i64_in _ (by omega)
        obtain ⟨z, hz⟩ : ∃ z, z = L.getD j Opr.zero := ⟨_, rfl⟩
        rw [← hz] at hok h0 h1 h2 h3 h4 h5 HSN hzr
        clear hz
        have hj0 : (0 : Int) ≤ (j : Int) := by omega
        have hji : (j : Int) < (L.length : Int) := by omega
        obtain ⟨r1, r2, r3, r4, r5⟩ := rightO_parts hzr
        obtain ⟨zk, zp, zt, zv, zs, zo⟩ := z
        simp only at h0 h1 h2 h3 h4 h5 r1 r2 r3 r4 r5
        have HEO := Lib.hid (show encO ⟨zk, zp, zt, zv, zs, zo⟩ = (numsE [zk, zv + 1] ++ textsE [zp, zt]) ++ flagsE [zs, zo] from rfl)
        obtain ⟨M, hM⟩ : ∃ M, M = H0 ++ (L.take j).flatMap encO := ⟨_, rfl⟩
        have hMl : M.length ≤ 30 + 131088 * 4 := by rw [hM, List.length_append]; omega
        rw [← hM] at HBS
        have HM := Lib.hid hM
        clear hM hok hzr hEL
        have bD := hb.alloc hb.size (.cells #[.int .i64 zk, .string zp, .string zt, .int .i64 zv, .bool zs, .bool zo] 50)
        have bE := (Below.refl _ wr).alloc (Nat.le_refl _) (.cells #[.int .i64 zk, .string zp, .string zt, .int .i64 zv, .bool zs, .bool zo] 50)
        have N6 := opB_new wr zk zp zt zv zs zo
        have S6 := HBS.below bE
        have hws := hb.size
        go_upto_region 7 with fail
        obtain ⟨w6, hw6⟩ : ∃ w6, w6 = wr.alloc (.cells #[.int .i64 zk, .string zp, .string zt, .int .i64 zv, .bool zs, .bool zo] 50) := ⟨_, rfl⟩
        obtain ⟨ob, hob⟩ : ∃ ob, ob = wr.heap.size := ⟨_, rfl⟩
        rw [← hw6] at bD N6 S6 ⊢
        rw [← hob] at N6 hws ⊢
        clear hw6 bE h0 h1 h2 h3 h4 h5 hob HBS
        obtain ⟨o0, o1, o2, o3, o4, o5⟩ := opB_cells N6
        have hos : ob < w6.heap.size := (Array.getElem?_eq_some_iff.1 N6).1
        have t3 : IntKind.i64.wrap (zv - -1) = zv + 1 := by rw [show zv - -1 = zv + 1 by omega]; exact IntWalk.i64_in _ (by omega)
        -- the numbers
        have bN := (Below.refl _ w6).alloc (Nat.le_refl _) (.cells #[.int .i64 zk, .int .i64 (zv + 1)] 3)
        have HNM := Lib.hid (num_list _ M w6.heap.size 0 2 [zk, zv + 1] (w6.alloc (.cells #[.int .i64 zk, .int .i64 (zv + 1)] 3)) (S6.below bN).src (by simp) (by simp only [List.length_cons, List.length_nil]; omega)
          (fun j hj => by match j, hj with
            | 0, _ => exact ⟨by simp; omega, by simp; omega⟩
            | 1, _ => exact ⟨by simp; omega, by simp; omega⟩)
          (fun j hj => cells_new (by match j, hj with
            | 0, _ => rfl
            | 1, _ => rfl)))
        have HN6 := Lib.hid N6
        have HS6 := Lib.hid S6
        clear N6 S6
        go_wp2_with fail
        refine HNM.out.mono ?_
        rintro e w7 ⟨v7, rfl, B7, b7⟩
        have b67 := bN.trans (b7.mono bN.size)
        have bE := bD.trans (b67.mono bD.size)
        have N7 := (b67.block ob hos).trans HN6.out
        have hos7 : ob < w7.heap.size := (Array.getElem?_eq_some_iff.1 N7).1
        have B7' := B7.mono (C := w.heap.size + 1) (by have := bD.size; simp; omega)
        have hl7 : (M ++ numsE [zk, zv + 1]).length = M.length + 12 := by rw [List.length_append, numsE_length]; rfl
        clear HNM B7 b7 b67 bN bD HN6 HS6 o0 o1 o2 o3 o4 o5 t3
        obtain ⟨o0, o1, o2, o3, o4, o5⟩ := opB_cells N7
        go_upto_region 8 with fail
        -- the texts
        have bN := (Below.refl _ w7).alloc (Nat.le_refl _) (.cells #[.string zp, .string zt] 9)
        have HNM := Lib.hid (text_list _ (M ++ numsE [zk, zv + 1]) w7.heap.size 0 2 [zp, zt] (w7.alloc (.cells #[.string zp, .string zt] 9)) (B7'.below bN).src (by simp) (by simp only [List.length_cons, List.length_nil]; omega)
          (fun j hj => by match j, hj with
            | 0, _ => simp [maxLen]; omega
            | 1, _ => simp [maxLen]; omega)
          (fun j hj => cells_new (by match j, hj with
            | 0, _ => rfl
            | 1, _ => rfl)))
        have HN7 := Lib.hid N7
        have HE := Lib.hid bE
        clear N7 B7' bE
        go_wp2_with fail
        refine HNM.out.mono ?_
        rintro e w8 ⟨v8, rfl, B8, b8⟩
        have b78 := bN.trans (b8.mono bN.size)
        have bF := HE.out.trans (b78.mono HE.out.size)
        have N8 := (b78.block ob hos7).trans HN7.out
        have hos8 : ob < w8.heap.size := (Array.getElem?_eq_some_iff.1 N8).1
        have B8' := B8.mono (C := w.heap.size + 1) (by have := HE.out.size; simp; omega)
        have hl8 : ((M ++ numsE [zk, zv + 1]) ++ textsE [zp, zt]).length ≤ M.length + 12 + 131074 := by rw [List.length_append, hl7]; have := textsE_length [zp, zt]; simp only [List.length_cons, List.length_nil] at this; omega
        clear HNM B8 b8 b78 bN HE HN7 o0 o1 o2 o3 o4 o5
        obtain ⟨o0, o1, o2, o3, o4, o5⟩ := opB_cells N8
        go_upto_region 9 with fail
        -- the flags
        have bN := (Below.refl _ w8).alloc (Nat.le_refl _) (.cells #[.bool zs, .bool zo] 4)
        have HNM := Lib.hid (flag_list _ ((M ++ numsE [zk, zv + 1]) ++ textsE [zp, zt]) w8.heap.size 0 2 [zs, zo] (w8.alloc (.cells #[.bool zs, .bool zo] 4)) (B8'.below bN).src (by simp) (by simp only [List.length_cons, List.length_nil]; omega)
          (fun j hj => cells_new (by match j, hj with
            | 0, _ => rfl
            | 1, _ => rfl)))
        have HE := Lib.hid bF
        clear N8 B8' bF
        go_wp2_with fail
        refine HNM.out.mono ?_
        rintro e w9 ⟨v9, rfl, B9, b9⟩
        have b89 := bN.trans (b9.mono bN.size)
        have bG := HE.out.trans (b89.mono HE.out.size)
        have B9' := B9.mono (C := w.heap.size + 1) (by have := HE.out.size; simp; omega)
        have HR9 : Hid (Bs w9 (w.heap.size + 1) v9 (H0 ++ (L.take (j + 1)).flatMap encO)) := Lib.hid (B9'.mk (by rw [HSN.out, HEO.out, ← List.append_assoc, ← HM.out]; simp only [List.append_assoc]))
        clear HNM B9 b9 b89 bN HE B9' o0 o1 o2 o3 o4 o5
        go_wp2_with fail
        go_roundw
        case rel => exact ⟨j + 1, by omega, by go_num, HR9.out, bG⟩
        case measure => simp [intOf]; omega
      · obtain rfl : j = L.length := by omega
        rw [List.take_length] at HBS
        have hEL := encOs_len L
        obtain ⟨M, hM⟩ : ∃ M, M = H0 ++ L.flatMap encO := ⟨_, rfl⟩
        have hMl : M.length ≤ 30 + 131088 * 4 := by rw [hM, List.length_append]; omega
        rw [← hM] at HBS HEN
        have N4 := (hb.block w.heap.size hbs3).trans HN3.out
        have hbs4 : w.heap.size < wr.heap.size := (Array.getElem?_eq_some_iff.1 N4).1
        have hlt2 : decide ((L.length : Int) < (L.length : Int)) = false := by simp
        clear hM hEL hlt c0 c1 c2 c3 c4 c5 c6 c7
        obtain ⟨c0, c1, c2, c3, c4, c5, c6, c7⟩ := cmB_cells N4
        have bL := HBC.out.trans (hb.mono HBC.out.size)
        have bN := (Below.refl _ wr).alloc (Nat.le_refl _) (.cells #[.string p] 9)
        have HNM := Lib.hid (text_list _ M wr.heap.size 0 1 [p] (wr.alloc (.cells #[.string p] 9)) (HBS.below bN).src (by simp) (by simp only [List.length_cons, List.length_nil]; omega)
          (fun j hj => by match j, hj with
            | 0, _ => simp [maxLen]; omega)
          (fun j hj => cells_new (by match j, hj with
            | 0, _ => rfl)))
        have HN4 := Lib.hid N4
        clear N4 HBS
        go_wp2_with fail
        refine HNM.out.mono ?_
        rintro e w5 ⟨v5, rfl, B5, b5⟩
        have b45 := bN.trans (b5.mono bN.size)
        have bM := bL.trans (b45.mono bL.size)
        have N5 := (b45.block w.heap.size hbs4).trans HN4.out
        have hl5 : (M ++ textsE [p]).length ≤ M.length + 65537 := by rw [List.length_append]; have := textsE_length [p]; simp only [List.length_cons, List.length_nil] at this; omega
        clear HNM b5 b45 bN bL HN4 c0 c1 c2 c3 c4 c5 c6 c7
        obtain ⟨c0, c1, c2, c3, c4, c5, c6, c7⟩ := cmB_cells N5
        go_upto_region 12 with fail
        have bN := (Below.refl _ w5).alloc (Nat.le_refl _) (.cells #[.bool x, .bool y] 4)
        have HNM := Lib.hid (flag_list _ (M ++ textsE [p]) w5.heap.size 0 2 [x, y] (w5.alloc (.cells #[.bool x, .bool y] 4)) (B5.below bN).src (by simp) (by simp only [List.length_cons, List.length_nil]; omega)
          (fun j hj => cells_new (by match j, hj with
            | 0, _ => rfl
            | 1, _ => rfl)))
        clear N5 B5
        go_wp2_with fail
        refine HNM.out.mono ?_
        rintro e w6 ⟨v6, rfl, B6, b6⟩
        have bK := bM.trans ((bN.trans (b6.mono bN.size)).mono bM.size)
        rw [← HEN.out] at B6
        have hE0 : 0 < E.length := by rw [HEN.out, List.length_append, flagsE_length]; simp
        have hE1 : E.length ≤ 1000000 := by rw [HEN.out, List.length_append, flagsE_length]; simp only [List.length_cons, List.length_nil]; omega
        have hstr := run_str B6.src
        obtain ⟨g6, cp6, rfl, _⟩ := B6.cut hE0
        clear HNM bN b6 bM B6 HEN
        by_cases h488 : 488 < E.length
        · have hd : decide ((488 : Int) < (E.length : Int)) = true := by simp; omega
          have HZ : Hid (Y = (⟨#[]⟩, 3)) := Lib.hid (by rw [HYH.out, if_pos h488])
          clear h488
          go_wp2_with fail
          go_ret2
          exact ⟨by rw [HZ.out]; rfl, bK⟩
        · have hd : decide ((488 : Int) < (E.length : Int)) = false := by simp; omega
          have HZ : Hid (Y = (⟨E.toArray⟩, 0)) := Lib.hid (by rw [HYH.out, if_neg h488])
          clear h488
          go_wp2_with fail
          go_ret2
          exact ⟨by rw [HZ.out]; rfl, bK⟩
end Go.Proofs.Ytkdbkbfloiponaa
