/- The walk of NumWords. -/
import Derived.Test.YtdmodkmliagiiaaDoorV
import Derived.Test.YtdmodkmliagiiaaDoorQ3
import Derived.Test.YtdmodkmliagiiaaDoorM5
import Derived.Test.YtdmodkmliagiiaaDoorB9
namespace Go.Proofs.YtdmodkmliagiiaaDoor
open Go.RowKit

theorem cells_S9 {W w' : World} {b c : Nat} {k n l m : Int} (hb : Box W b k n) (hc : Box W c l m) (h : Plus W w') : w'.cell? ⟨b, 0, none⟩ = some (.int .i64 k) ∧ w'.cell? ⟨b, 1, none⟩ = some (.int .i64 n) ∧ w'.cell? ⟨c, 0, none⟩ = some (.int .i64 l) ∧ w'.cell? ⟨c, 1, none⟩ = some (.int .i64 m) :=
  ⟨(hb.plus h).1, (hb.plus h).2.1, (hc.plus h).1, (hc.plus h).2.1⟩
theorem cell_plusN {w w' : World} {a : Addr} {v : Value} (h : w.cell? a = some v) (hp : Plus w w') : w'.cell? a = some v := (World.cell?_of_block (w := w) (hp.below.block _ (World.block_lt_of_cell? _ _ h))).trans h
theorem same_self' (k n : Int) : sameR k n k n = true := by simp [sameR]
set_option maxRecDepth 100000 in
set_option maxHeartbeats 16000000 in
theorem words_h (ak an bk bn i u j c d f s : Int) (hi : Hid (i32R ak an = i)) (hu : Hid (wordR ak an = u)) (hj : Hid (i32R bk bn = j)) (g1 : Hid (bitR 3 ak an bk bn = ⟨0, c⟩)) (g2 : Hid (bitR 3 0 c bk bn = ⟨0, i⟩)) (g3 : Hid (bitR 1 ak an bk bn = ⟨0, d⟩)) (g4 : Hid (bitR 2 ak an bk bn = ⟨0, f⟩)) (g5 : Hid (addR 0 d 0 f = ⟨0, s, true⟩)) (g6 : Hid (addR 0 i 0 j = ⟨0, s, true⟩)) (g7 : Hid (bitR 5 ak an 0 0 = ⟨0, i⟩)) (g8 : Hid (bitR 6 ak an 0 0 = ⟨0, u⟩)) (e1 : Hid (sameR 0 s 0 s = true)) (e2 : Hid (sameR 0 i 0 i = true)) (e3 : Hid (sameR 0 u 0 u = true)) (hu0 : 0 ≤ u) (hu1 : u < 4294967296) (hi0 : -2147483648 ≤ i) (hi1 : i < 2147483648) (ht : (u - i).tmod 4294967296 = 0) (w : World) :
    Calls Tryd.prog 9 #[.agg #[.int .i64 ak, .int .i64 an], .agg #[.int .i64 bk, .int .i64 bn]] w fun e w' => e = .returned (.bool true) ∧ Plus w w' := by
  have gA : Box ((w.alloc (.cells #[.int .i64 ak, .int .i64 an] 23)).alloc (.cells #[.int .i64 bk, .int .i64 bn] 23)) w.heap.size ak an := (Box.new w ak an 23).alloc _
  have gB : Box ((w.alloc (.cells #[.int .i64 ak, .int .i64 an] 23)).alloc (.cells #[.int .i64 bk, .int .i64 bn] 23)) (w.heap.size + 1) bk bn := Box.new' (by simp [go_sem])
  go_enter Tryd.func9, Tryd.ntmps9
  go_wp2_with (first | (go_at_call 15; ((with_reducible refine (first_c _).mono ?_); rintro e w1 ⟨rfl, ⟨x1, rfl⟩⟩)))
  refine wp_region_plus (by kernel_rfl) (by kernel_rfl) ?_
  repeat (go_big_quiet_step ((first | (go_at_call 40; with_reducible exact calls_plus (i32_v hi _)) | (go_at_call 42; with_reducible exact calls_plus (u32_v hu _)))))
  refine wpQuiet_nil ?_
  intro _ hw'
  obtain ⟨x9, rfl⟩ := hw'
  go_upto_region 6 with fail
  go_cut [7] (fun s7 wx => ∃ b7, s7 = .pointer (some ⟨b7, 0, none⟩) ∧ Plus w wx ∧ Box wx w.heap.size ak an ∧ Box wx (w.heap.size + 1) bk bn ∧ Box wx b7 0 i)
  case first =>
    go_region_held3 (fun w' => w'.cell? ⟨w.heap.size, 0, none⟩ = some (.int .i64 ak) ∧ w'.cell? ⟨w.heap.size, 1, none⟩ = some (.int .i64 an) ∧ w'.cell? ⟨w.heap.size + 1, 0, none⟩ = some (.int .i64 bk) ∧ w'.cell? ⟨w.heap.size + 1, 1, none⟩ = some (.int .i64 bn)) (exact cells_S9 gA gB (by repeat' (first | exact Plus.refl _ | refine Plus.alloc ?_ _ | refine Plus.plus ?_ _ | refine Plus.drew ?_ | refine Plus.drewN ?_ _))) (first | (go_at_call 46; ((with_reducible refine (bit_v g1 _).mono ?_); rintro e w1 ⟨rfl, ⟨x1, rfl⟩⟩)) | (go_at_call 46; ((with_reducible refine (bit_v g2 _).mono ?_); rintro e w1 ⟨rfl, ⟨x1, rfl⟩⟩)))
    all_goals (go_wp2_with fail; go_meet; refine ⟨_, rfl, ?_, ?_, ?_, ?_⟩)
    all_goals first | ((repeat' (first | exact Plus.refl _ | refine Plus.alloc ?_ _ | refine Plus.plus ?_ _ | refine Plus.drew ?_ | refine Plus.drewN ?_ _)); done) | ((repeat' (first | (refine Box.new' ?_; (simp [go_sem]; done)) | refine Box.alloc ?_ _ | refine Box.grow ?_ _ | refine Box.drew ?_)); done)
  case rest =>
    clear gA gB
    obtain ⟨b7, rfl, hPw, hA, hB, hX⟩ := hcut
    go_upto_region 7 with fail
    go_cut [8, 9] (fun s8 s9 wx => ∃ b8 b9, s8 = .pointer (some ⟨b8, 0, none⟩) ∧ s9 = .pointer (some ⟨b9, 0, none⟩) ∧ Plus w wx ∧ Box wx w.heap.size ak an ∧ Box wx (w.heap.size + 1) bk bn ∧ Box wx b7 0 i ∧ Box wx b8 0 d ∧ Box wx b9 0 f)
    case first =>
      go_region_held3 (fun w' => w'.cell? ⟨w.heap.size, 0, none⟩ = some (.int .i64 ak) ∧ w'.cell? ⟨w.heap.size, 1, none⟩ = some (.int .i64 an) ∧ w'.cell? ⟨w.heap.size + 1, 0, none⟩ = some (.int .i64 bk) ∧ w'.cell? ⟨w.heap.size + 1, 1, none⟩ = some (.int .i64 bn)) (exact cells_S9 hA hB (by repeat' (first | exact Plus.refl _ | refine Plus.alloc ?_ _ | refine Plus.plus ?_ _ | refine Plus.drew ?_ | refine Plus.drewN ?_ _))) (first | (go_at_call 46; ((with_reducible refine (bit_v g3 _).mono ?_); rintro e w1 ⟨rfl, ⟨x1, rfl⟩⟩)) | (go_at_call 46; ((with_reducible refine (bit_v g4 _).mono ?_); rintro e w1 ⟨rfl, ⟨x1, rfl⟩⟩)))
      all_goals (go_wp2_with fail; go_meet; refine ⟨_, _, rfl, rfl, ?_, ?_, ?_, ?_, ?_, ?_⟩)
      all_goals first | ((repeat' (first | exact Plus.refl _ | exact hPw | refine Plus.alloc ?_ _ | refine Plus.plus ?_ _ | refine Plus.drew ?_ | refine Plus.drewN ?_ _)); done) | ((repeat' (first | exact hA | exact hB | exact hX | (refine Box.new' ?_; (simp [go_sem]; done)) | refine Box.alloc ?_ _ | refine Box.grow ?_ _ | refine Box.drew ?_)); done)
    case rest =>
      clear hPw hA hB hX
      obtain ⟨b8, b9, rfl, rfl, hPw, hA, hB, hX, hD, hF⟩ := hcut
      obtain ⟨v0, v1, v2, v3, v4⟩ := id hD
      haveI : Old b8 wc := ⟨v4⟩
      clear v2 v3 v4
      obtain ⟨y0, y1, y2, y3, y4⟩ := id hF
      haveI : Old b9 wc := ⟨y4⟩
      clear y2 y3 y4
      go_upto_region 9 with (first | (go_at_call 16; ((with_reducible refine (add_v g5 _).mono ?_); rintro e w1 ⟨rfl, ⟨x1, rfl⟩⟩)))
      clear v0 v1 y0 y1
      go_cut [10, 11, 12, 13] (fun s10 s11 s12 s13 wx => ∃ b10 b12, s10 = .pointer (some ⟨b10, 0, none⟩) ∧ s11 = .bool true ∧ s12 = .pointer (some ⟨b12, 0, none⟩) ∧ s13 = .bool true ∧ Plus w wx ∧ Box wx w.heap.size ak an ∧ Box wx (w.heap.size + 1) bk bn ∧ Box wx b7 0 i ∧ Box wx b10 0 s ∧ Box wx b12 0 s)
      case first =>
        go_region_held3 (fun w' => w'.cell? ⟨w.heap.size, 0, none⟩ = some (.int .i64 ak) ∧ w'.cell? ⟨w.heap.size, 1, none⟩ = some (.int .i64 an) ∧ w'.cell? ⟨w.heap.size + 1, 0, none⟩ = some (.int .i64 bk) ∧ w'.cell? ⟨w.heap.size + 1, 1, none⟩ = some (.int .i64 bn)) (exact cells_S9 hA hB (by repeat' (first | exact Plus.refl _ | refine Plus.alloc ?_ _ | refine Plus.plus ?_ _ | refine Plus.drew ?_ | refine Plus.drewN ?_ _))) (first | (go_at_call 40; ((with_reducible refine (i32_v hi _).mono ?_); rintro e w1 ⟨rfl, ⟨x1, rfl⟩⟩)) | (go_at_call 40; ((with_reducible refine (i32_v hj _).mono ?_); rintro e w1 ⟨rfl, ⟨x1, rfl⟩⟩)) | (go_at_call 54; ((with_reducible refine (w_c _ _).mono ?_); rintro e w1 ⟨rfl, ⟨x1, rfl⟩⟩)) | (go_at_call 16; ((with_reducible refine (add_v g6 _).mono ?_); rintro e w1 ⟨rfl, ⟨x1, rfl⟩⟩)))
        all_goals (go_wp2_with fail; go_meet; refine ⟨_, _, rfl, rfl, rfl, rfl, ?_, ?_, ?_, ?_, ?_, ?_⟩)
        all_goals first | ((repeat' (first | exact Plus.refl _ | exact hPw | refine Plus.alloc ?_ _ | refine Plus.plus ?_ _ | refine Plus.drew ?_ | refine Plus.drewN ?_ _)); done) | ((repeat' (first | exact hA | exact hB | exact hX | (refine Box.new' ?_; (simp [go_sem]; done)) | refine Box.alloc ?_ _ | refine Box.grow ?_ _ | refine Box.drew ?_)); done)
      case rest =>
        clear hPw hA hB hX hD hF
        obtain ⟨b10, b12, rfl, rfl, rfl, rfl, hPw, hA, hB, hX, hS, hT⟩ := hcut
        obtain ⟨a0, a1, a2, a3, a4⟩ := id hA
        haveI : Old w.heap.size wc := ⟨a4⟩
        clear a2 a3 a4
        obtain ⟨y0, y1, y2, y3, y4⟩ := id hX
        haveI : Old b7 wc := ⟨y4⟩
        clear y2 y3 y4
        obtain ⟨se0, se1, se2, se3, se4⟩ := id hS
        haveI : Old b10 wc := ⟨se4⟩
        clear se2 se3 se4
        obtain ⟨sg_0, sg_1, sg_2, sg_3, sg_4⟩ := id hT
        haveI : Old b12 wc := ⟨sg_4⟩
        clear sg_2 sg_3 sg_4
        go_wp2_with fail
        have Pa0 := fun x : More => cell_plusN a0 (Plus.is x)
        have Pa1 := fun x : More => cell_plusN a1 (Plus.is x)
        have Py0 := fun x : More => cell_plusN y0 (Plus.is x)
        have Py1 := fun x : More => cell_plusN y1 (Plus.is x)
        have Pse0 := fun x : More => cell_plusN se0 (Plus.is x)
        have Pse1 := fun x : More => cell_plusN se1 (Plus.is x)
        have Psg_0 := fun x : More => cell_plusN sg_0 (Plus.is x)
        have Psg_1 := fun x : More => cell_plusN sg_1 (Plus.is x)
        refine wp_region_plus (by kernel_rfl) (by kernel_rfl) ?_
        repeat (go_big_quiet_step ((first | (go_at_call 15; with_reducible exact calls_plus (first_c _)) | (go_at_call_of 36 (Value.agg #[.int .i64 0, .int .i64 s]); with_reducible exact calls_plus (same_v e1 _)) | (go_at_call_of 36 (Value.agg #[.int .i64 0, .int .i64 i]); with_reducible exact calls_plus (same_v e2 _)) | (go_at_call_of 36 (Value.agg #[.int .i64 0, .int .i64 u]); with_reducible exact calls_plus (same_v e3 _)) | (go_at_call 54; with_reducible exact calls_plus (w_c _ _)) | (go_at_call_of 46 (Value.int .i64 5); with_reducible exact calls_plus (bit_v g7 _)) | (go_at_call_of 46 (Value.int .i64 6); with_reducible exact calls_plus (bit_v g8 _)))))
        refine wpQuiet_nil ?_
        intro _ hw'
        obtain ⟨x9, rfl⟩ := hw'
        go_wp2_with fail
        go_returns
        refine ⟨by simp, ?_⟩
        repeat' (first | exact Plus.refl _ | exact hPw | refine Plus.alloc ?_ _ | refine Plus.plus ?_ _ | refine Plus.drew ?_ | refine Plus.drewN ?_ _)

theorem word_sg {z : Int} (h0 : 0 ≤ z) (h1 : z < 4294967296) : wordR 0 (sg z) = z := by
  have hb : -2147483648 ≤ sg z ∧ sg z < 2147483648 := by unfold sg; split <;> omega
  have hv : IsV 0 (sg z) := .inl ⟨rfl, by omega, by omega⟩
  unfold wordR
  rw [vk_of hv, vn_of hv]
  unfold wordS sg
  rw [if_pos rfl]
  split <;> omega
theorem sg_bd {z : Int} (h0 : 0 ≤ z) (h1 : z < 4294967296) : -2147483648 ≤ sg z ∧ sg z < 2147483648 := by unfold sg; split <;> omega
theorem add_small {d f : Int} (h1 : -2147483648 ≤ d ∧ d < 2147483648) (h2 : -2147483648 ≤ f ∧ f < 2147483648) : addR 0 d 0 f = ⟨0, d + f, true⟩ := by
  have v1 : IsV 0 d := .inl ⟨rfl, by omega, by omega⟩
  have v2 : IsV 0 f := .inl ⟨rfl, by omega, by omega⟩
  unfold addR
  rw [vk_of v1, vn_of v1, vk_of v2, vn_of v2]
  simp [addS]
  unfold ofS
  rw [if_pos (by omega)]
theorem bitR_is {op : Int} (k n l m : Int) (h : op = 1 ∨ op = 2 ∨ op = 3 ∨ op = 4 ∨ op = 5 ∨ op = 6) : bitR op k n l m = ⟨0, bitN op (wordR k n) (wordR l m)⟩ := by unfold bitR; rw [if_pos h]
theorem words_w (ak an bk bn : Int) (w : World) : Calls Tryd.prog 9 #[.agg #[.int .i64 ak, .int .i64 an], .agg #[.int .i64 bk, .int .i64 bn]] w fun e w' => e = .returned (.bool true) ∧ Plus w w' := by
  obtain ⟨x0, x1⟩ := word_bd ak an
  obtain ⟨y0, y1⟩ := word_bd bk bn
  have g1 := bitR_is (op := 3) ak an bk bn (by simp)
  have g3 := bitR_is (op := 1) ak an bk bn (by simp)
  have g4 := bitR_is (op := 2) ak an bk bn (by simp)
  have g7 := bitR_is (op := 5) ak an 0 0 (by simp)
  have g8 := bitR_is (op := 6) ak an 0 0 (by simp)
  have z0 : wordR 0 0 = 0 := rfl
  obtain ⟨x, hx⟩ : ∃ x, wordR ak an = x := ⟨_, rfl⟩
  obtain ⟨y, hy⟩ : ∃ y, wordR bk bn = y := ⟨_, rfl⟩
  have g2 := bitR_is (op := 3) 0 (bitN 3 x y) bk bn (by simp)
  rw [hx, hy] at g1 g3 g4
  rw [hx, z0] at g7 g8
  rw [hx] at x0 x1
  rw [hy] at y0 y1 g2
  have hX : ((x.toNat ^^^ y.toNat : Nat) : Int) < 4294967296 := by have := @xor_lt x.toNat y.toNat (by omega) (by omega); omega
  have hA : ((x.toNat &&& y.toNat : Nat) : Int) < 4294967296 := by have := @and_lt x.toNat y.toNat (by omega); omega
  have hO : ((x.toNat ||| y.toNat : Nat) : Int) < 4294967296 := by have := @or_lt x.toNat y.toNat (by omega) (by omega); omega
  have w2 : wordR 0 (bitN 3 x y) = ((x.toNat ^^^ y.toNat : Nat) : Int) := by rw [bitN3]; exact word_sg (by omega) hX
  have xx : ((x.toNat : Nat) : Int) = x := by omega
  have yy : ((y.toNat : Nat) : Int) = y := by omega
  have b2 : bitN 3 ((x.toNat ^^^ y.toNat : Nat) : Int) y = sg x := by
    rw [bitN3, Int.toNat_natCast, xor_back, xx]
  rw [w2, b2] at g2
  have b5 : bitN 5 x 0 = sg x := by rw [bitN5]; simp
  have b6 : bitN 6 x 0 = x := by rw [bitN6]; simp
  rw [b5] at g7
  rw [b6] at g8
  have bx := sg_bd x0 x1
  have bd1 : -2147483648 ≤ bitN 1 x y ∧ bitN 1 x y < 2147483648 := by rw [bitN1]; exact sg_bd (by omega) hA
  have bd2 : -2147483648 ≤ bitN 2 x y ∧ bitN 2 x y < 2147483648 := by rw [bitN2]; exact sg_bd (by omega) hO
  have sum : bitN 1 x y + bitN 2 x y = sg x + sg y := by
    rw [bitN1, bitN2, sg_and_or (by omega) (by omega), xx, yy]
  have g5 := add_small bd1 bd2
  have g6 := add_small bx (sg_bd y0 y1)
  rw [← sum] at g6
  have ht : (x - sg x).tmod 4294967296 = 0 := by
    unfold sg
    split
    · simp
    · rw [show x - (x - 4294967296) = 4294967296 by omega]; rfl
  exact words_h ak an bk bn (sg x) x (sg y) (bitN 3 x y) (bitN 1 x y) (bitN 2 x y) (bitN 1 x y + bitN 2 x y)
    (by rw [sg_i32, hx]; exact rfl) hx (by rw [sg_i32, hy]; exact rfl) g1 g2 g3 g4 g5 g6 g7 g8 (same_self' _ _) (same_self' _ _) (same_self' _ _) x0 x1 bx.1 bx.2 ht w
end Go.Proofs.YtdmodkmliagiiaaDoor
