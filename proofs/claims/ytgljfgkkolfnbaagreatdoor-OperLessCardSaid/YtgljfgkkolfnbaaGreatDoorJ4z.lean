/- What sums and the like tell, valid. -/
import Derived.Test.YtgljfgkkolfnbaaGreatDoorOJ
namespace Go.Proofs.YtgljfgkkolfnbaaGreatDoor
open Go.RowKit

theorem add_V (a b c d : Int) : IsV (addR a b c d).k (addR a b c d).n := by
  have h1 := isV_v a b
  have h2 := isV_v c d
  unfold addR
  generalize vk a b = p at h1 ⊢
  generalize vn a b = q at h1 ⊢
  generalize vk c d = r at h2 ⊢
  generalize vn c d = s at h2 ⊢
  unfold addS
  repeat' split
  all_goals first
    | exact ofS_V _
    | exact .inl ⟨rfl, by decide, by decide⟩
    | exact .inr (.inl ⟨rfl, rfl⟩)
    | exact .inr (.inr (.inl ⟨rfl, rfl⟩))
    | exact h1
    | exact h2
    | (rcases h1 with ⟨rfl, _, _⟩ | ⟨rfl, rfl⟩ | ⟨rfl, rfl⟩ | ⟨rfl, rfl⟩ | ⟨rfl, rfl⟩ <;> rcases h2 with ⟨rfl, _, _⟩ | ⟨rfl, rfl⟩ | ⟨rfl, rfl⟩ | ⟨rfl, rfl⟩ | ⟨rfl, rfl⟩ <;> first | exact ofS_V _ | (unfold IsV; simp_all; done) | (unfold IsV; simp_all; omega))
/-- A number, if it is told. -/
def jA (r : Ans) : JV := if r.ok = true then .num r.k r.n else .undef
def tA (r : Ans) : Int := if r.ok = true then 0 else 3
def jB (z : Int) : JV := if z.natAbs < Bg.B ^ 8 then .big z else .undef
def tB (z : Int) : Int := if z.natAbs < Bg.B ^ 8 then 0 else 3
theorem retF_num {x y : Int} {w : World} {e : Ending} {w' : World} (v : IsV x y) (h : e = .returned (.tuple #[Value.agg #[.int .i64 3, .int .i64 x, .int .i64 y, .bool false, .slice none 0 0, .slice none 0 0, .int .i64 0], .int .i64 0]) ∧ Plus w w') : RetF (FJ (.num x y) 0) w e w' :=
  ⟨3, x, y, false, none, none, 0, 0, 0, 0, 0, 0, h.1, ⟨nv_num _ v, rfl⟩, h.2⟩
theorem nv_nil (w : World) : NV w (Value.agg #[.int .i64 0, .int .i64 0, .int .i64 0, .bool false, .slice none 0 0, .slice none 0 0, .int .i64 0]) .undef := ⟨none, none, 0, 0, rfl, by omega, by omega⟩
theorem retF_nil {s : Int} {w : World} {e : Ending} {w' : World} (h : e = .returned (.tuple #[Value.agg #[.int .i64 0, .int .i64 0, .int .i64 0, .bool false, .slice none 0 0, .slice none 0 0, .int .i64 0], .int .i64 s]) ∧ Plus w w') : RetF (FJ .undef s) w e w' :=
  ⟨0, 0, 0, false, none, none, 0, 0, 0, 0, 0, s, h.1, ⟨nv_nil _, rfl⟩, h.2⟩
theorem nums_add_J (a b a2 b2 : Int) (hv : IsV (addR a b a2 b2).k (addR a b a2 b2).n) (w : World) : Calls Tryz.prog 49 #[.string ⟨#[43]⟩, .agg #[.int .i64 a, .int .i64 b], .agg #[.int .i64 a2, .int .i64 b2]] w (RetF (FJ (jA (addR a b a2 b2)) (tA (addR a b a2 b2))) w) := by
  obtain ⟨x, y, o, h⟩ : ∃ x y o, addR a b a2 b2 = ⟨x, y, o⟩ := ⟨_, _, _, rfl⟩
  rw [h] at hv ⊢
  cases o
  · exact (nums_add_n w (Lib.hid h)).mono fun _ _ h => retF_nil h
  · exact (nums_add_y w (Lib.hid h)).mono fun _ _ h => retF_num hv h
theorem nums_sub_J (a b a2 b2 : Int) (hv : IsV (subR a b a2 b2).k (subR a b a2 b2).n) (w : World) : Calls Tryz.prog 49 #[.string ⟨#[45]⟩, .agg #[.int .i64 a, .int .i64 b], .agg #[.int .i64 a2, .int .i64 b2]] w (RetF (FJ (jA (subR a b a2 b2)) (tA (subR a b a2 b2))) w) := by
  obtain ⟨x, y, o, h⟩ : ∃ x y o, subR a b a2 b2 = ⟨x, y, o⟩ := ⟨_, _, _, rfl⟩
  rw [h] at hv ⊢
  cases o
  · exact (nums_sub_n w (Lib.hid h)).mono fun _ _ h => retF_nil h
  · exact (nums_sub_y w (Lib.hid h)).mono fun _ _ h => retF_num hv h
theorem bigs_add_J {ga gb : Bool} {Aa Ab : Option Addr} {xsa xsb : List Nat} {na ca nb cb : Nat} {za zb : Int} (w : World) (h1 : BgV ga Aa xsa na ca za w) (h2 : BgV gb Ab xsb nb cb zb w) : Calls Tryz.prog 47 #[.string ⟨#[43]⟩, .agg #[.bool ga, .slice Aa na ca], .agg #[.bool gb, .slice Ab nb cb]] w (RetF (FJ (jB (za + zb)) (tB (za + zb))) w) := by
  unfold jB tB
  by_cases h : (za + zb).natAbs < Bg.B ^ 8
  · rw [if_pos h, if_pos h]
    exact (bigs_add_y w (Lib.hid h1) (Lib.hid h2) (Lib.hid ⟨Bg.Nm.mk' h, by simp [h], by rw [if_pos h]⟩)).mono fun _ _ h => h.f
  · rw [if_neg h, if_neg h]
    exact (bigs_add_n w (Lib.hid h1) (Lib.hid h2) (Lib.hid ⟨nm0, by simp [h], by rw [if_neg h]⟩)).mono fun _ _ h => retF_nil h
theorem bigs_sub_J {ga gb : Bool} {Aa Ab : Option Addr} {xsa xsb : List Nat} {na ca nb cb : Nat} {za zb : Int} (w : World) (h1 : BgV ga Aa xsa na ca za w) (h2 : BgV gb Ab xsb nb cb zb w) : Calls Tryz.prog 47 #[.string ⟨#[45]⟩, .agg #[.bool ga, .slice Aa na ca], .agg #[.bool gb, .slice Ab nb cb]] w (RetF (FJ (jB (za - zb)) (tB (za - zb))) w) := by
  unfold jB tB
  by_cases h : (za - zb).natAbs < Bg.B ^ 8
  · rw [if_pos h, if_pos h]
    exact (bigs_sub_y w (Lib.hid h1) (Lib.hid h2) (Lib.hid ⟨Bg.Nm.mk' h, by simp [h], by rw [if_pos h]⟩)).mono fun _ _ h => h.f
  · rw [if_neg h, if_neg h]
    exact (bigs_sub_n w (Lib.hid h1) (Lib.hid h2) (Lib.hid ⟨nm0, by simp [h], by rw [if_neg h]⟩)).mono fun _ _ h => retF_nil h
end Go.Proofs.YtgljfgkkolfnbaaGreatDoor
