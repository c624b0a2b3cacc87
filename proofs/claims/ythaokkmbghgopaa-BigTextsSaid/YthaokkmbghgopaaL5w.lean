/- BigTexts: the walk. -/
import Derived.Test.YthaokkmbghgopaaF3
import Derived.Test.YthaokkmbghgopaaC27
import Derived.Test.YthaokkmbghgopaaC28
namespace Go.Proofs.Ythaokkmbghgopaa
open Go.RowKit


set_option maxRecDepth 100000 in
set_option maxHeartbeats 8000000 in
theorem texts_h (an : Bool) (A : Option Addr) (xs : List Nat) (n c : Nat) (s : ByteArray) (us : List Nat) (a r er : Int) (T : ByteArray) (pb : Bool) (w : World) (ha : Hid (Arg w A xs n c)) (hm : Hid (decide (n ≤ 40) = true)) (hs : s.size ≤ 300) (hA : Hid (bigI an xs = a)) (hT : Hid ((⟨(txt a).toArray⟩ : ByteArray) = T)) (hP : Hid (ParN r er s pb us)) :
    Calls Try.prog 5 #[.agg #[.bool an, .slice A n c], .string s] w fun e w' => e = .returned (.bool true) ∧ Plus w w' := by
  have HS : Hid (s.size ≤ 300) := Lib.hid hs
  go_enter Try.func5, Try.ntmps5
  go_wp2_with fail
  refine (first_c _).mono ?_
  rintro e w1 ⟨rfl, ⟨y0, rfl⟩⟩
  go_wp2_with fail
  refine (few_c hm _).mono ?_
  rintro e w1 ⟨rfl, ⟨y1, rfl⟩⟩
  go_wp2_with fail
  refine (parse_n hP _).mono ?_
  rintro e w1 ⟨A1, c1, rfl, a1, ⟨x1, rfl⟩⟩
  replace a1 := Lib.hid a1
  go_wp2_with fail
  refine (rparse_n hP HS _).mono ?_
  rintro e w1 ⟨A2, c2, rfl, a2, ⟨x2, rfl⟩⟩
  replace a2 := Lib.hid a2
  go_wp2_with fail
  refine wp_region_plus (by kernel_rfl) (by kernel_rfl) ?_
  repeat (go_big_quiet_step ((first | (go_at_call 14; with_reducible exact calls_plus (first_c _)) | (go_at_call 48; with_reducible exact calls_plus (text_n hA hT _ (ha.out.plus (by repeat' (first | exact Plus.refl _ | refine Plus.alloc ?_ _ | refine Plus.plus ?_ _ | refine Plus.drew ?_ | refine Plus.drewN ?_ _))))) | (go_at_call 49; with_reducible exact calls_plus (rtext_n hA hT _ (ha.out.plus (by repeat' (first | exact Plus.refl _ | refine Plus.alloc ?_ _ | refine Plus.plus ?_ _ | refine Plus.drew ?_ | refine Plus.drewN ?_ _))))) | (go_at_call 23; with_reducible exact calls_plus (same_big pb A1 A2 us us.length c1 c2 _ (Lib.hid (a1.out.plus (by repeat' (first | exact Plus.refl _ | refine Plus.alloc ?_ _ | refine Plus.plus ?_ _ | refine Plus.drew ?_ | refine Plus.drewN ?_ _)))) (Lib.hid (a2.out.plus (by repeat' (first | exact Plus.refl _ | refine Plus.alloc ?_ _ | refine Plus.plus ?_ _ | refine Plus.drew ?_ | refine Plus.drewN ?_ _)))))))))
  refine wpQuiet_nil ?_
  intro _ hw'
  obtain ⟨x9, rfl⟩ := hw'
  go_wp2_with fail
  go_returns
  refine ⟨by simp, ?_⟩
  repeat' (first | exact Plus.refl _ | refine Plus.alloc ?_ _ | refine Plus.plus ?_ _ | refine Plus.drew ?_ | refine Plus.drewN ?_ _)
set_option maxRecDepth 100000 in
theorem texts_l (an : Bool) (A : Option Addr) (n c : Nat) (s : ByteArray) (w : World) (hf : ¬ (n ≤ 40 ∧ s.size ≤ 300)) :
    Calls Try.prog 5 #[.agg #[.bool an, .slice A n c], .string s] w fun e w' => e = .returned (.bool true) ∧ Plus w w' := by
  obtain ⟨v1, e1⟩ : ∃ v, decide (n ≤ 40) = v := ⟨_, rfl⟩
  have E1 := Lib.hid e1
  cases v1
  · clear e1 hf
    go_enter Try.func5, Try.ntmps5
    go_wp2_with fail
    refine (first_c _).mono ?_
    rintro e w1 ⟨rfl, ⟨y0, rfl⟩⟩
    go_wp2_with fail
    refine (few_c E1 _).mono ?_
    rintro e w1 ⟨rfl, ⟨y1, rfl⟩⟩
    go_wp2_with fail
    refine (first_c _).mono ?_
    rintro e w1 ⟨rfl, ⟨y2, rfl⟩⟩
    go_wp2_with fail
    go_ret
    exact ⟨rfl, (by repeat' (first | exact Plus.refl _ | refine Plus.alloc ?_ _ | refine Plus.plus ?_ _ | refine Plus.drew ?_ | refine Plus.drewN ?_ _))⟩
  · have hl : (300 : Int) < (s.size : Int) := by
      have := of_decide_eq_true e1
      omega
    clear e1 hf
    go_enter Try.func5, Try.ntmps5
    go_wp2_with fail
    refine (first_c _).mono ?_
    rintro e w1 ⟨rfl, ⟨y0, rfl⟩⟩
    go_wp2_with fail
    refine (few_c E1 _).mono ?_
    rintro e w1 ⟨rfl, ⟨y1, rfl⟩⟩
    go_wp2_with fail
    refine (first_c _).mono ?_
    rintro e w1 ⟨rfl, ⟨y2, rfl⟩⟩
    go_wp2_with fail
    go_ret
    exact ⟨rfl, (by repeat' (first | exact Plus.refl _ | refine Plus.alloc ?_ _ | refine Plus.plus ?_ _ | refine Plus.drew ?_ | refine Plus.drewN ?_ _))⟩
theorem nm_rdD {neg : Bool} {d : List UInt8} {z : Int} (h : rdD neg d = .is z) : z.natAbs < B ^ 8 := by
  unfold rdD at h
  by_cases h1 : isCnt d = false ∨ (neg = true ∧ d = [48])
  · rw [if_pos h1] at h
    cases h
  · rw [if_neg h1] at h
    by_cases h2 : B ^ 8 ≤ num d
    · rw [if_pos h2] at h
      cases h
    · rw [if_neg h2] at h
      injection h with h
      rw [← h]
      cases neg
      · simp only [Bool.false_eq_true, if_false]
        omega
      · simp only [if_true]
        omega
theorem nm_parI (l : List UInt8) : (parI l).natAbs < B ^ 8 := by
  unfold parI
  have hr := rd_is l
  cases h : rd l with
  | form => decide
  | long => decide
  | is z =>
    rw [h] at hr
    exact nm_rdD hr.symm
theorem texts_w (an : Bool) (A : Option Addr) (xs : List Nat) (n c : Nat) (s : ByteArray) (w : World) (ha : Raw w A xs n c) : Calls Try.prog 5 #[.agg #[.bool an, .slice A n c], .string s] w fun e w' => e = .returned (.bool true) ∧ Plus w w' := by
  by_cases hf : n ≤ 40 ∧ s.size ≤ 300
  · obtain ⟨f1, f2⟩ := hf
    have m1 := Nm.mk' (nm_parI s.data.toList)
    exact texts_h an A xs n c s _ _ _ _ _ _ w (Lib.hid (ha.arg f1)) (Lib.hid (decide_eq_true f1)) f2 (Lib.hid rfl) (Lib.hid rfl) (Lib.hid ⟨m1, rfl, rfl, by omega⟩)
  · exact texts_l an A n c s w hf
end Go.Proofs.Ythaokkmbghgopaa
