/- Contracts: words. -/
import Derived.Test.YtaigkjffglbknaaDoorA1
namespace Go.Proofs.YtaigkjffglbknaaDoor
open Go.RowKit


theorem word_hit {s : ByteArray} {l : List UInt8} {g : List UInt8 → Nat} {v : Nat} (h : (s.toList == l) = true) (e : g l = v) : g s.data.toList = v := by
  rw [toList_data] at h
  rw [eq_of_beq h, e]
theorem word_miss {s : ByteArray} {l : List UInt8} (h : Hid ((s.toList == l) = false)) : (s.data.toList == l) = false := by
  have h := h.out
  rw [toList_data] at h
  exact h
theorem contains_cons' {s x : List UInt8} {r : List (List UInt8)} (h : (s == x) = false) (h2 : r.contains s = false) : (x :: r).contains s = false := by
  rw [List.contains_cons, h, h2]; rfl

set_option maxRecDepth 100000 in
set_option maxHeartbeats 8000000 in
theorem word_c (s : ByteArray) (w : World) : Calls Tryd.prog 12 #[.string s] w fun e w' => e = .returned (.int .i64 (wordN s.data.toList)) ∧ w = w' := by
  have hm : ∀ v : Nat, wordN s.data.toList = v → (Value.int .i64 (v : Int)) = .int .i64 (wordN s.data.toList) := fun b h => by rw [h]
  have HM := Lib.hid hm; clear hm
  go_enter Tryd.func12, Tryd.ntmps12
  go_upto_region 2 with (fail)
  by_cases k0 : (s.toList == [98, 114, 101, 97, 107]) = true
  · go_wp2
    go_ret
    exact ⟨congrArg Ending.returned (HM.out 1 (word_hit (g := wordN) k0 (by decide))), rfl⟩
  have q0 : (s.toList == [98, 114, 101, 97, 107]) = false := by simpa using k0
  clear k0
  go_upto_region 3 with (fail)
  have K0 := Lib.hid q0
  clear q0
  by_cases k1 : (s.toList == [99, 97, 116, 99, 104]) = true
  · go_wp2
    go_ret
    exact ⟨congrArg Ending.returned (HM.out 1 (word_hit (g := wordN) k1 (by decide))), rfl⟩
  have q1 : (s.toList == [99, 97, 116, 99, 104]) = false := by simpa using k1
  clear k1
  go_upto_region 4 with (fail)
  have K1 := Lib.hid q1
  clear q1
  by_cases k2 : (s.toList == [99, 111, 110, 115, 116]) = true
  · go_wp2
    go_ret
    exact ⟨congrArg Ending.returned (HM.out 1 (word_hit (g := wordN) k2 (by decide))), rfl⟩
  have q2 : (s.toList == [99, 111, 110, 115, 116]) = false := by simpa using k2
  clear k2
  go_upto_region 5 with (fail)
  have K2 := Lib.hid q2
  clear q2
  by_cases k3 : (s.toList == [99, 111, 110, 116, 105, 110, 117, 101]) = true
  · go_wp2
    go_ret
    exact ⟨congrArg Ending.returned (HM.out 1 (word_hit (g := wordN) k3 (by decide))), rfl⟩
  have q3 : (s.toList == [99, 111, 110, 116, 105, 110, 117, 101]) = false := by simpa using k3
  clear k3
  go_upto_region 6 with (fail)
  have K3 := Lib.hid q3
  clear q3
  by_cases k4 : (s.toList == [101, 108, 115, 101]) = true
  · go_wp2
    go_ret
    exact ⟨congrArg Ending.returned (HM.out 1 (word_hit (g := wordN) k4 (by decide))), rfl⟩
  have q4 : (s.toList == [101, 108, 115, 101]) = false := by simpa using k4
  clear k4
  go_upto_region 7 with (fail)
  have K4 := Lib.hid q4
  clear q4
  by_cases k5 : (s.toList == [102, 97, 108, 115, 101]) = true
  · go_wp2
    go_ret
    exact ⟨congrArg Ending.returned (HM.out 1 (word_hit (g := wordN) k5 (by decide))), rfl⟩
  have q5 : (s.toList == [102, 97, 108, 115, 101]) = false := by simpa using k5
  clear k5
  go_upto_region 8 with (fail)
  have K5 := Lib.hid q5
  clear q5
  by_cases k6 : (s.toList == [102, 105, 110, 97, 108, 108, 121]) = true
  · go_wp2
    go_ret
    exact ⟨congrArg Ending.returned (HM.out 1 (word_hit (g := wordN) k6 (by decide))), rfl⟩
  have q6 : (s.toList == [102, 105, 110, 97, 108, 108, 121]) = false := by simpa using k6
  clear k6
  go_upto_region 9 with (fail)
  have K6 := Lib.hid q6
  clear q6
  by_cases k7 : (s.toList == [102, 111, 114]) = true
  · go_wp2
    go_ret
    exact ⟨congrArg Ending.returned (HM.out 1 (word_hit (g := wordN) k7 (by decide))), rfl⟩
  have q7 : (s.toList == [102, 111, 114]) = false := by simpa using k7
  clear k7
  go_upto_region 10 with (fail)
  have K7 := Lib.hid q7
  clear q7
  by_cases k8 : (s.toList == [102, 117, 110, 99, 116, 105, 111, 110]) = true
  · go_wp2
    go_ret
    exact ⟨congrArg Ending.returned (HM.out 1 (word_hit (g := wordN) k8 (by decide))), rfl⟩
  have q8 : (s.toList == [102, 117, 110, 99, 116, 105, 111, 110]) = false := by simpa using k8
  clear k8
  go_upto_region 11 with (fail)
  have K8 := Lib.hid q8
  clear q8
  by_cases k9 : (s.toList == [105, 102]) = true
  · go_wp2
    go_ret
    exact ⟨congrArg Ending.returned (HM.out 1 (word_hit (g := wordN) k9 (by decide))), rfl⟩
  have q9 : (s.toList == [105, 102]) = false := by simpa using k9
  clear k9
  go_upto_region 12 with (fail)
  have K9 := Lib.hid q9
  clear q9
  by_cases k10 : (s.toList == [105, 110]) = true
  · go_wp2
    go_ret
    exact ⟨congrArg Ending.returned (HM.out 1 (word_hit (g := wordN) k10 (by decide))), rfl⟩
  have q10 : (s.toList == [105, 110]) = false := by simpa using k10
  clear k10
  go_upto_region 13 with (fail)
  have K10 := Lib.hid q10
  clear q10
  by_cases k11 : (s.toList == [108, 101, 116]) = true
  · go_wp2
    go_ret
    exact ⟨congrArg Ending.returned (HM.out 1 (word_hit (g := wordN) k11 (by decide))), rfl⟩
  have q11 : (s.toList == [108, 101, 116]) = false := by simpa using k11
  clear k11
  go_upto_region 14 with (fail)
  have K11 := Lib.hid q11
  clear q11
  by_cases k12 : (s.toList == [110, 101, 119]) = true
  · go_wp2
    go_ret
    exact ⟨congrArg Ending.returned (HM.out 1 (word_hit (g := wordN) k12 (by decide))), rfl⟩
  have q12 : (s.toList == [110, 101, 119]) = false := by simpa using k12
  clear k12
  go_upto_region 15 with (fail)
  have K12 := Lib.hid q12
  clear q12
  by_cases k13 : (s.toList == [110, 117, 108, 108]) = true
  · go_wp2
    go_ret
    exact ⟨congrArg Ending.returned (HM.out 1 (word_hit (g := wordN) k13 (by decide))), rfl⟩
  have q13 : (s.toList == [110, 117, 108, 108]) = false := by simpa using k13
  clear k13
  go_upto_region 16 with (fail)
  have K13 := Lib.hid q13
  clear q13
  by_cases k14 : (s.toList == [114, 101, 116, 117, 114, 110]) = true
  · go_wp2
    go_ret
    exact ⟨congrArg Ending.returned (HM.out 1 (word_hit (g := wordN) k14 (by decide))), rfl⟩
  have q14 : (s.toList == [114, 101, 116, 117, 114, 110]) = false := by simpa using k14
  clear k14
  go_upto_region 17 with (fail)
  have K14 := Lib.hid q14
  clear q14
  by_cases k15 : (s.toList == [116, 104, 105, 115]) = true
  · go_wp2
    go_ret
    exact ⟨congrArg Ending.returned (HM.out 1 (word_hit (g := wordN) k15 (by decide))), rfl⟩
  have q15 : (s.toList == [116, 104, 105, 115]) = false := by simpa using k15
  clear k15
  go_upto_region 18 with (fail)
  have K15 := Lib.hid q15
  clear q15
  by_cases k16 : (s.toList == [116, 104, 114, 111, 119]) = true
  · go_wp2
    go_ret
    exact ⟨congrArg Ending.returned (HM.out 1 (word_hit (g := wordN) k16 (by decide))), rfl⟩
  have q16 : (s.toList == [116, 104, 114, 111, 119]) = false := by simpa using k16
  clear k16
  go_upto_region 19 with (fail)
  have K16 := Lib.hid q16
  clear q16
  by_cases k17 : (s.toList == [116, 114, 117, 101]) = true
  · go_wp2
    go_ret
    exact ⟨congrArg Ending.returned (HM.out 1 (word_hit (g := wordN) k17 (by decide))), rfl⟩
  have q17 : (s.toList == [116, 114, 117, 101]) = false := by simpa using k17
  clear k17
  go_upto_region 20 with (fail)
  have K17 := Lib.hid q17
  clear q17
  by_cases k18 : (s.toList == [116, 114, 121]) = true
  · go_wp2
    go_ret
    exact ⟨congrArg Ending.returned (HM.out 1 (word_hit (g := wordN) k18 (by decide))), rfl⟩
  have q18 : (s.toList == [116, 114, 121]) = false := by simpa using k18
  clear k18
  go_upto_region 21 with (fail)
  have K18 := Lib.hid q18
  clear q18
  by_cases k19 : (s.toList == [116, 121, 112, 101, 111, 102]) = true
  · go_wp2
    go_ret
    exact ⟨congrArg Ending.returned (HM.out 1 (word_hit (g := wordN) k19 (by decide))), rfl⟩
  have q19 : (s.toList == [116, 121, 112, 101, 111, 102]) = false := by simpa using k19
  clear k19
  go_upto_region 22 with (fail)
  have K19 := Lib.hid q19
  clear q19
  by_cases k20 : (s.toList == [118, 111, 105, 100]) = true
  · go_wp2
    go_ret
    exact ⟨congrArg Ending.returned (HM.out 1 (word_hit (g := wordN) k20 (by decide))), rfl⟩
  have q20 : (s.toList == [118, 111, 105, 100]) = false := by simpa using k20
  clear k20
  go_upto_region 23 with (fail)
  have K20 := Lib.hid q20
  clear q20
  by_cases k21 : (s.toList == [119, 104, 105, 108, 101]) = true
  · go_wp2
    go_ret
    exact ⟨congrArg Ending.returned (HM.out 1 (word_hit (g := wordN) k21 (by decide))), rfl⟩
  have q21 : (s.toList == [119, 104, 105, 108, 101]) = false := by simpa using k21
  clear k21
  go_upto_region 25 with (fail)
  have K21 := Lib.hid q21
  clear q21
  by_cases k22 : (s.toList == [97, 114, 103, 117, 109, 101, 110, 116, 115]) = true
  · go_wp2
    go_ret
    exact ⟨congrArg Ending.returned (HM.out 2 (word_hit (g := wordN) k22 (by decide))), rfl⟩
  have q22 : (s.toList == [97, 114, 103, 117, 109, 101, 110, 116, 115]) = false := by simpa using k22
  clear k22
  go_upto_region 26 with (fail)
  have K22 := Lib.hid q22
  clear q22
  by_cases k23 : (s.toList == [97, 115, 121, 110, 99]) = true
  · go_wp2
    go_ret
    exact ⟨congrArg Ending.returned (HM.out 2 (word_hit (g := wordN) k23 (by decide))), rfl⟩
  have q23 : (s.toList == [97, 115, 121, 110, 99]) = false := by simpa using k23
  clear k23
  go_upto_region 27 with (fail)
  have K23 := Lib.hid q23
  clear q23
  by_cases k24 : (s.toList == [97, 119, 97, 105, 116]) = true
  · go_wp2
    go_ret
    exact ⟨congrArg Ending.returned (HM.out 2 (word_hit (g := wordN) k24 (by decide))), rfl⟩
  have q24 : (s.toList == [97, 119, 97, 105, 116]) = false := by simpa using k24
  clear k24
  go_upto_region 28 with (fail)
  have K24 := Lib.hid q24
  clear q24
  by_cases k25 : (s.toList == [99, 97, 115, 101]) = true
  · go_wp2
    go_ret
    exact ⟨congrArg Ending.returned (HM.out 2 (word_hit (g := wordN) k25 (by decide))), rfl⟩
  have q25 : (s.toList == [99, 97, 115, 101]) = false := by simpa using k25
  clear k25
  go_upto_region 29 with (fail)
  have K25 := Lib.hid q25
  clear q25
  by_cases k26 : (s.toList == [99, 108, 97, 115, 115]) = true
  · go_wp2
    go_ret
    exact ⟨congrArg Ending.returned (HM.out 2 (word_hit (g := wordN) k26 (by decide))), rfl⟩
  have q26 : (s.toList == [99, 108, 97, 115, 115]) = false := by simpa using k26
  clear k26
  go_upto_region 30 with (fail)
  have K26 := Lib.hid q26
  clear q26
  by_cases k27 : (s.toList == [100, 101, 98, 117, 103, 103, 101, 114]) = true
  · go_wp2
    go_ret
    exact ⟨congrArg Ending.returned (HM.out 2 (word_hit (g := wordN) k27 (by decide))), rfl⟩
  have q27 : (s.toList == [100, 101, 98, 117, 103, 103, 101, 114]) = false := by simpa using k27
  clear k27
  go_upto_region 31 with (fail)
  have K27 := Lib.hid q27
  clear q27
  by_cases k28 : (s.toList == [100, 101, 102, 97, 117, 108, 116]) = true
  · go_wp2
    go_ret
    exact ⟨congrArg Ending.returned (HM.out 2 (word_hit (g := wordN) k28 (by decide))), rfl⟩
  have q28 : (s.toList == [100, 101, 102, 97, 117, 108, 116]) = false := by simpa using k28
  clear k28
  go_upto_region 32 with (fail)
  have K28 := Lib.hid q28
  clear q28
  by_cases k29 : (s.toList == [100, 101, 108, 101, 116, 101]) = true
  · go_wp2
    go_ret
    exact ⟨congrArg Ending.returned (HM.out 2 (word_hit (g := wordN) k29 (by decide))), rfl⟩
  have q29 : (s.toList == [100, 101, 108, 101, 116, 101]) = false := by simpa using k29
  clear k29
  go_upto_region 33 with (fail)
  have K29 := Lib.hid q29
  clear q29
  by_cases k30 : (s.toList == [100, 111]) = true
  · go_wp2
    go_ret
    exact ⟨congrArg Ending.returned (HM.out 2 (word_hit (g := wordN) k30 (by decide))), rfl⟩
  have q30 : (s.toList == [100, 111]) = false := by simpa using k30
  clear k30
  go_upto_region 34 with (fail)
  have K30 := Lib.hid q30
  clear q30
  by_cases k31 : (s.toList == [101, 110, 117, 109]) = true
  · go_wp2
    go_ret
    exact ⟨congrArg Ending.returned (HM.out 2 (word_hit (g := wordN) k31 (by decide))), rfl⟩
  have q31 : (s.toList == [101, 110, 117, 109]) = false := by simpa using k31
  clear k31
  go_upto_region 35 with (fail)
  have K31 := Lib.hid q31
  clear q31
  by_cases k32 : (s.toList == [101, 118, 97, 108]) = true
  · go_wp2
    go_ret
    exact ⟨congrArg Ending.returned (HM.out 2 (word_hit (g := wordN) k32 (by decide))), rfl⟩
  have q32 : (s.toList == [101, 118, 97, 108]) = false := by simpa using k32
  clear k32
  go_upto_region 36 with (fail)
  have K32 := Lib.hid q32
  clear q32
  by_cases k33 : (s.toList == [101, 120, 112, 111, 114, 116]) = true
  · go_wp2
    go_ret
    exact ⟨congrArg Ending.returned (HM.out 2 (word_hit (g := wordN) k33 (by decide))), rfl⟩
  have q33 : (s.toList == [101, 120, 112, 111, 114, 116]) = false := by simpa using k33
  clear k33
  go_upto_region 37 with (fail)
  have K33 := Lib.hid q33
  clear q33
  by_cases k34 : (s.toList == [101, 120, 116, 101, 110, 100, 115]) = true
  · go_wp2
    go_ret
    exact ⟨congrArg Ending.returned (HM.out 2 (word_hit (g := wordN) k34 (by decide))), rfl⟩
  have q34 : (s.toList == [101, 120, 116, 101, 110, 100, 115]) = false := by simpa using k34
  clear k34
  go_upto_region 38 with (fail)
  have K34 := Lib.hid q34
  clear q34
  by_cases k35 : (s.toList == [105, 109, 112, 108, 101, 109, 101, 110, 116, 115]) = true
  · go_wp2
    go_ret
    exact ⟨congrArg Ending.returned (HM.out 2 (word_hit (g := wordN) k35 (by decide))), rfl⟩
  have q35 : (s.toList == [105, 109, 112, 108, 101, 109, 101, 110, 116, 115]) = false := by simpa using k35
  clear k35
  go_upto_region 39 with (fail)
  have K35 := Lib.hid q35
  clear q35
  by_cases k36 : (s.toList == [105, 109, 112, 111, 114, 116]) = true
  · go_wp2
    go_ret
    exact ⟨congrArg Ending.returned (HM.out 2 (word_hit (g := wordN) k36 (by decide))), rfl⟩
  have q36 : (s.toList == [105, 109, 112, 111, 114, 116]) = false := by simpa using k36
  clear k36
  go_upto_region 40 with (fail)
  have K36 := Lib.hid q36
  clear q36
  by_cases k37 : (s.toList == [105, 110, 115, 116, 97, 110, 99, 101, 111, 102]) = true
  · go_wp2
    go_ret
    exact ⟨congrArg Ending.returned (HM.out 2 (word_hit (g := wordN) k37 (by decide))), rfl⟩
  have q37 : (s.toList == [105, 110, 115, 116, 97, 110, 99, 101, 111, 102]) = false := by simpa using k37
  clear k37
  go_upto_region 41 with (fail)
  have K37 := Lib.hid q37
  clear q37
  by_cases k38 : (s.toList == [105, 110, 116, 101, 114, 102, 97, 99, 101]) = true
  · go_wp2
    go_ret
    exact ⟨congrArg Ending.returned (HM.out 2 (word_hit (g := wordN) k38 (by decide))), rfl⟩
  have q38 : (s.toList == [105, 110, 116, 101, 114, 102, 97, 99, 101]) = false := by simpa using k38
  clear k38
  go_upto_region 42 with (fail)
  have K38 := Lib.hid q38
  clear q38
  by_cases k39 : (s.toList == [112, 97, 99, 107, 97, 103, 101]) = true
  · go_wp2
    go_ret
    exact ⟨congrArg Ending.returned (HM.out 2 (word_hit (g := wordN) k39 (by decide))), rfl⟩
  have q39 : (s.toList == [112, 97, 99, 107, 97, 103, 101]) = false := by simpa using k39
  clear k39
  go_upto_region 43 with (fail)
  have K39 := Lib.hid q39
  clear q39
  by_cases k40 : (s.toList == [112, 114, 105, 118, 97, 116, 101]) = true
  · go_wp2
    go_ret
    exact ⟨congrArg Ending.returned (HM.out 2 (word_hit (g := wordN) k40 (by decide))), rfl⟩
  have q40 : (s.toList == [112, 114, 105, 118, 97, 116, 101]) = false := by simpa using k40
  clear k40
  go_upto_region 44 with (fail)
  have K40 := Lib.hid q40
  clear q40
  by_cases k41 : (s.toList == [112, 114, 111, 116, 101, 99, 116, 101, 100]) = true
  · go_wp2
    go_ret
    exact ⟨congrArg Ending.returned (HM.out 2 (word_hit (g := wordN) k41 (by decide))), rfl⟩
  have q41 : (s.toList == [112, 114, 111, 116, 101, 99, 116, 101, 100]) = false := by simpa using k41
  clear k41
  go_upto_region 45 with (fail)
  have K41 := Lib.hid q41
  clear q41
  by_cases k42 : (s.toList == [112, 117, 98, 108, 105, 99]) = true
  · go_wp2
    go_ret
    exact ⟨congrArg Ending.returned (HM.out 2 (word_hit (g := wordN) k42 (by decide))), rfl⟩
  have q42 : (s.toList == [112, 117, 98, 108, 105, 99]) = false := by simpa using k42
  clear k42
  go_upto_region 46 with (fail)
  have K42 := Lib.hid q42
  clear q42
  by_cases k43 : (s.toList == [115, 116, 97, 116, 105, 99]) = true
  · go_wp2
    go_ret
    exact ⟨congrArg Ending.returned (HM.out 2 (word_hit (g := wordN) k43 (by decide))), rfl⟩
  have q43 : (s.toList == [115, 116, 97, 116, 105, 99]) = false := by simpa using k43
  clear k43
  go_upto_region 47 with (fail)
  have K43 := Lib.hid q43
  clear q43
  by_cases k44 : (s.toList == [115, 117, 112, 101, 114]) = true
  · go_wp2
    go_ret
    exact ⟨congrArg Ending.returned (HM.out 2 (word_hit (g := wordN) k44 (by decide))), rfl⟩
  have q44 : (s.toList == [115, 117, 112, 101, 114]) = false := by simpa using k44
  clear k44
  go_upto_region 48 with (fail)
  have K44 := Lib.hid q44
  clear q44
  by_cases k45 : (s.toList == [115, 119, 105, 116, 99, 104]) = true
  · go_wp2
    go_ret
    exact ⟨congrArg Ending.returned (HM.out 2 (word_hit (g := wordN) k45 (by decide))), rfl⟩
  have q45 : (s.toList == [115, 119, 105, 116, 99, 104]) = false := by simpa using k45
  clear k45
  go_upto_region 49 with (fail)
  have K45 := Lib.hid q45
  clear q45
  by_cases k46 : (s.toList == [118, 97, 114]) = true
  · go_wp2
    go_ret
    exact ⟨congrArg Ending.returned (HM.out 2 (word_hit (g := wordN) k46 (by decide))), rfl⟩
  have q46 : (s.toList == [118, 97, 114]) = false := by simpa using k46
  clear k46
  go_upto_region 50 with (fail)
  have K46 := Lib.hid q46
  clear q46
  by_cases k47 : (s.toList == [119, 105, 116, 104]) = true
  · go_wp2
    go_ret
    exact ⟨congrArg Ending.returned (HM.out 2 (word_hit (g := wordN) k47 (by decide))), rfl⟩
  have q47 : (s.toList == [119, 105, 116, 104]) = false := by simpa using k47
  clear k47
  go_upto_region 51 with (fail)
  have K47 := Lib.hid q47
  clear q47
  by_cases k48 : (s.toList == [121, 105, 101, 108, 100]) = true
  · go_wp2
    go_ret
    exact ⟨congrArg Ending.returned (HM.out 2 (word_hit (g := wordN) k48 (by decide))), rfl⟩
  have q48 : (s.toList == [121, 105, 101, 108, 100]) = false := by simpa using k48
  clear k48
  go_wp2
  go_ret
  have K48 := Lib.hid q48
  clear q48
  refine ⟨congrArg Ending.returned (HM.out 0 ?_), rfl⟩
  unfold wordN
  rw [if_neg, if_neg]
  · exact (Bool.not_eq_true _).mpr (contains_cons' (word_miss K22) (contains_cons' (word_miss K23) (contains_cons' (word_miss K24) (contains_cons' (word_miss K25) (contains_cons' (word_miss K26) (contains_cons' (word_miss K27) (contains_cons' (word_miss K28) (contains_cons' (word_miss K29) (contains_cons' (word_miss K30) (contains_cons' (word_miss K31) (contains_cons' (word_miss K32) (contains_cons' (word_miss K33) (contains_cons' (word_miss K34) (contains_cons' (word_miss K35) (contains_cons' (word_miss K36) (contains_cons' (word_miss K37) (contains_cons' (word_miss K38) (contains_cons' (word_miss K39) (contains_cons' (word_miss K40) (contains_cons' (word_miss K41) (contains_cons' (word_miss K42) (contains_cons' (word_miss K43) (contains_cons' (word_miss K44) (contains_cons' (word_miss K45) (contains_cons' (word_miss K46) (contains_cons' (word_miss K47) (contains_cons' (word_miss K48) (by rfl))))))))))))))))))))))))))))
  · exact (Bool.not_eq_true _).mpr (contains_cons' (word_miss K0) (contains_cons' (word_miss K1) (contains_cons' (word_miss K2) (contains_cons' (word_miss K3) (contains_cons' (word_miss K4) (contains_cons' (word_miss K5) (contains_cons' (word_miss K6) (contains_cons' (word_miss K7) (contains_cons' (word_miss K8) (contains_cons' (word_miss K9) (contains_cons' (word_miss K10) (contains_cons' (word_miss K11) (contains_cons' (word_miss K12) (contains_cons' (word_miss K13) (contains_cons' (word_miss K14) (contains_cons' (word_miss K15) (contains_cons' (word_miss K16) (contains_cons' (word_miss K17) (contains_cons' (word_miss K18) (contains_cons' (word_miss K19) (contains_cons' (word_miss K20) (contains_cons' (word_miss K21) (by rfl)))))))))))))))))))))))
end Go.Proofs.YtaigkjffglbknaaDoor
