/- The document's Parse at every text; the walk of NumTexts. -/
import Derived.Lib.Hide
import Derived.Deep.QuietTactic
import Derived.BigQuiet
import Derived.Test.YtdmodkmliagiiaaDoorX3
namespace Go.Proofs.YtdmodkmliagiiaaDoor
open Go.RowKit


theorem lit_eq (l : List UInt8) (s : ByteArray) : (l == s.toList) = decide (l = s.data.toList) := by
  rw [toList_data, Bool.eq_iff_iff]
  simp
theorem itoa_0l : Lib.itoa 0 = [48] := by
  unfold Lib.itoa
  rw [if_neg (by decide)]
  exact Lib.decDigits_one (by decide)
theorem rparse_c (s : ByteArray) (w : World) : Calls Tryd.prog 49 #[.string s] w fun e w' => e = .returned (.tuple #[.agg #[.int .i64 (parS s.data.toList).k, .int .i64 (parS s.data.toList).n], .bool (parS s.data.toList).ok]) ∧ Plus w w' := by
  have T2 : Hid ((⟨(txtR 2 0).toArray⟩ : ByteArray) = ⟨#[78, 97, 78]⟩) := Lib.hid (by kernel_rfl)
  have T3 : Hid ((⟨(txtR 3 0).toArray⟩ : ByteArray) = ⟨#[73, 110, 102, 105, 110, 105, 116, 121]⟩) := Lib.hid (by kernel_rfl)
  have T4 : Hid ((⟨(txtR 4 0).toArray⟩ : ByteArray) = ⟨#[45, 73, 110, 102, 105, 110, 105, 116, 121]⟩) := Lib.hid (by kernel_rfl)
  by_cases a2 : s.data.toList = [78, 97, 78]
  · rw [show parS s.data.toList = ⟨2, 0, true⟩ by rw [a2]; rfl]
    exact rparse_n2 s w T2 (by rw [lit_eq, a2]; exact decide_eq_true rfl)
  have h2 : (([78, 97, 78] : List UInt8) == s.toList) = false := by rw [lit_eq]; exact decide_eq_false fun e => a2 e.symm
  by_cases a3 : s.data.toList = [73, 110, 102, 105, 110, 105, 116, 121]
  · rw [show parS s.data.toList = ⟨3, 0, true⟩ by rw [a3]; rfl]
    exact rparse_n3 s w T2 T3 h2 (by rw [lit_eq, a3]; exact decide_eq_true rfl)
  have h3 : (([73, 110, 102, 105, 110, 105, 116, 121] : List UInt8) == s.toList) = false := by rw [lit_eq]; exact decide_eq_false fun e => a3 e.symm
  by_cases a4 : s.data.toList = [45, 73, 110, 102, 105, 110, 105, 116, 121]
  · rw [show parS s.data.toList = ⟨4, 0, true⟩ by rw [a4]; rfl]
    exact rparse_n4 s w T2 T3 T4 h2 h3 (by rw [lit_eq, a4]; exact decide_eq_true rfl)
  have h4 : (([45, 73, 110, 102, 105, 110, 105, 116, 121] : List UInt8) == s.toList) = false := by rw [lit_eq]; exact decide_eq_false fun e => a4 e.symm
  rw [par_ref a2 a3 a4]
  have hsl : s.data.toList.length = s.size := by simp
  have hq : ∀ n : Int, ((⟨(Lib.itoa n).toArray⟩ : ByteArray).toList == s.toList) = decide (Lib.itoa n = s.data.toList) := fun n => data_eq2 s _
  by_cases hz : s.size = 0
  · have hl : s.data.toList = [] := List.eq_nil_of_length_eq_zero (by omega)
    have hR : refN s.data.toList = 0 := by rw [hl]; rfl
    have hne : ¬ Lib.itoa 0 = s.data.toList := by rw [itoa_0l, hl]; simp
    rw [hR, if_neg (fun h => hne h.2)]
    exact rparse_z0 s w T2 T3 T4 h2 h3 h4 hz (by simp; omega) 0 0 (Lib.hid (by rfl)) _ (Lib.hid rfl) (by rw [hq]; exact decide_eq_false hne)
  have hz' : 0 < s.size := by omega
  have hhd : s.data.toList.head? = some (s[0]'hz') := by
    have h0 : 0 < s.data.toList.length := by omega
    rw [List.head?_eq_getElem?, List.getElem?_eq_getElem h0]
    rfl
  have h45 : ∀ b : Bool, decide (s.data.toList.head? = some 45) = b → (((s[0]'hz').toNat : Int) == 45) = b := fun b hb => by
    rw [← hb, hhd, Bool.eq_iff_iff]
    simp
    constructor
    · intro e
      exact UInt8.toNat_inj.1 (by show (s[0]'hz').toNat = 45; omega)
    · intro e
      rw [e]
      rfl
  by_cases h18 : s.size < 18
  · have d18 : decide ((s.size : Int) < 18) = true := by simp; omega
    have hfd := fdg_lt 18 s.data.toList (by omega)
    by_cases hg : s.data.toList.head? = some 45
    · have hR : refN s.data.toList = -(fdg s.data.toList : Int) := by unfold refN; rw [if_pos (by omega), if_pos hg]
      rw [hR]
      obtain ⟨⟨k, m, o⟩, hO⟩ : ∃ x, ofS (-(fdg s.data.toList : Int)) = x := ⟨_, rfl⟩
      rw [hO]
      have h5 := h45 true (decide_eq_true hg)
      cases o
      · rw [if_neg (fun h => by cases h.1)]
        exact rparse_nno s w T2 T3 T4 h2 h3 h4 hz' h5 d18 _ (Lib.hid rfl) (by omega) (by omega) k m (Lib.hid hO)
      · by_cases he : Lib.itoa (-(fdg s.data.toList : Int)) = s.data.toList
        · rw [if_pos ⟨rfl, he⟩]
          exact rparse_neq s w T2 T3 T4 h2 h3 h4 hz' h5 d18 _ (Lib.hid rfl) (by omega) (by omega) k m (Lib.hid hO) _ (Lib.hid rfl) (by rw [hq]; exact decide_eq_true he)
        · rw [if_neg (fun h => he h.2)]
          exact rparse_nne s w T2 T3 T4 h2 h3 h4 hz' h5 d18 _ (Lib.hid rfl) (by omega) (by omega) k m (Lib.hid hO) _ (Lib.hid rfl) (by rw [hq]; exact decide_eq_false he)
    · have hR : refN s.data.toList = (fdg s.data.toList : Int) := by unfold refN; rw [if_pos (by omega), if_neg hg]
      rw [hR]
      obtain ⟨⟨k, m, o⟩, hO⟩ : ∃ x, ofS (fdg s.data.toList : Int) = x := ⟨_, rfl⟩
      rw [hO]
      have h5 := h45 false (decide_eq_false hg)
      cases o
      · rw [if_neg (fun h => by cases h.1)]
        exact rparse_pno s w T2 T3 T4 h2 h3 h4 hz' h5 d18 _ (Lib.hid rfl) (by omega) (by omega) k m (Lib.hid hO)
      · by_cases he : Lib.itoa (fdg s.data.toList : Int) = s.data.toList
        · rw [if_pos ⟨rfl, he⟩]
          exact rparse_peq s w T2 T3 T4 h2 h3 h4 hz' h5 d18 _ (Lib.hid rfl) (by omega) (by omega) k m (Lib.hid hO) _ (Lib.hid rfl) (by rw [hq]; exact decide_eq_true he)
        · rw [if_neg (fun h => he h.2)]
          exact rparse_pne s w T2 T3 T4 h2 h3 h4 hz' h5 d18 _ (Lib.hid rfl) (by omega) (by omega) k m (Lib.hid hO) _ (Lib.hid rfl) (by rw [hq]; exact decide_eq_false he)
  · have d18 : decide ((s.size : Int) < 18) = false := by simp; omega
    have hR : refN s.data.toList = 0 := by unfold refN; rw [if_neg (by omega)]
    have hne : ¬ Lib.itoa 0 = s.data.toList := by
      rw [itoa_0l]
      intro e
      have : s.data.toList.length = 1 := by rw [← e]; rfl
      omega
    rw [hR, if_neg (fun h => hne h.2)]
    by_cases hg : s.data.toList.head? = some 45
    · exact rparse_ln s w T2 T3 T4 h2 h3 h4 hz' (h45 true (decide_eq_true hg)) d18 0 0 (Lib.hid (by rfl)) _ (Lib.hid rfl) (by rw [hq]; exact decide_eq_false hne)
    · exact rparse_lp s w T2 T3 T4 h2 h3 h4 hz' (h45 false (decide_eq_false hg)) d18 0 0 (Lib.hid (by rfl)) _ (Lib.hid rfl) (by rw [hq]; exact decide_eq_false hne)
theorem rparse_v {T : ByteArray} {x y : Int} {o : Bool} (h : Hid (parS T.data.toList = ⟨x, y, o⟩)) (w : World) : Calls Tryd.prog 49 #[.string T] w fun e w' => e = .returned (.tuple #[.agg #[.int .i64 x, .int .i64 y], .bool o]) ∧ Plus w w' := by
  have c := rparse_c T w
  rw [h.out] at c
  exact c
theorem of_v {n k m : Int} {o : Bool} (h : Hid (ofS n = ⟨k, m, o⟩)) (w : World) : Calls Tryd.prog 50 #[.int .i64 n] w fun e w' => e = .returned (.tuple #[.agg #[.int .i64 k, .int .i64 m], .bool o]) ∧ Plus w w' := by
  have c := of_c n w
  rw [h.out] at c
  exact c

set_option maxRecDepth 100000 in
set_option maxHeartbeats 16000000 in
theorem texts_f (ak an : Int) (s : ByteArray) (n : Int) (w : World) (d : decide ((200 : Int) < (s.size : Int)) = true) : Calls Tryd.prog 6 #[.agg #[.int .i64 ak, .int .i64 an], .string s, .int .i64 n] w fun e w' => e = .returned (.bool true) ∧ Plus w w' := by
  go_enter Tryd.func6, Tryd.ntmps6
  go_wp2_with (first | (go_at_call 15; ((with_reducible refine (first_c _).mono ?_); rintro e w1 ⟨rfl, ⟨y0, rfl⟩⟩)))
  go_returns
  exact ⟨rfl, (by repeat' (first | exact Plus.refl _ | refine Plus.alloc ?_ _ | refine Plus.plus ?_ _ | refine Plus.drew ?_ | refine Plus.drewN ?_ _))⟩
set_option maxRecDepth 100000 in
set_option maxHeartbeats 16000000 in
theorem texts_y (ak an : Int) (s : ByteArray) (n : Int) (w : World) (HL : Hid (Lai w)) (d : decide ((200 : Int) < (s.size : Int)) = false) (hs2 : Hid (s.size ≤ 281474976710656)) (pk pn ok' on : Int) (po oo : Bool) (T : ByteArray) (HP : Hid (parS s.data.toList = ⟨pk, pn, po⟩)) (HO : Hid (ofS n = ⟨ok', on, oo⟩)) (HT : Hid ((⟨(txtR ak an).toArray⟩ : ByteArray) = T)) : Calls Tryd.prog 6 #[.agg #[.int .i64 ak, .int .i64 an], .string s, .int .i64 n] w fun e w' => e = .returned (.bool true) ∧ Plus w w' := by
  go_enter Tryd.func6, Tryd.ntmps6
  go_wp2_with (first | (go_at_call 15; ((with_reducible refine (first_c _).mono ?_); rintro e w1 ⟨rfl, ⟨y0, rfl⟩⟩)) | (go_at_call 48; ((with_reducible refine (parse_v hs2.out HP _ (HL.out.plus (by repeat' (first | exact Plus.refl _ | refine Plus.alloc ?_ _ | refine Plus.plus ?_ _ | refine Plus.drew ?_ | refine Plus.drewN ?_ _)))).mono ?_); rintro e w1 ⟨rfl, ⟨y1, rfl⟩⟩)) | (go_at_call 49; ((with_reducible refine (rparse_v HP _).mono ?_); rintro e w1 ⟨rfl, ⟨y2, rfl⟩⟩)) | (go_at_call 50; ((with_reducible refine (of_v HO _).mono ?_); rintro e w1 ⟨rfl, ⟨y3, rfl⟩⟩)) | (go_at_call 51; ((with_reducible refine (rof_v HO _).mono ?_); rintro e w1 ⟨rfl, ⟨y4, rfl⟩⟩)) | (go_at_call 52; ((with_reducible refine (text_v HT _ (HL.out.plus (by repeat' (first | exact Plus.refl _ | refine Plus.alloc ?_ _ | refine Plus.plus ?_ _ | refine Plus.drew ?_ | refine Plus.drewN ?_ _)))).mono ?_); rintro e w1 ⟨rfl, ⟨y5, rfl⟩⟩)) | (go_at_call 53; ((with_reducible refine (rtext_v HT _).mono ?_); rintro e w1 ⟨rfl, ⟨y6, rfl⟩⟩)) | (go_at_call 26; ((with_reducible refine (is_y _ _ _ _).mono ?_); rintro e w1 ⟨rfl, ⟨y7, rfl⟩⟩)))
  refine wp_region_plus (by kernel_rfl) (by kernel_rfl) ?_
  repeat (go_big_quiet_step ((first | (go_at_call 15; with_reducible exact calls_plus (first_c _)) | (go_at_call 52; with_reducible exact calls_plus (text_v HT _ (HL.out.plus (by repeat' (first | exact Plus.refl _ | refine Plus.alloc ?_ _ | refine Plus.plus ?_ _ | refine Plus.drew ?_ | refine Plus.drewN ?_ _))))) | (go_at_call 53; with_reducible exact calls_plus (rtext_v HT _)) | (go_at_call 26; with_reducible exact calls_plus (is_y _ _ _ _)))))
  refine wpQuiet_nil ?_
  intro _ hw'
  obtain ⟨x9, rfl⟩ := hw'
  go_wp2_with fail
  go_returns
  exact ⟨by simp, (by repeat' (first | exact Plus.refl _ | refine Plus.alloc ?_ _ | refine Plus.plus ?_ _ | refine Plus.drew ?_ | refine Plus.drewN ?_ _))⟩
theorem texts_go (ak an : Int) (s : ByteArray) (n : Int) (w : World) (hL : Lai w) : Calls Tryd.prog 6 #[.agg #[.int .i64 ak, .int .i64 an], .string s, .int .i64 n] w fun e w' => e = .returned (.bool true) ∧ Plus w w' := by
  by_cases h : s.size ≤ 200
  · obtain ⟨⟨pk, pn, po⟩, hp⟩ : ∃ x, parS s.data.toList = x := ⟨_, rfl⟩
    obtain ⟨⟨ok', on, oo⟩, ho⟩ : ∃ x, ofS n = x := ⟨_, rfl⟩
    exact texts_y ak an s n w (Lib.hid hL) (by simp; omega) (Lib.hid (by omega)) pk pn ok' on po oo _ (Lib.hid hp) (Lib.hid ho) (Lib.hid rfl)
  · exact texts_f ak an s n w (by simp; omega)
end Go.Proofs.YtdmodkmliagiiaaDoor
