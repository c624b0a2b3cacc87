/- OperSums at every value. -/
import Derived.Test.YtgljfgkkolfnbaaGreatDoorL5wz
namespace Go.Proofs.YtgljfgkkolfnbaaGreatDoor
open Go.RowKit

theorem nv_of_may (k p q : Int) (g : Bool) (A C : Option Addr) (xs us : List Nat) (n c m d : Nat) (r : Int) (w : World) (h : VM w A xs n c C us m d) (hf : n ≤ 1048576) (hm : mayV k p q g xs us r = true) : NV w (Value.agg #[.int .i64 k, .int .i64 p, .int .i64 q, .bool g, .slice A n c, .slice C m d, .int .i64 r]) (jv k p q g xs us r) := by
  unfold jv
  rw [if_pos hm]
  have hn : n = xs.length := h.b.len
  have hM : m = us.length := h.s.len
  have hcm := h.b.max
  have hdm := h.s.max
  unfold mayV at hm
  rcases of_decide_eq_true hm with ⟨hk, rfl, rfl, rfl, rfl, rfl, rfl⟩ | ⟨rfl, rfl, rfl, rfl, rfl, rfl, hr⟩ | ⟨rfl, hb, rfl, rfl, rfl, rfl⟩ | ⟨rfl, rfl, rfl, hb, rfl, rfl⟩ | ⟨rfl, rfl, rfl, rfl, rfl, hb, rfl⟩ | ⟨rfl, rfl, rfl, rfl, rfl, rfl, hr⟩
  · obtain rfl : n = 0 := hn
    obtain rfl : m = 0 := hM
    rcases hk with rfl | rfl
    · exact ⟨_, _, _, _, rfl, hcm, hdm⟩
    · exact ⟨_, _, _, _, rfl, hcm, hdm⟩
  · obtain rfl : n = 0 := hn
    obtain rfl : m = 0 := hM
    rcases hr with rfl | rfl
    · exact ⟨_, _, _, _, rfl, hcm, hdm⟩
    · exact ⟨_, _, _, _, rfl, hcm, hdm⟩
  · obtain rfl : n = 0 := hn
    obtain rfl : m = 0 := hM
    exact ⟨_, _, _, _, rfl, hcm, hdm, isV_of_mayB hb⟩
  · obtain rfl : m = 0 := hM
    exact ⟨_, _, _, _, _, _, _, rfl, hdm, hb, rfl, arg_ar h.b hf⟩
  · obtain rfl : n = 0 := hn
    exact ⟨_, _, _, _, _, rfl, hcm, hb, h.s⟩
  · obtain rfl : n = 0 := hn
    obtain rfl : m = 0 := hM
    exact ⟨_, _, _, _, rfl, hcm, hdm, hr⟩
theorem isV_b2 {q : Int} (h : IsV 0 q) : -9007199254740991 ≤ q ∧ q ≤ 9007199254740991 := by
  rcases h with ⟨_, h1, h2⟩ | ⟨h, _⟩ | ⟨h, _⟩ | ⟨h, _⟩ | ⟨h, _⟩ <;> first | exact ⟨h1, h2⟩ | cases h
theorem addR_w {a b : Int} (va : IsV 0 a) (vb : IsV 0 b) : addR 0 a 0 b = ofS (a + b) := by
  unfold addR
  rw [vk_of va, vn_of va, vk_of vb, vn_of vb]
  rfl
theorem subR_w {a b : Int} (va : IsV 0 a) (vb : IsV 0 b) : subR 0 a 0 b = ofS (a - b) := by
  have hb := (show -9007199254740991 ≤ b ∧ b ≤ 9007199254740991 by rcases vb with ⟨_, h1, h2⟩ | ⟨h, _⟩ | ⟨h, _⟩ | ⟨h, _⟩ | ⟨h, _⟩ <;> first | exact ⟨h1, h2⟩ | cases h)
  unfold subR negR
  rw [vk_of vb, vn_of vb]
  by_cases h0 : b = 0
  · subst h0
    have v1 : IsV 1 0 := .inr (.inl ⟨rfl, rfl⟩)
    show addR 0 a 1 0 = _
    unfold addR
    rw [vk_of va, vn_of va, vk_of v1, vn_of v1]
    show ofS (a + 0) = ofS (a - 0)
    rw [show a + 0 = a - 0 by omega]
  · have e : negS 0 b = ⟨0, -b⟩ := by
      unfold negS
      rw [if_neg (by decide), if_neg (by decide), if_neg (by decide), if_neg (by decide), if_neg h0]
    rw [e, addR_w va (.inl ⟨rfl, by show -9007199254740991 ≤ -b; omega, by show -b ≤ 9007199254740991; omega⟩)]
    congr 1
theorem ofS_in {z : Int} (h : -9007199254740991 ≤ z ∧ z ≤ 9007199254740991) : jA (ofS z) = .num 0 z ∧ tA (ofS z) = 0 := by
  unfold ofS
  rw [if_pos h]
  exact ⟨rfl, rfl⟩
theorem ofS_out {z : Int} (h : ¬ (-9007199254740991 ≤ z ∧ z ≤ 9007199254740991)) : jA (ofS z) = .undef ∧ tA (ofS z) = 3 := by
  unfold ofS
  rw [if_neg h]
  exact ⟨rfl, rfl⟩
theorem jB_in {z : Int} (h : z.natAbs < Bg.B ^ 8) : jB z = .big z ∧ tB z = 0 := by unfold jB tB; rw [if_pos h, if_pos h]; exact ⟨rfl, rfl⟩
theorem jB_out {z : Int} (h : ¬ z.natAbs < Bg.B ^ 8) : jB z = .undef ∧ tB z = 3 := by unfold jB tB; rw [if_neg h, if_neg h]; exact ⟨rfl, rfl⟩
theorem nbN {p q : Int} : ∀ z, JV.num p q ≠ .big z := fun _ e => by cases e
theorem nbU : ∀ z, JV.undef ≠ .big z := fun _ e => by cases e
theorem opsums_w {ka pa qa : Int} {ga : Bool} {Aa Ca : Option Addr} {xsa usa : List Nat} {na ca ma da : Nat} {ra : Int} {kb pb qb : Int} {gb : Bool} {Ab Cb : Option Addr} {xsb usb : List Nat} {nb cb mb db : Nat} {rb : Int} (w : World) (hL : Lai w) (h1 : VM w Aa xsa na ca Ca usa ma da) (h2 : VM w Ab xsb nb cb Cb usb mb db) : Calls Tryz.prog 5 #[Value.agg #[.int .i64 ka, .int .i64 pa, .int .i64 qa, .bool ga, .slice Aa na ca, .slice Ca ma da, .int .i64 ra], Value.agg #[.int .i64 kb, .int .i64 pb, .int .i64 qb, .bool gb, .slice Ab nb cb, .slice Cb mb db, .int .i64 rb]] w fun e w' => e = .returned (.bool true) ∧ Plus w w' := by
  cases hf : (decide ((⟨#[]⟩ : ByteArray).size ≤ 100) && fewB ma na && fewB mb nb)
  · exact ss_1 w (Lib.hid hL) (Lib.hid hf)
  · have hf2 := hf
    simp only [Bool.and_eq_true] at hf2
    have na' : na ≤ 1048576 := by have := few_of hf2.1.2; omega
    have nb' : nb ≤ 1048576 := by have := few_of hf2.2; omega
    cases hza : mayV ka pa qa ga xsa usa ra
    · exact ss_2 w (Lib.hid hL) (Lib.hid hf) (Lib.hid h1) na' (Lib.hid hza)
    cases hzb : mayV kb pb qb gb xsb usb rb
    · exact ss_3 w (Lib.hid hL) (Lib.hid hf) (Lib.hid h1) na' (Lib.hid h2) nb' (Lib.hid hza) (Lib.hid hzb)
    have xA := nv_of_may ka pa qa ga Aa Ca xsa usa na ca ma da ra w h1 na' hza
    have xB := nv_of_may kb pb qb gb Ab Cb xsb usb nb cb mb db rb w h2 nb' hzb
    unfold jv at xA xB
    rw [if_pos hza] at xA
    rw [if_pos hzb] at xB
    by_cases hk : ka = kb
    · subst hk
      by_cases h3 : ka = 3
      · subst h3
        by_cases hpa : pa = 0
        · by_cases hpb : pb = 0
          · subst hpa hpb
            have va : IsV 0 qa := xA.ok
            have vb : IsV 0 qb := xB.ok
            have v1 : IsV 0 1 := isV_w (by decide) (by decide)
            have vm1 : IsV 0 (-1) := isV_w (by decide) (by decide)
            have hAq : ∀ w1, Plus w w1 → Calls Tryz.prog 18 #[.string ⟨#[43]⟩, Value.agg #[.int .i64 3, .int .i64 0, .int .i64 qa, .bool ga, .slice Aa na ca, .slice Ca ma da, .int .i64 ra], Value.agg #[.int .i64 3, .int .i64 0, .int .i64 qb, .bool gb, .slice Ab nb cb, .slice Cb mb db, .int .i64 rb]] w1 (RetF (FJ (jA (ofS (qa + qb))) (tA (ofS (qa + qb)))) w1) := fun w1 hp => by
              rw [← addR_w va vb]
              exact bj_add_NN w1 (Lib.hid (hL.plus hp)) (Lib.hid (xA.plus hp)) (Lib.hid rfl) nbN (Lib.hid (xB.plus hp)) (Lib.hid rfl) nbN rfl (FJ.stab _ _) (fun w2 _ => nums_add_J _ _ _ _ (add_V _ _ _ _) w2)
            have hUq : ∀ w1, Plus w w1 → Calls Tryz.prog 15 #[Value.agg #[.int .i64 3, .int .i64 0, .int .i64 qa, .bool ga, .slice Aa na ca, .slice Ca ma da, .int .i64 ra], .int .i64 1] w1 (RetF (FJ (jA (ofS (qa + 1))) (tA (ofS (qa + 1)))) w1) := fun w1 hp => by
              rw [← addR_w va v1]
              exact step_Np w1 (Lib.hid (hL.plus hp)) (Lib.hid (xA.plus hp)) (Lib.hid (xA.plus hp).vld) (Lib.hid rfl) nbN (FJ.stab _ _) (fun w2 _ => nums_add_J _ _ _ _ (add_V _ _ _ _) w2)
            have hSu : ∀ (k p q : Int) (g : Bool) (A C : Option Addr) (n c m d : Nat) (r : Int) (w1 : World), Plus w w1 → NV w1 (Value.agg #[.int .i64 k, .int .i64 p, .int .i64 q, .bool g, .slice A n c, .slice C m d, .int .i64 r]) .undef → Calls Tryz.prog 18 #[.string ⟨#[45]⟩, Value.agg #[.int .i64 k, .int .i64 p, .int .i64 q, .bool g, .slice A n c, .slice C m d, .int .i64 r], Value.agg #[.int .i64 3, .int .i64 0, .int .i64 qb, .bool gb, .slice Ab nb cb, .slice Cb mb db, .int .i64 rb]] w1 (RetF (FJ (jA (subR 2 0 0 qb)) (tA (subR 2 0 0 qb))) w1) := fun _ _ _ _ _ _ _ _ _ _ _ w1 hp hN =>
              bj_sub_NN w1 (Lib.hid (hL.plus hp)) (Lib.hid hN) (Lib.hid rfl) nbU (Lib.hid (xB.plus hp)) (Lib.hid rfl) nbN (FJ.stab _ _) (fun w2 _ => nums_sub_J _ _ _ _ (add_V _ _ _ _) w2)
            have hDu : ∀ (k p q : Int) (g : Bool) (A C : Option Addr) (n c m d : Nat) (r : Int) (w1 : World), Plus w w1 → NV w1 (Value.agg #[.int .i64 k, .int .i64 p, .int .i64 q, .bool g, .slice A n c, .slice C m d, .int .i64 r]) .undef → Calls Tryz.prog 15 #[Value.agg #[.int .i64 k, .int .i64 p, .int .i64 q, .bool g, .slice A n c, .slice C m d, .int .i64 r], .int .i64 (-1)] w1 (RetF (FJ (jA (addR 2 0 0 (-1))) (tA (addR 2 0 0 (-1)))) w1) := fun _ _ _ _ _ _ _ _ _ _ _ w1 hp hN =>
              step_Nm w1 (Lib.hid (hL.plus hp)) (Lib.hid hN) (Lib.hid hN.vld) (Lib.hid rfl) nbU (FJ.stab _ _) (fun w2 _ => nums_add_J _ _ _ _ (add_V _ _ _ _) w2)
            have hSy : (-9007199254740991 ≤ qa + qb ∧ qa + qb ≤ 9007199254740991) → ∀ (k p q : Int) (g : Bool) (A C : Option Addr) (n c m d : Nat) (r : Int) (w1 : World), Plus w w1 → NV w1 (Value.agg #[.int .i64 k, .int .i64 p, .int .i64 q, .bool g, .slice A n c, .slice C m d, .int .i64 r]) (.num 0 (qa + qb)) → Calls Tryz.prog 18 #[.string ⟨#[45]⟩, Value.agg #[.int .i64 k, .int .i64 p, .int .i64 q, .bool g, .slice A n c, .slice C m d, .int .i64 r], Value.agg #[.int .i64 3, .int .i64 0, .int .i64 qb, .bool gb, .slice Ab nb cb, .slice Cb mb db, .int .i64 rb]] w1 (RetF (FJ (.num 0 qa) 0) w1) := fun hin _ _ _ _ _ _ _ _ _ _ _ w1 hp hN => by
              have e : subR 0 (qa + qb) 0 qb = ofS qa := by rw [subR_w (isV_w hin.1 hin.2) vb]; congr 1; omega
              have q := bj_sub_NN w1 (Lib.hid (hL.plus hp)) (Lib.hid hN) (Lib.hid rfl) nbN (Lib.hid (xB.plus hp)) (Lib.hid rfl) nbN (FJ.stab _ _) (fun w2 _ => nums_sub_J _ _ _ _ (add_V _ _ _ _) w2)
              rw [e, (ofS_in (isV_b2 va)).1, (ofS_in (isV_b2 va)).2] at q
              exact q
            have hDy : (-9007199254740991 ≤ qa + 1 ∧ qa + 1 ≤ 9007199254740991) → ∀ (k p q : Int) (g : Bool) (A C : Option Addr) (n c m d : Nat) (r : Int) (w1 : World), Plus w w1 → NV w1 (Value.agg #[.int .i64 k, .int .i64 p, .int .i64 q, .bool g, .slice A n c, .slice C m d, .int .i64 r]) (.num 0 (qa + 1)) → Calls Tryz.prog 15 #[Value.agg #[.int .i64 k, .int .i64 p, .int .i64 q, .bool g, .slice A n c, .slice C m d, .int .i64 r], .int .i64 (-1)] w1 (RetF (FJ (.num 0 qa) 0) w1) := fun hin _ _ _ _ _ _ _ _ _ _ _ w1 hp hN => by
              have e : addR 0 (qa + 1) 0 (-1) = ofS qa := by rw [addR_w (isV_w hin.1 hin.2) vm1]; congr 1; omega
              have q := step_Nm w1 (Lib.hid (hL.plus hp)) (Lib.hid hN) (Lib.hid hN.vld) (Lib.hid rfl) nbN (FJ.stab _ _) (fun w2 _ => nums_add_J _ _ _ _ (add_V _ _ _ _) w2)
              rw [e, (ofS_in (isV_b2 va)).1, (ofS_in (isV_b2 va)).2] at q
              exact q
            have hs : strictJ (.num 0 qa) (.num 0 qa) = true := equalS_refl rfl
            by_cases c1 : -9007199254740991 ≤ qa + qb ∧ qa + qb ≤ 9007199254740991
            · rw [(ofS_in c1).1, (ofS_in c1).2] at hAq
              by_cases c2 : -9007199254740991 ≤ qa + 1 ∧ qa + 1 ≤ 9007199254740991
              · rw [(ofS_in c2).1, (ofS_in c2).2] at hUq
                exact ss_N00 w (Lib.hid hL) (Lib.hid hf) (Lib.hid xA) (Lib.hid xB) rfl rfl rfl rfl rfl hAq (hSy c1) hUq (hDy c2) (Lib.hid hs) (Lib.hid hs)
              · rw [(ofS_out c2).1, (ofS_out c2).2] at hUq
                exact ss_N03 w (Lib.hid hL) (Lib.hid hf) (Lib.hid xA) (Lib.hid xB) rfl rfl rfl rfl rfl hAq (hSy c1) hUq hDu (Lib.hid hs)
            · rw [(ofS_out c1).1, (ofS_out c1).2] at hAq
              by_cases c2 : -9007199254740991 ≤ qa + 1 ∧ qa + 1 ≤ 9007199254740991
              · rw [(ofS_in c2).1, (ofS_in c2).2] at hUq
                exact ss_N30 w (Lib.hid hL) (Lib.hid hf) (Lib.hid xA) (Lib.hid xB) rfl rfl rfl rfl rfl hAq hSu hUq (hDy c2) (Lib.hid hs)
              · rw [(ofS_out c2).1, (ofS_out c2).2] at hUq
                exact ss_N33 w (Lib.hid hL) (Lib.hid hf) (Lib.hid xA) (Lib.hid xB) rfl rfl rfl rfl rfl hAq hSu hUq hDu
          · exact ss_7 w (Lib.hid hL) (Lib.hid hf) (Lib.hid h1) na' (Lib.hid h2) nb' (Lib.hid hza) (Lib.hid hzb) rfl rfl rfl (by simp [hpa]) (by simp [hpb])
        · exact ss_6 w (Lib.hid hL) (Lib.hid hf) (Lib.hid h1) na' (Lib.hid h2) nb' (Lib.hid hza) (Lib.hid hzb) rfl rfl rfl (by simp [hpa])
      · by_cases h4 : ka = 4
        · subst h4
          obtain ⟨za, hzA⟩ : ∃ z, Bg.bigI ga xsa = z := ⟨_, rfl⟩
          obtain ⟨zb, hzB⟩ : ∃ z, Bg.bigI gb xsb = z := ⟨_, rfl⟩
          replace xA : NV w (Value.agg #[.int .i64 4, .int .i64 pa, .int .i64 qa, .bool ga, .slice Aa na ca, .slice Ca ma da, .int .i64 ra]) (.big za) := by rw [← hzA]; exact xA
          replace xB : NV w (Value.agg #[.int .i64 4, .int .i64 pb, .int .i64 qb, .bool gb, .slice Ab nb cb, .slice Cb mb db, .int .i64 rb]) (.big zb) := by rw [← hzB]; exact xB
          have ba : za.natAbs < Bg.B ^ 8 := xA.ok
          have hs : strictJ (.big za) (.big za) = true := by simp [strictJ]
          have hAq : ∀ w1, Plus w w1 → Calls Tryz.prog 18 #[.string ⟨#[43]⟩, Value.agg #[.int .i64 4, .int .i64 pa, .int .i64 qa, .bool ga, .slice Aa na ca, .slice Ca ma da, .int .i64 ra], Value.agg #[.int .i64 4, .int .i64 pb, .int .i64 qb, .bool gb, .slice Ab nb cb, .slice Cb mb db, .int .i64 rb]] w1 (RetF (FJ (jB (za + zb)) (tB (za + zb))) w1) := fun w1 hp =>
            bj_add_BB w1 (Lib.hid (hL.plus hp)) (Lib.hid (xA.plus hp)) (Lib.hid (xB.plus hp)) rfl (FJ.stab _ _) (fun _ _ _ _ _ _ _ _ _ _ w2 _ h1 h2 => bigs_add_J w2 h1 h2)
          have hUq : ∀ w1, Plus w w1 → Calls Tryz.prog 15 #[Value.agg #[.int .i64 4, .int .i64 pa, .int .i64 qa, .bool ga, .slice Aa na ca, .slice Ca ma da, .int .i64 ra], .int .i64 1] w1 (RetF (FJ (jB (za + 1)) (tB (za + 1))) w1) := fun w1 hp =>
            step_Bp w1 (Lib.hid (xA.plus hp)) (Lib.hid (xA.plus hp).vld) (Lib.hid (ofN_q (by decide) (by decide))) (FJ.stab _ _) (fun _ _ _ _ _ _ _ _ _ _ w2 _ h1 h2 => bigs_add_J w2 h1 h2)
          have hSu : ∀ (k p q : Int) (g : Bool) (A C : Option Addr) (n c m d : Nat) (r : Int) (w1 : World), Plus w w1 → NV w1 (Value.agg #[.int .i64 k, .int .i64 p, .int .i64 q, .bool g, .slice A n c, .slice C m d, .int .i64 r]) .undef → Calls Tryz.prog 18 #[.string ⟨#[45]⟩, Value.agg #[.int .i64 k, .int .i64 p, .int .i64 q, .bool g, .slice A n c, .slice C m d, .int .i64 r], Value.agg #[.int .i64 4, .int .i64 pb, .int .i64 qb, .bool gb, .slice Ab nb cb, .slice Cb mb db, .int .i64 rb]] w1 (RetF (FJ .undef 1) w1) := fun _ _ _ _ _ _ _ _ _ _ _ w1 hp hN =>
            (bj_sub_NB w1 (Lib.hid (hL.plus hp)) (Lib.hid hN) (Lib.hid rfl) nbU (Lib.hid (xB.plus hp))).mono fun _ _ h => retF_nil (retF_to h)
          have hDu : ∀ (k p q : Int) (g : Bool) (A C : Option Addr) (n c m d : Nat) (r : Int) (w1 : World), Plus w w1 → NV w1 (Value.agg #[.int .i64 k, .int .i64 p, .int .i64 q, .bool g, .slice A n c, .slice C m d, .int .i64 r]) .undef → Calls Tryz.prog 15 #[Value.agg #[.int .i64 k, .int .i64 p, .int .i64 q, .bool g, .slice A n c, .slice C m d, .int .i64 r], .int .i64 (-1)] w1 (RetF (FJ (jA (addR 2 0 0 (-1))) (tA (addR 2 0 0 (-1)))) w1) := fun _ _ _ _ _ _ _ _ _ _ _ w1 hp hN =>
            step_Nm w1 (Lib.hid (hL.plus hp)) (Lib.hid hN) (Lib.hid hN.vld) (Lib.hid rfl) nbU (FJ.stab _ _) (fun w2 _ => nums_add_J _ _ _ _ (add_V _ _ _ _) w2)
          have hSy : ∀ (k p q : Int) (g : Bool) (A C : Option Addr) (n c m d : Nat) (r : Int) (w1 : World), Plus w w1 → NV w1 (Value.agg #[.int .i64 k, .int .i64 p, .int .i64 q, .bool g, .slice A n c, .slice C m d, .int .i64 r]) (.big (za + zb)) → Calls Tryz.prog 18 #[.string ⟨#[45]⟩, Value.agg #[.int .i64 k, .int .i64 p, .int .i64 q, .bool g, .slice A n c, .slice C m d, .int .i64 r], Value.agg #[.int .i64 4, .int .i64 pb, .int .i64 qb, .bool gb, .slice Ab nb cb, .slice Cb mb db, .int .i64 rb]] w1 (RetF (FJ (.big za) 0) w1) := fun _ _ _ _ _ _ _ _ _ _ _ w1 hp hN => by
            have q := bj_sub_BB w1 (Lib.hid (hL.plus hp)) (Lib.hid hN) (Lib.hid (xB.plus hp)) (FJ.stab _ _) (fun _ _ _ _ _ _ _ _ _ _ w2 _ h1 h2 => bigs_sub_J w2 h1 h2)
            rw [show za + zb - zb = za by omega, (jB_in ba).1, (jB_in ba).2] at q
            exact q
          have hDy : ∀ (k p q : Int) (g : Bool) (A C : Option Addr) (n c m d : Nat) (r : Int) (w1 : World), Plus w w1 → NV w1 (Value.agg #[.int .i64 k, .int .i64 p, .int .i64 q, .bool g, .slice A n c, .slice C m d, .int .i64 r]) (.big (za + 1)) → Calls Tryz.prog 15 #[Value.agg #[.int .i64 k, .int .i64 p, .int .i64 q, .bool g, .slice A n c, .slice C m d, .int .i64 r], .int .i64 (-1)] w1 (RetF (FJ (.big za) 0) w1) := fun _ _ _ _ _ _ _ _ _ _ _ w1 hp hN => by
            have q := step_Bm w1 (Lib.hid hN) (Lib.hid hN.vld) (Lib.hid (ofN_q (by decide) (by decide))) (FJ.stab _ _) (fun _ _ _ _ _ _ _ _ _ _ w2 _ h1 h2 => bigs_add_J w2 h1 h2)
            rw [show za + 1 + -1 = za by omega, (jB_in ba).1, (jB_in ba).2] at q
            exact q
          by_cases c1 : (za + zb).natAbs < Bg.B ^ 8
          · rw [(jB_in c1).1, (jB_in c1).2] at hAq
            by_cases c2 : (za + 1).natAbs < Bg.B ^ 8
            · rw [(jB_in c2).1, (jB_in c2).2] at hUq
              exact ss_B00 w (Lib.hid hL) (Lib.hid hf) (Lib.hid xA) (Lib.hid xB) rfl rfl rfl rfl hAq hSy hUq hDy (Lib.hid hs) (Lib.hid hs)
            · rw [(jB_out c2).1, (jB_out c2).2] at hUq
              exact ss_B03 w (Lib.hid hL) (Lib.hid hf) (Lib.hid xA) (Lib.hid xB) rfl rfl rfl rfl hAq hSy hUq hDu (Lib.hid hs)
          · rw [(jB_out c1).1, (jB_out c1).2] at hAq
            by_cases c2 : (za + 1).natAbs < Bg.B ^ 8
            · rw [(jB_in c2).1, (jB_in c2).2] at hUq
              exact ss_B30 w (Lib.hid hL) (Lib.hid hf) (Lib.hid xA) (Lib.hid xB) rfl rfl rfl rfl hAq hSu hUq hDy (Lib.hid hs)
            · rw [(jB_out c2).1, (jB_out c2).2] at hUq
              exact ss_B33 w (Lib.hid hL) (Lib.hid hf) (Lib.hid xA) (Lib.hid xB) rfl rfl rfl rfl hAq hSu hUq hDu
        · exact ss_5 w (Lib.hid hL) (Lib.hid hf) (Lib.hid h1) na' (Lib.hid h2) nb' (Lib.hid hza) (Lib.hid hzb) (by simp) (by simp [h3]) (by simp [h4])
    · exact ss_4 w (Lib.hid hL) (Lib.hid hf) (Lib.hid h1) na' (Lib.hid h2) nb' (Lib.hid hza) (Lib.hid hzb) (by simp [hk])
end Go.Proofs.YtgljfgkkolfnbaaGreatDoor
