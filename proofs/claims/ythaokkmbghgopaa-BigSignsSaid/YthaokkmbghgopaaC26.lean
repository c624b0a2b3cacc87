/- Contract: Sub. -/
import Derived.Test.YthaokkmbghgopaaC25
namespace Go.Proofs.Ythaokkmbghgopaa
open Go.RowKit


def SubN (a b r : Int) (ok : Bool) (pb : Bool) (us : List Nat) : Prop := Nm r pb us ∧ ok = decide ((a - b).natAbs < B ^ 8) ∧ r = if (a - b).natAbs < B ^ 8 then a - b else 0
section
variable {pb : Bool} {us : List Nat} {r : Int}
set_option maxRecDepth 100000 in
set_option maxHeartbeats 4000000 in
theorem sub_h {an bn : Bool} {A C : Option Addr} {xs ys : List Nat} {n c m d : Nat} {a b : Int} (hA : Hid (bigI an xs = a)) (hB : Hid (bigI bn ys = b)) {ok nb : Bool} {vs : List Nat} (hr : Hid (AddN a (-b) r ok pb us)) (hn : Hid (NegN b (-b) nb vs)) (hv : Hid (bigI nb vs = -b)) (w : World) (ha : Hid (Arg w A xs n c)) (hb : Hid (Arg w C ys m d)) : Calls Try.prog 19 #[.agg #[.bool an, .slice A n c], .agg #[.bool bn, .slice C m d]] w fun e w' => ∃ (A1 : Option Addr) (c1 : Nat), e = .returned (.tuple #[.agg #[.bool pb, .slice A1 us.length c1], .bool ok]) ∧ Arg w' A1 us us.length c1 ∧ Plus w w' := by
  go_enter Try.func19, Try.ntmps19
  go_upto_region 1 with fail
  go_region_held3 (fun w' => w'.cell? ⟨w.heap.size, 0, none⟩ = some (.bool an) ∧ w'.cell? ⟨w.heap.size, 1, none⟩ = some (.slice A n c) ∧ w'.cell? ⟨w.heap.size + 1, 0, none⟩ = some (.bool bn) ∧ w'.cell? ⟨w.heap.size + 1, 1, none⟩ = some (.slice C m d)) (refine ⟨?_, ?_, ?_, ?_⟩ <;> simp [go_sem]) (first | (go_at_call 32; (with_reducible refine (neg_n hB hn _ (by first | exact hb.out | (have q := hb.out; exact q.plus (by repeat' (first | exact Plus.refl _ | refine Plus.alloc ?_ _ | refine Plus.plus ?_ _ | refine Plus.drew ?_ | refine Plus.drewN ?_ _))))).mono ?_); rintro e w1 ⟨A1, c1, rfl, a1, ⟨x1, rfl⟩⟩; have HN := Lib.hid a1; clear a1) | (go_at_call 17; (with_reducible refine (add_n hA hv hr _ (by first | exact ha.out | (have q := ha.out; exact q.plus (by repeat' (first | exact Plus.refl _ | refine Plus.alloc ?_ _ | refine Plus.plus ?_ _ | refine Plus.drew ?_ | refine Plus.drewN ?_ _)))) (by first | exact HN.out | (have q := HN.out; simp only [plus_drew] at q; exact q))).mono ?_); rintro e w1 ⟨A2, c2, rfl, a2, ⟨x2, rfl⟩⟩; have HR := Lib.hid a2; clear a2))
  all_goals
    go_wp2_with fail
    go_returns
    have q := HR.out
    refine ⟨A2, c2, rfl, ⟨?_, q.len, q.few, q.cap, q.max⟩, ?_⟩
    · have q2 := q.lim
      first | exact q2.res2 | (simp only [plus_drew] at q2; exact q2.res2)
    · repeat' (first | exact Plus.refl _ | refine Plus.alloc ?_ _ | refine Plus.plus ?_ _ | refine Plus.drew ?_ | refine Plus.drewN ?_ _)
theorem sub_n {an bn : Bool} {A C : Option Addr} {xs ys : List Nat} {n c m d : Nat} {a b : Int} (hA : Hid (bigI an xs = a)) (hB : Hid (bigI bn ys = b)) {ok : Bool} (hr : Hid (SubN a b r ok pb us)) (w : World) (ha : Arg w A xs n c) (hb : Arg w C ys m d) : Calls Try.prog 19 #[.agg #[.bool an, .slice A n c], .agg #[.bool bn, .slice C m d]] w fun e w' => ∃ (A1 : Option Addr) (c1 : Nat), e = .returned (.tuple #[.agg #[.bool pb, .slice A1 us.length c1], .bool ok]) ∧ Arg w' A1 us us.length c1 ∧ Plus w w' := by
  have hab : (-b).natAbs < B ^ 8 := by rw [Int.natAbs_neg, ← hB.out]; exact bigI_abs hb.lim.1
  have hm := Nm.mk' hab
  have hr' : AddN a (-b) r ok pb us := by
    have h := hr.out
    unfold SubN at h
    rw [Int.sub_eq_add_neg] at h
    exact h
  exact sub_h hA hB (Lib.hid hr') (Lib.hid ⟨hm, rfl⟩) (Lib.hid hm.val) w (Lib.hid ha) (Lib.hid hb)
end
end Go.Proofs.Ythaokkmbghgopaa
