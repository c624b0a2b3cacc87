/- A BigInt's text: ours and the document's agree. -/
import Derived.IntWalk
import Derived.Test.YtakahpbondaidaaGreatDoorPZL
import Derived.Test.YtakahpbondaidaaGreatDoorPZM
import Derived.Test.YtakahpbondaidaaGreatDoorPZN
import Derived.Test.YtakahpbondaidaaGreatDoorPZQb
import Derived.Test.YtakahpbondaidaaGreatDoorPZR
import Derived.Test.YtakahpbondaidaaGreatDoorPZU
namespace Go.Proofs.YtakahpbondaidaaGreatDoor
open Go.RowKit

def stripZ : List Nat → List Nat
  | x :: y :: r => if x = 48 then stripZ (y :: r) else x :: y :: r
  | l => l
theorem stripZ_sub : ∀ d : List Nat, ∃ a, d = a ++ stripZ d
  | [] => ⟨[], rfl⟩
  | [x] => ⟨[], rfl⟩
  | x :: y :: r => by
    by_cases hx : x = 48
    · obtain ⟨a, h⟩ := stripZ_sub (y :: r)
      refine ⟨x :: a, ?_⟩
      show x :: y :: r = x :: a ++ (if x = 48 then stripZ (y :: r) else x :: y :: r)
      rw [if_pos hx, List.cons_append, ← h]
    · refine ⟨[], ?_⟩
      show x :: y :: r = [] ++ (if x = 48 then stripZ (y :: r) else x :: y :: r)
      rw [if_neg hx]
      rfl
end Go.Proofs.YtakahpbondaidaaGreatDoor
namespace Go.Proofs.YtakahpbondaidaaGreatDoor
open Go.RowKit

theorem rbneg9_n {an : Bool} {A : Option Addr} {xs : List Nat} {n c : Nat} {a r : Int} {pb : Bool} {us : List Nat} (hA : Hid (Bg.bigI an xs = a)) (hr : Hid (Bg.NegN a r pb us)) (w : World) (ha : Bg.Arg w A xs n c) : Calls Tryz.prog 89 #[.agg #[.bool an, .slice A n c]] w fun e w' => ∃ (A1 : Option Addr) (c1 : Nat), e = .returned (.agg #[.bool pb, .slice A1 us.length c1]) ∧ Bg.Arg w' A1 us us.length c1 ∧ Plus w w' := Bg.rneg_n hA hr w ha
/-- What parsing the stripped digits gives: the text, its BigInt, the errno. -/
structure DgF (d : List Nat) (S : ByteArray) (r er : Int) (pb : Bool) (us : List Nat) : Prop where
  pl : ∀ k : Nat, k < d.length → stripZ d = d.drop k → plS (d.drop k) = S ∧ low (d.drop k) = true
  par : Bg.ParN r er S pb us
  size : S.size ≤ 5000
theorem DgF.mk' {d : List Nat} (ha : d.all dgB = true) (hl : d.length ≤ 4096) : ∃ (S : ByteArray) (r er : Int) (pb : Bool) (us : List Nat), DgF d S r er pb us ∧ r = Bg.parI ((stripZ d).map Nat.toUInt8) ∧ er = Bg.parE ((stripZ d).map Nat.toUInt8) := by
  obtain ⟨a, e⟩ := stripZ_sub d
  have hz : (stripZ d).all dgB = true := by
    rw [e, List.all_append, Bool.and_eq_true] at ha
    exact ha.2
  have hlow := dg_low hz
  have hle : (stripZ d).length ≤ 4096 := by
    have := congrArg List.length e
    rw [List.length_append] at this
    omega
  have hd : (plS (stripZ d)).data.toList = (stripZ d).map Nat.toUInt8 := plS_low hlow
  have hs : (plS (stripZ d)).size = (stripZ d).length := by
    have e : (plS (stripZ d)).size = (plS (stripZ d)).data.toList.length := (Array.length_toList).symm
    rw [e, hd, List.length_map]
  exact ⟨plS (stripZ d), _, _, _, _, ⟨fun k hk h => by rw [← h]; exact ⟨rfl, hlow⟩, ⟨Bg.Nm.mk' (par_lt _), rfl, rfl, by rw [hs]; omega⟩, by rw [hs]; omega⟩, by rw [hd], by rw [hd]⟩
end Go.Proofs.YtakahpbondaidaaGreatDoor
namespace Go.Proofs.YtakahpbondaidaaGreatDoor
open Go.RowKit

theorem rof9_v {z r : Int} {pb : Bool} {us : List Nat} (hr : Hid (Bg.OfN z r pb us)) (w : World) : Calls Tryz.prog 53 #[.int .i64 z] w fun e w' => ∃ (A1 : Option Addr) (c1 : Nat), e = .returned (.agg #[.bool pb, .slice A1 us.length c1]) ∧ Bg.Arg w' A1 us us.length c1 ∧ Plus w w' := Bg.rOf_n hr w
end Go.Proofs.YtakahpbondaidaaGreatDoor
