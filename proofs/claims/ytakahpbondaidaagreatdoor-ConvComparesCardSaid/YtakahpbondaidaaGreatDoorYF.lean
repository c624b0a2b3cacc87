/- Contract: conv.Loose. -/
import Derived.Test.YtakahpbondaidaaGreatDoorYA
import Derived.Test.YtakahpbondaidaaGreatDoorYB
import Derived.Test.YtakahpbondaidaaGreatDoorYC
import Derived.Test.YtakahpbondaidaaGreatDoorYD
import Derived.Test.YtakahpbondaidaaGreatDoorYE
namespace Go.Proofs.YtakahpbondaidaaGreatDoor
open Go.RowKit

def kindJ : JV → Int
  | .undef => 0
  | .null => 1
  | .bool _ => 2
  | .num _ _ => 3
  | .big _ => 4
  | .text _ => 5
  | .obj _ => 6
def noBool : JV → JV
  | .bool b => .num 0 (bit b)
  | x => x
def looseN : JV → JV → B2
  | .num p q, .num r s => ⟨strictJ (.num p q) (.num r s), 0⟩
  | .num p q, .big z => ⟨worthB p q z, 0⟩
  | .big z, .num p q => ⟨worthB p q z, 0⟩
  | .num p q, .text u => readsU p q u
  | .text u, .num p q => readsU p q u
  | _, _ => ⟨false, 3⟩
def looseJ (x y : JV) : B2 := if kindJ x = kindJ y then ⟨strictJ x y, 0⟩ else if nothB (kindJ x) = true ∨ nothB (kindJ y) = true then ⟨nothB (kindJ x) && nothB (kindJ y), 0⟩ else looseN (noBool x) (noBool y)
theorem isV_bit (b : Bool) : IsV 0 (bit b) := .inl ⟨rfl, by cases b <;> decide, by cases b <;> decide⟩
theorem cloose_v {ka pa qa : Int} {ga : Bool} {Aa Ca : Option Addr} {na ca ma da : Nat} {ra : Int} {kb pb qb : Int} {gb : Bool} {Ab Cb : Option Addr} {nb cb mb db : Nat} {rb : Int} {u v : Value} {x y : JV} {z : Bool} {sg : Int} (hJ : Hid (looseJ x y = ⟨z, sg⟩)) (w : World) (hL : Lai w) (hx : NV w u x) (hy : NV w v y) (hva : Vld w (Value.agg #[.int .i64 ka, .int .i64 pa, .int .i64 qa, .bool ga, .slice Aa na ca, .slice Ca ma da, .int .i64 ra]) u) (hvb : Vld w (Value.agg #[.int .i64 kb, .int .i64 pb, .int .i64 qb, .bool gb, .slice Ab nb cb, .slice Cb mb db, .int .i64 rb]) v) :
    Calls Tryz.prog 27 #[Value.agg #[.int .i64 ka, .int .i64 pa, .int .i64 qa, .bool ga, .slice Aa na ca, .slice Ca ma da, .int .i64 ra], Value.agg #[.int .i64 kb, .int .i64 pb, .int .i64 qb, .bool gb, .slice Ab nb cb, .slice Cb mb db, .int .i64 rb]] w fun e w' => e = .returned (.tuple #[.bool z, .int .i64 sg]) ∧ Plus w w' := by
  have q := hJ.out
  have HX := hx
  have HY := hy
  cases x with
  | undef =>
    obtain ⟨A2, C2, c2, d2, rfl, h21, h22⟩ := hx
    cases y with
    | undef =>
      obtain ⟨A3, C3, c3, d3, rfl, h31, h32⟩ := hy
      rw [show looseJ .undef .undef = ⟨strictJ .undef .undef, 0⟩ from if_pos rfl] at q
      simp only [B2.mk.injEq] at q
      obtain ⟨rfl, rfl⟩ := q
      exact loose_e w (Lib.hid hva) (Lib.hid hvb) (Lib.hid HX) (Lib.hid HY) (Lib.hid rfl)
    | null =>
      obtain ⟨A3, C3, c3, d3, rfl, h31, h32⟩ := hy
      rw [show looseJ .undef .null = ⟨nothB 1, 0⟩ from rfl] at q
      simp only [B2.mk.injEq] at q
      obtain ⟨rfl, rfl⟩ := q
      exact loose_n1 w (Lib.hid hva) (Lib.hid hvb) rfl (Lib.hid rfl) (Lib.hid rfl)
    | bool b3 =>
      obtain ⟨A3, C3, c3, d3, rfl, h31, h32⟩ := hy
      rw [show looseJ .undef (.bool b3) = ⟨nothB 2, 0⟩ from rfl] at q
      simp only [B2.mk.injEq] at q
      obtain ⟨rfl, rfl⟩ := q
      exact loose_n1 w (Lib.hid hva) (Lib.hid hvb) rfl (Lib.hid rfl) (Lib.hid rfl)
    | num p3 q3 =>
      obtain ⟨A3, C3, c3, d3, rfl, h31, h32, h33⟩ := hy
      rw [show looseJ .undef (.num p3 q3) = ⟨nothB 3, 0⟩ from rfl] at q
      simp only [B2.mk.injEq] at q
      obtain ⟨rfl, rfl⟩ := q
      exact loose_n1 w (Lib.hid hva) (Lib.hid hvb) rfl (Lib.hid rfl) (Lib.hid rfl)
    | big z3 =>
      obtain ⟨g3, A3, C3, xs3, n3, c3, d3, rfl, h31, h32, rfl, h34⟩ := hy
      rw [show looseJ .undef (.big (Bg.bigI g3 xs3)) = ⟨nothB 4, 0⟩ from rfl] at q
      simp only [B2.mk.injEq] at q
      obtain ⟨rfl, rfl⟩ := q
      exact loose_n1 w (Lib.hid hva) (Lib.hid hvb) rfl (Lib.hid rfl) (Lib.hid rfl)
    | text us3 =>
      obtain ⟨A3, C3, c3, m3, d3, rfl, h31, h32, h33⟩ := hy
      rw [show looseJ .undef (.text us3) = ⟨nothB 5, 0⟩ from rfl] at q
      simp only [B2.mk.injEq] at q
      obtain ⟨rfl, rfl⟩ := q
      exact loose_n1 w (Lib.hid hva) (Lib.hid hvb) rfl (Lib.hid rfl) (Lib.hid rfl)
    | obj r3 =>
      obtain ⟨A3, C3, c3, d3, rfl, h31, h32, h33⟩ := hy
      rw [show looseJ .undef (.obj r3) = ⟨nothB 6, 0⟩ from rfl] at q
      simp only [B2.mk.injEq] at q
      obtain ⟨rfl, rfl⟩ := q
      exact loose_n1 w (Lib.hid hva) (Lib.hid hvb) rfl (Lib.hid rfl) (Lib.hid rfl)
  | null =>
    obtain ⟨A2, C2, c2, d2, rfl, h21, h22⟩ := hx
    cases y with
    | undef =>
      obtain ⟨A3, C3, c3, d3, rfl, h31, h32⟩ := hy
      rw [show looseJ .null .undef = ⟨nothB 0, 0⟩ from rfl] at q
      simp only [B2.mk.injEq] at q
      obtain ⟨rfl, rfl⟩ := q
      exact loose_n1 w (Lib.hid hva) (Lib.hid hvb) rfl (Lib.hid rfl) (Lib.hid rfl)
    | null =>
      obtain ⟨A3, C3, c3, d3, rfl, h31, h32⟩ := hy
      rw [show looseJ .null .null = ⟨strictJ .null .null, 0⟩ from if_pos rfl] at q
      simp only [B2.mk.injEq] at q
      obtain ⟨rfl, rfl⟩ := q
      exact loose_e w (Lib.hid hva) (Lib.hid hvb) (Lib.hid HX) (Lib.hid HY) (Lib.hid rfl)
    | bool b3 =>
      obtain ⟨A3, C3, c3, d3, rfl, h31, h32⟩ := hy
      rw [show looseJ .null (.bool b3) = ⟨nothB 2, 0⟩ from rfl] at q
      simp only [B2.mk.injEq] at q
      obtain ⟨rfl, rfl⟩ := q
      exact loose_n1 w (Lib.hid hva) (Lib.hid hvb) rfl (Lib.hid rfl) (Lib.hid rfl)
    | num p3 q3 =>
      obtain ⟨A3, C3, c3, d3, rfl, h31, h32, h33⟩ := hy
      rw [show looseJ .null (.num p3 q3) = ⟨nothB 3, 0⟩ from rfl] at q
      simp only [B2.mk.injEq] at q
      obtain ⟨rfl, rfl⟩ := q
      exact loose_n1 w (Lib.hid hva) (Lib.hid hvb) rfl (Lib.hid rfl) (Lib.hid rfl)
    | big z3 =>
      obtain ⟨g3, A3, C3, xs3, n3, c3, d3, rfl, h31, h32, rfl, h34⟩ := hy
      rw [show looseJ .null (.big (Bg.bigI g3 xs3)) = ⟨nothB 4, 0⟩ from rfl] at q
      simp only [B2.mk.injEq] at q
      obtain ⟨rfl, rfl⟩ := q
      exact loose_n1 w (Lib.hid hva) (Lib.hid hvb) rfl (Lib.hid rfl) (Lib.hid rfl)
    | text us3 =>
      obtain ⟨A3, C3, c3, m3, d3, rfl, h31, h32, h33⟩ := hy
      rw [show looseJ .null (.text us3) = ⟨nothB 5, 0⟩ from rfl] at q
      simp only [B2.mk.injEq] at q
      obtain ⟨rfl, rfl⟩ := q
      exact loose_n1 w (Lib.hid hva) (Lib.hid hvb) rfl (Lib.hid rfl) (Lib.hid rfl)
    | obj r3 =>
      obtain ⟨A3, C3, c3, d3, rfl, h31, h32, h33⟩ := hy
      rw [show looseJ .null (.obj r3) = ⟨nothB 6, 0⟩ from rfl] at q
      simp only [B2.mk.injEq] at q
      obtain ⟨rfl, rfl⟩ := q
      exact loose_n1 w (Lib.hid hva) (Lib.hid hvb) rfl (Lib.hid rfl) (Lib.hid rfl)
  | bool b2 =>
    obtain ⟨A2, C2, c2, d2, rfl, h21, h22⟩ := hx
    cases y with
    | undef =>
      obtain ⟨A3, C3, c3, d3, rfl, h31, h32⟩ := hy
      rw [show looseJ (.bool b2) .undef = ⟨false, 0⟩ from rfl] at q
      simp only [B2.mk.injEq] at q
      obtain ⟨rfl, rfl⟩ := q
      exact loose_n2 w (Lib.hid hva) (Lib.hid hvb) rfl (Lib.hid rfl) (Lib.hid rfl)
    | null =>
      obtain ⟨A3, C3, c3, d3, rfl, h31, h32⟩ := hy
      rw [show looseJ (.bool b2) .null = ⟨false, 0⟩ from rfl] at q
      simp only [B2.mk.injEq] at q
      obtain ⟨rfl, rfl⟩ := q
      exact loose_n2 w (Lib.hid hva) (Lib.hid hvb) rfl (Lib.hid rfl) (Lib.hid rfl)
    | bool b3 =>
      obtain ⟨A3, C3, c3, d3, rfl, h31, h32⟩ := hy
      rw [show looseJ (.bool b2) (.bool b3) = ⟨strictJ (.bool b2) (.bool b3), 0⟩ from if_pos rfl] at q
      simp only [B2.mk.injEq] at q
      obtain ⟨rfl, rfl⟩ := q
      exact loose_e w (Lib.hid hva) (Lib.hid hvb) (Lib.hid HX) (Lib.hid HY) (Lib.hid rfl)
    | num p3 q3 =>
      obtain ⟨A3, C3, c3, d3, rfl, h31, h32, h33⟩ := hy
      rw [show looseJ (.bool b2) (.num p3 q3) = ⟨strictJ (.num 0 (bit b2)) (.num p3 q3), 0⟩ from rfl] at q
      simp only [B2.mk.injEq] at q
      obtain ⟨rfl, rfl⟩ := q
      exact loose_23 w (Lib.hid hva) (Lib.hid hvb) (Lib.hid rfl) (Lib.hid rfl) (Lib.hid (nv_num w (isV_bit b2))) (Lib.hid HY) (Lib.hid rfl)
    | big z3 =>
      obtain ⟨g3, A3, C3, xs3, n3, c3, d3, rfl, h31, h32, rfl, h34⟩ := hy
      rw [show looseJ (.bool b2) (.big (Bg.bigI g3 xs3)) = ⟨worthB 0 (bit b2) (Bg.bigI g3 xs3), 0⟩ from rfl] at q
      simp only [B2.mk.injEq] at q
      obtain ⟨rfl, rfl⟩ := q
      exact loose_24 w (Lib.hid hva) (Lib.hid hvb) (Lib.hid rfl) (Lib.hid rfl) (Lib.hid rfl) (Lib.hid rfl) (isV_bd (isV_bit b2)).1 (isV_bd (isV_bit b2)).2 (Lib.hid h34)
    | text us3 =>
      obtain ⟨A3, C3, c3, m3, d3, rfl, h31, h32, h33⟩ := hy
      rw [show looseJ (.bool b2) (.text us3) = readsU 0 (bit b2) us3 from rfl] at q
      exact loose_25 w (Lib.hid hva) (Lib.hid hvb) (Lib.hid rfl) (Lib.hid rfl) (Lib.hid q) (by rw [h33.len]; exact h32) (Lib.hid hL) (Lib.hid h33)
    | obj r3 =>
      obtain ⟨A3, C3, c3, d3, rfl, h31, h32, h33⟩ := hy
      rw [show looseJ (.bool b2) (.obj r3) = ⟨false, 3⟩ from rfl] at q
      simp only [B2.mk.injEq] at q
      obtain ⟨rfl, rfl⟩ := q
      exact loose_26 w (Lib.hid hva) (Lib.hid hvb) (Lib.hid rfl) (Lib.hid rfl)
  | num p2 q2 =>
    obtain ⟨A2, C2, c2, d2, rfl, h21, h22, h23⟩ := hx
    cases y with
    | undef =>
      obtain ⟨A3, C3, c3, d3, rfl, h31, h32⟩ := hy
      rw [show looseJ (.num p2 q2) .undef = ⟨false, 0⟩ from rfl] at q
      simp only [B2.mk.injEq] at q
      obtain ⟨rfl, rfl⟩ := q
      exact loose_n2 w (Lib.hid hva) (Lib.hid hvb) rfl (Lib.hid rfl) (Lib.hid rfl)
    | null =>
      obtain ⟨A3, C3, c3, d3, rfl, h31, h32⟩ := hy
      rw [show looseJ (.num p2 q2) .null = ⟨false, 0⟩ from rfl] at q
      simp only [B2.mk.injEq] at q
      obtain ⟨rfl, rfl⟩ := q
      exact loose_n2 w (Lib.hid hva) (Lib.hid hvb) rfl (Lib.hid rfl) (Lib.hid rfl)
    | bool b3 =>
      obtain ⟨A3, C3, c3, d3, rfl, h31, h32⟩ := hy
      rw [show looseJ (.num p2 q2) (.bool b3) = ⟨strictJ (.num p2 q2) (.num 0 (bit b3)), 0⟩ from rfl] at q
      simp only [B2.mk.injEq] at q
      obtain ⟨rfl, rfl⟩ := q
      exact loose_32 w (Lib.hid hva) (Lib.hid hvb) (Lib.hid rfl) (Lib.hid rfl) (Lib.hid HX) (Lib.hid (nv_num w (isV_bit b3))) (Lib.hid rfl)
    | num p3 q3 =>
      obtain ⟨A3, C3, c3, d3, rfl, h31, h32, h33⟩ := hy
      rw [show looseJ (.num p2 q2) (.num p3 q3) = ⟨strictJ (.num p2 q2) (.num p3 q3), 0⟩ from if_pos rfl] at q
      simp only [B2.mk.injEq] at q
      obtain ⟨rfl, rfl⟩ := q
      exact loose_e w (Lib.hid hva) (Lib.hid hvb) (Lib.hid HX) (Lib.hid HY) (Lib.hid rfl)
    | big z3 =>
      obtain ⟨g3, A3, C3, xs3, n3, c3, d3, rfl, h31, h32, rfl, h34⟩ := hy
      rw [show looseJ (.num p2 q2) (.big (Bg.bigI g3 xs3)) = ⟨worthB p2 q2 (Bg.bigI g3 xs3), 0⟩ from rfl] at q
      simp only [B2.mk.injEq] at q
      obtain ⟨rfl, rfl⟩ := q
      exact loose_34 w (Lib.hid hva) (Lib.hid hvb) (Lib.hid rfl) (Lib.hid rfl) (Lib.hid rfl) (Lib.hid rfl) (isV_bd h23).1 (isV_bd h23).2 (Lib.hid h34)
    | text us3 =>
      obtain ⟨A3, C3, c3, m3, d3, rfl, h31, h32, h33⟩ := hy
      rw [show looseJ (.num p2 q2) (.text us3) = readsU p2 q2 us3 from rfl] at q
      exact loose_35 w (Lib.hid hva) (Lib.hid hvb) (Lib.hid rfl) (Lib.hid rfl) (Lib.hid q) (by rw [h33.len]; exact h32) (Lib.hid hL) (Lib.hid h33)
    | obj r3 =>
      obtain ⟨A3, C3, c3, d3, rfl, h31, h32, h33⟩ := hy
      rw [show looseJ (.num p2 q2) (.obj r3) = ⟨false, 3⟩ from rfl] at q
      simp only [B2.mk.injEq] at q
      obtain ⟨rfl, rfl⟩ := q
      exact loose_36 w (Lib.hid hva) (Lib.hid hvb) (Lib.hid rfl) (Lib.hid rfl)
  | big z2 =>
    obtain ⟨g2, A2, C2, xs2, n2, c2, d2, rfl, h21, h22, rfl, h24⟩ := hx
    cases y with
    | undef =>
      obtain ⟨A3, C3, c3, d3, rfl, h31, h32⟩ := hy
      rw [show looseJ (.big (Bg.bigI g2 xs2)) .undef = ⟨false, 0⟩ from rfl] at q
      simp only [B2.mk.injEq] at q
      obtain ⟨rfl, rfl⟩ := q
      exact loose_n2 w (Lib.hid hva) (Lib.hid hvb) rfl (Lib.hid rfl) (Lib.hid rfl)
    | null =>
      obtain ⟨A3, C3, c3, d3, rfl, h31, h32⟩ := hy
      rw [show looseJ (.big (Bg.bigI g2 xs2)) .null = ⟨false, 0⟩ from rfl] at q
      simp only [B2.mk.injEq] at q
      obtain ⟨rfl, rfl⟩ := q
      exact loose_n2 w (Lib.hid hva) (Lib.hid hvb) rfl (Lib.hid rfl) (Lib.hid rfl)
    | bool b3 =>
      obtain ⟨A3, C3, c3, d3, rfl, h31, h32⟩ := hy
      rw [show looseJ (.big (Bg.bigI g2 xs2)) (.bool b3) = ⟨worthB 0 (bit b3) (Bg.bigI g2 xs2), 0⟩ from rfl] at q
      simp only [B2.mk.injEq] at q
      obtain ⟨rfl, rfl⟩ := q
      exact loose_42 w (Lib.hid hva) (Lib.hid hvb) (Lib.hid rfl) (Lib.hid rfl) (Lib.hid rfl) (Lib.hid rfl) (isV_bd (isV_bit b3)).1 (isV_bd (isV_bit b3)).2 (Lib.hid h24)
    | num p3 q3 =>
      obtain ⟨A3, C3, c3, d3, rfl, h31, h32, h33⟩ := hy
      rw [show looseJ (.big (Bg.bigI g2 xs2)) (.num p3 q3) = ⟨worthB p3 q3 (Bg.bigI g2 xs2), 0⟩ from rfl] at q
      simp only [B2.mk.injEq] at q
      obtain ⟨rfl, rfl⟩ := q
      exact loose_43 w (Lib.hid hva) (Lib.hid hvb) (Lib.hid rfl) (Lib.hid rfl) (Lib.hid rfl) (Lib.hid rfl) (isV_bd h33).1 (isV_bd h33).2 (Lib.hid h24)
    | big z3 =>
      obtain ⟨g3, A3, C3, xs3, n3, c3, d3, rfl, h31, h32, rfl, h34⟩ := hy
      rw [show looseJ (.big (Bg.bigI g2 xs2)) (.big (Bg.bigI g3 xs3)) = ⟨strictJ (.big (Bg.bigI g2 xs2)) (.big (Bg.bigI g3 xs3)), 0⟩ from if_pos rfl] at q
      simp only [B2.mk.injEq] at q
      obtain ⟨rfl, rfl⟩ := q
      exact loose_e w (Lib.hid hva) (Lib.hid hvb) (Lib.hid HX) (Lib.hid HY) (Lib.hid rfl)
    | text us3 =>
      obtain ⟨A3, C3, c3, m3, d3, rfl, h31, h32, h33⟩ := hy
      rw [show looseJ (.big (Bg.bigI g2 xs2)) (.text us3) = ⟨false, 3⟩ from rfl] at q
      simp only [B2.mk.injEq] at q
      obtain ⟨rfl, rfl⟩ := q
      exact loose_45 w (Lib.hid hva) (Lib.hid hvb) (Lib.hid rfl) (Lib.hid rfl)
    | obj r3 =>
      obtain ⟨A3, C3, c3, d3, rfl, h31, h32, h33⟩ := hy
      rw [show looseJ (.big (Bg.bigI g2 xs2)) (.obj r3) = ⟨false, 3⟩ from rfl] at q
      simp only [B2.mk.injEq] at q
      obtain ⟨rfl, rfl⟩ := q
      exact loose_46 w (Lib.hid hva) (Lib.hid hvb) (Lib.hid rfl) (Lib.hid rfl)
  | text us2 =>
    obtain ⟨A2, C2, c2, m2, d2, rfl, h21, h22, h23⟩ := hx
    cases y with
    | undef =>
      obtain ⟨A3, C3, c3, d3, rfl, h31, h32⟩ := hy
      rw [show looseJ (.text us2) .undef = ⟨false, 0⟩ from rfl] at q
      simp only [B2.mk.injEq] at q
      obtain ⟨rfl, rfl⟩ := q
      exact loose_n2 w (Lib.hid hva) (Lib.hid hvb) rfl (Lib.hid rfl) (Lib.hid rfl)
    | null =>
      obtain ⟨A3, C3, c3, d3, rfl, h31, h32⟩ := hy
      rw [show looseJ (.text us2) .null = ⟨false, 0⟩ from rfl] at q
      simp only [B2.mk.injEq] at q
      obtain ⟨rfl, rfl⟩ := q
      exact loose_n2 w (Lib.hid hva) (Lib.hid hvb) rfl (Lib.hid rfl) (Lib.hid rfl)
    | bool b3 =>
      obtain ⟨A3, C3, c3, d3, rfl, h31, h32⟩ := hy
      rw [show looseJ (.text us2) (.bool b3) = readsU 0 (bit b3) us2 from rfl] at q
      exact loose_52 w (Lib.hid hva) (Lib.hid hvb) (Lib.hid rfl) (Lib.hid rfl) (Lib.hid q) (by rw [h23.len]; exact h22) (Lib.hid hL) (Lib.hid h23)
    | num p3 q3 =>
      obtain ⟨A3, C3, c3, d3, rfl, h31, h32, h33⟩ := hy
      rw [show looseJ (.text us2) (.num p3 q3) = readsU p3 q3 us2 from rfl] at q
      exact loose_53 w (Lib.hid hva) (Lib.hid hvb) (Lib.hid rfl) (Lib.hid rfl) (Lib.hid q) (by rw [h23.len]; exact h22) (Lib.hid hL) (Lib.hid h23)
    | big z3 =>
      obtain ⟨g3, A3, C3, xs3, n3, c3, d3, rfl, h31, h32, rfl, h34⟩ := hy
      rw [show looseJ (.text us2) (.big (Bg.bigI g3 xs3)) = ⟨false, 3⟩ from rfl] at q
      simp only [B2.mk.injEq] at q
      obtain ⟨rfl, rfl⟩ := q
      exact loose_54 w (Lib.hid hva) (Lib.hid hvb) (Lib.hid rfl) (Lib.hid rfl)
    | text us3 =>
      obtain ⟨A3, C3, c3, m3, d3, rfl, h31, h32, h33⟩ := hy
      rw [show looseJ (.text us2) (.text us3) = ⟨strictJ (.text us2) (.text us3), 0⟩ from if_pos rfl] at q
      simp only [B2.mk.injEq] at q
      obtain ⟨rfl, rfl⟩ := q
      exact loose_e w (Lib.hid hva) (Lib.hid hvb) (Lib.hid HX) (Lib.hid HY) (Lib.hid rfl)
    | obj r3 =>
      obtain ⟨A3, C3, c3, d3, rfl, h31, h32, h33⟩ := hy
      rw [show looseJ (.text us2) (.obj r3) = ⟨false, 3⟩ from rfl] at q
      simp only [B2.mk.injEq] at q
      obtain ⟨rfl, rfl⟩ := q
      exact loose_56 w (Lib.hid hva) (Lib.hid hvb) (Lib.hid rfl) (Lib.hid rfl)
  | obj r2 =>
    obtain ⟨A2, C2, c2, d2, rfl, h21, h22, h23⟩ := hx
    cases y with
    | undef =>
      obtain ⟨A3, C3, c3, d3, rfl, h31, h32⟩ := hy
      rw [show looseJ (.obj r2) .undef = ⟨false, 0⟩ from rfl] at q
      simp only [B2.mk.injEq] at q
      obtain ⟨rfl, rfl⟩ := q
      exact loose_n2 w (Lib.hid hva) (Lib.hid hvb) rfl (Lib.hid rfl) (Lib.hid rfl)
    | null =>
      obtain ⟨A3, C3, c3, d3, rfl, h31, h32⟩ := hy
      rw [show looseJ (.obj r2) .null = ⟨false, 0⟩ from rfl] at q
      simp only [B2.mk.injEq] at q
      obtain ⟨rfl, rfl⟩ := q
      exact loose_n2 w (Lib.hid hva) (Lib.hid hvb) rfl (Lib.hid rfl) (Lib.hid rfl)
    | bool b3 =>
      obtain ⟨A3, C3, c3, d3, rfl, h31, h32⟩ := hy
      rw [show looseJ (.obj r2) (.bool b3) = ⟨false, 3⟩ from rfl] at q
      simp only [B2.mk.injEq] at q
      obtain ⟨rfl, rfl⟩ := q
      exact loose_62 w (Lib.hid hva) (Lib.hid hvb) (Lib.hid rfl) (Lib.hid rfl)
    | num p3 q3 =>
      obtain ⟨A3, C3, c3, d3, rfl, h31, h32, h33⟩ := hy
      rw [show looseJ (.obj r2) (.num p3 q3) = ⟨false, 3⟩ from rfl] at q
      simp only [B2.mk.injEq] at q
      obtain ⟨rfl, rfl⟩ := q
      exact loose_63 w (Lib.hid hva) (Lib.hid hvb) (Lib.hid rfl) (Lib.hid rfl)
    | big z3 =>
      obtain ⟨g3, A3, C3, xs3, n3, c3, d3, rfl, h31, h32, rfl, h34⟩ := hy
      rw [show looseJ (.obj r2) (.big (Bg.bigI g3 xs3)) = ⟨false, 3⟩ from rfl] at q
      simp only [B2.mk.injEq] at q
      obtain ⟨rfl, rfl⟩ := q
      exact loose_64 w (Lib.hid hva) (Lib.hid hvb) (Lib.hid rfl) (Lib.hid rfl)
    | text us3 =>
      obtain ⟨A3, C3, c3, m3, d3, rfl, h31, h32, h33⟩ := hy
      rw [show looseJ (.obj r2) (.text us3) = ⟨false, 3⟩ from rfl] at q
      simp only [B2.mk.injEq] at q
      obtain ⟨rfl, rfl⟩ := q
      exact loose_65 w (Lib.hid hva) (Lib.hid hvb) (Lib.hid rfl) (Lib.hid rfl)
    | obj r3 =>
      obtain ⟨A3, C3, c3, d3, rfl, h31, h32, h33⟩ := hy
      rw [show looseJ (.obj r2) (.obj r3) = ⟨strictJ (.obj r2) (.obj r3), 0⟩ from if_pos rfl] at q
      simp only [B2.mk.injEq] at q
      obtain ⟨rfl, rfl⟩ := q
      exact loose_e w (Lib.hid hva) (Lib.hid hvb) (Lib.hid HX) (Lib.hid HY) (Lib.hid rfl)
end Go.Proofs.YtakahpbondaidaaGreatDoor
