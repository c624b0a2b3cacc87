/- The document's Loose, of any two values. -/
import Derived.Test.YtakahpbondaidaaGreatDoorYK
import Derived.Test.YtakahpbondaidaaGreatDoorYL
import Derived.Test.YtakahpbondaidaaGreatDoorYM
import Derived.Test.YtakahpbondaidaaGreatDoorYN
namespace Go.Proofs.YtakahpbondaidaaGreatDoor
open Go.RowKit

theorem loose9_v {ka pa qa : Int} {ga : Bool} {Aa Ca : Option Addr} {na ca ma da : Nat} {ra : Int} {kb pb qb : Int} {gb : Bool} {Ab Cb : Option Addr} {nb cb mb db : Nat} {rb : Int} {u v : Value} {x y : JV} {z : Bool} {sg : Int} (hJ : Hid (looseJ x y = ⟨z, sg⟩)) (w : World) (hx : NV w u x) (hy : NV w v y) (hva : Vldg w (Value.agg #[.int .i64 ka, .int .i64 pa, .int .i64 qa, .bool ga, .slice Aa na ca, .slice Ca ma da, .int .i64 ra]) u) (hvb : Vldg w (Value.agg #[.int .i64 kb, .int .i64 pb, .int .i64 qb, .bool gb, .slice Ab nb cb, .slice Cb mb db, .int .i64 rb]) v) :
    Calls Tryz.prog 28 #[Value.agg #[.int .i64 ka, .int .i64 pa, .int .i64 qa, .bool ga, .slice Aa na ca, .slice Ca ma da, .int .i64 ra], Value.agg #[.int .i64 kb, .int .i64 pb, .int .i64 qb, .bool gb, .slice Ab nb cb, .slice Cb mb db, .int .i64 rb]] w fun e w' => e = .returned (.tuple #[.bool z, .int .i64 sg]) ∧ Plus w w' := by
  have q := hJ.out
  have HX := hx
  have HY := hy
  cases x with
  | undef =>
    obtain ⟨A2, C2, c2, d2, rfl, h21, h22⟩ := hx
    cases y with
    | undef =>
      obtain ⟨A3, C3, c3, d3, rfl, h31, h32⟩ := hy
      rw [show looseJ .undef .undef = ⟨strictJ .undef .undef, 0⟩ from if_pos rfl] at q
      simp only [B2.mk.injEq] at q
      obtain ⟨rfl, rfl⟩ := q
      exact l9_e w (Lib.hid hva) (Lib.hid hvb) (Lib.hid HX) (Lib.hid HY) (Lib.hid rfl)
    | null =>
      obtain ⟨A3, C3, c3, d3, rfl, h31, h32⟩ := hy
      rw [show looseJ .undef .null = ⟨true, 0⟩ from rfl] at q
      simp only [B2.mk.injEq] at q
      obtain ⟨rfl, rfl⟩ := q
      exact l9_n1 w (Lib.hid hva) (Lib.hid hvb) rfl rfl rfl
    | bool b3 =>
      obtain ⟨A3, C3, c3, d3, rfl, h31, h32⟩ := hy
      rw [show looseJ .undef (.bool b3) = ⟨false, 0⟩ from rfl] at q
      simp only [B2.mk.injEq] at q
      obtain ⟨rfl, rfl⟩ := q
      exact l9_n2 w (Lib.hid hva) (Lib.hid hvb) rfl rfl rfl
    | num p3 q3 =>
      obtain ⟨A3, C3, c3, d3, rfl, h31, h32, h33⟩ := hy
      rw [show looseJ .undef (.num p3 q3) = ⟨false, 0⟩ from rfl] at q
      simp only [B2.mk.injEq] at q
      obtain ⟨rfl, rfl⟩ := q
      exact l9_n2 w (Lib.hid hva) (Lib.hid hvb) rfl rfl rfl
    | big z3 =>
      obtain ⟨g3, A3, C3, xs3, n3, c3, d3, rfl, h31, h32, rfl, h34⟩ := hy
      rw [show looseJ .undef (.big (Bg.bigI g3 xs3)) = ⟨false, 0⟩ from rfl] at q
      simp only [B2.mk.injEq] at q
      obtain ⟨rfl, rfl⟩ := q
      exact l9_n2 w (Lib.hid hva) (Lib.hid hvb) rfl rfl rfl
    | text us3 =>
      obtain ⟨A3, C3, c3, m3, d3, rfl, h31, h32, h33⟩ := hy
      rw [show looseJ .undef (.text us3) = ⟨false, 0⟩ from rfl] at q
      simp only [B2.mk.injEq] at q
      obtain ⟨rfl, rfl⟩ := q
      exact l9_n2 w (Lib.hid hva) (Lib.hid hvb) rfl rfl rfl
    | obj r3 =>
      obtain ⟨A3, C3, c3, d3, rfl, h31, h32, h33⟩ := hy
      rw [show looseJ .undef (.obj r3) = ⟨false, 0⟩ from rfl] at q
      simp only [B2.mk.injEq] at q
      obtain ⟨rfl, rfl⟩ := q
      exact l9_n2 w (Lib.hid hva) (Lib.hid hvb) rfl rfl rfl
  | null =>
    obtain ⟨A2, C2, c2, d2, rfl, h21, h22⟩ := hx
    cases y with
    | undef =>
      obtain ⟨A3, C3, c3, d3, rfl, h31, h32⟩ := hy
      rw [show looseJ .null .undef = ⟨true, 0⟩ from rfl] at q
      simp only [B2.mk.injEq] at q
      obtain ⟨rfl, rfl⟩ := q
      exact l9_n1 w (Lib.hid hva) (Lib.hid hvb) rfl rfl rfl
    | null =>
      obtain ⟨A3, C3, c3, d3, rfl, h31, h32⟩ := hy
      rw [show looseJ .null .null = ⟨strictJ .null .null, 0⟩ from if_pos rfl] at q
      simp only [B2.mk.injEq] at q
      obtain ⟨rfl, rfl⟩ := q
      exact l9_e w (Lib.hid hva) (Lib.hid hvb) (Lib.hid HX) (Lib.hid HY) (Lib.hid rfl)
    | bool b3 =>
      obtain ⟨A3, C3, c3, d3, rfl, h31, h32⟩ := hy
      rw [show looseJ .null (.bool b3) = ⟨false, 0⟩ from rfl] at q
      simp only [B2.mk.injEq] at q
      obtain ⟨rfl, rfl⟩ := q
      exact l9_n2 w (Lib.hid hva) (Lib.hid hvb) rfl rfl rfl
    | num p3 q3 =>
      obtain ⟨A3, C3, c3, d3, rfl, h31, h32, h33⟩ := hy
      rw [show looseJ .null (.num p3 q3) = ⟨false, 0⟩ from rfl] at q
      simp only [B2.mk.injEq] at q
      obtain ⟨rfl, rfl⟩ := q
      exact l9_n2 w (Lib.hid hva) (Lib.hid hvb) rfl rfl rfl
    | big z3 =>
      obtain ⟨g3, A3, C3, xs3, n3, c3, d3, rfl, h31, h32, rfl, h34⟩ := hy
      rw [show looseJ .null (.big (Bg.bigI g3 xs3)) = ⟨false, 0⟩ from rfl] at q
      simp only [B2.mk.injEq] at q
      obtain ⟨rfl, rfl⟩ := q
      exact l9_n2 w (Lib.hid hva) (Lib.hid hvb) rfl rfl rfl
    | text us3 =>
      obtain ⟨A3, C3, c3, m3, d3, rfl, h31, h32, h33⟩ := hy
      rw [show looseJ .null (.text us3) = ⟨false, 0⟩ from rfl] at q
      simp only [B2.mk.injEq] at q
      obtain ⟨rfl, rfl⟩ := q
      exact l9_n2 w (Lib.hid hva) (Lib.hid hvb) rfl rfl rfl
    | obj r3 =>
      obtain ⟨A3, C3, c3, d3, rfl, h31, h32, h33⟩ := hy
      rw [show looseJ .null (.obj r3) = ⟨false, 0⟩ from rfl] at q
      simp only [B2.mk.injEq] at q
      obtain ⟨rfl, rfl⟩ := q
      exact l9_n2 w (Lib.hid hva) (Lib.hid hvb) rfl rfl rfl
  | bool b2 =>
    obtain ⟨A2, C2, c2, d2, rfl, h21, h22⟩ := hx
    cases y with
    | undef =>
      obtain ⟨A3, C3, c3, d3, rfl, h31, h32⟩ := hy
      rw [show looseJ (.bool b2) .undef = ⟨false, 0⟩ from rfl] at q
      simp only [B2.mk.injEq] at q
      obtain ⟨rfl, rfl⟩ := q
      exact l9_n3 w (Lib.hid hva) (Lib.hid hvb) rfl rfl rfl
    | null =>
      obtain ⟨A3, C3, c3, d3, rfl, h31, h32⟩ := hy
      rw [show looseJ (.bool b2) .null = ⟨false, 0⟩ from rfl] at q
      simp only [B2.mk.injEq] at q
      obtain ⟨rfl, rfl⟩ := q
      exact l9_n3 w (Lib.hid hva) (Lib.hid hvb) rfl rfl rfl
    | bool b3 =>
      obtain ⟨A3, C3, c3, d3, rfl, h31, h32⟩ := hy
      rw [show looseJ (.bool b2) (.bool b3) = ⟨strictJ (.bool b2) (.bool b3), 0⟩ from if_pos rfl] at q
      simp only [B2.mk.injEq] at q
      obtain ⟨rfl, rfl⟩ := q
      exact l9_e w (Lib.hid hva) (Lib.hid hvb) (Lib.hid HX) (Lib.hid HY) (Lib.hid rfl)
    | num p3 q3 =>
      obtain ⟨A3, C3, c3, d3, rfl, h31, h32, h33⟩ := hy
      rw [show looseJ (.bool b2) (.num p3 q3) = ⟨strictJ (.num 0 (bit b2)) (.num p3 q3), 0⟩ from rfl] at q
      simp only [B2.mk.injEq] at q
      obtain ⟨rfl, rfl⟩ := q
      exact l9_Ae w (Lib.hid hva) (Lib.hid hvb) (Lib.hid HY) (Lib.hid (isV_bit b2)) (Lib.hid rfl)
    | big z3 =>
      obtain ⟨g3, A3, C3, xs3, n3, c3, d3, rfl, h31, h32, rfl, h34⟩ := hy
      rw [show looseJ (.bool b2) (.big (Bg.bigI g3 xs3)) = looseN (.num 0 (bit b2)) (.big (Bg.bigI g3 xs3)) from rfl] at q
      exact l9_Ab w (Lib.hid hva) (Lib.hid hvb) (Lib.hid HY) rfl rfl rfl rfl rfl rfl (Lib.hid (isV_bit b2)) (Lib.hid q) rfl
    | text us3 =>
      obtain ⟨A3, C3, c3, m3, d3, rfl, h31, h32, h33⟩ := hy
      rw [show looseJ (.bool b2) (.text us3) = looseN (.num 0 (bit b2)) (.text us3) from rfl] at q
      exact l9_Ab w (Lib.hid hva) (Lib.hid hvb) (Lib.hid HY) rfl rfl rfl rfl rfl rfl (Lib.hid (isV_bit b2)) (Lib.hid q) rfl
    | obj r3 =>
      obtain ⟨A3, C3, c3, d3, rfl, h31, h32, h33⟩ := hy
      rw [show looseJ (.bool b2) (.obj r3) = ⟨false, 3⟩ from rfl] at q
      simp only [B2.mk.injEq] at q
      obtain ⟨rfl, rfl⟩ := q
      exact l9_Ao w (Lib.hid hva) (Lib.hid hvb) (Lib.hid HY) rfl rfl rfl rfl rfl rfl
  | num p2 q2 =>
    obtain ⟨A2, C2, c2, d2, rfl, h21, h22, h23⟩ := hx
    cases y with
    | undef =>
      obtain ⟨A3, C3, c3, d3, rfl, h31, h32⟩ := hy
      rw [show looseJ (.num p2 q2) .undef = ⟨false, 0⟩ from rfl] at q
      simp only [B2.mk.injEq] at q
      obtain ⟨rfl, rfl⟩ := q
      exact l9_n3 w (Lib.hid hva) (Lib.hid hvb) rfl rfl rfl
    | null =>
      obtain ⟨A3, C3, c3, d3, rfl, h31, h32⟩ := hy
      rw [show looseJ (.num p2 q2) .null = ⟨false, 0⟩ from rfl] at q
      simp only [B2.mk.injEq] at q
      obtain ⟨rfl, rfl⟩ := q
      exact l9_n3 w (Lib.hid hva) (Lib.hid hvb) rfl rfl rfl
    | bool b3 =>
      obtain ⟨A3, C3, c3, d3, rfl, h31, h32⟩ := hy
      rw [show looseJ (.num p2 q2) (.bool b3) = ⟨strictJ (.num p2 q2) (.num 0 (bit b3)), 0⟩ from rfl] at q
      simp only [B2.mk.injEq] at q
      obtain ⟨rfl, rfl⟩ := q
      exact l9_Be w (Lib.hid hva) (Lib.hid hvb) (Lib.hid HX) (Lib.hid (isV_bit b3)) (Lib.hid rfl)
    | num p3 q3 =>
      obtain ⟨A3, C3, c3, d3, rfl, h31, h32, h33⟩ := hy
      rw [show looseJ (.num p2 q2) (.num p3 q3) = ⟨strictJ (.num p2 q2) (.num p3 q3), 0⟩ from if_pos rfl] at q
      simp only [B2.mk.injEq] at q
      obtain ⟨rfl, rfl⟩ := q
      exact l9_e w (Lib.hid hva) (Lib.hid hvb) (Lib.hid HX) (Lib.hid HY) (Lib.hid rfl)
    | big z3 =>
      obtain ⟨g3, A3, C3, xs3, n3, c3, d3, rfl, h31, h32, rfl, h34⟩ := hy
      rw [show looseJ (.num p2 q2) (.big (Bg.bigI g3 xs3)) = looseN (.num p2 q2) (.big (Bg.bigI g3 xs3)) from rfl] at q
      exact l9_b w (Lib.hid hva) (Lib.hid hvb) (Lib.hid HX) (Lib.hid HY) rfl rfl rfl rfl rfl rfl rfl (Lib.hid q) rfl
    | text us3 =>
      obtain ⟨A3, C3, c3, m3, d3, rfl, h31, h32, h33⟩ := hy
      rw [show looseJ (.num p2 q2) (.text us3) = looseN (.num p2 q2) (.text us3) from rfl] at q
      exact l9_b w (Lib.hid hva) (Lib.hid hvb) (Lib.hid HX) (Lib.hid HY) rfl rfl rfl rfl rfl rfl rfl (Lib.hid q) rfl
    | obj r3 =>
      obtain ⟨A3, C3, c3, d3, rfl, h31, h32, h33⟩ := hy
      rw [show looseJ (.num p2 q2) (.obj r3) = ⟨false, 3⟩ from rfl] at q
      simp only [B2.mk.injEq] at q
      obtain ⟨rfl, rfl⟩ := q
      exact l9_o2 w (Lib.hid hva) (Lib.hid hvb) rfl rfl rfl rfl rfl rfl rfl
  | big z2 =>
    obtain ⟨g2, A2, C2, xs2, n2, c2, d2, rfl, h21, h22, rfl, h24⟩ := hx
    cases y with
    | undef =>
      obtain ⟨A3, C3, c3, d3, rfl, h31, h32⟩ := hy
      rw [show looseJ (.big (Bg.bigI g2 xs2)) .undef = ⟨false, 0⟩ from rfl] at q
      simp only [B2.mk.injEq] at q
      obtain ⟨rfl, rfl⟩ := q
      exact l9_n3 w (Lib.hid hva) (Lib.hid hvb) rfl rfl rfl
    | null =>
      obtain ⟨A3, C3, c3, d3, rfl, h31, h32⟩ := hy
      rw [show looseJ (.big (Bg.bigI g2 xs2)) .null = ⟨false, 0⟩ from rfl] at q
      simp only [B2.mk.injEq] at q
      obtain ⟨rfl, rfl⟩ := q
      exact l9_n3 w (Lib.hid hva) (Lib.hid hvb) rfl rfl rfl
    | bool b3 =>
      obtain ⟨A3, C3, c3, d3, rfl, h31, h32⟩ := hy
      rw [show looseJ (.big (Bg.bigI g2 xs2)) (.bool b3) = looseN (.big (Bg.bigI g2 xs2)) (.num 0 (bit b3)) from rfl] at q
      exact l9_Bb w (Lib.hid hva) (Lib.hid hvb) (Lib.hid HX) rfl rfl rfl rfl rfl rfl (Lib.hid (isV_bit b3)) (Lib.hid q) rfl
    | num p3 q3 =>
      obtain ⟨A3, C3, c3, d3, rfl, h31, h32, h33⟩ := hy
      rw [show looseJ (.big (Bg.bigI g2 xs2)) (.num p3 q3) = looseN (.big (Bg.bigI g2 xs2)) (.num p3 q3) from rfl] at q
      exact l9_b w (Lib.hid hva) (Lib.hid hvb) (Lib.hid HX) (Lib.hid HY) rfl rfl rfl rfl rfl rfl rfl (Lib.hid q) rfl
    | big z3 =>
      obtain ⟨g3, A3, C3, xs3, n3, c3, d3, rfl, h31, h32, rfl, h34⟩ := hy
      rw [show looseJ (.big (Bg.bigI g2 xs2)) (.big (Bg.bigI g3 xs3)) = ⟨strictJ (.big (Bg.bigI g2 xs2)) (.big (Bg.bigI g3 xs3)), 0⟩ from if_pos rfl] at q
      simp only [B2.mk.injEq] at q
      obtain ⟨rfl, rfl⟩ := q
      exact l9_e w (Lib.hid hva) (Lib.hid hvb) (Lib.hid HX) (Lib.hid HY) (Lib.hid rfl)
    | text us3 =>
      obtain ⟨A3, C3, c3, m3, d3, rfl, h31, h32, h33⟩ := hy
      rw [show looseJ (.big (Bg.bigI g2 xs2)) (.text us3) = looseN (.big (Bg.bigI g2 xs2)) (.text us3) from rfl] at q
      exact l9_b w (Lib.hid hva) (Lib.hid hvb) (Lib.hid HX) (Lib.hid HY) rfl rfl rfl rfl rfl rfl rfl (Lib.hid q) rfl
    | obj r3 =>
      obtain ⟨A3, C3, c3, d3, rfl, h31, h32, h33⟩ := hy
      rw [show looseJ (.big (Bg.bigI g2 xs2)) (.obj r3) = ⟨false, 3⟩ from rfl] at q
      simp only [B2.mk.injEq] at q
      obtain ⟨rfl, rfl⟩ := q
      exact l9_o2 w (Lib.hid hva) (Lib.hid hvb) rfl rfl rfl rfl rfl rfl rfl
  | text us2 =>
    obtain ⟨A2, C2, c2, m2, d2, rfl, h21, h22, h23⟩ := hx
    cases y with
    | undef =>
      obtain ⟨A3, C3, c3, d3, rfl, h31, h32⟩ := hy
      rw [show looseJ (.text us2) .undef = ⟨false, 0⟩ from rfl] at q
      simp only [B2.mk.injEq] at q
      obtain ⟨rfl, rfl⟩ := q
      exact l9_n3 w (Lib.hid hva) (Lib.hid hvb) rfl rfl rfl
    | null =>
      obtain ⟨A3, C3, c3, d3, rfl, h31, h32⟩ := hy
      rw [show looseJ (.text us2) .null = ⟨false, 0⟩ from rfl] at q
      simp only [B2.mk.injEq] at q
      obtain ⟨rfl, rfl⟩ := q
      exact l9_n3 w (Lib.hid hva) (Lib.hid hvb) rfl rfl rfl
    | bool b3 =>
      obtain ⟨A3, C3, c3, d3, rfl, h31, h32⟩ := hy
      rw [show looseJ (.text us2) (.bool b3) = looseN (.text us2) (.num 0 (bit b3)) from rfl] at q
      exact l9_Bb w (Lib.hid hva) (Lib.hid hvb) (Lib.hid HX) rfl rfl rfl rfl rfl rfl (Lib.hid (isV_bit b3)) (Lib.hid q) rfl
    | num p3 q3 =>
      obtain ⟨A3, C3, c3, d3, rfl, h31, h32, h33⟩ := hy
      rw [show looseJ (.text us2) (.num p3 q3) = looseN (.text us2) (.num p3 q3) from rfl] at q
      exact l9_b w (Lib.hid hva) (Lib.hid hvb) (Lib.hid HX) (Lib.hid HY) rfl rfl rfl rfl rfl rfl rfl (Lib.hid q) rfl
    | big z3 =>
      obtain ⟨g3, A3, C3, xs3, n3, c3, d3, rfl, h31, h32, rfl, h34⟩ := hy
      rw [show looseJ (.text us2) (.big (Bg.bigI g3 xs3)) = looseN (.text us2) (.big (Bg.bigI g3 xs3)) from rfl] at q
      exact l9_b w (Lib.hid hva) (Lib.hid hvb) (Lib.hid HX) (Lib.hid HY) rfl rfl rfl rfl rfl rfl rfl (Lib.hid q) rfl
    | text us3 =>
      obtain ⟨A3, C3, c3, m3, d3, rfl, h31, h32, h33⟩ := hy
      rw [show looseJ (.text us2) (.text us3) = ⟨strictJ (.text us2) (.text us3), 0⟩ from if_pos rfl] at q
      simp only [B2.mk.injEq] at q
      obtain ⟨rfl, rfl⟩ := q
      exact l9_e w (Lib.hid hva) (Lib.hid hvb) (Lib.hid HX) (Lib.hid HY) (Lib.hid rfl)
    | obj r3 =>
      obtain ⟨A3, C3, c3, d3, rfl, h31, h32, h33⟩ := hy
      rw [show looseJ (.text us2) (.obj r3) = ⟨false, 3⟩ from rfl] at q
      simp only [B2.mk.injEq] at q
      obtain ⟨rfl, rfl⟩ := q
      exact l9_o2 w (Lib.hid hva) (Lib.hid hvb) rfl rfl rfl rfl rfl rfl rfl
  | obj r2 =>
    obtain ⟨A2, C2, c2, d2, rfl, h21, h22, h23⟩ := hx
    cases y with
    | undef =>
      obtain ⟨A3, C3, c3, d3, rfl, h31, h32⟩ := hy
      rw [show looseJ (.obj r2) .undef = ⟨false, 0⟩ from rfl] at q
      simp only [B2.mk.injEq] at q
      obtain ⟨rfl, rfl⟩ := q
      exact l9_n3 w (Lib.hid hva) (Lib.hid hvb) rfl rfl rfl
    | null =>
      obtain ⟨A3, C3, c3, d3, rfl, h31, h32⟩ := hy
      rw [show looseJ (.obj r2) .null = ⟨false, 0⟩ from rfl] at q
      simp only [B2.mk.injEq] at q
      obtain ⟨rfl, rfl⟩ := q
      exact l9_n3 w (Lib.hid hva) (Lib.hid hvb) rfl rfl rfl
    | bool b3 =>
      obtain ⟨A3, C3, c3, d3, rfl, h31, h32⟩ := hy
      rw [show looseJ (.obj r2) (.bool b3) = ⟨false, 3⟩ from rfl] at q
      simp only [B2.mk.injEq] at q
      obtain ⟨rfl, rfl⟩ := q
      exact l9_Bo w (Lib.hid hva) (Lib.hid hvb) (Lib.hid HX) rfl rfl rfl rfl rfl rfl
    | num p3 q3 =>
      obtain ⟨A3, C3, c3, d3, rfl, h31, h32, h33⟩ := hy
      rw [show looseJ (.obj r2) (.num p3 q3) = ⟨false, 3⟩ from rfl] at q
      simp only [B2.mk.injEq] at q
      obtain ⟨rfl, rfl⟩ := q
      exact l9_o1 w (Lib.hid hva) (Lib.hid hvb) rfl rfl rfl rfl rfl rfl rfl
    | big z3 =>
      obtain ⟨g3, A3, C3, xs3, n3, c3, d3, rfl, h31, h32, rfl, h34⟩ := hy
      rw [show looseJ (.obj r2) (.big (Bg.bigI g3 xs3)) = ⟨false, 3⟩ from rfl] at q
      simp only [B2.mk.injEq] at q
      obtain ⟨rfl, rfl⟩ := q
      exact l9_o1 w (Lib.hid hva) (Lib.hid hvb) rfl rfl rfl rfl rfl rfl rfl
    | text us3 =>
      obtain ⟨A3, C3, c3, m3, d3, rfl, h31, h32, h33⟩ := hy
      rw [show looseJ (.obj r2) (.text us3) = ⟨false, 3⟩ from rfl] at q
      simp only [B2.mk.injEq] at q
      obtain ⟨rfl, rfl⟩ := q
      exact l9_o1 w (Lib.hid hva) (Lib.hid hvb) rfl rfl rfl rfl rfl rfl rfl
    | obj r3 =>
      obtain ⟨A3, C3, c3, d3, rfl, h31, h32, h33⟩ := hy
      rw [show looseJ (.obj r2) (.obj r3) = ⟨strictJ (.obj r2) (.obj r3), 0⟩ from if_pos rfl] at q
      simp only [B2.mk.injEq] at q
      obtain ⟨rfl, rfl⟩ := q
      exact l9_e w (Lib.hid hva) (Lib.hid hvb) (Lib.hid HX) (Lib.hid HY) (Lib.hid rfl)
end Go.Proofs.YtakahpbondaidaaGreatDoor
