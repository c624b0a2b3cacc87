/- oper: valid, either, both, isNaN, bitOf, ofBig, inSet, shortEnough, divided. -/
import Derived.Test.YtakahpbondaidaaGreatDoorPZK
import Derived.Test.YtakahpbondaidaaGreatDoorPZN
namespace Go.Proofs.YtakahpbondaidaaGreatDoor
open Go.RowKit

set_option maxRecDepth 100000 in
set_option maxHeartbeats 4000000 in
theorem ovalid_y {k p q : Int} {g : Bool} {A C : Option Addr} {xs us : List Nat} {n c m d : Nat} {r : Int} (hz : Hid (mayV k p q g xs us r = true)) (w : World) (H : Hid (VM w A xs n c C us m d)) (hf : n ≤ 1048576) : Calls Tryz.prog 137 #[Value.agg #[.int .i64 k, .int .i64 p, .int .i64 q, .bool g, .slice A n c, .slice C m d, .int .i64 r]] w fun e w' => e = .returned (Value.agg #[.int .i64 k, .int .i64 p, .int .i64 q, .bool g, .slice A n c, .slice C m d, .int .i64 r]) ∧ Plus w w' := by
  go_enter Tryz.func137, Tryz.ntmps137
  go_wp2_with (go_at_call 95; (with_reducible refine (hmay_v hz _ (H.out.plus (by repeat' (first | exact Plus.refl _ | refine Plus.alloc ?_ _ | refine Plus.plus ?_ _ | refine Plus.drew ?_ | refine Plus.drewN ?_ _))) hf).mono ?_); rintro e w1 ⟨rfl, ⟨x1, rfl⟩⟩)
  go_returns
  exact ⟨rfl, (by repeat' (first | exact Plus.refl _ | refine Plus.alloc ?_ _ | refine Plus.plus ?_ _ | refine Plus.drew ?_ | refine Plus.drewN ?_ _))⟩
/-- oper.valid makes v' of v. -/
def Vldo (w : World) (v v' : Value) : Prop := ∀ w1, Plus w w1 → Calls Tryz.prog 137 #[v] w1 fun e w2 => e = .returned v' ∧ Plus w1 w2
theorem Vldo.plus {w w' : World} {v v' : Value} (h : Vldo w v v') (hp : Plus w w') : Vldo w' v v' := fun _ h1 => h _ (hp.trans h1)
theorem Vldo.call {w w1 : World} {v v' : Value} (h : Vldo w v v') (hp : Plus w w1) : Calls Tryz.prog 137 #[v] w1 fun e w2 => e = .returned v' ∧ Plus w1 w2 := h w1 hp
theorem NV.vldo {w : World} {v' : Value} {x : JV} (h : NV w v' x) : Vldo w v' v' := by
  obtain ⟨k, p, q, g, A, C, xs, us, n, c, m, d, r, rfl, hm, hf, _, hv⟩ := h.gen
  exact fun w1 hp => ovalid_y (Lib.hid hv) w1 (Lib.hid (hm.plus hp)) hf
set_option maxRecDepth 100000 in
set_option maxHeartbeats 4000000 in
theorem either_y {k : Int} {ka pa qa : Int} {ga : Bool} {Aa Ca : Option Addr} {na ca ma da : Nat} {ra : Int} {kb pb qb : Int} {gb : Bool} {Ab Cb : Option Addr} {nb cb mb db : Nat} {rb : Int} (w : World) (h1 : (ka == k) = true) : Calls Tryz.prog 210 #[.int .i64 k, Value.agg #[.int .i64 ka, .int .i64 pa, .int .i64 qa, .bool ga, .slice Aa na ca, .slice Ca ma da, .int .i64 ra], Value.agg #[.int .i64 kb, .int .i64 pb, .int .i64 qb, .bool gb, .slice Ab nb cb, .slice Cb mb db, .int .i64 rb]] w (fun e w' => e = .returned (.bool true) ∧ Plus w w') := by
  go_enter Tryz.func210, Tryz.ntmps210
  go_wp2_with fail
  go_returns
  exact ⟨rfl, (by repeat' (first | exact Plus.refl _ | refine Plus.alloc ?_ _ | refine Plus.plus ?_ _ | refine Plus.drew ?_ | refine Plus.drewN ?_ _))⟩
set_option maxRecDepth 100000 in
set_option maxHeartbeats 4000000 in
theorem either_z {k : Int} {ka pa qa : Int} {ga : Bool} {Aa Ca : Option Addr} {na ca ma da : Nat} {ra : Int} {kb pb qb : Int} {gb : Bool} {Ab Cb : Option Addr} {nb cb mb db : Nat} {rb : Int} (w : World) (h1 : (ka == k) = false) (h2 : (kb == k) = true) : Calls Tryz.prog 210 #[.int .i64 k, Value.agg #[.int .i64 ka, .int .i64 pa, .int .i64 qa, .bool ga, .slice Aa na ca, .slice Ca ma da, .int .i64 ra], Value.agg #[.int .i64 kb, .int .i64 pb, .int .i64 qb, .bool gb, .slice Ab nb cb, .slice Cb mb db, .int .i64 rb]] w (fun e w' => e = .returned (.bool true) ∧ Plus w w') := by
  go_enter Tryz.func210, Tryz.ntmps210
  go_wp2_with fail
  go_returns
  exact ⟨rfl, (by repeat' (first | exact Plus.refl _ | refine Plus.alloc ?_ _ | refine Plus.plus ?_ _ | refine Plus.drew ?_ | refine Plus.drewN ?_ _))⟩
set_option maxRecDepth 100000 in
set_option maxHeartbeats 4000000 in
theorem either_n {k : Int} {ka pa qa : Int} {ga : Bool} {Aa Ca : Option Addr} {na ca ma da : Nat} {ra : Int} {kb pb qb : Int} {gb : Bool} {Ab Cb : Option Addr} {nb cb mb db : Nat} {rb : Int} (w : World) (h1 : (ka == k) = false) (h2 : (kb == k) = false) : Calls Tryz.prog 210 #[.int .i64 k, Value.agg #[.int .i64 ka, .int .i64 pa, .int .i64 qa, .bool ga, .slice Aa na ca, .slice Ca ma da, .int .i64 ra], Value.agg #[.int .i64 kb, .int .i64 pb, .int .i64 qb, .bool gb, .slice Ab nb cb, .slice Cb mb db, .int .i64 rb]] w (fun e w' => e = .returned (.bool false) ∧ Plus w w') := by
  go_enter Tryz.func210, Tryz.ntmps210
  go_wp2_with fail
  go_returns
  exact ⟨rfl, (by repeat' (first | exact Plus.refl _ | refine Plus.alloc ?_ _ | refine Plus.plus ?_ _ | refine Plus.drew ?_ | refine Plus.drewN ?_ _))⟩
theorem either_v {k : Int} {ka pa qa : Int} {ga : Bool} {Aa Ca : Option Addr} {na ca ma da : Nat} {ra : Int} {kb pb qb : Int} {gb : Bool} {Ab Cb : Option Addr} {nb cb mb db : Nat} {rb : Int} {b : Bool} (h : ((ka == k) || (kb == k)) = b) (w : World) : Calls Tryz.prog 210 #[.int .i64 k, Value.agg #[.int .i64 ka, .int .i64 pa, .int .i64 qa, .bool ga, .slice Aa na ca, .slice Ca ma da, .int .i64 ra], Value.agg #[.int .i64 kb, .int .i64 pb, .int .i64 qb, .bool gb, .slice Ab nb cb, .slice Cb mb db, .int .i64 rb]] w (fun e w' => e = .returned (.bool b) ∧ Plus w w') := by
  subst h
  cases h1 : (ka == k)
  · cases h2 : (kb == k)
    · exact either_n w h1 h2
    · exact either_z w h1 h2
  · exact either_y w h1
set_option maxRecDepth 100000 in
set_option maxHeartbeats 4000000 in
theorem both_y {k : Int} {ka pa qa : Int} {ga : Bool} {Aa Ca : Option Addr} {na ca ma da : Nat} {ra : Int} {kb pb qb : Int} {gb : Bool} {Ab Cb : Option Addr} {nb cb mb db : Nat} {rb : Int} (w : World) (h1 : (ka == k) = true) (h2 : (kb == k) = true) : Calls Tryz.prog 250 #[.int .i64 k, Value.agg #[.int .i64 ka, .int .i64 pa, .int .i64 qa, .bool ga, .slice Aa na ca, .slice Ca ma da, .int .i64 ra], Value.agg #[.int .i64 kb, .int .i64 pb, .int .i64 qb, .bool gb, .slice Ab nb cb, .slice Cb mb db, .int .i64 rb]] w (fun e w' => e = .returned (.bool true) ∧ Plus w w') := by
  go_enter Tryz.func250, Tryz.ntmps250
  go_wp2_with fail
  go_returns
  exact ⟨rfl, (by repeat' (first | exact Plus.refl _ | refine Plus.alloc ?_ _ | refine Plus.plus ?_ _ | refine Plus.drew ?_ | refine Plus.drewN ?_ _))⟩
set_option maxRecDepth 100000 in
set_option maxHeartbeats 4000000 in
theorem both_z {k : Int} {ka pa qa : Int} {ga : Bool} {Aa Ca : Option Addr} {na ca ma da : Nat} {ra : Int} {kb pb qb : Int} {gb : Bool} {Ab Cb : Option Addr} {nb cb mb db : Nat} {rb : Int} (w : World) (h1 : (ka == k) = true) (h2 : (kb == k) = false) : Calls Tryz.prog 250 #[.int .i64 k, Value.agg #[.int .i64 ka, .int .i64 pa, .int .i64 qa, .bool ga, .slice Aa na ca, .slice Ca ma da, .int .i64 ra], Value.agg #[.int .i64 kb, .int .i64 pb, .int .i64 qb, .bool gb, .slice Ab nb cb, .slice Cb mb db, .int .i64 rb]] w (fun e w' => e = .returned (.bool false) ∧ Plus w w') := by
  go_enter Tryz.func250, Tryz.ntmps250
  go_wp2_with fail
  go_returns
  exact ⟨rfl, (by repeat' (first | exact Plus.refl _ | refine Plus.alloc ?_ _ | refine Plus.plus ?_ _ | refine Plus.drew ?_ | refine Plus.drewN ?_ _))⟩
set_option maxRecDepth 100000 in
set_option maxHeartbeats 4000000 in
theorem both_n {k : Int} {ka pa qa : Int} {ga : Bool} {Aa Ca : Option Addr} {na ca ma da : Nat} {ra : Int} {kb pb qb : Int} {gb : Bool} {Ab Cb : Option Addr} {nb cb mb db : Nat} {rb : Int} (w : World) (h1 : (ka == k) = false) : Calls Tryz.prog 250 #[.int .i64 k, Value.agg #[.int .i64 ka, .int .i64 pa, .int .i64 qa, .bool ga, .slice Aa na ca, .slice Ca ma da, .int .i64 ra], Value.agg #[.int .i64 kb, .int .i64 pb, .int .i64 qb, .bool gb, .slice Ab nb cb, .slice Cb mb db, .int .i64 rb]] w (fun e w' => e = .returned (.bool false) ∧ Plus w w') := by
  go_enter Tryz.func250, Tryz.ntmps250
  go_wp2_with fail
  go_returns
  exact ⟨rfl, (by repeat' (first | exact Plus.refl _ | refine Plus.alloc ?_ _ | refine Plus.plus ?_ _ | refine Plus.drew ?_ | refine Plus.drewN ?_ _))⟩
theorem both_v {k : Int} {ka pa qa : Int} {ga : Bool} {Aa Ca : Option Addr} {na ca ma da : Nat} {ra : Int} {kb pb qb : Int} {gb : Bool} {Ab Cb : Option Addr} {nb cb mb db : Nat} {rb : Int} {b : Bool} (h : ((ka == k) && (kb == k)) = b) (w : World) : Calls Tryz.prog 250 #[.int .i64 k, Value.agg #[.int .i64 ka, .int .i64 pa, .int .i64 qa, .bool ga, .slice Aa na ca, .slice Ca ma da, .int .i64 ra], Value.agg #[.int .i64 kb, .int .i64 pb, .int .i64 qb, .bool gb, .slice Ab nb cb, .slice Cb mb db, .int .i64 rb]] w (fun e w' => e = .returned (.bool b) ∧ Plus w w') := by
  subst h
  cases h1 : (ka == k)
  · exact both_n w h1
  · cases h2 : (kb == k)
    · exact both_z w h1 h2
    · exact both_y w h1 h2
set_option maxRecDepth 100000 in
set_option maxHeartbeats 4000000 in
theorem isnan_v {k p q : Int} {g : Bool} {A C : Option Addr} {n c m d : Nat} {r : Int} {b : Bool} (h : (p == 2) = b) (w : World) : Calls Tryz.prog 215 #[Value.agg #[.int .i64 k, .int .i64 p, .int .i64 q, .bool g, .slice A n c, .slice C m d, .int .i64 r]] w (fun e w' => e = .returned (.bool b) ∧ Plus w w') := by
  subst h
  go_enter Tryz.func215, Tryz.ntmps215
  go_wp2_with fail
  go_returns
  exact ⟨rfl, (by repeat' (first | exact Plus.refl _ | refine Plus.alloc ?_ _ | refine Plus.plus ?_ _ | refine Plus.drew ?_ | refine Plus.drewN ?_ _))⟩
set_option maxRecDepth 100000 in
set_option maxHeartbeats 4000000 in
theorem ofbig_v {g : Bool} {A : Option Addr} {n c : Nat} (w : World) : Calls Tryz.prog 143 #[.agg #[.bool g, .slice A n c]] w (fun e w' => e = .returned (Value.agg #[.int .i64 4, .int .i64 0, .int .i64 0, .bool g, .slice A n c, .slice none 0 0, .int .i64 0]) ∧ Plus w w') := by
  go_enter Tryz.func143, Tryz.ntmps143
  go_wp2_with fail
  go_returns
  exact ⟨rfl, (by repeat' (first | exact Plus.refl _ | refine Plus.alloc ?_ _ | refine Plus.plus ?_ _ | refine Plus.drew ?_ | refine Plus.drewN ?_ _))⟩
set_option maxRecDepth 100000 in
set_option maxHeartbeats 4000000 in
theorem inset_y {p q : Int} (w : World) : Calls Tryz.prog 159 #[.agg #[.int .i64 p, .int .i64 q], .bool true] w (fun e w' => e = .returned (.tuple #[Value.agg #[.int .i64 3, .int .i64 p, .int .i64 q, .bool false, .slice none 0 0, .slice none 0 0, .int .i64 0], .int .i64 0]) ∧ Plus w w') := by
  go_enter Tryz.func159, Tryz.ntmps159
  go_wp2_with (go_at_call 49; (with_reducible refine (cnum_c _ _ _).mono ?_); rintro e w1 ⟨rfl, ⟨x1, rfl⟩⟩)
  go_returns
  exact ⟨rfl, (by repeat' (first | exact Plus.refl _ | refine Plus.alloc ?_ _ | refine Plus.plus ?_ _ | refine Plus.drew ?_ | refine Plus.drewN ?_ _))⟩
set_option maxRecDepth 100000 in
set_option maxHeartbeats 4000000 in
theorem inset_n {p q : Int} (w : World) : Calls Tryz.prog 159 #[.agg #[.int .i64 p, .int .i64 q], .bool false] w (fun e w' => e = .returned (.tuple #[Value.agg #[.int .i64 0, .int .i64 0, .int .i64 0, .bool false, .slice none 0 0, .slice none 0 0, .int .i64 0], .int .i64 3]) ∧ Plus w w') := by
  go_enter Tryz.func159, Tryz.ntmps159
  go_wp2_with fail
  go_returns
  exact ⟨rfl, (by repeat' (first | exact Plus.refl _ | refine Plus.alloc ?_ _ | refine Plus.plus ?_ _ | refine Plus.drew ?_ | refine Plus.drewN ?_ _))⟩
set_option maxRecDepth 100000 in
set_option maxHeartbeats 4000000 in
theorem short_y {g : Bool} {A : Option Addr} {n c : Nat} (w : World) : Calls Tryz.prog 152 #[.agg #[.bool g, .slice A n c], .bool true] w (fun e w' => e = .returned (.tuple #[Value.agg #[.int .i64 4, .int .i64 0, .int .i64 0, .bool g, .slice A n c, .slice none 0 0, .int .i64 0], .int .i64 0]) ∧ Plus w w') := by
  go_enter Tryz.func152, Tryz.ntmps152
  go_wp2_with (go_at_call 143; (with_reducible refine (ofbig_v _).mono ?_); rintro e w1 ⟨rfl, ⟨x1, rfl⟩⟩)
  go_returns
  exact ⟨rfl, (by repeat' (first | exact Plus.refl _ | refine Plus.alloc ?_ _ | refine Plus.plus ?_ _ | refine Plus.drew ?_ | refine Plus.drewN ?_ _))⟩
set_option maxRecDepth 100000 in
set_option maxHeartbeats 4000000 in
theorem short_n {g : Bool} {A : Option Addr} {n c : Nat} (w : World) : Calls Tryz.prog 152 #[.agg #[.bool g, .slice A n c], .bool false] w (fun e w' => e = .returned (.tuple #[Value.agg #[.int .i64 0, .int .i64 0, .int .i64 0, .bool false, .slice none 0 0, .slice none 0 0, .int .i64 0], .int .i64 3]) ∧ Plus w w') := by
  go_enter Tryz.func152, Tryz.ntmps152
  go_wp2_with fail
  go_returns
  exact ⟨rfl, (by repeat' (first | exact Plus.refl _ | refine Plus.alloc ?_ _ | refine Plus.plus ?_ _ | refine Plus.drew ?_ | refine Plus.drewN ?_ _))⟩
set_option maxRecDepth 100000 in
set_option maxHeartbeats 4000000 in
theorem divided_n {g : Bool} {A : Option Addr} {n c : Nat} (w : World) : Calls Tryz.prog 156 #[.agg #[.bool g, .slice A n c], .int .i64 4] w (fun e w' => e = .returned (.tuple #[Value.agg #[.int .i64 0, .int .i64 0, .int .i64 0, .bool false, .slice none 0 0, .slice none 0 0, .int .i64 0], .int .i64 2]) ∧ Plus w w') := by
  go_enter Tryz.func156, Tryz.ntmps156
  go_wp2_with fail
  go_returns
  exact ⟨rfl, (by repeat' (first | exact Plus.refl _ | refine Plus.alloc ?_ _ | refine Plus.plus ?_ _ | refine Plus.drew ?_ | refine Plus.drewN ?_ _))⟩
end Go.Proofs.YtakahpbondaidaaGreatDoor
namespace Go.Proofs.YtakahpbondaidaaGreatDoor
open Go.RowKit

/-- Blocks without a unit or a limb. -/
def NoU (o : Obj) : Prop := ∃ cs e z, o = .cells cs e z ∧ ∀ v ∈ cs, ∀ y, v ≠ .int .u16 y ∧ v ≠ .int .u32 y
def Offs (W1 W2 : World) : Prop := W1.heap.size = W2.heap.size ∧ ∀ b : Nat, W2.heap[b]? = W1.heap[b]? ∨ ∃ o, W1.heap[b]? = some o ∧ NoU o
/-- The same, and more has grown behind. -/
def Offp (W1 W2 : World) : Prop := W1.heap.size ≤ W2.heap.size ∧ ∀ b : Nat, b < W1.heap.size → W2.heap[b]? = W1.heap[b]? ∨ ∃ o, W1.heap[b]? = some o ∧ NoU o
theorem Offp.of {W1 W2 : World} (h : Offs W1 W2) : Offp W1 W2 := ⟨Nat.le_of_eq h.1, fun b _ => h.2 b⟩
theorem Offp.grow {W1 W2 W3 : World} (h : Offp W1 W2) (hp : Plus W2 W3) : Offp W1 W3 := ⟨Nat.le_trans h.1 hp.below.size, fun b hb => by
  rw [hp.below.block b (Nat.lt_of_lt_of_le hb h.1)]; exact h.2 b hb⟩
theorem Offp.plusR {W1 W2 : World} (h : Offp W1 W2) (x : More) : Offp W1 (_root_.Go.Proofs.YtakahpbondaidaaGreatDoor.plus W2 x) := h.grow (Plus.is x)
theorem Offp.allocR {W1 W2 : World} (h : Offp W1 W2) (o : Obj) : Offp W1 (W2.alloc o) := h.grow (Plus.alloc (Plus.refl _) o)
theorem Offp.drewR {W1 W2 : World} (h : Offp W1 W2) : Offp W1 W2.drew := h
theorem Rd.offp {k : IntKind} {W1 W2 : World} {A : Option Addr} {xs : List Nat} (hk : k = .u16 ∨ k = .u32) (h : Rd k W1 A xs) (o : Offp W1 W2) : Rd k W2 A xs := fun h0 => by
  obtain ⟨g, p, rfl, hg, ha⟩ := h h0
  refine ⟨g, p, rfl, Nat.lt_of_lt_of_le hg o.1, fun j hj => ?_⟩
  rcases o.2 g hg with e | ⟨ob, hob, cs, t, z, rfl, hc⟩
  · rw [World.cell?_of_block (w := W1) e]; exact ha j hj
  · exfalso
    have q := ha j hj
    rw [cell_of_row W1 g (p + j) cs t z hob] at q
    rcases hk with rfl | rfl
    · exact (hc _ (Array.mem_of_getElem? q) _).1 rfl
    · exact (hc _ (Array.mem_of_getElem? q) _).2 rfl
theorem arg_offp {W1 W2 : World} {A : Option Addr} {xs : List Nat} {n c : Nat} (h : Bg.Arg W1 A xs n c) (o : Offp W1 W2) : Bg.Arg W2 A xs n c :=
  ⟨⟨h.lim.1, (lim_rd (Rd.offp (.inr rfl) (rd_lim h.lim) o) h.lim.1).2⟩, h.len, h.few, h.cap, h.max⟩
theorem ar_offp {K : Nat} {W1 W2 : World} {A : Option Addr} {xs : List Nat} {n c : Nat} (h : Ar .u16 K W1 A xs n c) (o : Offp W1 W2) : Ar .u16 K W2 A xs n c := ⟨Rd.offp (.inl rfl) h.rd o, h.len, h.cap, h.max, h.bd⟩
theorem Offs.refl (w : World) : Offs w w := ⟨rfl, fun _ => .inl rfl⟩
theorem Offs.allocN {W1 W2 : World} {o o' : Obj} (h : Offs W1 W2) (ho : NoU o) : Offs (W1.alloc o) (W2.alloc o') := by
  refine ⟨by rw [World.size_alloc, World.size_alloc, h.1], fun b => ?_⟩
  simp only [World.alloc, Array.getElem?_push, h.1]
  by_cases hb : b = W2.heap.size
  · rw [if_pos hb, if_pos hb]; exact .inr ⟨o, rfl, ho⟩
  · rw [if_neg hb, if_neg hb]; exact h.2 b
theorem Offs.alloc {W1 W2 : World} (h : Offs W1 W2) (o : Obj) : Offs (W1.alloc o) (W2.alloc o) := by
  refine ⟨by rw [World.size_alloc, World.size_alloc, h.1], fun b => ?_⟩
  simp only [World.alloc, Array.getElem?_push, h.1]
  by_cases hb : b = W2.heap.size
  · rw [if_pos hb, if_pos hb]; exact .inl rfl
  · rw [if_neg hb, if_neg hb]; exact h.2 b
theorem Offs.plus {W1 W2 : World} (h : Offs W1 W2) (x : More) : Offs (_root_.Go.Proofs.YtakahpbondaidaaGreatDoor.plus W1 x) (_root_.Go.Proofs.YtakahpbondaidaaGreatDoor.plus W2 x) := by
  refine ⟨by rw [size_plus, size_plus, h.1], fun b => ?_⟩
  simp only [_root_.Go.Proofs.YtakahpbondaidaaGreatDoor.plus]
  by_cases hb : b < W1.heap.size
  · rw [Array.getElem?_append_left hb, Array.getElem?_append_left (by rw [← h.1]; exact hb)]; exact h.2 b
  · have h1 := h.1
    rw [Array.getElem?_append_right (by omega), Array.getElem?_append_right (by omega), h1]; exact .inl rfl
theorem Offs.drew {W1 W2 : World} (h : Offs W1 W2) : Offs W1.drew W2.drew := h
theorem Offs.drewL {W1 W2 : World} (h : Offs W1 W2) : Offs W1.drew W2 := h
theorem Offs.drewR {W1 W2 : World} (h : Offs W1 W2) : Offs W1 W2.drew := h
theorem nuB (b : Bool) (A : Option Addr) (n c : Nat) (e : TypeId) : NoU (.cells #[.bool b, .slice A n c] e) := ⟨_, _, _, rfl, by simp⟩
theorem nuV (k p q : Int) (g : Bool) (A C : Option Addr) (n c m d : Nat) (r : Int) (e : TypeId) : NoU (.cells #[.int .i64 k, .int .i64 p, .int .i64 q, .bool g, .slice A n c, .slice C m d, .int .i64 r] e) := ⟨_, _, _, rfl, by simp⟩
theorem nuN (k p : Int) (e : TypeId) : NoU (.cells #[.int .i64 k, .int .i64 p] e) := ⟨_, _, _, rfl, by simp⟩
theorem NV.offs {W1 W2 : World} {v : Value} {x : JV} (h : NV W1 v x) (o : Offp W1 W2) : NV W2 v x := by
  cases x with
  | big z => obtain ⟨g, A, C, xs, n, c, d, e, h1, h2, h3, h4⟩ := h; exact ⟨g, A, C, xs, n, c, d, e, h1, h2, h3, arg_offp h4 o⟩
  | text us => obtain ⟨A, C, c, m, d, e, h1, h2, h3⟩ := h; exact ⟨A, C, c, m, d, e, h1, h2, ar_offp h3 o⟩
  | _ => exact h
/-- What is told of a value and a signal. -/
def RetF (F : Value → Int → World → Prop) (w : World) (e : Ending) (w' : World) : Prop :=
  ∃ (k p q : Int) (g : Bool) (A C : Option Addr) (n c m d : Nat) (r s : Int), e = .returned (.tuple #[Value.agg #[.int .i64 k, .int .i64 p, .int .i64 q, .bool g, .slice A n c, .slice C m d, .int .i64 r], .int .i64 s]) ∧ F (Value.agg #[.int .i64 k, .int .i64 p, .int .i64 q, .bool g, .slice A n c, .slice C m d, .int .i64 r]) s w' ∧ Plus w w'
def Stab (F : Value → Int → World → Prop) : Prop := ∀ v s W W', F v s W → Offp W W' → F v s W'
def FV (V : Value) (s0 : Int) : Value → Int → World → Prop := fun v s _ => v = V ∧ s = s0
def FJ (x : JV) (s0 : Int) : Value → Int → World → Prop := fun v s W => NV W v x ∧ s = s0
theorem FV.stab (V : Value) (s0 : Int) : Stab (FV V s0) := fun _ _ _ _ h _ => h
theorem FJ.stab (x : JV) (s0 : Int) : Stab (FJ x s0) := fun _ _ _ _ h o => ⟨h.1.offs o, h.2⟩
theorem retF_of {k p q : Int} {g : Bool} {A C : Option Addr} {n c m d : Nat} {r s : Int} {w : World} {e : Ending} {w' : World} (h : e = .returned (.tuple #[Value.agg #[.int .i64 k, .int .i64 p, .int .i64 q, .bool g, .slice A n c, .slice C m d, .int .i64 r], .int .i64 s]) ∧ Plus w w') : RetF (FV (Value.agg #[.int .i64 k, .int .i64 p, .int .i64 q, .bool g, .slice A n c, .slice C m d, .int .i64 r]) s) w e w' :=
  ⟨k, p, q, g, A, C, n, c, m, d, r, s, h.1, ⟨rfl, rfl⟩, h.2⟩
theorem retF_to {k p q : Int} {g : Bool} {A C : Option Addr} {n c m d : Nat} {r s : Int} {w : World} {e : Ending} {w' : World} (h : RetF (FV (Value.agg #[.int .i64 k, .int .i64 p, .int .i64 q, .bool g, .slice A n c, .slice C m d, .int .i64 r]) s) w e w') : e = .returned (.tuple #[Value.agg #[.int .i64 k, .int .i64 p, .int .i64 q, .bool g, .slice A n c, .slice C m d, .int .i64 r], .int .i64 s]) ∧ Plus w w' := by
  obtain ⟨k, p, q, g, A, C, n, c, m, d, r, s2, rfl, ⟨h1, rfl⟩, hp⟩ := h
  exact ⟨by rw [h1], hp⟩
end Go.Proofs.YtakahpbondaidaaGreatDoor
