/- The document's Strict. -/
import Derived.Test.YtakahpbondaidaaGreatDoorZV
import Derived.Test.YtakahpbondaidaaGreatDoorZR
namespace Go.Proofs.YtakahpbondaidaaGreatDoor
open Go.RowKit

/-- Block b is a box of a value. -/
def BxO (w : World) (b : Nat) (cs : Array Value) : Prop := w.heap[b]? = some (.cells cs 32)
section
variable {w w' : World} {b : Nat} {cs : Array Value}
theorem BxO.lt (h : BxO w b cs) : b < w.heap.size := (Array.getElem?_eq_some_iff.1 h).1
theorem BxO.below (h : BxO w b cs) (hp : Below w.heap.size w w') : BxO w' b cs := (hp.block b h.lt).trans h
theorem BxO.plus' (h : BxO w b cs) (hp : Plus w w') : BxO w' b cs := h.below hp.below
theorem BxO.alloc (h : BxO w b cs) (o : Obj) : BxO (w.alloc o) b cs := h.plus' ((Plus.refl _).alloc o)
theorem BxO.grow (h : BxO w b cs) (x : More) : BxO (_root_.Go.Proofs.YtakahpbondaidaaGreatDoor.plus w x) b cs := h.plus' (Plus.is x)
theorem BxO.drew (h : BxO w b cs) : BxO w.drew b cs := h
theorem BxO.new' (h : b = w.heap.size) : BxO (w.alloc (.cells cs 32)) b cs := by
  subst h
  exact Array.getElem?_push_size
theorem BxO.cell (h : BxO w b cs) (i : Nat) : w.cell? ⟨b, i, none⟩ = cs[i]? := by
  have h' : w.heap[b]? = some (.cells cs 32) := h
  simp only [World.cell?, h']
  rfl
theorem BxO.frozen (h : BxO w b cs) (i : Nat) : w.frozen? ⟨b, i, none⟩ = false := by
  have h' : w.heap[b]? = some (.cells cs 32) := h
  simp only [World.frozen?, h']
  simp
theorem BxO.set (h : BxO w b cs) (i : Nat) (v : Value) : BxO (w.setCell ⟨b, i, none⟩ v) b (cs.setIfInBounds i v) := by
  show (w.setCell ⟨b, i, none⟩ v).heap[b]? = _
  unfold World.setCell
  simp only
  rw [Array.getElem?_modify, if_pos rfl, h]
  rfl
theorem BxO.set_ne {c : Nat} {ds : Array Value} (h : BxO w c ds) (hne : b ≠ c) (i : Nat) (v : Value) : BxO (w.setCell ⟨b, i, none⟩ v) c ds := by
  show (w.setCell ⟨b, i, none⟩ v).heap[c]? = _
  unfold World.setCell
  simp only
  rw [Array.getElem?_modify, if_neg hne]
  exact h
end
theorem BxO.cells {k p q : Int} {g : Bool} {A C : Option Addr} {n c m d : Nat} {r : Int} {w : World} {b : Nat} (h : BxO w b #[.int .i64 k, .int .i64 p, .int .i64 q, .bool g, .slice A n c, .slice C m d, .int .i64 r]) : w.cell? ⟨b, 0, none⟩ = some (.int .i64 k) ∧ w.cell? ⟨b, 1, none⟩ = some (.int .i64 p) ∧ w.cell? ⟨b, 2, none⟩ = some (.int .i64 q) ∧ w.cell? ⟨b, 3, none⟩ = some (.bool g) ∧ w.cell? ⟨b, 4, none⟩ = some (.slice A n c) ∧ w.cell? ⟨b, 5, none⟩ = some (.slice C m d) ∧ w.cell? ⟨b, 6, none⟩ = some (.int .i64 r) := ⟨h.cell 0, h.cell 1, h.cell 2, h.cell 3, h.cell 4, h.cell 5, h.cell 6⟩
theorem BxO.fr {w : World} {b : Nat} {cs : Array Value} (h : BxO w b cs) : w.frozen? ⟨b, 0, none⟩ = false ∧ w.frozen? ⟨b, 1, none⟩ = false ∧ w.frozen? ⟨b, 2, none⟩ = false ∧ w.frozen? ⟨b, 3, none⟩ = false ∧ w.frozen? ⟨b, 4, none⟩ = false ∧ w.frozen? ⟨b, 5, none⟩ = false ∧ w.frozen? ⟨b, 6, none⟩ = false := ⟨h.frozen 0, h.frozen 1, h.frozen 2, h.frozen 3, h.frozen 4, h.frozen 5, h.frozen 6⟩
theorem requal9_v {k n l m : Int} {b : Bool} (h : Hid (equalR k n l m = b)) (w : World) : Calls Tryz.prog 76 #[.agg #[.int .i64 k, .int .i64 n], .agg #[.int .i64 l, .int .i64 m]] w fun e w' => e = .returned (.bool b) ∧ Plus w w' := by
  rw [← h.out]
  exact requal_c k n l m w
set_option maxRecDepth 100000 in
set_option maxHeartbeats 4000000 in
theorem s9t_d {ka pa qa : Int} {ga : Bool} {Aa Ca : Option Addr} {na ca ma da : Nat} {ra : Int} {kb pb qb : Int} {gb : Bool} {Ab Cb : Option Addr} {nb cb mb db : Nat} {rb : Int} {k2 p2 q2 : Int} {g2 : Bool} {A2 C2 : Option Addr} {n2 c2 m2 d2 : Nat} {r2 : Int} {k3 p3 q3 : Int} {g3 : Bool} {A3 C3 : Option Addr} {n3 c3 m3 d3 : Nat} {r3 : Int} (w : World) (hva : Hid (Vldg w (Value.agg #[.int .i64 ka, .int .i64 pa, .int .i64 qa, .bool ga, .slice Aa na ca, .slice Ca ma da, .int .i64 ra]) (Value.agg #[.int .i64 k2, .int .i64 p2, .int .i64 q2, .bool g2, .slice A2 n2 c2, .slice C2 m2 d2, .int .i64 r2]))) (hvb : Hid (Vldg w (Value.agg #[.int .i64 kb, .int .i64 pb, .int .i64 qb, .bool gb, .slice Ab nb cb, .slice Cb mb db, .int .i64 rb]) (Value.agg #[.int .i64 k3, .int .i64 p3, .int .i64 q3, .bool g3, .slice A3 n3 c3, .slice C3 m3 d3, .int .i64 r3]))) (b0 : (k2 != k3) = true) : Calls Tryz.prog 30 #[Value.agg #[.int .i64 ka, .int .i64 pa, .int .i64 qa, .bool ga, .slice Aa na ca, .slice Ca ma da, .int .i64 ra], Value.agg #[.int .i64 kb, .int .i64 pb, .int .i64 qb, .bool gb, .slice Ab nb cb, .slice Cb mb db, .int .i64 rb]] w fun e w' => e = .returned (.bool false) ∧ Plus w w' := by
  go_enter Tryz.func30, Tryz.ntmps30
  go_upto_region 1 with fail
  go_cut [5, 6] (fun sa sb wx => ∃ b5 b6, sa = .pointer (some ⟨b5, 0, none⟩) ∧ sb = .pointer (some ⟨b6, 0, none⟩) ∧ Plus w wx ∧ BxO wx b5 #[.int .i64 k2, .int .i64 p2, .int .i64 q2, .bool g2, .slice A2 n2 c2, .slice C2 m2 d2, .int .i64 r2] ∧ BxO wx b6 #[.int .i64 k3, .int .i64 p3, .int .i64 q3, .bool g3, .slice A3 n3 c3, .slice C3 m3 d3, .int .i64 r3] ∧ b5 ≠ b6 ∧ w.heap.size ≤ b5 ∧ w.heap.size ≤ b6)
  case first =>
    go_region_held3 (fun w' => w'.cell? ⟨w.heap.size, 0, none⟩ = some (.int .i64 ka) ∧ w'.cell? ⟨w.heap.size, 1, none⟩ = some (.int .i64 pa) ∧ w'.cell? ⟨w.heap.size, 2, none⟩ = some (.int .i64 qa) ∧ w'.cell? ⟨w.heap.size, 3, none⟩ = some (.bool ga) ∧ w'.cell? ⟨w.heap.size, 4, none⟩ = some (.slice Aa na ca) ∧ w'.cell? ⟨w.heap.size, 5, none⟩ = some (.slice Ca ma da) ∧ w'.cell? ⟨w.heap.size, 6, none⟩ = some (.int .i64 ra) ∧ w'.cell? ⟨w.heap.size + 1, 0, none⟩ = some (.int .i64 kb) ∧ w'.cell? ⟨w.heap.size + 1, 1, none⟩ = some (.int .i64 pb) ∧ w'.cell? ⟨w.heap.size + 1, 2, none⟩ = some (.int .i64 qb) ∧ w'.cell? ⟨w.heap.size + 1, 3, none⟩ = some (.bool gb) ∧ w'.cell? ⟨w.heap.size + 1, 4, none⟩ = some (.slice Ab nb cb) ∧ w'.cell? ⟨w.heap.size + 1, 5, none⟩ = some (.slice Cb mb db) ∧ w'.cell? ⟨w.heap.size + 1, 6, none⟩ = some (.int .i64 rb)) (refine ⟨?_, ?_, ?_, ?_, ?_, ?_, ?_, ?_, ?_, ?_, ?_, ?_, ?_, ?_⟩ <;> simp [go_sem]) (first | (go_at_call_of 45 (Value.agg #[.int .i64 ka, .int .i64 pa, .int .i64 qa, .bool ga, .slice Aa na ca, .slice Ca ma da, .int .i64 ra]); (with_reducible refine (Vldg.call hva.out (by repeat' (first | exact Plus.refl _ | refine Plus.alloc ?_ _ | refine Plus.plus ?_ _ | refine Plus.drew ?_ | refine Plus.drewN ?_ _))).mono ?_); rintro e w1 ⟨rfl, ⟨x1, rfl⟩⟩) | (go_at_call_of 45 (Value.agg #[.int .i64 kb, .int .i64 pb, .int .i64 qb, .bool gb, .slice Ab nb cb, .slice Cb mb db, .int .i64 rb]); (with_reducible refine (Vldg.call hvb.out (by repeat' (first | exact Plus.refl _ | refine Plus.alloc ?_ _ | refine Plus.plus ?_ _ | refine Plus.drew ?_ | refine Plus.drewN ?_ _))).mono ?_); rintro e w1 ⟨rfl, ⟨y1, rfl⟩⟩))
    all_goals (go_wp2_with fail; go_meet; refine ⟨_, _, rfl, rfl, ?_, ?_, ?_, ?_, ?_, ?_⟩)
    all_goals first | ((repeat' (first | exact Plus.refl _ | refine Plus.alloc ?_ _ | refine Plus.plus ?_ _ | refine Plus.drew ?_ | refine Plus.drewN ?_ _)); done) | ((repeat' (first | (refine BxO.new' ?_; (simp [go_sem]; done)) | refine BxO.alloc ?_ _ | refine BxO.grow ?_ _ | refine BxO.drew ?_)); done) | omega | (simp [go_sem]; done) | (simp [go_sem]; omega)
  case rest =>
    obtain ⟨b5, b6, rfl, rfl, hPw, hB5, hB6, hne, hl5, hl6⟩ := hcut
    have HP := Lib.hid hPw
    obtain ⟨ka0, ka1, ka2, ka3, ka4, ka5, ka6⟩ := hB5.cells
    obtain ⟨la0, la1, la2, la3, la4, la5, la6⟩ := hB6.cells
    haveI : Old b5 wc := ⟨hB5.lt⟩
    haveI : Old b6 wc := ⟨hB6.lt⟩
    clear hPw hB5 hB6
    go_wp2_with fail
    go_returns
    exact ⟨rfl, HP.out.trans (by repeat' (first | exact Plus.refl _ | refine Plus.alloc ?_ _ | refine Plus.plus ?_ _ | refine Plus.drew ?_ | refine Plus.drewN ?_ _))⟩
set_option maxRecDepth 100000 in
set_option maxHeartbeats 4000000 in
theorem s9t_3 {ka pa qa : Int} {ga : Bool} {Aa Ca : Option Addr} {na ca ma da : Nat} {ra : Int} {kb pb qb : Int} {gb : Bool} {Ab Cb : Option Addr} {nb cb mb db : Nat} {rb : Int} {p2 q2 : Int} {g2 : Bool} {A2 C2 : Option Addr} {n2 c2 m2 d2 : Nat} {r2 : Int} {p3 q3 : Int} {g3 : Bool} {A3 C3 : Option Addr} {n3 c3 m3 d3 : Nat} {r3 : Int} (w : World) (hva : Hid (Vldg w (Value.agg #[.int .i64 ka, .int .i64 pa, .int .i64 qa, .bool ga, .slice Aa na ca, .slice Ca ma da, .int .i64 ra]) (Value.agg #[.int .i64 3, .int .i64 p2, .int .i64 q2, .bool g2, .slice A2 n2 c2, .slice C2 m2 d2, .int .i64 r2]))) (hvb : Hid (Vldg w (Value.agg #[.int .i64 kb, .int .i64 pb, .int .i64 qb, .bool gb, .slice Ab nb cb, .slice Cb mb db, .int .i64 rb]) (Value.agg #[.int .i64 3, .int .i64 p3, .int .i64 q3, .bool g3, .slice A3 n3 c3, .slice C3 m3 d3, .int .i64 r3]))) {z : Bool} (hq : Hid (equalR p2 q2 p3 q3 = z)) : Calls Tryz.prog 30 #[Value.agg #[.int .i64 ka, .int .i64 pa, .int .i64 qa, .bool ga, .slice Aa na ca, .slice Ca ma da, .int .i64 ra], Value.agg #[.int .i64 kb, .int .i64 pb, .int .i64 qb, .bool gb, .slice Ab nb cb, .slice Cb mb db, .int .i64 rb]] w fun e w' => e = .returned (.bool z) ∧ Plus w w' := by
  go_enter Tryz.func30, Tryz.ntmps30
  go_upto_region 1 with fail
  go_cut [5, 6] (fun sa sb wx => ∃ b5 b6, sa = .pointer (some ⟨b5, 0, none⟩) ∧ sb = .pointer (some ⟨b6, 0, none⟩) ∧ Plus w wx ∧ BxO wx b5 #[.int .i64 3, .int .i64 p2, .int .i64 q2, .bool g2, .slice A2 n2 c2, .slice C2 m2 d2, .int .i64 r2] ∧ BxO wx b6 #[.int .i64 3, .int .i64 p3, .int .i64 q3, .bool g3, .slice A3 n3 c3, .slice C3 m3 d3, .int .i64 r3] ∧ b5 ≠ b6 ∧ w.heap.size ≤ b5 ∧ w.heap.size ≤ b6)
  case first =>
    go_region_held3 (fun w' => w'.cell? ⟨w.heap.size, 0, none⟩ = some (.int .i64 ka) ∧ w'.cell? ⟨w.heap.size, 1, none⟩ = some (.int .i64 pa) ∧ w'.cell? ⟨w.heap.size, 2, none⟩ = some (.int .i64 qa) ∧ w'.cell? ⟨w.heap.size, 3, none⟩ = some (.bool ga) ∧ w'.cell? ⟨w.heap.size, 4, none⟩ = some (.slice Aa na ca) ∧ w'.cell? ⟨w.heap.size, 5, none⟩ = some (.slice Ca ma da) ∧ w'.cell? ⟨w.heap.size, 6, none⟩ = some (.int .i64 ra) ∧ w'.cell? ⟨w.heap.size + 1, 0, none⟩ = some (.int .i64 kb) ∧ w'.cell? ⟨w.heap.size + 1, 1, none⟩ = some (.int .i64 pb) ∧ w'.cell? ⟨w.heap.size + 1, 2, none⟩ = some (.int .i64 qb) ∧ w'.cell? ⟨w.heap.size + 1, 3, none⟩ = some (.bool gb) ∧ w'.cell? ⟨w.heap.size + 1, 4, none⟩ = some (.slice Ab nb cb) ∧ w'.cell? ⟨w.heap.size + 1, 5, none⟩ = some (.slice Cb mb db) ∧ w'.cell? ⟨w.heap.size + 1, 6, none⟩ = some (.int .i64 rb)) (refine ⟨?_, ?_, ?_, ?_, ?_, ?_, ?_, ?_, ?_, ?_, ?_, ?_, ?_, ?_⟩ <;> simp [go_sem]) (first | (go_at_call_of 45 (Value.agg #[.int .i64 ka, .int .i64 pa, .int .i64 qa, .bool ga, .slice Aa na ca, .slice Ca ma da, .int .i64 ra]); (with_reducible refine (Vldg.call hva.out (by repeat' (first | exact Plus.refl _ | refine Plus.alloc ?_ _ | refine Plus.plus ?_ _ | refine Plus.drew ?_ | refine Plus.drewN ?_ _))).mono ?_); rintro e w1 ⟨rfl, ⟨x1, rfl⟩⟩) | (go_at_call_of 45 (Value.agg #[.int .i64 kb, .int .i64 pb, .int .i64 qb, .bool gb, .slice Ab nb cb, .slice Cb mb db, .int .i64 rb]); (with_reducible refine (Vldg.call hvb.out (by repeat' (first | exact Plus.refl _ | refine Plus.alloc ?_ _ | refine Plus.plus ?_ _ | refine Plus.drew ?_ | refine Plus.drewN ?_ _))).mono ?_); rintro e w1 ⟨rfl, ⟨y1, rfl⟩⟩))
    all_goals (go_wp2_with fail; go_meet; refine ⟨_, _, rfl, rfl, ?_, ?_, ?_, ?_, ?_, ?_⟩)
    all_goals first | ((repeat' (first | exact Plus.refl _ | refine Plus.alloc ?_ _ | refine Plus.plus ?_ _ | refine Plus.drew ?_ | refine Plus.drewN ?_ _)); done) | ((repeat' (first | (refine BxO.new' ?_; (simp [go_sem]; done)) | refine BxO.alloc ?_ _ | refine BxO.grow ?_ _ | refine BxO.drew ?_)); done) | omega | (simp [go_sem]; done) | (simp [go_sem]; omega)
  case rest =>
    obtain ⟨b5, b6, rfl, rfl, hPw, hB5, hB6, hne, hl5, hl6⟩ := hcut
    have HP := Lib.hid hPw
    obtain ⟨ka0, ka1, ka2, ka3, ka4, ka5, ka6⟩ := hB5.cells
    obtain ⟨la0, la1, la2, la3, la4, la5, la6⟩ := hB6.cells
    haveI : Old b5 wc := ⟨hB5.lt⟩
    haveI : Old b6 wc := ⟨hB6.lt⟩
    clear hPw hB5 hB6
    go_wp2_with (go_at_call 76; (with_reducible refine (requal9_v hq _).mono ?_); rintro e w1 ⟨rfl, ⟨x9, rfl⟩⟩)
    go_returns
    exact ⟨rfl, HP.out.trans (by repeat' (first | exact Plus.refl _ | refine Plus.alloc ?_ _ | refine Plus.plus ?_ _ | refine Plus.drew ?_ | refine Plus.drewN ?_ _))⟩
set_option maxRecDepth 100000 in
set_option maxHeartbeats 4000000 in
theorem s9t_s {ka pa qa : Int} {ga : Bool} {Aa Ca : Option Addr} {na ca ma da : Nat} {ra : Int} {kb pb qb : Int} {gb : Bool} {Ab Cb : Option Addr} {nb cb mb db : Nat} {rb : Int} {k2 p2 q2 : Int} {g2 : Bool} {A2 C2 : Option Addr} {xs2 us2 : List Nat} {n2 c2 m2 d2 : Nat} {r2 : Int} {p3 q3 : Int} {g3 : Bool} {A3 C3 : Option Addr} {xs3 us3 : List Nat} {n3 c3 m3 d3 : Nat} {r3 : Int} (w : World) (hva : Hid (Vldg w (Value.agg #[.int .i64 ka, .int .i64 pa, .int .i64 qa, .bool ga, .slice Aa na ca, .slice Ca ma da, .int .i64 ra]) (Value.agg #[.int .i64 k2, .int .i64 p2, .int .i64 q2, .bool g2, .slice A2 n2 c2, .slice C2 m2 d2, .int .i64 r2]))) (hvb : Hid (Vldg w (Value.agg #[.int .i64 kb, .int .i64 pb, .int .i64 qb, .bool gb, .slice Ab nb cb, .slice Cb mb db, .int .i64 rb]) (Value.agg #[.int .i64 k2, .int .i64 p3, .int .i64 q3, .bool g3, .slice A3 n3 c3, .slice C3 m3 d3, .int .i64 r3]))) {z : Bool} (H2 : Hid (VM w A2 xs2 n2 c2 C2 us2 m2 d2)) (H3 : Hid (VM w A3 xs3 n3 c3 C3 us3 m3 d3)) (b3 : (k2 == 3) = false) (hq : Hid (sameV k2 p2 q2 g2 xs2 us2 r2 k2 p3 q3 g3 xs3 us3 r3 = z)) : Calls Tryz.prog 30 #[Value.agg #[.int .i64 ka, .int .i64 pa, .int .i64 qa, .bool ga, .slice Aa na ca, .slice Ca ma da, .int .i64 ra], Value.agg #[.int .i64 kb, .int .i64 pb, .int .i64 qb, .bool gb, .slice Ab nb cb, .slice Cb mb db, .int .i64 rb]] w fun e w' => e = .returned (.bool z) ∧ Plus w w' := by
  go_enter Tryz.func30, Tryz.ntmps30
  go_upto_region 1 with fail
  go_cut [5, 6] (fun sa sb wx => ∃ b5 b6, sa = .pointer (some ⟨b5, 0, none⟩) ∧ sb = .pointer (some ⟨b6, 0, none⟩) ∧ Plus w wx ∧ BxO wx b5 #[.int .i64 k2, .int .i64 p2, .int .i64 q2, .bool g2, .slice A2 n2 c2, .slice C2 m2 d2, .int .i64 r2] ∧ BxO wx b6 #[.int .i64 k2, .int .i64 p3, .int .i64 q3, .bool g3, .slice A3 n3 c3, .slice C3 m3 d3, .int .i64 r3] ∧ b5 ≠ b6 ∧ w.heap.size ≤ b5 ∧ w.heap.size ≤ b6)
  case first =>
    go_region_held3 (fun w' => w'.cell? ⟨w.heap.size, 0, none⟩ = some (.int .i64 ka) ∧ w'.cell? ⟨w.heap.size, 1, none⟩ = some (.int .i64 pa) ∧ w'.cell? ⟨w.heap.size, 2, none⟩ = some (.int .i64 qa) ∧ w'.cell? ⟨w.heap.size, 3, none⟩ = some (.bool ga) ∧ w'.cell? ⟨w.heap.size, 4, none⟩ = some (.slice Aa na ca) ∧ w'.cell? ⟨w.heap.size, 5, none⟩ = some (.slice Ca ma da) ∧ w'.cell? ⟨w.heap.size, 6, none⟩ = some (.int .i64 ra) ∧ w'.cell? ⟨w.heap.size + 1, 0, none⟩ = some (.int .i64 kb) ∧ w'.cell? ⟨w.heap.size + 1, 1, none⟩ = some (.int .i64 pb) ∧ w'.cell? ⟨w.heap.size + 1, 2, none⟩ = some (.int .i64 qb) ∧ w'.cell? ⟨w.heap.size + 1, 3, none⟩ = some (.bool gb) ∧ w'.cell? ⟨w.heap.size + 1, 4, none⟩ = some (.slice Ab nb cb) ∧ w'.cell? ⟨w.heap.size + 1, 5, none⟩ = some (.slice Cb mb db) ∧ w'.cell? ⟨w.heap.size + 1, 6, none⟩ = some (.int .i64 rb)) (refine ⟨?_, ?_, ?_, ?_, ?_, ?_, ?_, ?_, ?_, ?_, ?_, ?_, ?_, ?_⟩ <;> simp [go_sem]) (first | (go_at_call_of 45 (Value.agg #[.int .i64 ka, .int .i64 pa, .int .i64 qa, .bool ga, .slice Aa na ca, .slice Ca ma da, .int .i64 ra]); (with_reducible refine (Vldg.call hva.out (by repeat' (first | exact Plus.refl _ | refine Plus.alloc ?_ _ | refine Plus.plus ?_ _ | refine Plus.drew ?_ | refine Plus.drewN ?_ _))).mono ?_); rintro e w1 ⟨rfl, ⟨x1, rfl⟩⟩) | (go_at_call_of 45 (Value.agg #[.int .i64 kb, .int .i64 pb, .int .i64 qb, .bool gb, .slice Ab nb cb, .slice Cb mb db, .int .i64 rb]); (with_reducible refine (Vldg.call hvb.out (by repeat' (first | exact Plus.refl _ | refine Plus.alloc ?_ _ | refine Plus.plus ?_ _ | refine Plus.drew ?_ | refine Plus.drewN ?_ _))).mono ?_); rintro e w1 ⟨rfl, ⟨y1, rfl⟩⟩))
    all_goals (go_wp2_with fail; go_meet; refine ⟨_, _, rfl, rfl, ?_, ?_, ?_, ?_, ?_, ?_⟩)
    all_goals first | ((repeat' (first | exact Plus.refl _ | refine Plus.alloc ?_ _ | refine Plus.plus ?_ _ | refine Plus.drew ?_ | refine Plus.drewN ?_ _)); done) | ((repeat' (first | (refine BxO.new' ?_; (simp [go_sem]; done)) | refine BxO.alloc ?_ _ | refine BxO.grow ?_ _ | refine BxO.drew ?_)); done) | omega | (simp [go_sem]; done) | (simp [go_sem]; omega)
  case rest =>
    obtain ⟨b5, b6, rfl, rfl, hPw, hB5, hB6, hne, hl5, hl6⟩ := hcut
    have HP := Lib.hid hPw
    obtain ⟨ka0, ka1, ka2, ka3, ka4, ka5, ka6⟩ := hB5.cells
    obtain ⟨la0, la1, la2, la3, la4, la5, la6⟩ := hB6.cells
    haveI : Old b5 wc := ⟨hB5.lt⟩
    haveI : Old b6 wc := ⟨hB6.lt⟩
    clear hPw hB5 hB6
    go_wp2_with (go_at_call 26; (with_reducible refine (same9_v hq _ (H2.out.plus (HP.out.trans (by repeat' (first | exact Plus.refl _ | refine Plus.alloc ?_ _ | refine Plus.plus ?_ _ | refine Plus.drew ?_ | refine Plus.drewN ?_ _)))) (H3.out.plus (HP.out.trans (by repeat' (first | exact Plus.refl _ | refine Plus.alloc ?_ _ | refine Plus.plus ?_ _ | refine Plus.drew ?_ | refine Plus.drewN ?_ _))))).mono ?_); rintro e w1 ⟨rfl, ⟨x9, rfl⟩⟩)
    go_returns
    exact ⟨rfl, HP.out.trans (by repeat' (first | exact Plus.refl _ | refine Plus.alloc ?_ _ | refine Plus.plus ?_ _ | refine Plus.drew ?_ | refine Plus.drewN ?_ _))⟩
theorem strict9_v {ka pa qa : Int} {ga : Bool} {Aa Ca : Option Addr} {na ca ma da : Nat} {ra : Int} {kb pb qb : Int} {gb : Bool} {Ab Cb : Option Addr} {nb cb mb db : Nat} {rb : Int} {u v : Value} {x y : JV} {z : Bool} (hz : Hid (strictJ x y = z)) (w : World) (hx : NV w u x) (hy : NV w v y) (hva : Vldg w (Value.agg #[.int .i64 ka, .int .i64 pa, .int .i64 qa, .bool ga, .slice Aa na ca, .slice Ca ma da, .int .i64 ra]) u) (hvb : Vldg w (Value.agg #[.int .i64 kb, .int .i64 pb, .int .i64 qb, .bool gb, .slice Ab nb cb, .slice Cb mb db, .int .i64 rb]) v) : Calls Tryz.prog 30 #[Value.agg #[.int .i64 ka, .int .i64 pa, .int .i64 qa, .bool ga, .slice Aa na ca, .slice Ca ma da, .int .i64 ra], Value.agg #[.int .i64 kb, .int .i64 pb, .int .i64 qb, .bool gb, .slice Ab nb cb, .slice Cb mb db, .int .i64 rb]] w fun e w' => e = .returned (.bool z) ∧ Plus w w' := by
  obtain ⟨k2, p2, q2, g2, A2, C2, xs2, us2, n2, c2, m2, d2, r2, rfl, m2', _, e2, f2⟩ := hx.gen
  obtain ⟨k3, p3, q3, g3, A3, C3, xs3, us3, n3, c3, m3, d3, r3, rfl, m3', _, e3, f3⟩ := hy.gen
  have q := strictV_jv m2'.b.bd m3'.b.bd f2 f3
  rw [e2, e3, hz.out] at q
  subst q
  unfold strictV
  by_cases hk : k2 = k3
  · subst hk
    rw [if_pos rfl]
    by_cases h3 : k2 = 3
    · subst h3
      rw [if_pos rfl]
      exact s9t_3 w (Lib.hid hva) (Lib.hid hvb) (Lib.hid rfl)
    · rw [if_neg h3]
      exact s9t_s w (Lib.hid hva) (Lib.hid hvb) (Lib.hid m2') (Lib.hid m3') (beq_f h3) (Lib.hid rfl)
  · rw [if_neg hk]
    exact s9t_d w (Lib.hid hva) (Lib.hid hvb) (by simp [hk])
end Go.Proofs.YtakahpbondaidaaGreatDoor
