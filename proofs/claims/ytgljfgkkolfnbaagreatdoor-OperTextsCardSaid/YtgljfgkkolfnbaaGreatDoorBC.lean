/- What the library's functions do, in handy words; the listed variables. Contracts: Bytes. -/
import Derived.Lib.ItoaMem
import Derived.Lib.AtoiErrMem
import Derived.Test.YtgljfgkkolfnbaaGreatDoorH
import Derived.Test.YtgljfgkkolfnbaaGreatDoorBB
import Derived.Test.YtgljfgkkolfnbaaGreatDoorRows
namespace Go.Proofs.YtgljfgkkolfnbaaGreatDoor
open Go.RowKit


/-- The name of the library's table of powers of ten. -/
def powName : String := Rows.operUnaryRow.named.getD 0 ""
theorem var_plus {w w' : World} {n : String} {cs : Array Value} (h : w.var? Tryz.prog n = some cs) (hp : Plus w w') : w'.var? Tryz.prog n = some cs := by
  unfold World.var? at h ⊢
  cases hg : Tryz.prog.globalNamed n with
  | none => rw [hg] at h; cases h
  | some g =>
    rw [hg] at h
    simp only [Option.bind_some] at h ⊢
    have hlt : g < w.heap.size := by
      apply Nat.lt_of_not_le
      intro hle
      rw [Array.getElem?_eq_none hle] at h
      cases h
    rw [hp.below.block g hlt]
    exact h
/-- The listed variables that the walks read. -/
structure Lai (w : World) : Prop where
  syn : ∃ tp p, w.var? Tryz.prog "strconv.ErrSyntax" = some #[.iface tp p]
  ran : ∃ tp p, w.var? Tryz.prog "strconv.ErrRange" = some #[.iface tp p]
  tab : Lib.TabIs Tryz.prog w powName .u64 Lib.pow10Tab
  utf : Lib.Utf8Tabs 0 1 w
theorem cell_plus {w w' : World} {a : Addr} {v : Value} (h : w.cell? a = some v) (hp : Plus w w') : w'.cell? a = some v :=
  (World.cell?_of_block (w := w) (hp.below.block _ (World.block_lt_of_cell? _ _ h))).trans h
theorem Lai.plus {w w' : World} (h : Lai w) (hp : Plus w w') : Lai w' := by
  obtain ⟨⟨t1, p1, h1⟩, ⟨t2, p2, h2⟩, h3, h4, h5⟩ := h
  exact ⟨⟨t1, p1, var_plus h1 hp⟩, ⟨t2, p2, var_plus h2 hp⟩, var_plus h3 hp, fun c hc => cell_plus (h4 c hc) hp, fun i hi => ⟨cell_plus (h5 i hi).1 hp, cell_plus (h5 i hi).2 hp⟩⟩
theorem plus_grow (w : World) (k : Nat) (os : Array Obj) : Plus w (Sort.grow (w.drewN k) os) := by
  refine Plus.of_below ⟨rfl, rfl, rfl, ?_, fun i hi => ?_⟩
  · simp [Sort.grow]
  · simp only [Sort.grow]
    rw [Array.getElem?_append_left (by simpa using hi)]
    rfl
/-- strconv.Itoa. -/
theorem itoa_c (n : Int) (h0 : -9223372036854775808 ≤ n) (h1 : n ≤ 9223372036854775807) (w : World) (hL : Lai w) :
    Calls Tryz.prog 214 #[.int .i64 n] w fun e w' => e = .returned (.string ⟨(Lib.itoa n).toArray⟩) ∧ Plus w w' := by
  refine (Any.strconv_Itoa Tryz.laysM171 n h0 h1 w hL.tab).mono ?_
  rintro e w' ⟨rfl, k, os, rfl⟩
  exact ⟨rfl, plus_grow w k os⟩
/-- strconv.Atoi, where it tells a number. -/
theorem atoi_yes (s : ByteArray) (hs : s.size ≤ 281474976710656) (v : Int) (h : Lib.atoiAll s.data.toList = .ok v) (w : World) :
    Calls Tryz.prog 213 #[.string s] w fun e w' => e = .returned (.tuple #[.int .i64 v, .nilIface]) ∧ Plus w w' := by
  refine (Tryz.strconv_Atoi_ok s (by omega) v h w).mono ?_
  rintro e w' ⟨rfl, hw⟩
  refine ⟨rfl, ?_⟩
  rcases hw with rfl | ⟨t, rfl⟩
  · exact Plus.refl _
  · exact Plus.of_below (Lib.bytesWorld_below _ _ _)
/-- Where it tells an error. -/
theorem atoi_no (s : ByteArray) (hs : s.size ≤ 281474976710656) (h : ∀ v, Lib.atoiAll s.data.toList ≠ .ok v) (w : World) (hL : Lai w) :
    Calls Tryz.prog 213 #[.string s] w fun e w' => ∃ n p, e = .returned (.tuple #[.int .i64 n, .iface 184 p]) ∧ Plus w w' := by
  obtain ⟨⟨t1, p1, h1⟩, ⟨t2, p2, h2⟩, _, _⟩ := hL
  have hcase : (∃ v, Lib.atoiAll s.data.toList = .ok v) ∨ Lib.atoiAll s.data.toList = .range ∨ (∀ v, Lib.atoiAll s.data.toList ≠ .ok v) ∧ Lib.atoiAll s.data.toList ≠ .range := by
    by_cases a : ∃ v, Lib.atoiAll s.data.toList = .ok v
    · exact .inl a
    · by_cases b : Lib.atoiAll s.data.toList = .range
      · exact .inr (.inl b)
      · exact .inr (.inr ⟨fun v q => a ⟨v, q⟩, b⟩)
  rcases hcase with ⟨v, hv⟩ | hr | ⟨n1, n2⟩
  · exact absurd hv (h v)
  · refine (Any.strconv_Atoi_range_var Tryz.laysC172 s hs hr t2 p2 w h2).mono ?_
    rintro e w' ⟨N, rfl, _, _, hb⟩
    exact ⟨_, _, rfl, Plus.of_below hb⟩
  · refine (Any.strconv_Atoi_syntax_var Tryz.laysC172 s hs (by generalize Lib.atoiAll s.data.toList = r at n1 n2 ⊢; cases r with | ok v => exact absurd rfl (n1 v) | range => exact absurd rfl n2 | _ => rfl) t1 p1 w h1).mono ?_
    rintro e w' ⟨N, rfl, _, _, hb⟩
    exact ⟨_, _, rfl, Plus.of_below hb⟩
theorem cutPrefix_c (s p : ByteArray) (w : World) : Calls Tryz.prog 211 #[.string s, .string p] w fun e w' => e = .returned (.tuple #[.string ⟨(Lib.trimPrefix s.data.toList p.data.toList).toArray⟩, .bool (Lib.hasPrefix s.data.toList p.data.toList)]) ∧ w = w' :=
  (Tryz.strings_CutPrefix s p w).mono fun _ _ ⟨h1, h2⟩ => ⟨h1, h2.symm⟩
theorem trimPrefix_c (s p : ByteArray) (w : World) : Calls Tryz.prog 212 #[.string s, .string p] w fun e w' => e = .returned (.string ⟨(Lib.trimPrefix s.data.toList p.data.toList).toArray⟩) ∧ w = w' :=
  (Tryz.strings_TrimPrefix s p w).mono fun _ _ ⟨h1, h2⟩ => ⟨h1, h2.symm⟩
theorem trim_c (s c : ByteArray) (w : World) (hs : s.size ≤ 9223372036854775807) (hc : c.size < 4294967281) (ha : ∀ (j : Nat) b, c.data.toList[j]? = some b → b.toNat < 128) :
    Calls Tryz.prog 183 #[.string s, .string c] w fun e w' => e = .returned (.string ⟨(Lib.trimS s.data.toList c.data.toList).toArray⟩) ∧ Plus w w' :=
  (Any.strings_Trim_laid Tryz.lays160 (by kernel_rfl) s c w hs hc ha).mono fun _ _ ⟨h1, h2⟩ => ⟨h1, Plus.of_below h2⟩
theorem trimLeft_c (s c : ByteArray) (w : World) (hc : c.size < 4294967281) (ha : ∀ (j : Nat) b, c.data.toList[j]? = some b → b.toNat < 128) :
    Calls Tryz.prog 215 #[.string s, .string c] w fun e w' => e = .returned (.string ⟨(Lib.trimLeftS s.data.toList c.data.toList).toArray⟩) ∧ Plus w w' :=
  (Any.strings_TrimLeft_laid Tryz.lays161 (by kernel_rfl) s c w hc ha).mono fun _ _ ⟨h1, h2⟩ => ⟨h1, Plus.of_below h2⟩
theorem containsAny_c (s c : ByteArray) (w : World) (hs : s.size < 4294967281) (hc : c.size < 4294967281) (has : ∀ (j : Nat) b, s.data.toList[j]? = some b → b.toNat < 128) (ha : ∀ (j : Nat) b, c.data.toList[j]? = some b → b.toNat < 128) :
    Calls Tryz.prog 189 #[.string s, .string c] w fun e w' => e = .returned (.bool (Lib.containsAny s.data.toList c.data.toList)) ∧ Plus w w' :=
  (Tryz.strings_ContainsAny_laid s c w hs hc has ha).mono fun _ _ ⟨h1, h2⟩ => ⟨h1, Plus.of_below h2⟩
end Go.Proofs.YtgljfgkkolfnbaaGreatDoor

namespace Go.Proofs.YtgljfgkkolfnbaaGreatDoor
open Go.RowKit


theorem info_parts {e : TypeId} {z : Value} {s b : Nat} (h : (Tryz.prog.info? e).map (fun i => (i.zero, i.size, i.bytes)) = some (some z, s, b)) : ∃ i0, Tryz.prog.info? e = some i0 ∧ i0.zero = some z ∧ i0.size = s ∧ i0.bytes = b := by
  cases q : Tryz.prog.info? e with
  | none => rw [q] at h; cases h
  | some i0 =>
    rw [q] at h
    simp only [Option.map_some, Option.some.injEq, Prod.mk.injEq] at h
    exact ⟨i0, rfl, h.1, h.2.1, h.2.2⟩
theorem mk_row0 (t e : TypeId) (k : IntKind) (bytes : Nat) (ht : Tryz.prog.underlying t = some (.slice e)) (hinfo : (Tryz.prog.info? e).map (fun i => (i.zero, i.size, i.bytes)) = some (some (.int k 0), 1, bytes))
    (n : Nat) (hb : bytes * n ≤ 281474976710656) (h63 : n ≤ 9223372036854775807) (w : World) :
    (Instr.makeSlice t (.int .i64 0) (.int .i64 (n : Int))).run Tryz.prog w = .ok (.slice (some ⟨w.heap.size, 0, none⟩) 0 n) (w.alloc (.cells (madeCells #[.int k 0] n) e)) := by
  obtain ⟨i0, hi, hz, hs, hbb⟩ := info_parts hinfo
  have q := run_make w t e i0 (.int k 0) ht hi hz .i64 .i64 0 (n : Int) (by omega) (by omega) (by rw [hbb]; omega) (by omega)
  rw [hs] at q
  simp only [Int.toNat_natCast, Nat.mul_one] at q
  exact q
theorem made_own (k : IntKind) (w : World) (e : TypeId) (n : Nat) (h : n ≤ 9223372036854775807) : (w.alloc (.cells (madeCells #[.int k 0] n) e)).ownsRow w.heap.size e 1 (.slice (some ⟨w.heap.size, 0, none⟩) 0 n) ([] : List Nat).length (vals k []) :=
  ⟨rfl, .inr ⟨w.heap.size, n, _, rfl, Nat.le_refl _, heap_alloc_new w _, Nat.zero_le _, h, by rw [zeros_cells]; simp, rfl⟩⟩
theorem own_drew {w : World} {B e z n : Nat} {v : Value} {l : List Value} (h : w.ownsRow B e z v n l) : w.drew.ownsRow B e z v n l := h
theorem own_plus {w w' : World} {B e z n : Nat} {v : Value} {l : List Value} (h : w.ownsRow B e z v n l) (hp : Plus w w') : w'.ownsRow B e z v n l := by
  refine ⟨h.1, ?_⟩
  rcases h.2 with hh | ⟨g, cap, cur, hv, hb, hg, r⟩
  · exact .inl hh
  · refine .inr ⟨g, cap, cur, hv, hb, ?_, r⟩
    rw [hp.below.block g (Array.getElem?_eq_some_iff.1 hg).1]
    exact hg
theorem own_alloc {w : World} {B e z n : Nat} {v : Value} {l : List Value} (h : w.ownsRow B e z v n l) (o : Obj) : (w.alloc o).ownsRow B e z v n l := own_plus h (Plus.of_below ((Below.refl _ _).alloc (Nat.le_refl _) o))
theorem news_at (w : World) (us : List Value) (t : TypeId) : ∀ j v, us[j]? = some v → (w.alloc (.cells us.toArray t)).cell? ((⟨w.heap.size, 0, none⟩ : Addr).add j) = some v := fun j v h => by
  rw [zero_add_addr, World.cell?_alloc_at _ _ _ _ rfl]
  simpa using h
theorem news_at' (w : World) (us : List Value) (t : TypeId) (g : Nat) (hg : g = w.heap.size) : ∀ j v, us[j]? = some v → (w.alloc (.cells us.toArray t)).cell? ((⟨g, 0, none⟩ : Addr).add j) = some v := by
  subst hg
  exact news_at w us t
theorem one_u16 (xs : List Nat) : ∀ u ∈ vals .u16 xs, u.oneCell' = true := fun u h => by
  obtain ⟨x, _, rfl⟩ := List.mem_map.1 h
  rfl
theorem below_own {w wr w1 : World} {B e z n : Nat} {v : Value} {l : List Value} {o : Obj} (h : wr.ownsRow B e z v n l) (hg : (wr.alloc o).grownBy w1 v.ownBlock) (hB : Below B w wr) (hs : B ≤ wr.heap.size) : Below B w w1 := by
  refine (hB.alloc hs o).grown hg (by rw [World.size_alloc]; omega) (fun j hj => ?_)
  rcases h.2 with ⟨rfl, _⟩ | ⟨g, cap, cur, rfl, hbg, _⟩
  · cases hj
  · injection hj with hj
    subst hj
    exact hbg
end Go.Proofs.YtgljfgkkolfnbaaGreatDoor
