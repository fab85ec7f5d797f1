/-
  Requests, replies, heads, and slices of them.
-/
import Derived.Test.YtjmjkcgldencoaaGRow
import Derived.Test.YtjmjkcgldencoaaWReq
namespace Go.Proofs.Ytjmjkcgldencoaa
open Go.RowKit

/-- a request: client, number, leaf, key, value -/
structure Req where
  c : Int
  q : Int
  l : ByteArray
  k : ByteArray
  v : ByteArray
instance : Inhabited Req := ⟨⟨0, 0, ⟨#[]⟩, ⟨#[]⟩, ⟨#[]⟩⟩⟩
def Req.enc (r : Req) : List Value := [.int .i64 r.c, .int .i64 r.q, .string r.l, .string r.k, .string r.v]
/-- a reply: error, index, head -/
structure Rep where
  e : Int
  i : Int
  h : Int
instance : Inhabited Rep := ⟨⟨0, 0, 0⟩⟩
def Rep.enc (r : Rep) : List Value := [.int .i64 r.e, .int .i64 r.i, .int .i64 r.h]
/-- a head: number, size, time, the log's root, the map's -/
structure Hd where
  q : Int
  z : Int
  t : Int
  r : ByteArray
  m : ByteArray
instance : Inhabited Hd := ⟨⟨0, 0, 0, ⟨#[]⟩, ⟨#[]⟩⟩⟩
def Hd.enc (h : Hd) : List Value := [.int .i64 h.q, .int .i64 h.z, .int .i64 h.t, .string h.r, .string h.m]
def reqK : Kind Req := { t := 55, ts := 28, k := 5, bytes := 64, zero := .agg #[.int .i64 0, .int .i64 0, .string ⟨#[]⟩, .string ⟨#[]⟩, .string ⟨#[]⟩], enc := Req.enc }
def hdK : Kind Hd := { t := 41, ts := 35, k := 5, bytes := 56, zero := .agg #[.int .i64 0, .int .i64 0, .int .i64 0, .string ⟨#[]⟩, .string ⟨#[]⟩], enc := Hd.enc }
theorem reqOk : reqK.Ok := {
  info := by kernel_rfl
  under := Try.underlying28
  self := ⟨_, Try.underlying55, rfl⟩
  len := fun _ => rfl
  one := fun x v hv => by simp [reqK, Req.enc] at hv; rcases hv with rfl | rfl | rfl | rfl | rfl <;> rfl
  pos := by decide
  zlen := rfl
  small := by decide }
theorem hdOk : hdK.Ok := {
  info := by kernel_rfl
  under := Try.underlying35
  self := ⟨_, Try.underlying41, rfl⟩
  len := fun _ => rfl
  one := fun x v hv => by simp [hdK, Hd.enc] at hv; rcases hv with rfl | rfl | rfl | rfl | rfl <;> rfl
  pos := by decide
  zlen := rfl
  small := by decide }
/-- a request of a slice, cell by cell -/
theorem req_at {w : World} {oa : Option Addr} {xs : List Req} (h : RowG reqK w oa xs) {i : Nat} (hi : i < xs.length) : ∃ g o, oa = some ⟨g, o, none⟩ ∧ g < w.heap.size ∧ w.cell? ⟨g, o + i * 5, none⟩ = some (.int .i64 xs[i].c) ∧ w.cell? ⟨g, o + i * 5 + 1, none⟩ = some (.int .i64 xs[i].q) ∧ w.cell? ⟨g, o + i * 5 + 2, none⟩ = some (.string xs[i].l) ∧ w.cell? ⟨g, o + i * 5 + 3, none⟩ = some (.string xs[i].k) ∧ w.cell? ⟨g, o + i * 5 + 4, none⟩ = some (.string xs[i].v) := by
  obtain ⟨g, o, h1, h2, h3⟩ := h i xs[i] (List.getElem?_eq_getElem hi)
  exact ⟨g, o, h1, h2, h3 0 _ rfl, h3 1 _ rfl, h3 2 _ rfl, h3 3 _ rfl, h3 4 _ rfl⟩
theorem hd_at {w : World} {oa : Option Addr} {xs : List Hd} (h : RowG hdK w oa xs) {i : Nat} (hi : i < xs.length) : ∃ g o, oa = some ⟨g, o, none⟩ ∧ g < w.heap.size ∧ w.cell? ⟨g, o + i * 5, none⟩ = some (.int .i64 xs[i].q) ∧ w.cell? ⟨g, o + i * 5 + 1, none⟩ = some (.int .i64 xs[i].z) ∧ w.cell? ⟨g, o + i * 5 + 2, none⟩ = some (.int .i64 xs[i].t) ∧ w.cell? ⟨g, o + i * 5 + 3, none⟩ = some (.string xs[i].r) ∧ w.cell? ⟨g, o + i * 5 + 4, none⟩ = some (.string xs[i].m) := by
  obtain ⟨g, o, h1, h2, h3⟩ := h i xs[i] (List.getElem?_eq_getElem hi)
  exact ⟨g, o, h1, h2, h3 0 _ rfl, h3 1 _ rfl, h3 2 _ rfl, h3 3 _ rfl, h3 4 _ rfl⟩
end Go.Proofs.Ytjmjkcgldencoaa
