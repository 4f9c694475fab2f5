/- Plain words on lists of rows: shapes and bodies by their numbers, lists that are kept, what is found. -/
import Derived.Test.YtcadbcmldlammaaPlain
import Derived.Test.YtcadbcmldlammaaRowR
namespace Go.Pb.Ware
open Go.Pb
def shR (r : List Int) : Sh := ⟨r.getD 0 0, ⟨r.getD 1 0, r.getD 2 0⟩, ⟨r.getD 3 0, r.getD 4 0⟩, ⟨r.getD 5 0, r.getD 6 0⟩, r.getD 7 0, ⟨r.getD 8 0, r.getD 9 0⟩, r.getD 10 0⟩
def boR (r : List Int) : Bo := ⟨r.getD 0 0, ⟨r.getD 1 0, r.getD 2 0⟩, ⟨r.getD 3 0, r.getD 4 0⟩, ⟨r.getD 5 0, r.getD 6 0⟩⟩
def trR (r : List Int) : Tr := ⟨r.getD 0 0, ⟨r.getD 1 0, r.getD 2 0⟩, ⟨r.getD 3 0, r.getD 4 0⟩⟩
def okS (r : List Int) : Bool := shOk (shR r)
def okB (r : List Int) : Bool := boOk (boR r)
def okT (r : List Int) : Bool := trOk (trR r)
def kept (ok : List Int → Bool) : Int → List (List Int) → Bool
  | _, [] => true
  | last, r :: rs => ok r && decide (last < r.getD 0 0) && kept ok (r.getD 0 0) rs
theorem kept_nil (ok : List Int → Bool) (last : Int) : kept ok last [] = true := rfl
theorem kept_cons {ok : List Int → Bool} {last : Int} {r : List Int} {rs : List (List Int)} : kept ok last (r :: rs) = (ok r && decide (last < r.getD 0 0) && kept ok (r.getD 0 0) rs) := rfl
theorem drop_row {α : Type} {rows : List α} {k : Nat} (hk : k < rows.length) : rows.drop k = rows[k] :: rows.drop (k + 1) := List.drop_eq_getElem_cons hk
def keptB (ok : List Int → Bool) (m : Int) (rows : List (List Int)) : Bool := decide ((rows.length : Int) ≤ m) && kept ok 0 rows
def ckW (ss bs : List (List Int)) : Int := if (keptB okS 40 ss && keptB okB 12 bs) = true then 0 else 12
def lastId (rows : List (List Int)) : Nat → Int
  | 0 => 0
  | k + 1 => (rows.getD k []).getD 0 0
theorem ckW_or {ss bs : List (List Int)} : ckW ss bs = 0 ∨ ckW ss bs = 12 := by unfold ckW; split <;> simp
theorem ckW_1 {ss bs : List (List Int)} (h1 : keptB okS 40 ss = true) (h2 : keptB okB 12 bs = true) : ckW ss bs = 0 := by simp [ckW, h1, h2]
theorem ckW_2 {ss bs : List (List Int)} (h1 : keptB okS 40 ss = false) : ckW ss bs = 12 := by simp [ckW, h1]
theorem ckW_3 {ss bs : List (List Int)} (h2 : keptB okB 12 bs = false) : ckW ss bs = 12 := by simp [ckW, h2]
theorem keptB_long {ok : List Int → Bool} {m : Int} {rows : List (List Int)} (h : m < (rows.length : Int)) : keptB ok m rows = false := by simp [keptB]; omega
theorem keptB_short {ok : List Int → Bool} {m : Int} {rows : List (List Int)} (h : (rows.length : Int) ≤ m) : keptB ok m rows = kept ok 0 rows := by simp [keptB, h]
theorem kept_bad {ok : List Int → Bool} {last : Int} {r : List Int} {rs : List (List Int)} (h : ok r = false) : kept ok last (r :: rs) = false := by simp [kept_cons, h]
theorem kept_low {ok : List Int → Bool} {last : Int} {r : List Int} {rs : List (List Int)} (h : r.getD 0 0 ≤ last) : kept ok last (r :: rs) = false := by
  rw [kept_cons, show decide (last < r.getD 0 0) = false from decide_eq_false (by omega)]; simp
theorem kept_next {ok : List Int → Bool} {last : Int} {r : List Int} {rs : List (List Int)} (h : ok r = true) (h2 : last < r.getD 0 0) : kept ok last (r :: rs) = kept ok (r.getD 0 0) rs := by
  rw [kept_cons, h, show decide (last < r.getD 0 0) = true from decide_eq_true h2]; simp
def row0 (n : Nat) : List Int := List.replicate n 0
def findR (id : Int) : List (List Int) → Option (List Int)
  | [] => none
  | r :: rs => if r.getD 0 0 = id then some r else findR id rs
def foundR (n : Nat) (id : Int) (rows : List (List Int)) : List Int × Int := match findR id rows with
  | some r => (r, 0)
  | none => (row0 n, 3)
def getR (n : Nat) (id c : Int) (rows : List (List Int)) : List Int × Int := if c = 0 then foundR n id rows else (row0 n, c)
theorem foundR_nil {n : Nat} {id : Int} : foundR n id [] = (row0 n, 3) := rfl
theorem foundR_yes {n : Nat} {id : Int} {r : List Int} {rs : List (List Int)} (h : r.getD 0 0 = id) : foundR n id (r :: rs) = (r, 0) := by
  unfold foundR findR; rw [if_pos h]
theorem foundR_no {n : Nat} {id : Int} {r : List Int} {rs : List (List Int)} (h : ¬ r.getD 0 0 = id) : foundR n id (r :: rs) = foundR n id rs := by
  unfold foundR
  rw [show findR id (r :: rs) = findR id rs by simp only [findR]; rw [if_neg h]]
theorem findR_len {n : Nat} {id : Int} {rows : List (List Int)} (h : ∀ r ∈ rows, r.length = n) : (foundR n id rows).1.length = n := by
  induction rows with
  | nil => simp [foundR_nil, row0]
  | cons r rs ih =>
    by_cases hr : r.getD 0 0 = id
    · rw [foundR_yes hr]; exact h r (by simp)
    · rw [foundR_no hr]; exact ih fun x hx => h x (by simp [hx])
theorem getR_len {n : Nat} {id c : Int} {rows : List (List Int)} (h : ∀ r ∈ rows, r.length = n) : (getR n id c rows).1.length = n := by
  unfold getR
  split
  · exact findR_len h
  · simp [row0]
theorem len11 {r : List Int} (h : r.length = 11) : ∃ a0 a1 a2 a3 a4 a5 a6 a7 a8 a9 a10, r = [a0, a1, a2, a3, a4, a5, a6, a7, a8, a9, a10] := by
  match r, h with
  | [a0, a1, a2, a3, a4, a5, a6, a7, a8, a9, a10], _ => exact ⟨_, _, _, _, _, _, _, _, _, _, _, rfl⟩
theorem len7 {r : List Int} (h : r.length = 7) : ∃ a0 a1 a2 a3 a4 a5 a6, r = [a0, a1, a2, a3, a4, a5, a6] := by
  match r, h with
  | [a0, a1, a2, a3, a4, a5, a6], _ => exact ⟨_, _, _, _, _, _, _, rfl⟩
theorem len5 {r : List Int} (h : r.length = 5) : ∃ a0 a1 a2 a3 a4, r = [a0, a1, a2, a3, a4] := by
  match r, h with
  | [a0, a1, a2, a3, a4], _ => exact ⟨_, _, _, _, _, rfl⟩
/-- A row's cells as values. -/
def vals (r : List Int) : Value := .agg (r.map (Value.int .i64)).toArray
end Go.Pb.Ware
namespace Go.Pb
theorem RowsAt.row {n : Nat} {w : World} {a : Option Addr} {cap : Nat} {rows : List (List Int)} (h : RowsAt n w (.slice a rows.length cap) rows) {k : Nat} (hk : k < rows.length) :
    ∃ a', a = some a' ∧ rows[k].length = n ∧ (∀ z, rows[k][0]? = some z → w.cell? (a'.add (k * n)) = some (.int .i64 z)) ∧
      ∀ j z, j ≠ 0 → rows[k][j]? = some z → w.cell? ⟨(a'.add (k * n)).block, (a'.add (k * n)).off + j, none⟩ = some (.int .i64 z) := by
  rcases h with ⟨h1, h2⟩ | ⟨a', cap', h1, h2, h3, h4⟩
  · subst h2; simp at hk
  · injection h1 with h1 _ _
    have h5 := (h4 k _ (List.getElem?_eq_getElem hk)).2
    refine ⟨a', h1, (h4 k _ (List.getElem?_eq_getElem hk)).1, fun z hz => (h5 0 z hz).1, fun j z hj hz => ?_⟩
    have := (h5 j z hz).1
    rw [← Go.Deep.add_add] at this
    rw [← this]
    generalize a'.add (k * n) = p
    unfold Addr.add
    rw [if_neg hj]
end Go.Pb
