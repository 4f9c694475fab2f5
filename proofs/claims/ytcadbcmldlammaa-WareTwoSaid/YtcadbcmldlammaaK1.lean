/- Cells that a new block leaves as they are. -/
import Derived.Test.YtcadbcmldlammaaLib2
namespace Go.Pb
theorem akeep {W : World} {a : Addr} {v : Value} {o : Obj} (h : W.cell? a = some v) : (W.alloc o).cell? a = some v := by
  rw [World.cell?_alloc_lt W o a (World.block_lt_of_cell? W a h)]; exact h
theorem afree {W : World} {a : Addr} {v : Value} {o : Obj} (h : W.cell? a = some v) (hf : W.frozen? a = false) : (W.alloc o).frozen? a = false := by
  rw [World.frozen?_alloc_old W o a (Nat.ne_of_lt (World.block_lt_of_cell? W a h))]; exact hf
end Go.Pb
