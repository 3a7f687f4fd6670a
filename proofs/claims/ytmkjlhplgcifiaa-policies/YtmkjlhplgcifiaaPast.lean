/-
  A cell that is there is there behind a new block, too: for the walk's own use.
-/
import Derived.Test.YtmkjlhplgcifiaaBase
namespace Go
theorem World.cell?_alloc_there (w : World) (a : Addr) (o : Obj) (h : (w.cell? a).isSome = true) : (w.alloc o).cell? a = w.cell? a := by
  obtain ⟨u, hu⟩ := Option.isSome_iff_exists.1 h
  exact World.cell?_alloc_lt _ _ _ (World.block_lt_of_cell? w a hu)
end Go
