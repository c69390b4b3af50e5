import Derived.Shelf.Strings.Trim
import Derived.Shelf.Small.Wraps
import Derived.Shelf.Strconv.Atoi
import Derived.Shelf.Strings.Cut
import Derived.Shelf.Strings.LastIndex
import Derived.Shelf.Strings.Split
import Derived.Shelf.SlicesE.IndexFunc
import Derived.Shelf.Strconv.Clone
import Derived.Shelf.Strings.OnBuilder
import Derived.Shelf.Strings.BuilderK
import Derived.Shelf.Strconv.Itoa3
import Derived.Shelf.Strings.Runes
import Derived.Shelf.Strings.AsciiSet
import Derived.Shelf.Strings.Repeat
import Derived.Shelf.Unicode.DecodeSlow
import Derived.Shelf.SortM.Plain
import Derived.Shelf.SortM.SortNone
import Derived.Deep.RegionHeld3
import Derived.Test.YtfhmaiicimdldaaGreatDoorProg
theorem AC:type_of% @Nat.le_refl:=@Nat.le_refl
theorem AD:type_of% @Go.RowKit.Below.refl:=@Go.RowKit.Below.refl
theorem AF:type_of% @Go.heap_alloc_new:=@Go.heap_alloc_new
theorem AI:type_of% @Go.heap_setCell_same:=@Go.heap_setCell_same
theorem AM:type_of% @Go.RowKit.Below.heap_alloc:=@Go.RowKit.Below.heap_alloc
theorem AN:type_of% @List.setIfInBounds_toArray:=@List.setIfInBounds_toArray
theorem AS:type_of% @List.length_append:=@List.length_append
theorem AT:type_of% @List.take_succ_eq_append_getElem:=@List.take_succ_eq_append_getElem
theorem An:type_of% @List.take_of_length_le:=@List.take_of_length_le
theorem BE:type_of% @List.set_cons_succ:=@List.set_cons_succ
theorem BT:type_of% @List.set_cons_zero:=@List.set_cons_zero
theorem BY:type_of% @Go.RowKit.Below.heap_setCell:=@Go.RowKit.Below.heap_setCell
theorem B1:type_of% @List.getElem_mem:=@List.getElem_mem
theorem B3:type_of% @Nat.lt_of_lt_of_le:=@Nat.lt_of_lt_of_le
theorem B5:type_of% @Go.World.block_lt_of_cell?:=@Go.World.block_lt_of_cell?
theorem B7:type_of% @List.getD_eq_getElem?_getD:=@List.getD_eq_getElem?_getD
theorem B9:type_of% @List.getElem?_eq_getElem:=@List.getElem?_eq_getElem
theorem Be:type_of% @Go.World.cell?_of_block:=@Go.World.cell?_of_block
theorem Bi:type_of% @Nat.le_trans:=@Nat.le_trans
theorem Bm:type_of% @if_neg:=@if_neg
theorem Bs:type_of% @Nat.zero_le:=@Nat.zero_le
theorem By:type_of% @if_pos:=@if_pos
theorem CI:type_of% @List.length_cons:=@List.length_cons
theorem Cd:type_of% @Option.some.inj:=@Option.some.inj
theorem Cf:type_of% @Go.World.ownsRow_nil:=@Go.World.ownsRow_nil
theorem Cp:type_of% @List.map_cons:=@List.map_cons
theorem DD:type_of% @List.length_take:=@List.length_take
theorem DE:type_of% @Option.getD_some:=@Option.getD_some
theorem DH:type_of% @List.length_map:=@List.length_map
theorem DO:type_of% @List.drop_eq_getElem_cons:=@List.drop_eq_getElem_cons
theorem DQ:type_of% @List.mem_singleton:=@List.mem_singleton
theorem DS:type_of% @Go.Value.slice.inj:=@Go.Value.slice.inj
theorem De:type_of% @Go.IntKind.wrap_i64:=@Go.IntKind.wrap_i64
theorem Do:type_of% @List.flatMap_append:=@List.flatMap_append
theorem Ex:type_of% @Int.tmod_eq_emod_of_nonneg:=@Int.tmod_eq_emod_of_nonneg
theorem FF:type_of% @List.append_assoc:=@List.append_assoc
theorem FG:type_of% @List.sum_cons:=@List.sum_cons
theorem FS:type_of% @Option.getD_none:=@Option.getD_none
theorem Fc:type_of% @List.flatMap_cons:=@List.flatMap_cons
theorem Fo:type_of% @Go.World.cell?_setCell_other:=@Go.World.cell?_setCell_other
theorem Fs:type_of% @List.filter_append:=@List.filter_append
theorem GB:type_of% @List.map_append:=@List.map_append
theorem GE:type_of% @List.length_drop:=@List.length_drop
theorem GO:type_of% @List.getElem?_map:=@List.getElem?_map
theorem GT:type_of% @List.mem_of_mem_take:=@List.mem_of_mem_take
theorem Ha:type_of% @List.drop_of_length_le:=@List.drop_of_length_le
theorem Hb:type_of% @List.map_map:=@List.map_map
theorem Hc:type_of% @List.getElem?_append_right:=@List.getElem?_append_right
theorem ID:type_of% @List.getElem?_set_ne:=@List.getElem?_set_ne
theorem IF:type_of% @List.mem_append:=@List.mem_append
theorem IH:type_of% @Go.bodyPost_ret:=@Go.bodyPost_ret
theorem IM:type_of% @Go.wpAnyH_take:=@Go.wpAnyH_take
theorem IN:type_of% @congrArg:=@congrArg
theorem IR:type_of% @List.Pairwise.nil:=@List.Pairwise.nil
theorem IS:type_of% @Go.Proofs.Tryz.underlying97:=@Go.Proofs.Tryz.underlying97
theorem IT:type_of% @Go.Proofs.Tryz.underlying9:=@Go.Proofs.Tryz.underlying9
theorem I1:type_of% @Go.Proofs.Tryz.underlying3:=@Go.Proofs.Tryz.underlying3
theorem I2:type_of% @Go.Proofs.Tryz.underlying4:=@Go.Proofs.Tryz.underlying4
theorem If:type_of% @Go.Proofs.Tryz.zeroValue9:=@Go.Proofs.Tryz.zeroValue9
