import Derived.Test.YtknjjjenklfeoaaGreatDoorT33
import Derived.Test.YtknjjjenklfeoaaGreatDoorT29
set_option maxHeartbeats 8000000
set_option maxRecDepth 100000
namespace Go.Proofs.YtknjjjenklfeoaaGreatDoor
open Go.RowKit
attribute [local go_sem ↓] loadVar_clus storeVar_clus zeroValue_clus loadVar_op equalIn_clus
attribute [local go_sem] run_loadClus run_storeClus run_zeroClus run_storeClus_new run_loadClus_new zc_length run_loadOp HasAt_drew cellsAt_drew
theorem Vol.inEnts {base:List Clus} {V:VolR} {N0:Nat} {E:List EntR} (h:Vol base V N0 E): ∀ k,k<lenOf (entsOf (cl V.C 5))→InFile V.C ((entsOf (cl V.C 5)).getD k ze).first:=fun k hk=>by
 rw [h.ents.2] at hk
 rw [h.ents.1,pad4_get k hk]
 obtain ⟨r,hr,e⟩:=List.mem_map.1 (h.rootsE hk)
 rw [← e]
 exact h.sound.inFile hr
theorem readOf_same {base:List Clus} {V:VolR} {N0:Nat} {E:List EntR} (h:Vol base V N0 E) (s:ByteArray) (n:Int):refReadOf (dskOf V.C N0 E) s n=readOfR V s n:=by
 unfold refReadOf readOfR
 rcases h.there (s:=s) with ⟨m,hm,_,e1,e2⟩ | ⟨i,hi,e1,e2,_⟩
 · rw [e1,e2,if_neg hm,if_neg hm]
 · rw [e1,e2,if_pos rfl,if_pos rfl,h.ents.1]
   dsimp only
   rw [Int.toNat_natCast,(dsk_name V.C i hi).2]
   unfold blkRead
   cases hb:blockB n with
   | false=>rfl
   | true=>
     rw [if_pos rfl,if_pos rfl]
     have hlt:=blockB_lt hb
     have e3:cl (contentOf V.C ((pad4 E).getD i ze).first) n.toNat=blkOf V.C ((pad4 E).getD i ze).first n.toNat:=by
       unfold cl
       rw [List.getD_eq_getElem?_getD,contentOf_get _ _ _ hlt];rfl
     rw [e3]
end Go.Proofs.YtknjjjenklfeoaaGreatDoor
