import Derived.Test.YtknjjjenklfeoaaGreatDoorT04
import Derived.Test.YtknjjjenklfeoaaGreatDoorT15
import Derived.Test.YtknjjjenklfeoaaGreatDoorT25
import Derived.Test.YtknjjjenklfeoaaGreatDoorT29
set_option maxHeartbeats 8000000
set_option maxRecDepth 100000
namespace Go.Proofs.YtknjjjenklfeoaaGreatDoor
open Go.RowKit
attribute [local go_sem ↓] loadVar_clus storeVar_clus zeroValue_clus equalIn_clus
attribute [local go_sem] run_loadClus run_storeClus run_zeroClus zc_length
theorem keepCluster_any (s:ByteArray) (w:World) (hs:s.size≤maxLen):
   Calls Tryz.prog 27 #[.string s] w fun e w'=>e= .returned (.agg (cv (clusOf s.data.toList)).toArray)∧Below w.heap.size w w':=by
 unfold maxLen at hs
 have hlen:s.data.toList.length=s.size:=by rw [Array.length_toList];rfl
 have Hres:Hid (clusOf s.data.toList=clusTo s.data.toList (min s.size 64)):=by unfold clusOf;rw [hlen];rfl
 have T0:=hide (TwoCl.start w)
 have Hlen:=hide hlen
 clear hlen
 go_enter Tryz.func27,Tryz.ntmps27
 go_wp2
 go_loopw [4] (fun i w'=> ∃ k:Nat,k≤s.size∧k≤64∧i= .int .i64 k∧TwoCl w w' zc (clusTo s.data.toList k)) (fun i _=>64 - (intOf i).toNat)
 case atStart=>exact ⟨0,by omega,by omega,rfl,uh T0⟩
 case round=>
   obtain ⟨k,hk,hk64,rfl,ht⟩:=hrel
   clear T0
   by_cases hlt:k<s.size∧k<64
   · obtain ⟨h1,h2⟩:=hlt
     have hl:=clusTo_length s.data.toList k (by rw [uh Hlen];omega) (by omega)
     have cb:=box_byte ht.two k (by omega)
     have zb:=frozen_blk ht.two k
     have hget:s.data.toList.getD k 0=s[k]:=by
       rw [List.getD_eq_getElem?_getD,List.getElem?_eq_getElem (by rw [uh Hlen];exact h1)];rfl
     have hset:=ht.set k s[k]
     rw [← hget,clusTo_succ _ _ (by rw [uh Hlen];exact h1) h2,hget] at hset
     have HS:=hide hset
     clear ht hset hget hl
     go_wp2
     go_roundw
     case rel=>exact ⟨k+1,by omega,by omega,by go_num,uh HS⟩
     case measure=>simp [intOf];omega
   · have hkm:k=min s.size 64:=by omega
     have hl:=clusTo_length s.data.toList k (by rw [uh Hlen];omega) (by omega)
     rw [← hkm] at Hres
     obtain ⟨b1,b2,b3,b4,b5,b6⟩:=ht.back zc_length hl
     have HB:=hide b6
     clear ht b6 hkm
     generalize clusTo s.data.toList k=c at*
     by_cases h1:k<s.size
     · have h64: ¬ (k:Int)<64:=by omega
       go_wp2
       rw [uh Hres]
       exact bodyPost_ret (v:= .agg (cv c).toArray) (results_cell Tryz.results27 ⟨w.heap.size,0,none⟩ rfl (by rw [loadVar_clus,run_loadClus b4,b5])) rfl ⟨rfl,uh HB⟩
     · go_wp2
       rw [uh Hres]
       exact bodyPost_ret (v:= .agg (cv c).toArray) (results_cell Tryz.results27 ⟨w.heap.size,0,none⟩ rfl (by rw [loadVar_clus,run_loadClus b4,b5])) rfl ⟨rfl,uh HB⟩
def pickN (c:Int):Nat:=((if c<0 then -(c+1) else c)%64).toNat
theorem pickN_lt (c:Int):pickN c<64:=by unfold pickN;split <;> omega
theorem keepPick_any (c:Int) (w:World) (hc: -9223372036854775808≤c∧c≤9223372036854775807):Calls Tryz.prog 25 #[.int .i64 c,.int .i64 64] w fun e w'=>e= .returned (.int .i64 ((pickN c:Nat):Int))∧w'=w:=by
 obtain ⟨hc1,hc2⟩:=hc
 by_cases h0:c<0
 · have d0:decide (c<0)=true:=by simpa using h0
   have w1:IntKind.i64.wrap (c+1)=c+1:=IntWalk.i64_in _ (by omega)
   have w2:IntKind.i64.wrap (-(c+1))= -(c+1):=IntWalk.i64_in _ (by omega)
   have hR:((pickN c:Nat):Int)= -(c+1)%64:=by unfold pickN;rw [if_pos h0];omega
   go_enter Tryz.func25,Tryz.ntmps25
   have hT: -((c+1).tmod 64)= -(c+1)%64:=by rw [← Int.neg_tmod,Int.tmod_eq_emod_of_nonneg (by omega)]
   rw [← hR] at hT
   have HT:=hide hT
   clear hT hR
   go_wp2
   go_ret
   exact ⟨by rw [← uh HT];rfl,rfl⟩
 · have d0:decide (c<0)=false:=by simpa using h0
   have hR:((pickN c:Nat):Int)=c%64:=by unfold pickN;rw [if_neg h0];omega
   go_enter Tryz.func25,Tryz.ntmps25
   have HR:=hide hR
   clear hR
   go_wp2
   go_ret
   exact ⟨by rw [uh HR];rfl,rfl⟩
end Go.Proofs.YtknjjjenklfeoaaGreatDoor
namespace Go.Proofs.YtknjjjenklfeoaaGreatDoor
open Go.RowKit
attribute [local go_sem ↓] loadVar_clus storeVar_clus zeroValue_clus loadVar_op equalIn_clus
attribute [local go_sem] run_loadClus run_storeClus run_zeroClus run_storeClus_new run_loadClus_new zc_length run_loadOp HasAt_drew cellsAt_drew
end Go.Proofs.YtknjjjenklfeoaaGreatDoor
