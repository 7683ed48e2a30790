import Derived.Test.YtknjjjenklfeoaaGreatDoorT41
import Derived.Test.YtknjjjenklfeoaaGreatDoorT42
import Derived.Test.YtknjjjenklfeoaaGreatDoorRows
import Derived.Test.YtknjjjenklfeoaaGreatDoorT36
import Derived.LaidLaws
import Derived.LaidHandle
import Derived.Test.YtknjjjenklfeoaaGreatDoorT28
import Derived.Test.YtknjjjenklfeoaaGreatDoorT18
import Derived.Test.YtknjjjenklfeoaaGreatDoorT39
set_option maxHeartbeats 8000000
set_option maxRecDepth 100000
namespace Go.Proofs.YtknjjjenklfeoaaGreatDoor
open Go.RowKit
attribute [local go_sem ↓] loadVar_clus storeVar_clus zeroValue_clus equalIn_clus
attribute [local go_sem] run_loadClus run_storeClus run_zeroClus run_storeClus_new run_loadClus_new zc_length HasAt_drew cellsAt_drew
def Says (e:Ending):Prop:= ∃ r,e= .returned (.bool r)
theorem Ok.opened {C:List Clus} {T N0:Nat} {E:List EntR} {D:DiskR} (h:Ok C T N0 E D):openBad C= -1∧ ∃ N1 E1,Vol (openV C).C (openV C) N1 E1∧dskOf (openV C).C N1 E1=D:=by
 have hb:openBad C= -1:=by rw [← look_openBad h.file.lens];exact (h.file.look h.sound).1
 obtain ⟨N1,E1,hO⟩:=opened_of h.file.lens hb
 exact ⟨hb,N1,E1,hO.vol,by rw [← hO.disk,h.file.disk h.sound];exact h.holds⟩
theorem holds_some (w:World) (d v bc:Nat) (Cv Lv:Value) (base:List Clus) (V:VolR) (N0:Nat) (E:List EntR) (h:DskAt w d v Cv Lv V) (hv:Vol base V N0 E) (C:List Clus) (hc:ContAt w bc C):
   Calls Tryz.prog 19 #[.pointer (some ⟨d,0,none⟩),.pointer (some ⟨bc,0,none⟩)] w fun e w'=>Says e∧Below w.heap.size w w':=by
 have h7:=hv.file.seven
 have hr0:(⟨N0,0,[]⟩:RootR) ∈ rsOf N0 E:=by simp [rsOf]
 have hin:InFile V.C (num (cl V.C 0) 6):=by rw [hv.file.num6];exact hv.sound.inFile hr0
 have HR:=hide (fun (W:World) (hB:Below w.heap.size w W) (n:Int)=>diskRead_any W d v Cv Lv V (h.below hB) n (by omega) hin)
 have hcl: ∀ k:Nat,k<64→blkRead V.C (num (cl V.C 0) 6) (k:Int)=(cl (contentOf V.C N0) k,0):=fun k hk=>by
   have hb:blockB (k:Int)=true:=by unfold blockB;simp;omega
   rw [← read_same hv]
   unfold readR
   rw [if_pos hb,Int.toNat_natCast,dskOf_C]
 have hX: ∀ k,k<64→(cl (contentOf V.C N0) k).length=64:=fun k hk=>by
   have:=blkRead_length hv.file.lens hin (k:Int)
   rw [hcl k hk] at this
   exact this
 have Hcl:=hide hcl
 have HC:=hide hc
 clear h hc hcl
 generalize contentOf V.C N0=CC at*
 go_enter Tryz.func19,Tryz.ntmps19
 go_wp2
 go_loopw [5] (fun i w'=> ∃ k:Nat,k≤64∧i= .int .i64 k∧Below w.heap.size w w') (fun i _=>64 - (intOf i).toNat)
 case atStart=>exact ⟨0,by omega,rfl,Below.refl _ _⟩
 case round=>
   obtain ⟨k,hk,rfl,hb⟩:=hrel
   by_cases hlt:k<64
   · have hki:(k:Int)<64:=by omega
     have hr:=uh HR wr hb (k:Int)
     rw [uh Hcl k hlt] at hr
     have Hr:=hide hr
     have hyl:=cl_length (uh HC).cont.all (k:=k) (by have:=(uh HC).cont.len;omega)
     have hxl:=hX k hlt
     have Hb:=hide hb
     clear hr hb
     go_wp2_with fail
     refine (uh Hr).mono ?_
     rintro e w1 ⟨rfl,b1⟩
     have B2:=((uh Hb).trans (b1.mono (uh Hb).size)).alloc (Nat.le_trans (uh Hb).size b1.size) (.cells (cv (cl CC k)).toArray 38)
     have rg:=((uh HC).below B2).range k hlt
     have l1:=hasAt_of_range (n:=64) rg (by rw [cv_length,hyl])
     have l2:=cellsAt_of_range (n:=64) rg (by rw [cv_length,hyl])
     have l3:=box_has (heap_alloc_new w1 (.cells (cv (cl CC k)).toArray 38)) hxl
     have l4:=box_cells (heap_alloc_new w1 (.cells (cv (cl CC k)).toArray 38)) hxl
     have he: ∀ w,(eqClus (.agg (cv (cl CC k)).toArray) (.agg (cv (cl C k)).toArray)).run Tryz.prog w= .ok (decide (cl CC k=cl C k)) w:=run_eqClus hxl hyl
     have B2:=hide B2
     clear rg b1 Hr
     generalize cl CC k=x at*
     generalize cl C k=y at*
     generalize decide (x=y)=r at*
     generalize hW2:w1.alloc (.cells (cv x).toArray 38)=W2 at*
     go_wp2
     clear hW2
     have m1: ∀ n,HasAt (W2.drewN n) bc (k*64) 64:=fun _=>l1
     have m2: ∀ n,cellsAt (W2.drewN n) bc (k*64) 64=cv y:=fun _=>l2
     have m3: ∀ n,HasAt (W2.drewN n) w1.heap.size 0 64:=fun _=>l3
     have m4: ∀ n,cellsAt (W2.drewN n) w1.heap.size 0 64=cv x:=fun _=>l4
     cases r with
     | true=>
       go_quiet (fail)
       go_wp2
       go_roundw
       case rel=>exact ⟨k+1,by omega,by go_num,(uh B2).trans ((((Kept.refl (fun _=>False) W2).drewN nq).below).mono (uh B2).size)⟩
       case measure=>simp [intOf];omega
     | false=>
       go_quiet (fail)
       go_wp2
       go_ret
       exact ⟨⟨false,rfl⟩,(uh B2).trans ((((Kept.refl (fun _=>False) W2).drewN nq).below).mono (uh B2).size)⟩
   · have hki: ¬ (k:Int)<64:=by omega
     have Hb:=hide hb
     clear hb
     go_wp2
     go_ret
     exact ⟨⟨true,rfl⟩,uh Hb⟩
theorem holdsOf_some (w:World) (d v bc:Nat) (Cv Lv:Value) (base:List Clus) (V:VolR) (N0:Nat) (E:List EntR) (h:DskAt w d v Cv Lv V) (hv:Vol base V N0 E) (s:ByteArray) (hs:s.size≤maxLen) (CC:List Clus) (hc:ContAt w bc CC):
   Calls Tryz.prog 20 #[.pointer (some ⟨d,0,none⟩),.string s,.pointer (some ⟨bc,0,none⟩)] w fun e w'=>Says e∧Below w.heap.size w w':=by
 have h7:=hv.file.seven
 have hin:=hv.inEnts
 have HR:=hide (fun (W:World) (hB:Below w.heap.size w W) (n:Int)=>diskReadOf_any W d v Cv Lv V (h.below hB) (by omega) s hs n hin)
 have hX: ∀ k:Nat,(readOfR V s k).1.length=64:=fun k=>readOfR_length h.vol.lenC s k hin
 have HC:=hide hc
 clear h hc
 go_enter Tryz.func20,Tryz.ntmps20
 go_wp2
 go_loopw [7] (fun i w'=> ∃ k:Nat,k≤64∧i= .int .i64 k∧Below w.heap.size w w') (fun i _=>64 - (intOf i).toNat)
 case atStart=>exact ⟨0,by omega,rfl,Below.refl _ _⟩
 case round=>
   obtain ⟨k,hk,rfl,hb⟩:=hrel
   by_cases hlt:k<64
   · have hki:(k:Int)<64:=by omega
     have hr:=uh HR wr hb (k:Int)
     have hxl:=hX k
     generalize readOfR V s k=R at hr hxl
     obtain ⟨x,q⟩:=R
     dsimp only at hr hxl
     have Hr:=hide hr
     have hyl:=cl_length (uh HC).cont.all (k:=k) (by have:=(uh HC).cont.len;omega)
     have Hb:=hide hb
     clear hr hb
     go_wp2_with fail
     refine (uh Hr).mono ?_
     rintro e w1 ⟨rfl,b1⟩
     have B2:=((uh Hb).trans (b1.mono (uh Hb).size)).alloc (Nat.le_trans (uh Hb).size b1.size) (.cells (cv x).toArray 38)
     have rg:=((uh HC).below B2).range k hlt
     have l1:=hasAt_of_range (n:=64) rg (by rw [cv_length,hyl])
     have l2:=cellsAt_of_range (n:=64) rg (by rw [cv_length,hyl])
     have l3:=box_has (heap_alloc_new w1 (.cells (cv x).toArray 38)) hxl
     have l4:=box_cells (heap_alloc_new w1 (.cells (cv x).toArray 38)) hxl
     have he: ∀ w,(eqClus (.agg (cv x).toArray) (.agg (cv (cl CC k)).toArray)).run Tryz.prog w= .ok (decide (x=cl CC k)) w:=run_eqClus hxl hyl
     have B2:=hide B2
     clear rg b1 Hr
     generalize cl CC k=y at*
     generalize decide (x=y)=r at*
     generalize hW2:w1.alloc (.cells (cv x).toArray 38)=W2 at*
     by_cases hq:q=0
     · subst hq
       go_wp2
       clear hW2
       have m1: ∀ n,HasAt (W2.drewN n) bc (k*64) 64:=fun _=>l1
       have m2: ∀ n,cellsAt (W2.drewN n) bc (k*64) 64=cv y:=fun _=>l2
       have m3: ∀ n,HasAt (W2.drewN n) w1.heap.size 0 64:=fun _=>l3
       have m4: ∀ n,cellsAt (W2.drewN n) w1.heap.size 0 64=cv x:=fun _=>l4
       cases r with
       | true=>
         go_quiet (fail)
         go_wp2
         go_roundw
         case rel=>exact ⟨k+1,by omega,by go_num,(uh B2).trans ((((Kept.refl (fun _=>False) W2).drewN nq).below).mono (uh B2).size)⟩
         case measure=>simp [intOf];omega
       | false=>
         go_quiet (fail)
         go_wp2
         go_ret
         exact ⟨⟨false,rfl⟩,(uh B2).trans ((((Kept.refl (fun _=>False) W2).drewN nq).below).mono (uh B2).size)⟩
     · have dq:(((q:Nat):Int) != 0)=true:=by simp;omega
       have dq2:(((q:Nat):Int) == 0)=false:=by simp;omega
       go_wp2
       clear hW2
       have m1: ∀ n,HasAt (W2.drewN n) bc (k*64) 64:=fun _=>l1
       have m2: ∀ n,cellsAt (W2.drewN n) bc (k*64) 64=cv y:=fun _=>l2
       have m3: ∀ n,HasAt (W2.drewN n) w1.heap.size 0 64:=fun _=>l3
       have m4: ∀ n,cellsAt (W2.drewN n) w1.heap.size 0 64=cv x:=fun _=>l4
       go_quiet (fail)
       go_wp2
       go_ret
       exact ⟨⟨false,rfl⟩,(uh B2).trans ((((Kept.refl (fun _=>False) W2).drewN nq).below).mono (uh B2).size)⟩
   · have hki: ¬ (k:Int)<64:=by omega
     have Hb:=hide hb
     clear hb
     go_wp2
     go_ret
     exact ⟨⟨true,rfl⟩,uh Hb⟩
end Go.Proofs.YtknjjjenklfeoaaGreatDoor
namespace Go.Proofs.YtknjjjenklfeoaaGreatDoor
open Go.RowKit
def pickG (c:Int) (n:Nat):Nat:=((if c<0 then -(c+1) else c)%(n:Int)).toNat
theorem pickG_lt (c:Int) {n:Nat} (hn:0<n):pickG c n<n:=by
 unfold pickG
 have h1:=Int.emod_lt_of_pos (if c<0 then -(c+1) else c) (show (0:Int)<(n:Int) by omega)
 have h2:=Int.emod_nonneg (if c<0 then -(c+1) else c) (show (n:Int)≠0 by omega)
 omega
theorem pickG_int (c:Int) {n:Nat} (hn:0<n):((pickG c n:Nat):Int)=(if c<0 then -(c+1) else c)%(n:Int):=by
 unfold pickG
 have h2:=Int.emod_nonneg (if c<0 then -(c+1) else c) (show (n:Int)≠0 by omega)
 omega
theorem keepPickG_any (c:Int) (n:Nat) (hn:0<n) (hn2:n≤9000000000000000000) (w:World) (hc: -9223372036854775808≤c∧c≤9223372036854775807):Calls Tryz.prog 25 #[.int .i64 c,.int .i64 (n:Int)] w fun e w'=>e= .returned (.int .i64 ((pickG c n:Nat):Int))∧w'=w:=by
 obtain ⟨hc1,hc2⟩:=hc
 have hni: ¬ (n:Int)=0:=by omega
 have hnp:(0:Int)<(n:Int):=by omega
 have hR:=pickG_int c hn
 by_cases h0:c<0
 · have d0:decide (c<0)=true:=by simpa using h0
   have w1:IntKind.i64.wrap (c+1)=c+1:=IntWalk.i64_in _ (by omega)
   have w2:IntKind.i64.wrap (-(c+1))= -(c+1):=IntWalk.i64_in _ (by omega)
   rw [if_pos h0] at hR
   have hT:(-(c+1)).tmod (n:Int)= -(c+1)%(n:Int):=Int.tmod_eq_emod_of_nonneg (by omega)
   rw [← hR] at hT
   have hT2: -((c+1).tmod (n:Int))=((pickG c n:Nat):Int):=by rw [← Int.neg_tmod];exact hT
   have hlt:=pickG_lt c hn
   have hr:IntKind.i64.wrap ((pickG c n:Nat):Int)=((pickG c n:Nat):Int):=IntWalk.i64_in _ (by omega)
   have hw3:IntKind.i64.wrap (-((c+1).tmod (n:Int)))=((pickG c n:Nat):Int):=by rw [hT2];exact hr
   have HT2:=hide hT2
   clear hT hR hT2
   go_enter Tryz.func25,Tryz.ntmps25
   go_wp2
   go_ret
   exact ⟨by rw [← uh HT2];rfl,rfl⟩
 · have d0:decide (c<0)=false:=by simpa using h0
   rw [if_neg h0] at hR
   have HT:=hide hR
   clear hR
   go_enter Tryz.func25,Tryz.ntmps25
   go_wp2
   go_ret
   exact ⟨by rw [uh HT];rfl,rfl⟩
theorem var_cell {P:Program} {w:World} {n:String} {g:Nat} {cs:Array Value} {x:Value} (hn:P.globalNamed n=some g) (h:w.var? P n=some cs) (hx:cs.toList=[x]):w.cell? ⟨g,0,none⟩=some x:=by
 unfold World.var? at h
 rw [hn] at h
 simp only [Option.bind_some] at h
 have hcs:cs= #[x]:=Array.eq_one_of_toList hx
 subst hcs
 split at h
 · rename_i c t fr hh
   injection h with h
   subst h
   exact (cell_blk hh 0).trans rfl
 · cases h
theorem laid_iface {w:World} {n nm:String} {d:DataW Unit} {r:List (String × DataW Unit)} {ps:List MemPlace} (g:Nat) (h:DataW.LaidVars Tryz.prog w ((n,.iface nm d) :: r) ps)
   (hn:Tryz.prog.globalNamed n=some g) (ht:(Tryz.prog.globals[g]?).map (·.type)=some 98):(∃ u v,w.cell? ⟨g,0,none⟩=some (.iface u v))∧ ∃ q,DataW.LaidVars Tryz.prog w r q:=by
 obtain ⟨g',t,cs,fuel,p,q,h1,h2,h3,h4,h5,_⟩:=h
 obtain rfl:g=g':=Option.some.inj (hn.symm.trans h1)
 obtain rfl:98=t:=Option.some.inj (ht.symm.trans h2)
 obtain ⟨_,u,v,hcs,_⟩:=iface_of_trod Tryz.underlying98 h4
 exact ⟨⟨u,v,var_cell hn h3 hcs⟩,q,h5⟩
theorem error_named: ∀ ty,ty<Tryz.prog.types.size→Tryz.prog.rowNamed ty [101,114,114,111,114]=true→ty=98:=by
 have h:(List.range Tryz.prog.types.size).all (fun t=> !(Tryz.prog.rowNamed t [101,114,114,111,114]) || t == 98)=true:=by kernel_rfl
 intro ty hty hr
 have:=List.all_eq_true.1 h ty (List.mem_range.2 hty)
 rw [hr] at this
 simpa using this
theorem glob_of_laid {W:World} (h:laidMetH Tryz.prog Rows.anyRow.laid W):Glob W:=by
 have h' : laidMet Tryz.prog [("vellum/volume.errLength", Rows.laid_vellum_volume_errLength), ("vellum/volume.errHead", Rows.laid_vellum_volume_errHead), ("vellum/volume.errList", Rows.laid_vellum_volume_errList), ("vellum/volume.errNowhere", Rows.laid_vellum_volume_errNowhere), ("vellum/volume.errTwice", Rows.laid_vellum_volume_errTwice), ("vellum/volume.errBehind", Rows.laid_vellum_volume_errBehind), ("vellum/volume.errCount", Rows.laid_vellum_volume_errCount), ("vellum/volume.errMark", Rows.laid_vellum_volume_errMark)] W ∧ handlesMet Tryz.prog [("errors.errorType", Rows.laid_errors_errorType)] W := h
 obtain ⟨⟨ps,hl,_⟩,hh⟩:=h'
 obtain ⟨e0,_,hl⟩:=laid_iface 0 hl (by kernel_rfl) (by kernel_rfl)
 obtain ⟨e1,_,hl⟩:=laid_iface 1 hl (by kernel_rfl) (by kernel_rfl)
 obtain ⟨e2,_,hl⟩:=laid_iface 2 hl (by kernel_rfl) (by kernel_rfl)
 obtain ⟨e6,_,hl⟩:=laid_iface 6 hl (by kernel_rfl) (by kernel_rfl)
 obtain ⟨e7,_,hl⟩:=laid_iface 7 hl (by kernel_rfl) (by kernel_rfl)
 obtain ⟨e8,_,hl⟩:=laid_iface 8 hl (by kernel_rfl) (by kernel_rfl)
 obtain ⟨e3,_,hl⟩:=laid_iface 3 hl (by kernel_rfl) (by kernel_rfl)
 obtain ⟨e4,_,_⟩:=laid_iface 4 hl (by kernel_rfl) (by kernel_rfl)
 have hx := hh ("errors.errorType", Rows.laid_errors_errorType) (List.mem_singleton.2 rfl)
 have hx' : ∃ name u ty, (Rows.laid_errors_errorType : DataW Unit).handleName? = some name ∧ (Tryz.prog.cutTypes.find? (·.1 == "internal/reflectlite.rtype")).map (·.2) = some u ∧ ty < Tryz.prog.types.size ∧ Tryz.prog.rowNamed ty name = true ∧ W.var? Tryz.prog "errors.errorType" = some #[.iface u (.agg #[typeHandle Tryz.prog ty])] := hx
 obtain ⟨name,u,ty,h1,h2,h3,h4,h5⟩:=hx'
 obtain rfl:([101,114,114,111,114]:List UInt8)=name:=Option.some.inj ((show (Rows.laid_errors_errorType:DataW Unit).handleName? = some [101,114,114,111,114] by kernel_rfl).symm.trans h1)
 obtain rfl : 246 = u := Option.some.inj ((show (Tryz.prog.cutTypes.find? (·.1 == "internal/reflectlite.rtype")).map (·.2) = some 246 by kernel_rfl).symm.trans h2)
 have hty:=error_named ty h3 h4
 subst hty
 have e5 : W.cell? ⟨5, 0, none⟩ = some (.iface 246 (.agg #[typeHandle Tryz.prog 98])) := var_cell (show Tryz.prog.globalNamed "errors.errorType" = some 5 by kernel_rfl) h5 rfl
 have hsz:Tryz.prog.globals.size=10:=by kernel_rfl
 have e5':W.cell? ⟨5,0,none⟩=some (.iface 246 (.agg #[.pointer (some ⟨10,98,none⟩)])):=by
   rw [e5]
   unfold typeHandle
   rw [hsz]
 refine ⟨fun g hg=> ?_,e5'⟩
 have:g=0∨g=1∨g=2∨g=3∨g=4∨g=5∨g=6∨g=7∨g=8:=by omega
 rcases this with rfl | rfl | rfl | rfl | rfl | rfl | rfl | rfl | rfl
 · exact e0
 · exact e1
 · exact e2
 · exact e3
 · exact e4
 · exact ⟨_,_,e5'⟩
 · exact e6
 · exact e7
 · exact e8
end Go.Proofs.YtknjjjenklfeoaaGreatDoor
namespace Go.Proofs.YtknjjjenklfeoaaGreatDoor
open Go.RowKit
attribute [local go_sem ↓] loadVar_co storeVar_co zeroValue_co
attribute [local go_sem] run_loadCo run_zeroCo
theorem KRow.below {w w':World} {a:Option Addr} {n:Nat} {st:Nat→StepR} (h:KRow w a n st) (hb:Below w.heap.size w w'):KRow w' a n st:=by
 refine ⟨fun h0=> ?_,h.fits⟩
 obtain ⟨g,o,e,hg,hr⟩:=h.some h0
 exact ⟨g,o,e,Nat.lt_of_lt_of_le hg hb.size,fun i hi j v hv=>(World.cell?_of_block (hb.block _ hg)).trans (hr i hi j v hv)⟩
theorem GRow.below {w w':World} {a:Option Addr} {n:Nat} {gs:Nat→Bool} (h:GRow w a n gs) (hb:Below w.heap.size w w'):GRow w' a n gs:=by
 refine ⟨fun h0=> ?_⟩
 obtain ⟨g,o,e,hg,hr⟩:=h.some h0
 exact ⟨g,o,e,Nat.lt_of_lt_of_le hg hb.size,fun i hi=>(World.cell?_of_block (hb.block _ hg)).trans (hr i hi)⟩
section
variable {base:List Clus} {w W:World} {d v bc:Nat} {Cv Lv:Value} {V:VolR} {N0:Nat} {E:List EntR} {K:Nat} {D D':DiskR}
def Goes1 (w W:World) (d v:Nat) (Cv Lv:Value) (V:VolR) (D D':DiskR) (base:List Clus) (W':World):Prop:=
 ∃ C1 L1 V' N1 E',VStep W W' v Cv Lv C1 L1 V'∧V'.L.length≤V.L.length+100∧Av w W' d v C1 L1 V' N1 E' D' base∧Traced V V' D D'
theorem Av.droppedT (h:Av w W d v Cv Lv V N0 E D base) (s:ByteArray) (hs:s.size≤maxLen) (hL:V.L.length≤400000000) (hd:refDropR D s=(D',0)):
   Calls Tryz.prog 29 #[.pointer (some ⟨d,0,none⟩),.string s] W fun e W'=>e= .returned (.int .i64 0)∧Goes1 w W d v Cv Lv V D D' base W':=by
 have h7:=h.vol.file.seven
 have hdd:=h.disk
 have ht:=h.vol.traceDrop s
 rw [hdd,hd] at ht
 refine (diskDrop_any W d v Cv Lv V h.dsk (by omega) h.vol.file.most hL s hs (fun he=>h.vol.dropGoes he)).mono ?_
 rintro e W' ⟨rfl,C1,L1,hv⟩
 rcases h.vol.dropCases s with ⟨c,hc,_,e⟩ | ⟨_,h0,l1,_,E',hcm⟩
 · rw [hdd,hd] at e
   injection e with _ e2
   exact absurd e2.symm hc
 · rw [h0]
   exact ⟨rfl,C1,L1,_,N0,E',hv,l1,h.step hv hcm.vol (hcm.exact h.exact) (by rw [hcm.holds,hdd,hd]),ht⟩
theorem At.returnedT (h:At w W d v bc Cv Lv V N0 E K D base) (hK:K≤188) (hE:E.length≤2) (s:ByteArray) (hs:s.size≤maxLen) (hL:V.L.length≤400000000) (hd:refReturnR D s=(D',0)):
   Calls Tryz.prog 28 #[.pointer (some ⟨d,0,none⟩),.string s] W fun e W'=>e= .returned (.int .i64 0)∧Goes1 w W d v Cv Lv V D D' base W':=by
 have h7:=h.held.vol.file.seven
 have hdd:=h.disk
 have ht:=h.held.vol.traceReturn s
 rw [hdd,hd] at ht
 refine (diskReturn_any W d v Cv Lv V h.at'.dsk (by omega) h.held.vol.file.most hL s hs (fun he=>(h.held.vol.returnHyps he).1) (fun he=>(h.held.vol.returnHyps he).2)).mono ?_
 rintro e W' ⟨rfl,C1,L1,hv⟩
 obtain ⟨z,l1,_,N1,v1,x1,d1⟩:=h.held.returns hK hE s (by rw [hdd,hd])
 rw [z]
 exact ⟨rfl,C1,L1,_,N1,E,hv,l1,h.av.step hv v1 x1 (d1.trans (by rw [hdd,hd])),ht⟩
theorem At.takenT (h:At w W d v bc Cv Lv V N0 E K D base) (hK:K≤188) (h1:1≤K) (hE:E.length≤2) (s:ByteArray) (hs:s.size≤maxLen) (hL:V.L.length≤400000000) (hd:refTakeR D s=(D',0)):
   Calls Tryz.prog 17 #[.pointer (some ⟨d,0,none⟩),.string s] W fun e W'=>e= .returned (.int .i64 0)∧Goes1 w W d v Cv Lv V D D' base W':=by
 obtain ⟨q1,q2,q3,q4⟩:=h.hyps
 have hdd:=h.disk
 have ht:=h.held.vol.traceTake s
 rw [hdd,hd] at ht
 refine (diskTake_any W d v Cv Lv V q1 q2 q3 hL q4 s hs).mono ?_
 rintro e W' ⟨rfl,C1,L1,hv⟩
 obtain ⟨z,l1,_,E',h2,d2,_⟩:=h.held.take hK h1 hE s (by rw [hdd,hd])
 rw [z]
 exact ⟨rfl,C1,L1,_,N0,E',hv,l1,h.av.step hv h2.vol h2.exact (d2.trans (by rw [hdd,hd])),ht⟩
theorem At.wroteT (h:At w W d v bc Cv Lv V N0 E K D base) (hK:1≤K) (n:Nat) (hn:n<64) {data:Clus} (hd:data.length=64) (hL:V.L.length≤300000000):
   Calls Tryz.prog 26 #[.pointer (some ⟨d,0,none⟩),.int .i64 (n:Nat),.agg (cv data).toArray] W fun e W'=>(e= .returned (.int .i64 0)∧Goes1 w W d v Cv Lv V D (setD D n data) base W')∨(e= .returned (.int .i64 5)∧Goes1 w W d v Cv Lv V D D base W'):=by
 have hdd:=h.disk
 have ht:=h.held.vol.traceWrite n hn hd
 have hl:=h.held.vol.write_lenL (n:Int) hd
 rw [hdd] at ht
 obtain ⟨hh,hor⟩:=h.held.write hK n hn hd
 refine (h.held.vol.diskWrite (data:=data) h.at'.dsk (by omega) (n:Int) hd).mono ?_
 rintro e W' ⟨rfl,C1,L1,hv⟩
 rcases hor with ⟨h0,e⟩ | ⟨h5,e⟩
 · left
   rw [h0]
   exact ⟨rfl,C1,L1,_,N0,E,hv,by omega,h.av.step hv hh.vol hh.exact (e.trans (by rw [hdd])),ht⟩
 · right
   rw [h5]
   refine ⟨rfl,C1,L1,_,N0,E,hv,by omega,h.av.step hv hh.vol hh.exact (by rw [e];exact hdd),?_⟩
   rw [e]
   exact Traced.nil ⟨_,_,_,_,Or.inl rfl,by rw [← hdd];exact h.held.vol.ok⟩
end
theorem row_of_blk {w:World} {b:Nat} {xs:List Value} (h:w.heap[b]? = some (.cells xs.toArray 9 (0,0))) (hn:xs.length≤maxLen):w.ownsRow 0 9 1 (.slice (some ⟨b,0,none⟩) xs.length xs.length) xs.length xs:=
 ⟨by omega,Or.inr ⟨b,xs.length,xs.toArray,rfl,Nat.zero_le _,h,Nat.le_refl _,hn,by simp,by simp⟩⟩
structure Mid (w0 W:World) (d v bc b1 ba:Nat) (nv tv:Value) (V V':VolR) (D0 D1:DiskR) (A:List Clus) (Ca:List Clus) (NS:List (List UInt8)):Prop where
 av: ∃ C1 L1 N1 E1 D',Av w0 W d v C1 L1 V' N1 E1 D'
 traced:Traced V V' D0 D1
 log:V'.L.length≤V.L.length+100
 c:ContAt W bc D0.C
 one:ContAt W b1 Ca
 aft:ContAt W ba A
 names:W.ownsRow 0 9 1 nv 1 [.string ⟨#[111,110,101]⟩]
 then':W.ownsRow 0 9 1 tv NS.length (sv NS)
def NamesOK (D:DiskR):Prop:=D.L.map (·.name)=[]∨D.L.map (·.name)=[[111,110,101]]∨D.L.map (·.name)=[[111,110,101],[116,119,111]]
def Switched (w0 W:World) (d v bc b1 ba:Nat) (nv f tv:Value) (V:VolR) (D0:DiskR) (Ca:List Clus):Prop:=
 ∃ V' D1 A NS,Mid w0 W d v bc b1 ba nv tv V V' D0 D1 A Ca NS∧NamesOK D1∧(f= .int .i64 0∧A=D1.C∧NS=D1.L.map (·.name)∨f= .int .i64 5∧D1=D0)
theorem strs_kept {w w':World} {v:Nat} {Cv Lv x:Value} {V:VolR} {n:Nat} {xs:List Value} (h:VolAt w v Cv Lv V) (hk:Kept (foot v Cv Lv) w w') (hr:w.ownsRow 0 9 1 x n xs):w'.ownsRow 0 9 1 x n xs:=
 ownsRow_kept hk hr (fun g hg y=>by
   obtain ⟨cs',fr',hb'⟩:=row_blk hr hg
   exact h.footKey hb' (by decide) (by decide) (by decide) y)
theorem Goes1.mid {w0 W W':World} {d v bc b1 ba:Nat} {Cv Lv nv tv:Value} {V:VolR} {D0 D1:DiskR} {A Ca:List Clus} {NS:List (List UInt8)} (g:Goes1 w0 W d v Cv Lv V D0 D1 [] W') (h:DskAt W d v Cv Lv V) (c:ContAt W bc D0.C) (one:ContAt W b1 Ca) (aft:ContAt W ba A)
   (names:W.ownsRow 0 9 1 nv 1 [.string ⟨#[111,110,101]⟩]) (th:W.ownsRow 0 9 1 tv NS.length (sv NS)): ∃ V',Mid w0 W' d v bc b1 ba nv tv V V' D0 D1 A Ca NS:=by
 obtain ⟨C1,L1,V',N1,E',hs,hl,av,tr⟩:=g
 have key: ∀ {b:Nat} {C:List Clus},ContAt W b C→ContAt W' b C:=fun hb=>hb.kept hs.kept (h.vol.footKey hb.blk (by decide) (by decide) (by decide))
 exact ⟨V',⟨C1,L1,N1,E',D1,av⟩,tr,hl,key c,key one,key aft,strs_kept h.vol hs.kept names,strs_kept h.vol hs.kept th⟩
section
variable {w0 W W':World} {d v bc b1 ba:Nat} {nv tv tv':Value} {V V':VolR} {D0 D1:DiskR} {A A' Ca:List Clus} {NS NS':List (List UInt8)}
theorem Mid.later (m:Mid w0 W d v bc b1 ba nv tv V V' D0 D1 A Ca NS) (hb:Below W.heap.size W W') (th:W'.ownsRow 0 9 1 tv' NS'.length (sv NS')):Mid w0 W' d v bc b1 ba nv tv' V V' D0 D1 A Ca NS':=by
 obtain ⟨C1,L1,N1,E1,D',av⟩:=m.av
 exact ⟨⟨C1,L1,N1,E1,D',av.later hb⟩,m.traced,m.log,m.c.below hb,m.one.below hb,m.aft.below hb,ownsRow_kept (Kept.of_below (S:=fun _=>False) hb) m.names (fun _ _=>id),th⟩
theorem Mid.put (m:Mid w0 W d v bc b1 ba nv tv V V' D0 D1 A Ca NS) (h0:w0.heap.size≤ba) (hc:bc≠ba) (h1:b1≠ba) (hk:Kept (fun k=>k=ba) W W') (ha:ContAt W' ba A'):Mid w0 W' d v bc b1 ba nv tv V V' D0 D1 A' Ca NS:=by
 obtain ⟨C1,L1,N1,E1,D',av⟩:=m.av
 have hne: ∀ k,dfoot d v C1 L1 k→ ¬ k=ba:=by
   rintro k (e | e) e2
   · subst e2
     have h1:=av.dsk.blk
     rw [← e,m.aft.blk] at h1
     injection h1 with h1
     injection h1 with _ h2
     exact absurd h2 (by decide)
   · exact av.dsk.vol.footKey m.aft.blk (by decide) (by decide) (by decide) (by rw [← e2];exact e)
 refine ⟨⟨C1,L1,N1,E1,D',⟨av.dsk.kept hk hne,av.vol,av.exact,av.disk,?_,av.lo⟩⟩,m.traced,m.log,m.c.kept hk hc,m.one.kept hk h1,ha,ownsRow_kept hk m.names (fun g hg y=>row_ne m.names m.aft.blk (by decide) g hg y),ownsRow_kept hk m.then' (fun g hg y=>row_ne m.then' m.aft.blk (by decide) g hg y)⟩
 have hb:=av.below
 exact ⟨hk.os.trans hb.os,hk.tape.trans hb.tape,hk.output.trans hb.output,Nat.le_trans hb.size hk.size,fun i hi=>by
   rw [hk.block i (Nat.lt_of_lt_of_le hi hb.size) (by omega)];exact hb.block i hi⟩
end
theorem run_storeCo {w:World} {b:Nat} {x:List Clus} (ht:w.there b 0 4096) (hx:Cont x):(storeCo ⟨b,0,none⟩ (.agg (flatC x).toArray)).run Tryz.prog w= .ok () (w.setCells b 0 (flatC x)):=by
 have hs:=run_storeVar_mid (P:=Tryz.prog) w b 0 40 (flatC x).toArray (by simpa [hx.flat] using ht) (by simp only [List.size_toArray,hx.flat];kernel_rfl) (all_oneCell_toArray (flatC_one x))
 unfold storeCo
 simpa using hs
end Go.Proofs.YtknjjjenklfeoaaGreatDoor
namespace Go.Proofs.YtknjjjenklfeoaaGreatDoor
open Go.RowKit
theorem sv_at (N:List (List UInt8)) (i:Nat) (h:i<N.length):(sv N)[i]? = some (.string (txt (N.getD i []))):=by
 unfold sv
 rw [List.getElem?_map,List.getD_eq_getElem?_getD,List.getElem?_eq_getElem h]
 rfl
theorem one_beq:([111,110,101] == (ByteArray.mk #[111,110,101]).toList)=true:=by
 first | kernel_rfl | decide | simp
theorem beq_one:((ByteArray.mk #[111,110,101]).toList == [111,110,101])=true:=by
 first | kernel_rfl | decide | simp
structure Xv (w W:World) (d v:Nat) (Cv Lv:Value) (V:VolR) (N0:Nat) (E:List EntR) (D:DiskR) (base:List Clus):Prop where
 dsk:DskAt W d v Cv Lv V
 vol:Vol base V N0 E
 disk:dskOf V.C N0 E=D
 below:Below w.heap.size w W
 lo: ∀ k,dfoot d v Cv Lv k→w.heap.size≤k
section
variable {w W W':World} {d v b:Nat} {Cv Lv C1 L1:Value} {V V':VolR} {N0:Nat} {E:List EntR} {D:DiskR} {base C:List Clus}
theorem Xv.later (h:Xv w W d v Cv Lv V N0 E D base) (hb:Below W.heap.size W W'):Xv w W' d v Cv Lv V N0 E D base:=⟨h.dsk.below hb,h.vol,h.disk,h.below.trans (hb.mono h.below.size),h.lo⟩
theorem Xv.holds (h:Xv w W d v Cv Lv V N0 E D base) (hb:ContAt W b C):
   Calls Tryz.prog 19 #[.pointer (some ⟨d,0,none⟩),.pointer (some ⟨b,0,none⟩)] W fun e w'=>(∃ r,e= .returned (.bool r)∧(D.C=C→r=true))∧Below W.heap.size W w':=by
 by_cases hC:D.C=C
 · refine (holds_any W d v b Cv Lv base V N0 E h.dsk h.vol (by rw [← dskOf_C V.C N0 E,h.disk,hC];exact hb)).mono ?_
   rintro e w' ⟨rfl,hb⟩
   exact ⟨⟨_,rfl,fun _=>rfl⟩,hb⟩
 · refine (holds_some W d v b Cv Lv base V N0 E h.dsk h.vol C hb).mono ?_
   rintro e w' ⟨⟨r,rfl⟩,hb⟩
   exact ⟨⟨_,rfl,fun x=>absurd x hC⟩,hb⟩
theorem Xv.holdsOne (h:Xv w W d v Cv Lv V N0 E D base) (hb:ContAt W b C):
   Calls Tryz.prog 20 #[.pointer (some ⟨d,0,none⟩),.string ⟨#[111,110,101]⟩,.pointer (some ⟨b,0,none⟩)] W fun e w'=>(∃ r,e= .returned (.bool r)∧(∀ Cb,D=⟨Cb,[⟨[111,110,101],C⟩]⟩→r=true))∧Below W.heap.size W w':=by
 by_cases hC: ∃ Cb,D=⟨Cb,[⟨[111,110,101],C⟩]⟩
 · obtain ⟨Cb,hC⟩:=hC
   refine (holdsOf_any W d v b Cv Lv base V N0 E h.dsk h.vol ⟨#[111,110,101]⟩ (by unfold maxLen;decide) C hb (pic_read h.vol (h.disk.trans hC) ⟨#[111,110,101]⟩ 0 rfl C rfl)).mono ?_
   rintro e w' ⟨rfl,hb⟩
   exact ⟨⟨_,rfl,fun _ _=>rfl⟩,hb⟩
 · refine (holdsOf_some W d v b Cv Lv base V N0 E h.dsk h.vol ⟨#[111,110,101]⟩ (by unfold maxLen;decide) C hb).mono ?_
   rintro e w' ⟨⟨r,rfl⟩,hb⟩
   exact ⟨⟨_,rfl,fun Cb x=>absurd ⟨Cb,x⟩ hC⟩,hb⟩
theorem Xv.lists (h:Xv w W d v Cv Lv V N0 E D base):
   Calls Tryz.prog 21 #[.pointer (some ⟨d,0,none⟩)] W fun e w'=> ∃ x,e= .returned x∧w'.ownsRow 0 9 1 x (D.L.map (·.name)).length (sv (D.L.map (·.name)))∧Below W.heap.size W w':=by
 have h7:=h.vol.file.seven
 refine (diskList_any W d v Cv Lv V h.dsk (by omega)).mono ?_
 rintro e w' ⟨x,rfl,hx,hb⟩
 refine ⟨x,rfl,?_,hb⟩
 have e1:D.L.map (·.name)=E.map (·.name):=by
   have:=names_held (V:=V) (N0:=N0) (E:=E)
   rw [h.disk] at this
   unfold picNames at this
   rw [List.take_length] at this
   exact this
 rw [e1,List.length_map]
 have hx:=row_base hx (Nat.zero_le _)
 rw [names_told h.vol,h.vol.ents.2] at hx
 exact hx
theorem Xv.repairs (h:Xv w W d v Cv Lv V N0 E D base) (hL:V.L.length≤600000000):
   Calls Tryz.prog 31 #[.pointer (some ⟨d,0,none⟩)] W fun e w'=>e= .returned (.tuple #[])∧ExactS (repairV V).C (rsOf N0 E)∧ ∃ C1 L1,VStep W w' v Cv Lv C1 L1 (repairV V)∧Xv w w' d v C1 L1 (repairV V) N0 E D base:=by
 have h7:=h.vol.file.seven
 have hm:=h.vol.mended
 refine (diskRepair_any W d v Cv Lv V h.dsk (by omega) h.vol.file.most hL (fun f hf=>by rw [h.vol.firsts] at hf;exact h.vol.sound.firstOK hf) hm.firsts).mono ?_
 rintro e w' ⟨rfl,C1,L1,hs⟩
 refine ⟨rfl,hm.exact,C1,L1,hs,h.dsk.step hs,hm.vol,hm.holds.trans h.disk,?_,?_⟩
 · exact ⟨hs.kept.os.trans h.below.os,hs.kept.tape.trans h.below.tape,hs.kept.output.trans h.below.output,Nat.le_trans h.below.size hs.kept.size,fun i hi=>by
     rw [hs.kept.block i (Nat.lt_of_lt_of_le hi h.below.size) (fun x=>by have:=h.lo i (Or.inr x);omega)];exact h.below.block i hi⟩
 · intro k hk
   rcases hk with hk | hk
   · exact h.lo k (Or.inl hk)
   · rcases hs.new k hk with y | y
     · exact h.lo k (Or.inr y)
     · exact Nat.le_trans h.below.size y
theorem Xv.box (h:Xv w W d v Cv Lv V N0 E D base) (hs:VStep W W' v Cv Lv C1 L1 V') (hb:ContAt W b C):ContAt W' b C:=
 hb.kept hs.kept (h.dsk.vol.footKey hb.blk (by decide) (by decide) (by decide))
theorem Xv.checks (h:Xv w W d v Cv Lv V N0 E D base) (hx:ExactS V.C (rsOf N0 E)):
   Calls Tryz.prog 22 #[.pointer (some ⟨d,0,none⟩)] W fun e w'=>(∃ s:StateR,e= .returned (.agg (stateCells s).toArray)∧s.lost=0∧s.over=0∧s.unmarked=0)∧Below W.heap.size W w':=by
 have h7:=h.vol.file.seven
 refine (diskCheck_any W d v Cv Lv V h.dsk (by omega) h.vol.file.most (fun f hf=>by rw [h.vol.firsts] at hf;exact h.vol.sound.firstOK hf)).mono ?_
 rintro e w' ⟨rfl,hb⟩
 rw [h.vol.check hx]
 exact ⟨⟨_,rfl,rfl,rfl,rfl⟩,hb⟩
structure Nearby (W:World) (bc b1 ba:Nat) (nv tv:Value) (B Ca A:List Clus) (NS:List (List UInt8)):Prop where
 c:ContAt W bc B
 one:ContAt W b1 Ca
 aft:ContAt W ba A
 names:W.ownsRow 0 9 1 nv 1 [.string ⟨#[111,110,101]⟩]
 then':W.ownsRow 0 9 1 tv NS.length (sv NS)
theorem Nearby.later {bc b1 ba:Nat} {nv tv:Value} {B Ca A:List Clus} {NS:List (List UInt8)} (h:Nearby W bc b1 ba nv tv B Ca A NS) (hb:Below W.heap.size W W'):Nearby W' bc b1 ba nv tv B Ca A NS:=
 ⟨h.c.below hb,h.one.below hb,h.aft.below hb,ownsRow_kept (Kept.of_below (S:=fun _=>False) hb) h.names (fun _ _=>id),ownsRow_kept (Kept.of_below (S:=fun _=>False) hb) h.then' (fun _ _=>id)⟩
structure Asked (w W:World) (d v:Nat) (Cv Lv:Value) (V:VolR) (N0:Nat) (E:List EntR) (D:DiskR) (base:List Clus) (bc b1 ba:Nat) (nv tv lv:Value) (B Ca:List Clus) (D2:DiskR):Prop where
 x:Xv w W d v Cv Lv V N0 E D base
 s:Nearby W bc b1 ba nv tv B Ca D2.C (D2.L.map (·.name))
 l:W.ownsRow 0 9 1 lv (D.L.map (·.name)).length (sv (D.L.map (·.name)))
theorem Asked.later {bc b1 ba:Nat} {nv tv lv:Value} {B Ca:List Clus} {D2:DiskR} (h:Asked w W d v Cv Lv V N0 E D base bc b1 ba nv tv lv B Ca D2) (hb:Below W.heap.size W W'):Asked w W' d v Cv Lv V N0 E D base bc b1 ba nv tv lv B Ca D2:=
 ⟨h.x.later hb,h.s.later hb,ownsRow_kept (Kept.of_below (S:=fun _=>False) hb) h.l (fun _ _=>id)⟩
end
end Go.Proofs.YtknjjjenklfeoaaGreatDoor
