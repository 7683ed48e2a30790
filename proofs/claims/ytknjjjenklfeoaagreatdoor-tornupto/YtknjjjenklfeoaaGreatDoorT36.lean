import Derived.Test.YtknjjjenklfeoaaGreatDoorT04
import Derived.Test.YtknjjjenklfeoaaGreatDoorT05
import Derived.Test.YtknjjjenklfeoaaGreatDoorT24
set_option maxHeartbeats 8000000
set_option maxRecDepth 100000
namespace Go.Proofs.YtknjjjenklfeoaaGreatDoor
open Go.RowKit
attribute [local go_sem] Oper.semAt_some
structure Glob (w:World):Prop where
 err: ∀ g,g<9→ ∃ t v,w.cell? ⟨g,0,none⟩=some (.iface t v)
 typ:w.cell? ⟨5,0,none⟩=some (.iface 246 (.agg #[.pointer (some ⟨10,98,none⟩)]))
theorem Glob.size {w:World} (h:Glob w):9≤w.heap.size:=by
 obtain ⟨t,v,h8⟩:=h.err 8 (by omega)
 unfold World.cell? at h8
 rcases Nat.lt_or_ge 8 w.heap.size with x | x
 · omega
 · rw [Array.getElem?_eq_none (show w.heap.size≤(⟨8,0,none⟩:Addr).block from x)] at h8
   cases h8
theorem Glob.kept {w w':World} {S:Nat→Prop} (h:Glob w) (hk:Kept S w w') (hs: ∀ k,k<9→ ¬ S k):Glob w':=by
 have h9:=h.size
 have key: ∀ g,g<9→w'.cell? ⟨g,0,none⟩=w.cell? ⟨g,0,none⟩:=fun g hg=>by
   unfold World.cell?
   rw [show w'.heap[(⟨g,0,none⟩:Addr).block]? = w.heap[(⟨g,0,none⟩:Addr).block]? from hk.block g (by omega) (hs g hg)]
 refine ⟨fun g hg=> ?_,?_⟩
 · rw [key g hg];exact h.err g hg
 · rw [key 5 (by omega)];exact h.typ
theorem Glob.below {w w':World} (h:Glob w) (hb:Below w.heap.size w w'):Glob w':=h.kept (S:=fun _=>False) (Kept.of_below hb) (fun _ _=>id)
def faultV (c:Nat) (x:Value):Value:= .iface 157 (.agg #[.int .i64 (c:Nat),x])
def isIface (x:Value):Prop:= ∃ t v,x= .iface t v
def rv (M:List Nat):List Value:=M.map fun k=> .int .u8 (k:Nat)
def roleCells (T:Nat) (M:List Nat):List Value:= .int .i64 (T:Nat) :: rv M
structure RolesAt (w:World) (b T:Nat) (M:List Nat):Prop where
 blk:w.heap[b]? = some (.cells (roleCells T M).toArray 212 (0,0))
 len:M.length=256
theorem rv_get (M:List Nat) (i:Nat) (h:i<M.length):(rv M)[i]? = some (.int .u8 ((M.getD i 0:Nat):Int)):=by
 unfold rv
 rw [List.getElem?_map,List.getElem?_eq_getElem h,List.getD_eq_getElem?_getD,List.getElem?_eq_getElem h]
 rfl
theorem RolesAt.c0 {w:World} {b T:Nat} {M:List Nat} (h:RolesAt w b T M):w.cell? ⟨b,0,none⟩=some (.int .i64 (T:Nat)):=by rw [cell_blk h.blk];rfl
theorem RolesAt.cell {w:World} {b T:Nat} {M:List Nat} (h:RolesAt w b T M) (n:Nat) (hn:n<256):w.cell? ⟨b,1+n,none⟩=some (.int .u8 ((M.getD n 0:Nat):Int)):=by
 rw [cell_blk h.blk,List.getElem?_toArray,Nat.add_comm]
 show (rv M)[n]? = _
 exact rv_get M n (by rw [h.len];exact hn)
theorem RolesAt.fz {w:World} {b T:Nat} {M:List Nat} (h:RolesAt w b T M) (i:Nat):w.frozen? ⟨b,i,none⟩=false:=frozen_blk h.blk i
theorem RolesAt.kept {w w':World} {b T:Nat} {M:List Nat} {S:Nat→Prop} (h:RolesAt w b T M) (hk:Kept S w w') (hs: ¬ S b):RolesAt w' b T M:=⟨hk.blk hs h.blk,h.len⟩
theorem RolesAt.below {w w':World} {b T:Nat} {M:List Nat} (h:RolesAt w b T M) (hb:Below w.heap.size w w'):RolesAt w' b T M:=h.kept (S:=fun _=>False) (Kept.of_below hb) id
theorem RolesAt.put {w:World} {b T:Nat} {M:List Nat} (h:RolesAt w b T M) (n kind:Nat):RolesAt (w.setCell ⟨b,1+n,none⟩ (.int .u8 (kind:Nat))) b T (M.set n kind):=by
 refine ⟨?_,by simp [h.len]⟩
 rw [heap_setCell_same _ _ _ _ _ _ _ h.blk,List.setIfInBounds_toArray]
 simp only [roleCells,rv,List.map_set,Nat.add_comm 1 n,List.set_cons_succ]
def noTellM (M:List Nat) (T n kind:Nat):Bool:=decide (n<6) || (decide (T≤n) || (M.getD n 0 != 0 && (M.getD n 0 != kind || kind == 1)))
theorem roles_no (w:World) (b T:Nat) (M:List Nat) (n kind:Nat) (h:RolesAt w b T M) (hG:Glob w) (hT:T≤256) (hn:n<65536) (hk:kind<256) (hM: ∀ i,M.getD i 0<256) (hno:noTellM M T n kind=true):
   Calls Tryz.prog 151 #[.pointer (some ⟨b,0,none⟩),.int .i64 (n:Nat),.int .u8 (kind:Nat)] w fun e w'=>(∃ x,isIface x∧e= .returned x)∧w'=w:=by
 obtain ⟨t6,v6,g6⟩:=hG.err 6 (by omega)
 obtain ⟨t7,v7,g7⟩:=hG.err 7 (by omega)
 have c0:=h.c0
 have f0:=h.fz
 by_cases h6:n<6
 · have d6:((n:Nat):Int)<6:=by omega
   clear hno
   go_enter Tryz.func151,Tryz.ntmps151
   go_wp2
   go_ret
   exact ⟨⟨_,⟨_,_,rfl⟩,rfl⟩,rfl⟩
 · have d6: ¬ ((n:Nat):Int)<6:=by omega
   by_cases hTn:T≤n
   · have dT:((T:Nat):Int)≤((n:Nat):Int):=by omega
     clear hno
     go_enter Tryz.func151,Tryz.ntmps151
     go_wp2
     go_ret
     exact ⟨⟨_,⟨_,_,rfl⟩,rfl⟩,rfl⟩
   · have hn256:n<256:=by omega
     have cn:=h.cell n hn256
     have dT: ¬ ((T:Nat):Int)≤((n:Nat):Int):=by omega
     unfold noTellM at hno
     rw [decide_eq_false h6,decide_eq_false hTn,Bool.false_or,Bool.false_or] at hno
     have hm:=hM n
     generalize M.getD n 0=m at*
     have hm0:m≠0:=by rintro rfl;cases hno
     have dm:(((m:Nat):Int) != 0)=true:=by rw [bne_iff_ne];omega
     by_cases hmk:m=kind
     · subst hmk
       have h1:m=1:=by simpa [hm0] using hno
       subst h1
       clear hno
       go_enter Tryz.func151,Tryz.ntmps151
       go_wp2
       go_ret
       exact ⟨⟨_,⟨_,_,rfl⟩,rfl⟩,rfl⟩
     · have dk:(((m:Nat):Int) != ((kind:Nat):Int))=true:=by rw [bne_iff_ne];omega
       clear hno
       go_enter Tryz.func151,Tryz.ntmps151
       go_wp2
       go_ret
       exact ⟨⟨_,⟨_,_,rfl⟩,rfl⟩,rfl⟩
theorem roles_yes (w:World) (b T:Nat) (M:List Nat) (n kind:Nat) (h:RolesAt w b T M) (hT:T≤256) (hk:kind<256) (hM: ∀ i,M.getD i 0<256) (hno:noTellM M T n kind=false):
   Calls Tryz.prog 151 #[.pointer (some ⟨b,0,none⟩),.int .i64 (n:Nat),.int .u8 (kind:Nat)] w fun e w'=>e= .returned .nilIface∧w'=w.setCell ⟨b,1+n,none⟩ (.int .u8 (kind:Nat)):=by
 have c0:=h.c0
 have f0:=h.fz
 unfold noTellM at hno
 rw [Bool.or_eq_false_iff,Bool.or_eq_false_iff] at hno
 obtain ⟨h6,hTn,hno⟩:=hno
 have h6:=of_decide_eq_false h6
 have hTn:=of_decide_eq_false hTn
 have hn256:n<256:=by omega
 have cn:=h.cell n hn256
 have d6: ¬ ((n:Nat):Int)<6:=by omega
 have dT: ¬ ((T:Nat):Int)≤((n:Nat):Int):=by omega
 have dn:((n:Nat):Int)<256:=by omega
 have hm:=hM n
 generalize M.getD n 0=m at*
 by_cases hm0:m=0
 · subst hm0
   clear hno
   go_enter Tryz.func151,Tryz.ntmps151
   go_wp2
   go_ret
   exact ⟨rfl,rfl⟩
 · have dm:(((m:Nat):Int) != 0)=true:=by rw [bne_iff_ne];omega
   have e0:(m != 0)=true:=by simpa using hm0
   rw [e0,Bool.true_and,Bool.or_eq_false_iff] at hno
   have hmk:m=kind:=by simpa using hno.1
   have h1: ¬ kind=1:=by simpa using hno.2
   subst hmk
   have d1:(((m:Nat):Int) == 1)=false:=by rw [beq_eq_false_iff_ne];omega
   clear hno
   go_enter Tryz.func151,Tryz.ntmps151
   go_wp2
   go_ret
   exact ⟨rfl,rfl⟩
def spotNo (M:List Nat) (T first t i x:Nat):Bool:=if t=first then (decide (2≤i) || noTellM M T (x%32768) 2) else noTellM M T (x%32768) 3
def spotKind (first t:Nat):Nat:=if t=first then 2 else 3
theorem spot_no (w:World) (b T:Nat) (M:List Nat) (first t i x:Nat) (h:RolesAt w b T M) (hG:Glob w) (hT:T≤256) (hx:x<65536) (hM: ∀ i,M.getD i 0<256) (hno:spotNo M T first t i x=true):
   Calls Tryz.prog 153 #[.pointer (some ⟨b,0,none⟩),.agg #[.int .i64 (t:Nat),.int .i64 (i:Nat),.int .u16 (x:Nat)],.int .i64 (first:Nat)] w fun e w'=>(∃ x,isIface x∧e= .returned x)∧Below w.heap.size w w':=by
 have hb:Below w.heap.size w (w.alloc (.cells #[.int .i64 (t:Nat),.int .i64 (i:Nat),.int .u16 (x:Nat)] 219)):=(Below.refl _ _).alloc (Nat.le_refl _) _
 have HB:=hide hb
 have h1:RolesAt (w.alloc (.cells #[.int .i64 (t:Nat),.int .i64 (i:Nat),.int .u16 (x:Nat)] 219)) b T M:=h.below hb
 have hG1:=hG.below hb
 clear h hG
 obtain ⟨t8,v8,g8⟩:=hG1.err 8 (by omega)
 have Hc:=hide (fun W=>cluster_of x hx W)
 have hlt:x%32768<65536:=by omega
 unfold spotNo at hno
 by_cases hf:t=first
 · rw [if_pos hf] at hno
   subst hf
   have df:(((t:Nat):Int) != ((t:Nat):Int))=false:=by rw [bne_eq_false_iff_eq]
   by_cases h2:2≤i
   · have d2:(2:Int)≤((i:Nat):Int):=by omega
     clear hno Hc h1 hG1 hb
     go_enter Tryz.func153,Tryz.ntmps153
     go_wp2
     go_ret
     exact ⟨⟨_,⟨_,_,rfl⟩,rfl⟩,uh HB⟩
   · have d2: ¬ (2:Int)≤((i:Nat):Int):=by omega
     rw [decide_eq_false h2,Bool.false_or] at hno
     have Ht:=hide (roles_no _ b T M (x%32768) 2 h1 hG1 hT hlt (by omega) hM hno)
     clear hno h1 hG1 hb
     generalize x%32768=c at*
     go_enter Tryz.func153,Tryz.ntmps153
     go_wp2_with fail
     refine (uh Hc _).mono ?_
     rintro e w1 ⟨rfl,rfl⟩
     go_wp2_with fail
     refine (uh Ht).mono ?_
     rintro e w1 ⟨⟨y,hy,rfl⟩,rfl⟩
     go_wp2
     go_ret
     exact ⟨⟨_,hy,rfl⟩,uh HB⟩
 · rw [if_neg hf] at hno
   have df:(((t:Nat):Int) != ((first:Nat):Int))=true:=by rw [bne_iff_ne];omega
   have Ht:=hide (roles_no _ b T M (x%32768) 3 h1 hG1 hT hlt (by omega) hM hno)
   clear hno h1 hG1 hb
   generalize x%32768=c at*
   go_enter Tryz.func153,Tryz.ntmps153
   go_wp2_with fail
   refine (uh Hc _).mono ?_
   rintro e w1 ⟨rfl,rfl⟩
   go_wp2_with fail
   refine (uh Ht).mono ?_
   rintro e w1 ⟨⟨y,hy,rfl⟩,rfl⟩
   go_wp2
   go_ret
   exact ⟨⟨_,hy,rfl⟩,uh HB⟩
theorem spot_yes (w:World) (b T:Nat) (M:List Nat) (first t i x:Nat) (h:RolesAt w b T M) (hT:T≤256) (hx:x<65536) (hM: ∀ i,M.getD i 0<256) (hno:spotNo M T first t i x=false):
   Calls Tryz.prog 153 #[.pointer (some ⟨b,0,none⟩),.agg #[.int .i64 (t:Nat),.int .i64 (i:Nat),.int .u16 (x:Nat)],.int .i64 (first:Nat)] w fun e w'=>e= .returned .nilIface∧RolesAt w' b T (M.set (x%32768) (spotKind first t))∧Kept (fun k=>k=b) w w':=by
 have hb:Below w.heap.size w (w.alloc (.cells #[.int .i64 (t:Nat),.int .i64 (i:Nat),.int .u16 (x:Nat)] 219)):=(Below.refl _ _).alloc (Nat.le_refl _) _
 have h1:RolesAt (w.alloc (.cells #[.int .i64 (t:Nat),.int .i64 (i:Nat),.int .u16 (x:Nat)] 219)) b T M:=h.below hb
 have HB:=hide hb
 have H1:=hide h1
 clear h
 have Hc:=hide (fun W=>cluster_of x hx W)
 unfold spotNo at hno
 unfold spotKind
 by_cases hf:t=first
 · rw [if_pos hf] at hno ⊢
   subst hf
   have df:(((t:Nat):Int) != ((t:Nat):Int))=false:=by rw [bne_eq_false_iff_eq]
   rw [Bool.or_eq_false_iff] at hno
   have h2:=of_decide_eq_false hno.1
   have d2: ¬ (2:Int)≤((i:Nat):Int):=by omega
   have Ht:=hide (roles_yes _ b T M (x%32768) 2 h1 hT (by omega) hM hno.2)
   clear hno h1 hb
   generalize x%32768=c at*
   go_enter Tryz.func153,Tryz.ntmps153
   go_wp2_with fail
   refine (uh Hc _).mono ?_
   rintro e w1 ⟨rfl,rfl⟩
   go_wp2_with fail
   refine (uh Ht).mono ?_
   rintro e w1 ⟨rfl,rfl⟩
   go_wp2
   go_ret
   exact ⟨rfl,(uh H1).put _ _,(Kept.of_below (uh HB)).trans (Kept.only _ _ _ _)⟩
 · rw [if_neg hf] at hno ⊢
   have df:(((t:Nat):Int) != ((first:Nat):Int))=true:=by rw [bne_iff_ne];omega
   have Ht:=hide (roles_yes _ b T M (x%32768) 3 h1 hT (by omega) hM hno)
   clear hno h1 hb
   generalize x%32768=c at*
   go_enter Tryz.func153,Tryz.ntmps153
   go_wp2_with fail
   refine (uh Hc _).mono ?_
   rintro e w1 ⟨rfl,rfl⟩
   go_wp2_with fail
   refine (uh Ht).mono ?_
   rintro e w1 ⟨rfl,rfl⟩
   go_wp2
   go_ret
   exact ⟨rfl,(uh H1).put _ _,(Kept.of_below (uh HB)).trans (Kept.only _ _ _ _)⟩
end Go.Proofs.YtknjjjenklfeoaaGreatDoor
namespace Go.Proofs.YtknjjjenklfeoaaGreatDoor
open Go.RowKit
attribute [local go_sem ↓] loadVar_clus storeVar_clus zeroValue_clus loadVar_tab storeVar_tab zeroValue_tab loadVar_cnt storeVar_cnt zeroValue_cnt loadVar_head storeVar_head zeroValue_head build_head buildSlice_clus loadVar_wr storeVar_wr zeroValue_wr build_wr buildSlice_wr equalIn_clus
attribute [local go_sem] run_loadClus run_storeClus run_zeroClus run_storeClus_new run_loadClus_new zc_length run_loadTab run_storeTab run_zeroTab run_storeTab_new run_loadTab_new zt_length run_loadCnt run_storeCnt run_zeroCnt run_storeCnt_new run_loadCnt_new zk_length run_loadHead run_storeHead run_zeroHead run_storeHead_new run_bHead HasAt_drew cellsAt_drew HasAt_drewN cellsAt_drewN run_bsClus run_loadWr run_zeroWr run_storeWr run_storeWr_new run_bWr0 run_bsWr
attribute [local go_sem] Oper.semAt_some
structure HeadP (file:List Clus):Prop where
 six:6≤file.length
 same:headBytes (num (cl file 0) 4) (num (cl file 0) 6)=cl file 0
 seven:7≤num (cl file 0) 4
 most:num (cl file 0) 4≤256
 le:file.length≤num (cl file 0) 4
theorem checkHead_short (w:World) (fv:Value) (file:List Clus) (hf:FRow w fv file) (hG:Glob w) (h6:file.length≤5):
   Calls Tryz.prog 90 #[fv] w fun e w'=>(∃ x,isIface x∧e= .returned (faultV 0 x))∧Below w.heap.size w w':=by
 obtain ⟨t0,v0,g0⟩:=hG.err 0 (by omega)
 obtain ⟨a,cap,rfl⟩:=row_form hf.row
 have d6:((file.length:Nat):Int)≤5:=by omega
 go_enter Tryz.func90,Tryz.ntmps90
 go_wp2
 go_ret
 exact ⟨⟨_,⟨_,_,rfl⟩,rfl⟩,Below.refl _ _⟩
theorem checkHead_form (w:World) (fv:Value) (file:List Clus) (hf:FRow w fv file) (hG:Glob w) (h6:6≤file.length) (hm:file.length≤1000000)
   (hne:headBytes (num (cl file 0) 4) (num (cl file 0) 6)≠cl file 0):
   Calls Tryz.prog 90 #[fv] w fun e w'=>(∃ x,isIface x∧e= .returned (faultV 0 x))∧Below w.heap.size w w':=by
 have d6: ¬ ((file.length:Nat):Int)≤5:=by omega
 have hlen0:=cl_length hf.lens (k:=0) (by omega)
 have Hh:Hid (∀ W,_):=fun W=>headOf_any W (cl file 0) hlen0
 have hx4:=num_lt (cl file 0) 4
 have hx6:=num_lt (cl file 0) 6
 obtain ⟨g,cap,rfl,hcap⟩:=row_some hf.row (by omega)
 have l1:=row_has hf.row hf.lens 0 (by omega)
 have l2:=row_cells hf.row hf.lens 0 (by omega)
 simp only [Nat.zero_mul] at l1 l2
 have hli:(0:Int)<(file.length:Int):=by omega
 have HF:=hide hf
 have HL:=hide (fun W (hb:Below w.heap.size w W)=>(⟨row_has (hf.kept (S:=fun _=>False) (Kept.of_below hb) (fun _ _=>id)).row hf.lens 0 (by omega),row_cells (hf.kept (S:=fun _=>False) (Kept.of_below hb) (fun _ _=>id)).row hf.lens 0 (by omega)⟩:_∧_))
 simp only [Nat.zero_mul] at HL
 have HG:=hide hG
 clear hf hG
 generalize cl file 0=c at*
 generalize num c 4=T at*
 generalize num c 6=N at*
 have Hq:=hide hne
 clear hne
 have hbl:(headBytes T N).length=64:=headBytes_length T N
 go_enter Tryz.func90,Tryz.ntmps90
 go_wp2_with fail
 refine (uh Hh _).mono ?_
 rintro e w1 ⟨rfl,hb1⟩
 have HB1:=hide (hb1.alloc hb1.size (.cells (hv T N).toArray 128))
 have HX:=hide (heap_alloc_new w1 (.cells (hv T N).toArray 128))
 clear hb1 l1 l2 Hh
 go_wp2_with fail
 generalize hW2:w1.alloc (.cells (hv T N).toArray 128)=w2 at*
 clear hW2
 have hx0: ∀ d os,(Go.Sort.grow (redrawn w2 d) os).heap[w1.heap.size]? = some (.cells (hv T N).toArray 128 (0,0)):=fun d os=>((below_regrown w2 d os).block _ (blk_lt (uh HX))).trans (uh HX)
 have k1: ∀ d os,HasAt (Go.Sort.grow (redrawn w2 d) os) w1.heap.size 0 2:=fun d os=>blk_has (hx0 d os) (hv_length _ _)
 have k2: ∀ d os,cellsAt (Go.Sort.grow (redrawn w2 d) os) w1.heap.size 0 2=hv T N:=fun d os=>blk_cells (hx0 d os) (hv_length _ _)
 have k3: ∀ d os,(Go.Sort.grow (redrawn w2 d) os).cell? ⟨w1.heap.size,0,none⟩=some (.int .i64 (T:Nat)):=fun d os=>by rw [cell_blk (hx0 d os)];rfl
 have l1: ∀ d os,HasAt (Go.Sort.grow (redrawn w2 d) os) g 0 64:=fun d os=>(uh HL _ ((uh HB1).trans ((below_regrown w2 d os).mono (uh HB1).size))).1
 have l2: ∀ d os,cellsAt (Go.Sort.grow (redrawn w2 d) os) g 0 64=cv c:=fun d os=>(uh HL _ ((uh HB1).trans ((below_regrown w2 d os).mono (uh HB1).size))).2
 have Hn:=hide (fun d os=>headCluster_any (Go.Sort.grow (redrawn w2 d) os) T N hx4 hx6)
 have he: ∀ w,(eqClus (.agg (cv (headBytes T N)).toArray) (.agg (cv c).toArray)).run Tryz.prog w= .ok false w:=fun w=>by rw [run_eqClus hbl hlen0,decide_eq_false (uh Hq)]
 clear hx0
 generalize headBytes T N=hb at*
 refine wp_region_quiet_below (by kernel_rfl) (by kernel_rfl) ?_
 repeat (go_big_quiet_step (exact Calls.regrown_of (uh Hn _ _)))
 refine wpQuiet_nil ?_
 intro _ hw'
 obtain ⟨⟨dq,osq⟩,hw''⟩:=hw'
 subst hw''
 have HBq:=hide ((uh HB1).trans ((below_regrown w2 dq osq).mono (uh HB1).size))
 have k4:=k3 dq osq
 obtain ⟨t0,v0,g0⟩:=((uh HG).below (uh HBq)).err 0 (by omega)
 obtain ⟨t1,v1,g1⟩:=((uh HG).below (uh HBq)).err 1 (by omega)
 clear l1 l2 k1 k2 k3 Hn he
 go_wp2
 go_ret
 exact ⟨⟨_,⟨_,_,rfl⟩,rfl⟩,uh HBq⟩
theorem checkHead_low (w:World) (fv:Value) (file:List Clus) (hf:FRow w fv file) (hG:Glob w) (h6:6≤file.length) (hm:file.length≤1000000)
   (hsame:headBytes (num (cl file 0) 4) (num (cl file 0) 6)=cl file 0) (hlow:num (cl file 0) 4≤6):
   Calls Tryz.prog 90 #[fv] w fun e w'=>(∃ x,isIface x∧e= .returned (faultV 0 x))∧Below w.heap.size w w':=by
 have d6: ¬ ((file.length:Nat):Int)≤5:=by omega
 have hlen0:=cl_length hf.lens (k:=0) (by omega)
 have Hh:Hid (∀ W,_):=fun W=>headOf_any W (cl file 0) hlen0
 have hx4:=num_lt (cl file 0) 4
 have hx6:=num_lt (cl file 0) 6
 obtain ⟨g,cap,rfl,hcap⟩:=row_some hf.row (by omega)
 have l1:=row_has hf.row hf.lens 0 (by omega)
 have l2:=row_cells hf.row hf.lens 0 (by omega)
 simp only [Nat.zero_mul] at l1 l2
 have hli:(0:Int)<(file.length:Int):=by omega
 have HF:=hide hf
 have HL:=hide (fun W (hb:Below w.heap.size w W)=>(⟨row_has (hf.kept (S:=fun _=>False) (Kept.of_below hb) (fun _ _=>id)).row hf.lens 0 (by omega),row_cells (hf.kept (S:=fun _=>False) (Kept.of_below hb) (fun _ _=>id)).row hf.lens 0 (by omega)⟩:_∧_))
 simp only [Nat.zero_mul] at HL
 have HG:=hide hG
 clear hf hG
 generalize cl file 0=c at*
 generalize num c 4=T at*
 generalize num c 6=N at*
 have dl:decide (((T:Nat):Int)≤6)=true:=decide_eq_true (by omega)
 have Hq:=hide hsame
 clear hsame
 have hbl:(headBytes T N).length=64:=headBytes_length T N
 go_enter Tryz.func90,Tryz.ntmps90
 go_wp2_with fail
 refine (uh Hh _).mono ?_
 rintro e w1 ⟨rfl,hb1⟩
 have HB1:=hide (hb1.alloc hb1.size (.cells (hv T N).toArray 128))
 have HX:=hide (heap_alloc_new w1 (.cells (hv T N).toArray 128))
 clear hb1 l1 l2 Hh
 go_wp2_with fail
 generalize hW2:w1.alloc (.cells (hv T N).toArray 128)=w2 at*
 clear hW2
 have hx0: ∀ d os,(Go.Sort.grow (redrawn w2 d) os).heap[w1.heap.size]? = some (.cells (hv T N).toArray 128 (0,0)):=fun d os=>((below_regrown w2 d os).block _ (blk_lt (uh HX))).trans (uh HX)
 have k1: ∀ d os,HasAt (Go.Sort.grow (redrawn w2 d) os) w1.heap.size 0 2:=fun d os=>blk_has (hx0 d os) (hv_length _ _)
 have k2: ∀ d os,cellsAt (Go.Sort.grow (redrawn w2 d) os) w1.heap.size 0 2=hv T N:=fun d os=>blk_cells (hx0 d os) (hv_length _ _)
 have k3: ∀ d os,(Go.Sort.grow (redrawn w2 d) os).cell? ⟨w1.heap.size,0,none⟩=some (.int .i64 (T:Nat)):=fun d os=>by rw [cell_blk (hx0 d os)];rfl
 have l1: ∀ d os,HasAt (Go.Sort.grow (redrawn w2 d) os) g 0 64:=fun d os=>(uh HL _ ((uh HB1).trans ((below_regrown w2 d os).mono (uh HB1).size))).1
 have l2: ∀ d os,cellsAt (Go.Sort.grow (redrawn w2 d) os) g 0 64=cv c:=fun d os=>(uh HL _ ((uh HB1).trans ((below_regrown w2 d os).mono (uh HB1).size))).2
 have Hn:=hide (fun d os=>headCluster_any (Go.Sort.grow (redrawn w2 d) os) T N hx4 hx6)
 have he: ∀ w,(eqClus (.agg (cv (headBytes T N)).toArray) (.agg (cv c).toArray)).run Tryz.prog w= .ok true w:=fun w=>by rw [run_eqClus hbl hlen0,decide_eq_true (uh Hq)]
 clear hx0
 generalize headBytes T N=hb at*
 refine wp_region_quiet_below (by kernel_rfl) (by kernel_rfl) ?_
 repeat (go_big_quiet_step (exact Calls.regrown_of (uh Hn _ _)))
 refine wpQuiet_nil ?_
 intro _ hw'
 obtain ⟨⟨dq,osq⟩,hw''⟩:=hw'
 subst hw''
 have HBq:=hide ((uh HB1).trans ((below_regrown w2 dq osq).mono (uh HB1).size))
 have k4:=k3 dq osq
 obtain ⟨t0,v0,g0⟩:=((uh HG).below (uh HBq)).err 0 (by omega)
 obtain ⟨t1,v1,g1⟩:=((uh HG).below (uh HBq)).err 1 (by omega)
 clear l1 l2 k1 k2 k3 Hn he
 go_wp2
 go_ret
 exact ⟨⟨_,⟨_,_,rfl⟩,rfl⟩,uh HBq⟩
theorem checkHead_high (w:World) (fv:Value) (file:List Clus) (hf:FRow w fv file) (hG:Glob w) (h6:6≤file.length) (hm:file.length≤1000000)
   (hsame:headBytes (num (cl file 0) 4) (num (cl file 0) 6)=cl file 0) (hhi:256<num (cl file 0) 4):
   Calls Tryz.prog 90 #[fv] w fun e w'=>(∃ x,isIface x∧e= .returned (faultV 0 x))∧Below w.heap.size w w':=by
 have d6: ¬ ((file.length:Nat):Int)≤5:=by omega
 have hlen0:=cl_length hf.lens (k:=0) (by omega)
 have Hh:Hid (∀ W,_):=fun W=>headOf_any W (cl file 0) hlen0
 have hx4:=num_lt (cl file 0) 4
 have hx6:=num_lt (cl file 0) 6
 obtain ⟨g,cap,rfl,hcap⟩:=row_some hf.row (by omega)
 have l1:=row_has hf.row hf.lens 0 (by omega)
 have l2:=row_cells hf.row hf.lens 0 (by omega)
 simp only [Nat.zero_mul] at l1 l2
 have hli:(0:Int)<(file.length:Int):=by omega
 have HF:=hide hf
 have HL:=hide (fun W (hb:Below w.heap.size w W)=>(⟨row_has (hf.kept (S:=fun _=>False) (Kept.of_below hb) (fun _ _=>id)).row hf.lens 0 (by omega),row_cells (hf.kept (S:=fun _=>False) (Kept.of_below hb) (fun _ _=>id)).row hf.lens 0 (by omega)⟩:_∧_))
 simp only [Nat.zero_mul] at HL
 have HG:=hide hG
 clear hf hG
 generalize cl file 0=c at*
 generalize num c 4=T at*
 generalize num c 6=N at*
 have dl:decide (((T:Nat):Int)≤6)=false:=decide_eq_false (by omega)
 have dh:decide ((256:Int)<((T:Nat):Int))=true:=decide_eq_true (by omega)
 have Hq:=hide hsame
 clear hsame
 have hbl:(headBytes T N).length=64:=headBytes_length T N
 go_enter Tryz.func90,Tryz.ntmps90
 go_wp2_with fail
 refine (uh Hh _).mono ?_
 rintro e w1 ⟨rfl,hb1⟩
 have HB1:=hide (hb1.alloc hb1.size (.cells (hv T N).toArray 128))
 have HX:=hide (heap_alloc_new w1 (.cells (hv T N).toArray 128))
 clear hb1 l1 l2 Hh
 go_wp2_with fail
 generalize hW2:w1.alloc (.cells (hv T N).toArray 128)=w2 at*
 clear hW2
 have hx0: ∀ d os,(Go.Sort.grow (redrawn w2 d) os).heap[w1.heap.size]? = some (.cells (hv T N).toArray 128 (0,0)):=fun d os=>((below_regrown w2 d os).block _ (blk_lt (uh HX))).trans (uh HX)
 have k1: ∀ d os,HasAt (Go.Sort.grow (redrawn w2 d) os) w1.heap.size 0 2:=fun d os=>blk_has (hx0 d os) (hv_length _ _)
 have k2: ∀ d os,cellsAt (Go.Sort.grow (redrawn w2 d) os) w1.heap.size 0 2=hv T N:=fun d os=>blk_cells (hx0 d os) (hv_length _ _)
 have k3: ∀ d os,(Go.Sort.grow (redrawn w2 d) os).cell? ⟨w1.heap.size,0,none⟩=some (.int .i64 (T:Nat)):=fun d os=>by rw [cell_blk (hx0 d os)];rfl
 have l1: ∀ d os,HasAt (Go.Sort.grow (redrawn w2 d) os) g 0 64:=fun d os=>(uh HL _ ((uh HB1).trans ((below_regrown w2 d os).mono (uh HB1).size))).1
 have l2: ∀ d os,cellsAt (Go.Sort.grow (redrawn w2 d) os) g 0 64=cv c:=fun d os=>(uh HL _ ((uh HB1).trans ((below_regrown w2 d os).mono (uh HB1).size))).2
 have Hn:=hide (fun d os=>headCluster_any (Go.Sort.grow (redrawn w2 d) os) T N hx4 hx6)
 have he: ∀ w,(eqClus (.agg (cv (headBytes T N)).toArray) (.agg (cv c).toArray)).run Tryz.prog w= .ok true w:=fun w=>by rw [run_eqClus hbl hlen0,decide_eq_true (uh Hq)]
 clear hx0
 generalize headBytes T N=hb at*
 refine wp_region_quiet_below (by kernel_rfl) (by kernel_rfl) ?_
 repeat (go_big_quiet_step (exact Calls.regrown_of (uh Hn _ _)))
 refine wpQuiet_nil ?_
 intro _ hw'
 obtain ⟨⟨dq,osq⟩,hw''⟩:=hw'
 subst hw''
 have HBq:=hide ((uh HB1).trans ((below_regrown w2 dq osq).mono (uh HB1).size))
 have k4:=k3 dq osq
 obtain ⟨t0,v0,g0⟩:=((uh HG).below (uh HBq)).err 0 (by omega)
 obtain ⟨t1,v1,g1⟩:=((uh HG).below (uh HBq)).err 1 (by omega)
 clear l1 l2 k1 k2 k3 Hn he
 go_wp2
 go_ret
 exact ⟨⟨_,⟨_,_,rfl⟩,rfl⟩,uh HBq⟩
theorem checkHead_long (w:World) (fv:Value) (file:List Clus) (hf:FRow w fv file) (hG:Glob w) (h6:6≤file.length) (hm:file.length≤1000000)
   (hsame:headBytes (num (cl file 0) 4) (num (cl file 0) 6)=cl file 0) (hlow:7≤num (cl file 0) 4) (hhi:num (cl file 0) 4≤256) (hle:num (cl file 0) 4<file.length):
   Calls Tryz.prog 90 #[fv] w fun e w'=>(∃ x,isIface x∧e= .returned (faultV 0 x))∧Below w.heap.size w w':=by
 have d6: ¬ ((file.length:Nat):Int)≤5:=by omega
 have hlen0:=cl_length hf.lens (k:=0) (by omega)
 have Hh:Hid (∀ W,_):=fun W=>headOf_any W (cl file 0) hlen0
 have hx4:=num_lt (cl file 0) 4
 have hx6:=num_lt (cl file 0) 6
 obtain ⟨g,cap,rfl,hcap⟩:=row_some hf.row (by omega)
 have l1:=row_has hf.row hf.lens 0 (by omega)
 have l2:=row_cells hf.row hf.lens 0 (by omega)
 simp only [Nat.zero_mul] at l1 l2
 have hli:(0:Int)<(file.length:Int):=by omega
 have HF:=hide hf
 have HL:=hide (fun W (hb:Below w.heap.size w W)=>(⟨row_has (hf.kept (S:=fun _=>False) (Kept.of_below hb) (fun _ _=>id)).row hf.lens 0 (by omega),row_cells (hf.kept (S:=fun _=>False) (Kept.of_below hb) (fun _ _=>id)).row hf.lens 0 (by omega)⟩:_∧_))
 simp only [Nat.zero_mul] at HL
 have HG:=hide hG
 clear hf hG
 generalize cl file 0=c at*
 generalize num c 4=T at*
 generalize num c 6=N at*
 have dl:decide (((T:Nat):Int)≤6)=false:=decide_eq_false (by omega)
 have dh:decide ((256:Int)<((T:Nat):Int))=false:=decide_eq_false (by omega)
 have dn:decide (((T:Nat):Int)<((file.length:Nat):Int))=true:=decide_eq_true (by omega)
 have Hq:=hide hsame
 clear hsame
 have hbl:(headBytes T N).length=64:=headBytes_length T N
 go_enter Tryz.func90,Tryz.ntmps90
 go_wp2_with fail
 refine (uh Hh _).mono ?_
 rintro e w1 ⟨rfl,hb1⟩
 have HB1:=hide (hb1.alloc hb1.size (.cells (hv T N).toArray 128))
 have HX:=hide (heap_alloc_new w1 (.cells (hv T N).toArray 128))
 clear hb1 l1 l2 Hh
 go_wp2_with fail
 generalize hW2:w1.alloc (.cells (hv T N).toArray 128)=w2 at*
 clear hW2
 have hx0: ∀ d os,(Go.Sort.grow (redrawn w2 d) os).heap[w1.heap.size]? = some (.cells (hv T N).toArray 128 (0,0)):=fun d os=>((below_regrown w2 d os).block _ (blk_lt (uh HX))).trans (uh HX)
 have k1: ∀ d os,HasAt (Go.Sort.grow (redrawn w2 d) os) w1.heap.size 0 2:=fun d os=>blk_has (hx0 d os) (hv_length _ _)
 have k2: ∀ d os,cellsAt (Go.Sort.grow (redrawn w2 d) os) w1.heap.size 0 2=hv T N:=fun d os=>blk_cells (hx0 d os) (hv_length _ _)
 have k3: ∀ d os,(Go.Sort.grow (redrawn w2 d) os).cell? ⟨w1.heap.size,0,none⟩=some (.int .i64 (T:Nat)):=fun d os=>by rw [cell_blk (hx0 d os)];rfl
 have l1: ∀ d os,HasAt (Go.Sort.grow (redrawn w2 d) os) g 0 64:=fun d os=>(uh HL _ ((uh HB1).trans ((below_regrown w2 d os).mono (uh HB1).size))).1
 have l2: ∀ d os,cellsAt (Go.Sort.grow (redrawn w2 d) os) g 0 64=cv c:=fun d os=>(uh HL _ ((uh HB1).trans ((below_regrown w2 d os).mono (uh HB1).size))).2
 have Hn:=hide (fun d os=>headCluster_any (Go.Sort.grow (redrawn w2 d) os) T N hx4 hx6)
 have he: ∀ w,(eqClus (.agg (cv (headBytes T N)).toArray) (.agg (cv c).toArray)).run Tryz.prog w= .ok true w:=fun w=>by rw [run_eqClus hbl hlen0,decide_eq_true (uh Hq)]
 clear hx0
 generalize headBytes T N=hb at*
 refine wp_region_quiet_below (by kernel_rfl) (by kernel_rfl) ?_
 repeat (go_big_quiet_step (exact Calls.regrown_of (uh Hn _ _)))
 refine wpQuiet_nil ?_
 intro _ hw'
 obtain ⟨⟨dq,osq⟩,hw''⟩:=hw'
 subst hw''
 have HBq:=hide ((uh HB1).trans ((below_regrown w2 dq osq).mono (uh HB1).size))
 have k4:=k3 dq osq
 obtain ⟨t0,v0,g0⟩:=((uh HG).below (uh HBq)).err 0 (by omega)
 obtain ⟨t1,v1,g1⟩:=((uh HG).below (uh HBq)).err 1 (by omega)
 clear l1 l2 k1 k2 k3 Hn he
 go_wp2
 go_ret
 exact ⟨⟨_,⟨_,_,rfl⟩,rfl⟩,uh HBq⟩
theorem checkHead_ok (w:World) (fv:Value) (file:List Clus) (hf:FRow w fv file) (hG:Glob w) (h6:6≤file.length) (hm:file.length≤1000000)
   (hsame:headBytes (num (cl file 0) 4) (num (cl file 0) 6)=cl file 0) (hlow:7≤num (cl file 0) 4) (hhi:num (cl file 0) 4≤256) (hle:file.length≤num (cl file 0) 4):
   Calls Tryz.prog 90 #[fv] w fun e w'=>e= .returned .nilIface∧Below w.heap.size w w':=by
 have d6: ¬ ((file.length:Nat):Int)≤5:=by omega
 have hlen0:=cl_length hf.lens (k:=0) (by omega)
 have Hh:Hid (∀ W,_):=fun W=>headOf_any W (cl file 0) hlen0
 have hx4:=num_lt (cl file 0) 4
 have hx6:=num_lt (cl file 0) 6
 obtain ⟨g,cap,rfl,hcap⟩:=row_some hf.row (by omega)
 have l1:=row_has hf.row hf.lens 0 (by omega)
 have l2:=row_cells hf.row hf.lens 0 (by omega)
 simp only [Nat.zero_mul] at l1 l2
 have hli:(0:Int)<(file.length:Int):=by omega
 have HF:=hide hf
 have HL:=hide (fun W (hb:Below w.heap.size w W)=>(⟨row_has (hf.kept (S:=fun _=>False) (Kept.of_below hb) (fun _ _=>id)).row hf.lens 0 (by omega),row_cells (hf.kept (S:=fun _=>False) (Kept.of_below hb) (fun _ _=>id)).row hf.lens 0 (by omega)⟩:_∧_))
 simp only [Nat.zero_mul] at HL
 have HG:=hide hG
 clear hf hG
 generalize cl file 0=c at*
 generalize num c 4=T at*
 generalize num c 6=N at*
 have dl:decide (((T:Nat):Int)≤6)=false:=decide_eq_false (by omega)
 have dh:decide ((256:Int)<((T:Nat):Int))=false:=decide_eq_false (by omega)
 have dn:decide (((T:Nat):Int)<((file.length:Nat):Int))=false:=decide_eq_false (by omega)
 have Hq:=hide hsame
 clear hsame
 have hbl:(headBytes T N).length=64:=headBytes_length T N
 go_enter Tryz.func90,Tryz.ntmps90
 go_wp2_with fail
 refine (uh Hh _).mono ?_
 rintro e w1 ⟨rfl,hb1⟩
 have HB1:=hide (hb1.alloc hb1.size (.cells (hv T N).toArray 128))
 have HX:=hide (heap_alloc_new w1 (.cells (hv T N).toArray 128))
 clear hb1 l1 l2 Hh
 go_wp2_with fail
 generalize hW2:w1.alloc (.cells (hv T N).toArray 128)=w2 at*
 clear hW2
 have hx0: ∀ d os,(Go.Sort.grow (redrawn w2 d) os).heap[w1.heap.size]? = some (.cells (hv T N).toArray 128 (0,0)):=fun d os=>((below_regrown w2 d os).block _ (blk_lt (uh HX))).trans (uh HX)
 have k1: ∀ d os,HasAt (Go.Sort.grow (redrawn w2 d) os) w1.heap.size 0 2:=fun d os=>blk_has (hx0 d os) (hv_length _ _)
 have k2: ∀ d os,cellsAt (Go.Sort.grow (redrawn w2 d) os) w1.heap.size 0 2=hv T N:=fun d os=>blk_cells (hx0 d os) (hv_length _ _)
 have k3: ∀ d os,(Go.Sort.grow (redrawn w2 d) os).cell? ⟨w1.heap.size,0,none⟩=some (.int .i64 (T:Nat)):=fun d os=>by rw [cell_blk (hx0 d os)];rfl
 have l1: ∀ d os,HasAt (Go.Sort.grow (redrawn w2 d) os) g 0 64:=fun d os=>(uh HL _ ((uh HB1).trans ((below_regrown w2 d os).mono (uh HB1).size))).1
 have l2: ∀ d os,cellsAt (Go.Sort.grow (redrawn w2 d) os) g 0 64=cv c:=fun d os=>(uh HL _ ((uh HB1).trans ((below_regrown w2 d os).mono (uh HB1).size))).2
 have Hn:=hide (fun d os=>headCluster_any (Go.Sort.grow (redrawn w2 d) os) T N hx4 hx6)
 have he: ∀ w,(eqClus (.agg (cv (headBytes T N)).toArray) (.agg (cv c).toArray)).run Tryz.prog w= .ok true w:=fun w=>by rw [run_eqClus hbl hlen0,decide_eq_true (uh Hq)]
 clear hx0
 generalize headBytes T N=hb at*
 refine wp_region_quiet_below (by kernel_rfl) (by kernel_rfl) ?_
 repeat (go_big_quiet_step (exact Calls.regrown_of (uh Hn _ _)))
 refine wpQuiet_nil ?_
 intro _ hw'
 obtain ⟨⟨dq,osq⟩,hw''⟩:=hw'
 subst hw''
 have HBq:=hide ((uh HB1).trans ((below_regrown w2 dq osq).mono (uh HB1).size))
 have k4:=k3 dq osq
 obtain ⟨t0,v0,g0⟩:=((uh HG).below (uh HBq)).err 0 (by omega)
 obtain ⟨t1,v1,g1⟩:=((uh HG).below (uh HBq)).err 1 (by omega)
 clear l1 l2 k1 k2 k3 Hn he
 go_wp2
 go_ret
 exact ⟨rfl,uh HBq⟩
theorem checkHead_bad (w:World) (fv:Value) (file:List Clus) (hf:FRow w fv file) (hG:Glob w) (hm:file.length≤1000000) (hbad: ¬ HeadP file):
   Calls Tryz.prog 90 #[fv] w fun e w'=>(∃ x,isIface x∧e= .returned (faultV 0 x))∧Below w.heap.size w w':=by
 by_cases h6:file.length≤5
 · exact checkHead_short w fv file hf hG h6
 · by_cases h1:headBytes (num (cl file 0) 4) (num (cl file 0) 6)=cl file 0
   · by_cases h2:num (cl file 0) 4≤6
     · exact checkHead_low w fv file hf hG (by omega) hm h1 h2
     · by_cases h3:256<num (cl file 0) 4
       · exact checkHead_high w fv file hf hG (by omega) hm h1 h3
       · by_cases h4:num (cl file 0) 4<file.length
         · exact checkHead_long w fv file hf hG (by omega) hm h1 (by omega) (by omega) h4
         · exact absurd ⟨by omega,h1,by omega,by omega,by omega⟩ hbad
   · exact checkHead_form w fv file hf hG (by omega) hm h1
theorem checkHead_good (w:World) (fv:Value) (file:List Clus) (hf:FRow w fv file) (hG:Glob w) (h:HeadP file):
   Calls Tryz.prog 90 #[fv] w fun e w'=>e= .returned .nilIface∧Below w.heap.size w w':=
 checkHead_ok w fv file hf hG h.six (by have:=h.le;have:=h.most;omega) h.same h.seven h.most h.le
theorem flatC_rep (n:Nat):flatC (List.replicate n zc)=List.replicate (n*64) (.int .u8 0):=by
 induction n with
 | zero=>simp [flatC]
 | succ n ih=>
   rw [List.replicate_succ,show flatC (zc :: List.replicate n zc)=cv zc++flatC (List.replicate n zc) from rfl,ih,show cv zc=List.replicate 64 (.int .u8 0) from rfl,List.replicate_append_replicate,Nat.add_mul,Nat.one_mul,Nat.add_comm]
theorem made_zc (n:Nat):madeCells (Value.cells (.agg (cv zc).toArray)) (n*64)=(flatC (List.replicate n zc)).toArray:=by
 rw [flatC_rep,show Value.cells (.agg (cv zc).toArray)=(List.replicate 64 (Value.int .u8 0)).toArray from rfl]
 apply Array.ext
 · simp [size_madeCells]
 · intro i h1 h2
   have h5:(List.replicate 64 (Value.int .u8 0)).toArray.size=64:=rfl
   have h6:i%64<64:=Nat.mod_lt _ (by decide)
   simp only [madeCells,Array.getElem_map,Array.getElem_range,h5]
   rw [getElem!_pos _ _ (by rw [h5];exact h6),List.getElem_toArray,List.getElem_toArray,List.getElem_replicate,List.getElem_replicate]
theorem row_at {w:World} {base g cap n:Nat} {e:TypeId} {size:Nat} {xs:List Value} (h:w.ownsRow base e size (.slice (some ⟨g,0,none⟩) n cap) n xs) (j:Nat) (v:Value) (hj:xs[j]? = some v):w.cell? ⟨g,j,none⟩=some v:=by
 rcases h.2 with ⟨hx,_⟩ | ⟨g',cap',cur,hx,_,hh,_,_,_,ht⟩
 · cases hx
 · injection hx with hx _ _
   injection hx with hx
   injection hx with hx
   subst hx
   rw [cell_blk hh]
   have hl:j<(cur.toList.take (n*size)).length:=by
     rw [ht]
     rcases Nat.lt_or_ge j xs.length with y | y
     · exact y
     · rw [List.getElem?_eq_none y] at hj;cases hj
   rw [← ht,List.getElem?_take_of_lt (by simp at hl;omega)] at hj
   rw [← hj]
   simp
theorem padTo_app {file:List Clus} {T:Nat} (h:file.length≤T):padTo file T=file++List.replicate (T - file.length) zc:=by
 apply List.ext_getElem?
 intro i
 unfold padTo
 rw [List.getElem?_map]
 by_cases hi:i<T
 · rw [List.getElem?_range hi]
   by_cases hf:i<file.length
   · rw [List.getElem?_append_left hf]
     simp only [Option.map_some,if_pos hf]
     unfold cl
     rw [List.getD_eq_getElem?_getD,List.getElem?_eq_getElem hf];rfl
   · rw [List.getElem?_append_right (by omega),List.getElem?_replicate,if_pos (by omega)]
     simp only [Option.map_some,if_neg hf]
 · rw [List.getElem?_eq_none (by simpa using hi),List.getElem?_eq_none (by simp;omega)];rfl
theorem flatC_app (a b:List Clus):flatC (a++b)=flatC a++flatC b:=by simp [flatC]
theorem of_any (w:World) (fv:Value) (file:List Clus) (hf:FRow w fv file) (T:Nat) (h0:0<file.length) (hle:file.length≤T) (hT:T≤256):
   Calls Tryz.prog 91 #[fv,.int .i64 (T:Nat)] w fun e w'=> ∃ g,w.heap.size≤g∧e= .returned (.agg (volCells (.slice (some ⟨g,0,none⟩) T T) (.slice none 0 0) ⟨padTo file T,[],false,decide (file.length<T)⟩).toArray)∧
     w'.ownsRow 0 38 64 (.slice (some ⟨g,0,none⟩) T T) T (flatC (padTo file T))∧Below w.heap.size w w':=by
 obtain ⟨i0,hi0,hz0,hz1,hz2⟩:=info_parts Tryz.infoClus
 obtain ⟨g,cap,rfl,hcap⟩:=row_some hf.row (by omega)
 have d0:decide (((file.length:Nat):Int)<((T:Nat):Int))=decide (file.length<T):=by simp
 have hmk:=fun W=>run_make (P:=Tryz.prog) W 28 38 i0 (.agg (cv zc).toArray) Tryz.underlying28 hi0 hz0 .i64 .i64 (T:Int) (T:Int) (by omega) (Int.le_refl _) (by rw [hz2];omega) (by omega)
 simp only [Int.toNat_natCast,hz1,made_zc] at hmk
 have L0:=Locs.three w (.cells #[.slice none 0 0,.slice none 0 0,.bool false,.bool false] 119) (.cells (flatC (List.replicate T zc)).toArray 38) (.cells #[.slice (some ⟨w.heap.size+1,0,none⟩) T T,.slice none 0 0,.bool false,.bool (decide (file.length<T))] 119)
 have hrow:=(hf.kept (S:=fun _=>False) (Kept.of_below L0.below) (fun _ _=>id)).row
 have hfl:=flatC_length file hf.lens
 have hzl:(flatC (List.replicate T zc)).length=T*64:=by rw [flatC_rep];simp
 have hone: ∀ v ∈ flatC file,v.oneCell'=true:=by
   intro v hv
   obtain ⟨c,_,hc⟩:=List.mem_flatMap.1 hv
   obtain ⟨x,_,rfl⟩:=List.mem_map.1 hc
   rfl
 have hmin:Nat.min file.length T=file.length:=Nat.min_eq_left hle
 have hcp:=run_copy_wide (P:=Tryz.prog) _ 28 28 3 38 64 (w.heap.size+1) 0 T T ⟨g,0,none⟩ file.length cap (flatC file) Tryz.underlying28 (by kernel_rfl) (by rw [hfl,hmin])
   (fun j v hj=>by have:=row_at hrow j v hj;cases j with | zero=>simpa [Addr.add] using this | succ j=>simpa [Addr.add] using this)
   (fun j hj=>by rw [Nat.zero_add,cell_blk L0.o1,List.getElem?_toArray,List.getElem?_eq_getElem (by rw [hzl];rw [hfl] at hj;exact Nat.lt_of_lt_of_le hj (Nat.mul_le_mul_right 64 hle))];rfl)
   (fun j _=>frozen_blk L0.o1 _) hone
 rw [hmin] at hcp
 have L1:=L0.setCells 1 rfl 0 (flatC file)
 have hcells:setList (flatC (List.replicate T zc)).toArray 0 (flatC file)=(flatC (padTo file T)).toArray:=by
   have e:List.replicate T zc=List.replicate file.length zc++List.replicate (T - file.length) zc:=by rw [List.replicate_append_replicate,Nat.add_sub_cancel' hle]
   rw [padTo_app hle,e,flatC_app,flatC_app]
   have:=setList_mid [] (flatC (List.replicate file.length zc)) (flatC file) (flatC (List.replicate (T - file.length) zc)) (by rw [hfl,flatC_rep];simp)
   simpa using this
 rw [hcells] at L1
 have hpl:(flatC (padTo file T)).length=T*64:=by rw [flatC_length _ (padTo_lens hf.lens T),padTo_length]
 have HL:=hide L1
 have k0:=(cell_blk L1.o2 0).trans rfl
 have k1:=(cell_blk L1.o2 1).trans rfl
 have k2:=(cell_blk L1.o2 2).trans rfl
 have k3:=(cell_blk L1.o2 3).trans rfl
 have r0:=(cell_blk L1.o0 0).trans rfl
 have r1:=(cell_blk L1.o0 1).trans rfl
 have r2:=(cell_blk L1.o0 2).trans rfl
 have r3:=(cell_blk L1.o0 3).trans rfl
 have rf:=fun i=>frozen_blk L1.o0 i
 simp only [List.getElem?_toArray,List.getElem?_cons_zero,List.getElem?_cons_succ] at k0 k1 k2 k3 r0 r1 r2 r3
 clear L0 hrow hone hcells hf L1
 go_enter Tryz.func91,Tryz.ntmps91
 go_wp2_with fail
 generalize hW:World.setCells _ (w.heap.size+1) 0 (flatC file)=W at*
 clear hW hcp hmk
 go_wp2
 have L2:=((((uh HL).setCell 0 rfl 0 (.slice (some ⟨w.heap.size+1,0,none⟩) T T)).setCell 0 rfl 1 (.slice none 0 0)).setCell 0 rfl 2 (.bool false)).setCell 0 rfl 3 (.bool (decide (file.length<T)))
 have b0:_=some (Obj.cells [Value.slice (some ⟨w.heap.size+1,0,none⟩) T T,.slice none 0 0,.bool false,.bool (decide (file.length<T))].toArray 119 (0,0)):=L2.o0
 have b1:_=some (Obj.cells (flatC (padTo file T)).toArray 38 (0,0)):=L2.o1
 refine bodyPost_ret (results_cell Tryz.results91 ⟨w.heap.size,0,none⟩ rfl ?_) rfl ⟨w.heap.size+1,by omega,rfl,⟨hpl,Or.inr ⟨w.heap.size+1,T,_,rfl,Nat.zero_le _,b1,Nat.le_refl _,Nat.le_trans hT (by decide),by simp [hpl],?_⟩⟩,L2.below⟩
 · exact (run_loadVar_has (blk_has b0 (n:=4) rfl) 119 _ Tryz.underlying119 rfl (by kernel_rfl)).trans (by rw [blk_cells b0 (n:=4) rfl];rfl)
 · rw [List.toList_toArray,List.take_of_length_le (by rw [hpl];exact Nat.le_refl _)]
end Go.Proofs.YtknjjjenklfeoaaGreatDoor
