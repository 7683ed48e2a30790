import Derived.Test.YtknjjjenklfeoaaGreatDoorT32
import Derived.Test.YtknjjjenklfeoaaGreatDoorT27
import Derived.Test.YtknjjjenklfeoaaGreatDoorT25
import Derived.Test.YtknjjjenklfeoaaGreatDoorT29
import Derived.Test.YtknjjjenklfeoaaGreatDoorT34
set_option maxHeartbeats 8000000
set_option maxRecDepth 100000
namespace Go.Proofs.YtknjjjenklfeoaaGreatDoor
open Go.RowKit
attribute [local go_sem ↓] loadVar_clus storeVar_clus zeroValue_clus loadVar_op equalIn_clus
attribute [local go_sem] run_loadClus run_storeClus run_zeroClus run_storeClus_new run_loadClus_new zc_length run_loadOp HasAt_drew cellsAt_drew
theorem names_told {base:List Clus} {V:VolR} {N0:Nat} {E:List EntR} (h:Vol base V N0 E):namesTo (entsOf (cl V.C 5)) (lenOf (entsOf (cl V.C 5)))=E.map (·.name):=by
 rw [h.ents.2,h.ents.1]
 unfold namesTo pad4
 rw [List.take_left']
 rfl
theorem names_held {V:VolR} {N0:Nat} {E:List EntR}:picNames (dskOf V.C N0 E).L (dskOf V.C N0 E).L.length=E.map (·.name):=by
 unfold picNames
 rw [List.take_length,dskOf_L,List.map_map]
 rfl
end Go.Proofs.YtknjjjenklfeoaaGreatDoor
namespace Go.Proofs.YtknjjjenklfeoaaGreatDoor
theorem Puts.long {V V':VolR} (k:Puts V V') (h:V.short=false):V'.short=false:=
 k.keeps (fun V=>V.short=false) (fun V n d h=>by
   unfold putV
   split
   · exact h
   · rfl) (fun V h=>by rw [flushV_short];exact h) h
theorem puts_copyR (V:VolR) (f:Nat):Puts V (copyR V f).1:=by
 have h:=puts_copy V f ((lowFree (cntsOf V.C) 1).getD 0 0)
 have h0:=Puts.refl V
 unfold copyR
 generalize copyV V f ((lowFree (cntsOf V.C) 1).getD 0 0)=A at*
 split
 · exact h
 · exact h0
theorem puts_take (V:VolR) (s:ByteArray):Puts V (takeR V s).1:=by
 have h:=puts_copyR V (num (cl V.C 0) 6)
 have h0:=Puts.refl V
 unfold takeR
 generalize copyR V (num (cl V.C 0) 6)=A at*
 have h1:=fun c=>(h.put 5 c).flush
 generalize listTo ((entsOf (cl V.C 5)).set (lenOf (entsOf (cl V.C 5))) ⟨s.data.toList,A.2.1⟩) 4=ls
 have h1:=h1 ls
 generalize flushV (putV A.1 5 ls)=B at*
 split
 · exact h0
 · split
   · exact h0
   · split
     · exact h0
     · split
       · exact h1
       · exact h
section
variable {V:VolR} {N0:Nat} {E:List EntR} {K:Nat} {data:Clus} {base:List Clus}
structure Held (V:VolR) (N0:Nat) (E:List EntR) (K:Nat) (base:List Clus:=[]):Prop where
 vol:Vol base V N0 E
 exact:ExactS V.C (rsOf N0 E)
 cnt: ∀ m,m<256→countOf V.C m≤K
 long:base=[]→V.short=false
theorem Held.write (h:Held V N0 E K base) (hK:1≤K) (n:Nat) (hn:n<64) (hd:data.length=64):
   Held (writeV V n data).1 N0 E K base∧((writeV V n data).2=0∧dskOf (writeV V n data).1.C N0 E=setD (dskOf V.C N0 E) n data∨(writeV V n data).2=5∧(writeV V n data).1=V):=by
 obtain ⟨a,c,hc⟩:=h.vol.writeCnt (data:=data) (n:Int) hd
 have hcnt: ∀ m,m<256→countOf (writeV V n data).1.C m≤K:=fun m hm=>by
   have h1:=hc m hm
   have h2:=h.cnt m hm
   split at h1 <;> omega
 have hb:blockB (n:Int)=true:=by unfold blockB;simp;omega
 rcases h.vol.write (data:=data) (n:Int) hd with ⟨h1,_⟩ | ⟨_,h2,hw⟩ | ⟨_,h2,_⟩
 · rw [hb] at h1;cases h1
 · rw [Int.toNat_natCast] at hw
   exact ⟨⟨hw.vol,hw.exact h.exact,hcnt,fun hb=>(puts_write V n data).long (h.long hb)⟩,Or.inl ⟨h2,hw.holds⟩⟩
 · rw [h2]
   exact ⟨h,Or.inr ⟨rfl,rfl⟩⟩
theorem Held.few (h:Held V N0 E K base) (u:Nat):useOf V.C (rsOf N0 E) u≤K∨256≤u:=by
 by_cases hu:u<256
 · have h1:=h.exact.eq u hu
   have h2:=h.cnt u hu
   left;omega
 · right;omega
theorem Held.uses (h:Held V N0 E K base) (hK:K≤188) (u:Nat):useOf V.C (rsOf N0 E) u≤188:=by
 rcases h.few u with x | x
 · omega
 · by_cases hz:useOf V.C (rsOf N0 E) u=0
   · omega
   · exfalso
     rw [← h.vol.heldSum] at hz
     have hm:u ∈ (firstsOf V).flatMap (heldAll V.C):=List.count_pos_iff.1 (by omega)
     obtain ⟨f,hf,hu⟩:=List.mem_flatMap.1 hm
     rw [h.vol.firsts] at hf
     obtain ⟨r,hr,rfl⟩:=List.mem_map.1 hf
     have:=(h.vol.sound.held_lt hr u hu).2
     have:=h.vol.sound.len
     omega
theorem Held.take (h:Held V N0 E K base) (hK:K≤188) (h1:1≤K) (hE:E.length≤2) (s:ByteArray) (hs:(refTakeR (dskOf V.C N0 E) s).2=0):
   (takeR V s).2=0∧(takeR V s).1.L.length≤V.L.length+100∧V.L.length≤(takeR V s).1.L.length∧ ∃ E',Held (takeR V s).1 N0 E' (2*K) base∧dskOf (takeR V s).1.C N0 E'=(refTakeR (dskOf V.C N0 E) s).1∧E'.length≤E.length+1:=by
 have hr:=h.vol.hasRoom h.exact hE (h.uses hK) h.vol.roots0
 rcases h.vol.takeCases s with ⟨c,hc,_,e⟩ | ⟨_,hno,_⟩ | ⟨_,_,h0,l1,l2,E',hcm⟩
 · rw [e] at hs;exact absurd hs hc
 · rw [hr] at hno;cases hno
 · obtain ⟨n,hn,hz,hcn⟩:=h.vol.takeCnt s h0
   refine ⟨h0,l1,l2,E',⟨hcm.vol,hcm.exact h.exact,fun m hm=> ?_,fun hb=>(puts_take V s).long (h.long hb)⟩,hcm.holds,?_⟩
   · rw [hcn m hm]
     have a1:=h.cnt m hm
     have a2:=h.vol.told_le m hm
     split <;> omega
   · have e1:=congrArg (fun d=>d.L.length) hcm.holds
     simp only [dsk_len] at e1
     rw [e1]
     unfold refTakeR
     repeat' split
     all_goals simp [dsk_len]
theorem Held.returns (h:Held V N0 E K base) (hK:K≤188) (hE:E.length≤2) (s:ByteArray) (hs:(refReturnR (dskOf V.C N0 E) s).2=0):
   (returnR V s).2=0∧(returnR V s).1.L.length≤V.L.length+100∧V.L.length≤(returnR V s).1.L.length∧ ∃ N1,Vol base (returnR V s).1 N1 E∧ExactS (returnR V s).1.C (rsOf N1 E)∧dskOf (returnR V s).1.C N1 E=(refReturnR (dskOf V.C N0 E) s).1:=by
 rcases h.vol.returnCases s with ⟨c,hc,_,e⟩ | ⟨_,i,hi,_,⟨hno,_⟩ | ⟨_,h0,l1,l2,N1,hcm⟩⟩
 · rw [e] at hs;exact absurd hs hc
 · rw [h.vol.hasRoom h.exact hE (h.uses hK) (h.vol.rootsE hi)] at hno;cases hno
 · exact ⟨h0,l1,l2,N1,hcm.vol,hcm.exact h.exact,hcm.holds⟩
end
section
variable {V V':VolR} {N0 N1:Nat} {E E':List EntR} {data:Clus} {base base':List Clus}
def cntB (V:VolR) (n:Nat):Bool:=decide (0<countOf V.C n)
theorem cntTo_two {p q:Nat→Bool} (a c:Nat): ∀ k,(∀ m,m<k→q m=true→p m=true∨m=a∨m=c)→cntTo q k≤cntTo p k+((if a<k then 1 else 0)+(if c<k then 1 else 0))
 | 0,_=>Nat.zero_le _
 | k+1,h=>by
   have ih:=cntTo_two a c k (fun m hm hq=>h m (by omega) hq)
   have hk:=h k (by omega)
   rw [cntTo,cntTo]
   have e1:(if a<k then 1 else 0)≤(if a<k+1 then 1 else 0):=by split <;> split <;> omega
   have e2:(if c<k then 1 else 0)≤(if c<k+1 then 1 else 0):=by split <;> split <;> omega
   cases hq:q k with
   | false=>rw [if_neg (by decide)];omega
   | true=>
     rw [if_pos rfl]
     rcases hk hq with x | x | x
     · rw [x,if_pos rfl];omega
     · subst x
       rw [if_neg (Nat.lt_irrefl _)] at ih
       rw [if_pos (show k<k+1 by omega)]
       omega
     · subst x
       rw [if_neg (Nat.lt_irrefl _)] at ih
       rw [if_pos (show k<k+1 by omega)]
       omega
theorem Held.writeUsed {K:Nat} (h:Held V N0 E K base) (n:Nat) (hd:data.length=64):cntTo (cntB (writeV V n data).1) 256≤cntTo (cntB V) 256+2:=by
 obtain ⟨a,c,hc⟩:=h.vol.writeCnt (data:=data) (n:Int) hd
 have:=cntTo_two (p:=cntB V) (q:=cntB (writeV V n data).1) a c 256 (fun m hm hq=>by
   have h1:=hc m hm
   unfold cntB at hq ⊢
   have h2:=of_decide_eq_true hq
   by_cases e:m=a∨m=c
   · exact Or.inr e
   · rw [if_neg e] at h1
     exact Or.inl (decide_eq_true (by omega)))
 have e1:(if a<256 then 1 else 0)≤1:=by split <;> omega
 have e2:(if c<256 then 1 else 0)≤1:=by split <;> omega
 omega
end
end Go.Proofs.YtknjjjenklfeoaaGreatDoor
namespace Go.Proofs.YtknjjjenklfeoaaGreatDoor
open Go.RowKit
attribute [local go_sem ↓] loadVar_clus storeVar_clus zeroValue_clus equalIn_clus
attribute [local go_sem] run_loadClus run_storeClus run_zeroClus run_storeClus_new run_loadClus_new zc_length HasAt_drew cellsAt_drew
structure ContAt (w:World) (b:Nat) (C:List Clus):Prop where
 blk:w.heap[b]? = some (.cells (flatC C).toArray 40 (0,0))
 cont:Cont C
theorem ContAt.range {w:World} {b:Nat} {C:List Clus} (h:ContAt w b C) (k:Nat) (hk:k<64):w.rangeAt b (k*64) (cv (cl C k)):=fun j v hv=>by
 have hl:=cl_length h.cont.all (k:=k) (by have:=h.cont.len;omega)
 have hj:=(List.getElem?_eq_some_iff.1 hv).1
 rw [cv_length,hl] at hj
 rw [cell_blk h.blk,List.getElem?_toArray,flatC_range C h.cont.all k (by have:=h.cont.len;omega) j hj]
 exact hv
theorem ContAt.below {w w':World} {b:Nat} {C:List Clus} (h:ContAt w b C) (hb:Below w.heap.size w w'):ContAt w' b C:=⟨(hb.block _ (blk_lt h.blk)).trans h.blk,h.cont⟩
theorem ContAt.kept {w w':World} {S:Nat→Prop} {b:Nat} {C:List Clus} (h:ContAt w b C) (hk:Kept S w w') (hn: ¬ S b):ContAt w' b C:=⟨hk.blk hn h.blk,h.cont⟩
theorem holds_any (w:World) (d v bc:Nat) (Cv Lv:Value) (base:List Clus) (V:VolR) (N0:Nat) (E:List EntR) (h:DskAt w d v Cv Lv V) (hv:Vol base V N0 E) (hc:ContAt w bc (contentOf V.C N0)):
   Calls Tryz.prog 19 #[.pointer (some ⟨d,0,none⟩),.pointer (some ⟨bc,0,none⟩)] w fun e w'=>e= .returned (.bool true)∧Below w.heap.size w w':=by
 have h7:=hv.file.seven
 have hr0:(⟨N0,0,[]⟩:RootR) ∈ rsOf N0 E:=by simp [rsOf]
 have hin:InFile V.C (num (cl V.C 0) 6):=by rw [hv.file.num6];exact hv.sound.inFile hr0
 have HR:=hide (fun (W:World) (hB:Below w.heap.size w W) (n:Int)=>diskRead_any W d v Cv Lv V (h.below hB) n (by omega) hin)
 have hcl: ∀ k:Nat,k<64→blkRead V.C (num (cl V.C 0) 6) (k:Int)=(cl (contentOf V.C N0) k,0):=fun k hk=>by
   have hb:blockB (k:Int)=true:=by unfold blockB;simp;omega
   rw [← read_same hv]
   unfold readR
   rw [if_pos hb,Int.toNat_natCast,dskOf_C]
 have Hcl:=hide hcl
 have HC:=hide hc
 clear h hc hcl
 generalize contentOf V.C N0=CC at*
 go_enter Tryz.func19,Tryz.ntmps19
 go_wp2
 go_loopw [5] (fun i w'=> ∃ k:Nat,k≤64∧i= .int .i64 k∧Below w.heap.size w w') (fun i _=>64 - (intOf i).toNat)
 case atStart=>exact ⟨0,by omega,rfl,Below.refl _ _⟩
 case round=>
   obtain ⟨k,hk,rfl,hb⟩:=hrel
   by_cases hlt:k<64
   · have hki:(k:Int)<64:=by omega
     have hr:=uh HR wr hb (k:Int)
     rw [uh Hcl k hlt] at hr
     have Hr:=hide hr
     have hxl:=cl_length (uh HC).cont.all (k:=k) (by have:=(uh HC).cont.len;omega)
     have Hb:=hide hb
     clear hr hb
     go_wp2_with fail
     refine (uh Hr).mono ?_
     rintro e w1 ⟨rfl,b1⟩
     have B2:=((uh Hb).trans (b1.mono (uh Hb).size)).alloc (Nat.le_trans (uh Hb).size b1.size) (.cells (cv (cl CC k)).toArray 38)
     have rg:=((uh HC).below B2).range k hlt
     have l1:=hasAt_of_range (n:=64) rg (by rw [cv_length,hxl])
     have l2:=cellsAt_of_range (n:=64) rg (by rw [cv_length,hxl])
     have l3:=box_has (heap_alloc_new w1 (.cells (cv (cl CC k)).toArray 38)) hxl
     have l4:=box_cells (heap_alloc_new w1 (.cells (cv (cl CC k)).toArray 38)) hxl
     have he: ∀ w,(eqClus (.agg (cv (cl CC k)).toArray) (.agg (cv (cl CC k)).toArray)).run Tryz.prog w= .ok true w:=fun w=>by rw [run_eqClus hxl hxl,decide_eq_true rfl]
     have B2:=hide B2
     clear rg b1 Hr
     generalize cl CC k=x at*
     generalize hW2:w1.alloc (.cells (cv x).toArray 38)=W2 at*
     go_wp2
     clear hW2
     have m1: ∀ n,HasAt (W2.drewN n) bc (k*64) 64:=fun _=>l1
     have m2: ∀ n,cellsAt (W2.drewN n) bc (k*64) 64=cv x:=fun _=>l2
     have m3: ∀ n,HasAt (W2.drewN n) w1.heap.size 0 64:=fun _=>l3
     have m4: ∀ n,cellsAt (W2.drewN n) w1.heap.size 0 64=cv x:=fun _=>l4
     go_quiet (fail)
     go_wp2
     go_roundw
     case rel=>exact ⟨k+1,by omega,by go_num,(uh B2).trans ((((Kept.refl (fun _=>False) W2).drewN nq).below).mono (uh B2).size)⟩
     case measure=>simp [intOf];omega
   · have hki: ¬ (k:Int)<64:=by omega
     have Hb:=hide hb
     clear hb
     go_wp2
     go_ret
     exact ⟨rfl,uh Hb⟩
theorem holdsOf_any (w:World) (d v bc:Nat) (Cv Lv:Value) (base:List Clus) (V:VolR) (N0:Nat) (E:List EntR) (h:DskAt w d v Cv Lv V) (hv:Vol base V N0 E) (s:ByteArray) (hs:s.size≤maxLen) (CC:List Clus) (hc:ContAt w bc CC) (hcl: ∀ k:Nat,k<64→readOfR V s k=(cl CC k,0)):
   Calls Tryz.prog 20 #[.pointer (some ⟨d,0,none⟩),.string s,.pointer (some ⟨bc,0,none⟩)] w fun e w'=>e= .returned (.bool true)∧Below w.heap.size w w':=by
 have h7:=hv.file.seven
 have hin:=hv.inEnts
 have HR:=hide (fun (W:World) (hB:Below w.heap.size w W) (n:Int)=>diskReadOf_any W d v Cv Lv V (h.below hB) (by omega) s hs n hin)
 have Hcl:=hide hcl
 have HC:=hide hc
 clear h hc hcl
 go_enter Tryz.func20,Tryz.ntmps20
 go_wp2
 go_loopw [7] (fun i w'=> ∃ k:Nat,k≤64∧i= .int .i64 k∧Below w.heap.size w w') (fun i _=>64 - (intOf i).toNat)
 case atStart=>exact ⟨0,by omega,rfl,Below.refl _ _⟩
 case round=>
   obtain ⟨k,hk,rfl,hb⟩:=hrel
   by_cases hlt:k<64
   · have hki:(k:Int)<64:=by omega
     have hr:=uh HR wr hb (k:Int)
     rw [uh Hcl k hlt] at hr
     have Hr:=hide hr
     have hxl:=cl_length (uh HC).cont.all (k:=k) (by have:=(uh HC).cont.len;omega)
     have Hb:=hide hb
     clear hr hb
     go_wp2_with fail
     refine (uh Hr).mono ?_
     rintro e w1 ⟨rfl,b1⟩
     have B2:=((uh Hb).trans (b1.mono (uh Hb).size)).alloc (Nat.le_trans (uh Hb).size b1.size) (.cells (cv (cl CC k)).toArray 38)
     have rg:=((uh HC).below B2).range k hlt
     have l1:=hasAt_of_range (n:=64) rg (by rw [cv_length,hxl])
     have l2:=cellsAt_of_range (n:=64) rg (by rw [cv_length,hxl])
     have l3:=box_has (heap_alloc_new w1 (.cells (cv (cl CC k)).toArray 38)) hxl
     have l4:=box_cells (heap_alloc_new w1 (.cells (cv (cl CC k)).toArray 38)) hxl
     have he: ∀ w,(eqClus (.agg (cv (cl CC k)).toArray) (.agg (cv (cl CC k)).toArray)).run Tryz.prog w= .ok true w:=fun w=>by rw [run_eqClus hxl hxl,decide_eq_true rfl]
     have B2:=hide B2
     clear rg b1 Hr
     generalize cl CC k=x at*
     generalize hW2:w1.alloc (.cells (cv x).toArray 38)=W2 at*
     go_wp2
     clear hW2
     have m1: ∀ n,HasAt (W2.drewN n) bc (k*64) 64:=fun _=>l1
     have m2: ∀ n,cellsAt (W2.drewN n) bc (k*64) 64=cv x:=fun _=>l2
     have m3: ∀ n,HasAt (W2.drewN n) w1.heap.size 0 64:=fun _=>l3
     have m4: ∀ n,cellsAt (W2.drewN n) w1.heap.size 0 64=cv x:=fun _=>l4
     go_quiet (fail)
     go_wp2
     go_roundw
     case rel=>exact ⟨k+1,by omega,by go_num,(uh B2).trans ((((Kept.refl (fun _=>False) W2).drewN nq).below).mono (uh B2).size)⟩
     case measure=>simp [intOf];omega
   · have hki: ¬ (k:Int)<64:=by omega
     have Hb:=hide hb
     clear hb
     go_wp2
     go_ret
     exact ⟨rfl,uh Hb⟩
structure StepR where
 block:Int
 text:ByteArray
def stepCells (s:StepR):List Value:=[.int .i64 s.block,.string s.text]
structure KRow (w:World) (a:Option Addr) (n:Nat) (st:Nat→StepR):Prop where
 some:0<n→ ∃ g o,a=some ⟨g,o,none⟩∧g<w.heap.size∧ ∀ i,i<n→w.rangeAt g (o+i*2) (stepCells (st i))
 fits: ∀ i,i<n→(st i).text.size≤maxLen∧ -9223372036854775808≤(st i).block∧(st i).block≤9223372036854775807
theorem VolAt.footKey {w:World} {v:Nat} {Cv Lv:Value} {V:VolR} (h:VolAt w v Cv Lv V) {k:Nat} {cs:Array Value} {t:TypeId} {fr:Nat × Nat} (hb:w.heap[k]? = some (.cells cs t fr)) (h1:t≠121) (h2:t≠38) (h3:t≠104): ¬ foot v Cv Lv k:=by
 have ty: ∀ {cs':Array Value} {t':TypeId} {fr':Nat × Nat},w.heap[k]? = some (.cells cs' t' fr')→t=t':=fun hb'=>by
   rw [hb] at hb'
   injection hb' with e
   injection e
 rintro (e | e | e)
 · exact h1 (ty (by rw [e];exact h.blk))
 · obtain ⟨cs',fr',hb'⟩:=row_blk h.rowC e
   exact h2 (ty hb')
 · obtain ⟨cs',fr',hb'⟩:=row_blk h.rowL e
   exact h3 (ty hb')
structure KAt (W0 W:World) (d v bc:Nat) (Cv Lv:Value) (V:VolR) (C:List Clus):Prop where
 dsk:DskAt W d v Cv Lv V
 cont:ContAt W bc C
 below:Below W0.heap.size W0 W
 lo: ∀ k,dfoot d v Cv Lv k→W0.heap.size≤k
 bcl:W0.heap.size≤bc
theorem KAt.nofoot {W0 W:World} {d v bc:Nat} {Cv Lv:Value} {V:VolR} {C:List Clus} (h:KAt W0 W d v bc Cv Lv V C): ¬ foot v Cv Lv bc:=h.dsk.vol.footKey h.cont.blk (by decide) (by decide) (by decide)
theorem KAt.later {W0 W W':World} {d v bc:Nat} {Cv Lv:Value} {V:VolR} {C:List Clus} (h:KAt W0 W d v bc Cv Lv V C) (hb:Below W.heap.size W W'):KAt W0 W' d v bc Cv Lv V C:=
 ⟨h.dsk.below hb,h.cont.below hb,h.below.trans (hb.mono h.below.size),h.lo,h.bcl⟩
theorem KAt.step {W0 W W':World} {d v bc:Nat} {Cv Lv C1 L1:Value} {V V':VolR} {C:List Clus} (h:KAt W0 W d v bc Cv Lv V C) (hs:VStep W W' v Cv Lv C1 L1 V'):KAt W0 W' d v bc C1 L1 V' C:=by
 refine ⟨h.dsk.step hs,h.cont.kept hs.kept h.nofoot,?_,?_,h.bcl⟩
 · exact ⟨hs.kept.os.trans h.below.os,hs.kept.tape.trans h.below.tape,hs.kept.output.trans h.below.output,Nat.le_trans h.below.size hs.kept.size,fun i hi=>by
     rw [hs.kept.block i (Nat.lt_of_lt_of_le hi h.below.size) (fun x=>by have:=h.lo i (Or.inr x);omega)];exact h.below.block i hi⟩
 · rintro k (e | e)
   · exact h.lo k (Or.inl e)
   · rcases hs.new k e with x | x
     · exact h.lo k (Or.inr x)
     · have:=h.below.size;omega
theorem KAt.put {W0 W:World} {d v bc:Nat} {Cv Lv:Value} {V:VolR} {C:List Clus} (h:KAt W0 W d v bc Cv Lv V C) (n:Nat) (hn:n<64) (x:Clus) (hx:x.length=64):KAt W0 (W.setCells bc (n*64) (cv x)) d v bc Cv Lv V (C.set n x):=by
 have hk:=Kept.onlys W bc (n*64) (cv x)
 have hne: ∀ k,dfoot d v Cv Lv k→ ¬ k=bc:=by
   rintro k (e | e) e2
   · subst e2
     have h1:=h.dsk.blk
     rw [← e,h.cont.blk] at h1
     injection h1 with h1
     injection h1 with _ h2
     exact absurd h2 (by decide)
   · exact h.nofoot (by rw [← e2];exact e)
 refine ⟨h.dsk.kept hk hne,⟨?_,⟨?_,by rw [List.length_set];exact h.cont.cont.len⟩⟩,?_,h.lo,h.bcl⟩
 · rw [heap_setCells_same _ _ _ _ _ _ _ h.cont.blk,setList_flatC C h.cont.cont.all n (by have:=h.cont.cont.len;omega) x hx]
 · intro y hy
   rcases List.mem_or_eq_of_mem_set hy with z | z
   · exact h.cont.cont.all y z
   · rw [z];exact hx
 · exact ⟨hk.os.trans h.below.os,hk.tape.trans h.below.tape,hk.output.trans h.below.output,Nat.le_trans h.below.size hk.size,fun i hi=>by
     rw [hk.block i (Nat.lt_of_lt_of_le hi h.below.size) (by have:=h.bcl;omega)];exact h.below.block i hi⟩
def BoxT (bx:Nat) (c:Clus) (w':World):Prop:=HasAt w' bx 0 64∧cellsAt w' bx 0 64=cv c
structure Wr (W0 w W:World) (d v bc:Nat) (Cv Lv C1 L1:Value) (V V':VolR) (N0:Nat) (E:List EntR) (K k:Nat) (base:List Clus:=[]):Prop where
 at':KAt W0 W d v bc C1 L1 V' (dskOf V'.C N0 E).C
 held:Held V' N0 E K base
 pics:(dskOf V'.C N0 E).L=(dskOf V.C N0 E).L
 log:V'.L.length≤V.L.length+60*k
 kept:Kept (fun x=>foot v Cv Lv x∨x=bc) w W
 new: ∀ x,foot v C1 L1 x→foot v Cv Lv x∨w.heap.size≤x
 used:cntTo (cntB V') 256≤cntTo (cntB V) 256+2*k
theorem Wr.lay {W0 w W W3:World} {d v bc:Nat} {Cv Lv C1 L1:Value} {V V':VolR} {N0:Nat} {E:List EntR} {K k:Nat} {base:List Clus} (h:Wr W0 w W d v bc Cv Lv C1 L1 V V' N0 E K k base) (hb:Below W.heap.size W W3):Wr W0 w W3 d v bc Cv Lv C1 L1 V V' N0 E K k base:=
 ⟨h.at'.later hb,h.held,h.pics,h.log,h.kept.trans (Kept.of_below hb),h.new,h.used⟩
theorem Wr.did {W0 w W W4:World} {d v bc:Nat} {Cv Lv C1 L1 C2 L2:Value} {V V':VolR} {N0:Nat} {E:List EntR} {K k N:Nat} {base:List Clus} {data:Clus} (hK:1≤K) (h:Wr W0 w W d v bc Cv Lv C1 L1 V V' N0 E K k base) (hN:N<64) (hd:data.length=64) (hs:VStep W W4 v C1 L1 C2 L2 (writeV V' N data).1):
   ((writeV V' N data).2=0∧Wr W0 w (W4.setCells bc (N*64) (cv data)) d v bc Cv Lv C2 L2 V (writeV V' N data).1 N0 E K (k+1) base)∨((writeV V' N data).2=5∧Wr W0 w W4 d v bc Cv Lv C2 L2 V (writeV V' N data).1 N0 E K (k+1) base):=by
 obtain ⟨hh,hor⟩:=h.held.write hK N hN hd
 have hl:=h.held.vol.write_lenL (N:Int) hd
 have hu:=h.held.writeUsed N hd
 have hu0:=h.used
 have h4:=h.at'.step hs
 have hlog:=h.log
 have kept4:Kept (fun x=>foot v Cv Lv x∨x=bc) w W4:=by
   refine ⟨hs.kept.os.trans h.kept.os,hs.kept.tape.trans h.kept.tape,hs.kept.output.trans h.kept.output,Nat.le_trans h.kept.size hs.kept.size,fun x hx hn=> ?_⟩
   rw [hs.kept.block x (Nat.lt_of_lt_of_le hx h.kept.size) (fun hf=>by
     rcases h.new x hf with y | y
     · exact hn (Or.inl y)
     · omega)]
   exact h.kept.block x hx hn
 have new4: ∀ x,foot v C2 L2 x→foot v Cv Lv x∨w.heap.size≤x:=fun x hx=>by
   rcases hs.new x hx with y | y
   · exact h.new x y
   · have:=h.kept.size;exact Or.inr (by omega)
 rcases hor with ⟨h0,e⟩ | ⟨h5,e⟩
 · left
   refine ⟨h0,?_,hh,?_,by omega,kept4.trans ((Kept.onlys W4 bc (N*64) (cv data)).mono fun x e=>Or.inr e),new4,by omega⟩
   · rw [e];exact h4.put N hN data hd
   · rw [e];exact h.pics
 · right
   rw [e] at h4 hh ⊢
   exact ⟨h5,h4,hh,h.pics,by omega,kept4,new4,by omega⟩
set_option linter.unusedSimpArgs false in
theorem written_any {base:List Clus} (W0 w:World) (d v bc:Nat) (Cv Lv:Value) (V:VolR) (N0:Nat) (E:List EntR) (K:Nat) (hK:1≤K) (h:KAt W0 w d v bc Cv Lv V (dskOf V.C N0 E).C) (hh:Held V N0 E K base)
   (a:Option Addr) (n cap:Nat) (st:Nat→StepR) (hs:KRow W0 a n st) (hn:n≤1048576) (hL:V.L.length≤200000000):
   Calls Tryz.prog 16 #[.pointer (some ⟨d,0,none⟩),.pointer (some ⟨bc,0,none⟩),.slice a n cap] w fun e w'=>e= .returned (.bool true)∧ ∃ C1 L1 V',Wr W0 w w' d v bc Cv Lv C1 L1 V V' N0 E K n base:=by
 have W1:Wr W0 w w d v bc Cv Lv Cv Lv V V N0 E K 0 base:=⟨h,hh,rfl,Nat.le_add_right _ _,Kept.refl _ _,fun _ hx=>Or.inl hx,by omega⟩
 have W1:=hide W1
 have HS:=hide hs
 clear h hh hs
 have hni:(n:Int)≤1048576:=by omega
 go_enter Tryz.func16,Tryz.ntmps16
 go_wp2
 go_loopw [7] (fun i w'=> ∃ k:Nat,k≤n∧i= .int .i64 k∧ ∃ C1 L1 V',Wr W0 w w' d v bc Cv Lv C1 L1 V V' N0 E K k base) (fun i _=>n - (intOf i).toNat)
 case atStart=>exact ⟨0,by omega,rfl,_,_,_,uh W1⟩
 case round=>
   obtain ⟨k,hk,rfl,C1,L1,V1,hw⟩:=hrel
   clear W1
   by_cases hlt:k<n
   · have hki:(k:Int)<(n:Int):=by omega
     obtain ⟨g,o,rfl,hg,hrg⟩:=(uh HS).some (by omega)
     obtain ⟨f1,f2⟩:=(uh HS).fits k hlt
     have rg: ∀ W,Below W0.heap.size W0 W→W.cell? ⟨g,o+k*2,none⟩=some (.int .i64 (st k).block)∧W.cell? ⟨g,o+k*2+1,none⟩=some (.string (st k).text):=fun W hB=>by
       have h1:=hrg k hlt 0 _ rfl
       have h2:=hrg k hlt 1 _ rfl
       exact ⟨(World.cell?_of_block (hB.block _ hg)).trans h1,(World.cell?_of_block (hB.block _ hg)).trans h2⟩
     obtain ⟨r1,r2⟩:=rg wr hw.at'.below
     have Hrg:=hide rg
     have HW:=hide hw
     clear hw rg hrg
     go_wp2_with fail
     refine (keepPick_any (st k).block wr f2).mono ?_
     rintro e w1 ⟨rfl,rfl⟩
     have hp:=pickN_lt (st k).block
     generalize pickN (st k).block=N at*
     generalize (st k).block=bl at*
     generalize (st k).text=tx at*
     clear f2
     go_wp2_with fail
     refine (keepCluster_any tx w1 f1).mono ?_
     rintro e w2 ⟨rfl,b2⟩
     have hdl:(clusOf tx.data.toList).length=64:=clusTo_length _ _ (Nat.min_le_left _ _) (Nat.min_le_right _ _)
     generalize clusOf tx.data.toList=data at*
     have B3:=hide (b2.alloc b2.size (.cells (cv data).toArray 38))
     have X3:=hide (heap_alloc_new w2 (.cells (cv data).toArray 38))
     have hsz2:=b2.size
     clear b2 r1 r2 f1
     go_wp2_with fail
     generalize hW3:w2.alloc (.cells (cv data).toArray 38)=w3 at*
     clear hW3
     have HW3:=hide ((uh HW).lay (uh B3))
     have hlog:=(uh HW).log
     have hbx:w1.heap.size≤w2.heap.size:=hsz2
     refine ((uh HW).held.vol.diskWrite (data:=data) (uh HW3).at'.dsk (by omega) (N:Int) hdl).mono ?_
     rintro e w4 ⟨rfl,C2,L2,hs4⟩
     have hnb: ¬ foot v C1 L1 w2.heap.size:=fun hf=>by have:=(uh HW).at'.dsk.vol.foot_lt _ hf;omega
     have X4:=hs4.kept.blk hnb (uh X3)
     have l1:=box_has X4 hdl
     have l2:=box_cells X4 hdl
     have h4:=(uh HW3).at'.step hs4
     have th:=there_blk h4.cont.blk (N*64) 64 (by rw [List.size_toArray,h4.cont.cont.flat];omega)
     have hs4':VStep w3 w4.drew v C1 L1 C2 L2 (writeV V1 (N:Int) data).1:=⟨hs4.at'.below ((Below.refl _ w4).drew),⟨hs4.kept.os,hs4.kept.tape,hs4.kept.output,hs4.kept.size,hs4.kept.block⟩,hs4.new⟩
     have hor:(_∧_)∨(_∧_):=Wr.did hK (uh HW3) hp hdl hs4
     have hor':(_∧_)∨(_∧_):=Wr.did hK (uh HW3) hp hdl hs4'
     have hNi:(N:Int)<64:=by omega
     generalize writeV V1 (N:Int) data=R at*
     obtain ⟨R1,R2⟩:=R
     dsimp only at hor hor' ⊢
     clear hs4 hs4' h4 X4 HW3 X3 B3 HW
     rcases hor with ⟨rfl,_⟩ | ⟨rfl,hq⟩
     · have hq:Wr W0 w (w4.drew.setCells bc (N*64) (cv data)) d v bc Cv Lv C2 L2 V R1 N0 E K (k+1) base:=by
         rcases hor' with ⟨_,x⟩ | ⟨x,_⟩
         · exact x
         · cases x
       have HQ:=hide hq
       have hT:BoxT w2.heap.size data w4.drew:=⟨l1,l2⟩
       have th':w4.drew.there bc (N*64) 64:=th
       clear hq hor'
       go_wp2
       refine wp_region_L (BoxT w2.heap.size data) 5 (by kernel_rfl) ?_
       refine takeL 0 ?_ (fun W hW=> ?_) hT ?_
       rotate_left 1
       · (obtain ⟨t0,t1⟩:=hW;go_simp;with_reducible rfl)
       simp only [Act.put,setB,set0,setS]
       refine takeL 1 ?_ (fun W hW=> ?_) hT ?_
       rotate_left 1
       · (obtain ⟨t0,t1⟩:=hW;go_simp;with_reducible rfl)
       simp only [Act.put,setB,set0,setS]
       refine takeL 2 ?_ (fun W hW=> ?_) hT ?_
       rotate_left 1
       · (obtain ⟨t0,t1⟩:=hW;go_simp;with_reducible rfl)
       simp only [Act.put,setB,set0,setS]
       refine wpAnyL_one (i:=3) (by kernel_rfl) rfl fun K3 hK3=> ?_
       go_simp
       refine hK3 _ _ (Or.inr hT) ?_
       try simp only [Act.put,setB,set0,setS]
       refine takeL 4 ?_ (fun W hW=> ?_) hT ?_
       rotate_left 1
       · (obtain ⟨t0,t1⟩:=hW;go_simp;with_reducible rfl)
       simp only [Act.put,setB,set0,setS]
       refine wpAnyL_one (i:=5) (by kernel_rfl) rfl fun K5 hK5=> ?_
       go_simp
       refine hK5 _ _ (Or.inl rfl) ?_
       try simp only [Act.put,setB,set0,setS]
       refine wpAnyL_done (by kernel_rfl) ?_ _
       clear hT th' l1 l2 th
       go_wp2
       go_roundw
       case rel=>exact ⟨k+1,by omega,by go_num,_,_,_,uh HQ⟩
       case measure=>simp [intOf];omega
     · have HQ:=hide hq
       clear hq
       have d5:(((5:Nat):Int) == 0)=false:=rfl
       have d6:(((5:Nat):Int) != 5)=false:=rfl
       go_wp2
       go_roundw
       case rel=>exact ⟨k+1,by omega,by go_num,_,_,_,uh HQ⟩
       case measure=>simp [intOf];omega
   · have hki: ¬ (k:Int)<(n:Int):=by omega
     have hkn:k=n:=by omega
     have HW:=hide hw
     clear hw
     go_wp2
     go_ret
     exact ⟨rfl,_,_,_,by rw [← hkn];exact uh HW⟩
def bClus (fs:Array (Nat × Value)):Sem Value:=Instr.build 38 fs
theorem build_clus (fs:Array (Nat × Value)):Instr.build 38 fs=bClus fs:=rfl
theorem run_bClus0 {w:World}:(bClus #[]).run Tryz.prog w= .ok (.agg (cv zc).toArray) w:=by
 unfold bClus Instr.build
 simp only [zeroValue_clus]
 simp [run_zeroClus]
 rfl
attribute [local go_sem ↓] build_clus
attribute [local go_sem] run_bClus0
theorem new_held:Held newV 6 [] 1:=⟨new_vol,new_exactV,fun m hm=>by
 have h: ∀ k:Fin 256,countOf newV.C k.val≤1:=by decide +kernel
 exact h ⟨m,hm⟩,fun _=>by kernel_rfl⟩
theorem needs_le (R:FileR) (b:Nat):needs R b≤2:=by
 unfold needs
 split
 · omega
 · split <;> omega
theorem new_write (n:Nat) (hn:n<64) {data:Clus} (hd:data.length=64):(writeV newV n data).2=0∧Vol [] (writeV newV n data).1 6 []∧dskOf (writeV newV n data).1.C 6 []=setD zDisk n data:=by
 have hb:blockB (n:Int)=true:=by unfold blockB;simp;omega
 rcases new_vol.write (data:=data) (n:Int) hd with ⟨h1,_⟩ | ⟨_,h2,hw⟩ | ⟨_,_,h3⟩
 · rw [hb] at h1;cases h1
 · rw [Int.toNat_natCast,new_disk] at hw
   exact ⟨h2,hw.vol,hw.holds⟩
 · have h4:=h3 ⟨newV.C,rsOf 6 [],[],[],0⟩ rfl rfl
   have h5:2≤freeOf newV.C:=by decide +kernel
   have h6:=needs_le ⟨newV.C,rsOf 6 [],[],[],0⟩ (n:Int).toNat
   omega
theorem keepBegun_any (w:World):Calls Tryz.prog 15 #[] w fun e w'=> ∃ d v Cv Lv,e= .returned (.pointer (some ⟨d,0,none⟩))∧DskAt w' d v Cv Lv newV∧Below w.heap.size w w'∧ ∀ k,dfoot d v Cv Lv k→w.heap.size≤k:=by
 go_enter Tryz.func15,Tryz.ntmps15
 go_wp2_with fail
 refine (diskNew_any w).mono ?_
 rintro e w1 ⟨t,tv,TC,TL,rfl,hT,b1,f1⟩
 have HT:=hide hT
 have B1:=hide b1
 have F1:=hide f1
 clear hT b1 f1
 go_wp2_with fail
 refine (diskNew_any w1).mono ?_
 rintro e w2 ⟨d,v,Cv,Lv,rfl,hD,b2,f2⟩
 have HT2:=hide ((uh HT).below b2)
 have B2:=hide ((uh B1).trans (b2.mono (uh B1).size))
 have HD:=hide hD
 have F2:=hide f2
 have hs12:=b2.size
 have hs01:=(uh B1).size
 have Ft:=hide (fun k hk=>(uh HT).foot_lt k hk)
 clear hD b2 f2 HT B1
 go_wp2_with fail
 refine (keepCluster_any ⟨#[107,110,111,119,110]⟩ w2 (by unfold maxLen;decide)).mono ?_
 rintro e w3 ⟨rfl,b3⟩
 have hdl:(clusOf (⟨#[107,110,111,119,110]⟩:ByteArray).data.toList).length=64:=clusTo_length _ _ (Nat.min_le_left _ _) (Nat.min_le_right _ _)
 have Hcl:=hide (fun W=>keepCluster_any ⟨#[107,110,111,119,110]⟩ W (by unfold maxLen;decide))
 generalize clusOf (⟨#[107,110,111,119,110]⟩:ByteArray).data.toList=kn at*
 have HT3:=hide ((uh HT2).below b3)
 have HD3:=hide ((uh HD).below b3)
 have B3:=hide ((uh B2).trans (b3.mono (uh B2).size))
 have hs23:=b3.size
 clear b3 HT2 HD B2
 go_wp2_with fail
 obtain ⟨nw1,nw2,nw3⟩:=new_write 63 (by omega) hdl
 refine (new_vol.diskWrite (data:=kn) (uh HT3) (by have:=new_logL;omega) 63 hdl).mono ?_
 rintro e w4 ⟨rfl,C4,L4,hs4⟩
 have HT4:=hide ((uh HT3).step hs4)
 have HD4:=hide ((uh HD3).kept hs4.kept (fun k hk hf=>by
   have h1:=uh F2 k hk
   have h2:=uh Ft k (Or.inr hf)
   omega))
 have B4:Hid (Below w.heap.size w w4):=by
   have hb:=uh B3
   exact ⟨hs4.kept.os.trans hb.os,hs4.kept.tape.trans hb.tape,hs4.kept.output.trans hb.output,Nat.le_trans hb.size hs4.kept.size,fun k hk=>by
     rw [hs4.kept.block k (Nat.lt_of_lt_of_le hk hb.size) (fun hf=>by have:=uh F1 k (Or.inr hf);omega)];exact hb.block k hk⟩
 have e63:(writeV newV 63 kn).2=0:=nw1
 have v63:Vol [] (writeV newV 63 kn).1 6 []:=nw2
 have d63:dskOf (writeV newV 63 kn).1.C 6 []=setD zDisk 63 kn:=nw3
 rw [e63]
 generalize (writeV newV 63 kn).1=V4 at*
 have h7:=v63.file.seven
 have hin:InFile V4.C (num (cl V4.C 0) 6):=by rw [v63.file.num6];exact v63.sound.inFile (by simp [rsOf]:(⟨6,0,[]⟩:RootR) ∈ rsOf 6 [])
 have r63:blkRead V4.C (num (cl V4.C 0) 6) 63=(kn,0):=by
   rw [← read_same v63,d63]
   rfl
 have r0:blkRead V4.C (num (cl V4.C 0) 6) 0=(zc,0):=by
   rw [← read_same v63,d63]
   rfl
 have HR:=hide (fun (W:World) (hB:Below w4.heap.size w4 W) (n:Int)=>diskRead_any W t tv C4 L4 V4 ((uh HT4).below hB) n (by omega) hin)
 have Hr1:=hide r63
 have Hr0:=hide r0
 clear hs4 HT3 HD3 B3 nw1 nw2 nw3 e63 v63 d63 r63 r0
 go_wp2_with fail
 have hr1:=uh HR w4 (Below.refl _ _) 63
 rw [uh Hr1] at hr1
 refine hr1.mono ?_
 rintro e w5 ⟨rfl,b5⟩
 have B5:=hide (b5.alloc b5.size (.cells (cv kn).toArray 38))
 have X5:=hide (heap_alloc_new w5 (.cells (cv kn).toArray 38))
 clear hr1 b5
 go_wp2_with fail
 have hr0:=uh HR _ (uh B5) 0
 rw [uh Hr0] at hr0
 refine hr0.mono ?_
 rintro e w6 ⟨rfl,b6⟩
 have B6:=hide (((uh B5).trans (b6.mono (uh B5).size)).alloc (Nat.le_trans (uh B5).size b6.size) (.cells (cv zc).toArray 38))
 have X6:=hide ((Below.heap_alloc w6 (.cells (cv zc).toArray 38) w5.heap.size (Nat.lt_of_lt_of_le (blk_lt (uh X5)) b6.size)).trans ((b6.block _ (blk_lt (uh X5))).trans (uh X5)))
 have Z6:=hide (heap_alloc_new w6 (.cells (cv zc).toArray 38))
 clear hr0 b6
 go_wp2_with fail
 generalize hW7:w6.alloc (.cells (cv zc).toArray 38)=w7 at*
 clear hW7
 have l1: ∀ d os,HasAt (Go.Sort.grow (redrawn w7 d) os) w5.heap.size 0 64:=fun d os=>box_has (((below_regrown w7 d os).block _ (blk_lt (uh X6))).trans (uh X6)) hdl
 have l2: ∀ d os,cellsAt (Go.Sort.grow (redrawn w7 d) os) w5.heap.size 0 64=cv kn:=fun d os=>box_cells (((below_regrown w7 d os).block _ (blk_lt (uh X6))).trans (uh X6)) hdl
 have l3: ∀ d os,HasAt (Go.Sort.grow (redrawn w7 d) os) w6.heap.size 0 64:=fun d os=>box_has (((below_regrown w7 d os).block _ (blk_lt (uh Z6))).trans (uh Z6)) zc_length
 have l4: ∀ d os,cellsAt (Go.Sort.grow (redrawn w7 d) os) w6.heap.size 0 64=cv zc:=fun d os=>box_cells (((below_regrown w7 d os).block _ (blk_lt (uh Z6))).trans (uh Z6)) zc_length
 have Hn:=hide (fun d os=>uh Hcl (Go.Sort.grow (redrawn w7 d) os))
 have he: ∀ w,(eqClus (.agg (cv kn).toArray) (.agg (cv kn).toArray)).run Tryz.prog w= .ok true w:=fun w=>by rw [run_eqClus hdl hdl,decide_eq_true rfl]
 have hz: ∀ w,(eqClus (.agg (cv zc).toArray) (.agg (cv zc).toArray)).run Tryz.prog w= .ok true w:=fun w=>by rw [run_eqClus zc_length zc_length,decide_eq_true rfl]
 have HD7:=hide ((uh HD4).below (uh B6))
 have B7:=hide ((uh B4).trans ((uh B6).mono (uh B4).size))
 clear HD4 B4 B5 B6 X5 X6 Z6 HR Hr1 Hr0 Hcl HT4 hin h7
 refine wp_region_quiet_below (by kernel_rfl) (by kernel_rfl) ?_
 repeat (go_big_quiet_step (exact Calls.regrown_of (uh Hn _ _)))
 refine wpQuiet_nil ?_
 intro _ hw'
 obtain ⟨⟨dq,osq⟩,hw''⟩:=hw'
 subst hw''
 clear l1 l2 l3 l4 Hn
 go_wp2
 go_ret
 exact ⟨d,v,Cv,Lv,rfl,(uh HD7).below (below_regrown w7 dq osq),(uh B7).trans ((below_regrown w7 dq osq).mono (uh B7).size),fun k hk=>by have:=uh F2 k hk;omega⟩
end Go.Proofs.YtknjjjenklfeoaaGreatDoor
namespace Go.Proofs.YtknjjjenklfeoaaGreatDoor
open Go.RowKit
def loadCo (a:Addr):Sem Value:=loadVar 40 a
theorem loadVar_co (a:Addr):loadVar 40 a=loadCo a:=rfl
theorem run_loadCo {w:World} {b o:Nat} (h:HasAt w b o 4096):(loadCo ⟨b,o,none⟩).run Tryz.prog w= .ok (.agg (cellsAt w b o 4096).toArray) w:=
 run_loadVar_has h 40 _ Tryz.underlying40 rfl (by kernel_rfl)
def storeCo (a:Addr) (v:Value):Sem Unit:=storeVar 40 a v
theorem storeVar_co (a:Addr) (v:Value):storeVar 40 a v=storeCo a v:=rfl
theorem run_storeCo_new {w:World} {z x:List Clus} (hz:Cont z) (hx:Cont x):
   (storeCo ⟨w.heap.size,0,none⟩ (.agg (flatC x).toArray)).run Tryz.prog (w.alloc (.cells (flatC z).toArray 40))= .ok () (w.alloc (.cells (flatC x).toArray 40)):=
 run_storeVar_new w 40 (flatC z).toArray (flatC x).toArray (by simp only [List.size_toArray,hx.flat];kernel_rfl) (by simp [hz.flat,hx.flat]) (all_oneCell_toArray (flatC_one x))
def zeroCo:Sem Value:=zeroValue 40
theorem zeroValue_co:zeroValue 40=zeroCo:=rfl
theorem run_zeroCo (w:World):zeroCo.run Tryz.prog w= .ok (.agg (flatC zD).toArray) w:=
 (zero_of_info (P:=Tryz.prog) (t:=40) (v:= .agg (flatC zD).toArray) (n:=4096) (by kernel_rfl)).1 w
attribute [local go_sem ↓] loadVar_co storeVar_co zeroValue_co loadVar_st storeVar_st
attribute [local go_sem] run_loadCo run_zeroCo run_loadSt
structure At (w W:World) (d v bc:Nat) (Cv Lv:Value) (V:VolR) (N0:Nat) (E:List EntR) (K:Nat) (D:DiskR) (base:List Clus:=[]):Prop where
 at':KAt w W d v bc Cv Lv V D.C
 held:Held V N0 E K base
 disk:dskOf V.C N0 E=D
theorem At.wrote {base:List Clus} {w W W':World} {d v bc:Nat} {Cv Lv C1 L1:Value} {V V':VolR} {N0:Nat} {E:List EntR} {K n:Nat} {D:DiskR} (h:At w W d v bc Cv Lv V N0 E K D base) (hw:Wr w W W' d v bc Cv Lv C1 L1 V V' N0 E K n base): ∃ D',At w W' d v bc C1 L1 V' N0 E K D' base∧D'.L=D.L:=
 ⟨_,⟨hw.at',hw.held,rfl⟩,by rw [hw.pics,h.disk]⟩
theorem At.taken {base:List Clus} {w W W':World} {d v bc:Nat} {Cv Lv C1 L1:Value} {V:VolR} {N0:Nat} {E:List EntR} {K:Nat} {D:DiskR} (h:At w W d v bc Cv Lv V N0 E K D base) (hK:K≤188) (h1:1≤K) (hE:E.length≤2) (s:ByteArray) (hs:refTakeR D s=(⟨D.C,D.L++[⟨s.data.toList,D.C⟩]⟩,0)) (hw:VStep W W' v Cv Lv C1 L1 (takeR V s).1):
   (takeR V s).2=0∧(takeR V s).1.L.length≤V.L.length+100∧ ∃ E',At w W' d v bc C1 L1 (takeR V s).1 N0 E' (2*K) ⟨D.C,D.L++[⟨s.data.toList,D.C⟩]⟩ base∧E'.length≤E.length+1:=by
 have hd:=h.disk
 obtain ⟨a1,a2,_,E',a4,a5,a6⟩:=h.held.take hK h1 hE s (by rw [hd,hs])
 refine ⟨a1,a2,E',⟨h.at'.step hw,a4,?_⟩,a6⟩
 rw [a5,hd,hs]
theorem At.later {base:List Clus} {w W W':World} {d v bc:Nat} {Cv Lv:Value} {V:VolR} {N0:Nat} {E:List EntR} {K:Nat} {D:DiskR} (h:At w W d v bc Cv Lv V N0 E K D base) (hb:Below W.heap.size W W'):At w W' d v bc Cv Lv V N0 E K D base:=⟨h.at'.later hb,h.held,h.disk⟩
theorem ContAt.has {w:World} {b:Nat} {C:List Clus} (h:ContAt w b C):HasAt w b 0 4096∧cellsAt w b 0 4096=flatC C:=⟨blk_has h.blk h.cont.flat,blk_cells h.blk h.cont.flat⟩
theorem At.hyps {base:List Clus} {w W:World} {d v bc:Nat} {Cv Lv:Value} {V:VolR} {N0:Nat} {E:List EntR} {K:Nat} {D:DiskR} (h:At w W d v bc Cv Lv V N0 E K D base):DskAt W d v Cv Lv V∧5<V.C.length∧V.C.length≤256∧FirstOK V (num (cl V.C 0) 6):=by
 have h7:=h.held.vol.file.seven
 refine ⟨h.at'.dsk,by omega,h.held.vol.file.most,?_⟩
 rw [h.held.vol.num6]
 exact h.held.vol.sound.firstOK h.held.vol.roots0
def sOne:ByteArray:=⟨#[111,110,101]⟩
def sTwo:ByteArray:=⟨#[116,119,111]⟩
theorem pic_read {base:List Clus} {V:VolR} {N0:Nat} {E:List EntR} (hv:Vol base V N0 E) {D:DiskR} (hd:dskOf V.C N0 E=D) (s:ByteArray) (i:Nat) (ht:thereR D s=((i:Int),0)) (C:List Clus) (hC:(picAt D.L i).C=C): ∀ k:Nat,k<64→readOfR V s k=(cl C k,0):=fun k hk=>by
 have hb:blockB (k:Int)=true:=by unfold blockB;simp;omega
 rw [← readOf_same hv,hd]
 unfold refReadOf
 rw [ht,if_pos rfl,if_pos hb]
 dsimp only
 rw [Int.toNat_natCast,Int.toNat_natCast,hC]
structure Av (w W:World) (d v:Nat) (Cv Lv:Value) (V:VolR) (N0:Nat) (E:List EntR) (D:DiskR) (base:List Clus:=[]):Prop where
 dsk:DskAt W d v Cv Lv V
 vol:Vol base V N0 E
 exact:ExactS V.C (rsOf N0 E)
 disk:dskOf V.C N0 E=D
 below:Below w.heap.size w W
 lo: ∀ k,dfoot d v Cv Lv k→w.heap.size≤k
theorem At.av {base:List Clus} {w W:World} {d v bc:Nat} {Cv Lv:Value} {V:VolR} {N0:Nat} {E:List EntR} {K:Nat} {D:DiskR} (h:At w W d v bc Cv Lv V N0 E K D base):Av w W d v Cv Lv V N0 E D base:=⟨h.at'.dsk,h.held.vol,h.held.exact,h.disk,h.at'.below,h.at'.lo⟩
theorem Av.later {base:List Clus} {w W W':World} {d v:Nat} {Cv Lv:Value} {V:VolR} {N0:Nat} {E:List EntR} {D:DiskR} (h:Av w W d v Cv Lv V N0 E D base) (hb:Below W.heap.size W W'):Av w W' d v Cv Lv V N0 E D base:=⟨h.dsk.below hb,h.vol,h.exact,h.disk,h.below.trans (hb.mono h.below.size),h.lo⟩
theorem Av.step {base:List Clus} {w W W':World} {d v:Nat} {Cv Lv C1 L1:Value} {V V':VolR} {N0 N1:Nat} {E E':List EntR} {D D':DiskR} (h:Av w W d v Cv Lv V N0 E D base) (hs:VStep W W' v Cv Lv C1 L1 V') (hv:Vol base V' N1 E') (hx:ExactS V'.C (rsOf N1 E')) (hd:dskOf V'.C N1 E'=D'):Av w W' d v C1 L1 V' N1 E' D' base:=by
 refine ⟨h.dsk.step hs,hv,hx,hd,?_,?_⟩
 · exact ⟨hs.kept.os.trans h.below.os,hs.kept.tape.trans h.below.tape,hs.kept.output.trans h.below.output,Nat.le_trans h.below.size hs.kept.size,fun i hi=>by
     rw [hs.kept.block i (Nat.lt_of_lt_of_le hi h.below.size) (fun x=>by have:=h.lo i (Or.inr x);omega)];exact h.below.block i hi⟩
 · rintro k (e | e)
   · exact h.lo k (Or.inl e)
   · rcases hs.new k e with x | x
     · exact h.lo k (Or.inr x)
     · have:=h.below.size;omega
end Go.Proofs.YtknjjjenklfeoaaGreatDoor
