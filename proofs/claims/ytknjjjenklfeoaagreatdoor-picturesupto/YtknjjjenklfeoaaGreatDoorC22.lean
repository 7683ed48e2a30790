import Derived.Test.YtknjjjenklfeoaaGreatDoorC21
import Derived.Test.YtknjjjenklfeoaaGreatDoorC11
import Derived.Test.YtknjjjenklfeoaaGreatDoorC06
import Derived.Test.YtknjjjenklfeoaaGreatDoorC03
import Derived.Test.YtknjjjenklfeoaaGreatDoorC01
import Derived.Test.YtknjjjenklfeoaaGreatDoorC19
import Derived.Test.YtknjjjenklfeoaaGreatDoorC20
set_option maxHeartbeats 8000000
set_option maxRecDepth 100000
namespace Go.Proofs.YtknjjjenklfeoaaGreatDoor
open Go.RowKit
attribute [local go_sem ↓] loadVar_clus storeVar_clus zeroValue_clus loadVar_cont storeVar_cont zeroValue_cont build_disk equalIn_cont loadVar_pic buildSlice_pic equalIn_pic build_pic
attribute [local go_sem] run_loadClus run_storeClus run_zeroClus run_storeClus_new run_loadClus_new zc_length run_loadCont run_storeCont run_zeroCont run_bDisk run_loadPic run_bsPic run_bPic
def refFindFrom (Ps:List PicR) (s:ByteArray):Nat→Nat→Int
 | 0,_=> -1
 | m+1,k=>if txt (picAt Ps k).name=s then (k:Int) else refFindFrom Ps s m (k+1)
def refFind (D:DiskR) (s:ByteArray):Int:=refFindFrom D.L s D.L.length 0
theorem pic_name {w:World} {g k:Nat} {Ps:List PicR} (h:w.rangeAt g (k*4097) (picCells (picAt Ps k))):w.cell? ⟨g,k*4097,none⟩=some (.string (txt (picAt Ps k).name)):=by
 have:=h 0 (.string (txt (picAt Ps k).name)) rfl
 rw [Nat.add_zero] at this
 exact this
theorem refFind_any (w:World) (d:Nat) (Pv:Value) (D:DiskR) (h:DiskAt w d Pv D) (h4:D.L.length≤1000) (s:ByteArray):
   Calls Tryz.prog 120 #[.pointer (some ⟨d,0,none⟩),.string s] w fun e w'=>e= .returned (.int .i64 (refFind D s))∧w'=w:=by
 obtain ⟨C,L⟩:=D
 obtain ⟨a,cap,hPv⟩:=row_form h.row
 subst hPv
 simp only at h4
 have c0:w.cell? ⟨d,4096,none⟩=some (.slice a L.length cap):=h.cPv
 have HF:Hid (refFind ⟨C,L⟩ s=refFindFrom L s L.length 0):=rfl
 have H:=hide h
 clear h
 go_enter Tryz.func120,Tryz.ntmps120
 go_wp2
 go_loopw [5] (fun i w'=> ∃ k:Nat,k≤L.length∧i= .int .i64 k∧w'=w∧refFindFrom L s L.length 0=refFindFrom L s (L.length - k) k) (fun i _=>L.length - (intOf i).toNat)
 case atStart=>exact ⟨0,by omega,rfl,rfl,rfl⟩
 case round=>
   obtain ⟨k,hk,rfl,rfl,hl⟩:=hrel
   by_cases hlt:k<L.length
   · obtain ⟨g2,cap2,e2,_⟩:=row_some (uh H).row (show 0<L.length by omega)
     obtain ⟨rfl,rfl⟩:a=some ⟨g2,0,none⟩∧cap=cap2:=by injection e2 with x1 x2 x3;exact ⟨x1,x3⟩
     have rg:=pics_range (uh H).row (uh H).pics k hlt
     have c1:=pic_name rg
     have hki:(k:Int)<(L.length:Int):=by omega
     rw [show L.length - k=(L.length - (k+1))+1 by omega,refFindFrom] at hl
     clear rg e2
     generalize txt (picAt L k).name=q at*
     by_cases h0:q=s
     · rw [if_pos h0] at hl
       have Hl:=hide hl
       subst h0
       clear hl
       go_wp2
       go_ret
       exact ⟨by rw [uh HF,uh Hl];rfl,by first | rfl | trivial⟩
     · rw [if_neg h0] at hl
       have Hl:=hide hl
       have d0:(q.toList == s.toList)=false:=beq_eq_false_iff_ne.2 (fun he=>h0 (Go.WideShapes.bytes_inj (by rw [← Go.ByteArray.toList_eq,← Go.ByteArray.toList_eq];exact he)))
       clear hl
       go_wp2
       go_roundw
       case rel=>exact ⟨k+1,by omega,by go_num,by first | rfl | trivial,uh Hl⟩
       case measure=>simp [intOf];omega
   · have hk4:k=L.length:=by omega
     have Hl:Hid (refFindFrom L s L.length 0= -1):=by
       show _=_
       rw [hl,hk4,Nat.sub_self];rfl
     clear hl
     go_wp2
     go_ret
     exact ⟨by rw [uh HF,uh Hl];rfl,by first | rfl | trivial⟩
theorem refFind_some (Ps:List PicR) (s:ByteArray): ∀ m k,0≤refFindFrom Ps s m k→ ∃ i,k≤i∧i<k+m∧refFindFrom Ps s m k=(i:Int)
 | 0,k,h=>by simp [refFindFrom] at h
 | m+1,k,h=>by
   rw [refFindFrom] at h ⊢
   split
   · exact ⟨k,by omega,by omega,rfl⟩
   · rename_i hn
     rw [if_neg hn] at h
     obtain ⟨i,h1,h2,h3⟩:=refFind_some Ps s m (k+1) h
     exact ⟨i,by omega,by omega,h3⟩
def thereR (D:DiskR) (s:ByteArray):Int × Nat:=if isNameB s.data.toList=false then (-1,2) else if refFind D s<0 then (-1,4) else (refFind D s,0)
theorem thereR_cases (D:DiskR) (s:ByteArray):(thereR D s=(-1,2)∨thereR D s=(-1,4))∨ ∃ i,i<D.L.length∧thereR D s=(((i:Nat):Int),0):=by
 unfold thereR
 split
 · exact Or.inl (Or.inl rfl)
 · split
   · exact Or.inl (Or.inr rfl)
   · rename_i h
     obtain ⟨i,_,h2,h3⟩:=refFind_some D.L s D.L.length 0 (by unfold refFind at h;omega)
     have h4:refFind D s=(i:Int):=h3
     exact Or.inr ⟨i,by omega,by rw [h4]⟩
theorem there_any (w:World) (d:Nat) (Pv:Value) (D:DiskR) (h:DiskAt w d Pv D) (h4:D.L.length≤1000) (s:ByteArray) (hs:s.size≤maxLen):
   Calls Tryz.prog 123 #[.pointer (some ⟨d,0,none⟩),.string s] w fun e w'=>e= .returned (.tuple #[.int .i64 (thereR D s).1,.int .i64 ((thereR D s).2:Nat)])∧Below w.heap.size w w':=by
 have Hi:=hide (isName_any s w hs)
 have Hf:=hide (refFind_any w d Pv D h h4 s)
 have HT:Hid (thereR D s=if isNameB s.data.toList=false then (-1,2) else if refFind D s<0 then (-1,4) else (refFind D s,0)):=rfl
 clear h
 generalize isNameB s.data.toList=b at*
 generalize refFind D s=f at*
 go_enter Tryz.func123,Tryz.ntmps123
 go_wp2_with fail
 refine (uh Hi).mono ?_
 rintro e w1 ⟨rfl,rfl⟩
 go_wp2_with fail
 refine (uh Hf).mono ?_
 rintro e w2 ⟨rfl,rfl⟩
 cases b with
 | false=>
   rw [if_pos rfl] at HT
   go_wp2
   go_ret2
   exact ⟨by rw [uh HT];rfl,Below.refl _ _⟩
 | true=>
   rw [if_neg (by decide)] at HT
   by_cases hf:f<0
   · have df:decide (f<0)=true:=decide_eq_true hf
     rw [if_pos hf] at HT
     go_wp2
     go_ret2
     exact ⟨by rw [uh HT];rfl,Below.refl _ _⟩
   · have df:decide (f<0)=false:=decide_eq_false hf
     rw [if_neg hf] at HT
     go_wp2
     go_ret2
     exact ⟨by rw [uh HT];rfl,Below.refl _ _⟩
def refReadOf (D:DiskR) (s:ByteArray) (n:Int):Clus × Nat:=
 if (thereR D s).2=0 then if blockB n then (cl (picAt D.L (thereR D s).1.toNat).C n.toNat,0) else (zc,1) else (zc,(thereR D s).2)
theorem pic_block {w:World} {g k:Nat} {Ps:List PicR} (hp: ∀ p ∈ Ps,Cont p.C) (hk:k<Ps.length) (h:w.rangeAt g (k*4097) (picCells (picAt Ps k))) (b:Nat) (hb:b<64):w.rangeAt g (k*4097+1+b*64) (cv (cl (picAt Ps k).C b)):=by
 have hc:=hp _ (picAt_mem hk)
 intro j v hv
 have hl:=cl_length hc.all (k:=b) (by have:=hc.len;omega)
 have hj:=(List.getElem?_eq_some_iff.1 hv).1
 rw [cv_length,hl] at hj
 have h1:=h ((b*64+j)+1) v (by
   unfold picCells
   rw [List.getElem?_cons_succ,flatC_range _ hc.all b (by have:=hc.len;omega) j hj]
   exact hv)
 rw [show k*4097+1+b*64+j=k*4097+((b*64+j)+1) by omega]
 exact h1
theorem pic_cont {w:World} {g k:Nat} {Ps:List PicR} (h:w.rangeAt g (k*4097) (picCells (picAt Ps k))):w.rangeAt g (k*4097+1) (flatC (picAt Ps k).C):=by
 intro j v hv
 have h1:=h (j+1) v (by unfold picCells;rw [List.getElem?_cons_succ];exact hv)
 rw [show k*4097+1+j=k*4097+(j+1) by omega]
 exact h1
theorem refReadOf_any (w:World) (d:Nat) (Pv:Value) (D:DiskR) (h:DiskAt w d Pv D) (h4:D.L.length≤1000) (s:ByteArray) (hs:s.size≤maxLen) (n:Int):
   Calls Tryz.prog 127 #[.pointer (some ⟨d,0,none⟩),.string s,.int .i64 n] w fun e w'=>e= .returned (.tuple #[.agg (cv (refReadOf D s n).1).toArray,.int .i64 ((refReadOf D s n).2:Nat)])∧Below w.heap.size w w':=by
 obtain ⟨C,L⟩:=D
 have L0:=Locs.one w (.cells (cv zc).toArray 38)
 have Ht:=hide (there_any _ d Pv ⟨C,L⟩ (h.below L0.below) h4 s hs)
 have H:=hide h
 have L0:=hide L0
 obtain ⟨a,cap,hPv⟩:=row_form h.row
 subst hPv
 simp only at h4
 have HR:Hid (refReadOf ⟨C,L⟩ s n=if (thereR ⟨C,L⟩ s).2=0 then if blockB n then (cl (picAt L (thereR ⟨C,L⟩ s).1.toNat).C n.toNat,0) else (zc,1) else (zc,(thereR ⟨C,L⟩ s).2)):=rfl
 have Hb:Hid (∀ W,_):=fun W=>isBlock_any n W
 clear h
 rcases (show (∃ m,m≠0∧thereR ⟨C,L⟩ s=(-1,m))∨ ∃ i,i<L.length∧thereR ⟨C,L⟩ s=(((i:Nat):Int),0) by
   rcases thereR_cases ⟨C,L⟩ s with (e | e) | ⟨i,hi,e⟩
   · exact Or.inl ⟨2,by decide,e⟩
   · exact Or.inl ⟨4,by decide,e⟩
   · exact Or.inr ⟨i,hi,e⟩) with ⟨m,hm,e⟩ | ⟨i,hi,e⟩
 · rw [e,if_neg hm] at HR
   rw [e] at Ht
   dsimp only at Ht HR
   have d0:(((m:Nat):Int) != 0)=true:=by rw [bne_iff_ne];omega
   clear e
   go_enter Tryz.func127,Tryz.ntmps127
   go_wp2_with fail
   refine (uh Ht).mono ?_
   rintro e w1 ⟨rfl,hb1⟩
   have L1:=(uh L0).later hb1
   have th:=there_blk L1.o0 0 64 (by simp [cv_length,zc_length])
   have L3:=L1.setCells 0 rfl 0 (cv zc)
   rw [Nat.add_zero,setList_all _ _ (by simp [cv_length,zc_length])] at L3
   have l3:=box_has L3.o0 zc_length
   have l4:=box_cells L3.o0 zc_length
   have HB:=hide L3.below
   clear L3 L1 hb1 Ht L0
   go_wp2
   rw [uh HR]
   refine bodyPost_ret (v:= .tuple #[.agg (cv zc).toArray,.int .i64 (m:Nat)]) (by rw [results_cell_tmp Tryz.results127];simp only [loadVar_clus];simp [asAddr,run_loadClus l3,l4]) rfl ⟨rfl,uh HB⟩
 · rw [e] at HR Ht
   dsimp only at Ht HR
   rw [if_pos rfl,Int.toNat_natCast] at HR
   cases hb:blockB n with
   | false=>
     rw [hb,if_neg (by decide)] at HR
     rw [hb] at Hb
     clear e
     go_enter Tryz.func127,Tryz.ntmps127
     go_wp2_with fail
     refine (uh Ht).mono ?_
     rintro e w1 ⟨rfl,hb1⟩
     have L1:=(uh L0).later hb1
     have th:=there_blk L1.o0 0 64 (by simp [cv_length,zc_length])
     have L3:=L1.setCells 0 rfl 0 (cv zc)
     rw [Nat.add_zero,setList_all _ _ (by simp [cv_length,zc_length])] at L3
     have l3:=box_has L3.o0 zc_length
     have l4:=box_cells L3.o0 zc_length
     have HB:=hide L3.below
     clear L3 L1 hb1 Ht L0
     go_wp2_with fail
     refine (uh Hb _).mono ?_
     rintro e w2 ⟨rfl,rfl⟩
     go_wp2
     rw [uh HR]
     refine bodyPost_ret (v:= .tuple #[.agg (cv zc).toArray,.int .i64 1]) (by rw [results_cell_tmp Tryz.results127];simp only [loadVar_clus];simp [asAddr,run_loadClus l3,l4]) rfl ⟨rfl,uh HB⟩
   | true=>
     rw [hb,if_pos rfl] at HR
     rw [hb] at Hb
     have hn:0≤n∧n<64:=by simpa [blockB] using hb
     obtain ⟨k,rfl⟩:=Int.eq_ofNat_of_zero_le hn.1
     rw [Int.toNat_natCast] at HR
     have hk:k<64:=by omega
     have hki:(k:Int)<64:=by omega
     have hii:(i:Int)<(L.length:Int):=by omega
     obtain ⟨g2,cap2,e2,_⟩:=row_some (uh H).row (show 0<L.length by omega)
     obtain ⟨rfl,rfl⟩:a=some ⟨g2,0,none⟩∧cap=cap2:=by injection e2 with x1 x2 x3;exact ⟨x1,x3⟩
     clear e e2 hb hn
     go_enter Tryz.func127,Tryz.ntmps127
     go_wp2_with fail
     refine (uh Ht).mono ?_
     rintro e w1 ⟨rfl,hb1⟩
     have L1:=(uh L0).later hb1
     have hD1:=(uh H).below L1.below
     have c1:w1.cell? ⟨d,4096,none⟩=some (.slice (some ⟨g2,0,none⟩) L.length cap):=hD1.cPv
     have hpc:=hD1.pics _ (picAt_mem hi)
     have hcl:=cl_length hpc.all (k:=k) (by have:=hpc.len;omega)
     have rg:=pic_block hD1.pics hi (pics_range hD1.row hD1.pics i hi) k hk
     have r1:=hasAt_of_range (n:=64) rg (by rw [cv_length,hcl])
     have r2:=cellsAt_of_range (n:=64) rg (by rw [cv_length,hcl])
     have th:=there_blk L1.o0 0 64 (by simp [cv_length,zc_length])
     generalize cl (picAt L i).C k=c at*
     have L3:=L1.setCells 0 rfl 0 (cv c)
     rw [Nat.add_zero,setList_all _ _ (by simp [cv_length,zc_length,hcl])] at L3
     have l3:=box_has L3.o0 hcl
     have l4:=box_cells L3.o0 hcl
     have HB:=hide L3.below
     clear L3 L1 hb1 Ht L0 hD1 rg
     go_wp2_with fail
     refine (uh Hb _).mono ?_
     rintro e w2 ⟨rfl,rfl⟩
     go_wp2
     rw [uh HR]
     refine bodyPost_ret (v:= .tuple #[.agg (cv c).toArray,.int .i64 0]) (by rw [results_cell_tmp Tryz.results127];simp only [loadVar_clus];simp [asAddr,run_loadClus l3,l4]) rfl ⟨rfl,uh HB⟩
end Go.Proofs.YtknjjjenklfeoaaGreatDoor
namespace Go.Proofs.YtknjjjenklfeoaaGreatDoor
open Go.RowKit
attribute [local go_sem ↓] loadVar_clus storeVar_clus zeroValue_clus loadVar_cont storeVar_cont zeroValue_cont build_disk equalIn_cont loadVar_pic buildSlice_pic equalIn_pic build_pic
attribute [local go_sem] run_loadClus run_storeClus run_zeroClus run_storeClus_new run_loadClus_new zc_length run_loadCont run_storeCont run_zeroCont run_bDisk run_loadPic run_bsPic run_bPic HasAt_drewN cellsAt_drewN
def picsEq (Ps Qs:List PicR):Nat→Nat→Bool
 | 0,_=>true
 | m+1,k=>if picEq (picAt Ps k) (picAt Qs k) then picsEq Ps Qs m (k+1) else false
def sameR (D E:DiskR):Bool:=if D.C=E.C∧D.L.length=E.L.length then picsEq D.L E.L D.L.length 0 else false
theorem picEq_iff {p q:PicR}:picEq p q=true↔p=q:=by
 obtain ⟨a,b⟩:=p
 obtain ⟨c,d⟩:=q
 simp [picEq]
theorem picsEq_iff (Ps Qs:List PicR): ∀ m k,picsEq Ps Qs m k=true↔ ∀ j,k≤j→j<k+m→picAt Ps j=picAt Qs j
 | 0,k=>⟨fun _ j h1 h2=>by omega,fun _=>rfl⟩
 | m+1,k=>by
   rw [picsEq]
   constructor
   · intro h j h1 h2
     split at h
     · rename_i hp
       by_cases e:j=k
       · subst e;exact picEq_iff.1 hp
       · exact (picsEq_iff Ps Qs m (k+1)).1 h j (by omega) (by omega)
     · cases h
   · intro h
     rw [if_pos (picEq_iff.2 (h k (by omega) (by omega)))]
     exact (picsEq_iff Ps Qs m (k+1)).2 fun j h1 h2=>h j (by omega) (by omega)
theorem sameR_iff {D E:DiskR}:sameR D E=true↔D=E:=by
 obtain ⟨C,L⟩:=D
 obtain ⟨C2,L2⟩:=E
 unfold sameR
 simp only
 constructor
 · intro h
   split at h
   · rename_i hc
     obtain ⟨rfl,hl⟩:=hc
     congr 1
     have:=(picsEq_iff L L2 L.length 0).1 h
     apply List.ext_getElem hl
     intro i h1 h2
     have:=this i (by omega) (by omega)
     unfold picAt at this
     rw [List.getD_eq_getElem?_getD,List.getD_eq_getElem?_getD,List.getElem?_eq_getElem h1,List.getElem?_eq_getElem h2] at this
     exact this
   · cases h
 · intro h
   injection h with h1 h2
   subst h1
   subst h2
   rw [if_pos ⟨rfl,rfl⟩]
   exact (picsEq_iff L L L.length 0).2 fun _ _ _=>rfl
theorem same_any (w:World) (d e':Nat) (Pv Qv:Value) (D E:DiskR) (h:DiskAt w d Pv D) (k:DiskAt w e' Qv E) (hD:D.L.length≤1000) (hE:E.L.length≤1000):
   Calls Tryz.prog 59 #[.pointer (some ⟨d,0,none⟩),.pointer (some ⟨e',0,none⟩)] w fun e w'=>
     e= .returned (.bool (sameR D E))∧Below w.heap.size w w':=by
 obtain ⟨C,L⟩:=D
 obtain ⟨C2,L2⟩:=E
 obtain ⟨a,cap,hPv⟩:=row_form h.row
 subst hPv
 obtain ⟨a2,cap2,hQv⟩:=row_form k.row
 subst hQv
 simp only at hD hE
 have c0: ∀ n,(w.drewN n).cell? ⟨d,4096,none⟩=some (.slice a L.length cap):=fun n=>h.cPv
 have c1: ∀ n,(w.drewN n).cell? ⟨e',4096,none⟩=some (.slice a2 L2.length cap2):=fun n=>k.cPv
 have l1: ∀ n,HasAt (w.drewN n) d 0 4096:=fun n=>h.has
 have l2: ∀ n,cellsAt (w.drewN n) d 0 4096=flatC C:=fun n=>h.cells
 have l3: ∀ n,HasAt (w.drewN n) e' 0 4096:=fun n=>k.has
 have l4: ∀ n,cellsAt (w.drewN n) e' 0 4096=flatC C2:=fun n=>k.cells
 have he: ∀ w,(eqCont (.agg (flatC C).toArray) (.agg (flatC C2).toArray)).run Tryz.prog w= .ok (decide (C=C2)) w:=fun w=>run_eqCont h.cont.all k.cont.all h.cont.len k.cont.len w
 have Hs:Hid (sameR ⟨C,L⟩ ⟨C2,L2⟩=if C=C2∧L.length=L2.length then picsEq L L2 L.length 0 else false):=rfl
 have H:=hide h
 have K:=hide k
 clear h k
 by_cases hcc:C=C2
 · by_cases hll:L.length=L2.length
   · rw [if_pos ⟨hcc,hll⟩] at Hs
     rw [decide_eq_true hcc] at he
     have bl:((L.length:Int) != (L2.length:Int))=false:=by rw [hll];simp
     have Hll:=hide hll
     have hle:L2.length≤L.length:=by omega
     have hge:L.length≤L2.length:=by omega
     clear hcc hll
     go_enter Tryz.func59,Tryz.ntmps59
     go_wp2
     go_quiet (fail)
     go_wp2
     go_loopw [5] (fun i w'=> ∃ k nq:Nat,k≤L.length∧i= .int .i64 k∧w'=w.drewN nq∧picsEq L L2 L.length 0=picsEq L L2 (L.length - k) k) (fun i _=>L.length - (intOf i).toNat)
     case atStart=>exact ⟨0,nq,by omega,rfl,rfl,rfl⟩
     case round=>
       obtain ⟨k,nq2,hk,rfl,rfl,hp⟩:=hrel
       by_cases hlt:k<L.length
       · have hD0:=(uh H).drewN nq2
         have hE0:=(uh K).drewN nq2
         obtain ⟨g2,cp2,e2,_⟩:=row_some hD0.row (show 0<L.length by omega)
         obtain ⟨rfl,rfl⟩:a=some ⟨g2,0,none⟩∧cap=cp2:=by injection e2 with x1 x2 x3;exact ⟨x1,x3⟩
         obtain ⟨g3,cp3,e3,_⟩:=row_some hE0.row (show 0<L2.length by omega)
         obtain ⟨rfl,rfl⟩:a2=some ⟨g3,0,none⟩∧cap2=cp3:=by injection e3 with x1 x2 x3;exact ⟨x1,x3⟩
         have rg:=pics_range (uh H).row (uh H).pics k hlt
         have rg2:=pics_range (uh K).row (uh K).pics k (show k<L2.length by omega)
         have hpc:Cont (picAt L k).C:=(uh H).pics _ (picAt_mem hlt)
         have hqc:Cont (picAt L2 k).C:=(uh K).pics _ (picAt_mem (show k<L2.length by omega))
         have m1: ∀ n,HasAt (w.drewN n) g2 (k*4097) 4097:=fun n=>hasAt_of_range (w:=w) rg (picCells_length hpc)
         have m2: ∀ n,cellsAt (w.drewN n) g2 (k*4097) 4097=picCells (picAt L k):=fun n=>cellsAt_of_range (w:=w) rg (picCells_length hpc)
         have m3: ∀ n,HasAt (w.drewN n) g3 (k*4097) 4097:=fun n=>hasAt_of_range (w:=w) rg2 (picCells_length hqc)
         have m4: ∀ n,cellsAt (w.drewN n) g3 (k*4097) 4097=picCells (picAt L2 k):=fun n=>cellsAt_of_range (w:=w) rg2 (picCells_length hqc)
         have hki:(k:Int)<(L.length:Int):=by omega
         have hki2:(k:Int)<(L2.length:Int):=by omega
         have hpe: ∀ w,(eqPic (.agg (picCells (picAt L k)).toArray) (.agg (picCells (picAt L2 k)).toArray)).run Tryz.prog w= .ok (picEq (picAt L k) (picAt L2 k)) w:=fun w=>run_eqPic hpc hqc w
         rw [show L.length - k=(L.length - (k+1))+1 by omega,picsEq] at hp
         clear hD0 hE0 e2 e3 rg rg2
         cases hq:picEq (picAt L k) (picAt L2 k) with
         | true=>
           rw [hq] at hpe hp
           rw [if_pos rfl] at hp
           have Hp:=hide hp
           clear hp hq
           generalize picAt L k=pk at*
           generalize picAt L2 k=qk at*
           go_wp2
           go_quiet (fail)
           go_wp2
           go_roundw
           case rel=>exact ⟨k+1,_,by omega,by go_num,rfl,uh Hp⟩
           case measure=>simp [intOf];omega
         | false=>
           rw [hq] at hpe hp
           rw [if_neg (by decide)] at hp
           rw [hp] at Hs
           clear hp hq
           generalize picAt L k=pk at*
           generalize picAt L2 k=qk at*
           go_wp2
           go_quiet (fail)
           go_wp2
           go_ret
           exact ⟨by rw [uh Hs];rfl,(((Kept.refl (fun _=>False) w).drewN nq2).drewN _).below⟩
       · have hki: ¬ (k:Int)<(L.length:Int):=by omega
         rw [show L.length - k=0 by omega,picsEq] at hp
         rw [hp] at Hs
         clear hp
         go_wp2
         go_ret
         exact ⟨by rw [uh Hs];rfl,((Kept.refl (fun _=>False) w).drewN nq2).below⟩
   · rw [if_neg (fun x=>hll x.2)] at Hs
     rw [decide_eq_true hcc] at he
     have bl:((L.length:Int) != (L2.length:Int))=true:=by rw [bne_iff_ne];omega
     clear hcc
     go_enter Tryz.func59,Tryz.ntmps59
     go_wp2
     go_quiet (fail)
     go_wp2
     go_ret
     exact ⟨by rw [uh Hs];rfl,((Kept.refl (fun _=>False) w).drewN nq).below⟩
 · rw [if_neg (fun x=>hcc x.1)] at Hs
   rw [decide_eq_false hcc] at he
   clear hcc
   go_enter Tryz.func59,Tryz.ntmps59
   go_wp2
   go_quiet (fail)
   go_wp2
   go_ret
   exact ⟨by rw [uh Hs];rfl,((Kept.refl (fun _=>False) w).drewN nq).below⟩
def picOf (R:FileR) (i:Nat):PicR:=⟨(rootOf R i).name,contentOf R.L (rootOf R i).N⟩
def picsTo (R:FileR) (k:Nat):List PicR:=(List.range (k - 1)).map fun i=>picOf R (i+1)
theorem picsTo_succ (R:FileR) (k:Nat) (hk:1≤k):picsTo R (k+1)=picsTo R k++[picOf R k]:=by
 unfold picsTo
 rw [show k+1 - 1=(k - 1)+1 by omega,List.range_succ,List.map_append]
 simp only [List.map_cons,List.map_nil]
 rw [show k - 1+1=k by omega]
theorem picsTo_length (R:FileR) (k:Nat):(picsTo R k).length=k - 1:=by simp [picsTo]
theorem diskOf_eq (R:FileR):diskOf R=⟨contentOf R.L (rootOf R 0).N,picsTo R R.roots.length⟩:=rfl
theorem cont_of {R:FileR} {f:Nat} {Lv Rv:Value} {w:World} (h:FileAt w f Lv Rv R) {t:Nat} (hin:InFile R.L t):Cont (contentOf R.L t):=
 ⟨by rw [← contTo_all];exact contTo_lens h.lens hin 64,by simp [contentOf]⟩
def DiskT (f g2 n cap2 k d:Nat) (r:RootR) (Qv:Value) (w':World):Prop:=w'.cell? ⟨f,1,none⟩=some (.slice (some ⟨g2,0,none⟩) n cap2)∧w'.cell? ⟨g2,k*3,none⟩=some (.int .i64 (r.N:Nat))∧w'.cell? ⟨g2,k*3+1,none⟩=some (.int .i64 (r.At:Nat))∧w'.cell? ⟨g2,k*3+2,none⟩=some (.string ⟨r.name.toArray⟩)∧w'.cell? ⟨d,4096,none⟩=some Qv
set_option linter.unusedSimpArgs false in
theorem disk_any (w:World) (f:Nat) (Lv Rv:Value) (R:FileR) (h:FileAt w f Lv Rv R) (hin: ∀ i,i<R.roots.length→InFile R.L (rootOf R i).N) (hLL:R.L.length≤256) (hr:0<R.roots.length) (hr2:R.roots.length≤1000):
   Calls Tryz.prog 43 #[.pointer (some ⟨f,0,none⟩)] w fun e w'=>
     ∃ d Qv,e= .returned (.pointer (some ⟨d,0,none⟩))∧w.heap.size≤d∧DiskAt w' d Qv (diskOf R)∧(∀ g,Qv.ownBlock=some g→w.heap.size≤g)∧Below w.heap.size w w':=by
 obtain ⟨i0,hi0,hz0,hz1,hz2⟩:=info_parts Tryz.infoPic
 have hc0:=cont_of h (hin 0 hr)
 have hcs:=fun i hi=>cont_of h (hin i hi)
 have hA:All64 (contentOf R.L (rootOf R 0).N):=hc0.all
 have hl64:=hc0.len
 obtain ⟨g2,cap2,rfl,_⟩:=row_some h.rowR (by omega)
 have c1:=h.cRv
 have r0:=root_cell h.rowR 0 (by omega) 0 (by omega)
 have r1:=root_cell h.rowR 0 (by omega) 1 (by omega)
 have r2:=root_cell h.rowR 0 (by omega) 2 (by omega)
 rw [show R.roots.getD 0 ⟨0,0,[]⟩=rootOf R 0 from rfl] at r0 r1 r2
 simp only [rootCells,List.getElem?_cons_zero,List.getElem?_cons_succ,Nat.add_zero,Nat.zero_mul,Nat.zero_add] at r0 r1 r2
 have hri:(0:Int)<(R.roots.length:Int):=by omega
 have Hc:=hide (content_any w f Lv _ R (rootOf R 0) h (hin 0 hr) hLL)
 unfold rootCells at Hc
 have Hh:=hide h
 have Hcs:=hide hcs
 have Hin:=hide hin
 clear h hcs hin
 go_enter Tryz.func43,Tryz.ntmps43
 go_wp2_with fail
 refine (uh Hc).mono ?_
 rintro e w1 ⟨rfl,hb⟩
 have hN:DiskAt (w1.alloc (.cells (diskCells ⟨contentOf R.L (rootOf R 0).N,[]⟩ (.slice none 0 0)).toArray 70)) w1.heap.size (.slice none 0 0) ⟨contentOf R.L (rootOf R 0).N,[]⟩:=⟨heap_alloc_new _ _,World.ownsRow_nil _ _ _ _,hc0,fun p hp=>by cases hp⟩
 have HN:=hide hN
 have hsz:=hb.size
 have HB:=hide (hb.alloc hb.size (.cells (diskCells ⟨contentOf R.L (rootOf R 0).N,[]⟩ (.slice none 0 0)).toArray 70))
 clear hN Hc r0 r1 r2 c1 hb
 generalize hCC:contentOf R.L (rootOf R 0).N=C at*
 have HCC:=hide hCC
 clear hCC
 go_wp2
 generalize w1.alloc (.cells (diskCells ⟨C,[]⟩ (.slice none 0 0)).toArray 70)=W1 at*
 generalize w1.heap.size=d at*
 go_loopw [4] (fun i w'=> ∃ (k:Nat) (Qv:Value),1≤k∧k≤R.roots.length∧i= .int .i64 k∧DiskAt w' d Qv ⟨C,picsTo R k⟩∧(∀ g,Qv.ownBlock=some g→w.heap.size≤g∧g≠d)∧Below w.heap.size w w') (fun i _=>R.roots.length - (intOf i).toNat)
 case atStart=>exact ⟨1,.slice none 0 0,by omega,by omega,rfl,uh HN,fun g hg=>(by cases hg),uh HB⟩
 case round=>
   obtain ⟨k,Qv,hk1,hk,rfl,hQ,hQg,hb⟩:=hrel
   have hF:=(uh Hh).below hb
   have c1:=hF.cRv
   by_cases hlt:k<R.roots.length
   · have r0:=root_cell hF.rowR k hlt 0 (by omega)
     have r1:=root_cell hF.rowR k hlt 1 (by omega)
     have r2:=root_cell hF.rowR k hlt 2 (by omega)
     rw [show R.roots.getD k ⟨0,0,[]⟩=rootOf R k from rfl] at r0 r1 r2
     simp only [rootCells,List.getElem?_cons_zero,List.getElem?_cons_succ,Nat.add_zero] at r0 r1 r2
     have hlk:=picsTo_length R k
     have hrow:wr.ownsRow 0 139 4097 Qv (k - 1) ((picsTo R k).flatMap picCells):=by have:=hQ.row;simp only [hlk] at this;exact this
     have hki:(k:Int)<(R.roots.length:Int):=by omega
     have Hp:Hid (picsTo R (k+1)=picsTo R k++[picOf R k]):=picsTo_succ R k hk1
     have hpc:Cont (picOf R k).C:=uh Hcs k hlt
     have hfd:f≠d:=fun e=>by have:=(uh Hh).lt;omega
     have hgd:g2≠d:=fun e=>by have:=((uh Hh).rowR.lt g2 rfl).2;omega
     have hdl:=hQ.lt
     have hfl:=hF.lt
     have hgl:=(hF.rowR.lt g2 rfl).2
     have Hc:=hide (fun (W:World) (hB:Below wr.heap.size wr W)=>content_any W f Lv _ R (rootOf R k) (hF.below hB) (uh Hin k hlt) hLL)
     unfold rootCells at Hc
     have HF:=hide hF
     have HQ:=hide hQ
     have Hrow:=hide hrow
     have Hb:=hide hb
     have HQg:=hide hQg
     have hbs:=hb.size
     have hcq: ∀ W,Below wr.heap.size wr W→W.cell? ⟨d,4096,none⟩=some Qv:=fun W hB=>(hQ.below hB).cPv
     have Hcq:=hide hcq
     have c7:wr.drew.cell? ⟨d,4096,none⟩=some Qv:=hQ.cPv
     clear hF hQ hrow hb hQg hcq
     have hbp: ∀ w,(bPic #[(0,.string ⟨(rootOf R k).name.toArray⟩),(1,.agg (flatC (contentOf R.L (rootOf R k).N)).toArray)]).run Tryz.prog w= .ok (.agg (picCells (picOf R k)).toArray) w:=fun w=>run_bPic (nm:=(rootOf R k).name) hpc.all hpc.len
     go_wp2
     have hT:DiskT f g2 R.roots.length cap2 k d (rootOf R k) Qv wr.drew:=⟨c1,r0,r1,r2,c7⟩
     refine wp_region_L (DiskT f g2 R.roots.length cap2 k d (rootOf R k) Qv) 27 (by kernel_rfl) ?_
     refine takeL 0 ?tv0 (fun W hW=> ?ty0) hT ?tr0
     case ty0=>(obtain ⟨t0,t1,t2,t3,t4⟩:=hW;go_simp;with_reducible rfl)
     simp only [Act.put,setB,set0,setS]
     refine takeL 1 ?tv1 (fun W hW=> ?ty1) hT ?tr1
     case ty1=>(obtain ⟨t0,t1,t2,t3,t4⟩:=hW;go_simp;with_reducible rfl)
     simp only [Act.put,setB,set0,setS]
     refine takeL 2 ?tv2 (fun W hW=> ?ty2) hT ?tr2
     case ty2=>(obtain ⟨t0,t1,t2,t3,t4⟩:=hW;go_simp;with_reducible rfl)
     simp only [Act.put,setB,set0,setS]
     refine takeL 3 ?tv3 (fun W hW=> ?ty3) hT ?tr3
     case ty3=>(obtain ⟨t0,t1,t2,t3,t4⟩:=hW;go_simp;with_reducible rfl)
     simp only [Act.put,setB,set0,setS]
     refine takeL 4 ?tv4 (fun W hW=> ?ty4) hT ?tr4
     case ty4=>(obtain ⟨t0,t1,t2,t3,t4⟩:=hW;go_simp;with_reducible rfl)
     simp only [Act.put,setB,set0,setS]
     refine takeL 5 ?tv5 (fun W hW=> ?ty5) hT ?tr5
     case ty5=>(obtain ⟨t0,t1,t2,t3,t4⟩:=hW;go_simp;with_reducible rfl)
     simp only [Act.put,setB,set0,setS]
     refine takeL 6 ?tv6 (fun W hW=> ?ty6) hT ?tr6
     case ty6=>(obtain ⟨t0,t1,t2,t3,t4⟩:=hW;go_simp;with_reducible rfl)
     simp only [Act.put,setB,set0,setS]
     refine takeL 7 ?tv7 (fun W hW=> ?ty7) hT ?tr7
     case ty7=>(obtain ⟨t0,t1,t2,t3,t4⟩:=hW;go_simp;with_reducible rfl)
     simp only [Act.put,setB,set0,setS]
     refine takeL 8 ?tv8 (fun W hW=> ?ty8) hT ?tr8
     case ty8=>(obtain ⟨t0,t1,t2,t3,t4⟩:=hW;go_simp;with_reducible rfl)
     simp only [Act.put,setB,set0,setS]
     refine takeL 9 ?tv9 (fun W hW=> ?ty9) hT ?tr9
     case ty9=>(obtain ⟨t0,t1,t2,t3,t4⟩:=hW;go_simp;with_reducible rfl)
     simp only [Act.put,setB,set0,setS]
     refine takeL 10 ?tv10 (fun W hW=> ?ty10) hT ?tr10
     case ty10=>(obtain ⟨t0,t1,t2,t3,t4⟩:=hW;go_simp;with_reducible rfl)
     simp only [Act.put,setB,set0,setS]
     refine takeL 11 ?tv11 (fun W hW=> ?ty11) hT ?tr11
     case ty11=>(obtain ⟨t0,t1,t2,t3,t4⟩:=hW;go_simp;with_reducible rfl)
     simp only [Act.put,setB,set0,setS]
     refine takeL 12 ?tv12 (fun W hW=> ?ty12) hT ?tr12
     case ty12=>(obtain ⟨t0,t1,t2,t3,t4⟩:=hW;go_simp;with_reducible rfl)
     simp only [Act.put,setB,set0,setS]
     refine takeL 13 ?tv13 (fun W hW=> ?ty13) hT ?tr13
     case ty13=>(obtain ⟨t0,t1,t2,t3,t4⟩:=hW;go_simp;with_reducible rfl)
     simp only [Act.put,setB,set0,setS]
     refine takeL 14 ?tv14 (fun W hW=> ?ty14) hT ?tr14
     case ty14=>(obtain ⟨t0,t1,t2,t3,t4⟩:=hW;go_simp;with_reducible rfl)
     simp only [Act.put,setB,set0,setS]
     refine takeL 15 ?tv15 (fun W hW=> ?ty15) hT ?tr15
     case ty15=>(obtain ⟨t0,t1,t2,t3,t4⟩:=hW;go_simp;with_reducible rfl)
     simp only [Act.put,setB,set0,setS]
     refine takeL 16 ?tv16 (fun W hW=> ?ty16) hT ?tr16
     case ty16=>(obtain ⟨t0,t1,t2,t3,t4⟩:=hW;go_simp;with_reducible rfl)
     simp only [Act.put,setB,set0,setS]
     refine takeL 17 ?tv17 (fun W hW=> ?ty17) hT ?tr17
     case ty17=>(obtain ⟨t0,t1,t2,t3,t4⟩:=hW;go_simp;with_reducible rfl)
     simp only [Act.put,setB,set0,setS]
     refine takeL 18 ?tv18 (fun W hW=> ?ty18) hT ?tr18
     case ty18=>(obtain ⟨t0,t1,t2,t3,t4⟩:=hW;go_simp;with_reducible rfl)
     simp only [Act.put,setB,set0,setS]
     refine takeL 19 ?tv19 (fun W hW=> ?ty19) hT ?tr19
     case ty19=>(obtain ⟨t0,t1,t2,t3,t4⟩:=hW;go_simp;with_reducible rfl)
     simp only [Act.put,setB,set0,setS]
     refine takeL 20 ?tv20 (fun W hW=> ?ty20) hT ?tr20
     case ty20=>(obtain ⟨t0,t1,t2,t3,t4⟩:=hW;go_simp;with_reducible rfl)
     simp only [Act.put,setB,set0,setS]
     refine wpAnyL_one (i:=21) (by kernel_rfl) rfl fun K21 hK21=> ?_
     go_simp
     go_at_call 80
     refine (uh Hc _ ((Below.refl _ _).drew)).mono ?_
     rintro e w2 ⟨rfl,b2⟩
     have B2:Hid (Below wr.heap.size wr w2):=((Below.refl _ wr).drew).trans b2
     have d2:w2.cell? ⟨d,4096,none⟩=some Qv:=uh Hcq _ (uh B2)
     have d3: ∀ o,(w2.alloc o).cell? ⟨d,4096,none⟩=some Qv:=fun o=>uh Hcq _ ((uh B2).alloc (uh B2).size o)
     have f2:w2.cell? ⟨f,1,none⟩=some (.slice (some ⟨g2,0,none⟩) R.roots.length cap2):=((uh HF).below (uh B2)).cRv
     have hgw: ∀ W,Below wr.heap.size wr W→ ∀ i,W.cell? ⟨g2,i,none⟩=wr.cell? ⟨g2,i,none⟩:=fun W hB i=>World.cell?_of_block (hB.block g2 hgl)
     have hT2:DiskT f g2 R.roots.length cap2 k d (rootOf R k) Qv w2:=⟨f2,(hgw _ (uh B2) _).trans r0,(hgw _ (uh B2) _).trans r1,(hgw _ (uh B2) _).trans r2,d2⟩
     have hT3: ∀ o,DiskT f g2 R.roots.length cap2 k d (rootOf R k) Qv (w2.alloc o):=fun o=>⟨((uh HF).below ((uh B2).alloc (uh B2).size o)).cRv,(hgw _ ((uh B2).alloc (uh B2).size o) _).trans r0,(hgw _ ((uh B2).alloc (uh B2).size o) _).trans r1,(hgw _ ((uh B2).alloc (uh B2).size o) _).trans r2,d3 o⟩
     clear b2 hgw
     refine hK21 _ _ (Or.inr hT2) ?_
     try simp only [Act.put,setB,set0,setS]
     refine takeL 22 ?tv22 (fun W hW=> ?ty22) hT2 ?tr22
     case ty22=>(obtain ⟨t0,t1,t2,t3,t4⟩:=hW;go_simp;with_reducible rfl)
     simp only [Act.put,setB,set0,setS]
     refine wpAnyL_one (i:=23) (by kernel_rfl) rfl fun K23 hK23=> ?_
     go_simp
     refine hK23 _ _ (Or.inr (hT3 _)) ?_
     try simp only [Act.put,setB,set0,setS]
     refine wpAnyL_one (i:=24) (by kernel_rfl) rfl fun K24 hK24=> ?_
     refine step_append_lies _ (by rfl) _ _ _ (by rfl) 0 139 i0 _ 4097 4112 Tryz.underlying68 hi0 hz0 hz1 hz2 (by rw [show (Value.agg (picCells ⟨[],zD⟩).toArray).cells.size=(picCells ⟨[],zD⟩).length from by simp [Value.cells]];exact picCells_length (p:=⟨[],zD⟩) ⟨zD_all,zD_length⟩) (by omega) Qv (k - 1) ((picsTo R k).flatMap picCells) (by rfl) (((ownsRow_kept (S:=fun _=>False) (Kept.of_below (uh B2)) (uh Hrow) (fun _ _=>id))).alloc _) ⟨w2.heap.size,0,none⟩ 1 1 (picCells (picOf R k)) (by rfl) (by rw [picCells_length hpc]) (World.news_of_block (cs:=(picCells (picOf R k)).toArray) (t:=139) (fr:=(0,0)) (heap_alloc_new w2 _)) (picCells_one _) (by omega) (by unfold maxLen;omega) (by omega) (by omega) (w2.heap.size+1) (by simp) ?_
     intro g5 cap5 w5 hown5 hgrow hat hlt5
     have b5:=hide (grown_blk hgrow ((uh HQ).below ((uh B2).alloc (uh B2).size _)).blk (fun g hg=>(uh HQg g hg).2))
     have c5:w5.cell? ⟨d,4096,none⟩=some Qv:=(cell_blk (uh b5) 4096).trans (by rw [← cell_blk (uh HQ).blk];exact (uh HQ).cPv)
     have z5: ∀ i,w5.frozen? ⟨d,i,none⟩=false:=fun i=>frozen_blk (uh b5) i
     have hgn:w.heap.size≤g5∧g5≠d:=by
       rcases hat with x | x
       · exact uh HQg g5 x
       · have:=(uh B2).size;omega
     have S1:=hide (((uh Hb).trans ((uh B2).mono (uh Hb).size)).alloc (by have:=(uh B2).size;omega) (.cells (picCells (picOf R k)).toArray 139))
     have hB5:Below w.heap.size w w5:=(uh S1).grown hgrow (by have:=(uh B2).size;simp;omega) (fun k hk=>(uh HQg k hk).1)
     have S2:=hide (hB5.setCell (p:=⟨d,4096,none⟩) hsz (.slice (some ⟨g5,0,none⟩) (k - 1+1) cap5))
     have hD5:DiskAt (w5.setCell ⟨d,4096,none⟩ (.slice (some ⟨g5,0,none⟩) (k - 1+1) cap5)) d (.slice (some ⟨g5,0,none⟩) (k - 1+1) cap5) ⟨C,picsTo R (k+1)⟩:=by
       have:=((uh HQ).below ((uh B2).alloc (uh B2).size (.cells (picCells (picOf R k)).toArray 139))).growP (g5:=g5) (cap5:=cap5) hpc (fun g hg=>(uh HQg g hg).2) hgrow (by rw [hlk];exact hown5) hgn.2
       rw [hlk] at this
       rw [uh Hp];exact this
     have ek:k - 1+1=k:=by omega
     rw [ek] at hD5 S2
     have HD5:=hide hD5
     clear ek
     have hT5:DiskT f g2 R.roots.length cap2 k d (rootOf R k) Qv w5:=by
       have hF5:=(uh Hh).below hB5
       have hgw: ∀ i,w5.cell? ⟨g2,i,none⟩=wr.cell? ⟨g2,i,none⟩:=fun i=>by
         have hg0:=((uh Hh).rowR.lt g2 rfl).2
         exact (World.cell?_of_block (hB5.block g2 hg0)).trans (World.cell?_of_block ((uh Hb).block g2 hg0)).symm
       exact ⟨hF5.cRv,(hgw _).trans r0,(hgw _).trans r1,(hgw _).trans r2,c5⟩
     clear hD5 hgrow hown5 hB5
     refine hK24 _ _ (Or.inr hT5) ?_
     try simp only [Act.put,setB,set0,setS]
     refine wpAnyL_one (i:=25) (by kernel_rfl) rfl fun K25 hK25=> ?_
     go_simp
     refine hK25 _ _ (Or.inr hT5) ?_
     try simp only [Act.put,setB,set0,setS]
     refine wpAnyL_one (i:=26) (by kernel_rfl) rfl fun K26 hK26=> ?_
     go_simp
     refine hK26 _ _ (Or.inr hT5) ?_
     try simp only [Act.put,setB,set0,setS]
     refine wpAnyL_one (i:=27) (by kernel_rfl) rfl fun K27 hK27=> ?_
     go_simp
     refine hK27 _ _ (Or.inl rfl) ?_
     try simp only [Act.put,setB,set0,setS]
     refine wpAnyL_done (by kernel_rfl) ?_ _
     clear hT hT2 hT3 hT5
     go_wp2
     go_roundw
     case rel=>exact ⟨k+1,.slice (some ⟨g5,0,none⟩) k cap5,by omega,by omega,by go_num,uh HD5,fun g hg=>(by simp only [Value.ownBlock,Option.some.injEq] at hg;subst hg;exact hgn),uh S2⟩
     case measure=>simp [intOf];omega
   · have hkl:k=R.roots.length:=by omega
     have hfin:DiskAt wr d Qv (diskOf R):=by rw [diskOf_eq,uh HCC,← hkl];exact hQ
     have HQ:=hide hfin
     have Hb:=hide hb
     have HQg:=hide hQg
     clear hQ hfin hb hkl hQg hF
     go_wp2
     go_ret
     exact ⟨d,Qv,rfl,hsz,uh HQ,fun g hg=>(uh HQg g hg).1,uh Hb⟩
end Go.Proofs.YtknjjjenklfeoaaGreatDoor
namespace Go.Proofs.YtknjjjenklfeoaaGreatDoor
open Go.RowKit
def vw (C:List Clus) (t:Nat):Clus:=if t<C.length then cl C t else zc
theorem cl_padTo (C:List Clus) (n t:Nat) (ht:t<n):cl (padTo C n) t=vw C t:=by
 unfold cl padTo vw
 rw [List.getD_eq_getElem?_getD,List.getElem?_map,List.getElem?_range ht]
 rfl
theorem vw_at {C:List Clus} {t:Nat} (h:t<C.length):vw C t=cl C t:=by unfold vw;rw [if_pos h]
theorem cl_past {C:List Clus} {t:Nat} (h:C.length≤t):cl C t=[]:=by unfold cl;rw [List.getD_eq_getElem?_getD,List.getElem?_eq_none h];rfl
def rsOf (N0:Nat) (E:List EntR):List RootR:=⟨N0,0,[]⟩ :: E.map rootE
theorem rsOf_mem {N0:Nat} {E:List EntR} {r:RootR}:r ∈ rsOf N0 E↔r=⟨N0,0,[]⟩∨ ∃ e ∈ E,r=rootE e:=by
 unfold rsOf
 rw [List.mem_cons,List.mem_map]
 constructor
 · rintro (h | ⟨e,he,h⟩)
   · exact Or.inl h
   · exact Or.inr ⟨e,he,h.symm⟩
 · rintro (h | ⟨e,he,h⟩)
   · exact Or.inl h
   · exact Or.inr ⟨e,he,h.symm⟩
structure FileE (C:List Clus) (T N0:Nat) (E:List EntR):Prop where
 lens: ∀ c ∈ C,c.length=64
 six:6≤C.length
 le:C.length≤T
 seven:7≤T
 most:T≤256
 n0:N0<65536
 head:cl C 0=headBytes T N0
 list:cl C 5=listBytes E
 ents:EntsOK E
section
variable {C:List Clus} {T N0:Nat} {E:List EntR}
theorem FileE.num4 (h:FileE C T N0 E):num (cl C 0) 4=T:=by rw [h.head];exact num_head4 (by have:=h.most;omega) h.n0
theorem FileE.num6 (h:FileE C T N0 E):num (cl C 0) 6=N0:=by rw [h.head];exact num_head6 (by have:=h.most;omega) h.n0
theorem FileE.headGood (h:FileE C T N0 E):headGood C=true:=by
 have h1:=h.six
 have h2:=h.le
 have h3:=h.most
 have h4:=h.seven
 unfold Go.Proofs.YtknjjjenklfeoaaGreatDoor.headGood
 rw [h.num4,h.head,head_velm,head_rest (by omega) h.n0]
 simp
 omega
theorem FileE.pad (h:FileE C T N0 E):(R1of C).L=padTo C T:=by show padTo C (num (cl C 0) 4)=_;rw [h.num4]
theorem FileE.listOf (h:FileE C T N0 E):listOf (R1of C)=(true,rsOf N0 E):=by
 have h6:=h.six
 have h7:=h.seven
 show Go.Proofs.YtknjjjenklfeoaaGreatDoor.listFrom (cl (R1of C).L 5) 4 0 false [⟨num (cl C 0) 6,0,[]⟩]=_
 rw [h.pad,cl_padTo _ _ _ (by omega),vw_at (by omega),h.list,h.num6]
 exact h.ents.listFrom ⟨N0,0,[]⟩ 4 0 rfl (Nat.zero_le _)
theorem FileE.look (h:FileE C T N0 E) (hs:SoundL (padTo C T) (rsOf N0 E)):
   (look C).bad= -1∧(look C).L=padTo C T∧(look C).roots=rsOf N0 E∧(∀ n,n<256→(look C).used.getD n 0=base6 n+useOf (padTo C T) (rsOf N0 E) n)∧Low 1000 (look C):=by
 have:=look_sound h.headGood (by rw [h.listOf]) (by rw [h.listOf,h.pad];exact hs)
 rw [h.listOf,h.pad] at this
 exact this
theorem FileE.exact (h:FileE C T N0 E) (hs:SoundL (padTo C T) (rsOf N0 E)) (hx:ExactS (padTo C T) (rsOf N0 E)):exactB (Go.Proofs.YtknjjjenklfeoaaGreatDoor.look C)=true:=by
 have:=look_exact h.headGood (by rw [h.listOf]) (by rw [h.listOf,h.pad];exact hs.toExact hx)
 exact this.2.2.2.1
def dskOf (L:List Clus) (N0:Nat) (E:List EntR):DiskR:=⟨contentOf L N0,E.map fun e=>⟨e.name,contentOf L e.first⟩⟩
theorem FileE.disk (h:FileE C T N0 E) (hs:SoundL (padTo C T) (rsOf N0 E)):diskOf (Go.Proofs.YtknjjjenklfeoaaGreatDoor.look C)=dskOf (padTo C T) N0 E:=by
 obtain ⟨_,h2,h3,_⟩:=h.look hs
 rw [diskOf_eq]
 unfold dskOf picsTo picOf rootOf
 rw [h2,h3]
 have e0:((rsOf N0 E).getD 0 ⟨0,0,[]⟩).N=N0:=rfl
 rw [e0]
 congr 1
 apply List.ext_getElem?
 intro i
 rw [List.getElem?_map,List.getElem?_map]
 have hl:(rsOf N0 E).length - 1=E.length:=by simp [rsOf]
 rw [hl]
 by_cases hi:i<E.length
 · rw [List.getElem?_range hi,List.getElem?_eq_getElem hi,Option.map_some,Option.map_some]
   have e:(rsOf N0 E).getD (i+1) ⟨0,0,[]⟩=rootE E[i]:=by
     unfold rsOf
     rw [List.getD_cons_succ,List.getD_eq_getElem?_getD,List.getElem?_map,List.getElem?_eq_getElem hi]
     rfl
   rw [e];rfl
 · rw [List.getElem?_eq_none (by simpa using hi),List.getElem?_eq_none (by omega)];rfl
theorem padTo_self (hC:C.length=T):padTo C T=C:=by rw [← hC];exact padTo_same
structure Vol (base:List Clus) (V:VolR) (N0:Nat) (E:List EntR):Prop where
 file:FileE V.C V.C.length N0 E
 sound:SoundL V.C (rsOf N0 E)
 firm:V.loose=false
 log:Logged base V
section
variable {base:List Clus} {V:VolR}
theorem Vol.pad (_h:Vol base V N0 E):padTo V.C V.C.length=V.C:=padTo_same
theorem Vol.look (h:Vol base V N0 E):(look V.C).bad= -1∧(look V.C).L=V.C∧(look V.C).roots=rsOf N0 E∧(∀ n,n<256→(look V.C).used.getD n 0=base6 n+useOf V.C (rsOf N0 E) n)∧Low 1000 (look V.C):=by
 have:=h.file.look (by rw [h.pad];exact h.sound)
 rw [h.pad] at this
 exact this
theorem Vol.exactB (h:Vol base V N0 E) (hx:ExactS V.C (rsOf N0 E)):exactB (Go.Proofs.YtknjjjenklfeoaaGreatDoor.look V.C)=true:=h.file.exact (by rw [h.pad];exact h.sound) (by rw [h.pad];exact hx)
theorem Vol.disk (h:Vol base V N0 E):diskOf (Go.Proofs.YtknjjjenklfeoaaGreatDoor.look V.C)=dskOf V.C N0 E:=by
 have:=h.file.disk (by rw [h.pad];exact h.sound)
 rw [h.pad] at this
 exact this
theorem Vol.firsts (h:Vol base V N0 E):firstsOf V=(rsOf N0 E).map (·.N):=by
 unfold firstsOf
 rw [h.file.num6,h.file.ents.picFirsts h.file.list]
 simp [rsOf,rootE]
end
end
end Go.Proofs.YtknjjjenklfeoaaGreatDoor
