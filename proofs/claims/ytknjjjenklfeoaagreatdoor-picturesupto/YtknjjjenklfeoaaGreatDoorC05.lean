import Derived.Test.YtknjjjenklfeoaaGreatDoorC02
import Derived.Test.YtknjjjenklfeoaaGreatDoorC00
import Derived.Deep.RegionLaw
set_option maxHeartbeats 8000000
set_option maxRecDepth 100000
namespace Go.Proofs.YtknjjjenklfeoaaGreatDoor
open Go.RowKit
attribute [local go_sem ↓] loadVar_clus storeVar_clus zeroValue_clus buildSlice_clus
attribute [local go_sem] run_loadClus run_storeClus run_zeroClus run_storeClus_new run_loadClus_new zc_length run_bsClus
def velm:List UInt8:=[86,69,76,77]
def restZero (c:Clus):Nat→Nat→Bool
 | 0,_=>true
 | m+1,i=>if byteAt c i=0 then restZero c m (i+1) else false
def headGood (L:List Clus):Bool:=decide (6≤L.length) && (decide (L.length≤256) && (decide ((cl L 0).take 4=velm) && (decide (7≤num (cl L 0) 4) && (decide (num (cl L 0) 4≤256) && (decide (L.length≤num (cl L 0) 4) && restZero (cl L 0) 56 8)))))
def padTo (L:List Clus) (n:Nat):List Clus:=(List.range n).map fun i=>if i<L.length then cl L i else zc
structure FRow (w:World) (v:Value) (L:List Clus):Prop where
 row:w.ownsRow 0 38 64 v L.length (flatC L)
 lens: ∀ c ∈ L,c.length=64
theorem Kept.grown {S:Nat→Prop} {a w w':World} {row:Option Nat} (h:Kept S a w) (hg:w.grownBy w' row) (hr: ∀ g,row=some g→S g∨a.heap.size≤g):Kept S a w':=
 ⟨hg.os.trans h.os,hg.tape.trans h.tape,hg.output.trans h.output,Nat.le_trans h.size hg.size,fun k hk hs=>by
   rw [hg.block k (Nat.lt_of_lt_of_le hk h.size) (fun e=>by rcases hr k e.symm with x | x;exact hs x;omega)];exact h.block k hk hs⟩
theorem grown_blk {w w':World} {row:Option Nat} (hg:w.grownBy w' row) {g:Nat} {o:Obj} (hb:w.heap[g]? = some o) (hne: ∀ k,row=some k→k≠g):w'.heap[g]? = some o:=by
 rw [hg.block g (blk_lt hb) (fun e=>hne g e.symm rfl)];exact hb
theorem grown_row {w w':World} {row:Option Nat} (hg:w.grownBy w' row) {base:Nat} {e:TypeId} {size:Nat} {v:Value} {n:Nat} {xs:List Value} (hr:w.ownsRow base e size v n xs) (hne: ∀ g,v.ownBlock=some g→row≠some g):w'.ownsRow base e size v n xs:=by
 obtain ⟨h1,h2⟩:=hr
 refine ⟨h1,?_⟩
 rcases h2 with h2 | ⟨g,cap,cur,rfl,hb,hh,r⟩
 · exact Or.inl h2
 · exact Or.inr ⟨g,cap,cur,rfl,hb,grown_blk hg hh (fun k hk e=>hne g rfl (by rw [hk,e])),r⟩
theorem FileAt.growL {w w5:World} {f:Nat} {Lv Rv v':Value} {R:FileR} {L':List Clus} (h:FileAt w f Lv Rv R) (hg:w.grownBy w5 Lv.ownBlock) (hrow:w5.ownsRow 0 38 64 v' L'.length (flatC L')) (hl: ∀ c ∈ L',c.length=64):
   FileAt (w5.setCell ⟨f,0,none⟩ v') f v' Rv { R with L:=L' }:=by
 have hb5:w5.heap[f]? = some (.cells (fileCells Lv Rv R).toArray 93 (0,0)):=grown_blk hg h.blk h.neL
 have hk:=Kept.only w5 f 0 v'
 refine ⟨?_,ownsRow_kept hk hrow (row_ne hrow hb5 (by decide)),?_,h.told,h.used,hl⟩
 · rw [heap_setCell_same w5 f 0 v' _ _ _ hb5];rfl
 · exact ownsRow_kept hk (grown_row hg h.rowR h.neLR) h.neR
theorem FileAt.growR {w w5:World} {f:Nat} {Lv Rv v':Value} {R:FileR} {Q:List RootR} (h:FileAt w f Lv Rv R) (hg:w.grownBy w5 Rv.ownBlock) (hrow:w5.ownsRow 0 132 3 v' Q.length (Q.flatMap rootCells)):
   FileAt (w5.setCell ⟨f,1,none⟩ v') f Lv v' { R with roots:=Q }:=by
 have hb5:w5.heap[f]? = some (.cells (fileCells Lv Rv R).toArray 93 (0,0)):=grown_blk hg h.blk h.neR
 have hk:=Kept.only w5 f 1 v'
 refine ⟨?_,?_,ownsRow_kept hk hrow (row_ne hrow hb5 (by decide)),h.told,h.used,h.lens⟩
 · rw [heap_setCell_same w5 f 1 v' _ _ _ hb5];rfl
 · exact ownsRow_kept hk (grown_row hg h.rowL (fun g hL e=>h.neLR g e hL)) h.neL
theorem padTo_length (L:List Clus) (n:Nat):(padTo L n).length=n:=by simp [padTo]
theorem padTo_succ (L:List Clus) (n:Nat):padTo L (n+1)=padTo L n++[if n<L.length then cl L n else zc]:=by simp [padTo,List.range_succ]
theorem padTo_lens {L:List Clus} (hl: ∀ c ∈ L,c.length=64) (n:Nat): ∀ c ∈ padTo L n,c.length=64:=by
 intro c hc
 simp only [padTo,List.mem_map] at hc
 obtain ⟨i,_,rfl⟩:=hc
 split
 · exact cl_length hl ‹_›
 · exact zc_length
theorem FRow.kept {w w':World} {S:Nat→Prop} {v:Value} {L:List Clus} (h:FRow w v L) (hk:Kept S w w') (hs: ∀ g,v.ownBlock=some g→ ¬ S g):FRow w' v L:=⟨ownsRow_kept hk h.row hs,h.lens⟩
theorem Tryz.infoClus:(Tryz.prog.info? 38).map (fun i=>(i.zero,i.size,i.bytes))=some (some (.agg (cv zc).toArray),64,64):=by kernel_rfl
theorem Tryz.infoRoot:(Tryz.prog.info? 132).map (fun i=>(i.zero,i.size,i.bytes))=some (some (.agg #[.int .i64 0,.int .i64 0,.string ⟨#[]⟩]),3,32):=by kernel_rfl
theorem flatC_snoc (L:List Clus) (c:Clus):flatC (L++[c])=flatC L++cv c:=by simp [flatC]
theorem head_step {w W w5:World} {f k g5 cap5:Nat} {Lv:Value} {R:FileR} {file:List Clus} {c:Clus} {bc X:Obj} (hWF:FileAt W f Lv (.slice none 0 0) { R with L:=padTo file k }) (hWK:Kept (fun k=>k=f) w W)
   (hbx:W.heap[w.heap.size]? = some bc) (hLv: ∀ g,Lv.ownBlock=some g→w.heap.size<g) (hfl:f<w.heap.size) (hpe:padTo file (k+1)=padTo file k++[c]) (hpl: ∀ c ∈ padTo file (k+1),c.length=64)
   (hown5:w5.ownsRow 0 38 64 (.slice (some ⟨g5,0,none⟩) (k+1) cap5) (k+1) (flatC (padTo file k)++cv c)) (hgrow:(W.alloc X).drew.grownBy w5 Lv.ownBlock) (hat:Lv.ownBlock=some g5∨g5=W.heap.size+1):
   FileAt (w5.setCell ⟨f,0,none⟩ (.slice (some ⟨g5,0,none⟩) (k+1) cap5)) f (.slice (some ⟨g5,0,none⟩) (k+1) cap5) (.slice none 0 0) { R with L:=padTo file (k+1) }∧
     Kept (fun k=>k=f) w (w5.setCell ⟨f,0,none⟩ (.slice (some ⟨g5,0,none⟩) (k+1) cap5))∧
     (w5.setCell ⟨f,0,none⟩ (.slice (some ⟨g5,0,none⟩) (k+1) cap5)).heap[w.heap.size]? = some bc∧(∀ g,(Value.slice (some ⟨g5,0,none⟩) (k+1) cap5).ownBlock=some g→w.heap.size<g):=by
 have hX:FileAt (W.alloc X).drew f Lv (.slice none 0 0) { R with L:=padTo file k }:=(hWF.below ((Below.refl _ _).alloc (Nat.le_refl _) _)).drew
 have hs:=hWK.size
 refine ⟨hX.growL hgrow (by rw [padTo_length,hpe,flatC_snoc];exact hown5) hpl,?_,?_,?_⟩
 · exact (((hWK.alloc X).drew).grown hgrow (fun g hg=>Or.inr (by have:=hLv g hg;omega))).setCell (p:=⟨f,0,none⟩) (Or.inl rfl) _
 · rw [Below.heap_setCell _ _ _ _ (by show w.heap.size≠f;omega)]
   refine grown_blk hgrow ?_ (fun g hg=>by have:=hLv g hg;omega)
   exact (Below.heap_alloc _ _ _ (blk_lt hbx)).trans hbx
 · intro g hg
   simp only [Value.ownBlock,Option.some.injEq] at hg
   subst hg
   rcases hat with h | h
   · exact hLv _ h
   · omega
def txt (c:List UInt8):ByteArray:=⟨c.toArray⟩
theorem conv_bytes {w:World} {b:Nat} {c:List UInt8} {t:TypeId} {fr:Nat × Nat} (h:w.heap[b]? = some (.cells (cv c).toArray t fr)) (n cap:Nat) (hn:n≤c.length):
   (convert 73 9 (.slice (some ⟨b,0,none⟩) n cap)).run Tryz.prog w= .ok (.string (txt (c.take n))) w:=by
 have:=run_convert_bytes_arg (P:=Tryz.prog) w 73 5 Tryz.underlying73 Tryz.underlying5 b 0 n cap ((c.take n).map fun x=>(x.toNat:Int)) (by simp;omega) (fun i hi=>by
   rw [Nat.zero_add,box_byte h i (by omega)]
   simp only [List.getD_eq_getElem?_getD,List.getElem?_map,List.getElem?_take,hi,if_true,byteAt]
   rw [List.getElem?_eq_getElem (by omega)]
   rfl) 9 Tryz.underlying9
 rw [this]
 congr 2
 unfold txt strOfNums
 congr 1
 have e:((fun n:Int=>UInt8.ofNat n.toNat) ∘ fun x:UInt8=>(x.toNat:Int))=id:=by funext x;simp
 simp [e]
theorem head_any (w:World) (f:Nat) (fv:Value) (file:List Clus) (R:FileR) (h:FileAt w f (.slice none 0 0) (.slice none 0 0) R) (hf:FRow w fv file) (hlen:file.length≤1000):
   Calls Tryz.prog 74 #[.pointer (some ⟨f,0,none⟩),fv] w fun e w'=>
     (headGood file=false∧e= .returned (.bool false)∧FileAt w' f (.slice none 0 0) (.slice none 0 0) R∧Kept (fun k=>k=f) w w')∨
     (headGood file=true∧e= .returned (.bool true)∧(∃ Lv Rv,FileAt w' f Lv Rv { R with L:=padTo file (num (cl file 0) 4),roots:=[⟨num (cl file 0) 6,0,[]⟩] }∧(∀ g,Rv.ownBlock=some g→w.heap.size≤g)∧ ∀ g,Lv.ownBlock=some g→w.heap.size≤g)∧Kept (fun k=>k=f) w w'):=by
 by_cases h6:file.length<6
 · have d6:decide ((file.length:Int)<6)=true:=by simp;omega
   obtain ⟨a,cap,rfl⟩:=row_form hf.row
   go_enter Tryz.func74,Tryz.ntmps74
   go_wp2
   go_ret
   exact Or.inl ⟨by simp [headGood];omega,rfl,h,Kept.refl _ _⟩
 have d6:decide ((file.length:Int)<6)=false:=by simp;omega
 by_cases h256:256<file.length
 · have d256:decide ((256:Int)<(file.length:Int))=true:=by simp;omega
   obtain ⟨a,cap,rfl⟩:=row_form hf.row
   go_enter Tryz.func74,Tryz.ntmps74
   go_wp2
   go_ret
   exact Or.inl ⟨by simp [headGood];omega,rfl,h,Kept.refl _ _⟩
 have d256:decide ((256:Int)<(file.length:Int))=false:=by simp;omega
 obtain ⟨g,cap,rfl,hcap⟩:=row_some hf.row (by omega)
 have l1:=row_has hf.row hf.lens 0 (by omega)
 have l2:=row_cells hf.row hf.lens 0 (by omega)
 simp only [Nat.zero_mul] at l1 l2
 have hlen0:=cl_length hf.lens (k:=0) (by omega)
 have hli:(0:Int)<(file.length:Int):=by omega
 have hB:Below w.heap.size w (w.alloc (.cells (cv (cl file 0)).toArray 38)):=(Below.refl _ _).alloc (Nat.le_refl _) _
 have hbx:(w.alloc (.cells (cv (cl file 0)).toArray 38)).heap[w.heap.size]? = some (.cells (cv (cl file 0)).toArray 38 (0,0)):=heap_alloc_new _ _
 have Hn:=hide (number_any (cl file 0) 4 (w.alloc (.cells (cv (cl file 0)).toArray 38)) hlen0 (by omega) (by omega))
 rw [show (4:Int).toNat=4 from rfl] at Hn
 have hxl:=num_lt (cl file 0) 4
 have hgood:headGood file=(decide (6≤file.length) && (decide (file.length≤256) && (decide ((cl file 0).take 4=velm) && (decide (7≤num (cl file 0) 4) && (decide (num (cl file 0) 4≤256) && (decide (file.length≤num (cl file 0) 4) && restZero (cl file 0) 56 8)))))):=rfl
 rw [show decide (6≤file.length)=true by simp;omega,show decide (file.length≤256)=true by simp;omega,Bool.true_and,Bool.true_and] at hgood
 have Hgood:=hide hgood
 clear hgood
 go_enter Tryz.func74,Tryz.ntmps74
 go_wp2_with fail
 refine (uh Hn).mono ?_
 rintro e w1 ⟨rfl,hb1⟩
 have hbx1:w1.heap[w.heap.size]? = some (.cells (cv (cl file 0)).toArray 38 (0,0)):=(hb1.block _ (blk_lt hbx)).trans hbx
 have hb1':=hB.trans (hb1.mono hB.size)
 clear hb1 hbx hB l1 l2 Hn
 have hcv:=conv_bytes hbx1 4 64 (by omega)
 generalize hx:num (cl file 0) 4=x at*
 have Hx:=hide hx
 have Hb1:=hide hb1'
 clear hx hb1'
 have hbelow:FileAt w1 f (.slice none 0 0) (.slice none 0 0) R:=h.below (uh Hb1)
 have hkept:Kept (fun k=>k=f) w w1:=Kept.of_below (uh Hb1)
 by_cases hv:(cl file 0).take 4=velm
 · rw [hv] at hcv
   have hcv':(convert 73 9 (.slice (some ⟨w.heap.size,0,none⟩) 4 64)).run Tryz.prog w1= .ok (.string ⟨#[86,69,76,77]⟩) w1:=hcv
   clear hcv
   by_cases h7:x<7
   · have d7:decide ((x:Int)<7)=true:=by simp;omega
     have e:headGood file=false:=by rw [uh Hgood,show decide (7≤x)=false by simp;omega];simp
     have E:=hide e
     have H1:=hide hbelow
     have H2:=hide hkept
     clear e hbelow hkept
     go_wp2
     go_ret
     exact Or.inl ⟨uh E,rfl,uh H1,uh H2⟩
   · have d7:decide ((x:Int)<7)=false:=by simp;omega
     by_cases hx256:256<x
     · have dx:decide ((256:Int)<(x:Int))=true:=by simp;omega
       have e:headGood file=false:=by rw [uh Hgood,show decide (x≤256)=false by simp;omega];simp
       have E:=hide e
       have H1:=hide hbelow
       have H2:=hide hkept
       clear e hbelow hkept
       go_wp2
       go_ret
       exact Or.inl ⟨uh E,rfl,uh H1,uh H2⟩
     · have dx:decide ((256:Int)<(x:Int))=false:=by simp;omega
       by_cases hlx:x<file.length
       · have dlx:decide ((x:Int)<(file.length:Int))=true:=by simp;omega
         have dlx2:decide (x<file.length)=true:=by simp;omega
         have e:headGood file=false:=by rw [uh Hgood,show decide (file.length≤x)=false by simp;omega];simp
         have E:=hide e
         have H1:=hide hbelow
         have H2:=hide hkept
         clear e hbelow hkept
         go_wp2
         go_ret
         exact Or.inl ⟨uh E,rfl,uh H1,uh H2⟩
       · have dlx:decide ((x:Int)<(file.length:Int))=false:=by simp;omega
         have dlx2:decide (x<file.length)=false:=by simp;omega
         have e:headGood file=restZero (cl file 0) 56 8:=by
           rw [uh Hgood,hv,show decide (file.length≤x)=true by simp;omega,show decide (7≤x)=true by simp;omega,show decide (x≤256)=true by simp;omega];simp
         have E:=hide e
         have H1:=hide hbelow
         have H2:=hide hkept
         clear e hbelow hkept Hgood
         go_wp2
         go_loopw [7] (fun i w'=> ∃ k:Nat,k≤56∧i= .int .i64 ((8+k:Nat):Int)∧w'=w1∧headGood file=restZero (cl file 0) (56 - k) (8+k)) (fun i _=>64 - (intOf i).toNat)
         case atStart=>exact ⟨0,by omega,rfl,rfl,uh E⟩
         case round=>
           obtain ⟨k,hk,rfl,rfl,he⟩:=hrel
           have He:=hide he
           clear he E
           by_cases hlt:k<56
           · have cb:=box_byte hbx1 (8+k) (by omega)
             have bl:=byteAt_lt (cl file 0) (8+k)
             have hst:headGood file=if byteAt (cl file 0) (8+k)=0 then restZero (cl file 0) (56 - (k+1)) (8+k+1) else false:=by
               rw [uh He,show 56 - k=(56 - (k+1))+1 by omega,restZero]
             have Hst:=hide hst
             clear hst
             generalize byteAt (cl file 0) (8+k)=q at*
             by_cases hq:q=0
             · subst hq
               rw [if_pos rfl] at Hst
               go_wp2
               go_roundw
               case rel=>exact ⟨k+1,by omega,by go_num,by trivial,uh Hst⟩
               case measure=>simp [intOf];omega
             · have dq:((q:Int) != 0)=true:=by rw [bne_iff_ne];omega
               rw [if_neg hq] at Hst
               go_wp2
               go_ret
               exact Or.inl ⟨uh Hst,rfl,uh H1,uh H2⟩
           · have hk56:k=56:=by omega
             subst hk56
             have e:headGood file=true:=uh He
             have E:=hide e
             clear e He
             have hR0:R.L=[]:=by
               have:=(uh H1).rowL.2
               rcases this with ⟨_,e⟩ | ⟨g',cap',cur,e,_⟩
               · exact List.eq_nil_of_length_eq_zero e
               · cases e
             have hf1:FRow wr (.slice (some ⟨g,0,none⟩) file.length cap) file:=hf.kept (uh H2) (fun g' hg' e'=>by
               subst e'
               exact row_ne hf.row h.blk (by decide) _ hg' rfl)
             have Hstart:Hid (FileAt wr f (.slice none 0 0) (.slice none 0 0) { R with L:=padTo file 0 }):=by
               have e:padTo file 0=R.L:=by rw [hR0];rfl
               rw [e];exact uh H1
             have HF1:=hide hf1
             have Hbx:=hide hbx1
             have hgf:g≠f:=row_ne hf.row h.blk (by decide) _ rfl
             have hfl:=h.lt
             clear hR0 hf1 hbx1 hcv'
             obtain ⟨i0,hi0,hz0,hz1,hz2⟩:=info_parts Tryz.infoClus
             go_wp2
             generalize Value.int .i64 ((8+56:Nat):Int)=s7
             go_loopw [8] (fun i w'=> ∃ (k:Nat) (Lv:Value),k≤x∧i= .int .i64 k∧FileAt w' f Lv (.slice none 0 0) { R with L:=padTo file k }∧Kept (fun k=>k=f) w w'∧
                 w'.heap[w.heap.size]? = some (.cells (cv (cl file 0)).toArray 38 (0,0))∧(∀ g,Lv.ownBlock=some g→w.heap.size<g)) (fun i _=>x - (intOf i).toNat)
             case atStart=>exact ⟨0,.slice none 0 0,by omega,rfl,uh Hstart,uh H2,uh Hbx,fun g hg=>by cases hg⟩
             case round=>
               obtain ⟨k,Lv,hk,rfl,hF,hK,hbx,hLv⟩:=hrel
               clear Hstart HF1 Hbx H1 H2
               have hfk:FRow wr (.slice (some ⟨g,0,none⟩) file.length cap) file:=hf.kept hK (fun g' hg' e'=>by
                 subst e'
                 simp only [Value.ownBlock,Option.some.injEq] at hg'
                 exact hgf hg')
               by_cases hlt:k<x
               · have hfw:FRow (wr.alloc (.cells (cv zc).toArray 38)) (.slice (some ⟨g,0,none⟩) file.length cap) file:=hfk.kept (S:=fun _=>False) ((Kept.refl _ _).alloc _) (fun _ _=>id)
                 have hrow:=hF.rowL
                 rw [show ({ R with L:=padTo file k }:FileR).L=padTo file k from rfl,padTo_length] at hrow
                 have hpl:=padTo_lens hf.lens (k+1)
                 have Hpl:=hide hpl
                 have hsz2:f<wr.heap.size:=hF.lt
                 clear hpl
                 by_cases hin:k<file.length
                 · have din:decide ((k:Int)<(file.length:Int))=true:=by simp;omega
                   have hini:(k:Int)<(file.length:Int):=by omega
                   have l1:=row_has hfw.row hfw.lens k hin
                   have l2:=row_cells hfw.row hfw.lens k hin
                   have hcl:=cl_length hf.lens hin
                   have HF:=hide hF
                   have HK:=hide hK
                   have Hbx:=hide hbx
                   clear hF hK hbx hfw hfk hrow
                   go_wp2
                   have hpe:padTo file (k+1)=padTo file k++[cl file k]:=by rw [padTo_succ,if_pos hin]
                   generalize cl file k=c at*
                   have Hpe:=hide hpe
                   clear hpe l1 l2
                   have hWb:(wr.alloc (.cells (cv c).toArray 38)).heap[wr.heap.size]? = some (.cells (cv c).toArray 38 (0,0)):=heap_alloc_new _ _
                   have HWF:=hide ((uh HF).below ((Below.refl wr.heap.size wr).alloc (Nat.le_refl _) (.cells (cv c).toArray 38)))
                   have HWK:=hide ((uh HK).alloc (.cells (cv c).toArray 38))
                   have HWbx:=hide (show (wr.alloc (.cells (cv c).toArray 38)).heap[w.heap.size]? = some (.cells (cv (cl file 0)).toArray 38 (0,0)) from (Below.heap_alloc _ _ _ (blk_lt (uh Hbx))).trans (uh Hbx))
                   clear HF HK Hbx
                   generalize wr.alloc (.cells (cv c).toArray 38)=W at*
                   have c0:=(uh HWF).cLv
                   have cfz:=(uh HWF).fz
                   have c0': ∀ o,(W.alloc o).cell? ⟨f,0,none⟩=some Lv:=fun o=>by rw [World.cell?_alloc_lt _ _ _ (uh HWF).lt];exact c0
                   have l1:HasAt W.drew wr.heap.size 0 64:=box_has hWb hcl
                   have l2:cellsAt W.drew wr.heap.size 0 64=cv c:=box_cells hWb hcl
                   have Hrow:=hide (uh HWF).rowL
                   rw [show ({ R with L:=padTo file k }:FileR).L=padTo file k from rfl,padTo_length] at Hrow
                   clear hWb
                   have HWX:Hid (FileAt (W.alloc (.cells (cv c).toArray 38)).drew f Lv (.slice none 0 0) { R with L:=padTo file k }):=((uh HWF).below ((Below.refl _ _).alloc (Nat.le_refl _) _)).drew
                   go_region_law ((refine step_append_lies _ (by rfl) _ _ _ (by rfl) 0 38 i0 _ 64 64 Tryz.underlying28 hi0 hz0 hz1 hz2 (by simp [Value.cells,cv_length,zc_length]) (by omega) Lv k (flatC (padTo file k)) (by rfl) (((uh Hrow).alloc _).drew) ⟨W.heap.size,0,none⟩ 1 1 (cv c) (by rfl) (by rw [cv_length,hcl]) (World.news_of_block (cs:=(cv c).toArray) (t:=38) (fr:=(0,0)) (heap_alloc_new W _)) (cv_one c) (by omega) (by unfold maxLen;omega) (by omega) (by omega) (W.heap.size+1) (by simp) ?_;intro g5 cap5 w5 hown5 hgrow hat hlt5;have b5:=grown_blk hgrow (uh HWX).blk (uh HWX).neL;have c5:w5.cell? ⟨f,0,none⟩=some Lv:=(cell_blk b5 0).trans rfl;have z5:w5.frozen? ⟨f,0,none⟩=false:=frozen_blk b5 0))
                   all_goals
                     have S5:=hide (head_step (uh HWF) (uh HWK) (uh HWbx) hLv hfl (uh Hpe) (uh Hpl) hown5 hgrow hat)
                     go_wp2
                     go_roundw
                     case rel=>exact ⟨k+1,.slice (some ⟨g5,0,none⟩) (k+1) cap5,by omega,by go_num,(uh S5).1,(uh S5).2.1,(uh S5).2.2.1,(uh S5).2.2.2⟩
                     case measure=>simp [intOf];omega
                 · have din:decide ((k:Int)<(file.length:Int))=false:=by simp;omega
                   have hcl:=zc_length
                   have HF:=hide hF
                   have HK:=hide hK
                   have Hbx:=hide hbx
                   clear hF hK hbx hfw hfk hrow
                   go_wp2
                   have hpe:padTo file (k+1)=padTo file k++[zc]:=by rw [padTo_succ,if_neg hin]
                   generalize zc=c at*
                   have Hpe:=hide hpe
                   clear hpe
                   have hWb:(wr.alloc (.cells (cv c).toArray 38)).heap[wr.heap.size]? = some (.cells (cv c).toArray 38 (0,0)):=heap_alloc_new _ _
                   have HWF:=hide ((uh HF).below ((Below.refl wr.heap.size wr).alloc (Nat.le_refl _) (.cells (cv c).toArray 38)))
                   have HWK:=hide ((uh HK).alloc (.cells (cv c).toArray 38))
                   have HWbx:=hide (show (wr.alloc (.cells (cv c).toArray 38)).heap[w.heap.size]? = some (.cells (cv (cl file 0)).toArray 38 (0,0)) from (Below.heap_alloc _ _ _ (blk_lt (uh Hbx))).trans (uh Hbx))
                   clear HF HK Hbx
                   generalize wr.alloc (.cells (cv c).toArray 38)=W at*
                   have c0:=(uh HWF).cLv
                   have cfz:=(uh HWF).fz
                   have c0': ∀ o,(W.alloc o).cell? ⟨f,0,none⟩=some Lv:=fun o=>by rw [World.cell?_alloc_lt _ _ _ (uh HWF).lt];exact c0
                   have l1:HasAt W.drew wr.heap.size 0 64:=box_has hWb hcl
                   have l2:cellsAt W.drew wr.heap.size 0 64=cv c:=box_cells hWb hcl
                   have Hrow:=hide (uh HWF).rowL
                   rw [show ({ R with L:=padTo file k }:FileR).L=padTo file k from rfl,padTo_length] at Hrow
                   clear hWb
                   have HWX:Hid (FileAt (W.alloc (.cells (cv c).toArray 38)).drew f Lv (.slice none 0 0) { R with L:=padTo file k }):=((uh HWF).below ((Below.refl _ _).alloc (Nat.le_refl _) _)).drew
                   go_region_law ((refine step_append_lies _ (by rfl) _ _ _ (by rfl) 0 38 i0 _ 64 64 Tryz.underlying28 hi0 hz0 hz1 hz2 (by simp [Value.cells,cv_length,hcl]) (by omega) Lv k (flatC (padTo file k)) (by rfl) (((uh Hrow).alloc _).drew) ⟨W.heap.size,0,none⟩ 1 1 (cv c) (by rfl) (by rw [cv_length,hcl]) (World.news_of_block (cs:=(cv c).toArray) (t:=38) (fr:=(0,0)) (heap_alloc_new W _)) (cv_one c) (by omega) (by unfold maxLen;omega) (by omega) (by omega) (W.heap.size+1) (by simp) ?_;intro g5 cap5 w5 hown5 hgrow hat hlt5;have b5:=grown_blk hgrow (uh HWX).blk (uh HWX).neL;have c5:w5.cell? ⟨f,0,none⟩=some Lv:=(cell_blk b5 0).trans rfl;have z5:w5.frozen? ⟨f,0,none⟩=false:=frozen_blk b5 0))
                   all_goals
                     have S5:=hide (head_step (uh HWF) (uh HWK) (uh HWbx) hLv hfl (uh Hpe) (uh Hpl) hown5 hgrow hat)
                     go_wp2
                     go_roundw
                     case rel=>exact ⟨k+1,.slice (some ⟨g5,0,none⟩) (k+1) cap5,by omega,by go_num,(uh S5).1,(uh S5).2.1,(uh S5).2.2.1,(uh S5).2.2.2⟩
                     case measure=>simp [intOf];omega
               · have hkx:k=x:=by omega
                 have hL0:padTo file k=padTo file (num (cl file 0) 4):=by rw [hkx,uh Hx]
                 rw [hL0] at hF
                 have c1:=hF.cRv
                 have hsz2:f<wr.heap.size:=hF.lt
                 have l1:HasAt wr.drew w.heap.size 0 64:=box_has hbx hlen0
                 have l2:cellsAt wr.drew w.heap.size 0 64=cv (cl file 0):=box_cells hbx hlen0
                 have Hn:=hide (number_any (cl file 0) 6 wr.drew hlen0 (by omega) (by omega))
                 rw [show (6:Int).toNat=6 from rfl] at Hn
                 have HF:=hide hF
                 have HK:=hide hK
                 have hrl:=num_lt (cl file 0) 6
                 clear hF hK hbx hfk hkx hL0
                 obtain ⟨i1,hi1,hy0,hy1,hy2⟩:=info_parts Tryz.infoRoot
                 generalize hrn:num (cl file 0) 6=rn at*
                 have Hrn:=hide hrn
                 clear hrn
                 go_wp2
                 go_region_law (first
                   | (refine step_append_lies _ (by rfl) _ _ _ (by rfl) 0 132 i1 _ 3 32 Tryz.underlying90 hi1 hy0 hy1 hy2 rfl (by omega) (.slice none 0 0) 0 [] (by rfl) (World.ownsRow_nil _ _ _ _) ⟨w6.heap.size,0,none⟩ 1 1 (rootCells ⟨rn,0,[]⟩) (by rfl) (by rfl) (World.news_of_block (cs:=(rootCells ⟨rn,0,[]⟩).toArray) (t:=132) (fr:=(0,0)) (heap_alloc_new w6 _)) (by simp [rootCells,Value.oneCell']) (by omega) (by unfold maxLen;omega) (by omega) (by omega) (w6.heap.size+1) (by simp) ?_
                      intro g5 cap5 w5 hown5 hgrow hat hlt5
                      have b5:=grown_blk hgrow ((uh F6).below ((Below.refl _ _).alloc (Nat.le_refl _) (.cells (rootCells ⟨rn,0,[]⟩).toArray 132))).blk ((uh F6).neR)
                      have c5:w5.cell? ⟨f,1,none⟩=some (.slice none 0 0):=(cell_blk b5 1).trans rfl
                      have z5:w5.frozen? ⟨f,1,none⟩=false:=frozen_blk b5 1)
                   | (go_simp
                      go_at_call 136
                      refine (uh Hn).mono ?_
                      rintro e w6 ⟨rfl,hb6⟩
                      have F6:=hide ((uh HF).drew.below hb6)
                      have K6:=hide ((uh HK).drew.trans (Kept.of_below hb6))
                      have c6:=(uh F6).cRv
                      have c6': ∀ o,(w6.alloc o).cell? ⟨f,1,none⟩=some (.slice none 0 0):=fun o=>by rw [World.cell?_alloc_lt _ _ _ (uh F6).lt];exact c6))
                 all_goals
                   go_wp2
                   go_ret
                   refine Or.inr ⟨uh E,rfl,⟨Lv,.slice (some ⟨g5,0,none⟩) 1 cap5,?_,?_,fun g hg=>Nat.le_of_lt (hLv g hg)⟩,?_⟩
                   · rw [uh Hrn]
                     exact ((uh F6).below ((Below.refl _ _).alloc (Nat.le_refl _) (.cells (rootCells ⟨rn,0,[]⟩).toArray 132))).growR hgrow (Q:=[⟨rn,0,[]⟩]) hown5
                   · intro g' hg'
                     simp only [Value.ownBlock,Option.some.injEq] at hg'
                     have hs6:=(uh K6).size
                     rcases hat with hx | hx
                     · cases hx
                     · omega
                   · exact (((uh K6).alloc _).grown hgrow (fun g hg=>by cases hg)).setCell (p:=⟨f,1,none⟩) (Or.inl rfl) _
 · have hbeq:((txt ((cl file 0).take 4)).toList == [86,69,76,77])=false:=by
     rw [beq_eq_false_iff_ne]
     intro e
     apply hv
     rw [show (txt ((cl file 0).take 4)).toList=(cl file 0).take 4 by rw [ByteArray.toList_eq];rfl] at e
     exact e
   have e:headGood file=false:=by rw [uh Hgood,show decide ((cl file 0).take 4=velm)=false by simpa using hv];simp
   have E:=hide e
   have H1:=hide hbelow
   have H2:=hide hkept
   clear e hbelow hkept
   go_wp2
   go_ret
   exact Or.inl ⟨uh E,rfl,uh H1,uh H2⟩
end Go.Proofs.YtknjjjenklfeoaaGreatDoor
