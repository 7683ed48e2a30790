import Derived.Test.YtknjjjenklfeoaaGreatDoorC30
import Derived.Test.YtknjjjenklfeoaaGreatDoorC38
set_option maxHeartbeats 8000000
set_option maxRecDepth 100000
namespace Go.Proofs.YtknjjjenklfeoaaGreatDoor
open Go.RowKit
attribute [local go_sem ↓] loadVar_clus storeVar_clus zeroValue_clus loadVar_op equalIn_clus
attribute [local go_sem] run_loadClus run_storeClus run_zeroClus run_storeClus_new run_loadClus_new zc_length run_loadOp HasAt_drew cellsAt_drew
theorem Vol.inEnts {base:List Clus} {V:VolR} {N0:Nat} {E:List EntR} (h:Vol base V N0 E): ∀ k,k<lenOf (entsOf (cl V.C 5))→InFile V.C ((entsOf (cl V.C 5)).getD k ze).first:=fun k hk=>by
 rw [h.ents.2] at hk
 rw [h.ents.1,pad4_get k hk]
 obtain ⟨r,hr,e⟩:=List.mem_map.1 (h.rootsE hk)
 rw [← e]
 exact h.sound.inFile hr
theorem readOf_same {base:List Clus} {V:VolR} {N0:Nat} {E:List EntR} (h:Vol base V N0 E) (s:ByteArray) (n:Int):refReadOf (dskOf V.C N0 E) s n=readOfR V s n:=by
 unfold refReadOf readOfR
 rcases h.there (s:=s) with ⟨m,hm,_,e1,e2⟩ | ⟨i,hi,e1,e2,_⟩
 · rw [e1,e2,if_neg hm,if_neg hm]
 · rw [e1,e2,if_pos rfl,if_pos rfl,h.ents.1]
   dsimp only
   rw [Int.toNat_natCast,(dsk_name V.C i hi).2]
   unfold blkRead
   cases hb:blockB n with
   | false=>rfl
   | true=>
     rw [if_pos rfl,if_pos rfl]
     have hlt:=blockB_lt hb
     have e3:cl (contentOf V.C ((pad4 E).getD i ze).first) n.toNat=blkOf V.C ((pad4 E).getD i ze).first n.toNat:=by
       unfold cl
       rw [List.getD_eq_getElem?_getD,contentOf_get _ _ _ hlt];rfl
     rw [e3]
def AskN (p i bo x:Nat) (s:ByteArray) (n:Int) (w':World):Prop:=w'.cell? ⟨p,i,none⟩=some (.pointer (some ⟨x,0,none⟩))∧w'.cell? ⟨bo,1,none⟩=some (.int .i64 n)∧w'.cell? ⟨bo,2,none⟩=some (.string s)
set_option linter.unusedSimpArgs false in
theorem asksReadOf_any (w:World) (p b:Nat) (P:PairR) (S:Nat→Prop) (N0:Nat) (E:List EntR) (h:PairAt w p P S) (hst:Stands P N0 E) (o:OpR) (hk:o.kind=7) (hnl:o.name.size≤maxLen):
   Calls Tryz.prog 67 #[.pointer (some ⟨p,0,none⟩),.pointer (some ⟨b,0,none⟩),.agg (opCells o).toArray] w fun e w'=>e= .returned (.bool true)∧Below w.heap.size w w':=by
 have hg:=hst.vol
 have h7:=hg.file.seven
 have hin:=hg.inEnts
 have hsame:refReadOf P.D o.name o.n=readOfR P.V o.name o.n:=by rw [← hst.disk];exact readOf_same hg o.name o.n
 have hD4:P.D.L.length≤1000:=by rw [← hst.disk,dsk_len];have:=hg.file.ents.len;omega
 have hb0:Below w.heap.size w (w.alloc (.cells (opCells o).toArray 80)):=(Below.refl _ _).alloc (Nat.le_refl _) _
 have hbx0:(w.alloc (.cells (opCells o).toArray 80)).heap[w.heap.size]? = some (.cells (opCells o).toArray 80 (0,0)):=heap_alloc_new _ _
 have ck:(w.alloc (.cells (opCells o).toArray 80)).cell? ⟨w.heap.size,0,none⟩=some (.int .i64 7):=by rw [cell_blk hbx0 0,List.getElem?_toArray];show some (Value.int .i64 o.kind)=_;rw [hk]
 have H:=hide h
 have B0:=hide hb0
 have X0:=hide hbx0
 have Hs:=hide hsame
 have c0:=(h.below hb0).c0
 have cn:(w.alloc (.cells (opCells o).toArray 80)).cell? ⟨w.heap.size,1,none⟩=some (.int .i64 o.n):=(cell_blk hbx0 1).trans rfl
 clear h hb0 hbx0 hg hst hsame
 have hrl:(readOfR P.V o.name o.n).1.length=64:=readOfR_length (uh H).dsk.vol.lenC o.name o.n hin
 generalize hrd:readOfR P.V o.name o.n=rd at*
 have Hrd:=hide hrd
 clear hrd
 go_enter Tryz.func67,Tryz.ntmps67
 go_wp2_with fail
 generalize w.alloc (.cells (opCells o).toArray 80)=w0 at*
 have hplt:p<w0.heap.size:=Nat.lt_of_lt_of_le ((uh H).lt _ (uh H).inP) (uh B0).size
 have hwlt:w.heap.size<w0.heap.size:=blk_lt (uh X0)
 have HT:=hide (fun (W:World) (hB:Below w0.heap.size w0 W)=>(show AskN p 0 w.heap.size P.d o.name o.n W from ⟨((uh H).below ((uh B0).trans (hB.mono (uh B0).size))).c0,(cell_blk ((hB.block _ hwlt).trans (uh X0)) 1).trans rfl,(cell_blk ((hB.block _ hwlt).trans (uh X0)) 2).trans rfl⟩))
 have HT1:=hide (fun (W:World) (hB:Below w0.heap.size w0 W)=>(show AskN p 1 w.heap.size P.y o.name o.n W from ⟨((uh H).below ((uh B0).trans (hB.mono (uh B0).size))).c1,(cell_blk ((hB.block _ hwlt).trans (uh X0)) 1).trans rfl,(cell_blk ((hB.block _ hwlt).trans (uh X0)) 2).trans rfl⟩))
 have HR:=hide (fun (W:World) (hB:Below w0.heap.size w0 W)=>diskReadOf_any W P.d P.v P.Cv P.Lv P.V ((uh H).below ((uh B0).trans (hB.mono (uh B0).size))).dsk (by omega) o.name hnl o.n hin)
 rw [uh Hrd] at HR
 have HY:=hide (fun (W:World) (hB:Below w0.heap.size w0 W)=>refReadOf_any W P.y P.Pv P.D ((uh H).below ((uh B0).trans (hB.mono (uh B0).size))).ref hD4 o.name hnl o.n)
 rw [uh Hs] at HY
 have BB:=hide (Below.refl w0.heap.size w0)
 clear c0 cn ck hplt
 have hTone:=uh HT _ (uh BB).drew
 refine wp_region_L (AskN p 0 w.heap.size P.d o.name o.n) 14 (by kernel_rfl) ?_
 refine takeL 0 ?_ (fun W hW=> ?_) hTone ?_
 rotate_left 1
 · (obtain ⟨t0,t1,t2⟩:=hW;go_simp;with_reducible rfl)
 simp only [Act.put,setB,set0,setS]
 refine takeL 1 ?_ (fun W hW=> ?_) hTone ?_
 rotate_left 1
 · (obtain ⟨t0,t1,t2⟩:=hW;go_simp;with_reducible rfl)
 simp only [Act.put,setB,set0,setS]
 refine takeL 2 ?_ (fun W hW=> ?_) hTone ?_
 rotate_left 1
 · (obtain ⟨t0,t1,t2⟩:=hW;go_simp;with_reducible rfl)
 simp only [Act.put,setB,set0,setS]
 refine takeL 3 ?_ (fun W hW=> ?_) hTone ?_
 rotate_left 1
 · (obtain ⟨t0,t1,t2⟩:=hW;go_simp;with_reducible rfl)
 simp only [Act.put,setB,set0,setS]
 refine takeL 4 ?_ (fun W hW=> ?_) hTone ?_
 rotate_left 1
 · (obtain ⟨t0,t1,t2⟩:=hW;go_simp;with_reducible rfl)
 simp only [Act.put,setB,set0,setS]
 refine takeL 5 ?_ (fun W hW=> ?_) hTone ?_
 rotate_left 1
 · (obtain ⟨t0,t1,t2⟩:=hW;go_simp;with_reducible rfl)
 simp only [Act.put,setB,set0,setS]
 refine takeL 6 ?_ (fun W hW=> ?_) hTone ?_
 rotate_left 1
 · (obtain ⟨t0,t1,t2⟩:=hW;go_simp;with_reducible rfl)
 simp only [Act.put,setB,set0,setS]
 refine takeL 7 ?_ (fun W hW=> ?_) hTone ?_
 rotate_left 1
 · (obtain ⟨t0,t1,t2⟩:=hW;go_simp;with_reducible rfl)
 simp only [Act.put,setB,set0,setS]
 refine wpAnyL_two (i:=8) (j:=12) (by kernel_rfl) rfl rfl (fun KAone hKAone=> ?_) (fun KBone hKBone=> ?_)
 · go_simp
   go_at_call 50
   refine (uh HR _ (uh BB).drew).mono ?_
   rintro e w1one ⟨rfl,b1one⟩
   have B1one:Hid (Below w0.heap.size w0 w1one):=(uh BB).drew.trans (b1one.mono (uh BB).size)
   have B2one:Hid (Below w0.heap.size w0 w1one):=((Below.refl _ w0).drew).trans b1one
   have hT1one:=uh HT _ (uh B1one)
   have hT2one:=fun x=>uh HT _ ((uh B1one).alloc (uh B1one).size x)
   clear b1one
   refine hKAone _ _ (Or.inr hT1one) ?_
   try simp only [Act.put,setB,set0,setS]
   refine takeL 9 ?_ (fun W hW=> ?_) hT1one ?_
   rotate_left 1
   · (obtain ⟨t0,t1,t2⟩:=hW;go_simp;with_reducible rfl)
   simp only [Act.put,setB,set0,setS]
   refine takeL 10 ?_ (fun W hW=> ?_) hT1one ?_
   rotate_left 1
   · (obtain ⟨t0,t1,t2⟩:=hW;go_simp;with_reducible rfl)
   simp only [Act.put,setB,set0,setS]
   refine takeL 11 ?_ (fun W hW=> ?_) hT1one ?_
   rotate_left 1
   · (obtain ⟨t0,t1,t2⟩:=hW;go_simp;with_reducible rfl)
   simp only [Act.put,setB,set0,setS]
   refine wpAnyL_one (i:=12) (by kernel_rfl) rfl fun K12 hK12=> ?_
   go_simp
   refine hK12 _ _ (Or.inr (hT2one _)) ?_
   try simp only [Act.put,setB,set0,setS]
   refine wpAnyL_one (i:=13) (by kernel_rfl) rfl fun K13 hK13=> ?_
   go_simp
   refine hK13 _ _ (Or.inr (hT2one _)) ?_
   try simp only [Act.put,setB,set0,setS]
   refine wpAnyL_one (i:=14) (by kernel_rfl) rfl fun K14 hK14=> ?_
   go_simp
   refine hK14 _ _ (Or.inl rfl) ?_
   try simp only [Act.put,setB,set0,setS]
   refine wpAnyL_done (by kernel_rfl) ?_ _
   have Xone:Hid ((w1one.alloc (.cells (cv rd.1).toArray 38)).heap[w1one.heap.size]? = some (.cells (cv rd.1).toArray 38 (0,0))):=heap_alloc_new _ _
   have Cone:Hid (Below w0.heap.size w0 (w1one.alloc (.cells (cv rd.1).toArray 38))):=(uh B2one).alloc (uh B2one).size _
   have Done:Hid (Below w0.heap.size w0 (w1one.alloc (.cells (cv rd.1).toArray 38))):=(uh B1one).alloc (uh B1one).size _
   have Kone:Hid (∀ k o,w0.heap[k]? = some o→(w1one.alloc (.cells (cv rd.1).toArray 38)).heap[k]? = some o):=fun k o h=>((uh Cone).block k (blk_lt h)).trans h
   clear hTone hT1one hT2one hK12 hK13 hK14 hKAone B1one B2one
   generalize w1one.alloc (.cells (cv rd.1).toArray 38)=vone at*
   generalize w1one.heap.size=cone at*
   go_wp2_with fail
   have hTtwo:=uh HT1 _ (uh Done).drew
   refine wp_region_L (AskN p 1 w.heap.size P.y o.name o.n) 14 (by kernel_rfl) ?_
   refine takeL 0 ?_ (fun W hW=> ?_) hTtwo ?_
   rotate_left 1
   · (obtain ⟨t0,t1,t2⟩:=hW;go_simp;with_reducible rfl)
   simp only [Act.put,setB,set0,setS]
   refine takeL 1 ?_ (fun W hW=> ?_) hTtwo ?_
   rotate_left 1
   · (obtain ⟨t0,t1,t2⟩:=hW;go_simp;with_reducible rfl)
   simp only [Act.put,setB,set0,setS]
   refine takeL 2 ?_ (fun W hW=> ?_) hTtwo ?_
   rotate_left 1
   · (obtain ⟨t0,t1,t2⟩:=hW;go_simp;with_reducible rfl)
   simp only [Act.put,setB,set0,setS]
   refine takeL 3 ?_ (fun W hW=> ?_) hTtwo ?_
   rotate_left 1
   · (obtain ⟨t0,t1,t2⟩:=hW;go_simp;with_reducible rfl)
   simp only [Act.put,setB,set0,setS]
   refine takeL 4 ?_ (fun W hW=> ?_) hTtwo ?_
   rotate_left 1
   · (obtain ⟨t0,t1,t2⟩:=hW;go_simp;with_reducible rfl)
   simp only [Act.put,setB,set0,setS]
   refine takeL 5 ?_ (fun W hW=> ?_) hTtwo ?_
   rotate_left 1
   · (obtain ⟨t0,t1,t2⟩:=hW;go_simp;with_reducible rfl)
   simp only [Act.put,setB,set0,setS]
   refine takeL 6 ?_ (fun W hW=> ?_) hTtwo ?_
   rotate_left 1
   · (obtain ⟨t0,t1,t2⟩:=hW;go_simp;with_reducible rfl)
   simp only [Act.put,setB,set0,setS]
   refine takeL 7 ?_ (fun W hW=> ?_) hTtwo ?_
   rotate_left 1
   · (obtain ⟨t0,t1,t2⟩:=hW;go_simp;with_reducible rfl)
   simp only [Act.put,setB,set0,setS]
   refine wpAnyL_two (i:=8) (j:=12) (by kernel_rfl) rfl rfl (fun KAtwo hKAtwo=> ?_) (fun KBtwo hKBtwo=> ?_)
   · go_simp
     go_at_call 127
     refine (uh HY _ (uh Done).drew).mono ?_
     rintro e w1two ⟨rfl,b1two⟩
     have B1two:Hid (Below w0.heap.size w0 w1two):=(uh Done).drew.trans (b1two.mono (uh Done).size)
     have B2two:Hid (Below vone.heap.size vone w1two):=((Below.refl _ vone).drew).trans b1two
     have hT1two:=uh HT1 _ (uh B1two)
     have hT2two:=fun x=>uh HT1 _ ((uh B1two).alloc (uh B1two).size x)
     clear b1two
     refine hKAtwo _ _ (Or.inr hT1two) ?_
     try simp only [Act.put,setB,set0,setS]
     refine takeL 9 ?_ (fun W hW=> ?_) hT1two ?_
     rotate_left 1
     · (obtain ⟨t0,t1,t2⟩:=hW;go_simp;with_reducible rfl)
     simp only [Act.put,setB,set0,setS]
     refine takeL 10 ?_ (fun W hW=> ?_) hT1two ?_
     rotate_left 1
     · (obtain ⟨t0,t1,t2⟩:=hW;go_simp;with_reducible rfl)
     simp only [Act.put,setB,set0,setS]
     refine takeL 11 ?_ (fun W hW=> ?_) hT1two ?_
     rotate_left 1
     · (obtain ⟨t0,t1,t2⟩:=hW;go_simp;with_reducible rfl)
     simp only [Act.put,setB,set0,setS]
     refine wpAnyL_one (i:=12) (by kernel_rfl) rfl fun K12 hK12=> ?_
     go_simp
     refine hK12 _ _ (Or.inr (hT2two _)) ?_
     try simp only [Act.put,setB,set0,setS]
     refine wpAnyL_one (i:=13) (by kernel_rfl) rfl fun K13 hK13=> ?_
     go_simp
     refine hK13 _ _ (Or.inr (hT2two _)) ?_
     try simp only [Act.put,setB,set0,setS]
     refine wpAnyL_one (i:=14) (by kernel_rfl) rfl fun K14 hK14=> ?_
     go_simp
     refine hK14 _ _ (Or.inl rfl) ?_
     try simp only [Act.put,setB,set0,setS]
     refine wpAnyL_done (by kernel_rfl) ?_ _
     have Xtwo:Hid ((w1two.alloc (.cells (cv rd.1).toArray 38)).heap[w1two.heap.size]? = some (.cells (cv rd.1).toArray 38 (0,0))):=heap_alloc_new _ _
     have Ctwo:Hid (Below vone.heap.size vone (w1two.alloc (.cells (cv rd.1).toArray 38))):=(uh B2two).alloc (uh B2two).size _
     have Dtwo:Hid (Below w0.heap.size w0 (w1two.alloc (.cells (cv rd.1).toArray 38))):=(uh B1two).alloc (uh B1two).size _
     have Ktwo:Hid (∀ k o,vone.heap[k]? = some o→(w1two.alloc (.cells (cv rd.1).toArray 38)).heap[k]? = some o):=fun k o h=>((uh Ctwo).block k (blk_lt h)).trans h
     clear hTtwo hT1two hT2two hK12 hK13 hK14 hKAtwo B1two B2two
     generalize w1two.alloc (.cells (cv rd.1).toArray 38)=vtwo at*
     generalize w1two.heap.size=ctwo at*
     have XX1:=hide (uh Ktwo _ _ (uh Xone))
     have l1:HasAt vtwo cone 0 64:=box_has (uh XX1) hrl
     have l2:cellsAt vtwo cone 0 64=cv rd.1:=box_cells (uh XX1) hrl
     have l3:HasAt vtwo ctwo 0 64:=box_has (uh Xtwo) hrl
     have l4:cellsAt vtwo ctwo 0 64=cv rd.1:=box_cells (uh Xtwo) hrl
     have he: ∀ w,(eqClus (.agg (cv rd.1).toArray) (.agg (cv rd.1).toArray)).run Tryz.prog w= .ok true w:=fun w=>by rw [run_eqClus hrl hrl,decide_eq_true rfl]
     have hnum:=hide (fun W=>num_any ((rd.2:Nat):Int) W)
     clear HT HT1 HR HY Ctwo Cone Xone Xtwo XX1 Ktwo Kone
     go_wp2_with fail
     refine (uh hnum _).mono ?_
     rintro e w9 ⟨rfl,rfl⟩
     go_wp2
     go_ret
     exact ⟨rfl,(uh B0).trans ((uh Dtwo).mono (uh B0).size)⟩
   · go_simp
     have Etwo:Hid (Below w0.heap.size w0 (vone.alloc (.cells (cv zc).toArray 38))):=(uh Done).alloc (uh Done).size _
     have Ztwo:Hid ((vone.alloc (.cells (cv zc).toArray 38)).heap[vone.heap.size]? = some (.cells (cv zc).toArray 38 (0,0))):=heap_alloc_new _ _
     refine hKBtwo _ _ (Or.inr (uh HT1 _ (uh Etwo).drew)) ?_
     try simp only [Act.put,setB,set0,setS]
     refine wpAnyL_one (i:=8) (by kernel_rfl) rfl fun K8 hK8=> ?_
     go_simp
     go_at_call 127
     refine (uh HY _ (uh Etwo).drew).mono ?_
     rintro e w1two ⟨rfl,b1two⟩
     have B1two:Hid (Below w0.heap.size w0 w1two):=(uh Etwo).drew.trans (b1two.mono (uh Etwo).size)
     have B2two:Hid (Below vone.heap.size vone w1two):=(((Below.refl _ vone).alloc (Nat.le_refl _) _).drew).trans (b1two.mono (by simp))
     have Z1two:=hide ((b1two.block vone.heap.size (by simp)).trans (uh Ztwo))
     have hT1two:=uh HT1 _ (uh B1two)
     have httwo:=box_put (uh Z1two) zc_length
     have hT2two:=uh HT1 _ (below_setCells (uh B1two) (b:=vone.heap.size) (uh Done).size 0 (cv rd.1))
     clear b1two
     refine hK8 _ _ (Or.inr hT1two) ?_
     try simp only [Act.put,setB,set0,setS]
     refine takeL 9 ?_ (fun W hW=> ?_) hT1two ?_
     rotate_left 1
     · (obtain ⟨t0,t1,t2⟩:=hW;go_simp;with_reducible rfl)
     simp only [Act.put,setB,set0,setS]
     refine takeL 10 ?_ (fun W hW=> ?_) hT1two ?_
     rotate_left 1
     · (obtain ⟨t0,t1,t2⟩:=hW;go_simp;with_reducible rfl)
     simp only [Act.put,setB,set0,setS]
     refine takeL 11 ?_ (fun W hW=> ?_) hT1two ?_
     rotate_left 1
     · (obtain ⟨t0,t1,t2⟩:=hW;go_simp;with_reducible rfl)
     simp only [Act.put,setB,set0,setS]
     refine wpAnyL_one (i:=13) (by kernel_rfl) rfl fun K13 hK13=> ?_
     go_simp
     refine hK13 _ _ (Or.inr hT2two) ?_
     try simp only [Act.put,setB,set0,setS]
     refine wpAnyL_one (i:=14) (by kernel_rfl) rfl fun K14 hK14=> ?_
     go_simp
     refine hK14 _ _ (Or.inl rfl) ?_
     try simp only [Act.put,setB,set0,setS]
     refine wpAnyL_done (by kernel_rfl) ?_ _
     have Xtwo:Hid ((w1two.setCells vone.heap.size 0 (cv rd.1)).heap[vone.heap.size]? = some (.cells (cv rd.1).toArray 38 (0,0))):=box_store (uh Z1two) zc_length hrl
     have Ctwo:Hid (Below vone.heap.size vone (w1two.setCells vone.heap.size 0 (cv rd.1))):=below_setCells (uh B2two) (Nat.le_refl _) 0 _
     have Dtwo:Hid (Below w0.heap.size w0 (w1two.setCells vone.heap.size 0 (cv rd.1))):=below_setCells (uh B1two) (uh Done).size 0 _
     have Ktwo:Hid (∀ k o,vone.heap[k]? = some o→(w1two.setCells vone.heap.size 0 (cv rd.1)).heap[k]? = some o):=fun k o h=>((uh Ctwo).block k (blk_lt h)).trans h
     clear hTtwo hT1two hT2two httwo hK8 hK13 hK14 hKBtwo B1two B2two Ztwo Z1two Etwo
     generalize w1two.setCells vone.heap.size 0 (cv rd.1)=vtwo at*
     generalize vone.heap.size=ctwo at Xtwo ⊢
     have XX1:=hide (uh Ktwo _ _ (uh Xone))
     have l1:HasAt vtwo cone 0 64:=box_has (uh XX1) hrl
     have l2:cellsAt vtwo cone 0 64=cv rd.1:=box_cells (uh XX1) hrl
     have l3:HasAt vtwo ctwo 0 64:=box_has (uh Xtwo) hrl
     have l4:cellsAt vtwo ctwo 0 64=cv rd.1:=box_cells (uh Xtwo) hrl
     have he: ∀ w,(eqClus (.agg (cv rd.1).toArray) (.agg (cv rd.1).toArray)).run Tryz.prog w= .ok true w:=fun w=>by rw [run_eqClus hrl hrl,decide_eq_true rfl]
     have hnum:=hide (fun W=>num_any ((rd.2:Nat):Int) W)
     clear HT HT1 HR HY Ctwo Cone Xone Xtwo XX1 Ktwo Kone
     go_wp2_with fail
     refine (uh hnum _).mono ?_
     rintro e w9 ⟨rfl,rfl⟩
     go_wp2
     go_ret
     exact ⟨rfl,(uh B0).trans ((uh Dtwo).mono (uh B0).size)⟩
 · go_simp
   have Eone:Hid (Below w0.heap.size w0 (w0.alloc (.cells (cv zc).toArray 38))):=(uh BB).alloc (uh BB).size _
   have Zone:Hid ((w0.alloc (.cells (cv zc).toArray 38)).heap[w0.heap.size]? = some (.cells (cv zc).toArray 38 (0,0))):=heap_alloc_new _ _
   refine hKBone _ _ (Or.inr (uh HT _ (uh Eone).drew)) ?_
   try simp only [Act.put,setB,set0,setS]
   refine wpAnyL_one (i:=8) (by kernel_rfl) rfl fun K8 hK8=> ?_
   go_simp
   go_at_call 50
   refine (uh HR _ (uh Eone).drew).mono ?_
   rintro e w1one ⟨rfl,b1one⟩
   have B1one:Hid (Below w0.heap.size w0 w1one):=(uh Eone).drew.trans (b1one.mono (uh Eone).size)
   have B2one:Hid (Below w0.heap.size w0 w1one):=(((Below.refl _ w0).alloc (Nat.le_refl _) _).drew).trans (b1one.mono (by simp))
   have Z1one:=hide ((b1one.block w0.heap.size (by simp)).trans (uh Zone))
   have hT1one:=uh HT _ (uh B1one)
   have htone:=box_put (uh Z1one) zc_length
   have hT2one:=uh HT _ (below_setCells (uh B1one) (b:=w0.heap.size) (uh BB).size 0 (cv rd.1))
   clear b1one
   refine hK8 _ _ (Or.inr hT1one) ?_
   try simp only [Act.put,setB,set0,setS]
   refine takeL 9 ?_ (fun W hW=> ?_) hT1one ?_
   rotate_left 1
   · (obtain ⟨t0,t1,t2⟩:=hW;go_simp;with_reducible rfl)
   simp only [Act.put,setB,set0,setS]
   refine takeL 10 ?_ (fun W hW=> ?_) hT1one ?_
   rotate_left 1
   · (obtain ⟨t0,t1,t2⟩:=hW;go_simp;with_reducible rfl)
   simp only [Act.put,setB,set0,setS]
   refine takeL 11 ?_ (fun W hW=> ?_) hT1one ?_
   rotate_left 1
   · (obtain ⟨t0,t1,t2⟩:=hW;go_simp;with_reducible rfl)
   simp only [Act.put,setB,set0,setS]
   refine wpAnyL_one (i:=13) (by kernel_rfl) rfl fun K13 hK13=> ?_
   go_simp
   refine hK13 _ _ (Or.inr hT2one) ?_
   try simp only [Act.put,setB,set0,setS]
   refine wpAnyL_one (i:=14) (by kernel_rfl) rfl fun K14 hK14=> ?_
   go_simp
   refine hK14 _ _ (Or.inl rfl) ?_
   try simp only [Act.put,setB,set0,setS]
   refine wpAnyL_done (by kernel_rfl) ?_ _
   have Xone:Hid ((w1one.setCells w0.heap.size 0 (cv rd.1)).heap[w0.heap.size]? = some (.cells (cv rd.1).toArray 38 (0,0))):=box_store (uh Z1one) zc_length hrl
   have Cone:Hid (Below w0.heap.size w0 (w1one.setCells w0.heap.size 0 (cv rd.1))):=below_setCells (uh B2one) (Nat.le_refl _) 0 _
   have Done:Hid (Below w0.heap.size w0 (w1one.setCells w0.heap.size 0 (cv rd.1))):=below_setCells (uh B1one) (uh BB).size 0 _
   have Kone:Hid (∀ k o,w0.heap[k]? = some o→(w1one.setCells w0.heap.size 0 (cv rd.1)).heap[k]? = some o):=fun k o h=>((uh Cone).block k (blk_lt h)).trans h
   clear hTone hT1one hT2one htone hK8 hK13 hK14 hKBone B1one B2one Zone Z1one Eone
   generalize w1one.setCells w0.heap.size 0 (cv rd.1)=vone at*
   generalize w0.heap.size=cone at Xone ⊢
   go_wp2_with fail
   have hTtwo:=uh HT1 _ (uh Done).drew
   refine wp_region_L (AskN p 1 w.heap.size P.y o.name o.n) 14 (by kernel_rfl) ?_
   refine takeL 0 ?_ (fun W hW=> ?_) hTtwo ?_
   rotate_left 1
   · (obtain ⟨t0,t1,t2⟩:=hW;go_simp;with_reducible rfl)
   simp only [Act.put,setB,set0,setS]
   refine takeL 1 ?_ (fun W hW=> ?_) hTtwo ?_
   rotate_left 1
   · (obtain ⟨t0,t1,t2⟩:=hW;go_simp;with_reducible rfl)
   simp only [Act.put,setB,set0,setS]
   refine takeL 2 ?_ (fun W hW=> ?_) hTtwo ?_
   rotate_left 1
   · (obtain ⟨t0,t1,t2⟩:=hW;go_simp;with_reducible rfl)
   simp only [Act.put,setB,set0,setS]
   refine takeL 3 ?_ (fun W hW=> ?_) hTtwo ?_
   rotate_left 1
   · (obtain ⟨t0,t1,t2⟩:=hW;go_simp;with_reducible rfl)
   simp only [Act.put,setB,set0,setS]
   refine takeL 4 ?_ (fun W hW=> ?_) hTtwo ?_
   rotate_left 1
   · (obtain ⟨t0,t1,t2⟩:=hW;go_simp;with_reducible rfl)
   simp only [Act.put,setB,set0,setS]
   refine takeL 5 ?_ (fun W hW=> ?_) hTtwo ?_
   rotate_left 1
   · (obtain ⟨t0,t1,t2⟩:=hW;go_simp;with_reducible rfl)
   simp only [Act.put,setB,set0,setS]
   refine takeL 6 ?_ (fun W hW=> ?_) hTtwo ?_
   rotate_left 1
   · (obtain ⟨t0,t1,t2⟩:=hW;go_simp;with_reducible rfl)
   simp only [Act.put,setB,set0,setS]
   refine takeL 7 ?_ (fun W hW=> ?_) hTtwo ?_
   rotate_left 1
   · (obtain ⟨t0,t1,t2⟩:=hW;go_simp;with_reducible rfl)
   simp only [Act.put,setB,set0,setS]
   refine wpAnyL_two (i:=8) (j:=12) (by kernel_rfl) rfl rfl (fun KAtwo hKAtwo=> ?_) (fun KBtwo hKBtwo=> ?_)
   · go_simp
     go_at_call 127
     refine (uh HY _ (uh Done).drew).mono ?_
     rintro e w1two ⟨rfl,b1two⟩
     have B1two:Hid (Below w0.heap.size w0 w1two):=(uh Done).drew.trans (b1two.mono (uh Done).size)
     have B2two:Hid (Below vone.heap.size vone w1two):=((Below.refl _ vone).drew).trans b1two
     have hT1two:=uh HT1 _ (uh B1two)
     have hT2two:=fun x=>uh HT1 _ ((uh B1two).alloc (uh B1two).size x)
     clear b1two
     refine hKAtwo _ _ (Or.inr hT1two) ?_
     try simp only [Act.put,setB,set0,setS]
     refine takeL 9 ?_ (fun W hW=> ?_) hT1two ?_
     rotate_left 1
     · (obtain ⟨t0,t1,t2⟩:=hW;go_simp;with_reducible rfl)
     simp only [Act.put,setB,set0,setS]
     refine takeL 10 ?_ (fun W hW=> ?_) hT1two ?_
     rotate_left 1
     · (obtain ⟨t0,t1,t2⟩:=hW;go_simp;with_reducible rfl)
     simp only [Act.put,setB,set0,setS]
     refine takeL 11 ?_ (fun W hW=> ?_) hT1two ?_
     rotate_left 1
     · (obtain ⟨t0,t1,t2⟩:=hW;go_simp;with_reducible rfl)
     simp only [Act.put,setB,set0,setS]
     refine wpAnyL_one (i:=12) (by kernel_rfl) rfl fun K12 hK12=> ?_
     go_simp
     refine hK12 _ _ (Or.inr (hT2two _)) ?_
     try simp only [Act.put,setB,set0,setS]
     refine wpAnyL_one (i:=13) (by kernel_rfl) rfl fun K13 hK13=> ?_
     go_simp
     refine hK13 _ _ (Or.inr (hT2two _)) ?_
     try simp only [Act.put,setB,set0,setS]
     refine wpAnyL_one (i:=14) (by kernel_rfl) rfl fun K14 hK14=> ?_
     go_simp
     refine hK14 _ _ (Or.inl rfl) ?_
     try simp only [Act.put,setB,set0,setS]
     refine wpAnyL_done (by kernel_rfl) ?_ _
     have Xtwo:Hid ((w1two.alloc (.cells (cv rd.1).toArray 38)).heap[w1two.heap.size]? = some (.cells (cv rd.1).toArray 38 (0,0))):=heap_alloc_new _ _
     have Ctwo:Hid (Below vone.heap.size vone (w1two.alloc (.cells (cv rd.1).toArray 38))):=(uh B2two).alloc (uh B2two).size _
     have Dtwo:Hid (Below w0.heap.size w0 (w1two.alloc (.cells (cv rd.1).toArray 38))):=(uh B1two).alloc (uh B1two).size _
     have Ktwo:Hid (∀ k o,vone.heap[k]? = some o→(w1two.alloc (.cells (cv rd.1).toArray 38)).heap[k]? = some o):=fun k o h=>((uh Ctwo).block k (blk_lt h)).trans h
     clear hTtwo hT1two hT2two hK12 hK13 hK14 hKAtwo B1two B2two
     generalize w1two.alloc (.cells (cv rd.1).toArray 38)=vtwo at*
     generalize w1two.heap.size=ctwo at*
     have XX1:=hide (uh Ktwo _ _ (uh Xone))
     have l1:HasAt vtwo cone 0 64:=box_has (uh XX1) hrl
     have l2:cellsAt vtwo cone 0 64=cv rd.1:=box_cells (uh XX1) hrl
     have l3:HasAt vtwo ctwo 0 64:=box_has (uh Xtwo) hrl
     have l4:cellsAt vtwo ctwo 0 64=cv rd.1:=box_cells (uh Xtwo) hrl
     have he: ∀ w,(eqClus (.agg (cv rd.1).toArray) (.agg (cv rd.1).toArray)).run Tryz.prog w= .ok true w:=fun w=>by rw [run_eqClus hrl hrl,decide_eq_true rfl]
     have hnum:=hide (fun W=>num_any ((rd.2:Nat):Int) W)
     clear HT HT1 HR HY Ctwo Cone Xone Xtwo XX1 Ktwo Kone
     go_wp2_with fail
     refine (uh hnum _).mono ?_
     rintro e w9 ⟨rfl,rfl⟩
     go_wp2
     go_ret
     exact ⟨rfl,(uh B0).trans ((uh Dtwo).mono (uh B0).size)⟩
   · go_simp
     have Etwo:Hid (Below w0.heap.size w0 (vone.alloc (.cells (cv zc).toArray 38))):=(uh Done).alloc (uh Done).size _
     have Ztwo:Hid ((vone.alloc (.cells (cv zc).toArray 38)).heap[vone.heap.size]? = some (.cells (cv zc).toArray 38 (0,0))):=heap_alloc_new _ _
     refine hKBtwo _ _ (Or.inr (uh HT1 _ (uh Etwo).drew)) ?_
     try simp only [Act.put,setB,set0,setS]
     refine wpAnyL_one (i:=8) (by kernel_rfl) rfl fun K8 hK8=> ?_
     go_simp
     go_at_call 127
     refine (uh HY _ (uh Etwo).drew).mono ?_
     rintro e w1two ⟨rfl,b1two⟩
     have B1two:Hid (Below w0.heap.size w0 w1two):=(uh Etwo).drew.trans (b1two.mono (uh Etwo).size)
     have B2two:Hid (Below vone.heap.size vone w1two):=(((Below.refl _ vone).alloc (Nat.le_refl _) _).drew).trans (b1two.mono (by simp))
     have Z1two:=hide ((b1two.block vone.heap.size (by simp)).trans (uh Ztwo))
     have hT1two:=uh HT1 _ (uh B1two)
     have httwo:=box_put (uh Z1two) zc_length
     have hT2two:=uh HT1 _ (below_setCells (uh B1two) (b:=vone.heap.size) (uh Done).size 0 (cv rd.1))
     clear b1two
     refine hK8 _ _ (Or.inr hT1two) ?_
     try simp only [Act.put,setB,set0,setS]
     refine takeL 9 ?_ (fun W hW=> ?_) hT1two ?_
     rotate_left 1
     · (obtain ⟨t0,t1,t2⟩:=hW;go_simp;with_reducible rfl)
     simp only [Act.put,setB,set0,setS]
     refine takeL 10 ?_ (fun W hW=> ?_) hT1two ?_
     rotate_left 1
     · (obtain ⟨t0,t1,t2⟩:=hW;go_simp;with_reducible rfl)
     simp only [Act.put,setB,set0,setS]
     refine takeL 11 ?_ (fun W hW=> ?_) hT1two ?_
     rotate_left 1
     · (obtain ⟨t0,t1,t2⟩:=hW;go_simp;with_reducible rfl)
     simp only [Act.put,setB,set0,setS]
     refine wpAnyL_one (i:=13) (by kernel_rfl) rfl fun K13 hK13=> ?_
     go_simp
     refine hK13 _ _ (Or.inr hT2two) ?_
     try simp only [Act.put,setB,set0,setS]
     refine wpAnyL_one (i:=14) (by kernel_rfl) rfl fun K14 hK14=> ?_
     go_simp
     refine hK14 _ _ (Or.inl rfl) ?_
     try simp only [Act.put,setB,set0,setS]
     refine wpAnyL_done (by kernel_rfl) ?_ _
     have Xtwo:Hid ((w1two.setCells vone.heap.size 0 (cv rd.1)).heap[vone.heap.size]? = some (.cells (cv rd.1).toArray 38 (0,0))):=box_store (uh Z1two) zc_length hrl
     have Ctwo:Hid (Below vone.heap.size vone (w1two.setCells vone.heap.size 0 (cv rd.1))):=below_setCells (uh B2two) (Nat.le_refl _) 0 _
     have Dtwo:Hid (Below w0.heap.size w0 (w1two.setCells vone.heap.size 0 (cv rd.1))):=below_setCells (uh B1two) (uh Done).size 0 _
     have Ktwo:Hid (∀ k o,vone.heap[k]? = some o→(w1two.setCells vone.heap.size 0 (cv rd.1)).heap[k]? = some o):=fun k o h=>((uh Ctwo).block k (blk_lt h)).trans h
     clear hTtwo hT1two hT2two httwo hK8 hK13 hK14 hKBtwo B1two B2two Ztwo Z1two Etwo
     generalize w1two.setCells vone.heap.size 0 (cv rd.1)=vtwo at*
     generalize vone.heap.size=ctwo at Xtwo ⊢
     have XX1:=hide (uh Ktwo _ _ (uh Xone))
     have l1:HasAt vtwo cone 0 64:=box_has (uh XX1) hrl
     have l2:cellsAt vtwo cone 0 64=cv rd.1:=box_cells (uh XX1) hrl
     have l3:HasAt vtwo ctwo 0 64:=box_has (uh Xtwo) hrl
     have l4:cellsAt vtwo ctwo 0 64=cv rd.1:=box_cells (uh Xtwo) hrl
     have he: ∀ w,(eqClus (.agg (cv rd.1).toArray) (.agg (cv rd.1).toArray)).run Tryz.prog w= .ok true w:=fun w=>by rw [run_eqClus hrl hrl,decide_eq_true rfl]
     have hnum:=hide (fun W=>num_any ((rd.2:Nat):Int) W)
     clear HT HT1 HR HY Ctwo Cone Xone Xtwo XX1 Ktwo Kone
     go_wp2_with fail
     refine (uh hnum _).mono ?_
     rintro e w9 ⟨rfl,rfl⟩
     go_wp2
     go_ret
     exact ⟨rfl,(uh B0).trans ((uh Dtwo).mono (uh B0).size)⟩
end Go.Proofs.YtknjjjenklfeoaaGreatDoor
