import Derived.Test.YtknjjjenklfeoaaGreatDoorT35
import Derived.Test.YtknjjjenklfeoaaGreatDoorT04
import Derived.Deep.CutRange
import Derived.Test.YtknjjjenklfeoaaGreatDoorT20
import Derived.Test.YtknjjjenklfeoaaGreatDoorT29
import Derived.Test.YtknjjjenklfeoaaGreatDoorT39
set_option maxHeartbeats 8000000
set_option maxRecDepth 100000
namespace Go.Proofs.YtknjjjenklfeoaaGreatDoor
open Go.RowKit
attribute [local go_sem ↓] loadVar_clus storeVar_clus zeroValue_clus buildSlice_clus loadVar_wr storeVar_wr zeroValue_wr
attribute [local go_sem] run_loadClus run_storeClus run_zeroClus run_storeClus_new run_loadClus_new zc_length run_bsClus run_loadWr run_zeroWr run_storeWr_new
def lastFl (L:List WrR):Nat→Nat
 | 0=>0
 | k+1=>if (wrAt L k).cl<0 then k+1 else lastFl L k
theorem lastFl_le (L:List WrR): ∀ k,lastFl L k≤k
 | 0=>Nat.le_refl _
 | k+1=>by
   have:=lastFl_le L k
   unfold lastFl
   split <;> omega
def awayB (last gn:Nat) (gs:Nat→Bool) (i:Nat):Bool:=decide (last≤i) && (decide (0<gn) && gs ((i - last)%gn))
def cutTo (L:List WrR) (last gn:Nat) (gs:Nat→Bool):Nat→List Clus
 | 0=>[]
 | k+1=>if (wrAt L k).cl<0∨256≤(wrAt L k).cl∨awayB last gn gs k=true then cutTo L last gn gs k else replayOne (cutTo L last gn gs k) (wrAt L k)
structure GRow (w:World) (a:Option Addr) (n:Nat) (gs:Nat→Bool):Prop where
 some:0<n→ ∃ g o,a=some ⟨g,o,none⟩∧g<w.heap.size∧ ∀ i,i<n→w.cell? ⟨g,o+i,none⟩=some (.bool (gs i))
theorem keepCut_any (w:World) (lv:Value) (log:List WrR) (hl:LRow w lv log) (n:Nat) (hn:n≤log.length) (hll:log.length≤1000000000) (ga:Option Addr) (gn gcap:Nat) (gs:Nat→Bool) (hg:GRow w ga gn gs) (hgn:gn≤4000000000000):
   Calls Tryz.prog 30 #[lv,.int .i64 (n:Nat),.slice ga gn gcap] w fun e w'=> ∃ v,e= .returned v∧FRow w' v (cutTo log (lastFl log n) gn gs n)∧(cutTo log (lastFl log n) gn gs n).length≤256∧Below w.heap.size w w':=by
 obtain ⟨la,lcap,rfl⟩:=row_form hl.row
 obtain ⟨i0,hi0,hz0,hz1,hz2⟩:=info_parts Tryz.infoClus
 have HL:=hide hl
 have HGo:=hide hg
 clear hl hg
 have hni:(n:Int)≤(log.length:Int):=by omega
 go_enter Tryz.func30,Tryz.ntmps30
 go_wp2
 go_loopw [7,8] (fun l i w'=> ∃ k:Nat,k≤n∧i= .int .i64 k∧l= .int .i64 (lastFl log k:Nat)∧w'=w) (fun _ i _=>n - (intOf i).toNat)
 case atStart=>exact ⟨0,by omega,rfl,rfl,rfl⟩
 case round=>
   obtain ⟨k,hk,rfl,rfl,hw⟩:=hrel
   have hw:=hw.symm
   subst hw
   by_cases hlt:k<n
   · obtain ⟨g,cap2,e2,_⟩:=row_some (uh HL).row (by omega)
     obtain ⟨rfl,rfl⟩:la=some ⟨g,0,none⟩∧lcap=cap2:=by injection e2 with x1 x2 x3;exact ⟨x1,x3⟩
     have hk2:k<log.length:=by omega
     have hki:(k:Int)<(n:Int):=by omega
     have hkl:(k:Int)<(log.length:Int):=by omega
     have c0:w.cell? ⟨g,k*65,none⟩=some (.int .i64 (wrAt log k).cl):=(uh HL).range k hk2 0 _ rfl
     have Hs:Hid (lastFl log (k+1)=if (wrAt log k).cl<0 then k+1 else lastFl log k):=rfl
     have hll2:=lastFl_le log k
     generalize lastFl log k=lf at*
     generalize (wrAt log k).cl=cx at*
     clear e2
     by_cases hneg:cx<0
     · have dn:decide (cx<0)=true:=by simpa using hneg
       rw [if_pos hneg] at Hs
       go_wp2
       go_roundw
       case rel=>exact ⟨k+1,by omega,by go_num,by rw [uh Hs];go_num,trivial⟩
       case measure=>simp [intOf];omega
     · have dn:decide (cx<0)=false:=by simpa using hneg
       rw [if_neg hneg] at Hs
       go_wp2
       go_roundw
       case rel=>exact ⟨k+1,by omega,by go_num,by rw [uh Hs],trivial⟩
       case measure=>simp [intOf];omega
   · have hkn:k=n:=by omega
     have hki: ¬ (k:Int)<(n:Int):=by omega
     have hlf:=lastFl_le log n
     rw [show lastFl log k=lastFl log n by rw [hkn]]
     clear hkn
     generalize hlfe:lastFl log n=lf at*
     have Hlfe:=hide hlfe
     clear hlfe
     go_wp2
     generalize Value.int .i64 (k:Int)=s8
     go_loopw [9,10] (fun v i w'=> ∃ m:Nat,m≤n∧i= .int .i64 m∧w'.ownsRow w.heap.size 38 64 v (cutTo log lf gn gs m).length (flatC (cutTo log lf gn gs m))∧(∀ c ∈ cutTo log lf gn gs m,c.length=64)∧(cutTo log lf gn gs m).length≤256∧Below w.heap.size w w') (fun _ i _=>n - (intOf i).toNat)
     case atStart=>exact ⟨0,by omega,rfl,World.ownsRow_nil _ _ _ _,fun c hc=>(by cases hc),Nat.zero_le _,Below.refl _ _⟩
     case round=>
       obtain ⟨m,hm,rfl,hrow,hls,hl256,hb⟩:=hrel
       by_cases hlt2:m<n
       · have hlk:=(uh HL).kept (S:=fun _=>False) (Kept.of_below hb) (fun _ _=>id)
         obtain ⟨g,cap2,e2,_⟩:=row_some (uh HL).row (by omega)
         obtain ⟨rfl,rfl⟩:la=some ⟨g,0,none⟩∧lcap=cap2:=by injection e2 with x1 x2 x3;exact ⟨x1,x3⟩
         have hm2:m<log.length:=by omega
         have hmem:=wrAt_mem hm2
         have hdl:=(uh HL).lens _ hmem
         have l1:=hasAt_of_range (n:=65) (hlk.range m hm2) (wrCells_length hdl)
         have l2:=cellsAt_of_range (n:=65) (hlk.range m hm2) (wrCells_length hdl)
         have hmi:(m:Int)<(log.length:Int):=by omega
         have hmk:(m:Int)<(n:Int):=by omega
         have Hs:Hid (cutTo log lf gn gs (m+1)=if (wrAt log m).cl<0∨256≤(wrAt log m).cl∨awayB lf gn gs m=true then cutTo log lf gn gs m else replayOne (cutTo log lf gn gs m) (wrAt log m)):=rfl
         have hgo: ∀ W,Below w.heap.size w W→0<gn→ ∃ gg go,ga=some ⟨gg,go,none⟩∧ ∀ i,i<gn→W.cell? ⟨gg,go+i,none⟩=some (.bool (gs i)):=fun W hB h0=>by
           obtain ⟨gg,go,e,hlt,hc⟩:=(uh HGo).some h0
           exact ⟨gg,go,e,fun i hi=>(World.cell?_of_block (hB.block _ hlt)).trans (hc i hi)⟩
         have Hgo:=hide hgo
         have Hrow:=hide hrow
         have Hb:=hide hb
         have Hls:=hide hls
         clear hrow hb hlk e2 hmem hls hgo
         generalize cutTo log lf gn gs m=l at*
         generalize wrAt log m=x at*
         have hmi':(m:Int)≤1000000000:=by omega
         have hgi:(gn:Int)≤4000000000000:=by omega
         have W1:=hide ((uh Hb).alloc (uh Hb).size (.cells (wrCells x).toArray 104))
         go_upto_region 12 with fail
         go_cut [12] from 35 to 53 (fun s wx=>s= .bool (awayB lf gn gs m)∧wx=wr.alloc (.cells (wrCells x).toArray 104))
         case first=>
           clear l1 l2
           generalize wr.alloc (.cells (wrCells x).toArray 104)=W at*
           by_cases hA:lf≤m
           · have hAi:(lf:Int)≤(m:Int):=by omega
             by_cases h0:0<gn
             · obtain ⟨gg,go,rfl,hc⟩:=uh Hgo W (uh W1) h0
               have hgp:(0:Int)<(gn:Int):=by omega
               have hq:=Nat.mod_lt (m - lf) h0
               have hc:=hc _ hq
               have he:awayB lf gn gs m=gs ((m - lf)%gn):=by unfold awayB;rw [decide_eq_true hA,decide_eq_true h0];rfl
               have He:=hide he
               clear he
               have hr:((m:Int) - (lf:Int)).tmod (gn:Int)=(((m - lf)%gn:Nat):Int):=by
                 rw [show ((m:Int) - (lf:Int))=((m - lf:Nat):Int) by omega,Int.tmod_eq_emod_of_nonneg (by omega)];exact (Int.natCast_emod _ _).symm
               generalize (m - lf)%gn=q at*
               have hqi:(q:Int)<(gn:Int):=by omega
               go_wp2
               go_meet
               exact ⟨by rw [uh He],rfl⟩
             · have h00:gn=0:=by omega
               have He:Hid (awayB lf gn gs m=false):=by show awayB _ _ _ _=_;unfold awayB;rw [decide_eq_false h0];simp
               have hgp: ¬ (0:Int)<(gn:Int):=by omega
               clear h00
               go_wp2
               go_meet
               exact ⟨by rw [uh He],rfl⟩
           · have hAi: ¬ (lf:Int)≤(m:Int):=by omega
             have He:Hid (awayB lf gn gs m=false):=by show awayB _ _ _ _=_;unfold awayB;rw [decide_eq_false hA];rfl
             go_wp2
             go_meet
             exact ⟨by rw [uh He],rfl⟩
         case rest=>
           obtain ⟨rfl,rfl⟩:=hcut
           have y0:(wr.alloc (.cells (wrCells x).toArray 104)).cell? ⟨wr.heap.size,0,none⟩=some (.int .i64 x.cl):=by rw [cell_new];rfl
           by_cases hneg:x.cl<0
           · have dn:decide (x.cl<0)=true:=by simpa using hneg
             have Hl:Hid (cutTo log lf gn gs (m+1)=l):=by have:=uh Hs;rw [if_pos (Or.inl hneg)] at this;exact this
             clear l1 l2
             go_wp2
             go_roundw
             case rel=>exact ⟨m+1,by omega,by go_num,by rw [uh Hl];exact (uh Hrow).alloc _,by rw [uh Hl];exact uh Hls,by rw [uh Hl];exact hl256,uh W1⟩
             case measure=>simp [intOf];omega
           · have dn:decide (x.cl<0)=false:=by simpa using hneg
             by_cases hbig:256≤x.cl
             · have dn2:decide (256≤x.cl)=true:=by simpa using hbig
               have Hl:Hid (cutTo log lf gn gs (m+1)=l):=by have:=uh Hs;rw [if_pos (Or.inr (Or.inl hbig))] at this;exact this
               clear l1 l2
               go_wp2
               go_roundw
               case rel=>exact ⟨m+1,by omega,by go_num,by rw [uh Hl];exact (uh Hrow).alloc _,by rw [uh Hl];exact uh Hls,by rw [uh Hl];exact hl256,uh W1⟩
               case measure=>simp [intOf];omega
             · have dn2:decide (256≤x.cl)=false:=by simpa using hbig
               cases haw:awayB lf gn gs m with
               | true=>
                 have Hl:Hid (cutTo log lf gn gs (m+1)=l):=by have:=uh Hs;rw [if_pos (Or.inr (Or.inr haw))] at this;exact this
                 clear l1 l2
                 go_wp2
                 go_roundw
                 case rel=>exact ⟨m+1,by omega,by go_num,by rw [uh Hl];exact (uh Hrow).alloc _,by rw [uh Hl];exact uh Hls,by rw [uh Hl];exact hl256,uh W1⟩
                 case measure=>simp [intOf];omega
               | false=>
                 obtain ⟨cx,hcx⟩:=Int.eq_ofNat_of_zero_le (show 0≤x.cl by omega)
                 have Hnx:Hid (cutTo log lf gn gs (m+1)=(growTo l (cx+1)).set cx x.data):=by
                   have:=uh Hs
                   rw [if_neg (by rw [haw];simp;omega)] at this
                   unfold replayOne at this
                   rw [if_neg hneg,hcx] at this
                   exact this
                 rw [hcx] at y0 dn dn2
                 have hc256:cx<256:=by omega
                 have Hcx:=hide hcx
                 have Hbx:=hide (heap_alloc_new wr (.cells (wrCells x).toArray 104))
                 have HrowW:=hide ((uh Hrow).alloc (.cells (wrCells x).toArray 104))
                 have HOlt:Hid (∀ g,u9.ownBlock=some g→g<wr.heap.size):=fun g hg=>((uh Hrow).lt g hg).2
                 clear hcx hneg hbig haw l1 l2 Hs
                 go_wp2
                 clear y0
                 generalize wr.alloc (.cells (wrCells x).toArray 104)=W at*
                 generalize wr.heap.size=bx at*
                 go_loopw [9] (fun v w'=> ∃ nz:Nat,l.length+nz≤max l.length (cx+1)∧w'.ownsRow w.heap.size 38 64 v (l++List.replicate nz zc).length (flatC (l++List.replicate nz zc))∧w'.heap[bx]? = some (.cells (wrCells x).toArray 104 (0,0))∧(∀ g,v.ownBlock=some g→g≠bx)∧Below w.heap.size w w') (fun v _=>cx+1 - sliceLen v)
                 case atStart=>
                   refine ⟨0,by omega,by simpa using uh HrowW,uh Hbx,fun g hg e=> ?_,uh W1⟩
                   have:=uh HOlt g hg
                   omega
                 case round=>
                   obtain ⟨nz,hn,hrow,hbx,hown,hb⟩:=hrel
                   clear HrowW Hbx W1
                   rw [List.length_append,List.length_replicate] at hrow
                   obtain ⟨a,cap,hv⟩:=row_form hrow
                   subst hv
                   have z0:wr.cell? ⟨bx,0,none⟩=some (.int .i64 (cx:Int)):=by rw [cell_blk hbx,← uh Hcx];rfl
                   have hls': ∀ c ∈ l++List.replicate nz zc,c.length=64:=by
                     intro c hc
                     rcases List.mem_append.1 hc with h | h
                     · exact uh Hls c h
                     · rw [List.eq_of_mem_replicate h];exact zc_length
                   by_cases hle:l.length+nz≤cx
                   · have dl:decide (((l.length+nz:Nat):Int)≤(cx:Int))=true:=by simp;omega
                     have hrep:l++List.replicate (nz+1) zc=(l++List.replicate nz zc)++[zc]:=by rw [List.replicate_succ',List.append_assoc]
                     have Hrep:=hide hrep
                     have Hrow:=hide hrow
                     have Hbx:=hide hbx
                     have Hb:=hide hb
                     have Hown:=hide hown
                     have Hls:=hide hls'
                     clear hrep hrow hbx hb hown hls'
                     generalize hlr:l++List.replicate nz zc=l2 at*
                     go_wp2_with (at_builtin;refine wpList_append_lies _ rfl _ _ _ rfl w.heap.size 38 i0 _ 64 64 Tryz.underlying28 hi0 hz0 hz1 hz2 (by simp [Value.cells,cv_length,zc_length]) (by omega) (.slice a (l.length+nz) cap) (l.length+nz) (flatC l2) rfl ((uh Hrow).alloc _) ⟨wr.heap.size,0,none⟩ 1 1 (cv zc) rfl (by rw [cv_length,zc_length]) (World.news_of_block (cs:=(cv zc).toArray) (t:=38) (fr:=(0,0)) (heap_alloc_new wr _)) (cv_one zc) (by omega) (by unfold maxLen;omega) (by omega) (by have:=(uh Hb).size;simp;omega) (wr.heap.size+1) (by simp) ?_;intro g5 cap5 w5 hown5 hgrow hat hlt5)
                     have hsz:=(uh Hb).size
                     have hbxl:=blk_lt (uh Hbx)
                     have S1:=hide (((uh Hb).alloc (uh Hb).size (.cells (cv zc).toArray 38)).grown hgrow (by simp;omega) (fun k hk=>((uh Hrow).lt k hk).1))
                     have S2:=hide (grown_blk hgrow (show (wr.alloc (.cells (cv zc).toArray 38)).heap[bx]? = some (.cells (wrCells x).toArray 104 (0,0)) from (Below.heap_alloc _ _ _ hbxl).trans (uh Hbx)) (fun k hk=>uh Hown k hk))
                     have S3:Hid (∀ g,(Value.slice (some ⟨g5,0,none⟩) (l.length+nz+1) cap5).ownBlock=some g→g≠bx):=fun g hg e=>by
                       simp only [Value.ownBlock,Option.some.injEq] at hg
                       rcases hat with h | h
                       · exact uh Hown g5 h (by omega)
                       · omega
                     go_roundw
                     case rel=>
                       refine ⟨nz+1,by omega,?_,uh S2,uh S3,uh S1⟩
                       rw [uh Hrep,flatC_snoc,List.length_append,← hlr,List.length_append,List.length_replicate,hlr]
                       exact hown5
                     case measure=>simp [sliceLen];omega
                   · have dl:decide (((l.length+nz:Nat):Int)≤(cx:Int))=false:=by simp;omega
                     have hg1:growTo l (cx+1)=l++List.replicate nz zc:=by
                       unfold growTo
                       congr 2
                       omega
                     rw [hg1] at Hnx
                     obtain ⟨g,cap',e3,hcap⟩:=row_some hrow (by omega)
                     obtain ⟨rfl,rfl⟩:a=some ⟨g,0,none⟩∧cap=cap':=by injection e3 with x1 x2 x3;exact ⟨x1,x3⟩
                     have hlen':(l++List.replicate nz zc).length=l.length+nz:=by simp
                     rw [← hlen'] at hrow
                     have hlt3:cx<(l++List.replicate nz zc).length:=by rw [hlen'];omega
                     have th:=row_there hrow cx hlt3
                     have Hset:=hide (row_set hrow hls' cx hlt3 x.data hdl)
                     have k1:wr.rangeAt bx 1 (cv x.data):=fun j v hv=>by
                       rw [cell_blk hbx,List.getElem?_toArray,Nat.add_comm];exact hv
                     have l1:=hasAt_of_range (n:=64) k1 (by rw [cv_length,hdl])
                     have l2:=cellsAt_of_range (n:=64) k1 (by rw [cv_length,hdl])
                     have hgb:w.heap.size≤g:=(hrow.lt g rfl).1
                     have HB:=hide (below_setCells hb hgb (cx*64) (cv x.data))
                     have hls2: ∀ c ∈ (l++List.replicate nz zc).set cx x.data,c.length=64:=by
                       intro c hc
                       rcases List.mem_or_eq_of_mem_set hc with y | y
                       · exact hls' c y
                       · rw [y];exact hdl
                     have Hls2:=hide hls2
                     have hcxi:(cx:Int)<((l.length+nz:Nat):Int):=by omega
                     rw [hlen'] at Hset
                     clear hrow hbx hown hb hls' k1 hg1 e3 hls2
                     go_wp2
                     go_roundw
                     case rel=>
                       refine ⟨m+1,by omega,by go_num,?_,by rw [uh Hnx];exact uh Hls2,by rw [uh Hnx,List.length_set,hlen'];omega,uh HB⟩
                       rw [uh Hnx]
                       exact uh Hset
                     case measure=>simp [intOf];omega
       · have hmk:m=n:=by omega
         subst hmk
         have hcut:=uh Hlfe
         have hki2: ¬ (m:Int)<(m:Int):=by omega
         have HX:Hid (FRow wr u9 (cutTo log (lastFl log m) gn gs m)∧(cutTo log (lastFl log m) gn gs m).length≤256):=by rw [hcut];exact ⟨⟨row_base hrow (Nat.zero_le _),hls⟩,hl256⟩
         have Hb:=hide hb
         clear hrow hb hls hl256 hcut
         go_wp2
         go_ret
         exact ⟨_,rfl,(uh HX).1,(uh HX).2,uh Hb⟩
end Go.Proofs.YtknjjjenklfeoaaGreatDoor
namespace Go.Proofs.YtknjjjenklfeoaaGreatDoor
def toW (x:Nat × Clus):WrR:=⟨(x.1:Nat),x.2⟩
def wsOf (C:List Clus):List (Nat × Clus)→List (Nat × Clus)
 | []=>[]
 | x :: r=>if x.1<C.length∧cl C x.1=x.2 then wsOf C r else x :: wsOf (putC C x) r
theorem wsOf_sub: ∀ (ps:List (Nat × Clus)) (C:List Clus),(wsOf C ps).Sublist ps
 | [],_=>List.Sublist.refl _
 | x :: r,C=>by
   unfold wsOf
   split
   · exact (wsOf_sub r C).cons x
   · exact (wsOf_sub r _).cons_cons x
theorem putV_is {V:VolR} {n:Nat} {data:Clus} (h:n<V.C.length∧cl V.C n=data):putV V n data=V:=by unfold putV;rw [if_pos h]
theorem putV_new {V:VolR} {n:Nat} {data:Clus} (hs:V.short=false) (h: ¬ (n<V.C.length∧cl V.C n=data)):putV V n data=⟨putC V.C (n,data),V.L++[toW (n,data)],true,false⟩:=by
 unfold putV
 rw [if_neg h]
 unfold putW
 rw [completeV_long hs]
 rfl
theorem puts_log: ∀ (ps:List (Nat × Clus)) (V:VolR),V.short=false→(puts V ps).L=V.L++(wsOf V.C ps).map toW∧(puts V ps).short=false∧(V.loose=false→((puts V ps).loose=true↔wsOf V.C ps≠[]))∧(V.loose=true→(puts V ps).loose=true)
 | [],V,hs=>⟨by simp [puts,wsOf],hs,fun h=>by simp [puts,wsOf,h],id⟩
 | x :: r,V,hs=>by
   have e:puts V (x :: r)=puts (putV V x.1 x.2) r:=rfl
   rw [e]
   by_cases h:x.1<V.C.length∧cl V.C x.1=x.2
   · rw [putV_is h]
     have ih:=puts_log r V hs
     have e2:wsOf V.C (x :: r)=wsOf V.C r:=by rw [wsOf,if_pos h]
     rw [e2];exact ih
   · rw [putV_new hs h]
     obtain ⟨i1,i2,_,i4⟩:=puts_log r ⟨putC V.C x,V.L++[toW x],true,false⟩ rfl
     have e2:wsOf V.C (x :: r)=x :: wsOf (putC V.C x) r:=by rw [wsOf,if_neg h]
     rw [e2]
     refine ⟨?_,i2,fun _=>⟨fun _=>by simp,fun _=>i4 rfl⟩,fun _=>i4 rfl⟩
     show (puts ⟨putC V.C x,V.L++[toW x],true,false⟩ r).L=_
     rw [i1]
     simp
theorem epoch_log (V:VolR) (ps:List (Nat × Clus)) (hs:V.short=false) (hl:V.loose=false):(epoch V ps).short=false∧(epoch V ps).loose=false∧
   ((wsOf V.C ps=[]∧(epoch V ps).L=V.L)∨(epoch V ps).L=V.L++(wsOf V.C ps).map toW++[flushW]):=by
 obtain ⟨h1,h2,h3,_⟩:=puts_log ps V hs
 have h3:=h3 hl
 unfold epoch
 refine ⟨?_,flushV_loose _,?_⟩
 · unfold flushV;split <;> exact h2
 · by_cases e:(puts V ps).loose=true
   · right
     unfold flushV
     rw [if_pos e,← h1]
   · left
     have:wsOf V.C ps=[]:=by
       by_cases e2:wsOf V.C ps=[]
       · exact e2
       · exact absurd (h3.2 e2) e
     refine ⟨this,?_⟩
     unfold flushV
     rw [if_neg e,h1,this]
     simp
def runE (V:VolR):List (List (Nat × Clus))→VolR
 | []=>V
 | ps :: r=>runE (epoch V ps) r
def SafeE (P:List Clus→Prop) (V:VolR):List (List (Nat × Clus))→Prop
 | []=>P V.C
 | ps :: r=>(∀ qs:List (Nat × Clus),qs.Sublist ps→P (putsC V.C qs))∧SafeE P (epoch V ps) r
theorem runE_app (V:VolR): ∀ (es fs:List (List (Nat × Clus))),runE V (es++fs)=runE (runE V es) fs
 | [],_=>rfl
 | ps :: r,fs=>runE_app (epoch V ps) r fs
theorem SafeE.app {P:List Clus→Prop}: ∀ (es:List (List (Nat × Clus))) {V:VolR} {fs:List (List (Nat × Clus))},SafeE P V es→SafeE P (runE V es) fs→SafeE P V (es++fs)
 | [],_,_,_,h2=>h2
 | _ :: r,_,_,h1,h2=>⟨h1.1,SafeE.app r h1.2 h2⟩
theorem runE_log (es:List (List (Nat × Clus))): ∀ V:VolR,V.short=false→V.loose=false→(runE V es).short=false∧(runE V es).loose=false∧ ∃ t,(runE V es).L=V.L++t:=by
 induction es with
 | nil=>intro V hs hl;exact ⟨hs,hl,[],by simp [runE]⟩
 | cons ps r ih=>
   intro V hs hl
   obtain ⟨h1,h2,h3⟩:=epoch_log V ps hs hl
   obtain ⟨i1,i2,t,ht⟩:=ih (epoch V ps) h1 h2
   refine ⟨i1,i2,?_⟩
   show ∃ t,(runE (epoch V ps) r).L=_
   rw [ht]
   rcases h3 with ⟨_,e⟩ | e
   · exact ⟨t,by rw [e]⟩
   · exact ⟨(wsOf V.C ps).map toW++[flushW]++t,by rw [e];simp⟩
section
variable {A R:List WrR} {ws:List (Nat × Clus)} {gn:Nat} {gs:Nat→Bool}
theorem wrAt_left (X:List WrR) (i:Nat) (hi:i<A.length):wrAt (A++X) i=wrAt A i:=by
 unfold wrAt
 rw [List.getD_eq_getElem?_getD,List.getD_eq_getElem?_getD,List.getElem?_append_left hi]
theorem wrAt_ws (j:Nat) (hj:j<ws.length):wrAt (A++(ws.map toW++R)) (A.length+j)=toW (ws[j]):=by
 unfold wrAt
 rw [List.getD_eq_getElem?_getD,List.getElem?_append_right (by omega),show A.length+j - A.length=j by omega,List.getElem?_append_left (by simpa using hj),List.getElem?_map,List.getElem?_eq_getElem hj]
 rfl
theorem last_A (hA:A=[]∨ ∃ l,A=l++[flushW]) (X:List WrR):lastFl (A++X) A.length=A.length:=by
 rcases hA with e | ⟨l,e⟩
 · rw [e];rfl
 · have hl:A.length=l.length+1:=by rw [e];simp
   rw [hl,lastFl,if_pos]
   rw [wrAt_left X _ (by omega),e]
   unfold wrAt
   rw [List.getD_eq_getElem?_getD,List.getElem?_append_right (Nat.le_refl _),Nat.sub_self]
   show (-1:Int)<0
   decide
theorem last_ws (hA:A=[]∨ ∃ l,A=l++[flushW]): ∀ j,j≤ws.length→lastFl (A++(ws.map toW++R)) (A.length+j)=A.length
 | 0,_=>last_A hA _
 | j+1,hj=>by
   rw [← Nat.add_assoc,lastFl,wrAt_ws j (by omega),if_neg (by unfold toW;simp),last_ws hA j (by omega)]
theorem replayOne_toW (C:List Clus) (x:Nat × Clus):replayOne C (toW x)=putC C x:=by
 unfold replayOne toW
 rw [if_neg (by simp)]
 rfl
theorem cut_head (X:List WrR) (hlow: ∀ x ∈ A,x.cl<256): ∀ k,k≤A.length→cutTo (A++X) A.length gn gs k=replay [] (A.take k)
 | 0,_=>rfl
 | k+1,hk=>by
   have ih:=cut_head X hlow k (by omega)
   have hx:wrAt A k=A[k]'(by omega):=by
     unfold wrAt
     rw [List.getD_eq_getElem?_getD,List.getElem?_eq_getElem (by omega)];rfl
   have haw:awayB A.length gn gs k=false:=by unfold awayB;rw [decide_eq_false (by omega)];rfl
   have hlt:=hlow (A[k]'(by omega)) (List.getElem_mem _)
   have ht:A.take (k+1)=A.take k++[A[k]'(by omega)]:=List.take_succ_eq_append_getElem (by omega)
   rw [cutTo,ih,wrAt_left X k (by omega),haw,hx,ht,replay_snoc]
   by_cases hn:(A[k]'(by omega)).cl<0
   · rw [if_pos (Or.inl hn)]
     unfold replayOne
     rw [if_pos hn]
   · rw [if_neg (by simp;omega)]
theorem cut_ws (hlow: ∀ x ∈ A,x.cl<256) (hlw: ∀ x ∈ ws,x.1<256): ∀ j,j≤ws.length→ ∃ qs:List (Nat × Clus),qs.Sublist (ws.take j)∧cutTo (A++(ws.map toW++R)) A.length gn gs (A.length+j)=putsC (replay [] A) qs
 | 0,_=>⟨[],List.nil_sublist _,by rw [Nat.add_zero,cut_head _ hlow _ (Nat.le_refl _),List.take_length];rfl⟩
 | j+1,hj=>by
   obtain ⟨qs,h1,h2⟩:=cut_ws hlow hlw j (by omega)
   have ht:ws.take (j+1)=ws.take j++[ws[j]'(by omega)]:=List.take_succ_eq_append_getElem (by omega)
   have hlt:=hlw (ws[j]'(by omega)) (List.getElem_mem _)
   rw [← Nat.add_assoc,cutTo,h2,wrAt_ws j (by omega)]
   by_cases ha:awayB A.length gn gs (A.length+j)=true
   · rw [if_pos (Or.inr (Or.inr ha))]
     exact ⟨qs,by rw [ht];exact h1.trans (List.sublist_append_left _ _),rfl⟩
   · have hno: ¬ ((toW (ws[j]'(by omega))).cl<0∨256≤(toW (ws[j]'(by omega))).cl∨awayB A.length gn gs (A.length+j)=true):=by
       have e:(toW (ws[j]'(by omega))).cl=((ws[j]'(by omega)).1:Int):=rfl
       rintro (x | x | x)
       · omega
       · omega
       · exact ha x
     rw [if_neg hno]
     refine ⟨qs++[ws[j]'(by omega)],by rw [ht];exact h1.append (List.Sublist.refl _),?_⟩
     rw [replayOne_toW]
     simp [putsC]
end
theorem cut_safe (P:List Clus→Prop) (gn:Nat) (gs:Nat→Bool): ∀ (es:List (List (Nat × Clus))) (V:VolR),Logged [] V→V.short=false→V.loose=false→(∀ x ∈ (runE V es).L,x.cl<256)→SafeE P V es→
   ∀ n,V.L.length≤n→n≤(runE V es).L.length→P (cutTo (runE V es).L (lastFl (runE V es).L n) gn gs n)
 | [],V,hg,_,hl,hlow,hsafe,n,h1,h2=>by
   have hn:n=V.L.length:=by have:(runE V []).L.length=V.L.length:=rfl;omega
   have e:(runE V []).L=V.L++[]:=by simp [runE]
   rw [e] at hlow ⊢
   rw [hn,last_A (hg.tail hl),cut_head [] (fun x hx=>hlow x (by simpa using hx)) _ (Nat.le_refl _),List.take_length,hg.rep]
   exact hsafe
 | ps :: r,V,hg,hs,hl,hlow,hsafe,n,h1,h2=>by
   obtain ⟨e1,e2,e3⟩:=epoch_log V ps hs hl
   obtain ⟨_,_,t,ht⟩:=runE_log r (epoch V ps) e1 e2
   have hrun:runE V (ps :: r)=runE (epoch V ps) r:=rfl
   have key: ∃ R,(runE V (ps :: r)).L=V.L++((wsOf V.C ps).map toW++R):=by
     rw [hrun,ht]
     rcases e3 with ⟨h,e⟩ | e
     · exact ⟨t,by rw [e,h];simp⟩
     · exact ⟨[flushW]++t,by rw [e];simp⟩
   obtain ⟨R,hR⟩:=key
   by_cases hn:n≤V.L.length+(wsOf V.C ps).length
   · have hlow':=hlow
     rw [hR] at hlow ⊢
     obtain ⟨j,rfl⟩: ∃ j,n=V.L.length+j:=⟨n - V.L.length,by omega⟩
     rw [last_ws (hg.tail hl) j (by omega)]
     obtain ⟨qs,q1,q2⟩:=cut_ws (A:=V.L) (ws:=wsOf V.C ps) (R:=R) (gn:=gn) (gs:=gs) (fun x hx=>hlow x (by simp [hx])) (fun x hx=>by
       have:=hlow (toW x) (by simp;exact Or.inr (Or.inl ⟨_,_,hx,rfl⟩))
       have e:(toW x).cl=(x.1:Int):=rfl
       omega) j (by omega)
     rw [q2,hg.rep]
     exact hsafe.1 qs ((q1.trans (List.take_sublist _ _)).trans (wsOf_sub ps V.C))
   · have hle:(epoch V ps).L.length≤n:=by
       rcases e3 with ⟨h,e⟩ | e
       · rw [e];omega
       · rw [e];simp;omega
     have hgE:Logged [] (epoch V ps):=hg.puts (puts_epoch (Puts.refl V) ps)
     rw [hrun] at hlow h2 ⊢
     exact cut_safe P gn gs r (epoch V ps) hgE e1 e2 hlow hsafe.2 n hle h2
def PC (D0 D1:DiskR) (C:List Clus):Prop:= ∃ T N0 E D,(D=D0∨D=D1)∧Ok C T N0 E D
def Traced (V V':VolR) (D0 D1:DiskR):Prop:= ∃ es,V'=runE V es∧SafeE (PC D0 D1) V es
section
variable {V V1:VolR} {D0 D1:DiskR}
theorem SafeE.last {P:List Clus→Prop}: ∀ (es:List (List (Nat × Clus))) {V:VolR},SafeE P V es→P (runE V es).C
 | [],_,h=>h
 | _ :: r,_,h=>SafeE.last r h.2
theorem Traced.nil (h:PC D0 D1 V.C):Traced V V D0 D1:=⟨[],rfl,h⟩
theorem Traced.ends (t:Traced V V1 D0 D1):PC D0 D1 V1.C:=by
 obtain ⟨es,rfl,hs⟩:=t
 exact SafeE.last es hs
theorem Traced.epoch (t:Traced V V1 D0 D1) (ps:List (Nat × Clus)) (hp: ∀ qs:List (Nat × Clus),(∀ x ∈ qs,x ∈ ps)→PC D0 D1 (putsC V1.C qs)):Traced V (epoch V1 ps) D0 D1:=by
 obtain ⟨es,rfl,hs⟩:=t
 refine ⟨es++[ps],by rw [runE_app];rfl,SafeE.app es hs ⟨fun qs hq=>hp qs fun x hx=>hq.subset hx,?_⟩⟩
 show PC D0 D1 (Go.Proofs.YtknjjjenklfeoaaGreatDoor.epoch (runE V es) ps).C
 rw [epoch_C]
 exact hp ps fun x hx=>hx
theorem Traced.one (t:Traced V V1 D0 D1) (x:Nat × Clus) (h1:PC D0 D1 (putsC V1.C [x])):Traced V (Go.Proofs.YtknjjjenklfeoaaGreatDoor.epoch V1 [x]) D0 D1:=by
 have h0:=t.ends
 obtain ⟨es,rfl,hs⟩:=t
 refine ⟨es++[[x]],by rw [runE_app];rfl,SafeE.app es hs ⟨fun qs hq=> ?_,?_⟩⟩
 · cases hq with
   | cons _ h=>rw [List.sublist_nil.1 h];exact h0
   | cons_cons _ h=>rw [List.sublist_nil.1 h];exact h1
 · show PC D0 D1 (Go.Proofs.YtknjjjenklfeoaaGreatDoor.epoch (runE V es) [x]).C
   rw [epoch_C]
   exact h1
end
section
variable {base:List Clus} {V V0:VolR} {N0 T n f:Nat} {E:List EntR} {D D0 D1:DiskR} {data:Clus} {b:Nat}
theorem Vol.traceLong (h:Vol base V N0 E) (F:List Nat) (hF:lastOf F<256):Traced V (lengthenV V F) (dskOf V.C N0 E) D1:=by
 have h7:=h.file.seven
 have t0:Traced V V (dskOf V.C N0 E) D1:=Traced.nil ⟨_,_,_,_,Or.inl rfl,h.ok⟩
 unfold lengthenV
 rw [h.file.num4,h.file.num6]
 by_cases hc:V.C.length≤lastOf F
 · rw [if_pos hc]
   exact t0.one (0,headBytes (lastOf F+1) N0) ⟨_,_,_,_,Or.inl rfl,h.ok.longer (lastOf F+1) (by omega) (by omega)⟩
 · rw [if_neg hc];exact t0
theorem Ok.traceLet {us:List Nat} (t:Traced V0 V D0 D1) (h:Ok V.C T N0 E D) (hD:D=D0∨D=D1) (hT:V.C.length=T) (hl:Lets V N0 E us):Traced V0 (letGoV V us) D0 D1:=by
 have t1:Traced V0 (letGoV1 V us) D0 D1:=by
   rw [letGoV1_epoch]
   exact t.epoch _ fun qs hq=>⟨T,N0,E,D,hD,h.letCounts hT hl qs hq⟩
 obtain ⟨a1,a2,_,_⟩:=h.letGo1 hT hl
 have e:letGoV V us=epoch (letGoV1 V us) (loneList (cntsOf (letGoV1 V us).C) (letGoV1 V us).C (firstsOf (letGoV1 V us))):=by
   unfold letGoV epoch
   rw [a1.markLone a2]
 rw [e]
 exact t1.epoch _ fun qs hq=>⟨T,N0,E,D,hD,a1.markOK a2 qs hq⟩
theorem Vol.traceBlock (h:Vol base V N0 E) (hb:b<64) (hF:lowFree (cntsOf V.C) 1=[n]) (hn:n<256) (h0:countOf V.C n=0) (hd:data.length=64) (h2:32768≤nm V.C N0 (b / 32)):
   Traced V (letGoV (wnbV V (findR V.C N0 b) data) (toldBy [numAt V.C N0 b])) (dskOf V.C N0 E) (setD (dskOf V.C N0 E) b data):=by
 have hl1:lastOf [n]<256:=by rw [lastOf_one];exact hn
 have t1:=h.traceLong (D1:=setD (dskOf V.C N0 E) b data) [n] hl1
 obtain ⟨a1,a2,_,_,_⟩:=h.longer [n] hl1
 have hc:=fun m hm=>h.count1 [n] hl1 m hm
 obtain ⟨e1,b1,_⟩:=h.blk1 (data:=data) hF hn h0 hd
 obtain ⟨e3,c1,c2,_,_⟩:=h.blk3 hb hF hn h0 hd h2
 have hT:lenTo V.C [n]=max V.C.length (n+1):=rfl
 have t2:Traced V (wnb1 V data) (dskOf V.C N0 E) (setD (dskOf V.C N0 E) b data):=by
   rw [e1]
   refine t1.epoch _ fun qs hq=>⟨_,_,_,_,Or.inl rfl,a1.claim [n] (fun m hm=>by rw [List.mem_singleton.1 hm];exact ⟨by omega,by rw [hc n hn];exact h0⟩) qs (fun x hx=> ?_)⟩
   rcases List.mem_append.1 (hq x hx) with y | y
   · exact Or.inl y
   · rw [List.mem_singleton.1 y];exact Or.inr ⟨by simp,hd⟩
 have t3:Traced V (wnbV V (findR V.C N0 b) data) (dskOf V.C N0 E) (setD (dskOf V.C N0 E) b data):=by
   have c1':=c1
   rw [e3,epoch_C] at c1'
   rw [e3]
   exact t2.one _ ⟨_,_,_,_,Or.inr rfl,c1'⟩
 exact c1.traceLet t3 (Or.inr rfl) c2 (h.writeBlock hb hF hn h0 hd h2).1
theorem Vol.traceTable (h:Vol base V N0 E) {s:Nat} (hb:b<64) (hF:lowFree (cntsOf V.C) 2=[s,n]) (hsn:s<n) (hn:n<256) (h0:countOf V.C s=0) (h1:countOf V.C n=0) (hd:data.length=64):
   Traced V (letGoV (wntV V (findR V.C N0 b) data) (toldBy [nm V.C N0 (b / 32),numAt V.C N0 b])) (dskOf V.C N0 E) (setD (dskOf V.C N0 E) b data):=by
 have hl1:lastOf [s,n]<256:=by rw [lastOf_two];exact hn
 have t1:=h.traceLong (D1:=setD (dskOf V.C N0 E) b data) [s,n] hl1
 obtain ⟨a1,a2,_,_,_⟩:=h.longer [s,n] hl1
 have hc:=fun m hm=>h.count1 [s,n] hl1 m hm
 obtain ⟨e1,b1,_⟩:=h.tab1 (data:=data) (findR V.C N0 b) hF hsn hn h0 h1 hd
 obtain ⟨e3,c1,c2,_,_⟩:=h.tab3 hb hF hsn hn h0 h1 hd
 have hT:lenTo V.C [s,n]=max V.C.length (n+1):=rfl
 have t2:Traced V (wnt1 V (findR V.C N0 b) data) (dskOf V.C N0 E) (setD (dskOf V.C N0 E) b data):=by
   rw [e1]
   have htl:(bytesOf ((findR V.C N0 b).tab.set (findR V.C N0 b).inSecond (n+32768))).length=64:=bytesOf_length _
   generalize bytesOf ((findR V.C N0 b).tab.set (findR V.C N0 b).inSecond (n+32768))=tb at htl ⊢
   refine t1.epoch _ fun qs hq=>⟨_,_,_,_,Or.inl rfl,a1.claim [s,n] (fun m hm=> ?_) qs (fun x hx=> ?_)⟩
   · simp only [List.mem_cons,List.not_mem_nil,or_false] at hm
     rcases hm with rfl | rfl
     · exact ⟨by omega,by rw [hc _ (by omega)];exact h0⟩
     · exact ⟨by omega,by rw [hc _ hn];exact h1⟩
   · rcases List.mem_append.1 (hq x hx) with y | y
     · exact Or.inl y
     · simp only [List.mem_cons,List.not_mem_nil,or_false] at y
       rcases y with y | y
       · rw [y];exact Or.inr ⟨List.mem_cons_self,htl⟩
       · rw [y];exact Or.inr ⟨List.mem_cons_of_mem _ List.mem_cons_self,hd⟩
 have t3:Traced V (wntV V (findR V.C N0 b) data) (dskOf V.C N0 E) (setD (dskOf V.C N0 E) b data):=by
   have c1':=c1
   rw [e3,epoch_C] at c1'
   rw [e3]
   exact t2.one _ ⟨_,_,_,_,Or.inr rfl,c1'⟩
 exact c1.traceLet t3 (Or.inr rfl) c2 (h.writeTable hb hF hsn hn h0 h1 hd).1
theorem Vol.traceWrite (h:Vol base V N0 E) (m:Nat) (hm:m<64) (hd:data.length=64):Traced V (writeV V (m:Int) data).1 (dskOf V.C N0 E) (setD (dskOf V.C N0 E) m data):=by
 have h7:=h.file.seven
 have hmo:=h.file.most
 have hb:blockB (m:Int)=true:=by unfold blockB;simp;omega
 have t0:Traced V V (dskOf V.C N0 E) (setD (dskOf V.C N0 E) m data):=Traced.nil ⟨_,_,_,_,Or.inl rfl,h.ok⟩
 unfold writeV writeR
 rw [if_neg (by rw [hb];decide),h.place (m:Int),Int.toNat_natCast]
 obtain ⟨p1,p2,p3,p4,p5⟩:=placed (V:=V) (N0:=N0) m
 rw [p1,p2]
 by_cases h2:nm V.C N0 (m / 32)<32768
 · rw [if_pos h2]
   by_cases hf:2≤(lowFree (cntsOf V.C) 2).length
   · rw [if_pos hf]
     obtain ⟨s,n',hF,hsn,hn,h0,h1⟩:=lowFree_two hf
     rw [byteAt_cnts h.file.lens (by omega) _ (by omega)] at h0 h1
     have ht:=h.traceTable hm hF hsn hn h0 h1 hd
     generalize letGoV (wntV V (findR V.C N0 m) data) (toldBy [nm V.C N0 (m / 32),numAt V.C N0 m])=W at*
     exact ht
   · rw [if_neg hf];exact t0
 · rw [if_neg h2]
   by_cases h3:numAt V.C N0 m<32768
   · rw [if_pos h3]
     by_cases hf:0<(lowFree (cntsOf V.C) 1).length
     · rw [if_pos hf]
       obtain ⟨n',hF,hn,h0⟩:=lowFree_one hf
       rw [byteAt_cnts h.file.lens (by omega) _ (by omega)] at h0
       have ht:=h.traceBlock hm hF hn h0 hd (by omega)
       generalize letGoV (wnbV V (findR V.C N0 m) data) (toldBy [numAt V.C N0 m])=W at*
       exact ht
     · rw [if_neg hf];exact t0
   · rw [if_neg h3]
     exact t0.one (numAt V.C N0 m%32768,data) ⟨_,_,_,_,Or.inr rfl,(h.inPlace hm hd (by omega)).1⟩
theorem Vol.traceCopy (h:Vol base V N0 E) (hf:f ∈ (rsOf N0 E).map (·.N)) (hn:n<256) (h0:countOf V.C n=0) (hfit:fitsB (cntsOf V.C) (toldAll V.C f)=true):Traced V (copyV V f n) (dskOf V.C N0 E) D1:=by
 have hl1:lastOf [n]<256:=by rw [lastOf_one];exact hn
 have t1:=h.traceLong (D1:=D1) [n] hl1
 obtain ⟨e1,a1,_⟩:=h.copyA hf hn
 obtain ⟨e2,b1,_⟩:=h.copied hf hn h0 hfit
 have t2:Traced V (copy1 V f n) (dskOf V.C N0 E) D1:=by
   rw [e1]
   exact t1.epoch _ fun qs hq=>⟨_,_,_,_,Or.inl rfl,a1 qs hq⟩
 rw [e2]
 exact t2.epoch _ fun qs hq=>⟨_,_,_,_,Or.inl rfl,b1 qs hq⟩
theorem Vol.traceTake (h:Vol base V N0 E) (s:ByteArray):Traced V (takeR V s).1 (dskOf V.C N0 E) (refTakeR (dskOf V.C N0 E) s).1:=by
 have t0:Traced V V (dskOf V.C N0 E) (refTakeR (dskOf V.C N0 E) s).1:=Traced.nil ⟨_,_,_,_,Or.inl rfl,h.ok⟩
 have h4:=h.file.ents.len
 have hcs:=h.takeCases s
 unfold takeR at hcs ⊢
 rw [h.ents.2,h.ents.1,h.num6] at hcs ⊢
 by_cases hnm:isNameB s.data.toList=false
 · rw [if_pos hnm];exact t0
 rw [if_neg hnm] at hcs ⊢
 have hnt:isNameB s.data.toList=true:=by cases e:isNameB s.data.toList;exact absurd e hnm;rfl
 by_cases hf:0≤findE (pad4 E) s
 · rw [if_pos hf];exact t0
 rw [if_neg hf] at hcs ⊢
 by_cases hl:E.length=4
 · rw [if_pos hl];exact t0
 rw [if_neg hl] at hcs ⊢
 cases hr:roomR V.C N0 with
 | false=>
   rw [h.copyR_no h.roots0 hr]
   exact t0
 | true=>
   obtain ⟨n,hn,h0,hfit,e⟩:=h.copyR_yes h.roots0 hr
   have hnew:=h.fresh (s:=s) (by rw [h.ents.1];omega)
   have h6:=h.sound.free_six hn h0
   have hE':=h.file.ents.snoc hnt hnew (by omega) (show n≠0 by omega) (by omega)
   obtain ⟨e1,t2⟩:=h.take hnt hnew (by omega) hn h0 hfit
   have e2:flushV (putV (copyV V N0 n) 5 (listTo ((pad4 E).set E.length ⟨s.data.toList,n⟩) 4))=takeV V N0 n (E++[⟨s.data.toList,n⟩]):=by
     rw [pad4_snoc _ (by omega),hE'.clus]
     rfl
   have hD:(refTakeR (dskOf V.C N0 E) s).1=takeD (dskOf V.C N0 E) s.data.toList:=by
     unfold refTakeR
     rw [if_neg hnm,h.find,h.ents.1,if_neg hf,dsk_len,if_neg (by omega)]
     rfl
   have tc:=h.traceCopy (D1:=takeD (dskOf V.C N0 E) s.data.toList) h.roots0 hn h0 hfit
   have ok:=t2.vol.ok
   rw [t2.holds] at ok
   have okC:=ok
   rw [e1,epoch_C] at okC
   have ht:Traced V (takeV V N0 n (E++[⟨s.data.toList,n⟩])) (dskOf V.C N0 E) (takeD (dskOf V.C N0 E) s.data.toList):=by
     rw [e1]
     exact tc.one _ ⟨_,_,_,_,Or.inr rfl,okC⟩
   rw [e,if_pos rfl]
   dsimp only
   rw [e2,hD]
   exact ht
theorem Vol.traceDrop (h:Vol base V N0 E) (s:ByteArray):Traced V (dropR V s).1 (dskOf V.C N0 E) (refDropR (dskOf V.C N0 E) s).1:=by
 unfold dropR refDropR
 rcases h.there (s:=s) with ⟨m,hm,_,e1,e2⟩ | ⟨i,hi,e1,e2,_⟩
 · rw [e1,if_neg hm]
   exact Traced.nil ⟨_,_,_,_,Or.inl rfl,h.ok⟩
 · have hfe:=h.firstE hi e1
   rw [hfe,e1,e2]
   dsimp only
   rw [if_pos rfl,if_pos rfl,Int.toNat_natCast,h.dropW hi]
   obtain ⟨d1,d2,d3,d4,d5,_⟩:=h.drop hi
   have dC:=d2
   rw [d1,epoch_C] at dC
   have t1:Traced V (dropH V (E.eraseIdx i)) (dskOf V.C N0 E) (eraseD (dskOf V.C N0 E) i):=by
     rw [d1]
     exact (Traced.nil ⟨_,_,_,_,Or.inl rfl,h.ok⟩:Traced V V (dskOf V.C N0 E) (eraseD (dskOf V.C N0 E) i)).one _ ⟨_,_,_,_,Or.inr rfl,dC⟩
   have t2:=d2.traceLet t1 (Or.inr rfl) d3 d5
   generalize letGoV (dropH V (E.eraseIdx i)) (heldAll (dropH V (E.eraseIdx i)).C (E.getD i ze).first)=W at*
   exact t2
theorem Vol.traceReturn (h:Vol base V N0 E) (s:ByteArray):Traced V (returnR V s).1 (dskOf V.C N0 E) (refReturnR (dskOf V.C N0 E) s).1:=by
 unfold returnR refReturnR
 rcases h.there (s:=s) with ⟨m,hm,_,e1,e2⟩ | ⟨i,hi,e1,e2,_⟩
 · rw [e1,if_neg hm]
   exact Traced.nil ⟨_,_,_,_,Or.inl rfl,h.ok⟩
 · have hfe:=h.firstE hi e1
   rw [hfe,e1,e2]
   dsimp only
   rw [if_pos rfl,if_pos rfl,Int.toNat_natCast]
   cases hr:roomR V.C (E.getD i ze).first with
   | false=>
     rw [h.copyR_no (h.rootsE hi) hr]
     exact Traced.nil ⟨_,_,_,_,Or.inl rfl,h.ok⟩
   | true=>
     obtain ⟨n,hn,h0,hfit,e4⟩:=h.copyR_yes (h.rootsE hi) hr
     obtain ⟨_,_,o1,_⟩:=h.copied (h.rootsE hi) hn h0 hfit
     obtain ⟨d1,d2,d3,d4,d5,_⟩:=h.ret hi hn h0 hfit
     have hpic:(picAt (dskOf V.C N0 E).L i).C=(retD (dskOf V.C N0 E) i).C:=by
       show _=((dskOf V.C N0 E).L.getD i ⟨[],[]⟩).C
       unfold picAt
       have hil:i<(dskOf V.C N0 E).L.length:=by rw [dsk_len];exact hi
       rw [List.getD_eq_getElem?_getD,List.getD_eq_getElem?_getD,List.getElem?_eq_getElem hil]
       rfl
     have dC:=d2
     rw [d1,epoch_C] at dC
     have t1:Traced V (retH V (E.getD i ze).first n) (dskOf V.C N0 E) (retD (dskOf V.C N0 E) i):=by
       rw [d1]
       exact (h.traceCopy (h.rootsE hi) hn h0 hfit).one _ ⟨_,_,_,_,Or.inr rfl,dC⟩
     have t2:=d2.traceLet t1 (Or.inr rfl) d3 d5
     rw [e4]
     dsimp only
     rw [if_pos rfl,o1.file.num6,hpic]
     have er:retW (copyV V (E.getD i ze).first n) n=retH V (E.getD i ze).first n:=rfl
     rw [er]
     generalize letGoV (retH V (E.getD i ze).first n) (heldAll (retH V (E.getD i ze).first n).C N0)=W at*
     exact t2
end
section
variable {base:List Clus} {V:VolR} {N0:Nat} {E:List EntR}
def spareUs (V:VolR) (N0:Nat) (E:List EntR) (k:Nat):List Nat:=(List.range k).flatMap fun m=>List.replicate (countOf V.C m - (base6 m+useOf V.C (rsOf N0 E) m)) m
theorem spare_count (n:Nat): ∀ k,(spareUs V N0 E k).count n=if n<k then countOf V.C n - (base6 n+useOf V.C (rsOf N0 E) n) else 0
 | 0=>rfl
 | k+1=>by
   unfold spareUs
   rw [List.range_succ,List.flatMap_append,List.count_append]
   have ih:=spare_count n k
   unfold spareUs at ih
   rw [ih,List.flatMap_cons,List.flatMap_nil,List.append_nil,List.count_replicate]
   by_cases e:n<k
   · rw [if_pos e,if_neg (show ¬ ((k == n)=true) by simp;omega),if_pos (show n<k+1 by omega)];omega
   · rw [if_neg e]
     by_cases e2:n=k
     · subst e2;rw [if_pos (show (n == n)=true by simp),if_pos (show n<n+1 by omega)];omega
     · rw [if_neg (show ¬ ((k == n)=true) by simp;omega),if_neg (show ¬ n<k+1 by omega)]
theorem spare_lt (k:Nat): ∀ u ∈ spareUs V N0 E k,u<k:=by
 intro u hu
 obtain ⟨m,hm,hr⟩:=List.mem_flatMap.1 hu
 rw [(List.mem_replicate.1 hr).2]
 exact List.mem_range.1 hm
theorem byB_get (M:List Nat) (n:Nat) (hn:n<256): ∀ k,k≤256→byteAt (byB M k) n=if n<k then M.getD n 0%256 else 0
 | 0,_=>by
   rw [if_neg (by omega)]
   show byteAt zk n=0
   unfold byteAt zk
   rw [List.getD_eq_getElem?_getD,List.getElem?_replicate]
   split <;> rfl
 | k+1,hk=>by
   have ih:=byB_get M n hn k (by omega)
   rw [byB,byteAt_set _ _ _ _ (by rw [byB_length];omega),ih]
   by_cases e:k=n
   · subst e
     rw [if_pos rfl,if_pos (by omega),UInt8.toNat_ofNat'];omega
   · rw [if_neg e]
     by_cases e2:n<k
     · rw [if_pos e2,if_pos (by omega)]
     · rw [if_neg e2,if_neg (by omega)]
theorem bytes_eq {a b:List UInt8} (ha:a.length=256) (hb:b.length=256) (h: ∀ n,n<256→byteAt a n=byteAt b n):a=b:=by
 apply List.ext_getElem (by omega)
 intro i h1 h2
 have:=h i (by omega)
 unfold byteAt at this
 rw [List.getD_eq_getElem?_getD,List.getD_eq_getElem?_getD,List.getElem?_eq_getElem h1,List.getElem?_eq_getElem h2] at this
 exact UInt8.toNat_inj.1 this
theorem Vol.lets (h:Vol base V N0 E):Lets V N0 E (spareUs V N0 E 256):=⟨spare_lt 256,fun m hm=>by
 rw [spare_count,if_pos hm]
 have:=h.sound.cnt m hm
 omega⟩
theorem Vol.byB (h:Vol base V N0 E):byB (usesOf V) 256=minus (cntsOf V.C) (spareUs V N0 E 256):=by
 have hc:=h.ok.cnts rfl
 refine bytes_eq (byB_length _ _) (by rw [minus_length];exact hc.1) fun n hn=> ?_
 have h1:=h.lets.get h.ok rfl n hn
 have h2:=h.sound.cnt n hn
 have h3:=h.sound.top n hn
 rw [spare_count,if_pos hn] at h1
 rw [byB_get _ n hn 256 (Nat.le_refl _),if_pos hn,h.uses n hn]
 omega
theorem Vol.repair_eq (h:Vol base V N0 E):repair1 V=letGoV1 (completeV V) (spareUs V N0 E 256)∧repairV V=letGoV (completeV V) (spareUs V N0 E 256):=by
 have e:repair1 V=letGoV1 (completeV V) (spareUs V N0 E 256):=by
   unfold repair1 letGoV1
   rw [h.byB,completeV_C]
 refine ⟨e,?_⟩
 unfold repairV letGoV
 rw [e]
theorem Vol.complete (h:Vol base V N0 E):Ok (completeV V).C V.C.length N0 E (dskOf V.C N0 E)∧(completeV V).C.length=V.C.length∧Lets (completeV V) N0 E (spareUs V N0 E 256):=by
 refine ⟨by rw [completeV_C];exact h.ok,by rw [completeV_C],?_⟩
 have:=h.lets
 exact ⟨this.lt,fun m hm=>by rw [completeV_C];exact this.cnt m hm⟩
structure Mended (base:List Clus) (V:VolR) (N0:Nat) (E:List EntR):Prop where
 vol:Vol base (repairV V) N0 E
 exact:ExactS (repairV V).C (rsOf N0 E)
 holds:dskOf (repairV V).C N0 E=dskOf V.C N0 E
 len:(repairV V).C.length=V.C.length
 firsts: ∀ f ∈ firstsOf (repair1 V),FirstOK (repair1 V) f
theorem Vol.mended (h:Vol base V N0 E):Mended base V N0 E:=by
 obtain ⟨e1,e2⟩:=h.repair_eq
 obtain ⟨o1,o2,o3⟩:=h.complete
 obtain ⟨a1,a2,a3,a4⟩:=o1.letGo o2 o3
 obtain ⟨b1,b2,_,_⟩:=o1.letGo1 o2 o3
 rw [← e2] at a1 a2 a3 a4
 rw [← e1] at b1 b2
 have hl:Logged base (repairV V):=by rw [e2];exact h.log.complete.puts (puts_letGo (Puts.refl _) _)
 refine ⟨a1.vol a2 a3 hl,a4 fun m hm=> ?_,?_,a2,fun f hf=> ?_⟩
 · rw [completeV_C,spare_count,if_pos hm]
   have:=h.sound.cnt m hm
   omega
 · rw [← a1.holds,padTo_self a2]
 · rw [b1.firsts] at hf
   have:=b1.sound
   rw [padTo_self b2] at this
   exact this.firstOK hf
end
end Go.Proofs.YtknjjjenklfeoaaGreatDoor
