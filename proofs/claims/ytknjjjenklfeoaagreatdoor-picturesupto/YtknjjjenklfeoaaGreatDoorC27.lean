import Derived.Test.YtknjjjenklfeoaaGreatDoorC26
import Derived.Test.YtknjjjenklfeoaaGreatDoorC24
import Derived.Test.YtknjjjenklfeoaaGreatDoorC08
set_option maxHeartbeats 8000000
set_option maxRecDepth 100000
namespace Go.Proofs.YtknjjjenklfeoaaGreatDoor
open Go.RowKit
theorem sizeOf_clus (w:World):(Go.sizeOf 38).run Tryz.prog w= .ok 64 w:=by
 cases hq:Tryz.prog.info? 38 with
 | none=>
   have h:(Tryz.prog.info? 38).isSome=true:=by kernel_rfl
   exact absurd hq (by intro e;rw [e] at h;cases h)
 | some i=>
   have hz:(Tryz.prog.info? 38).map (·.size)=some 64:=by kernel_rfl
   rw [hq] at hz
   simp at hz
   simp [Go.sizeOf,typeInfo,hq,hz]
theorem part_wr0 (x:WrR) (w:World):(part 3 (wrCells x).toArray 0).run Tryz.prog w= .ok (.int .i64 x.cl) w:=by
 have ha:(isAgg 3).run Tryz.prog w= .ok false w:=by unfold isAgg;rw [Sem.run_bind,run_underlying Tryz.underlying3 w];rfl
 unfold part
 rw [Sem.run_bind,ha]
 rfl
theorem part_wr1 (x:WrR) (hx:x.data.length=64) (w:World):(part 38 (wrCells x).toArray 1).run Tryz.prog w= .ok (.agg (cv x.data).toArray) w:=by
 have ha:(isAgg 38).run Tryz.prog w= .ok true w:=by unfold isAgg;rw [Sem.run_bind,run_underlying Tryz.underlying38 w];rfl
 unfold part
 rw [Sem.run_bind,ha]
 simp only [Result.andThen_ok,if_true,Sem.run_bind,sizeOf_clus,Sem.run_pure]
 rw [show (wrCells x).toArray.extract 1 (1+64)=(cv x.data).toArray by
   apply Array.ext'
   rw [Array.toList_extract]
   simp only [List.extract_eq_take_drop,wrCells,List.drop_one,List.tail_cons,Nat.add_sub_cancel_left]
   exact List.take_of_length_le (by rw [cv_length,hx];exact Nat.le_refl _)]
def eqWr (x y:Value):Sem Bool:=Op.equalIn 10000 104 x y
theorem equalIn_wr (x y:Value):Op.equalIn 10000 104 x y=eqWr x y:=rfl
theorem run_eqWr {x:WrR} (hx:x.data.length=64) (w:World):(eqWr (.agg (wrCells x).toArray) (.agg (wrCells x).toArray)).run Tryz.prog w= .ok true w:=by
 have hs:Tryz.prog.stoodInHeld 104=false:=by kernel_rfl
 have h0:(Op.equalIn 9999 3 (.int .i64 x.cl) (.int .i64 x.cl)).run Tryz.prog w= .ok (x.cl == x.cl) w:=run_equalIn_int (P:=Tryz.prog) w 9998 3 .i64 .i64 x.cl x.cl Tryz.underlying3
 have h1:(Op.equalIn 9999 38 (.agg (cv x.data).toArray) (.agg (cv x.data).toArray)).run Tryz.prog w= .ok (decide (x.data=x.data)) w:=run_eq_clus 9997 x.data x.data hx hx w
 show (Op.equalIn (9999+1) 104 _ _).run Tryz.prog w=_
 rw [Op.equalIn]
 simp only [Sem.run_bind,run_underlying Tryz.underlying104,Result.andThen_ok,run_program,hs,Bool.false_eq_true,if_false]
 rw [← Array.forIn_toList]
 simp only [List.forIn_cons,List.forIn_nil,Sem.run_bind,part_wr0,part_wr1 x hx,Result.andThen_ok,h0,h1,ne_eq,String.reduceEq,not_false_eq_true,if_true,beq_self_eq_true,decide_true,Bool.not_true,Bool.false_eq_true,if_false,Sem.run_pure]
end Go.Proofs.YtknjjjenklfeoaaGreatDoor
namespace Go.Proofs.YtknjjjenklfeoaaGreatDoor
open Go.RowKit
attribute [local go_sem ↓] loadVar_clus loadVar_wr equalIn_clus equalIn_wr build_wr
attribute [local go_sem] run_loadClus run_loadWr run_bWr0 zc_length
theorem row_one {w:World} {base g cap n:Nat} {e:TypeId} {xs:List Value} (h:w.ownsRow base e 1 (.slice (some ⟨g,0,none⟩) n cap) n xs) (k:Nat) (hk:k<n) {v:Value} (hv:xs[k]? = some v):w.cell? ⟨g,k,none⟩=some v:=by
 rw [h.cellAt k (by omega)];exact hv
structure BookLow (B:BookR):Prop where
 ln:B.names.length≤1000000000
 lf:B.files.length≤1000000000
 lw:B.writes.length≤1000000000
 en: ∀ x ∈ B.names,x.n≤1000000000
 ef: ∀ x ∈ B.files,x.n≤1000000000
 ew: ∀ x ∈ B.writes,x.n≤1000000000
theorem BookAt.nameAt {w:World} {b:Nat} {V:BookV} {B:BookR} {S:Nat→Prop} (h:BookAt w b V B S) (k:Nat) (hk:k<B.names.length):
   ∃ g cap g2 cap2 x a3 cap3,V.n= .slice (some ⟨g,0,none⟩) B.names.length cap∧V.nm= .slice (some ⟨g2,0,none⟩) B.names.length cap2∧B.names[k]? = some x∧x ∈ B.names∧x.v= .slice a3 x.n cap3:=by
 obtain ⟨g,cap,e1,_⟩:=row_some h.rN (by omega)
 obtain ⟨g2,cap2,e2,_⟩:=row_some h.rNm (by omega)
 obtain ⟨a3,cap3,e3⟩:=row_form (h.eN _ (List.getElem_mem hk))
 exact ⟨g,cap,g2,cap2,B.names[k],a3,cap3,e1,e2,List.getElem?_eq_getElem hk,List.getElem_mem hk,e3⟩
theorem BookAt.fileAt {w:World} {b:Nat} {V:BookV} {B:BookR} {S:Nat→Prop} (h:BookAt w b V B S) (k:Nat) (hk:k<B.files.length):
   ∃ g cap g2 cap2 x a3 cap3,V.f= .slice (some ⟨g,0,none⟩) B.files.length cap∧V.fm= .slice (some ⟨g2,0,none⟩) B.files.length cap2∧B.files[k]? = some x∧x ∈ B.files∧x.v= .slice a3 x.n cap3:=by
 obtain ⟨g,cap,e1,_⟩:=row_some h.rF (by omega)
 obtain ⟨g2,cap2,e2,_⟩:=row_some h.rFm (by omega)
 obtain ⟨a3,cap3,e3⟩:=row_form (h.eF _ (List.getElem_mem hk))
 exact ⟨g,cap,g2,cap2,B.files[k],a3,cap3,e1,e2,List.getElem?_eq_getElem hk,List.getElem_mem hk,e3⟩
theorem BookAt.writeAt {w:World} {b:Nat} {V:BookV} {B:BookR} {S:Nat→Prop} (h:BookAt w b V B S) (k:Nat) (hk:k<B.writes.length):
   ∃ g cap g2 cap2 x a3 cap3,V.w= .slice (some ⟨g,0,none⟩) B.writes.length cap∧V.wm= .slice (some ⟨g2,0,none⟩) B.writes.length cap2∧B.writes[k]? = some x∧x ∈ B.writes∧x.v= .slice a3 x.n cap3:=by
 obtain ⟨g,cap,e1,_⟩:=row_some h.rW (by omega)
 obtain ⟨g2,cap2,e2,_⟩:=row_some h.rWm (by omega)
 obtain ⟨a3,cap3,e3⟩:=row_form (h.eW _ (List.getElem_mem hk))
 exact ⟨g,cap,g2,cap2,B.writes[k],a3,cap3,e1,e2,List.getElem?_eq_getElem hk,List.getElem_mem hk,e3⟩
theorem cl_rep (n:Nat) (c:Clus) (j:Nat) (hj:j<n):cl (List.replicate n c) j=c:=by
 unfold cl;rw [List.getD_eq_getElem?_getD,List.getElem?_replicate,if_pos hj];rfl
theorem wrAt_rep (n:Nat) (c:WrR) (j:Nat) (hj:j<n):wrAt (List.replicate n c) j=c:=by
 unfold wrAt;rw [List.getD_eq_getElem?_getD,List.getElem?_replicate,if_pos hj];rfl
theorem fillF_has {w:World} {x:FEnt} {g cap:Nat} (h:w.ownsRow 0 38 64 (.slice (some ⟨g,0,none⟩) x.n cap) x.n (fillF x)) (j:Nat) (hj:j<x.n):
   HasAt w g (j*64) 64∧cellsAt w g (j*64) 64=cv (markC x.m):=by
 have hl:All64 (List.replicate x.n (markC x.m)):=by
   intro c hc
   rw [(List.mem_replicate.1 hc).2];exact markC_length _
 have h':w.ownsRow 0 38 64 (.slice (some ⟨g,0,none⟩) (List.replicate x.n (markC x.m)).length cap) (List.replicate x.n (markC x.m)).length (flatC (List.replicate x.n (markC x.m))):=by
   rw [List.length_replicate];exact h
 have e:=row_cells h' hl j (by simpa using hj)
 rw [cl_rep _ _ _ hj] at e
 exact ⟨row_has h' hl j (by simpa using hj),e⟩
theorem fillW_has {w:World} {x:WEnt} {g cap:Nat} (h:w.ownsRow 0 104 65 (.slice (some ⟨g,0,none⟩) x.n cap) x.n (fillW x)) (j:Nat) (hj:j<x.n):
   HasAt w g (j*65) 65∧cellsAt w g (j*65) 65=wrCells ⟨x.m,zc⟩:=by
 have hl: ∀ c ∈ List.replicate x.n (⟨x.m,zc⟩:WrR),c.data.length=64:=by
   intro c hc
   rw [(List.mem_replicate.1 hc).2];exact zc_length
 have h':LRow w (.slice (some ⟨g,0,none⟩) (List.replicate x.n (⟨x.m,zc⟩:WrR)).length cap) (List.replicate x.n (⟨x.m,zc⟩:WrR)):=by
   refine ⟨?_,hl⟩
   rw [List.length_replicate];exact h
 have r:=h'.range j (by simpa using hj)
 rw [wrAt_rep _ _ _ hj] at r
 exact ⟨hasAt_of_range r (wrCells_length zc_length),cellsAt_of_range r (wrCells_length zc_length)⟩
def AtK (w:World) (n:Nat) (i:Value) (w':World):Prop:= ∃ k:Nat,k≤n∧i= .int .i64 k∧Below w.heap.size w w'
theorem looks_any (w:World) (b:Nat) (V:BookV) (B:BookR) (S:Nat→Prop) (h:BookAt w b V B S) (hlow:BookLow B):
   Calls Tryz.prog 35 #[.pointer (some ⟨b,0,none⟩)] w fun e w'=>e= .returned (.bool true)∧Below w.heap.size w w':=by
 obtain ⟨an,cn,eN⟩:=row_form h.rN
 obtain ⟨af,cf,eF⟩:=row_form h.rF
 obtain ⟨aw,cw,eW⟩:=row_form h.rW
 have hc: ∀ w',Below w.heap.size w w'→w'.cell? ⟨b,0,none⟩=some (.slice an B.names.length cn)∧w'.cell? ⟨b,1,none⟩=some V.nm∧w'.cell? ⟨b,2,none⟩=some (.slice af B.files.length cf)∧w'.cell? ⟨b,3,none⟩=some V.fm∧w'.cell? ⟨b,4,none⟩=some (.slice aw B.writes.length cw)∧w'.cell? ⟨b,5,none⟩=some V.wm:=by
   intro w' hb
   have h':=h.below hb
   rw [h'.cell,h'.cell,h'.cell,h'.cell,h'.cell,h'.cell,← eN,← eF,← eW]
   exact ⟨rfl,rfl,rfl,rfl,rfl,rfl⟩
 have lN:(B.names.length:Int)≤1000000000:=by have:=hlow.ln;omega
 have lF:(B.files.length:Int)≤1000000000:=by have:=hlow.lf;omega
 have lW:(B.writes.length:Int)≤1000000000:=by have:=hlow.lw;omega
 have H:=hide h
 have HC:=hide hc
 have HL:=hide hlow
 have HeN:=hide eN
 have HeF:=hide eF
 have HeW:=hide eW
 clear h hc hlow eN eF eW
 go_enter Tryz.func35,Tryz.ntmps35
 go_wp2
 go_loopw [3] (fun i w'=>AtK w B.names.length i w') (fun i _=>B.names.length - (intOf i).toNat)
 case atStart=>exact ⟨0,by omega,rfl,Below.refl _ _⟩
 case round=>
   obtain ⟨k,hk,rfl,hb⟩:=hrel
   have c0:=(uh HC wr hb).1
   have Hb:=hide hb
   clear hb
   by_cases hlt:k<B.names.length
   · have hki:(k:Int)<(B.names.length:Int):=by omega
     go_wp2
     go_loopw [4] (fun i w'=> ∃ x,B.names[k]? = some x∧AtK w x.n i w') (fun i _=>1000000000 - (intOf i).toNat)
     case atStart=>exact ⟨B.names[k],List.getElem?_eq_getElem hlt,0,by omega,rfl,uh Hb⟩
     case round=>
       obtain ⟨x,hx,j,hj,rfl,hb2⟩:=hrel
       clear c0
       have h2:=(uh H).below hb2
       have hq:=uh HC wr hb2
       obtain ⟨g,cap,g2,cap2,x',a3,cap3,e1,e2,hx',hm,e3⟩:=h2.nameAt k hlt
       obtain rfl:x'=x:=by rw [hx'] at hx;injection hx
       have hxl:(x'.n:Int)≤1000000000:=by have:=(uh HL).en x' hm;omega
       obtain ⟨rfl,rfl⟩:an=some ⟨g,0,none⟩∧cn=cap:=by
         have e4:=uh HeN
         rw [e1] at e4;injection e4 with x1 x2 x3;exact ⟨x1.symm,x3.symm⟩
       have c0:=hq.1
       have c1:=hq.2.1
       rw [e2] at c1
       have r1:=h2.rN
       rw [e1] at r1
       have r2:=h2.rNm
       rw [e2] at r2
       have d0:=row_one r1 k hlt (v:=x'.v) (by rw [List.getElem?_map,hx'];rfl)
       have d2:=row_one r2 k hlt (v:= .string x'.s) (by rw [List.getElem?_map,hx'];rfl)
       have r3:=h2.eN x' hm
       rw [e3] at d0 r3
       have Hb2:=hide hb2
       have Hx:=hide hx'
       have Hm:=hide hm
       have HH:=hide h2
       clear h2 hq e1 e2 hx' hm r1 r2 hb2 e3 hx
       by_cases hjl:j<x'.n
       · have hji:(j:Int)<(x'.n:Int):=by omega
         obtain ⟨g3,cap4,e5,_⟩:=row_some r3 (by omega)
         obtain ⟨rfl,rfl⟩:a3=some ⟨g3,0,none⟩∧cap3=cap4:=by injection e5 with x1 x2 x3;exact ⟨x1,x3⟩
         have d1:=row_one r3 j hjl (v:= .string x'.s) (by unfold fillN;rw [List.getElem?_replicate,if_pos hjl])
         clear r3 e5
         go_wp2
         go_quiet (fail)
         go_wp2
         go_roundw
         case rel=>exact ⟨x',uh Hx,j+1,by omega,by go_num,(uh Hb2).trans ((((Kept.refl (fun _=>False) wr).drewN nq).below).mono (uh Hb2).size)⟩
         case measure=>simp [intOf];omega
       · have hji: ¬ (j:Int)<(x'.n:Int):=by omega
         clear r3 d2 c1
         go_wp2
         go_roundw
         case rel=>exact ⟨k+1,by omega,by go_num,uh Hb2⟩
         case measure=>simp [intOf];omega
   · have hki: ¬ (k:Int)<(B.names.length:Int):=by omega
     go_wp2
     clear c0
     have Hb0:=Hb
     clear Hb hk hlt hki
     generalize Value.int .i64 (k:Int)=iv0 at*
     go_loopw [5] (fun i w'=>AtK w B.files.length i w') (fun i _=>B.files.length - (intOf i).toNat)
     case atStart=>exact ⟨0,by omega,rfl,uh Hb0⟩
     case round=>
       obtain ⟨k,hk,rfl,hb⟩:=hrel
       have c0:=(uh HC wr hb).2.2.1
       have Hb:=hide hb
       clear hb
       by_cases hlt:k<B.files.length
       · have hki:(k:Int)<(B.files.length:Int):=by omega
         go_wp2
         go_loopw [6] (fun i w'=> ∃ x,B.files[k]? = some x∧AtK w x.n i w') (fun i _=>1000000000 - (intOf i).toNat)
         case atStart=>exact ⟨B.files[k],List.getElem?_eq_getElem hlt,0,by omega,rfl,uh Hb⟩
         case round=>
           obtain ⟨x,hx,j,hj,rfl,hb2⟩:=hrel
           clear c0
           have h2:=(uh H).below hb2
           have hq:=uh HC wr hb2
           obtain ⟨g,cap,g2,cap2,x',a3,cap3,e1,e2,hx',hm,e3⟩:=h2.fileAt k hlt
           obtain rfl:x'=x:=by rw [hx'] at hx;injection hx
           have hxl:(x'.n:Int)≤1000000000:=by have:=(uh HL).ef x' hm;omega
           obtain ⟨rfl,rfl⟩:af=some ⟨g,0,none⟩∧cf=cap:=by
             have e4:=uh HeF
             rw [e1] at e4;injection e4 with x1 x2 x3;exact ⟨x1.symm,x3.symm⟩
           have c0:=hq.2.2.1
           have c1:=hq.2.2.2.1
           rw [e2] at c1
           have r1:=h2.rF
           rw [e1] at r1
           have r2:=h2.rFm
           rw [e2] at r2
           have d0:=row_one r1 k hlt (v:=x'.v) (by rw [List.getElem?_map,hx'];rfl)
           have d2:=row_one r2 k hlt (v:= .int .u8 (x'.m.toNat:Int)) (by rw [List.getElem?_map,hx'];rfl)
           have r3:=h2.eF x' hm
           rw [e3] at d0 r3
           have Hb2:=hide hb2
           have Hx:=hide hx'
           have Hm:=hide hm
           have HH:=hide h2
           clear h2 hq e1 e2 hx' hm r1 r2 hb2 e3 hx
           by_cases hjl:j<x'.n
           · have hji:(j:Int)<(x'.n:Int):=by omega
             obtain ⟨g3,cap4,e5,_⟩:=row_some r3 (by omega)
             obtain ⟨rfl,rfl⟩:a3=some ⟨g3,0,none⟩∧cap3=cap4:=by injection e5 with x1 x2 x3;exact ⟨x1,x3⟩
             have r4: ∀ d os,HasAt (Go.Sort.grow (redrawn wr d) os) g3 (j*64) 64∧cellsAt (Go.Sort.grow (redrawn wr d) os) g3 (j*64) 64=cv (markC x'.m):=fun d os=>fillF_has (ownsRow_kept (S:=fun _=>False) (Kept.of_below (below_regrown wr d os)) r3 (fun _ _=>id)) j hjl
             have l1:=fun d os=>(r4 d os).1
             have l2:=fun d os=>(r4 d os).2
             have x0:=fun d os=>cell_regrown c0 d os
             have x1:=fun d os=>cell_regrown c1 d os
             have y0:=fun d os=>cell_regrown d0 d os
             have y2:=fun d os=>cell_regrown d2 d os
             have Hn:=hide (fun d os=>lawMarked_any x'.m (Go.Sort.grow (redrawn wr d) os))
             have hml:=markC_length x'.m
             have he:=run_eqClus hml hml
             rw [decide_eq_true rfl] at he
             clear r3 r4 e5 hml
             go_wp2
             clear c0 c1 d0 d2
             refine wp_region_quiet_below (by kernel_rfl) (by kernel_rfl) ?_
             repeat (go_big_quiet_step (exact Calls.regrown_of (uh Hn _ _)))
             refine wpQuiet_nil ?_
             intro _ hw'
             obtain ⟨⟨dq,osq⟩,hw''⟩:=hw'
             subst hw''
             clear x0 x1 y0 y2 l1 l2 Hn
             go_wp2
             go_roundw
             case rel=>exact ⟨x',uh Hx,j+1,by omega,by go_num,(uh Hb2).trans ((below_regrown wr dq osq).mono (uh Hb2).size)⟩
             case measure=>simp [intOf];omega
           · have hji: ¬ (j:Int)<(x'.n:Int):=by omega
             clear r3 d2 c1
             go_wp2
             go_roundw
             case rel=>exact ⟨k+1,by omega,by go_num,uh Hb2⟩
             case measure=>simp [intOf];omega
       · have hki: ¬ (k:Int)<(B.files.length:Int):=by omega
         go_wp2
         clear c0
         have Hb1:=Hb0
         clear Hb1 Hb0
         have Hb0:=Hb
         clear Hb hk hlt hki
         generalize Value.int .i64 (k:Int)=iv0 at*
         go_loopw [7] (fun i w'=>AtK w B.writes.length i w') (fun i _=>B.writes.length - (intOf i).toNat)
         case atStart=>exact ⟨0,by omega,rfl,uh Hb0⟩
         case round=>
           obtain ⟨k,hk,rfl,hb⟩:=hrel
           have c0:=(uh HC wr hb).2.2.2.2.1
           have Hb:=hide hb
           clear hb
           by_cases hlt:k<B.writes.length
           · have hki:(k:Int)<(B.writes.length:Int):=by omega
             go_wp2
             go_loopw [8] (fun i w'=> ∃ x,B.writes[k]? = some x∧AtK w x.n i w') (fun i _=>1000000000 - (intOf i).toNat)
             case atStart=>exact ⟨B.writes[k],List.getElem?_eq_getElem hlt,0,by omega,rfl,uh Hb⟩
             case round=>
               obtain ⟨x,hx,j,hj,rfl,hb2⟩:=hrel
               clear c0
               have h2:=(uh H).below hb2
               have hq:=uh HC wr hb2
               obtain ⟨g,cap,g2,cap2,x',a3,cap3,e1,e2,hx',hm,e3⟩:=h2.writeAt k hlt
               obtain rfl:x'=x:=by rw [hx'] at hx;injection hx
               have hxl:(x'.n:Int)≤1000000000:=by have:=(uh HL).ew x' hm;omega
               obtain ⟨rfl,rfl⟩:aw=some ⟨g,0,none⟩∧cw=cap:=by
                 have e4:=uh HeW
                 rw [e1] at e4;injection e4 with x1 x2 x3;exact ⟨x1.symm,x3.symm⟩
               have c0:=hq.2.2.2.2.1
               have c1:=hq.2.2.2.2.2
               rw [e2] at c1
               have r1:=h2.rW
               rw [e1] at r1
               have r2:=h2.rWm
               rw [e2] at r2
               have d0:=row_one r1 k hlt (v:=x'.v) (by rw [List.getElem?_map,hx'];rfl)
               have d2:=row_one r2 k hlt (v:= .int .i64 x'.m) (by rw [List.getElem?_map,hx'];rfl)
               have r3:=h2.eW x' hm
               rw [e3] at d0 r3
               have Hb2:=hide hb2
               have Hx:=hide hx'
               have Hm:=hide hm
               have HH:=hide h2
               clear h2 hq e1 e2 hx' hm r1 r2 hb2 e3 hx
               by_cases hjl:j<x'.n
               · have hji:(j:Int)<(x'.n:Int):=by omega
                 obtain ⟨g3,cap4,e5,_⟩:=row_some r3 (by omega)
                 obtain ⟨rfl,rfl⟩:a3=some ⟨g3,0,none⟩∧cap3=cap4:=by injection e5 with x1 x2 x3;exact ⟨x1,x3⟩
                 have d1: ∀ n,HasAt (wr.drewN n) g3 (j*65) 65:=fun n=>(fillW_has r3 j hjl).1
                 have d3: ∀ n,cellsAt (wr.drewN n) g3 (j*65) 65=wrCells ⟨x'.m,zc⟩:=fun n=>(fillW_has r3 j hjl).2
                 have he:=run_eqWr (x:=⟨x'.m,zc⟩) zc_length
                 clear r3 e5
                 go_wp2
                 go_quiet (fail)
                 go_wp2
                 go_roundw
                 case rel=>exact ⟨x',uh Hx,j+1,by omega,by go_num,(uh Hb2).trans ((((Kept.refl (fun _=>False) wr).drewN nq).below).mono (uh Hb2).size)⟩
                 case measure=>simp [intOf];omega
               · have hji: ¬ (j:Int)<(x'.n:Int):=by omega
                 clear r3 d2 c1
                 go_wp2
                 go_roundw
                 case rel=>exact ⟨k+1,by omega,by go_num,uh Hb2⟩
                 case measure=>simp [intOf];omega
           · have hki: ¬ (k:Int)<(B.writes.length:Int):=by omega
             go_wp2
             clear c0
             go_ret
             exact ⟨rfl,uh Hb⟩
end Go.Proofs.YtknjjjenklfeoaaGreatDoor
namespace Go.Proofs.YtknjjjenklfeoaaGreatDoor
open Go.RowKit
structure MarkR where
 log:Nat
 d:Nat
 Pv:Value
 D:DiskR
def markCells (m:MarkR):List Value:=[.int .i64 m.log,.pointer (some ⟨m.d,0,none⟩)]
structure PairR where
 d:Nat
 v:Nat
 y:Nat
 Cv:Value
 Lv:Value
 Pv:Value
 Mv:Value
 bv:Value
 ex:Bool
 V:VolR
 D:DiskR
 B:List Clus
 ms:List MarkR
def pairCells (P:PairR):List Value:=[.pointer (some ⟨P.d,0,none⟩),.pointer (some ⟨P.y,0,none⟩),P.bv,.bool P.ex,P.Mv]
structure PairAt (w:World) (p:Nat) (P:PairR) (S:Nat→Prop):Prop where
 blk:w.heap[p]? = some (.cells (pairCells P).toArray 107 (0,0))
 dsk:DskAt w P.d P.v P.Cv P.Lv P.V
 ref:DiskAt w P.y P.Pv P.D
 rowB:FRow w P.bv P.B
 rowM:w.ownsRow 0 109 2 P.Mv P.ms.length (P.ms.flatMap markCells)
 eM: ∀ m ∈ P.ms,DiskAt w m.d m.Pv m.D
 neY: ∀ m ∈ P.ms,m.d≠P.y
 apB: ∀ g,P.bv.ownBlock=some g→ ¬ foot P.v P.Cv P.Lv g
 inP:S p
 inD: ∀ k,dfoot P.d P.v P.Cv P.Lv k→S k
 inY:S P.y
 inV: ∀ g,(P.Pv.ownBlock=some g∨P.Mv.ownBlock=some g∨P.bv.ownBlock=some g)→S g
 inM: ∀ m ∈ P.ms,S m.d∧ ∀ g,m.Pv.ownBlock=some g→S g
 lt: ∀ k,S k→k<w.heap.size
section
variable {w w':World} {p:Nat} {P:PairR} {S T:Nat→Prop}
theorem PairAt.kept (h:PairAt w p P S) (hk:Kept T w w') (hd: ∀ k,S k→ ¬ T k):PairAt w' p P S where
 blk:=hk.blk (hd p h.inP) h.blk
 dsk:=h.dsk.kept hk fun k hf=>hd k (h.inD k hf)
 ref:=h.ref.kept hk (hd _ h.inY) fun g hg=>hd g (h.inV g (Or.inl hg))
 rowB:=h.rowB.kept hk fun g hg=>hd g (h.inV g (Or.inr (Or.inr hg)))
 rowM:=ownsRow_kept hk h.rowM fun g hg=>hd g (h.inV g (Or.inr (Or.inl hg)))
 eM:=fun m hm=>(h.eM m hm).kept hk (hd _ (h.inM m hm).1) fun g hg=>hd g ((h.inM m hm).2 g hg)
 neY:=h.neY
 apB:=h.apB
 inP:=h.inP
 inD:=h.inD
 inY:=h.inY
 inV:=h.inV
 inM:=h.inM
 lt:=fun k hk'=>Nat.lt_of_lt_of_le (h.lt k hk') hk.size
theorem PairAt.below (h:PairAt w p P S) (hb:Below w.heap.size w w'):PairAt w' p P S:=h.kept (T:=fun _=>False) (Kept.of_below hb) (fun _ _=>id)
theorem PairAt.cell (h:PairAt w p P S) (i:Nat):w.cell? ⟨p,i,none⟩=(pairCells P)[i]? := by rw [cell_blk h.blk,List.getElem?_toArray]
theorem PairAt.fz (h:PairAt w p P S) (i:Nat):w.frozen? ⟨p,i,none⟩=false:=frozen_blk h.blk i
theorem PairAt.c0 (h:PairAt w p P S):w.cell? ⟨p,0,none⟩=some (.pointer (some ⟨P.d,0,none⟩)):=h.cell 0
theorem PairAt.c1 (h:PairAt w p P S):w.cell? ⟨p,1,none⟩=some (.pointer (some ⟨P.y,0,none⟩)):=h.cell 1
theorem PairAt.c2 (h:PairAt w p P S):w.cell? ⟨p,2,none⟩=some P.bv:=h.cell 2
theorem PairAt.c3 (h:PairAt w p P S):w.cell? ⟨p,3,none⟩=some (.bool P.ex):=h.cell 3
theorem PairAt.c4 (h:PairAt w p P S):w.cell? ⟨p,4,none⟩=some P.Mv:=h.cell 4
theorem PairAt.neM (h:PairAt w p P S): ∀ g,P.Mv.ownBlock=some g→g≠p:=row_ne h.rowM h.blk (by decide)
theorem row_blk {w:World} {base:Nat} {e:TypeId} {size:Nat} {v:Value} {n:Nat} {xs:List Value} (hr:w.ownsRow base e size v n xs) {g:Nat} (hg:v.ownBlock=some g): ∃ cs fr,w.heap[g]? = some (.cells cs e fr):=by
 rcases hr.2 with ⟨rfl,_⟩ | ⟨g',cap,cur,rfl,_,hh,_⟩
 · cases hg
 · simp only [Value.ownBlock,Option.some.injEq] at hg
   subst hg
   exact ⟨_,_,hh⟩
theorem blk_type {w:World} {k:Nat} {cs cs':Array Value} {t t':TypeId} {fr fr':Nat × Nat} (h:w.heap[k]? = some (.cells cs t fr)) (h':w.heap[k]? = some (.cells cs' t' fr')):t=t':=by
 rw [h] at h'
 injection h' with h'
 injection h' with _ h'
theorem PairAt.footKey (h:PairAt w p P S) {k:Nat} {cs:Array Value} {t:TypeId} {fr:Nat × Nat} (hb:w.heap[k]? = some (.cells cs t fr)) (h1:t≠121) (h2:t≠38) (h3:t≠104): ¬ foot P.v P.Cv P.Lv k:=by
 have hv:=h.dsk.vol
 rintro (e | e | e)
 · subst e;exact h1 (blk_type hb hv.blk)
 · exact row_ne hv.rowC hb (fun x=>h2 x.symm) k e rfl
 · exact row_ne hv.rowL hb (fun x=>h3 x.symm) k e rfl
theorem PairAt.diskFoot (h:PairAt w p P S) {y:Nat} {Qv:Value} {D:DiskR} (hd:DiskAt w y Qv D): ¬ foot P.v P.Cv P.Lv y∧ ∀ g,Qv.ownBlock=some g→ ¬ foot P.v P.Cv P.Lv g:=by
 refine ⟨h.footKey hd.blk (by decide) (by decide) (by decide),fun g hg=> ?_⟩
 obtain ⟨cs,fr,hb⟩:=row_blk hd.row hg
 exact h.footKey hb (by decide) (by decide) (by decide)
theorem PairAt.step {C1 L1:Value} {V1:VolR} (h:PairAt w p P S) (hs:VStep w w' P.v P.Cv P.Lv C1 L1 V1):
   PairAt w' p { P with Cv:=C1,Lv:=L1,V:=V1 } (fun k=>S k∨foot P.v C1 L1 k) where
 blk:=hs.kept.blk (h.footKey h.blk (by decide) (by decide) (by decide)) h.blk
 dsk:=h.dsk.step hs
 ref:=h.ref.kept hs.kept (h.diskFoot h.ref).1 (h.diskFoot h.ref).2
 rowB:=h.rowB.kept hs.kept h.apB
 rowM:=ownsRow_kept hs.kept h.rowM fun g hg=>by
   obtain ⟨cs,fr,hb⟩:=row_blk h.rowM hg
   exact h.footKey hb (by decide) (by decide) (by decide)
 eM:=fun m hm=>(h.eM m hm).kept hs.kept (h.diskFoot (h.eM m hm)).1 (h.diskFoot (h.eM m hm)).2
 neY:=h.neY
 apB:=fun g hg hf=>by
   rcases hs.new g hf with x | x
   · exact h.apB g hg x
   · have:=h.lt g (h.inV g (Or.inr (Or.inr hg)));omega
 inP:=Or.inl h.inP
 inD:=by
   rintro k (e | e)
   · exact Or.inl (h.inD k (Or.inl e))
   · exact Or.inr e
 inY:=Or.inl h.inY
 inV:=fun g hg=>Or.inl (h.inV g hg)
 inM:=fun m hm=>⟨Or.inl (h.inM m hm).1,fun g hg=>Or.inl ((h.inM m hm).2 g hg)⟩
 lt:=by
   rintro k (e | e)
   · exact Nat.lt_of_lt_of_le (h.lt k e) hs.kept.size
   · exact hs.at'.foot_lt k e
theorem PairAt.step_new {C1 L1:Value} {V1:VolR} (h:PairAt w p P S) (hs:VStep w w' P.v P.Cv P.Lv C1 L1 V1): ∀ k,(S k∨foot P.v C1 L1 k)→S k∨w.heap.size≤k:=by
 rintro k (e | e)
 · exact Or.inl e
 · rcases hs.new k e with x | x
   · exact Or.inl (h.inD k (Or.inr x))
   · exact Or.inr x
theorem PairAt.step_kept {C1 L1:Value} {V1:VolR} (h:PairAt w p P S) (hs:VStep w w' P.v P.Cv P.Lv C1 L1 V1):Kept S w w':=hs.kept.mono fun k hk=>h.inD k (Or.inr hk)
theorem PairAt.refStep {D1:DiskR} {Qv:Value} (h:PairAt w p P S) (hk:Kept (fun k=>k=P.y) w w') (hr:DiskAt w' P.y Qv D1):PairAt w' p { P with D:=D1,Pv:=Qv } (fun k=>S k∨Qv.ownBlock=some k):=by
 have key: ∀ {k:Nat} {cs:Array Value} {t:TypeId} {fr:Nat × Nat},w.heap[k]? = some (.cells cs t fr)→t≠70→k≠P.y:=by
   intro k cs t fr hb h1 e
   subst e
   exact h1 (blk_type hb h.ref.blk)
 have keyR: ∀ {base:Nat} {e:TypeId} {size:Nat} {v:Value} {n:Nat} {xs:List Value},w.ownsRow base e size v n xs→e≠70→ ∀ g,v.ownBlock=some g→g≠P.y:=by
   intro base e size v n xs hr' h1 g hg
   obtain ⟨cs,fr,hb⟩:=row_blk hr' hg
   exact key hb h1
 refine ⟨hk.blk (key h.blk (by decide)) h.blk,h.dsk.kept hk ?_,hr,h.rowB.kept hk (keyR h.rowB.row (by decide)),ownsRow_kept hk h.rowM (keyR h.rowM (by decide)),fun m hm=>(h.eM m hm).kept hk (h.neY m hm) (keyR (h.eM m hm).row (by decide)),h.neY,h.apB,Or.inl h.inP,fun k hk'=>Or.inl (h.inD k hk'),Or.inl h.inY,?_,fun m hm=>⟨Or.inl (h.inM m hm).1,fun g hg=>Or.inl ((h.inM m hm).2 g hg)⟩,?_⟩
 · rintro k (e | e | e | e)
   · rw [e];exact key h.dsk.blk (by decide)
   · rw [e];exact key h.dsk.vol.blk (by decide)
   · exact keyR h.dsk.vol.rowC (by decide) k e
   · exact keyR h.dsk.vol.rowL (by decide) k e
 · rintro g (e | e | e)
   · exact Or.inr e
   · exact Or.inl (h.inV g (Or.inr (Or.inl e)))
   · exact Or.inl (h.inV g (Or.inr (Or.inr e)))
 · rintro k (e | e)
   · exact Nat.lt_of_lt_of_le (h.lt k e) hk.size
   · exact (hr.row.lt k e).2
theorem PairAt.growM {w5:World} {g5 cap5:Nat} {m:MarkR} (h:PairAt w p P S) (hg:w.grownBy w5 P.Mv.ownBlock) (hrow:w5.ownsRow 0 109 2 (.slice (some ⟨g5,0,none⟩) (P.ms.length+1) cap5) (P.ms.length+1) (P.ms.flatMap markCells++markCells m)) (hat:P.Mv.ownBlock=some g5∨w.heap.size≤g5) (hlt:g5<w5.heap.size)
   (hm:DiskAt w m.d m.Pv m.D) (hmy:m.d≠P.y) (w0:World) (hw0:w0.heap.size≤w.heap.size) (hmn:w0.heap.size≤m.d∧ ∀ g,m.Pv.ownBlock=some g→w0.heap.size≤g):
   PairAt (w5.setCell ⟨p,4,none⟩ (.slice (some ⟨g5,0,none⟩) (P.ms.length+1) cap5)) p { P with Mv:= .slice (some ⟨g5,0,none⟩) (P.ms.length+1) cap5,ms:=P.ms++[m] } (fun k=>S k∨k=g5∨k=m.d∨m.Pv.ownBlock=some k)∧
     Kept S w (w5.setCell ⟨p,4,none⟩ (.slice (some ⟨g5,0,none⟩) (P.ms.length+1) cap5))∧ ∀ k,(S k∨k=g5∨k=m.d∨m.Pv.ownBlock=some k)→S k∨w0.heap.size≤k:=by
 have hk5:Kept (fun k=>P.Mv.ownBlock=some k) w w5:=⟨hg.os,hg.tape,hg.output,hg.size,fun k hk hs=>hg.block k hk (fun e=>hs e.symm)⟩
 have b5:w5.heap[p]? = some (.cells (pairCells P).toArray 107 (0,0)):=grown_blk hg h.blk h.neM
 have b6:=heap_setCell_same w5 p 4 (.slice (some ⟨g5,0,none⟩) (P.ms.length+1) cap5) _ _ _ b5
 have hkS:=Kept.only w5 p 4 (.slice (some ⟨g5,0,none⟩) (P.ms.length+1) cap5)
 have hk6:Kept (fun k=>P.Mv.ownBlock=some k∨k=p) w (w5.setCell ⟨p,4,none⟩ (.slice (some ⟨g5,0,none⟩) (P.ms.length+1) cap5)):=(hk5.mono fun k hk=>Or.inl hk).trans (hkS.mono fun k hk=>Or.inr hk)
 have key: ∀ {k:Nat} {cs:Array Value} {t:TypeId} {fr:Nat × Nat},w.heap[k]? = some (.cells cs t fr)→t≠109→t≠107→ ¬ (P.Mv.ownBlock=some k∨k=p):=by
   intro k cs t fr hb h1 h2
   rintro (e | e)
   · exact row_ne h.rowM hb (fun x=>h1 x.symm) k e rfl
   · subst e;exact h2 (blk_type hb h.blk)
 have keyR: ∀ {base:Nat} {e:TypeId} {size:Nat} {v:Value} {n:Nat} {xs:List Value},w.ownsRow base e size v n xs→e≠109→e≠107→ ∀ g,v.ownBlock=some g→ ¬ (P.Mv.ownBlock=some g∨g=p):=by
   intro base e size v n xs hr' h1 h2 g hg'
   obtain ⟨cs,fr,hb⟩:=row_blk hr' hg'
   exact key hb h1 h2
 have hgp:g5≠p:=fun e=>by
   rcases hat with x | x
   · exact h.neM g5 x e
   · have:=h.lt _ h.inP;omega
 have hdk: ∀ {y:Nat} {Qv:Value} {D:DiskR},DiskAt w y Qv D→DiskAt (w5.setCell ⟨p,4,none⟩ (.slice (some ⟨g5,0,none⟩) (P.ms.length+1) cap5)) y Qv D:=fun hd=>hd.kept hk6 (key hd.blk (by decide) (by decide)) (keyR hd.row (by decide) (by decide))
 refine ⟨⟨?_,h.dsk.kept hk6 ?_,hdk h.ref,h.rowB.kept hk6 (keyR h.rowB.row (by decide) (by decide)),?_,fun x hx=> ?_,fun x hx=> ?_,h.apB,Or.inl h.inP,fun k hk=>Or.inl (h.inD k hk),Or.inl h.inY,?_,fun x hx=> ?_,?_⟩,?_,?_⟩
 · rw [b6];rfl
 · rintro k (e | e | e | e)
   · rw [e];exact key h.dsk.blk (by decide) (by decide)
   · rw [e];exact key h.dsk.vol.blk (by decide) (by decide)
   · exact keyR h.dsk.vol.rowC (by decide) (by decide) k e
   · exact keyR h.dsk.vol.rowL (by decide) (by decide) k e
 · have:=ownsRow_kept hkS hrow (fun g hg' e=>by simp only [Value.ownBlock,Option.some.injEq] at hg';omega)
   simpa using this
 · rcases List.mem_append.1 hx with y | y
   · exact hdk (h.eM x y)
   · rw [List.mem_singleton.1 y];exact hdk hm
 · rcases List.mem_append.1 hx with y | y
   · exact h.neY x y
   · rw [List.mem_singleton.1 y];exact hmy
 · rintro g (e | e | e)
   · exact Or.inl (h.inV g (Or.inl e))
   · simp only [Value.ownBlock,Option.some.injEq] at e
     exact Or.inr (Or.inl e.symm)
   · exact Or.inl (h.inV g (Or.inr (Or.inr e)))
 · rcases List.mem_append.1 hx with y | y
   · exact ⟨Or.inl (h.inM x y).1,fun g hg'=>Or.inl ((h.inM x y).2 g hg')⟩
   · rw [List.mem_singleton.1 y]
     exact ⟨Or.inr (Or.inr (Or.inl rfl)),fun g hg'=>Or.inr (Or.inr (Or.inr hg'))⟩
 · rintro k (e | e | e | e)
   · exact Nat.lt_of_lt_of_le (h.lt k e) hk6.size
   · rw [e];exact Nat.lt_of_lt_of_le hlt hkS.size
   · rw [e];exact Nat.lt_of_lt_of_le hm.lt hk6.size
   · exact Nat.lt_of_lt_of_le (hm.row.lt k e).2 hk6.size
 · exact hk6.mono fun k hk=>by
     rcases hk with x | x
     · exact h.inV k (Or.inr (Or.inl x))
     · rw [x];exact h.inP
 · rintro k (e | e | e | e)
   · exact Or.inl e
   · rcases hat with x | x
     · exact Or.inl (by rw [e];exact h.inV g5 (Or.inr (Or.inl x)))
     · exact Or.inr (by omega)
   · exact Or.inr (by rw [e];exact hmn.1)
   · exact Or.inr (hmn.2 k e)
end
structure OpR where
 kind:Int
 n:Int
 name:ByteArray
 text:ByteArray
 raw:Value
 gone:Value
def opCells (o:OpR):List Value:=[.int .i64 o.kind,.int .i64 o.n,.string o.name,.string o.text,o.raw,o.gone]
theorem opCells_length (o:OpR):(opCells o).length=6:=rfl
def zo:OpR:=⟨0,0,.empty,.empty,.slice none 0 0,.slice none 0 0⟩
def loadOp (a:Addr):Sem Value:=loadVar 80 a
theorem loadVar_op (a:Addr):loadVar 80 a=loadOp a:=rfl
theorem run_loadOp {w:World} {b o:Nat} (h:HasAt w b o 6):(loadOp ⟨b,o,none⟩).run Tryz.prog w= .ok (.agg (cellsAt w b o 6).toArray) w:=
 run_loadVar_has h 80 _ Tryz.underlying80 rfl (by kernel_rfl)
def storeOp (a:Addr) (v:Value):Sem Unit:=storeVar 80 a v
theorem storeVar_op (a:Addr) (v:Value):storeVar 80 a v=storeOp a v:=rfl
def zeroOp:Sem Value:=zeroValue 80
theorem zeroValue_op:zeroValue 80=zeroOp:=rfl
theorem run_zeroOp (w:World):zeroOp.run Tryz.prog w= .ok (.agg (opCells zo).toArray) w:=
 (zero_of_info (P:=Tryz.prog) (t:=80) (v:= .agg (opCells zo).toArray) (n:=6) (by kernel_rfl)).1 w
structure OpR.Fits (o:OpR):Prop where
 raw:o.raw.oneCell'=true
 gone:o.gone.oneCell'=true
theorem opCells_one {o:OpR} (h:o.Fits): ∀ v ∈ opCells o,v.oneCell'=true:=by
 intro v hv
 simp only [opCells,List.mem_cons,List.not_mem_nil,or_false] at hv
 rcases hv with rfl | rfl | rfl | rfl | rfl | rfl
 · rfl
 · rfl
 · rfl
 · rfl
 · exact h.raw
 · exact h.gone
theorem run_storeOp_new {w:World} {z x:OpR} (hx:x.Fits):
   (storeOp ⟨w.heap.size,0,none⟩ (.agg (opCells x).toArray)).run Tryz.prog (w.alloc (.cells (opCells z).toArray 80))= .ok () (w.alloc (.cells (opCells x).toArray 80)):=
 run_storeVar_new w 80 (opCells z).toArray (opCells x).toArray (by simp only [List.size_toArray,opCells_length];kernel_rfl) (by simp [opCells_length]) (all_oneCell_toArray (opCells_one hx))
end Go.Proofs.YtknjjjenklfeoaaGreatDoor
