import Derived.Test.YtknjjjenklfeoaaGreatDoorC01
import Derived.Test.YtknjjjenklfeoaaGreatDoorC00
set_option maxHeartbeats 8000000
set_option maxRecDepth 100000
namespace Go.Proofs.YtknjjjenklfeoaaGreatDoor
open Go.RowKit
theorem countOf_lt (L:List Clus) (n:Nat):countOf L n<256:=byteAt_lt _ _
theorem counts_any (w:World) (f:Nat) (Lv Rv:Value) (R:FileR) (h:FileAt w f Lv Rv R) (hL5:5≤R.L.length) (hlow:Low 1000000 R):
   Calls Tryz.prog 77 #[.pointer (some ⟨f,0,none⟩)] w fun e w'=>e= .returned (.int .i64 (countsFrom R 256 0))∧w'=w:=by
 have c0:=h.cLv
 obtain ⟨a,cap,rfl⟩:=row_form h.rowL
 go_enter Tryz.func77,Tryz.ntmps77
 go_wp2
 go_loopw [3] (fun i w'=> ∃ k:Nat,k≤256∧i= .int .i64 k∧w'=w∧countsFrom R 256 0=countsFrom R (256 - k) k) (fun i _=>256 - (intOf i).toNat)
 case atStart=>exact ⟨0,by omega,rfl,rfl,rfl⟩
 case round=>
   obtain ⟨k,hk,rfl,rfl,he⟩:=hrel
   have He:=hide he
   clear he
   by_cases hlt:k<256
   · have cu:=h.cUsed k hlt
     have hu:=hlow k
     have Hcnt:=hide (count_any wr f _ Rv R h (k:Int) (by omega) (by omega) hL5)
     rw [Int.toNat_natCast] at Hcnt
     have hq:=countOf_lt R.L k
     have hb:badCount R k=((decide (k<R.L.length) && decide (countOf R.L k<R.used.getD k 0)) || (countOf R.L k == 255 || (decide (R.L.length≤k) && countOf R.L k != 0))):=rfl
     have hnext:badCount R k=false→countsFrom R 256 0=countsFrom R (256 - (k+1)) (k+1):=fun hf=>by
       rw [uh He,show 256 - k=(256 - (k+1))+1 by omega,countsFrom,hf];rfl
     have hstop:badCount R k=true→countsFrom R 256 0=(k:Int):=fun hf=>by
       rw [uh He,show 256 - k=(256 - (k+1))+1 by omega,countsFrom,hf];rfl
     generalize badCount R k=bc at*
     have Hb:=hide hb
     have Hnext:=hide hnext
     have Hstop:=hide hstop
     clear hb hnext hstop
     generalize countOf R.L k=q at*
     generalize R.used.getD k 0=u at*
     go_wp2_with fail
     refine (uh Hcnt).mono ?_
     rintro e w1 ⟨rfl,rfl⟩
     clear Hcnt
     by_cases hl:k<R.L.length
     · have dl:decide ((k:Int)<(R.L.length:Int))=true:=by simp;omega
       have dl2:decide ((R.L.length:Int)≤(k:Int))=false:=by simp;omega
       by_cases hqu:q<u
       · have dq:decide ((q:Int)<(u:Int))=true:=by simp;omega
         have e:=uh Hstop (by rw [uh Hb];simp [hl,hqu])
         have E:=hide e
         clear e Hb Hnext Hstop
         go_wp2
         go_ret
         exact ⟨by rw [uh E];rfl,rfl⟩
       · have dq:decide ((q:Int)<(u:Int))=false:=by simp;omega
         by_cases h255:q=255
         · subst h255
           have e:=uh Hstop (by rw [uh Hb];simp)
           have E:=hide e
           clear e Hb Hnext Hstop
           go_wp2
           go_ret
           exact ⟨by rw [uh E];rfl,rfl⟩
         · have d2:((q:Int) == 255)=false:=by rw [beq_eq_false_iff_ne];omega
           have e:=uh Hnext (by rw [uh Hb];simp [hqu,h255];omega)
           have E:=hide e
           clear e Hb Hnext Hstop
           go_wp2
           go_roundw
           case rel=>exact ⟨k+1,by omega,by go_num,by trivial,uh E⟩
           case measure=>simp [intOf];omega
     · have dl:decide ((k:Int)<(R.L.length:Int))=false:=by simp;omega
       have dl2:decide ((R.L.length:Int)≤(k:Int))=true:=by simp;omega
       by_cases h255:q=255
       · subst h255
         have e:=uh Hstop (by rw [uh Hb];simp)
         have E:=hide e
         clear e Hb Hnext Hstop
         go_wp2
         go_ret
         exact ⟨by rw [uh E];rfl,rfl⟩
       · have d2:((q:Int) == 255)=false:=by rw [beq_eq_false_iff_ne];omega
         by_cases hq0:q=0
         · subst hq0
           have e:=uh Hnext (by rw [uh Hb];simp [hl])
           have E:=hide e
           clear e Hb Hnext Hstop
           go_wp2
           go_roundw
           case rel=>exact ⟨k+1,by omega,by go_num,by trivial,uh E⟩
           case measure=>simp [intOf];omega
         · have d3:((q:Int) != 0)=true:=by rw [bne_iff_ne];omega
           have e:=uh Hstop (by rw [uh Hb];simp [hq0];omega)
           have E:=hide e
           clear e Hb Hnext Hstop
           go_wp2
           go_ret
           exact ⟨by rw [uh E];rfl,rfl⟩
   · have hk2:k=256:=by omega
     subst hk2
     go_wp2
     go_ret
     exact ⟨by rw [uh He];rfl,rfl⟩
theorem free_any (w:World) (f:Nat) (Lv Rv:Value) (R:FileR) (h:FileAt w f Lv Rv R) (hLL:R.L.length≤256) (hL5:6≤R.L.length):
   Calls Tryz.prog 117 #[.pointer (some ⟨f,0,none⟩)] w fun e w'=>e= .returned (.int .i64 (freeOf R.L:Nat))∧w'=w:=by
 have c0:=h.cLv
 obtain ⟨a,cap,rfl⟩:=row_form h.rowL
 have hLi:(R.L.length:Int)≤256:=by omega
 have h6:cntTo (fun k=>decide (6≤k) && countOf R.L k == 0) 6=0:=by simp [cntTo]
 have hf:freeOf R.L=256 - R.L.length+cntTo (fun k=>decide (6≤k) && countOf R.L k == 0) R.L.length:=rfl
 have Hf:=hide hf
 have H6:=hide h6
 clear hf h6
 go_enter Tryz.func117,Tryz.ntmps117
 go_wp2
 go_loopw [3,4] (fun n i w'=> ∃ k c:Nat,6≤k∧k≤R.L.length∧i= .int .i64 k∧w'=w∧c≤k∧n= .int .i64 (256 - (R.L.length:Int)+c)∧cntTo (fun k=>decide (6≤k) && countOf R.L k == 0) k=c) (fun _ i _=>R.L.length - (intOf i).toNat)
 case atStart=>exact ⟨6,0,by omega,by omega,rfl,rfl,by omega,by simp,uh H6⟩
 case round=>
   obtain ⟨k,c,hk6,hk,rfl,rfl,hc,rfl,he⟩:=hrel
   have He:=hide he
   clear he H6
   by_cases hlt:k<R.L.length
   · have Hcnt:=hide (count_any wr f _ Rv R h (k:Int) (by omega) (by omega) (by omega))
     rw [Int.toNat_natCast] at Hcnt
     have hs:cntTo (fun k=>decide (6≤k) && countOf R.L k == 0) (k+1)=c+if countOf R.L k=0 then 1 else 0:=by
       rw [cntTo,uh He]
       congr 1
       simp [hk6]
     have Hs:=hide hs
     clear hs
     generalize countOf R.L k=q at*
     go_wp2_with fail
     refine (uh Hcnt).mono ?_
     rintro e w1 ⟨rfl,rfl⟩
     clear Hcnt
     by_cases hq0:q=0
     · subst hq0
       go_wp2
       go_roundw
       case rel=>exact ⟨k+1,c+1,by omega,by omega,by go_num,by trivial,by omega,by go_num,by rw [uh Hs];rfl⟩
       case measure=>simp [intOf];omega
     · have d3:((q:Int) == 0)=false:=by rw [beq_eq_false_iff_ne];omega
       go_wp2
       go_roundw
       case rel=>exact ⟨k+1,c,by omega,by omega,by go_num,by trivial,by omega,rfl,by rw [uh Hs,if_neg hq0];rfl⟩
       case measure=>simp [intOf];omega
   · have hk2:k=R.L.length:=by omega
     have Hk2:=hide hk2
     clear hk2
     go_wp2
     go_ret
     refine ⟨ret_int ?_,rfl⟩
     have e:=uh Hf
     rw [← uh Hk2,uh He] at e
     have hq:=uh Hk2
     omega
end Go.Proofs.YtknjjjenklfeoaaGreatDoor
namespace Go.Proofs.YtknjjjenklfeoaaGreatDoor
open Go.RowKit
attribute [local go_sem ↓] loadVar_clus
attribute [local go_sem] run_loadClus
def markedIn (R:FileR) (t:Nat):Nat→Nat→Nat→Option Nat
 | 0,_,acc=>some acc
 | m+1,k,acc=>
   if num (cl R.L t) (2*k)=0 then markedIn R t m (k+1) acc
   else if markBad R (num (cl R.L t) (2*k)) then none
   else markedIn R t m (k+1) (acc+markNone R (num (cl R.L t) (2*k)))
def markedOut (R:FileR) (t:Nat):Nat→Nat→Nat→Int × Nat
 | 0,_,acc=>(-1,acc)
 | m+1,i,acc=>
   if num (cl R.L t) (2*i)=0 then markedOut R t m (i+1) acc
   else if markBad R (num (cl R.L t) (2*i)) then (t,0)
   else match markedIn R (num (cl R.L t) (2*i)%32768) 32 0 (acc+markNone R (num (cl R.L t) (2*i))) with
     | none=>(((num (cl R.L t) (2*i)%32768:Nat):Int),0)
     | some a=>markedOut R t m (i+1) a
def marked (R:FileR) (r:RootR):Int × Nat:=markedOut R r.N 2 0 0
structure InFile (L:List Clus) (t:Nat):Prop where
 at':t<L.length
 second: ∀ i,i<2→num (cl L t) (2*i)≠0→num (cl L t) (2*i)%32768<L.length
 block: ∀ i,i<2→num (cl L t) (2*i)≠0→ ∀ k,k<32→num (cl L (num (cl L t) (2*i)%32768)) (2*k)%32768<L.length
theorem markNone_le (R:FileR) (x:Nat):markNone R x≤1:=by
 unfold markNone
 split
 · omega
 · split <;> omega
theorem marked_any (w:World) (f:Nat) (Lv Rv:Value) (R:FileR) (r:RootR) (h:FileAt w f Lv Rv R) (hLL:R.L.length≤256) (hL5:5≤R.L.length) (hin:InFile R.L r.N) (hlow:Low 1000000 R):
   Calls Tryz.prog 78 #[.pointer (some ⟨f,0,none⟩),.agg (rootCells r).toArray] w fun e w'=>
     e= .returned (.tuple #[.int .i64 (marked R r).1,.int .i64 ((marked R r).2:Nat)])∧Below w.heap.size w w':=by
 have hB:Below w.heap.size w (w.alloc (.cells (rootCells r).toArray 132)):=(Below.refl _ _).alloc (Nat.le_refl _) _
 have b0:(w.alloc (.cells (rootCells r).toArray 132)).cell? ⟨w.heap.size,0,none⟩=some (.int .i64 (r.N:Nat)):=by rw [cell_new];rfl
 have h0:=h.below hB
 obtain ⟨g,cap,rfl,hc⟩:=row_some h.rowL (by omega)
 have HB:=hide hB
 clear hB
 have hNi:(r.N:Int)<(R.L.length:Int):=by have:=hin.at';omega
 have hres:marked R r=markedOut R r.N 2 0 0:=rfl
 have Hres:=hide hres
 clear hres
 have Hin:=hide hin
 go_enter Tryz.func78,Tryz.ntmps78
 go_wp2
 generalize w.alloc (.cells (rootCells r).toArray 132)=W at*
 go_loopw [6,7] (fun n i w'=> ∃ k a:Nat,k≤2∧a≤33*k∧i= .int .i64 k∧n= .int .i64 a∧Below W.heap.size W w'∧marked R r=markedOut R r.N (2 - k) k a) (fun _ i _=>2 - (intOf i).toNat)
 case atStart=>exact ⟨0,0,by omega,by omega,rfl,rfl,Below.refl _ _,uh Hres⟩
 case round=>
   obtain ⟨k,a,hk,ha,rfl,rfl,hb,he⟩:=hrel
   have He:=hide he
   clear he Hres
   by_cases hlt:k<2
   · have hbox:wr.cell? ⟨w.heap.size,0,none⟩=some (.int .i64 (r.N:Nat)):=by
       rw [hb.cell (p:=⟨w.heap.size,0,none⟩) (World.block_lt_of_cell? _ _ b0)];exact b0
     have hr:=h0.below hb
     have hG: ∀ d os,FileAt (Go.Sort.grow (redrawn wr d) os) f _ _ R:=fun d os=>hr.below (below_regrown wr d os)
     have c0:=fun d os=>(hG d os).cLv
     have cx:=fun d os=>cell_regrown hbox d os
     have l1:=fun d os=>row_has (hG d os).rowL h.lens _ hin.at'
     have l2:=fun d os=>row_cells (hG d os).rowL h.lens _ hin.at'
     have hlen:=cl_length h.lens hin.at'
     have Hn:=hide (fun d os=>number_any (cl R.L r.N) (2*(k:Int)) (Go.Sort.grow (redrawn wr d) os) hlen (by omega) (by omega))
     rw [show (2*(k:Int)).toNat=2*k by omega] at Hn
     have hxl:=num_lt (cl R.L r.N) (2*k)
     have hsec:=hin.second k hlt
     have hblk:=hin.block k hlt
     have hstep:marked R r=(if num (cl R.L r.N) (2*k)=0 then markedOut R r.N (2 - (k+1)) (k+1) a
         else if markBad R (num (cl R.L r.N) (2*k)) then ((r.N:Int),0)
         else match markedIn R (num (cl R.L r.N) (2*k)%32768) 32 0 (a+markNone R (num (cl R.L r.N) (2*k))) with
           | none=>(((num (cl R.L r.N) (2*k)%32768:Nat):Int),0)
           | some a=>markedOut R r.N (2 - (k+1)) (k+1) a):=by
       rw [uh He,show 2 - k=(2 - (k+1))+1 by omega,markedOut]
     generalize num (cl R.L r.N) (2*k)=x at*
     have Hstep:=hide hstep
     clear hstep hG
     have Hblk:=hide hblk
     clear hblk He
     go_wp2
     refine wp_region_quiet_below (by kernel_rfl) (by kernel_rfl) ?_
     repeat (go_big_quiet_step (exact Calls.regrown_of (uh Hn _ _)))
     refine wpQuiet_nil ?_
     intro _ hw'
     obtain ⟨⟨dq,osq⟩,hw''⟩:=hw'
     subst hw''
     clear c0 cx l1 l2 Hn
     have hb2:=hb.trans ((below_regrown wr dq osq).mono hb.size)
     have hr2:=hr.below (below_regrown wr dq osq)
     have hbox2:=cell_regrown hbox dq osq
     clear hbox hb hr
     generalize Go.Sort.grow (redrawn wr dq) osq=w2 at*
     have Hb2:=hide hb2
     clear hb2
     by_cases hx0:x=0
     · subst hx0
       clear hr2
       go_wp2
       go_roundw
       case rel=>exact ⟨k+1,a,by omega,by omega,by go_num,rfl,uh Hb2,by rw [uh Hstep];rfl⟩
       case measure=>simp [intOf];omega
     · have dx:((x:Int) == 0)=false:=by rw [beq_eq_false_iff_ne];omega
       have hxL:=hsec hx0
       have Hm:=hide (mark_no w2 f _ Rv R hr2 x (by omega) hxl hL5 hlow)
       have hm1:=markNone_le R x
       rw [if_neg hx0] at Hstep
       have Hr2:=hide hr2
       clear hr2 hsec
       go_wp2_with fail
       refine (uh Hm).mono ?_
       rintro e w3 ⟨rfl,rfl⟩
       clear Hm
       cases hbad:markBad R x with
       | true=>
         rw [hbad] at Hstep
         clear hbad
         go_wp2
         go_ret2
         refine ⟨?_,(uh HB).trans ((uh Hb2).mono (uh HB).size)⟩
         rw [uh Hstep];rfl
       | false=>
         rw [hbad] at Hstep
         clear hbad
         generalize markNone R x=q at*
         clear hbox2
         have hstep2:marked R r=match markedIn R (x%32768) 32 0 (a+q) with
           | none=>(((x%32768:Nat):Int),0)
           | some a=>markedOut R r.N (2 - (k+1)) (k+1) a:=by rw [uh Hstep];rfl
         have Hstep2:=hide hstep2
         clear hstep2 Hstep
         generalize hT:markedIn R (x%32768) 32 0 (a+q)=T at Hstep2
         have HT:=hide hT
         clear hT
         have hxi:(x:Int)%32768<(R.L.length:Int):=by omega
         go_wp2
         go_loopw [6,11] (fun n i w'=> ∃ m c:Nat,m≤32∧c≤33*k+1+m∧i= .int .i64 m∧n= .int .i64 c∧Below W.heap.size W w'∧FileAt w' f (.slice (some ⟨g,0,none⟩) R.L.length cap) Rv R∧markedIn R (x%32768) (32 - m) m c=T) (fun _ i _=>32 - (intOf i).toNat)
         case atStart=>exact ⟨0,a+q,by omega,by omega,rfl,by go_num,uh Hb2,uh Hr2,uh HT⟩
         case round=>
           obtain ⟨m,c,hm,hcc,rfl,rfl,hb3,hr3,he3⟩:=hrel
           have He3:=hide he3
           clear he3 HT Hb2 Hr2
           by_cases hlt2:m<32
           · have c0:=hr3.cLv
             have l1:=row_has hr3.rowL hr3.lens _ hxL
             have l2:=row_cells hr3.rowL hr3.lens _ hxL
             have Hn:=hide (number_any (cl R.L (x%32768)) (2*(m:Int)) wr (cl_length h.lens hxL) (by omega) (by omega))
             rw [show (2*(m:Int)).toNat=2*m by omega] at Hn
             have hyl:=num_lt (cl R.L (x%32768)) (2*m)
             have hyb:=uh Hblk hx0 m hlt2
             have hs3:(if num (cl R.L (x%32768)) (2*m)=0 then markedIn R (x%32768) (32 - (m+1)) (m+1) c
                 else if markBad R (num (cl R.L (x%32768)) (2*m)) then none
                 else markedIn R (x%32768) (32 - (m+1)) (m+1) (c+markNone R (num (cl R.L (x%32768)) (2*m))))=T:=by
               rw [← uh He3,show 32 - m=(32 - (m+1))+1 by omega,markedIn]
             generalize num (cl R.L (x%32768)) (2*m)=y at*
             have Hs3:=hide hs3
             have Hr3:=hide hr3
             clear hs3 He3 hr3
             have Hb3:=hide hb3
             clear hb3
             go_wp2_with fail
             refine (uh Hn).mono ?_
             rintro e w4 ⟨rfl,hb4⟩
             have Hr4:=hide ((uh Hr3).below hb4)
             have Hb4:=hide ((uh Hb3).trans (hb4.mono (uh Hb3).size))
             clear Hn hb4 Hr3 Hb3 c0 l1 l2
             by_cases hy0:y=0
             · subst hy0
               go_wp2
               go_roundw
               case rel=>exact ⟨m+1,c,by omega,by omega,by go_num,rfl,uh Hb4,uh Hr4,by rw [← uh Hs3];rfl⟩
               case measure=>simp [intOf];omega
             · have dy:((y:Int) == 0)=false:=by rw [beq_eq_false_iff_ne];omega
               have Hm:=hide (mark_no w4 f _ Rv R (uh Hr4) y (by omega) hyl hL5 hlow)
               have hm1:=markNone_le R y
               rw [if_neg hy0] at Hs3
               go_wp2_with fail
               refine (uh Hm).mono ?_
               rintro e w5 ⟨rfl,rfl⟩
               clear Hm
               cases hbad:markBad R y with
               | true=>
                 rw [hbad] at Hs3
                 clear hbad
                 go_wp2
                 go_ret2
                 refine ⟨?_,(uh HB).trans ((uh Hb4).mono (uh HB).size)⟩
                 rw [uh Hstep2,← uh Hs3];rfl
               | false=>
                 rw [hbad] at Hs3
                 clear hbad
                 generalize markNone R y=p at*
                 go_wp2
                 go_roundw
                 case rel=>exact ⟨m+1,c+p,by omega,by omega,by go_num,by go_num,uh Hb4,uh Hr4,by rw [← uh Hs3];rfl⟩
                 case measure=>simp [intOf];omega
           · have hm32:m=32:=by omega
             subst hm32
             have Hb3:=hide hb3
             clear hb3 hr3
             go_wp2
             go_roundw
             case rel=>
               refine ⟨k+1,c,by omega,by omega,by go_num,rfl,uh Hb3,?_⟩
               rw [uh Hstep2,← uh He3];rfl
             case measure=>simp [intOf];omega
   · have hk2:k=2:=by omega
     subst hk2
     have Hb:=hide hb
     clear hb
     go_wp2
     go_ret2
     refine ⟨?_,(uh HB).trans ((uh Hb).mono (uh HB).size)⟩
     rw [uh He];rfl
end Go.Proofs.YtknjjjenklfeoaaGreatDoor
namespace Go.Proofs.YtknjjjenklfeoaaGreatDoor
open Go.RowKit
def lostB (R:FileR) (n:Nat):Bool:=R.used.getD n 0 == 0 && decide (0<countOf R.L n)
def usedB (R:FileR) (n:Nat):Bool:=decide (0<R.used.getD n 0)
def overB (R:FileR) (n:Nat):Bool:=decide (0<R.used.getD n 0) && decide (R.used.getD n 0<countOf R.L n)
def unmTo (R:FileR):Nat→Nat
 | 0=>0
 | k+1=>unmTo R k+(marked R (rootOf R k)).2
structure StateR where
 clusters:Nat
 used:Nat
 lost:Nat
 over:Nat
 unmarked:Nat
def stateOf (R:FileR):StateR:=⟨R.L.length,cntTo (usedB R) R.L.length,cntTo (lostB R) R.L.length,cntTo (overB R) R.L.length,unmTo R R.roots.length⟩
def stateCells (s:StateR):List Value:=[.int .i64 s.clusters,.int .i64 s.used,.int .i64 s.lost,.int .i64 s.over,.int .i64 s.unmarked]
theorem markedIn_le (R:FileR) (t:Nat): ∀ m k acc a,markedIn R t m k acc=some a→a≤acc+m
 | 0,_,_,_,h=>by simp [markedIn] at h;omega
 | m+1,k,acc,a,h=>by
   rw [markedIn] at h
   split at h
   · have:=markedIn_le R t m _ _ _ h;omega
   · split at h
     · cases h
     · have:=markedIn_le R t m _ _ _ h
       have:=markNone_le R (num (cl R.L t) (2*k))
       omega
theorem markedOut_le (R:FileR) (t:Nat): ∀ m i acc,(markedOut R t m i acc).2≤acc+33*m
 | 0,_,_=>by simp [markedOut]
 | m+1,i,acc=>by
   rw [markedOut]
   split
   · have:=markedOut_le R t m (i+1) acc;omega
   · split
     · show (0:Nat)≤_;omega
     · split
       · show (0:Nat)≤_;omega
       · rename_i a ha
         have h1:=markedIn_le R _ _ _ _ _ ha
         have h2:=markedOut_le R t m (i+1) a
         have:=markNone_le R (num (cl R.L t) (2*i))
         omega
theorem marked_le (R:FileR) (r:RootR):(marked R r).2≤66:=by have:=markedOut_le R r.N 2 0 0;unfold marked;omega
theorem unmTo_le (R:FileR): ∀ m,unmTo R m≤66*m
 | 0=>Nat.le_refl _
 | m+1=>by have:=unmTo_le R m;have:=marked_le R (rootOf R m);simp only [unmTo];omega
structure TwoSt (w w':World) (z s:List Value):Prop where
 below:Below w.heap.size w w'
 one:w'.heap[w.heap.size]? = some (.cells z.toArray 51 (0,0))
 two:w'.heap[w.heap.size+1]? = some (.cells s.toArray 51 (0,0))
theorem TwoSt.set {w w':World} {z s:List Value} (h:TwoSt w w' z s) (i:Nat) (v:Value):TwoSt w (w'.setCell ⟨w.heap.size+1,i,none⟩ v) z (s.set i v):=
 ⟨h.below.setCell (by simp) _,by rw [Below.heap_setCell _ _ _ _ (by simp)];exact h.one,by rw [heap_setCell_same _ _ _ _ _ _ _ h.two,List.setIfInBounds_toArray]⟩
theorem TwoSt.later {w w' w2:World} {z s:List Value} (h:TwoSt w w' z s) (hb:Below w'.heap.size w' w2):TwoSt w w2 z s:=
 ⟨h.below.trans (hb.mono h.below.size),by rw [hb.block _ (blk_lt h.one)];exact h.one,by rw [hb.block _ (blk_lt h.two)];exact h.two⟩
def zs5:List Value:=[.int .i64 0,.int .i64 0,.int .i64 0,.int .i64 0,.int .i64 0]
theorem state_any (w:World) (f:Nat) (Lv Rv:Value) (R:FileR) (h:FileAt w f Lv Rv R) (hLL:R.L.length≤256) (hL5:5≤R.L.length) (hrl:R.roots.length≤5) (hin: ∀ i,i<R.roots.length→InFile R.L (rootOf R i).N) (hlow:Low 1000000 R):
   Calls Tryz.prog 42 #[.pointer (some ⟨f,0,none⟩)] w fun e w'=>
     e= .returned (.agg (stateCells (stateOf R)).toArray)∧Below w.heap.size w w':=by
 have c0:=h.cLv
 have hfl:=h.lt
 obtain ⟨a,cap,rfl⟩:=row_form h.rowL
 obtain ⟨a2,cap2,rfl⟩:=row_form h.rowR
 have t0:TwoSt w ((w.alloc (.cells zs5.toArray 51)).alloc (.cells (stateCells ⟨R.L.length,0,0,0,0⟩).toArray 51)) zs5 (stateCells ⟨R.L.length,0,0,0,0⟩):=by
   refine ⟨((Below.refl _ _).alloc (Nat.le_refl _) _).alloc (by simp) _,?_,?_⟩
   · rw [Below.heap_alloc _ _ _ (by simp)];exact heap_alloc_new _ _
   · have:=heap_alloc_new (w.alloc (.cells zs5.toArray 51)) (.cells (stateCells ⟨R.L.length,0,0,0,0⟩).toArray 51)
     simpa using this
 have T0:=hide t0
 clear t0
 go_enter Tryz.func42,Tryz.ntmps42
 go_wp2
 go_loopw [4] (fun i w'=> ∃ k:Nat,k≤R.L.length∧i= .int .i64 k∧TwoSt w w' zs5 (stateCells ⟨R.L.length,cntTo (usedB R) k,cntTo (lostB R) k,cntTo (overB R) k,0⟩)) (fun i _=>R.L.length - (intOf i).toNat)
 case atStart=>exact ⟨0,by omega,rfl,uh T0⟩
 case round=>
   obtain ⟨k,hk,rfl,ht⟩:=hrel
   clear T0
   have hr:=h.below ht.below
   clear c0
   have c0:=hr.cLv
   by_cases hlt:k<R.L.length
   · have cu:=hr.cUsed k (by omega)
     have hu:=hlow k
     have Hcnt:=hide (count_any wr f _ _ R hr (k:Int) (by omega) (by omega) hL5)
     rw [Int.toNat_natCast] at Hcnt
     have hq:=countOf_lt R.L k
     have hU:cntTo (usedB R) (k+1)=cntTo (usedB R) k+if 0<R.used.getD k 0 then 1 else 0:=by simp [cntTo,usedB]
     have hLo:cntTo (lostB R) (k+1)=cntTo (lostB R) k+if R.used.getD k 0=0∧0<countOf R.L k then 1 else 0:=by simp [cntTo,lostB]
     have hO:cntTo (overB R) (k+1)=cntTo (overB R) k+if 0<R.used.getD k 0∧R.used.getD k 0<countOf R.L k then 1 else 0:=by simp [cntTo,overB]
     have l1:=cntTo_le (usedB R) k
     have l2:=cntTo_le (lostB R) k
     have l3:=cntTo_le (overB R) k
     have s1:wr.cell? ⟨w.heap.size+1,1,none⟩=some (.int .i64 (cntTo (usedB R) k:Nat)):=by rw [cell_blk ht.two];rfl
     have s2:wr.cell? ⟨w.heap.size+1,2,none⟩=some (.int .i64 (cntTo (lostB R) k:Nat)):=by rw [cell_blk ht.two];rfl
     have s3:wr.cell? ⟨w.heap.size+1,3,none⟩=some (.int .i64 (cntTo (overB R) k:Nat)):=by rw [cell_blk ht.two];rfl
     have hfz: ∀ i,wr.frozen? ⟨w.heap.size+1,i,none⟩=false:=fun i=>frozen_blk ht.two i
     have hfne: ¬ f=w.heap.size+1:=by omega
     generalize countOf R.L k=q at*
     generalize R.used.getD k 0=u at*
     generalize cntTo (usedB R) k=nU at*
     generalize cntTo (lostB R) k=nL at*
     generalize cntTo (overB R) k=nO at*
     have HU:=hide hU
     have HL:=hide hLo
     have HO:=hide hO
     have HT:=hide ht
     clear hU hLo hO ht hr
     go_wp2_with fail
     refine (uh Hcnt).mono ?_
     rintro e w1 ⟨rfl,rfl⟩
     clear Hcnt
     by_cases hu0:u=0
     · subst hu0
       by_cases hq0:0<q
       · have dq:decide ((0:Int)<(q:Int))=true:=by simp;omega
         go_wp2
         go_roundw
         case rel=>
           refine ⟨k+1,by omega,by go_num,?_⟩
           have eU:cntTo (usedB R) (k+1)=nU:=by have e:=uh HU;split at e <;> omega
           have eL:cntTo (lostB R) (k+1)=nL+1:=by have e:=uh HL;rw [if_pos (And.intro trivial (by omega))] at e;exact e
           have eO:cntTo (overB R) (k+1)=nO:=by have e:=uh HO;split at e <;> omega
           rw [eU,eL,eO]
           exact (uh HT).set 2 (.int .i64 ((nL:Int)+1))
         case measure=>simp [intOf];omega
       · have dq:decide ((0:Int)<(q:Int))=false:=by simp;omega
         go_wp2
         go_roundw
         case rel=>
           refine ⟨k+1,by omega,by go_num,?_⟩
           have eU:cntTo (usedB R) (k+1)=nU:=by have e:=uh HU;split at e <;> omega
           have eL:cntTo (lostB R) (k+1)=nL:=by have e:=uh HL;split at e <;> omega
           have eO:cntTo (overB R) (k+1)=nO:=by have e:=uh HO;split at e <;> omega
           rw [eU,eL,eO]
           exact uh HT
         case measure=>simp [intOf];omega
     · have d1:((u:Int) == 0)=false:=by rw [beq_eq_false_iff_ne];omega
       have d2:decide ((0:Int)<(u:Int))=true:=by simp;omega
       by_cases hqu:u<q
       · have dq:decide ((u:Int)<(q:Int))=true:=by simp;omega
         go_wp2
         go_roundw
         case rel=>
           refine ⟨k+1,by omega,by go_num,?_⟩
           have eU:cntTo (usedB R) (k+1)=nU+1:=by have e:=uh HU;split at e <;> omega
           have eL:cntTo (lostB R) (k+1)=nL:=by have e:=uh HL;split at e <;> omega
           have eO:cntTo (overB R) (k+1)=nO+1:=by have e:=uh HO;split at e <;> omega
           rw [eU,eL,eO]
           exact ((uh HT).set 1 (.int .i64 ((nU:Int)+1))).set 3 (.int .i64 ((nO:Int)+1))
         case measure=>simp [intOf];omega
       · have dq:decide ((u:Int)<(q:Int))=false:=by simp;omega
         go_wp2
         go_roundw
         case rel=>
           refine ⟨k+1,by omega,by go_num,?_⟩
           have eU:cntTo (usedB R) (k+1)=nU+1:=by have e:=uh HU;split at e <;> omega
           have eL:cntTo (lostB R) (k+1)=nL:=by have e:=uh HL;split at e <;> omega
           have eO:cntTo (overB R) (k+1)=nO:=by have e:=uh HO;split at e <;> omega
           rw [eU,eL,eO]
           exact (uh HT).set 1 (.int .i64 ((nU:Int)+1))
         case measure=>simp [intOf];omega
   · have hkL:k=R.L.length:=by omega
     rw [hkL] at ht
     have HT:=hide ht
     have c1:=hr.cRv
     clear ht hr hkL
     go_wp2
     go_loopw [6] (fun i w'=> ∃ m:Nat,m≤R.roots.length∧i= .int .i64 m∧TwoSt w w' zs5 (stateCells ⟨R.L.length,cntTo (usedB R) R.L.length,cntTo (lostB R) R.L.length,cntTo (overB R) R.L.length,unmTo R m⟩)) (fun i _=>R.roots.length - (intOf i).toNat)
     case atStart=>exact ⟨0,by omega,rfl,uh HT⟩
     case round=>
       obtain ⟨m,hm,rfl,ht⟩:=hrel
       clear HT c0 c1
       have hr:=h.below ht.below
       have c1:=hr.cRv
       by_cases hlt2:m<R.roots.length
       · have hrow:=hr.rowR
         obtain ⟨g2,cap3,e2,_⟩:=row_some hrow (by omega)
         obtain ⟨rfl,rfl⟩:a2=some ⟨g2,0,none⟩∧cap2=cap3:=by injection e2 with x1 x2 x3;exact ⟨x1,x3⟩
         have r0:=root_cell hrow m hlt2 0 (by omega)
         have r1:=root_cell hrow m hlt2 1 (by omega)
         have r2:=root_cell hrow m hlt2 2 (by omega)
         rw [show R.roots.getD m ⟨0,0,[]⟩=rootOf R m from rfl] at r0 r1 r2
         simp only [rootCells,List.getElem?_cons_zero,List.getElem?_cons_succ,Nat.add_zero] at r0 r1 r2
         have hun:unmTo R (m+1)=unmTo R m+(marked R (rootOf R m)).2:=rfl
         have hle:=unmTo_le R m
         have hml:=marked_le R (rootOf R m)
         have Hm:=hide (marked_any wr f _ _ R (rootOf R m) hr hLL hL5 (hin m hlt2) hlow)
         have s4:wr.cell? ⟨w.heap.size+1,4,none⟩=some (.int .i64 (unmTo R m:Nat)):=by rw [cell_blk ht.two];rfl
         have hmi:(m:Int)<(R.roots.length:Int):=by omega
         have HT:=hide ht
         clear ht hr hrow e2
         have Hun:=hide hun
         clear hun
         generalize unmTo R m=nM at*
         unfold rootCells at Hm
         go_wp2_with fail
         refine (uh Hm).mono ?_
         rintro e w1 ⟨rfl,hb1⟩
         have ht1:=(uh HT).later hb1
         have s4':w1.cell? ⟨w.heap.size+1,4,none⟩=some (.int .i64 (nM:Nat)):=by rw [cell_blk ht1.two];rfl
         have hfz: ∀ i,w1.frozen? ⟨w.heap.size+1,i,none⟩=false:=fun i=>frozen_blk ht1.two i
         have HT1:=hide ht1
         clear ht1 hb1 Hm HT r0 r1 r2 s4 c1
         generalize (marked R (rootOf R m)).2=q at*
         generalize (marked R (rootOf R m)).1=q1 at*
         go_wp2
         go_roundw
         case rel=>
           refine ⟨m+1,by omega,by go_num,?_⟩
           rw [uh Hun]
           exact (uh HT1).set 4 (.int .i64 ((nM:Int)+(q:Int)))
         case measure=>simp [intOf];omega
       · have hme:m=R.roots.length:=by omega
         have o0:wr.cell? ⟨w.heap.size,0,none⟩=some (.int .i64 0):=by rw [cell_blk ht.one];rfl
         have o1:wr.cell? ⟨w.heap.size,1,none⟩=some (.int .i64 0):=by rw [cell_blk ht.one];rfl
         have o2:wr.cell? ⟨w.heap.size,2,none⟩=some (.int .i64 0):=by rw [cell_blk ht.one];rfl
         have o3:wr.cell? ⟨w.heap.size,3,none⟩=some (.int .i64 0):=by rw [cell_blk ht.one];rfl
         have o4:wr.cell? ⟨w.heap.size,4,none⟩=some (.int .i64 0):=by rw [cell_blk ht.one];rfl
         have hfo: ∀ i,wr.frozen? ⟨w.heap.size,i,none⟩=false:=fun i=>frozen_blk ht.one i
         have s0:wr.cell? ⟨w.heap.size+1,0,none⟩=some (.int .i64 (R.L.length:Nat)):=by rw [cell_blk ht.two];rfl
         have s1:wr.cell? ⟨w.heap.size+1,1,none⟩=some (.int .i64 (cntTo (usedB R) R.L.length:Nat)):=by rw [cell_blk ht.two];rfl
         have s2:wr.cell? ⟨w.heap.size+1,2,none⟩=some (.int .i64 (cntTo (lostB R) R.L.length:Nat)):=by rw [cell_blk ht.two];rfl
         have s3:wr.cell? ⟨w.heap.size+1,3,none⟩=some (.int .i64 (cntTo (overB R) R.L.length:Nat)):=by rw [cell_blk ht.two];rfl
         have s4:wr.cell? ⟨w.heap.size+1,4,none⟩=some (.int .i64 (unmTo R m:Nat)):=by rw [cell_blk ht.two];rfl
         rw [hme] at s4
         have hst:stateOf R=⟨R.L.length,cntTo (usedB R) R.L.length,cntTo (lostB R) R.L.length,cntTo (overB R) R.L.length,unmTo R R.roots.length⟩:=rfl
         have Hst:=hide hst
         have Hb:=hide ht.below
         clear hst ht hr hme
         generalize cntTo (usedB R) R.L.length=nU at*
         generalize cntTo (lostB R) R.L.length=nL at*
         generalize cntTo (overB R) R.L.length=nO at*
         generalize unmTo R R.roots.length=nM at*
         go_wp2
         rw [uh Hst]
         refine bodyPost_ret (v:= .agg (stateCells ⟨R.L.length,nU,nL,nO,nM⟩).toArray) (by simp [results,Tryz.results42,stateCells,go_sem,o0,o1,o2,o3,o4]) rfl ⟨rfl,?_⟩
         exact (((((uh Hb).setCell (p:=⟨w.heap.size,0,none⟩) (Nat.le_refl _) _).setCell (p:=⟨w.heap.size,1,none⟩) (Nat.le_refl _) _).setCell (p:=⟨w.heap.size,2,none⟩) (Nat.le_refl _) _).setCell (p:=⟨w.heap.size,3,none⟩) (Nat.le_refl _) _).setCell (p:=⟨w.heap.size,4,none⟩) (Nat.le_refl _) _
def exactB (R:FileR):Bool:=(stateOf R).lost == 0 && ((stateOf R).over == 0 && (stateOf R).unmarked == 0)
theorem exact_any (w:World) (f:Nat) (Lv Rv:Value) (R:FileR) (h:FileAt w f Lv Rv R) (hLL:R.L.length≤256) (hL5:5≤R.L.length) (hrl:R.roots.length≤5) (hin: ∀ i,i<R.roots.length→InFile R.L (rootOf R i).N) (hlow:Low 1000000 R):
   Calls Tryz.prog 44 #[.pointer (some ⟨f,0,none⟩)] w fun e w'=>e= .returned (.bool (exactB R))∧Below w.heap.size w w':=by
 have Hs:=hide (state_any w f Lv Rv R h hLL hL5 hrl hin hlow)
 have He:Hid (exactB R=((stateOf R).lost == 0 && ((stateOf R).over == 0 && (stateOf R).unmarked == 0))):=rfl
 generalize exactB R=ex at*
 generalize stateOf R=st at*
 obtain ⟨s0,s1,s2,s3,s4⟩:=st
 simp only at He
 unfold stateCells at Hs
 go_enter Tryz.func44,Tryz.ntmps44
 go_wp2_with fail
 refine (uh Hs).mono ?_
 rintro e w1 ⟨rfl,hb⟩
 have Hb:=hide hb
 clear hb Hs
 by_cases h2:s2=0
 · subst h2
   by_cases h3:s3=0
   · subst h3
     by_cases h4:s4=0
     · subst h4
       go_wp2
       go_ret
       exact ⟨by rw [uh He];rfl,((uh Hb).alloc (uh Hb).size _)⟩
     · have d4:((s4:Int) == 0)=false:=by rw [beq_eq_false_iff_ne];omega
       have e4:(s4 == 0)=false:=by rw [beq_eq_false_iff_ne];omega
       rw [e4] at He
       clear e4
       go_wp2
       go_ret
       exact ⟨by rw [uh He];rfl,((uh Hb).alloc (uh Hb).size _)⟩
   · have d3:((s3:Int) == 0)=false:=by rw [beq_eq_false_iff_ne];omega
     have e3:(s3 == 0)=false:=by rw [beq_eq_false_iff_ne];omega
     rw [e3] at He
     clear e3
     go_wp2
     go_ret
     exact ⟨by rw [uh He];rfl,((uh Hb).alloc (uh Hb).size _)⟩
 · have d2:((s2:Int) == 0)=false:=by rw [beq_eq_false_iff_ne];omega
   have e2:(s2 == 0)=false:=by rw [beq_eq_false_iff_ne];omega
   rw [e2] at He
   clear e2
   go_wp2
   go_ret
   exact ⟨by rw [uh He];rfl,((uh Hb).alloc (uh Hb).size _)⟩
end Go.Proofs.YtknjjjenklfeoaaGreatDoor
namespace Go.Proofs.YtknjjjenklfeoaaGreatDoor
open Go.RowKit
attribute [local go_sem ↓] loadVar_clus storeVar_clus loadVar_cont storeVar_cont zeroValue_cont
attribute [local go_sem] run_loadClus run_storeClus run_loadCont run_storeCont run_zeroCont
def blkOf (L:List Clus) (t b:Nat):Clus:=
 if num (cl L t) (2*(b / 32))=0 then zc
 else if num (cl L (num (cl L t) (2*(b / 32))%32768)) (2*(b%32))=0 then zc
 else cl L (num (cl L (num (cl L t) (2*(b / 32))%32768)) (2*(b%32))%32768)
def contTo (L:List Clus) (t k:Nat):List Clus:=(List.range 64).map fun b=>if b<k then blkOf L t b else zc
def contentOf (L:List Clus) (t:Nat):List Clus:=(List.range 64).map fun b=>blkOf L t b
theorem contTo_length (L:List Clus) (t k:Nat):(contTo L t k).length=64:=by simp [contTo]
theorem contTo_zero (L:List Clus) (t:Nat):contTo L t 0=zD:=by
 refine List.ext_getElem? fun i=> ?_
 by_cases hi:i<64
 · rw [zD,List.getElem?_replicate,if_pos hi]
   simp only [contTo,List.getElem?_map,List.getElem?_range hi,Option.map_some]
   rw [if_neg (by omega)]
 · rw [List.getElem?_eq_none (by simp [contTo];omega),List.getElem?_eq_none (by simp [zD];omega)]
theorem contTo_all (L:List Clus) (t:Nat):contTo L t 64=contentOf L t:=by
 unfold contTo contentOf
 refine List.map_congr_left fun b hb=> ?_
 rw [if_pos (by simpa using hb)]
theorem contTo_succ (L:List Clus) (t k:Nat) (hk:k<64):contTo L t (k+1)=(contTo L t k).set k (blkOf L t k):=by
 refine List.ext_getElem? fun i=> ?_
 rw [List.getElem?_set]
 by_cases hi:i<64
 · simp only [contTo,List.getElem?_map,List.getElem?_range hi,Option.map_some,List.length_map,List.length_range]
   by_cases h:k=i
   · subst h;rw [if_pos rfl,if_pos hk,if_pos (by omega)]
   · rw [if_neg h]
     by_cases h2:i<k
     · rw [if_pos h2,if_pos (by omega)]
     · rw [if_neg h2,if_neg (by omega)]
 · rw [List.getElem?_eq_none (by simp [contTo];omega),if_neg (by omega),List.getElem?_eq_none (by simp [contTo];omega)]
theorem contTo_same (L:List Clus) (t k:Nat) (hk:k<64) (h:blkOf L t k=zc):contTo L t (k+1)=contTo L t k:=by
 rw [contTo_succ L t k hk,h]
 refine List.ext_getElem? fun i=> ?_
 rw [List.getElem?_set]
 by_cases hi:k=i
 · subst hi;rw [if_pos rfl,if_pos (by rw [contTo_length];exact hk)];simp [contTo,hk]
 · rw [if_neg hi]
theorem blkOf_length {L:List Clus} {t:Nat} (hl: ∀ c ∈ L,c.length=64) (hin:InFile L t) (b:Nat) (hb:b<64):(blkOf L t b).length=64:=by
 unfold blkOf
 split
 · exact zc_length
 · split
   · exact zc_length
   · rename_i h1 h2
     exact cl_length hl (hin.block (b / 32) (by omega) h1 (b%32) (by omega))
theorem contTo_lens {L:List Clus} {t:Nat} (hl: ∀ c ∈ L,c.length=64) (hin:InFile L t) (k:Nat): ∀ c ∈ contTo L t k,c.length=64:=by
 intro c hc
 simp only [contTo,List.mem_map,List.mem_range] at hc
 obtain ⟨b,hb,rfl⟩:=hc
 split
 · exact blkOf_length hl hin b hb
 · exact zc_length
structure TwoC (w w':World) (D:List Clus):Prop where
 below:Below w.heap.size w w'
 one:w'.heap[w.heap.size+1]? = some (.cells (flatC zD).toArray 67 (0,0))
 two:w'.heap[w.heap.size+1+1]? = some (.cells (flatC D).toArray 67 (0,0))
theorem TwoC.later {w w' w2:World} {D:List Clus} (h:TwoC w w' D) (hb:Below w'.heap.size w' w2):TwoC w w2 D:=
 ⟨h.below.trans (hb.mono h.below.size),by rw [hb.block _ (blk_lt h.one)];exact h.one,by rw [hb.block _ (blk_lt h.two)];exact h.two⟩
theorem TwoC.set {w w':World} {D:List Clus} (h:TwoC w w' D) (hD: ∀ c ∈ D,c.length=64) (k:Nat) (hk:k<D.length) (c:Clus) (hc:c.length=64):TwoC w (w'.setCells (w.heap.size+1+1) (k*64) (cv c)) (D.set k c):=
 ⟨below_setCells h.below (by omega) _ _,by rw [heap_setCells_other _ _ _ _ _ (by omega)];exact h.one,by rw [heap_setCells_same _ _ _ _ _ _ _ h.two,setList_flatC D hD k hk c hc]⟩
theorem there_blk {w:World} {b:Nat} {cs:Array Value} {t:TypeId} (h:w.heap[b]? = some (.cells cs t (0,0))) (o n:Nat) (hn:o+n≤cs.size):w.there b o n:=fun j hj=>
 ⟨by rw [cell_blk h,Array.getElem?_eq_getElem (by omega)];rfl,frozen_blk h _⟩
theorem range_blk {w:World} {b:Nat} {cs:List Value} {t:TypeId} {fr:Nat × Nat} (h:w.heap[b]? = some (.cells cs.toArray t fr)):w.rangeAt b 0 cs:=fun j v hv=>by
 rw [Nat.zero_add,cell_blk h,List.getElem?_toArray];exact hv
theorem content_any (w:World) (f:Nat) (Lv Rv:Value) (R:FileR) (r:RootR) (h:FileAt w f Lv Rv R) (hin:InFile R.L r.N) (hLL:R.L.length≤256):
   Calls Tryz.prog 80 #[.pointer (some ⟨f,0,none⟩),.agg (rootCells r).toArray] w fun e w'=>
     e= .returned (.agg (flatC (contentOf R.L r.N)).toArray)∧Below w.heap.size w w':=by
 have hfl:=h.lt
 obtain ⟨g,cap,rfl,hc⟩:=row_some h.rowL (by have:=hin.at';omega)
 have t0:TwoC w (((w.alloc (.cells (rootCells r).toArray 132)).alloc (.cells (flatC zD).toArray 67)).alloc (.cells (flatC zD).toArray 67)) (contTo R.L r.N 0):=by
   rw [contTo_zero]
   refine ⟨(((Below.refl _ _).alloc (Nat.le_refl _) _).alloc (by simp) _).alloc (by simp;omega) _,?_,?_⟩
   · rw [Below.heap_alloc _ _ _ (by simp)]
     have:=heap_alloc_new (w.alloc (.cells (rootCells r).toArray 132)) (.cells (flatC zD).toArray 67)
     simpa using this
   · have:=heap_alloc_new ((w.alloc (.cells (rootCells r).toArray 132)).alloc (.cells (flatC zD).toArray 67)) (.cells (flatC zD).toArray 67)
     simpa using this
 have b0:(((w.alloc (.cells (rootCells r).toArray 132)).alloc (.cells (flatC zD).toArray 67)).alloc (.cells (flatC zD).toArray 67)).heap[w.heap.size]? = some (.cells (rootCells r).toArray 132 (0,0)):=by
   rw [Below.heap_alloc _ _ _ (by simp;omega),Below.heap_alloc _ _ _ (by simp)];exact heap_alloc_new _ _
 have T0:=hide t0
 have B0:=hide b0
 clear t0 b0
 have hNi:(r.N:Int)<(R.L.length:Int):=by have:=hin.at';omega
 go_enter Tryz.func80,Tryz.ntmps80
 go_wp2
 go_loopw [6] (fun i w'=> ∃ k:Nat,k≤64∧i= .int .i64 k∧TwoC w w' (contTo R.L r.N k)∧w'.heap[w.heap.size]? = some (.cells (rootCells r).toArray 132 (0,0))) (fun i _=>64 - (intOf i).toNat)
 case atStart=>exact ⟨0,by omega,rfl,uh T0,uh B0⟩
 case round=>
   obtain ⟨k,hk,rfl,ht,hbx⟩:=hrel
   clear T0 B0
   by_cases hlt:k<64
   · have hr:=h.below ht.below
     have hbox:wr.cell? ⟨w.heap.size,0,none⟩=some (.int .i64 (r.N:Nat)):=by rw [cell_blk hbx];rfl
     have hG: ∀ d os,FileAt (Go.Sort.grow (redrawn wr d) os) f _ _ R:=fun d os=>hr.below (below_regrown wr d os)
     have c0:=fun d os=>(hG d os).cLv
     have cx:=fun d os=>cell_regrown hbox d os
     have l1:=fun d os=>row_has (hG d os).rowL h.lens _ hin.at'
     have l2:=fun d os=>row_cells (hG d os).rowL h.lens _ hin.at'
     have hlen:=cl_length h.lens hin.at'
     have Hn:=hide (fun d os=>number_any (cl R.L r.N) (2*((k:Int) / 32)) (Go.Sort.grow (redrawn wr d) os) hlen (by omega) (by omega))
     rw [show (2*((k:Int) / 32)).toNat=2*(k / 32) by omega] at Hn
     have hxl:=num_lt (cl R.L r.N) (2*(k / 32))
     have hsec:=hin.second (k / 32) (by omega)
     have hblk:=hin.block (k / 32) (by omega)
     have hbe:blkOf R.L r.N k=if num (cl R.L r.N) (2*(k / 32))=0 then zc
         else if num (cl R.L (num (cl R.L r.N) (2*(k / 32))%32768)) (2*(k%32))=0 then zc
         else cl R.L (num (cl R.L (num (cl R.L r.N) (2*(k / 32))%32768)) (2*(k%32))%32768):=rfl
     generalize num (cl R.L r.N) (2*(k / 32))=x at*
     have Hbe:=hide hbe
     have Hblk:=hide hblk
     have Hsec:=hide hsec
     have HT:=hide ht
     have Hbx:=hide hbx
     have Hr:=hide hr
     clear hG hbe hblk hsec ht hbx hr
     go_wp2
     refine wp_region_quiet_below (by kernel_rfl) (by kernel_rfl) ?_
     repeat (go_big_quiet_step (exact Calls.regrown_of (uh Hn _ _)))
     refine wpQuiet_nil ?_
     intro _ hw'
     obtain ⟨⟨dq,osq⟩,hw''⟩:=hw'
     subst hw''
     clear c0 cx l1 l2 Hn
     have hb2:=below_regrown wr dq osq
     have HT2:=hide ((uh HT).later hb2)
     have Hbx2:=hide (show (Go.Sort.grow (redrawn wr dq) osq).heap[w.heap.size]? = some (.cells (rootCells r).toArray 132 (0,0)) from (hb2.block _ (blk_lt (uh Hbx))).trans (uh Hbx))
     have hr2:=(uh Hr).below hb2
     clear HT Hbx Hr hb2 hbox
     generalize Go.Sort.grow (redrawn wr dq) osq=w2 at*
     by_cases hx0:x=0
     · subst hx0
       rw [if_pos rfl] at Hbe
       clear hr2
       go_wp2
       go_roundw
       case rel=>exact ⟨k+1,by omega,by go_num,by rw [contTo_same _ _ _ hlt (uh Hbe)];exact uh HT2,uh Hbx2⟩
       case measure=>simp [intOf];omega
     · have dx:((x:Int) == 0)=false:=by rw [beq_eq_false_iff_ne];omega
       rw [if_neg hx0] at Hbe
       have hxL:=uh Hsec hx0
       have hxi:(x:Int)%32768<(R.L.length:Int):=by omega
       have c0:=hr2.cLv
       have l1:=row_has hr2.rowL hr2.lens _ hxL
       have l2:=row_cells hr2.rowL hr2.lens _ hxL
       have Hn:=hide (number_any (cl R.L (x%32768)) (2*((k:Int)%32)) w2 (cl_length h.lens hxL) (by omega) (by omega))
       rw [show (2*((k:Int)%32)).toNat=2*(k%32) by omega] at Hn
       have hyl:=num_lt (cl R.L (x%32768)) (2*(k%32))
       have hyL:=uh Hblk hx0 (k%32) (by omega)
       generalize num (cl R.L (x%32768)) (2*(k%32))=y at*
       have Hr2:=hide hr2
       clear hr2
       go_wp2_with fail
       refine (uh Hn).mono ?_
       rintro e w3 ⟨rfl,hb3⟩
       have HT3:=hide ((uh HT2).later hb3)
       have Hbx3:=hide (show w3.heap[w.heap.size]? = some (.cells (rootCells r).toArray 132 (0,0)) from (hb3.block _ (blk_lt (uh Hbx2))).trans (uh Hbx2))
       have hr3:=(uh Hr2).below hb3
       clear Hn HT2 Hbx2 Hr2 hb3 c0 l1 l2
       by_cases hy0:y=0
       · subst hy0
         rw [if_pos rfl] at Hbe
         clear hr3
         go_wp2
         go_roundw
         case rel=>exact ⟨k+1,by omega,by go_num,by rw [contTo_same _ _ _ hlt (uh Hbe)];exact uh HT3,uh Hbx3⟩
         case measure=>simp [intOf];omega
       · have dy:((y:Int) != 0)=true:=by rw [bne_iff_ne];omega
         rw [if_neg hy0] at Hbe
         have hyi:(y:Int)%32768<(R.L.length:Int):=by omega
         have c0:=hr3.cLv
         have l1:=row_has hr3.rowL hr3.lens _ hyL
         have l2:=row_cells hr3.rowL hr3.lens _ hyL
         have hcl:=cl_length h.lens hyL
         have hlens:=contTo_lens h.lens hin k
         have hth:w3.there (w.heap.size+1+1) (k*64) 64:=there_blk (uh HT3).two _ _ (by
           rw [List.size_toArray,flatC_length _ hlens,contTo_length];omega)
         have Hlens:=hide hlens
         clear hr3 hlens
         go_wp2
         go_roundw
         case rel=>
           refine ⟨k+1,by omega,by go_num,?_,?_⟩
           · rw [contTo_succ _ _ _ hlt,uh Hbe]
             exact (uh HT3).set (uh Hlens) k (by rw [contTo_length];exact hlt) _ hcl
           · rw [heap_setCells_other _ _ _ _ _ (by omega)];exact uh Hbx3
         case measure=>simp [intOf];omega
   · have hk64:k=64:=by omega
     subst hk64
     rw [contTo_all] at ht
     have hlens: ∀ c ∈ contentOf R.L r.N,c.length=64:=by rw [← contTo_all];exact contTo_lens h.lens hin 64
     have hl64:(contentOf R.L r.N).length=64:=by simp [contentOf]
     have hfl2:(flatC (contentOf R.L r.N)).length=4096:=by rw [flatC_length _ hlens,hl64]
     have hA:All64 (contentOf R.L r.N):=hlens
     have l1:HasAt wr (w.heap.size+1+1) 0 4096:=hasAt_of_range (range_blk ht.two) hfl2
     have l2:cellsAt wr (w.heap.size+1+1) 0 4096=flatC (contentOf R.L r.N):=cellsAt_of_range (range_blk ht.two) hfl2
     have hzl:(flatC zD).length=4096:=by rw [flatC_length _ zD_all,zD_length]
     have hth:wr.there (w.heap.size+1) 0 4096:=there_blk ht.one _ _ (by rw [List.size_toArray,hzl];omega)
     have Hb:=hide ht.below
     have hrg:(wr.setCells (w.heap.size+1) 0 (flatC (contentOf R.L r.N))).rangeAt (w.heap.size+1) 0 (flatC (contentOf R.L r.N)):=World.rangeAt_setCells_same _ _ _ _ (by rw [hfl2];exact hth)
     have l3:=hasAt_of_range hrg hfl2
     have l4:=cellsAt_of_range hrg hfl2
     clear ht hbx hrg hzl hfl2 hlens
     generalize hD:contentOf R.L r.N=D at*
     have HD:=hide hD
     clear hD
     go_wp2
     refine bodyPost_ret (v:= .agg (flatC D).toArray) (results_cell Tryz.results80 ⟨w.heap.size+1,0,none⟩ rfl (by rw [loadVar_cont,run_loadCont l3,l4])) rfl ⟨by rw [uh HD],?_⟩
     exact below_setCells (uh Hb) (by omega) _ _
end Go.Proofs.YtknjjjenklfeoaaGreatDoor
