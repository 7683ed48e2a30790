import Derived.Test.YtknjjjenklfeoaaGreatDoorC00
import Derived.OrdersHeld
set_option maxHeartbeats 8000000
set_option maxRecDepth 100000
namespace Go.Proofs.YtknjjjenklfeoaaGreatDoor
open Go.RowKit
theorem row_form {w:World} {base:Nat} {e:TypeId} {size:Nat} {v:Value} {n:Nat} {xs:List Value} (h:w.ownsRow base e size v n xs): ∃ a cap,v= .slice a n cap:=by
 rcases h.2 with ⟨rfl,rfl⟩ | ⟨g,cap,_,rfl,_⟩
 · exact ⟨none,0,rfl⟩
 · exact ⟨_,cap,rfl⟩
theorem tell_no (w:World) (f:Nat) (Lv Rv:Value) (R:FileR) (h:FileAt w f Lv Rv R) (hL:R.L.length≤256) (n kind at':Nat) (hn:n<65536) (hno:noTell R n kind=true):
   Calls Tryz.prog 138 #[.pointer (some ⟨f,0,none⟩),.int .i64 n,.int .i64 kind,.int .i64 at'] w fun e w'=>
     e= .returned (.bool false)∧FileAt w' f Lv Rv { R with bad:=at' }∧Kept (fun k=>k=f) w w':=by
 have hb:=h.setBad at'
 have hk:=Kept.only w f 514 (.int .i64 at')
 have c0:=h.cLv
 have cB:=h.cBad
 have hfz:=h.fz
 obtain ⟨a,cap,rfl⟩:=row_form h.rowL
 by_cases h6:n<6
 · have d6:decide ((n:Int)<6)=true:=by simp;omega
   clear hno
   go_enter Tryz.func138,Tryz.ntmps138
   go_wp2
   go_ret
   exact ⟨rfl,hb,hk⟩
 · have d6:decide ((n:Int)<6)=false:=by simp;omega
   by_cases hl:R.L.length≤n
   · have dl:decide ((R.L.length:Int)≤(n:Int))=true:=by simp;omega
     clear hno
     go_enter Tryz.func138,Tryz.ntmps138
     go_wp2
     go_ret
     exact ⟨rfl,hb,hk⟩
   · have dl:decide ((R.L.length:Int)≤(n:Int))=false:=by simp;omega
     have hn0:(0:Int)≤(n:Int):=by omega
     have hn1:(n:Int)<256:=by omega
     have ct:=h.cTold n (by omega)
     simp only [noTell,h6,hl,decide_false,Bool.false_or,Bool.and_eq_true,Bool.or_eq_true,bne_iff_ne,beq_iff_eq] at hno
     obtain ⟨ht,hx⟩:=hno
     generalize R.told.getD n 0=t at*
     have dt:(((t:Nat):Int) != 0)=true:=by rw [bne_iff_ne];omega
     by_cases hk1:t=kind
     · have hx1:kind=1:=by rcases hx with hx | hx <;> omega
       subst hx1
       subst hk1
       clear hx
       go_enter Tryz.func138,Tryz.ntmps138
       go_wp2
       go_ret
       exact ⟨rfl,hb,hk⟩
     · have dk:(((t:Nat):Int) != (kind:Int))=true:=by rw [bne_iff_ne];omega
       clear hx
       go_enter Tryz.func138,Tryz.ntmps138
       go_wp2
       go_ret
       exact ⟨rfl,hb,hk⟩
theorem tell_yes (w:World) (f:Nat) (Lv Rv:Value) (R:FileR) (h:FileAt w f Lv Rv R) (hL:R.L.length≤256) (n kind at':Nat) (hn:n<65536) (hno:noTell R n kind=false) (hlow:Low 1000000 R):
   Calls Tryz.prog 138 #[.pointer (some ⟨f,0,none⟩),.int .i64 n,.int .i64 kind,.int .i64 at'] w fun e w'=>
     e= .returned (.bool true)∧FileAt w' f Lv Rv { R with told:=R.told.set n kind,used:=R.used.set n (R.used.getD n 0+1) }∧Kept (fun k=>k=f) w w':=by
 simp only [noTell,Bool.or_eq_false_iff,decide_eq_false_iff_not] at hno
 obtain ⟨h6,hl,hx⟩:=hno
 have d6:decide ((n:Int)<6)=false:=by simp;omega
 have dl:decide ((R.L.length:Int)≤(n:Int))=false:=by simp;omega
 have hn0:(0:Int)≤(n:Int):=by omega
 have hn1:(n:Int)<256:=by omega
 have c0:=h.cLv
 have hfz:=h.fz
 have ct:=h.cTold n (by omega)
 have hb1:=h.setTold n kind (by omega)
 have cu:=hb1.cUsed n (by omega)
 have hfz1:=hb1.fz
 have hb2:=hb1.setUsed n (R.used.getD n 0+1) (by omega)
 have hk:Kept (fun k=>k=f) w ((w.setCell ⟨f,2+n,none⟩ (.int .i64 kind)).setCell ⟨f,258+n,none⟩ (.int .i64 ((R.used.getD n 0+1:Nat):Int))):=(Kept.only w f _ _).trans (Kept.only _ f _ _)
 have hu:=hlow n
 simp only at cu
 obtain ⟨a,cap,rfl⟩:=row_form h.rowL
 generalize R.told.getD n 0=t at*
 generalize R.used.getD n 0=u at*
 have hu2:(u:Int)≤1000000:=by omega
 rw [show ((u+1:Nat):Int)=(u:Int)+1 by omega] at hb2 hk
 have Hb2:=hide (hb2.drew)
 have Hk:=hide (hk.drew)
 clear hb2 hk
 by_cases ht:t=0
 · subst ht
   clear hx
   go_enter Tryz.func138,Tryz.ntmps138
   go_wp2
   go_region
   go_wp2
   go_ret
   exact ⟨rfl,uh Hb2,uh Hk⟩
 · have dt:(((t:Nat):Int) != 0)=true:=by rw [bne_iff_ne];omega
   have hx':t=kind∧kind≠1:=by
     have e:(t != 0)=true:=by rw [bne_iff_ne];exact ht
     rw [e,Bool.true_and,Bool.or_eq_false_iff] at hx
     exact ⟨by simpa using hx.1,by simpa using hx.2⟩
   obtain ⟨rfl,h1⟩:=hx'
   have d1:((t:Int) == 1)=false:=by rw [beq_eq_false_iff_ne];omega
   clear hx
   go_enter Tryz.func138,Tryz.ntmps138
   go_wp2
   go_region
   go_wp2
   go_ret
   exact ⟨rfl,uh Hb2,uh Hk⟩
theorem tell_any (w:World) (f:Nat) (Lv Rv:Value) (R:FileR) (h:FileAt w f Lv Rv R) (hL:R.L.length≤256) (n kind at':Int) (hn0:0≤n) (hn:n<65536) (hk0:0≤kind) (ha:0≤at') (hlow:Low 1000000 R):
   Calls Tryz.prog 138 #[.pointer (some ⟨f,0,none⟩),.int .i64 n,.int .i64 kind,.int .i64 at'] w fun e w'=>
     e= .returned (.bool (tell R n.toNat kind.toNat at'.toNat).1)∧FileAt w' f Lv Rv (tell R n.toNat kind.toNat at'.toNat).2∧Kept (fun k=>k=f) w w':=by
 obtain ⟨n,rfl⟩:=Int.eq_ofNat_of_zero_le hn0
 obtain ⟨kind,rfl⟩:=Int.eq_ofNat_of_zero_le hk0
 obtain ⟨at',rfl⟩:=Int.eq_ofNat_of_zero_le ha
 simp only [Int.toNat_natCast]
 cases hno:noTell R n kind with
 | true=>
   rw [show tell R n kind at'=(false,{ R with bad:=at' }) by simp [tell,hno]]
   exact tell_no w f Lv Rv R h hL n kind at' (by omega) hno
 | false=>
   rw [show tell R n kind at'=(true,{ R with told:=R.told.set n kind,used:=R.used.set n (R.used.getD n 0+1) }) by simp [tell,hno]]
   exact tell_yes w f Lv Rv R h hL n kind at' (by omega) hno hlow
theorem row_byte {w:World} {base:Nat} {g cap:Nat} {L:List Clus} (h:w.ownsRow base 38 64 (.slice (some ⟨g,0,none⟩) L.length cap) L.length (flatC L)) (hl: ∀ c ∈ L,c.length=64)
   (k j:Nat) (hk:k<L.length) (hj:j<64):w.cell? ⟨g,k*64+j,none⟩=some (.int .u8 (byteAt (cl L k) j:Nat)):=by
 rw [h.cellAt (k*64+j) (by omega),flatC_range L hl k hk j hj,cv_get _ _ (by rw [cl_length hl hk];exact hj)]
theorem row_range {w:World} {base:Nat} {g cap:Nat} {L:List Clus} (h:w.ownsRow base 38 64 (.slice (some ⟨g,0,none⟩) L.length cap) L.length (flatC L)) (hl: ∀ c ∈ L,c.length=64)
   (k:Nat) (hk:k<L.length):w.rangeAt g (k*64) (cv (cl L k)):=by
 intro j v hv
 have hj:j<64:=by
   have:=(List.getElem?_eq_some_iff.1 hv).1
   rw [cv_length,cl_length hl hk] at this;exact this
 rw [row_byte h hl k j hk hj]
 rw [cv_get _ _ (by rw [cl_length hl hk];exact hj)] at hv
 exact hv
theorem row_some {w:World} {base:Nat} {e:TypeId} {size:Nat} {v:Value} {n:Nat} {xs:List Value} (h:w.ownsRow base e size v n xs) (hn:0<n): ∃ g cap,v= .slice (some ⟨g,0,none⟩) n cap∧n≤cap:=by
 rcases h.2 with ⟨rfl,rfl⟩ | ⟨g,cap,_,rfl,_,_,hc,_⟩
 · omega
 · exact ⟨g,cap,rfl,hc⟩
theorem count_any (w:World) (f:Nat) (Lv Rv:Value) (R:FileR) (h:FileAt w f Lv Rv R) (n:Int) (h0:0≤n) (h1:n<256) (hL:5≤R.L.length):
   Calls Tryz.prog 79 #[.pointer (some ⟨f,0,none⟩),.int .i64 n] w fun e w'=>e= .returned (.int .i64 (countOf R.L n.toNat:Nat))∧w'=w:=by
 obtain ⟨n,rfl⟩:=Int.eq_ofNat_of_zero_le h0
 rw [Int.toNat_natCast]
 obtain ⟨g,cap,rfl,hc⟩:=row_some h.rowL (by omega)
 have c0:=h.cLv
 have cb:=row_byte h.rowL h.lens (1+n / 64) (n%64) (by omega) (by omega)
 have bl:=byteAt_lt (cl R.L (1+n / 64)) (n%64)
 have hLi:(5:Int)≤(R.L.length:Int):=by omega
 have Hc:Hid (countOf R.L n=byteAt (cl R.L (1+n / 64)) (n%64)):=rfl
 go_enter Tryz.func79,Tryz.ntmps79
 go_wp2
 go_ret
 exact ⟨rfl,rfl⟩
theorem mark_no (w:World) (f:Nat) (Lv Rv:Value) (R:FileR) (h:FileAt w f Lv Rv R) (x:Nat) (h1:x%32768<256) (hx:x<65536) (hL:5≤R.L.length) (hlow:Low 1000000 R):
   Calls Tryz.prog 139 #[.pointer (some ⟨f,0,none⟩),.int .i64 x] w fun e w'=>e= .returned (.tuple #[.bool (markBad R x),.int .i64 (markNone R x:Nat)])∧w'=w:=by
 have cu:=h.cUsed (x%32768) h1
 have hu:=hlow (x%32768)
 have hi1:(x:Int)%32768<256:=by omega
 have Hb:Hid (markBad R x=if 32768≤x then (R.used.getD (x%32768) 0 != 1 || countOf R.L (x%32768) != 1) else false):=rfl
 have Hn:Hid (markNone R x=if 32768≤x then 0 else if R.used.getD (x%32768) 0=1 then 1 else 0):=rfl
 generalize R.used.getD (x%32768) 0=u at*
 by_cases hm:32768≤x
 · have dm:decide ((32768:Int)≤(x:Int))=true:=by simp;omega
   have Hn0:Hid (markNone R x=0):=by rw [uh Hn,if_pos hm];rfl
   clear Hn
   by_cases hu1:u=1
   · subst hu1
     have Hb0:Hid (markBad R x=(countOf R.L (x%32768) != 1)):=by rw [uh Hb,if_pos hm];rfl
     clear Hb
     have hcnt:=count_any w f Lv Rv R h ((x%32768:Nat):Int) (by omega) (by omega) hL
     rw [Int.toNat_natCast] at hcnt
     have Hcnt:=hide hcnt
     clear hcnt
     have hci:(((countOf R.L (x%32768):Nat):Int) != 1)=(countOf R.L (x%32768) != 1):=by
       rw [Bool.eq_iff_iff];simp only [bne_iff_ne];omega
     have Hci:=hide hci
     clear hci
     generalize countOf R.L (x%32768)=q at*
     go_enter Tryz.func139,Tryz.ntmps139
     go_wp2_with fail
     refine (uh Hcnt).mono ?_
     rintro e w' ⟨rfl,rfl⟩
     go_wp2
     go_ret2
     rw [uh Hb0,uh Hn0,uh Hci]
     exact ⟨rfl,rfl⟩
   · have Hb0:Hid (markBad R x=true):=by
       have e:(u != 1)=true:=by rw [bne_iff_ne];exact hu1
       rw [uh Hb,if_pos hm,e];rfl
     clear Hb
     have du:((u:Int) == 1)=false:=by rw [beq_eq_false_iff_ne];omega
     go_enter Tryz.func139,Tryz.ntmps139
     go_wp2
     go_ret2
     rw [uh Hb0,uh Hn0]
     exact ⟨rfl,rfl⟩
 · have dm:decide ((32768:Int)≤(x:Int))=false:=by simp;omega
   have Hb0:Hid (markBad R x=false):=by rw [uh Hb,if_neg hm];rfl
   clear Hb
   by_cases hu1:u=1
   · subst hu1
     have Hn0:Hid (markNone R x=1):=by rw [uh Hn,if_neg hm];rfl
     clear Hn
     go_enter Tryz.func139,Tryz.ntmps139
     go_wp2
     go_ret2
     rw [uh Hb0,uh Hn0]
     exact ⟨rfl,rfl⟩
   · have Hn0:Hid (markNone R x=0):=by rw [uh Hn,if_neg hm,if_neg hu1];rfl
     clear Hn
     have du:((u:Int) == 1)=false:=by rw [beq_eq_false_iff_ne];omega
     go_enter Tryz.func139,Tryz.ntmps139
     go_wp2
     go_ret2
     rw [uh Hb0,uh Hn0]
     exact ⟨rfl,rfl⟩
def eqClus (x y:Value):Sem Bool:=Op.equalIn 10000 38 x y
theorem equalIn_clus (x y:Value):Op.equalIn 10000 38 x y=eqClus x y:=rfl
theorem run_eqClus {a b:List UInt8} (ha:a.length=64) (hb:b.length=64) (w:World):(eqClus (.agg (cv a).toArray) (.agg (cv b).toArray)).run Tryz.prog w= .ok (decide (a=b)) w:=run_eq_clus 9998 a b ha hb w
def eqCont (x y:Value):Sem Bool:=Op.equalIn 10000 67 x y
theorem equalIn_cont (x y:Value):Op.equalIn 10000 67 x y=eqCont x y:=rfl
theorem run_eqCont {C D:List Clus} (hC:All64 C) (hD:All64 D) (hc:C.length=64) (hd:D.length=64) (w:World):(eqCont (.agg (flatC C).toArray) (.agg (flatC D).toArray)).run Tryz.prog w= .ok (decide (C=D)) w:=run_eq_cont 9997 C D hC hD hc hd w
section
variable {P:Program} {ops:Array Oper} {Q:Exit→Act→World→Prop} {md:Region.Mode} {T:World→Prop} {k:Nat}
def wpAnyL (P:Program) (md:Region.Mode) (ops:Array Oper) (Q:Exit→Act→World→Prop) (T:World→Prop) (k:Nat):Nat→Array Bool→Act→World→Prop
 | 0,listed,a,w=>Region.ready md ops listed=[]∧Q .normal a w
 | fuel+1,listed,a,w=>
   (Region.ready md ops listed=[]→Q .normal a w)∧
   ∀ i ∈ Region.ready md ops listed,wpOp P ops Q i (fun a' w'=>(i=k∨T w')∧wpAnyL P md ops Q T k fuel (listed.setIfInBounds i true) a' w') a w
theorem wpAny_of_L: ∀ (fuel:Nat) (listed:Array Bool) (a:Act) (w:World),wpAnyL P md ops Q T k fuel listed a w→wpAny P md ops Q fuel listed a w
 | 0,_,_,_,h=>h
 | fuel+1,_,_,_,h=>⟨h.1,fun i hi=>wpOp_mono (fun a' w' h'=>wpAny_of_L fuel _ a' w' h'.2) (h.2 i hi)⟩
theorem wpAnyL_first {i:Nat} {oi ok:Oper} {v:Value} (hi:ops[i]? = some oi) (hok:ops[k]? = some ok) (hdep: ∃ e ∈ ok.after,Region.binds md e=true∧e.on=i)
   (hsel: ∀ (j:Nat) (o:Oper) cs b,ops[j]? = some o→o.op≠ .select cs b) (hik:i≠k)
   (hQ: ∀ c a w,Q (.panic c) (a.put oi.dst v) w→Q (.panic c) a w):
   ∀ (fuel:Nat) (listed:Array Bool) (a:Act) (w:World),
     (∀ j oj,ops[j]? = some oj→j≠i→listed.getD j true=false→(∀ e ∈ oj.after,Region.binds md e=true→e.on≠i)→oi.apart ops oj=true)→
     i ∈ Region.ready md ops listed→YieldsIf P ops T oi v a→T w→
     wpAnyL P md ops Q T k fuel (listed.setIfInBounds i true) (a.put oi.dst v) w→wpAnyL P md ops Q T k (fuel+1) listed a w:=by
 intro fuel
 induction fuel with
 | zero=>
   intro listed a w _ hr hy hS H
   refine ⟨fun h=>(by rw [h] at hr;cases hr),fun j hj=> ?_⟩
   by_cases hji:j=i
   · subst hji;exact hy.wpOp hi hS ⟨Or.inr hS,H⟩
   · have:=ready_mono hj hji
     rw [H.1] at this
     cases this
 | succ fuel ih=>
   intro listed a w hfree hr hy hS H
   refine ⟨fun h=>(by rw [h] at hr;cases hr),fun j hj=> ?_⟩
   by_cases hji:j=i
   · subst hji;exact hy.wpOp hi hS ⟨Or.inr hS,H⟩
   · have h1:=H.2 j (ready_mono hj hji)
     obtain ⟨hjun,oj,hoj,hall⟩:=mem_ready.1 hj
     have hnot: ∀ e ∈ oj.after,Region.binds md e=true→e.on≠i:=fun e he hb heq=>by
       have h1:=hall e he hb
       have h0:=(mem_ready.1 hr).1
       rw [heq] at h1
       rcases Nat.lt_or_ge i listed.size with h' | h'
       · simp [h'] at h0 h1;rw [h0] at h1;cases h1
       · simp [Array.getElem?_eq_none h'] at h1
     have hjk:j≠k:=fun e=>by
       subst e
       rw [hok] at hoj
       injection hoj with hoj
       subst hoj
       obtain ⟨e,he,hb,ho⟩:=hdep
       exact hnot e he hb ho
     have h2:=wpOp_putIf hoj (hfree j oj hoj hji hjun hnot) (fun cs b=>hsel i oi cs b hi) (fun cs b=>hsel j oj cs b hoj) hQ hy h1
     have hfree': ∀ k ok,ops[k]? = some ok→k≠i→(listed.setIfInBounds j true).getD k true=false→
         (∀ e ∈ ok.after,Region.binds md e=true→e.on≠i)→oi.apart ops ok=true:=fun k ok hk hki hun hno=>by
       refine hfree k ok hk hki ?_ hno
       by_cases hjk:j=k
       · subst hjk;exact hjun
       · rw [getD_set_ne true hjk] at hun;exact hun
     refine wpOp_mono (fun a' w' h3=> ?_) h2
     have hT:T w':=by
       rcases h3.2.1 with z | z
       · exact absurd z hjk
       · exact z
     refine ⟨Or.inr hT,ih (listed.setIfInBounds j true) a' w' hfree' (ready_mono hr (Ne.symm hji)) h3.1 hT ?_⟩
     rw [Array.setIfInBounds_comm _ _ hji]
     exact h3.2.2
def waits (md:Region.Mode) (ops:Array Oper) (k i:Nat):Bool:=i != k && (match ops[k]? with
 | some o=>o.after.any fun e=>Region.binds md e && e.on == i
 | none=>false)
theorem wpAnyL_take {i:Nat} {oi:Oper} {v:Value} {fuel:Nat} {listed:Array Bool} {a:Act} {w:World} (hi:ops[i]? = some oi) (hk:waits md ops k i=true)
   (hs:Region.noSelect ops=true) (hf:Region.free md ops listed i=true) (hr:(Region.ready md ops listed).contains i=true)
   (hQ: ∀ c a w,Q (.panic c) (a.put oi.dst v) w→Q (.panic c) a w) (hy:YieldsIf P ops T oi v a) (hS:T w)
   (h:wpAnyL P md ops Q T k fuel (listed.setIfInBounds i true) (a.put oi.dst v) w):wpAnyL P md ops Q T k (fuel+1) listed a w:=by
 unfold waits at hk
 rw [Bool.and_eq_true] at hk
 obtain ⟨h1,h2⟩:=hk
 cases hq:ops[k]? with
 | none=>rw [hq] at h2;cases h2
 | some ok=>
   rw [hq] at h2
   simp only [Array.any_eq_true'] at h2
   obtain ⟨e,he,h3⟩:=h2
   rw [Bool.and_eq_true] at h3
   exact wpAnyL_first hi hq ⟨e,he,h3.1,by simpa using h3.2⟩ (Region.noSelect_spec hs) (by simpa using h1) hQ fuel listed a w (Region.free_spec hi hf) (by simpa using hr) hy hS h
theorem takeL (i:Nat) (v:Value) {oi:Oper} {fuel:Nat} {listed:Array Bool} {a:Act} {w:World} (hy: ∀ W,T W→(execOp a.eval oi).run P W= .ok (.value v) W) (hS:T w)
   (h:wpAnyL P md ops Q T k fuel (listed.setIfInBounds i true) (a.put oi.dst v) w) (hi:ops[i]? = some oi:=by exact rfl) (hk:waits md ops k i=true:=by kernel_rfl)
   (hs:Region.noSelect ops=true:=by kernel_rfl) (hf:Region.free md ops listed i=true:=by kernel_rfl) (hr:(Region.ready md ops listed).contains i=true:=by kernel_rfl)
   (hQ: ∀ c a w,Q (.panic c) (a.put oi.dst v) w→Q (.panic c) a w:=by exact fun _ _ _ h=>h) (hg:Region.wanted oi (yielded ops a.tmps)=true:=by exact rfl):wpAnyL P md ops Q T k (fuel+1) listed a w:=
 wpAnyL_take hi hk hs hf hr hQ (Or.inl ⟨hg,hy⟩) hS h
theorem setB (l:List Value) (i:Nat) (v:Value):l.toArray.setIfInBounds i v=(l.set i v).toArray:=List.setIfInBounds_toArray ..
theorem set0 (l:List Value) (x v:Value):(x :: l).set 0 v=v :: l:=rfl
theorem setS (l:List Value) (i:Nat) (x v:Value):(x :: l).set (i+1) v=x :: l.set i v:=rfl
theorem wpAnyL_one {i:Nat} {oi:Oper} {fuel:Nat} {listed:Array Bool} {a:Act} {w:World} (hr:Region.ready md ops listed=[i]) (hi:ops[i]? = some oi)
   (h: ∀ K:Act→World→Prop,(∀ a' w',(i=k∨T w')→wpAnyL P md ops Q T k fuel (listed.setIfInBounds i true) a' w'→K a' w')→if Region.wanted oi (yielded ops a.tmps)=true then Oper.wp P oi a w K Q else K (a.put oi.dst undef) w):wpAnyL P md ops Q T k (fuel+1) listed a w:=by
 refine ⟨fun h0=>(by rw [hr] at h0;cases h0),fun j hj=> ?_⟩
 rw [hr,List.mem_singleton] at hj
 subst hj
 have h:=h (fun a' w'=>(j=k∨T w')∧wpAnyL P md ops Q T k fuel (listed.setIfInBounds j true) a' w') (fun a' w' h1 h2=>⟨h1,h2⟩)
 unfold wpOp
 simp only [hi]
 split
 · rename_i hw
   rw [if_pos hw] at h
   exact Or.inl h
 · rename_i hw
   rw [if_neg hw] at h
   exact h
theorem wpAnyL_done {listed:Array Bool} {a:Act} {w:World} (hr:Region.ready md ops listed=[]) (h:Q .normal a w): ∀ fuel,wpAnyL P md ops Q T k fuel listed a w
 | 0=>⟨hr,h⟩
 | _+1=>⟨fun _=>h,by rw [hr];simp⟩
theorem wp_region_L {id:Nat} {a:Act} {w:World} (T:World→Prop) (k:Nat) (hm:P.follows .mixedOrders=true)
   (h:wpAnyL P .any ops Q T k ops.size (Array.replicate ops.size false) a { w with drawn:=w.drawn+1 }):(Code.region id ops true).wp P Q a w:=
 wp_region_any hm (wpAny_of_L _ _ _ _ h)
end
section
variable {P:Program} {ops:Array Oper} {Q:Exit→Act→World→Prop} {md:Region.Mode} {T:World→Prop} {k:Nat}
theorem wpAnyL_two {i j:Nat} {oi oj:Oper} {fuel:Nat} {listed:Array Bool} {a:Act} {w:World} (hr:Region.ready md ops listed=[i,j]) (hi:ops[i]? = some oi) (hj:ops[j]? = some oj)
   (h1: ∀ K:Act→World→Prop,(∀ a' w',(i=k∨T w')→wpAnyL P md ops Q T k fuel (listed.setIfInBounds i true) a' w'→K a' w')→if Region.wanted oi (yielded ops a.tmps)=true then Oper.wp P oi a w K Q else K (a.put oi.dst undef) w)
   (h2: ∀ K:Act→World→Prop,(∀ a' w',(j=k∨T w')→wpAnyL P md ops Q T k fuel (listed.setIfInBounds j true) a' w'→K a' w')→if Region.wanted oj (yielded ops a.tmps)=true then Oper.wp P oj a w K Q else K (a.put oj.dst undef) w):wpAnyL P md ops Q T k (fuel+1) listed a w:=by
 refine ⟨fun h0=>(by rw [hr] at h0;cases h0),fun q hq=> ?_⟩
 rw [hr] at hq
 simp only [List.mem_cons,List.not_mem_nil,or_false] at hq
 rcases hq with rfl | rfl
 · have h:=h1 (fun a' w'=>(q=k∨T w')∧wpAnyL P md ops Q T k fuel (listed.setIfInBounds q true) a' w') (fun a' w' h1 h2=>⟨h1,h2⟩)
   unfold wpOp
   simp only [hi]
   split
   · rename_i hw
     rw [if_pos hw] at h
     exact Or.inl h
   · rename_i hw
     rw [if_neg hw] at h
     exact h
 · have h:=h2 (fun a' w'=>(q=k∨T w')∧wpAnyL P md ops Q T k fuel (listed.setIfInBounds q true) a' w') (fun a' w' h1 h2=>⟨h1,h2⟩)
   unfold wpOp
   simp only [hj]
   split
   · rename_i hw
     rw [if_pos hw] at h
     exact Or.inl h
   · rename_i hw
     rw [if_neg hw] at h
     exact h
end
end Go.Proofs.YtknjjjenklfeoaaGreatDoor
namespace Go.Proofs.YtknjjjenklfeoaaGreatDoor
open Go.RowKit
attribute [local go_sem ↓] loadVar_clus
attribute [local go_sem] run_loadClus
theorem row_has {w:World} {base:Nat} {g cap:Nat} {L:List Clus} (h:w.ownsRow base 38 64 (.slice (some ⟨g,0,none⟩) L.length cap) L.length (flatC L)) (hl: ∀ c ∈ L,c.length=64)
   (k:Nat) (hk:k<L.length):HasAt w g (k*64) 64:=hasAt_of_range (row_range h hl k hk) (by rw [cv_length,cl_length hl hk])
theorem row_cells {w:World} {base:Nat} {g cap:Nat} {L:List Clus} (h:w.ownsRow base 38 64 (.slice (some ⟨g,0,none⟩) L.length cap) L.length (flatC L)) (hl: ∀ c ∈ L,c.length=64)
   (k:Nat) (hk:k<L.length):cellsAt w g (k*64) 64=cv (cl L k):=cellsAt_of_range (row_range h hl k hk) (by rw [cv_length,cl_length hl hk])
theorem root_cells (R:List RootR) (i:Nat) (hi:i<R.length) (j:Nat) (hj:j<3):(R.flatMap rootCells)[i*3+j]? = (rootCells (R.getD i ⟨0,0,[]⟩))[j]? := by
 induction R generalizing i with
 | nil=>simp at hi
 | cons a r ih=>
   cases i with
   | zero=>
     simp only [List.flatMap_cons,List.getD_cons_zero,Nat.zero_mul,Nat.zero_add]
     rw [List.getElem?_append_left (by simp [rootCells];omega)]
   | succ i=>
     have h2:=ih i (by simpa using hi)
     simp only [List.flatMap_cons,List.getD_cons_succ]
     rw [List.getElem?_append_right (by simp [rootCells];omega),← h2]
     congr 1
     simp [rootCells];omega
theorem root_cell {w:World} {base:Nat} {g cap:Nat} {R:List RootR} (h:w.ownsRow base 132 3 (.slice (some ⟨g,0,none⟩) R.length cap) R.length (R.flatMap rootCells)) (i:Nat) (hi:i<R.length) (j:Nat) (hj:j<3):
   w.cell? ⟨g,i*3+j,none⟩=(rootCells (R.getD i ⟨0,0,[]⟩))[j]? := by
 rw [h.cellAt (i*3+j) (by omega),root_cells R i hi j hj]
def rootOf (R:FileR) (i:Nat):RootR:=R.roots.getD i ⟨0,0,[]⟩
def needs (R:FileR) (b:Nat):Nat:=
 if num (cl R.L (rootOf R 0).N) (2*(b / 32))<32768 then 2
 else if num (cl R.L (num (cl R.L (rootOf R 0).N) (2*(b / 32))%32768)) (2*(b%32))<32768 then 1 else 0
theorem needs_any (w:World) (f:Nat) (Lv Rv:Value) (R:FileR) (h:FileAt w f Lv Rv R) (b:Nat) (hb:b<64) (h0:0<R.roots.length) (hr:(rootOf R 0).N<R.L.length)
   (hx:num (cl R.L (rootOf R 0).N) (2*(b / 32))%32768<R.L.length) (hLL:R.L.length≤256):
   Calls Tryz.prog 116 #[.pointer (some ⟨f,0,none⟩),.int .i64 b] w fun e w'=>e= .returned (.int .i64 (needs R b:Nat))∧Below w.heap.size w w':=by
 obtain ⟨g,cap,rfl,hc⟩:=row_some h.rowL (by omega)
 obtain ⟨g2,cap2,rfl,hc2⟩:=row_some h.rowR h0
 have hG: ∀ d os,FileAt (Go.Sort.grow (redrawn w d) os) f _ _ R:=fun d os=>h.below (below_regrown w d os)
 have c0:=fun d os=>(hG d os).cLv
 have c1:=fun d os=>(hG d os).cRv
 have cr: ∀ d os,(Go.Sort.grow (redrawn w d) os).cell? ⟨g2,0,none⟩=some (.int .i64 ((rootOf R 0).N:Nat)):=fun d os=>by
   have:=root_cell (hG d os).rowR 0 h0 0 (by omega)
   simpa [rootCells,rootOf] using this
 have l1:=fun d os=>row_has (hG d os).rowL h.lens _ hr
 have l2:=fun d os=>row_cells (hG d os).rowL h.lens _ hr
 have hlen:=cl_length h.lens hr
 have Hn:=hide (fun d os=>number_any (cl R.L (rootOf R 0).N) (2*(((b:Int) / 32))) (Go.Sort.grow (redrawn w d) os) hlen (by omega) (by omega))
 have hri:((rootOf R 0).N:Int)<(R.L.length:Int):=by omega
 have h0i:(0:Int)<(R.roots.length:Int):=by omega
 clear hG
 have Hx:Hid (needs R b=if num (cl R.L (rootOf R 0).N) (2*(b / 32))<32768 then 2
     else if num (cl R.L (num (cl R.L (rootOf R 0).N) (2*(b / 32))%32768)) (2*(b%32))<32768 then 1 else 0):=rfl
 rw [show (2*((b:Int) / 32)).toNat=2*(b / 32) by omega] at Hn
 have hxl:=num_lt (cl R.L (rootOf R 0).N) (2*(b / 32))
 generalize num (cl R.L (rootOf R 0).N) (2*(b / 32))=x at*
 go_enter Tryz.func116,Tryz.ntmps116
 go_wp2
 refine wp_region_quiet_below (by kernel_rfl) (by kernel_rfl) ?_
 repeat (go_big_quiet_step (exact Calls.regrown_of (uh Hn _ _)))
 refine wpQuiet_nil ?_
 intro _ hw'
 obtain ⟨⟨dq,osq⟩,hw''⟩:=hw'
 subst hw''
 clear c0 c1 cr l1 l2 Hn
 have Hb:=hide (below_regrown w dq osq)
 generalize Go.Sort.grow (redrawn w dq) osq=w1 at*
 by_cases hlt:x<32768
 · have dx:decide ((x:Int)<32768)=true:=by simp;omega
   rw [if_pos hlt] at Hx
   go_wp2
   go_ret
   exact ⟨by rw [uh Hx];rfl,uh Hb⟩
 · have dx:decide ((x:Int)<32768)=false:=by simp;omega
   rw [if_neg hlt] at Hx
   have h1:=h.below (uh Hb)
   have c0:=h1.cLv
   have l1:=row_has h1.rowL h1.lens _ hx
   have l2:=row_cells h1.rowL h1.lens _ hx
   have hxi:(x:Int)%32768<(R.L.length:Int):=by omega
   have Hn:=hide (number_any (cl R.L (x%32768)) (2*(((b:Int)%32))) w1 (cl_length h.lens hx) (by omega) (by omega))
   rw [show (2*((b:Int)%32)).toNat=2*(b%32) by omega] at Hn
   have hyl:=num_lt (cl R.L (x%32768)) (2*(b%32))
   generalize num (cl R.L (x%32768)) (2*(b%32))=y at*
   go_wp2_with fail
   refine (uh Hn).mono ?_
   rintro e w2 ⟨rfl,hb2⟩
   have Hb2:=hide ((uh Hb).trans (hb2.mono (uh Hb).size))
   clear hb2 Hn l1 l2 c0 h1
   by_cases hy:y<32768
   · have dy:decide ((y:Int)<32768)=true:=by simp;omega
     rw [if_pos hy] at Hx
     go_wp2
     go_ret
     exact ⟨by rw [uh Hx];rfl,uh Hb2⟩
   · have dy:decide ((y:Int)<32768)=false:=by simp;omega
     rw [if_neg hy] at Hx
     go_wp2
     go_ret
     exact ⟨by rw [uh Hx];rfl,uh Hb2⟩
theorem treeIn_zero (t m k:Nat) (R:FileR) (h:num (cl R.L t) (2*k)=0):treeIn t (m+1) k R=treeIn t m (k+1) R:=by simp [treeIn,h]
theorem treeIn_yes (t m k:Nat) (R:FileR) (h:num (cl R.L t) (2*k)≠0) (ht:(tell R (num (cl R.L t) (2*k)%32768) 3 t).1=true):
   treeIn t (m+1) k R=treeIn t m (k+1) (tell R (num (cl R.L t) (2*k)%32768) 3 t).2:=by simp [treeIn,h,ht]
theorem treeIn_no (t m k:Nat) (R:FileR) (h:num (cl R.L t) (2*k)≠0) (ht:(tell R (num (cl R.L t) (2*k)%32768) 3 t).1=false):
   treeIn t (m+1) k R=(false,(tell R (num (cl R.L t) (2*k)%32768) 3 t).2):=by simp [treeIn,h,ht]
structure Going (w0 w':World) (f:Nat) (Lv Rv:Value) (R R':FileR) (b:Nat):Prop where
 at':FileAt w' f Lv Rv R'
 kept:Kept (fun k=>k=f) w0 w'
 hL:R'.L=R.L
 hR:R'.roots=R.roots
 low:Low b R'
theorem Going.below {w0 w' w2:World} {f:Nat} {Lv Rv:Value} {R R':FileR} {b:Nat} (h:Going w0 w' f Lv Rv R R' b) (hb:Below w'.heap.size w' w2):Going w0 w2 f Lv Rv R R' b:=
 ⟨h.at'.below hb,h.kept.trans (Kept.of_below hb),h.hL,h.hR,h.low⟩
theorem Low.mono {a b:Nat} {R:FileR} (h:Low a R) (hab:a≤b):Low b R:=fun n=>Nat.le_trans (h n) hab
theorem Going.told {w0 w' w2:World} {f:Nat} {Lv Rv:Value} {R R':FileR} {b n kind at':Nat} (h:Going w0 w' f Lv Rv R R' b) (hF:FileAt w2 f Lv Rv (tell R' n kind at').2) (hK:Kept (fun k=>k=f) w' w2):
   Going w0 w2 f Lv Rv R (tell R' n kind at').2 (b+1):=
 ⟨hF,h.kept.trans hK,by rw [tell_L,h.hL],by rw [tell_roots,h.hR],tell_low h.low _ _ _⟩
theorem Going.mono {w0 w':World} {f:Nat} {Lv Rv:Value} {R R':FileR} {a b:Nat} (h:Going w0 w' f Lv Rv R R' a) (hab:a≤b):Going w0 w' f Lv Rv R R' b:=
 ⟨h.at',h.kept,h.hL,h.hR,h.low.mono hab⟩
theorem tree_any (w:World) (f:Nat) (Lv Rv:Value) (R:FileR) (r:RootR) (h:FileAt w f Lv Rv R) (hLL:R.L.length≤256) (hN:r.N<65536) (hA:r.At<65536) (b:Nat) (hbb:b≤100000) (hlow:Low b R):
   Calls Tryz.prog 76 #[.pointer (some ⟨f,0,none⟩),.agg (rootCells r).toArray] w fun e w'=>
     e= .returned (.bool (tree R r).1)∧Going w w' f Lv Rv R (tree R r).2 (b+2000):=by
 have hW:=(Kept.refl (fun k=>k=f) w).alloc (.cells (rootCells r).toArray 132)
 have hB:Below w.heap.size w (w.alloc (.cells (rootCells r).toArray 132)):=(Below.refl _ _).alloc (Nat.le_refl _) _
 have h0:=h.below hB
 have hfb:f≠w.heap.size:=Nat.ne_of_lt h.lt
 have b0:(w.alloc (.cells (rootCells r).toArray 132)).cell? ⟨w.heap.size,0,none⟩=some (.int .i64 (r.N:Nat)):=by rw [cell_new];rfl
 have b1:(w.alloc (.cells (rootCells r).toArray 132)).cell? ⟨w.heap.size,1,none⟩=some (.int .i64 (r.At:Nat)):=by rw [cell_new];rfl
 have hsz:w.heap.size<(w.alloc (.cells (rootCells r).toArray 132)).heap.size:=by simp
 have HW:=hide hW
 clear hW hB
 have Ht:=hide (tell_any _ f Lv Rv R h0 hLL (r.N:Int) 1 (r.At:Int) (by omega) (by omega) (by omega) (by omega) (hlow.mono (by omega)))
 have Htr:Hid (tree R r=if (tell R r.N 1 r.At).1 then treeOut r.N 32 0 (tell R r.N 1 r.At).2 else (false,(tell R r.N 1 r.At).2)):=rfl
 simp only [Int.toNat_natCast,show (1:Int).toNat=1 from rfl] at Ht
 have g0:Going (w.alloc (.cells (rootCells r).toArray 132)) (w.alloc (.cells (rootCells r).toArray 132)) f Lv Rv R R b:=⟨h0,Kept.refl _ _,rfl,rfl,hlow⟩
 go_enter Tryz.func76,Tryz.ntmps76
 go_wp2_with fail
 refine (uh Ht).mono ?_
 rintro e w1 ⟨rfl,hF1,hK1⟩
 have g1:=g0.told hF1 hK1
 have hok:=fun hh=>tell_ok (R:=R) (n:=r.N) (kind:=1) (at':=r.At) hh
 generalize w.alloc (.cells (rootCells r).toArray 132)=W at*
 clear Ht hF1 hK1 g0 h0
 generalize (tell R r.N 1 r.At).1=ok1 at*
 generalize (tell R r.N 1 r.At).2=R1 at*
 clear b1
 have Hg1:=hide g1
 clear g1
 go_wp2
 go_loopw [5,6] (fun ok i w'=> ∃ (k:Nat) (R':FileR),k≤32∧i= .int .i64 k∧Going W w' f Lv Rv R R' (b+1+40*k)∧
     ((ok= .bool true∧r.N<R.L.length∧tree R r=treeOut r.N (32 - k) k R')∨(ok= .bool false∧tree R r=(false,R')))) (fun _ i _=>32 - (intOf i).toNat)
 case atStart=>
   refine ⟨0,R1,by omega,rfl,uh Hg1,?_⟩
   cases ok1 with
   | true=>exact Or.inl ⟨rfl,(hok rfl).2,by rw [uh Htr];rfl⟩
   | false=>exact Or.inr ⟨rfl,by rw [uh Htr];rfl⟩
 case round=>
   obtain ⟨k,R',hk,rfl,hg,hcase⟩:=hrel
   clear Hg1 hok Htr
   rcases hcase with ⟨rfl,hNL,htr⟩ | ⟨rfl,htr⟩
   · have Htr:=hide htr
     clear htr
     have hNL':r.N<R'.L.length:=by rw [hg.hL];exact hNL
     have hNi:(r.N:Int)<(R'.L.length:Int):=by omega
     have hbox:wr.cell? ⟨w.heap.size,0,none⟩=some (.int .i64 (r.N:Nat)):=by
       rw [hg.kept.cell (p:=⟨w.heap.size,0,none⟩) hsz (fun e=>hfb e.symm)];exact b0
     by_cases hlt:k<32
     · obtain ⟨g,cap,rfl,hc⟩:=row_some hg.at'.rowL (by omega)
       have hG: ∀ d os,FileAt (Go.Sort.grow (redrawn wr d) os) f _ _ R':=fun d os=>hg.at'.below (below_regrown wr d os)
       have c0:=fun d os=>(hG d os).cLv
       have cx:=fun d os=>cell_regrown hbox d os
       have l1:=fun d os=>row_has (hG d os).rowL hg.at'.lens _ hNL'
       have l2:=fun d os=>row_cells (hG d os).rowL hg.at'.lens _ hNL'
       have hlen:=cl_length hg.at'.lens hNL'
       have Hn:=hide (fun d os=>number_any (cl R'.L r.N) (2*(k:Int)) (Go.Sort.grow (redrawn wr d) os) hlen (by omega) (by omega))
       rw [show (2*(k:Int)).toNat=2*k by omega] at Hn
       have hxl:=num_lt (cl R'.L r.N) (2*k)
       have HX:Hid (num (cl R'.L r.N) (2*k)=num (cl R'.L r.N) (2*k)):=rfl
       generalize hx:num (cl R'.L r.N) (2*k)=x at Hn hxl
       have Hx:=hide hx
       clear hG hx HX
       go_wp2
       refine wp_region_quiet_below (by kernel_rfl) (by kernel_rfl) ?_
       repeat (go_big_quiet_step (exact Calls.regrown_of (uh Hn _ _)))
       refine wpQuiet_nil ?_
       intro _ hw'
       obtain ⟨⟨dq,osq⟩,hw''⟩:=hw'
       subst hw''
       clear c0 cx l1 l2 Hn
       have g2:=hg.below (below_regrown wr dq osq)
       have hbox2:=cell_regrown hbox dq osq
       clear hbox hg
       generalize Go.Sort.grow (redrawn wr dq) osq=w2 at*
       have Hg2:=hide g2
       by_cases hx0:x=0
       · subst hx0
         clear g2
         go_wp2
         go_roundw
         case rel=>
           refine ⟨k+1,R',by omega,by go_num,(uh Hg2).mono (by omega),Or.inl ⟨rfl,hNL,?_⟩⟩
           rw [uh Htr,show 32 - k=(32 - (k+1))+1 by omega,treeOut,if_pos (uh Hx)]
         case measure=>simp [intOf];omega
       · have dx:((x:Int) == 0)=false:=by rw [beq_eq_false_iff_ne];omega
         by_cases hk1:1<k
         · have dk:decide ((1:Int)<(k:Int))=true:=by simp;omega
           have cB:=g2.at'.cBad
           have hfz:=g2.at'.fz
           have hb:=g2.at'.setBad (r.N:Int)
           have hK:=Kept.only w2 f 514 (.int .i64 (r.N:Int))
           have Hb:=hide hb
           have HK:=hide hK
           clear hb hK g2
           go_wp2
           go_ret
           have e:tree R r=(false,{ R' with bad:=(r.N:Int) }):=by
             rw [uh Htr,show 32 - k=(32 - (k+1))+1 by omega,treeOut,if_neg (by rw [uh Hx];exact hx0),if_pos hk1]
           rw [e]
           exact ⟨rfl,uh Hb,((uh HW).trans (uh Hg2).kept).trans (uh HK),(uh Hg2).hL,(uh Hg2).hR,(uh Hg2).low.mono (by omega)⟩
         · have dk:decide ((1:Int)<(k:Int))=false:=by simp;omega
           have Ht:=hide (tell_any w2 f _ Rv R' g2.at' (by rw [g2.hL];exact hLL) ((x:Int)%32768) 2 (r.N:Int) (by omega) (by omega) (by omega) (by omega) (g2.low.mono (by omega)))
           simp only [Int.toNat_natCast,show (2:Int).toNat=2 from rfl,show ((x:Int)%32768).toNat=x%32768 by omega] at Ht
           clear g2
           have hT:tree R r=(if (if (tell R' (x%32768) 2 r.N).1 then treeIn (x%32768) 32 0 (tell R' (x%32768) 2 r.N).2 else (false,(tell R' (x%32768) 2 r.N).2)).1
               then treeOut r.N (32 - (k+1)) (k+1) (if (tell R' (x%32768) 2 r.N).1 then treeIn (x%32768) 32 0 (tell R' (x%32768) 2 r.N).2 else (false,(tell R' (x%32768) 2 r.N).2)).2
               else (false,(if (tell R' (x%32768) 2 r.N).1 then treeIn (x%32768) 32 0 (tell R' (x%32768) 2 r.N).2 else (false,(tell R' (x%32768) 2 r.N).2)).2)):=by
             rw [uh Htr,show 32 - k=(32 - (k+1))+1 by omega,treeOut,if_neg (by rw [uh Hx];exact hx0),if_neg hk1,uh Hx]
             cases (tell R' (x%32768) 2 r.N).1 <;> simp
           have hok2:=fun hh=>tell_ok (R:=R') (n:=x%32768) (kind:=2) (at':=r.N) hh
           go_wp2_with fail
           refine (uh Ht).mono ?_
           rintro e w3 ⟨rfl,hF3,hK3⟩
           have g3:=(uh Hg2).told hF3 hK3
           have hgL:=(uh Hg2).hL
           have hgb:w3.cell? ⟨w.heap.size,0,none⟩=some (.int .i64 (r.N:Nat)):=by
             rw [hK3.cell (p:=⟨w.heap.size,0,none⟩) (World.block_lt_of_cell? _ _ hbox2) (fun e=>hfb e.symm)];exact hbox2
           clear Ht hF3 hK3 Hg2 hbox2 Htr Hx
           generalize hT2:(if (tell R' (x%32768) 2 r.N).1 then treeIn (x%32768) 32 0 (tell R' (x%32768) 2 r.N).2 else (false,(tell R' (x%32768) 2 r.N).2))=T at hT
           generalize (tell R' (x%32768) 2 r.N).1=ok2 at*
           generalize (tell R' (x%32768) 2 r.N).2=R2 at*
           have HT:=hide hT
           have HT2:=hide hT2
           have Hg3:=hide g3
           clear hT hT2 g3
           rw [hgL] at hok2
           clear hgL hgb
           go_wp2
           go_loopw [5,8] (fun ok j w'=> ∃ (m:Nat) (R3:FileR),m≤32∧j= .int .i64 m∧Going W w' f (.slice (some ⟨g,0,none⟩) R'.L.length cap) Rv R R3 (b+1+40*k+1+m)∧
               ((ok= .bool true∧x%32768<R.L.length∧T=treeIn (x%32768) (32 - m) m R3)∨(ok= .bool false∧T=(false,R3)))) (fun _ j _=>32 - (intOf j).toNat)
           case atStart=>
             refine ⟨0,R2,by omega,rfl,uh Hg3,?_⟩
             cases ok2 with
             | true=>exact Or.inl ⟨rfl,(hok2 rfl).2,by rw [← uh HT2];rfl⟩
             | false=>exact Or.inr ⟨rfl,by rw [← uh HT2];rfl⟩
           case round=>
             obtain ⟨m,R3,hm,rfl,hg,hcase⟩:=hrel
             clear Hg3 hok2 HT2
             rcases hcase with ⟨rfl,hxL,hTe⟩ | ⟨rfl,hTe⟩
             · have HTe:=hide hTe
               clear hTe
               by_cases hlt2:m<32
               · have hxL':x%32768<R3.L.length:=by rw [hg.hL];exact hxL
                 have hxi:(x:Int)%32768<(R'.L.length:Int):=by
                   have:=hg.at'.rowL
                   rcases this.2 with ⟨e,_⟩ | ⟨g',cap',cur,e,_⟩
                   · cases e
                   · have:R'.L.length=R3.L.length:=by injection e
                     omega
                 have eL:R'.L.length=R3.L.length:=by
                   rcases hg.at'.rowL.2 with ⟨e,_⟩ | ⟨g',cap',cur,e,_⟩
                   · cases e
                   · injection e
                 have hrow:=hg.at'.rowL
                 have c0:=hg.at'.cLv
                 rw [eL] at hrow
                 have l1:=row_has hrow hg.at'.lens _ hxL'
                 have l2:=row_cells hrow hg.at'.lens _ hxL'
                 have Hn:=hide (number_any (cl R3.L (x%32768)) (2*(m:Int)) wr (cl_length hg.at'.lens hxL') (by omega) (by omega))
                 rw [show (2*(m:Int)).toNat=2*m by omega] at Hn
                 have hyl:=num_lt (cl R3.L (x%32768)) (2*m)
                 generalize hy:num (cl R3.L (x%32768)) (2*m)=y at Hn hyl
                 have Hy:=hide hy
                 have Hg:=hide hg
                 clear hy hg eL hrow
                 go_wp2_with fail
                 refine (uh Hn).mono ?_
                 rintro e w4 ⟨rfl,hb4⟩
                 have g4:=(uh Hg).below hb4
                 clear Hn Hg hb4 l1 l2 c0
                 by_cases hy0:y=0
                 · subst hy0
                   have Hg4:=hide g4
                   clear g4
                   go_wp2
                   go_roundw
                   case rel=>
                     refine ⟨m+1,R3,by omega,by go_num,(uh Hg4).mono (by omega),Or.inl ⟨rfl,hxL,?_⟩⟩
                     rw [uh HTe,show 32 - m=(32 - (m+1))+1 by omega,treeIn_zero _ _ _ _ (uh Hy)]
                   case measure=>simp [intOf];omega
                 · have dy:((y:Int) != 0)=true:=by rw [bne_iff_ne];omega
                   have Ht:=hide (tell_any w4 f _ Rv R3 g4.at' (by rw [g4.hL];exact hLL) ((y:Int)%32768) 3 ((x:Int)%32768) (by omega) (by omega) (by omega) (by omega) (g4.low.mono (by omega)))
                   simp only [show (3:Int).toNat=3 from rfl,show ((y:Int)%32768).toNat=y%32768 by omega,show ((x:Int)%32768).toNat=x%32768 by omega] at Ht
                   have Hg4:=hide g4
                   clear g4
                   go_wp2_with fail
                   refine (uh Ht).mono ?_
                   rintro e w5 ⟨rfl,hF5,hK5⟩
                   have g5:=hide ((uh Hg4).told hF5 hK5)
                   clear Ht hF5 hK5 Hg4
                   have hcase:(((tell R3 (y%32768) 3 (x%32768)).1=true∧T=treeIn (x%32768) (32 - (m+1)) (m+1) (tell R3 (y%32768) 3 (x%32768)).2)∨((tell R3 (y%32768) 3 (x%32768)).1=false∧T=(false,(tell R3 (y%32768) 3 (x%32768)).2))):=by
                     have e:=uh HTe
                     rw [show 32 - m=(32 - (m+1))+1 by omega] at e
                     cases ht:(tell R3 (y%32768) 3 (x%32768)).1 with
                     | true=>exact Or.inl ⟨rfl,by rw [e,treeIn_yes _ _ _ _ (by rw [uh Hy];exact hy0) (by rw [uh Hy];exact ht),uh Hy]⟩
                     | false=>exact Or.inr ⟨rfl,by rw [e,treeIn_no _ _ _ _ (by rw [uh Hy];exact hy0) (by rw [uh Hy];exact ht),uh Hy]⟩
                   have Hcase:=hide hcase
                   clear hcase HTe
                   generalize (tell R3 (y%32768) 3 (x%32768)).1=ok5 at*
                   generalize (tell R3 (y%32768) 3 (x%32768)).2=R5 at*
                   go_wp2
                   go_roundw
                   case rel=>
                     refine ⟨m+1,R5,by omega,by go_num,(uh g5).mono (by omega),?_⟩
                     rcases uh Hcase with ⟨rfl,e⟩ | ⟨rfl,e⟩
                     · exact Or.inl ⟨rfl,hxL,e⟩
                     · exact Or.inr ⟨rfl,e⟩
                   case measure=>simp [intOf];omega
               · have hm32:m=32:=by omega
                 subst hm32
                 have Hg:=hide hg
                 clear hg
                 go_wp2
                 go_roundw
                 case rel=>
                   refine ⟨k+1,R3,by omega,by go_num,(uh Hg).mono (by omega),Or.inl ⟨rfl,hNL,?_⟩⟩
                   rw [uh HT,uh HTe];rfl
                 case measure=>simp [intOf];omega
             · have HTe:=hide hTe
               clear hTe
               have Hg:=hide hg
               clear hg
               by_cases hlt2:m<32
               all_goals
                 go_wp2
                 go_roundw
                 case rel=>
                   refine ⟨k+1,R3,by omega,by go_num,(uh Hg).mono (by omega),Or.inr ⟨rfl,?_⟩⟩
                   rw [uh HT,uh HTe];rfl
                 case measure=>simp [intOf];omega
     · have hk32:k=32:=by omega
       subst hk32
       have Hg:=hide hg
       clear hg
       go_wp2
       go_ret
       have e:tree R r=(true,R'):=by rw [uh Htr];rfl
       rw [e]
       exact ⟨rfl,(uh Hg).at',(uh HW).trans (uh Hg).kept,(uh Hg).hL,(uh Hg).hR,(uh Hg).low.mono (by omega)⟩
   · have Htr:=hide htr
     clear htr
     have Hg:=hide hg
     clear hg
     go_wp2
     all_goals
       go_ret
       rw [uh Htr]
       exact ⟨rfl,(uh Hg).at',(uh HW).trans (uh Hg).kept,(uh Hg).hL,(uh Hg).hR,(uh Hg).low.mono (by omega)⟩
end Go.Proofs.YtknjjjenklfeoaaGreatDoor
