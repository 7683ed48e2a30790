import Derived.Test.YtknjjjenklfeoaaGreatDoorT17
import Derived.Test.YtknjjjenklfeoaaGreatDoorT05
set_option maxHeartbeats 8000000
set_option maxRecDepth 100000
namespace Go.Proofs.YtknjjjenklfeoaaGreatDoor
open Go.RowKit
def head0:Clus:=velm++List.replicate 60 0
theorem byteAt_putNum (c:Clus) (k n m:Nat) (hk:k+1<c.length) (hn:n<65536):byteAt (putNum c k n) m=if m=k then n / 256 else if m=k+1 then n%256 else byteAt c m:=by
 have e1:(UInt8.ofNat (n / 256)).toNat=n / 256:=by rw [UInt8.toNat_ofNat'];omega
 have e2:(UInt8.ofNat (n%256)).toNat=n%256:=by rw [UInt8.toNat_ofNat'];omega
 unfold putNum
 rw [byteAt_set _ _ _ _ (by simpa using hk),byteAt_set _ _ _ _ (by omega),e1,e2]
 by_cases h1:m=k
 · subst h1;rw [if_neg (by omega),if_pos rfl,if_pos rfl]
 · rw [if_neg h1]
   by_cases h2:m=k+1
   · subst h2;rw [if_pos rfl,if_pos rfl]
   · rw [if_neg (fun e=>h2 e.symm),if_neg (fun e=>h1 e.symm),if_neg h2]
section
variable {a b:Nat}
theorem byteAt_head (ha:a<65536) (hb:b<65536) (m:Nat):byteAt (headBytes a b) m=if m=6 then b / 256 else if m=7 then b%256 else if m=4 then a / 256 else if m=5 then a%256 else byteAt head0 m:=by
 unfold headBytes
 rw [byteAt_putNum _ 6 b m (by rw [putNum_length];decide) hb,byteAt_putNum _ 4 a m (by decide) ha]
 rfl
theorem num_head4 (ha:a<65536) (hb:b<65536):num (headBytes a b) 4=a:=by
 unfold num
 rw [byteAt_head ha hb,byteAt_head ha hb]
 simp only [show ¬ (4=6) by decide,show ¬ (4=7) by decide,show ¬ (4+1=6) by decide,show ¬ (4+1=7) by decide,show ¬ (4+1=4) by decide,if_true,if_false]
 omega
theorem num_head6 (ha:a<65536) (hb:b<65536):num (headBytes a b) 6=b:=by
 unfold num
 rw [byteAt_head ha hb,byteAt_head ha hb]
 simp only [show ¬ (6+1=6) by decide,if_true,if_false]
 omega
theorem restZero_of (c:Clus): ∀ m i,(∀ j,i≤j→j<i+m→byteAt c j=0)→restZero c m i=true
 | 0,_,_=>rfl
 | m+1,i,h=>by
   rw [restZero,if_pos (h i (by omega) (by omega))]
   exact restZero_of c m (i+1) (fun j h1 h2=>h j (by omega) (by omega))
theorem head0_rest: ∀ j:Fin 64,8≤j.val→byteAt head0 j.val=0:=by decide
theorem head_rest (ha:a<65536) (hb:b<65536):restZero (headBytes a b) 56 8=true:=
 restZero_of _ _ _ fun j h1 h2=>by
   rw [byteAt_head ha hb,if_neg (by omega),if_neg (by omega),if_neg (by omega),if_neg (by omega)]
   exact head0_rest ⟨j,by omega⟩ h1
theorem head_velm:(headBytes a b).take 4=velm:=by
 unfold headBytes putNum
 rw [List.take_set_of_le (by omega),List.take_set_of_le (by omega),List.take_set_of_le (by omega),List.take_set_of_le (by omega)]
 rfl
end
theorem padTo_same {C:List Clus}:padTo C C.length=C:=by
 unfold padTo
 apply List.ext_getElem?
 intro i
 rw [List.getElem?_map]
 by_cases h:i<C.length
 · rw [List.getElem?_range h,Option.map_some,if_pos h,cl,List.getD_eq_getElem?_getD,List.getElem?_eq_getElem h];rfl
 · rw [List.getElem?_eq_none (by simpa using h),List.getElem?_eq_none (by omega)];rfl
theorem cloneW_nil (w:World):Calls Tryz.prog 159 #[.slice none 0 0] w fun e w'=>e= .returned (.slice none 0 0)∧w'=w:=by
 have hq:=run_eql_slice_nil (P:=Tryz.prog) w 58 104 none 0 0 Tryz.underlying58
 go_enter Tryz.func159,Tryz.ntmps159
 go_wp2
 go_ret
 exact ⟨rfl,rfl⟩
theorem cloneW_zero (w:World) (g cap:Nat):Calls Tryz.prog 159 #[.slice (some ⟨g,0,none⟩) 0 cap] w fun e w'=> ∃ v,e= .returned v∧w'.ownsRow w.heap.size 104 65 v 0 []∧Below w.heap.size w w':=by
 have hq:=run_eql_slice_nil (P:=Tryz.prog) w 58 104 (some ⟨g,0,none⟩) 0 cap Tryz.underlying58
 go_enter Tryz.func159,Tryz.ntmps159
 go_wp2
 go_ret
 exact ⟨_,rfl,row_empty w _ _ _ (Nat.le_refl _),(Below.refl _ _).alloc (Nat.le_refl _) _⟩
theorem cloneW_all (w:World) (Lv:Value) (L:List WrR) (hL: ∀ x ∈ L,x.data.length=64) (hr:w.ownsRow 0 104 65 Lv L.length (flatW L)) (h1:L.length≤1000000000):
   Calls Tryz.prog 159 #[Lv] w fun e w'=> ∃ v,e= .returned v∧w'.ownsRow w.heap.size 104 65 v L.length (flatW L)∧Below w.heap.size w w':=by
 by_cases h0:0<L.length
 · obtain ⟨g,cap,rfl,_⟩:=row_some hr h0
   exact cloneW_any w g cap L hL hr h0 h1
 · have hl:L=[]:=List.eq_nil_of_length_eq_zero (by omega)
   subst hl
   rcases hr.2 with ⟨rfl,_⟩ | ⟨g,cap,cur,rfl,_⟩
   · refine (cloneW_nil w).mono ?_
     rintro e w' ⟨rfl,rfl⟩
     exact ⟨_,rfl,World.ownsRow_nil _ _ _ _,Below.refl _ _⟩
   · exact cloneW_zero w g cap
theorem storeLog_all (w:World) (v:Nat) (Cv Lv:Value) (V:VolR) (h:VolAt w v Cv Lv V) (h1:V.L.length≤1000000000):
   Calls Tryz.prog 102 #[.pointer (some ⟨v,0,none⟩)] w fun e w'=> ∃ x,e= .returned x∧w'.ownsRow w.heap.size 104 65 x V.L.length (flatW V.L)∧Below w.heap.size w w':=by
 have c1:=h.c1
 obtain ⟨a,cap,hLv⟩:=row_form h.rowL
 have Hc:=hide (cloneW_all w Lv V.L h.lenL h.rowL h1)
 subst hLv
 go_enter Tryz.func102,Tryz.ntmps102
 go_wp2_with fail
 refine (uh Hc).mono ?_
 rintro e w1 ⟨x,rfl,hr,hb⟩
 go_wp2
 go_ret
 exact ⟨x,rfl,hr,hb⟩
theorem volLog_all (w:World) (v:Nat) (Cv Lv:Value) (V:VolR) (h:VolAt w v Cv Lv V) (h1:V.L.length≤1000000000):
   Calls Tryz.prog 53 #[.pointer (some ⟨v,0,none⟩)] w fun e w'=> ∃ x,e= .returned x∧w'.ownsRow w.heap.size 104 65 x V.L.length (flatW V.L)∧Below w.heap.size w w':=by
 have Hc:=hide (storeLog_all w v Cv Lv V h h1)
 go_enter Tryz.func53,Tryz.ntmps53
 go_wp2_with fail
 refine (uh Hc).mono ?_
 rintro e w1 ⟨x,rfl,hr,hb⟩
 go_wp2
 go_ret
 exact ⟨x,rfl,hr,hb⟩
theorem diskLog_all (w:World) (d v:Nat) (Cv Lv:Value) (V:VolR) (h:DskAt w d v Cv Lv V) (h1:V.L.length≤1000000000):
   Calls Tryz.prog 24 #[.pointer (some ⟨d,0,none⟩)] w fun e w'=> ∃ x,e= .returned x∧w'.ownsRow w.heap.size 104 65 x V.L.length (flatW V.L)∧Below w.heap.size w w':=by
 have c0:=h.c0
 have Hm:=hide (made_any w d v Cv Lv V h)
 have Hc:=hide (volLog_all w v Cv Lv V h.vol h1)
 go_enter Tryz.func24,Tryz.ntmps24
 go_wp2_with fail
 refine (uh Hm).mono ?_
 rintro e w1 ⟨rfl,rfl⟩
 go_wp2_with fail
 refine (uh Hc).mono ?_
 rintro e w1 ⟨x,rfl,hr,hb⟩
 go_wp2
 go_ret
 exact ⟨x,rfl,hr,hb⟩
end Go.Proofs.YtknjjjenklfeoaaGreatDoor
namespace Go.Proofs.YtknjjjenklfeoaaGreatDoor
abbrev nm (L:List Clus) (t k:Nat):Nat:=num (cl L t) (2*k)
def hit (x n:Nat):Nat:=if x≠0∧x%32768=n then 1 else 0
def sumFrom (f:Nat→Nat):Nat→Nat→Nat
 | 0,_=>0
 | m+1,k=>f k+sumFrom f m (k+1)
theorem sumFrom_congr {f g:Nat→Nat}: ∀ m k,(∀ j,k≤j→j<k+m→f j=g j)→sumFrom f m k=sumFrom g m k
 | 0,_,_=>rfl
 | m+1,k,h=>by rw [sumFrom,sumFrom,h k (by omega) (by omega),sumFrom_congr m (k+1) (fun j h1 h2=>h j (by omega) (by omega))]
theorem sumFrom_one {f g:Nat→Nat} {a:Nat}: ∀ m k,k≤a→a<k+m→(∀ j,k≤j→j<k+m→j≠a→f j=g j)→sumFrom f m k+g a=sumFrom g m k+f a
 | 0,_,h1,h2,_=>by omega
 | m+1,k,h1,h2,h=>by
   rw [sumFrom,sumFrom]
   by_cases e:k=a
   · subst e
     rw [sumFrom_congr m (k+1) (fun j h3 h4=>h j (by omega) (by omega) (by omega))]
     omega
   · have:=sumFrom_one m (k+1) (by omega) (by omega) (fun j h3 h4 h5=>h j (by omega) (by omega) h5)
     have:=h k (by omega) (by omega) e
     omega
theorem sumFrom_ge {f:Nat→Nat} {a:Nat}: ∀ m k,k≤a→a<k+m→f a≤sumFrom f m k
 | 0,_,h1,h2=>by omega
 | m+1,k,h1,h2=>by
   rw [sumFrom]
   by_cases e:k=a
   · subst e;omega
   · have:=sumFrom_ge (f:=f) m (k+1) (a:=a) (by omega) (by omega);omega
theorem sumFrom_two {f:Nat→Nat} {a b:Nat} (hab:a<b): ∀ m k,k≤a→b<k+m→f a+f b≤sumFrom f m k
 | 0,_,h1,h2=>by omega
 | m+1,k,h1,h2=>by
   rw [sumFrom]
   by_cases e:k=a
   · subst e
     have:=sumFrom_ge (f:=f) m (k+1) (a:=b) (by omega) (by omega);omega
   · have:=sumFrom_two (f:=f) hab m (k+1) (by omega) (by omega);omega
theorem sumFrom_zero {f:Nat→Nat}: ∀ m k,(∀ j,k≤j→j<k+m→f j=0)→sumFrom f m k=0
 | 0,_,_=>rfl
 | m+1,k,h=>by rw [sumFrom,h k (by omega) (by omega),sumFrom_zero m (k+1) (fun j h1 h2=>h j (by omega) (by omega))]
theorem hit_one {x n:Nat} (h0:x≠0) (h:x%32768=n):hit x n=1:=by unfold hit;rw [if_pos ⟨h0,h⟩]
theorem hit_zero (n:Nat):hit 0 n=0:=by unfold hit;rw [if_neg (by simp)]
def SameN (x y:Nat):Prop:=(x=0↔y=0)∧x%32768=y%32768
theorem SameN.hit {x y:Nat} (h:SameN x y) (n:Nat):hit x n=hit y n:=by
 unfold Go.Proofs.YtknjjjenklfeoaaGreatDoor.hit
 by_cases e:x≠0∧x%32768=n
 · rw [if_pos e,if_pos ⟨fun z=>e.1 (h.1.2 z),by rw [← h.2];exact e.2⟩]
 · rw [if_neg e,if_neg (fun z=>e ⟨fun y0=>z.1 (h.1.1 y0),by rw [h.2];exact z.2⟩)]
theorem SameN.refl (x:Nat):SameN x x:=⟨Iff.rfl,rfl⟩
def inOcc (L:List Clus) (s n:Nat):Nat:=sumFrom (fun k=>hit (nm L s k) n) 32 0
def secOcc (L:List Clus) (t j n:Nat):Nat:=if nm L t j=0 then 0 else hit (nm L t j) n+inOcc L (nm L t j%32768) n
def treeOcc (L:List Clus) (t n:Nat):Nat:=(if t=n then 1 else 0)+(secOcc L t 0 n+secOcc L t 1 n)
def useOf (L:List Clus) (rs:List RootR) (n:Nat):Nat:=(rs.map fun r=>treeOcc L r.N n).sum
theorem occ_nil (n:Nat):occ [] n=0:=rfl
theorem occ_cons (x:Nat × Nat) (ts:Tells) (n:Nat):occ (x :: ts) n=(if x.1=n then 1 else 0)+occ ts n:=by
 unfold occ
 rw [List.map_cons,List.count_cons,Nat.add_comm]
 simp
theorem occ_inTells (L:List Clus) (t n:Nat): ∀ m k,occ (inTells L t m k) n=sumFrom (fun k=>hit (nm L t k) n) m k
 | 0,_=>rfl
 | m+1,k=>by
   rw [inTells,sumFrom,occ_append,occ_inTells L t n m (k+1)]
   congr 1
   by_cases h:num (cl L t) (2*k)=0
   · rw [if_pos h,occ_nil];unfold nm;rw [h,hit_zero]
   · rw [if_neg h,occ_cons,occ_nil,Nat.add_zero]
     unfold hit
     by_cases e:num (cl L t) (2*k)%32768=n
     · rw [if_pos e,if_pos ⟨h,e⟩]
     · rw [if_neg e,if_neg (fun x=>e x.2)]
theorem occ_secOf (L:List Clus) (t j n:Nat):occ (secOf L t j) n=secOcc L t j n:=by
 unfold secOf secOcc
 by_cases h:num (cl L t) (2*j)=0
 · rw [if_pos h,if_pos h];rfl
 · rw [if_neg h,if_neg h,occ_cons,occ_inTells]
   unfold inOcc hit nm
   by_cases e:num (cl L t) (2*j)%32768=n
   · rw [if_pos e,if_pos ⟨h,e⟩]
   · rw [if_neg e,if_neg (fun x=>e x.2)]
theorem outTells_none (L:List Clus) (t:Nat): ∀ m i,(∀ j,i≤j→j<i+m→num (cl L t) (2*j)=0)→outTells L t m i=[]
 | 0,_,_=>rfl
 | m+1,i,h=>by rw [outTells,if_pos (h i (by omega) (by omega)),outTells_none L t m (i+1) (fun j h1 h2=>h j (by omega) (by omega))];rfl
theorem treeTells_two {L:List Clus} {t:Nat} (hz: ∀ i,1<i→i<32→num (cl L t) (2*i)=0):treeTells L t=(t,1) :: (secOf L t 0++secOf L t 1):=by
 rw [treeTells,outTells_two,outTells_none L t 30 2 (fun j h1 h2=>hz j (by omega) (by omega)),List.append_nil]
theorem occ_treeTells {L:List Clus} {t:Nat} (hz: ∀ i,1<i→i<32→num (cl L t) (2*i)=0) (n:Nat):occ (treeTells L t) n=treeOcc L t n:=by
 rw [treeTells_two hz,occ_cons,occ_append,occ_secOf,occ_secOf];rfl
theorem allTells_flat (L:List Clus) (rs:List RootR): ∀ m i,i+m=rs.length→allTells L rs m i=(rs.drop i).flatMap fun r=>treeTells L r.N
 | 0,i,h=>by rw [List.drop_of_length_le (by omega)];rfl
 | m+1,i,h=>by
   rw [allTells,allTells_flat L rs m (i+1) (by omega)]
   have hi:i<rs.length:=by omega
   rw [List.drop_eq_getElem_cons hi,List.flatMap_cons,List.getD_eq_getElem?_getD,List.getElem?_eq_getElem hi]
   rfl
theorem allTells_all (L:List Clus) (rs:List RootR):allTells L rs rs.length 0=rs.flatMap fun r=>treeTells L r.N:=by
 rw [allTells_flat L rs rs.length 0 (by omega),List.drop_zero]
theorem occ_flat (L:List Clus) (n:Nat): ∀ rs:List RootR,(∀ r ∈ rs,∀ i,1<i→i<32→num (cl L r.N) (2*i)=0)→occ (rs.flatMap fun r=>treeTells L r.N) n=useOf L rs n
 | [],_=>rfl
 | r :: rs,hz=>by
   rw [List.flatMap_cons,occ_append,occ_flat L n rs (fun x hx=>hz x (by simp [hx])),occ_treeTells (hz r (by simp))]
   simp [useOf]
theorem occ_allTells {L:List Clus} {rs:List RootR} (hz: ∀ r ∈ rs,∀ i,1<i→i<32→num (cl L r.N) (2*i)=0) (n:Nat):occ (allTells L rs rs.length 0) n=useOf L rs n:=by
 rw [allTells_all,occ_flat L n rs hz]
def IsFst (rs:List RootR) (t:Nat):Prop:= ∃ r ∈ rs,r.N=t
def IsSec (L:List Clus) (rs:List RootR) (s:Nat):Prop:= ∃ r ∈ rs,∃ j,j<2∧nm L r.N j≠0∧nm L r.N j%32768=s
def IsBlk (L:List Clus) (rs:List RootR) (n:Nat):Prop:= ∃ s,IsSec L rs s∧ ∃ k,k<32∧nm L s k≠0∧nm L s k%32768=n
structure SoundL (L:List Clus) (rs:List RootR):Prop where
 len:L.length≤256
 six:6≤L.length
 fst: ∀ r ∈ rs,6≤r.N∧r.N<L.length
 nodup:(rs.map (·.N)).Nodup
 zero: ∀ r ∈ rs,∀ i,1<i→i<32→nm L r.N i=0
 sec: ∀ s,IsSec L rs s→6≤s∧s<L.length
 blk: ∀ n,IsBlk L rs n→6≤n∧n<L.length
 fs: ∀ t,IsFst rs t→ ¬ IsSec L rs t
 fb: ∀ t,IsFst rs t→ ¬ IsBlk L rs t
 sb: ∀ t,IsSec L rs t→ ¬ IsBlk L rs t
 cnt: ∀ n,n<256→base6 n+useOf L rs n≤countOf L n
 top: ∀ n,n<256→countOf L n<255
 none: ∀ n,n<256→L.length≤n→countOf L n=0
 mark1: ∀ r ∈ rs,∀ j,j<2→32768≤nm L r.N j→countOf L (nm L r.N j%32768)=1
 mark2: ∀ s,IsSec L rs s→ ∀ k,k<32→32768≤nm L s k→countOf L (nm L s k%32768)=1
structure ExactS (L:List Clus) (rs:List RootR):Prop where
 eq: ∀ n,n<256→countOf L n=base6 n+useOf L rs n
 lone1: ∀ r ∈ rs,∀ j,j<2→nm L r.N j≠0→countOf L (nm L r.N j%32768)=1→32768≤nm L r.N j
 lone2: ∀ s,IsSec L rs s→ ∀ k,k<32→nm L s k≠0→countOf L (nm L s k%32768)=1→32768≤nm L s k
theorem mem_inTells (L:List Clus) (t:Nat) (x:Nat × Nat): ∀ m k,x ∈ inTells L t m k↔ ∃ j,k≤j∧j<k+m∧nm L t j≠0∧x=(nm L t j%32768,3)
 | 0,k=>by
   rw [inTells]
   exact ⟨fun h=>by simp at h,fun ⟨j,h1,h2,_⟩=>by omega⟩
 | m+1,k=>by
   rw [inTells,List.mem_append,mem_inTells L t x m (k+1)]
   constructor
   · rintro (h | ⟨j,h1,h2,h3⟩)
     · split at h
       · simp at h
       · rename_i h0
         exact ⟨k,by omega,by omega,h0,by simpa using h⟩
     · exact ⟨j,by omega,by omega,h3⟩
   · rintro ⟨j,h1,h2,h3,h4⟩
     by_cases e:j=k
     · subst e;left;rw [if_neg h3];simpa using h4
     · right;exact ⟨j,by omega,by omega,h3,h4⟩
theorem mem_secOf (L:List Clus) (t j:Nat) (x:Nat × Nat):x ∈ secOf L t j↔nm L t j≠0∧(x=(nm L t j%32768,2)∨ ∃ k,k<32∧nm L (nm L t j%32768) k≠0∧x=(nm L (nm L t j%32768) k%32768,3)):=by
 unfold secOf
 by_cases h:num (cl L t) (2*j)=0
 · rw [if_pos h]
   exact ⟨fun h=>by simp at h,fun z=>absurd h z.1⟩
 · rw [if_neg h,List.mem_cons,mem_inTells]
   constructor
   · rintro (e | ⟨k,_,h2,h3,h4⟩)
     · exact ⟨h,Or.inl e⟩
     · exact ⟨h,Or.inr ⟨k,by omega,h3,h4⟩⟩
   · rintro ⟨_,e | ⟨k,h2,h3,h4⟩⟩
     · exact Or.inl e
     · exact Or.inr ⟨k,by omega,by omega,h3,h4⟩
section
variable {L:List Clus} {rs:List RootR}
theorem mem_all (hz: ∀ r ∈ rs,∀ i,1<i→i<32→nm L r.N i=0) (x:Nat × Nat):
   x ∈ allTells L rs rs.length 0↔(x.2=1∧IsFst rs x.1)∨(x.2=2∧IsSec L rs x.1)∨(x.2=3∧IsBlk L rs x.1):=by
 rw [allTells_all,List.mem_flatMap]
 constructor
 · rintro ⟨r,hr,hx⟩
   rw [treeTells_two (hz r hr),List.mem_cons,List.mem_append,mem_secOf,mem_secOf] at hx
   rcases hx with rfl | ⟨h0,rfl | ⟨k,hk,h1,rfl⟩⟩ | ⟨h0,rfl | ⟨k,hk,h1,rfl⟩⟩
   · exact Or.inl ⟨rfl,r,hr,rfl⟩
   · exact Or.inr (Or.inl ⟨rfl,r,hr,0,by omega,h0,rfl⟩)
   · exact Or.inr (Or.inr ⟨rfl,_,⟨r,hr,0,by omega,h0,rfl⟩,k,hk,h1,rfl⟩)
   · exact Or.inr (Or.inl ⟨rfl,r,hr,1,by omega,h0,rfl⟩)
   · exact Or.inr (Or.inr ⟨rfl,_,⟨r,hr,1,by omega,h0,rfl⟩,k,hk,h1,rfl⟩)
 · have key: ∀ r ∈ rs,∀ j,j<2→ ∀ y,y ∈ secOf L r.N j→y ∈ treeTells L r.N:=by
     intro r hr j hj y hy
     rw [treeTells_two (hz r hr),List.mem_cons,List.mem_append]
     have:j=0∨j=1:=by omega
     rcases this with rfl | rfl
     · exact Or.inr (Or.inl hy)
     · exact Or.inr (Or.inr hy)
   rintro (⟨h2,r,hr,e⟩ | ⟨h2,r,hr,j,hj,h0,e⟩ | ⟨h2,s,⟨r,hr,j,hj,h0,e⟩,k,hk,h1,e2⟩)
   · refine ⟨r,hr,?_⟩
     rw [treeTells_two (hz r hr),List.mem_cons]
     exact Or.inl (Prod.ext e.symm h2)
   · exact ⟨r,hr,key r hr j hj x ((mem_secOf _ _ _ _).2 ⟨h0,Or.inl (Prod.ext e.symm h2)⟩)⟩
   · subst e
     exact ⟨r,hr,key r hr j hj x ((mem_secOf _ _ _ _).2 ⟨h0,Or.inr ⟨k,hk,h1,Prod.ext e2.symm h2⟩⟩)⟩
theorem count_tree1 {t:Nat} (hz: ∀ i,1<i→i<32→nm L t i=0) (n:Nat):(treeTells L t).count (n,1)=if t=n then 1 else 0:=by
 have key: ∀ j,(secOf L t j).count (n,1)=0:=by
   intro j
   rw [List.count_eq_zero]
   intro h
   obtain ⟨_,e | ⟨k,_,_,e⟩⟩:=(mem_secOf L t j _).1 h <;> simp at e
 rw [treeTells_two hz,List.count_cons,List.count_append,key,key]
 by_cases e:t=n <;> simp [e]
theorem count_all1 (n:Nat): ∀ rs:List RootR,(∀ r ∈ rs,∀ i,1<i→i<32→nm L r.N i=0)→(rs.flatMap fun r=>treeTells L r.N).count (n,1)=(rs.map (·.N)).count n
 | [],_=>rfl
 | r :: rs,hz=>by
   rw [List.flatMap_cons,List.count_append,count_all1 n rs (fun x hx=>hz x (by simp [hx])),count_tree1 (hz r (by simp)),List.map_cons,List.count_cons,Nat.add_comm]
   simp
theorem SoundL.ok (h:SoundL L rs):OkT L (allTells L rs rs.length 0):=by
 refine ⟨fun x hx=> ?_,fun x hx y hy e=> ?_,fun n=> ?_⟩
 · rcases (mem_all h.zero x).1 hx with ⟨h2,r,hr,e⟩ | ⟨h2,hs⟩ | ⟨h2,hs⟩
   · have:=h.fst r hr;omega
   · have:=h.sec _ hs;omega
   · have:=h.blk _ hs;omega
 · rcases (mem_all h.zero x).1 hx with ⟨h2,hf⟩ | ⟨h2,hs⟩ | ⟨h2,hs⟩
   · rcases (mem_all h.zero y).1 hy with ⟨k2,kf⟩ | ⟨k2,ks⟩ | ⟨k2,ks⟩
     · omega
     · rw [e] at hf;exact absurd ks (h.fs _ hf)
     · rw [e] at hf;exact absurd ks (h.fb _ hf)
   · rcases (mem_all h.zero y).1 hy with ⟨k2,kf⟩ | ⟨k2,ks⟩ | ⟨k2,ks⟩
     · rw [← e] at kf;exact absurd hs (h.fs _ kf)
     · omega
     · rw [e] at hs;exact absurd ks (h.sb _ hs)
   · rcases (mem_all h.zero y).1 hy with ⟨k2,kf⟩ | ⟨k2,ks⟩ | ⟨k2,ks⟩
     · rw [← e] at kf;exact absurd hs (h.fb _ kf)
     · rw [← e] at ks;exact absurd hs (h.sb _ ks)
     · omega
 · rw [allTells_all,count_all1 n rs h.zero]
   exact List.nodup_iff_count.1 h.nodup n
theorem useOf_tree {r:RootR} (hr:r ∈ rs) (n:Nat):treeOcc L r.N n≤useOf L rs n:=by
 unfold useOf
 induction rs with
 | nil=>simp at hr
 | cons a l ih=>
   rw [List.map_cons,List.sum_cons]
   rcases List.mem_cons.1 hr with rfl | h
   · omega
   · have:=ih h;omega
theorem use_fst {t:Nat} (h:IsFst rs t):1≤useOf L rs t:=by
 obtain ⟨r,hr,rfl⟩:=h
 have:=useOf_tree (L:=L) hr r.N
 unfold treeOcc at this
 rw [if_pos rfl] at this
 omega
theorem secOcc_tree (L:List Clus) (t j n:Nat) (hj:j<2):secOcc L t j n≤treeOcc L t n:=by
 unfold treeOcc
 have:j=0∨j=1:=by omega
 rcases this with rfl | rfl <;> omega
theorem use_sec {s:Nat} (h:IsSec L rs s):1≤useOf L rs s:=by
 obtain ⟨r,hr,j,hj,h0,e⟩:=h
 have h1:=useOf_tree (L:=L) hr s
 have h2:=secOcc_tree L r.N j s hj
 unfold secOcc at h2
 rw [if_neg h0,hit_one h0 e] at h2
 omega
theorem use_blk {n:Nat} (h:IsBlk L rs n):1≤useOf L rs n:=by
 obtain ⟨s,⟨r,hr,j,hj,h0,e⟩,k,hk,h3,e2⟩:=h
 have h1:=useOf_tree (L:=L) hr n
 have h2:=secOcc_tree L r.N j n hj
 have h4:=sumFrom_ge (f:=fun k=>hit (nm L s k) n) (a:=k) 32 0 (by omega) (by omega)
 unfold secOcc inOcc at h2
 rw [if_neg h0,e] at h2
 simp only [hit_one h3 e2] at h4
 omega
end
structure Shape (L L':List Clus) (rs:List RootR):Prop where
 t1: ∀ r ∈ rs,∀ j,j<32→SameN (nm L' r.N j) (nm L r.N j)
 t2: ∀ s,IsSec L rs s→ ∀ k,k<32→SameN (nm L' s k) (nm L s k)
section
variable {L L' L2:List Clus} {rs:List RootR}
theorem Shape.isSec (h:Shape L L' rs) (s:Nat):IsSec L' rs s↔IsSec L rs s:=by
 constructor
 · rintro ⟨r,hr,j,hj,h0,e⟩
   have:=h.t1 r hr j (by omega)
   exact ⟨r,hr,j,hj,fun x=>h0 (this.1.2 x),by rw [← this.2];exact e⟩
 · rintro ⟨r,hr,j,hj,h0,e⟩
   have:=h.t1 r hr j (by omega)
   exact ⟨r,hr,j,hj,fun x=>h0 (this.1.1 x),by rw [this.2];exact e⟩
theorem Shape.isBlk (h:Shape L L' rs) (n:Nat):IsBlk L' rs n↔IsBlk L rs n:=by
 constructor
 · rintro ⟨s,hs,k,hk,h0,e⟩
   have hs':=(h.isSec s).1 hs
   have:=h.t2 s hs' k hk
   exact ⟨s,hs',k,hk,fun x=>h0 (this.1.2 x),by rw [← this.2];exact e⟩
 · rintro ⟨s,hs,k,hk,h0,e⟩
   have:=h.t2 s hs k hk
   exact ⟨s,(h.isSec s).2 hs,k,hk,fun x=>h0 (this.1.1 x),by rw [this.2];exact e⟩
theorem Shape.of_same (h1: ∀ r ∈ rs,cl L' r.N=cl L r.N) (h2: ∀ s,IsSec L rs s→cl L' s=cl L s):Shape L L' rs:=
 ⟨fun r hr j _=>by unfold nm;rw [h1 r hr];exact SameN.refl _,fun s hs k _=>by unfold nm;rw [h2 s hs];exact SameN.refl _⟩
theorem inOcc_same {s n:Nat} (h: ∀ k,k<32→SameN (nm L' s k) (nm L s k)):inOcc L' s n=inOcc L s n:=
 sumFrom_congr 32 0 fun j _ hj=>(h j (by omega)).hit n
theorem secOcc_same {t j n:Nat} (h:SameN (nm L' t j) (nm L t j)) (h2:nm L t j≠0→ ∀ k,k<32→SameN (nm L' (nm L t j%32768) k) (nm L (nm L t j%32768) k)):secOcc L' t j n=secOcc L t j n:=by
 unfold secOcc
 by_cases e:nm L t j=0
 · rw [if_pos e,if_pos (h.1.2 e)]
 · rw [if_neg e,if_neg (fun x=>e (h.1.1 x)),h.hit n,h.2,inOcc_same (h2 e)]
theorem Shape.tree (h:Shape L L' rs) {r:RootR} (hr:r ∈ rs) (n:Nat):treeOcc L' r.N n=treeOcc L r.N n:=by
 unfold treeOcc
 rw [secOcc_same (h.t1 r hr 0 (by omega)) (fun h0=>h.t2 _ ⟨r,hr,0,by omega,h0,rfl⟩),secOcc_same (h.t1 r hr 1 (by omega)) (fun h0=>h.t2 _ ⟨r,hr,1,by omega,h0,rfl⟩)]
theorem Shape.use (h:Shape L L' rs) (n:Nat):useOf L' rs n=useOf L rs n:=by
 unfold useOf
 rw [List.map_congr_left (fun r hr=>h.tree hr n)]
theorem SoundL.shape (h:SoundL L rs) (hs:Shape L L' rs) (hl:L.length≤L'.length) (hl':L'.length≤256)
   (cnt: ∀ n,n<256→base6 n+useOf L rs n≤countOf L' n) (top: ∀ n,n<256→countOf L' n<255) (none: ∀ n,n<256→L'.length≤n→countOf L' n=0)
   (m1: ∀ r ∈ rs,∀ j,j<2→32768≤nm L' r.N j→countOf L' (nm L' r.N j%32768)=1) (m2: ∀ s,IsSec L rs s→ ∀ k,k<32→32768≤nm L' s k→countOf L' (nm L' s k%32768)=1):SoundL L' rs where
 len:=hl'
 six:=Nat.le_trans h.six hl
 fst:=fun r hr=>⟨(h.fst r hr).1,Nat.lt_of_lt_of_le (h.fst r hr).2 hl⟩
 nodup:=h.nodup
 zero:=fun r hr i h1 h2=>(hs.t1 r hr i h2).1.2 (h.zero r hr i h1 h2)
 sec:=fun s x=>by have:=h.sec s ((hs.isSec s).1 x);omega
 blk:=fun n x=>by have:=h.blk n ((hs.isBlk n).1 x);omega
 fs:=fun t ht x=>h.fs t ht ((hs.isSec t).1 x)
 fb:=fun t ht x=>h.fb t ht ((hs.isBlk t).1 x)
 sb:=fun t ht x=>h.sb t ((hs.isSec t).1 ht) ((hs.isBlk t).1 x)
 cnt:=fun n hn=>by rw [hs.use];exact cnt n hn
 top:=top
 none:=none
 mark1:=m1
 mark2:=fun s x=>m2 s ((hs.isSec s).1 x)
theorem SoundL.untold (h:SoundL L rs) {n:Nat} (hn:n<256) (h0:countOf L n=0): ¬ IsFst rs n∧ ¬ IsSec L rs n∧ ¬ IsBlk L rs n:=by
 have hc:=h.cnt n hn
 refine ⟨fun x=> ?_,fun x=> ?_,fun x=> ?_⟩
 · have:=use_fst (L:=L) x;omega
 · have:=use_sec x;omega
 · have:=use_blk x;omega
theorem SoundL.free_six (h:SoundL L rs) {n:Nat} (hn:n<256) (h0:countOf L n=0):6≤n:=by
 have:=h.cnt n hn
 rw [base6_eq,h0] at this
 by_cases e:n<6
 · rw [if_pos e] at this;omega
 · omega
theorem numAt_same {t b:Nat} (hb:b<64) (h1: ∀ j,j<2→SameN (nm L' t j) (nm L t j)) (h2: ∀ j,j<2→nm L t j≠0→ ∀ k,k<32→SameN (nm L' (nm L t j%32768) k) (nm L (nm L t j%32768) k)):SameN (numAt L' t b) (numAt L t b):=by
 have hj:=h1 (b / 32) (by omega)
 unfold numAt
 by_cases e:num (cl L t) (2*(b / 32))=0
 · rw [if_pos e,if_pos (hj.1.2 e)];exact SameN.refl _
 · rw [if_neg e,if_neg (fun x=>e (hj.1.1 x))]
   have:=h2 (b / 32) (by omega) e (b%32) (by omega)
   have e2:num (cl L' t) (2*(b / 32))%32768=num (cl L t) (2*(b / 32))%32768:=hj.2
   rw [e2];exact this
theorem content_ext {t t':Nat} (h: ∀ b,b<64→blkOf L' t' b=blkOf L t b):contentOf L' t'=contentOf L t:=by
 apply List.ext_getElem?
 intro b
 by_cases hb:b<64
 · rw [contentOf_get _ _ _ hb,contentOf_get _ _ _ hb,h b hb]
 · rw [List.getElem?_eq_none (by rw [contentOf_length];omega),List.getElem?_eq_none (by rw [contentOf_length];omega)]
theorem blkOf_same {t t' b:Nat} (h:SameN (numAt L' t' b) (numAt L t b)) (hc:numAt L t b≠0→cl L' (numAt L t b%32768)=cl L (numAt L t b%32768)):blkOf L' t' b=blkOf L t b:=by
 rw [blkOf_numAt,blkOf_numAt]
 by_cases e:numAt L t b=0
 · rw [if_pos e,if_pos (h.1.2 e)]
 · rw [if_neg e,if_neg (fun x=>e (h.1.1 x)),h.2,hc e]
theorem numAt_isBlk {r:RootR} (hr:r ∈ rs) {b:Nat} (hb:b<64) (h0:numAt L r.N b≠0):IsBlk L rs (numAt L r.N b%32768):=by
 obtain ⟨h1,e⟩:=numAt_ne h0
 exact ⟨_,⟨r,hr,b / 32,by omega,h1,rfl⟩,b%32,by omega,by unfold nm;rw [← e];exact h0,by unfold nm;rw [← e]⟩
theorem Shape.content (h:Shape L L' rs) (hb: ∀ n,IsBlk L rs n→cl L' n=cl L n) {r:RootR} (hr:r ∈ rs):contentOf L' r.N=contentOf L r.N:=
 content_ext fun b hb64=>blkOf_same (numAt_same hb64 (fun j hj=>h.t1 r hr j (by omega)) (fun j hj h0=>h.t2 _ ⟨r,hr,j,hj,h0,rfl⟩)) (fun h0=>hb _ (numAt_isBlk hr hb64 h0))
theorem SoundL.roots {rs':List RootR} (h:SoundL L rs)
   (hr: ∀ r' ∈ rs',(6≤r'.N∧r'.N<L.length)∧ ¬ IsSec L rs r'.N∧ ¬ IsBlk L rs r'.N∧ ∃ r ∈ rs,∀ j,j<32→nm L r'.N j=nm L r.N j)
   (hn:(rs'.map (·.N)).Nodup) (cnt: ∀ n,n<256→base6 n+useOf L rs' n≤countOf L n):SoundL L rs':=by
 have hsec: ∀ s,IsSec L rs' s→IsSec L rs s:=by
   rintro s ⟨r',hr',j,hj,h0,e⟩
   obtain ⟨_,_,_,r,hr1,hs⟩:=hr r' hr'
   rw [hs j (by omega)] at h0 e
   exact ⟨r,hr1,j,hj,h0,e⟩
 have hblk: ∀ n,IsBlk L rs' n→IsBlk L rs n:=fun n ⟨s,hs,x⟩=>⟨s,hsec s hs,x⟩
 refine ⟨h.len,h.six,fun r' hr'=>(hr r' hr').1,hn,fun r' hr' i h1 h2=> ?_,fun s hs=>h.sec s (hsec s hs),fun n hn=>h.blk n (hblk n hn),?_,?_,fun t ht x=>h.sb t (hsec t ht) (hblk t x),cnt,h.top,h.none,fun r' hr' j hj hm=> ?_,fun s hs=>h.mark2 s (hsec s hs)⟩
 · obtain ⟨_,_,_,r,hr1,hs⟩:=hr r' hr'
   rw [hs i h2];exact h.zero r hr1 i h1 h2
 · rintro t ⟨r',hr',rfl⟩ x
   exact (hr r' hr').2.1 (hsec _ x)
 · rintro t ⟨r',hr',rfl⟩ x
   exact (hr r' hr').2.2.1 (hblk _ x)
 · obtain ⟨_,_,_,r,hr1,hs⟩:=hr r' hr'
   rw [hs j (by omega)] at hm ⊢
   exact h.mark1 r hr1 j hj hm
theorem content_copy {t t':Nat} (hs: ∀ j,j<32→nm L t' j=nm L t j):contentOf L t'=contentOf L t:=by
 refine content_ext fun b hb=> ?_
 rw [blkOf_numAt,blkOf_numAt]
 have e:numAt L t' b=numAt L t b:=by
   unfold numAt
   have:=hs (b / 32) (by omega)
   unfold nm at this
   rw [this]
 rw [e]
end
section
variable {L L':List Clus} {rs:List RootR}
theorem use_roots {r r':RootR} (hr:r ∈ rs) (hr':r' ∈ rs) (hne:r.N≠r'.N) (n:Nat):treeOcc L r.N n+treeOcc L r'.N n≤useOf L rs n:=by
 unfold useOf
 induction rs with
 | nil=>simp at hr
 | cons a l ih=>
   rw [List.map_cons,List.sum_cons]
   rcases List.mem_cons.1 hr with e | h
   · rcases List.mem_cons.1 hr' with e' | h'
     · rw [e,e'] at hne;exact absurd rfl hne
     · have:=useOf_tree (L:=L) h' n
       unfold useOf at this
       rw [e];omega
   · rcases List.mem_cons.1 hr' with e' | h'
     · have:=useOf_tree (L:=L) h n
       unfold useOf at this
       rw [e'];omega
     · have:=ih h h';omega
theorem sec_place {s:Nat} (h1:useOf L rs s=1) {r r':RootR} {j j':Nat} (hr:r ∈ rs) (hr':r' ∈ rs) (hj:j<2) (hj':j'<2) (h0:nm L r.N j≠0) (h0':nm L r'.N j'≠0) (e:nm L r.N j%32768=s) (e':nm L r'.N j'%32768=s):r'.N=r.N∧j'=j:=by
 have key: ∀ (x:RootR) (q:Nat),nm L x.N q≠0→nm L x.N q%32768=s→1≤secOcc L x.N q s:=by
   intro x q h0 e
   unfold secOcc
   rw [if_neg h0,hit_one h0 e]
   omega
 have k1:=key r j h0 e
 have k2:=key r' j' h0' e'
 by_cases hN:r'.N=r.N
 · refine ⟨hN,?_⟩
   by_cases hq:j'=j
   · exact hq
   · have:=useOf_tree (L:=L) hr s
     rw [hN] at k2
     unfold treeOcc at this
     have:(j=0∧j'=1)∨(j=1∧j'=0):=by omega
     rcases this with ⟨rfl,rfl⟩ | ⟨rfl,rfl⟩ <;> omega
 · have:=use_roots (L:=L) hr hr' (fun x=>hN x.symm) s
   have:=secOcc_tree L r.N j s hj
   have:=secOcc_tree L r'.N j' s hj'
   omega
theorem use_change {t a b n:Nat} (hn:(rs.map (·.N)).Nodup) (ht:IsFst rs t) (ho: ∀ r ∈ rs,r.N≠t→treeOcc L' r.N n=treeOcc L r.N n) (hc:treeOcc L' t n+a=treeOcc L t n+b):useOf L' rs n+a=useOf L rs n+b:=by
 unfold useOf
 induction rs with
 | nil=>obtain ⟨r,hr,_⟩:=ht;simp at hr
 | cons x l ih=>
   rw [List.map_cons,List.sum_cons,List.map_cons,List.sum_cons]
   rw [List.map_cons,List.nodup_cons] at hn
   by_cases e:x.N=t
   · have:(l.map fun r=>treeOcc L' r.N n)=l.map fun r=>treeOcc L r.N n:=List.map_congr_left fun r hr=>ho r (by simp [hr]) (fun z=>hn.1 (by rw [e,← z];exact List.mem_map.2 ⟨r,hr,rfl⟩))
     rw [this,e];omega
   · have ht':IsFst l t:=by
       obtain ⟨r,hr,hN⟩:=ht
       rcases List.mem_cons.1 hr with z | z
       · rw [z] at hN;exact absurd hN e
       · exact ⟨r,z,hN⟩
     have:=ih hn.2 ht' (fun r hr=>ho r (by simp [hr]))
     rw [ho x (by simp) e];omega
theorem tree_change {t j a b n:Nat} (hj:j<2) (ho: ∀ q,q<2→q≠j→secOcc L' t q n=secOcc L t q n) (hc:secOcc L' t j n+a=secOcc L t j n+b):treeOcc L' t n+a=treeOcc L t n+b:=by
 unfold treeOcc
 have:j=0∨j=1:=by omega
 rcases this with rfl | rfl
 · have:=ho 1 (by omega) (by omega);omega
 · have:=ho 0 (by omega) (by omega);omega
structure PutN (L L':List Clus) (s k x:Nat):Prop where
 len:L'.length=L.length
 now:nm L' s k=x
 oth: ∀ q,q<32→q≠k→nm L' s q=nm L s q
 same: ∀ t,t≠s→cl L' t=cl L t
theorem PutN.count {s k x:Nat} (h:PutN L L' s k x) (hs:6≤s) (n:Nat) (hn:n<256):countOf L' n=countOf L n:=by
 unfold countOf;rw [h.same _ (by omega)]
variable {r:RootR} {j s k n:Nat}
structure BlkIn (L L':List Clus) (rs:List RootR) (r:RootR) (j s k n:Nat):Prop where
 put:PutN L L' s k (n+32768)
 hr:r ∈ rs
 hj:j<2
 hk:k<32
 h0:nm L r.N j≠0
 hs:nm L r.N j%32768=s
 one:countOf L s=1
 nin:6≤n∧n<L.length
 cn:countOf L n=1
 un: ¬ IsFst rs n∧ ¬ IsSec L rs n∧ ¬ IsBlk L rs n
theorem BlkIn.lt {n:Nat} (h:BlkIn L L' rs r j s k n) (hL:L.length≤256):(n+32768)%32768=n:=by have:=h.nin;omega
theorem BlkIn.sec (b:BlkIn L L' rs r j s k n):IsSec L rs s:=⟨r,b.hr,j,b.hj,b.h0,b.hs⟩
theorem BlkIn.use1 (h:SoundL L rs) (b:BlkIn L L' rs r j s k n):useOf L rs s=1:=by
 have h1:=use_sec b.sec
 have h2:=h.sec s b.sec
 have h3:=h.cnt s (by have:=h.len;omega)
 have:=b.one
 omega
theorem BlkIn.fst (h:SoundL L rs) (b:BlkIn L L' rs r j s k n) {r':RootR} (hr':r' ∈ rs):cl L' r'.N=cl L r'.N:=
 b.put.same _ fun e=>h.fs _ ⟨r',hr',e⟩ b.sec
theorem BlkIn.isSec (h:SoundL L rs) (b:BlkIn L L' rs r j s k n) (x:Nat):IsSec L' rs x↔IsSec L rs x:=by
 constructor
 · rintro ⟨r',hr',j',hj',h0,e⟩
   unfold nm at h0 e
   rw [b.fst h hr'] at h0 e
   exact ⟨r',hr',j',hj',h0,e⟩
 · rintro ⟨r',hr',j',hj',h0,e⟩
   refine ⟨r',hr',j',hj',?_,?_⟩
   · unfold nm;rw [b.fst h hr'];exact h0
   · unfold nm;rw [b.fst h hr'];exact e
theorem BlkIn.isBlk (h:SoundL L rs) (b:BlkIn L L' rs r j s k n) (x:Nat) (hx:IsBlk L' rs x):IsBlk L rs x∨x=n:=by
 obtain ⟨s',hs',q,hq,h0,e⟩:=hx
 rw [b.isSec h] at hs'
 by_cases e1:s'=s
 · subst e1
   by_cases e2:q=k
   · subst e2
     rw [b.put.now,b.lt h.len] at e
     exact Or.inr e.symm
   · rw [b.put.oth q hq e2] at h0 e
     exact Or.inl ⟨s',hs',q,hq,h0,e⟩
 · unfold nm at h0 e
   rw [b.put.same s' e1] at h0 e
   exact Or.inl ⟨s',hs',q,hq,h0,e⟩
theorem BlkIn.use (h:SoundL L rs) (b:BlkIn L L' rs r j s k n) (m:Nat):useOf L' rs m+hit (nm L s k) m=useOf L rs m+if n=m then 1 else 0:=by
 have h1:=b.use1 h
 have hn:=b.lt h.len
 have hx:hit (n+32768) m=if n=m then 1 else 0:=by
   unfold hit
   rw [hn]
   by_cases e:n=m
   · rw [if_pos e,if_pos ⟨by omega,e⟩]
   · rw [if_neg e,if_neg (fun z=>e z.2)]
 have hin:inOcc L' s m+hit (nm L s k) m=inOcc L s m+hit (n+32768) m:=by
   have:=sumFrom_one (f:=fun q=>hit (nm L' s q) m) (g:=fun q=>hit (nm L s q) m) (a:=k) 32 0 (by omega) (by have:=b.hk;omega) (fun q _ hq hne=>by rw [b.put.oth q (by omega) hne])
   simp only [b.put.now] at this
   exact this
 have hsec: ∀ r' ∈ rs,∀ q,q<2→(r'.N≠r.N∨q≠j)→secOcc L' r'.N q m=secOcc L r'.N q m:=by
   intro r' hr' q hq hne
   refine secOcc_same ?_ fun h0 k' hk'=> ?_
   · unfold nm;rw [b.fst h hr'];exact SameN.refl _
   · unfold nm
     rw [b.put.same]
     · exact SameN.refl _
     · intro e
       have:=sec_place h1 b.hr hr' b.hj hq b.h0 h0 b.hs e
       omega
 have hat:secOcc L' r.N j m+hit (nm L s k) m=secOcc L r.N j m+hit (n+32768) m:=by
   have e:nm L' r.N j=nm L r.N j:=by unfold nm;rw [b.fst h b.hr]
   unfold secOcc
   rw [e,if_neg b.h0,if_neg b.h0,b.hs]
   omega
 rw [← hx]
 exact use_change h.nodup ⟨r,b.hr,rfl⟩ (fun r' hr' hne=>by
   unfold treeOcc
   rw [hsec r' hr' 0 (by omega) (Or.inl hne),hsec r' hr' 1 (by omega) (Or.inl hne)]) (tree_change b.hj (fun q hq hne=>hsec r b.hr q hq (Or.inr hne)) hat)
theorem BlkIn.sound (h:SoundL L rs) (b:BlkIn L L' rs r j s k n):SoundL L' rs:=by
 have h6:=(h.sec s b.sec).1
 have hc:=fun m hm=>b.put.count h6 m hm
 have hlen:=h.len
 refine ⟨by rw [b.put.len];exact h.len,by rw [b.put.len];exact h.six,fun r' hr'=>by rw [b.put.len];exact h.fst r' hr',h.nodup,fun r' hr' i h1 h2=> ?_,fun x hx=> ?_,fun x hx=> ?_,fun t ht x=>h.fs t ht ((b.isSec h t).1 x),fun t ht x=> ?_,fun t ht x=> ?_,fun m hm=> ?_,fun m hm=>by rw [hc m hm];exact h.top m hm,fun m hm hl=>by rw [hc m hm];exact h.none m hm (by rw [← b.put.len];exact hl),fun r' hr' q hq hm=> ?_,fun x hx q hq hm=> ?_⟩
 · unfold nm;rw [b.fst h hr'];exact h.zero r' hr' i h1 h2
 · rw [b.put.len];exact h.sec x ((b.isSec h x).1 hx)
 · rw [b.put.len]
   rcases b.isBlk h x hx with y | y
   · exact h.blk x y
   · rw [y];exact b.nin
 · rcases b.isBlk h t x with y | y
   · exact h.fb t ht y
   · rw [y] at ht;exact b.un.1 ht
 · rcases b.isBlk h t x with y | y
   · exact h.sb t ((b.isSec h t).1 ht) y
   · rw [y] at ht;exact b.un.2.1 ((b.isSec h n).1 ht)
 · rw [hc m hm]
   have h1:=b.use h m
   have h2:=h.cnt m hm
   by_cases e:n=m
   · subst e
     rw [if_pos rfl] at h1
     have h3:useOf L rs n=0:=by
       by_cases z:useOf L rs n=0
       · exact z
       · exfalso
         have h4:0<useOf L rs n:=by omega
         rw [← occ_allTells h.zero] at h4
         unfold occ at h4
         obtain ⟨y,hy,e⟩:=List.mem_map.1 (List.count_pos_iff.1 h4)
         rcases (mem_all h.zero y).1 hy with ⟨_,k1⟩ | ⟨_,k1⟩ | ⟨_,k1⟩
         · rw [e] at k1;exact b.un.1 k1
         · rw [e] at k1;exact b.un.2.1 k1
         · rw [e] at k1;exact b.un.2.2 k1
     have:=b.cn
     have:=b.nin
     rw [base6_eq,if_neg (by omega)]
     omega
   · rw [if_neg e] at h1;omega
 · have e:nm L' r'.N q=nm L r'.N q:=by unfold nm;rw [b.fst h hr']
   rw [e] at hm ⊢
   have hx:=h.sec _ ⟨r',hr',q,hq,by omega,rfl⟩
   rw [hc _ (by omega)]
   exact h.mark1 r' hr' q hq hm
 · rw [b.isSec h] at hx
   by_cases e1:x=s
   · subst e1
     by_cases e2:q=k
     · subst e2
       rw [b.put.now,b.lt h.len,hc n (by have:=b.nin;omega)]
       exact b.cn
     · rw [b.put.oth q hq e2] at hm ⊢
       have hy:=h.blk _ ⟨x,hx,q,hq,by omega,rfl⟩
       rw [hc _ (by omega)]
       exact h.mark2 x hx q hq hm
   · have e:nm L' x q=nm L x q:=by unfold nm;rw [b.put.same x e1]
     rw [e] at hm ⊢
     have hy:=h.blk _ ⟨x,hx,q,hq,by omega,rfl⟩
     rw [hc _ (by omega)]
     exact h.mark2 x hx q hq hm
theorem BlkIn.content (h:SoundL L rs) (b:BlkIn L L' rs r j s k n) {r':RootR} (hr':r' ∈ rs):
   contentOf L' r'.N=if r'.N=r.N then (contentOf L r'.N).set (32*j+k) (cl L n) else contentOf L r'.N:=by
 have h1:=b.use1 h
 have hsn:n≠s:=fun e=>b.un.2.1 (by rw [e];exact b.sec)
 have hbl: ∀ x,IsBlk L rs x→cl L' x=cl L x:=fun x hx=>b.put.same x fun e=>h.sb s b.sec (by rw [← e];exact hx)
 have hn:cl L' n=cl L n:=b.put.same n hsn
 have hj:=b.hj
 have hk:=b.hk
 have key: ∀ c,c<64→(r'.N≠r.N∨c≠32*j+k)→blkOf L' r'.N c=blkOf L r'.N c:=by
   intro c hc hne
   have e:numAt L' r'.N c=numAt L r'.N c:=by
     unfold numAt
     rw [b.fst h hr']
     by_cases h0:num (cl L r'.N) (2*(c / 32))=0
     · rw [if_pos h0,if_pos h0]
     · rw [if_neg h0,if_neg h0]
       by_cases e1:num (cl L r'.N) (2*(c / 32))%32768=s
       · have:=sec_place h1 b.hr hr' b.hj (by omega) b.h0 h0 b.hs e1
         rw [e1]
         exact b.put.oth (c%32) (by omega) (by omega)
       · rw [b.put.same _ e1]
   exact blkOf_same (by rw [e];exact SameN.refl _) (fun h0=>hbl _ (numAt_isBlk hr' hc h0))
 by_cases e:r'.N=r.N
 · rw [if_pos e]
   apply List.ext_getElem?
   intro c
   rw [List.getElem?_set]
   by_cases hc:c<64
   · by_cases e2:32*j+k=c
     · rw [if_pos e2,if_pos (by rw [contentOf_length];omega),contentOf_get _ _ _ hc,blkOf_numAt]
       have e3:numAt L' r'.N c=n+32768:=by
         unfold numAt
         rw [b.fst h hr',e,show c / 32=j by omega,show c%32=k by omega,if_neg b.h0]
         have:=b.put.now
         unfold nm at this
         have hs:=b.hs
         unfold nm at hs
         rw [hs];exact this
       rw [e3,if_neg (by omega),b.lt h.len,hn]
     · rw [if_neg e2,contentOf_get _ _ _ hc,contentOf_get _ _ _ hc,key c hc (Or.inr (fun z=>e2 z.symm))]
   · rw [if_neg (by omega),List.getElem?_eq_none (by rw [contentOf_length];omega),List.getElem?_eq_none (by rw [contentOf_length];omega)]
 · rw [if_neg e]
   exact content_ext fun c hc=>key c hc (Or.inl e)
end
end Go.Proofs.YtknjjjenklfeoaaGreatDoor
