import Derived.Test.YtknjjjenklfeoaaGreatDoorC24
set_option maxHeartbeats 8000000
set_option maxRecDepth 100000
namespace Go.Proofs.YtknjjjenklfeoaaGreatDoor
open Go.RowKit
def cnt7:Clus:=List.replicate 7 1++List.replicate 57 0
def newC:List Clus:=[headBytes 7 6,cnt7,zc,zc,zc,zc,zc]
theorem newV_C:newV.C=newC:=by kernel_rfl
theorem new_counts: ∀ n:Fin 256,countOf newC n.val=(if n.val<6 then 1 else 0)+(if n.val=6 then 1 else 0):=by decide +kernel
theorem new_zero: ∀ i:Fin 32,num (cl newC 6) (2*i.val)=0:=by decide +kernel
theorem new_list:cl newC 5=listBytes []:=by kernel_rfl
theorem new_content:contentOf newC 6=List.replicate 64 zc:=by kernel_rfl
theorem new_lens: ∀ c ∈ newC,c.length=64:=by decide +kernel
theorem ents_nil:EntsOK []:=⟨by decide,fun e he=>(by cases he),List.nodup_nil⟩
theorem new_root {r:RootR} (h:r ∈ rsOf 6 []):r.N=6:=by
 rcases rsOf_mem.1 h with x | ⟨e,he,_⟩
 · rw [x]
 · cases he
theorem new_nosec (s:Nat): ¬ IsSec newC (rsOf 6 []) s:=by
 rintro ⟨r,hr,j,hj,h0,_⟩
 rw [new_root hr] at h0
 exact h0 (new_zero ⟨j,by omega⟩)
theorem new_noblk (s:Nat): ¬ IsBlk newC (rsOf 6 []) s:=fun ⟨x,hx,_⟩=>new_nosec x hx
theorem new_use (n:Nat):useOf newC (rsOf 6 []) n=if n=6 then 1 else 0:=by
 have h0:nm newC 6 0=0:=new_zero ⟨0,by omega⟩
 have h1:nm newC 6 1=0:=new_zero ⟨1,by omega⟩
 show treeOcc newC 6 n+0=_
 unfold treeOcc secOcc
 rw [if_pos h0,if_pos h1]
 by_cases e:n=6
 · rw [if_pos e.symm,if_pos e]
 · rw [if_neg (fun z=>e z.symm),if_neg e]
theorem new_sound:SoundL newC (rsOf 6 []):=by
 refine ⟨by decide,by decide,fun r hr=>by rw [new_root hr];decide,by decide,fun r hr i _ h2=>by rw [new_root hr];exact new_zero ⟨i,h2⟩,fun s hs=>absurd hs (new_nosec s),fun n hn=>absurd hn (new_noblk n),fun t _ hs=>new_nosec t hs,fun t _ hs=>new_noblk t hs,fun t hs=>absurd hs (new_nosec t),fun n hn=> ?_,fun n hn=> ?_,fun n hn hl=> ?_,fun r hr j hj hm=> ?_,fun s hs=>absurd hs (new_nosec s)⟩
 · rw [base6_eq,new_use,new_counts ⟨n,hn⟩]
   exact Nat.le_refl _
 · rw [new_counts ⟨n,hn⟩];split <;> split <;> omega
 · have:newC.length=7:=rfl
   rw [new_counts ⟨n,hn⟩,if_neg (by simp only;omega),if_neg (by simp only;omega)]
 · rw [new_root hr] at hm
   have h0:nm newC 6 j=0:=new_zero ⟨j,by omega⟩
   omega
theorem new_exact:ExactS newC (rsOf 6 []):=
 ⟨fun n hn=>by rw [base6_eq,new_use,new_counts ⟨n,hn⟩],fun r hr j hj h0=>absurd (by rw [new_root hr];exact new_zero ⟨j,by omega⟩) h0,fun s hs=>absurd hs (new_nosec s)⟩
theorem new_vol:Vol [] newV 6 []:=by
 refine ⟨?_,by rw [newV_C];exact new_sound,new_loose,logged_new⟩
 rw [newV_C]
 exact ⟨new_lens,by decide,Nat.le_refl _,by decide,by decide,by decide,rfl,new_list,ents_nil⟩
def zDisk:DiskR:=⟨List.replicate 64 zc,[]⟩
theorem new_disk:dskOf newV.C 6 []=zDisk:=by
 rw [newV_C]
 unfold dskOf
 rw [new_content]
 rfl
theorem new_exactV:ExactS newV.C (rsOf 6 []):=by rw [newV_C];exact new_exact
theorem new_logL:newV.L.length≤20:=by
 have:newV.L.length=9:=by kernel_rfl
 omega
theorem puts_lenL (ps:List (Nat × Clus)): ∀ V:VolR,(puts V ps).L.length≤V.L.length+2*ps.length:=by
 induction ps with
 | nil=>intro V;exact Nat.le_refl _
 | cons x r ih=>
   intro V
   have h1:=putV_lenL V x.1 x.2
   have h2:=ih (putV V x.1 x.2)
   rw [puts_cons]
   simp only [List.length_cons]
   omega
theorem epoch_lenL (V:VolR) (ps:List (Nat × Clus)):(epoch V ps).L.length≤V.L.length+2*ps.length+1:=by
 have h1:=puts_lenL ps V
 have h2:=flushV_lenL (puts V ps)
 unfold epoch
 omega
theorem lengthenV_lenL' (V:VolR) (F:List Nat):(lengthenV V F).L.length≤V.L.length+3:=by
 unfold lengthenV
 split
 · have h1:=putV_lenL V 0 (headBytes (lastOf F+1) (num (cl V.C 0) 6))
   have h2:=flushV_lenL (putV V 0 (headBytes (lastOf F+1) (num (cl V.C 0) 6)))
   omega
 · omega
theorem claimV_lenL' (V:VolR) (F:List Nat):(claimV V F).L.length≤V.L.length+11:=by
 rw [claimV_puts]
 have h1:=puts_lenL (cntPuts (ones (cntsOf (lengthenV V F).C) F)) (lengthenV V F)
 have h2:=lengthenV_lenL' V F
 have:(cntPuts (ones (cntsOf (lengthenV V F).C) F)).length=4:=rfl
 omega
theorem letGoV1_lenL (V:VolR) (us:List Nat):(letGoV1 V us).L.length≤V.L.length+9:=by
 rw [letGoV1_epoch]
 have:=epoch_lenL V (cntPuts (minus (cntsOf V.C) us))
 have h:(cntPuts (minus (cntsOf V.C) us)).length=4:=rfl
 omega
theorem firstsOf_len (V:VolR):(firstsOf V).length≤5:=by
 unfold firstsOf picFirsts
 have:=lenOf_le (entsOf (cl V.C 5))
 simp
 omega
theorem wnbV_lenL' (V:VolR) (p:PlaceR) (data:Clus):(wnbV V p data).L.length≤V.L.length+20:=by
 have h1:=claimV_lenL' V (lowFree (cntsOf V.C) 1)
 have h2:=putV_lenL (claimV V (lowFree (cntsOf V.C) 1)) ((lowFree (cntsOf V.C) 1).getD 0 0) data
 have h3:=flushV_lenL (putV (claimV V (lowFree (cntsOf V.C) 1)) ((lowFree (cntsOf V.C) 1).getD 0 0) data)
 have h4:=fun c=>putV_lenL (wnb1 V data) (p.second%32768) c
 have h5:=fun W=>flushV_lenL W
 unfold wnbV putNumV
 have h6:=h4 (bytesOf ((numsOf (cl (wnb1 V data).C (p.second%32768))).set p.inSecond ((lowFree (cntsOf V.C) 1).getD 0 0+32768)))
 have h7:=h5 (putV (wnb1 V data) (p.second%32768) (bytesOf ((numsOf (cl (wnb1 V data).C (p.second%32768))).set p.inSecond ((lowFree (cntsOf V.C) 1).getD 0 0+32768))))
 have h8:(wnb1 V data).L.length≤V.L.length+14:=by unfold wnb1;omega
 omega
theorem wntV_lenL' (V:VolR) (p:PlaceR) (data:Clus):(wntV V p data).L.length≤V.L.length+20:=by
 have h1:=claimV_lenL' V (lowFree (cntsOf V.C) 2)
 have h2:=putV_lenL (claimV V (lowFree (cntsOf V.C) 2)) ((lowFree (cntsOf V.C) 2).getD 0 0) (bytesOf (wntT V p))
 have h2':=putV_lenL (putV (claimV V (lowFree (cntsOf V.C) 2)) ((lowFree (cntsOf V.C) 2).getD 0 0) (bytesOf (wntT V p))) ((lowFree (cntsOf V.C) 2).getD 1 0) data
 have h3:=flushV_lenL (putV (putV (claimV V (lowFree (cntsOf V.C) 2)) ((lowFree (cntsOf V.C) 2).getD 0 0) (bytesOf (wntT V p))) ((lowFree (cntsOf V.C) 2).getD 1 0) data)
 have h8:(wnt1 V p data).L.length≤V.L.length+16:=by unfold wnt1;omega
 have h6:=putV_lenL (wnt1 V p data) p.first (bytesOf ((numsOf (cl (wnt1 V p data).C p.first)).set p.inFirst ((lowFree (cntsOf V.C) 2).getD 0 0+32768)))
 have h7:=flushV_lenL (putV (wnt1 V p data) p.first (bytesOf ((numsOf (cl (wnt1 V p data).C p.first)).set p.inFirst ((lowFree (cntsOf V.C) 2).getD 0 0+32768))))
 unfold wntV putNumV
 omega
section
variable {base:List Clus} {V:VolR} {N0:Nat} {E:List EntR} {n:Int} {data:Clus}
theorem Ok.lets {W:VolR} {T:Nat} {D:DiskR} (h:Ok W.C T N0 E D) (hT:W.C.length=T) (hL:W.L.length≤600000000) (ns:List Nat) (hns: ∀ m ∈ ns,m<65536∧m%32768<256) (hnl:ns.length≤100) (hl:Lets W N0 E (toldBy ns)) (v:Nat):LetsGo v W (letGoV W (toldBy ns)) ns:=by
 have h7:=h.file.seven
 obtain ⟨a1,a2,_,_⟩:=h.letGo1 hT hl
 have s1:=a1.sound
 rw [padTo_self a2] at s1
 intro X C1 L1 bx bs hV hbx hbs hf
 exact letsGo_any v W (by omega) (by rw [hT];exact h.file.most) hL ns hns hnl (fun f hf=>by rw [a1.firsts] at hf;exact s1.firstOK hf) X C1 L1 bx bs hV hbx hbs hf
theorem Vol.numB (h:Vol base V N0 E) {b:Nat} (hb:b<64):numAt V.C N0 b<65536∧numAt V.C N0 b%32768<256:=by
 have hm:=h.file.most
 refine ⟨by unfold numAt;split;omega;exact num_lt _ _,?_⟩
 by_cases h0:numAt V.C N0 b=0
 · rw [h0];decide
 · have:=h.sound.blk _ (numAt_isBlk (r:=⟨N0,0,[]⟩) (by simp [rsOf]) hb h0)
   simp only at this
   omega
theorem Vol.numS (h:Vol base V N0 E) {j:Nat} (hj:j<2):nm V.C N0 j<65536∧nm V.C N0 j%32768<256:=by
 have hm:=h.file.most
 refine ⟨num_lt _ _,?_⟩
 by_cases h0:nm V.C N0 j=0
 · rw [h0];decide
 · have:=h.sound.sec (nm V.C N0 j%32768) ⟨⟨N0,0,[]⟩,by simp [rsOf],j,hj,h0,rfl⟩
   omega
theorem Vol.diskWrite (h:Vol base V N0 E) {w:World} {d v:Nat} {Cv Lv:Value} (hw:DskAt w d v Cv Lv V) (hL:V.L.length≤500000000) (n:Int) (hd:data.length=64):
   Calls Tryz.prog 26 #[.pointer (some ⟨d,0,none⟩),.int .i64 n,.agg (cv data).toArray] w fun e w'=>e= .returned (.int .i64 ((writeV V n data).2:Nat))∧ ∃ C1 L1,VStep w w' v Cv Lv C1 L1 (writeV V n data).1:=by
 have h7:=h.file.seven
 have hr0:(⟨N0,0,[]⟩:RootR) ∈ rsOf N0 E:=by simp [rsOf]
 refine diskWrite_any w d v Cv Lv V _ _ hw (by omega) h.file.most hL n data hd (by rw [h.file.num6];exact h.sound.inFile hr0) (fun hb h2 hf=> ?_) (fun hb h2 h3 hf=> ?_)
 · obtain ⟨s,n',hF,hsn,hn,h0,h1⟩:=lowFree_two hf
   rw [byteAt_cnts h.file.lens (by omega) _ (by omega)] at h0 h1
   have hlt:=blockB_lt hb
   rw [h.place n]
   obtain ⟨e,c1,c2,_⟩:=h.tab3 hlt hF hsn hn h0 h1 hd
   have hl:=(h.writeTable hlt hF hsn hn h0 h1 hd).1
   have hlen:=wntV_lenL' V (findR V.C N0 n.toNat) data
   refine c1.lets c2 (by omega) _ (fun m hm=> ?_) (by simp) hl v
   simp only [List.mem_cons,List.not_mem_nil,or_false] at hm
   rcases hm with rfl | rfl
   · exact h.numS (by omega)
   · exact h.numB hlt
 · obtain ⟨n',hF,hn,h0⟩:=lowFree_one hf
   rw [byteAt_cnts h.file.lens (by omega) _ (by omega)] at h0
   have hlt:=blockB_lt hb
   rw [h.place n] at h2 ⊢
   obtain ⟨e,c1,c2,_⟩:=h.blk3 hlt hF hn h0 hd h2
   have hl:=(h.writeBlock hlt hF hn h0 hd h2).1
   have hlen:=wnbV_lenL' V (findR V.C N0 n.toNat) data
   refine c1.lets c2 (by omega) _ (fun m hm=> ?_) (by simp) hl v
   rw [List.mem_singleton.1 hm]
   exact h.numB hlt
theorem Vol.read (h:Vol base V N0 E) (n:Int):blkRead V.C (num (cl V.C 0) 6) n=if blockB n then (cl (dskOf V.C N0 E).C n.toNat,0) else (zc,1):=by
 unfold blkRead
 rw [h.file.num6]
 by_cases hb:blockB n=true
 · rw [if_pos hb,if_pos hb]
   have e:blkOf V.C N0 n.toNat=cl (dskOf V.C N0 E).C n.toNat:=by
     unfold dskOf cl
     rw [List.getD_eq_getElem?_getD,contentOf_get _ _ _ (blockB_lt hb)]
     rfl
   rw [e]
 · rw [if_neg hb,if_neg hb]
end
theorem toldBy_few (c:Clus) (h: ∀ i,1<i→i<32→num c (2*i)=0):(toldBy (numsOf c)).length≤2:=by
 have e:numsOf c=[num c 0,num c 2]++(List.range 30).map (fun i=>num c (2*(i+2))):=by
   apply List.ext_getElem?
   intro i
   unfold numsOf
   rw [List.getElem?_map]
   by_cases hi:i<32
   · rw [List.getElem?_range hi]
     match i,hi with
     | 0,_=>rfl
     | 1,_=>rfl
     | k+2,hk=>rw [List.getElem?_append_right (by simp),List.getElem?_map,List.getElem?_range (by simp;omega)];simp
   · rw [List.getElem?_eq_none (by simpa using hi),List.getElem?_eq_none (by simp;omega)];rfl
 unfold toldBy
 rw [List.length_map,e,List.filter_append,List.length_append]
 have e2:((List.range 30).map (fun i=>num c (2*(i+2)))).filter (· != 0)=[]:=by
   rw [List.filter_eq_nil_iff]
   intro a ha
   obtain ⟨i,hi,rfl⟩:=List.mem_map.1 ha
   have:=List.mem_range.1 hi
   rw [h (i+2) (by omega) (by omega)]
   decide
 rw [e2]
 have:=List.length_filter_le (· != 0) [num c 0,num c 2]
 simp only [List.length_cons,List.length_nil] at this ⊢
 omega
section
variable {base:List Clus} {V:VolR} {T N0:Nat} {E:List EntR} {D:DiskR}
theorem Ok.lone_len (h:Ok V.C T N0 E D) (hT:V.C.length=T):(loneList (cntsOf V.C) V.C (firstsOf V)).length≤15:=by
 have hs:=h.sound
 rw [h.padV hT] at hs
 have h5:=firstsOf_len V
 have key: ∀ fs:List Nat,(∀ f ∈ fs,f ∈ (rsOf N0 E).map (·.N))→(loneList (cntsOf V.C) V.C fs).length≤3*fs.length:=by
   intro fs
   induction fs with
   | nil=>intro _;exact Nat.le_refl _
   | cons f r ih=>
     intro hf
     have hi:=ih (fun x hx=>hf x (by simp [hx]))
     obtain ⟨r0,hr0,e0⟩:=List.mem_map.1 (hf f (by simp))
     have h2:=toldBy_few (cl V.C f) (fun i h1 h2=>by rw [← e0];exact hs.zero r0 hr0 i h1 h2)
     unfold loneList at hi ⊢
     rw [List.flatMap_cons,List.length_append,List.length_map,List.length_cons,List.length_cons]
     omega
 have:=key (firstsOf V) (fun f hf=>by rw [h.firsts] at hf;exact hf)
 omega
theorem Ok.letGo_lenL {us:List Nat} (h:Ok V.C T N0 E D) (hT:V.C.length=T) (hl:Lets V N0 E us):(letGoV V us).L.length≤V.L.length+40:=by
 obtain ⟨a1,a2,_,_⟩:=h.letGo1 hT hl
 have h1:=letGoV1_lenL V us
 have h2:=a1.lone_len a2
 have h3:=puts_lenL (loneList (cntsOf (letGoV1 V us).C) (letGoV1 V us).C (firstsOf (letGoV1 V us))) (letGoV1 V us)
 have h4:=flushV_lenL (markLoneV (letGoV1 V us))
 have h5:(markLoneV (letGoV1 V us)).L.length≤(letGoV1 V us).L.length+30:=by rw [a1.markLone a2];omega
 unfold letGoV
 omega
theorem Vol.write_lenL {data:Clus} (h:Vol base V N0 E) (n:Int) (hd:data.length=64):(writeV V n data).1.L.length≤V.L.length+60:=by
 have h7:=h.file.seven
 unfold writeV writeR
 by_cases hb:blockB n=true
 · have hlt:=blockB_lt hb
   rw [if_neg (by rw [hb];decide),h.place n]
   obtain ⟨p1,p2,p3,p4,p5⟩:=placed (V:=V) (N0:=N0) n.toNat
   rw [p1,p2]
   by_cases h2:nm V.C N0 (n.toNat / 32)<32768
   · rw [if_pos h2]
     by_cases hf:2≤(lowFree (cntsOf V.C) 2).length
     · rw [if_pos hf]
       obtain ⟨s,n',hF,hsn,hn,h0,h1⟩:=lowFree_two hf
       rw [byteAt_cnts h.file.lens (by omega) _ (by omega)] at h0 h1
       obtain ⟨e,c1,c2,_⟩:=h.tab3 hlt hF hsn hn h0 h1 hd
       have hl:=c1.letGo_lenL c2 (h.writeTable hlt hF hsn hn h0 h1 hd).1
       have hw:=wntV_lenL' V (findR V.C N0 n.toNat) data
       generalize letGoV (wntV V (findR V.C N0 n.toNat) data) (toldBy [nm V.C N0 (n.toNat / 32),numAt V.C N0 n.toNat])=W at*
       dsimp only
       omega
     · rw [if_neg hf];dsimp only;omega
   · rw [if_neg h2]
     by_cases h3:numAt V.C N0 n.toNat<32768
     · rw [if_pos h3]
       by_cases hf:0<(lowFree (cntsOf V.C) 1).length
       · rw [if_pos hf]
         obtain ⟨n',hF,hn,h0⟩:=lowFree_one hf
         rw [byteAt_cnts h.file.lens (by omega) _ (by omega)] at h0
         obtain ⟨e,c1,c2,_⟩:=h.blk3 hlt hF hn h0 hd (by omega)
         have hl:=c1.letGo_lenL c2 (h.writeBlock hlt hF hn h0 hd (by omega)).1
         have hw:=wnbV_lenL' V (findR V.C N0 n.toNat) data
         generalize letGoV (wnbV V (findR V.C N0 n.toNat) data) (toldBy [numAt V.C N0 n.toNat])=W at*
         dsimp only
         omega
       · rw [if_neg hf];dsimp only;omega
     · rw [if_neg h3]
       have h4:=putV_lenL V (numAt V.C N0 n.toNat%32768) data
       have h5:=flushV_lenL (putV V (numAt V.C N0 n.toNat%32768) data)
       dsimp only
       omega
 · have hb':blockB n=false:=by simpa using hb
   rw [if_pos hb'];dsimp only;omega
end
end Go.Proofs.YtknjjjenklfeoaaGreatDoor
