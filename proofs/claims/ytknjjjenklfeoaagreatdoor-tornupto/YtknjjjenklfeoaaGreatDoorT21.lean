import Derived.Test.YtknjjjenklfeoaaGreatDoorT20
set_option maxHeartbeats 8000000
set_option maxRecDepth 100000
namespace Go.Proofs.YtknjjjenklfeoaaGreatDoor
open Go.RowKit
section
variable {base:List Clus} {V:VolR} {N0:Nat} {E:List EntR} {b:Nat} {data:Clus}
theorem set_num (T:List Nat) (hT: ∀ i,T.getD i 0<65536) (hl:T.length=32) (i x q:Nat) (hx:x<65536) (hq:q<32):num (bytesOf (T.set i x)) (2*q)=if i=q then x else T.getD q 0:=by
 have hg: ∀ j,(T.set i x).getD j 0=if i=j∧j<32 then x else T.getD j 0:=fun j=>by
   rw [List.getD_eq_getElem?_getD,List.getElem?_set,hl]
   by_cases e:i=j
   · subst e
     by_cases hj:i<32
     · rw [if_pos rfl,if_pos hj,if_pos ⟨rfl,hj⟩];rfl
     · rw [if_pos rfl,if_neg hj,if_neg (fun z=>hj z.2),List.getD_eq_getElem?_getD,List.getElem?_eq_none (by omega)]
   · rw [if_neg e,if_neg (fun z=>e z.1),List.getD_eq_getElem?_getD]
 rw [num_bytesOf _ (fun j=>by rw [hg j];split;exact hx;exact hT j) q hq,hg q]
 by_cases e:i=q
 · rw [if_pos ⟨e,hq⟩,if_pos e]
 · rw [if_neg (fun z=>e z.1),if_neg e]
theorem count_toldBy (ns:List Nat) (m:Nat):(toldBy ns).count m=(ns.map fun x=>hit x m).sum:=by
 induction ns with
 | nil=>rfl
 | cons x r ih=>
   rw [List.map_cons,List.sum_cons,← ih]
   unfold toldBy
   rw [List.filter_cons]
   by_cases e:x=0
   · rw [if_neg (by simp [e]),e,hit_zero];omega
   · rw [if_pos (by simpa using e),List.map_cons,List.count_cons]
     unfold hit
     by_cases e2:x%32768=m
     · have e3:(x%32768 == m)=true:=by simpa using e2
       rw [e3,if_pos rfl,if_pos ⟨e,e2⟩];omega
     · have e3:(x%32768 == m)=false:=by simpa using e2
       rw [e3,if_neg (by decide),if_neg (fun z=>e2 z.2)];omega
theorem claimV_puts (V:VolR) (F:List Nat):claimV V F=puts (lengthenV V F) (cntPuts (ones (cntsOf (lengthenV V F).C) F)):=by unfold claimV;exact putCnt_puts _ _
theorem puts_one (V:VolR) (x:Nat × Clus):puts V [x]=putV V x.1 x.2:=rfl
theorem puts_two (V:VolR) (x y:Nat × Clus):puts V [x,y]=putV (putV V x.1 x.2) y.1 y.2:=rfl
theorem lastOf_one (n:Nat):lastOf [n]=n:=rfl
theorem lastOf_two (s n:Nat):lastOf [s,n]=n:=rfl
theorem putN_of {C:List Clus} {T s k x:Nat} (hl:C.length=T) (hs:s<T) (hk:k<32) (hx:x<65536):PutN C (putsC C [(s,bytesOf ((numsOf (cl C s)).set k x))]) s k x:=by
 have hF:putsC C [(s,bytesOf ((numsOf (cl C s)).set k x))]=putC C (s,bytesOf ((numsOf (cl C s)).set k x)):=rfl
 have hlen:(putC C (s,bytesOf ((numsOf (cl C s)).set k x))).length=C.length:=by rw [putC_length];simp only;omega
 have hat:cl (putC C (s,bytesOf ((numsOf (cl C s)).set k x))) s=bytesOf ((numsOf (cl C s)).set k x):=by rw [← vw_at (by omega),vw_putC,if_pos rfl]
 rw [hF]
 refine ⟨hlen,?_,fun q hq hne=> ?_,fun t ht=> ?_⟩
 · unfold nm;rw [hat,set_num _ (numsOf_lt _) (numsOf_length _) _ _ _ hx hk,if_pos rfl]
 · unfold nm;rw [hat,set_num _ (numsOf_lt _) (numsOf_length _) _ _ _ hx hq,if_neg (fun e=>hne e.symm),numsOf_get _ _ hq]
 · by_cases htl:t<C.length
   · rw [← vw_at (by omega),vw_putC,if_neg (fun e=>ht e.symm),vw_at htl]
   · rw [cl_past (by omega),cl_past (by omega)]
theorem FileE.put1 {C:List Clus} {T:Nat} (h:FileE C T N0 E) {s:Nat} {c:Clus} (h1:s<T) (h2:s≠0) (h3:s≠5) (hc:c.length=64):FileE (putsC C [(s,c)]) T N0 E:=
 h.puts _ (fun x hx=>by rw [List.mem_singleton.1 hx];exact ⟨h1,h2,h3,hc⟩)
structure Wrote (base:List Clus) (V V':VolR) (N0:Nat) (E:List EntR) (D':DiskR):Prop where
 vol:Vol base V' N0 E
 holds:dskOf V'.C N0 E=D'
 exact:ExactS V.C (rsOf N0 E)→ExactS V'.C (rsOf N0 E)
theorem Vol.count1 (h:Vol base V N0 E) (F:List Nat) (hF:lastOf F<256) (m:Nat) (hm:m<256):countOf (lengthenV V F).C m=countOf V.C m:=by
 unfold countOf
 rw [(h.longer F hF).2.2.2.1 _ (by omega)]
theorem Vol.blk1 (h:Vol base V N0 E) {n:Nat} (hF:lowFree (cntsOf V.C) 1=[n]) (hn:n<256) (h0:countOf V.C n=0) (hd:data.length=64):
   wnb1 V data=epoch (lengthenV V [n]) (cntPuts (ones (cntsOf (lengthenV V [n]).C) [n])++[(n,data)])∧Ok (wnb1 V data).C (lenTo V.C [n]) N0 E (dskOf V.C N0 E)∧(wnb1 V data).C.length=lenTo V.C [n]∧
     (∀ m,m<256→countOf (wnb1 V data).C m=if m=n then 1 else countOf V.C m)∧cl (wnb1 V data).C n=data∧(∀ t,5≤t→t<V.C.length→t≠n→cl (wnb1 V data).C t=cl V.C t)∧Shape V.C (wnb1 V data).C (rsOf N0 E):=by
 obtain ⟨a1,a2,a3,a4,a5⟩:=h.longer [n] (by rw [lastOf_one];exact hn)
 have hc:=fun m hm=>h.count1 [n] (by rw [lastOf_one];exact hn) m hm
 have e:wnb1 V data=epoch (lengthenV V [n]) (cntPuts (ones (cntsOf (lengthenV V [n]).C) [n])++[(n,data)]):=by
   unfold wnb1
   rw [hF]
   unfold epoch
   rw [puts_append,← claimV_puts,puts_one]
   simp only [List.getD_cons_zero]
 have hT:lenTo V.C [n]=max V.C.length (n+1):=rfl
 have h6:=h.sound.free_six hn h0
 obtain ⟨b1,b2,b3,b4,b5,b6⟩:=a1.claimed [n] (fun m hm=>by rw [List.mem_singleton.1 hm];exact ⟨by omega,by rw [hc n hn];exact h0⟩) [(n,data)] (fun x hx=>by rw [List.mem_singleton.1 hx];exact ⟨by simp,hd⟩) (by
   rw [a2]
   by_cases hx:V.C.length≤n
   · exact Or.inr ⟨(n,data),by simp,by simp only;omega⟩
   · exact Or.inl (by omega))
 rw [e]
 have hun:=h.sound.untold hn h0
 have hcl: ∀ t,5≤t→t<V.C.length→t≠n→cl (epoch (lengthenV V [n]) (cntPuts (ones (cntsOf (lengthenV V [n]).C) [n])++[(n,data)])).C t=cl V.C t:=fun t h5 ht hne=>by
   rw [b4 t h5 (by omega) (fun x hx=>by rw [List.mem_singleton.1 hx];exact fun z=>hne z.symm),a4 t (by omega)]
 refine ⟨rfl,b1,b2,fun m hm=> ?_,?_,hcl,Shape.of_same (fun r hr=>hcl _ ?_ ?_ ?_) (fun s hs=>hcl _ ?_ ?_ ?_)⟩
 · rw [b3 m hm,hc m hm];simp
 · rw [← vw_at (by rw [b2];omega),epoch_C]
   have e2:putsC (lengthenV V [n]).C (cntPuts (ones (cntsOf (lengthenV V [n]).C) [n])++[(n,data)])=putC (putsC (lengthenV V [n]).C (cntPuts (ones (cntsOf (lengthenV V [n]).C) [n]))) (n,data):=by simp [putsC]
   rw [e2,vw_putC,if_pos rfl]
 · have:=h.sound.fst r hr;omega
 · exact (h.sound.fst r hr).2
 · exact fun z=>hun.1 ⟨r,hr,z⟩
 · have:=h.sound.sec s hs;omega
 · exact (h.sound.sec s hs).2
 · exact fun z=>hun.2.1 (by rw [← z];exact hs)
theorem placed (b:Nat):(findR V.C N0 b).second=nm V.C N0 (b / 32)∧(findR V.C N0 b).block=numAt V.C N0 b∧(findR V.C N0 b).inSecond=b%32∧(findR V.C N0 b).inFirst=b / 32∧(findR V.C N0 b).first=N0:=⟨rfl,rfl,rfl,rfl,rfl⟩
theorem Vol.blk3 (h:Vol base V N0 E) {n:Nat} (hb:b<64) (hF:lowFree (cntsOf V.C) 1=[n]) (hn:n<256) (h0:countOf V.C n=0) (hd:data.length=64) (h2:32768≤nm V.C N0 (b / 32)):
   wnbV V (findR V.C N0 b) data=epoch (wnb1 V data) [(nm V.C N0 (b / 32)%32768,bytesOf ((numsOf (cl (wnb1 V data).C (nm V.C N0 (b / 32)%32768))).set (b%32) (n+32768)))]∧
   Ok (wnbV V (findR V.C N0 b) data).C (lenTo V.C [n]) N0 E (setD (dskOf V.C N0 E) b data)∧(wnbV V (findR V.C N0 b) data).C.length=lenTo V.C [n]∧
     (∀ m,m<256→countOf (wnbV V (findR V.C N0 b) data).C m=if m=n then 1 else countOf V.C m)∧(∀ m,useOf (wnbV V (findR V.C N0 b) data).C (rsOf N0 E) m+hit (numAt V.C N0 b) m=useOf V.C (rsOf N0 E) m+if n=m then 1 else 0):=by
 obtain ⟨_,b1,b2,b3,b4,b5,b6⟩:=h.blk1 (data:=data) hF hn h0 hd
 have hr0:(⟨N0,0,[]⟩:RootR) ∈ rsOf N0 E:=by simp [rsOf]
 have hT:lenTo V.C [n]=max V.C.length (n+1):=rfl
 have hmost:=h.file.most
 have h6:=h.sound.free_six hn h0
 have hun:=h.sound.untold hn h0
 have hs:IsSec V.C (rsOf N0 E) (nm V.C N0 (b / 32)%32768):=⟨_,hr0,b / 32,by omega,by show nm V.C N0 (b / 32)≠0;omega,rfl⟩
 have hsr:=h.sound.sec _ hs
 have hone:countOf V.C (nm V.C N0 (b / 32)%32768)=1:=h.sound.mark1 _ hr0 (b / 32) (by omega) h2
 have hsn:nm V.C N0 (b / 32)%32768≠n:=fun e=>hun.2.1 (by rw [← e];exact hs)
 have hN:=h.sound.fst _ hr0
 simp only at hN
 have hNn:N0≠n:=fun e=>hun.1 ⟨_,hr0,e⟩
 have e:wnbV V (findR V.C N0 b) data=epoch (wnb1 V data) [(nm V.C N0 (b / 32)%32768,bytesOf ((numsOf (cl (wnb1 V data).C (nm V.C N0 (b / 32)%32768))).set (b%32) (n+32768)))]:=by
   unfold wnbV epoch putNumV
   rw [hF,puts_one]
   simp only [List.getD_cons_zero]
   obtain ⟨p1,p2,p3,p4,p5⟩:=placed (V:=V) (N0:=N0) b
   rw [p1,p3]
 have s2:=b1.sound
 rw [padTo_self b2] at s2
 have hput:=putN_of (x:=n+32768) (k:=b%32) b2 (show nm V.C N0 (b / 32)%32768<lenTo V.C [n] by omega) (by omega) (by omega)
 have hC3:(wnbV V (findR V.C N0 b) data).C=putsC (wnb1 V data).C [(nm V.C N0 (b / 32)%32768,bytesOf ((numsOf (cl (wnb1 V data).C (nm V.C N0 (b / 32)%32768))).set (b%32) (n+32768)))]:=by rw [e,epoch_C]
 rw [← hC3] at hput
 have e1:nm (wnb1 V data).C N0 (b / 32)=nm V.C N0 (b / 32):=by unfold nm;rw [b5 N0 (by omega) (by omega) hNn]
 have hB:BlkIn (wnb1 V data).C (wnbV V (findR V.C N0 b) data).C (rsOf N0 E) ⟨N0,0,[]⟩ (b / 32) (nm V.C N0 (b / 32)%32768) (b%32) n:=by
   refine ⟨hput,hr0,by omega,by omega,by show nm (wnb1 V data).C N0 (b / 32)≠0;rw [e1];omega,by show nm (wnb1 V data).C N0 (b / 32)%32768=_;rw [e1],?_,⟨h6,by omega⟩,by rw [b3 n hn,if_pos rfl],hun.1,fun x=>hun.2.1 ((b6.isSec n).1 x),fun x=>hun.2.2 ((b6.isBlk n).1 x)⟩
   rw [b3 _ (by omega),if_neg hsn];exact hone
 have s3:=hB.sound s2
 have hlen:(wnbV V (findR V.C N0 b) data).C.length=lenTo V.C [n]:=by rw [hput.len,b2]
 refine ⟨e,⟨?_,by rw [padTo_self hlen];exact s3,?_⟩,hlen,fun m hm=>by rw [hput.count hsr.1 m hm,b3 m hm],fun m=> ?_⟩
 · rw [hC3]
   exact b1.file.put1 (by omega) (by omega) (by omega) (bytesOf_length _)
 · rw [padTo_self hlen]
   have hd2:=b1.holds
   rw [padTo_self b2] at hd2
   rw [← hd2]
   refine dskOf_set s2 fun r hr=> ?_
   have:=hB.content s2 hr
   rw [this,b4,show 32*(b / 32)+b%32=b by omega]
 · have:=hB.use s2 m
   rw [b6.use] at this
   have e2:nm (wnb1 V data).C (nm V.C N0 (b / 32)%32768) (b%32)=numAt V.C N0 b:=by
     unfold nm numAt
     rw [if_neg (by unfold nm at h2;omega),b5 _ (by omega) hsr.2 hsn]
   rw [e2] at this
   exact this
theorem Vol.writeBlock (h:Vol base V N0 E) {n:Nat} (hb:b<64) (hF:lowFree (cntsOf V.C) 1=[n]) (hn:n<256) (h0:countOf V.C n=0) (hd:data.length=64) (h2:32768≤nm V.C N0 (b / 32)):
   Lets (wnbV V (findR V.C N0 b) data) N0 E (toldBy [numAt V.C N0 b])∧Wrote base V (letGoV (wnbV V (findR V.C N0 b) data) (toldBy [numAt V.C N0 b])) N0 E (setD (dskOf V.C N0 E) b data):=by
 obtain ⟨e,c1,c2,c3,c4⟩:=h.blk3 hb hF hn h0 hd h2
 have h6:=h.sound.free_six hn h0
 have hmost:=h.file.most
 have hnone:=use_none h.sound (h.sound.untold hn h0)
 have hcount: ∀ m,(toldBy [numAt V.C N0 b]).count m=hit (numAt V.C N0 b) m:=fun m=>by rw [count_toldBy];simp
 have hl:Lets (wnbV V (findR V.C N0 b) data) N0 E (toldBy [numAt V.C N0 b]):=by
   refine ⟨fun u hu=> ?_,fun m hm=> ?_⟩
   · unfold toldBy at hu
     obtain ⟨x,hx,rfl⟩:=List.mem_map.1 hu
     obtain ⟨hx1,hx2⟩:=List.mem_filter.1 hx
     rw [List.mem_singleton.1 hx1] at hx2 ⊢
     have:=h.sound.blk _ (numAt_isBlk (r:=⟨N0,0,[]⟩) (by simp [rsOf]) hb (by simpa using hx2))
     simp only at this
     omega
   · have:=c4 m
     rw [hcount,c3 m hm]
     by_cases e1:m=n
     · subst e1
       rw [if_pos rfl] at this
       rw [if_pos rfl,base6_eq,if_neg (by omega)]
       omega
     · rw [if_neg (fun z=>e1 z.symm)] at this
       rw [if_neg e1]
       have:=h.sound.cnt m hm
       omega
 obtain ⟨d1,d2,d3,d4⟩:=c1.letGo c2 hl
 refine ⟨hl,d1.vol d2 d3 (h.log.puts (puts_letGo (puts_wnb (Puts.refl V) _ _) _)),?_,fun hx=>d4 fun m hm=> ?_⟩
 · have:=d1.holds
   rw [padTo_self d2] at this
   exact this
 · have:=c4 m
   rw [hcount,c3 m hm]
   by_cases e1:m=n
   · subst e1
     rw [if_pos rfl] at this
     rw [if_pos rfl,base6_eq,if_neg (by omega)]
     omega
   · rw [if_neg (fun z=>e1 z.symm)] at this
     rw [if_neg e1,hx.eq m hm]
     omega
end
section
variable {base:List Clus} {V:VolR} {N0:Nat} {E:List EntR} {b:Nat} {data:Clus}
theorem zt_get (i:Nat):zt.getD i 0=0:=by
 unfold zt
 rw [List.getD_eq_getElem?_getD,List.getElem?_replicate]
 split <;> rfl
theorem tab_get (q:Nat) (hq:q<32):(findR V.C N0 b).tab.getD q 0=oldNum V.C N0 (b / 32) q:=by
 unfold findR oldNum nm
 dsimp only
 by_cases e:num (cl V.C N0) (2*(b / 32))=0
 · rw [if_pos e,if_pos e,zt_get]
 · rw [if_neg e,if_neg e,numsOf_get _ _ hq]
theorem Vol.tab1 (h:Vol base V N0 E) {s n:Nat} (p:PlaceR) (hF:lowFree (cntsOf V.C) 2=[s,n]) (hsn:s<n) (hn:n<256) (h0:countOf V.C s=0) (h1:countOf V.C n=0) (hd:data.length=64):
   wnt1 V p data=epoch (lengthenV V [s,n]) (cntPuts (ones (cntsOf (lengthenV V [s,n]).C) [s,n])++[(s,bytesOf (p.tab.set p.inSecond (n+32768))),(n,data)])∧Ok (wnt1 V p data).C (lenTo V.C [s,n]) N0 E (dskOf V.C N0 E)∧(wnt1 V p data).C.length=lenTo V.C [s,n]∧
     (∀ m,m<256→countOf (wnt1 V p data).C m=if m=s∨m=n then 1 else countOf V.C m)∧cl (wnt1 V p data).C n=data∧cl (wnt1 V p data).C s=bytesOf (p.tab.set p.inSecond (n+32768))∧(∀ t,5≤t→t<V.C.length→t≠s→t≠n→cl (wnt1 V p data).C t=cl V.C t)∧Shape V.C (wnt1 V p data).C (rsOf N0 E):=by
 obtain ⟨a1,a2,a3,a4,a5⟩:=h.longer [s,n] (by rw [lastOf_two];exact hn)
 have hc:=fun m hm=>h.count1 [s,n] (by rw [lastOf_two];exact hn) m hm
 have et:wntT V p=p.tab.set p.inSecond (n+32768):=by unfold wntT;rw [hF];rfl
 have e:wnt1 V p data=epoch (lengthenV V [s,n]) (cntPuts (ones (cntsOf (lengthenV V [s,n]).C) [s,n])++[(s,bytesOf (p.tab.set p.inSecond (n+32768))),(n,data)]):=by
   unfold wnt1
   rw [et,hF]
   unfold epoch
   rw [puts_append,← claimV_puts,puts_two]
   simp only [List.getD_cons_zero,List.getD_cons_succ]
 have hT:lenTo V.C [s,n]=max V.C.length (n+1):=rfl
 have h6:=h.sound.free_six (by omega) h0
 have htl:(bytesOf (p.tab.set p.inSecond (n+32768))).length=64:=bytesOf_length _
 generalize bytesOf (p.tab.set p.inSecond (n+32768))=tb at*
 obtain ⟨b1,b2,b3,b4,b5,b6⟩:=a1.claimed [s,n] (fun m hm=>by
   simp only [List.mem_cons,List.not_mem_nil,or_false] at hm
   rcases hm with rfl | rfl
   · exact ⟨by omega,by rw [hc _ (by omega)];exact h0⟩
   · exact ⟨by omega,by rw [hc _ hn];exact h1⟩) [(s,tb),(n,data)] (fun x hx=>by
   simp only [List.mem_cons,List.not_mem_nil,or_false] at hx
   rcases hx with rfl | rfl
   · exact ⟨by simp,htl⟩
   · exact ⟨by simp,hd⟩) (by
   rw [a2]
   by_cases hx:V.C.length≤n
   · exact Or.inr ⟨(n,data),by simp,by simp only;omega⟩
   · exact Or.inl (by omega))
 have hus:=h.sound.untold (by omega) h0
 have hun:=h.sound.untold hn h1
 have hcl: ∀ t,5≤t→t<V.C.length→t≠s→t≠n→cl (epoch (lengthenV V [s,n]) (cntPuts (ones (cntsOf (lengthenV V [s,n]).C) [s,n])++[(s,tb),(n,data)])).C t=cl V.C t:=fun t h5 ht hne hne2=>by
   rw [b4 t h5 (by omega) (fun x hx=>by
     simp only [List.mem_cons,List.not_mem_nil,or_false] at hx
     rcases hx with rfl | rfl
     · exact fun z=>hne z.symm
     · exact fun z=>hne2 z.symm),a4 t (by omega)]
 have e2:putsC (lengthenV V [s,n]).C (cntPuts (ones (cntsOf (lengthenV V [s,n]).C) [s,n])++[(s,tb),(n,data)])=putC (putC (putsC (lengthenV V [s,n]).C (cntPuts (ones (cntsOf (lengthenV V [s,n]).C) [s,n]))) (s,tb)) (n,data):=by simp [putsC]
 rw [e]
 refine ⟨rfl,b1,b2,fun m hm=> ?_,?_,?_,hcl,Shape.of_same (fun r hr=>hcl _ ?_ ?_ ?_ ?_) (fun x hs=>hcl _ ?_ ?_ ?_ ?_)⟩
 · rw [b3 m hm,hc m hm];simp
 · rw [← vw_at (by rw [b2];omega),epoch_C,e2,vw_putC,if_pos rfl]
 · rw [← vw_at (by rw [b2];omega),epoch_C,e2,vw_putC,if_neg (by simp only;omega),vw_putC,if_pos rfl]
 · have:=h.sound.fst r hr;omega
 · exact (h.sound.fst r hr).2
 · exact fun z=>hus.1 ⟨r,hr,z⟩
 · exact fun z=>hun.1 ⟨r,hr,z⟩
 · have:=h.sound.sec x hs;omega
 · exact (h.sound.sec x hs).2
 · exact fun z=>hus.2.1 (by rw [← z];exact hs)
 · exact fun z=>hun.2.1 (by rw [← z];exact hs)
theorem Vol.tab3 (h:Vol base V N0 E) {s n:Nat} (hb:b<64) (hF:lowFree (cntsOf V.C) 2=[s,n]) (hsn:s<n) (hn:n<256) (h0:countOf V.C s=0) (h1:countOf V.C n=0) (hd:data.length=64):
   wntV V (findR V.C N0 b) data=epoch (wnt1 V (findR V.C N0 b) data) [(N0,bytesOf ((numsOf (cl (wnt1 V (findR V.C N0 b) data).C N0)).set (b / 32) (s+32768)))]∧
   Ok (wntV V (findR V.C N0 b) data).C (lenTo V.C [s,n]) N0 E (setD (dskOf V.C N0 E) b data)∧(wntV V (findR V.C N0 b) data).C.length=lenTo V.C [s,n]∧
     (∀ m,m<256→countOf (wntV V (findR V.C N0 b) data).C m=if m=s∨m=n then 1 else countOf V.C m)∧(∀ m,useOf (wntV V (findR V.C N0 b) data).C (rsOf N0 E) m+(hit (nm V.C N0 (b / 32)) m+hit (numAt V.C N0 b) m)=useOf V.C (rsOf N0 E) m+((if s=m then 1 else 0)+if n=m then 1 else 0)):=by
 obtain ⟨_,b1,b2,b3,b4,b4',b5,b6⟩:=h.tab1 (data:=data) (findR V.C N0 b) hF hsn hn h0 h1 hd
 have hr0:(⟨N0,0,[]⟩:RootR) ∈ rsOf N0 E:=by simp [rsOf]
 have hT:lenTo V.C [s,n]=max V.C.length (n+1):=rfl
 have hmost:=h.file.most
 have h6:=h.sound.free_six (by omega) h0
 have hus:=h.sound.untold (by omega) h0
 have hun:=h.sound.untold hn h1
 have hN:=h.sound.fst _ hr0
 simp only at hN
 have hNs:N0≠s:=fun e=>hus.1 ⟨_,hr0,e⟩
 have hNn:N0≠n:=fun e=>hun.1 ⟨_,hr0,e⟩
 have e:wntV V (findR V.C N0 b) data=epoch (wnt1 V (findR V.C N0 b) data) [(N0,bytesOf ((numsOf (cl (wnt1 V (findR V.C N0 b) data).C N0)).set (b / 32) (s+32768)))]:=by
   unfold wntV epoch putNumV
   rw [hF,puts_one]
   simp only [List.getD_cons_zero]
   obtain ⟨p1,p2,p3,p4,p5⟩:=placed (V:=V) (N0:=N0) b
   rw [p4,p5]
 have s2:=b1.sound
 rw [padTo_self b2] at s2
 have hput:=putN_of (x:=s+32768) (k:=b / 32) b2 (show N0<lenTo V.C [s,n] by omega) (by omega) (by omega)
 have hC3:(wntV V (findR V.C N0 b) data).C=putsC (wnt1 V (findR V.C N0 b) data).C [(N0,bytesOf ((numsOf (cl (wnt1 V (findR V.C N0 b) data).C N0)).set (b / 32) (s+32768)))]:=by rw [e,epoch_C]
 rw [← hC3] at hput
 have e1: ∀ q,nm (wnt1 V (findR V.C N0 b) data).C N0 q=nm V.C N0 q:=fun q=>by unfold nm;rw [b5 N0 (by omega) (by omega) hNs hNn]
 have eo: ∀ q,q<32→oldNum (wnt1 V (findR V.C N0 b) data).C N0 (b / 32) q=oldNum V.C N0 (b / 32) q:=fun q hq=>by
   unfold oldNum
   rw [e1]
   by_cases z:nm V.C N0 (b / 32)=0
   · rw [if_pos z,if_pos z]
   · rw [if_neg z,if_neg z]
     have hs:IsSec V.C (rsOf N0 E) (nm V.C N0 (b / 32)%32768):=⟨_,hr0,b / 32,by omega,z,rfl⟩
     have hsr:=h.sound.sec _ hs
     unfold nm
     rw [b5 _ (by omega) hsr.2 (fun z=>hus.2.1 (by rw [← z];exact hs)) (fun z=>hun.2.1 (by rw [← z];exact hs))]
 have htn: ∀ q,q<32→nm (wnt1 V (findR V.C N0 b) data).C s q=if b%32=q then n+32768 else oldNum V.C N0 (b / 32) q:=fun q hq=>by
   unfold nm
   rw [b4',show (findR V.C N0 b).inSecond=b%32 from rfl,set_num _ (findR_lt V.C N0 b).2.2 (findR_tab _ _ _) _ _ _ (by omega) hq,tab_get q hq]
 have hB:TabIn (wnt1 V (findR V.C N0 b) data).C (wntV V (findR V.C N0 b) data).C (rsOf N0 E) ⟨N0,0,[]⟩ (b / 32) s (b%32) n:=by
   refine ⟨hput,hr0,by omega,by omega,by rw [htn _ (by omega),if_pos rfl],fun q hq hne=> ?_,by omega,⟨h6,by omega⟩,⟨by omega,by omega⟩,by rw [b3 _ (by omega),if_pos (Or.inl rfl)],by rw [b3 _ hn,if_pos (Or.inr rfl)],⟨hus.1,fun x=>hus.2.1 ((b6.isSec s).1 x),fun x=>hus.2.2 ((b6.isBlk s).1 x)⟩,hun.1,fun x=>hun.2.1 ((b6.isSec n).1 x),fun x=>hun.2.2 ((b6.isBlk n).1 x)⟩
   rw [htn q hq,if_neg (fun z=>hne z.symm)]
   exact (eo q hq).symm
 have s3:=hB.sound s2
 have hlen:(wntV V (findR V.C N0 b) data).C.length=lenTo V.C [s,n]:=by rw [hput.len,b2]
 refine ⟨e,⟨?_,by rw [padTo_self hlen];exact s3,?_⟩,hlen,fun m hm=>by rw [hput.count hN.1 m hm,b3 m hm],fun m=> ?_⟩
 · rw [hC3]
   exact b1.file.put1 (by omega) (by omega) (by omega) (bytesOf_length _)
 · rw [padTo_self hlen]
   have hd2:=b1.holds
   rw [padTo_self b2] at hd2
   rw [← hd2]
   refine dskOf_set s2 fun r hr=> ?_
   have:=hB.content s2 hr
   rw [this,b4,show 32*(b / 32)+b%32=b by omega]
 · have:=hB.use s2 m
   rw [b6.use] at this
   simp only at this
   rw [e1,eo _ (by omega)] at this
   have e2:oldNum V.C N0 (b / 32) (b%32)=numAt V.C N0 b:=rfl
   rw [e2] at this
   exact this
theorem Vol.writeTable (h:Vol base V N0 E) {s n:Nat} (hb:b<64) (hF:lowFree (cntsOf V.C) 2=[s,n]) (hsn:s<n) (hn:n<256) (h0:countOf V.C s=0) (h1:countOf V.C n=0) (hd:data.length=64):
   Lets (wntV V (findR V.C N0 b) data) N0 E (toldBy [nm V.C N0 (b / 32),numAt V.C N0 b])∧Wrote base V (letGoV (wntV V (findR V.C N0 b) data) (toldBy [nm V.C N0 (b / 32),numAt V.C N0 b])) N0 E (setD (dskOf V.C N0 E) b data):=by
 obtain ⟨e,c1,c2,c3,c4⟩:=h.tab3 hb hF hsn hn h0 h1 hd
 have h6:=h.sound.free_six (by omega) h0
 have hmost:=h.file.most
 have hu1:=use_none h.sound (h.sound.untold (by omega) h0)
 have hu2:=use_none h.sound (h.sound.untold hn h1)
 have hcount: ∀ m,(toldBy [nm V.C N0 (b / 32),numAt V.C N0 b]).count m=hit (nm V.C N0 (b / 32)) m+hit (numAt V.C N0 b) m:=fun m=>by rw [count_toldBy];simp
 have hl:Lets (wntV V (findR V.C N0 b) data) N0 E (toldBy [nm V.C N0 (b / 32),numAt V.C N0 b]):=by
   refine ⟨fun u hu=> ?_,fun m hm=> ?_⟩
   · unfold toldBy at hu
     obtain ⟨x,hx,rfl⟩:=List.mem_map.1 hu
     obtain ⟨hx1,hx2⟩:=List.mem_filter.1 hx
     simp only [List.mem_cons,List.not_mem_nil,or_false] at hx1
     rcases hx1 with rfl | rfl
     · have:=h.sound.sec (nm V.C N0 (b / 32)%32768) ⟨⟨N0,0,[]⟩,by simp [rsOf],b / 32,by omega,by simpa using hx2,rfl⟩
       omega
     · have:=h.sound.blk _ (numAt_isBlk (r:=⟨N0,0,[]⟩) (by simp [rsOf]) hb (by simpa using hx2))
       simp only at this
       omega
   · have:=c4 m
     rw [hcount,c3 m hm]
     by_cases e1:m=s
     · subst e1
       rw [if_pos rfl,if_neg (by omega)] at this
       rw [if_pos (Or.inl rfl),base6_eq,if_neg (by omega)]
       omega
     · by_cases e2:m=n
       · subst e2
         rw [if_neg (by omega),if_pos rfl] at this
         rw [if_pos (Or.inr rfl),base6_eq,if_neg (by omega)]
         omega
       · rw [if_neg (by omega),if_neg (by omega)] at this
         rw [if_neg (by omega)]
         have:=h.sound.cnt m hm
         omega
 obtain ⟨d1,d2,d3,d4⟩:=c1.letGo c2 hl
 refine ⟨hl,d1.vol d2 d3 (h.log.puts (puts_letGo (puts_wnt (Puts.refl V) _ _) _)),?_,fun hx=>d4 fun m hm=> ?_⟩
 · have:=d1.holds
   rw [padTo_self d2] at this
   exact this
 · have:=c4 m
   rw [hcount,c3 m hm]
   by_cases e1:m=s
   · subst e1
     rw [if_pos rfl,if_neg (by omega)] at this
     rw [if_pos (Or.inl rfl),base6_eq,if_neg (by omega)]
     omega
   · by_cases e2:m=n
     · subst e2
       rw [if_neg (by omega),if_pos rfl] at this
       rw [if_pos (Or.inr rfl),base6_eq,if_neg (by omega)]
       omega
     · rw [if_neg (by omega),if_neg (by omega)] at this
       rw [if_neg (by omega),hx.eq m hm]
       omega
theorem SoundL.free_all {C:List Clus} {rs:List RootR} (h:SoundL C rs) (hl: ∀ c ∈ C,c.length=64):freeOf C=cntTo (fun m=>byteAt (cntsOf C) m == 0) 256:=by
 have h6:=h.six
 have hm:=h.len
 have cong: ∀ (p q:Nat→Bool) (k:Nat),(∀ j,j<k→p j=q j)→cntTo p k=cntTo q k:=by
   intro p q k
   induction k with
   | zero=>intro _;rfl
   | succ k ih=>intro h;simp only [cntTo];rw [ih (fun j hj=>h j (by omega)),h k (by omega)]
 have more: ∀ (p:Nat→Bool) (n m:Nat),(∀ j,n≤j→j<n+m→p j=true)→cntTo p (n+m)=cntTo p n+m:=by
   intro p n m
   induction m with
   | zero=>intro _;rfl
   | succ m ih=>
     intro h
     rw [← Nat.add_assoc]
     simp only [cntTo]
     rw [ih (fun j h1 h2=>h j h1 (by omega)),if_pos (h (n+m) (by omega) (by omega))]
     omega
 have e:=cong (fun m=>byteAt (cntsOf C) m == 0) (fun m=>countOf C m == 0) 256 (fun j hj=>by rw [byteAt_cnts hl (by omega) j hj])
 rw [e]
 have e2:=more (fun m=>countOf C m == 0) C.length (256 - C.length) (fun j h1 h2=>by rw [h.none j (by omega) h1];rfl)
 rw [show C.length+(256 - C.length)=256 by omega] at e2
 rw [e2]
 unfold freeOf
 rw [Nat.add_comm]
 congr 1
 refine cong _ _ _ fun j hj=> ?_
 by_cases hj6:6≤j
 · simp [hj6]
 · have:=h.cnt j (by omega)
   rw [base6_eq,if_pos (by omega)] at this
   have:countOf C j≠0:=by omega
   simp [this,hj6]
theorem free_few {C:List Clus} {rs:List RootR} (h:SoundL C rs) (hl: ∀ c ∈ C,c.length=64) (want:Nat) (hf:(lowFree (cntsOf C) want).length<want):freeOf C<want:=by
 rw [h.free_all hl,← lowTo_all _ want 256 hf];exact hf
def writeV (V:VolR) (n:Int) (data:Clus):VolR × Nat:=writeR V n data (letGoV (wntV V (placeOf V n) data) (toldBy [(placeOf V n).second,(placeOf V n).block])) (letGoV (wnbV V (placeOf V n) data) (toldBy [(placeOf V n).block]))
theorem Vol.place (h:Vol base V N0 E) (n:Int):placeOf V n=findR V.C N0 n.toNat:=by unfold placeOf;rw [h.file.num6]
theorem blockB_lt {n:Int} (hb:blockB n=true):n.toNat<64:=by
 unfold blockB at hb
 simp at hb
 omega
theorem Vol.write (h:Vol base V N0 E) (n:Int) (hd:data.length=64):
   (blockB n=false∧writeV V n data=(V,1))∨(blockB n=true∧(writeV V n data).2=0∧Wrote base V (writeV V n data).1 N0 E (setD (dskOf V.C N0 E) n.toNat data))∨
     (blockB n=true∧writeV V n data=(V,5)∧ ∀ R:FileR,R.L=V.C→R.roots=rsOf N0 E→freeOf V.C<needs R n.toNat):=by
 have h7:=h.file.seven
 have hm:=h.file.most
 unfold writeV writeR
 by_cases hb:blockB n=true
 · have hlt:=blockB_lt hb
   rw [if_neg (by rw [hb];decide),h.place n]
   obtain ⟨p1,p2,p3,p4,p5⟩:=placed (V:=V) (N0:=N0) n.toNat
   rw [p1,p2]
   by_cases h2:nm V.C N0 (n.toNat / 32)<32768
   · rw [if_pos h2]
     by_cases hf:2≤(lowFree (cntsOf V.C) 2).length
     · rw [if_pos hf]
       obtain ⟨s,n',hF,hsn,hn,h0,h1⟩:=lowFree_two hf
       rw [byteAt_cnts h.file.lens (by omega) _ (by omega)] at h0 h1
       have hw:=(h.writeTable hlt hF hsn hn h0 h1 hd).2
       generalize letGoV (wntV V (findR V.C N0 n.toNat) data) (toldBy [nm V.C N0 (n.toNat / 32),numAt V.C N0 n.toNat])=W at*
       exact Or.inr (Or.inl ⟨hb,rfl,hw⟩)
     · rw [if_neg hf]
       refine Or.inr (Or.inr ⟨hb,rfl,fun R hL hR=> ?_⟩)
       have:=free_few h.sound h.file.lens 2 (by omega)
       unfold needs rootOf
       rw [hL,hR,if_pos (by exact h2)]
       exact this
   · rw [if_neg h2]
     by_cases h3:numAt V.C N0 n.toNat<32768
     · rw [if_pos h3]
       by_cases hf:0<(lowFree (cntsOf V.C) 1).length
       · rw [if_pos hf]
         obtain ⟨n',hF,hn,h0⟩:=lowFree_one hf
         rw [byteAt_cnts h.file.lens (by omega) _ (by omega)] at h0
         have hw:=(h.writeBlock hlt hF hn h0 hd (by omega)).2
         generalize letGoV (wnbV V (findR V.C N0 n.toNat) data) (toldBy [numAt V.C N0 n.toNat])=W at*
         exact Or.inr (Or.inl ⟨hb,rfl,hw⟩)
       · rw [if_neg hf]
         refine Or.inr (Or.inr ⟨hb,rfl,fun R hL hR=> ?_⟩)
         have:=free_few h.sound h.file.lens 1 (by omega)
         have e2:num (cl V.C (num (cl V.C N0) (2*(n.toNat / 32))%32768)) (2*(n.toNat%32))<32768:=by
           unfold numAt at h3
           rw [if_neg (by unfold nm at h2;omega)] at h3
           exact h3
         unfold needs rootOf
         rw [hL,hR,if_neg (by exact h2),if_pos (by exact e2)]
         exact this
     · rw [if_neg h3]
       obtain ⟨o1,o2,o3⟩:=h.inPlace (data:=data) hlt hd (by omega)
       have eC:(flushV (putV V (numAt V.C N0 n.toNat%32768) data)).C=putsC V.C [(numAt V.C N0 n.toNat%32768,data)]:=by rw [flushV_C,putV_C];rfl
       refine Or.inr (Or.inl ⟨hb,rfl,?_⟩)
       show Wrote base V (flushV (putV V (numAt V.C N0 n.toNat%32768) data)) N0 E _
       refine ⟨Ok.vol (T:=V.C.length) (D:=setD (dskOf V.C N0 E) n.toNat data) (by rw [eC];exact o1) (by rw [eC];exact o3) (flushV_loose _) (h.log.puts ((Puts.refl V).put _ _).flush),?_,fun hx=>by rw [eC];exact o2 hx⟩
       rw [eC]
       have:=o1.holds
       rw [padTo_self o3] at this
       exact this
 · have hb':blockB n=false:=by simpa using hb
   rw [if_pos hb']
   exact Or.inl ⟨hb',rfl⟩
end
def cnt7:Clus:=List.replicate 7 1++List.replicate 57 0
def newC:List Clus:=[headBytes 7 6,cnt7,zc,zc,zc,zc,zc]
theorem newV_C:newV.C=newC:=by kernel_rfl
theorem new_counts: ∀ n:Fin 256,countOf newC n.val=(if n.val<6 then 1 else 0)+(if n.val=6 then 1 else 0):=by decide +kernel
theorem new_zero: ∀ i:Fin 32,num (cl newC 6) (2*i.val)=0:=by decide +kernel
theorem new_list:cl newC 5=listBytes []:=by kernel_rfl
theorem new_content:contentOf newC 6=List.replicate 64 zc:=by kernel_rfl
theorem new_lens: ∀ c ∈ newC,c.length=64:=by decide +kernel
theorem ents_nil:EntsOK []:=⟨by decide,fun e he=>(by cases he),List.nodup_nil⟩
theorem new_root {r:RootR} (h:r ∈ rsOf 6 []):r.N=6:=by
 rcases rsOf_mem.1 h with x | ⟨e,he,_⟩
 · rw [x]
 · cases he
theorem new_nosec (s:Nat): ¬ IsSec newC (rsOf 6 []) s:=by
 rintro ⟨r,hr,j,hj,h0,_⟩
 rw [new_root hr] at h0
 exact h0 (new_zero ⟨j,by omega⟩)
theorem new_noblk (s:Nat): ¬ IsBlk newC (rsOf 6 []) s:=fun ⟨x,hx,_⟩=>new_nosec x hx
theorem new_use (n:Nat):useOf newC (rsOf 6 []) n=if n=6 then 1 else 0:=by
 have h0:nm newC 6 0=0:=new_zero ⟨0,by omega⟩
 have h1:nm newC 6 1=0:=new_zero ⟨1,by omega⟩
 show treeOcc newC 6 n+0=_
 unfold treeOcc secOcc
 rw [if_pos h0,if_pos h1]
 by_cases e:n=6
 · rw [if_pos e.symm,if_pos e]
 · rw [if_neg (fun z=>e z.symm),if_neg e]
theorem new_sound:SoundL newC (rsOf 6 []):=by
 refine ⟨by decide,by decide,fun r hr=>by rw [new_root hr];decide,by decide,fun r hr i _ h2=>by rw [new_root hr];exact new_zero ⟨i,h2⟩,fun s hs=>absurd hs (new_nosec s),fun n hn=>absurd hn (new_noblk n),fun t _ hs=>new_nosec t hs,fun t _ hs=>new_noblk t hs,fun t hs=>absurd hs (new_nosec t),fun n hn=> ?_,fun n hn=> ?_,fun n hn hl=> ?_,fun r hr j hj hm=> ?_,fun s hs=>absurd hs (new_nosec s)⟩
 · rw [base6_eq,new_use,new_counts ⟨n,hn⟩]
   exact Nat.le_refl _
 · rw [new_counts ⟨n,hn⟩];split <;> split <;> omega
 · have:newC.length=7:=rfl
   rw [new_counts ⟨n,hn⟩,if_neg (by simp only;omega),if_neg (by simp only;omega)]
 · rw [new_root hr] at hm
   have h0:nm newC 6 j=0:=new_zero ⟨j,by omega⟩
   omega
theorem new_exact:ExactS newC (rsOf 6 []):=
 ⟨fun n hn=>by rw [base6_eq,new_use,new_counts ⟨n,hn⟩],fun r hr j hj h0=>absurd (by rw [new_root hr];exact new_zero ⟨j,by omega⟩) h0,fun s hs=>absurd hs (new_nosec s)⟩
theorem new_vol:Vol [] newV 6 []:=by
 refine ⟨?_,by rw [newV_C];exact new_sound,new_loose,logged_new⟩
 rw [newV_C]
 exact ⟨new_lens,by decide,Nat.le_refl _,by decide,by decide,by decide,rfl,new_list,ents_nil⟩
def zDisk:DiskR:=⟨List.replicate 64 zc,[]⟩
theorem new_disk:dskOf newV.C 6 []=zDisk:=by
 rw [newV_C]
 unfold dskOf
 rw [new_content]
 rfl
theorem new_exactV:ExactS newV.C (rsOf 6 []):=by rw [newV_C];exact new_exact
theorem new_logL:newV.L.length≤20:=by
 have:newV.L.length=9:=by kernel_rfl
 omega
theorem puts_lenL (ps:List (Nat × Clus)): ∀ V:VolR,(puts V ps).L.length≤V.L.length+2*ps.length:=by
 induction ps with
 | nil=>intro V;exact Nat.le_refl _
 | cons x r ih=>
   intro V
   have h1:=putV_lenL V x.1 x.2
   have h2:=ih (putV V x.1 x.2)
   rw [puts_cons]
   simp only [List.length_cons]
   omega
theorem epoch_lenL (V:VolR) (ps:List (Nat × Clus)):(epoch V ps).L.length≤V.L.length+2*ps.length+1:=by
 have h1:=puts_lenL ps V
 have h2:=flushV_lenL (puts V ps)
 unfold epoch
 omega
theorem lengthenV_lenL' (V:VolR) (F:List Nat):(lengthenV V F).L.length≤V.L.length+3:=by
 unfold lengthenV
 split
 · have h1:=putV_lenL V 0 (headBytes (lastOf F+1) (num (cl V.C 0) 6))
   have h2:=flushV_lenL (putV V 0 (headBytes (lastOf F+1) (num (cl V.C 0) 6)))
   omega
 · omega
theorem claimV_lenL' (V:VolR) (F:List Nat):(claimV V F).L.length≤V.L.length+11:=by
 rw [claimV_puts]
 have h1:=puts_lenL (cntPuts (ones (cntsOf (lengthenV V F).C) F)) (lengthenV V F)
 have h2:=lengthenV_lenL' V F
 have:(cntPuts (ones (cntsOf (lengthenV V F).C) F)).length=4:=rfl
 omega
theorem letGoV1_lenL (V:VolR) (us:List Nat):(letGoV1 V us).L.length≤V.L.length+9:=by
 rw [letGoV1_epoch]
 have:=epoch_lenL V (cntPuts (minus (cntsOf V.C) us))
 have h:(cntPuts (minus (cntsOf V.C) us)).length=4:=rfl
 omega
theorem firstsOf_len (V:VolR):(firstsOf V).length≤5:=by
 unfold firstsOf picFirsts
 have:=lenOf_le (entsOf (cl V.C 5))
 simp
 omega
theorem wnbV_lenL' (V:VolR) (p:PlaceR) (data:Clus):(wnbV V p data).L.length≤V.L.length+20:=by
 have h1:=claimV_lenL' V (lowFree (cntsOf V.C) 1)
 have h2:=putV_lenL (claimV V (lowFree (cntsOf V.C) 1)) ((lowFree (cntsOf V.C) 1).getD 0 0) data
 have h3:=flushV_lenL (putV (claimV V (lowFree (cntsOf V.C) 1)) ((lowFree (cntsOf V.C) 1).getD 0 0) data)
 have h4:=fun c=>putV_lenL (wnb1 V data) (p.second%32768) c
 have h5:=fun W=>flushV_lenL W
 unfold wnbV putNumV
 have h6:=h4 (bytesOf ((numsOf (cl (wnb1 V data).C (p.second%32768))).set p.inSecond ((lowFree (cntsOf V.C) 1).getD 0 0+32768)))
 have h7:=h5 (putV (wnb1 V data) (p.second%32768) (bytesOf ((numsOf (cl (wnb1 V data).C (p.second%32768))).set p.inSecond ((lowFree (cntsOf V.C) 1).getD 0 0+32768))))
 have h8:(wnb1 V data).L.length≤V.L.length+14:=by unfold wnb1;omega
 omega
theorem wntV_lenL' (V:VolR) (p:PlaceR) (data:Clus):(wntV V p data).L.length≤V.L.length+20:=by
 have h1:=claimV_lenL' V (lowFree (cntsOf V.C) 2)
 have h2:=putV_lenL (claimV V (lowFree (cntsOf V.C) 2)) ((lowFree (cntsOf V.C) 2).getD 0 0) (bytesOf (wntT V p))
 have h2':=putV_lenL (putV (claimV V (lowFree (cntsOf V.C) 2)) ((lowFree (cntsOf V.C) 2).getD 0 0) (bytesOf (wntT V p))) ((lowFree (cntsOf V.C) 2).getD 1 0) data
 have h3:=flushV_lenL (putV (putV (claimV V (lowFree (cntsOf V.C) 2)) ((lowFree (cntsOf V.C) 2).getD 0 0) (bytesOf (wntT V p))) ((lowFree (cntsOf V.C) 2).getD 1 0) data)
 have h8:(wnt1 V p data).L.length≤V.L.length+16:=by unfold wnt1;omega
 have h6:=putV_lenL (wnt1 V p data) p.first (bytesOf ((numsOf (cl (wnt1 V p data).C p.first)).set p.inFirst ((lowFree (cntsOf V.C) 2).getD 0 0+32768)))
 have h7:=flushV_lenL (putV (wnt1 V p data) p.first (bytesOf ((numsOf (cl (wnt1 V p data).C p.first)).set p.inFirst ((lowFree (cntsOf V.C) 2).getD 0 0+32768))))
 unfold wntV putNumV
 omega
section
variable {base:List Clus} {V:VolR} {N0:Nat} {E:List EntR} {n:Int} {data:Clus}
theorem Ok.lets {W:VolR} {T:Nat} {D:DiskR} (h:Ok W.C T N0 E D) (hT:W.C.length=T) (hL:W.L.length≤600000000) (ns:List Nat) (hns: ∀ m ∈ ns,m<65536∧m%32768<256) (hnl:ns.length≤100) (hl:Lets W N0 E (toldBy ns)) (v:Nat):LetsGo v W (letGoV W (toldBy ns)) ns:=by
 have h7:=h.file.seven
 obtain ⟨a1,a2,_,_⟩:=h.letGo1 hT hl
 have s1:=a1.sound
 rw [padTo_self a2] at s1
 intro X C1 L1 bx bs hV hbx hbs hf
 exact letsGo_any v W (by omega) (by rw [hT];exact h.file.most) hL ns hns hnl (fun f hf=>by rw [a1.firsts] at hf;exact s1.firstOK hf) X C1 L1 bx bs hV hbx hbs hf
theorem Vol.numB (h:Vol base V N0 E) {b:Nat} (hb:b<64):numAt V.C N0 b<65536∧numAt V.C N0 b%32768<256:=by
 have hm:=h.file.most
 refine ⟨by unfold numAt;split;omega;exact num_lt _ _,?_⟩
 by_cases h0:numAt V.C N0 b=0
 · rw [h0];decide
 · have:=h.sound.blk _ (numAt_isBlk (r:=⟨N0,0,[]⟩) (by simp [rsOf]) hb h0)
   simp only at this
   omega
theorem Vol.numS (h:Vol base V N0 E) {j:Nat} (hj:j<2):nm V.C N0 j<65536∧nm V.C N0 j%32768<256:=by
 have hm:=h.file.most
 refine ⟨num_lt _ _,?_⟩
 by_cases h0:nm V.C N0 j=0
 · rw [h0];decide
 · have:=h.sound.sec (nm V.C N0 j%32768) ⟨⟨N0,0,[]⟩,by simp [rsOf],j,hj,h0,rfl⟩
   omega
theorem Vol.diskWrite (h:Vol base V N0 E) {w:World} {d v:Nat} {Cv Lv:Value} (hw:DskAt w d v Cv Lv V) (hL:V.L.length≤500000000) (n:Int) (hd:data.length=64):
   Calls Tryz.prog 26 #[.pointer (some ⟨d,0,none⟩),.int .i64 n,.agg (cv data).toArray] w fun e w'=>e= .returned (.int .i64 ((writeV V n data).2:Nat))∧ ∃ C1 L1,VStep w w' v Cv Lv C1 L1 (writeV V n data).1:=by
 have h7:=h.file.seven
 have hr0:(⟨N0,0,[]⟩:RootR) ∈ rsOf N0 E:=by simp [rsOf]
 refine diskWrite_any w d v Cv Lv V _ _ hw (by omega) h.file.most hL n data hd (by rw [h.file.num6];exact h.sound.inFile hr0) (fun hb h2 hf=> ?_) (fun hb h2 h3 hf=> ?_)
 · obtain ⟨s,n',hF,hsn,hn,h0,h1⟩:=lowFree_two hf
   rw [byteAt_cnts h.file.lens (by omega) _ (by omega)] at h0 h1
   have hlt:=blockB_lt hb
   rw [h.place n]
   obtain ⟨e,c1,c2,_⟩:=h.tab3 hlt hF hsn hn h0 h1 hd
   have hl:=(h.writeTable hlt hF hsn hn h0 h1 hd).1
   have hlen:=wntV_lenL' V (findR V.C N0 n.toNat) data
   refine c1.lets c2 (by omega) _ (fun m hm=> ?_) (by simp) hl v
   simp only [List.mem_cons,List.not_mem_nil,or_false] at hm
   rcases hm with rfl | rfl
   · exact h.numS (by omega)
   · exact h.numB hlt
 · obtain ⟨n',hF,hn,h0⟩:=lowFree_one hf
   rw [byteAt_cnts h.file.lens (by omega) _ (by omega)] at h0
   have hlt:=blockB_lt hb
   rw [h.place n] at h2 ⊢
   obtain ⟨e,c1,c2,_⟩:=h.blk3 hlt hF hn h0 hd h2
   have hl:=(h.writeBlock hlt hF hn h0 hd h2).1
   have hlen:=wnbV_lenL' V (findR V.C N0 n.toNat) data
   refine c1.lets c2 (by omega) _ (fun m hm=> ?_) (by simp) hl v
   rw [List.mem_singleton.1 hm]
   exact h.numB hlt
theorem Vol.read (h:Vol base V N0 E) (n:Int):blkRead V.C (num (cl V.C 0) 6) n=if blockB n then (cl (dskOf V.C N0 E).C n.toNat,0) else (zc,1):=by
 unfold blkRead
 rw [h.file.num6]
 by_cases hb:blockB n=true
 · rw [if_pos hb,if_pos hb]
   have e:blkOf V.C N0 n.toNat=cl (dskOf V.C N0 E).C n.toNat:=by
     unfold dskOf cl
     rw [List.getD_eq_getElem?_getD,contentOf_get _ _ _ (blockB_lt hb)]
     rfl
   rw [e]
 · rw [if_neg hb,if_neg hb]
end
theorem toldBy_few (c:Clus) (h: ∀ i,1<i→i<32→num c (2*i)=0):(toldBy (numsOf c)).length≤2:=by
 have e:numsOf c=[num c 0,num c 2]++(List.range 30).map (fun i=>num c (2*(i+2))):=by
   apply List.ext_getElem?
   intro i
   unfold numsOf
   rw [List.getElem?_map]
   by_cases hi:i<32
   · rw [List.getElem?_range hi]
     match i,hi with
     | 0,_=>rfl
     | 1,_=>rfl
     | k+2,hk=>rw [List.getElem?_append_right (by simp),List.getElem?_map,List.getElem?_range (by simp;omega)];simp
   · rw [List.getElem?_eq_none (by simpa using hi),List.getElem?_eq_none (by simp;omega)];rfl
 unfold toldBy
 rw [List.length_map,e,List.filter_append,List.length_append]
 have e2:((List.range 30).map (fun i=>num c (2*(i+2)))).filter (· != 0)=[]:=by
   rw [List.filter_eq_nil_iff]
   intro a ha
   obtain ⟨i,hi,rfl⟩:=List.mem_map.1 ha
   have:=List.mem_range.1 hi
   rw [h (i+2) (by omega) (by omega)]
   decide
 rw [e2]
 have:=List.length_filter_le (· != 0) [num c 0,num c 2]
 simp only [List.length_cons,List.length_nil] at this ⊢
 omega
section
variable {base:List Clus} {V:VolR} {T N0:Nat} {E:List EntR} {D:DiskR}
theorem Ok.lone_len (h:Ok V.C T N0 E D) (hT:V.C.length=T):(loneList (cntsOf V.C) V.C (firstsOf V)).length≤15:=by
 have hs:=h.sound
 rw [h.padV hT] at hs
 have h5:=firstsOf_len V
 have key: ∀ fs:List Nat,(∀ f ∈ fs,f ∈ (rsOf N0 E).map (·.N))→(loneList (cntsOf V.C) V.C fs).length≤3*fs.length:=by
   intro fs
   induction fs with
   | nil=>intro _;exact Nat.le_refl _
   | cons f r ih=>
     intro hf
     have hi:=ih (fun x hx=>hf x (by simp [hx]))
     obtain ⟨r0,hr0,e0⟩:=List.mem_map.1 (hf f (by simp))
     have h2:=toldBy_few (cl V.C f) (fun i h1 h2=>by rw [← e0];exact hs.zero r0 hr0 i h1 h2)
     unfold loneList at hi ⊢
     rw [List.flatMap_cons,List.length_append,List.length_map,List.length_cons,List.length_cons]
     omega
 have:=key (firstsOf V) (fun f hf=>by rw [h.firsts] at hf;exact hf)
 omega
theorem Ok.letGo_lenL {us:List Nat} (h:Ok V.C T N0 E D) (hT:V.C.length=T) (hl:Lets V N0 E us):(letGoV V us).L.length≤V.L.length+40:=by
 obtain ⟨a1,a2,_,_⟩:=h.letGo1 hT hl
 have h1:=letGoV1_lenL V us
 have h2:=a1.lone_len a2
 have h3:=puts_lenL (loneList (cntsOf (letGoV1 V us).C) (letGoV1 V us).C (firstsOf (letGoV1 V us))) (letGoV1 V us)
 have h4:=flushV_lenL (markLoneV (letGoV1 V us))
 have h5:(markLoneV (letGoV1 V us)).L.length≤(letGoV1 V us).L.length+30:=by rw [a1.markLone a2];omega
 unfold letGoV
 omega
theorem Vol.write_lenL {data:Clus} (h:Vol base V N0 E) (n:Int) (hd:data.length=64):(writeV V n data).1.L.length≤V.L.length+60:=by
 have h7:=h.file.seven
 unfold writeV writeR
 by_cases hb:blockB n=true
 · have hlt:=blockB_lt hb
   rw [if_neg (by rw [hb];decide),h.place n]
   obtain ⟨p1,p2,p3,p4,p5⟩:=placed (V:=V) (N0:=N0) n.toNat
   rw [p1,p2]
   by_cases h2:nm V.C N0 (n.toNat / 32)<32768
   · rw [if_pos h2]
     by_cases hf:2≤(lowFree (cntsOf V.C) 2).length
     · rw [if_pos hf]
       obtain ⟨s,n',hF,hsn,hn,h0,h1⟩:=lowFree_two hf
       rw [byteAt_cnts h.file.lens (by omega) _ (by omega)] at h0 h1
       obtain ⟨e,c1,c2,_⟩:=h.tab3 hlt hF hsn hn h0 h1 hd
       have hl:=c1.letGo_lenL c2 (h.writeTable hlt hF hsn hn h0 h1 hd).1
       have hw:=wntV_lenL' V (findR V.C N0 n.toNat) data
       generalize letGoV (wntV V (findR V.C N0 n.toNat) data) (toldBy [nm V.C N0 (n.toNat / 32),numAt V.C N0 n.toNat])=W at*
       dsimp only
       omega
     · rw [if_neg hf];dsimp only;omega
   · rw [if_neg h2]
     by_cases h3:numAt V.C N0 n.toNat<32768
     · rw [if_pos h3]
       by_cases hf:0<(lowFree (cntsOf V.C) 1).length
       · rw [if_pos hf]
         obtain ⟨n',hF,hn,h0⟩:=lowFree_one hf
         rw [byteAt_cnts h.file.lens (by omega) _ (by omega)] at h0
         obtain ⟨e,c1,c2,_⟩:=h.blk3 hlt hF hn h0 hd (by omega)
         have hl:=c1.letGo_lenL c2 (h.writeBlock hlt hF hn h0 hd (by omega)).1
         have hw:=wnbV_lenL' V (findR V.C N0 n.toNat) data
         generalize letGoV (wnbV V (findR V.C N0 n.toNat) data) (toldBy [numAt V.C N0 n.toNat])=W at*
         dsimp only
         omega
       · rw [if_neg hf];dsimp only;omega
     · rw [if_neg h3]
       have h4:=putV_lenL V (numAt V.C N0 n.toNat%32768) data
       have h5:=flushV_lenL (putV V (numAt V.C N0 n.toNat%32768) data)
       dsimp only
       omega
 · have hb':blockB n=false:=by simpa using hb
   rw [if_pos hb'];dsimp only;omega
end
end Go.Proofs.YtknjjjenklfeoaaGreatDoor
