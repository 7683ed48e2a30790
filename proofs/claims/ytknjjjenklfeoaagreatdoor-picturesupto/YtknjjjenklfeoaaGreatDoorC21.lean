import Derived.Test.YtknjjjenklfeoaaGreatDoorC20
import Derived.Test.YtknjjjenklfeoaaGreatDoorC14
import Derived.Test.YtknjjjenklfeoaaGreatDoorC11
import Derived.Test.YtknjjjenklfeoaaGreatDoorC01
set_option maxHeartbeats 8000000
set_option maxRecDepth 100000
namespace Go.Proofs.YtknjjjenklfeoaaGreatDoor
section
variable {L L':List Clus} {rs:List RootR} {r:RootR} {j s k n:Nat}
theorem use_none (h:SoundL L rs) {n:Nat} (un: ¬ IsFst rs n∧ ¬ IsSec L rs n∧ ¬ IsBlk L rs n):useOf L rs n=0:=by
 by_cases z:useOf L rs n=0
 · exact z
 · exfalso
   have h4:0<useOf L rs n:=by omega
   rw [← occ_allTells h.zero] at h4
   unfold occ at h4
   obtain ⟨y,hy,e⟩:=List.mem_map.1 (List.count_pos_iff.1 h4)
   rcases (mem_all h.zero y).1 hy with ⟨_,k1⟩ | ⟨_,k1⟩ | ⟨_,k1⟩
   · rw [e] at k1;exact un.1 k1
   · rw [e] at k1;exact un.2.1 k1
   · rw [e] at k1;exact un.2.2 k1
def oldNum (L:List Clus) (t j q:Nat):Nat:=if nm L t j=0 then 0 else nm L (nm L t j%32768) q
structure TabIn (L L':List Clus) (rs:List RootR) (r:RootR) (j s k n:Nat):Prop where
 put:PutN L L' r.N j (s+32768)
 hr:r ∈ rs
 hj:j<2
 hk:k<32
 tk:nm L s k=n+32768
 tq: ∀ q,q<32→q≠k→nm L s q=oldNum L r.N j q
 ne:s≠n
 sin:6≤s∧s<L.length
 nin:6≤n∧n<L.length
 cs:countOf L s=1
 cn:countOf L n=1
 us: ¬ IsFst rs s∧ ¬ IsSec L rs s∧ ¬ IsBlk L rs s
 un: ¬ IsFst rs n∧ ¬ IsSec L rs n∧ ¬ IsBlk L rs n
theorem TabIn.ls (b:TabIn L L' rs r j s k n) (hL:L.length≤256):(s+32768)%32768=s:=by have:=b.sin;omega
theorem TabIn.ln (b:TabIn L L' rs r j s k n) (hL:L.length≤256):(n+32768)%32768=n:=by have:=b.nin;omega
theorem TabIn.other (h:SoundL L rs) (b:TabIn L L' rs r j s k n) {x:Nat} (hx:IsSec L rs x∨x=s):cl L' x=cl L x:=by
 refine b.put.same x fun e=> ?_
 rcases hx with y | y
 · exact h.fs _ ⟨r,b.hr,e.symm⟩ y
 · exact b.us.1 ⟨r,b.hr,by rw [← e];exact y⟩
theorem TabIn.fst (b:TabIn L L' rs r j s k n) {r':RootR} (hne:r'.N≠r.N):cl L' r'.N=cl L r'.N:=b.put.same _ hne
theorem TabIn.isSec (h:SoundL L rs) (b:TabIn L L' rs r j s k n) (x:Nat) (hx:IsSec L' rs x):IsSec L rs x∨x=s:=by
 obtain ⟨r',hr',q,hq,h0,e⟩:=hx
 by_cases e1:r'.N=r.N
 · rw [e1] at h0 e
   by_cases e2:q=j
   · subst e2
     rw [b.put.now,b.ls h.len] at e
     exact Or.inr e.symm
   · rw [b.put.oth q (by omega) e2] at h0 e
     exact Or.inl ⟨r,b.hr,q,hq,h0,e⟩
 · unfold nm at h0 e
   rw [b.fst e1] at h0 e
   exact Or.inl ⟨r',hr',q,hq,h0,e⟩
theorem TabIn.isBlk (h:SoundL L rs) (b:TabIn L L' rs r j s k n) (x:Nat) (hx:IsBlk L' rs x):IsBlk L rs x∨x=n:=by
 obtain ⟨s',hs',q,hq,h0,e⟩:=hx
 have hs:=b.isSec h s' hs'
 unfold nm at h0 e
 rw [b.other h hs] at h0 e
 rcases hs with y | y
 · exact Or.inl ⟨s',y,q,hq,h0,e⟩
 · subst y
   by_cases e2:q=k
   · subst e2
     have:=b.tk
     unfold nm at this
     rw [this,b.ln h.len] at e
     exact Or.inr e.symm
   · have:=b.tq q hq e2
     unfold nm oldNum at this
     rw [this] at h0 e
     split at h0
     · exact absurd rfl h0
     · rename_i h3
       rw [if_neg h3] at e
       exact Or.inl ⟨_,⟨r,b.hr,j,b.hj,h3,rfl⟩,q,hq,h0,e⟩
theorem hit_plus {n m:Nat} (hn:(n+32768)%32768=n):hit (n+32768) m=if n=m then 1 else 0:=by
 unfold hit
 rw [hn]
 by_cases e:n=m
 · rw [if_pos e,if_pos ⟨by omega,e⟩]
 · rw [if_neg e,if_neg (fun z=>e z.2)]
theorem inOcc_old (L:List Clus) (t j m:Nat):sumFrom (fun q=>hit (oldNum L t j q) m) 32 0=if nm L t j=0 then 0 else inOcc L (nm L t j%32768) m:=by
 unfold oldNum inOcc
 by_cases e:nm L t j=0
 · simp only [e,if_true]
   exact sumFrom_zero _ _ fun q _ _=>hit_zero m
 · simp only [e,if_false]
theorem TabIn.use (h:SoundL L rs) (b:TabIn L L' rs r j s k n) (m:Nat):
   useOf L' rs m+(hit (nm L r.N j) m+hit (oldNum L r.N j k) m)=useOf L rs m+((if s=m then 1 else 0)+if n=m then 1 else 0):=by
 have hin:inOcc L s m+hit (oldNum L r.N j k) m=(if nm L r.N j=0 then 0 else inOcc L (nm L r.N j%32768) m)+hit (n+32768) m:=by
   have:=sumFrom_one (f:=fun q=>hit (nm L s q) m) (g:=fun q=>hit (oldNum L r.N j q) m) (a:=k) 32 0 (by omega) (by have:=b.hk;omega) (fun q _ hq hne=>by rw [b.tq q (by omega) hne])
   simp only [b.tk] at this
   rw [inOcc_old] at this
   exact this
 have hsec: ∀ r' ∈ rs,∀ q,q<2→(r'.N≠r.N∨q≠j)→secOcc L' r'.N q m=secOcc L r'.N q m:=by
   intro r' hr' q hq hne
   have e:nm L' r'.N q=nm L r'.N q:=by
     by_cases e1:r'.N=r.N
     · rw [e1];exact b.put.oth q (by omega) (by rcases hne with z | z;exact absurd e1 z;exact z)
     · unfold nm;rw [b.fst e1]
   refine secOcc_same (by rw [e];exact SameN.refl _) fun h0 k' hk'=> ?_
   unfold nm
   rw [b.other h (Or.inl ⟨r',hr',q,hq,h0,rfl⟩)]
   exact SameN.refl _
 have hat:secOcc L' r.N j m+(hit (nm L r.N j) m+hit (oldNum L r.N j k) m)=secOcc L r.N j m+((if s=m then 1 else 0)+if n=m then 1 else 0):=by
   rw [← hit_plus (b.ls h.len),← hit_plus (b.ln h.len)]
   have e:inOcc L' s m=inOcc L s m:=inOcc_same fun q hq=>by unfold nm;rw [b.other h (Or.inr rfl)];exact SameN.refl _
   unfold secOcc
   rw [b.put.now,if_neg (by omega),b.ls h.len,e]
   by_cases z:nm L r.N j=0
   · rw [if_pos z] at hin ⊢
     rw [z,hit_zero]
     omega
   · rw [if_neg z] at hin ⊢
     omega
 exact use_change h.nodup ⟨r,b.hr,rfl⟩ (fun r' hr' hne=>by
   unfold treeOcc
   rw [hsec r' hr' 0 (by omega) (Or.inl hne),hsec r' hr' 1 (by omega) (Or.inl hne)]) (tree_change b.hj (fun q hq hne=>hsec r b.hr q hq (Or.inr hne)) hat)
theorem TabIn.sound (h:SoundL L rs) (b:TabIn L L' rs r j s k n):SoundL L' rs:=by
 have hf:=h.fst r b.hr
 have hc:=fun m hm=>b.put.count hf.1 m hm
 have hlen:=h.len
 have hj:=b.hj
 refine ⟨by rw [b.put.len];exact h.len,by rw [b.put.len];exact h.six,fun r' hr'=>by rw [b.put.len];exact h.fst r' hr',h.nodup,fun r' hr' i h1 h2=> ?_,fun x hx=> ?_,fun x hx=> ?_,fun t ht x=> ?_,fun t ht x=> ?_,fun t ht x=> ?_,fun m hm=> ?_,fun m hm=>by rw [hc m hm];exact h.top m hm,fun m hm hl=>by rw [hc m hm];exact h.none m hm (by rw [← b.put.len];exact hl),fun r' hr' q hq hm=> ?_,fun x hx q hq hm=> ?_⟩
 · by_cases e1:r'.N=r.N
   · rw [e1,b.put.oth i h2 (by omega),← e1];exact h.zero r' hr' i h1 h2
   · unfold nm;rw [b.fst e1];exact h.zero r' hr' i h1 h2
 · rw [b.put.len]
   rcases b.isSec h x hx with y | y
   · exact h.sec x y
   · rw [y];exact b.sin
 · rw [b.put.len]
   rcases b.isBlk h x hx with y | y
   · exact h.blk x y
   · rw [y];exact b.nin
 · rcases b.isSec h t x with y | y
   · exact h.fs t ht y
   · rw [y] at ht;exact b.us.1 ht
 · rcases b.isBlk h t x with y | y
   · exact h.fb t ht y
   · rw [y] at ht;exact b.un.1 ht
 · rcases b.isSec h t ht with z | z
   · rcases b.isBlk h t x with y | y
     · exact h.sb t z y
     · rw [y] at z;exact b.un.2.1 z
   · rcases b.isBlk h t x with y | y
     · rw [z] at y;exact b.us.2.2 y
     · exact b.ne (z.symm.trans y)
 · rw [hc m hm]
   have h1:=b.use h m
   have h2:=h.cnt m hm
   have e1:=b.sin
   have e2:=b.nin
   have e3:=b.ne
   have e4:=b.cs
   have e5:=b.cn
   by_cases z:s=m
   · subst z
     rw [if_pos rfl,if_neg (fun e=>e3 e.symm),use_none h b.us] at h1
     rw [base6_eq,if_neg (by omega)]
     omega
   · rw [if_neg z] at h1
     by_cases z2:n=m
     · subst z2
       rw [if_pos rfl,use_none h b.un] at h1
       rw [base6_eq,if_neg (by omega)]
       omega
     · rw [if_neg z2] at h1;omega
 · by_cases e1:r'.N=r.N
   · rw [e1] at hm ⊢
     by_cases e2:q=j
     · subst e2
       rw [b.put.now,b.ls h.len,hc _ (by have:=b.sin;omega)]
       exact b.cs
     · rw [b.put.oth q (by omega) e2] at hm ⊢
       have hx:=h.sec _ ⟨r,b.hr,q,hq,by omega,rfl⟩
       rw [hc _ (by omega)]
       exact h.mark1 r b.hr q hq hm
   · have e:nm L' r'.N q=nm L r'.N q:=by unfold nm;rw [b.fst e1]
     rw [e] at hm ⊢
     have hx:=h.sec _ ⟨r',hr',q,hq,by omega,rfl⟩
     rw [hc _ (by omega)]
     exact h.mark1 r' hr' q hq hm
 · have hs:=b.isSec h x hx
   have e:nm L' x q=nm L x q:=by unfold nm;rw [b.other h hs]
   rw [e] at hm ⊢
   rcases hs with y | y
   · have hy:=h.blk _ ⟨x,y,q,hq,by omega,rfl⟩
     rw [hc _ (by omega)]
     exact h.mark2 x y q hq hm
   · subst y
     by_cases e2:q=k
     · subst e2
       rw [b.tk,b.ln h.len,hc _ (by have:=b.nin;omega)]
       exact b.cn
     · rw [b.tq q hq e2] at hm ⊢
       unfold oldNum at hm ⊢
       split at hm
       · omega
       · rename_i h3
         rw [if_neg h3]
         have hss:IsSec L rs (nm L r.N j%32768):=⟨r,b.hr,j,b.hj,h3,rfl⟩
         have hy:=h.blk _ ⟨_,hss,q,hq,by omega,rfl⟩
         rw [hc _ (by omega)]
         exact h.mark2 _ hss q hq hm
theorem TabIn.content (h:SoundL L rs) (b:TabIn L L' rs r j s k n) {r':RootR} (hr':r' ∈ rs):
   contentOf L' r'.N=if r'.N=r.N then (contentOf L r'.N).set (32*j+k) (cl L n) else contentOf L r'.N:=by
 have hbl: ∀ x,IsBlk L rs x→cl L' x=cl L x:=fun x hx=>b.put.same x fun e=>h.fb _ ⟨r,b.hr,e.symm⟩ hx
 have hn:cl L' n=cl L n:=b.put.same n fun e=>b.un.1 ⟨r,b.hr,e.symm⟩
 have hj:=b.hj
 have hk:=b.hk
 have hss:=b.other h (Or.inr rfl:IsSec L rs s∨s=s)
 have key: ∀ c,c<64→(r'.N≠r.N∨c≠32*j+k)→blkOf L' r'.N c=blkOf L r'.N c:=by
   intro c hc hne
   have e:numAt L' r'.N c=numAt L r'.N c:=by
     by_cases e1:r'.N=r.N
     · by_cases e2:c / 32=j
       · have hq:c%32≠k:=by rcases hne with z | z;exact absurd e1 z;omega
         have h1:=b.put.now
         have h2:=b.tq (c%32) (by omega) hq
         unfold nm oldNum at h2
         unfold nm at h1
         unfold numAt
         rw [e1,e2,h1,if_neg (by omega),b.ls h.len,hss,h2]
       · have h1:=b.put.oth (c / 32) (by omega) e2
         unfold nm at h1
         unfold numAt
         rw [e1,h1]
         by_cases h0:num (cl L r.N) (2*(c / 32))=0
         · rw [if_pos h0,if_pos h0]
         · rw [if_neg h0,if_neg h0,b.other h (Or.inl ⟨r,b.hr,c / 32,by omega,h0,rfl⟩)]
     · unfold numAt
       rw [b.fst e1]
       by_cases h0:num (cl L r'.N) (2*(c / 32))=0
       · rw [if_pos h0,if_pos h0]
       · rw [if_neg h0,if_neg h0,b.other h (Or.inl ⟨r',hr',c / 32,by omega,h0,rfl⟩)]
   exact blkOf_same (by rw [e];exact SameN.refl _) (fun h0=>hbl _ (numAt_isBlk hr' hc h0))
 by_cases e:r'.N=r.N
 · rw [if_pos e]
   apply List.ext_getElem?
   intro c
   rw [List.getElem?_set]
   by_cases hc:c<64
   · by_cases e2:32*j+k=c
     · rw [if_pos e2,if_pos (by rw [contentOf_length];omega),contentOf_get _ _ _ hc,blkOf_numAt]
       have e3:numAt L' r'.N c=n+32768:=by
         have h1:=b.put.now
         have h2:=b.tk
         unfold nm at h1 h2
         unfold numAt
         rw [e,show c / 32=j by omega,show c%32=k by omega,h1,if_neg (by omega),b.ls h.len,hss]
         exact h2
       rw [e3,if_neg (by omega),b.ln h.len,hn]
     · rw [if_neg e2,contentOf_get _ _ _ hc,contentOf_get _ _ _ hc,key c hc (Or.inr (fun z=>e2 z.symm))]
   · rw [if_neg (by omega),List.getElem?_eq_none (by rw [contentOf_length];omega),List.getElem?_eq_none (by rw [contentOf_length];omega)]
 · rw [if_neg e]
   exact content_ext fun c hc=>key c hc (Or.inl e)
end
section
variable {L:List Clus} {rs:List RootR} {b:Int} {R:FileR}
theorem SoundL.isBlk1 {L:List Clus} {rs:List RootR} {r:RootR} (hr:r ∈ rs) {j k:Nat} (hj:j<2) (hk:k<32) (h0:nm L r.N j≠0) (h1:nm L (nm L r.N j%32768) k≠0):IsBlk L rs (nm L (nm L r.N j%32768) k%32768):=
 ⟨_,⟨r,hr,j,hj,h0,rfl⟩,k,hk,h1,rfl⟩
theorem SoundL.toExact (h:SoundL L rs) (x:ExactS L rs):ExactL L rs:=by
 refine ⟨h.len,h.six,h.ok,h.zero,fun n hn=> ?_,h.top,fun i hi j hj=> ?_⟩
 · rw [x.eq n hn,← occ_allTells h.zero];rfl
 · have hr:rs.getD i ⟨0,0,[]⟩ ∈ rs:=by
     rw [List.getD_eq_getElem?_getD,List.getElem?_eq_getElem hi]
     exact List.getElem_mem hi
   refine ⟨fun h0=>⟨fun hm=>h.mark1 _ hr j hj hm,fun hc=>x.lone1 _ hr j hj h0 hc⟩,fun h0 k hk h1=> ?_⟩
   have hs:IsSec L rs (nm L (rs.getD i ⟨0,0,[]⟩).N j%32768):=⟨_,hr,j,hj,h0,rfl⟩
   exact ⟨fun hm=>h.mark2 _ hs k hk hm,fun hc=>x.lone2 _ hs k hk h1 hc⟩
theorem SoundL.used (h:SoundL L rs) (hT:Told L rs b base6 (allTells L rs rs.length 0) R) (n:Nat) (hn:n<256):R.used.getD n 0=base6 n+useOf L rs n:=by
 rw [hT.used n hn,← occ_allTells h.zero];rfl
theorem SoundL.counts (h:SoundL L rs) (hT:Told L rs b base6 (allTells L rs rs.length 0) R):countsFrom R 256 0= -1:=by
 refine countsFrom_good 256 0 fun j _ hj=> ?_
 have h1:=h.used hT j (by omega)
 have h2:=h.top j (by omega)
 have h3:=h.cnt j (by omega)
 unfold badCount usedOf
 rw [h1,hT.hL]
 have e1:decide (countOf L j<base6 j+useOf L rs j)=false:=by simp;omega
 have e2:(countOf L j == 255)=false:=by rw [beq_eq_false_iff_ne];omega
 rw [e1,e2,Bool.and_false,Bool.false_or,Bool.false_or]
 by_cases hl:L.length≤j
 · rw [h.none j (by omega) hl];simp
 · rw [decide_eq_false hl];rfl
theorem notBad (h:SoundL L rs) (hT:Told L rs b base6 (allTells L rs rs.length 0) R) (x:Nat) (hx:x%32768<256) (hu:1≤useOf L rs (x%32768)) (hm:32768≤x→countOf L (x%32768)=1):markBad R x=false:=by
 unfold markBad
 by_cases e:32768≤x
 · have h1:=h.used hT _ hx
   have h2:=h.cnt _ hx
   have h3:=hm e
   rw [if_pos e,hT.hL,h3,show R.used.getD (x%32768) 0=1 by omega]
   rfl
 · rw [if_neg e]
theorem markedIn_sound (t:Nat) (hx: ∀ k,k<32→num (cl R.L t) (2*k)≠0→markBad R (num (cl R.L t) (2*k))=false): ∀ (m k acc:Nat),k+m≤32→ ∃ a,markedIn R t m k acc=some a
 | 0,_,acc,_=>⟨acc,rfl⟩
 | m+1,k,acc,hm=>by
   rw [markedIn]
   by_cases h0:num (cl R.L t) (2*k)=0
   · rw [if_pos h0];exact markedIn_sound t hx m (k+1) acc (by omega)
   · rw [if_neg h0,hx k (by omega) h0]
     exact markedIn_sound t hx m (k+1) _ (by omega)
theorem markedOut_sound (t:Nat) (hx: ∀ i,i<2→num (cl R.L t) (2*i)≠0→markBad R (num (cl R.L t) (2*i))=false∧ ∀ k,k<32→num (cl R.L (num (cl R.L t) (2*i)%32768)) (2*k)≠0→markBad R (num (cl R.L (num (cl R.L t) (2*i)%32768)) (2*k))=false): ∀ (m i acc:Nat),i+m≤2→(markedOut R t m i acc).1= -1
 | 0,_,_,_=>rfl
 | m+1,i,acc,hm=>by
   rw [markedOut]
   by_cases h0:num (cl R.L t) (2*i)=0
   · rw [if_pos h0];exact markedOut_sound t hx m (i+1) acc (by omega)
   · obtain ⟨h1,h2⟩:=hx i (by omega) h0
     obtain ⟨a,ha⟩:=markedIn_sound (R:=R) _ h2 32 0 (acc+markNone R (num (cl R.L t) (2*i))) (by omega)
     rw [if_neg h0,h1,ha]
     exact markedOut_sound t hx m (i+1) a (by omega)
theorem SoundL.marked (h:SoundL L rs) (hT:Told L rs b base6 (allTells L rs rs.length 0) R) (i:Nat) (hi:i<rs.length):(marked R (rootOf R i)).1= -1:=by
 have hr:rootOf R i=rs.getD i ⟨0,0,[]⟩:=by unfold rootOf;rw [hT.hR]
 have hmem:rs.getD i ⟨0,0,[]⟩ ∈ rs:=by
   rw [List.getD_eq_getElem?_getD,List.getElem?_eq_getElem hi]
   exact List.getElem_mem hi
 have hl:=h.len
 unfold Go.Proofs.YtknjjjenklfeoaaGreatDoor.marked
 refine markedOut_sound _ (fun j hj h0=> ?_) 2 0 0 (by omega)
 rw [hr] at h0 ⊢
 rw [hT.hL] at h0 ⊢
 have hs:IsSec L rs (nm L (rs.getD i ⟨0,0,[]⟩).N j%32768):=⟨_,hmem,j,hj,h0,rfl⟩
 have hsr:=h.sec _ hs
 refine ⟨notBad h hT _ (by unfold nm at hsr;omega) (use_sec hs) (fun hm=>h.mark1 _ hmem j hj hm),fun k hk h1=> ?_⟩
 have hb:=SoundL.isBlk1 hmem hj hk h0 h1
 have hbr:=h.blk _ hb
 exact notBad h hT _ (by unfold nm at hbr;omega) (use_blk hb) (fun hm=>h.mark2 _ hs k hk hm)
theorem SoundL.marks (h:SoundL L rs) (hT:Told L rs b base6 (allTells L rs rs.length 0) R): ∀ (m i:Nat),i+m≤rs.length→marksFrom R m i (-1)= -1
 | 0,_,_=>rfl
 | m+1,i,hm=>by
   rw [marksFrom,if_pos (by decide),h.marked hT i (by omega)]
   exact h.marks hT m (i+1) (by omega)
theorem look_sound {file:List Clus} (hh:headGood file=true) (hl:(listOf (R1of file)).1=true) (hx:SoundL (R1of file).L (listOf (R1of file)).2):
   (look file).bad= -1∧(look file).L=(R1of file).L∧(look file).roots=(listOf (R1of file)).2∧(∀ n,n<256→(look file).used.getD n 0=base6 n+useOf (R1of file).L (listOf (R1of file)).2 n)∧Low 1000 (look file):=by
 have T0:Told (R1of file).L (listOf (R1of file)).2 (-1) base6 [] (R2of file):=
   ⟨rfl,rfl,rfl,zeros256_length,used6_length,fun x hx=>by simp at hx,fun n _=>by
     show zeros256.getD n 0=0
     unfold zeros256
     rw [List.getD_eq_getElem?_getD,List.getElem?_replicate]
     split <;> rfl,fun n _=>rfl⟩
 obtain ⟨h1,h2⟩:=treesFrom_told hx.len hx.zero (listOf (R1of file)).2.length 0 [] (R2of file) (by omega) T0 hx.ok
 rw [List.nil_append] at h2
 have h1':(R3of file).1=true:=h1
 have h2':Told (R1of file).L (listOf (R1of file)).2 (-1) base6 (allTells (R1of file).L (listOf (R1of file)).2 (listOf (R1of file)).2.length 0) (R3of file).2:=h2
 have e:look file={ (R3of file).2 with bad:=marksFrom (R3of file).2 (R3of file).2.roots.length 0 (countsFrom (R3of file).2 256 0) }:=by
   unfold look
   rw [if_neg (by rw [hh];decide),if_neg (by rw [hl];decide),if_neg (by rw [h1'];decide)]
 clear h1 h2 T0 h1'
 generalize R3of file=Q at h2' e
 have h3:Told (R1of file).L (listOf (R1of file)).2 (-1) base6 (allTells (R1of file).L (listOf (R1of file)).2 (listOf (R1of file)).2.length 0) (look file):=by
   rw [e,hx.counts h2',h2'.hR,hx.marks h2' _ 0 (by omega)]
   exact ⟨h2'.hL,h2'.hR,rfl,h2'.tl,h2'.ul,h2'.told,h2'.none,h2'.used⟩
 refine ⟨h3.hB,h3.hL,h3.hR,fun n hn=>hx.used h3 n hn,fun n=> ?_⟩
 by_cases hn:n<256
 · rw [hx.used h3 n hn]
   have:=hx.top n hn
   have:=hx.cnt n hn
   omega
 · rw [List.getD_eq_getElem?_getD,List.getElem?_eq_none (by rw [h3.ul];omega)]
   exact Nat.zero_le _
theorem SoundL.inFile (h:SoundL L rs) {r:RootR} (hr:r ∈ rs):InFile L r.N:=by
 refine ⟨(h.fst r hr).2,fun i hi h0=>(h.sec _ ⟨r,hr,i,hi,h0,rfl⟩).2,fun i hi h0 k hk=> ?_⟩
 by_cases h1:nm L (nm L r.N i%32768) k=0
 · unfold nm at h1
   rw [h1]
   have:=h.six
   omega
 · exact (h.blk _ (SoundL.isBlk1 hr hi hk h0 h1)).2
end
def toldAll (C:List Clus) (f:Nat):List Nat:=(toldBy (numsOf (cl C f))).flatMap fun s=>s :: toldBy (numsOf (cl C s))
def heldAll (C:List Clus) (f:Nat):List Nat:=f :: toldAll C f
def plus1 (k:List UInt8) (n:Nat):List UInt8:=k.set n (UInt8.ofNat ((byteAt k n+1)%256))
def plus (k:List UInt8) (us:List Nat):List UInt8:=us.foldl plus1 k
def fitsB:List UInt8→List Nat→Bool
 | _,[]=>true
 | k,u :: us=>decide (byteAt k u<254) && fitsB (plus1 k u) us
theorem plus1_length (k:List UInt8) (n:Nat):(plus1 k n).length=k.length:=by simp [plus1]
theorem plus_length (us:List Nat): ∀ k:List UInt8,(plus k us).length=k.length:=by
 induction us with
 | nil=>intro k;rfl
 | cons u r ih=>intro k;show (plus (plus1 k u) r).length=_;rw [ih,plus1_length]
theorem plus_snoc (k:List UInt8) (us:List Nat) (u:Nat):plus k (us++[u])=plus1 (plus k us) u:=by simp [plus]
theorem fitsB_snoc (us:List Nat) (u:Nat): ∀ k,fitsB k (us++[u])=(fitsB k us && decide (byteAt (plus k us) u<254)):=by
 induction us with
 | nil=>
   intro k
   show (decide (byteAt k u<254) && true)=(true && decide (byteAt k u<254))
   rw [Bool.and_true,Bool.true_and]
 | cons a r ih=>
   intro k
   rw [List.cons_append,fitsB,fitsB,ih,Bool.and_assoc];rfl
theorem fitsB_pre {us pre:List Nat} {k:List UInt8} (h:pre <+: us) (hf:fitsB k pre=false):fitsB k us=false:=by
 obtain ⟨r,rfl⟩:=h
 induction pre generalizing k with
 | nil=>simp [fitsB] at hf
 | cons a p ih=>
   rw [fitsB,Bool.and_eq_false_iff] at hf
   rw [List.cons_append,fitsB,Bool.and_eq_false_iff]
   rcases hf with x | x
   · exact Or.inl x
   · exact Or.inr (ih x)
theorem plus1_get (k:List UInt8) (n m:Nat) (hn:n<k.length) (h1:byteAt k n<255):byteAt (plus1 k n) m=if n=m then byteAt k n+1 else byteAt k m:=by
 unfold plus1
 rw [byteAt_set _ _ _ _ hn,toNat_ofNat _ (by omega)]
 by_cases e:n=m
 · rw [if_pos e,if_pos e];omega
 · rw [if_neg e,if_neg e]
theorem plus_get: ∀ (us:List Nat) (k:List UInt8) (m:Nat),(∀ u ∈ us,u<k.length)→fitsB k us=true→byteAt (plus k us) m=byteAt k m+us.count m
 | [],_,_,_,_=>rfl
 | u :: us,k,m,hl,hf=>by
   rw [fitsB,Bool.and_eq_true,decide_eq_true_iff] at hf
   show byteAt (plus (plus1 k u) us) m=_
   rw [plus_get us (plus1 k u) m (fun x hx=>by rw [plus1_length];exact hl x (by simp [hx])) hf.2,plus1_get k u m (hl u (by simp)) (by omega),List.count_cons]
   by_cases e:u=m
   · subst e;simp;omega
   · rw [if_neg e,if_neg (by simp [e])];omega
theorem fits_iff: ∀ (us:List Nat) (k:List UInt8),(∀ u ∈ us,u<k.length)→(fitsB k us=true↔ ∀ u ∈ us,byteAt k u+us.count u≤254)
 | [],_,_=>by simp [fitsB]
 | u :: us,k,hl=>by
   rw [fitsB,Bool.and_eq_true,decide_eq_true_iff]
   have ih:=fits_iff us (plus1 k u) (fun x hx=>by rw [plus1_length];exact hl x (by simp [hx]))
   constructor
   · rintro ⟨h1,h2⟩ x hx
     rw [List.count_cons]
     by_cases hm:x ∈ us
     · have:=ih.1 h2 x hm
       rw [plus1_get k u x (hl u (by simp)) (by omega)] at this
       by_cases e:u=x
       · subst e;simp at this ⊢;omega
       · rw [if_neg e] at this;rw [if_neg (by simp [e])];omega
     · rcases List.mem_cons.1 hx with e | e
       · subst e;rw [List.count_eq_zero.2 hm];simp;omega
       · exact absurd e hm
   · intro h
     have hu:=h u (by simp)
     rw [List.count_cons] at hu
     simp only [beq_self_eq_true,if_true] at hu
     refine ⟨by omega,ih.2 fun x hx=> ?_⟩
     rw [plus1_get k u x (hl u (by simp)) (by omega)]
     have:=h x (by simp [hx])
     rw [List.count_cons] at this
     by_cases e:u=x
     · subst e;simp at this ⊢;omega
     · rw [if_neg (by simp [e])] at this;rw [if_neg e];omega
end Go.Proofs.YtknjjjenklfeoaaGreatDoor
namespace Go.Proofs.YtknjjjenklfeoaaGreatDoor
open Go.RowKit
attribute [local go_sem ↓] loadVar_clus storeVar_clus zeroValue_clus loadVar_cont storeVar_cont zeroValue_cont build_disk equalIn_cont
attribute [local go_sem] run_loadClus run_storeClus run_zeroClus run_storeClus_new run_loadClus_new zc_length run_loadCont run_storeCont run_zeroCont run_bDisk
theorem setList_flatC_tail (D:List Clus) (hD: ∀ c ∈ D,c.length=64) (k:Nat) (hk:k<D.length) (c:Clus) (hc:c.length=64) (rest:List Value):setList (flatC D++rest).toArray (k*64) (cv c)=(flatC (D.set k c)++rest).toArray:=by
 have hl:=flatC_length D hD
 have e:=setList_flatC D hD k hk c hc
 have hl':(flatC (D.set k c)).length=(flatC D).length:=by
   have:=congrArg Array.size e
   rw [setList_size] at this
   simpa using this.symm
 apply Array.ext_getElem?
 intro i
 have e2:(setList (flatC D).toArray (k*64) (cv c))[i]? = (flatC (D.set k c)).toArray[i]? := by rw [e]
 rw [setList_get (cv c) _ _ i (by rw [cv_length,hc];simp;omega),List.getElem?_toArray,List.getElem?_toArray] at e2
 rw [setList_get (cv c) _ _ i (by rw [cv_length,hc];simp;omega),List.getElem?_toArray,List.getElem?_toArray]
 by_cases hi:i<(flatC D).length
 · rw [List.getElem?_append_left (by omega),List.getElem?_append_left (by omega)];exact e2
 · rw [if_neg (by rw [cv_length,hc];omega),List.getElem?_append_right (by omega),List.getElem?_append_right (by omega),hl']
theorem DiskAt.setBlock {w:World} {d:Nat} {Pv:Value} {D:DiskR} (h:DiskAt w d Pv D) (k:Nat) (hk:k<64) (c:Clus) (hc:c.length=64):DiskAt (w.setCells d (k*64) (cv c)) d Pv { D with C:=D.C.set k c }:=by
 have hkl:k<D.C.length:=by have:=h.cont.len;omega
 have hkept:Kept (fun x=>x=d) w (w.setCells d (k*64) (cv c)):=(Kept.refl (fun x=>x=d) w).setCells (b:=d) (Or.inl rfl) _ _
 refine ⟨?_,ownsRow_kept hkept h.row h.neP,⟨?_,by simp [h.cont.len]⟩,h.pics⟩
 · rw [heap_setCells_same _ _ _ _ _ _ _ h.blk]
   rw [diskCells,setList_flatC_tail D.C h.cont.all k hkl c hc]
   rfl
 · intro x hx
   rcases List.mem_or_eq_of_mem_set hx with y | y
   · exact h.cont.all x y
   · rw [y];exact hc
def refWriteR (D:DiskR) (n:Int) (c:Clus):DiskR × Nat:=if blockB n then ({ D with C:=D.C.set n.toNat c },0) else (D,1)
theorem refWrite_any (w:World) (d:Nat) (Pv:Value) (D:DiskR) (h:DiskAt w d Pv D) (n:Int) (c:Clus) (hc:c.length=64):
   Calls Tryz.prog 118 #[.pointer (some ⟨d,0,none⟩),.int .i64 n,.agg (cv c).toArray] w fun e w'=>
     e= .returned (.int .i64 ((refWriteR D n c).2:Nat))∧DiskAt w' d Pv (refWriteR D n c).1∧Kept (fun x=>x=d) w w':=by
 have hB:Below w.heap.size w (w.alloc (.cells (cv c).toArray 38)):=(Below.refl _ _).alloc (Nat.le_refl _) _
 have hW:=h.below hB
 have hbx:(w.alloc (.cells (cv c).toArray 38)).heap[w.heap.size]? = some (.cells (cv c).toArray 38 (0,0)):=heap_alloc_new _ _
 have Hi:=hide (isBlock_any n (w.alloc (.cells (cv c).toArray 38)))
 have Hr:Hid (refWriteR D n c=if blockB n then ({ D with C:=D.C.set n.toNat c },0) else (D,1)):=rfl
 cases hb:blockB n with
 | false=>
   rw [hb] at Hi Hr
   rw [if_neg (by decide)] at Hr
   have HW:=hide hW
   have HB:=hide hB
   clear hW hbx hB
   go_enter Tryz.func118,Tryz.ntmps118
   go_wp2_with fail
   refine (uh Hi).mono ?_
   rintro e w1 ⟨rfl,rfl⟩
   go_wp2
   go_ret
   rw [uh Hr]
   exact ⟨rfl,uh HW,Kept.of_below (uh HB)⟩
 | true=>
   rw [hb] at Hi Hr
   rw [if_pos rfl] at Hr
   have hn:0≤n∧n<64:=by simpa [blockB] using hb
   obtain ⟨k,rfl⟩:=Int.eq_ofNat_of_zero_le hn.1
   rw [Int.toNat_natCast] at Hr
   have hk:k<64:=by omega
   have hki:(k:Int)<64:=by omega
   have HW:=hide hW
   have HB:=hide hB
   clear hb hn
   have l1:HasAt (w.alloc (.cells (cv c).toArray 38)).drew w.heap.size 0 64:=box_has hbx hc
   have l2:cellsAt (w.alloc (.cells (cv c).toArray 38)).drew w.heap.size 0 64=cv c:=box_cells hbx hc
   have ht:(w.alloc (.cells (cv c).toArray 38)).drew.there d (k*64) 64:=there_blk (w:=w.alloc (.cells (cv c).toArray 38)) hW.blk _ _ (by simp [diskCells,hW.cont.flat];omega)
   have Hs:=hide ((uh HW).kept (S:=fun _=>False) ((Kept.refl _ _).drew) id (fun _ _=>id))
   clear hW hbx hB
   go_enter Tryz.func118,Tryz.ntmps118
   go_wp2_with fail
   refine (uh Hi).mono ?_
   rintro e w1 ⟨rfl,rfl⟩
   clear Hi
   generalize w.alloc (.cells (cv c).toArray 38)=W at*
   go_wp2
   go_region
   all_goals
     go_wp2
     go_ret
     rw [uh Hr]
     exact ⟨rfl,(uh Hs).setBlock k hk c hc,Kept.setCells (S:=fun x=>x=d) (Kept.of_below (uh HB)).drew (b:=d) (Or.inl rfl) _ _⟩
def diskOf (R:FileR):DiskR:=⟨contentOf R.L (rootOf R 0).N,(List.range (R.roots.length - 1)).map fun i=>⟨(rootOf R (i+1)).name,contentOf R.L (rootOf R (i+1)).N⟩⟩
end Go.Proofs.YtknjjjenklfeoaaGreatDoor
namespace Go.Proofs.YtknjjjenklfeoaaGreatDoor
open Go.RowKit
theorem picCells_length {p:PicR} (h:Cont p.C):(picCells p).length=4097:=by simp [picCells,h.flat]
theorem picCells_one (p:PicR): ∀ v ∈ picCells p,v.oneCell'=true:=by
 intro v hv
 rcases List.mem_cons.1 hv with rfl | h
 · rfl
 · exact flatC_one p.C v h
def loadPic (a:Addr):Sem Value:=loadVar 139 a
theorem loadVar_pic (a:Addr):loadVar 139 a=loadPic a:=rfl
theorem run_loadPic {w:World} {b o:Nat} (h:HasAt w b o 4097):(loadPic ⟨b,o,none⟩).run Tryz.prog w= .ok (.agg (cellsAt w b o 4097).toArray) w:=
 run_loadVar_has h 139 _ Tryz.underlying139 rfl (by kernel_rfl)
def bsPic (parts:Array (Nat × Value)):Sem Value:=Instr.buildSlice 68 1 parts
theorem buildSlice_pic (parts:Array (Nat × Value)):Instr.buildSlice 68 1 parts=bsPic parts:=rfl
theorem run_bsPic {w:World} {p:PicR} (h:Cont p.C):(bsPic #[(0,.agg (picCells p).toArray)]).run Tryz.prog w= .ok (.slice (some ⟨w.heap.size,0,none⟩) 1 1) (w.alloc (.cells (picCells p).toArray 139)):=
 run_buildSlice_one w 68 139 4097 (.agg (picCells ⟨[],zD⟩).toArray) (.agg (picCells p).toArray) Tryz.underlying68 (by kernel_rfl) (by omega) (by omega) (by simp [Value.cells,picCells_length h])
theorem Tryz.infoPic:(Tryz.prog.info? 139).map (fun i=>(i.zero,i.size,i.bytes))=some (some (.agg (picCells ⟨[],zD⟩).toArray),4097,4112):=by kernel_rfl
def zpic:PicR:=⟨[],zD⟩
def picAt (Ps:List PicR) (k:Nat):PicR:=Ps.getD k zpic
theorem picAt_mem {Ps:List PicR} {k:Nat} (hk:k<Ps.length):picAt Ps k ∈ Ps:=by
 unfold picAt
 rw [List.getD_eq_getElem?_getD,List.getElem?_eq_getElem hk]
 exact List.getElem_mem hk
theorem pics_get: ∀ (Ps:List PicR),(∀ p ∈ Ps,Cont p.C)→ ∀ k,k<Ps.length→ ∀ j,j<4097→(Ps.flatMap picCells)[k*4097+j]? = (picCells (picAt Ps k))[j]?
 | [],_,k,hk,_,_=>by simp at hk
 | p :: r,h,k,hk,j,hj=>by
   have hl:=picCells_length (h p (by simp))
   rw [List.flatMap_cons]
   cases k with
   | zero=>rw [Nat.zero_mul,Nat.zero_add,List.getElem?_append_left (by omega)];rfl
   | succ k=>
     have ih:=pics_get r (fun q hq=>h q (by simp [hq])) k (by simpa using hk) j hj
     rw [List.getElem?_append_right (by rw [hl];omega),hl,show (k+1)*4097+j - 4097=k*4097+j by omega,ih]
     rfl
theorem pics_range {w:World} {base g cap:Nat} {Ps:List PicR} (h:w.ownsRow base 139 4097 (.slice (some ⟨g,0,none⟩) Ps.length cap) Ps.length (Ps.flatMap picCells)) (hp: ∀ p ∈ Ps,Cont p.C) (k:Nat) (hk:k<Ps.length):w.rangeAt g (k*4097) (picCells (picAt Ps k)):=fun j v hv=>by
 have hj:=(List.getElem?_eq_some_iff.1 hv).1
 rw [picCells_length (hp _ (picAt_mem hk))] at hj
 have:=h.cells (g:=g) rfl (k*4097+j) v (by rw [pics_get Ps hp k hk j hj];exact hv)
 have hadd:(⟨g,0,none⟩:Addr).add (k*4097+j)=⟨g,k*4097+j,none⟩:=by unfold Addr.add;split <;> simp_all
 rw [hadd] at this
 exact this
def eqPic (x y:Value):Sem Bool:=Op.equalIn 10000 139 x y
theorem equalIn_pic (x y:Value):Op.equalIn 10000 139 x y=eqPic x y:=rfl
theorem sizeOf_cont (w:World):(Go.sizeOf 67).run Tryz.prog w= .ok 4096 w:=by
 cases hq:Tryz.prog.info? 67 with
 | none=>
   have h:(Tryz.prog.info? 67).isSome=true:=by kernel_rfl
   exact absurd hq (by intro e;rw [e] at h;cases h)
 | some i=>
   have hz:(Tryz.prog.info? 67).map (·.size)=some 4096:=by kernel_rfl
   rw [hq] at hz
   simp at hz
   simp [Go.sizeOf,typeInfo,hq,hz]
theorem part_pic0 (p:PicR) (w:World):(part 9 (picCells p).toArray 0).run Tryz.prog w= .ok (.string (txt p.name)) w:=by
 have ha:(isAgg 9).run Tryz.prog w= .ok false w:=by unfold isAgg;rw [Sem.run_bind,run_underlying Tryz.underlying9 w];rfl
 unfold part
 rw [Sem.run_bind,ha]
 rfl
theorem part_pic1 (p:PicR) (hp:Cont p.C) (w:World):(part 67 (picCells p).toArray 1).run Tryz.prog w= .ok (.agg (flatC p.C).toArray) w:=by
 have ha:(isAgg 67).run Tryz.prog w= .ok true w:=by unfold isAgg;rw [Sem.run_bind,run_underlying Tryz.underlying67 w];rfl
 unfold part
 rw [Sem.run_bind,ha]
 simp only [Result.andThen_ok,if_true,Sem.run_bind,sizeOf_cont,Sem.run_pure]
 rw [show (picCells p).toArray.extract 1 (1+4096)=(flatC p.C).toArray by
   apply Array.ext'
   rw [Array.toList_extract]
   simp only [List.extract_eq_take_drop,picCells,List.drop_one,List.tail_cons,Nat.add_sub_cancel_left]
   exact List.take_of_length_le (by rw [hp.flat];exact Nat.le_refl _)]
def picEq (p q:PicR):Bool:=decide (p.name=q.name) && decide (p.C=q.C)
theorem run_eqPic {p q:PicR} (hp:Cont p.C) (hq:Cont q.C) (w:World):(eqPic (.agg (picCells p).toArray) (.agg (picCells q).toArray)).run Tryz.prog w= .ok (picEq p q) w:=by
 have hs:Tryz.prog.stoodInHeld 139=false:=by kernel_rfl
 have h0:(Op.equalIn 9999 9 (.string (txt p.name)) (.string (txt q.name))).run Tryz.prog w= .ok ((txt p.name).toList == (txt q.name).toList) w:=run_equalIn_string (P:=Tryz.prog) w 9998 9 (txt p.name) (txt q.name) Tryz.underlying9
 rw [txt_toList,txt_toList] at h0
 have h1:(Op.equalIn 9999 67 (.agg (flatC p.C).toArray) (.agg (flatC q.C).toArray)).run Tryz.prog w= .ok (decide (p.C=q.C)) w:=run_eq_cont 9996 p.C q.C hp.all hq.all hp.len hq.len w
 show (Op.equalIn (9999+1) 139 _ _).run Tryz.prog w=_
 rw [Op.equalIn]
 simp only [Sem.run_bind,run_underlying Tryz.underlying139,Result.andThen_ok,run_program,hs,Bool.false_eq_true,if_false]
 rw [← Array.forIn_toList]
 unfold picEq
 by_cases e:p.name=q.name
 · have e':(p.name == q.name)=true:=by simpa using e
   rw [e'] at h0
   rw [decide_eq_true e,Bool.true_and]
   by_cases e2:p.C=q.C
   · rw [decide_eq_true e2] at h1 ⊢
     simp only [List.forIn_cons,List.forIn_nil,Sem.run_bind,part_pic0,part_pic1 p hp,part_pic1 q hq,Result.andThen_ok,h0,h1,ne_eq,String.reduceEq,not_false_eq_true,if_true,Bool.not_true,Bool.false_eq_true,if_false,Sem.run_pure]
   · rw [decide_eq_false e2] at h1 ⊢
     simp only [List.forIn_cons,List.forIn_nil,Sem.run_bind,part_pic0,part_pic1 p hp,part_pic1 q hq,Result.andThen_ok,h0,h1,ne_eq,String.reduceEq,not_false_eq_true,if_true,Bool.not_true,Bool.not_false,Bool.false_eq_true,if_false,Sem.run_pure]
 · have e':(p.name == q.name)=false:=by simpa using e
   rw [e'] at h0
   rw [decide_eq_false e,Bool.false_and]
   simp only [List.forIn_cons,List.forIn_nil,Sem.run_bind,part_pic0,Result.andThen_ok,h0,ne_eq,String.reduceEq,not_false_eq_true,if_true,Bool.not_false,Sem.run_pure]
end Go.Proofs.YtknjjjenklfeoaaGreatDoor
namespace Go.Proofs.YtknjjjenklfeoaaGreatDoor
open Go.RowKit
attribute [local go_sem ↓] loadVar_clus storeVar_clus zeroValue_clus loadVar_cont storeVar_cont zeroValue_cont build_disk equalIn_cont loadVar_pic buildSlice_pic equalIn_pic build_pic
attribute [local go_sem] run_loadClus run_storeClus run_zeroClus run_storeClus_new run_loadClus_new zc_length run_loadCont run_storeCont run_zeroCont run_bDisk run_loadPic run_bsPic run_bPic
theorem DiskAt.growP {w w5:World} {d g5 cap5:Nat} {Pv:Value} {C:List Clus} {Ps:List PicR} {p:PicR} (h:DiskAt w d Pv ⟨C,Ps⟩) (hp:Cont p.C) (hne: ∀ g,Pv.ownBlock=some g→g≠d) (hg:w.grownBy w5 Pv.ownBlock)
   (hrow:w5.ownsRow 0 139 4097 (.slice (some ⟨g5,0,none⟩) (Ps.length+1) cap5) (Ps.length+1) (Ps.flatMap picCells++picCells p)) (hd:g5≠d):
   DiskAt (w5.setCell ⟨d,4096,none⟩ (.slice (some ⟨g5,0,none⟩) (Ps.length+1) cap5)) d (.slice (some ⟨g5,0,none⟩) (Ps.length+1) cap5) ⟨C,Ps++[p]⟩:=by
 have b5:=grown_blk hg h.blk hne
 have hfl:=h.cont.flat
 simp only at hfl
 refine ⟨?_,?_,h.cont,fun q hq=> ?_⟩
 · rw [heap_setCell_same _ _ _ _ _ _ _ b5]
   congr 2
   apply Array.ext_getElem?
   intro i
   rw [Array.getElem?_setIfInBounds,List.getElem?_toArray,List.getElem?_toArray]
   simp only [diskCells,List.size_toArray,List.length_append,List.length_singleton,hfl]
   by_cases e:4096=i
   · subst e
     rw [if_pos rfl,if_pos (by omega),List.getElem?_append_right (by omega),hfl];rfl
   · rw [if_neg e]
     by_cases hi:i<4096
     · rw [List.getElem?_append_left (by omega),List.getElem?_append_left (by omega)]
     · rw [List.getElem?_eq_none (by simp [hfl];omega),List.getElem?_eq_none (by simp [hfl];omega)]
 · have:=ownsRow_kept (Kept.only w5 d 4096 (.slice (some ⟨g5,0,none⟩) (Ps.length+1) cap5)) hrow (fun g hg e=>by simp only [Value.ownBlock,Option.some.injEq] at hg;omega)
   simpa using this
 · rcases List.mem_append.1 hq with x | x
   · exact h.pics q x
   · rw [List.mem_singleton.1 x];exact hp
theorem copied_any (w:World) (d:Nat) (Pv:Value) (D:DiskR) (h:DiskAt w d Pv D) (h4:D.L.length≤1000):
   Calls Tryz.prog 58 #[.pointer (some ⟨d,0,none⟩)] w fun e w'=>
     ∃ Qv,e= .returned (.pointer (some ⟨w.heap.size,0,none⟩))∧DiskAt w' w.heap.size Qv D∧(∀ g,Qv.ownBlock=some g→w.heap.size<g)∧Below w.heap.size w w':=by
 obtain ⟨C,L⟩:=D
 have l1:=h.has
 have l2:=h.cells
 have hA:=h.cont.all
 have hl:=h.cont.len
 have hC:=h.cont
 have hP:=h.pics
 obtain ⟨a,cap,hPv⟩:=row_form h.row
 subst hPv
 obtain ⟨i0,hi0,hz0,hz1,hz2⟩:=info_parts Tryz.infoPic
 have H:=hide h
 clear h
 simp only at l2 hA hl hC hP h4
 go_enter Tryz.func58,Tryz.ntmps58
 go_wp2
 go_loopw [4] (fun i w'=> ∃ (k:Nat) (Qv:Value),k≤L.length∧i= .int .i64 k∧DiskAt w' w.heap.size Qv ⟨C,L.take k⟩∧(∀ g,Qv.ownBlock=some g→w.heap.size<g)∧Below w.heap.size w w') (fun i _=>L.length - (intOf i).toNat)
 case atStart=>
   refine ⟨0,.slice none 0 0,by omega,rfl,?_,fun g hg=>(by cases hg),(Below.refl _ _).alloc (Nat.le_refl _) _⟩
   exact ⟨heap_alloc_new _ _,World.ownsRow_nil _ _ _ _,hC,fun p hp=>by cases hp⟩
 case round=>
   obtain ⟨k,Qv,hk,rfl,hQ,hQg,hb⟩:=hrel
   have hd:=(uh H).below hb
   by_cases hlt:k<L.length
   · obtain ⟨g2,cap2,e2,_⟩:=row_some hd.row (show 0<L.length by omega)
     obtain ⟨rfl,rfl⟩:a=some ⟨g2,0,none⟩∧cap=cap2:=by injection e2 with x1 x2 x3;exact ⟨x1,x3⟩
     have rg:=pics_range hd.row hP k hlt
     have hpc:=hP _ (picAt_mem hlt)
     have m1:HasAt wr.drew g2 (k*4097) 4097:=hasAt_of_range (w:=wr) rg (picCells_length hpc)
     have m2:cellsAt wr.drew g2 (k*4097) 4097=picCells (picAt L k):=cellsAt_of_range (w:=wr) rg (picCells_length hpc)
     have hki:(k:Int)<(L.length:Int):=by omega
     have c2:wr.cell? ⟨d,4096,none⟩=some (.slice (some ⟨g2,0,none⟩) L.length cap):=hd.cPv
     have c0:wr.drew.cell? ⟨d,4096,none⟩=some (.slice (some ⟨g2,0,none⟩) L.length cap):=hd.cPv
     have c1:wr.drew.cell? ⟨w.heap.size,4096,none⟩=some Qv:=hQ.cPv
     have c3: ∀ o,(wr.alloc o).drew.cell? ⟨w.heap.size,4096,none⟩=some Qv:=fun o=>(World.cell?_alloc_lt wr o _ hQ.lt).trans hQ.cPv
     have c4: ∀ o,(wr.alloc o).drew.cell? ⟨d,4096,none⟩=some (.slice (some ⟨g2,0,none⟩) L.length cap):=fun o=>(World.cell?_alloc_lt wr o _ hd.lt).trans hd.cPv
     have ht:L.take (k+1)=L.take k++[picAt L k]:=by
       rw [List.take_succ_eq_append_getElem hlt]
       unfold picAt
       rw [List.getD_eq_getElem?_getD,List.getElem?_eq_getElem hlt];rfl
     have hlk:(L.take k).length=k:=by simp;omega
     have hrow:wr.ownsRow 0 139 4097 Qv k ((L.take k).flatMap picCells):=by have:=hQ.row;simp only [hlk] at this;exact this
     have hne: ∀ g,Qv.ownBlock=some g→g≠w.heap.size:=fun g hg e=>by have:=hQg g hg;omega
     have HQ:=hide hQ
     have Hrow:=hide hrow
     have Hb:=hide hb
     have Ht:=hide ht
     have Hne:=hide hne
     have HQg:=hide hQg
     have hsz:=hb.size
     have hQlt:=hQ.lt
     clear hd rg e2 hQ hrow hb ht hne hQg hlk
     generalize hpk:picAt L k=pk at*
     go_wp2
     go_region_law (refine step_append_lies _ (by rfl) _ _ _ (by rfl) 0 139 i0 _ 4097 4112 Tryz.underlying68 hi0 hz0 hz1 hz2 (by rw [show (Value.agg (picCells ⟨[],zD⟩).toArray).cells.size=(picCells ⟨[],zD⟩).length from by simp [Value.cells]];exact picCells_length (p:=⟨[],zD⟩) ⟨zD_all,zD_length⟩) (by omega) Qv k ((L.take k).flatMap picCells) (by rfl) ((ownsRow_kept (S:=fun _=>False) ((Kept.refl _ wr).drew) (uh Hrow) (fun _ _=>id)).alloc _) ⟨wr.heap.size,0,none⟩ 1 1 (picCells pk) (by rfl) (by rw [picCells_length hpc]) (World.news_of_block (cs:=(picCells pk).toArray) (t:=139) (fr:=(0,0)) (heap_alloc_new wr.drew _)) (picCells_one pk) (by omega) (by unfold maxLen;omega) (by omega) (by omega) (wr.heap.size+1) (by simp) ?_
                    intro g5 cap5 w5 hown5 hgrow hat hlt5
                    have b5:=hide (grown_blk hgrow ((uh HQ).below (((Below.refl _ wr).drew).alloc (Nat.le_refl _) _)).blk (uh Hne))
                    have c5:w5.cell? ⟨w.heap.size,4096,none⟩=some Qv:=(cell_blk (uh b5) 4096).trans (by rw [← cell_blk (uh HQ).blk];exact (uh HQ).cPv)
                    have z5: ∀ i,w5.frozen? ⟨w.heap.size,i,none⟩=false:=fun i=>frozen_blk (uh b5) i)
     all_goals
       have hgn:g5≠w.heap.size∧w.heap.size<g5:=by
         rcases hat with x | x
         · exact ⟨uh Hne g5 x,uh HQg g5 x⟩
         · omega
       have S1:=hide ((uh Hb).alloc hsz (.cells (picCells pk).toArray 139))
       have S2:=hide (((uh S1).drew.grown hgrow (by simp;omega) (fun k hk=>by have:=uh HQg k hk;omega)).setCell (p:=⟨w.heap.size,4096,none⟩) (Nat.le_refl _) (.slice (some ⟨g5,0,none⟩) (k+1) cap5))
       have hD5:DiskAt (w5.setCell ⟨w.heap.size,4096,none⟩ (.slice (some ⟨g5,0,none⟩) (k+1) cap5)) w.heap.size (.slice (some ⟨g5,0,none⟩) (k+1) cap5) ⟨C,L.take (k+1)⟩:=by
         have hl:(L.take k).length=k:=by simp;omega
         have:=((uh HQ).below (((Below.refl _ wr).drew).alloc (Nat.le_refl _) (.cells (picCells pk).toArray 139))).growP (g5:=g5) (cap5:=cap5) hpc (uh Hne) hgrow (by rw [hl];exact hown5) hgn.1
         rw [hl] at this
         rw [uh Ht];exact this
       have HD5:=hide hD5
       clear hD5 hgrow hown5
       go_wp2
       go_roundw
       case rel=>exact ⟨k+1,_,by omega,by go_num,uh HD5,fun g hg=>(by simp only [Value.ownBlock,Option.some.injEq] at hg;omega),uh S2⟩
       case measure=>simp [intOf];omega
   · have c2:wr.cell? ⟨d,4096,none⟩=some (.slice a L.length cap):=hd.cPv
     have hkl:k=L.length:=by omega
     have hfin:DiskAt wr w.heap.size Qv ⟨C,L⟩:=by rw [hkl,List.take_length] at hQ;exact hQ
     have HQ:=hide hfin
     have Hb:=hide hb
     have HQg:=hide hQg
     clear hd hQ hfin hb hkl hQg
     go_wp2
     go_ret
     exact ⟨Qv,rfl,uh HQ,uh HQg,uh Hb⟩
end Go.Proofs.YtknjjjenklfeoaaGreatDoor
