import Derived.Test.YtknjjjenklfeoaaGreatDoorRows
import Derived.WalkKit
import Derived.WalkSpells
import Derived.WalkLawsBesides
import Derived.BigQuiet
import Derived.Deep.QuietTactic
import Derived.Deep.MidRow
import Derived.Deep.RegionHeld3
import Derived.Deep.AppendLies
import Derived.Lib.QuietBelow
import Derived.Deep.WholeRow
import Derived.OrdersHeld
set_option maxHeartbeats 8000000
set_option maxRecDepth 100000
namespace Go.Proofs.YtknjjjenklfeoaaGreatDoor
abbrev Clus:=List UInt8
def byteAt (c:List UInt8) (i:Nat):Nat:=(c.getD i 0).toNat
def num (c:List UInt8) (i:Nat):Nat:=256*byteAt c i+byteAt c (i+1)
theorem byteAt_lt (c:List UInt8) (i:Nat):byteAt c i<256:=by unfold byteAt;exact (c.getD i 0).toNat_lt
theorem num_lt (c:List UInt8) (i:Nat):num c i<65536:=by
 have h1:=byteAt_lt c i
 have h2:=byteAt_lt c (i+1)
 unfold num;omega
structure RootR where
 N:Nat
 At:Nat
 name:List UInt8
structure FileR where
 L:List Clus
 roots:List RootR
 told:List Nat
 used:List Nat
 bad:Int
def cl (L:List Clus) (n:Nat):Clus:=L.getD n []
def countOf (L:List Clus) (n:Nat):Nat:=byteAt (cl L (1+n / 64)) (n%64)
def noTell (R:FileR) (n kind:Nat):Bool:=decide (n<6) || (decide (R.L.length≤n) || (R.told.getD n 0 != 0 && (R.told.getD n 0 != kind || kind == 1)))
def tell (R:FileR) (n kind at':Nat):Bool × FileR:=
 if noTell R n kind then (false,{ R with bad:=at' })
 else (true,{ R with told:=R.told.set n kind,used:=R.used.set n (R.used.getD n 0+1) })
def treeIn (t:Nat):Nat→Nat→FileR→Bool × FileR
 | 0,_,R=>(true,R)
 | m+1,k,R=>
   if num (cl R.L t) (2*k)=0 then treeIn t m (k+1) R
   else if (tell R (num (cl R.L t) (2*k)%32768) 3 t).1 then treeIn t m (k+1) (tell R (num (cl R.L t) (2*k)%32768) 3 t).2
   else (false,(tell R (num (cl R.L t) (2*k)%32768) 3 t).2)
def treeOut (t:Nat):Nat→Nat→FileR→Bool × FileR
 | 0,_,R=>(true,R)
 | m+1,i,R=>
   if num (cl R.L t) (2*i)=0 then treeOut t m (i+1) R
   else if 1<i then (false,{ R with bad:=t })
   else if (tell R (num (cl R.L t) (2*i)%32768) 2 t).1 then
     if (treeIn (num (cl R.L t) (2*i)%32768) 32 0 (tell R (num (cl R.L t) (2*i)%32768) 2 t).2).1 then
       treeOut t m (i+1) (treeIn (num (cl R.L t) (2*i)%32768) 32 0 (tell R (num (cl R.L t) (2*i)%32768) 2 t).2).2
     else (false,(treeIn (num (cl R.L t) (2*i)%32768) 32 0 (tell R (num (cl R.L t) (2*i)%32768) 2 t).2).2)
   else (false,(tell R (num (cl R.L t) (2*i)%32768) 2 t).2)
def tree (R:FileR) (r:RootR):Bool × FileR:=
 if (tell R r.N 1 r.At).1 then treeOut r.N 32 0 (tell R r.N 1 r.At).2 else (false,(tell R r.N 1 r.At).2)
def Low (b:Nat) (R:FileR):Prop:= ∀ n,R.used.getD n 0≤b
theorem tell_L (R:FileR) (n kind at':Nat):(tell R n kind at').2.L=R.L:=by unfold tell;split <;> rfl
theorem tell_roots (R:FileR) (n kind at':Nat):(tell R n kind at').2.roots=R.roots:=by unfold tell;split <;> rfl
theorem tell_told (R:FileR) (n kind at':Nat):(tell R n kind at').2.told.length=R.told.length:=by unfold tell;split <;> simp
theorem tell_ok {R:FileR} {n kind at':Nat} (h:(tell R n kind at').1=true):6≤n∧n<R.L.length:=by
 unfold tell at h
 split at h
 · simp at h
 · rename_i h'
   simp [noTell] at h'
   omega
def markBad (R:FileR) (x:Nat):Bool:=if 32768≤x then (R.used.getD (x%32768) 0 != 1 || countOf R.L (x%32768) != 1) else false
def usedOf (R:FileR) (n:Nat):Nat:=R.used.getD n 0
def badCount (R:FileR) (n:Nat):Bool:=(decide (n<R.L.length) && decide (countOf R.L n<usedOf R n)) || (countOf R.L n == 255 || (decide (R.L.length≤n) && countOf R.L n != 0))
def countsFrom (R:FileR):Nat→Nat→Int
 | 0,_=> -1
 | m+1,n=>if badCount R n then n else countsFrom R m (n+1)
def cntTo (p:Nat→Bool):Nat→Nat
 | 0=>0
 | k+1=>cntTo p k+if p k then 1 else 0
theorem cntTo_le (p:Nat→Bool) (k:Nat):cntTo p k≤k:=by
 induction k with
 | zero=>exact Nat.le_refl _
 | succ k ih=>simp only [cntTo];split <;> omega
def freeOf (L:List Clus):Nat:=256 - L.length+cntTo (fun k=>decide (6≤k) && countOf L k == 0) L.length
def markNone (R:FileR) (x:Nat):Nat:=if 32768≤x then 0 else if R.used.getD (x%32768) 0=1 then 1 else 0
end Go.Proofs.YtknjjjenklfeoaaGreatDoor
namespace Go.Proofs.YtknjjjenklfeoaaGreatDoor
open Go.RowKit
theorem hide {p:Prop} (h:p):Hid p:=h
theorem uh {p:Prop} (h:Hid p):p:=h
theorem ret_int {k:IntKind} {a b:Int} (h:a=b):Ending.returned (.int k a)= .returned (.int k b):=by rw [h]
def cv (c:List UInt8):List Value:=c.map fun b=> .int .u8 b.toNat
theorem cv_length (c:List UInt8):(cv c).length=c.length:=by simp [cv]
theorem cv_get (c:List UInt8) (i:Nat) (h:i<c.length):(cv c)[i]? = some (.int .u8 (byteAt c i)):=by
 simp [cv,byteAt,h,List.getD]
theorem cv_one (c:List UInt8): ∀ v ∈ cv c,v.oneCell'=true:=by
 intro v hv
 simp only [cv,List.mem_map] at hv
 obtain ⟨b,_,rfl⟩:=hv
 rfl
theorem cell_new (w:World) (cs:Array Value) (t:TypeId) (fr:Nat × Nat) (i:Nat):(w.alloc (.cells cs t fr)).cell? ⟨w.heap.size,i,none⟩=cs[i]? := by
 rw [World.cell?]
 rw [heap_alloc_new w (.cells cs t fr)]
 rfl
theorem cell_blk {w:World} {f:Nat} {cs:Array Value} {t:TypeId} {fr:Nat × Nat} (h:w.heap[f]? = some (.cells cs t fr)) (i:Nat):w.cell? ⟨f,i,none⟩=cs[i]? := by
 rw [World.cell?,h];rfl
theorem frozen_blk {w:World} {f:Nat} {cs:Array Value} {t:TypeId} (h:w.heap[f]? = some (.cells cs t (0,0))) (i:Nat):w.frozen? ⟨f,i,none⟩=false:=by
 rw [World.frozen?,h];simp
structure Kept (S:Nat→Prop) (w w':World):Prop where
 os:w'.os=w.os
 tape:w'.tape=w.tape
 output:w'.output=w.output
 size:w.heap.size≤w'.heap.size
 block: ∀ k,k<w.heap.size→ ¬ S k→w'.heap[k]? = w.heap[k]?
theorem Kept.refl (S:Nat→Prop) (w:World):Kept S w w:=⟨rfl,rfl,rfl,Nat.le_refl _,fun _ _ _=>rfl⟩
theorem Kept.trans {S:Nat→Prop} {a b c:World} (h:Kept S a b) (k:Kept S b c):Kept S a c:=
 ⟨k.os.trans h.os,k.tape.trans h.tape,k.output.trans h.output,Nat.le_trans h.size k.size,fun i hi hs=>(k.block i (Nat.lt_of_lt_of_le hi h.size) hs).trans (h.block i hi hs)⟩
theorem Kept.mono {S T:Nat→Prop} {w w':World} (h:Kept S w w') (hs: ∀ k,S k→T k):Kept T w w':=
 ⟨h.os,h.tape,h.output,h.size,fun i hi ht=>h.block i hi fun x=>ht (hs i x)⟩
theorem Kept.drew {S:Nat→Prop} {a w:World} (h:Kept S a w):Kept S a w.drew:=⟨h.os,h.tape,h.output,h.size,h.block⟩
theorem Kept.drewN {S:Nat→Prop} {a w:World} (h:Kept S a w) (n:Nat):Kept S a (w.drewN n):=⟨h.os,h.tape,h.output,h.size,h.block⟩
theorem Kept.alloc {S:Nat→Prop} {a w:World} (h:Kept S a w) (o:Obj):Kept S a (w.alloc o):=
 h.trans ⟨rfl,rfl,rfl,by simp,fun k hk _=>Below.heap_alloc _ _ _ hk⟩
theorem Kept.setCell {S:Nat→Prop} {a w:World} (h:Kept S a w) {p:Addr} (hp:S p.block∨a.heap.size≤p.block) (u:Value):Kept S a (w.setCell p u):=
 ⟨h.os,h.tape,h.output,by simpa [World.setCell] using h.size,fun k hk hs=>by
   rw [Below.heap_setCell _ _ _ _ (by rintro rfl;rcases hp with hp | hp;exact hs hp;omega)];exact h.block k hk hs⟩
theorem Kept.of_below {S:Nat→Prop} {w w':World} (h:Below w.heap.size w w'):Kept S w w':=⟨h.os,h.tape,h.output,h.size,fun k hk _=>h.block k hk⟩
theorem Kept.below {w w':World} (h:Kept (fun _=>False) w w'):Below w.heap.size w w':=⟨h.os,h.tape,h.output,h.size,fun k hk=>h.block k hk id⟩
theorem blk_lt {w:World} {g:Nat} {o:Obj} (h:w.heap[g]? = some o):g<w.heap.size:=(Array.getElem?_eq_some_iff.1 h).1
theorem Kept.blk {S:Nat→Prop} {w w':World} (h:Kept S w w') {g:Nat} {o:Obj} (hs: ¬ S g) (hg:w.heap[g]? = some o):w'.heap[g]? = some o:=
 (h.block g (blk_lt hg) hs).trans hg
theorem ownsRow_kept {S:Nat→Prop} {w w':World} (h:Kept S w w') {base:Nat} {e:TypeId} {size:Nat} {v:Value} {n:Nat} {xs:List Value} (hr:w.ownsRow base e size v n xs)
   (hs: ∀ g,v.ownBlock=some g→ ¬ S g):w'.ownsRow base e size v n xs:=by
 obtain ⟨h1,h2⟩:=hr
 refine ⟨h1,?_⟩
 rcases h2 with h2 | ⟨g,cap,cur,rfl,hg,hh,r⟩
 · exact Or.inl h2
 · exact Or.inr ⟨g,cap,cur,rfl,hg,h.blk (hs g rfl) hh,r⟩
theorem row_ne {w:World} {base:Nat} {e:TypeId} {size:Nat} {v:Value} {n:Nat} {xs:List Value} (hr:w.ownsRow base e size v n xs) {f:Nat} {cs:Array Value} {t:TypeId} {fr:Nat × Nat}
   (hf:w.heap[f]? = some (.cells cs t fr)) (hne:e≠t): ∀ g,v.ownBlock=some g→g≠f:=by
 intro g hg
 rcases hr.2 with ⟨rfl,_⟩ | ⟨g',cap,cur,rfl,_,hh,_⟩
 · cases hg
 · rintro rfl
   simp only [Value.ownBlock,Option.some.injEq] at hg
   subst hg
   rw [hf] at hh
   simp at hh
   exact hne hh.2.1.symm
theorem heap_setCell_same (w:World) (f i:Nat) (v:Value) (cs:Array Value) (t:TypeId) (fr:Nat × Nat) (h:w.heap[f]? = some (.cells cs t fr)):
   (w.setCell ⟨f,i,none⟩ v).heap[f]? = some (.cells (cs.setIfInBounds i v) t fr):=by
 simp [World.setCell,Array.getElem?_modify,h]
def flatC (L:List Clus):List Value:=L.flatMap cv
theorem flatC_length (L:List Clus) (hl: ∀ c ∈ L,c.length=64):(flatC L).length=L.length*64:=by
 induction L with
 | nil=>rfl
 | cons a r ih=>
   have h1:=hl a (by simp)
   have h2:=ih (fun c hc=>hl c (by simp [hc]))
   simp only [flatC,List.flatMap_cons,List.length_append,cv_length,List.length_cons] at*
   omega
theorem flatC_range (L:List Clus) (hl: ∀ c ∈ L,c.length=64) (k:Nat) (hk:k<L.length) (j:Nat) (hj:j<64):(flatC L)[k*64+j]? = (cv (cl L k))[j]? := by
 induction L generalizing k with
 | nil=>simp at hk
 | cons a r ih=>
   have h1:=hl a (by simp)
   cases k with
   | zero=>
     simp only [flatC,List.flatMap_cons,cl,List.getD_cons_zero,Nat.zero_mul,Nat.zero_add]
     rw [List.getElem?_append_left (by rw [cv_length];omega)]
   | succ k=>
     have h2:=ih (fun c hc=>hl c (by simp [hc])) k (by simpa using hk)
     simp only [flatC,List.flatMap_cons,cl,List.getD_cons_succ] at*
     rw [List.getElem?_append_right (by rw [cv_length];omega),cv_length,h1,← h2]
     congr 1
     omega
theorem cl_length {L:List Clus} (hl: ∀ c ∈ L,c.length=64) {k:Nat} (hk:k<L.length):(cl L k).length=64:=by
 unfold cl
 rw [List.getD_eq_getElem?_getD,List.getElem?_eq_getElem hk]
 exact hl _ (List.getElem_mem hk)
def HasAt (w:World) (b o n:Nat):Prop:= ∀ j,j<n→(w.cell? ⟨b,o+j,none⟩).isSome=true
def cellsAt (w:World) (b o n:Nat):List Value:=(List.range n).map fun j=>(w.cell? ⟨b,o+j,none⟩).getD undef
theorem cellsAt_length (w:World) (b o n:Nat):(cellsAt w b o n).length=n:=by simp [cellsAt]
theorem rangeAt_cellsAt {w:World} {b o n:Nat} (h:HasAt w b o n):w.rangeAt b o (cellsAt w b o n):=by
 intro j v hv
 have hj:j<n:=by have:=(List.getElem?_eq_some_iff.1 hv).1;rwa [cellsAt_length] at this
 simp only [cellsAt,List.getElem?_map,List.getElem?_range hj,Option.map_some,Option.some.injEq] at hv
 obtain ⟨u,hu⟩:=Option.isSome_iff_exists.1 (h j hj)
 rw [hu] at hv ⊢
 simpa using hv
theorem hasAt_of_range {w:World} {b o n:Nat} {cs:List Value} (h:w.rangeAt b o cs) (hn:cs.length=n):HasAt w b o n:=fun j hj=>h.isSome j (by omega)
theorem cellsAt_of_range {w:World} {b o n:Nat} {cs:List Value} (h:w.rangeAt b o cs) (hn:cs.length=n):cellsAt w b o n=cs:=by
 refine List.ext_getElem? fun j=> ?_
 by_cases hj:j<n
 · rw [cellsAt,List.getElem?_map,List.getElem?_range hj,List.getElem?_eq_getElem (by omega)]
   have:=h j _ (List.getElem?_eq_getElem (by omega))
   simp [this]
 · rw [List.getElem?_eq_none (by rw [cellsAt_length];omega),List.getElem?_eq_none (by omega)]
theorem run_loadVar_has {P:Program} {w:World} {b o n:Nat} (h:HasAt w b o n) (ty:TypeId) (d:TypeDesc) (hu:P.underlying ty=some d) (hd:d.isRow=true) (hi:(P.info? ty).map (·.size)=some n):
   (loadVar ty ⟨b,o,none⟩).run P w= .ok (.agg (cellsAt w b o n).toArray) w:=
 run_loadVar_mid w b o ty (cellsAt w b o n) d (rangeAt_cellsAt h) hu hd (by rw [cellsAt_length];exact hi)
def loadClus (a:Addr):Sem Value:=loadVar 38 a
theorem loadVar_clus (a:Addr):loadVar 38 a=loadClus a:=rfl
theorem run_loadClus {w:World} {b o:Nat} (h:HasAt w b o 64):(loadClus ⟨b,o,none⟩).run Tryz.prog w= .ok (.agg (cellsAt w b o 64).toArray) w:=
 run_loadVar_has h 38 _ Tryz.underlying38 rfl (by kernel_rfl)
def storeClus (a:Addr) (v:Value):Sem Unit:=storeVar 38 a v
theorem storeVar_clus (a:Addr) (v:Value):storeVar 38 a v=storeClus a v:=rfl
theorem run_storeClus {w:World} {b o:Nat} {c:List UInt8} (ht:w.there b o 64) (hc:c.length=64):(storeClus ⟨b,o,none⟩ (.agg (cv c).toArray)).run Tryz.prog w= .ok () (w.setCells b o (cv c)):=by
 have:=run_storeVar_mid (P:=Tryz.prog) w b o 38 (cv c).toArray (by simpa [cv_length,hc] using ht) (by simp only [List.size_toArray,cv_length,hc];kernel_rfl) (all_oneCell_toArray (cv_one c))
 simpa [storeClus] using this
def zc:List UInt8:=List.replicate 64 0
theorem zc_length:zc.length=64:=by simp [zc]
def zeroClus:Sem Value:=zeroValue 38
theorem zeroValue_clus:zeroValue 38=zeroClus:=rfl
theorem run_zeroClus (w:World):zeroClus.run Tryz.prog w= .ok (.agg (cv zc).toArray) w:=
 (zero_of_info (P:=Tryz.prog) (t:=38) (v:= .agg (cv zc).toArray) (n:=64) (by kernel_rfl)).1 w
def setList (cs:Array Value) (o:Nat):List Value→Array Value
 | []=>cs
 | v :: r=>setList (cs.setIfInBounds o v) (o+1) r
theorem setList_size (o:Nat) (cs:Array Value) (vs:List Value):(setList cs o vs).size=cs.size:=by
 induction vs generalizing cs o with
 | nil=>rfl
 | cons v r ih=>rw [setList,ih];simp
theorem setList_get (vs:List Value): ∀ (o:Nat) (cs:Array Value) (i:Nat),o+vs.length≤cs.size→(setList cs o vs)[i]? = if o≤i∧i<o+vs.length then vs[i - o]? else cs[i]? := by
 induction vs with
 | nil=>intro o cs i _;rw [setList,if_neg (by simp only [List.length_nil];omega)]
 | cons v r ih=>
   intro o cs i h
   simp only [List.length_cons] at h
   rw [setList,ih (o+1) _ i (by simp;omega)]
   by_cases h1:o+1≤i∧i<o+1+r.length
   · rw [if_pos h1,if_pos (by simp only [List.length_cons];omega),show i - o=(i - (o+1))+1 by omega,List.getElem?_cons_succ]
   · rw [if_neg h1,Array.getElem?_setIfInBounds]
     by_cases h2:o=i
     · subst h2
       rw [if_pos rfl,if_pos (by omega),if_pos (by simp only [List.length_cons];omega),Nat.sub_self,List.getElem?_cons_zero]
     · rw [if_neg h2,if_neg (by simp only [List.length_cons];omega)]
theorem heap_setCells_same (vs:List Value): ∀ (o:Nat) (w:World) (b:Nat) (cs:Array Value) (t:TypeId) (fr:Nat × Nat),w.heap[b]? = some (.cells cs t fr)→
   (w.setCells b o vs).heap[b]? = some (.cells (setList cs o vs) t fr):=by
 induction vs with
 | nil=>intro o w b cs t fr h;exact h
 | cons v r ih=>intro o w b cs t fr h;rw [World.setCells];exact ih (o+1) _ b _ t fr (heap_setCell_same w b o v cs t fr h)
theorem heap_setCells_other (vs:List Value): ∀ (o:Nat) (w:World) (b k:Nat),k≠b→(w.setCells b o vs).heap[k]? = w.heap[k]? := by
 induction vs with
 | nil=>intro o w b k _;rfl
 | cons v r ih=>intro o w b k h;rw [World.setCells,ih (o+1) _ b k h];exact Below.heap_setCell _ _ _ _ h
theorem setCells_facts (vs:List Value): ∀ (o:Nat) (w:World) (b:Nat),(w.setCells b o vs).os=w.os∧(w.setCells b o vs).tape=w.tape∧(w.setCells b o vs).output=w.output∧(w.setCells b o vs).heap.size=w.heap.size:=by
 induction vs with
 | nil=>intro o w b;exact ⟨rfl,rfl,rfl,rfl⟩
 | cons v r ih=>
   intro o w b
   rw [World.setCells]
   obtain ⟨h1,h2,h3,h4⟩:=ih (o+1) (w.setCell ⟨b,o,none⟩ v) b
   exact ⟨h1,h2,h3,by rw [h4];simp [World.setCell]⟩
theorem Kept.setCells {S:Nat→Prop} {a w:World} (h:Kept S a w) {b:Nat} (hp:S b∨a.heap.size≤b) (o:Nat) (vs:List Value):Kept S a (w.setCells b o vs):=by
 obtain ⟨h1,h2,h3,h4⟩:=setCells_facts vs o w b
 refine ⟨h1.trans h.os,h2.trans h.tape,h3.trans h.output,by rw [h4];exact h.size,fun k hk hs=> ?_⟩
 rw [heap_setCells_other vs o w b k (by rintro rfl;rcases hp with hp | hp;exact hs hp;omega)]
 exact h.block k hk hs
theorem below_setCells {B:Nat} {a w:World} (h:Below B a w) {b:Nat} (hp:B≤b) (o:Nat) (vs:List Value):Below B a (w.setCells b o vs):=by
 obtain ⟨h1,h2,h3,h4⟩:=setCells_facts vs o w b
 exact ⟨h1.trans h.os,h2.trans h.tape,h3.trans h.output,by rw [h4];exact h.size,fun k hk=>(heap_setCells_other vs o w b k (by omega)).trans (h.block k hk)⟩
theorem setList_flatC (D:List Clus) (hD: ∀ c ∈ D,c.length=64) (k:Nat) (hk:k<D.length) (c:Clus) (hc:c.length=64):setList (flatC D).toArray (k*64) (cv c)=(flatC (D.set k c)).toArray:=by
 have hl:=flatC_length D hD
 have hD': ∀ x ∈ D.set k c,x.length=64:=by
   intro x hx
   rcases List.mem_or_eq_of_mem_set hx with h | h
   · exact hD x h
   · rw [h];exact hc
 have hl':=flatC_length (D.set k c) hD'
 rw [List.length_set] at hl'
 apply Array.ext_getElem?
 intro i
 rw [setList_get (cv c) _ _ i (by rw [cv_length,hc];simp;omega),cv_length,hc,List.getElem?_toArray,List.getElem?_toArray]
 by_cases hi:i<D.length*64
 · have e:i=(i / 64)*64+i%64:=by omega
   have hq:i / 64<D.length:=by omega
   rw [e,flatC_range (D.set k c) hD' (i / 64) (by simpa using hq) (i%64) (by omega),flatC_range D hD (i / 64) hq (i%64) (by omega)]
   unfold cl
   simp only [List.getD_eq_getElem?_getD,List.getElem?_set]
   by_cases h2:k=i / 64
   · rw [if_pos h2,if_pos (by omega),if_pos (by omega)]
     simp only [Option.getD_some]
     congr 1
     omega
   · rw [if_neg h2,if_neg (by omega)]
 · rw [if_neg (by omega),List.getElem?_eq_none (by omega),List.getElem?_eq_none (by omega)]
def loadCont (a:Addr):Sem Value:=loadVar 67 a
theorem loadVar_cont (a:Addr):loadVar 67 a=loadCont a:=rfl
theorem run_loadCont {w:World} {b o:Nat} (h:HasAt w b o 4096):(loadCont ⟨b,o,none⟩).run Tryz.prog w= .ok (.agg (cellsAt w b o 4096).toArray) w:=
 run_loadVar_has h 67 _ Tryz.underlying67 rfl (by kernel_rfl)
theorem flatC_one (D:List Clus): ∀ v ∈ flatC D,v.oneCell'=true:=by
 intro v hv
 simp only [flatC,List.mem_flatMap] at hv
 obtain ⟨c,_,hv⟩:=hv
 exact cv_one c v hv
def storeCont (a:Addr) (v:Value):Sem Unit:=storeVar 67 a v
theorem storeVar_cont (a:Addr) (v:Value):storeVar 67 a v=storeCont a v:=rfl
def All64 (D:List Clus):Prop:= ∀ c ∈ D,c.length=64
theorem run_storeCont {w:World} {b o:Nat} {D:List Clus} (ht:w.there b o 4096) (hD:All64 D) (hl:D.length=64):(storeCont ⟨b,o,none⟩ (.agg (flatC D).toArray)).run Tryz.prog w= .ok () (w.setCells b o (flatC D)):=by
 have e:=flatC_length D hD
 rw [hl] at e
 have:=run_storeVar_mid (P:=Tryz.prog) w b o 67 (flatC D).toArray (by rw [List.size_toArray,e];exact ht) (by rw [List.size_toArray,e];kernel_rfl) (all_oneCell_toArray (flatC_one D))
 simpa [storeCont] using this
def zD:List Clus:=List.replicate 64 zc
theorem zD_length:zD.length=64:=by simp [zD]
theorem zD_all: ∀ c ∈ zD,c.length=64:=by intro c hc;rw [List.eq_of_mem_replicate hc];exact zc_length
def zeroCont:Sem Value:=zeroValue 67
theorem zeroValue_cont:zeroValue 67=zeroCont:=rfl
theorem run_zeroCont (w:World):zeroCont.run Tryz.prog w= .ok (.agg (flatC zD).toArray) w:=
 (zero_of_info (P:=Tryz.prog) (t:=67) (v:= .agg (flatC zD).toArray) (n:=4096) (by kernel_rfl)).1 w
theorem results_cell {fn:Func} {p:Tmp} {ty:TypeId} (h:fn.results= #[.cell p ty]) {tmps:Array Value} {P:Program} {w:World} (a:Addr) {v:Value} (ht:tmps.getD p undef= .pointer (some a)) (hl:(loadVar ty a).run P w= .ok v w):
   (results fn tmps).run P w= .ok v w:=by
 simp only [results,h]
 simp [-Array.getD_eq_getD_getElem?,asAddr,ht,hl]
theorem run_storeClus_new {w:World} {z c:List UInt8} (hz:z.length=64) (hc:c.length=64):
   (storeClus ⟨w.heap.size,0,none⟩ (.agg (cv c).toArray)).run Tryz.prog (w.alloc (.cells (cv z).toArray 38))= .ok () (w.alloc (.cells (cv c).toArray 38)):=
 run_storeVar_new w 38 (cv z).toArray (cv c).toArray (by simp only [List.size_toArray,cv_length,hc];kernel_rfl) (by simp [cv_length,hz,hc]) (all_oneCell_toArray (cv_one c))
theorem run_loadClus_new {w:World} {c:List UInt8} (hc:c.length=64):
   (loadClus ⟨w.heap.size,0,none⟩).run Tryz.prog (w.alloc (.cells (cv c).toArray 38))= .ok (.agg (cv c).toArray) (w.alloc (.cells (cv c).toArray 38)):=
 run_loadVar_new w 38 (cv c).toArray 64 5 Tryz.underlying38 (by simp only [List.size_toArray,cv_length,hc];kernel_rfl)
theorem HasAt_drew (w:World) (b o n:Nat):HasAt w.drew b o n=HasAt w b o n:=rfl
theorem cellsAt_drew (w:World) (b o n:Nat):cellsAt w.drew b o n=cellsAt w b o n:=rfl
theorem HasAt_drewN (w:World) (m b o n:Nat):HasAt (w.drewN m) b o n=HasAt w b o n:=rfl
theorem cellsAt_drewN (w:World) (m b o n:Nat):cellsAt (w.drewN m) b o n=cellsAt w b o n:=rfl
theorem box_has {w:World} {b:Nat} {c:List UInt8} {t:TypeId} {fr:Nat × Nat} (h:w.heap[b]? = some (.cells (cv c).toArray t fr)) (hc:c.length=64):HasAt w b 0 64:=
 fun j hj=>by rw [Nat.zero_add,cell_blk h,List.getElem?_toArray,cv_get _ _ (by omega)];rfl
theorem box_range {w:World} {b:Nat} {c:List UInt8} {t:TypeId} {fr:Nat × Nat} (h:w.heap[b]? = some (.cells (cv c).toArray t fr)):w.rangeAt b 0 (cv c):=fun j v hv=>by
 rw [Nat.zero_add,cell_blk h,List.getElem?_toArray];exact hv
theorem box_cells {w:World} {b:Nat} {c:List UInt8} {t:TypeId} {fr:Nat × Nat} (h:w.heap[b]? = some (.cells (cv c).toArray t fr)) (hc:c.length=64):cellsAt w b 0 64=cv c:=
 cellsAt_of_range (box_range h) (by rw [cv_length,hc])
theorem box_byte {w:World} {b:Nat} {c:List UInt8} {t:TypeId} {fr:Nat × Nat} (h:w.heap[b]? = some (.cells (cv c).toArray t fr)) (i:Nat) (hi:i<c.length):w.cell? ⟨b,i,none⟩=some (.int .u8 (byteAt c i:Nat)):=by
 rw [cell_blk h,List.getElem?_toArray,cv_get c i hi]
theorem box_store {w:World} {b:Nat} {z c:List UInt8} {t:TypeId} {fr:Nat × Nat} (h:w.heap[b]? = some (.cells (cv z).toArray t fr)) (hz:z.length=64) (hc:c.length=64):(w.setCells b 0 (cv c)).heap[b]? = some (.cells (cv c).toArray t fr):=by
 rw [heap_setCells_same _ _ _ _ _ _ _ h]
 congr 2
 apply Array.ext_getElem?
 intro i
 rw [setList_get _ _ _ _ (by simp [cv_length,hz,hc]),cv_length,hc,List.getElem?_toArray,List.getElem?_toArray]
 by_cases hi:i<64
 · rw [if_pos (by omega),Nat.sub_zero]
 · rw [if_neg (by omega),List.getElem?_eq_none (by rw [cv_length];omega),List.getElem?_eq_none (by rw [cv_length];omega)]
theorem foldl_setList (vs:List Value): ∀ (k off:Nat) (cs:Array Value),(vs.zipIdx k).foldl (fun cs x=>cs.setIfInBounds (off+x.2) x.1) cs=setList cs (off+k) vs:=by
 induction vs with
 | nil=>intro k off cs;rfl
 | cons v r ih=>intro k off cs;rw [List.zipIdx_cons,List.foldl_cons,ih (k+1) off,setList];rfl
theorem fill_one (place:Nat→Option (Nat × Nat)) (cs:Array Value) (i off n:Nat) (v:Value) (rest:List (Nat × Value)) (hp:place i=some (off,n)) (hv:v.cells.size=n) (ho:off+n≤cs.size):
   Instr.fill place cs ((i,v) :: rest)=Instr.fill place (setList cs off v.cells.toList) rest:=by
 rw [Instr.fill,hp]
 simp only [hv]
 rw [if_neg (by simp;omega)]
 congr 1
 rw [← Array.foldl_toList,Array.toList_zipIdx,foldl_setList,Nat.add_zero]
theorem setList_all (vs:List Value) (cs:Array Value) (h:cs.size=vs.length):setList cs 0 vs=vs.toArray:=by
 apply Array.ext_getElem?
 intro i
 rw [setList_get vs 0 cs i (by omega)]
 by_cases hi:i<vs.length
 · rw [if_pos (by omega),Nat.sub_zero];simp
 · rw [if_neg (by omega),Array.getElem?_eq_none (by omega),Array.getElem?_eq_none (by simp;omega)]
theorem run_buildSlice_one {P:Program} (w:World) (t e:TypeId) (n:Nat) (z v:Value) (ht:P.underlying t=some (.slice e)) (hi:(P.info? e).map (fun i=>(i.zero,i.size))=some (some z,n)) (h0:0<n) (hn:n≤16777216) (hv:v.cells.size=n):
   (Instr.buildSlice t 1 #[(0,v)]).run P w= .ok (.slice (some ⟨w.heap.size,0,none⟩) 1 1) (w.alloc (.cells v.cells e)):=by
 obtain ⟨hz,hs⟩:=zero_of_info hi
 cases hq:P.info? e with
 | none=>simp [hq] at hs
 | some i=>
   have hsz:i.size=n:=by simpa [hq] using hs
   have hf:Instr.fill (fun i=>some (i*n,n)) ((Array.range (1*n)).map (z.cells[· % z.cells.size]!)) [(0,v)]=some v.cells:=by
     rw [fill_one _ _ 0 0 n v [] (by simp) hv (by simp),Instr.fill,setList_all _ _ (by simp [hv])]
   unfold Instr.buildSlice
   rw [Sem.run_bind,run_underlying ht w]
   simp only [Result.andThen_ok,sizeOf,typeInfo,Sem.run_bind,run_program,hq,Sem.run_pure,hsz]
   rw [if_neg (by omega),if_neg (by omega)]
   simp only [Sem.run_bind,hz,Result.andThen_ok,Sem.run_pure,hf]
   simp [newRow]
def bsClus (parts:Array (Nat × Value)):Sem Value:=Instr.buildSlice 28 1 parts
theorem buildSlice_clus (parts:Array (Nat × Value)):Instr.buildSlice 28 1 parts=bsClus parts:=rfl
theorem run_bsClus {w:World} {c:List UInt8} (hc:c.length=64):(bsClus #[(0,.agg (cv c).toArray)]).run Tryz.prog w= .ok (.slice (some ⟨w.heap.size,0,none⟩) 1 1) (w.alloc (.cells (cv c).toArray 38)):=
 run_buildSlice_one w 28 38 64 (.agg (cv zc).toArray) (.agg (cv c).toArray) Tryz.underlying28 (by kernel_rfl) (by omega) (by omega) (by simp [Value.cells,cv_length,hc])
theorem run_eqLoop {P:Program} (d:Nat) (e:TypeId) (sz:Nat) (xs ys:Array Value) (A B:Nat→Value) (E:Nat→Bool): ∀ (n s:Nat) (w:World),
   (∀ i,s≤i→i<s+n→ ∀ w,(part e xs (i*sz)).run P w= .ok (A i) w)→(∀ i,s≤i→i<s+n→ ∀ w,(part e ys (i*sz)).run P w= .ok (B i) w)→(∀ i,s≤i→i<s+n→ ∀ w,(Op.equalIn d e (A i) (B i)).run P w= .ok (E i) w)→
   (forIn (List.range' s n 1) ((none:Option Bool),()) fun i _=>do
       let a ← part e xs (i*sz)
       let b ← part e ys (i*sz)
       let c ← Op.equalIn d e a b
       if (!c)=true then pure (ForInStep.done (some false,())) else pure (ForInStep.yield (none,()))).run P w= .ok (if (List.range' s n 1).all E then (none,()) else (some false,())) w
 | 0,s,w,_,_,_=>by simp
 | n+1,s,w,hA,hB,hE=>by
   rw [List.range'_succ,List.forIn_cons]
   simp only [Sem.run_bind,hA s (Nat.le_refl _) (by omega),hB s (Nat.le_refl _) (by omega),hE s (Nat.le_refl _) (by omega),Result.andThen_ok,List.all_cons]
   by_cases hs:E s=true
   case neg=>
     have hs':E s=false:=by simpa using hs
     rw [if_pos (by simp [hs'])]
     simp [hs']
   case pos=>
     rw [if_neg (by simp [hs])]
     simp only [Sem.run_pure,Result.andThen_ok,hs,Bool.true_and]
     exact run_eqLoop d e sz xs ys A B E n (s+1) w (fun i h1 h2=>hA i (by omega) (by omega)) (fun i h1 h2=>hB i (by omega) (by omega)) (fun i h1 h2=>hE i (by omega) (by omega))
theorem run_equalIn_array {P:Program} (w:World) (d:Nat) (t e:TypeId) (n sz:Nat) (xs ys:Array Value) (A B:Nat→Value) (E:Nat→Bool) (hu:P.underlying t=some (.array n e)) (hs:(P.info? e).map (·.size)=some sz)
   (hA: ∀ i,i<n→ ∀ w,(part e xs (i*sz)).run P w= .ok (A i) w) (hB: ∀ i,i<n→ ∀ w,(part e ys (i*sz)).run P w= .ok (B i) w) (hE: ∀ i,i<n→ ∀ w,(Op.equalIn d e (A i) (B i)).run P w= .ok (E i) w):
   (Op.equalIn (d+1) t (.agg xs) (.agg ys)).run P w= .ok ((List.range' 0 n 1).all E) w:=by
 cases hq:P.info? e with
 | none=>simp [hq] at hs
 | some i=>
   have hi:i.size=sz:=by simpa [hq] using hs
   have hsz:(Go.sizeOf e).run P w= .ok sz w:=by simp [Go.sizeOf,typeInfo,hq,hi]
   simp only [Op.equalIn,Sem.run_bind,run_underlying hu,Result.andThen_ok,hsz]
   rw [Std.Legacy.Range.forIn_eq_forIn_range']
   have:=run_eqLoop (P:=P) d e sz xs ys A B E n 0 w (fun i _ h=>hA i (by omega)) (fun i _ h=>hB i (by omega)) (fun i _ h=>hE i (by omega))
   simp only [Std.Legacy.Range.size,Nat.sub_zero,Nat.add_sub_cancel,Nat.div_one] at*
   rw [this]
   cases (List.range' 0 n 1).all E <;> simp
theorem part_byte (c:List UInt8) (i:Nat) (hi:i<c.length) (w:World):(part 5 (cv c).toArray (i*1)).run Tryz.prog w= .ok (.int .u8 (byteAt c i:Nat)) w:=by
 have ha:(isAgg 5).run Tryz.prog w= .ok false w:=by unfold isAgg;rw [Sem.run_bind,run_underlying Tryz.underlying5 w];rfl
 unfold part
 rw [Sem.run_bind,ha]
 simp only [Result.andThen_ok,Bool.false_eq_true,if_false,Nat.mul_one]
 rw [List.getElem?_toArray,cv_get c i hi]
 rfl
theorem all_range' (n:Nat) (E:Nat→Bool) (p:Prop) [Decidable p] (h:(∀ i,i<n→E i=true)↔p):(List.range' 0 n 1).all E=decide p:=by
 rw [Bool.eq_iff_iff,List.all_eq_true,decide_eq_true_iff,← h]
 constructor
 · intro x i hi;exact x i (by simp [List.mem_range'];omega)
 · intro x i hi
   simp [List.mem_range'] at hi
   exact x i (by omega)
theorem run_eq_clus (d:Nat) (a b:List UInt8) (ha:a.length=64) (hb:b.length=64) (w:World):(Op.equalIn (d+1+1) 38 (.agg (cv a).toArray) (.agg (cv b).toArray)).run Tryz.prog w= .ok (decide (a=b)) w:=by
 rw [run_equalIn_array w (d+1) 38 5 64 1 (cv a).toArray (cv b).toArray (fun i=> .int .u8 (byteAt a i:Nat)) (fun i=> .int .u8 (byteAt b i:Nat)) (fun i=>((byteAt a i:Nat):Int) == ((byteAt b i:Nat):Int)) Tryz.underlying38 (by kernel_rfl)
   (fun i hi w=>part_byte a i (by omega) w) (fun i hi w=>part_byte b i (by omega) w) (fun i hi w=>run_equalIn_int w d 5 .u8 .u8 _ _ Tryz.underlying5)]
 congr 1
 refine all_range' 64 _ (a=b) ⟨fun h=> ?_,fun h i _=>by rw [h];simp⟩
 refine List.ext_getElem? fun i=> ?_
 by_cases hi:i<64
 · have:=h i hi
   rw [beq_iff_eq] at this
   have e:byteAt a i=byteAt b i:=by omega
   unfold byteAt at e
   rw [List.getElem?_eq_getElem (by omega),List.getElem?_eq_getElem (by omega)]
   simp only [List.getD_eq_getElem?_getD,List.getElem?_eq_getElem (show i<a.length by omega),List.getElem?_eq_getElem (show i<b.length by omega),Option.getD_some] at e
   rw [UInt8.toNat_inj.1 e]
 · rw [List.getElem?_eq_none (by omega),List.getElem?_eq_none (by omega)]
theorem setList_front (a b vs:List Value) (h:a.length=vs.length):setList (a++b).toArray 0 vs=(vs++b).toArray:=by
 apply Array.ext_getElem?
 intro i
 rw [setList_get vs 0 _ i (by simp;omega),List.getElem?_toArray,List.getElem?_toArray]
 by_cases hi:i<vs.length
 · rw [if_pos (by omega),Nat.sub_zero,List.getElem?_append_left hi]
 · rw [if_neg (by omega),List.getElem?_append_right (by omega),List.getElem?_append_right (by omega),h]
theorem setList_back (a b vs:List Value) (h:b.length=vs.length):setList (a++b).toArray a.length vs=(a++vs).toArray:=by
 apply Array.ext_getElem?
 intro i
 rw [setList_get vs a.length _ i (by simp;omega),List.getElem?_toArray,List.getElem?_toArray]
 by_cases hi:i<a.length
 · rw [if_neg (by omega),List.getElem?_append_left hi,List.getElem?_append_left hi]
 · by_cases h2:i<a.length+vs.length
   · rw [if_pos (by omega),List.getElem?_append_right (by omega)]
   · rw [if_neg (by omega),List.getElem?_eq_none (by simp;omega),List.getElem?_eq_none (by simp;omega)]
theorem run_build_struct {P:Program} (w:World) (t:TypeId) (fs:Array Field) (z:Value) (pl:Array (Nat × Nat)) (parts:Array (Nat × Value)) (cells:Array Value) (ht:P.underlying t=some (.struct fs)) (hz: ∀ w,(zeroValue t).run P w= .ok z w)
   (hpl: ∀ w,Sem.run P (fs.mapM fun (f:Field)=>do
       let n ← Go.sizeOf f.type
       pure (f.offset,n)) w= .ok pl w) (hf:Instr.fill (pl[·]?) z.cells parts.toList=some cells):(Instr.build t parts).run P w= .ok (.agg cells) w:=by
 unfold Instr.build
 simp only [Sem.run_bind,hz,Result.andThen_ok,run_underlying ht,hpl,hf,Sem.run_pure]
def eqClus (x y:Value):Sem Bool:=Op.equalIn 10000 38 x y
theorem equalIn_clus (x y:Value):Op.equalIn 10000 38 x y=eqClus x y:=rfl
theorem run_eqClus {a b:List UInt8} (ha:a.length=64) (hb:b.length=64) (w:World):(eqClus (.agg (cv a).toArray) (.agg (cv b).toArray)).run Tryz.prog w= .ok (decide (a=b)) w:=run_eq_clus 9998 a b ha hb w
def eqCont (x y:Value):Sem Bool:=Op.equalIn 10000 67 x y
theorem equalIn_cont (x y:Value):Op.equalIn 10000 67 x y=eqCont x y:=rfl
def nat64 (n:Nat):Value:= .int .i64 n
section
variable {w:World} {f:Nat} {Lv Rv:Value} {R:FileR}
theorem Kept.only (w:World) (f i:Nat) (v:Value):Kept (fun k=>k=f) w (w.setCell ⟨f,i,none⟩ v):=(Kept.refl (fun k=>k=f) w).setCell (p:=⟨f,i,none⟩) (Or.inl rfl) v
end
theorem row_form {w:World} {base:Nat} {e:TypeId} {size:Nat} {v:Value} {n:Nat} {xs:List Value} (h:w.ownsRow base e size v n xs): ∃ a cap,v= .slice a n cap:=by
 rcases h.2 with ⟨rfl,rfl⟩ | ⟨g,cap,_,rfl,_⟩
 · exact ⟨none,0,rfl⟩
 · exact ⟨_,cap,rfl⟩
theorem row_byte {w:World} {base:Nat} {g cap:Nat} {L:List Clus} (h:w.ownsRow base 38 64 (.slice (some ⟨g,0,none⟩) L.length cap) L.length (flatC L)) (hl: ∀ c ∈ L,c.length=64)
   (k j:Nat) (hk:k<L.length) (hj:j<64):w.cell? ⟨g,k*64+j,none⟩=some (.int .u8 (byteAt (cl L k) j:Nat)):=by
 rw [h.cellAt (k*64+j) (by omega),flatC_range L hl k hk j hj,cv_get _ _ (by rw [cl_length hl hk];exact hj)]
theorem row_range {w:World} {base:Nat} {g cap:Nat} {L:List Clus} (h:w.ownsRow base 38 64 (.slice (some ⟨g,0,none⟩) L.length cap) L.length (flatC L)) (hl: ∀ c ∈ L,c.length=64)
   (k:Nat) (hk:k<L.length):w.rangeAt g (k*64) (cv (cl L k)):=by
 intro j v hv
 have hj:j<64:=by
   have:=(List.getElem?_eq_some_iff.1 hv).1
   rw [cv_length,cl_length hl hk] at this;exact this
 rw [row_byte h hl k j hk hj]
 rw [cv_get _ _ (by rw [cl_length hl hk];exact hj)] at hv
 exact hv
theorem row_some {w:World} {base:Nat} {e:TypeId} {size:Nat} {v:Value} {n:Nat} {xs:List Value} (h:w.ownsRow base e size v n xs) (hn:0<n): ∃ g cap,v= .slice (some ⟨g,0,none⟩) n cap∧n≤cap:=by
 rcases h.2 with ⟨rfl,rfl⟩ | ⟨g,cap,_,rfl,_,_,hc,_⟩
 · omega
 · exact ⟨g,cap,rfl,hc⟩
section
variable {P:Program} {ops:Array Oper} {Q:Exit→Act→World→Prop} {md:Region.Mode} {T:World→Prop} {k:Nat}
def wpAnyL (P:Program) (md:Region.Mode) (ops:Array Oper) (Q:Exit→Act→World→Prop) (T:World→Prop) (k:Nat):Nat→Array Bool→Act→World→Prop
 | 0,listed,a,w=>Region.ready md ops listed=[]∧Q .normal a w
 | fuel+1,listed,a,w=>
   (Region.ready md ops listed=[]→Q .normal a w)∧
   ∀ i ∈ Region.ready md ops listed,wpOp P ops Q i (fun a' w'=>(i=k∨T w')∧wpAnyL P md ops Q T k fuel (listed.setIfInBounds i true) a' w') a w
theorem wpAny_of_L: ∀ (fuel:Nat) (listed:Array Bool) (a:Act) (w:World),wpAnyL P md ops Q T k fuel listed a w→wpAny P md ops Q fuel listed a w
 | 0,_,_,_,h=>h
 | fuel+1,_,_,_,h=>⟨h.1,fun i hi=>wpOp_mono (fun a' w' h'=>wpAny_of_L fuel _ a' w' h'.2) (h.2 i hi)⟩
theorem wpAnyL_first {i:Nat} {oi ok:Oper} {v:Value} (hi:ops[i]? = some oi) (hok:ops[k]? = some ok) (hdep: ∃ e ∈ ok.after,Region.binds md e=true∧e.on=i)
   (hsel: ∀ (j:Nat) (o:Oper) cs b,ops[j]? = some o→o.op≠ .select cs b) (hik:i≠k)
   (hQ: ∀ c a w,Q (.panic c) (a.put oi.dst v) w→Q (.panic c) a w):
   ∀ (fuel:Nat) (listed:Array Bool) (a:Act) (w:World),
     (∀ j oj,ops[j]? = some oj→j≠i→listed.getD j true=false→(∀ e ∈ oj.after,Region.binds md e=true→e.on≠i)→oi.apart ops oj=true)→
     i ∈ Region.ready md ops listed→YieldsIf P ops T oi v a→T w→
     wpAnyL P md ops Q T k fuel (listed.setIfInBounds i true) (a.put oi.dst v) w→wpAnyL P md ops Q T k (fuel+1) listed a w:=by
 intro fuel
 induction fuel with
 | zero=>
   intro listed a w _ hr hy hS H
   refine ⟨fun h=>(by rw [h] at hr;cases hr),fun j hj=> ?_⟩
   by_cases hji:j=i
   · subst hji;exact hy.wpOp hi hS ⟨Or.inr hS,H⟩
   · have:=ready_mono hj hji
     rw [H.1] at this
     cases this
 | succ fuel ih=>
   intro listed a w hfree hr hy hS H
   refine ⟨fun h=>(by rw [h] at hr;cases hr),fun j hj=> ?_⟩
   by_cases hji:j=i
   · subst hji;exact hy.wpOp hi hS ⟨Or.inr hS,H⟩
   · have h1:=H.2 j (ready_mono hj hji)
     obtain ⟨hjun,oj,hoj,hall⟩:=mem_ready.1 hj
     have hnot: ∀ e ∈ oj.after,Region.binds md e=true→e.on≠i:=fun e he hb heq=>by
       have h1:=hall e he hb
       have h0:=(mem_ready.1 hr).1
       rw [heq] at h1
       rcases Nat.lt_or_ge i listed.size with h' | h'
       · simp [h'] at h0 h1;rw [h0] at h1;cases h1
       · simp [Array.getElem?_eq_none h'] at h1
     have hjk:j≠k:=fun e=>by
       subst e
       rw [hok] at hoj
       injection hoj with hoj
       subst hoj
       obtain ⟨e,he,hb,ho⟩:=hdep
       exact hnot e he hb ho
     have h2:=wpOp_putIf hoj (hfree j oj hoj hji hjun hnot) (fun cs b=>hsel i oi cs b hi) (fun cs b=>hsel j oj cs b hoj) hQ hy h1
     have hfree': ∀ k ok,ops[k]? = some ok→k≠i→(listed.setIfInBounds j true).getD k true=false→
         (∀ e ∈ ok.after,Region.binds md e=true→e.on≠i)→oi.apart ops ok=true:=fun k ok hk hki hun hno=>by
       refine hfree k ok hk hki ?_ hno
       by_cases hjk:j=k
       · subst hjk;exact hjun
       · rw [getD_set_ne true hjk] at hun;exact hun
     refine wpOp_mono (fun a' w' h3=> ?_) h2
     have hT:T w':=by
       rcases h3.2.1 with z | z
       · exact absurd z hjk
       · exact z
     refine ⟨Or.inr hT,ih (listed.setIfInBounds j true) a' w' hfree' (ready_mono hr (Ne.symm hji)) h3.1 hT ?_⟩
     rw [Array.setIfInBounds_comm _ _ hji]
     exact h3.2.2
def waits (md:Region.Mode) (ops:Array Oper) (k i:Nat):Bool:=i != k && (match ops[k]? with
 | some o=>o.after.any fun e=>Region.binds md e && e.on == i
 | none=>false)
theorem wpAnyL_take {i:Nat} {oi:Oper} {v:Value} {fuel:Nat} {listed:Array Bool} {a:Act} {w:World} (hi:ops[i]? = some oi) (hk:waits md ops k i=true)
   (hs:Region.noSelect ops=true) (hf:Region.free md ops listed i=true) (hr:(Region.ready md ops listed).contains i=true)
   (hQ: ∀ c a w,Q (.panic c) (a.put oi.dst v) w→Q (.panic c) a w) (hy:YieldsIf P ops T oi v a) (hS:T w)
   (h:wpAnyL P md ops Q T k fuel (listed.setIfInBounds i true) (a.put oi.dst v) w):wpAnyL P md ops Q T k (fuel+1) listed a w:=by
 unfold waits at hk
 rw [Bool.and_eq_true] at hk
 obtain ⟨h1,h2⟩:=hk
 cases hq:ops[k]? with
 | none=>rw [hq] at h2;cases h2
 | some ok=>
   rw [hq] at h2
   simp only [Array.any_eq_true'] at h2
   obtain ⟨e,he,h3⟩:=h2
   rw [Bool.and_eq_true] at h3
   exact wpAnyL_first hi hq ⟨e,he,h3.1,by simpa using h3.2⟩ (Region.noSelect_spec hs) (by simpa using h1) hQ fuel listed a w (Region.free_spec hi hf) (by simpa using hr) hy hS h
theorem takeL (i:Nat) (v:Value) {oi:Oper} {fuel:Nat} {listed:Array Bool} {a:Act} {w:World} (hy: ∀ W,T W→(execOp a.eval oi).run P W= .ok (.value v) W) (hS:T w)
   (h:wpAnyL P md ops Q T k fuel (listed.setIfInBounds i true) (a.put oi.dst v) w) (hi:ops[i]? = some oi:=by exact rfl) (hk:waits md ops k i=true:=by kernel_rfl)
   (hs:Region.noSelect ops=true:=by kernel_rfl) (hf:Region.free md ops listed i=true:=by kernel_rfl) (hr:(Region.ready md ops listed).contains i=true:=by kernel_rfl)
   (hQ: ∀ c a w,Q (.panic c) (a.put oi.dst v) w→Q (.panic c) a w:=by exact fun _ _ _ h=>h) (hg:Region.wanted oi (yielded ops a.tmps)=true:=by exact rfl):wpAnyL P md ops Q T k (fuel+1) listed a w:=
 wpAnyL_take hi hk hs hf hr hQ (Or.inl ⟨hg,hy⟩) hS h
theorem setB (l:List Value) (i:Nat) (v:Value):l.toArray.setIfInBounds i v=(l.set i v).toArray:=List.setIfInBounds_toArray ..
theorem set0 (l:List Value) (x v:Value):(x :: l).set 0 v=v :: l:=rfl
theorem setS (l:List Value) (i:Nat) (x v:Value):(x :: l).set (i+1) v=x :: l.set i v:=rfl
theorem wpAnyL_one {i:Nat} {oi:Oper} {fuel:Nat} {listed:Array Bool} {a:Act} {w:World} (hr:Region.ready md ops listed=[i]) (hi:ops[i]? = some oi)
   (h: ∀ K:Act→World→Prop,(∀ a' w',(i=k∨T w')→wpAnyL P md ops Q T k fuel (listed.setIfInBounds i true) a' w'→K a' w')→if Region.wanted oi (yielded ops a.tmps)=true then Oper.wp P oi a w K Q else K (a.put oi.dst undef) w):wpAnyL P md ops Q T k (fuel+1) listed a w:=by
 refine ⟨fun h0=>(by rw [hr] at h0;cases h0),fun j hj=> ?_⟩
 rw [hr,List.mem_singleton] at hj
 subst hj
 have h:=h (fun a' w'=>(j=k∨T w')∧wpAnyL P md ops Q T k fuel (listed.setIfInBounds j true) a' w') (fun a' w' h1 h2=>⟨h1,h2⟩)
 unfold wpOp
 simp only [hi]
 split
 · rename_i hw
   rw [if_pos hw] at h
   exact Or.inl h
 · rename_i hw
   rw [if_neg hw] at h
   exact h
theorem wpAnyL_done {listed:Array Bool} {a:Act} {w:World} (hr:Region.ready md ops listed=[]) (h:Q .normal a w): ∀ fuel,wpAnyL P md ops Q T k fuel listed a w
 | 0=>⟨hr,h⟩
 | _+1=>⟨fun _=>h,by rw [hr];simp⟩
theorem wp_region_L {id:Nat} {a:Act} {w:World} (T:World→Prop) (k:Nat) (hm:P.follows .mixedOrders=true)
   (h:wpAnyL P .any ops Q T k ops.size (Array.replicate ops.size false) a { w with drawn:=w.drawn+1 }):(Code.region id ops true).wp P Q a w:=
 wp_region_any hm (wpAny_of_L _ _ _ _ h)
end
section
variable {P:Program} {ops:Array Oper} {Q:Exit→Act→World→Prop} {md:Region.Mode} {T:World→Prop} {k:Nat}
theorem wpAnyL_two {i j:Nat} {oi oj:Oper} {fuel:Nat} {listed:Array Bool} {a:Act} {w:World} (hr:Region.ready md ops listed=[i,j]) (hi:ops[i]? = some oi) (hj:ops[j]? = some oj)
   (h1: ∀ K:Act→World→Prop,(∀ a' w',(i=k∨T w')→wpAnyL P md ops Q T k fuel (listed.setIfInBounds i true) a' w'→K a' w')→if Region.wanted oi (yielded ops a.tmps)=true then Oper.wp P oi a w K Q else K (a.put oi.dst undef) w)
   (h2: ∀ K:Act→World→Prop,(∀ a' w',(j=k∨T w')→wpAnyL P md ops Q T k fuel (listed.setIfInBounds j true) a' w'→K a' w')→if Region.wanted oj (yielded ops a.tmps)=true then Oper.wp P oj a w K Q else K (a.put oj.dst undef) w):wpAnyL P md ops Q T k (fuel+1) listed a w:=by
 refine ⟨fun h0=>(by rw [hr] at h0;cases h0),fun q hq=> ?_⟩
 rw [hr] at hq
 simp only [List.mem_cons,List.not_mem_nil,or_false] at hq
 rcases hq with rfl | rfl
 · have h:=h1 (fun a' w'=>(q=k∨T w')∧wpAnyL P md ops Q T k fuel (listed.setIfInBounds q true) a' w') (fun a' w' h1 h2=>⟨h1,h2⟩)
   unfold wpOp
   simp only [hi]
   split
   · rename_i hw
     rw [if_pos hw] at h
     exact Or.inl h
   · rename_i hw
     rw [if_neg hw] at h
     exact h
 · have h:=h2 (fun a' w'=>(q=k∨T w')∧wpAnyL P md ops Q T k fuel (listed.setIfInBounds q true) a' w') (fun a' w' h1 h2=>⟨h1,h2⟩)
   unfold wpOp
   simp only [hj]
   split
   · rename_i hw
     rw [if_pos hw] at h
     exact Or.inl h
   · rename_i hw
     rw [if_neg hw] at h
     exact h
end
end Go.Proofs.YtknjjjenklfeoaaGreatDoor
namespace Go.Proofs.YtknjjjenklfeoaaGreatDoor
open Go.RowKit
attribute [local go_sem ↓] loadVar_clus
attribute [local go_sem] run_loadClus
theorem row_has {w:World} {base:Nat} {g cap:Nat} {L:List Clus} (h:w.ownsRow base 38 64 (.slice (some ⟨g,0,none⟩) L.length cap) L.length (flatC L)) (hl: ∀ c ∈ L,c.length=64)
   (k:Nat) (hk:k<L.length):HasAt w g (k*64) 64:=hasAt_of_range (row_range h hl k hk) (by rw [cv_length,cl_length hl hk])
theorem row_cells {w:World} {base:Nat} {g cap:Nat} {L:List Clus} (h:w.ownsRow base 38 64 (.slice (some ⟨g,0,none⟩) L.length cap) L.length (flatC L)) (hl: ∀ c ∈ L,c.length=64)
   (k:Nat) (hk:k<L.length):cellsAt w g (k*64) 64=cv (cl L k):=cellsAt_of_range (row_range h hl k hk) (by rw [cv_length,cl_length hl hk])
def rootOf (R:FileR) (i:Nat):RootR:=R.roots.getD i ⟨0,0,[]⟩
def needs (R:FileR) (b:Nat):Nat:=
 if num (cl R.L (rootOf R 0).N) (2*(b / 32))<32768 then 2
 else if num (cl R.L (num (cl R.L (rootOf R 0).N) (2*(b / 32))%32768)) (2*(b%32))<32768 then 1 else 0
theorem treeIn_zero (t m k:Nat) (R:FileR) (h:num (cl R.L t) (2*k)=0):treeIn t (m+1) k R=treeIn t m (k+1) R:=by simp [treeIn,h]
theorem treeIn_yes (t m k:Nat) (R:FileR) (h:num (cl R.L t) (2*k)≠0) (ht:(tell R (num (cl R.L t) (2*k)%32768) 3 t).1=true):
   treeIn t (m+1) k R=treeIn t m (k+1) (tell R (num (cl R.L t) (2*k)%32768) 3 t).2:=by simp [treeIn,h,ht]
end Go.Proofs.YtknjjjenklfeoaaGreatDoor
namespace Go.Proofs.YtknjjjenklfeoaaGreatDoor
open Go.RowKit
end Go.Proofs.YtknjjjenklfeoaaGreatDoor
