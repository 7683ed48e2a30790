import Derived.Test.YtknjjjenklfeoaaGreatDoorRows
import Derived.WalkKit
import Derived.WalkSpells
import Derived.WalkLawsBesides
import Derived.BigQuiet
import Derived.Deep.QuietTactic
import Derived.Deep.MidRow
import Derived.Deep.RegionHeld3
import Derived.Deep.AppendLies
import Derived.Lib.QuietBelow
import Derived.Deep.WholeRow
set_option maxHeartbeats 8000000
set_option maxRecDepth 100000
namespace Go.Proofs.YtknjjjenklfeoaaGreatDoor
abbrev Clus:=List UInt8
def byteAt (c:List UInt8) (i:Nat):Nat:=(c.getD i 0).toNat
def num (c:List UInt8) (i:Nat):Nat:=256*byteAt c i+byteAt c (i+1)
theorem byteAt_lt (c:List UInt8) (i:Nat):byteAt c i<256:=by unfold byteAt;exact (c.getD i 0).toNat_lt
theorem num_lt (c:List UInt8) (i:Nat):num c i<65536:=by
 have h1:=byteAt_lt c i
 have h2:=byteAt_lt c (i+1)
 unfold num;omega
structure RootR where
 N:Nat
 At:Nat
 name:List UInt8
structure FileR where
 L:List Clus
 roots:List RootR
 told:List Nat
 used:List Nat
 bad:Int
def cl (L:List Clus) (n:Nat):Clus:=L.getD n []
def countOf (L:List Clus) (n:Nat):Nat:=byteAt (cl L (1+n / 64)) (n%64)
def noTell (R:FileR) (n kind:Nat):Bool:=decide (n<6) || (decide (R.L.length≤n) || (R.told.getD n 0 != 0 && (R.told.getD n 0 != kind || kind == 1)))
def tell (R:FileR) (n kind at':Nat):Bool × FileR:=
 if noTell R n kind then (false,{ R with bad:=at' })
 else (true,{ R with told:=R.told.set n kind,used:=R.used.set n (R.used.getD n 0+1) })
def treeIn (t:Nat):Nat→Nat→FileR→Bool × FileR
 | 0,_,R=>(true,R)
 | m+1,k,R=>
   if num (cl R.L t) (2*k)=0 then treeIn t m (k+1) R
   else if (tell R (num (cl R.L t) (2*k)%32768) 3 t).1 then treeIn t m (k+1) (tell R (num (cl R.L t) (2*k)%32768) 3 t).2
   else (false,(tell R (num (cl R.L t) (2*k)%32768) 3 t).2)
def treeOut (t:Nat):Nat→Nat→FileR→Bool × FileR
 | 0,_,R=>(true,R)
 | m+1,i,R=>
   if num (cl R.L t) (2*i)=0 then treeOut t m (i+1) R
   else if 1<i then (false,{ R with bad:=t })
   else if (tell R (num (cl R.L t) (2*i)%32768) 2 t).1 then
     if (treeIn (num (cl R.L t) (2*i)%32768) 32 0 (tell R (num (cl R.L t) (2*i)%32768) 2 t).2).1 then
       treeOut t m (i+1) (treeIn (num (cl R.L t) (2*i)%32768) 32 0 (tell R (num (cl R.L t) (2*i)%32768) 2 t).2).2
     else (false,(treeIn (num (cl R.L t) (2*i)%32768) 32 0 (tell R (num (cl R.L t) (2*i)%32768) 2 t).2).2)
   else (false,(tell R (num (cl R.L t) (2*i)%32768) 2 t).2)
def tree (R:FileR) (r:RootR):Bool × FileR:=
 if (tell R r.N 1 r.At).1 then treeOut r.N 32 0 (tell R r.N 1 r.At).2 else (false,(tell R r.N 1 r.At).2)
def Low (b:Nat) (R:FileR):Prop:= ∀ n,R.used.getD n 0≤b
theorem tell_L (R:FileR) (n kind at':Nat):(tell R n kind at').2.L=R.L:=by unfold tell;split <;> rfl
theorem tell_roots (R:FileR) (n kind at':Nat):(tell R n kind at').2.roots=R.roots:=by unfold tell;split <;> rfl
theorem tell_low {b:Nat} {R:FileR} (h:Low b R) (n kind at':Nat):Low (b+1) (tell R n kind at').2:=by
 intro k
 have hk:=h k
 have hn:=h n
 unfold tell
 split
 · show R.used.getD k 0≤b+1;omega
 · show (R.used.set n (R.used.getD n 0+1)).getD k 0≤b+1
   simp only [List.getD_eq_getElem?_getD,List.getElem?_set] at*
   split
   · split <;> simp <;> omega
   · omega
theorem tell_ok {R:FileR} {n kind at':Nat} (h:(tell R n kind at').1=true):6≤n∧n<R.L.length:=by
 unfold tell at h
 split at h
 · simp at h
 · rename_i h'
   simp [noTell] at h'
   omega
def markBad (R:FileR) (x:Nat):Bool:=if 32768≤x then (R.used.getD (x%32768) 0 != 1 || countOf R.L (x%32768) != 1) else false
def usedOf (R:FileR) (n:Nat):Nat:=R.used.getD n 0
def badCount (R:FileR) (n:Nat):Bool:=(decide (n<R.L.length) && decide (countOf R.L n<usedOf R n)) || (countOf R.L n == 255 || (decide (R.L.length≤n) && countOf R.L n != 0))
def countsFrom (R:FileR):Nat→Nat→Int
 | 0,_=> -1
 | m+1,n=>if badCount R n then n else countsFrom R m (n+1)
def cntTo (p:Nat→Bool):Nat→Nat
 | 0=>0
 | k+1=>cntTo p k+if p k then 1 else 0
theorem cntTo_le (p:Nat→Bool) (k:Nat):cntTo p k≤k:=by
 induction k with
 | zero=>exact Nat.le_refl _
 | succ k ih=>simp only [cntTo];split <;> omega
def freeOf (L:List Clus):Nat:=256 - L.length+cntTo (fun k=>decide (6≤k) && countOf L k == 0) L.length
def markNone (R:FileR) (x:Nat):Nat:=if 32768≤x then 0 else if R.used.getD (x%32768) 0=1 then 1 else 0
end Go.Proofs.YtknjjjenklfeoaaGreatDoor
namespace Go.Proofs.YtknjjjenklfeoaaGreatDoor
open Go.RowKit
theorem hide {p:Prop} (h:p):Hid p:=h
theorem uh {p:Prop} (h:Hid p):p:=h
theorem ret_int {k:IntKind} {a b:Int} (h:a=b):Ending.returned (.int k a)= .returned (.int k b):=by rw [h]
def cv (c:List UInt8):List Value:=c.map fun b=> .int .u8 b.toNat
theorem cv_length (c:List UInt8):(cv c).length=c.length:=by simp [cv]
theorem cv_get (c:List UInt8) (i:Nat) (h:i<c.length):(cv c)[i]? = some (.int .u8 (byteAt c i)):=by
 simp [cv,byteAt,h,List.getD]
theorem cv_one (c:List UInt8): ∀ v ∈ cv c,v.oneCell'=true:=by
 intro v hv
 simp only [cv,List.mem_map] at hv
 obtain ⟨b,_,rfl⟩:=hv
 rfl
theorem cell_new (w:World) (cs:Array Value) (t:TypeId) (fr:Nat × Nat) (i:Nat):(w.alloc (.cells cs t fr)).cell? ⟨w.heap.size,i,none⟩=cs[i]? := by
 rw [World.cell?]
 rw [heap_alloc_new w (.cells cs t fr)]
 rfl
theorem cell_blk {w:World} {f:Nat} {cs:Array Value} {t:TypeId} {fr:Nat × Nat} (h:w.heap[f]? = some (.cells cs t fr)) (i:Nat):w.cell? ⟨f,i,none⟩=cs[i]? := by
 rw [World.cell?,h];rfl
theorem frozen_blk {w:World} {f:Nat} {cs:Array Value} {t:TypeId} (h:w.heap[f]? = some (.cells cs t (0,0))) (i:Nat):w.frozen? ⟨f,i,none⟩=false:=by
 rw [World.frozen?,h];simp
structure Kept (S:Nat→Prop) (w w':World):Prop where
 os:w'.os=w.os
 tape:w'.tape=w.tape
 output:w'.output=w.output
 size:w.heap.size≤w'.heap.size
 block: ∀ k,k<w.heap.size→ ¬ S k→w'.heap[k]? = w.heap[k]?
theorem Kept.refl (S:Nat→Prop) (w:World):Kept S w w:=⟨rfl,rfl,rfl,Nat.le_refl _,fun _ _ _=>rfl⟩
theorem Kept.trans {S:Nat→Prop} {a b c:World} (h:Kept S a b) (k:Kept S b c):Kept S a c:=
 ⟨k.os.trans h.os,k.tape.trans h.tape,k.output.trans h.output,Nat.le_trans h.size k.size,fun i hi hs=>(k.block i (Nat.lt_of_lt_of_le hi h.size) hs).trans (h.block i hi hs)⟩
theorem Kept.mono {S T:Nat→Prop} {w w':World} (h:Kept S w w') (hs: ∀ k,S k→T k):Kept T w w':=
 ⟨h.os,h.tape,h.output,h.size,fun i hi ht=>h.block i hi fun x=>ht (hs i x)⟩
theorem Kept.drew {S:Nat→Prop} {a w:World} (h:Kept S a w):Kept S a w.drew:=⟨h.os,h.tape,h.output,h.size,h.block⟩
theorem Kept.drewN {S:Nat→Prop} {a w:World} (h:Kept S a w) (n:Nat):Kept S a (w.drewN n):=⟨h.os,h.tape,h.output,h.size,h.block⟩
theorem Kept.alloc {S:Nat→Prop} {a w:World} (h:Kept S a w) (o:Obj):Kept S a (w.alloc o):=
 h.trans ⟨rfl,rfl,rfl,by simp,fun k hk _=>Below.heap_alloc _ _ _ hk⟩
theorem Kept.setCell {S:Nat→Prop} {a w:World} (h:Kept S a w) {p:Addr} (hp:S p.block∨a.heap.size≤p.block) (u:Value):Kept S a (w.setCell p u):=
 ⟨h.os,h.tape,h.output,by simpa [World.setCell] using h.size,fun k hk hs=>by
   rw [Below.heap_setCell _ _ _ _ (by rintro rfl;rcases hp with hp | hp;exact hs hp;omega)];exact h.block k hk hs⟩
theorem Kept.of_below {S:Nat→Prop} {w w':World} (h:Below w.heap.size w w'):Kept S w w':=⟨h.os,h.tape,h.output,h.size,fun k hk _=>h.block k hk⟩
theorem Kept.below {w w':World} (h:Kept (fun _=>False) w w'):Below w.heap.size w w':=⟨h.os,h.tape,h.output,h.size,fun k hk=>h.block k hk id⟩
theorem Kept.cell {S:Nat→Prop} {w w':World} (h:Kept S w w') {p:Addr} (hp:p.block<w.heap.size) (hs: ¬ S p.block):w'.cell? p=w.cell? p:=
 World.cell?_of_block (w:=w) (h.block p.block hp hs)
theorem blk_lt {w:World} {g:Nat} {o:Obj} (h:w.heap[g]? = some o):g<w.heap.size:=(Array.getElem?_eq_some_iff.1 h).1
theorem Kept.blk {S:Nat→Prop} {w w':World} (h:Kept S w w') {g:Nat} {o:Obj} (hs: ¬ S g) (hg:w.heap[g]? = some o):w'.heap[g]? = some o:=
 (h.block g (blk_lt hg) hs).trans hg
theorem ownsRow_kept {S:Nat→Prop} {w w':World} (h:Kept S w w') {base:Nat} {e:TypeId} {size:Nat} {v:Value} {n:Nat} {xs:List Value} (hr:w.ownsRow base e size v n xs)
   (hs: ∀ g,v.ownBlock=some g→ ¬ S g):w'.ownsRow base e size v n xs:=by
 obtain ⟨h1,h2⟩:=hr
 refine ⟨h1,?_⟩
 rcases h2 with h2 | ⟨g,cap,cur,rfl,hg,hh,r⟩
 · exact Or.inl h2
 · exact Or.inr ⟨g,cap,cur,rfl,hg,h.blk (hs g rfl) hh,r⟩
theorem row_ne {w:World} {base:Nat} {e:TypeId} {size:Nat} {v:Value} {n:Nat} {xs:List Value} (hr:w.ownsRow base e size v n xs) {f:Nat} {cs:Array Value} {t:TypeId} {fr:Nat × Nat}
   (hf:w.heap[f]? = some (.cells cs t fr)) (hne:e≠t): ∀ g,v.ownBlock=some g→g≠f:=by
 intro g hg
 rcases hr.2 with ⟨rfl,_⟩ | ⟨g',cap,cur,rfl,_,hh,_⟩
 · cases hg
 · rintro rfl
   simp only [Value.ownBlock,Option.some.injEq] at hg
   subst hg
   rw [hf] at hh
   simp at hh
   exact hne hh.2.1.symm
theorem heap_setCell_same (w:World) (f i:Nat) (v:Value) (cs:Array Value) (t:TypeId) (fr:Nat × Nat) (h:w.heap[f]? = some (.cells cs t fr)):
   (w.setCell ⟨f,i,none⟩ v).heap[f]? = some (.cells (cs.setIfInBounds i v) t fr):=by
 simp [World.setCell,Array.getElem?_modify,h]
def flatC (L:List Clus):List Value:=L.flatMap cv
theorem flatC_length (L:List Clus) (hl: ∀ c ∈ L,c.length=64):(flatC L).length=L.length*64:=by
 induction L with
 | nil=>rfl
 | cons a r ih=>
   have h1:=hl a (by simp)
   have h2:=ih (fun c hc=>hl c (by simp [hc]))
   simp only [flatC,List.flatMap_cons,List.length_append,cv_length,List.length_cons] at*
   omega
theorem flatC_range (L:List Clus) (hl: ∀ c ∈ L,c.length=64) (k:Nat) (hk:k<L.length) (j:Nat) (hj:j<64):(flatC L)[k*64+j]? = (cv (cl L k))[j]? := by
 induction L generalizing k with
 | nil=>simp at hk
 | cons a r ih=>
   have h1:=hl a (by simp)
   cases k with
   | zero=>
     simp only [flatC,List.flatMap_cons,cl,List.getD_cons_zero,Nat.zero_mul,Nat.zero_add]
     rw [List.getElem?_append_left (by rw [cv_length];omega)]
   | succ k=>
     have h2:=ih (fun c hc=>hl c (by simp [hc])) k (by simpa using hk)
     simp only [flatC,List.flatMap_cons,cl,List.getD_cons_succ] at*
     rw [List.getElem?_append_right (by rw [cv_length];omega),cv_length,h1,← h2]
     congr 1
     omega
theorem cl_length {L:List Clus} (hl: ∀ c ∈ L,c.length=64) {k:Nat} (hk:k<L.length):(cl L k).length=64:=by
 unfold cl
 rw [List.getD_eq_getElem?_getD,List.getElem?_eq_getElem hk]
 exact hl _ (List.getElem_mem hk)
def HasAt (w:World) (b o n:Nat):Prop:= ∀ j,j<n→(w.cell? ⟨b,o+j,none⟩).isSome=true
def cellsAt (w:World) (b o n:Nat):List Value:=(List.range n).map fun j=>(w.cell? ⟨b,o+j,none⟩).getD undef
theorem cellsAt_length (w:World) (b o n:Nat):(cellsAt w b o n).length=n:=by simp [cellsAt]
theorem rangeAt_cellsAt {w:World} {b o n:Nat} (h:HasAt w b o n):w.rangeAt b o (cellsAt w b o n):=by
 intro j v hv
 have hj:j<n:=by have:=(List.getElem?_eq_some_iff.1 hv).1;rwa [cellsAt_length] at this
 simp only [cellsAt,List.getElem?_map,List.getElem?_range hj,Option.map_some,Option.some.injEq] at hv
 obtain ⟨u,hu⟩:=Option.isSome_iff_exists.1 (h j hj)
 rw [hu] at hv ⊢
 simpa using hv
theorem hasAt_of_range {w:World} {b o n:Nat} {cs:List Value} (h:w.rangeAt b o cs) (hn:cs.length=n):HasAt w b o n:=fun j hj=>h.isSome j (by omega)
theorem cellsAt_of_range {w:World} {b o n:Nat} {cs:List Value} (h:w.rangeAt b o cs) (hn:cs.length=n):cellsAt w b o n=cs:=by
 refine List.ext_getElem? fun j=> ?_
 by_cases hj:j<n
 · rw [cellsAt,List.getElem?_map,List.getElem?_range hj,List.getElem?_eq_getElem (by omega)]
   have:=h j _ (List.getElem?_eq_getElem (by omega))
   simp [this]
 · rw [List.getElem?_eq_none (by rw [cellsAt_length];omega),List.getElem?_eq_none (by omega)]
theorem run_loadVar_has {P:Program} {w:World} {b o n:Nat} (h:HasAt w b o n) (ty:TypeId) (d:TypeDesc) (hu:P.underlying ty=some d) (hd:d.isRow=true) (hi:(P.info? ty).map (·.size)=some n):
   (loadVar ty ⟨b,o,none⟩).run P w= .ok (.agg (cellsAt w b o n).toArray) w:=
 run_loadVar_mid w b o ty (cellsAt w b o n) d (rangeAt_cellsAt h) hu hd (by rw [cellsAt_length];exact hi)
def loadClus (a:Addr):Sem Value:=loadVar 38 a
theorem loadVar_clus (a:Addr):loadVar 38 a=loadClus a:=rfl
theorem run_loadClus {w:World} {b o:Nat} (h:HasAt w b o 64):(loadClus ⟨b,o,none⟩).run Tryz.prog w= .ok (.agg (cellsAt w b o 64).toArray) w:=
 run_loadVar_has h 38 _ Tryz.underlying38 rfl (by kernel_rfl)
def storeClus (a:Addr) (v:Value):Sem Unit:=storeVar 38 a v
theorem storeVar_clus (a:Addr) (v:Value):storeVar 38 a v=storeClus a v:=rfl
theorem run_storeClus {w:World} {b o:Nat} {c:List UInt8} (ht:w.there b o 64) (hc:c.length=64):(storeClus ⟨b,o,none⟩ (.agg (cv c).toArray)).run Tryz.prog w= .ok () (w.setCells b o (cv c)):=by
 have:=run_storeVar_mid (P:=Tryz.prog) w b o 38 (cv c).toArray (by simpa [cv_length,hc] using ht) (by simp only [List.size_toArray,cv_length,hc];kernel_rfl) (all_oneCell_toArray (cv_one c))
 simpa [storeClus] using this
def zc:List UInt8:=List.replicate 64 0
theorem zc_length:zc.length=64:=by simp [zc]
def zeroClus:Sem Value:=zeroValue 38
theorem zeroValue_clus:zeroValue 38=zeroClus:=rfl
theorem run_zeroClus (w:World):zeroClus.run Tryz.prog w= .ok (.agg (cv zc).toArray) w:=
 (zero_of_info (P:=Tryz.prog) (t:=38) (v:= .agg (cv zc).toArray) (n:=64) (by kernel_rfl)).1 w
def setList (cs:Array Value) (o:Nat):List Value→Array Value
 | []=>cs
 | v :: r=>setList (cs.setIfInBounds o v) (o+1) r
theorem setList_size (o:Nat) (cs:Array Value) (vs:List Value):(setList cs o vs).size=cs.size:=by
 induction vs generalizing cs o with
 | nil=>rfl
 | cons v r ih=>rw [setList,ih];simp
theorem setList_get (vs:List Value): ∀ (o:Nat) (cs:Array Value) (i:Nat),o+vs.length≤cs.size→(setList cs o vs)[i]? = if o≤i∧i<o+vs.length then vs[i - o]? else cs[i]? := by
 induction vs with
 | nil=>intro o cs i _;rw [setList,if_neg (by simp only [List.length_nil];omega)]
 | cons v r ih=>
   intro o cs i h
   simp only [List.length_cons] at h
   rw [setList,ih (o+1) _ i (by simp;omega)]
   by_cases h1:o+1≤i∧i<o+1+r.length
   · rw [if_pos h1,if_pos (by simp only [List.length_cons];omega),show i - o=(i - (o+1))+1 by omega,List.getElem?_cons_succ]
   · rw [if_neg h1,Array.getElem?_setIfInBounds]
     by_cases h2:o=i
     · subst h2
       rw [if_pos rfl,if_pos (by omega),if_pos (by simp only [List.length_cons];omega),Nat.sub_self,List.getElem?_cons_zero]
     · rw [if_neg h2,if_neg (by simp only [List.length_cons];omega)]
theorem heap_setCells_same (vs:List Value): ∀ (o:Nat) (w:World) (b:Nat) (cs:Array Value) (t:TypeId) (fr:Nat × Nat),w.heap[b]? = some (.cells cs t fr)→
   (w.setCells b o vs).heap[b]? = some (.cells (setList cs o vs) t fr):=by
 induction vs with
 | nil=>intro o w b cs t fr h;exact h
 | cons v r ih=>intro o w b cs t fr h;rw [World.setCells];exact ih (o+1) _ b _ t fr (heap_setCell_same w b o v cs t fr h)
theorem heap_setCells_other (vs:List Value): ∀ (o:Nat) (w:World) (b k:Nat),k≠b→(w.setCells b o vs).heap[k]? = w.heap[k]? := by
 induction vs with
 | nil=>intro o w b k _;rfl
 | cons v r ih=>intro o w b k h;rw [World.setCells,ih (o+1) _ b k h];exact Below.heap_setCell _ _ _ _ h
theorem setCells_facts (vs:List Value): ∀ (o:Nat) (w:World) (b:Nat),(w.setCells b o vs).os=w.os∧(w.setCells b o vs).tape=w.tape∧(w.setCells b o vs).output=w.output∧(w.setCells b o vs).heap.size=w.heap.size:=by
 induction vs with
 | nil=>intro o w b;exact ⟨rfl,rfl,rfl,rfl⟩
 | cons v r ih=>
   intro o w b
   rw [World.setCells]
   obtain ⟨h1,h2,h3,h4⟩:=ih (o+1) (w.setCell ⟨b,o,none⟩ v) b
   exact ⟨h1,h2,h3,by rw [h4];simp [World.setCell]⟩
theorem Kept.setCells {S:Nat→Prop} {a w:World} (h:Kept S a w) {b:Nat} (hp:S b∨a.heap.size≤b) (o:Nat) (vs:List Value):Kept S a (w.setCells b o vs):=by
 obtain ⟨h1,h2,h3,h4⟩:=setCells_facts vs o w b
 refine ⟨h1.trans h.os,h2.trans h.tape,h3.trans h.output,by rw [h4];exact h.size,fun k hk hs=> ?_⟩
 rw [heap_setCells_other vs o w b k (by rintro rfl;rcases hp with hp | hp;exact hs hp;omega)]
 exact h.block k hk hs
theorem below_setCells {B:Nat} {a w:World} (h:Below B a w) {b:Nat} (hp:B≤b) (o:Nat) (vs:List Value):Below B a (w.setCells b o vs):=by
 obtain ⟨h1,h2,h3,h4⟩:=setCells_facts vs o w b
 exact ⟨h1.trans h.os,h2.trans h.tape,h3.trans h.output,by rw [h4];exact h.size,fun k hk=>(heap_setCells_other vs o w b k (by omega)).trans (h.block k hk)⟩
theorem setList_flatC (D:List Clus) (hD: ∀ c ∈ D,c.length=64) (k:Nat) (hk:k<D.length) (c:Clus) (hc:c.length=64):setList (flatC D).toArray (k*64) (cv c)=(flatC (D.set k c)).toArray:=by
 have hl:=flatC_length D hD
 have hD': ∀ x ∈ D.set k c,x.length=64:=by
   intro x hx
   rcases List.mem_or_eq_of_mem_set hx with h | h
   · exact hD x h
   · rw [h];exact hc
 have hl':=flatC_length (D.set k c) hD'
 rw [List.length_set] at hl'
 apply Array.ext_getElem?
 intro i
 rw [setList_get (cv c) _ _ i (by rw [cv_length,hc];simp;omega),cv_length,hc,List.getElem?_toArray,List.getElem?_toArray]
 by_cases hi:i<D.length*64
 · have e:i=(i / 64)*64+i%64:=by omega
   have hq:i / 64<D.length:=by omega
   rw [e,flatC_range (D.set k c) hD' (i / 64) (by simpa using hq) (i%64) (by omega),flatC_range D hD (i / 64) hq (i%64) (by omega)]
   unfold cl
   simp only [List.getD_eq_getElem?_getD,List.getElem?_set]
   by_cases h2:k=i / 64
   · rw [if_pos h2,if_pos (by omega),if_pos (by omega)]
     simp only [Option.getD_some]
     congr 1
     omega
   · rw [if_neg h2,if_neg (by omega)]
 · rw [if_neg (by omega),List.getElem?_eq_none (by omega),List.getElem?_eq_none (by omega)]
def loadCont (a:Addr):Sem Value:=loadVar 67 a
theorem loadVar_cont (a:Addr):loadVar 67 a=loadCont a:=rfl
theorem run_loadCont {w:World} {b o:Nat} (h:HasAt w b o 4096):(loadCont ⟨b,o,none⟩).run Tryz.prog w= .ok (.agg (cellsAt w b o 4096).toArray) w:=
 run_loadVar_has h 67 _ Tryz.underlying67 rfl (by kernel_rfl)
theorem flatC_one (D:List Clus): ∀ v ∈ flatC D,v.oneCell'=true:=by
 intro v hv
 simp only [flatC,List.mem_flatMap] at hv
 obtain ⟨c,_,hv⟩:=hv
 exact cv_one c v hv
def storeCont (a:Addr) (v:Value):Sem Unit:=storeVar 67 a v
theorem storeVar_cont (a:Addr) (v:Value):storeVar 67 a v=storeCont a v:=rfl
def All64 (D:List Clus):Prop:= ∀ c ∈ D,c.length=64
theorem run_storeCont {w:World} {b o:Nat} {D:List Clus} (ht:w.there b o 4096) (hD:All64 D) (hl:D.length=64):(storeCont ⟨b,o,none⟩ (.agg (flatC D).toArray)).run Tryz.prog w= .ok () (w.setCells b o (flatC D)):=by
 have e:=flatC_length D hD
 rw [hl] at e
 have:=run_storeVar_mid (P:=Tryz.prog) w b o 67 (flatC D).toArray (by rw [List.size_toArray,e];exact ht) (by rw [List.size_toArray,e];kernel_rfl) (all_oneCell_toArray (flatC_one D))
 simpa [storeCont] using this
def zD:List Clus:=List.replicate 64 zc
theorem zD_length:zD.length=64:=by simp [zD]
theorem zD_all: ∀ c ∈ zD,c.length=64:=by intro c hc;rw [List.eq_of_mem_replicate hc];exact zc_length
def zeroCont:Sem Value:=zeroValue 67
theorem zeroValue_cont:zeroValue 67=zeroCont:=rfl
theorem run_zeroCont (w:World):zeroCont.run Tryz.prog w= .ok (.agg (flatC zD).toArray) w:=
 (zero_of_info (P:=Tryz.prog) (t:=67) (v:= .agg (flatC zD).toArray) (n:=4096) (by kernel_rfl)).1 w
theorem results_cell {fn:Func} {p:Tmp} {ty:TypeId} (h:fn.results= #[.cell p ty]) {tmps:Array Value} {P:Program} {w:World} (a:Addr) {v:Value} (ht:tmps.getD p undef= .pointer (some a)) (hl:(loadVar ty a).run P w= .ok v w):
   (results fn tmps).run P w= .ok v w:=by
 simp only [results,h]
 simp [-Array.getD_eq_getD_getElem?,asAddr,ht,hl]
theorem run_storeClus_new {w:World} {z c:List UInt8} (hz:z.length=64) (hc:c.length=64):
   (storeClus ⟨w.heap.size,0,none⟩ (.agg (cv c).toArray)).run Tryz.prog (w.alloc (.cells (cv z).toArray 38))= .ok () (w.alloc (.cells (cv c).toArray 38)):=
 run_storeVar_new w 38 (cv z).toArray (cv c).toArray (by simp only [List.size_toArray,cv_length,hc];kernel_rfl) (by simp [cv_length,hz,hc]) (all_oneCell_toArray (cv_one c))
theorem run_loadClus_new {w:World} {c:List UInt8} (hc:c.length=64):
   (loadClus ⟨w.heap.size,0,none⟩).run Tryz.prog (w.alloc (.cells (cv c).toArray 38))= .ok (.agg (cv c).toArray) (w.alloc (.cells (cv c).toArray 38)):=
 run_loadVar_new w 38 (cv c).toArray 64 5 Tryz.underlying38 (by simp only [List.size_toArray,cv_length,hc];kernel_rfl)
theorem HasAt_drew (w:World) (b o n:Nat):HasAt w.drew b o n=HasAt w b o n:=rfl
theorem cellsAt_drew (w:World) (b o n:Nat):cellsAt w.drew b o n=cellsAt w b o n:=rfl
theorem HasAt_drewN (w:World) (m b o n:Nat):HasAt (w.drewN m) b o n=HasAt w b o n:=rfl
theorem cellsAt_drewN (w:World) (m b o n:Nat):cellsAt (w.drewN m) b o n=cellsAt w b o n:=rfl
theorem box_has {w:World} {b:Nat} {c:List UInt8} {t:TypeId} {fr:Nat × Nat} (h:w.heap[b]? = some (.cells (cv c).toArray t fr)) (hc:c.length=64):HasAt w b 0 64:=
 fun j hj=>by rw [Nat.zero_add,cell_blk h,List.getElem?_toArray,cv_get _ _ (by omega)];rfl
theorem box_range {w:World} {b:Nat} {c:List UInt8} {t:TypeId} {fr:Nat × Nat} (h:w.heap[b]? = some (.cells (cv c).toArray t fr)):w.rangeAt b 0 (cv c):=fun j v hv=>by
 rw [Nat.zero_add,cell_blk h,List.getElem?_toArray];exact hv
theorem box_cells {w:World} {b:Nat} {c:List UInt8} {t:TypeId} {fr:Nat × Nat} (h:w.heap[b]? = some (.cells (cv c).toArray t fr)) (hc:c.length=64):cellsAt w b 0 64=cv c:=
 cellsAt_of_range (box_range h) (by rw [cv_length,hc])
theorem box_byte {w:World} {b:Nat} {c:List UInt8} {t:TypeId} {fr:Nat × Nat} (h:w.heap[b]? = some (.cells (cv c).toArray t fr)) (i:Nat) (hi:i<c.length):w.cell? ⟨b,i,none⟩=some (.int .u8 (byteAt c i:Nat)):=by
 rw [cell_blk h,List.getElem?_toArray,cv_get c i hi]
theorem box_store {w:World} {b:Nat} {z c:List UInt8} {t:TypeId} {fr:Nat × Nat} (h:w.heap[b]? = some (.cells (cv z).toArray t fr)) (hz:z.length=64) (hc:c.length=64):(w.setCells b 0 (cv c)).heap[b]? = some (.cells (cv c).toArray t fr):=by
 rw [heap_setCells_same _ _ _ _ _ _ _ h]
 congr 2
 apply Array.ext_getElem?
 intro i
 rw [setList_get _ _ _ _ (by simp [cv_length,hz,hc]),cv_length,hc,List.getElem?_toArray,List.getElem?_toArray]
 by_cases hi:i<64
 · rw [if_pos (by omega),Nat.sub_zero]
 · rw [if_neg (by omega),List.getElem?_eq_none (by rw [cv_length];omega),List.getElem?_eq_none (by rw [cv_length];omega)]
theorem foldl_setList (vs:List Value): ∀ (k off:Nat) (cs:Array Value),(vs.zipIdx k).foldl (fun cs x=>cs.setIfInBounds (off+x.2) x.1) cs=setList cs (off+k) vs:=by
 induction vs with
 | nil=>intro k off cs;rfl
 | cons v r ih=>intro k off cs;rw [List.zipIdx_cons,List.foldl_cons,ih (k+1) off,setList];rfl
theorem fill_one (place:Nat→Option (Nat × Nat)) (cs:Array Value) (i off n:Nat) (v:Value) (rest:List (Nat × Value)) (hp:place i=some (off,n)) (hv:v.cells.size=n) (ho:off+n≤cs.size):
   Instr.fill place cs ((i,v) :: rest)=Instr.fill place (setList cs off v.cells.toList) rest:=by
 rw [Instr.fill,hp]
 simp only [hv]
 rw [if_neg (by simp;omega)]
 congr 1
 rw [← Array.foldl_toList,Array.toList_zipIdx,foldl_setList,Nat.add_zero]
theorem setList_all (vs:List Value) (cs:Array Value) (h:cs.size=vs.length):setList cs 0 vs=vs.toArray:=by
 apply Array.ext_getElem?
 intro i
 rw [setList_get vs 0 cs i (by omega)]
 by_cases hi:i<vs.length
 · rw [if_pos (by omega),Nat.sub_zero];simp
 · rw [if_neg (by omega),Array.getElem?_eq_none (by omega),Array.getElem?_eq_none (by simp;omega)]
theorem run_buildSlice_one {P:Program} (w:World) (t e:TypeId) (n:Nat) (z v:Value) (ht:P.underlying t=some (.slice e)) (hi:(P.info? e).map (fun i=>(i.zero,i.size))=some (some z,n)) (h0:0<n) (hn:n≤16777216) (hv:v.cells.size=n):
   (Instr.buildSlice t 1 #[(0,v)]).run P w= .ok (.slice (some ⟨w.heap.size,0,none⟩) 1 1) (w.alloc (.cells v.cells e)):=by
 obtain ⟨hz,hs⟩:=zero_of_info hi
 cases hq:P.info? e with
 | none=>simp [hq] at hs
 | some i=>
   have hsz:i.size=n:=by simpa [hq] using hs
   have hf:Instr.fill (fun i=>some (i*n,n)) ((Array.range (1*n)).map (z.cells[· % z.cells.size]!)) [(0,v)]=some v.cells:=by
     rw [fill_one _ _ 0 0 n v [] (by simp) hv (by simp),Instr.fill,setList_all _ _ (by simp [hv])]
   unfold Instr.buildSlice
   rw [Sem.run_bind,run_underlying ht w]
   simp only [Result.andThen_ok,sizeOf,typeInfo,Sem.run_bind,run_program,hq,Sem.run_pure,hsz]
   rw [if_neg (by omega),if_neg (by omega)]
   simp only [Sem.run_bind,hz,Result.andThen_ok,Sem.run_pure,hf]
   simp [newRow]
def bsClus (parts:Array (Nat × Value)):Sem Value:=Instr.buildSlice 28 1 parts
theorem buildSlice_clus (parts:Array (Nat × Value)):Instr.buildSlice 28 1 parts=bsClus parts:=rfl
theorem run_bsClus {w:World} {c:List UInt8} (hc:c.length=64):(bsClus #[(0,.agg (cv c).toArray)]).run Tryz.prog w= .ok (.slice (some ⟨w.heap.size,0,none⟩) 1 1) (w.alloc (.cells (cv c).toArray 38)):=
 run_buildSlice_one w 28 38 64 (.agg (cv zc).toArray) (.agg (cv c).toArray) Tryz.underlying28 (by kernel_rfl) (by omega) (by omega) (by simp [Value.cells,cv_length,hc])
theorem run_eqLoop {P:Program} (d:Nat) (e:TypeId) (sz:Nat) (xs ys:Array Value) (A B:Nat→Value) (E:Nat→Bool): ∀ (n s:Nat) (w:World),
   (∀ i,s≤i→i<s+n→ ∀ w,(part e xs (i*sz)).run P w= .ok (A i) w)→(∀ i,s≤i→i<s+n→ ∀ w,(part e ys (i*sz)).run P w= .ok (B i) w)→(∀ i,s≤i→i<s+n→ ∀ w,(Op.equalIn d e (A i) (B i)).run P w= .ok (E i) w)→
   (forIn (List.range' s n 1) ((none:Option Bool),()) fun i _=>do
       let a ← part e xs (i*sz)
       let b ← part e ys (i*sz)
       let c ← Op.equalIn d e a b
       if (!c)=true then pure (ForInStep.done (some false,())) else pure (ForInStep.yield (none,()))).run P w= .ok (if (List.range' s n 1).all E then (none,()) else (some false,())) w
 | 0,s,w,_,_,_=>by simp
 | n+1,s,w,hA,hB,hE=>by
   rw [List.range'_succ,List.forIn_cons]
   simp only [Sem.run_bind,hA s (Nat.le_refl _) (by omega),hB s (Nat.le_refl _) (by omega),hE s (Nat.le_refl _) (by omega),Result.andThen_ok,List.all_cons]
   by_cases hs:E s=true
   case neg=>
     have hs':E s=false:=by simpa using hs
     rw [if_pos (by simp [hs'])]
     simp [hs']
   case pos=>
     rw [if_neg (by simp [hs])]
     simp only [Sem.run_pure,Result.andThen_ok,hs,Bool.true_and]
     exact run_eqLoop d e sz xs ys A B E n (s+1) w (fun i h1 h2=>hA i (by omega) (by omega)) (fun i h1 h2=>hB i (by omega) (by omega)) (fun i h1 h2=>hE i (by omega) (by omega))
theorem run_equalIn_array {P:Program} (w:World) (d:Nat) (t e:TypeId) (n sz:Nat) (xs ys:Array Value) (A B:Nat→Value) (E:Nat→Bool) (hu:P.underlying t=some (.array n e)) (hs:(P.info? e).map (·.size)=some sz)
   (hA: ∀ i,i<n→ ∀ w,(part e xs (i*sz)).run P w= .ok (A i) w) (hB: ∀ i,i<n→ ∀ w,(part e ys (i*sz)).run P w= .ok (B i) w) (hE: ∀ i,i<n→ ∀ w,(Op.equalIn d e (A i) (B i)).run P w= .ok (E i) w):
   (Op.equalIn (d+1) t (.agg xs) (.agg ys)).run P w= .ok ((List.range' 0 n 1).all E) w:=by
 cases hq:P.info? e with
 | none=>simp [hq] at hs
 | some i=>
   have hi:i.size=sz:=by simpa [hq] using hs
   have hsz:(Go.sizeOf e).run P w= .ok sz w:=by simp [Go.sizeOf,typeInfo,hq,hi]
   simp only [Op.equalIn,Sem.run_bind,run_underlying hu,Result.andThen_ok,hsz]
   rw [Std.Legacy.Range.forIn_eq_forIn_range']
   have:=run_eqLoop (P:=P) d e sz xs ys A B E n 0 w (fun i _ h=>hA i (by omega)) (fun i _ h=>hB i (by omega)) (fun i _ h=>hE i (by omega))
   simp only [Std.Legacy.Range.size,Nat.sub_zero,Nat.add_sub_cancel,Nat.div_one] at*
   rw [this]
   cases (List.range' 0 n 1).all E <;> simp
theorem part_byte (c:List UInt8) (i:Nat) (hi:i<c.length) (w:World):(part 5 (cv c).toArray (i*1)).run Tryz.prog w= .ok (.int .u8 (byteAt c i:Nat)) w:=by
 have ha:(isAgg 5).run Tryz.prog w= .ok false w:=by unfold isAgg;rw [Sem.run_bind,run_underlying Tryz.underlying5 w];rfl
 unfold part
 rw [Sem.run_bind,ha]
 simp only [Result.andThen_ok,Bool.false_eq_true,if_false,Nat.mul_one]
 rw [List.getElem?_toArray,cv_get c i hi]
 rfl
theorem all_range' (n:Nat) (E:Nat→Bool) (p:Prop) [Decidable p] (h:(∀ i,i<n→E i=true)↔p):(List.range' 0 n 1).all E=decide p:=by
 rw [Bool.eq_iff_iff,List.all_eq_true,decide_eq_true_iff,← h]
 constructor
 · intro x i hi;exact x i (by simp [List.mem_range'];omega)
 · intro x i hi
   simp [List.mem_range'] at hi
   exact x i (by omega)
theorem run_eq_clus (d:Nat) (a b:List UInt8) (ha:a.length=64) (hb:b.length=64) (w:World):(Op.equalIn (d+1+1) 38 (.agg (cv a).toArray) (.agg (cv b).toArray)).run Tryz.prog w= .ok (decide (a=b)) w:=by
 rw [run_equalIn_array w (d+1) 38 5 64 1 (cv a).toArray (cv b).toArray (fun i=> .int .u8 (byteAt a i:Nat)) (fun i=> .int .u8 (byteAt b i:Nat)) (fun i=>((byteAt a i:Nat):Int) == ((byteAt b i:Nat):Int)) Tryz.underlying38 (by kernel_rfl)
   (fun i hi w=>part_byte a i (by omega) w) (fun i hi w=>part_byte b i (by omega) w) (fun i hi w=>run_equalIn_int w d 5 .u8 .u8 _ _ Tryz.underlying5)]
 congr 1
 refine all_range' 64 _ (a=b) ⟨fun h=> ?_,fun h i _=>by rw [h];simp⟩
 refine List.ext_getElem? fun i=> ?_
 by_cases hi:i<64
 · have:=h i hi
   rw [beq_iff_eq] at this
   have e:byteAt a i=byteAt b i:=by omega
   unfold byteAt at e
   rw [List.getElem?_eq_getElem (by omega),List.getElem?_eq_getElem (by omega)]
   simp only [List.getD_eq_getElem?_getD,List.getElem?_eq_getElem (show i<a.length by omega),List.getElem?_eq_getElem (show i<b.length by omega),Option.getD_some] at e
   rw [UInt8.toNat_inj.1 e]
 · rw [List.getElem?_eq_none (by omega),List.getElem?_eq_none (by omega)]
theorem part_clus (D:List Clus) (hD:All64 D) (i:Nat) (hi:i<D.length) (rest:List Value) (w:World):(part 38 (flatC D++rest).toArray (i*64)).run Tryz.prog w= .ok (.agg (cv (cl D i)).toArray) w:=by
 have ha:(isAgg 38).run Tryz.prog w= .ok true w:=by unfold isAgg;rw [Sem.run_bind,run_underlying Tryz.underlying38 w];rfl
 have hs:(Go.sizeOf 38).run Tryz.prog w= .ok 64 w:=by
   have:=Tryz.prog.info? 38
   cases hq:Tryz.prog.info? 38 with
   | none=>
     have h:(Tryz.prog.info? 38).isSome=true:=by kernel_rfl
     exact absurd hq (by intro e;rw [e] at h;cases h)
   | some i=>
     have hz:(Tryz.prog.info? 38).map (·.size)=some 64:=by kernel_rfl
     rw [hq] at hz
     simp at hz
     simp [Go.sizeOf,typeInfo,hq,hz]
 unfold part
 rw [Sem.run_bind,ha]
 simp only [Result.andThen_ok,if_true,Sem.run_bind,hs,Sem.run_pure]
 have hl:=flatC_length D hD
 have hcl:=cl_length hD hi
 have e:(flatC D++rest).toArray.extract (i*64) (i*64+64)=(cv (cl D i)).toArray:=by
  apply Array.ext_getElem?
  intro j
  rw [Array.getElem?_extract,List.getElem?_toArray,List.size_toArray,List.length_append]
  by_cases hj:j<64
  · rw [if_pos (by omega),List.getElem?_toArray,List.getElem?_append_left (by omega),flatC_range D hD i hi j hj]
  · rw [if_neg (by omega),Array.getElem?_eq_none (by rw [List.size_toArray,cv_length];omega)]
 rw [e]
theorem run_eq_cont (d:Nat) (C D:List Clus) (hC:All64 C) (hD:All64 D) (hc:C.length=64) (hd:D.length=64) (w:World):(Op.equalIn (d+1+1+1) 67 (.agg (flatC C).toArray) (.agg (flatC D).toArray)).run Tryz.prog w= .ok (decide (C=D)) w:=by
 have pC:=fun i (hi:i<64) w=>part_clus C hC i (by omega) [] w
 have pD:=fun i (hi:i<64) w=>part_clus D hD i (by omega) [] w
 simp only [List.append_nil] at pC pD
 rw [run_equalIn_array w (d+1+1) 67 38 64 64 (flatC C).toArray (flatC D).toArray (fun i=> .agg (cv (cl C i)).toArray) (fun i=> .agg (cv (cl D i)).toArray) (fun i=>decide (cl C i=cl D i)) Tryz.underlying67 (by kernel_rfl)
   pC pD (fun i hi w=>run_eq_clus d _ _ (cl_length hC (by omega)) (cl_length hD (by omega)) w)]
 congr 1
 refine all_range' 64 _ (C=D) ⟨fun h=> ?_,fun h i _=>by rw [h];simp⟩
 refine List.ext_getElem? fun i=> ?_
 by_cases hi:i<64
 · have:=h i hi
   rw [decide_eq_true_iff] at this
   unfold cl at this
   simp only [List.getD_eq_getElem?_getD,List.getElem?_eq_getElem (show i<C.length by omega),List.getElem?_eq_getElem (show i<D.length by omega),Option.getD_some] at this
   rw [List.getElem?_eq_getElem (by omega),List.getElem?_eq_getElem (by omega),this]
 · rw [List.getElem?_eq_none (by omega),List.getElem?_eq_none (by omega)]
theorem setList_front (a b vs:List Value) (h:a.length=vs.length):setList (a++b).toArray 0 vs=(vs++b).toArray:=by
 apply Array.ext_getElem?
 intro i
 rw [setList_get vs 0 _ i (by simp;omega),List.getElem?_toArray,List.getElem?_toArray]
 by_cases hi:i<vs.length
 · rw [if_pos (by omega),Nat.sub_zero,List.getElem?_append_left hi]
 · rw [if_neg (by omega),List.getElem?_append_right (by omega),List.getElem?_append_right (by omega),h]
theorem setList_back (a b vs:List Value) (h:b.length=vs.length):setList (a++b).toArray a.length vs=(a++vs).toArray:=by
 apply Array.ext_getElem?
 intro i
 rw [setList_get vs a.length _ i (by simp;omega),List.getElem?_toArray,List.getElem?_toArray]
 by_cases hi:i<a.length
 · rw [if_neg (by omega),List.getElem?_append_left hi,List.getElem?_append_left hi]
 · by_cases h2:i<a.length+vs.length
   · rw [if_pos (by omega),List.getElem?_append_right (by omega)]
   · rw [if_neg (by omega),List.getElem?_eq_none (by simp;omega),List.getElem?_eq_none (by simp;omega)]
theorem run_build_struct {P:Program} (w:World) (t:TypeId) (fs:Array Field) (z:Value) (pl:Array (Nat × Nat)) (parts:Array (Nat × Value)) (cells:Array Value) (ht:P.underlying t=some (.struct fs)) (hz: ∀ w,(zeroValue t).run P w= .ok z w)
   (hpl: ∀ w,Sem.run P (fs.mapM fun (f:Field)=>do
       let n ← Go.sizeOf f.type
       pure (f.offset,n)) w= .ok pl w) (hf:Instr.fill (pl[·]?) z.cells parts.toList=some cells):(Instr.build t parts).run P w= .ok (.agg cells) w:=by
 unfold Instr.build
 simp only [Sem.run_bind,hz,Result.andThen_ok,run_underlying ht,hpl,hf,Sem.run_pure]
def rootCells (r:RootR):List Value:=[.int .i64 r.N,.int .i64 r.At,.string ⟨r.name.toArray⟩]
def nat64 (n:Nat):Value:= .int .i64 n
def fileCells (Lv Rv:Value) (R:FileR):List Value:=Lv :: Rv :: (R.told.map nat64++(R.used.map nat64++[.int .i64 R.bad]))
structure FileAt (w:World) (f:Nat) (Lv Rv:Value) (R:FileR):Prop where
 blk:w.heap[f]? = some (.cells (fileCells Lv Rv R).toArray 93 (0,0))
 rowL:w.ownsRow 0 38 64 Lv R.L.length (flatC R.L)
 rowR:w.ownsRow 0 132 3 Rv R.roots.length (R.roots.flatMap rootCells)
 told:R.told.length=256
 used:R.used.length=256
 lens: ∀ c ∈ R.L,c.length=64
section
variable {w:World} {f:Nat} {Lv Rv:Value} {R:FileR}
theorem FileAt.cLv (h:FileAt w f Lv Rv R):w.cell? ⟨f,0,none⟩=some Lv:=by rw [cell_blk h.blk];rfl
theorem FileAt.cRv (h:FileAt w f Lv Rv R):w.cell? ⟨f,1,none⟩=some Rv:=by rw [cell_blk h.blk];rfl
theorem FileAt.cTold (h:FileAt w f Lv Rv R) (n:Nat) (hn:n<256):w.cell? ⟨f,2+n,none⟩=some (.int .i64 ((R.told.getD n 0:Nat):Int)):=by
 rw [cell_blk h.blk,List.getElem?_toArray,Nat.add_comm]
 show (R.told.map nat64++(R.used.map nat64++[.int .i64 R.bad]))[n]? = _
 have ht:=h.told
 rw [List.getElem?_append_left (by simp;omega),List.getElem?_map,List.getD_eq_getElem?_getD,List.getElem?_eq_getElem (by omega)]
 rfl
theorem FileAt.cUsed (h:FileAt w f Lv Rv R) (n:Nat) (hn:n<256):w.cell? ⟨f,258+n,none⟩=some (.int .i64 ((R.used.getD n 0:Nat):Int)):=by
 rw [cell_blk h.blk,List.getElem?_toArray,show 258+n=(256+n)+2 by omega]
 show (R.told.map nat64++(R.used.map nat64++[.int .i64 R.bad]))[256+n]? = _
 have ht:=h.told
 have hu:=h.used
 rw [List.getElem?_append_right (by simp;omega),List.length_map,ht,Nat.add_sub_cancel_left,List.getElem?_append_left (by simp;omega),List.getElem?_map,List.getD_eq_getElem?_getD,List.getElem?_eq_getElem (by omega)]
 rfl
theorem FileAt.cBad (h:FileAt w f Lv Rv R):w.cell? ⟨f,514,none⟩=some (.int .i64 R.bad):=by
 rw [cell_blk h.blk,List.getElem?_toArray]
 show (R.told.map nat64++(R.used.map nat64++[.int .i64 R.bad]))[512]? = _
 have ht:=h.told
 have hu:=h.used
 rw [List.getElem?_append_right (by simp;omega),List.length_map,ht,List.getElem?_append_right (by simp;omega),List.length_map,hu]
 rfl
theorem FileAt.fz (h:FileAt w f Lv Rv R) (i:Nat):w.frozen? ⟨f,i,none⟩=false:=frozen_blk h.blk i
theorem FileAt.lt (h:FileAt w f Lv Rv R):f<w.heap.size:=blk_lt h.blk
theorem FileAt.neL (h:FileAt w f Lv Rv R): ∀ g,Lv.ownBlock=some g→g≠f:=row_ne h.rowL h.blk (by decide)
theorem FileAt.neR (h:FileAt w f Lv Rv R): ∀ g,Rv.ownBlock=some g→g≠f:=row_ne h.rowR h.blk (by decide)
theorem FileAt.neLR (h:FileAt w f Lv Rv R): ∀ g,Rv.ownBlock=some g→Lv.ownBlock≠some g:=by
 intro g hg hl
 rcases h.rowL.2 with ⟨rfl,_⟩ | ⟨g',cap,cur,rfl,_,hh,_⟩
 · cases hl
 · simp only [Value.ownBlock,Option.some.injEq] at hl
   subst hl
   exact row_ne h.rowR hh (by decide) _ hg rfl
theorem FileAt.kept {w':World} {S:Nat→Prop} (h:FileAt w f Lv Rv R) (hk:Kept S w w') (hf: ¬ S f) (hL: ∀ g,Lv.ownBlock=some g→ ¬ S g) (hR: ∀ g,Rv.ownBlock=some g→ ¬ S g):FileAt w' f Lv Rv R:=
 ⟨hk.blk hf h.blk,ownsRow_kept hk h.rowL hL,ownsRow_kept hk h.rowR hR,h.told,h.used,h.lens⟩
theorem FileAt.drewN (h:FileAt w f Lv Rv R) (n:Nat):FileAt (w.drewN n) f Lv Rv R:=
 h.kept (S:=fun _=>False) ((Kept.refl _ _).drewN n) id (fun _ _=>id) (fun _ _=>id)
theorem FileAt.drew (h:FileAt w f Lv Rv R):FileAt w.drew f Lv Rv R:=
 h.kept (S:=fun _=>False) ((Kept.refl _ _).drew) id (fun _ _=>id) (fun _ _=>id)
theorem FileAt.below {w':World} (h:FileAt w f Lv Rv R) (hb:Below w.heap.size w w'):FileAt w' f Lv Rv R:=
 h.kept (S:=fun _=>False) (Kept.of_below hb) id (fun _ _=>id) (fun _ _=>id)
theorem Kept.only (w:World) (f i:Nat) (v:Value):Kept (fun k=>k=f) w (w.setCell ⟨f,i,none⟩ v):=(Kept.refl (fun k=>k=f) w).setCell (p:=⟨f,i,none⟩) (Or.inl rfl) v
theorem FileAt.stored (h:FileAt w f Lv Rv R) (i:Nat) (v:Value) (R':FileR) (hL:R'.L=R.L) (hR:R'.roots=R.roots) (ht:R'.told.length=256) (hu:R'.used.length=256)
   (hc:(fileCells Lv Rv R).set i v=fileCells Lv Rv R'):FileAt (w.setCell ⟨f,i,none⟩ v) f Lv Rv R':=by
 have hk:=Kept.only w f i v
 refine ⟨?_,by rw [hL];exact ownsRow_kept hk h.rowL h.neL,by rw [hR];exact ownsRow_kept hk h.rowR h.neR,ht,hu,by rw [hL];exact h.lens⟩
 rw [heap_setCell_same w f i v _ _ _ h.blk,← hc,List.setIfInBounds_toArray]
theorem FileAt.setBad (h:FileAt w f Lv Rv R) (b:Int):FileAt (w.setCell ⟨f,514,none⟩ (.int .i64 b)) f Lv Rv { R with bad:=b }:=by
 refine h.stored 514 _ _ rfl rfl h.told h.used ?_
 have ht:=h.told
 have hu:=h.used
 show Lv :: Rv :: (R.told.map nat64++(R.used.map nat64++[Value.int .i64 R.bad])).set 512 _=_
 rw [List.set_append_right _ _ (by simp;omega),List.set_append_right _ _ (by simp;omega)]
 simp [ht,hu,fileCells]
theorem FileAt.setTold (h:FileAt w f Lv Rv R) (n k:Nat) (hn:n<256):FileAt (w.setCell ⟨f,2+n,none⟩ (.int .i64 (k:Int))) f Lv Rv { R with told:=R.told.set n k }:=by
 refine h.stored (2+n) _ _ rfl rfl (by simp [h.told]) h.used ?_
 have ht:=h.told
 rw [Nat.add_comm]
 show Lv :: Rv :: (R.told.map nat64++(R.used.map nat64++[Value.int .i64 R.bad])).set n _=_
 rw [List.set_append_left _ _ (by simp;omega)]
 simp [fileCells,nat64,List.map_set]
theorem FileAt.setUsed (h:FileAt w f Lv Rv R) (n k:Nat) (hn:n<256):FileAt (w.setCell ⟨f,258+n,none⟩ (.int .i64 (k:Int))) f Lv Rv { R with used:=R.used.set n k }:=by
 refine h.stored (258+n) _ _ rfl rfl h.told (by simp [h.used]) ?_
 have ht:=h.told
 have hu:=h.used
 rw [show 258+n=(256+n)+2 by omega]
 show Lv :: Rv :: (R.told.map nat64++(R.used.map nat64++[Value.int .i64 R.bad])).set (256+n) _=_
 rw [List.set_append_right _ _ (by simp;omega),List.length_map,ht,Nat.add_sub_cancel_left,List.set_append_left _ _ (by simp;omega)]
 simp [fileCells,nat64,List.map_set]
end
theorem number_any (c:List UInt8) (at':Int) (w:World) (hc:c.length=64) (h0:0≤at') (h1:at'<63):
   Calls Tryz.prog 136 #[.agg (cv c).toArray,.int .i64 at'] w fun e w'=>e= .returned (.int .i64 (num c at'.toNat:Nat))∧Below w.heap.size w w':=by
 obtain ⟨n,rfl⟩:=Int.eq_ofNat_of_zero_le h0
 have b1:=byteAt_lt c n
 have b2:=byteAt_lt c (n+1)
 have k1:(w.alloc (.cells (cv c).toArray 38)).cell? ⟨w.heap.size,n,none⟩=some (.int .u8 (byteAt c n:Nat)):=by
   rw [cell_new,List.getElem?_toArray,cv_get];omega
 have k2:(w.alloc (.cells (cv c).toArray 38)).cell? ⟨w.heap.size,n+1,none⟩=some (.int .u8 (byteAt c (n+1):Nat)):=by
   rw [cell_new,List.getElem?_toArray,cv_get];omega
 go_enter Tryz.func136,Tryz.ntmps136
 go_wp2
 go_quiet (fail)
 go_wp2
 go_ret
 refine ⟨?_,?_⟩
 · simp [num]
 · exact (((Kept.refl (fun _=>False) w).alloc _).drewN _).below
end Go.Proofs.YtknjjjenklfeoaaGreatDoor
