import Derived.Test.YtknjjjenklfeoaaGreatDoorC08
set_option maxHeartbeats 8000000
set_option maxRecDepth 100000
namespace Go.Proofs.YtknjjjenklfeoaaGreatDoor
open Go.RowKit
structure FEnt where
 v:Value
 n:Nat
 m:UInt8
structure WEnt where
 v:Value
 n:Nat
 m:Int
structure NEnt where
 v:Value
 n:Nat
 s:ByteArray
structure BookR where
 names:List NEnt
 files:List FEnt
 writes:List WEnt
 next:Nat
structure BookV where
 n:Value
 nm:Value
 f:Value
 fm:Value
 w:Value
 wm:Value
def bookCells (V:BookV) (next:Nat):List Value:=[V.n,V.nm,V.f,V.fm,V.w,V.wm,.int .i64 next]
def fillF (x:FEnt):List Value:=flatC (List.replicate x.n (markC x.m))
def fillW (x:WEnt):List Value:=flatW (List.replicate x.n ⟨x.m,zc⟩)
def fillN (x:NEnt):List Value:=List.replicate x.n (.string x.s)
structure BookAt (w:World) (b:Nat) (V:BookV) (B:BookR) (S:Nat→Prop):Prop where
 blk:w.heap[b]? = some (.cells (bookCells V B.next).toArray 77 (0,0))
 rN:w.ownsRow 0 34 1 V.n B.names.length (B.names.map (·.v))
 rNm:w.ownsRow 0 9 1 V.nm B.names.length (B.names.map fun x=> .string x.s)
 rF:w.ownsRow 0 28 1 V.f B.files.length (B.files.map (·.v))
 rFm:w.ownsRow 0 5 1 V.fm B.files.length (B.files.map fun x=> .int .u8 (x.m.toNat:Int))
 rW:w.ownsRow 0 58 1 V.w B.writes.length (B.writes.map (·.v))
 rWm:w.ownsRow 0 3 1 V.wm B.writes.length (B.writes.map fun x=> .int .i64 x.m)
 eN: ∀ x ∈ B.names,w.ownsRow 0 9 1 x.v x.n (fillN x)
 eF: ∀ x ∈ B.files,w.ownsRow 0 38 64 x.v x.n (fillF x)
 eW: ∀ x ∈ B.writes,w.ownsRow 0 104 65 x.v x.n (fillW x)
 apart: ∀ x ∈ B.names,∀ g,x.v.ownBlock=some g→V.nm.ownBlock≠some g
 inB:S b
 inV: ∀ g,(V.n.ownBlock=some g∨V.nm.ownBlock=some g∨V.f.ownBlock=some g∨V.fm.ownBlock=some g∨V.w.ownBlock=some g∨V.wm.ownBlock=some g)→S g
 inN: ∀ x ∈ B.names,∀ g,x.v.ownBlock=some g→S g
 inF: ∀ x ∈ B.files,∀ g,x.v.ownBlock=some g→S g
 inW: ∀ x ∈ B.writes,∀ g,x.v.ownBlock=some g→S g
 lt: ∀ k,S k→k<w.heap.size
theorem BookAt.kept {w w':World} {b:Nat} {V:BookV} {B:BookR} {S T:Nat→Prop} (h:BookAt w b V B S) (hk:Kept T w w') (hd: ∀ k,S k→ ¬ T k):BookAt w' b V B S where
 blk:=hk.blk (hd b h.inB) h.blk
 rN:=ownsRow_kept hk h.rN fun g hg=>hd g (h.inV g (Or.inl hg))
 rNm:=ownsRow_kept hk h.rNm fun g hg=>hd g (h.inV g (Or.inr (Or.inl hg)))
 rF:=ownsRow_kept hk h.rF fun g hg=>hd g (h.inV g (Or.inr (Or.inr (Or.inl hg))))
 rFm:=ownsRow_kept hk h.rFm fun g hg=>hd g (h.inV g (Or.inr (Or.inr (Or.inr (Or.inl hg)))))
 rW:=ownsRow_kept hk h.rW fun g hg=>hd g (h.inV g (Or.inr (Or.inr (Or.inr (Or.inr (Or.inl hg))))))
 rWm:=ownsRow_kept hk h.rWm fun g hg=>hd g (h.inV g (Or.inr (Or.inr (Or.inr (Or.inr (Or.inr hg))))))
 eN:=fun x hx=>ownsRow_kept hk (h.eN x hx) fun g hg=>hd g (h.inN x hx g hg)
 eF:=fun x hx=>ownsRow_kept hk (h.eF x hx) fun g hg=>hd g (h.inF x hx g hg)
 eW:=fun x hx=>ownsRow_kept hk (h.eW x hx) fun g hg=>hd g (h.inW x hx g hg)
 apart:=h.apart
 inB:=h.inB
 inV:=h.inV
 inN:=h.inN
 inF:=h.inF
 inW:=h.inW
 lt:=fun k hk'=>Nat.lt_of_lt_of_le (h.lt k hk') hk.size
theorem BookAt.below {w w':World} {b:Nat} {V:BookV} {B:BookR} {S:Nat→Prop} (h:BookAt w b V B S) (hb:Below w.heap.size w w'):BookAt w' b V B S:=
 h.kept (T:=fun _=>False) (Kept.of_below hb) (fun _ _=>id)
theorem run_buildSlice_two {P:Program} (w:World) (t e:TypeId) (n:Nat) (z v u:Value) (ht:P.underlying t=some (.slice e)) (hi:(P.info? e).map (fun i=>(i.zero,i.size))=some (some z,n)) (h0:0<n) (hn:n≤1000000) (hv:v.cells.size=n) (hu:u.cells.size=n):
   (Instr.buildSlice t 2 #[(0,v),(1,u)]).run P w= .ok (.slice (some ⟨w.heap.size,0,none⟩) 2 2) (w.alloc (.cells (v.cells.toList++u.cells.toList).toArray e)):=by
 obtain ⟨hz,hs⟩:=zero_of_info hi
 cases hq:P.info? e with
 | none=>simp [hq] at hs
 | some i=>
   have hsz:i.size=n:=by simpa [hq] using hs
   have hf:Instr.fill (fun i=>some (i*n,n)) ((Array.range (2*n)).map (z.cells[· % z.cells.size]!)) [(0,v),(1,u)]=some (v.cells.toList++u.cells.toList).toArray:=by
     generalize hA:(Array.range (2*n)).map (z.cells[· % z.cells.size]!)=A
     have hAs:A.toList.length=2*n:=by rw [← hA];simp
     rw [fill_one _ _ 0 0 n v _ (by simp) hv (by rw [← hA];simp;omega),fill_one _ _ 1 n n u [] (by simp) hu (by rw [setList_size,← hA];simp;omega),Instr.fill]
     have e1:setList A 0 v.cells.toList=(v.cells.toList++A.toList.drop n).toArray:=by
       have e0:A=(A.toList.take n++A.toList.drop n).toArray:=by rw [List.take_append_drop]
       conv=>lhs;rw [e0]
       exact setList_front _ _ _ (by simp [hv];rw [← Array.length_toList];omega)
     rw [e1]
     have e2:=setList_back v.cells.toList (A.toList.drop n) u.cells.toList (by simp [hu];rw [← Array.length_toList];omega)
     rw [show v.cells.toList.length=n by simp [hv]] at e2
     rw [e2]
   unfold Instr.buildSlice
   rw [Sem.run_bind,run_underlying ht w]
   simp only [Result.andThen_ok,Go.sizeOf,typeInfo,Sem.run_bind,run_program,hq,Sem.run_pure,hsz]
   rw [if_neg (by omega),if_neg (by omega)]
   simp only [Sem.run_bind,hz,Result.andThen_ok,Sem.run_pure,hf]
   simp [newRow]
def bsClus2 (parts:Array (Nat × Value)):Sem Value:=Instr.buildSlice 28 2 parts
theorem buildSlice_clus2 (parts:Array (Nat × Value)):Instr.buildSlice 28 2 parts=bsClus2 parts:=rfl
theorem run_bsClus2 {w:World} {c d:List UInt8} (hc:c.length=64) (hd:d.length=64):(bsClus2 #[(0,.agg (cv c).toArray),(1,.agg (cv d).toArray)]).run Tryz.prog w= .ok (.slice (some ⟨w.heap.size,0,none⟩) 2 2) (w.alloc (.cells (cv c++cv d).toArray 38)):=
 run_buildSlice_two w 28 38 64 (.agg (cv zc).toArray) (.agg (cv c).toArray) (.agg (cv d).toArray) Tryz.underlying28 (by kernel_rfl) (by omega) (by omega) (by simp [Value.cells,cv_length,hc]) (by simp [Value.cells,cv_length,hd])
end Go.Proofs.YtknjjjenklfeoaaGreatDoor
namespace Go.Proofs.YtknjjjenklfeoaaGreatDoor
open Go.RowKit
attribute [local go_sem ↓] loadVar_clus storeVar_clus zeroValue_clus buildSlice_clus buildSlice_clus2
attribute [local go_sem] run_loadClus run_storeClus run_zeroClus zc_length run_bsClus run_bsClus2
theorem BookAt.cell {w:World} {b:Nat} {V:BookV} {B:BookR} {S:Nat→Prop} (h:BookAt w b V B S) (i:Nat):w.cell? ⟨b,i,none⟩=(bookCells V B.next)[i]? := by rw [cell_blk h.blk,List.getElem?_toArray]
theorem BookAt.lt' {w:World} {b:Nat} {V:BookV} {B:BookR} {S:Nat→Prop} (h:BookAt w b V B S):b<w.heap.size:=blk_lt h.blk
theorem BookAt.setNext {w:World} {b:Nat} {V:BookV} {B:BookR} {S:Nat→Prop} (h:BookAt w b V B S) (q:Nat):BookAt (w.setCell ⟨b,6,none⟩ (.int .i64 (q:Int))) b V { B with next:=q } S:=by
 have hk:=Kept.only w b 6 (.int .i64 (q:Int))
 exact {
   blk:=by rw [heap_setCell_same _ _ _ _ _ _ _ h.blk];rfl
   rN:=ownsRow_kept hk h.rN (row_ne h.rN h.blk (by decide))
   rNm:=ownsRow_kept hk h.rNm (row_ne h.rNm h.blk (by decide))
   rF:=ownsRow_kept hk h.rF (row_ne h.rF h.blk (by decide))
   rFm:=ownsRow_kept hk h.rFm (row_ne h.rFm h.blk (by decide))
   rW:=ownsRow_kept hk h.rW (row_ne h.rW h.blk (by decide))
   rWm:=ownsRow_kept hk h.rWm (row_ne h.rWm h.blk (by decide))
   eN:=fun x hx=>ownsRow_kept hk (h.eN x hx) (row_ne (h.eN x hx) h.blk (by decide))
   eF:=fun x hx=>ownsRow_kept hk (h.eF x hx) (row_ne (h.eF x hx) h.blk (by decide))
   eW:=fun x hx=>ownsRow_kept hk (h.eW x hx) (row_ne (h.eW x hx) h.blk (by decide))
   apart:=h.apart,inB:=h.inB,inV:=h.inV,inN:=h.inN,inF:=h.inF,inW:=h.inW
   lt:=fun k hk'=>Nat.lt_of_lt_of_le (h.lt k hk') hk.size }
theorem Tryz.infoSl:(Tryz.prog.info? 28).map (fun i=>(i.zero,i.size,i.bytes))=some (some (.slice none 0 0),1,24):=by kernel_rfl
theorem Tryz.infoU8:(Tryz.prog.info? 5).map (fun i=>(i.zero,i.size,i.bytes))=some (some (.int .u8 0),1,1):=by kernel_rfl
theorem size_setCell (w:World) (a:Addr) (v:Value):(w.setCell a v).heap.size=w.heap.size:=by simp [World.setCell]
theorem rows_ne {w:World} {base base':Nat} {e e':TypeId} {size size':Nat} {v v':Value} {n n':Nat} {xs xs':List Value} (h:w.ownsRow base e size v n xs) (h':w.ownsRow base' e' size' v' n' xs') (hne:e≠e'): ∀ g,v.ownBlock=some g→v'.ownBlock≠some g:=by
 intro g hg hl
 rcases h'.2 with ⟨rfl,_⟩ | ⟨g',cap,cur,rfl,_,hh,_⟩
 · cases hl
 · simp only [Value.ownBlock,Option.some.injEq] at hl
   subst hl
   exact row_ne h hh hne _ hg rfl
def markTo (L:List Clus) (m:UInt8) (k:Nat):List Clus:=List.replicate k (markC m)++L.drop k
theorem markTo_length (L:List Clus) (m:UInt8) (k:Nat) (h:k≤L.length):(markTo L m k).length=L.length:=by simp [markTo];omega
theorem markTo_lens {L:List Clus} (hl: ∀ c ∈ L,c.length=64) (m:UInt8) (k:Nat): ∀ c ∈ markTo L m k,c.length=64:=by
 intro c hc
 rcases List.mem_append.1 hc with h | h
 · rw [List.eq_of_mem_replicate h];exact markC_length m
 · exact hl c (List.mem_of_mem_drop h)
theorem markTo_succ (L:List Clus) (m:UInt8) (k:Nat) (h:k<L.length):(markTo L m k).set k (markC m)=markTo L m (k+1):=by
 unfold markTo
 rw [List.set_append_right _ _ (by simp),List.length_replicate,Nat.sub_self,List.drop_eq_getElem_cons h,List.set_cons_zero,List.replicate_succ',List.append_assoc]
 rfl
theorem rep_snoc (N:Nat) (c:Clus):flatC (List.replicate N c)++cv c=flatC (List.replicate (N+1) c):=by rw [List.replicate_succ',flatC_snoc]
theorem keep_row {w W:World} {b:Nat} {V:BookV} {B:BookR} {S:Nat→Prop} (h:BookAt w b V B S) (hk:Kept (fun k=>k=b∨V.f.ownBlock=some k∨V.fm.ownBlock=some k) w W) {base:Nat} {e:TypeId} {size:Nat} {v:Value} {n:Nat} {xs:List Value}
   (hr:w.ownsRow base e size v n xs) (h1:e≠77) (h2:e≠28) (h3:e≠5):W.ownsRow base e size v n xs:=
 ownsRow_kept hk hr fun g hg x=>by
   rcases x with x | x | x
   · exact row_ne hr h.blk h1 g hg x
   · exact rows_ne hr h.rF h2 g hg x
   · exact rows_ne hr h.rFm h3 g hg x
theorem more_of {α:Type} {l:List α} {a b c x:α} {f:α→Nat} {n:Nat} (hx:x ∈ l++[a,b,c]) (ha:f a≤n) (hb:f b≤n) (hc:f c≤n):x ∈ l∨f x≤n:=by
 rcases List.mem_append.1 hx with y | y
 · exact Or.inl y
 · simp only [List.mem_cons,List.not_mem_nil,or_false] at y
   rcases y with rfl | rfl | rfl
   · exact Or.inr ha
   · exact Or.inr hb
   · exact Or.inr hc
theorem ownsFile_end {w w6 w7 w8:World} {b:Nat} {V:BookV} {B:BookR} {S:Nat→Prop} {lv one two:Value} {N g7 cap7 g8 cap8:Nat} {m:UInt8} {X7 X8:Obj}
   (h:BookAt w6 b V B S) (hl:w6.ownsRow 0 38 64 lv N (flatC (List.replicate N (markC m)))) (h1:w6.ownsRow 0 38 64 one (N+1) (flatC (List.replicate (N+1) (markC m)))) (h2:w6.ownsRow 0 38 64 two (N+2) (flatC (List.replicate (N+2) (markC m))))
   (o1: ∀ g,one.ownBlock=some g→lv.ownBlock=some g∨w.heap.size≤g) (o2: ∀ g,two.ownBlock=some g→lv.ownBlock=some g∨w.heap.size≤g)
   (hK:Kept (fun k=>S k∨lv.ownBlock=some k) w w6)
   (hg7:(w6.alloc X7).grownBy w7 V.f.ownBlock) (r7:w7.ownsRow 0 28 1 (.slice (some ⟨g7,0,none⟩) (B.files.length+3) cap7) (B.files.length+3) (B.files.map (·.v)++[lv,one,two])) (a7:V.f.ownBlock=some g7∨g7=w6.heap.size+1)
   (hg8:((w7.setCell ⟨b,2,none⟩ (.slice (some ⟨g7,0,none⟩) (B.files.length+3) cap7)).alloc X8).grownBy w8 V.fm.ownBlock)
   (r8:w8.ownsRow 0 5 1 (.slice (some ⟨g8,0,none⟩) (B.files.length+3) cap8) (B.files.length+3) ((B.files.map fun x=> .int .u8 (x.m.toNat:Int))++[.int .u8 (m.toNat:Int),.int .u8 (m.toNat:Int),.int .u8 (m.toNat:Int)])) (a8:V.fm.ownBlock=some g8∨g8=w7.heap.size+1)
   (b8:w8.heap[b]? = some (.cells (bookCells { V with f:= .slice (some ⟨g7,0,none⟩) (B.files.length+3) cap7 } B.next).toArray 77 (0,0))):
   ∃ V' B' S',BookAt (w8.setCell ⟨b,3,none⟩ (.slice (some ⟨g8,0,none⟩) (B.files.length+3) cap8)) b V' B' S'∧B'.next=B.next∧B'.files.length=B.files.length+3∧B'.writes=B.writes∧B'.names=B.names∧(∀ x ∈ B'.files,x ∈ B.files∨x.n≤N+2)∧
     Kept (fun k=>S k∨lv.ownBlock=some k) w (w8.setCell ⟨b,3,none⟩ (.slice (some ⟨g8,0,none⟩) (B.files.length+3) cap8))∧(∀ k,S' k→S k∨lv.ownBlock=some k∨w.heap.size≤k):=by
 have KA:Kept (fun k=>k=b∨V.f.ownBlock=some k∨V.fm.ownBlock=some k) w6 (w7.setCell ⟨b,2,none⟩ (.slice (some ⟨g7,0,none⟩) (B.files.length+3) cap7)):=
   Kept.setCell (S:=fun k=>k=b∨V.f.ownBlock=some k∨V.fm.ownBlock=some k) (((Kept.refl _ _).alloc X7).grown hg7 (fun g hg=>Or.inl (Or.inr (Or.inl hg)))) (p:=⟨b,2,none⟩) (Or.inl (Or.inl rfl)) _
 have KB:Kept (fun k=>k=b∨V.f.ownBlock=some k∨V.fm.ownBlock=some k) (w7.setCell ⟨b,2,none⟩ (.slice (some ⟨g7,0,none⟩) (B.files.length+3) cap7)) (w8.setCell ⟨b,3,none⟩ (.slice (some ⟨g8,0,none⟩) (B.files.length+3) cap8)):=
   Kept.setCell (S:=fun k=>k=b∨V.f.ownBlock=some k∨V.fm.ownBlock=some k) (((Kept.refl _ _).alloc X8).grown hg8 (fun g hg=>Or.inl (Or.inr (Or.inr hg)))) (p:=⟨b,3,none⟩) (Or.inl (Or.inl rfl)) _
 have KAB:=KA.trans KB
 have hb7:w7.heap[b]? = some (.cells (bookCells V B.next).toArray 77 (0,0)):=grown_blk hg7 ((Below.heap_alloc _ _ _ h.lt').trans h.blk) (row_ne h.rF h.blk (by decide))
 have s1:=hK.size
 have s2:=KA.size
 have s3:=KB.size
 have s7:=size_setCell w7 ⟨b,2,none⟩ (.slice (some ⟨g7,0,none⟩) (B.files.length+3) cap7)
 have hfm7:(w7.setCell ⟨b,2,none⟩ (.slice (some ⟨g7,0,none⟩) (B.files.length+3) cap7)).ownsRow 0 5 1 V.fm B.files.length (B.files.map fun x=> .int .u8 (x.m.toNat:Int)):=
   ownsRow_kept (Kept.only w7 b 2 _) (grown_row hg7 (h.rFm.alloc X7) (rows_ne h.rFm h.rF (by decide))) (row_ne h.rFm h.blk (by decide))
 have r7':(w7.setCell ⟨b,2,none⟩ (.slice (some ⟨g7,0,none⟩) (B.files.length+3) cap7)).ownsRow 0 28 1 (.slice (some ⟨g7,0,none⟩) (B.files.length+3) cap7) (B.files.length+3) (B.files.map (·.v)++[lv,one,two]):=
   ownsRow_kept (Kept.only w7 b 2 _) r7 (row_ne r7 hb7 (by decide))
 have r7'':w8.ownsRow 0 28 1 (.slice (some ⟨g7,0,none⟩) (B.files.length+3) cap7) (B.files.length+3) (B.files.map (·.v)++[lv,one,two]):=
   grown_row hg8 (r7'.alloc X8) (rows_ne r7' hfm7 (by decide))
 refine ⟨{ V with f:= .slice (some ⟨g7,0,none⟩) (B.files.length+3) cap7,fm:= .slice (some ⟨g8,0,none⟩) (B.files.length+3) cap8 },{ B with files:=B.files++[⟨lv,N,m⟩,⟨one,N+1,m⟩,⟨two,N+2,m⟩] },
   fun k=>S k∨lv.ownBlock=some k∨(w.heap.size≤k∧k<(w8.setCell ⟨b,3,none⟩ (.slice (some ⟨g8,0,none⟩) (B.files.length+3) cap8)).heap.size),?_,rfl,by simp,rfl,rfl,fun x hx=>more_of (f:=FEnt.n) hx (by simp) (by simp) (by simp),?_,fun k hk=>by rcases hk with x | x | x;exact Or.inl x;exact Or.inr (Or.inl x);exact Or.inr (Or.inr x.1)⟩
 · exact {
     blk:=by rw [heap_setCell_same _ _ _ _ _ _ _ b8];rfl
     rN:=keep_row h KAB h.rN (by decide) (by decide) (by decide)
     rNm:=keep_row h KAB h.rNm (by decide) (by decide) (by decide)
     rF:=by
       have:=ownsRow_kept (Kept.only w8 b 3 (.slice (some ⟨g8,0,none⟩) (B.files.length+3) cap8)) r7'' (row_ne r7'' b8 (by decide))
       simpa using this
     rFm:=by
       have:=ownsRow_kept (Kept.only w8 b 3 (.slice (some ⟨g8,0,none⟩) (B.files.length+3) cap8)) r8 (row_ne r8 b8 (by decide))
       simpa using this
     rW:=keep_row h KAB h.rW (by decide) (by decide) (by decide)
     rWm:=keep_row h KAB h.rWm (by decide) (by decide) (by decide)
     eN:=fun x hx=>keep_row h KAB (h.eN x hx) (by decide) (by decide) (by decide)
     eF:=fun x hx=>by
       rcases List.mem_append.1 hx with y | y
       · exact keep_row h KAB (h.eF x y) (by decide) (by decide) (by decide)
       · simp only [List.mem_cons,List.not_mem_nil,or_false] at y
         rcases y with rfl | rfl | rfl
         · exact keep_row h KAB hl (by decide) (by decide) (by decide)
         · exact keep_row h KAB h1 (by decide) (by decide) (by decide)
         · exact keep_row h KAB h2 (by decide) (by decide) (by decide)
     eW:=fun x hx=>keep_row h KAB (h.eW x hx) (by decide) (by decide) (by decide)
     apart:=h.apart
     inB:=Or.inl h.inB
     inV:=fun g hg=>by
       have q8:=(r8.lt g8 rfl).2
       have q7:=(r7''.lt g7 rfl).2
       rcases hg with x | x | x | x | x | x
       · exact Or.inl (h.inV g (Or.inl x))
       · exact Or.inl (h.inV g (Or.inr (Or.inl x)))
       · simp only [Value.ownBlock,Option.some.injEq] at x
         subst x
         rcases a7 with y | y
         · exact Or.inl (h.inV _ (Or.inr (Or.inr (Or.inl y))))
         · exact Or.inr (Or.inr ⟨by omega,by rw [size_setCell];exact q7⟩)
       · simp only [Value.ownBlock,Option.some.injEq] at x
         subst x
         rcases a8 with y | y
         · exact Or.inl (h.inV _ (Or.inr (Or.inr (Or.inr (Or.inl y)))))
         · exact Or.inr (Or.inr ⟨by omega,by rw [size_setCell];exact q8⟩)
       · exact Or.inl (h.inV g (Or.inr (Or.inr (Or.inr (Or.inr (Or.inl x))))))
       · exact Or.inl (h.inV g (Or.inr (Or.inr (Or.inr (Or.inr (Or.inr x))))))
     inN:=fun x hx g hg=>Or.inl (h.inN x hx g hg)
     inF:=fun x hx g hg=>by
       rcases List.mem_append.1 hx with y | y
       · exact Or.inl (h.inF x y g hg)
       · simp only [List.mem_cons,List.not_mem_nil,or_false] at y
         rcases y with rfl | rfl | rfl
         · exact Or.inr (Or.inl hg)
         · rcases o1 g hg with z | z
           · exact Or.inr (Or.inl z)
           · exact Or.inr (Or.inr ⟨z,by have:=(h1.lt g hg).2;omega⟩)
         · rcases o2 g hg with z | z
           · exact Or.inr (Or.inl z)
           · exact Or.inr (Or.inr ⟨z,by have:=(h2.lt g hg).2;omega⟩)
     inW:=fun x hx g hg=>Or.inl (h.inW x hx g hg)
     lt:=fun k hk=>by
       rcases hk with x | x | x
       · have:=h.lt k x;omega
       · have:=(hl.lt k x).2;omega
       · exact x.2 }
 · refine hK.trans (KAB.mono fun k hk=> ?_)
   rcases hk with rfl | x | x
   · exact Or.inl h.inB
   · exact Or.inl (h.inV k (Or.inr (Or.inr (Or.inl x))))
   · exact Or.inl (h.inV k (Or.inr (Or.inr (Or.inr (Or.inl x)))))
theorem ownsFile_any (w:World) (b:Nat) (V:BookV) (B:BookR) (S:Nat→Prop) (lv:Value) (L:List Clus) (h:BookAt w b V B S) (hl:w.ownsRow 0 38 64 lv L.length (flatC L)) (hls: ∀ c ∈ L,c.length=64)
   (hne: ∀ g,lv.ownBlock=some g→ ¬ S g) (hnx:B.next≤1000000000) (hfl:B.files.length≤10000000000) (hL:L.length≤1000):
   Calls Tryz.prog 130 #[.pointer (some ⟨b,0,none⟩),lv] w fun e w'=>e= .returned (.tuple #[])∧
     ∃ V' B' S',BookAt w' b V' B' S'∧B'.next=B.next+1∧B'.files.length=B.files.length+3∧B'.writes=B.writes∧B'.names=B.names∧(∀ x ∈ B'.files,x ∈ B.files∨x.n≤L.length+2)∧
       Kept (fun k=>S k∨lv.ownBlock=some k) w w'∧(∀ k,S' k→S k∨lv.ownBlock=some k∨w.heap.size≤k):=by
 have c6:=h.cell 6
 rw [show (bookCells V B.next)[6]? = some (.int .i64 (B.next:Int)) from rfl] at c6
 have z6:=frozen_blk h.blk 6
 have h1:=h.setNext (B.next+1)
 have hni:(B.next:Int)≤1000000000:=by omega
 rw [show ((B.next+1:Nat):Int)=(B.next:Int)+1 by omega] at h1
 have d6:(w.setCell ⟨b,6,none⟩ (.int .i64 ((B.next:Int)+1))).cell? ⟨b,6,none⟩=some (.int .i64 ((B.next:Int)+1)):=by
   rw [h1.cell 6];show some (Value.int .i64 ((B.next+1:Nat):Int))=_;rw [show ((B.next+1:Nat):Int)=(B.next:Int)+1 by omega]
 go_enter Tryz.func130,Tryz.ntmps130
 go_wp2
 obtain ⟨m,hm⟩: ∃ m:UInt8,((B.next:Int)+1)%256=(m.toNat:Int):=⟨UInt8.ofNat ((B.next+1)%256),by simp⟩
 rw [hm]
 have HK0:=hide ((Kept.only w b 6 (.int .i64 ((B.next:Int)+1))).mono (T:=fun k=>S k∨lv.ownBlock=some k) (fun k hk=>Or.inl (by rw [hk];exact h.inB)))
 have Hl0:=hide (ownsRow_kept (Kept.only w b 6 (.int .i64 ((B.next:Int)+1))) hl (row_ne hl h.blk (by decide)))
 have HB0:=hide h1
 have hlt0: ∀ g,lv.ownBlock=some g→g<w.heap.size:=fun g hg=>(hl.lt g hg).2
 have Hlt0:=hide hlt0
 have Hne:=hide hne
 have HS:=hide h.lt
 obtain ⟨la,lcap,hlv⟩:=row_form hl
 have Hlv:=hide hlv
 subst hlv
 clear c6 z6 d6 hm h1 h hl hlt0 hne
 generalize w.setCell ⟨b,6,none⟩ (.int .i64 ((B.next:Int)+1))=W at*
 have hmark:=lawMarked_any m
 have Hmark:=hide hmark
 clear hmark
 have hmlen:=markC_length m
 go_loopw [5] (fun i w'=> ∃ k:Nat,k≤L.length∧i= .int .i64 k∧w'.ownsRow 0 38 64 (.slice la L.length lcap) L.length (flatC (markTo L m k))∧BookAt w' b V { B with next:=B.next+1 } S∧Kept (fun k=>S k∨(Value.slice la L.length lcap).ownBlock=some k) w w') (fun i _=>L.length - (intOf i).toNat)
 case atStart=>exact ⟨0,by omega,rfl,uh Hl0,uh HB0,uh HK0⟩
 case round=>
   obtain ⟨k,hk,rfl,hrow,hbk,hkp⟩:=hrel
   clear Hl0 HB0 HK0
   by_cases hlt:k<L.length
   · obtain ⟨g,cap2,e2,_⟩:=row_some hrow (by omega)
     obtain ⟨rfl,rfl⟩:la=some ⟨g,0,none⟩∧lcap=cap2:=by injection e2 with x1 x2 x3;exact ⟨x1,x3⟩
     have hki:(k:Int)<(L.length:Int):=by omega
     have Hrow:=hide hrow
     have Hbk:=hide hbk
     have Hkp:=hide hkp
     clear hrow hbk hkp e2
     go_wp2_with fail
     refine (uh Hmark wr).mono ?_
     rintro e w2 ⟨rfl,hb2⟩
     have hr2:=ownsRow_kept (Kept.of_below (S:=fun _=>False) hb2) (uh Hrow) (fun _ _=>id)
     have hml:=markTo_length L m k (by omega)
     have hr2':w2.ownsRow 0 38 64 (.slice (some ⟨g,0,none⟩) (markTo L m k).length lcap) (markTo L m k).length (flatC (markTo L m k)):=by rw [hml];exact hr2
     have th:=row_there hr2' k (by rw [hml];exact hlt)
     have hset:=row_set hr2' (markTo_lens hls m k) k (by rw [hml];exact hlt) (markC m) hmlen
     rw [markTo_succ L m k hlt,markTo_length L m (k+1) (by omega),hml] at hset
     have Hset:=hide hset
     have Hb2k:=hide ((uh Hbk).below hb2)
     have Hkp2:=hide ((uh Hkp).trans (Kept.of_below hb2))
     clear hr2 hr2' hset hb2 Hrow Hbk Hkp hml
     go_wp2
     go_roundw
     case rel=>
       refine ⟨k+1,by omega,by go_num,uh Hset,?_,(uh Hkp2).setCells (b:=g) (Or.inl (Or.inr rfl)) _ _⟩
       exact (uh Hb2k).kept (T:=fun x=>x=g) ((Kept.refl (fun x=>x=g) w2).setCells (b:=g) (Or.inl rfl) _ _) (fun x hx e=>uh Hne g rfl (by rw [← e];exact hx))
     case measure=>simp [intOf];omega
   · have hkL:k=L.length:=by omega
     have hfull:markTo L m k=List.replicate L.length (markC m):=by rw [hkL];unfold markTo;rw [List.drop_length,List.append_nil]
     rw [hfull] at hrow
     have Hrow:=hide hrow
     have Hbk:=hide hbk
     have Hkp:=hide hkp
     clear hrow hbk hkp hkL hfull
     go_wp2_with fail
     refine (uh Hmark wr).mono ?_
     rintro e w2 ⟨rfl,hb2⟩
     have Hrow2:=hide (ownsRow_kept (Kept.of_below (S:=fun _=>False) hb2) (uh Hrow) (fun _ _=>id))
     have Hb2k:=hide ((uh Hbk).below hb2)
     have Hkp2:=hide ((uh Hkp).trans (Kept.of_below hb2))
     clear hb2 Hrow Hbk Hkp
     obtain ⟨i0,hi0,hz0,hz1,hz2⟩:=info_parts Tryz.infoClus
     go_wp2_with (at_builtin;refine wpList_append_keep _ rfl _ _ _ rfl 0 38 i0 _ 64 64 Tryz.underlying28 hi0 hz0 hz1 hz2 (by simp [Value.cells,cv_length,zc_length]) (by omega) (.slice la L.length lcap) L.length (flatC (List.replicate L.length (markC m))) rfl ((uh Hrow2).alloc _) ⟨w2.heap.size,0,none⟩ 1 1 (cv (markC m)) rfl (by rw [cv_length,hmlen]) (World.news_of_block (cs:=(cv (markC m)).toArray) (t:=38) (fr:=(0,0)) (heap_alloc_new w2 _)) (cv_one _) (by omega) (by unfold maxLen;omega) (by omega) (by omega) (w2.heap.size+1) (by simp) ?_;intro g3 cap3 w3 hown3 hcase3 hlt3)
     have HrowA:=hide ((uh Hrow2).alloc (.cells (cv (markC m)).toArray 38))
     have Hone:=hide hown3
     have Hk3:=hide (case_kept hcase3)
     have Hl3:=hide (row_still (uh HrowA) hown3 hcase3)
     have HbkA:=hide ((uh Hb2k).below ((Below.refl _ _).alloc (Nat.le_refl _) (.cells (cv (markC m)).toArray 38)))
     have HB3:=hide ((uh HbkA).kept (uh Hk3) (fun x hx e=>uh Hne x e hx))
     have HK3:=hide (((uh Hkp2).alloc (.cells (cv (markC m)).toArray 38)).trans ((uh Hk3).mono (T:=fun k=>S k∨(Value.slice la L.length lcap).ownBlock=some k) (fun k hk=>Or.inr hk)))
     have Hg3:Hid ((Value.slice la L.length lcap= .slice (some ⟨g3,0,none⟩) L.length cap3)∨(w.heap.size≤g3)):=by
       rcases hcase3 with ⟨e1,_⟩ | ⟨e1,_⟩
       · exact Or.inl e1
       · exact Or.inr (by have:=(uh Hkp2).size;omega)
     clear hown3 hcase3 Hrow2 Hb2k Hkp2 HrowA HbkA Hk3
     refine (uh Hmark w3).mono ?_
     rintro e w4 ⟨rfl,hb4⟩
     go_wp2_with fail
     refine (uh Hmark w4).mono ?_
     rintro e w5 ⟨rfl,hb5⟩
     have hb45:=hb4.trans (hb5.mono hb4.size)
     have Hl5:=hide (ownsRow_kept (Kept.of_below (S:=fun _=>False) hb45) (uh Hl3) (fun _ _=>id))
     have Hone5:=hide (ownsRow_kept (Kept.of_below (S:=fun _=>False) hb45) (uh Hone) (fun _ _=>id))
     have HB5:=hide ((uh HB3).below hb45)
     have HK5:=hide ((uh HK3).trans (Kept.of_below hb45))
     clear hb4 hb5 hb45 Hl3 Hone HB3 HK3
     obtain ⟨i1,hi1,hx0,hx1,hx2⟩:=info_parts Tryz.infoSl
     obtain ⟨i2,hi2,hw0,hw1,hw2⟩:=info_parts Tryz.infoU8
     have hfz: ∀ (w':World) (V':BookV) (q:Nat) (i:Nat),w'.heap[b]? = some (.cells (bookCells V' q).toArray 77 (0,0))→w'.frozen? ⟨b,i,none⟩=false:=fun w' V' q i hh=>frozen_blk hh i
     have Hfz:=hide hfz
     clear hfz
     go_wp2_with (first
       | (at_builtin
          refine wpList_append_keep _ rfl _ _ _ rfl 0 38 i0 _ 64 64 Tryz.underlying28 hi0 hz0 hz1 hz2 (by simp [Value.cells,cv_length,zc_length]) (by omega) (.slice la L.length lcap) L.length (flatC (List.replicate L.length (markC m))) rfl ((uh Hl5).alloc _) ⟨w5.heap.size,0,none⟩ 2 2 (cv (markC m)++cv (markC m)) rfl (by rw [List.length_append,cv_length,hmlen]) (World.news_of_block (cs:=(cv (markC m)++cv (markC m)).toArray) (t:=38) (fr:=(0,0)) (heap_alloc_new w5 _)) (by intro u hu;rcases List.mem_append.1 hu with x | x <;> exact cv_one _ u x) (by omega) (by unfold maxLen;omega) (by omega) (by omega) (w5.heap.size+1) (by simp) ?_
          intro g6 cap6 w6 hown6 hcase6 hlt6
          have B6:=hide (((uh HB5).below ((Below.refl _ _).alloc (Nat.le_refl _) (.cells (cv (markC m)++cv (markC m)).toArray 38))).kept (case_kept hcase6) (fun x hx e=>uh Hne x e hx))
          have c2:w6.cell? ⟨b,2,none⟩=some V.f:=(uh B6).cell 2)
       | (at_builtin
          refine wpList_append_lies _ rfl _ _ _ rfl 0 28 i1 _ 1 24 Tryz.underlying72 hi1 hx0 hx1 hx2 rfl (by omega) V.f B.files.length (B.files.map (·.v)) rfl ((uh B6).rF.alloc _) ⟨w6.heap.size,0,none⟩ 3 3 [.slice la L.length lcap,.slice (some ⟨g3,0,none⟩) (L.length+1) cap3,.slice (some ⟨g6,0,none⟩) (L.length+2) cap6] rfl rfl (World.news_of_block (cs:= #[.slice la L.length lcap,.slice (some ⟨g3,0,none⟩) (L.length+1) cap3,.slice (some ⟨g6,0,none⟩) (L.length+2) cap6]) (t:=28) (fr:=(0,0)) (heap_alloc_new w6 _)) (by simp [Value.oneCell']) (by omega) (by unfold maxLen;omega) (by omega) (by omega) (w6.heap.size+1) (by simp) ?_
          intro g7 cap7 w7 hown7 hgrow7 hat7 hlt7
          have b7:=hide (grown_blk hgrow7 ((uh B6).below ((Below.refl _ _).alloc (Nat.le_refl _) (.cells #[.slice la L.length lcap,.slice (some ⟨g3,0,none⟩) (L.length+1) cap3,.slice (some ⟨g6,0,none⟩) (L.length+2) cap6] 28))).blk (row_ne (uh B6).rF (uh B6).blk (by decide)))
          have c72:w7.cell? ⟨b,2,none⟩=some V.f:=(cell_blk (uh b7) 2).trans rfl
          have c73:w7.cell? ⟨b,3,none⟩=some V.fm:=(cell_blk (uh b7) 3).trans rfl
          have z7: ∀ i,w7.frozen? ⟨b,i,none⟩=false:=fun i=>frozen_blk (uh b7) i
          have R9:=hide (ownsRow_kept (Kept.only w7 b 2 (.slice (some ⟨g7,0,none⟩) (B.files.length+3) cap7)) (grown_row hgrow7 ((uh B6).rFm.alloc _) (rows_ne (uh B6).rFm (uh B6).rF (by decide))) (row_ne (uh B6).rFm (uh B6).blk (by decide))))
       | (at_builtin
          refine wpList_append_lies _ rfl _ _ _ rfl 0 5 i2 _ 1 1 Tryz.underlying73 hi2 hw0 hw1 hw2 rfl (by omega) V.fm B.files.length (B.files.map fun x=> .int .u8 (x.m.toNat:Int)) rfl ((uh R9).alloc _) ⟨w7.heap.size,0,none⟩ 3 3 [.int .u8 (m.toNat:Int),.int .u8 (m.toNat:Int),.int .u8 (m.toNat:Int)] rfl rfl (World.news_of_block (cs:= #[.int .u8 (m.toNat:Int),.int .u8 (m.toNat:Int),.int .u8 (m.toNat:Int)]) (t:=5) (fr:=(0,0)) (by have:=heap_alloc_new (w7.setCell ⟨b,2,none⟩ (.slice (some ⟨g7,0,none⟩) (B.files.length+3) cap7)) (.cells #[.int .u8 (m.toNat:Int),.int .u8 (m.toNat:Int),.int .u8 (m.toNat:Int)] 5);rwa [size_setCell] at this)) (by simp [Value.oneCell']) (by omega) (by unfold maxLen;omega) (by omega) (by omega) (w7.heap.size+1) (by simp) ?_
          intro g8 cap8 w8 hown8 hgrow8 hat8 hlt8
          have b8:=hide (grown_blk hgrow8 (show _=some (.cells (bookCells { V with f:= .slice (some ⟨g7,0,none⟩) (B.files.length+3) cap7 } (B.next+1)).toArray 77 (0,0)) from (Below.heap_alloc _ _ _ (by rw [size_setCell];exact blk_lt (uh b7))).trans (by rw [heap_setCell_same _ _ _ _ _ _ _ (uh b7)];rfl)) (fun g hg=>row_ne (uh B6).rFm (uh B6).blk (by decide) g hg))
          have c83:w8.cell? ⟨b,3,none⟩=some V.fm:=(cell_blk (uh b8) 3).trans rfl
          have z8: ∀ i,w8.frozen? ⟨b,i,none⟩=false:=fun i=>frozen_blk (uh b8) i)
       | fail)
     have hrep2:flatC (List.replicate L.length (markC m))++(cv (markC m)++cv (markC m))=flatC (List.replicate (L.length+2) (markC m)):=by rw [← List.append_assoc,rep_snoc,rep_snoc]
     have hl6:=row_still ((uh Hl5).alloc (.cells (cv (markC m)++cv (markC m)).toArray 38)) hown6 hcase6
     have h26:w6.ownsRow 0 38 64 (.slice (some ⟨g6,0,none⟩) (L.length+2) cap6) (L.length+2) (flatC (List.replicate (L.length+2) (markC m))):=by rw [← hrep2];exact hown6
     have hone5:=uh Hone5
     rw [rep_snoc] at hone5
     have h16:w6.ownsRow 0 38 64 (.slice (some ⟨g3,0,none⟩) (L.length+1) cap3) (L.length+1) (flatC (List.replicate (L.length+1) (markC m))):=by
       have hlen1:(flatC (List.replicate (L.length+1) (markC m))).length=(L.length+1)*64:=by
         rw [flatC_length _ (by intro c hc;rw [List.eq_of_mem_replicate hc];exact hmlen),List.length_replicate]
       rcases hcase6 with ⟨e6,hg6⟩ | ⟨_,hg6⟩
       · rcases uh Hg3 with e3 | e3
         · rw [e6] at e3
           injection e3 with x1 _ x3
           injection x1 with x1
           injection x1 with x1 _ _
           subst x1
           subst x3
           have h27:w6.ownsRow 0 38 64 (.slice (some ⟨g6,0,none⟩) (L.length+1+1) cap6) (L.length+1+1) (flatC (List.replicate (L.length+1) (markC m))++cv (markC m)):=by rw [rep_snoc];exact h26
           exact row_prefix h27 hlen1
         · refine grown_row hg6 (hone5.alloc _) (fun g hg x=> ?_)
           simp only [Value.ownBlock,Option.some.injEq] at hg x
           have:=uh Hlt0 g6 (by rw [e6];rfl)
           omega
       · exact grown_row hg6 (hone5.alloc _) (fun g hg x=>by cases x)
     have o1: ∀ g,(Value.slice (some ⟨g3,0,none⟩) (L.length+1) cap3).ownBlock=some g→(Value.slice la L.length lcap).ownBlock=some g∨w.heap.size≤g:=fun g hg=>by
       simp only [Value.ownBlock,Option.some.injEq] at hg
       subst hg
       rcases uh Hg3 with e3 | e3
       · exact Or.inl (by rw [e3];rfl)
       · exact Or.inr e3
     have o2: ∀ g,(Value.slice (some ⟨g6,0,none⟩) (L.length+2) cap6).ownBlock=some g→(Value.slice la L.length lcap).ownBlock=some g∨w.heap.size≤g:=fun g hg=>by
       simp only [Value.ownBlock,Option.some.injEq] at hg
       subst hg
       rcases hcase6 with ⟨e6,_⟩ | ⟨e6,_⟩
       · exact Or.inl (by rw [e6];rfl)
       · exact Or.inr (by have:=(uh HK5).size;omega)
     have hK6:=((uh HK5).alloc (.cells (cv (markC m)++cv (markC m)).toArray 38)).trans ((case_kept hcase6).mono (T:=fun k=>S k∨(Value.slice la L.length lcap).ownBlock=some k) (fun k hk=>Or.inr hk))
     have E:=hide (ownsFile_end (uh B6) hl6 h16 h26 o1 o2 hK6 hgrow7 hown7 hat7 hgrow8 hown8 hat8 (uh b8))
     clear hrep2 hl6 h26 hone5 h16 o1 o2 hK6
     go_end0
     exact ⟨rfl,uh E⟩
end Go.Proofs.YtknjjjenklfeoaaGreatDoor
namespace Go.Proofs.YtknjjjenklfeoaaGreatDoor
open Go.RowKit
theorem setList_flatW (D:List WrR) (hD: ∀ x ∈ D,x.data.length=64) (k:Nat) (hk:k<D.length) (c:WrR) (hc:c.data.length=64):setList (flatW D).toArray (k*65) (wrCells c)=(flatW (D.set k c)).toArray:=by
 have hl:=flatW_length D hD
 have hD': ∀ x ∈ D.set k c,x.data.length=64:=by
   intro x hx
   rcases List.mem_or_eq_of_mem_set hx with h | h
   · exact hD x h
   · rw [h];exact hc
 have hl':=flatW_length (D.set k c) hD'
 rw [List.length_set] at hl'
 have hcl:=wrCells_length hc
 apply Array.ext_getElem?
 intro i
 rw [setList_get (wrCells c) _ _ i (by rw [hcl];simp;omega),hcl,List.getElem?_toArray,List.getElem?_toArray]
 by_cases hi:i<D.length*65
 · have e:i=(i / 65)*65+i%65:=by omega
   have hq:i / 65<D.length:=by omega
   rw [e,flatW_range (D.set k c) hD' (i / 65) (by simpa using hq) (i%65) (by omega),flatW_range D hD (i / 65) hq (i%65) (by omega)]
   unfold wrAt
   simp only [List.getD_eq_getElem?_getD,List.getElem?_set]
   by_cases h2:k=i / 65
   · rw [if_pos h2,if_pos (by omega),if_pos (by omega)]
     simp only [Option.getD_some]
     congr 1
     omega
   · rw [if_neg h2,if_neg (by omega)]
 · rw [if_neg (by omega),List.getElem?_eq_none (by omega),List.getElem?_eq_none (by omega)]
theorem wrow_set {w:World} {base g cap:Nat} {L:List WrR} (h:w.ownsRow base 104 65 (.slice (some ⟨g,0,none⟩) L.length cap) L.length (flatW L)) (hl: ∀ c ∈ L,c.data.length=64) (k:Nat) (hk:k<L.length) (c:WrR) (hc:c.data.length=64):
   (w.setCells g (k*65) (wrCells c)).ownsRow base 104 65 (.slice (some ⟨g,0,none⟩) L.length cap) (L.set k c).length (flatW (L.set k c)):=by
 have hl': ∀ x ∈ L.set k c,x.data.length=64:=by
   intro x hx
   rcases List.mem_or_eq_of_mem_set hx with y | y
   · exact hl x y
   · rw [y];exact hc
 have hcl:=wrCells_length hc
 refine ⟨flatW_length _ hl',?_⟩
 rcases h.2 with ⟨e,_⟩ | ⟨g',cap',cur,e,hb,hh,hn,hm,hs,ht⟩
 · cases e
 · obtain ⟨rfl,rfl⟩:g'=g∧cap'=cap:=by injection e with x1 _ x3;injection x1 with x1;injection x1 with x1;exact ⟨x1.symm,x3.symm⟩
   refine Or.inr ⟨g',cap',setList cur (k*65) (wrCells c),by simp,hb,heap_setCells_same _ _ _ _ _ _ _ hh,by simpa using hn,hm,by rw [setList_size];exact hs,?_⟩
   have hfl:=flatW_length L hl
   have e2:=setList_flatW L hl k hk c hc
   refine List.ext_getElem? fun i=> ?_
   rw [List.length_set]
   by_cases hi:i<L.length*65
   · rw [List.getElem?_take,if_pos hi,Array.getElem?_toList,setList_get _ _ _ _ (by rw [hcl,hs];have:=Nat.mul_le_mul_right 65 hn;omega)]
     have e3:(setList (flatW L).toArray (k*65) (wrCells c))[i]? = (flatW (L.set k c)).toArray[i]? := by rw [e2]
     rw [setList_get _ _ _ _ (by rw [hcl];simp;omega),List.getElem?_toArray,List.getElem?_toArray] at e3
     rw [← e3]
     have e4:cur[i]? = (flatW L)[i]? := by rw [← ht,List.getElem?_take,if_pos hi,Array.getElem?_toList]
     rw [e4]
   · have hfl2:=flatW_length _ hl'
     rw [List.length_set] at hfl2
     rw [List.getElem?_eq_none (by rw [List.length_take];omega),List.getElem?_eq_none (by omega)]
theorem wrow_there {w:World} {base g cap:Nat} {L:List WrR} (h:w.ownsRow base 104 65 (.slice (some ⟨g,0,none⟩) L.length cap) L.length (flatW L)) (k:Nat) (hk:k<L.length):w.there g (k*65) 65:=by
 rcases h.2 with ⟨e,_⟩ | ⟨g',cap',cur,e,hb,hh,hn,hm,hs,ht⟩
 · cases e
 · obtain ⟨rfl,rfl⟩:g'=g∧cap'=cap:=by injection e with x1 _ x3;injection x1 with x1;injection x1 with x1;exact ⟨x1.symm,x3.symm⟩
   exact there_blk hh _ _ (by rw [hs];have:=Nat.mul_le_mul_right 65 hn;omega)
theorem run_storeWr {w:World} {b o:Nat} {x:WrR} (ht:w.there b o 65) (hc:x.data.length=64):(storeWr ⟨b,o,none⟩ (.agg (wrCells x).toArray)).run Tryz.prog w= .ok () (w.setCells b o (wrCells x)):=by
 have:=run_storeVar_mid (P:=Tryz.prog) w b o 104 (wrCells x).toArray (by simpa [wrCells_length hc] using ht) (by simp only [List.size_toArray,wrCells_length hc];kernel_rfl) (all_oneCell_toArray (wrCells_one x))
 simpa [storeWr] using this
def bWr (parts:Array (Nat × Value)):Sem Value:=Instr.build 104 parts
theorem build_wr (parts:Array (Nat × Value)):Instr.build 104 parts=bWr parts:=rfl
theorem run_bWr0 (n:Int) (w:World):(bWr #[(0,.int .i64 n)]).run Tryz.prog w= .ok (.agg (wrCells ⟨n,zc⟩).toArray) w:=by
 have hz:=(zero_of_info (P:=Tryz.prog) (t:=104) (v:= .agg (wrCells ⟨0,zc⟩).toArray) (n:=65) (by kernel_rfl)).1
 have hf:Instr.fill (fun x=>(#[(0,1),(1,64)]:Array (Nat × Nat))[x]?) ([Value.int .i64 0]++cv zc).toArray [(0,Value.int .i64 n)]=some (wrCells ⟨n,zc⟩).toArray:=by
   rw [fill_one _ _ 0 0 1 (.int .i64 n) [] (by rfl) (by rfl) (by simp),Instr.fill,show (Value.int .i64 n).cells.toList=[Value.int .i64 n] from rfl,setList_front [Value.int .i64 0] (cv zc) [Value.int .i64 n] rfl]
   rfl
 exact run_build_struct w 104 _ (.agg (wrCells ⟨0,zc⟩).toArray) #[(0,1),(1,64)] #[(0,.int .i64 n)] _ Tryz.underlying104 hz (fun w=>by kernel_rfl) hf
def bsWr (parts:Array (Nat × Value)):Sem Value:=Instr.buildSlice 58 1 parts
theorem buildSlice_wr (parts:Array (Nat × Value)):Instr.buildSlice 58 1 parts=bsWr parts:=rfl
theorem run_bsWr {w:World} {x:WrR} (hc:x.data.length=64):(bsWr #[(0,.agg (wrCells x).toArray)]).run Tryz.prog w= .ok (.slice (some ⟨w.heap.size,0,none⟩) 1 1) (w.alloc (.cells (wrCells x).toArray 104)):=
 run_buildSlice_one w 58 104 65 (.agg (wrCells ⟨0,zc⟩).toArray) (.agg (wrCells x).toArray) Tryz.underlying58 (by kernel_rfl) (by omega) (by omega) (by simp [Value.cells,wrCells_length hc])
def bsWr2 (parts:Array (Nat × Value)):Sem Value:=Instr.buildSlice 58 2 parts
theorem buildSlice_wr2 (parts:Array (Nat × Value)):Instr.buildSlice 58 2 parts=bsWr2 parts:=rfl
theorem run_bsWr2 {w:World} {x y:WrR} (hc:x.data.length=64) (hd:y.data.length=64):(bsWr2 #[(0,.agg (wrCells x).toArray),(1,.agg (wrCells y).toArray)]).run Tryz.prog w= .ok (.slice (some ⟨w.heap.size,0,none⟩) 2 2) (w.alloc (.cells (wrCells x++wrCells y).toArray 104)):=
 run_buildSlice_two w 58 104 65 (.agg (wrCells ⟨0,zc⟩).toArray) (.agg (wrCells x).toArray) (.agg (wrCells y).toArray) Tryz.underlying58 (by kernel_rfl) (by omega) (by omega) (by simp [Value.cells,wrCells_length hc]) (by simp [Value.cells,wrCells_length hd])
theorem Tryz.infoWr:(Tryz.prog.info? 104).map (fun i=>(i.zero,i.size,i.bytes))=some (some (.agg (wrCells ⟨0,zc⟩).toArray),65,72):=by kernel_rfl
theorem Tryz.infoSlW:(Tryz.prog.info? 58).map (fun i=>(i.zero,i.size,i.bytes))=some (some (.slice none 0 0),1,24):=by kernel_rfl
theorem Tryz.infoInt:(Tryz.prog.info? 3).map (fun i=>(i.zero,i.size,i.bytes))=some (some (.int .i64 0),1,8):=by kernel_rfl
theorem flatW_snoc (l:List WrR) (x:WrR):flatW (l++[x])=flatW l++wrCells x:=by simp [flatW]
end Go.Proofs.YtknjjjenklfeoaaGreatDoor
