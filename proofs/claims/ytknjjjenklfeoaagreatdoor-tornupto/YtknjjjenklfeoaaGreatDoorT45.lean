import Derived.ChangeSame
import Derived.ProofKit
import Derived.Below
import Derived.Test.YtknjjjenklfeoaaGreatDoorChecked
import Derived.Test.YtknjjjenklfeoaaGreatDoorT44
import Derived.Test.YtknjjjenklfeoaaGreatDoorRows
import Derived.Deep.Slices
import Derived.Test.YtknjjjenklfeoaaGreatDoorT35
import Derived.Test.YtknjjjenklfeoaaGreatDoorT43
import Derived.Deep.DeepHandedRow
import Derived.OpenShut
import Derived.LaidHandle
import Derived.LaidLaws
import Derived.Deep.DeepWitnessRowRef
import Derived.Test.YtknjjjenklfeoaaGreatDoorCards
import Derived.Test.YtknjjjenklfeoaaGreatDoorTie
import Derived.SevenTiedAt
set_option maxHeartbeats 8000000
set_option maxRecDepth 100000
namespace Go.Proofs.YtknjjjenklfeoaaGreatDoor.Row1
open Go.ChangeShapes Go.WideShapes Go.RowKit
def shutB (P:Program) (t:TypeId):Bool:=
 match P.underlying t with
 | some (.slice e)=>decide (0<P.cellsOf e) && decide (e<P.types.size)
 | some (.pointer e)=>decide (e<P.types.size)
 | some (.struct fs)=>fs.toList.all fun f=>decide (f.type<P.types.size)
 | some (.array _ e)=>decide (e<P.types.size)
 | some (.map _ e)=>decide (e<P.types.size)
 | _=>true
def Shut (P:Program):Prop:= ∀ t,t<P.types.size→shutB P t=true
theorem shut_of {P:Program} (h:((List.range P.types.size).all (shutB P))=true):Shut P:=fun t ht=>List.all_eq_true.1 h t (List.mem_range.2 ht)
theorem shut:Shut Tryz.prog:=shut_of (by kernel_rfl)
section
variable {H:Type} {enc:TypeId × Value→H} {P:Program} {w:World} {base:Nat} {sp:Nat→Bool}
theorem step_spare (hz:Shut P) {r r':TypeId→List Value→Option (DataW H × List MemPlace)}
   (hr: ∀ t cs x,t<P.types.size→r t cs=some x→(∀ p ∈ x.2,sp p.block=true)→r' t cs=some x) {t:TypeId} {cs:List Value} {x:DataW H × List MemPlace} (hT:t<P.types.size)
   (h:DataW.trodStep enc P w base (fun _=>true) true r t cs=some x) (hs: ∀ p ∈ x.2,sp p.block=true):
   DataW.trodStep enc P w base sp true r' t cs=some x:=by
 have hz':=hz t hT
 unfold shutB at hz'
 unfold DataW.trodStep at h ⊢
 split at h
 case h_6 e a ht=>
   rw [ht] at hz'
   have hE:e<P.types.size:=by simpa using hz'
   simp only [Option.map_eq_some_iff,Option.bind_eq_some_iff] at h ⊢
   obtain ⟨y,⟨cs',hc,hy⟩,rfl⟩:=h
   exact ⟨y,⟨cs',hc,hr _ _ _ hE hy (fun p hp=>hs p (by simp [hp]))⟩,rfl⟩
 case h_8 e a len cap ht=>
   rw [ht] at hz'
   obtain ⟨he0,hE⟩:0<P.cellsOf e∧e<P.types.size:=by simpa using hz'
   simp only [if_true] at h ⊢
   split at h
   · rename_i hc
     rw [if_pos hc]
     simp only [Option.map_eq_some_iff,Option.bind_eq_some_iff] at h ⊢
     obtain ⟨elems,he,rest,hrest,rfl⟩:=h
     have hrl:rest.length=cap - len:=by simpa using mapM_some_length hrest
     have one: ∀ (i:Nat) (y:DataW H × List MemPlace),y ∈ elems++rest→
         (w.cells? base (a.add (i*P.cellsOf e)) (P.cellsOf e)).bind (r e)=some y→(w.cells? base (a.add (i*P.cellsOf e)) (P.cellsOf e)).bind (r' e)=some y:=by
       intro i y hy hv
       simp only [Option.bind_eq_some_iff] at hv ⊢
       obtain ⟨cs',hc',hy'⟩:=hv
       refine ⟨cs',hc',hr _ _ _ hE hy' (fun p hp=>hs p ?_)⟩
       simp only [List.mem_append,List.mem_flatMap]
       exact Or.inr ⟨y,by simpa using hy,hp⟩
     refine ⟨elems,mapM_carry he (fun i y _ hy=>one i y (by simp [hy])),rest,?_,rfl⟩
     by_cases hcap:cap - len=0
     · have hr0:rest=[]:=List.eq_nil_of_length_eq_zero (hrl.trans hcap)
       subst hr0
       simp [hcap]
     · have hb:sp a.block=true:=by
         refine hs (.cell a.block (a.off+0)) ?_
         refine List.mem_append.2 (Or.inl (MemPlace.mem_row.2 ⟨0,?_,rfl⟩))
         exact Nat.mul_pos (by omega) he0
       rw [if_pos hb]
       exact mapM_carry hrest (fun j y _ hy=>one (len+j) y (by simp [hy]))
   · cases h
 case h_9 _ fs ht=>
   rw [ht] at hz'
   have hE: ∀ f ∈ fs.toList,f.type<P.types.size:=fun f hf=>by simpa using List.all_eq_true.1 hz' f hf
   split at h
   · rename_i hc
     rw [if_pos hc]
     simp only [Option.map_eq_some_iff] at h ⊢
     obtain ⟨xs,hx,rfl⟩:=h
     exact ⟨xs,mapM_carry hx (fun f y hf hy hv=>hr _ _ _ (hE f hf) hv (fun p hp=>hs p (List.mem_flatMap.2 ⟨y,hy,hp⟩))),rfl⟩
   · cases h
 case h_10 _ _ e ht=>
   rw [ht] at hz'
   have hE:e<P.types.size:=by simpa using hz'
   split at h
   · rename_i hc
     rw [if_pos hc]
     simp only [Option.map_eq_some_iff] at h ⊢
     obtain ⟨xs,hx,rfl⟩:=h
     exact ⟨xs,mapM_carry hx (fun f y _ hy hv=>hr _ _ _ hE hv (fun p hp=>hs p (List.mem_flatMap.2 ⟨y,hy,hp⟩))),rfl⟩
   · cases h
 case h_14 k e b ht=>
   rw [ht] at hz'
   have hE:e<P.types.size:=by simpa using hz'
   split at h
   · rename_i es clock hb
     split at h
     · rename_i hc
       simp only [Option.bind_eq_some_iff] at h
       obtain ⟨entries,he,hd⟩:=h
       split at hd
       · rename_i hris
         have hx:=Option.some.inj hd
         subst hx
         simp only [if_pos hc,Option.bind_eq_some_iff]
         refine ⟨entries,mapM_carry he (fun x y _ hy hv=> ?_),by simp [hris]⟩
         simp only [Option.bind_eq_some_iff] at hv ⊢
         obtain ⟨key,hk,hz⟩:=hv
         refine ⟨key,hk,?_⟩
         split at hz
         · rename_i hf
           rw [if_pos hf]
           simp only [Option.map_eq_some_iff] at hz ⊢
           obtain ⟨q,hq,rfl⟩:=hz
           exact ⟨q,hr _ _ _ hE hq (fun p hp=>hs p (by simp only [List.mem_cons,List.mem_flatMap];exact Or.inr ⟨_,hy,hp⟩)),rfl⟩
         · cases hz
       · cases hd
     · cases h
   · cases h
 all_goals first | exact h | cases h
theorem trod_spare (hz:Shut P): ∀ (n:Nat) (t:TypeId) (cs:List Value) (x:DataW H × List MemPlace),t<P.types.size→
   DataW.trod enc P w base (fun _=>true) true n t cs=some x→(∀ p ∈ x.2,sp p.block=true)→DataW.trod enc P w base sp true n t cs=some x:=by
 intro n
 induction n with
 | zero=>intro t cs x _ h;simp [DataW.trod] at h
 | succ n ih=>
   intro t cs x hT h hs
   rw [DataW.trod_step] at h ⊢
   exact step_spare hz ih hT h hs
theorem trodAll_spare {w':World} (hz:Shut P) (hB:Below w.heap.size w w'):
   ∀ {ts:List TypeId} {vs:List Value} {ds:List (DataW H)} {ps:List MemPlace},(∀ t ∈ ts,t<P.types.size)→DataW.TrodAll enc P w base (fun _=>true) true ts vs ds ps→
     (∀ p ∈ ps,sp p.block=true)→DataW.TrodAll enc P w' base sp true ts vs ds ps
 | [],[],[],_,_,h,_=>h
 | _ :: _,_ :: _,_ :: _,_,hT,⟨a,b,⟨n,h1⟩,h2,e⟩,hs=>by
   subst e
   refine ⟨a,b,⟨n,?_⟩,trodAll_spare hz hB (fun t ht=>hT t (List.mem_cons_of_mem _ ht)) h2 (fun p hp=>hs p (List.mem_append_right _ hp)),rfl⟩
   have h3:=trod_spare (sp:=sp) hz n _ _ _ (hT _ List.mem_cons_self) h1 (fun p hp=>hs p (List.mem_append_left _ hp))
   exact DataW.trod_carry n _ _ _ h3 (fun p hp=>hB.same (DataW.trod_lt n _ _ _ h3 p hp))
end
end Go.Proofs.YtknjjjenklfeoaaGreatDoor.Row1
namespace Go.Proofs.YtknjjjenklfeoaaGreatDoor
open Go.RowKit Go.ChangeShapes Go.WideShapes Go.Deep
section
variable {H:Type} {enc:TypeId × Value→H} {w:World} {sp:Nat→Bool}
theorem six {α:Type} {l:List α} (h:l.length=6): ∃ a b c d e f,l=[a,b,c,d,e,f]:=by
 match l,h with
 | [a,b,c,d,e,f],_=>exact ⟨a,b,c,d,e,f,rfl⟩
theorem one_int:Tryz.prog.cellsOf 3=1:=by kernel_rfl
theorem one_string:Tryz.prog.cellsOf 9=1:=by kernel_rfl
theorem bulk_pos: ∀ d:DataW H,1≤Rows.uptoBulk d:=by
 intro d
 cases d with
 | lit l=>cases l <;> simp [Rows.uptoBulk]
 | _=>simp [Rows.uptoBulk]
theorem bulk_len: ∀ ds:List (DataW H),ds.length≤Rows.uptoBulkAll ds
 | []=>Nat.le_refl 0
 | d :: r=>by
   have:=bulk_pos d
   have:=bulk_len r
   show r.length+1≤Rows.uptoBulk d+Rows.uptoBulkAll r
   omega
theorem bulk_two {D:Nat→DataW H}: ∀ {l:List Nat},(∀ i ∈ l,2≤Rows.uptoBulk (D i))→2*l.length≤Rows.uptoBulkAll (l.map D)
 | [],_=>Nat.le_refl 0
 | i :: r,h=>by
   have h1:=h i List.mem_cons_self
   have h2:=bulk_two (D:=D) (l:=r) (fun k hk=>h k (List.mem_cons_of_mem _ hk))
   show 2*(r.length+1)≤Rows.uptoBulk (D i)+Rows.uptoBulkAll (r.map D)
   omega
theorem range_of_cells {g o n:Nat} {spot:Option Nat} {cs:List Value} (hn:cs.length=n) (h0:0<n) (h:w.cells? 0 ⟨g,o,spot⟩ n=some cs):(spot=none→w.rangeAt g o cs)∧g<w.heap.size:=by
 refine ⟨fun hs=> ?_,World.cells?_block h h0⟩
 subst hs
 intro j v hj
 unfold World.cells? at h
 rw [if_pos (Nat.zero_le _)] at h
 have hj':j<n:=by
   rcases Nat.lt_or_ge j n with h' | h'
   · exact h'
   · rw [List.getElem?_eq_none (by omega)] at hj
     cases hj
 have:=mapM_some_get h j j (by rw [List.getElem?_range hj'])
 have e:(Addr.add ⟨g,o,none⟩ j)=⟨g,o+j,none⟩:=by
   unfold Addr.add
   split
   · simp
   · rfl
 rw [e] at this
 rw [this,hj]
end
section
variable {H:Type} {enc:TypeId × Value→H} {w:World} {sp:Nat→Bool}
theorem two_of {α:Type} {l:List α} (h:l.length=2): ∃ a b,l=[a,b]:=by
 match l,h with
 | [a,b],_=>exact ⟨a,b,rfl⟩
theorem open_step {n:Nat} {cs:List Value} {x:DataW H × List MemPlace} (h:DataW.trod enc Tryz.prog w 0 sp true n 56 cs=some x):
   ∃ o:StepR,cs=stepCells o∧(o.text.size≤maxLen∧ -9223372036854775808≤o.block∧o.block≤9223372036854775807)∧ ∃ ys,x.1= .agg ys∧0<ys.length:=by
 obtain ⟨xs,m,_,rfl,hl,hlen,hf⟩:=DataW.trod_struct Tryz.underlying56 h
 have hl6:cs.length=2:=hl.trans (by kernel_rfl)
 have hx6:xs.length=2:=hlen
 obtain ⟨c0,c1,rfl⟩:=two_of hl6
 obtain ⟨x0,x1,rfl⟩:=two_of hx6
 have f0:DataW.trod enc Tryz.prog w 0 sp true m 3 (([c0,c1].drop 0).take (Tryz.prog.cellsOf 3))=some x0:=hf 0 _ rfl
 have f1:DataW.trod enc Tryz.prog w 0 sp true m 9 (([c0,c1].drop 1).take (Tryz.prog.cellsOf 9))=some x1:=hf 1 _ rfl
 rw [one_int] at f0
 rw [one_string] at f1
 change DataW.trod enc Tryz.prog w 0 sp true m _ [c0]=_ at f0
 change DataW.trod enc Tryz.prog w 0 sp true m _ [c1]=_ at f1
 obtain ⟨k,hk,_,hwf⟩:=DataW.trod_int (k:= .i64) (by kernel_rfl) f0
 obtain ⟨s,hs,_,hsl⟩:=DataW.trod_string (by kernel_rfl) f1
 obtain rfl:c0= .int .i64 k:=by simpa using hk
 obtain rfl:c1= .string s:=by simpa using hs
 have hr: -9223372036854775808≤k∧k≤9223372036854775807:=by
   simp [Lit.wf] at hwf
   have e1:IntKind.i64.min= -9223372036854775808:=by decide
   have e2:IntKind.i64.max=9223372036854775807:=by decide
   omega
 exact ⟨⟨k,s⟩,rfl,⟨hsl,hr⟩,_,rfl,by simp⟩
theorem cells_step:Tryz.prog.cellsOf 56=2:=by kernel_rfl
theorem open_steps {fuel:Nat} {a:Option Addr} {len cap:Nat} {x:DataW H × List MemPlace} (h:DataW.trod enc Tryz.prog w 0 (fun _=>true) true fuel 36 [.slice a len cap]=some x):
   ∃ ops:Nat→StepR,KRow w a len ops∧2*len≤Rows.uptoBulk x.1:=by
 rcases open_slice Tryz.underlying36 h with ⟨hc,rfl⟩ | ⟨b,len',cap',m,n,D,Pl,hc,_,hl,hm,hmm,rfl,hel⟩
 · obtain ⟨rfl,rfl,rfl⟩:a=none∧len=0∧cap=0:=by simpa using hc
   exact ⟨fun _=>⟨0,.empty⟩,⟨fun h0=>by omega,fun i hi=>by omega⟩,by omega⟩
 · obtain ⟨rfl,rfl,rfl⟩:a=some b∧len=len'∧cap=cap':=by simpa using hc
   simp only [if_true] at hmm
   subst hmm
   rw [cells_step] at hel
   have each: ∀ i,i<m→ ∃ o:StepR,w.cells? 0 (b.add (i*2)) 2=some (stepCells o)∧(o.text.size≤maxLen∧ -9223372036854775808≤o.block∧o.block≤9223372036854775807)∧2≤Rows.uptoBulk (D i):=by
     intro i hi
     obtain ⟨cs,h1,h2⟩:=hel i hi
     obtain ⟨o,rfl,ht,ys,hy,hp⟩:=open_step h2
     refine ⟨o,h1,ht,?_⟩
     have hy':D i= .agg ys:=hy
     rw [hy']
     have:=bulk_len ys
     show 2≤Rows.uptoBulkAll ys+1
     omega
   have:Inhabited StepR:=⟨⟨0,.empty⟩⟩
   obtain ⟨ops,hops⟩:=choose_lt each
   obtain ⟨g,o,spot⟩:=b
   refine ⟨ops,⟨fun h0=> ?_,fun i hi=>(hops i (by omega)).2.1⟩,?_⟩
   · have h1:=(hops 0 (by omega)).1
     have hspot:spot=none:=by
       have h2:=h1
       unfold World.cells? at h2
       rw [if_pos (Nat.zero_le _)] at h2
       have h3:=mapM_some_get h2 0 0 rfl
       simpa [Addr.add] using World.cell?_spot (h3.trans (rfl:(stepCells (ops 0))[0]? = some _))
     subst hspot
     have hadd: ∀ i,Addr.add ⟨g,o,none⟩ (i*2)=⟨g,o+i*2,none⟩:=by
       intro i
       unfold Addr.add
       split
       · simp
       · rfl
     refine ⟨g,o,rfl,?_,fun i hi=> ?_⟩
     · rw [hadd] at h1
       exact (range_of_cells (n:=2) rfl (by decide) h1).2
     · have h4:=(hops i (by omega)).1
       rw [hadd] at h4
       exact (range_of_cells (n:=2) rfl (by decide) h4).1 rfl
   · have h5:=bulk_two (D:=D) (l:=List.range len) (fun i hi=>(hops i (by have:=List.mem_range.1 hi;omega)).2.2)
     rw [List.length_range] at h5
     show 2*len≤Rows.uptoBulkAll ((List.range len).map D)+Rows.uptoBulkAll _+1
     omega
end
end Go.Proofs.YtknjjjenklfeoaaGreatDoor
namespace Go.Proofs.YtknjjjenklfeoaaGreatDoor.Torn
open Go.ChangeShapes Go.WideShapes Go.ChangeAt Go.RowKit Go.Deep
theorem trodAll_six {H:Type} {enc:TypeId × Value→H} {P:Program} {w:World} {base:Nat} {spare:Nat→Bool} {held:Bool} {t0 t1 t2 t3 t4 t5:TypeId} {args:Array Value} {ds:List (DataW H)} {ps:List MemPlace} (h:DataW.TrodAll enc P w base spare held [t0,t1,t2,t3,t4,t5] args.toList ds ps):
   ∃ v0 v1 v2 v3 v4 v5 d0 d1 d2 d3 d4 d5,args= #[v0,v1,v2,v3,v4,v5]∧ds=[d0,d1,d2,d3,d4,d5]∧(∃ p,DataW.Trod enc P w base spare held t0 v0 d0 p)∧(∃ p,DataW.Trod enc P w base spare held t1 v1 d1 p)∧(∃ p,DataW.Trod enc P w base spare held t2 v2 d2 p)∧(∃ p,DataW.Trod enc P w base spare held t3 v3 d3 p)∧(∃ p,DataW.Trod enc P w base spare held t4 v4 d4 p)∧ ∃ p,DataW.Trod enc P w base spare held t5 v5 d5 p:=by
 obtain ⟨v0,s0,d0,e0,p0,q0,hargs,rfl,rfl,k0,r0⟩:=trodAll_cons h
 obtain ⟨v1,s1,d1,e1,p1,q1,rfl,rfl,rfl,k1,r1⟩:=trodAll_cons r0
 obtain ⟨v2,s2,d2,e2,p2,q2,rfl,rfl,rfl,k2,r2⟩:=trodAll_cons r1
 obtain ⟨v3,s3,d3,e3,p3,q3,rfl,rfl,rfl,k3,r3⟩:=trodAll_cons r2
 obtain ⟨v4,s4,d4,e4,p4,q4,rfl,rfl,rfl,k4,r4⟩:=trodAll_cons r3
 obtain ⟨v5,s5,d5,e5,p5,q5,rfl,rfl,rfl,k5,r5⟩:=trodAll_cons r4
 obtain ⟨rfl,rfl,rfl⟩:=trodAll_nil r5
 exact ⟨v0,v1,v2,v3,v4,v5,d0,d1,d2,d3,d4,d5,by rw [← Array.toArray_toList (xs:=args),hargs],rfl,⟨_,k0⟩,⟨_,k1⟩,⟨_,k2⟩,⟨_,k3⟩,⟨_,k4⟩,⟨_,k5⟩⟩
theorem cell_lt {w:World} {a:Addr} {x:Value} (h:w.cell? a=some x):a.block<w.heap.size:=by
 rcases Nat.lt_or_ge a.block w.heap.size with y | y
 · exact y
 · unfold World.cell? at h
   rw [Array.getElem?_eq_none y] at h
   cases h
theorem one_bool:Tryz.prog.cellsOf 4=1:=by kernel_rfl
theorem open_bools {H:Type} {enc:TypeId × Value→H} {w:World} {fuel:Nat} {a:Option Addr} {len cap:Nat} {x:DataW H × List MemPlace} (h:DataW.trod enc Tryz.prog w 0 (fun _=>true) true fuel 57 [.slice a len cap]=some x):
   ∃ gs:Nat→Bool,GRow w a len gs∧len≤Rows.uptoBulk x.1:=by
 rcases open_slice1 Tryz.underlying57 one_bool h with ⟨hc,rfl⟩ | ⟨b,len',cap',m,n,V,D,Pl,hc,_,hl,hm,hmm,rfl,hel⟩
 · obtain ⟨rfl,rfl,rfl⟩:a=none∧len=0∧cap=0:=by simpa using hc
   exact ⟨fun _=>false,⟨fun h0=>by omega⟩,Nat.zero_le _⟩
 · obtain ⟨rfl,rfl,rfl⟩:a=some b∧len=len'∧cap=cap':=by simpa using hc
   have hlm:len≤m:=by rw [hmm];split <;> omega
   have each: ∀ i,i<len→ ∃ s:Bool,w.cell? (b.add i)=some (.bool s):=by
     intro i hi
     obtain ⟨h1,h2⟩:=hel i (by omega)
     obtain ⟨s,hs,_⟩:=DataW.trod_bool (by kernel_rfl) h2
     obtain hs':V i= .bool s:=by simpa using hs
     exact ⟨s,by rw [h1,hs']⟩
   have:Inhabited Bool:=⟨false⟩
   obtain ⟨ss,hss⟩:=choose_lt each
   obtain ⟨g,o,spot⟩:=b
   refine ⟨ss,⟨fun h0=> ?_⟩,?_⟩
   · have hsp:spot=none:=by
       have:=World.cell?_spot (hss 0 h0)
       unfold Addr.add at this
       rw [if_pos rfl] at this
       exact this
     subst hsp
     have hlt:=cell_lt (hss 0 h0)
     rw [Addr.add_mid] at hlt
     exact ⟨g,o,rfl,hlt,fun i hi=>by have:=hss i hi;rw [Addr.add_mid] at this;exact this⟩
   · have h5:=bulk_len ((List.range len).map D)
     rw [List.length_map,List.length_range] at h5
     show len≤Rows.uptoBulkAll ((List.range len).map D)+Rows.uptoBulkAll _+1
     omega
theorem typesB:((Tryz.f9.params.toList).all fun t=>decide (t<Tryz.prog.types.size))=true:=by kernel_rfl
theorem open_num {H:Type} {enc:TypeId × Value→H} {w:World} {sp:Nat→Bool} {fuel:Nat} {k:Int} {x:DataW H × List MemPlace} (h:DataW.trod enc Tryz.prog w 0 sp true fuel 3 [.int .i64 k]=some x): -9223372036854775808≤k∧k≤9223372036854775807:=by
 obtain ⟨k',hk,_,hwf⟩:=DataW.trod_int (k:= .i64) (by kernel_rfl) h
 obtain rfl:k=k':=by simpa using hk
 simp [Lit.wf] at hwf
 have e1:IntKind.i64.min= -9223372036854775808:=by decide
 have e2:IntKind.i64.max=9223372036854775807:=by decide
 omega
theorem contract (H:Type) (enc:TypeId × Value→H) (W:World) (base:Nat) (args:Array Value) (ds gs:List (DataW H)) (before:List MemPlace)
   (hval: ∀ (j:Nat) t v,Tryz.f9.params[j]? = some t→args[j]? = some v→Value.okWide Tryz.prog W .any base t v)
   (hW:DataW.Whole enc Tryz.prog Tryz.f9.params.toList Rows.tornSpec.vars false W args.toList ds gs before)
   (hsmall:Rows.uptoSmall H (ds++gs)=true) (hG:Glob W):
   Calls Tryz.prog 9 args W fun e W'=> ∃ v,e= .returned v∧Rows.tornSpec.post enc Tryz.prog Tryz.f9 false true false false W args v W':=by
 have hW':=hW
 obtain ⟨p,q,hA0,hV,rfl,hfz,hnd⟩:=hW
 have hA1:DataW.TrodAll enc Tryz.prog W 0 (fun _=>true) true Tryz.f9.params.toList args.toList ds p:=hA0
 have hA:=hA1
 rw [Tryz.params9] at hA hval
 obtain ⟨v0,v1,v2,v3,v4,v5,d0,d1,d2,d3,d4,d5,rfl,rfl,⟨p0,h0⟩,⟨p1,h1⟩,⟨p2,h2⟩,⟨p3,h3⟩,⟨p4,h4⟩,⟨p5,h5⟩⟩:=trodAll_six hA
 obtain ⟨rfl,rfl⟩:=trodVars_none hV
 obtain ⟨a,len,cap,rfl⟩:=okWide_slice Tryz.underlying36 (hval 0 36 v0 rfl rfl)
 obtain ⟨a',len',cap',rfl⟩:=okWide_slice Tryz.underlying36 (hval 1 36 v1 rfl rfl)
 obtain ⟨cs,rfl,_⟩:=okWide_struct Tryz.underlying56 (hval 2 56 v2 rfl rfl)
 obtain ⟨k3,rfl⟩:=okWide_int (k:= .i64) (by kernel_rfl) (hval 3 3 v3 rfl rfl)
 obtain ⟨k4,rfl⟩:=okWide_int (k:= .i64) (by kernel_rfl) (hval 4 3 v4 rfl rfl)
 obtain ⟨ga,gn,gcap,rfl⟩:=okWide_slice Tryz.underlying57 (hval 5 57 v5 rfl rfl)
 obtain ⟨fuel,hf⟩:=h0
 obtain ⟨fuel',hf'⟩:=h1
 obtain ⟨fuel2,hf2⟩:=h2
 obtain ⟨fuel3,hf3⟩:=h3
 obtain ⟨fuel4,hf4⟩:=h4
 obtain ⟨fuel5,hf5⟩:=h5
 obtain ⟨st,hs,hb⟩:=open_steps hf
 obtain ⟨st',hs',hb'⟩:=open_steps hf'
 obtain ⟨o,ho,hfit,_⟩:=open_step hf2
 obtain rfl:cs=(stepCells o).toArray:=by
   have:cs.toList=stepCells o:=ho
   rw [← this]
 obtain ⟨gs,hgs,hbg⟩:=open_bools hf5
 have hbulk:Rows.uptoBulk d0+Rows.uptoBulk d1+Rows.uptoBulk d5≤1048576:=by
   have h1:Rows.uptoBulkAll ([d0,d1,d2,d3,d4,d5]++[])≤1048576:=by simpa [Rows.uptoSmall] using hsmall
   have h3:Rows.uptoBulkAll ([d0,d1,d2,d3,d4,d5]++[])=Rows.uptoBulk d0+(Rows.uptoBulk d1+(Rows.uptoBulk d2+(Rows.uptoBulk d3+(Rows.uptoBulk d4+(Rows.uptoBulk d5+0))))):=rfl
   omega
 have e0:2*len≤Rows.uptoBulk d0:=hb
 have e1:2*len'≤Rows.uptoBulk d1:=hb'
 have e5:gn≤Rows.uptoBulk d5:=hbg
 simp only [List.append_nil] at hW'
 refine (torn_any W hG a a' len len' cap cap' st st' hs hs' (by omega) (by omega) o hfit k3 k4 (open_num hf3) (open_num hf4) ga gn gcap gs hgs (by omega)).mono fun e W' ⟨he,hB⟩=> ?_
 subst he
 have hT: ∀ t ∈ Tryz.f9.params.toList,t<Tryz.prog.types.size:=fun t ht=>of_decide_eq_true (List.all_eq_true.1 typesB t ht)
 have hold: ∀ x ∈ p,(fun b=>decide (b<W.heap.size)) x.block=true:=fun x hx=>by simpa using hW'.lt x (by simpa using hx)
 refine ⟨_,rfl,[d0,d1,d2,d3,d4,d5],[],p,[],p,[],hW',?_,?_,rfl,World.keptBut_mono (fun x hx=>⟨hx,Or.inr (Or.inl hx)⟩) (hB.frame _),fun h=>by cases h⟩
 · exact trodAll_cons_mk (shut_bool (by kernel_rfl) _) trodAll_mk0
 · exact Row1.trodAll_spare Row1.shut hB hT hA1 hold
end Go.Proofs.YtknjjjenklfeoaaGreatDoor.Torn
namespace Go.Proofs.YtknjjjenklfeoaaGreatDoor.Wit
open Go.RowKit
theorem own:ownKnob Tryz.prog.godebug=none:=by kernel_rfl
def low (P:Program):Nat:=(World.holding P default ⟨#[],#[],[]⟩).heap.size
def textOf:DataW Unit→List UInt8
 | .iface _ (.ptr (.agg [.lit (.string s)]))=>s
 | _=>[]
def cellOf (d:DataW Unit):Obj:= .cells #[.string ⟨(textOf d).toArray⟩] 287
def lay (h:Array Obj) (g:Nat) (v:Value):Array Obj:=h.modify g fun
 | .cells _ t frozen=> .cells #[v] t frozen
 | o=>o
def err (P:Program) (k:Nat):Value:= .iface 267 (.pointer (some ⟨low P+k,0,none⟩))
def laidWorld (P:Program) (os:Os):World:=
 let w0:=World.holding P os ⟨#[cellOf Rows.laid_vellum_volume_errLength,cellOf Rows.laid_vellum_volume_errHead,cellOf Rows.laid_vellum_volume_errList,cellOf Rows.laid_vellum_volume_errCount,cellOf Rows.laid_vellum_volume_errMark,cellOf Rows.laid_vellum_volume_errNowhere,cellOf Rows.laid_vellum_volume_errTwice,cellOf Rows.laid_vellum_volume_errBehind],#[],[]⟩
 let h0:=lay w0.heap 0 (err P 0)
 let h1:=lay h0 1 (err P 1)
 let h2:=lay h1 2 (err P 2)
 let h3:=lay h2 3 (err P 3)
 let h4:=lay h3 4 (err P 4)
 let h5:=lay h4 5 (.iface 246 (.agg #[.pointer (some ⟨10,98,none⟩)]))
 let h6:=lay h5 6 (err P 5)
 let h7:=lay h6 7 (err P 6)
 let h8:=lay h7 8 (err P 7)
 { w0 with heap:=h8 }
theorem laid_met (os:Os) (args:Array Value):laidMetH Tryz.prog Rows.blocksUptoRow.laid ((laidWorld Tryz.prog os).forCall (fun _ _=>0) ⟨#[],args,[]⟩).memory:=
 laidMetH_of_parts (laidMet_of_run' 8 (by kernel_rfl) (by kernel_rfl)) (by kernel_rfl)
theorem refs (os:Os) (args:Array Value):((laidWorld Tryz.prog os).forCall (fun _ _=>0) ⟨#[],args,[]⟩).variablesRefB Tryz.prog=true:=by kernel_rfl
theorem rows (os:Os) (args:Array Value):(((laidWorld Tryz.prog os).forCall (fun _ _=>0) ⟨#[],args,[]⟩).heap.toList.drop Tryz.prog.globals.size).take ((begin Tryz.prog (fun _ _=>0) default).world.heap.size - Tryz.prog.globals.size)=
     (begin Tryz.prog (fun _ _=>0) default).world.heap.toList.drop Tryz.prog.globals.size:=by kernel_rfl
end Go.Proofs.YtknjjjenklfeoaaGreatDoor.Wit
namespace Go.Proofs.YtknjjjenklfeoaaGreatDoor.Torn
open Go.ChangeShapes Go.WideShapes Go.ChangeAt Go.RowKit
theorem reads (os:Os) {H:Type} (enc:TypeId × Value→H):
   ∃ ds,DataW.whole enc Tryz.prog ((Wit.laidWorld Tryz.prog os).forCall (fun _ _=>0) ⟨#[],#[.slice none 0 0,.slice none 0 0,.agg #[.int .i64 0,.string .empty],.int .i64 0,.int .i64 0,.slice none 0 0],[]⟩).memory Tryz.f9.params.toList Rows.tornSpec.vars false #[Value.slice none 0 0,Value.slice none 0 0,Value.agg #[.int .i64 0,.string .empty],Value.int .i64 0,Value.int .i64 0,Value.slice none 0 0].toList 8=some (ds,[],[])∧Rows.uptoSmall H (ds++[])=true:=by
 exact ⟨[.nil,.nil,.agg [.lit (.int .i64 0),.lit (.string [])],.lit (.int .i64 0),.lit (.int .i64 0),.nil],by kernel_rfl,by kernel_rfl⟩
theorem liftedUpto (os:Os) (started:os.Started) (H:Type) (enc:TypeId × Value→H) (F:Stop.Interp):
   ReturnsInHanded {} Tryz.checked os 9 .any ((Rows.OpenSpec.upto Rows.tornSpec).preRow enc Tryz.prog Tryz.f9 Rows.tornUptoRow.domain false Rows.tornUptoRow.laid) (((Rows.OpenSpec.upto Rows.tornSpec).at F).post enc Tryz.prog Tryz.f9 false true false false):=by
 obtain ⟨ds,hr,hsm⟩:=reads os enc
 refine returnsInHanded_of_row (C:=Tryz.checked) (s:=Rows.OpenSpec.upto Rows.tornSpec) Wit.own started (by kernel_rfl) Tryz.func9
   (witness_row_atRef (enc:=enc) (C:=Tryz.checked) false (Wit.laidWorld Tryz.prog os) #[.slice none 0 0,.slice none 0 0,.agg #[.int .i64 0,.string .empty],.int .i64 0,.int .i64 0,.slice none 0 0] rfl (Wit.refs os _) (Wit.rows os _) (by kernel_rfl)
     (OpenSpec.preRow_of_cond 8 hr (by kernel_rfl) (fun k hk=>by cases hk;exact hsm) (by kernel_rfl) (Wit.laid_met os _))) ?_
 intro W base args ds gs before hval hW _ hcond _ hlaid _ _
 exact contract H enc W base args ds gs before hval hW (hcond _ rfl) (glob_of_laid hlaid)
theorem saidUpto:Rows.TornUptoSaid:=
 OpenClaim.holds_of_cond 9 Tryz.f9 rfl rfl rfl rfl rfl rfl rfl ⟨rfl,rfl,rfl,rfl,rfl⟩ rfl rfl rfl rfl rfl (by kernel_rfl) Tryz.func9 (by kernel_rfl)
   (of_decide_eq_true (by kernel_rfl)) (by unfold Func.isWrapper;first | (rw [if_pos (by decide +kernel)];kernel_rfl) | (rw [if_neg (by decide +kernel)];exact ⟨rfl,rfl⟩))
   (fun os started H enc _ F=>by rw [OpenClaim.pre_eq_preRow];exact liftedUpto os started H enc F)
theorem wants:(Tryz.f9.params.all fun t=> !(Tryz.prog.wantsStandIn t))=true:=by kernel_rfl
theorem plain (f:FuncId) (fn:Func) (hf:Tryz.pinned.checked.prog.funcNamed Rows.tornUptoRow.func=some f) (hfn:Tryz.pinned.checked.prog.funcs[f]? = some fn):
   true=Tryz.pinned.checked.prog.looks []∧ ∀ (j:Nat) t,fn.params[j]? = some t→Tryz.pinned.checked.prog.wantsStandIn t=false:=by
 obtain rfl:f=9:=Option.some.inj ((show Tryz.prog.funcNamed Rows.tornUptoRow.func=some 9 by kernel_rfl).symm.trans hf) |>.symm
 obtain rfl:fn=Tryz.f9:=(Option.some.inj (Tryz.func9.symm.trans hfn)).symm
 refine ⟨by kernel_rfl,fun j t ht=> ?_⟩
 have h:=Array.all_eq_true'.1 wants t (Array.mem_of_getElem? ht)
 have h':(!(Tryz.prog.wantsStandIn t))=true:=h
 have h2:Tryz.prog.wantsStandIn t=false:=by simpa using h'
 exact h2
theorem cardUpto:Rows.TornUptoCardSaid:=
 Claim7.holds_tied_plain_at .later [] _ _ _ _ saidUpto (fun _ h=>by cases h) (by kernel_rfl) (fun _ h=>by cases h) tornUpto_row_tie rfl ⟨rfl,rfl⟩ (by kernel_rfl) rfl plain (by kernel_rfl)
end Go.Proofs.YtknjjjenklfeoaaGreatDoor.Torn
namespace Go.Proofs.YtknjjjenklfeoaaGreatDoor
theorem torn_upto_card:Rows.TornUptoCardSaid:=Torn.cardUpto
end Go.Proofs.YtknjjjenklfeoaaGreatDoor
