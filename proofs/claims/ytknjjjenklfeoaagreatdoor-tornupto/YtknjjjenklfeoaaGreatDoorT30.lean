import Derived.Test.YtknjjjenklfeoaaGreatDoorT29
import Derived.Test.YtknjjjenklfeoaaGreatDoorT25
set_option maxHeartbeats 8000000
set_option maxRecDepth 100000
namespace Go.Proofs.YtknjjjenklfeoaaGreatDoor
structure SpotN where
 table:Nat
 index:Nat
 number:Nat
def spFrom (C:List Clus) (t:Nat):Nat→Nat→List SpotN
 | 0,_=>[]
 | m+1,k=>(if nm C t k=0 then [] else [⟨t,k,nm C t k⟩])++spFrom C t m (k+1)
def toldFrom (C:List Clus) (t:Nat):Nat→Nat→List SpotN
 | 0,_=>[]
 | m+1,i=>(if nm C t i=0 then [] else ⟨t,i,nm C t i⟩ :: spFrom C (nm C t i%32768) 32 0)++toldFrom C t m (i+1)
def tellSp (R:FileR) (first:Nat) (s:SpotN):Bool × FileR:=
 if s.table=first then (if 2≤s.index then (false,{ R with bad:=s.table }) else tell R (s.number%32768) 2 s.table) else tell R (s.number%32768) 3 s.table
def foldT (first:Nat):List SpotN→FileR→Bool × FileR
 | [],R=>(true,R)
 | s :: r,R=>if (tellSp R first s).1 then foldT first r (tellSp R first s).2 else (false,(tellSp R first s).2)
theorem foldT_app (first:Nat): ∀ (a b:List SpotN) (R:FileR),foldT first (a++b) R=if (foldT first a R).1 then foldT first b (foldT first a R).2 else (false,(foldT first a R).2)
 | [],b,R=>rfl
 | s :: a,b,R=>by
   rw [List.cons_append,foldT,foldT]
   by_cases h:(tellSp R first s).1=true
   · rw [if_pos h,if_pos h,foldT_app first a b]
   · rw [if_neg h,if_neg h];rfl
theorem foldT_snoc (first:Nat) (a:List SpotN) (s:SpotN) (R:FileR) (h:(foldT first a R).1=true):foldT first (a++[s]) R=tellSp (foldT first a R).2 first s:=by
 rw [foldT_app,if_pos h,foldT]
 by_cases h2:(tellSp (foldT first a R).2 first s).1=true
 · rw [if_pos h2,foldT];exact Prod.ext h2.symm rfl
 · rw [if_neg h2];exact Prod.ext (by simpa using h2) rfl
theorem tellSp_L (R:FileR) (first:Nat) (s:SpotN):(tellSp R first s).2.L=R.L:=by
 unfold tellSp
 split
 · split
   · rfl
   · exact tell_L _ _ _ _
 · exact tell_L _ _ _ _
theorem tellSp_told (R:FileR) (first:Nat) (s:SpotN):(tellSp R first s).2.told.length=R.told.length:=by
 unfold tellSp
 split
 · split
   · rfl
   · exact tell_told _ _ _ _
 · exact tell_told _ _ _ _
theorem foldT_L (first:Nat): ∀ (a:List SpotN) (R:FileR),(foldT first a R).2.L=R.L
 | [],R=>rfl
 | s :: a,R=>by
   rw [foldT]
   split
   · rw [foldT_L first a,tellSp_L]
   · exact tellSp_L _ _ _
theorem foldT_told (first:Nat): ∀ (a:List SpotN) (R:FileR),(foldT first a R).2.told.length=R.told.length
 | [],R=>rfl
 | s :: a,R=>by
   rw [foldT]
   split
   · rw [foldT_told first a,tellSp_told]
   · exact tellSp_told _ _ _
theorem tellSp_ok {R:FileR} {first:Nat} {s:SpotN} (h:(tellSp R first s).1=true):6≤s.number%32768∧s.number%32768<R.L.length:=by
 unfold tellSp at h
 split at h
 · split at h
   · cases h
   · exact tell_ok h
 · exact tell_ok h
theorem tell_bad {R:FileR} {n kind at':Nat} (h:(tell R n kind at').1=false):(tell R n kind at').2.bad=(at':Int):=by
 unfold tell at h ⊢
 split at h
 · rename_i h';rw [if_pos h']
 · cases h
theorem tellSp_bad {R:FileR} {first:Nat} {s:SpotN} (h:(tellSp R first s).1=false):(tellSp R first s).2.bad=(s.table:Int):=by
 unfold tellSp at h ⊢
 by_cases e:s.table=first
 · rw [if_pos e] at h ⊢
   by_cases e2:2≤s.index
   · rw [if_pos e2]
   · rw [if_neg e2] at h ⊢;exact tell_bad h
 · rw [if_neg e] at h ⊢;exact tell_bad h
def treeP (f at':Nat) (R:FileR):Bool × FileR:=if (tell R f 1 at').1 then foldT f (toldFrom R.L f 32 0) (tell R f 1 at').2 else (false,(tell R f 1 at').2)
def foldF:List Nat→Nat→FileR→Bool × FileR
 | [],_,R=>(true,R)
 | f :: r,a,R=>if (treeP f a R).1 then foldF r 5 (treeP f a R).2 else (false,(treeP f a R).2)
theorem foldF_snoc (x:Nat): ∀ (pre:List Nat) (a:Nat) (R:FileR),(foldF pre a R).1=true→foldF (pre++[x]) a R=treeP x (if pre.length=0 then a else 5) (foldF pre a R).2
 | [],a,R,_=>by
   show (if (treeP x a R).1 then (true,(treeP x a R).2) else (false,(treeP x a R).2))=treeP x a R
   by_cases h:(treeP x a R).1=true
   · rw [if_pos h];exact Prod.ext h.symm rfl
   · rw [if_neg h];exact Prod.ext (by simpa using h) rfl
 | f :: pre,a,R,h=>by
   rw [List.cons_append,foldF]
   rw [foldF] at h ⊢
   by_cases h2:(treeP f a R).1=true
   · rw [if_pos h2] at h ⊢
     rw [if_pos h2,foldF_snoc x pre 5 _ h]
     simp
   · rw [if_neg h2] at h;cases h
theorem foldF_pre: ∀ (pre r:List Nat) (a:Nat) (R:FileR),(foldF pre a R).1=false→foldF (pre++r) a R=foldF pre a R
 | [],r,a,R,h=>by cases h
 | f :: pre,r,a,R,h=>by
   rw [List.cons_append,foldF,foldF]
   rw [foldF] at h
   by_cases h2:(treeP f a R).1=true
   · rw [if_pos h2] at h ⊢
     rw [if_pos h2,foldF_pre pre r 5 _ h]
   · rw [if_neg h2,if_neg h2]
theorem treeP_L (f a:Nat) (R:FileR):(treeP f a R).2.L=R.L:=by
 unfold treeP
 split
 · rw [foldT_L,tell_L]
 · exact tell_L _ _ _ _
theorem treeP_told (f a:Nat) (R:FileR):(treeP f a R).2.told.length=R.told.length:=by
 unfold treeP
 split
 · rw [foldT_told,tell_told]
 · exact tell_told _ _ _ _
theorem foldF_L: ∀ (fs:List Nat) (a:Nat) (R:FileR),(foldF fs a R).2.L=R.L
 | [],_,R=>rfl
 | f :: fs,a,R=>by
   rw [foldF]
   split
   · rw [foldF_L fs,treeP_L]
   · exact treeP_L _ _ _
theorem treeIn_fold (C:List Clus) (first t:Nat) (hne:t≠first): ∀ (m k:Nat) (R:FileR),R.L=C→foldT first (spFrom C t m k) R=treeIn t m k R
 | 0,_,_,_=>rfl
 | m+1,k,R,h=>by
   rw [spFrom,treeIn,h]
   by_cases h0:num (cl C t) (2*k)=0
   · rw [if_pos h0,if_pos h0,List.nil_append];exact treeIn_fold C first t hne m (k+1) R h
   · rw [if_neg h0,if_neg h0,List.singleton_append,foldT]
     have e:tellSp R first ⟨t,k,nm C t k⟩=tell R (num (cl C t) (2*k)%32768) 3 t:=by unfold tellSp;rw [if_neg hne]
     rw [e]
     by_cases h2:(tell R (num (cl C t) (2*k)%32768) 3 t).1=true
     · rw [if_pos h2,if_pos h2];exact treeIn_fold C first t hne m (k+1) _ (by rw [tell_L];exact h)
     · rw [if_neg h2,if_neg h2]
theorem tell_one {R:FileR} {n kind at' f:Nat} (h:(tell R n kind at').1=true) (hk:kind≠1) (h1:R.told.getD f 0=1):n≠f∧(tell R n kind at').2.told.getD f 0=1:=by
 unfold tell at h ⊢
 split at h
 · cases h
 · rename_i h'
   rw [if_neg h']
   have hne:n≠f:=by
     rintro rfl
     apply h'
     unfold noTell
     rw [h1]
     have:(1 != kind)=true:=by simp;omega
     simp [this]
   refine ⟨hne,?_⟩
   show (R.told.set n kind).getD f 0=1
   rw [List.getD_eq_getElem?_getD,List.getElem?_set_ne hne,← List.getD_eq_getElem?_getD]
   exact h1
theorem treeIn_one {t f:Nat}: ∀ (m k:Nat) (R:FileR),(treeIn t m k R).1=true→R.told.getD f 0=1→(treeIn t m k R).2.told.getD f 0=1
 | 0,_,_,_,h1=>h1
 | m+1,k,R,h,h1=>by
   rw [treeIn] at h ⊢
   split at h
   · rename_i h0;rw [if_pos h0];exact treeIn_one m (k+1) R h h1
   · split at h
     · rename_i h0 ht
       rw [if_neg h0,if_pos ht]
       exact treeIn_one m (k+1) _ h (tell_one ht (by decide) h1).2
     · cases h
theorem treeOut_fold (C:List Clus) (t:Nat): ∀ (m i:Nat) (R:FileR),R.L=C→R.told.getD t 0=1→foldT t (toldFrom C t m i) R=treeOut t m i R
 | 0,_,_,_,_=>rfl
 | m+1,i,R,h,h1=>by
   rw [toldFrom,treeOut,h]
   by_cases h0:num (cl C t) (2*i)=0
   · rw [if_pos h0,if_pos h0,List.nil_append];exact treeOut_fold C t m (i+1) R h h1
   · rw [if_neg h0,if_neg h0,List.cons_append,foldT]
     by_cases hi:1<i
     · have e:tellSp R t ⟨t,i,nm C t i⟩=(false,{ R with bad:=(t:Int) }):=by unfold tellSp;rw [if_pos rfl,if_pos (show 2≤i by omega)]
       rw [e,if_pos hi,← h];rfl
     · have e:tellSp R t ⟨t,i,nm C t i⟩=tell R (num (cl C t) (2*i)%32768) 2 t:=by unfold tellSp;rw [if_pos rfl,if_neg (show ¬ 2≤i by omega)]
       rw [e,if_neg hi]
       by_cases h2:(tell R (num (cl C t) (2*i)%32768) 2 t).1=true
       · obtain ⟨hne,h3⟩:=tell_one h2 (by decide) h1
         have hL:(tell R (num (cl C t) (2*i)%32768) 2 t).2.L=C:=by rw [tell_L];exact h
         rw [if_pos h2,if_pos h2,foldT_app,treeIn_fold C t _ hne 32 0 _ hL]
         by_cases h4:(treeIn (num (cl C t) (2*i)%32768) 32 0 (tell R (num (cl C t) (2*i)%32768) 2 t).2).1=true
         · rw [if_pos h4,if_pos h4]
           exact treeOut_fold C t m (i+1) _ (by rw [treeIn_L];exact hL) (treeIn_one 32 0 _ h4 h3)
         · rw [if_neg h4,if_neg h4]
       · rw [if_neg h2,if_neg h2]
theorem tell_first {R:FileR} {n at':Nat} (h:(tell R n 1 at').1=true) (hn:n<R.told.length):(tell R n 1 at').2.told.getD n 0=1:=by
 unfold tell at h ⊢
 split at h
 · cases h
 · rename_i h'
   rw [if_neg h']
   show (R.told.set n 1).getD n 0=1
   rw [getD_setN _ _ _ _ hn,if_pos rfl]
theorem treeP_eq (R:FileR) (r:RootR) (hL:R.L.length≤R.told.length):treeP r.N r.At R=tree R r:=by
 unfold treeP tree
 by_cases h:(tell R r.N 1 r.At).1=true
 · rw [if_pos h,if_pos h]
   exact treeOut_fold R.L r.N 32 0 _ (tell_L _ _ _ _) (tell_first h (by have:=(tell_ok h).2;omega))
 · rw [if_neg h,if_neg h]
theorem tree_roots (R:FileR) (r:RootR):(tree R r).2.roots=R.roots:=by
 unfold tree
 split
 · have key: ∀ m i (R:FileR),(treeOut r.N m i R).2.roots=R.roots:=by
     intro m
     induction m with
     | zero=>intro i R;rfl
     | succ m ih=>
       intro i R
       rw [treeOut]
       split
       · exact ih _ _
       · split
         · rfl
         · split
           · split
             · rw [ih,treeIn_roots,tell_roots]
             · rw [treeIn_roots,tell_roots]
           · exact tell_roots _ _ _ _
   rw [key,tell_roots]
 · exact tell_roots _ _ _ _
theorem foldF_trees (rs:List RootR) (a:Nat): ∀ (m i:Nat) (R:FileR),i+m=rs.length→R.roots=rs→R.L.length≤R.told.length→(∀ j,i≤j→j<rs.length→(rs.getD j ⟨0,0,[]⟩).At=if j=i then a else 5)→
   foldF ((rs.drop i).map (·.N)) a R=treesFrom m i R:=by
 intro m
 induction m generalizing a with
 | zero=>intro i R h hr hl hat;rw [List.drop_of_length_le (by omega)];rfl
 | succ m ih=>
   intro i R h hr hl hat
   have hi:i<rs.length:=by omega
   have hg:rs.getD i ⟨0,0,[]⟩=rs[i]:=by rw [List.getD_eq_getElem?_getD,List.getElem?_eq_getElem hi];rfl
   have hro:rootOf R i=rs[i]:=by unfold rootOf;rw [hr,hg]
   have hat0:=hat i (Nat.le_refl _) hi
   rw [if_pos rfl,hg] at hat0
   rw [List.drop_eq_getElem_cons hi,List.map_cons,foldF,treesFrom,hro]
   have e:=treeP_eq R rs[i] hl
   rw [hat0] at e
   rw [e]
   by_cases h2:(tree R rs[i]).1=true
   · rw [if_pos h2,if_pos h2]
     refine ih 5 (i+1) _ (by omega) (by rw [tree_roots];exact hr) ?_ (fun j h3 h4=> ?_)
     · rw [← treeP_eq R rs[i] hl,treeP_L,treeP_told];exact hl
     · rw [hat j (by omega) h4,if_neg (by omega)]
       split <;> rfl
   · rw [if_neg h2,if_neg h2]
theorem Told.back {L:List Clus} {rs:List RootR} {b:Int} {base:Nat→Nat} {ts:Tells} {R:FileR} (h:Told L rs b base ts R) (ok:OkT L ts) {n kind at':Nat} (hk:kind≠0) (ht:(tell R n kind at').1=true):OkT L (ts++[(n,kind)]):=by
 obtain ⟨h6,hn⟩:=tell_ok ht
 rw [h.hL] at hn
 have hno:noTell R n kind=false:=by
   unfold tell at ht
   split at ht
   · cases ht
   · rename_i h';simpa using h'
 unfold noTell at hno
 rw [Bool.or_eq_false_iff,Bool.or_eq_false_iff] at hno
 have hno:=hno.2.2
 have hkind: ∀ x ∈ ts,x.1=n→x.2=kind∧kind≠1:=by
   intro x hx e
   have h1:=h.told x hx
   have h2:=(ok.lo x hx).2.2
   rw [e] at h1
   rw [h1] at hno
   have h3:(x.2 != 0)=true:=by simpa using h2
   rw [h3,Bool.true_and,Bool.or_eq_false_iff] at hno
   exact ⟨by simpa using hno.1,by simpa using hno.2⟩
 refine ⟨fun x hx=> ?_,fun x hx y hy e=> ?_,fun m=> ?_⟩
 · rcases List.mem_append.1 hx with y | y
   · exact ok.lo x y
   · rw [List.mem_singleton.1 y];exact ⟨h6,hn,hk⟩
 · rcases List.mem_append.1 hx with x1 | x1 <;> rcases List.mem_append.1 hy with y1 | y1
   · exact ok.kind x x1 y y1 e
   · rw [List.mem_singleton.1 y1] at e ⊢;exact (hkind x x1 e).1
   · rw [List.mem_singleton.1 x1] at e ⊢;exact (hkind y y1 e.symm).1.symm
   · rw [List.mem_singleton.1 x1,List.mem_singleton.1 y1]
 · rw [List.count_append]
   by_cases e:(n,kind)=(m,1)
   · rw [e]
     have e1:n=m:=by injection e
     have e2:kind=1:=by injection e
     have:ts.count (m,1)=0:=by
       rw [List.count_eq_zero]
       intro hm
       exact (hkind (m,1) hm e1.symm).2 e2
     rw [this];simp
   · have:=ok.once m
     rw [List.count_singleton]
     have:((n,kind) == (m,1))=false:=by simpa using e
     rw [this]
     simpa using ok.once m
section
variable {L:List Clus} {rs:List RootR} {b:Int} {base:Nat→Nat}
theorem treeIn_back (hLL:L.length≤256) (t:Nat): ∀ (m k:Nat) (ts:Tells) (R:FileR),Told L rs b base ts R→OkT L ts→(treeIn t m k R).1=true→OkT L (ts++inTells L t m k)
 | 0,_,ts,R,_,ok,_=>by rw [inTells,List.append_nil];exact ok
 | m+1,k,ts,R,h,ok,ht=>by
   rw [treeIn,h.hL] at ht
   rw [inTells]
   by_cases h0:num (cl L t) (2*k)=0
   · rw [if_pos h0] at ht ⊢
     rw [List.nil_append];exact treeIn_back hLL t m (k+1) ts R h ok ht
   · rw [if_neg h0] at ht ⊢
     by_cases h2:(tell R (num (cl L t) (2*k)%32768) 3 t).1=true
     · rw [if_pos h2] at ht
       have ok1:=h.back ok (by decide) h2
       obtain ⟨_,h3⟩:=h.step hLL _ 3 t ok1
       rw [← List.append_assoc]
       exact treeIn_back hLL t m (k+1) _ _ h3 ok1 ht
     · rw [if_neg h2] at ht;cases ht
theorem treeOut_back (hLL:L.length≤256) (t:Nat): ∀ (m i:Nat) (ts:Tells) (R:FileR),Told L rs b base ts R→OkT L ts→(treeOut t m i R).1=true→
   OkT L (ts++outTells L t m i)∧(∀ j,i≤j→j<i+m→1<j→num (cl L t) (2*j)=0)∧Told L rs b base (ts++outTells L t m i) (treeOut t m i R).2
 | 0,_,ts,R,h,ok,_=>by rw [outTells,List.append_nil];exact ⟨ok,fun j h1 h2=>by omega,h⟩
 | m+1,i,ts,R,h,ok,ht=>by
   rw [treeOut,h.hL] at ht ⊢
   rw [outTells]
   by_cases h0:num (cl L t) (2*i)=0
   · rw [if_pos h0] at ht ⊢
     rw [List.nil_append,if_pos h0]
     obtain ⟨h1,h2,h3⟩:=treeOut_back hLL t m (i+1) ts R h ok ht
     refine ⟨h1,fun j j1 j2 j3=> ?_,h3⟩
     by_cases e:j=i
     · rw [e];exact h0
     · exact h2 j (by omega) (by omega) j3
   · rw [if_neg h0] at ht ⊢
     rw [if_neg h0]
     by_cases hi:1<i
     · rw [if_pos hi] at ht;cases ht
     · rw [if_neg hi] at ht ⊢
       by_cases h2:(tell R (num (cl L t) (2*i)%32768) 2 t).1=true
       · rw [if_pos h2] at ht ⊢
         have ok1:=h.back ok (by decide) h2
         obtain ⟨_,h3⟩:=h.step hLL _ 2 t ok1
         by_cases h4:(treeIn (num (cl L t) (2*i)%32768) 32 0 (tell R (num (cl L t) (2*i)%32768) 2 t).2).1=true
         · rw [if_pos h4] at ht ⊢
           have ok2:=treeIn_back hLL _ 32 0 _ _ h3 ok1 h4
           obtain ⟨_,h5⟩:=treeIn_told hLL _ 32 0 _ _ h3 ok2
           obtain ⟨h6,h7,h8⟩:=treeOut_back hLL t m (i+1) _ _ h5 ok2 ht
           have e:ts++((num (cl L t) (2*i)%32768,2) :: inTells L (num (cl L t) (2*i)%32768) 32 0++outTells L t m (i+1))=((ts++[(num (cl L t) (2*i)%32768,2)])++inTells L (num (cl L t) (2*i)%32768) 32 0)++outTells L t m (i+1):=by simp
           rw [e]
           exact ⟨h6,fun j j1 j2 j3=>h7 j (by omega) (by omega) j3,h8⟩
         · rw [if_neg h4] at ht;cases ht
       · rw [if_neg h2] at ht;cases ht
theorem tree_back (hLL:L.length≤256) (r:RootR) (ts:Tells) (R:FileR) (h:Told L rs b base ts R) (ok:OkT L ts) (ht:(tree R r).1=true):
   OkT L (ts++treeTells L r.N)∧(∀ j,1<j→j<32→num (cl L r.N) (2*j)=0)∧Told L rs b base (ts++treeTells L r.N) (tree R r).2:=by
 unfold tree at ht ⊢
 by_cases h1:(tell R r.N 1 r.At).1=true
 · rw [if_pos h1] at ht ⊢
   have ok1:=h.back ok (by decide) h1
   obtain ⟨_,h3⟩:=h.step hLL _ 1 r.At ok1
   obtain ⟨h4,h5,h6⟩:=treeOut_back hLL r.N 32 0 _ _ h3 ok1 ht
   have e:ts++treeTells L r.N=(ts++[(r.N,1)])++outTells L r.N 32 0:=by rw [treeTells];simp
   rw [e]
   exact ⟨h4,fun j j1 j2=>h5 j (by omega) (by omega) j1,h6⟩
 · rw [if_neg h1] at ht;cases ht
theorem treesFrom_back (hLL:L.length≤256): ∀ (m i:Nat) (ts:Tells) (R:FileR),i+m≤rs.length→Told L rs b base ts R→OkT L ts→(treesFrom m i R).1=true→
   OkT L (ts++allTells L rs m i)∧(∀ j,i≤j→j<i+m→ ∀ k,1<k→k<32→num (cl L (rs.getD j ⟨0,0,[]⟩).N) (2*k)=0)∧Told L rs b base (ts++allTells L rs m i) (treesFrom m i R).2
 | 0,_,ts,R,_,h,ok,_=>by rw [allTells,List.append_nil];exact ⟨ok,fun j h1 h2=>by omega,h⟩
 | m+1,i,ts,R,hm,h,ok,ht=>by
   have hr:rootOf R i=rs.getD i ⟨0,0,[]⟩:=by unfold rootOf;rw [h.hR]
   rw [treesFrom,hr] at ht ⊢
   by_cases h1:(tree R (rs.getD i ⟨0,0,[]⟩)).1=true
   · rw [if_pos h1] at ht ⊢
     obtain ⟨h2,h3,h4⟩:=tree_back hLL _ ts R h ok h1
     obtain ⟨h5,h6,h7⟩:=treesFrom_back hLL m (i+1) _ _ (by omega) h4 h2 ht
     rw [allTells,← List.append_assoc]
     refine ⟨h5,fun j j1 j2=> ?_,h7⟩
     by_cases e:j=i
     · rw [e];exact h3
     · exact h6 j (by omega) (by omega)
   · rw [if_neg h1] at ht;cases ht
end
theorem restZero_get {c:Clus}: ∀ m i,restZero c m i=true→ ∀ j,i≤j→j<i+m→byteAt c j=0
 | 0,_,_,j,h1,h2=>by omega
 | m+1,i,h,j,h1,h2=>by
   rw [restZero] at h
   split at h
   · rename_i h0
     by_cases e:j=i
     · rw [e];exact h0
     · exact restZero_get m (i+1) h j (by omega) (by omega)
   · cases h
theorem num_div {c:Clus} (i:Nat):num c i / 256=byteAt c i∧num c i%256=byteAt c (i+1):=by
 have h1:=byteAt_lt c i
 have h2:=byteAt_lt c (i+1)
 unfold num
 omega
def headB (c:Clus):Bool:=decide (headBytes (num c 4) (num c 6)=c)
theorem headB_iff {c:Clus} (hc:c.length=64):headB c=(decide (c.take 4=velm) && restZero c 56 8):=by
 have l4:=num_lt c 4
 have l6:=num_lt c 6
 unfold headB
 rw [Bool.eq_iff_iff,decide_eq_true_iff,Bool.and_eq_true,decide_eq_true_iff]
 constructor
 · intro h
   constructor
   · have:=head_velm (a:=num c 4) (b:=num c 6)
     rw [h] at this
     exact this
   · have:=head_rest l4 l6
     rw [h] at this
     exact this
 · rintro ⟨h1,h2⟩
   have hl:(headBytes (num c 4) (num c 6)).length=64:=headBytes_length _ _
   refine bytes_ext (by rw [hl,hc]) fun m hm=> ?_
   rw [hl] at hm
   rw [byteAt_head l4 l6]
   have d4:=num_div (c:=c) 4
   have d6:=num_div (c:=c) 6
   by_cases e6:m=6
   · rw [if_pos e6,e6];exact d6.1
   rw [if_neg e6]
   by_cases e7:m=7
   · rw [if_pos e7,e7];exact d6.2
   rw [if_neg e7]
   by_cases e4:m=4
   · rw [if_pos e4,e4];exact d4.1
   rw [if_neg e4]
   by_cases e5:m=5
   · rw [if_pos e5,e5];exact d4.2
   rw [if_neg e5]
   by_cases h8:8≤m
   · rw [restZero_get 56 8 h2 m h8 (by omega)]
     exact head0_rest ⟨m,hm⟩ h8
   · have h3:byteAt c m=byteAt (c.take 4) m:=by
       unfold byteAt
       rw [List.getD_eq_getElem?_getD,List.getD_eq_getElem?_getD,List.getElem?_take_of_lt (by omega)]
     rw [h3,h1]
     unfold byteAt head0
     rw [List.getD_eq_getElem?_getD,List.getD_eq_getElem?_getD,List.getElem?_append_left (by simp [velm];omega)]
theorem nameFrom_back (c:Clus) (a:Nat): ∀ m i over acc s,nameFrom c a m i over acc=some s→
   ∃ r,s=acc++r∧(over=true→r=[])∧r.length≤m∧(∀ b ∈ r,b≠0)∧ ∀ j,j<m→c.getD (a+(i+j)) 0=r.getD j 0
 | 0,i,over,acc,s,h=>by
   rw [nameFrom] at h
   injection h with h
   exact ⟨[],by simp [h],fun _=>rfl,Nat.le_refl _,by simp,fun j hj=>by omega⟩
 | m+1,i,over,acc,s,h=>by
   rw [nameFrom] at h
   by_cases h0:byteAt c (a+i)=0
   · rw [if_pos h0] at h
     obtain ⟨r,h1,h2,h3,h4,h5⟩:=nameFrom_back c a m (i+1) true acc s h
     have h6:=h2 rfl
     subst h6
     refine ⟨[],h1,fun _=>rfl,Nat.zero_le _,by simp,fun j hj=> ?_⟩
     cases j with
     | zero=>
       unfold byteAt at h0
       rw [Nat.add_zero]
       exact UInt8.toNat_inj.1 (by simpa using h0)
     | succ j=>
       have:=h5 j (by omega)
       rw [show a+(i+1+j)=a+(i+(j+1)) by omega] at this
       rw [this]
       rfl
   · rw [if_neg h0] at h
     cases over with
     | true=>rw [if_pos rfl] at h;cases h
     | false=>
       rw [if_neg (by decide)] at h
       obtain ⟨r,h1,h2,h3,h4,h5⟩:=nameFrom_back c a m (i+1) false _ s h
       refine ⟨c.getD (a+i) 0 :: r,by rw [h1];simp,fun e=>(by cases e),by simp;omega,fun b hb=> ?_,fun j hj=> ?_⟩
       · rcases List.mem_cons.1 hb with rfl | hb
         · intro e
           apply h0
           unfold byteAt
           rw [e];rfl
         · exact h4 b hb
       · cases j with
         | zero=>rw [Nat.add_zero];rfl
         | succ j=>
           have:=h5 j (by omega)
           rw [show a+(i+1+j)=a+(i+(j+1)) by omega] at this
           rw [this];rfl
theorem nameOf_back {c:Clus} {a:Nat} (h:(nameOf c a).2=true):isNameB (nameOf c a).1=true∧ ∀ j,j<12→c.getD (a+j) 0=(nameOf c a).1.getD j 0:=by
 unfold nameOf at h ⊢
 cases hn:nameFrom c a 12 0 false [] with
 | none=>rw [hn] at h;cases h
 | some s=>
   rw [hn] at h
   obtain ⟨r,h1,_,_,_,h5⟩:=nameFrom_back c a 12 0 false [] s hn
   rw [List.nil_append] at h1
   subst h1
   refine ⟨h,fun j hj=> ?_⟩
   have:=h5 j hj
   rw [Nat.zero_add] at this
   exact this
theorem nameIn_back {Q:List RootR} {s:List UInt8}: ∀ m k,nameIn Q s m k=false→ ∀ j,k≤j→j<k+m→(Q.getD j ⟨0,0,[]⟩).name≠s
 | 0,_,_,j,h1,h2=>by omega
 | m+1,k,h,j,h1,h2=>by
   rw [nameIn] at h
   split at h
   · cases h
   · rename_i h0
     by_cases e:j=k
     · rw [e];exact h0
     · exact nameIn_back m (k+1) h j (by omega) (by omega)
theorem entBytes_of {c:Clus} {i:Nat} {s:List UInt8} (hs:s.length≤12) (h1: ∀ j,j<12→c.getD (16*i+2+j) 0=s.getD j 0) (h14:byteAt c (16*i+14)=0) (h15:byteAt c (16*i+15)=0): ∀ j,j<16→byteAt c (16*i+j)=byteAt (entBytes ⟨s,num c (16*i)⟩) j:=by
 intro j hj
 have d:=num_div (c:=c) (16*i)
 rw [byteAt_name _ (num_lt _ _)]
 by_cases e0:j=0
 · rw [if_pos e0,e0];exact d.1.symm
 rw [if_neg e0]
 by_cases e1:j=1
 · rw [if_pos e1,e1];exact d.2.symm
 rw [if_neg e1]
 by_cases e2:j<14
 · have:=h1 (j - 2) (by omega)
   rw [show 16*i+2+(j - 2)=16*i+j by omega] at this
   unfold byteAt
   rw [this]
 · have e3:byteAt s (j - 2)=0:=by
     unfold byteAt
     rw [List.getD_eq_getElem?_getD,List.getElem?_eq_none (by omega)];rfl
   show byteAt c (16*i+j)=byteAt s (j - 2)
   rw [e3]
   have:j=14∨j=15:=by omega
   rcases this with rfl | rfl
   · exact h14
   · exact h15
theorem byteAt_ze (j:Nat):byteAt (entBytes ze) j=0:=by
 rw [byteAt_name _ (by decide)]
 by_cases e0:j=0
 · rw [if_pos e0];rfl
 rw [if_neg e0]
 by_cases e1:j=1
 · rw [if_pos e1];rfl
 rw [if_neg e1];rfl
theorem listFrom_back (c:Clus) (r0:RootR): ∀ m i over (E0:List EntR) Q',i+m=4→(over=false→E0.length=i)→E0.length≤i→EntsOK E0→(∀ k,k<i→ ∀ j,j<16→byteAt c (16*k+j)=byteAt (entBytes (E0.getD k ze)) j)→
   listFrom c m i over (r0 :: E0.map rootE)=(true,Q')→ ∃ E,EntsOK E∧Q'=r0 :: E.map rootE∧ ∀ k,k<4→ ∀ j,j<16→byteAt c (16*k+j)=byteAt (entBytes (E.getD k ze)) j
 | 0,i,over,E0,Q',him,_,_,hE,hb,h=>by
   rw [listFrom] at h
   injection h with _ h
   exact ⟨E0,hE,h.symm,fun k hk=>hb k (by omega)⟩
 | m+1,i,over,E0,Q',him,hov,hle,hE,hb,h=>by
   rw [listFrom] at h
   by_cases h0:num c (16*i)=0
   · rw [if_pos h0] at h
     by_cases hz:restZero c 16 (16*i)=true
     · rw [if_pos hz] at h
       refine listFrom_back c r0 m (i+1) true E0 Q' (by omega) (fun e=>by cases e) (by omega) hE (fun k hk j hj=> ?_) h
       by_cases e:k=i
       · subst e
         rw [restZero_get 16 (16*k) hz (16*k+j) (by omega) (by omega),List.getD_eq_getElem?_getD,List.getElem?_eq_none hle]
         exact (byteAt_ze j).symm
       · exact hb k (by omega) j hj
     · rw [if_neg hz] at h;cases h
   · rw [if_neg h0] at h
     by_cases hbad:entryBad c i over=true
     · rw [if_pos hbad] at h;cases h
     · rw [if_neg hbad] at h
       have hbad:entryBad c i over=false:=by simpa using hbad
       unfold entryBad at hbad
       rw [Bool.or_eq_false_iff,Bool.or_eq_false_iff,Bool.or_eq_false_iff] at hbad
       obtain ⟨ho,hn,h14,h15⟩:=hbad
       have hn:(nameOf c (16*i+2)).2=true:=by simpa using hn
       obtain ⟨n1,n2⟩:=nameOf_back hn
       have hl:=hov ho
       by_cases hin:nameIn (r0 :: E0.map rootE) (nameOf c (16*i+2)).1 ((r0 :: E0.map rootE).length - 1) 1=true
       · rw [if_pos hin] at h;cases h
       · rw [if_neg hin] at h
         have hin:nameIn (r0 :: E0.map rootE) (nameOf c (16*i+2)).1 ((r0 :: E0.map rootE).length - 1) 1=false:=by simpa using hin
         have hnew:=nameIn_back _ _ hin
         generalize nameOf c (16*i+2)=nn at*
         have e:(r0 :: E0.map rootE)++[⟨num c (16*i),5,nn.1⟩]=r0 :: (E0++[(⟨nn.1,num c (16*i)⟩:EntR)]).map rootE:=by simp [rootE]
         rw [e] at h
         refine listFrom_back c r0 m (i+1) over _ Q' (by omega) (fun _=>by simp;omega) (by simp;omega) ⟨by simp;omega,?_,?_⟩ ?_ h
         · intro x hx
           rcases List.mem_append.1 hx with y | y
           · exact hE.all x y
           · rw [List.mem_singleton.1 y];exact ⟨n1,h0,num_lt _ _⟩
         · rw [List.map_append,List.nodup_append]
           refine ⟨hE.nodup,by simp,fun a ha b hb'=> ?_⟩
           simp only [List.map_cons,List.map_nil,List.mem_singleton] at hb'
           rw [hb']
           obtain ⟨x,hx,rfl⟩:=List.mem_map.1 ha
           obtain ⟨q,hq,hqe⟩:=List.getElem_of_mem hx
           have:=hnew (q+1) (by omega) (by simp;omega)
           rw [List.getD_cons_succ,List.getD_eq_getElem?_getD,List.getElem?_map,List.getElem?_eq_getElem hq] at this
           rw [← hqe]
           exact this
         · intro k hk j hj
           by_cases e:k=i
           · subst e
             rw [List.getD_eq_getElem?_getD,List.getElem?_append_right (by omega),show k - E0.length=0 by omega]
             exact entBytes_of (name_le n1).2 n2 (by simpa using h14) (by simpa using h15) j hj
           · rw [List.getD_eq_getElem?_getD,List.getElem?_append_left (by omega),← List.getD_eq_getElem?_getD]
             exact hb k (by omega) j hj
theorem EntsOK.nil:EntsOK []:=⟨by simp,by simp,by simp⟩
theorem EntsOK.bytes_of {c:Clus} {E:List EntR} (h:EntsOK E) (hc:c.length=64) (hb: ∀ k,k<4→ ∀ j,j<16→byteAt c (16*k+j)=byteAt (entBytes (E.getD k ze)) j):c=listBytes E:=by
 refine bytes_ext (by rw [h.length,hc]) fun i hi=> ?_
 have h1:=hb (i / 16) (by omega) (i%16) (by omega)
 rw [show 16*(i / 16)+i%16=i by omega] at h1
 have h2:=h.get (i / 16) (by omega) (i%16) (by omega)
 rw [show 16*(i / 16)+i%16=i by omega] at h2
 rw [h1]
 unfold byteAt
 rw [h2]
 by_cases hk:i / 16<E.length
 · rw [pad4_get _ hk]
 · rw [pad4_past _ (by omega),List.getD_eq_getElem?_getD (l:=E),List.getElem?_eq_none (by omega)];rfl
theorem listFrom_given {c:Clus} (hc:c.length=64) {r0:RootR} (h:(listFrom c 4 0 false [r0]).1=true): ∃ E,EntsOK E∧c=listBytes E∧(listFrom c 4 0 false [r0]).2=r0 :: E.map rootE:=by
 obtain ⟨E,h1,h2,h3⟩:=listFrom_back c r0 4 0 false [] (listFrom c 4 0 false [r0]).2 rfl (fun _=>rfl) (Nat.le_refl _) EntsOK.nil (fun k hk=>by omega) (Prod.ext h rfl)
 exact ⟨E,h1,h1.bytes_of hc h3,h2⟩
theorem findFrom_first (E:List EntR) (s:ByteArray) (i:Nat): ∀ m k,findFrom E s m k=(i:Int)→k≤i∧i<k+m∧txt (E.getD i ze).name=s∧ ∀ j,k≤j→j<i→txt (E.getD j ze).name≠s
 | 0,k,h=>by rw [findFrom] at h;omega
 | m+1,k,h=>by
   rw [findFrom] at h
   split at h
   · rename_i h0
     have:k=i:=by omega
     subst this
     exact ⟨Nat.le_refl _,by omega,h0,fun j h1 h2=>by omega⟩
   · rename_i h0
     obtain ⟨h1,h2,h3,h4⟩:=findFrom_first E s i m (k+1) h
     refine ⟨by omega,by omega,h3,fun j h5 h6=> ?_⟩
     by_cases e:j=k
     · rw [e];exact h0
     · exact h4 j (by omega) h6
theorem findFrom_at (E:List EntR) (s:ByteArray) (i:Nat) (h:txt (E.getD i ze).name=s): ∀ m k,k≤i→i<k+m→(∀ j,k≤j→j<i→txt (E.getD j ze).name≠s)→findFrom E s m k=(i:Int)
 | 0,k,h1,h2,_=>by omega
 | m+1,k,h1,h2,h3=>by
   rw [findFrom]
   by_cases e:k=i
   · subst e;rw [if_pos h]
   · rw [if_neg (h3 k (by omega) (by omega))]
     exact findFrom_at E s i h m (k+1) (by omega) (by omega) (fun j h4 h5=>h3 j (by omega) h5)
theorem lenFrom_pos (E:List EntR): ∀ m k,∀ j,k≤j→j<lenFrom E m k→(E.getD j ze).first≠0
 | 0,k,j,h1,h2=>by rw [lenFrom] at h2;omega
 | m+1,k,j,h1,h2=>by
   rw [lenFrom] at h2
   split at h2
   · omega
   · rename_i h0
     by_cases e:j=k
     · rw [e];exact h0
     · exact lenFrom_pos E m (k+1) j (by omega) h2
theorem listGood_iff {c:Clus} (hc:c.length=64):listGood c=true↔ ∃ E,EntsOK E∧c=listBytes E:=by
 constructor
 · intro h
   unfold listGood at h
   rw [Bool.and_eq_true,Bool.and_eq_true,decide_eq_true_iff,allFrom_iff,allFrom_iff] at h
   obtain ⟨h1,h2,h3⟩:=h
   have hel:=entsOf_length c
   have h4:=lenOf_le (entsOf c)
   have hlt: ∀ k,((entsOf c).getD k ze).first<65536:=by
     intro k
     rw [List.getD_eq_getElem?_getD]
     by_cases hk:k<4
     · unfold entsOf
       rw [List.getElem?_map,List.getElem?_range hk]
       exact num_lt _ _
     · rw [List.getElem?_eq_none (by omega)];decide
   have hpos:=lenFrom_pos (entsOf c) 4 0
   change ∀ j,0≤j→j<lenOf (entsOf c)→_ at hpos
   generalize entsOf c=E at*
   generalize hn:lenOf E=n at*
   have hE:E=pad4 (E.take n):=by
     unfold pad4
     rw [List.length_take_of_le (by omega)]
     apply List.ext_getElem?
     intro j
     by_cases hj:j<n
     · rw [List.getElem?_append_left (by simp;omega),List.getElem?_take_of_lt hj]
     · rw [List.getElem?_append_right (by simp;omega),List.length_take_of_le (by omega),List.getElem?_replicate]
       by_cases hj4:j<4
       · rw [if_pos (by omega),List.getElem?_eq_getElem (by omega)]
         have:=h3 j (by omega) (by omega)
         unfold emptyB at this
         rw [List.getD_eq_getElem?_getD,List.getElem?_eq_getElem (by omega)] at this
         simp only [Option.getD_some,Bool.and_eq_true,decide_eq_true_iff] at this
         have e1:=txt_inj this.1
         congr 1
         have e2:=this.2
         show E[j]=ze
         generalize E[j]=p at*
         cases p
         simp only at e1 e2
         subst e1 e2
         rfl
       · rw [if_neg (by omega),List.getElem?_eq_none (by omega)]
   have hok:EntsOK (E.take n):=by
     have hget: ∀ j (hj:j<(E.take n).length),(E.take n)[j]=E.getD j ze:=by
       intro j hj
       rw [List.getElem_take,List.getD_eq_getElem?_getD,List.getElem?_eq_getElem];rfl
     refine ⟨by simp;omega,fun e he=> ?_,?_⟩
     · obtain ⟨j,hj,rfl⟩:=List.getElem_of_mem he
       rw [hget j hj]
       have hjn:j<n:=by simp at hj;omega
       have:=h2 j (by omega) (by omega)
       unfold entGood at this
       rw [Bool.and_eq_true] at this
       exact ⟨this.1,hpos j (by omega) hjn,hlt j⟩
     · rw [List.nodup_iff_pairwise_ne,List.pairwise_map,List.pairwise_iff_getElem]
       intro i j hi hj hij e
       rw [hget i hi,hget j hj] at e
       have hjn:j<n:=by simp at hj;omega
       have:=h2 j (by omega) (by omega)
       unfold entGood at this
       rw [Bool.and_eq_true,decide_eq_true_iff] at this
       exact (findFrom_first E _ j _ _ this.2).2.2.2 i (by omega) hij (by rw [e])
   refine ⟨E.take n,hok,?_⟩
   rw [← hok.clus,← hE]
   exact h1.symm
 · rintro ⟨E,hE,rfl⟩
   unfold listGood
   rw [hE.entsOf,hE.clus,hE.lenOf,decide_eq_true rfl,Bool.true_and,Bool.and_eq_true,allFrom_iff,allFrom_iff]
   have hl:=hE.len
   refine ⟨fun j _ hj=> ?_,fun j hj _=> ?_⟩
   · rw [Nat.zero_add] at hj
     have hg: ∀ i,i<E.length→(pad4 E).getD i ze=E.getD i ze:=fun i hi=>pad4_get i hi
     have hm:E.getD j ze ∈ E:=by
       rw [List.getD_eq_getElem?_getD,List.getElem?_eq_getElem hj]
       exact List.getElem_mem hj
     unfold entGood
     rw [Bool.and_eq_true,decide_eq_true_iff,hg j hj]
     refine ⟨(hE.all _ hm).name,?_⟩
     unfold findE
     rw [hE.lenOf]
     refine findFrom_at _ _ j (by rw [hg j hj]) _ _ (Nat.zero_le _) (by omega) (fun i _ hij e=> ?_)
     rw [hg i (by omega)] at e
     have hnd:=hE.nodup
     rw [List.nodup_iff_pairwise_ne,List.pairwise_map,List.pairwise_iff_getElem] at hnd
     refine hnd i j (by omega) hj hij ?_
     have:=txt_inj e
     rw [List.getD_eq_getElem?_getD,List.getD_eq_getElem?_getD,List.getElem?_eq_getElem hj,List.getElem?_eq_getElem (by omega)] at this
     exact this
   · unfold emptyB
     rw [pad4_past j hj]
     rfl
theorem listGood_eq {c:Clus} (hc:c.length=64) (r0:RootR):listGood c=(listFrom c 4 0 false [r0]).1:=by
 rw [Bool.eq_iff_iff,listGood_iff hc]
 constructor
 · rintro ⟨E,hE,rfl⟩
   have:=hE.listFrom r0 4 0 rfl (Nat.zero_le _)
   rw [List.take_zero,List.map_nil] at this
   rw [this]
 · intro h
   obtain ⟨E,h1,h2,_⟩:=listFrom_given hc h
   exact ⟨E,h1,h2⟩
end Go.Proofs.YtknjjjenklfeoaaGreatDoor
