import Derived.Test.YtknjjjenklfeoaaGreatDoorRows
import Derived.WalkKit
import Derived.WalkSpells
import Derived.WalkLawsBesides
import Derived.BigQuiet
import Derived.Deep.QuietTactic
import Derived.Deep.MidRow
import Derived.Deep.RegionHeld3
import Derived.Deep.AppendLies
import Derived.Lib.QuietBelow
import Derived.Deep.WholeRow
set_option maxHeartbeats 8000000
set_option maxRecDepth 100000
set_option linter.all false
namespace Go.Proofs.YtknjjjenklfeoaaGreatDoor
open Go.RowKit
abbrev aj:=List UInt8
def aI (c:List UInt8) (i:Nat):Nat:=(c.getD i 0).toNat
def num (c:List UInt8) (i:Nat):Nat:=256*aI c i+aI c (i+1)
theorem tV (c:List UInt8) (i:Nat):aI c i<256:=by unfold aI;exact (c.getD i 0).toNat_lt
theorem iD (c:List UInt8) (i:Nat):num c i<65536:=by
 have h1:=tV c i;have h2:=tV c (i+1);unfold num;omega
structure bC where
 N:Nat
 At:Nat
 name:List UInt8
structure aU where
 L:List aj
 roots:List bC
 told:List Nat
 used:List Nat
 bad:Int
def cl (L:List aj) (n:Nat):aj:=L.getD n []
def aS (L:List aj) (n:Nat):Nat:=aI (cl L (1+n / 64)) (n%64)
def Dn (R:aU) (n kind:Nat):Bool:=decide (n<6) || (decide (R.L.length≤n) || (R.told.getD n 0 != 0 && (R.told.getD n 0 != kind || kind == 1)))
def tell (R:aU) (n kind at':Nat):Bool × aU:=
 if Dn R n kind then (false,{ R with bad:=at' })
 else (true,{ R with told:=R.told.set n kind,used:=R.used.set n (R.used.getD n 0+1) })
def oN (t:Nat):Nat→Nat→aU→Bool × aU
 | 0,_,R=>(true,R)
 | m+1,k,R=>
  if num (cl R.L t) (2*k)=0 then oN t m (k+1) R
  else if (tell R (num (cl R.L t) (2*k)%32768) 3 t).1 then oN t m (k+1) (tell R (num (cl R.L t) (2*k)%32768) 3 t).2
  else (false,(tell R (num (cl R.L t) (2*k)%32768) 3 t).2)
def xk (t:Nat):Nat→Nat→aU→Bool × aU
 | 0,_,R=>(true,R)
 | m+1,i,R=>
  if num (cl R.L t) (2*i)=0 then xk t m (i+1) R
  else if 1<i then (false,{ R with bad:=t })
  else if (tell R (num (cl R.L t) (2*i)%32768) 2 t).1 then
   if (oN (num (cl R.L t) (2*i)%32768) 32 0 (tell R (num (cl R.L t) (2*i)%32768) 2 t).2).1 then
    xk t m (i+1) (oN (num (cl R.L t) (2*i)%32768) 32 0 (tell R (num (cl R.L t) (2*i)%32768) 2 t).2).2
   else (false,(oN (num (cl R.L t) (2*i)%32768) 32 0 (tell R (num (cl R.L t) (2*i)%32768) 2 t).2).2)
  else (false,(tell R (num (cl R.L t) (2*i)%32768) 2 t).2)
def tree (R:aU) (r:bC):Bool × aU:=
 if (tell R r.N 1 r.At).1 then xk r.N 32 0 (tell R r.N 1 r.At).2 else (false,(tell R r.N 1 r.At).2)
def uK (b:Nat) (R:aU):Prop:= ∀ n,R.used.getD n 0≤b
theorem zn (R:aU) (n kind at':Nat):(tell R n kind at').2.L=R.L:=by unfold tell;split <;> rfl
theorem MG (R:aU) (n kind at':Nat):(tell R n kind at').2.roots=R.roots:=by unfold tell;split <;> rfl
theorem YL (R:aU) (n kind at':Nat):(tell R n kind at').2.told.length=R.told.length:=by unfold tell;split <;> simp
theorem auh {b:Nat} {R:aU} (h:uK b R) (n kind at':Nat):uK (b+1) (tell R n kind at').2:=by
 intro k;have hk:=h k;have hn:=h n;unfold tell;split
 ·show R.used.getD k 0≤b+1;omega
 ·show (R.used.set n (R.used.getD n 0+1)).getD k 0≤b+1;simp only [List.getD_eq_getElem?_getD,List.getElem?_set] at*;split
  ·split <;> simp <;> omega
  ·omega
theorem Ji {R:aU} {n kind at':Nat} (h:(tell R n kind at').1=true):6≤n∧n<R.L.length:=by
 unfold tell at h
 split at h
 ·simp at h
 ·rename_i h';simp [Dn] at h';omega
def oZ (R:aU) (x:Nat):Bool:=if 32768≤x then (R.used.getD (x%32768) 0 != 1 || aS R.L (x%32768) != 1) else false
def QW (R:aU) (n:Nat):Nat:=R.used.getD n 0
def DW (R:aU) (n:Nat):Bool:=(decide (n<R.L.length) && decide (aS R.L n<QW R n)) || (aS R.L n == 255 || (decide (R.L.length≤n) && aS R.L n != 0))
def qm (R:aU):Nat→Nat→Int
 | 0,_=> -1
 | m+1,n=>if DW R n then n else qm R m (n+1)
def bF (p:Nat→Bool):Nat→Nat
 | 0=>0
 | k+1=>bF p k+if p k then 1 else 0
theorem PK (p:Nat→Bool) (k:Nat):bF p k≤k:=by
 induction k with
 | zero=>exact Nat.le_refl _
 | succ k ih=>simp only [bF];split <;> omega
def Eb (L:List aj):Nat:=256 - L.length+bF (fun k=>decide (6≤k) && aS L k == 0) L.length
def sG (R:aU) (x:Nat):Nat:=if 32768≤x then 0 else if R.used.getD (x%32768) 0=1 then 1 else 0
section
theorem om {p:Prop} (h:p:=by omega):p:=h
theorem dc {p:Prop} (h:p:=by decide):p:=h
theorem kr {p:Prop} (h:p:=by kernel_rfl):p:=h
theorem sm {p:Prop} (h:p:=by simp):p:=h
theorem gn {p:Prop} (h:p:=by go_num):p:=h
theorem fC {w:World} {o:Obj}:Below w.heap.size w (w.alloc o):=(Below.refl _ _).alloc (Nat.le_refl _) _
theorem cO {p:Prop} (h:p:=by (simp [intOf];omega)):p:=h
abbrev aC (w w':World):Prop:=Below w.heap.size w w'
abbrev gQ:=@List.mem_map
abbrev aW:=@heap_alloc_new
abbrev aP:=@Nat.le_refl
abbrev jZ:=@Nat.le_trans
abbrev iZ:=@Nat.lt_of_lt_of_le
abbrev jE:=@Below.heap_alloc
abbrev Ry:=@Below.heap_setCell
abbrev OX:=@World.cell?_of_block
abbrev aA:=@Or.inl
abbrev ay:=@Or.inr
abbrev jv:=@Option.some.injEq
abbrev qA:=@List.flatMap_cons
abbrev oO:=@List.length_append
abbrev iQ:=@List.length_cons
abbrev DF:=@List.getD_cons_zero
abbrev yV:=@Nat.zero_mul
abbrev qR:=@Nat.zero_add
abbrev oJ:=@List.getElem?_append_left
abbrev Jt:=@List.getD_cons_succ
abbrev nP:=@List.getElem?_append_right
abbrev aK:=@List.getD_eq_getElem?_getD
abbrev bI:=@List.getElem?_eq_getElem
abbrev oP:=@List.getElem_mem
abbrev FW:=@List.getElem?_eq_some_iff
abbrev jD:=@List.getElem?_map
abbrev x9:=@List.getElem?_range
abbrev EM:=@Option.map_some
abbrev alv:=@Option.isSome_iff_exists
abbrev uH:=@List.ext_getElem?
abbrev eu:=@List.getElem?_eq_none
abbrev FX:=@run_storeVar_mid
abbrev iR:=@List.size_toArray
abbrev vg:=@all_oneCell_toArray
abbrev uI:=@zero_of_info
abbrev ak:=@if_neg
abbrev vk:=@List.length_nil
abbrev au:=@if_pos
abbrev EN:=@List.getElem?_cons_succ
abbrev alx:=@Array.getElem?_setIfInBounds
abbrev Bf:=@Nat.sub_self
abbrev Ju:=@List.getElem?_cons_zero
abbrev MR:=@List.mem_or_eq_of_mem_set
abbrev rG:=@List.length_set
abbrev Io:=@Array.ext_getElem?
abbrev bW:=@List.getElem?_toArray
abbrev uf:=@List.getElem?_set
abbrev KR:=@Option.getD_some
abbrev Ae:=@List.mem_flatMap
abbrev KT:=@List.eq_of_mem_replicate
abbrev FY:=@run_storeVar_new
abbrev ad9:=@run_loadVar_new
abbrev Vf:=@Nat.sub_zero
abbrev Vg:=@List.foldl_cons
abbrev jL:=@Nat.add_zero
abbrev OV:=@Array.getElem?_eq_none
abbrev jh:=@Sem.run_bind
abbrev xw:=@run_underlying
abbrev rQ:=@Result.andThen_ok
abbrev Vh:=@run_program
abbrev yX:=@Sem.run_pure
abbrev MS:=@List.forIn_cons
abbrev tC:=@Bool.true_and
abbrev Bg:=@Bool.false_eq_true
abbrev yc:=@if_false
abbrev Vj:=@Nat.mul_one
abbrev Vk:=@Bool.eq_iff_iff
abbrev Rw:=@List.all_eq_true
abbrev CO:=@decide_eq_true_iff
abbrev aea:=@run_equalIn_int
abbrev Rx:=@beq_iff_eq
abbrev OW:=@UInt8.toNat_inj
abbrev wH:=@if_true
abbrev rU:=@List.append_nil
abbrev Bh:=@Nat.add_comm
abbrev tH:=@List.length_map
abbrev Zp:=@Nat.add_sub_cancel_left
abbrev Af:=@List.setIfInBounds_toArray
abbrev Jv:=@List.set_append_right
abbrev aeb:=@List.set_append_left
abbrev MV:=@List.map_set
abbrev CP:=@Int.eq_ofNat_of_zero_le
abbrev EO:=@Bool.false_or
abbrev vU:=@Bool.and_eq_true
abbrev nR:=@bne_iff_ne
abbrev Bj:=@Bool.or_eq_false_iff
abbrev lI:=@beq_eq_false_iff_ne
abbrev vC:=@Int.toNat_natCast
abbrev Jw:=@Nat.lt_or_ge
abbrev jw:=@List.mem_singleton
abbrev dD:=@List.mem_cons
abbrev jM:=@List.not_mem_nil
abbrev jO:=@or_false
abbrev kL:=@below_regrown
abbrev CQ:=@wp_region_quiet_below
abbrev zA:=@Calls.regrown_of
abbrev CS:=@wpQuiet_nil
abbrev Ip:=@cell_regrown
abbrev bG:=@Below.refl
abbrev gV:=@bodyPost_ret
abbrev qU:=@List.getElem?_replicate
abbrev Ii:=@List.map_congr_left
abbrev Y5:=@List.length_range
abbrev Jm:=@List.mem_range
abbrev alr:=@Array.getElem?_eq_getElem
abbrev zy:=@List.length_replicate
abbrev jB:=@World.size_alloc
abbrev nK:=@List.set_cons_zero
abbrev eH:=@decide_eq_true
abbrev gU:=@decide_eq_false
abbrev Y6:=@Bool.and_true
abbrev QZ:=@Bool.and_false
abbrev MN:=@UInt8.toNat_ofNat'
abbrev Rf:=@Option.map_eq_some_iff
abbrev Jo:=@IntWalk.i64_in
abbrev Y7:=@List.range_succ
abbrev Jp:=@List.getElem?_take
abbrev Y8:=@List.eq_nil_of_length_eq_zero
abbrev qy:=@info_parts
abbrev MO:=@World.cell?_alloc_lt
abbrev Jq:=@step_append_lies
abbrev pU:=@World.news_of_block
abbrev wF:=@World.ownsRow_nil
abbrev rE:=@List.map_append
abbrev Y9:=@List.replicate_append_replicate
abbrev wG:=@List.set_cons_succ
abbrev uG:=@List.append_assoc
abbrev KJ:=@List.take_append_drop
abbrev xu:=@List.length_take
abbrev Rh:=@Nat.min_eq_left
abbrev OI:=@List.getElem?_drop
abbrev UR:=@Array.length_toList
abbrev nN:=@Nat.zero_le
abbrev yU:=@List.take_succ_eq_append_getElem
abbrev Ij:=@List.take_length
abbrev Jr:=@Bool.false_and
abbrev jC:=@List.map_cons
abbrev KN:=@List.map_nil
abbrev adO:=@Go.WideShapes.bytes_inj
abbrev xZ:=@wpList_append_lies
abbrev Ik:=@List.count_append
abbrev Za:=@List.count_pos_iff
abbrev gq:=@List.mem_append
abbrev FU:=@List.count_eq_zero
abbrev ql:=@List.nil_append
abbrev Zb:=@List.length_singleton
abbrev Zc:=@Array.getElem?_toList
abbrev OJ:=@Nat.mul_le_mul_right
abbrev KO:=@List.drop_eq_getElem_cons
abbrev KP:=@List.replicate_succ'
abbrev Zd:=@List.drop_length
abbrev UU:=@List.replicate_succ
abbrev adP:=@bne_eq_false_iff_eq
abbrev adQ:=@List.take_left
abbrev CJ:=@results_none
abbrev EK:=@results_cell_tmp
abbrev OL:=@Nat.add_assoc
abbrev OM:=@List.map_map
abbrev Ze:=@results_tmp3
abbrev Zf:=@callsIn_of_wp
abbrev A8:=@Array.replicate_succ
abbrev Ba:=@Array.replicate_zero
abbrev Bc:=@List.push_toArray
abbrev Bd:=@List.append_toArray
abbrev sO:=@List.cons_append
abbrev eY:=@callsIn_wide
abbrev FV:=@congrArg
abbrev adR:=@List.length_eq_zero_iff
abbrev OO:=@List.filter_append
abbrev UW:=@wpIn_mono
abbrev Js:=@List.take_of_length_le
abbrev Ri:=@RoundIn.mono
abbrev UY:=@List.ext_getElem
abbrev adS:=@List.length_filter_le
abbrev UZ:=@List.singleton_append
abbrev MP:=@List.mem_cons_of_mem
abbrev U7:=@List.mem_filter
abbrev sQ:=@Eq.trans
abbrev adT:=@IntKind.wrap_u8
abbrev Zg:=@Nat.mod_lt
abbrev Zh:=@results_tmp
abbrev Rj:=@List.getElem?_take_of_lt
abbrev adU:=@List.nodup_iff_pairwise_ne
abbrev adV:=@List.pairwise_map
abbrev adW:=@List.pairwise_iff_getElem
abbrev Zi:=@List.take_set_of_le
abbrev DI:=@List.count_cons
abbrev U8:=@List.drop_of_length_le
abbrev U9:=@List.drop_zero
abbrev KQ:=@Prod.ext
abbrev Il:=@List.sum_cons
abbrev adX:=@List.nodup_cons
abbrev Rk:=@Bool.and_eq_false_iff
abbrev adY:=@List.extract_eq_take_drop
abbrev adZ:=@Array.forIn_toList
abbrev OQ:=@List.forIn_nil
abbrev OT:=@not_false_eq_true
abbrev Va:=@Bool.not_true
abbrev Zj:=@Bool.not_false
abbrev Zk:=@Go.ByteArray.toList_eq
abbrev Zl:=@List.filter_cons
abbrev ad1:=@List.filter_eq_nil_iff
abbrev ad2:=@List.mem_replicate
abbrev ad3:=@Nat.le_add_right
abbrev Vd:=@heap_alloc_old
abbrev OU:=@List.flatMap_nil
abbrev Rl:=@List.flatMap_append
abbrev Rn:=@List.getElem_of_mem
abbrev ad4:=@List.nodup_append
abbrev Zm:=@List.mem_of_mem_eraseIdx
abbrev Zn:=@Nat.min_def
abbrev als:=@List.eraseIdx_append_of_length_le
abbrev ad5:=@List.eraseIdx_of_length_le
abbrev alu:=@List.eraseIdx_append_of_lt_length
abbrev Ro:=@List.mem_cons_self
abbrev ad6:=@List.find?_cons
abbrev Rq:=@List.find?_append
abbrev EL:=@of_decide_eq_false
abbrev Zo:=@of_decide_eq_true
abbrev ad7:=@Bool.eq_false_iff
abbrev MQ:=@results_tmp2
abbrev Rt:=@Option.some.inj
abbrev Ru:=@Option.bind_eq_some_iff
abbrev Ve:=@mapM_carry
abbrev ad8:=@DataW.trod_string
theorem ah {p:Prop} (h:p):Hid p:=h
theorem uh {p:Prop} (h:Hid p):p:=h
theorem Us {k:IntKind} {a b:Int} (h:a=b):Ending.returned (.int k a)= .returned (.int k b):=by rw [h]
def cv (c:List UInt8):List Value:=c.map fun b=> .int .u8 b.toNat
theorem bg (c:List UInt8):(cv c).length=c.length:=by simp [cv]
theorem uO (c:List UInt8) (i:Nat) (h:i<c.length):(cv c)[i]? = some (.int .u8 (aI c i)):=by
 simp [cv,aI,h,List.getD]
theorem zJ (c:List UInt8): ∀ v ∈ cv c,v.oneCell'=true:=by
 intro v hv;simp only [cv,gQ] at hv;obtain ⟨b,_,rfl⟩:=hv;rfl
theorem vX (w:World) (cs:Array Value) (t:TypeId) (fr:Nat × Nat) (i:Nat):(w.alloc (.cells cs t fr)).cell? ⟨w.heap.size,i,none⟩=cs[i]? := by
 rw [World.cell?];rw [aW w (.cells cs t fr)];rfl
theorem aG {w:World} {f:Nat} {cs:Array Value} {t:TypeId} {fr:Nat × Nat} (h:w.heap[f]? = some (.cells cs t fr)) (i:Nat):w.cell? ⟨f,i,none⟩=cs[i]? := by
 rw [World.cell?,h];rfl
theorem eG {w:World} {f:Nat} {cs:Array Value} {t:TypeId} (h:w.heap[f]? = some (.cells cs t (0,0))) (i:Nat):w.frozen? ⟨f,i,none⟩=false:=by
 rw [World.frozen?,h];simp
structure Kept (S:Nat→Prop) (w w':World):Prop where
 os:w'.os=w.os
 tape:w'.tape=w.tape
 output:w'.output=w.output
 size:w.heap.size≤w'.heap.size
 block: ∀ k,k<w.heap.size→ ¬ S k→w'.heap[k]? = w.heap[k]?
theorem Kept.refl (S:Nat→Prop) (w:World):Kept S w w:=⟨rfl,rfl,rfl,aP _,fun _ _ _=>rfl⟩
theorem Kept.trans {S:Nat→Prop} {a b c:World} (h:Kept S a b) (k:Kept S b c):Kept S a c:=
 ⟨k.os.trans h.os,k.tape.trans h.tape,k.output.trans h.output,jZ h.size k.size,fun i hi hs=>(k.block i (iZ hi h.size) hs).trans (h.block i hi hs)⟩
theorem Kept.mono {S T:Nat→Prop} {w w':World} (h:Kept S w w') (hs: ∀ k,S k→T k):Kept T w w':=
 ⟨h.os,h.tape,h.output,h.size,fun i hi ht=>h.block i hi fun x=>ht (hs i x)⟩
theorem Kept.drew {S:Nat→Prop} {a w:World} (h:Kept S a w):Kept S a w.drew:=⟨h.os,h.tape,h.output,h.size,h.block⟩
theorem Kept.drewN {S:Nat→Prop} {a w:World} (h:Kept S a w) (n:Nat):Kept S a (w.drewN n):=⟨h.os,h.tape,h.output,h.size,h.block⟩
theorem Kept.alloc {S:Nat→Prop} {a w:World} (h:Kept S a w) (o:Obj):Kept S a (w.alloc o):=
 h.trans ⟨rfl,rfl,rfl,sm,fun k hk _=>jE _ _ _ hk⟩
theorem Kept.setCell {S:Nat→Prop} {a w:World} (h:Kept S a w) {p:Addr} (hp:S p.block∨a.heap.size≤p.block) (u:Value):Kept S a (w.setCell p u):=
 ⟨h.os,h.tape,h.output,by simpa [World.setCell] using h.size,fun k hk hs=>by
  rw [Ry _ _ _ _ (by rintro rfl;rcases hp with hp | hp;exact hs hp;omega)];exact h.block k hk hs⟩
theorem Kept.dS {S:Nat→Prop} {w w':World} (h:aC w w'):Kept S w w':=⟨h.os,h.tape,h.output,h.size,fun k hk _=>h.block k hk⟩
theorem Kept.below {w w':World} (h:Kept (fun _=>False) w w'):aC w w':=⟨h.os,h.tape,h.output,h.size,fun k hk=>h.block k hk id⟩
theorem Kept.cell {S:Nat→Prop} {w w':World} (h:Kept S w w') {p:Addr} (hp:p.block<w.heap.size) (hs: ¬ S p.block):w'.cell? p=w.cell? p:=
 OX (w:=w) (h.block p.block hp hs)
theorem aO {w:World} {g:Nat} {o:Obj} (h:w.heap[g]? = some o):g<w.heap.size:=(Array.getElem?_eq_some_iff.1 h).1
theorem Kept.aF {S:Nat→Prop} {w w':World} (h:Kept S w w') {g:Nat} {o:Obj} (hs: ¬ S g) (hg:w.heap[g]? = some o):w'.heap[g]? = some o:=
 (h.block g (aO hg) hs).trans hg
theorem bQ {S:Nat→Prop} {w w':World} (h:Kept S w w') {base:Nat} {e:TypeId} {size:Nat} {v:Value} {n:Nat} {xs:List Value} (hr:w.ownsRow base e size v n xs)
  (hs: ∀ g,v.ownBlock=some g→ ¬ S g):w'.ownsRow base e size v n xs:=by
 obtain ⟨h1,h2⟩:=hr;refine ⟨h1,?_⟩;rcases h2 with h2 | ⟨g,cap,cur,rfl,hg,hh,r⟩
 ·exact aA h2
 ·exact ay ⟨g,cap,cur,rfl,hg,h.aF (hs g rfl) hh,r⟩
theorem iw {w:World} {base:Nat} {e:TypeId} {size:Nat} {v:Value} {n:Nat} {xs:List Value} (hr:w.ownsRow base e size v n xs) {f:Nat} {cs:Array Value} {t:TypeId} {fr:Nat × Nat}
  (hf:w.heap[f]? = some (.cells cs t fr)) (hne:e≠t): ∀ g,v.ownBlock=some g→g≠f:=by
 intro g hg;rcases hr.2 with ⟨rfl,_⟩ | ⟨g',cap,cur,rfl,_,hh,_⟩
 ·cases hg
 ·rintro rfl;simp only [Value.ownBlock,jv] at hg;subst hg;rw [hf] at hh;simp at hh;exact hne hh.2.1.symm
theorem heap_setCell_same (w:World) (f i:Nat) (v:Value) (cs:Array Value) (t:TypeId) (fr:Nat × Nat) (h:w.heap[f]? = some (.cells cs t fr)):
  (w.setCell ⟨f,i,none⟩ v).heap[f]? = some (.cells (cs.setIfInBounds i v) t fr):=by
 simp [World.setCell,Array.getElem?_modify,h]
def aQ (L:List aj):List Value:=L.flatMap cv
theorem yC (L:List aj) (hl: ∀ c ∈ L,c.length=64):(aQ L).length=L.length*64:=by
 induction L with
 | nil=>rfl
 | cons a r ih=>
  have h1:=hl a sm;have h2:=ih (fun c hc=>hl c (by simp [hc]));simp only [aQ,qA,oO,bg,iQ] at*;omega
theorem PO (L:List aj) (hl: ∀ c ∈ L,c.length=64) (k:Nat) (hk:k<L.length) (j:Nat) (hj:j<64):(aQ L)[k*64+j]? = (cv (cl L k))[j]? := by
 induction L generalizing k with
 | nil=>simp at hk
 | cons a r ih=>
  have h1:=hl a sm;cases k with
  | zero=>
   simp only [aQ,qA,cl,DF,yV,qR];rw [oJ (by rw [bg];omega)]
  | succ k=>
   have h2:=ih (fun c hc=>hl c (by simp [hc])) k (by simpa using hk);simp only [aQ,qA,cl,Jt] at*;rw [nP (by rw [bg];omega),bg,h1,← h2]
   congr 1
   omega
theorem iM {L:List aj} (hl: ∀ c ∈ L,c.length=64) {k:Nat} (hk:k<L.length):(cl L k).length=64:=by
 unfold cl;rw [aK,bI hk];exact hl _ (oP hk)
def dN (w:World) (b o n:Nat):Prop:= ∀ j,j<n→(w.cell? ⟨b,o+j,none⟩).isSome=true
def dI (w:World) (b o n:Nat):List Value:=(List.range n).map fun j=>(w.cell? ⟨b,o+j,none⟩).getD undef
theorem aau (w:World) (b o n:Nat):(dI w b o n).length=n:=by simp [dI]
theorem asa {w:World} {b o n:Nat} (h:dN w b o n):w.rangeAt b o (dI w b o n):=by
 intro j v hv;have hj:j<n:=by have:=(FW.1 hv).1;rwa [aau] at this
 simp only [dI,jD,x9 hj,EM,jv] at hv;obtain ⟨u,hu⟩:=alv.1 (h j hj);rw [hu] at hv ⊢;simpa using hv
theorem sV {w:World} {b o n:Nat} {cs:List Value} (h:w.rangeAt b o cs) (hn:cs.length=n):dN w b o n:=fun j hj=>h.isSome j om
theorem qX {w:World} {b o n:Nat} {cs:List Value} (h:w.rangeAt b o cs) (hn:cs.length=n):dI w b o n=cs:=by
 refine uH fun j=> ?_
 by_cases hj:j<n
 ·rw [dI,jD,x9 hj,bI om]
  have:=h j _ (bI om)
  simp [this]
 ·rw [eu (by rw [aau];omega),eu om]
theorem AX {P:Program} {w:World} {b o n:Nat} (h:dN w b o n) (ty:TypeId) (d:TypeDesc) (hu:P.underlying ty=some d) (hd:d.isRow=true) (hi:(P.info? ty).map (·.size)=some n):
  (loadVar ty ⟨b,o,none⟩).run P w= .ok (.agg (dI w b o n).toArray) w:=
 run_loadVar_mid w b o ty (dI w b o n) d (asa h) hu hd (by rw [aau];exact hi)
def abI (a:Addr):Sem Value:=loadVar 38 a
theorem dw (a:Addr):loadVar 38 a=abI a:=rfl
theorem dK {w:World} {b o:Nat} (h:dN w b o 64):(abI ⟨b,o,none⟩).run Tryz.prog w= .ok (.agg (dI w b o 64).toArray) w:=
 AX h 38 _ Tryz.underlying38 rfl kr
def Yx (a:Addr) (v:Value):Sem Unit:=storeVar 38 a v
theorem fP (a:Addr) (v:Value):storeVar 38 a v=Yx a v:=rfl
theorem fO {w:World} {b o:Nat} {c:List UInt8} (ht:w.there b o 64) (hc:c.length=64):(Yx ⟨b,o,none⟩ (.agg (cv c).toArray)).run Tryz.prog w= .ok () (w.setCells b o (cv c)):=by
 have:=FX (P:=Tryz.prog) w b o 38 (cv c).toArray (by simpa [bg,hc] using ht) (by simp only [iR,bg,hc];kernel_rfl) (vg (zJ c))
 simpa [Yx] using this
def zc:List UInt8:=List.replicate 64 0
theorem aV:zc.length=64:=by simp [zc]
def alc:Sem Value:=zeroValue 38
theorem fZ:zeroValue 38=alc:=rfl
theorem fV (w:World):alc.run Tryz.prog w= .ok (.agg (cv zc).toArray) w:=
 (uI (P:=Tryz.prog) (t:=38) (v:= .agg (cv zc).toArray) (n:=64) kr).1 w
def lU (cs:Array Value) (o:Nat):List Value→Array Value
 | []=>cs
 | v :: r=>lU (cs.setIfInBounds o v) (o+1) r
theorem Yq (o:Nat) (cs:Array Value) (vs:List Value):(lU cs o vs).size=cs.size:=by
 induction vs generalizing cs o with
 | nil=>rfl
 | cons v r ih=>rw [lU,ih];simp
theorem DC (vs:List Value): ∀ (o:Nat) (cs:Array Value) (i:Nat),o+vs.length≤cs.size→(lU cs o vs)[i]? = if o≤i∧i<o+vs.length then vs[i - o]? else cs[i]? := by
 induction vs with
 | nil=>intro o cs i _;rw [lU,ak (by simp only [vk];omega)]
 | cons v r ih=>
  intro o cs i h;simp only [iQ] at h;rw [lU,ih (o+1) _ i (by simp;omega)]
  by_cases h1:o+1≤i∧i<o+1+r.length
  ·rw [au h1,au (by simp only [iQ];omega),show i - o=(i - (o+1))+1 by omega,EN]
  ·rw [ak h1,alx]
   by_cases h2:o=i
   ·subst h2;rw [au rfl,au om,au (by simp only [iQ];omega),Bf,Ju]
   ·rw [ak h2,ak (by simp only [iQ];omega)]
theorem JY (vs:List Value): ∀ (o:Nat) (w:World) (b:Nat) (cs:Array Value) (t:TypeId) (fr:Nat × Nat),w.heap[b]? = some (.cells cs t fr)→
  (w.setCells b o vs).heap[b]? = some (.cells (lU cs o vs) t fr):=by
 induction vs with
 | nil=>intro o w b cs t fr h;exact h
 | cons v r ih=>intro o w b cs t fr h;rw [World.setCells];exact ih (o+1) _ b _ t fr (heap_setCell_same w b o v cs t fr h)
theorem TA (vs:List Value): ∀ (o:Nat) (w:World) (b k:Nat),k≠b→(w.setCells b o vs).heap[k]? = w.heap[k]? := by
 induction vs with
 | nil=>intro o w b k _;rfl
 | cons v r ih=>intro o w b k h;rw [World.setCells,ih (o+1) _ b k h];exact Ry _ _ _ _ h
theorem akg (vs:List Value): ∀ (o:Nat) (w:World) (b:Nat),(w.setCells b o vs).os=w.os∧(w.setCells b o vs).tape=w.tape∧(w.setCells b o vs).output=w.output∧(w.setCells b o vs).heap.size=w.heap.size:=by
 induction vs with
 | nil=>intro o w b;exact ⟨rfl,rfl,rfl,rfl⟩
 | cons v r ih=>
  intro o w b;rw [World.setCells];obtain ⟨h1,h2,h3,h4⟩:=ih (o+1) (w.setCell ⟨b,o,none⟩ v) b;exact ⟨h1,h2,h3,by rw [h4];simp [World.setCell]⟩
theorem Kept.setCells {S:Nat→Prop} {a w:World} (h:Kept S a w) {b:Nat} (hp:S b∨a.heap.size≤b) (o:Nat) (vs:List Value):Kept S a (w.setCells b o vs):=by
 obtain ⟨h1,h2,h3,h4⟩:=akg vs o w b;refine ⟨h1.trans h.os,h2.trans h.tape,h3.trans h.output,by rw [h4];exact h.size,fun k hk hs=> ?_⟩;rw [TA vs o w b k (by rintro rfl;rcases hp with hp | hp;exact hs hp;omega)];exact h.block k hk hs
theorem below_setCells {B:Nat} {a w:World} (h:Below B a w) {b:Nat} (hp:B≤b) (o:Nat) (vs:List Value):Below B a (w.setCells b o vs):=by
 obtain ⟨h1,h2,h3,h4⟩:=akg vs o w b;exact ⟨h1.trans h.os,h2.trans h.tape,h3.trans h.output,by rw [h4];exact h.size,fun k hk=>(TA vs o w b k om).trans (h.block k hk)⟩
theorem acZ (D:List aj) (hD: ∀ c ∈ D,c.length=64) (k:Nat) (hk:k<D.length) (c:aj) (hc:c.length=64):lU (aQ D).toArray (k*64) (cv c)=(aQ (D.set k c)).toArray:=by
 have hl:=yC D hD;have hD': ∀ x ∈ D.set k c,x.length=64:=by
  intro x hx;rcases MR hx with h | h
  ·exact hD x h
  ·rw [h];exact hc
 have hl':=yC (D.set k c) hD';rw [rG] at hl';apply Io;intro i;rw [DC (cv c) _ _ i (by rw [bg,hc];simp;omega),bg,hc,bW,bW]
 by_cases hi:i<D.length*64
 ·have e:i=(i / 64)*64+i%64:=om;have hq:i / 64<D.length:=om;rw [e,PO (D.set k c) hD' (i / 64) (by simpa using hq) (i%64) om,PO D hD (i / 64) hq (i%64) om];unfold cl;simp only [aK,uf]
  by_cases h2:k=i / 64
  ·rw [au h2,au om,au om];simp only [KR]
   congr 1
   omega
  ·rw [ak h2,ak om]
 ·rw [ak om,eu om,eu om]
def aib (a:Addr):Sem Value:=loadVar 67 a
theorem LK (a:Addr):loadVar 67 a=aib a:=rfl
theorem MF {w:World} {b o:Nat} (h:dN w b o 4096):(aib ⟨b,o,none⟩).run Tryz.prog w= .ok (.agg (dI w b o 4096).toArray) w:=
 AX h 67 _ Tryz.underlying67 rfl kr
theorem Wy (D:List aj): ∀ v ∈ aQ D,v.oneCell'=true:=by
 intro v hv;simp only [aQ,Ae] at hv;obtain ⟨c,_,hv⟩:=hv;exact zJ c v hv
def ade (a:Addr) (v:Value):Sem Unit:=storeVar 67 a v
theorem Ou (a:Addr) (v:Value):storeVar 67 a v=ade a v:=rfl
def EP (D:List aj):Prop:= ∀ c ∈ D,c.length=64
theorem Oj {w:World} {b o:Nat} {D:List aj} (ht:w.there b o 4096) (hD:EP D) (hl:D.length=64):(ade ⟨b,o,none⟩ (.agg (aQ D).toArray)).run Tryz.prog w= .ok () (w.setCells b o (aQ D)):=by
 have e:=yC D hD;rw [hl] at e
 have:=FX (P:=Tryz.prog) w b o 67 (aQ D).toArray (by rw [iR,e];exact ht) (by rw [iR,e];kernel_rfl) (vg (Wy D))
 simpa [ade] using this
def zD:List aj:=List.replicate 64 zc
theorem ML:zD.length=64:=by simp [zD]
theorem MK: ∀ c ∈ zD,c.length=64:=by intro c hc;rw [KT hc];exact aV
def alf:Sem Value:=zeroValue 67
theorem OH:zeroValue 67=alf:=rfl
theorem Ol (w:World):alf.run Tryz.prog w= .ok (.agg (aQ zD).toArray) w:=
 (uI (P:=Tryz.prog) (t:=67) (v:= .agg (aQ zD).toArray) (n:=4096) kr).1 w
theorem qK {fn:Func} {p:Tmp} {ty:TypeId} (h:fn.results= #[.cell p ty]) {tmps:Array Value} {P:Program} {w:World} (a:Addr) {v:Value} (ht:tmps.getD p undef= .pointer (some a)) (hl:(loadVar ty a).run P w= .ok v w):
  (results fn tmps).run P w= .ok v w:=by
 simp only [results,h];simp [-Array.getD_eq_getD_getElem?,asAddr,ht,hl]
theorem gK {w:World} {z c:List UInt8} (hz:z.length=64) (hc:c.length=64):
  (Yx ⟨w.heap.size,0,none⟩ (.agg (cv c).toArray)).run Tryz.prog (w.alloc (.cells (cv z).toArray 38))= .ok () (w.alloc (.cells (cv c).toArray 38)):=
 FY w 38 (cv z).toArray (cv c).toArray (by simp only [iR,bg,hc];kernel_rfl) (by simp [bg,hz,hc]) (vg (zJ c))
theorem gy {w:World} {c:List UInt8} (hc:c.length=64):
  (abI ⟨w.heap.size,0,none⟩).run Tryz.prog (w.alloc (.cells (cv c).toArray 38))= .ok (.agg (cv c).toArray) (w.alloc (.cells (cv c).toArray 38)):=
 ad9 w 38 (cv c).toArray 64 5 Tryz.underlying38 (by simp only [iR,bg,hc];kernel_rfl)
theorem jc (w:World) (b o n:Nat):dN w.drew b o n=dN w b o n:=rfl
theorem jd (w:World) (b o n:Nat):dI w.drew b o n=dI w b o n:=rfl
theorem lY (w:World) (m b o n:Nat):dN (w.drewN m) b o n=dN w b o n:=rfl
theorem l7 (w:World) (m b o n:Nat):dI (w.drewN m) b o n=dI w b o n:=rfl
theorem gZ {w:World} {b:Nat} {c:List UInt8} {t:TypeId} {fr:Nat × Nat} (h:w.heap[b]? = some (.cells (cv c).toArray t fr)) (hc:c.length=64):dN w b 0 64:=
 fun j hj=>by rw [qR,aG h,bW,uO _ _ om];rfl
theorem amZ {w:World} {b:Nat} {c:List UInt8} {t:TypeId} {fr:Nat × Nat} (h:w.heap[b]? = some (.cells (cv c).toArray t fr)):w.rangeAt b 0 (cv c):=fun j v hv=>by
 rw [qR,aG h,bW];exact hv
theorem gY {w:World} {b:Nat} {c:List UInt8} {t:TypeId} {fr:Nat × Nat} (h:w.heap[b]? = some (.cells (cv c).toArray t fr)) (hc:c.length=64):dI w b 0 64=cv c:=
 qX (amZ h) (by rw [bg,hc])
theorem Lp {w:World} {b:Nat} {c:List UInt8} {t:TypeId} {fr:Nat × Nat} (h:w.heap[b]? = some (.cells (cv c).toArray t fr)) (i:Nat) (hi:i<c.length):w.cell? ⟨b,i,none⟩=some (.int .u8 (aI c i:Nat)):=by
 rw [aG h,bW,uO c i hi]
theorem Nr {w:World} {b:Nat} {z c:List UInt8} {t:TypeId} {fr:Nat × Nat} (h:w.heap[b]? = some (.cells (cv z).toArray t fr)) (hz:z.length=64) (hc:c.length=64):(w.setCells b 0 (cv c)).heap[b]? = some (.cells (cv c).toArray t fr):=by
 rw [JY _ _ _ _ _ _ _ h]
 congr 2
 apply Io;intro i;rw [DC _ _ _ _ (by simp [bg,hz,hc]),bg,hc,bW,bW]
 by_cases hi:i<64
 ·rw [au om,Vf]
 ·rw [ak om,eu (by rw [bg];omega),eu (by rw [bg];omega)]
theorem aoJ (vs:List Value): ∀ (k off:Nat) (cs:Array Value),(vs.zipIdx k).foldl (fun cs x=>cs.setIfInBounds (off+x.2) x.1) cs=lU cs (off+k) vs:=by
 induction vs with
 | nil=>intro k off cs;rfl
 | cons v r ih=>intro k off cs;rw [List.zipIdx_cons,Vg,ih (k+1) off,lU];rfl
theorem JR (place:Nat→Option (Nat × Nat)) (cs:Array Value) (i off n:Nat) (v:Value) (rest:List (Nat × Value)) (hp:place i=some (off,n)) (hv:v.cells.size=n) (ho:off+n≤cs.size):
  Instr.fill place cs ((i,v) :: rest)=Instr.fill place (lU cs off v.cells.toList) rest:=by
 rw [Instr.fill,hp];simp only [hv];rw [ak (by simp;omega)]
 congr 1
 rw [← Array.foldl_toList,Array.toList_zipIdx,aoJ,jL]
theorem qw (vs:List Value) (cs:Array Value) (h:cs.size=vs.length):lU cs 0 vs=vs.toArray:=by
 apply Io;intro i;rw [DC vs 0 cs i om]
 by_cases hi:i<vs.length
 ·rw [au om,Vf];simp
 ·rw [ak om,OV om,OV (by simp;omega)]
theorem Ux {P:Program} (w:World) (t e:TypeId) (n:Nat) (z v:Value) (ht:P.underlying t=some (.slice e)) (hi:(P.info? e).map (fun i=>(i.zero,i.size))=some (some z,n)) (h0:0<n) (hn:n≤16777216) (hv:v.cells.size=n):
  (Instr.buildSlice t 1 #[(0,v)]).run P w= .ok (.slice (some ⟨w.heap.size,0,none⟩) 1 1) (w.alloc (.cells v.cells e)):=by
 obtain ⟨hz,hs⟩:=uI hi;cases hq:P.info? e with
 | none=>simp [hq] at hs
 | some i=>
  have hsz:i.size=n:=by simpa [hq] using hs
  have hf:Instr.fill (fun i=>some (i*n,n)) ((Array.range (1*n)).map (z.cells[· % z.cells.size]!)) [(0,v)]=some v.cells:=by
   rw [JR _ _ 0 0 n v [] sm hv sm,Instr.fill,qw _ _ (by simp [hv])]
  unfold Instr.buildSlice;rw [jh,xw ht w];simp only [rQ,sizeOf,typeInfo,jh,Vh,hq,yX,hsz];rw [ak om,ak om];simp only [jh,hz,rQ,yX,hf];simp [newRow]
def afh (parts:Array (Nat × Value)):Sem Value:=Instr.buildSlice 28 1 parts
theorem ku (parts:Array (Nat × Value)):Instr.buildSlice 28 1 parts=afh parts:=rfl
theorem kG {w:World} {c:List UInt8} (hc:c.length=64):(afh #[(0,.agg (cv c).toArray)]).run Tryz.prog w= .ok (.slice (some ⟨w.heap.size,0,none⟩) 1 1) (w.alloc (.cells (cv c).toArray 38)):=
 Ux w 28 38 64 (.agg (cv zc).toArray) (.agg (cv c).toArray) Tryz.underlying28 kr om om (by simp [Value.cells,bg,hc])
theorem aj8 {P:Program} (d:Nat) (e:TypeId) (sz:Nat) (xs ys:Array Value) (A B:Nat→Value) (E:Nat→Bool): ∀ (n s:Nat) (w:World),
  (∀ i,s≤i→i<s+n→ ∀ w,(part e xs (i*sz)).run P w= .ok (A i) w)→(∀ i,s≤i→i<s+n→ ∀ w,(part e ys (i*sz)).run P w= .ok (B i) w)→(∀ i,s≤i→i<s+n→ ∀ w,(Op.equalIn d e (A i) (B i)).run P w= .ok (E i) w)→
  (forIn (List.range' s n 1) ((none:Option Bool),()) fun i _=>do
    let a ← part e xs (i*sz)
    let b ← part e ys (i*sz)
    let c ← Op.equalIn d e a b
    if (!c)=true then pure (ForInStep.done (some false,())) else pure (ForInStep.yield (none,()))).run P w= .ok (if (List.range' s n 1).all E then (none,()) else (some false,())) w
 | 0,s,w,_,_,_=>sm
 | n+1,s,w,hA,hB,hE=>by
  rw [List.range'_succ,MS];simp only [jh,hA s (aP _) om,hB s (aP _) om,hE s (aP _) om,rQ,List.all_cons]
  by_cases hs:E s=true
  case neg=>
   have hs':E s=false:=by simpa using hs
   rw [au (by simp [hs'])];simp [hs']
  case pos=>
   rw [ak (by simp [hs])];simp only [yX,rQ,hs,tC];exact aj8 d e sz xs ys A B E n (s+1) w (fun i h1 h2=>hA i om om) (fun i h1 h2=>hB i om om) (fun i h1 h2=>hE i om om)
theorem run_equalIn_array {P:Program} (w:World) (d:Nat) (t e:TypeId) (n sz:Nat) (xs ys:Array Value) (A B:Nat→Value) (E:Nat→Bool) (hu:P.underlying t=some (.array n e)) (hs:(P.info? e).map (·.size)=some sz)
  (hA: ∀ i,i<n→ ∀ w,(part e xs (i*sz)).run P w= .ok (A i) w) (hB: ∀ i,i<n→ ∀ w,(part e ys (i*sz)).run P w= .ok (B i) w) (hE: ∀ i,i<n→ ∀ w,(Op.equalIn d e (A i) (B i)).run P w= .ok (E i) w):
  (Op.equalIn (d+1) t (.agg xs) (.agg ys)).run P w= .ok ((List.range' 0 n 1).all E) w:=by
 cases hq:P.info? e with
 | none=>simp [hq] at hs
 | some i=>
  have hi:i.size=sz:=by simpa [hq] using hs
  have hsz:(Go.sizeOf e).run P w= .ok sz w:=by simp [Go.sizeOf,typeInfo,hq,hi]
  simp only [Op.equalIn,jh,xw hu,rQ,hsz];rw [Std.Legacy.Range.forIn_eq_forIn_range']
  have:=aj8 (P:=P) d e sz xs ys A B E n 0 w (fun i _ h=>hA i om) (fun i _ h=>hB i om) (fun i _ h=>hE i om)
  simp only [Std.Legacy.Range.size,Vf,Nat.add_sub_cancel,Nat.div_one] at*;rw [this];cases (List.range' 0 n 1).all E <;> simp
theorem acw (c:List UInt8) (i:Nat) (hi:i<c.length) (w:World):(part 5 (cv c).toArray (i*1)).run Tryz.prog w= .ok (.int .u8 (aI c i:Nat)) w:=by
 have ha:(isAgg 5).run Tryz.prog w= .ok false w:=by unfold isAgg;rw [jh,xw Tryz.underlying5 w];rfl
 unfold part;rw [jh,ha];simp only [rQ,Bg,yc,Vj];rw [bW,uO c i hi];rfl
theorem ae3 (n:Nat) (E:Nat→Bool) (p:Prop) [Decidable p] (h:(∀ i,i<n→E i=true)↔p):(List.range' 0 n 1).all E=decide p:=by
 rw [Vk,Rw,CO,← h];constructor
 ·intro x i hi;exact x i (by simp [List.mem_range'];omega)
 ·intro x i hi;simp [List.mem_range'] at hi;exact x i om
theorem acT (d:Nat) (a b:List UInt8) (ha:a.length=64) (hb:b.length=64) (w:World):(Op.equalIn (d+1+1) 38 (.agg (cv a).toArray) (.agg (cv b).toArray)).run Tryz.prog w= .ok (decide (a=b)) w:=by
 rw [run_equalIn_array w (d+1) 38 5 64 1 (cv a).toArray (cv b).toArray (fun i=> .int .u8 (aI a i:Nat)) (fun i=> .int .u8 (aI b i:Nat)) (fun i=>((aI a i:Nat):Int) == ((aI b i:Nat):Int)) Tryz.underlying38 kr
  (fun i hi w=>acw a i om w) (fun i hi w=>acw b i om w) (fun i hi w=>aea w d 5 .u8 .u8 _ _ Tryz.underlying5)]
 congr 1
 refine ae3 64 _ (a=b) ⟨fun h=> ?_,fun h i _=>by rw [h];simp⟩;refine uH fun i=> ?_
 by_cases hi:i<64
 ·have:=h i hi
  rw [Rx] at this;have e:aI a i=aI b i:=om;unfold aI at e;rw [bI om,bI om];simp only [aK,bI (show i<a.length by omega),bI (show i<b.length by omega),KR] at e;rw [OW.1 e]
 ·rw [eu om,eu om]
theorem ajj (D:List aj) (hD:EP D) (i:Nat) (hi:i<D.length) (rest:List Value) (w:World):(part 38 (aQ D++rest).toArray (i*64)).run Tryz.prog w= .ok (.agg (cv (cl D i)).toArray) w:=by
 have ha:(isAgg 38).run Tryz.prog w= .ok true w:=by unfold isAgg;rw [jh,xw Tryz.underlying38 w];rfl
 have hs:(Go.sizeOf 38).run Tryz.prog w= .ok 64 w:=by
  have:=Tryz.prog.info? 38
  cases hq:Tryz.prog.info? 38 with
  | none=>
   have h:(Tryz.prog.info? 38).isSome=true:=kr;exact absurd hq (by intro e;rw [e] at h;cases h)
  | some i=>
   have hz:(Tryz.prog.info? 38).map (·.size)=some 64:=kr;rw [hq] at hz;simp at hz;simp [Go.sizeOf,typeInfo,hq,hz]
 unfold part;rw [jh,ha];simp only [rQ,wH,jh,hs,yX];have hl:=yC D hD;have hcl:=iM hD hi;have e:(aQ D++rest).toArray.extract (i*64) (i*64+64)=(cv (cl D i)).toArray:=by
  apply Io;intro j;rw [Array.getElem?_extract,bW,iR,oO]
  by_cases hj:j<64
  ·rw [au om,bW,oJ om,PO D hD i hi j hj]
  ·rw [ak om,OV (by rw [iR,bg];omega)]
 rw [e]
theorem akb (d:Nat) (C D:List aj) (hC:EP C) (hD:EP D) (hc:C.length=64) (hd:D.length=64) (w:World):(Op.equalIn (d+1+1+1) 67 (.agg (aQ C).toArray) (.agg (aQ D).toArray)).run Tryz.prog w= .ok (decide (C=D)) w:=by
 have pC:=fun i (hi:i<64) w=>ajj C hC i om [] w;have pD:=fun i (hi:i<64) w=>ajj D hD i om [] w;simp only [rU] at pC pD;rw [run_equalIn_array w (d+1+1) 67 38 64 64 (aQ C).toArray (aQ D).toArray (fun i=> .agg (cv (cl C i)).toArray) (fun i=> .agg (cv (cl D i)).toArray) (fun i=>decide (cl C i=cl D i)) Tryz.underlying67 kr
  pC pD (fun i hi w=>acT d _ _ (iM hC om) (iM hD om) w)]
 congr 1
 refine ae3 64 _ (C=D) ⟨fun h=> ?_,fun h i _=>by rw [h];simp⟩;refine uH fun i=> ?_
 by_cases hi:i<64
 ·have:=h i hi
  rw [CO] at this;unfold cl at this;simp only [aK,bI (show i<C.length by omega),bI (show i<D.length by omega),KR] at this;rw [bI om,bI om,this]
 ·rw [eu om,eu om]
theorem Oo (a b vs:List Value) (h:a.length=vs.length):lU (a++b).toArray 0 vs=(vs++b).toArray:=by
 apply Io;intro i;rw [DC vs 0 _ i (by simp;omega),bW,bW]
 by_cases hi:i<vs.length
 ·rw [au om,Vf,oJ hi]
 ·rw [ak om,nP om,nP om,h]
theorem Yo (a b vs:List Value) (h:b.length=vs.length):lU (a++b).toArray a.length vs=(a++vs).toArray:=by
 apply Io;intro i;rw [DC vs a.length _ i (by simp;omega),bW,bW]
 by_cases hi:i<a.length
 ·rw [ak om,oJ hi,oJ hi]
 ·by_cases h2:i<a.length+vs.length
  ·rw [au om,nP om]
  ·rw [ak om,eu (by simp;omega),eu (by simp;omega)]
theorem KF {P:Program} (w:World) (t:TypeId) (fs:Array Field) (z:Value) (pl:Array (Nat × Nat)) (parts:Array (Nat × Value)) (cells:Array Value) (ht:P.underlying t=some (.struct fs)) (hz: ∀ w,(zeroValue t).run P w= .ok z w)
  (hpl: ∀ w,Sem.run P (fs.mapM fun (f:Field)=>do
    let n ← Go.sizeOf f.type
    pure (f.offset,n)) w= .ok pl w) (hf:Instr.fill (pl[·]?) z.cells parts.toList=some cells):(Instr.build t parts).run P w= .ok (.agg cells) w:=by
 unfold Instr.build;simp only [jh,hz,rQ,xw ht,hpl,hf,yX]
def ig (r:bC):List Value:=[.int .i64 r.N,.int .i64 r.At,.string ⟨r.name.toArray⟩]
def zW (n:Nat):Value:= .int .i64 n
def Dh (Lv Rv:Value) (R:aU):List Value:=Lv :: Rv :: (R.told.map zW++(R.used.map zW++[.int .i64 R.bad]))
structure bV (w:World) (f:Nat) (Lv Rv:Value) (R:aU):Prop where
 aF:w.heap[f]? = some (.cells (Dh Lv Rv R).toArray 93 (0,0))
 fF:w.ownsRow 0 38 64 Lv R.L.length (aQ R.L)
 o8:w.ownsRow 0 132 3 Rv R.roots.length (R.roots.flatMap ig)
 told:R.told.length=256
 used:R.used.length=256
 lens: ∀ c ∈ R.L,c.length=64
section
variable {w:World} {f:Nat} {Lv Rv:Value} {R:aU}
theorem bV.uN (h:bV w f Lv Rv R):w.cell? ⟨f,0,none⟩=some Lv:=by rw [aG h.aF];rfl
theorem bV.BG (h:bV w f Lv Rv R):w.cell? ⟨f,1,none⟩=some Rv:=by rw [aG h.aF];rfl
theorem bV.afB (h:bV w f Lv Rv R) (n:Nat) (hn:n<256):w.cell? ⟨f,2+n,none⟩=some (.int .i64 ((R.told.getD n 0:Nat):Int)):=by
 rw [aG h.aF,bW,Bh];show (R.told.map zW++(R.used.map zW++[.int .i64 R.bad]))[n]? = _;have ht:=h.told;rw [oJ (by simp;omega),jD,aK,bI om];rfl
theorem bV.SA (h:bV w f Lv Rv R) (n:Nat) (hn:n<256):w.cell? ⟨f,258+n,none⟩=some (.int .i64 ((R.used.getD n 0:Nat):Int)):=by
 rw [aG h.aF,bW,show 258+n=(256+n)+2 by omega];show (R.told.map zW++(R.used.map zW++[.int .i64 R.bad]))[256+n]? = _;have ht:=h.told;have hu:=h.used;rw [nP (by simp;omega),tH,ht,Zp,oJ (by simp;omega),jD,aK,bI om];rfl
theorem bV.CY (h:bV w f Lv Rv R):w.cell? ⟨f,514,none⟩=some (.int .i64 R.bad):=by
 rw [aG h.aF,bW];show (R.told.map zW++(R.used.map zW++[.int .i64 R.bad]))[512]? = _;have ht:=h.told;have hu:=h.used;rw [nP (by simp;omega),tH,ht,nP (by simp;omega),tH,hu];rfl
theorem bV.fz (h:bV w f Lv Rv R) (i:Nat):w.frozen? ⟨f,i,none⟩=false:=eG h.aF i
theorem bV.lt (h:bV w f Lv Rv R):f<w.heap.size:=aO h.aF
theorem bV.FH (h:bV w f Lv Rv R): ∀ g,Lv.ownBlock=some g→g≠f:=iw h.fF h.aF dc
theorem bV.Uh (h:bV w f Lv Rv R): ∀ g,Rv.ownBlock=some g→g≠f:=iw h.o8 h.aF dc
theorem bV.aiU (h:bV w f Lv Rv R): ∀ g,Rv.ownBlock=some g→Lv.ownBlock≠some g:=by
 intro g hg hl;rcases h.fF.2 with ⟨rfl,_⟩ | ⟨g',cap,cur,rfl,_,hh,_⟩
 ·cases hl
 ·simp only [Value.ownBlock,jv] at hl;subst hl;exact iw h.o8 hh dc _ hg rfl
theorem bV.kept {w':World} {S:Nat→Prop} (h:bV w f Lv Rv R) (hk:Kept S w w') (hf: ¬ S f) (hL: ∀ g,Lv.ownBlock=some g→ ¬ S g) (hR: ∀ g,Rv.ownBlock=some g→ ¬ S g):bV w' f Lv Rv R:=
 ⟨hk.aF hf h.aF,bQ hk h.fF hL,bQ hk h.o8 hR,h.told,h.used,h.lens⟩
theorem bV.drew (h:bV w f Lv Rv R):bV w.drew f Lv Rv R:=
 h.kept (S:=fun _=>False) ((Kept.refl _ _).drew) id (fun _ _=>id) (fun _ _=>id)
theorem bV.below {w':World} (h:bV w f Lv Rv R) (hb:aC w w'):bV w' f Lv Rv R:=
 h.kept (S:=fun _=>False) (Kept.dS hb) id (fun _ _=>id) (fun _ _=>id)
theorem Kept.only (w:World) (f i:Nat) (v:Value):Kept (fun k=>k=f) w (w.setCell ⟨f,i,none⟩ v):=(Kept.refl (fun k=>k=f) w).setCell (p:=⟨f,i,none⟩) (aA rfl) v
theorem bV.stored (h:bV w f Lv Rv R) (i:Nat) (v:Value) (R':aU) (hL:R'.L=R.L) (hR:R'.roots=R.roots) (ht:R'.told.length=256) (hu:R'.used.length=256)
  (hc:(Dh Lv Rv R).set i v=Dh Lv Rv R'):bV (w.setCell ⟨f,i,none⟩ v) f Lv Rv R':=by
 have hk:=Kept.only w f i v;refine ⟨?_,by rw [hL];exact bQ hk h.fF h.FH,by rw [hR];exact bQ hk h.o8 h.Uh,ht,hu,by rw [hL];exact h.lens⟩;rw [heap_setCell_same w f i v _ _ _ h.aF,← hc,Af]
theorem bV.QN (h:bV w f Lv Rv R) (b:Int):bV (w.setCell ⟨f,514,none⟩ (.int .i64 b)) f Lv Rv { R with bad:=b }:=by
 refine h.stored 514 _ _ rfl rfl h.told h.used ?_;have ht:=h.told;have hu:=h.used;show Lv :: Rv :: (R.told.map zW++(R.used.map zW++[Value.int .i64 R.bad])).set 512 _=_;rw [Jv _ _ (by simp;omega),Jv _ _ (by simp;omega)];simp [ht,hu,Dh]
theorem bV.att (h:bV w f Lv Rv R) (n k:Nat) (hn:n<256):bV (w.setCell ⟨f,2+n,none⟩ (.int .i64 (k:Int))) f Lv Rv { R with told:=R.told.set n k }:=by
 refine h.stored (2+n) _ _ rfl rfl (by simp [h.told]) h.used ?_;have ht:=h.told;rw [Bh];show Lv :: Rv :: (R.told.map zW++(R.used.map zW++[Value.int .i64 R.bad])).set n _=_;rw [aeb _ _ (by simp;omega)];simp [Dh,zW,MV]
theorem bV.aki (h:bV w f Lv Rv R) (n k:Nat) (hn:n<256):bV (w.setCell ⟨f,258+n,none⟩ (.int .i64 (k:Int))) f Lv Rv { R with used:=R.used.set n k }:=by
 refine h.stored (258+n) _ _ rfl rfl h.told (by simp [h.used]) ?_;have ht:=h.told;have hu:=h.used;rw [show 258+n=(256+n)+2 by omega];show Lv :: Rv :: (R.told.map zW++(R.used.map zW++[Value.int .i64 R.bad])).set (256+n) _=_;rw [Jv _ _ (by simp;omega),tH,ht,Zp,aeb _ _ (by simp;omega)];simp [Dh,zW,MV]
end
theorem Em (c:List UInt8) (at':Int) (w:World) (hc:c.length=64) (h0:0≤at') (h1:at'<63):
  Calls Tryz.prog 136 #[.agg (cv c).toArray,.int .i64 at'] w fun e w'=>e= .returned (.int .i64 (num c at'.toNat:Nat))∧aC w w':=by
 obtain ⟨n,rfl⟩:=CP h0;have b1:=tV c n;have b2:=tV c (n+1);have k1:(w.alloc (.cells (cv c).toArray 38)).cell? ⟨w.heap.size,n,none⟩=some (.int .u8 (aI c n:Nat)):=by
  rw [vX,bW,uO];omega
 have k2:(w.alloc (.cells (cv c).toArray 38)).cell? ⟨w.heap.size,n+1,none⟩=some (.int .u8 (aI c (n+1):Nat)):=by
  rw [vX,bW,uO];omega
 go_enter Tryz.func136,Tryz.ntmps136
 go_wp2
 go_quiet (fail)
 go_wp2;go_ret;refine ⟨?_,?_⟩
 ·simp [num]
 ·exact (((Kept.refl (fun _=>False) w).alloc _).drewN _).below
end
end Go.Proofs.YtknjjjenklfeoaaGreatDoor
