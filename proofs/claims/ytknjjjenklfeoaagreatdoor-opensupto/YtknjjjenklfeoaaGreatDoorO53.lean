/- PROVED HERE: the tied card of vellumlaw.Opens in its second form (OpensUptoCardSaid): at every script of bulk at most 1048576, Opens returns true and the script reads behind the call as it read before. -/
import Derived.Test.YtknjjjenklfeoaaGreatDoorO52
import Derived.Deep.CutRange
import Derived.ChangeSame
import Derived.ProofKit
import Derived.Below
import Derived.Test.YtknjjjenklfeoaaGreatDoorChecked
import Derived.Deep.Slices
import Derived.Deep.DeepHandedRow
import Derived.OpenShut
import Derived.Deep.DeepWitnessRowRef
import Derived.Test.YtknjjjenklfeoaaGreatDoorCards
import Derived.Test.YtknjjjenklfeoaaGreatDoorTie
import Derived.SevenTiedAt
set_option maxHeartbeats 8000000
set_option maxRecDepth 100000
set_option linter.all false
namespace Go.Proofs.YtknjjjenklfeoaaGreatDoor
open Go.RowKit
structure Seen (w:World) (o:nZ):Prop where
 texts:aeY w o
 abb:oQ w
 raw: ∃ ra rn rc ss,o.raw= .slice ra rn rc∧Nk w ra rn ss∧rn≤maxLen
theorem KW.goes {w w':World} {p' b:Nat} {P P':gW} {S S':Nat→Prop} {V:ou} {B:lX} {U:Nat→Prop} (h:KW w w' p' P' S') (hb:iK w b V B U): ∃ P',Holds P'∧ ∃ S' V' B' U',Py w w' p' b P S B U P' S' V' B' U':=
 ⟨P',⟨h.stands,h.base⟩,S',V,B,U,h.Jg hb⟩
theorem aro:Z5 13 true Holds Seen:=by
 intro w p b P S V B U o h hG hb pX hL hms hnx hfl hwl hnl hsn hpl h8;have hG':=hG;obtain ⟨⟨N0,E,hst⟩,hB⟩:=hG';have hcase:(I4 9 true o.kind=true)∨o.kind=10∨o.kind=11∨o.kind=12∨o.kind=13:=by
  unfold I4 at hpl ⊢;simp at hpl ⊢;omega
 rcases hcase with hk | hk | hk | hk | hk
 ·exact arU w p b P S V B U o h hG hb pX hL hms hnx hfl hwl hnl hsn.texts hk h8
 ·refine (UF w p b o _ om (amK _ p b P S N0 E (h.below (sW w o)) hst o hk)).mono ?_;rintro e w' ⟨rfl,hB'⟩;exact ⟨p,rfl,P,hG,S,V,B,U,(Stepped.asked h hb pX hB').Jg⟩
 ·refine (atN w p b P S U N0 E V B h hst hb pX om hB om o hk).mono ?_;rintro e w' ⟨rfl,hE⟩;exact ⟨p,rfl,hE.goes hB⟩
 ·refine (atJ w p b P S N0 E h hst hsn.abb o hk).mono ?_;rintro e w' ⟨p',rfl,P',S',hF⟩;exact ⟨p',rfl,hF.goes hb⟩
 ·obtain ⟨ra,rn,rc,ss,hr,hs,hn⟩:=hsn.raw;refine (atM w p b hsn.abb o ra rn rc ss hr hs hn hk).mono ?_;rintro e w' (⟨rfl,hB'⟩ | ⟨p',rfl,P',S',hF⟩)
  ·exact ⟨p,rfl,P,hG,S,V,B,U,(Stepped.none h hb pX hB').Jg⟩
  ·exact ⟨p',rfl,hF.goes hb⟩
theorem Seen.below {w w':World} {o:nZ} (h:Seen w o) (hb:aC w w'):Seen w' o:=
 ⟨h.texts,h.abb.below hb,let ⟨ra,rn,rc,ss,h1,h2,h3⟩:=h.raw;⟨ra,rn,rc,ss,h1,h2.below hb,h3⟩⟩
theorem arl (w:World) (a:Option Addr) (n cap:Nat) (ops:Nat→nZ) (hs:ZX w a n ops) (hA: ∀ i,i<n→Seen w (ops i)) (hn:n≤1048000):
  Calls Tryz.prog 5 #[.slice a n cap] w fun e w'=>e= .returned (.bool true)∧aC w w':=by
 have H:=ah (arX 13 true Holds apn apo Seen aro w a n cap ops hs (fun i hi w' hb=>(hA i hi).below hb) hn);clear hs hA
 go_enter Tryz.func5,Tryz.ntmps5
 go_wp2_with fail
 refine H.mono ?_;rintro e w' ⟨rfl,hb⟩;have B:=ah hb;clear hb;go_wp2;go_ret;exact ⟨rfl,uh B⟩
section
attribute [local go_sem ↓] dw fP fZ ku kT mQ mW
attribute [local go_sem] dK fO fV gK gy aV kG kY mO lT
end
end Go.Proofs.YtknjjjenklfeoaaGreatDoor
namespace Go.Proofs.YtknjjjenklfeoaaGreatDoor.Row1
open Go.ChangeShapes Go.WideShapes Go.RowKit
def ac4 (P:Program) (t:TypeId):Bool:=
 match P.underlying t with
 | some (.slice e)=>decide (0<P.cellsOf e) && decide (e<P.types.size)
 | some (.pointer e)=>decide (e<P.types.size)
 | some (.struct fs)=>fs.toList.all fun f=>decide (f.type<P.types.size)
 | some (.array _ e)=>decide (e<P.types.size)
 | some (.map _ e)=>decide (e<P.types.size)
 | _=>true
def Shut (P:Program):Prop:= ∀ t,t<P.types.size→ac4 P t=true
theorem atB {P:Program} (h:((List.range P.types.size).all (ac4 P))=true):Shut P:=fun t ht=>Rw.1 h t (Jm.2 ht)
theorem shut:Shut Tryz.prog:=atB kr
section
variable {H:Type} {enc:TypeId × Value→H} {P:Program} {w:World} {base:Nat} {sp:Nat→Bool}
theorem atO (hz:Shut P) {r r':TypeId→List Value→Option (DataW H × List MemPlace)}
  (hr: ∀ t cs x,t<P.types.size→r t cs=some x→(∀ p ∈ x.2,sp p.block=true)→r' t cs=some x) {t:TypeId} {cs:List Value} {x:DataW H × List MemPlace} (hT:t<P.types.size)
  (h:DataW.trodStep enc P w base (fun _=>true) true r t cs=some x) (hs: ∀ p ∈ x.2,sp p.block=true):
  DataW.trodStep enc P w base sp true r' t cs=some x:=by
 have hz':=hz t hT;unfold ac4 at hz';unfold DataW.trodStep at h ⊢
 split at h
 case h_6 e a ht=>
  rw [ht] at hz';have hE:e<P.types.size:=by simpa using hz'
  simp only [Rf,Ru] at h ⊢;obtain ⟨y,⟨cs',hc,hy⟩,rfl⟩:=h;exact ⟨y,⟨cs',hc,hr _ _ _ hE hy (fun p hp=>hs p (by simp [hp]))⟩,rfl⟩
 case h_8 e a len cap ht=>
  rw [ht] at hz';obtain ⟨he0,hE⟩:0<P.cellsOf e∧e<P.types.size:=by simpa using hz'
  simp only [wH] at h ⊢
  split at h
  ·rename_i hc;rw [au hc];simp only [Rf,Ru] at h ⊢;obtain ⟨elems,he,rest,hrest,rfl⟩:=h;have hrl:rest.length=cap - len:=by simpa using mapM_some_length hrest
   have one: ∀ (i:Nat) (y:DataW H × List MemPlace),y ∈ elems++rest→
     (w.cells? base (a.add (i*P.cellsOf e)) (P.cellsOf e)).bind (r e)=some y→(w.cells? base (a.add (i*P.cellsOf e)) (P.cellsOf e)).bind (r' e)=some y:=by
    intro i y hy hv;simp only [Ru] at hv ⊢;obtain ⟨cs',hc',hy'⟩:=hv;refine ⟨cs',hc',hr _ _ _ hE hy' (fun p hp=>hs p ?_)⟩;simp only [gq,Ae];exact ay ⟨y,by simpa using hy,hp⟩
   refine ⟨elems,Ve he (fun i y _ hy=>one i y (by simp [hy])),rest,?_,rfl⟩
   by_cases hcap:cap - len=0
   ·have hr0:rest=[]:=Y8 (hrl.trans hcap);subst hr0;simp [hcap]
   ·have hb:sp a.block=true:=by
     refine hs (.cell a.block (a.off+0)) ?_;refine gq.2 (aA (MemPlace.mem_row.2 ⟨0,?_,rfl⟩));exact Nat.mul_pos om he0
    rw [au hb];exact Ve hrest (fun j y _ hy=>one (len+j) y (by simp [hy]))
  ·cases h
 case h_9 _ fs ht=>
  rw [ht] at hz';have hE: ∀ f ∈ fs.toList,f.type<P.types.size:=fun f hf=>by simpa using Rw.1 hz' f hf
  split at h
  ·rename_i hc;rw [au hc];simp only [Rf] at h ⊢;obtain ⟨xs,hx,rfl⟩:=h;exact ⟨xs,Ve hx (fun f y hf hy hv=>hr _ _ _ (hE f hf) hv (fun p hp=>hs p (Ae.2 ⟨y,hy,hp⟩))),rfl⟩
  ·cases h
 case h_10 _ _ e ht=>
  rw [ht] at hz';have hE:e<P.types.size:=by simpa using hz'
  split at h
  ·rename_i hc;rw [au hc];simp only [Rf] at h ⊢;obtain ⟨xs,hx,rfl⟩:=h;exact ⟨xs,Ve hx (fun f y _ hy hv=>hr _ _ _ hE hv (fun p hp=>hs p (Ae.2 ⟨y,hy,hp⟩))),rfl⟩
  ·cases h
 case h_14 k e b ht=>
  rw [ht] at hz';have hE:e<P.types.size:=by simpa using hz'
  split at h
  ·rename_i es clock hb
   split at h
   ·rename_i hc;simp only [Ru] at h;obtain ⟨entries,he,hd⟩:=h
    split at hd
    ·rename_i hris;have hx:=Rt hd;subst hx;simp only [au hc,Ru];refine ⟨entries,Ve he (fun x y _ hy hv=> ?_),by simp [hris]⟩;simp only [Ru] at hv ⊢;obtain ⟨key,hk,hz⟩:=hv;refine ⟨key,hk,?_⟩
     split at hz
     ·rename_i hf;rw [au hf];simp only [Rf] at hz ⊢;obtain ⟨q,hq,rfl⟩:=hz;exact ⟨q,hr _ _ _ hE hq (fun p hp=>hs p (by simp only [dD,Ae];exact ay ⟨_,hy,hp⟩)),rfl⟩
     ·cases hz
    ·cases hd
   ·cases h
  ·cases h
 all_goals first | exact h | cases h
theorem auC (hz:Shut P): ∀ (n:Nat) (t:TypeId) (cs:List Value) (x:DataW H × List MemPlace),t<P.types.size→
  DataW.trod enc P w base (fun _=>true) true n t cs=some x→(∀ p ∈ x.2,sp p.block=true)→DataW.trod enc P w base sp true n t cs=some x:=by
 intro n
 induction n with
 | zero=>intro t cs x _ h;simp [DataW.trod] at h
 | succ n ih=>
  intro t cs x hT h hs;rw [DataW.trod_step] at h ⊢;exact atO hz ih hT h hs
theorem akP {w':World} (hz:Shut P) (hB:aC w w'):
  ∀ {ts:List TypeId} {vs:List Value} {ds:List (DataW H)} {ps:List MemPlace},(∀ t ∈ ts,t<P.types.size)→DataW.TrodAll enc P w base (fun _=>true) true ts vs ds ps→
   (∀ p ∈ ps,sp p.block=true)→DataW.TrodAll enc P w' base sp true ts vs ds ps
 | [],[],[],_,_,h,_=>h
 | _ :: _,_ :: _,_ :: _,_,hT,⟨a,b,⟨n,h1⟩,h2,e⟩,hs=>by
  subst e;refine ⟨a,b,⟨n,?_⟩,akP hz hB (fun t ht=>hT t (MP _ ht)) h2 (fun p hp=>hs p (List.mem_append_right _ hp)),rfl⟩;have h3:=auC (sp:=sp) hz n _ _ _ (hT _ Ro) h1 (fun p hp=>hs p (List.mem_append_left _ hp));exact DataW.trod_carry n _ _ _ h3 (fun p hp=>hB.same (DataW.trod_lt n _ _ _ h3 p hp))
end
end Go.Proofs.YtknjjjenklfeoaaGreatDoor.Row1
namespace Go.Proofs.YtknjjjenklfeoaaGreatDoor
open Go.RowKit Go.ChangeShapes Go.WideShapes Go.Deep
section
variable {H:Type} {enc:TypeId × Value→H} {w:World} {sp:Nat→Bool}
theorem aja {t e:TypeId} {n:Nat} {c:Value} {x:DataW H × List MemPlace} (ht:Tryz.prog.underlying t=some (.slice e))
  (h:DataW.trod enc Tryz.prog w 0 sp true n t [c]=some x):c.oneCell'=true:=by
 rcases open_slice ht h with ⟨hc,_⟩ | ⟨a,len,cap,_,_,_,_,hc,_⟩
 ·obtain rfl:c= .slice none 0 0:=by simpa using hc
  rfl
 ·obtain rfl:c= .slice (some a) len cap:=by simpa using hc
  rfl
theorem qj {α:Type} {l:List α} (h:l.length=6): ∃ a b c d e f,l=[a,b,c,d,e,f]:=by
 match l,h with
 | [a,b,c,d,e,f],_=>exact ⟨a,b,c,d,e,f,rfl⟩
theorem ai9:Tryz.prog.cellsOf 3=1:=kr
theorem aci:Tryz.prog.cellsOf 9=1:=kr
theorem aq4:Tryz.prog.cellsOf 34=1:=kr
theorem aq3:Tryz.prog.cellsOf 57=1:=kr
def ZV {H:Type} (enc:TypeId × Value→H) (w:World) (sp:Nat→Bool) (o:nZ):Prop:=
 (∃ fuel y,DataW.trod enc Tryz.prog w 0 sp true fuel 34 [o.raw]=some y)∧(∃ fuel y,DataW.trod enc Tryz.prog w 0 sp true fuel 57 [o.gone]=some y)∧ -9223372036854775808≤o.n∧o.n≤9223372036854775807
theorem arh {n:Nat} {cs:List Value} {x:DataW H × List MemPlace} (h:DataW.trod enc Tryz.prog w 0 sp true n 80 cs=some x):
  ∃ o:nZ,cs=dH o∧o.Fits∧(o.text.size≤maxLen∧o.name.size≤maxLen)∧ZV enc w sp o∧ ∃ ys,x.1= .agg ys∧0<ys.length:=by
 obtain ⟨xs,m,_,rfl,hl,hlen,hf⟩:=DataW.trod_struct Tryz.underlying80 h;have hl6:cs.length=6:=hl.trans kr;have hx6:xs.length=6:=hlen;obtain ⟨c0,c1,c2,c3,c4,c5,rfl⟩:=qj hl6;obtain ⟨x0,x1,x2,x3,x4,x5,rfl⟩:=qj hx6;have f0:DataW.trod enc Tryz.prog w 0 sp true m 3 (([c0,c1,c2,c3,c4,c5].drop 0).take (Tryz.prog.cellsOf 3))=some x0:=hf 0 _ rfl;have f1:DataW.trod enc Tryz.prog w 0 sp true m 3 (([c0,c1,c2,c3,c4,c5].drop 1).take (Tryz.prog.cellsOf 3))=some x1:=hf 1 _ rfl;have f2:DataW.trod enc Tryz.prog w 0 sp true m 9 (([c0,c1,c2,c3,c4,c5].drop 2).take (Tryz.prog.cellsOf 9))=some x2:=hf 2 _ rfl;have f3:DataW.trod enc Tryz.prog w 0 sp true m 9 (([c0,c1,c2,c3,c4,c5].drop 3).take (Tryz.prog.cellsOf 9))=some x3:=hf 3 _ rfl;have f4:DataW.trod enc Tryz.prog w 0 sp true m 34 (([c0,c1,c2,c3,c4,c5].drop 4).take (Tryz.prog.cellsOf 34))=some x4:=hf 4 _ rfl
 have f5:DataW.trod enc Tryz.prog w 0 sp true m 57 (([c0,c1,c2,c3,c4,c5].drop 5).take (Tryz.prog.cellsOf 57))=some x5:=hf 5 _ rfl;rw [ai9] at f0;rw [ai9] at f1;rw [aci] at f2;rw [aci] at f3;rw [aq4] at f4;rw [aq3] at f5;change DataW.trod enc Tryz.prog w 0 sp true m _ [c0]=_ at f0;change DataW.trod enc Tryz.prog w 0 sp true m _ [c1]=_ at f1;change DataW.trod enc Tryz.prog w 0 sp true m _ [c2]=_ at f2;change DataW.trod enc Tryz.prog w 0 sp true m _ [c3]=_ at f3;change DataW.trod enc Tryz.prog w 0 sp true m _ [c4]=_ at f4;change DataW.trod enc Tryz.prog w 0 sp true m _ [c5]=_ at f5;obtain ⟨k,hk,_⟩:=DataW.trod_int (k:= .i64) kr f0;obtain ⟨q,hq,_,hwf⟩:=DataW.trod_int (k:= .i64) kr f1;obtain ⟨s,hs,_,hsl⟩:=ad8 kr f2;obtain ⟨u,hu,_,hul⟩:=ad8 kr f3;have g4:=aja Tryz.underlying34 f4;have g5:=aja Tryz.underlying57 f5;obtain rfl:c0= .int .i64 k:=by simpa using hk
 obtain rfl:c1= .int .i64 q:=by simpa using hq
 obtain rfl:c2= .string s:=by simpa using hs
 obtain rfl:c3= .string u:=by simpa using hu
 have hr: -9223372036854775808≤q∧q≤9223372036854775807:=by
  simp [Lit.wf] at hwf;have e1:IntKind.i64.min= -9223372036854775808:=dc;have e2:IntKind.i64.max=9223372036854775807:=dc;omega
 exact ⟨⟨k,q,s,u,c4,c5⟩,rfl,⟨g4,g5⟩,⟨hul,hsl⟩,⟨⟨_,_,f4⟩,⟨_,_,f5⟩,hr⟩,_,rfl,sm⟩
theorem am5: ∀ d:DataW H,1≤Rows.uptoBulk d:=by
 intro d;cases d with
 | lit l=>cases l <;> simp [Rows.uptoBulk]
 | _=>simp [Rows.uptoBulk]
theorem afr: ∀ ds:List (DataW H),ds.length≤Rows.uptoBulkAll ds
 | []=>aP 0
 | d :: r=>by
  have:=am5 d
  have:=afr r
  show r.length+1≤Rows.uptoBulk d+Rows.uptoBulkAll r;omega
theorem afs {D:Nat→DataW H}: ∀ {l:List Nat},(∀ i ∈ l,2≤Rows.uptoBulk (D i))→2*l.length≤Rows.uptoBulkAll (l.map D)
 | [],_=>aP 0
 | i :: r,h=>by
  have h1:=h i Ro;have h2:=afs (D:=D) (l:=r) (fun k hk=>h k (MP _ hk));show 2*(r.length+1)≤Rows.uptoBulk (D i)+Rows.uptoBulkAll (r.map D);omega
theorem ajJ {g o n:Nat} {spot:Option Nat} {cs:List Value} (hn:cs.length=n) (h0:0<n) (h:w.cells? 0 ⟨g,o,spot⟩ n=some cs):(spot=none→w.rangeAt g o cs)∧g<w.heap.size:=by
 refine ⟨fun hs=> ?_,World.cells?_block h h0⟩;subst hs;intro j v hj;unfold World.cells? at h;rw [au (nN _)] at h;have hj':j<n:=by
  rcases Jw j n with h' | h'
  ·exact h'
  ·rw [eu om] at hj;cases hj
 have:=mapM_some_get h j j (by rw [x9 hj'])
 have e:(Addr.add ⟨g,o,none⟩ j)=⟨g,o+j,none⟩:=by
  unfold Addr.add;split
  ·simp
  ·rfl
 rw [e] at this;rw [this,hj]
theorem ani:Tryz.prog.cellsOf 80=6:=kr
theorem ari {fuel:Nat} {a:Option Addr} {len cap:Nat} {x:DataW H × List MemPlace} (h:DataW.trod enc Tryz.prog w 0 (fun _=>true) true fuel 22 [.slice a len cap]=some x):
  ∃ ops:Nat→nZ,ZX w a len ops∧2*len≤Rows.uptoBulk x.1∧ ∀ i,i<len→ZV enc w (fun _=>true) (ops i):=by
 rcases open_slice Tryz.underlying22 h with ⟨hc,rfl⟩ | ⟨b,len',cap',m,n,D,Pl,hc,_,hl,hm,hmm,rfl,hel⟩
 ·obtain ⟨rfl,rfl,rfl⟩:a=none∧len=0∧cap=0:=by simpa using hc
  exact ⟨fun _=>zo,⟨fun h0=>om,fun i hi=>om,fun i hi=>om⟩,om,fun i hi=>om⟩
 ·obtain ⟨rfl,rfl,rfl⟩:a=some b∧len=len'∧cap=cap':=by simpa using hc
  simp only [wH] at hmm;subst hmm;rw [ani] at hel;have each: ∀ i,i<m→ ∃ o:nZ,w.cells? 0 (b.add (i*6)) 6=some (dH o)∧o.Fits∧(o.text.size≤maxLen∧o.name.size≤maxLen)∧2≤Rows.uptoBulk (D i)∧ZV enc w (fun _=>true) o:=by
   intro i hi;obtain ⟨cs,h1,h2⟩:=hel i hi;obtain ⟨o,rfl,ho,ht,hsn,ys,hy,hp⟩:=arh h2;refine ⟨o,h1,ho,ht,?_,hsn⟩;have hy':D i= .agg ys:=hy;rw [hy']
   have:=afr ys
   show 2≤Rows.uptoBulkAll ys+1;omega
  have:Inhabited nZ:=⟨zo⟩
  obtain ⟨ops,hops⟩:=choose_lt each;obtain ⟨g,o,spot⟩:=b;refine ⟨ops,⟨fun h0=> ?_,fun i hi=>(hops i om).2.1,fun i hi=>(hops i om).2.2.1⟩,?_,fun i hi=>(hops i om).2.2.2.2⟩
  ·have h1:=(hops 0 om).1;have hspot:spot=none:=by
    have h2:=h1;unfold World.cells? at h2;rw [au (nN _)] at h2;have h3:=mapM_some_get h2 0 0 rfl;simpa [Addr.add] using World.cell?_spot (h3.trans (rfl:(dH (ops 0))[0]? = some _))
   subst hspot;have hadd: ∀ i,Addr.add ⟨g,o,none⟩ (i*6)=⟨g,o+i*6,none⟩:=by
    intro i;unfold Addr.add;split
    ·simp
    ·rfl
   refine ⟨g,o,rfl,?_,fun i hi=> ?_⟩
   ·rw [hadd] at h1;exact (ajJ (n:=6) rfl dc h1).2
   ·have h4:=(hops i om).1;rw [hadd] at h4;exact (ajJ (n:=6) rfl dc h4).1 rfl
  ·have h5:=afs (D:=D) (l:=List.range len) (fun i hi=>(hops i (by have:=Jm.1 hi;omega)).2.2.2.1);rw [Y5] at h5;show 2*len≤Rows.uptoBulkAll ((List.range len).map D)+Rows.uptoBulkAll _+1;omega
end
section
variable {H:Type} {enc:TypeId × Value→H} {w:World}
theorem atG {a:Addr} {x:Value} (h:w.cell? (a.add 0)=some x):a.spot=none:=by
 have:=World.cell?_spot h
 unfold Addr.add at this;rw [au rfl] at this;exact this
theorem ang {g o i:Nat} {x:Value} (h:w.cell? (Addr.add ⟨g,o,none⟩ i)=some x):w.cell? ⟨g,o+i,none⟩=some x:=by
 rw [Addr.add_mid] at h;exact h
theorem anh {a:Addr} {x:Value} (h:w.cell? a=some x):a.block<w.heap.size:=by
 rcases Jw a.block w.heap.size with y | y
 ·exact y
 ·unfold World.cell? at h;rw [OV y] at h;cases h
theorem ark {fuel:Nat} {a:Option Addr} {len cap:Nat} {sp:Nat→Bool} {x:DataW H × List MemPlace} (h:DataW.trod enc Tryz.prog w 0 sp true fuel 34 [.slice a len cap]=some x):
  ∃ ss:Nat→ByteArray,Nk w a len ss∧len≤maxLen:=by
 rcases open_slice1 Tryz.underlying34 aci h with ⟨hc,rfl⟩ | ⟨b,len',cap',m,n,V,D,Pl,hc,_,hl,hm,hmm,rfl,hel⟩
 ·obtain ⟨rfl,rfl,rfl⟩:a=none∧len=0∧cap=0:=by simpa using hc
  exact ⟨fun _=> .empty,⟨fun h0=>om,fun i hi=>om⟩,nN _⟩
 ·obtain ⟨rfl,rfl,rfl⟩:a=some b∧len=len'∧cap=cap':=by simpa using hc
  have hlm:len≤m:=by rw [hmm];split <;> omega
  have each: ∀ i,i<len→ ∃ s:ByteArray,w.cell? (b.add i)=some (.string s)∧s.size≤maxLen:=by
   intro i hi;obtain ⟨h1,h2⟩:=hel i om;obtain ⟨s,hs,_,hsl⟩:=ad8 kr h2;obtain hs':V i= .string s:=by simpa using hs
   exact ⟨s,by rw [h1,hs'],hsl⟩
  have:Inhabited ByteArray:=⟨.empty⟩
  obtain ⟨ss,hss⟩:=choose_lt each;obtain ⟨g,o,spot⟩:=b;refine ⟨ss,⟨fun h0=> ?_,fun i hi=>(hss i hi).2⟩,om⟩;have hsp:spot=none:=atG (hss 0 h0).1;subst hsp;refine ⟨g,o,rfl,?_,fun i hi=>ang (hss i hi).1⟩
  have:=anh (hss 0 h0).1
  rw [Addr.add_mid] at this;exact this
end
end Go.Proofs.YtknjjjenklfeoaaGreatDoor
namespace Go.Proofs.YtknjjjenklfeoaaGreatDoor.Opens
open Go.ChangeShapes Go.WideShapes Go.ChangeAt Go.RowKit Go.Deep
theorem auE:((Tryz.f5.params.toList).all fun t=>decide (t<Tryz.prog.types.size))=true:=kr
theorem anT (H:Type) (enc:TypeId × Value→H) (W:World) (base:Nat) (args:Array Value) (ds gs:List (DataW H)) (before:List MemPlace)
  (hval: ∀ (j:Nat) t v,Tryz.f5.params[j]? = some t→args[j]? = some v→Value.okWide Tryz.prog W .any base t v)
  (hW:DataW.Whole enc Tryz.prog Tryz.f5.params.toList Rows.opensSpec.vars false W args.toList ds gs before)
  (hsmall:Rows.uptoSmall H (ds++gs)=true) (hG:oQ W):
  Calls Tryz.prog 5 args W fun e W'=> ∃ v,e= .returned v∧Rows.opensSpec.post enc Tryz.prog Tryz.f5 false true false false W args v W':=by
 have hW':=hW;obtain ⟨p,q,hA0,hV,rfl,hfz,hnd⟩:=hW;have hA1:DataW.TrodAll enc Tryz.prog W 0 (fun _=>true) true Tryz.f5.params.toList args.toList ds p:=hA0;have hA:=hA1;rw [Tryz.params5] at hA hval;obtain ⟨v0,d0,rfl,rfl,h0⟩:=trodAll_one hA;obtain ⟨rfl,rfl⟩:=trodVars_none hV;obtain ⟨a,len,cap,rfl⟩:=okWide_slice Tryz.underlying22 (hval 0 22 v0 rfl rfl);obtain ⟨fuel,hf⟩:=h0;obtain ⟨ops,hs,hb,hsn⟩:=ari hf;have hlen:len≤1048000:=by
  have h1:Rows.uptoBulkAll ([d0]++[])≤1048576:=by simpa [Rows.uptoSmall] using hsmall
  have h2:Rows.uptoBulk d0≤Rows.uptoBulkAll ([d0]++[]):=ad3 _ _;have hb':2*len≤Rows.uptoBulk d0:=hb;omega
 simp only [rU] at hW';have hA2: ∀ i,i<len→Seen W (ops i):=fun i hi=>by
  obtain ⟨⟨_,_,h4⟩,_,_⟩:=hsn i hi;refine ⟨hs.text i hi,hG,?_⟩;rcases open_slice Tryz.underlying34 h4 with ⟨hc,_⟩ | ⟨b,l,c,_,_,_,_,hc,_⟩
  all_goals
   have hc':=List.singleton_inj.1 hc;rw [hc'] at h4;obtain ⟨ss,h5,h6⟩:=ark h4;exact ⟨_,_,_,ss,hc',h5,h6⟩
 refine (arl W a len cap ops hs hA2 hlen).mono fun e W' ⟨he,hB⟩=> ?_;subst he;have hT: ∀ t ∈ Tryz.f5.params.toList,t<Tryz.prog.types.size:=fun t ht=>Zo (Rw.1 auE t ht);have hold: ∀ x ∈ p,(fun b=>decide (b<W.heap.size)) x.block=true:=fun x hx=>by simpa using hW'.lt x (by simpa using hx)
 refine ⟨_,rfl,[d0],[],p,[],p,[],hW',?_,?_,rfl,World.keptBut_mono (fun x hx=>⟨hx,ay (aA hx)⟩) (hB.frame _),fun h=>by cases h⟩
 ·exact trodAll_cons_mk (shut_bool kr _) trodAll_mk0
 ·exact Row1.akP Row1.shut hB hT hA1 hold
end Go.Proofs.YtknjjjenklfeoaaGreatDoor.Opens
namespace Go.Proofs.YtknjjjenklfeoaaGreatDoor.Wit
open Go.RowKit
theorem own:ownKnob Tryz.prog.godebug=none:=kr
def low (P:Program):Nat:=(World.holding P default ⟨#[],#[],[]⟩).heap.size
def auk:DataW Unit→List UInt8
 | .iface _ (.ptr (.agg [.lit (.string s)]))=>s
 | _=>[]
def cellOf (d:DataW Unit):Obj:= .cells #[.string ⟨(auk d).toArray⟩] 287
def lay (h:Array Obj) (g:Nat) (v:Value):Array Obj:=h.modify g fun
 | .cells _ t frozen=> .cells #[v] t frozen
 | o=>o
def err (P:Program) (k:Nat):Value:= .iface 267 (.pointer (some ⟨low P+k,0,none⟩))
def TN (P:Program) (os:Os):World:=
 let w0:=World.holding P os ⟨#[cellOf Rows.laid_vellum_volume_errLength,cellOf Rows.laid_vellum_volume_errHead,cellOf Rows.laid_vellum_volume_errList,cellOf Rows.laid_vellum_volume_errCount,cellOf Rows.laid_vellum_volume_errMark,cellOf Rows.laid_vellum_volume_errNowhere,cellOf Rows.laid_vellum_volume_errTwice,cellOf Rows.laid_vellum_volume_errBehind],#[],[]⟩
 let h0:=lay w0.heap 0 (err P 0)
 let h1:=lay h0 1 (err P 1)
 let h2:=lay h1 2 (err P 2)
 let h3:=lay h2 3 (err P 3)
 let h4:=lay h3 4 (err P 4)
 let h5:=lay h4 5 (.iface 246 (.agg #[.pointer (some ⟨10,98,none⟩)]))
 let h6:=lay h5 6 (err P 5)
 let h7:=lay h6 7 (err P 6)
 let h8:=lay h7 8 (err P 7)
 { w0 with heap:=h8 }
theorem apO (os:Os) (args:Array Value):laidMetH Tryz.prog Rows.blocksUptoRow.laid ((TN Tryz.prog os).forCall (fun _ _=>0) ⟨#[],args,[]⟩).memory:=
 laidMetH_of_parts (laidMet_of_run' 8 kr kr) kr
theorem refs (os:Os) (args:Array Value):((TN Tryz.prog os).forCall (fun _ _=>0) ⟨#[],args,[]⟩).variablesRefB Tryz.prog=true:=kr
theorem rows (os:Os) (args:Array Value):(((TN Tryz.prog os).forCall (fun _ _=>0) ⟨#[],args,[]⟩).heap.toList.drop Tryz.prog.globals.size).take ((begin Tryz.prog (fun _ _=>0) default).world.heap.size - Tryz.prog.globals.size)=
   (begin Tryz.prog (fun _ _=>0) default).world.heap.toList.drop Tryz.prog.globals.size:=kr
end Go.Proofs.YtknjjjenklfeoaaGreatDoor.Wit
namespace Go.Proofs.YtknjjjenklfeoaaGreatDoor.Opens
open Go.ChangeShapes Go.WideShapes Go.ChangeAt Go.RowKit
theorem reads (os:Os) {H:Type} (enc:TypeId × Value→H):
  DataW.whole enc Tryz.prog ((Wit.TN Tryz.prog os).forCall (fun _ _=>0) ⟨#[],#[.slice none 0 0],[]⟩).memory Tryz.f5.params.toList Rows.opensSpec.vars false #[Value.slice none 0 0].toList 8=some ([.nil],[],[]):=kr
theorem apW (os:Os) (started:os.Started) (H:Type) (enc:TypeId × Value→H) (F:Stop.Interp):
  ReturnsInHanded {} Tryz.checked os 5 .any ((Rows.OpenSpec.upto Rows.opensSpec).preRow enc Tryz.prog Tryz.f5 Rows.opensUptoRow.domain false Rows.opensUptoRow.laid) (((Rows.OpenSpec.upto Rows.opensSpec).at F).post enc Tryz.prog Tryz.f5 false true false false):=by
 refine returnsInHanded_of_row (C:=Tryz.checked) (s:=Rows.OpenSpec.upto Rows.opensSpec) Wit.own started kr Tryz.func5
  (witness_row_atRef (enc:=enc) (C:=Tryz.checked) false (Wit.TN Tryz.prog os) #[.slice none 0 0] rfl (Wit.refs os _) (Wit.rows os _) kr
   (OpenSpec.preRow_of_cond 8 (reads os enc) kr (fun k hk=>by cases hk;kernel_rfl) kr (Wit.apO os _))) ?_
 intro W base args ds gs before hval hW _ hcond _ hlaid _ _;exact anT H enc W base args ds gs before hval hW (hcond _ rfl) (aoL hlaid)
theorem atg:Rows.OpensUptoSaid:=
 OpenClaim.holds_of_cond 5 Tryz.f5 rfl rfl rfl rfl rfl rfl rfl ⟨rfl,rfl,rfl,rfl,rfl⟩ rfl rfl rfl rfl rfl kr Tryz.func5 kr
  (Zo kr) (by unfold Func.isWrapper;first | (rw [au (by decide +kernel)];kernel_rfl) | (rw [ak (by decide +kernel)];exact ⟨rfl,rfl⟩))
  (fun os started H enc _ F=>by rw [OpenClaim.pre_eq_preRow];exact apW os started H enc F)
theorem plain (f:FuncId) (fn:Func) (hf:Tryz.pinned.checked.prog.funcNamed Rows.opensUptoRow.func=some f) (hfn:Tryz.pinned.checked.prog.funcs[f]? = some fn):
  true=Tryz.pinned.checked.prog.looks []∧ ∀ (j:Nat) t,fn.params[j]? = some t→Tryz.pinned.checked.prog.wantsStandIn t=false:=by
 obtain rfl:f=5:=Rt ((show Tryz.prog.funcNamed Rows.opensUptoRow.func=some 5 by kernel_rfl).symm.trans hf) |>.symm;obtain rfl:fn=Tryz.f5:=(Rt (Tryz.func5.symm.trans hfn)).symm;refine ⟨kr,fun j t ht=> ?_⟩;rw [Tryz.params5] at ht;obtain rfl:t=22:=by simpa using Array.mem_of_getElem? ht
 exact (show Tryz.prog.wantsStandIn 22=false by kernel_rfl)
theorem anf:Rows.OpensUptoCardSaid:=
 Claim7.holds_tied_plain_at .later [] _ _ _ _ atg (fun _ h=>by cases h) kr (fun _ h=>by cases h) opensUpto_row_tie rfl ⟨rfl,rfl⟩ kr rfl plain kr
end Go.Proofs.YtknjjjenklfeoaaGreatDoor.Opens
namespace Go.Proofs.YtknjjjenklfeoaaGreatDoor
theorem opens_upto_card:Rows.OpensUptoCardSaid:=Opens.anf
end Go.Proofs.YtknjjjenklfeoaaGreatDoor
