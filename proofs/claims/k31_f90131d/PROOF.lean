import PyProof.Rows.All
import Wide.All
import OpenK.AllK
import Wide.FinOn
import Lean
import PyProof.EqAt
import PyProof.EqKinds
import PyProof.TupleCall
import PyProof.DictKeyH
import PyProof.DictFindH
import PyProof.StrCalls2
import PyProof.StrCalls3
import PyProof.StrCalls
import PyProof.StrWalks
import PyProof.FString
import KE.KIntText
import PyProof.FitsReplace
import PyProof.StrLawsTight
import PyProof.StrLawsOcc
import PyProof.StrBlockI
import PyProof.SliceStr2
import PyProof.StrLawsChain
import PyProof.StrLaws
import PyProof.Rows.StrJoinMade
import PyProof.StrLawsIdx
import PyProof.StrLawsJoin
import PySem.Challenge.RW_signsmooth_k31_whole_ladders_again
set_option genSizeOf false
set_option bootstrap.genMatcherCode false
set_option Elab.async false
set_option linter.all false
set_option maxRecDepth 100000
set_option exponentiation.threshold 4000
namespace Hx
open PySem PySem.Spec PyProof.Rows
theorem jR:entryFor table "proto.unchain" = some Builtin.«proto.unchain»:=entryFor_of_tree (by kernel_rfl)
section
variable {prog:Program} {w:World} {A:Around} {E:Value->Shared->Prop} {s:Shared}
theorem l9 {α:Type} {a h:Addr} {oa oh:Obj} {us vs:Array Value} {Q:α->Shared->Prop} (hh:A.handled=some (.ref h)) (hne:h ≠ a) (ha:s.heap.get? a=some oa) (hda:oa.data=.fields us) (hsz:2 < us.size)
   (ho:s.heap.get? h=some oh) (hd:oh.data=.fields vs) (h2:vs[2]?=some .none)
   (q:E (.ref a) { s with heap:=s.heap.update a (Obj.mapFields (·.setIfInBounds 2 (.ref h))) }):wpAny (model prog w) A (raiseNew (.ref a):Sem α) Q E s:=by
 unfold raiseNew; refine wpAny_bind (wpAny_handled ?_); rw [hh]
 dsimp only
 rw [if_pos (show (Value.ref h != Value.ref a)=true by simp [hne])]
 refine wpAny_bind (wpAny_holding (wpAny_runValue (codeAny_builtin jR ?_)))
 unfold Builtin.«proto.unchain»
 dsimp only
 refine wpAny_bind (wpAny_field ho hd h2 ?_)
 rw [if_pos (show (Value.none == Value.none)=true by decide)]
 refine wpAny_pure ?_
 show wpAny _ A (do let _ <- updateField a 2 (.ref h); throw (Value.ref a)) _ _ _
 unfold updateField
 refine wpAny_bind (wpAny_bind (wpAny_load ha ?_))
 rw [hda]
 dsimp only
 rw [if_pos hsz]
 exact wpAny_update ha (wpAny_throw q)
theorem nZ {r h:Addr} {v left step:Int} {oh:Obj} {vs:Array Value} {Q:Option Value->Shared->Prop} (hh:A.handled=some (.ref h)) (ho:s.heap.get? h=some oh) (hd:oh.data=.fields vs) (h2:vs[2]?=some .none)
   (hr:IsRangeIter s.heap r v left step) (hl:left<=0) (k:∀ h',Heap.ExtBut r s.heap h'->Q none { s with heap:=h' }):wpAny (model prog w) A (pyNext (.ref r)) Q E s:=by
 have ty:s.TypeIs (.ref r) "range_iterator":=⟨_,hr,rfl⟩
 have hlt:=Heap.lt_size ho
 have fl:∀ {α:Type} {B:Around} {F:Value->Shared->Prop} {R:α->Shared->Prop} (i:Nat) (y:Int) {f:Value->Sem α},(#[rawInt v,rawInt left,rawInt step]:Array Value)[i]?=some (rawInt y)->wpAny (model prog w) B (f (rawInt y)) R F s->wpAny (model prog w) B (field (.ref r) i >>= f) R F s:=by
   intro α B F R i y f e q
   exact wpAny_bind (wpAny_field hr rfl e q)
 unfold pyNext
 refine wpAny_bind (wpAny_attempt (wpAny_callSpecial?_slot (name:=Str.ofString "__next__") ty F.slot_range_iterator_next (wpAny_call_entry F.slot_range_iterator_next ty F.entry_range_iterator_next (fl 0 v rfl (fl 1 left rfl (fl 2 step rfl ?_))) (F.args_range_iterator_next_1 _))))
 show wpAny (model prog w) A.in1 (if left<=0 then _ else _) _ _ s
 rw [if_pos hl]
 refine wpAny_bind (wpAny_rule (wpAny_bind ?_))
 show wpAny _ _ (do let e <- newExc (.type "StopIteration") []; _) _ _ _
 refine wpAny_bind ?_
 simp only [newExc,newTuple]
 refine wpAny_bind (wpAny_newObj_type (wpAny_bind (m:=firstArgMember _ _) (wpAny_of_eq (a:=.none) (by first | rfl | (simp only [firstArgMember]; rfl)) (wpAny_newObj_type ?_ (by size_fits)))) (by size_fits))
 have hg:((s.heap.push { cls:=.type "tuple",data:=.seq ([]:List Value).toArray }).push { cls:=.type "StopIteration",data:=.fields (#[Value.ref s.heap.objs.size,.none,.none,.none,.bool false,.none]++ownMembersOf (.type "StopIteration") []) }).get? (s.heap.push { cls:=.type "tuple",data:=.seq ([]:List Value).toArray }).objs.size
     = some { cls:=.type "StopIteration",data:=.fields (#[Value.ref s.heap.objs.size,.none,.none,.none,.bool false,.none]++ownMembersOf (.type "StopIteration") []) }:=Heap.get?_push_size _ rfl
 refine l9 (h:=h) (A:=A.in1) hh ?_ hg rfl (by rw [Array.size_append]; exact Nat.lt_of_lt_of_le (by decide:2 < 6) (Nat.le_add_right _ _)) (Heap.get?_push_of_some _ (Heap.get?_push_of_some _ ho)) hd h2 ?_
 · intro z
   rw [Heap.size_push] at z
   exact absurd hlt (by rw [z]; exact Nat.not_lt.mpr (Nat.le_succ _))
 have hu:=Heap.get?_update_self (Obj.mapFields (·.setIfInBounds 2 (.ref h))) hg rfl
 refine wpAny_bind (wpAny_isInstance (T:="StopIteration") (b:=true) ⟨_,hu,rfl⟩ isSubtype_stop ?_)
 refine wpAny_pure (k _ λb o hb e=>?_)
 have bl:=Heap.lt_size e
 rw [Heap.get?_update_other _ _ (by intro z; rw [Heap.size_push] at z; exact absurd bl (by rw [<- z]; exact Nat.not_lt.mpr (Nat.le_succ _)))]
 exact Heap.get?_push_of_some _ (Heap.get?_push_of_some _ e)
end
end Hx
set_option linter.all false
set_option maxRecDepth 100000
namespace L2
open PySem PySem.Spec PyProof.Rows
noncomputable abbrev Key:=Sum Int Str
noncomputable def wH:Key->Value->Bool
 | .inl k,v=>Value.isInt k v
 | .inr x,v=>Value.isStrOf x v
noncomputable def Bc (w:World):Key->Int
 | .inl k=>hashInt k
 | .inr x=>hashStr w x
theorem br:∀ {k:Key} {v:Value},wH k v=true->(∃ i t,k=Sum.inl i/\v=Value.int i t)\/(∃ x t,k=Sum.inr x/\v=Value.str x t)
 | .inl i,v,h=>by
   obtain ⟨t,e⟩:=Value.isInt_shape (k:=i) (v:=v) h
   exact .inl ⟨i,t,rfl,e⟩
 | .inr x,v,h=>by
   obtain ⟨t,e⟩:=Value.isStrOf_shape (x:=x) (v:=v) h
   exact .inr ⟨x,t,rfl,e⟩
theorem xZ (a b:Int):decide ((Sum.inl a:Key)=Sum.inl b)=(a == b):=by
 by_cases e:a=b
 · subst e; simp
 · have h:¬ (Sum.inl a:Key)=Sum.inl b:=λq=>e (Sum.inl.inj q)
   rw [decide_eq_false h]
   exact (beq_eq_false_iff_ne.mpr e).symm
theorem yH (a b:Str):decide ((Sum.inr a:Key)=Sum.inr b)=decide (a=b):=by
 by_cases e:a=b
 · subst e; simp
 · have h:¬ (Sum.inr a:Key)=Sum.inr b:=λq=>e (Sum.inr.inj q)
   rw [decide_eq_false h,decide_eq_false e]
theorem yc (a:Int) (b:Str):decide ((Sum.inl a:Key)=Sum.inr b)=false:=decide_eq_false (λq=>nomatch q)
theorem yv (a:Str) (b:Int):decide ((Sum.inr a:Key)=Sum.inl b)=false:=decide_eq_false (λq=>nomatch q)
noncomputable def qb (prog:Program) (w:World):PySem.KeyKind prog w Key where
 is:=wH
 hash:=Bc w
 inj:=λv a b ha hb=>by
   rcases br ha with ⟨i,t,rfl,rfl⟩ | ⟨x,t,rfl,rfl⟩
   · rcases br hb with ⟨j,u,rfl,e⟩ | ⟨y,u,rfl,e⟩
     · injection e with e1 _; rw [e1]
     · exact nomatch e
   · rcases br hb with ⟨j,u,rfl,e⟩ | ⟨y,u,rfl,e⟩
     · exact nomatch e
     · injection e with e1 _; rw [e1]
 byValue:=λk v h=>by
   rcases br h with ⟨i,t,rfl,rfl⟩ | ⟨x,t,rfl,rfl⟩ <;> rfl
 pyHash:=λhv h=>by
   rcases br hv with ⟨i,t,rfl,rfl⟩ | ⟨x,t,rfl,rfl⟩
   · exact wpAny_pyHash_int h
   · exact wpAny_pyHash_str h
 eqBool:=λhu hv h=>by
   rcases br hu with ⟨i,t,rfl,rfl⟩ | ⟨x,t,rfl,rfl⟩
   · rcases br hv with ⟨j,u,rfl,rfl⟩ | ⟨y,u,rfl,rfl⟩
     · rw [xZ] at h; exact wpAny_eqBool_int h
     · rw [yc] at h; exact SeqAt.EqAt.int_str i t y u _ _ _ _ h
   · rcases br hv with ⟨j,u,rfl,rfl⟩ | ⟨y,u,rfl,rfl⟩
     · rw [yv] at h; exact SeqAt.EqAt.str_int x t j u _ _ _ _ h
     · rw [yH] at h; exact wpAny_eqBool_str h
 «strs»:=λk x t v h=>by
   rcases br h with ⟨i,u,rfl,e⟩ | ⟨y,u,rfl,e⟩
   · exact nomatch e
   · injection e with e1 _
     subst e1
     cases v <;> rfl
inductive V where
 | non | bl (b:Bool) | int (i:Int) | str (x:Str) | byt (b:Array UInt8) | flt (b:UInt64) | ref (a:Addr) | ty (n:String)
 deriving DecidableEq
noncomputable def RelV:V->Value->Prop
 | .non,u=>u=Value.none
 | .bl b,u=>u=Value.bool b
 | .int i,u=>∃ t,u=Value.int i t
 | .str x,u=>∃ t,u=Value.str x t
 | .byt b,u=>∃ t,u=Value.bytes b t
 | .flt b,u=>∃ t,u=Value.float b t
 | .ref a,u=>u=Value.ref a
 | .ty n,u=>u=Value.type n
noncomputable abbrev Vals:List V->List Value->Prop:=Paired RelV
theorem Vals.length {xs:List V} {us:List Value} (r:Vals xs us):xs.length=us.length:=Paired.length r
theorem Vals.get:∀ {xs:List V} {us:List Value} {i:Nat} {x:V},Vals xs us->xs[i]?=some x->∃ u,us[i]?=some u/\RelV x u
 | _,_,_,_,.nil,e=>by simp at e
 | _,_,0,_,.cons r _,e=>by simp at e; subst e; exact ⟨_,rfl,r⟩
 | _,_,i + 1,x,.cons _ t,e=>by
   obtain ⟨u,h1,h2⟩:=Vals.get (i:=i) (x:=x) t (by simpa using e)
   exact ⟨u,by simpa using h1,h2⟩
theorem Vals.set {x:V} {u:Value} (r:RelV x u):∀ {xs:List V} {us:List Value} (i:Nat),Vals xs us->Vals (xs.set i x) (us.set i u)
 | _,_,_,.nil=>.nil
 | _,_,0,.cons _ t=>.cons r t
 | _,_,i + 1,.cons q t=>.cons q (Vals.set r i t)
theorem Vals.append:∀ {xs ys:List V} {us ws:List Value},Vals xs us->Vals ys ws->Vals (xs++ys) (us++ws)
 | _,_,_,_,.nil,s=>s
 | _,_,_,_,.cons r t,s=>.cons r (Vals.append t s)
theorem Vals.take:∀ {xs:List V} {us:List Value} (n:Nat),Vals xs us->Vals (xs.take n) (us.take n)
 | _,_,0,_=>.nil
 | _,_,_ + 1,.nil=>.nil
 | _,_,n + 1,.cons r t=>.cons r (Vals.take n t)
theorem Vals.drop:∀ {xs:List V} {us:List Value} (n:Nat),Vals xs us->Vals (xs.drop n) (us.drop n)
 | _,_,0,r=>r
 | _,_,_ + 1,.nil=>.nil
 | _,_,n + 1,.cons _ t=>Vals.drop n t
noncomputable def zK:Option V->Option Value->Prop
 | some v,some u=>RelV v u
 | none,none=>True
 | _,_=>False
noncomputable def KV {κ:Type}:List (κ × V)->List (κ × Value)->Prop:=Paired λ(p:κ × V) (q:κ × Value)=>p.1=q.1/\RelV p.2 q.2
noncomputable def kV:Key->V
 | .inl i=>.int i
 | .inr x=>.str x
inductive HO where
 | lst (xs:List V)
 | tup (xs:List V)
 | dK (kvs:List (Key × V)) | dT (kvs:List (List Key × V))
 | set (S:Int->Bool) (n:Nat)
 | ins (C dx:Addr) (fs:List (Str × V))
 | own (x:Addr)
 | xd (fs:List (Str × V))
 | met (f x:Addr)
 | rng (lo hi:Int)
 | frz (o:Obj) (u:HO)
 | tbl (ps:Array Value)
 | ext (φ:Heap->Prop)
noncomputable abbrev Hp:=Addr->Option HO
noncomputable def upd (H:Hp) (a:Addr) (o:HO):Hp:=λb=>if b=a then some o else H b
theorem aT {H:Hp} {a:Addr} {o:HO}:upd H a o a=some o:=by unfold upd; rw [if_pos rfl]
theorem aK {H:Hp} {a b:Addr} {o:HO} (h:b ≠ a):upd H a o b=H b:=by unfold upd; rw [if_neg h]
theorem aU {H:Hp} {a b:Addr} {o:HO} (h:H a=some o) (h':H b=none):a ≠ b:=by
 intro e; subst e; rw [h] at h'; cases h'
section
variable (P:Program) (w:World)
noncomputable def b9 (H:Hp) (h:Heap) (a:Addr):HO->Prop
 | .lst xs=>xs.length<=sizeLine/\∃ (its:List Value) (n:Nat),Vals xs its/\h.get? a=some { cls:=.type "list",data:=.seq its.toArray n }
 | .tup xs=>xs.length<=sizeLine/\∃ its:List Value,Vals xs its/\IsTup h a its.toArray
 | .dK kvs=>kvs.length<=sizeLine/\(a == sysModules)=false/\∃ vs,KV kvs vs/\h.DictOf (qb P w) a vs
 | .dT kvs=>kvs.length<=sizeLine/\(a == sysModules)=false/\∃ xs:List (List Key × Addr × Value),
     Paired (λ(p:List Key × V) (q:List Key × Addr × Value)=>p.1=q.1/\H q.2.1=some (.tup (p.1.map kV))/\RelV p.2 q.2.2) kvs xs /\
     ∃ o es ep,h.get? a=some o/\o.ExactDict/\o.data=.dict es ep/\es.toList=xs.map (entryOfKey (tupleKind (qb P w)))/\(xs.map (·.1)).Nodup
 | .set S n=>h.SetOf (intKind P w) a S n
 | .ins C dx fs=>H dx=some (.own a)/\fs.length<=1000/\dx ≠ a/\h.get? a=some (PySem.W.instObj C dx) /\
     ∃ mA,h.Ns1 dx mA/\(∀ f,zK (fs.lookup f) (mA f))/\PySem.Within mA (fs.map (·.1))
 | .own _=>∃ o,h.get? a=some o
 | .xd fs=>∃ mA,h.Ns1 a mA/\∀ f,zK (fs.lookup f) (mA f)
 | .rng lo hi=>∃ t u v,h.get? a=some { cls:=.type "range",data:=.fields #[.int lo t,.int hi u,.int 1 v] }
 | .frz o u=>h.get? a=some o/\b9 H h a u
 | .tbl ps=>h.get? a=some { cls:=.none,data:=.fields ps }
 | .met f x=>h.get? a=some (PySem.W.methodObj (.ref f) (.ref x))
 | .ext φ=>φ h/\(∃ o,h.get? a=some o)/\∀ h1 h2:Heap,φ h1->(∀ o,h1.get? a=some o->h2.get? a=some o)->φ h2
noncomputable def HOk (H:Hp) (h:Heap):Prop:=∀ a o,H a=some o->b9 P w H h a o
end
section
variable {P:Program} {w:World} {H H':Hp} {h h':Heap} {a:Addr} {o:HO}
theorem b9.lt (x:b9 P w H h a o):a < h.objs.size:=by
 cases o with
 | lst xs=>obtain ⟨_,_,_,_,e⟩:=x; exact Heap.lt_size e
 | tup xs=>obtain ⟨_,_,_,p⟩:=x; exact p.lt
 | dK kvs=>obtain ⟨_,_,_,_,o,_,_,e,_⟩:=x; exact Heap.lt_size e
 | dT kvs=>obtain ⟨_,_,_,_,o,_,_,e,_⟩:=x; exact Heap.lt_size e
 | set S n=>obtain ⟨o,_,_,_,e,_⟩:=x; exact Heap.lt_size e
 | ins C dx fs=>obtain ⟨_,_,_,e,_⟩:=x; exact Heap.lt_size e
 | own y=>obtain ⟨_,e⟩:=x; exact Heap.lt_size e
 | xd fs=>obtain ⟨_,⟨_,_,_,e,_⟩,_⟩:=x; exact Heap.lt_size e
 | rng lo hi=>obtain ⟨_,_,_,e⟩:=x; exact Heap.lt_size e
 | frz ob u=>obtain ⟨e,_⟩:=x; exact Heap.lt_size e
 | tbl ps=>exact Heap.lt_size (show h.get? a=some _ from x)
 | met f y=>exact Heap.lt_size (show h.get? a=some _ from x)
 | ext φ=>obtain ⟨_,⟨_,e⟩,_⟩:=x; exact Heap.lt_size e
theorem Paired.zJ {α β:Type} {F G:α->β->Prop}:∀ {l₁:List α} {l₂:List β},Paired F l₁ l₂->(∀ a b,F a b->G a b)->Paired G l₁ l₂
 | _,_,.nil,_=>.nil
 | _,_,.cons r t,f=>.cons (f _ _ r) (Paired.zJ t f)
theorem b9.ju (x:b9 P w H h a o) (k:∀ b u,(b=a\/H b=some (.own a))->h.get? b=some u->h'.get? b=some u)
   (ho:∀ b,H b=some (.own a)->H' b=some (.own a)) (ht:∀ b xs,H b=some (.tup xs)->H' b=some (.tup xs)):b9 P w H' h' a o:=by
 induction o with
 | lst xs=>obtain ⟨z,its,n,r,e⟩:=x; exact ⟨z,its,n,r,k _ _ (.inl rfl) e⟩
 | tup xs=>obtain ⟨z,its,r,ob,e,c⟩:=x; exact ⟨z,its,r,ob,k _ _ (.inl rfl) e,c⟩
 | dK kvs=>obtain ⟨z,y,vs,r,ob,es,ep,e,c⟩:=x; exact ⟨z,y,vs,r,ob,es,ep,k _ _ (.inl rfl) e,c⟩
 | dT kvs=>
   obtain ⟨z,y,xs,r,ob,es,ep,e,c⟩:=x
   exact ⟨z,y,xs,Paired.zJ r λp q z=>⟨z.1,ht _ _ z.2.1,z.2.2⟩,ob,es,ep,k _ _ (.inl rfl) e,c⟩
 | set S n=>obtain ⟨ob,es,ep,t,e,c⟩:=x; exact ⟨ob,es,ep,t,k _ _ (.inl rfl) e,c⟩
 | ins C dx fs=>
   obtain ⟨d,z,ne,e,mA,⟨od,es,ep,e2,c⟩,r⟩:=x
   exact ⟨ho _ d,z,ne,k _ _ (.inl rfl) e,mA,⟨od,es,ep,k _ _ (.inr d) e2,c⟩,r⟩
 | own y=>obtain ⟨ob,e⟩:=x; exact ⟨ob,k _ _ (.inl rfl) e⟩
 | xd fs=>obtain ⟨mA,⟨od,es,ep,e,c⟩,r⟩:=x; exact ⟨mA,⟨od,es,ep,k _ _ (.inl rfl) e,c⟩,r⟩
 | rng lo hi=>obtain ⟨t,u,v,e⟩:=x; exact ⟨t,u,v,k _ _ (.inl rfl) e⟩
 | frz ob u ih=>obtain ⟨e,q⟩:=x; exact ⟨k _ _ (.inl rfl) e,ih q⟩
 | tbl ps=>
   have e:h.get? a=some { cls:=.none,data:=.fields ps }:=x
   show h'.get? a=some { cls:=.none,data:=.fields ps }
   exact k a _ (.inl rfl) e
 | met f y=>
   have e:h.get? a=some (PySem.W.methodObj (.ref f) (.ref y)):=x
   show h'.get? a=some (PySem.W.methodObj (.ref f) (.ref y))
   exact k a _ (.inl rfl) e
 | ext φ=>obtain ⟨p,⟨o,e⟩,st⟩:=x; exact ⟨st _ _ p λo q=>k _ _ (.inl rfl) q,⟨o,k _ _ (.inl rfl) e⟩,st⟩
theorem HOk.lt (x:HOk P w H h) (e:H a=some o):a < h.objs.size:=(x a o e).lt
theorem HOk.fresh (x:HOk P w H h) (e:h.objs.size<=a):H a=none:=by
 cases q:H a with
 | none=>rfl
 | some u=>exact absurd (Nat.lt_of_lt_of_le (x.lt q) e) (Nat.lt_irrefl _)
theorem HOk.kept (x:HOk P w H h) (k:∀ b u,h.get? b=some u->h'.get? b=some u):HOk P w H h':=λa o e=>
 (x a o e).ju (λb u _ q=>k b u q) (λ_ q=>q) λ_ _ q=>q
theorem HOk.laid (x:HOk P w H h) (k:∀ b u,h.get? b=some u->h'.get? b=some u) (hp:h.objs.size<=a) (new:b9 P w (upd H a o) h' a o):HOk P w (upd H a o) h':=λb u e=>by
 have hn:=x.fresh hp
 by_cases hb:b=a
 · subst hb; rw [aT] at e; cases e; exact new
 · rw [aK hb] at e
   exact (x b u e).ju (λc v _ q=>k c v q) (λc q=>by rw [aK (aU q hn)]; exact q) λc xs q=>by rw [aK (aU q hn)]; exact q
end
noncomputable def Rd (H:Hp) (a:Addr) (u:HO):Prop:=H a=some u\/∃ o,H a=some (.frz o u)
theorem Rd.ok {P:Program} {w:World} {H:Hp} {h:Heap} {a:Addr} {u:HO} (r:Rd H a u) (x:HOk P w H h):b9 P w H h a u:=by
 rcases r with r | ⟨o,r⟩
 · exact x a u r
 · obtain ⟨_,q⟩:=x a _ r
   exact q
noncomputable def Mut:Option HO->Prop
 | some (.lst _)=>True
 | some (.dK _)=>True
 | some (.dT _)=>True
 | some (.set _ _)=>True
 | some (.ins _ _ _)=>True
 | some (.ext _)=>True
 | _=>False
section
variable {P:Program} {w:World} {H:Hp} {h h':Heap} {x e:Addr} {o':HO}
theorem HOk.write (ok:HOk P w H h) (mu:Mut (H x)) (he:e=x\/H e=some (.own x)) (k:∀ b u,b ≠ e->h.get? b=some u->h'.get? b=some u) (heo:∃ u,h'.get? e=some u)
   (new:b9 P w (upd H x o') h' x o'):HOk P w (upd H x o') h':=λb u q=>by
 have nown:∀ c y,H c=some (.own y)->c ≠ x:=λc y r z=>by subst z; rw [r] at mu; exact mu
 have ntup:∀ c xs,H c=some (.tup xs)->c ≠ x:=λc xs r z=>by subst z; rw [r] at mu; exact mu
 by_cases hb:b=x
 · subst hb; rw [aT] at q; cases q; exact new
 · rw [aK hb] at q
   by_cases hbe:b=e
   · have q':H b=some (.own x):=by
       rcases he with z | z
       · exact absurd (hbe.trans z) hb
       · rw [hbe]; exact z
     rw [q] at q'; cases q'
     obtain ⟨v,hv⟩:=heo
     exact ⟨v,by rw [hbe]; exact hv⟩
   · refine (ok b u q).ju (λc v hc r=>k c v ?_ r) (λc r=>by rw [aK (nown c b r)]; exact r) λc xs r=>by rw [aK (ntup c xs r)]; exact r
     rcases hc with rfl | hc
     · exact hbe
     · rintro rfl
       rcases he with z | z
       · exact nown c b hc z
       · rw [hc] at z; cases z; exact hb rfl
end
structure Un (fs ex:List Addr) (H H':Hp) (h h':Heap):Prop where
 keep:∀ b o,h.get? b=some o->H b=none->b ∉ fs->b ∉ ex->h'.get? b=some o
 slot:∀ b o,h.get? b=some o->H b=none->b ∈ fs->b ∉ ex->∃ sl,h'.get? b=some { o with slots:=sl }
 free:∀ b o,h.get? b=some o->H b=none->b ∉ ex->H' b=none
 there:∀ b o,h.get? b=some o->b ∉ ex->∃ o',h'.get? b=some o'
 tups:∀ b xs,H b=some (.tup xs)->H' b=some (.tup xs)
 frzs:∀ b o u,H b=some (.frz o u)->H' b=some (.frz o u)
 tbls:∀ b ps,H b=some (.tbl ps)->∃ more,H' b=some (.tbl (ps++more))
section
variable {fs fs' ex ex':List Addr} {H H1 H2:Hp} {h h1 h2 h':Heap} {a x e:Addr} {o:HO}
theorem Un.any (u:Un fs ex H H1 h h1) {b:Addr} {ob:Obj} (q:h.get? b=some ob) (n:H b=none) (hx:b ∉ ex):∃ sl,h1.get? b=some { ob with slots:=sl }:=by
 by_cases hb:b ∈ fs
 · exact u.slot b ob q n hb hx
 · exact ⟨ob.slots,u.keep b ob q n hb hx⟩
theorem Un.kept (k:∀ b u,h.get? b=some u->h'.get? b=some u):Un fs ex H H h h':=
 ⟨λb ob q _ _ _=>k b ob q,λb ob q _ _ _=>⟨ob.slots,k b ob q⟩,λ_ _ _ n _=>n,λb ob q _=>⟨ob,k b ob q⟩,λ_ _ q=>q,λ_ _ _ q=>q,λ_ ps q=>⟨#[],by rw [q]; simp⟩⟩
theorem Un.refl:Un fs ex H H h h:=Un.kept λ_ _ q=>q
theorem Un.laid (k:∀ b u,h.get? b=some u->h'.get? b=some u) (hp:h.objs.size<=a) (hn:H a=none):Un fs ex H (upd H a o) h h' where
 keep:=λb u q _ _ _=>k b u q
 slot:=λb u q _ _ _=>⟨u.slots,k b u q⟩
 free:=λb u q n _=>by rw [aK (Nat.ne_of_lt (Nat.lt_of_lt_of_le (Heap.lt_size q) hp))]; exact n
 there:=λb u q _=>⟨u,k b u q⟩
 tups:=λb xs q=>by rw [aK (aU q hn)]; exact q
 frzs:=λb u xs q=>by rw [aK (aU q hn)]; exact q
 tbls:=λb ps q=>⟨#[],by rw [aK (aU q hn),q]; simp⟩
theorem Un.write (mu:Mut (H x)) (he:e=x\/H e=some (.own x)) (k:∀ b u,b ≠ e->h.get? b=some u->h'.get? b=some u) (heo:∃ u,h'.get? e=some u):Un fs ex H (upd H x o) h h':=by
 have hx:∀ b,H b=none->b ≠ x:=λb n z=>by subst z; rw [n] at mu; exact mu
 have hb:∀ b,H b=none->b ≠ e:=λb n z=>by
   subst z
   rcases he with r | r
   · exact hx b n r
   · rw [n] at r; cases r
 have hm:∀ b u,H b=some u->¬ Mut (some u)->b ≠ x:=λb u q nm z=>by subst z; rw [q] at mu; exact nm mu
 refine ⟨λb u q n _ _=>k b u (hb b n) q,λb u q n _ _=>⟨u.slots,k b u (hb b n) q⟩,λb u q n _=>by rw [aK (hx b n)]; exact n,λb u q _=>?_,
   λb xs q=>by rw [aK (hm b _ q λz=>z)]; exact q,λb u xs q=>by rw [aK (hm b _ q λz=>z)]; exact q,λb ps q=>⟨#[],by rw [aK (hm b _ q λz=>z),q]; simp⟩⟩
 by_cases hbe:b=e
 · subst hbe; exact heo
 · exact ⟨u,k b u hbe q⟩
end
noncomputable def trk (h:Heap) (H:Hp):List Addr:=(List.range h.objs.size).filter λa=>(H a).isSome
noncomputable def j6 (h:Heap) (H:Hp):Heap:=PySem.W.hideAll h (trk h H)
theorem qU (h:Heap) (H:Hp):(j6 h H).objs.size=h.objs.size:=PySem.W.hideAll_size _ _
theorem tX {h:Heap} {H:Hp} {b:Addr} {o:Obj} (e:h.get? b=some o) (n:H b=none):(j6 h H).get? b=some o:=
 PySem.W.hideAll_get _ e λhm=>by
   have q:(H b).isSome=true:=(List.mem_filter.mp hm).2
   rw [n] at q; simp at q
theorem vX {h:Heap} {H:Hp} {b:Addr} {o:Obj} (e:(j6 h H).get? b=some o):h.get? b=some o/\H b=none:=by
 have e':h.get? b=some o:=PySem.W.of_hideAll (trk h H) e
 refine ⟨e',?_⟩
 cases q:H b with
 | none=>rfl
 | some x=>
   have hm:b ∈ trk h H:=List.mem_filter.mpr ⟨List.mem_range.mpr (Heap.lt_size e'),by simp [q]⟩
   have z:(j6 h H).get? b=none:=PySem.W.hideAll_none (trk h H) hm
   rw [z] at e; cases e
noncomputable def vg (g h:Heap) (L:Addr):List (Addr × Obj):=(List.range h.objs.size).filterMap λa=>if a=L\/(g.get? a).isSome=true then none else (h.get? a).map λo=>(a,o)
noncomputable def rest (g h:Heap) (L d:Addr):List (Addr × Obj):=(vg g h L).filter λp=>decide (p.1 ≠ d)
structure Mod (K:PySem.W.Frag) (mg:Str->Option Value) (base:Heap):Prop where
 kin:K.In base
 glob:base.Ns mainGlobals mg
 blt:∃ mb,base.Ns builtinsNs mb/\∀ x:Str,x ≠ "__name__" -> mb x=bootBuiltins x
 nolimit:base.NoLimit
structure Cx where
 prog:Program
 w:World
 K:PySem.W.Frag
 mg:Str->Option Value
 base:Heap
 A:Around
 N:List Str
 s₀:Shared
 H₀:Hp
 env:Env
 outer:List Env
 stack:List Env
 ex:List Addr
 fn:Str->Bool
 calm:Bool
 pn:List (Addr × Obj)
 xe:Value->Shared->Prop
noncomputable def frs (l:List Env):List Addr:=l.filterMap (·.frame)
noncomputable abbrev Cx.fs (X:Cx):List Addr:=frs X.outer
noncomputable def Vis (sc:Scope) (x:Str):Prop:=sc.names.lookup x=some .local\/sc.names.lookup x=some .cell\/sc.names.lookup x=some .free
noncomputable def Loc (sc:Scope) (x:Str):Prop:=sc.names.lookup x=some .local\/sc.names.lookup x=some .cell
noncomputable def Look (env:Env) (h:Heap) (m:Str->Option Value) (x:Str) (u:Value):Prop:=
 (env.kindOf x=some .local/\m x=some u)\/((env.kindOf x=some .cell\/env.kindOf x=some .free)/\∃ c,env.cells.lookup x=some c/\h.IsCell c (some u))
structure Cx.Ok (X:Cx):Prop where
 mod:Mod X.K X.mg X.base
 kind:X.env.scope.kind=.function
 glob:X.env.globals=mainGlobals
 blt:X.env.builtins=builtinsNs
 above:X.s₀.heap.objs.size<=X.env.locals
 inj:∀ x y c,X.env.cells.lookup x=some c->X.env.cells.lookup y=some c->x=y
 has:∀ x,(X.env.kindOf x=some .cell\/X.env.kindOf x=some .free)->∃ c,X.env.cells.lookup x=some c
 cab:∀ x c,X.fn x=true->X.env.cells.lookup x=some c->X.s₀.heap.objs.size<=c
 hd:X.calm=true->X.A.handled=none
 frames:X.A.frames=some X.stack
 stk:X.stack=X.outer\/(X.stack=X.env :: X.outer/\X.env.frame=some X.env.locals)
 exf:∀ b ∈ X.ex,b ≠ X.env.locals/\∀ x c,X.env.cells.lookup x=some c->c ≠ b
 bs:∀ b o,X.base.get? b=some o->X.s₀.heap.get? b=some o/\X.H₀ b=none
 bsz:X.base.objs.size<=X.s₀.heap.objs.size
 noex:∀ b o,X.base.get? b=some o->b ∉ X.ex
 exfs:∀ b ∈ X.ex,b ∉ X.fs
 jP:X.s₀.heap.FunFrames X.base X.outer
 frf:∀ b ∈ X.fs,X.H₀ b=none
structure Inv (X:Cx) (pins:List (Addr × Obj)) (σ:List (Option V)) (H:Hp) (s:Shared):Prop where
 ok:X.Ok
 os:s.os=X.s₀.os
 bare:AllBare s.gens
 base:Un X.fs X.ex X.H₀ H X.s₀.heap s.heap
 loc:∃ m,s.heap.Ns X.env.locals m/\∀ (i:Nat) (x:Str) (v:V),X.N[i]?=some x->σ[i]?=some (some v)->Vis X.env.scope x->∃ u,RelV v u/\Look X.env s.heap m x u
 cell:∀ x c,X.env.cells.lookup x=some c->∃ v,s.heap.IsCell c v
 free:H X.env.locals=none
 freeC:∀ x c,X.env.cells.lookup x=some c->H c=none
 pin:∀ p ∈ X.pn++pins,s.heap.get? p.1=some p.2/\H p.1=none/\p.1 ≠ X.env.locals/\p.1 ∉ X.fs/\∀ v,p.2.data ≠ .cell v
 hok:HOk X.prog X.w H s.heap
 len:σ.length=X.N.length
section
variable {X:Cx} {pins:List (Addr × Obj)} {σ:List (Option V)} {H H':Hp} {s:Shared} {h':Heap}
theorem Cx.Ok.A6 (ok:X.Ok) {b:Addr} {o:Obj} (e:X.base.get? b=some o):b ∉ X.fs:=λhb=>by
 have:=(ok.jP.mem hb).1
 rw [e] at this; cases this
theorem Inv.bs (I:Inv X pins σ H s):∀ b o,X.base.get? b=some o->s.heap.get? b=some o/\H b=none:=λb o e=>
 ⟨I.base.keep b o (I.ok.bs b o e).1 (I.ok.bs b o e).2 (I.ok.A6 e) (I.ok.noex b o e),I.base.free b o (I.ok.bs b o e).1 (I.ok.bs b o e).2 (I.ok.noex b o e)⟩
theorem Inv.bk (I:Inv X pins σ H s):∀ b o,X.base.get? b=some o->s.heap.get? b=some o:=λb o e=>(I.bs b o e).1
theorem Inv.mod (I:Inv X pins σ H s):Mod X.K X.mg X.base:=I.ok.mod
theorem Inv.kIn (I:Inv X pins σ H s):X.K.In s.heap:=I.ok.mod.kin.keeps I.bk
theorem Inv.nolimit (I:Inv X pins σ H s):s.heap.NoLimit:=I.ok.mod.nolimit.keeps I.bk
theorem Inv.lt (I:Inv X pins σ H s):X.env.locals < s.heap.objs.size:=let ⟨_,hn,_⟩:=I.loc; hn.lt
theorem Inv.sz (I:Inv X pins σ H s):X.s₀.heap.objs.size<=s.heap.objs.size:=Nat.le_trans I.ok.above (Nat.le_of_lt I.lt)
theorem Inv.AS (I:Inv X pins σ H s) {a:Addr} (h:s.heap.objs.size<=a):a ∉ X.fs:=λhb=>by
 obtain ⟨_,o,ho,_⟩:=I.ok.jP.mem hb
 exact absurd (Nat.lt_of_lt_of_le (Heap.lt_size ho) (Nat.le_trans I.sz h)) (Nat.lt_irrefl _)
theorem Inv.cne (I:Inv X pins σ H s):∀ x c,X.env.cells.lookup x=some c->c ≠ X.env.locals:=λx c e z=>by
 obtain ⟨v,o,ho,hd⟩:=I.cell x c e
 obtain ⟨m,⟨o',es,ep,ho',hd',_⟩,_⟩:=I.loc
 rw [z,ho'] at ho; cases ho; rw [hd'] at hd; cases hd
theorem Inv.jP (I:Inv X pins σ H s):s.heap.FunFrames X.base X.outer:=by
 have all:∀ (l:List Env),(∀ b ∈ frs l,b ∈ X.fs)->X.s₀.heap.FunFrames X.base l->s.heap.FunFrames X.base l:=by
   intro l
   induction l with
   | nil=>intro _ _; trivial
   | cons env r ih=>
     intro hs hl
     obtain ⟨hk,⟨L,o,hf,hn,ho,hd⟩,hr⟩:=hl
     have hL:L ∈ X.fs:=hs L (by unfold frs; rw [List.filterMap_cons,hf]; exact List.mem_cons_self)
     obtain ⟨sl,e⟩:=I.base.slot L o ho (I.ok.frf L hL) hL λz=>I.ok.exfs L z hL
     exact ⟨hk,⟨L,_,hf,hn,e,hd⟩,ih (λb hb=>hs b (by unfold frs; rw [List.filterMap_cons,hf]; exact List.mem_cons_of_mem _ hb)) hr⟩
 exact all X.outer (λ_ hb=>hb) I.ok.jP
theorem Inv.stack (I:Inv X pins σ H s):s.heap.FunFrames X.base X.stack:=by
 rcases I.ok.stk with e | ⟨e,hf⟩
 · rw [e]; exact I.jP
 · rw [e]
   obtain ⟨m,hn,_⟩:=I.loc
   refine .cons (by rw [I.ok.kind]; decide) hf hn ?_ I.jP
   exact Heap.get?_none_of_le (Nat.le_trans I.ok.bsz I.ok.above)
theorem Inv.oe (I:Inv X pins σ H s):∀ b ∈ frs X.stack,b ∈ X.env.locals :: X.fs:=λb hb=>by
 rcases I.ok.stk with e | ⟨e,hf⟩
 · rw [e] at hb; exact List.mem_cons_of_mem _ hb
 · rw [e] at hb
   unfold frs at hb
   rw [List.filterMap_cons,hf] at hb
   exact hb
theorem Inv.oO (I:Inv X pins σ H s):∀ b ∈ frs X.stack,H b=none:=λb hb=>by
 rcases List.mem_cons.mp (I.oe b hb) with e | hb
 · rw [e]; exact I.free
 · obtain ⟨_,o,ho,_⟩:=I.ok.jP.mem hb
   exact I.base.free b o ho (I.ok.frf b hb) λz=>I.ok.exfs b z hb
theorem Inv.step {g':Array GenState} {t':Nat} {d':Drawn} {ch:List Addr} (I:Inv X pins σ H s)
   (hch:∀ b ∈ ch,(b ∈ X.ex\/X.s₀.heap.objs.size<=b)/\b ≠ X.env.locals/\(∀ x c,X.env.cells.lookup x=some c->c ≠ b)/\∀ p ∈ X.pn++pins,p.1 ≠ b)
   (keep:∀ b o,b ≠ X.env.locals->b ∉ X.fs->b ∉ ch->s.heap.get? b=some o->H b=none->h'.get? b=some o)
   (slot:∀ b o,b ≠ X.env.locals->b ∈ X.fs->b ∉ ch->s.heap.get? b=some o->H b=none->∃ sl,h'.get? b=some { o with slots:=sl }) (free:∀ b o,b ∉ ch->s.heap.get? b=some o->H b=none->H' b=none)
   (there:∀ b o,b ∉ ch->s.heap.get? b=some o->∃ o',h'.get? b=some o')
   (tups:∀ b xs,H b=some (.tup xs)->H' b=some (.tup xs)) (frzs:∀ b o u,H b=some (.frz o u)->H' b=some (.frz o u)) (tbls:∀ b ps,H b=some (.tbl ps)->∃ more,H' b=some (.tbl (ps++more)))
   (ns:∀ m,s.heap.Ns X.env.locals m->h'.Ns X.env.locals m) (hok:HOk X.prog X.w H' h') (hg:AllBare g') :
   Inv X pins σ H' { s with heap:=h',gens:=g',drawn:=d',toks:=t' }:=by
 have neL:∀ b o,X.s₀.heap.get? b=some o->b ≠ X.env.locals:=λb o e=>Nat.ne_of_lt (Nat.lt_of_lt_of_le (Heap.lt_size e) I.ok.above)
 have neC:∀ b o,X.s₀.heap.get? b=some o->b ∉ X.ex->b ∉ ch:=λb o e hx hb=>by
   rcases (hch b hb).1 with z | z
   · exact hx z
   · exact absurd (Nat.lt_of_lt_of_le (Heap.lt_size e) z) (Nat.lt_irrefl _)
 have cellK:∀ x c,X.env.cells.lookup x=some c->∀ v,s.heap.IsCell c v->h'.IsCell c v:=λx c e v ⟨o,ho,hd⟩=>by
   have nch:c ∉ ch:=λz=>(hch c z).2.2.1 x c e rfl
   by_cases hc:c ∈ X.fs
   · obtain ⟨sl,q⟩:=slot c o (I.cne x c e) hc nch ho (I.freeC x c e)
     exact ⟨_,q,hd⟩
   · exact ⟨o,keep c o (I.cne x c e) hc nch ho (I.freeC x c e),hd⟩
 refine ⟨I.ok,I.os,hg,⟨λb o e n hb hx=>?_,λb o e n hb hx=>?_,λb o e n hx=>?_,λb o e hx=>?_,λb xs e=>tups b xs (I.base.tups b xs e),λb o xs e=>frzs b o xs (I.base.frzs b o xs e),λb ps e=>?_⟩,?_,λx c e=>?_,?_,λx c e=>?_,λp hp=>?_,hok,I.len⟩
 · exact keep b o (neL b o e) hb (neC b o e hx) (I.base.keep b o e n hb hx) (I.base.free b o e n hx)
 · obtain ⟨sl,e1⟩:=I.base.slot b o e n hb hx
   obtain ⟨sl',e2⟩:=slot b _ (neL b o e) hb (neC b o e hx) e1 (I.base.free b o e n hx)
   exact ⟨sl',e2⟩
 · obtain ⟨o',e1⟩:=I.base.there b o e hx
   exact free b o' (neC b o e hx) e1 (I.base.free b o e n hx)
 · obtain ⟨o',e1⟩:=I.base.there b o e hx
   exact there b o' (neC b o e hx) e1
 · obtain ⟨m1,e1⟩:=I.base.tbls b ps e
   obtain ⟨m2,e2⟩:=tbls b _ e1
   exact ⟨m1++m2,by rw [e2,Array.append_assoc]⟩
 · obtain ⟨m,hn,hl⟩:=I.loc
   refine ⟨m,ns m hn,λi x v e1 e2 e3=>?_⟩
   obtain ⟨u,r,l⟩:=hl i x v e1 e2 e3
   refine ⟨u,r,?_⟩
   rcases l with l | ⟨k,c,e,z⟩
   · exact .inl l
   · exact .inr ⟨k,c,e,cellK x c e _ z⟩
 · obtain ⟨v,z⟩:=I.cell x c e
   exact ⟨v,cellK x c e v z⟩
 · obtain ⟨m,⟨o,_,_,ho,_⟩,_⟩:=I.loc
   exact free _ o (λz=>(hch _ z).2.1 rfl) ho I.free
 · obtain ⟨v,o,ho,hd⟩:=I.cell x c e
   exact free c o (λz=>(hch c z).2.2.1 x c e rfl) ho (I.freeC x c e)
 · obtain ⟨e,n,ne,nf,d⟩:=I.pin p hp
   have nch:p.1 ∉ ch:=λz=>(hch p.1 z).2.2.2 p hp rfl
   exact ⟨keep p.1 p.2 ne nf nch e n,free p.1 p.2 nch e n,ne,nf,d⟩
theorem Inv.un {t':Nat} (I:Inv X pins σ H s) (u:Un X.fs [] H H' s.heap h') (hok:HOk X.prog X.w H' h'):Inv X pins σ H' { s with heap:=h',toks:=t' }:=by
 obtain ⟨m,⟨o,es,ep,ho,r⟩,_⟩:=id I.loc
 obtain ⟨sl,hL⟩:=u.any ho I.free (by simp)
 exact I.step (g':=s.gens) (d':=s.drawn) (ch:=[]) (λ_ z=>nomatch z) (λb o _ hb _ e n=>u.keep b o e n hb (by simp)) (λb o _ hb _ e n=>u.slot b o e n hb (by simp)) (λb o _ e n=>u.free b o e n (by simp)) (λb o _ e=>u.there b o e (by simp)) u.tups u.frzs u.tbls (λm' hm=>by
   obtain ⟨o',es',ep',ho',r'⟩:=hm
   rw [ho] at ho'; cases ho'
   exact ⟨_,es',ep',hL,r'⟩) hok I.bare
theorem Inv.call {g':Array GenState} {t':Nat} {d':Drawn} {ch:List Addr} (I:Inv X pins σ H s) (u:Un (frs X.stack) ch H H' s.heap h') (hok:HOk X.prog X.w H' h') (hg:AllBare g')
   (hch:∀ b ∈ ch,(b ∈ X.ex\/X.s₀.heap.objs.size<=b)/\b ≠ X.env.locals/\(∀ x c,X.env.cells.lookup x=some c->c ≠ b)/\∀ p ∈ X.pn++pins,p.1 ≠ b) :
   Inv X pins σ H' { s with heap:=h',gens:=g',drawn:=d',toks:=t' }:=by
 obtain ⟨m,⟨o,es,ep,ho,r⟩,_⟩:=id I.loc
 obtain ⟨sl,hL⟩:=u.any ho I.free λz=>(hch _ z).2.1 rfl
 exact I.step (ch:=ch) hch (λb o hL hb hc e n=>u.keep b o e n (λz=>(List.mem_cons.mp (I.oe b z)).elim hL hb) hc) (λb o _ _ hc e n=>u.any e n hc) (λb o hc e n=>u.free b o e n hc) (λb o hc e=>u.there b o e hc) u.tups u.frzs u.tbls (λm' hm=>by
   obtain ⟨o',es',ep',ho',r'⟩:=hm
   rw [ho] at ho'; cases ho'
   exact ⟨_,es',ep',hL,r'⟩) hok hg
theorem Inv.turned {t':Nat} {it:Addr} (I:Inv X pins σ H s) (k:∀ b o,b ≠ it->s.heap.get? b=some o->h'.get? b=some o) (hn:H it=none) (hL:it ≠ X.env.locals)
   (h1:it ∈ X.ex\/X.s₀.heap.objs.size<=it) (h2:∀ x c,X.env.cells.lookup x=some c->c ≠ it) (h3:∀ p ∈ X.pn++pins,p.1 ≠ it):Inv X pins σ H { s with heap:=h',toks:=t' }:=by
 have nit:∀ b u,H b=some u->b ≠ it:=λb u e z=>by rw [z,hn] at e; cases e
 refine I.step (g':=s.gens) (d':=s.drawn) (ch:=[it]) (λb hb=>?_) (λb o _ _ hc e _=>k b o (λz=>hc (by simp [z])) e) (λb o _ _ hc e _=>⟨o.slots,k b o (λz=>hc (by simp [z])) e⟩) (λ_ _ _ _ n=>n)
   (λb o hc e=>⟨o,k b o (λz=>hc (by simp [z])) e⟩) (λ_ _ e=>e) (λ_ _ _ e=>e) (λb ps e=>⟨#[],by rw [e]; simp⟩) (λm hm=>?_) (λb u e=>?_) I.bare
 · have e:b=it:=by simpa using hb
   subst e
   exact ⟨h1,hL,h2,h3⟩
 · obtain ⟨o,es,ep,ho,r⟩:=hm
   exact ⟨o,es,ep,k _ o (Ne.symm hL) ho,r⟩
 · refine (I.hok b u e).ju (λc v hc q=>k c v ?_ q) (λ_ q=>q) λ_ _ q=>q
   rcases hc with z | z
   · rw [z]; exact nit b u e
   · exact nit c _ z
theorem Inv.tok (I:Inv X pins σ H s) (t:Nat):Inv X pins σ H { s with toks:=t }:=I.un (h':=s.heap) (t':=t) Un.refl I.hok
theorem Inv.kept {t':Nat} (I:Inv X pins σ H s) (k:∀ b u,s.heap.get? b=some u->h'.get? b=some u):Inv X pins σ H { s with heap:=h',toks:=t' }:=I.un (Un.kept k) (I.hok.kept k)
theorem Inv.laid {a:Addr} {o:HO} {t':Nat} (I:Inv X pins σ H s) (k:∀ b u,s.heap.get? b=some u->h'.get? b=some u) (hp:s.heap.objs.size<=a) (new:b9 X.prog X.w (upd H a o) h' a o) :
   Inv X pins σ (upd H a o) { s with heap:=h',toks:=t' }:=I.un (Un.laid k hp (I.hok.fresh hp)) (I.hok.laid k hp new)
theorem Inv.write {x e:Addr} {o:HO} {t':Nat} (I:Inv X pins σ H s) (mu:Mut (H x)) (he:e=x\/H e=some (.own x)) (k:∀ b u,b ≠ e->s.heap.get? b=some u->h'.get? b=some u) (heo:∃ u,h'.get? e=some u)
   (new:b9 X.prog X.w (upd H x o) h' x o):Inv X pins σ (upd H x o) { s with heap:=h',toks:=t' }:=I.un (Un.write mu he k heo) (I.hok.write mu he k heo new)
theorem Inv.pI {pins':List (Addr × Obj)} (I:Inv X pins σ H s) (h:∀ p ∈ pins',s.heap.get? p.1=some p.2/\H p.1=none/\p.1 ≠ X.env.locals/\p.1 ∉ X.fs/\∀ v,p.2.data ≠ .cell v):Inv X pins' σ H s:=
 ⟨I.ok,I.os,I.bare,I.base,I.loc,I.cell,I.free,I.freeC,λp hp=>(List.mem_append.mp hp).elim (λz=>I.pin p (List.mem_append_left _ z)) (h p),I.hok,I.len⟩
theorem mX {N:List Str} (hN:N.Nodup) {i j:Nat} {x:Str} (a:N[i]?=some x) (b:N[j]?=some x):i=j:=by
 obtain ⟨h1,e1⟩:=List.getElem?_eq_some_iff.mp a
 obtain ⟨h2,e2⟩:=List.getElem?_eq_some_iff.mp b
 exact (List.getElem_inj hN).mp (e1.trans e2.symm)
theorem qC {M:Model} {A:Around} {E:Value->Shared->Prop} {i:Nat} {x:Str} {v:V} {u:Value} {Q:Unit->Shared->Prop} (I:Inv X pins σ H s) (hN:X.N.Nodup) (hi:X.N[i]?=some x) (hx:Loc X.env.scope x) (r:RelV v u)
   (h:∀ s',Inv X pins (σ.set i (some v)) H s'->(∃ a,Heap.SameBut a s.heap s'.heap/\(a=X.env.locals\/X.env.cells.lookup x=some a))->Q () s') (hf:X.fn x=true\/X.env.scope.names.lookup x=some .local:=by first | exact .inl rfl | exact .inr rfl | assumption):wpAny M A (storeName X.env x u) Q E s:=by
 obtain ⟨m,hn,hl⟩:=id I.loc
 have hcls:(X.env.scope.kind == .class || (X.env.scope.kind == .module && X.env.locals != X.env.globals))=false:=by rw [I.ok.kind]; rfl
 have hiσ:i < σ.length:=by rw [I.len]; exact (List.getElem?_eq_some_iff.mp hi).1
 have cne:=I.cne
 have tracked:∀ {a:Addr} {h':Heap},(∃ o,s.heap.get? a=some o/\H a=none)->Heap.SameBut a s.heap h'->HOk X.prog X.w H h':=λ{a h'} ha hs b ob e=>by
   obtain ⟨_,_,hfree⟩:=ha
   refine (I.hok b ob e).ju (λc w' hc q=>(hs.2 c ?_).trans q) (λ_ q=>q) λ_ _ q=>q
   rintro rfl
   rcases hc with rfl | hc
   · rw [hfree] at e; cases e
   · rw [hfree] at hc; cases hc
 rcases hx with hk | hk
 · refine wpAny_storeName_local hk hn (λh' hn' hs=>?_) hcls
   obtain ⟨oL,_,_,hoL,_⟩:=id hn
   refine h _ ⟨I.ok,I.os,I.bare,⟨λb o e n hb hx=>?_,λb o e n hb hx=>?_,I.base.free,λb o e hx=>?_,I.base.tups,I.base.frzs,I.base.tbls⟩,⟨_,hn',λj y v' e1 e2 e3=>?_⟩,λy c e=>?_,I.free,I.freeC,λp hp=>?_,tracked ⟨oL,hoL,I.free⟩ hs,by simpa using I.len⟩ ⟨_,hs,.inl rfl⟩
   · exact (hs.2 b (Nat.ne_of_lt (Nat.lt_of_lt_of_le (Heap.lt_size e) I.ok.above))).trans (I.base.keep b o e n hb hx)
   · obtain ⟨sl,e1⟩:=I.base.slot b o e n hb hx
     exact ⟨sl,(hs.2 b (Nat.ne_of_lt (Nat.lt_of_lt_of_le (Heap.lt_size e) I.ok.above))).trans e1⟩
   · obtain ⟨o',e1⟩:=I.base.there b o e hx
     exact ⟨o',(hs.2 b (Nat.ne_of_lt (Nat.lt_of_lt_of_le (Heap.lt_size e) I.ok.above))).trans e1⟩
   · by_cases hj:j=i
     · subst hj
       rw [hi] at e1; cases e1
       rw [List.getElem?_set_self hiσ] at e2
       cases e2
       exact ⟨u,r,.inl ⟨hk,by simp⟩⟩
     · rw [List.getElem?_set_ne (Ne.symm hj)] at e2
       obtain ⟨u',r',q⟩:=hl j y v' e1 e2 e3
       refine ⟨u',r',?_⟩
       rcases q with ⟨k,e⟩ | ⟨k,c,e,z⟩
       · refine .inl ⟨k,?_⟩
         have:y ≠ x:=λe=>hj (mX hN e1 (e ▸ hi))
         simp [this,e]
       · exact .inr ⟨k,c,e,z.sameBut hs (cne y c e)⟩
   · obtain ⟨w',z⟩:=I.cell y c e
     exact ⟨w',z.sameBut hs (cne y c e)⟩
   · obtain ⟨e,n,ne,nf,d⟩:=I.pin p hp
     exact ⟨(hs.2 p.1 ne).trans e,n,ne,nf,d⟩
 · have hfn:X.fn x=true:=by
     rcases hf with z | z
     · exact z
     · rw [z] at hk; cases hk
   obtain ⟨c,hc⟩:=I.ok.has x (.inl hk)
   obtain ⟨w',z⟩:=I.cell x c hc
   refine wpAny_storeName_cell I.ok.kind hk hc z (λh' hc' hs=>?_)
   obtain ⟨oc,hoc,hocd⟩:=id z
   refine h { s with heap:=h' } ⟨I.ok,I.os,I.bare,⟨λb o e n hb hx=>?_,λb o e n hb hx=>?_,I.base.free,λb o e hx=>?_,I.base.tups,I.base.frzs,I.base.tbls⟩,⟨m,hn.sameBut hs (Ne.symm (cne x c hc)),λj y v' e1 e2 e3=>?_⟩,λy c' e=>?_,I.free,I.freeC,λp hp=>?_,tracked ⟨oc,hoc,I.freeC x c hc⟩ hs,by simpa using I.len⟩ ⟨c,hs,.inr hc⟩
   · exact (hs.2 b (Nat.ne_of_lt (Nat.lt_of_lt_of_le (Heap.lt_size e) (I.ok.cab x c hfn hc)))).trans (I.base.keep b o e n hb hx)
   · obtain ⟨sl,e1⟩:=I.base.slot b o e n hb hx
     exact ⟨sl,(hs.2 b (Nat.ne_of_lt (Nat.lt_of_lt_of_le (Heap.lt_size e) (I.ok.cab x c hfn hc)))).trans e1⟩
   · obtain ⟨o',e1⟩:=I.base.there b o e hx
     exact ⟨o',(hs.2 b (Nat.ne_of_lt (Nat.lt_of_lt_of_le (Heap.lt_size e) (I.ok.cab x c hfn hc)))).trans e1⟩
   · by_cases hj:j=i
     · subst hj
       rw [hi] at e1; cases e1
       rw [List.getElem?_set_self hiσ] at e2
       cases e2
       exact ⟨u,r,.inr ⟨.inl hk,c,hc,hc'⟩⟩
     · rw [List.getElem?_set_ne (Ne.symm hj)] at e2
       obtain ⟨u',r',q⟩:=hl j y v' e1 e2 e3
       refine ⟨u',r',?_⟩
       rcases q with q | ⟨k,c',e,z'⟩
       · exact .inl q
       · refine .inr ⟨k,c',e,z'.sameBut hs ?_⟩
         rintro rfl
         exact hj (mX hN e1 (I.ok.inj _ _ _ e hc ▸ hi))
   · by_cases hcc:c'=c
     · subst hcc; exact ⟨_,hc'⟩
     · obtain ⟨w2,z2⟩:=I.cell y c' e
       exact ⟨w2,z2.sameBut hs hcc⟩
   · obtain ⟨e,n,ne,nf,d⟩:=I.pin p hp
     refine ⟨(hs.2 p.1 ?_).trans e,n,ne,nf,d⟩
     intro q
     rw [q,hoc] at e
     have q':oc=p.2:=Option.some.inj e
     exact d w' (by rw [<- q']; exact hocd)
theorem mF {M:Model} {A:Around} {E:Value->Shared->Prop} {i:Nat} {x:Str} {v:V} {u:Value} {Q:Unit->Shared->Prop} (I:Inv X pins σ H s) (hN:X.N.Nodup) (hi:X.N[i]?=some x) (hx:Loc X.env.scope x) (r:RelV v u)
   (h:∀ s',Inv X pins (σ.set i (some v)) H s'->Q () s') (hf:X.fn x=true\/X.env.scope.names.lookup x=some .local:=by first | exact .inl rfl | exact .inr rfl | assumption):wpAny M A (storeName X.env x u) Q E s:=
 qC I hN hi hx r (λs' I' _=>h s' I') hf
theorem Inv.wW {s':Shared} {ch:List Addr} (I:Inv X pins σ H s) (ho:s'.os=s.os) (u:Un (frs X.stack) ch H H' s.heap s'.heap) (hok:HOk X.prog X.w H' s'.heap) (hg:AllBare s'.gens)
   (hch:∀ b ∈ ch,(b ∈ X.ex\/X.s₀.heap.objs.size<=b)/\b ≠ X.env.locals/\(∀ x c,X.env.cells.lookup x=some c->c ≠ b)/\∀ p ∈ X.pn++pins,p.1 ≠ b):Inv X pins σ H' s':=by
 obtain ⟨h',g',d',t',o'⟩:=s'
 have e:o'=s.os:=ho
 subst e
 exact I.call (g':=g') (t':=t') (d':=d') u hok hg hch
end
noncomputable abbrev XK:=Value->Option Addr->Hp->Prop
noncomputable abbrev St:=List (Option V)
noncomputable abbrev VK:=V->Hp->Prop
noncomputable abbrev TE:=St->Hp->VK->Prop
noncomputable abbrev TT:=St->Hp->(Bool->Hp->Prop)->Prop
noncomputable abbrev TA:=St->Hp->(List V->Hp->Prop)->Prop
structure Ends where
 nx:St->Hp->Prop
 rt:VK
 bk:St->Hp->Prop:=λ_ _=>False
 ct:St->Hp->Prop:=λ_ _=>False
noncomputable abbrev TS:=Ends->St->Hp->Prop
noncomputable def EP (X:Cx) (pins:List (Addr × Obj)) (σ:St) (Q:VK) (u:Value) (s':Shared):Prop:=∃ v H',Inv X pins σ H' s'/\RelV v u/\Q v H'
noncomputable def TP (X:Cx) (pins:List (Addr × Obj)) (σ:St) (Q:Bool->Hp->Prop) (b:Bool) (s':Shared):Prop:=∃ H',Inv X pins σ H' s'/\Q b H'
noncomputable def AP (X:Cx) (pins:List (Addr × Obj)) (σ:St) (Q:List V->Hp->Prop) (us:List Value) (s':Shared):Prop:=∃ vs H',Inv X pins σ H' s'/\Vals vs us/\Q vs H'
noncomputable def SP (X:Cx) (pins:List (Addr × Obj)) (D:Ends) (f:Flow) (s':Shared):Prop:=
 match f with
 | .next=>∃ σ' H',Inv X pins σ' H' s'/\D.nx σ' H'
 | .brk=>∃ σ' H',Inv X pins σ' H' s'/\D.bk σ' H'
 | .cont=>∃ σ' H',Inv X pins σ' H' s'/\D.ct σ' H'
 | .ret u=>∃ v σ' H',Inv X pins σ' H' s'/\RelV v u/\D.rt v H'
noncomputable def PE (X:Cx) (e:Expr) (t:TE):Prop:=
 ∀ (pins:List (Addr × Obj)) (s:Shared) (σ:St) (H:Hp) (Q:VK),Inv X pins σ H s->t σ H Q->wpAny (model X.prog X.w) X.A (eval e X.env) (EP X pins σ Q) X.xe s
noncomputable def PT (X:Cx) (e:Expr) (t:TT):Prop:=
 ∀ (pins:List (Addr × Obj)) (s:Shared) (σ:St) (H:Hp) (Q:Bool->Hp->Prop),Inv X pins σ H s->t σ H Q->wpAny (model X.prog X.w) X.A (isTrue e X.env (eval e X.env)) (TP X pins σ Q) X.xe s
noncomputable def PW (X:Cx) (e:Expr) (t:TT):Prop:=
 ∀ (whole:Sem Value) (pins:List (Addr × Obj)) (s:Shared) (σ:St) (H:Hp) (Q:Bool->Hp->Prop),Inv X pins σ H s->t σ H Q->wpAny (model X.prog X.w) X.A (isTrue e X.env whole) (TP X pins σ Q) X.xe s
theorem PW.pt {X:Cx} {e:Expr} {t:TT} (h:PW X e t):PT X e t:=h _
noncomputable def PA (X:Cx) (es:List Expr) (t:TA):Prop:=
 ∀ (pos:Pos) (pins:List (Addr × Obj)) (s:Shared) (σ:St) (H:Hp) (Q:List V->Hp->Prop),Inv X pins σ H s->t σ H Q->wpAny (model X.prog X.w) X.A (spliced (backTo pos (starEach es X.env))) (AP X pins σ Q) X.xe s
noncomputable def PS (X:Cx) (st:Stmt) (t:TS):Prop:=
 ∀ (pins:List (Addr × Obj)) (s:Shared) (σ:St) (H:Hp) (D:Ends),Inv X pins σ H s->t D σ H->wpAny (model X.prog X.w) X.A (exec st X.env) (SP X pins D) X.xe s
noncomputable def PSs (X:Cx) (st:List Stmt) (t:TS):Prop:=
 ∀ (pins:List (Addr × Obj)) (s:Shared) (σ:St) (H:Hp) (D:Ends),Inv X pins σ H s->t D σ H->wpAny (model X.prog X.w) X.A (execs st X.env) (SP X pins D) X.xe s
theorem thn {α:Type} {t:Sem α} {Q Q':α->Shared->Prop} {M:Model} {A:Around} {E:Value->Shared->Prop} {s:Shared} (h:wpAny M A t Q E s) (hQ:∀ a s,Q a s->Q' a s):wpAny M A t Q' E s:=wpAny_mono h hQ λ_ _ x=>x
section
variable {X:Cx}
theorem bin {a b:Expr} {ta tb:TE} (ha:PE X a ta) (hb:PE X b tb) {pins:List (Addr × Obj)} {s:Shared} {σ:St} {H:Hp} {R:V->V->Hp->Prop} (I:Inv X pins σ H s) (h:ta σ H λx H1=>tb σ H1 λy H2=>R x y H2)
   {α:Type} {Q:α->Shared->Prop} {f:Value->Value->Sem α}
   (hf:∀ v u s2 x y H2,Inv X pins σ H2 s2->RelV x v->RelV y u->R x y H2->wpAny (model X.prog X.w) X.A (f v u) Q X.xe s2) :
   wpAny (model X.prog X.w) X.A (eval a X.env) (λv s₁=>wpAny (model X.prog X.w) X.A (eval b X.env) (λu s₂=>wpAny (model X.prog X.w) X.A (f v u) Q X.xe s₂) X.xe s₁) X.xe s:=by
 refine thn (ha pins s σ H _ I h) λv s1 ⟨x,H1,I1,r1,q1⟩=>?_
 refine thn (hb pins s1 σ H1 _ I1 q1) λu s2 ⟨y,H2,I2,r2,q2⟩=>?_
 exact hf v u s2 x y H2 I2 r1 r2 q2
noncomputable def zC (i:Nat):TE:=λσ H Q=>∃ v,σ[i]?=some (some v)/\Q v H
noncomputable def tC (v:V):TE:=λ_ H Q=>Q v H
theorem bD {i:Nat} {x:Str} {pos:Pos} (hN:X.N[i]?=some x) (hv:Vis X.env.scope x) (hd:(x == ("__debug__" : Str))=false:=by decide) (hcd:(x == ("__classdict__" : Str))=false:=by decide):PE X (.Name x pos) (zC i):=by
 intro pins s σ H Q I h
 obtain ⟨v,e,h⟩:=h
 obtain ⟨m,hn,hl⟩:=I.loc
 obtain ⟨u,r,l⟩:=hl i x v hN e hv
 have fin:EP X pins σ Q u s:=⟨v,H,I,r,h⟩
 rcases l with ⟨hk,hm⟩ | ⟨hk,c,hc,hcell⟩
 · exact wpAny_Name (wpAny_loadName_local I.ok.kind hk hn hm fin) hd
 · rcases hk with hk | hk
   · exact wpAny_Name (wpAny_loadName_cell I.ok.kind hk hc hcell fin) hd
   · exact wpAny_Name (wpAny_loadName_free I.ok.kind hk hc hcell fin hcd) hd
theorem xO {i j pos}:PE X (.Constant (.int i) j pos) (tC (.int i)):=λ_ _ _ H _ I h=>wpAny_Constant_int ⟨.int i,H,I.tok _,⟨_,rfl⟩,h⟩
theorem zy {b j pos}:PE X (.Constant (.bool b) j pos) (tC (.bl b)):=λ_ _ _ H _ I h=>Constant_bool ⟨.bl b,H,I,rfl,h⟩
theorem xh {j pos}:PE X (.Constant .none j pos) (tC .non):=λ_ _ _ H _ I h=>Constant_none ⟨.non,H,I,rfl,h⟩
theorem xU {x j pos}:PE X (.Constant (.str x) j pos) (tC (.str x)):=λ_ _ _ H _ I h=>Calls.Constant_str ⟨.str x,H,I.tok _,⟨_,rfl⟩,h⟩
noncomputable def Gl (X:Cx) (x:Str):Prop:=X.env.kindOf x=some .globalImplicit
theorem oR {E:Value->Shared->Prop} {pins:List (Addr × Obj)} {s:Shared} {σ:St} {H:Hp} {x:Str} {u:Value} {pos:Pos} {Q:Value->Shared->Prop} (I:Inv X pins σ H s) (hg:Gl X x) (hm:X.mg x=some u) (h:Q u s)
   (hd:(x == ("__debug__" : Str))=false:=by decide):wpAny (model X.prog X.w) X.A (eval (.Name x pos) X.env) Q E s:=
 Calls.Name_function_global I.ok.kind hg (Calls.loadGlobal_global (by rw [I.ok.glob]; exact I.mod.glob.keeps I.bk) hm h) hd
theorem ee {E:Value->Shared->Prop} {pins:List (Addr × Obj)} {s:Shared} {σ:St} {H:Hp} {x:Str} {u:Value} {pos:Pos} {Q:Value->Shared->Prop} (I:Inv X pins σ H s) (hg:Gl X x) (hm:X.mg x=none) (hv:bootBuiltins x=some u) (h:Q u s)
   (hn:x ≠ "__name__":=by decide) (hd:(x == ("__debug__" : Str))=false:=by decide):wpAny (model X.prog X.w) X.A (eval (.Name x pos) X.env) Q E s:=by
 obtain ⟨mb,h1,h2⟩:=I.mod.blt
 exact Calls.Name_function_global I.ok.kind hg (Calls.loadGlobal_builtin (by rw [I.ok.glob]; exact I.mod.glob.keeps I.bk) hm (by rw [I.ok.blt]; exact h1.keeps I.bk) ((h2 x hn).trans hv) h) hd
theorem qd {x:Str} {v:V} {u:Value} {pos:Pos} (hg:Gl X x) (hm:X.mg x=some u) (r:RelV v u) (hd:(x == ("__debug__" : Str))=false:=by decide):PE X (.Name x pos) (tC v):=
 λ_ _ _ H _ I h=>oR I hg hm ⟨v,H,I,r,h⟩ hd
theorem vh {x:Str} {v:V} {u:Value} {pos:Pos} (hg:Gl X x) (hm:X.mg x=none) (hv:bootBuiltins x=some u) (r:RelV v u) (hn:x ≠ "__name__":=by decide) (hd:(x == ("__debug__" : Str))=false:=by decide):PE X (.Name x pos) (tC v):=
 λ_ _ _ H _ I h=>ee I hg hm hv ⟨v,H,I,r,h⟩ hn hd
variable {a b:Expr} {ta tb:TE} {pos:Pos}
noncomputable def PC (X:Cx) (op:CmpOp) (a b:Expr) (t:TE):Prop:=
 ∀ (pins:List (Addr × Obj)) (s:Shared) (σ:St) (H:Hp) (Q:VK),Inv X pins σ H s->t σ H Q ->
   wpAny (model X.prog X.w) X.A (eval a X.env) (λv s₁=>wpAny (model X.prog X.w) X.A (eval b X.env) (λu s₂=>wpAny (model X.prog X.w) X.A (compareOp op v u) (EP X pins σ Q) X.xe s₂) X.xe s₁) X.xe s
theorem su (b:Expr) {op:CmpOp} (h:op ≠ .In) (h2:op ≠ .NotIn):behindInMarks op b=false:=by
 have e1:(op == CmpOp.In)=false:=by cases op <;> first | rfl | exact absurd rfl h
 have e2:(op == CmpOp.NotIn)=false:=by cases op <;> first | rfl | exact absurd rfl h2
 cases b <;> simp [behindInMarks,e1,e2]
noncomputable def tB (t:TE):TT:=λσ H Q=>t σ H λx H1=>∃ c,x=.bl c/\Q c H1
theorem A2 {op:CmpOp} {t:TE} (h:PC X op a b t) (h1:behindInMarks op b=false:=by first | exact su _ (by decide) (by decide) | rfl):PT X (.Compare a [op] [b] pos) (tB t):=by
 intro pins s σ H Q I hw
 refine wpAny_isTrue_Compare1 (thn (h pins s σ H _ I hw) λv s1 h1=>thn h1 λu s2 h2=>thn h2 λc s3 ⟨x,H1,I1,r1,q1⟩=>?_) h1
 obtain ⟨d,rfl,q⟩:=q1
 cases r1
 exact wpAny_truthy_bool ⟨H1,I1,q⟩
theorem xg {e:Expr} {t:TE} (h:PE X e t) (he:∀ whole,isTrue e X.env whole=(do let v <- whole; standAt e.pos; holding [v] (truthy v)):=by intro _; rfl):PT X e (tB t):=by
 intro pins s σ H Q I hw
 refine isTrue_plain (thn (h pins s σ H _ I hw) λv s1 ⟨x,H1,I1,r1,q1⟩=>?_) (he _)
 obtain ⟨d,rfl,q⟩:=q1
 cases r1
 exact wpAny_truthy_bool ⟨H1,I1,q⟩
variable {tA tB':TT} {rest:List Expr}
noncomputable def AX (t u:TT):TT:=λσ H Q=>t σ H λc H1=>if c=true then u σ H1 Q else Q false H1
noncomputable def tOr (t u:TT):TT:=λσ H Q=>t σ H λc H1=>if c=true then Q true H1 else u σ H1 Q
noncomputable def A4 (t:TT):TT:=λσ H Q=>t σ H λc H1=>Q (!c) H1
theorem pw_and1 (ha:PT X a tA):PW X (.BoolOp .And [a] pos) tA:=by
 intro wh pins s σ H Q I h
 refine isTrue_and (thn (ha pins s σ H Q I h) λc s1 e=>?_)
 cases c with
 | true=>exact isTrue_and_nil e
 | false=>exact e
theorem pw_or1 (ha:PT X a tA):PW X (.BoolOp .Or [a] pos) tA:=by
 intro wh pins s σ H Q I h
 refine isTrue_or (thn (ha pins s σ H Q I h) λc s1 e=>?_)
 cases c with
 | false=>exact isTrue_or_nil e
 | true=>exact e
theorem pw_and (ha:PT X a tA) (hb:PW X (.BoolOp .And (b :: rest) pos) tB'):PW X (.BoolOp .And (a :: b :: rest) pos) (AX tA tB'):=by
 intro wh pins s σ H Q I h
 refine isTrue_and (thn (ha pins s σ H _ I h) λc s1 ⟨H1,I1,q1⟩=>?_)
 cases c with
 | true=>exact hb wh pins s1 σ H1 Q I1 q1
 | false=>exact ⟨H1,I1,q1⟩
theorem pw_or (ha:PT X a tA) (hb:PW X (.BoolOp .Or (b :: rest) pos) tB'):PW X (.BoolOp .Or (a :: b :: rest) pos) (tOr tA tB'):=by
 intro wh pins s σ H Q I h
 refine isTrue_or (thn (ha pins s σ H _ I h) λc s1 ⟨H1,I1,q1⟩=>?_)
 cases c with
 | true=>exact ⟨H1,I1,q1⟩
 | false=>exact hb wh pins s1 σ H1 Q I1 q1
theorem yy (ha:PT X a tA):PT X (.UnaryOp .Not a pos) (A4 tA):=by
 intro pins s σ H Q I h
 exact isTrue_not (ha pins s σ H (λc H1=>Q (!c) H1) I h)
noncomputable def zH (ta tb:TE):TE:=λσ H Q=>ta σ H λx H1=>∃ c,x=.bl c/\if c=true then tb σ H1 Q else Q (.bl false) H1
noncomputable def Ae (ta:TE):TE:=λσ H Q=>ta σ H λx H1=>∃ c,x=.bl c/\Q (.bl (!c)) H1
theorem xF {op} {t:TE} (h:PE X a t):PE X (.BoolOp op [a] pos) t:=λpins s σ H Q I hw=>BoolOp_one (h pins s σ H Q I hw)
theorem tM (ha:PE X a ta) (hb:PE X (.BoolOp .And (b :: rest) pos) tb):PE X (.BoolOp .And (a :: b :: rest) pos) (zH ta tb):=by
 intro pins s σ H Q I h
 refine BoolOp_and (thn (ha pins s σ H _ I h) λv s1 ⟨x,H1,I1,r1,q1⟩=>?_)
 obtain ⟨c,rfl,q1⟩:=q1
 cases r1
 refine wpAny_truthy_bool ?_
 cases c with
 | true=>exact hb pins s1 σ H1 Q I1 q1
 | false=>exact ⟨.bl false,H1,I1,rfl,q1⟩
theorem wX (ha:PE X a ta):PE X (.UnaryOp .Not a pos) (Ae ta):=by
 intro pins s σ H Q I h
 refine UnaryOp_ (thn (ha pins s σ H _ I h) λv s1 ⟨x,H1,I1,r1,q1⟩=>?_)
 obtain ⟨c,rfl,q1⟩:=q1
 cases r1
 exact not_of (wpAny_truthy_bool ⟨.bl (!c),H1,I1,rfl,q1⟩)
noncomputable def tIf (t:TT) (ta tb:TE):TE:=λσ H Q=>t σ H λc H1=>if c=true then ta σ H1 Q else tb σ H1 Q
theorem mh {c:Expr} (hc:PT X c tA) (ha:PE X a ta) (hb:PE X b tb):PE X (.IfExp c a b pos) (tIf tA ta tb):=by
 intro pins s σ H Q I h
 refine wpAny_IfExp (thn (hc pins s σ H _ I h) λd s1 ⟨H1,I1,q1⟩=>?_)
 cases d with
 | true=>exact ha pins s1 σ H1 Q I1 q1
 | false=>exact hb pins s1 σ H1 Q I1 q1
end
noncomputable def SqL (K:PySem.W.Frag) (H:Hp) (a:Addr) (xs:List V):Prop:=
 Rd H a (.lst xs) \/
   ∃ (o:Obj) (its:Array Value) (n:Nat),K.lookup a=some o/\o.cls=.type "list" /\ o.dict=none/\o.data=.seq its n/\its.size<=sizeLine/\Vals xs its.toList
noncomputable def SqT (K:PySem.W.Frag) (H:Hp) (a:Addr) (xs:List V):Prop:=
 Rd H a (.tup xs) \/
   ∃ (o:Obj) (its:Array Value) (n:Nat),K.lookup a=some o/\o.cls=.type "tuple" /\ o.data=.seq its n/\its.size<=sizeLine/\Vals xs its.toList
noncomputable def A5:Value->Option V
 | .none=>some .non
 | .bool b=>some (.bl b)
 | .int i _=>some (.int i)
 | .str x _=>some (.str x)
 | .bytes b _=>some (.byt b)
 | .float b _=>some (.flt b)
 | .ref a=>some (.ref a)
 | .type n=>some (.ty n)
 | _=>none
theorem RelV.abs {x:V} {u:Value} (r:RelV x u):A5 u=some x:=by
 cases x with
 | non=>cases r; rfl
 | bl _=>cases r; rfl
 | int _=>obtain ⟨t,rfl⟩:=r; rfl
 | str _=>obtain ⟨t,rfl⟩:=r; rfl
 | byt _=>obtain ⟨t,rfl⟩:=r; rfl
 | flt _=>obtain ⟨t,rfl⟩:=r; rfl
 | ref _=>cases r; rfl
 | ty _=>cases r; rfl
theorem RelV.inj {x y:V} {u:Value} (r:RelV x u) (q:RelV y u):x=y:=Option.some.inj (r.abs.symm.trans q.abs)
theorem Vals.inj:∀ {xs ys:List V} {us:List Value},Vals xs us->Vals ys us->xs=ys
 | _,_,_,.nil,.nil=>rfl
 | _,_,_,.cons r t,.cons r' t'=>by rw [r.inj r',Vals.inj t t']
section
variable {X:Cx} {pins:List (Addr × Obj)} {σ:St} {H:Hp} {s:Shared} {a:Addr} {xs ys:List V}
theorem SqL.of {K:PySem.W.Frag} (h:H a=some (.lst xs)):SqL K H a xs:=.inl (.inl h)
theorem SqT.of {K:PySem.W.Frag} (h:H a=some (.tup xs)):SqT K H a xs:=.inl (.inl h)
theorem Inv.list (I:Inv X pins σ H s) (h:SqL X.K H a xs):∃ its:List Value,Vals xs its/\PlainL s.heap a its.toArray/\xs.length<=sizeLine:=by
 rcases h with h | ⟨o,its,n,hk,hc,hd,hs,hz,r⟩
 · obtain ⟨z,its,n,r,e⟩:=h.ok I.hok
   exact ⟨its,r,⟨_,n,e,rfl,rfl,rfl⟩,z⟩
 · refine ⟨its.toList,r,⟨o,n,I.kIn a o hk,hc,hd,by simpa using hs⟩,?_⟩
   have e:=r.length
   simp only [Array.length_toList] at e
   omega
theorem Inv.tuple (I:Inv X pins σ H s) (h:SqT X.K H a xs):∃ its:List Value,Vals xs its/\IsTup s.heap a its.toArray/\xs.length<=sizeLine:=by
 rcases h with h | ⟨o,its,n,hk,hc,hs,hz,r⟩
 · obtain ⟨z,its,r,p⟩:=h.ok I.hok
   exact ⟨its,r,p,z⟩
 · refine ⟨its.toList,r,⟨o,I.kIn a o hk,hc,n,by simpa using hs⟩,?_⟩
   have e:=r.length
   simp only [Array.length_toList] at e
   omega
theorem Inv.fh (I:Inv X pins σ H s) (h:SqL X.K H a xs) (h':SqL X.K H a ys):xs=ys:=by
 obtain ⟨its,r,⟨o,n,e,_,_,d⟩,_⟩:=I.list h
 obtain ⟨its',r',⟨o',n',e',_,_,d'⟩,_⟩:=I.list h'
 rw [e] at e'; cases e'
 rw [d] at d'
 injection d' with d1 _
 have:its=its':=by simpa using congrArg Array.toList d1
 subst this
 exact r.inj r'
theorem Inv.qx (I:Inv X pins σ H s) (h:SqT X.K H a xs) (h':SqT X.K H a ys):xs=ys:=by
 obtain ⟨its,r,⟨o,e,_,n,d⟩,_⟩:=I.tuple h
 obtain ⟨its',r',⟨o',e',_,n',d'⟩,_⟩:=I.tuple h'
 rw [e] at e'; cases e'
 rw [d] at d'
 injection d' with d1 _
 have:its=its':=by simpa using congrArg Array.toList d1
 subst this
 exact r.inj r'
end
noncomputable abbrev Cx.jY (X:Cx) (E:Value->Shared->Prop):Cx:={ X with xe:=E }
noncomputable abbrev Cx.nox (X:Cx):Cx:=X.jY λ_ _=>False
theorem Cx.Ok.jY {X:Cx} (ok:X.Ok) (E:Value->Shared->Prop):(X.jY E).Ok:=
 ⟨ok.mod,ok.kind,ok.glob,ok.blt,ok.above,ok.inj,ok.has,ok.cab,ok.hd,ok.frames,ok.stk,ok.exf,ok.bs,ok.bsz,ok.noex,ok.exfs,ok.jP,ok.frf⟩
theorem Cx.Ok.fx {X:Cx} {E:Value->Shared->Prop} (ok:(X.jY E).Ok):X.Ok:=
 ⟨ok.mod,ok.kind,ok.glob,ok.blt,ok.above,ok.inj,ok.has,ok.cab,ok.hd,ok.frames,ok.stk,ok.exf,ok.bs,ok.bsz,ok.noex,ok.exfs,ok.jP,ok.frf⟩
section
variable {X:Cx} {pins:List (Addr × Obj)} {σ:St} {H:Hp} {s:Shared} {E:Value->Shared->Prop}
theorem Inv.jY (I:Inv X pins σ H s) (E:Value->Shared->Prop):Inv (X.jY E) pins σ H s:=⟨I.ok.jY E,I.os,I.bare,I.base,I.loc,I.cell,I.free,I.freeC,I.pin,I.hok,I.len⟩
theorem Inv.fx (I:Inv (X.jY E) pins σ H s):Inv X pins σ H s:=⟨I.ok.fx,I.os,I.bare,I.base,I.loc,I.cell,I.free,I.freeC,I.pin,I.hok,I.len⟩
theorem SP.fx {D:Ends} {f:Flow} {s':Shared} (h:SP (X.jY E) pins D f s'):SP X pins D f s':=by
 cases f with
 | next=>obtain ⟨σ',H',I,q⟩:=h; exact ⟨σ',H',I.fx,q⟩
 | brk=>obtain ⟨σ',H',I,q⟩:=h; exact ⟨σ',H',I.fx,q⟩
 | cont=>obtain ⟨σ',H',I,q⟩:=h; exact ⟨σ',H',I.fx,q⟩
 | ret u=>obtain ⟨v,σ',H',I,r,q⟩:=h; exact ⟨v,σ',H',I.fx,r,q⟩
theorem PSs.nox {st:List Stmt} {t:TS} (h:PSs X.nox st t):PSs X st t:=λpins s σ H D I hw=>
 wpAny_mono (h pins s σ H D (I.jY _) hw) (λ_ _ q=>q.fx) λ_ _ z=>False.elim z
end
section
variable {X:Cx} {st:Stmt} {rest:List Stmt} {t u:TS} {e:Expr} {te:TE} {pos:Pos}
noncomputable def Ax:TS:=λD σ H=>D.nx σ H
noncomputable def Br (t u:TS):TS:=λD σ H=>t { D with nx:=u D } σ H
theorem iW:PSs X [] Ax:=λ_ _ σ H _ I h=>wpAny_execs_nil ⟨σ,H,I,h⟩
theorem dD (h1:PS X st t) (h2:PSs X rest u):PSs X (st :: rest) (Br t u):=by
 intro pins s σ H D I h
 refine wpAny_execs_cons (thn (h1 pins s σ H { D with nx:=u D } I h) λf s1 q=>?_)
 cases f with
 | next=>
   obtain ⟨σ',H',I',q⟩:=q
   exact h2 pins s1 σ' H' D I' q
 | ret v=>exact q
 | brk=>exact q
 | cont=>exact q
theorem vY (h1:PS X st t):PSs X [st] t:=by
 intro pins s σ H D I h
 refine wpAny_execs_cons (thn (h1 pins s σ H D I h) λf s1 q=>?_)
 cases f with
 | next=>exact wpAny_execs_nil q
 | ret v=>exact q
 | brk=>exact q
 | cont=>exact q
noncomputable def zZ:TS:=λD σ H=>D.ct σ H
theorem l4:PS X (.Continue pos) zZ:=λ_ _ σ H _ I h=>wpAny_Continue ⟨σ,H,I,h⟩
theorem Inv.quiet {pins:List (Addr × Obj)} {σ:St} {H:Hp} {s:Shared} (I:Inv X pins σ H s):interactive X.env=false:=by simp [interactive,I.ok.kind]
noncomputable def AD (te:TE):TS:=λD σ H=>te σ H λ_ H1=>D.nx σ H1
theorem cK (he:PE X e te) (hs:swapsWith e none pos.line X.env=pure false:=by rfl):PS X (.Expr e pos) (AD te):=by
 intro pins s σ H D I h
 exact wpAny_Expr_any (thn (he pins s σ H _ I h) λv s1 ⟨x,H1,I1,r1,q1⟩=>⟨σ,H1,I1,q1⟩) I.quiet hs
noncomputable def Bo (te:TE):TS:=λD σ H=>te σ H D.rt
theorem lE (he:PE X e te):PS X (.Return (some e) pos) (Bo te):=by
 intro pins s σ H D I h
 exact wpAny_Return_some (thn (he pins s σ H _ I h) λv s1 ⟨x,H1,I1,r1,q1⟩=>⟨x,σ,H1,I1,r1,q1⟩)
noncomputable def Bp (c:TT) (t u:TS):TS:=λD σ H=>c σ H λb H1=>if b=true then t D σ H1 else u D σ H1
theorem kB {c:Expr} {a b:List Stmt} {tc:TT} (hc:PT X c tc) (ha:PSs X a t) (hb:PSs X b u):PS X (.If c a b pos) (Bp tc t u):=by
 intro pins s σ H D I h
 refine wpAny_If (thn (hc pins s σ H _ I h) λd s1 ⟨H1,I1,q1⟩=>?_)
 cases d with
 | true=>exact ha pins s1 σ H1 D I1 q1
 | false=>exact hb pins s1 σ H1 D I1 q1
noncomputable def yj:TS:=λ_ _ _=>False
theorem bZ {sts:List Stmt}:PSs X sts yj:=λ_ _ _ _ _ _ h=>h.elim
end
noncomputable abbrev TG:=V->St->Hp->(St->Hp->Prop)->Prop
noncomputable abbrev TGs:=List V->St->Hp->(St->Hp->Prop)->Prop
noncomputable def PG (X:Cx) (target:Expr) (t:TG):Prop:=
 ∀ (pins:List (Addr × Obj)) (s:Shared) (σ:St) (H:Hp) (v:V) (u:Value) (Q:St->Hp->Prop),Inv X pins σ H s->RelV v u->t v σ H Q ->
   wpAny (model X.prog X.w) X.A (assign target X.env u) (λ_ s'=>∃ σ' H',Inv X pins σ' H' s'/\Q σ' H') X.xe s
noncomputable def PGs (X:Cx) (ts:List Expr) (t:TGs):Prop:=
 ∀ (pins:List (Addr × Obj)) (s:Shared) (σ:St) (H:Hp) (vs:List V) (us:List Value) (Q:St->Hp->Prop),Inv X pins σ H s->Vals vs us->t vs σ H Q ->
   wpAny (model X.prog X.w) X.A (assignInOrder ((assignEach ts X.env).map (·.2)) us) (λ_ s'=>∃ σ' H',Inv X pins σ' H' s'/\Q σ' H') X.xe s
noncomputable abbrev yU:=V->V->V->Hp->(Hp->Prop)->Prop
noncomputable def An (X:Cx) (t:yU):Prop:=
 ∀ (pins:List (Addr × Obj)) (s:Shared) (σ:St) (H:Hp) (o i v:V) (ov iv u:Value) (Q:Hp->Prop),Inv X pins σ H s->RelV o ov->RelV i iv->RelV v u->t o i v H Q ->
   wpAny (model X.prog X.w) X.A (setItem ov iv u) (λ_ s'=>∃ H',Inv X pins σ H' s'/\Q H') X.xe s
section
variable {X:Cx} {pos:Pos}
noncomputable def wy (i:Nat):TG:=λv σ H Q=>Q (σ.set i (some v)) H
theorem fH {i:Nat} {x:Str} (hN:X.N.Nodup) (hi:X.N[i]?=some x) (hx:Loc X.env.scope x) (hf:X.fn x=true\/X.env.scope.names.lookup x=some .local:=by first | exact .inl rfl | exact .inr rfl | assumption):PG X (.Name x pos) (wy i):=by
 intro pins s σ H v u Q I r h
 exact wpAny_assign_Name (mF I hN hi hx r (λs' I'=>⟨_,H,I',h⟩) hf)
noncomputable def Bv:TGs:=λvs σ H Q=>vs=[]/\Q σ H
noncomputable def zE (t:TG) (u:TGs):TGs:=λvs σ H Q=>∃ v r,vs=v :: r/\t v σ H λσ' H'=>u r σ' H' Q
theorem qp:PGs X [] Bv:=by
 intro pins s σ H vs us Q I r h
 obtain ⟨e,h⟩:=h
 subst e
 cases r
 exact assignInOrder_nil ⟨σ,H,I,h⟩
theorem ji {e:Expr} {es:List Expr} {t:TG} {u:TGs} (h1:PG X e t) (h2:PGs X es u)
   (hs:(assignEach (e :: es) X.env).map (·.2)=assign e X.env :: (assignEach es X.env).map (·.2):=by rfl):PGs X (e :: es) (zE t u):=by
 intro pins s σ H vs us Q I r h
 obtain ⟨v,vr,e1,h⟩:=h
 subst e1
 cases r with
 | cons r rr=>
   rw [hs]
   refine assignInOrder_cons (thn (h1 pins s σ H _ _ _ I r h) λ_ s1 ⟨σ1,H1,I1,q1⟩=>?_)
   exact h2 pins s1 σ1 H1 _ _ Q I1 rr q1
noncomputable def A8 (K:PySem.W.Frag) (n:Nat) (t:TGs):TG:=λv σ H Q=>∃ a xs,v=.ref a/\SqT K H a xs/\xs.length=n/\t xs σ H Q
theorem uC {es:List Expr} {k:Nat} {t:TGs} {n:Nat} (hc:X.calm=true) (h:PGs X es t)
   (hn:(assignEach es X.env).length=n:=by rfl) (hst:(assignEach es X.env).findIdx? (·.1)=none:=by rfl):PG X (.Tuple es k pos) (A8 X.K n t):=by
 intro pins s σ H v u Q I r hw
 obtain ⟨a,xs,e1,hq,hl,hw⟩:=hw
 subst e1
 cases r
 obtain ⟨its,rv,ht,hz⟩:=I.tuple hq
 refine assign_Tuple_tuple (I.ok.hd hc) ht (by simp [hn,<- hl,rv.length]) hst λh' hx=>?_
 have I1:Inv X pins σ H { s with heap:=h' }:=I.kept (t':=s.toks) λb o e=>hx b o (Nat.ne_of_lt (Heap.lt_size e)) e
 exact h pins _ σ H xs _ Q I1 (by simpa using rv) hw
noncomputable def Bz (to ti:TE) (t:yU):TG:=λv σ H Q=>to σ H λo H1=>ti σ H1 λi H2=>t o i v H2 λH3=>Q σ H3
theorem tJ {o i:Expr} {to ti:TE} {t:yU} (ho:PE X o to) (hi:PE X i ti) (hs:An X t)
   (ha:∀ v,assign (.Subscript o i pos) X.env v=(do
     let ov <- holding [v] (eval o X.env)
     let iv <- holding [v,ov] (eval i X.env)
     standAt pos
     holding [v,ov,iv] (setItem ov iv v)
     release [v,ov,iv] []):=by intro _; rfl):PG X (.Subscript o i pos) (Bz to ti t):=by
 intro pins s σ H v u Q I r h
 rw [ha]
 refine wpAny_bind (wpAny_holding (thn (ho pins s σ H _ I h) λov s1 ⟨x,H1,I1,r1,q1⟩=>?_))
 refine wpAny_bind (wpAny_holding (thn (hi pins s1 σ H1 _ I1 q1) λiv s2 ⟨y,H2,I2,r2,q2⟩=>?_))
 refine wpAny_bind (wpAny_standAt (wpAny_bind (wpAny_holding (thn (hs pins s2 σ H2 x y v ov iv u _ I2 r1 r2 r q2) λ_ s3 ⟨H3,I3,q3⟩=>?_))))
 exact wpAny_release ⟨σ,H3,I3,q3⟩
noncomputable def yB (te:TE) (g:TG):TS:=λD σ H=>te σ H λx H1=>g x σ H1 D.nx
theorem oo {tg e:Expr} {te:TE} {g:TG} (he:PE X e te) (hg:PG X tg g) (hs:swapsWithSole [tg] e pos.line X.env=pure false:=by rfl) (hw:swappedStores [tg] e X.env=pure none:=by rfl)
   (h1:(assignEach [tg] X.env).map (·.2)=[assign tg X.env]:=by rfl):PS X (.Assign [tg] e pos) (yB te g):=by
 intro pins s σ H D I h
 refine wpAny_Assign_stores (thn (he pins s σ H _ I h) λv s1 ⟨x,H1,I1,r1,q1⟩=>?_) hs hw
 rw [h1]
 exact thn (hg pins s1 σ H1 x v _ I1 r1 q1) λ_ s2 q=>q
theorem rA {i:Nat} {x:Str} {e:Expr} {te:TE} {pos':Pos} (hN:X.N.Nodup) (hi:X.N[i]?=some x) (hx:Loc X.env.scope x) (he:PE X e te) (hs:swapsWith e (some (.Name x pos')) pos.line X.env=pure false:=by rfl) (hf:X.fn x=true\/X.env.scope.names.lookup x=some .local:=by first | exact .inl rfl | exact .inr rfl | assumption) :
   PS X (.Assign [.Name x pos'] e pos) (yB te (wy i)):=by
 intro pins s σ H D I h
 refine wpAny_Assign_Name (thn (he pins s σ H _ I h) λv s1 ⟨y,H1,I1,r1,q1⟩=>?_) hs
 exact mF I1 hN hi hx r1 (λs2 I2=>⟨_,H1,I2,q1⟩) hf
end
section
variable {X:Cx} {pos:Pos}
noncomputable def wY (c:TT) (tb:TS):TS:=λD σ H=>∃ W:Nat->St->Hp->Prop,(∃ m,W m σ H)/\∀ m σ H,W m σ H ->
 c σ H λb H1=>if b=true then ∃ N:St->Hp->Prop,(∀ σ' H',N σ' H'->∃ m',m' < m/\W m' σ' H')/\tb { D with nx:=N,ct:=N,bk:=D.nx } σ H1 else D.nx σ H1
theorem tV {c:Expr} {body:List Stmt} {tc:TT} {tb:TS} (hp:PassesOwn (model X.prog X.w) X.A X.env X.xe) (hc:PT X c tc) (hb:PSs X body tb):PS X (.While c body [] pos) (wY tc tb):=by
 intro pins s σ H D I h
 obtain ⟨W,⟨m0,w0⟩,turn⟩:=h
 refine wpAny_While (codeAny_whileLoop (λn s'=>∃ σ' H',Inv X pins σ' H' s'/\W n σ' H') ?_ m0 ⟨σ,H,I,w0⟩)
 rintro n s1 ⟨σ1,H1,I1,w1⟩
 refine wpAny_passesOwn hp (thn (hc pins s1 σ1 H1 _ I1 (turn n σ1 H1 w1)) λb s2 ⟨H2,I2,q2⟩=>?_)
 cases b with
 | true=>
   obtain ⟨N,hN,q2⟩:=q2
   rw [if_pos rfl]
   refine wpAny_passesOwn hp (thn (hb pins s2 σ1 H2 _ I2 q2) λf s3 q3=>?_)
   cases f with
   | next=>
     obtain ⟨σ3,H3,I3,n3⟩:=q3
     obtain ⟨m',hm,w3⟩:=hN σ3 H3 n3
     exact ⟨m',hm,σ3,H3,I3,w3⟩
   | cont=>
     obtain ⟨σ3,H3,I3,n3⟩:=q3
     obtain ⟨m',hm,w3⟩:=hN σ3 H3 n3
     exact ⟨m',hm,σ3,H3,I3,w3⟩
   | brk=>exact q3
   | ret v=>exact q3
 | false=>
   rw [if_neg Bool.false_ne_true]
   exact wpAny_execs_nil ⟨σ1,H2,I2,q2⟩
end
structure It where
 go:Nat->Hp->Prop
 yld:Nat->Hp->V->Hp->Prop
 stop:Nat->Hp->Prop
noncomputable def j9 (X:Cx) (pins:List (Addr × Obj)) (H:Hp) (b:Addr):Prop:=
 H b=none/\b ≠ X.env.locals/\b ∉ X.fs/\(b ∈ X.ex\/X.s₀.heap.objs.size<=b)/\(∀ x c,X.env.cells.lookup x=some c->c ≠ b)/\∀ p ∈ X.pn++pins,p.1 ≠ b
theorem Inv.jV {X:Cx} {pins:List (Addr × Obj)} {σ:St} {H H':Hp} {s:Shared} {b:Addr} (I:Inv X pins σ H s) (hb:s.heap.objs.size<=b) (hn:H' b=none):j9 X pins H' b:=by
 refine ⟨hn,Nat.ne_of_gt (Nat.lt_of_lt_of_le I.lt hb),I.AS hb,.inr (Nat.le_trans I.sz hb),λx c e z=>?_,λp hp z=>?_⟩
 · obtain ⟨v,q⟩:=I.cell x c e
   exact absurd (Nat.lt_of_lt_of_le q.lt (by rw [z]; exact hb)) (Nat.lt_irrefl _)
 · exact absurd (Nat.lt_of_lt_of_le (Heap.lt_size (I.pin p hp).1) (by rw [z]; exact hb)) (Nat.lt_irrefl _)
noncomputable def Bu (X:Cx):Prop:=∃ h o u vs,X.A.handled=some (.ref h)/\X.H₀ h=some (.frz o u)/\o.data=.fields vs/\vs[2]?=some .none
noncomputable def Ck (kd:Bool) (X:Cx):Prop:=X.calm=true\/(kd=true/\Bu X)
theorem Ck.calm {X:Cx} (h:Ck false X):X.calm=true:=h.resolve_right λz=>nomatch z.1
structure Turn (P:Program) (w:World) (K:PySem.W.Frag) (kd:Bool) (tg:Expr) (J:It) (fp:List Addr) (it:Addr) (tn:Nat->Heap->Prop):Prop where
 mem:it ∈ fp
 obj:∀ i h,tn i h->∀ b ∈ fp,∃ o,h.get? b=some o/\∀ v,o.data ≠ .cell v
 keep:∀ i h h',tn i h->(∀ b ∈ fp,∀ o,h.get? b=some o->h'.get? b=some o)->tn i h'
 item:∀ (X:Cx),X.prog=P->X.w=w->X.K=K->Ck kd X->∀ (i:Nat) (pins:List (Addr × Obj)) (s:Shared) (σ:St) (H:Hp) (E:Value->Shared->Prop),Inv X pins σ H s->(∀ b ∈ fp,j9 X pins H b)->tn i s.heap->J.go i H ->
   wpAny (model P w) X.A (pyNext (.ref it)) (λr s1=>∃ u,r=some u /\
     wpAny (model P w) X.A (letOwnedTupleGo tg (.ref it) u) (λ_ s2=>∃ x H',Inv X pins σ H' s2/\RelV x u/\J.yld i H x H'/\tn (i + 1) s2.heap/\∀ b ∈ fp,H' b=none) E s1) E s
 done:∀ (X:Cx),X.prog=P->X.w=w->X.K=K->Ck kd X->∀ (i:Nat) (pins:List (Addr × Obj)) (s:Shared) (σ:St) (H:Hp) (E:Value->Shared->Prop),Inv X pins σ H s->(∀ b ∈ fp,j9 X pins H b)->tn i s.heap->J.stop i H ->
   wpAny (model P w) X.A (pyNext (.ref it)) (λr s1=>r=none/\Inv X pins σ H s1) E s
 self:∀ (A:Around) (i:Nat) (s:Shared) (Q:Value->Shared->Prop) (E:Value->Shared->Prop),tn i s.heap->Q (.ref it) s->wpAny (model P w) A (pyIter (.ref it)) Q E s
noncomputable abbrev TI:=St->Hp->(It->Hp->Prop)->Prop
noncomputable def PIE (X:Cx) (pins:List (Addr × Obj)) (σ:St) (tg:Expr) (R:It->Hp->Prop) (itv:Value) (s2:Shared):Prop:=
 ∃ (kd:Bool) (it:Addr) (fp:List Addr) (tn:Nat->Heap->Prop) (J:It) (H':Hp),itv=.ref it/\Inv X pins σ H' s2/\Ck kd X/\Turn X.prog X.w X.K kd tg J fp it tn/\tn 0 s2.heap/\(∀ b ∈ fp,j9 X pins H' b)/\R J H'
noncomputable def PI (X:Cx) (tg iter:Expr) (wi:TI):Prop:=
 ∀ (pins:List (Addr × Obj)) (s:Shared) (σ:St) (H:Hp) (R:It->Hp->Prop),Inv X pins σ H s->wi σ H R ->
   wpAny (model X.prog X.w) X.A (eval iter X.env) (λv s1=>wpAny (model X.prog X.w) X.A (pyIter v) (PIE X pins σ tg R) X.xe s1) X.xe s
theorem kA {M:Model} {A:Around} {E:Value->Shared->Prop} {s:Shared} {tg:Expr} {it:Addr} {u:Value} {o:Obj} {n:String} {vs:Array Value} {Q:Unit->Shared->Prop} (ho:s.heap.get? it=some o) (hc:o.cls=.type n) (hd:o.data=.fields vs)
   (hn:["enumerate","zip","dict_itemiterator","dict_reverseitemiterator","odict_iterator","itertools.zip_longest","itertools.pairwise"].contains n=false) (hQ:Q () s):wpAny M A (letOwnedTupleGo tg (.ref it) u) Q E s:=by
 unfold letOwnedTupleGo
 cases tg <;> first
   | exact wpAny_pure hQ
   | (cases u <;> first
       | exact wpAny_pure hQ
       | (refine wpAny_bind (wpAny_load ho ?_)
          rw [hc,hd]
          show wpAny M A (if (["enumerate","zip","dict_itemiterator","dict_reverseitemiterator","odict_iterator","itertools.zip_longest","itertools.pairwise"].contains n && vs[0]? == some (rawInt _))=true then _ else _) Q E s
          rw [if_neg (by intro h; rw [hn,Bool.false_and] at h; cases h)]
          exact wpAny_pure hQ))
noncomputable def Itl (K:PySem.W.Frag) (a:Addr):It:=
 ⟨λi H=>∃ xs x,SqL K H a xs/\xs[i]?=some x,λi H x H'=>H'=H/\∀ xs,SqL K H a xs->xs[i]?=some x,λi H=>∃ xs,SqL K H a xs/\xs.length<=i⟩
noncomputable def Itt (K:PySem.W.Frag) (a:Addr):It:=
 ⟨λi H=>∃ xs x,SqT K H a xs/\xs[i]?=some x,λi H x H'=>H'=H/\∀ xs,SqT K H a xs->xs[i]?=some x,λi H=>∃ xs,SqT K H a xs/\xs.length<=i⟩
noncomputable def Itr (lo:Int) (n:Nat):It:=⟨λi _=>i < n,λi H x H'=>H'=H/\x=.int (lo + i),λi _=>n<=i⟩
theorem qH {P:Program} {w:World} {K:PySem.W.Frag} {tg:Expr} (a it:Addr):Turn P w K false tg (Itl K a) [it] it (λi h=>h.IsListIter it a i) where
 mem:=by simp
 obj:=λi h st b hb=>by
   have e:b=it:=by simpa using hb
   subst e
   obtain ⟨o,e,c,d⟩:=st
   exact ⟨o,e,λv z=>by rw [d] at z; cases z⟩
 keep:=λi h h' st k=>st.at λo e=>k it (by simp) o e
 item:=by
   intro X hP hw hK hc i pins s σ H E I hf st hg
   subst hP hw hK
   obtain ⟨xs,x,hq,hx⟩:=hg
   obtain ⟨its,rv,p,hz⟩:=I.list hq
   obtain ⟨u,hu,ru⟩:=rv.get hx
   obtain ⟨f0,f1,f2,f3,f4,f5⟩:=hf it (by simp)
   refine wpAny_pyNext_list_item st p.isList (x:=u) (by simpa using hu) λh' st' sb=>?_
   have I1:Inv X pins σ H { s with heap:=h' }:=I.turned (t':=s.toks) (λb o hb e=>(sb.2 b hb).trans e) f0 f1 f3 f4 f5
   obtain ⟨o,e,c,d⟩:=id st'
   exact ⟨u,rfl,kA (s:={ s with heap:=h' }) e c d (by decide) ⟨x,H,I1,ru,⟨rfl,λys hy=>by rw [I.fh hy hq]; exact hx⟩,st',λb hb=>(hf b hb).1⟩⟩
 done:=by
   intro X hP hw hK hc i pins s σ H E I hf st hg
   subst hP hw hK
   obtain ⟨xs,hq,hx⟩:=hg
   obtain ⟨its,rv,p,hz⟩:=I.list hq
   obtain ⟨f0,f1,f2,f3,f4,f5⟩:=hf it (by simp)
   have hl:=rv.length
   exact wpAny_pyNext_list_end (I.ok.hd hc.calm) st p.isList (by simp; omega) λh' eb=>⟨rfl,I.turned (t':=s.toks) (λb o hb e=>eb b o hb e) f0 f1 f3 f4 f5⟩
 self:=λ_ _ _ _ _ st h=>wpAny_pyIter_listiter st h
theorem nq {P:Program} {w:World} {K:PySem.W.Frag} {tg:Expr} (a it:Addr):Turn P w K false tg (Itt K a) [it] it (λi h=>h.IsTupleIter it a i) where
 mem:=by simp
 obj:=λi h st b hb=>by
   have e:b=it:=by simpa using hb
   subst e
   obtain ⟨o,e,c,d⟩:=st
   exact ⟨o,e,λv z=>by rw [d] at z; cases z⟩
 keep:=λi h h' st k=>st.at λo e=>k it (by simp) o e
 item:=by
   intro X hP hw hK hc i pins s σ H E I hf st hg
   subst hP hw hK
   obtain ⟨xs,x,hq,hx⟩:=hg
   obtain ⟨its,rv,p,hz⟩:=I.tuple hq
   obtain ⟨u,hu,ru⟩:=rv.get hx
   obtain ⟨f0,f1,f2,f3,f4,f5⟩:=hf it (by simp)
   refine wpAny_pyNext_tuple_item st (show s.heap.IsTuple a its.toArray from p) (x:=u) (by simpa using hu) λh' st' sb=>?_
   have I1:Inv X pins σ H { s with heap:=h' }:=I.turned (t':=s.toks) (λb o hb e=>(sb.2 b hb).trans e) f0 f1 f3 f4 f5
   obtain ⟨o,e,c,d⟩:=id st'
   exact ⟨u,rfl,kA (s:={ s with heap:=h' }) e c d (by decide) ⟨x,H,I1,ru,⟨rfl,λys hy=>by rw [I.qx hy hq]; exact hx⟩,st',λb hb=>(hf b hb).1⟩⟩
 done:=by
   intro X hP hw hK hc i pins s σ H E I hf st hg
   subst hP hw hK
   obtain ⟨xs,hq,hx⟩:=hg
   obtain ⟨its,rv,p,hz⟩:=I.tuple hq
   obtain ⟨f0,f1,f2,f3,f4,f5⟩:=hf it (by simp)
   have hl:=rv.length
   exact wpAny_pyNext_tuple_end (I.ok.hd hc.calm) st (show s.heap.IsTuple a its.toArray from p) (by simp; omega) λh' eb=>⟨rfl,I.turned (t':=s.toks) (λb o hb e=>eb b o hb e) f0 f1 f3 f4 f5⟩
 self:=λ_ _ _ _ _ st h=>wpAny_pyIter_tupleiter st h
theorem oy {P:Program} {w:World} {K:PySem.W.Frag} {tg:Expr} (it:Addr) (lo:Int) (n:Nat):Turn P w K true tg (Itr lo n) [it] it (λi h=>IsRangeIter h it (lo + (i:Nat) * 1) ((n:Int) - (i:Nat)) 1) where
 mem:=by simp
 obj:=λi h st b hb=>by
   have e:b=it:=by simpa using hb
   subst e
   exact ⟨_,st,λv z=>by
     have z':Data.fields _=Data.cell v:=z
     cases z'⟩
 keep:=λi h h' st k=>k it (by simp) _ st
 item:=by
   intro X hP hw hK hc i pins s σ H E I hf st hg
   subst hP hw hK
   obtain ⟨f0,f1,f2,f3,f4,f5⟩:=hf it (by simp)
   refine wpAny_pyNext_range_item st (by have:i < n:=hg; omega) λh' st0 sb=>?_
   have st':IsRangeIter h' it (lo + ((i + 1:Nat):Int) * 1) ((n:Int) - ((i + 1:Nat):Int)) 1:=by
     have e1:lo + ((i + 1:Nat):Int) * 1=lo + (i:Nat) * 1 + 1:=by omega
     have e2:(n:Int) - ((i + 1:Nat):Int)=(n:Int) - (i:Nat) - 1:=by omega
     rw [e1,e2]; exact st0
   have I1:Inv X pins σ H { s with heap:=h',toks:=s.toks + 1 }:=I.turned (λb o hb e=>(sb.2 b hb).trans e) f0 f1 f3 f4 f5
   refine ⟨_,rfl,kA (s:={ s with heap:=h',toks:=s.toks + 1 }) (n:="range_iterator") st' rfl rfl (by decide) ⟨.int (lo + i),H,I1,⟨s.toks,?_⟩,⟨rfl,rfl⟩,st',λb hb=>(hf b hb).1⟩⟩
   rw [Int.mul_one]
 done:=by
   intro X hP hw hK hc i pins s σ H E I hf st hg
   subst hP hw hK
   obtain ⟨f0,f1,f2,f3,f4,f5⟩:=hf it (by simp)
   rcases hc with hc | ⟨_,q,o,u,vs,e1,e2,e3,e4⟩
   · exact wpAny_pyNext_range_end (I.ok.hd hc) st (by have:n<=i:=hg; omega) λh' eb=>⟨rfl,I.turned (t':=s.toks) (λb o hb e=>eb b o hb e) f0 f1 f3 f4 f5⟩
   · have e5:=I.hok q _ (I.base.frzs q o u e2)
     exact Hx.nZ e1 e5.1 e3 e4 st (by have:n<=i:=hg; omega) λh' eb=>⟨rfl,I.turned (t':=s.toks) (λb o hb e=>eb b o hb e) f0 f1 f3 f4 f5⟩
 self:=λ_ _ _ _ _ st h=>wpAny_pyIter_rangeiter st h
section
variable {X:Cx} {tg:Expr}
noncomputable def zF (K:PySem.W.Frag) (tl:TE):TI:=λσ H R=>tl σ H λx H1=>∃ a,x=.ref a/\(∃ xs,SqL K H1 a xs)/\R (Itl K a) H1
noncomputable def Bh (K:PySem.W.Frag) (tl:TE):TI:=λσ H R=>tl σ H λx H1=>∃ a,x=.ref a/\(∃ xs,SqT K H1 a xs)/\R (Itt K a) H1
theorem v3 {l:Expr} {tl:TE} (hc:X.calm=true) (hl:PE X l tl):PI X tg l (zF X.K tl):=by
 intro pins s σ H R I h
 refine thn (hl pins s σ H _ I h) λv s1 ⟨x,H1,I1,r1,q1⟩=>?_
 obtain ⟨a,e,⟨xs,hq⟩,q⟩:=q1
 subst e
 cases r1
 obtain ⟨its,rv,p,hz⟩:=I1.list hq
 refine wpAny_pyIter_list p.isList ?_
 refine ⟨false,s1.heap.objs.size,[s1.heap.objs.size],_,_,H1,rfl,I1.kept (t':=s1.toks) λb o e=>Heap.get?_push_of_some _ e,.inl hc,qH a _,⟨_,Heap.get?_push_size _ rfl,rfl,rfl⟩,λb hb=>?_,q⟩
 have e:b=s1.heap.objs.size:=by simpa using hb
 subst e
 exact I1.jV (Nat.le_refl _) (I1.hok.fresh (Nat.le_refl _))
theorem yo {l:Expr} {tl:TE} (hc:X.calm=true) (hl:PE X l tl):PI X tg l (Bh X.K tl):=by
 intro pins s σ H R I h
 refine thn (hl pins s σ H _ I h) λv s1 ⟨x,H1,I1,r1,q1⟩=>?_
 obtain ⟨a,e,⟨xs,hq⟩,q⟩:=q1
 subst e
 cases r1
 obtain ⟨its,rv,p,hz⟩:=I1.tuple hq
 refine wpAny_pyIter_tuple (show s1.heap.IsTuple a its.toArray from p) ?_
 refine ⟨false,s1.heap.objs.size,[s1.heap.objs.size],_,_,H1,rfl,I1.kept (t':=s1.toks) λb o e=>Heap.get?_push_of_some _ e,.inl hc,nq a _,⟨_,Heap.get?_push_size _ rfl,rfl,rfl⟩,λb hb=>?_,q⟩
 have e:b=s1.heap.objs.size:=by simpa using hb
 subst e
 exact I1.jV (Nat.le_refl _) (I1.hok.fresh (Nat.le_refl _))
theorem ni {pins:List (Addr × Obj)} {σ:St} {H:Hp} {s:Shared} {R:It->Hp->Prop} {E:Value->Shared->Prop} {lo hi:Int} {t u v:Tok} {tk:Nat} (hc:Ck true X) (I:Inv X pins σ H s) (h1:-(2 ^ 62)<=lo) (h2:lo < 2 ^ 62) (h3:-(2 ^ 62)<=hi) (h4:hi < 2 ^ 62)
   (q:R (Itr lo (hi - lo).toNat) H):wpAny (model X.prog X.w) X.A (pyIter (.ref s.heap.objs.size)) (PIE X pins σ tg R) E { s with heap:=s.heap.push { cls:=.type "range",data:=.fields #[.int lo t,.int hi u,.int 1 v] },toks:=tk }:=by
 refine wpAny_pyIter_range (IsRange.new ..) (small_one h1 h2 h3 h4) ?_
 have I1:Inv X pins σ H { s with heap:=s.heap.push { cls:=.type "range",data:=.fields #[.int lo t,.int hi u,.int 1 v] },toks:=tk }:=I.kept λb o e=>Heap.get?_push_of_some _ e
 refine ⟨true,(s.heap.push { cls:=.type "range",data:=.fields #[.int lo t,.int hi u,.int 1 v] }).objs.size,[(s.heap.push { cls:=.type "range",data:=.fields #[.int lo t,.int hi u,.int 1 v] }).objs.size],_,_,H,rfl,
   I1.kept (t':=tk) λb o e=>Heap.get?_push_of_some _ e,hc,oy _ lo (hi - lo).toNat,?_,λb hb=>?_,q⟩
 · have e1:lo + ((0:Nat):Int) * 1=lo:=by simp
   have e2:(((hi - lo).toNat:Nat):Int) - ((0:Nat):Int)=Builtin.Range.rangeSize lo hi 1:=by rw [rangeSize_one]; split <;> omega
   show IsRangeIter _ _ (lo + ((0:Nat):Int) * 1) ((((hi - lo).toNat:Nat):Int) - ((0:Nat):Int)) 1
   rw [e1,e2]
   exact Heap.get?_push_size _ rfl
 · have e:b=(s.heap.push { cls:=.type "range",data:=.fields #[.int lo t,.int hi u,.int 1 v] }).objs.size:=by simpa using hb
   subst e
   exact I1.jV (Nat.le_refl _) (I1.hok.fresh (Nat.le_refl _))
noncomputable def Ac (ta:TA):TI:=λσ H R=>ta σ H λvs H1=>∃ j:Int,vs=[.int j]/\-(2 ^ 62)<=j/\j < 2 ^ 62/\R (Itr 0 j.toNat) H1
noncomputable def AJ (ta:TA):TI:=λσ H R=>ta σ H λvs H1=>∃ i j:Int,vs=[.int i,.int j]/\(-(2 ^ 62)<=i/\i < 2 ^ 62/\-(2 ^ 62)<=j/\j < 2 ^ 62)/\R (Itr i (j - i).toNat) H1
theorem qw {a:Expr} {ta:TA} {p pos:Pos} (hc:Ck true X) (hg:Gl X "range") (hm:X.mg "range" = none) (ha:PA X [a] ta) (hs:starEach [a] X.env=[(false,eval a X.env)]:=by rfl):PI X tg (.Call (.Name "range" p) [a] [] pos) (Ac ta):=by
 intro pins s σ H R I h
 refine Call_ (ee I hg hm boot_range (PyProof.Rows.callWith_type1 (thn (ha pos pins s σ H _ I h) λus s1 ⟨vs,H1,I1,r1,q1⟩=>?_) hs rfl))
 obtain ⟨j,e,q1,q2,q⟩:=q1
 subst e
 cases r1 with
 | cons r rr=>
   cases rr
   obtain ⟨t,rfl⟩:=r
   exact call_range_1 (ni hc I1 (by omega) (by omega) q1 q2 (by simpa using q))
theorem qy {a b:Expr} {ta:TA} {p pos:Pos} (hc:Ck true X) (hg:Gl X "range") (hm:X.mg "range" = none) (ha:PA X [a,b] ta) (hs:starEach [a,b] X.env=[(false,eval a X.env),(false,eval b X.env)]:=by rfl) (hs2:starEach [b] X.env=[(false,eval b X.env)]:=by rfl) :
   PI X tg (.Call (.Name "range" p) [a,b] [] pos) (AJ ta):=by
 intro pins s σ H R I h
 refine Call_ (ee I hg hm boot_range (PyProof.Rows.callWith_type1 (thn (ha pos pins s σ H _ I h) λus s1 ⟨vs,H1,I1,r1,q1⟩=>?_) (by rw [hs,hs2]) (by rw [hs2]; rfl)))
 obtain ⟨i,j,e,⟨q1,q2,q3,q4⟩,q⟩:=q1
 subst e
 cases r1 with
 | cons r rr=>
   cases rr with
   | cons r' rr=>
     cases rr
     obtain ⟨t,rfl⟩:=r
     obtain ⟨t',rfl⟩:=r'
     exact call_range_2 (ni hc I1 q1 q2 q3 q4 q)
noncomputable def Ba (wi:TI) (g:TG) (tb:TS):TS:=λD σ H=>wi σ H λJ H1=>∃ W:Nat->Nat->St->Hp->Prop,(∃ m,W 0 m σ H1)/\∀ i m σ H,W i m σ H ->
 (J.stop i H/\D.nx σ H)\/(J.go i H/\∃ N:St->Hp->Prop,(∀ σ' H',N σ' H'->∃ m',m' < m/\W (i + 1) m' σ' H')/\∀ x H',J.yld i H x H'->g x σ H' λσ2 H2=>tb { D with nx:=N,ct:=N,bk:=D.nx } σ2 H2)
noncomputable def gx (fp:List Addr) (h:Heap):List (Addr × Obj):=fp.filterMap λb=>(h.get? b).map λo=>(b,o)
theorem bY {fp:List Addr} {h:Heap} {b:Addr} {o:Obj} (hb:b ∈ fp) (e:h.get? b=some o):(b,o) ∈ gx fp h:=List.mem_filterMap.mpr ⟨b,hb,by rw [e]; rfl⟩
theorem qO {fp:List Addr} {h:Heap} {p:Addr × Obj} (hp:p ∈ gx fp h):p.1 ∈ fp/\h.get? p.1=some p.2:=by
 obtain ⟨b,hb,e⟩:=List.mem_filterMap.mp hp
 cases q:h.get? b with
 | none=>rw [q] at e; cases e
 | some o=>
   rw [q] at e
   have e':(b,o)=p:=Option.some.inj e
   subst e'
   exact ⟨hb,q⟩
theorem Inv.pinned {pins:List (Addr × Obj)} {σ:St} {H:Hp} {s:Shared} {fp:List Addr} (I:Inv X pins σ H s) (hf:∀ b ∈ fp,j9 X pins H b) (ho:∀ b ∈ fp,∃ o,s.heap.get? b=some o/\∀ v,o.data ≠ .cell v):Inv X (pins++gx fp s.heap) σ H s:=
 I.pI λp hp=>(List.mem_append.mp hp).elim (λz=>I.pin p (List.mem_append_right _ z)) λz=>by
   obtain ⟨hb,e⟩:=qO z
   obtain ⟨f0,f1,f2,_⟩:=hf p.1 hb
   obtain ⟨o,e',d⟩:=ho p.1 hb
   rw [e] at e'; cases e'
   exact ⟨e,f0,f1,f2,d⟩
theorem Inv.dB {pins pl:List (Addr × Obj)} {σ:St} {H:Hp} {s:Shared} (I:Inv X (pins++pl) σ H s):Inv X pins σ H s:=I.pI λp hp=>I.pin p (List.mem_append_right _ (List.mem_append_left _ hp))
theorem sH {iter:Expr} {body:List Stmt} {wi:TI} {g:TG} {tb:TS} {pos:Pos} (hp:PassesOwn (model X.prog X.w) X.A X.env X.xe) (hi:PI X tg iter wi) (hg:PG X tg g) (hb:PSs X body tb)
   (hs:∀ x,foldedSetIterable iter X.env x=pure x:=by intro _; rfl):PS X (.For tg iter body [] pos) (Ba wi g tb):=by
 intro pins s σ H D I h
 refine wpAny_For (thn (hi pins s σ H _ I h) λv s1 h1=>thn h1 λitv s2 h2=>?_) hs
 obtain ⟨kd,it,fp,tn,J,H2,e,I2,hc,T,st2,f2,W,⟨m0,w0⟩,turn⟩:=h2
 subst e
 have stat:∀ {H':Hp},(∀ b ∈ fp,H' b=none)->∀ b ∈ fp,j9 X pins H' b:=λhn b hb=>⟨hn b hb,(f2 b hb).2⟩
 refine codeAny_forLoop_any (λn s'=>∃ i σ' H',Inv X pins σ' H' s'/\tn i s'.heap/\(∀ b ∈ fp,H' b=none)/\W i n σ' H') ?_ m0 ⟨0,σ,H2,I2,st2,λb hb=>(f2 b hb).1,w0⟩
 rintro n s3 ⟨i,σ3,H3,I3,st3,fr3,w3⟩
 rcases turn i n σ3 H3 w3 with ⟨stop,qn⟩ | ⟨go,N,hN,step⟩
 · refine wpAny_passesOwn hp (thn (T.done X rfl rfl rfl hc i pins s3 σ3 H3 X.xe I3 (stat fr3) st3 stop) λr s4 ⟨hr,I4⟩=>?_)
   subst hr
   exact wpAny_execs_nil ⟨σ3,H3,I4,qn⟩
 · refine wpAny_passesOwn hp (thn (T.item X rfl rfl rfl hc i pins s3 σ3 H3 X.xe I3 (stat fr3) st3 go) λr s4 ⟨u,hr,h4⟩=>?_)
   subst hr
   refine wpAny_passesOwn hp (thn h4 λ_ s5 ⟨x,H5,I5,r5,y5,st5,fr5⟩=>?_)
   have I5':=I5.pinned (stat fr5) (T.obj _ _ st5)
   refine wpAny_passesOwn hp (thn (hg _ s5 σ3 H5 x u _ I5' r5 (step x H5 y5)) λ_ s6 ⟨σ6,H6,I6,q6⟩=>?_)
   refine wpAny_passesOwn hp (thn (hb _ s6 σ6 H6 _ I6 q6) λf s7 q7=>?_)
   have again:∀ {σ7:St} {H7:Hp},Inv X (pins++gx fp s5.heap) σ7 H7 s7->N σ7 H7->∃ m,m < n/\∃ i σ' H',Inv X pins σ' H' s7/\tn i s7.heap/\(∀ b ∈ fp,H' b=none)/\W i m σ' H':=λ{σ7 H7} I7 n7=>by
     obtain ⟨m',hm,w7⟩:=hN σ7 H7 n7
     refine ⟨m',hm,i + 1,σ7,H7,I7.dB,T.keep _ _ _ st5 λb hb o e=>(I7.pin (b,o) (List.mem_append_right _ (List.mem_append_right _ (bY hb e)))).1,λb hb=>?_,w7⟩
     obtain ⟨o,e,d⟩:=T.obj _ _ st5 b hb
     exact (I7.pin (b,o) (List.mem_append_right _ (List.mem_append_right _ (bY hb e)))).2.1
   cases f with
   | next=>obtain ⟨σ7,H7,I7,n7⟩:=q7; exact again I7 n7
   | cont=>obtain ⟨σ7,H7,I7,n7⟩:=q7; exact again I7 n7
   | brk=>obtain ⟨σ7,H7,I7,q7⟩:=q7; exact ⟨σ7,H7,I7.dB,q7⟩
   | ret v=>obtain ⟨x7,σ7,H7,I7,r7,q7⟩:=q7; exact ⟨x7,σ7,H7,I7.dB,r7,q7⟩
end
noncomputable abbrev R2:=V->V->Hp->VK->Prop
noncomputable def OpR (X:Cx) (f:Value->Value->Sem Value) (r:R2):Prop:=
 ∀ (pins:List (Addr × Obj)) (s:Shared) (σ:St) (H:Hp) (x y:V) (v u:Value) (Q:VK),Inv X pins σ H s->RelV x v->RelV y u->r x y H Q ->
   wpAny (model X.prog X.w) X.A (f v u) (EP X pins σ Q) X.xe s
noncomputable def UnR (X:Cx) (f:Value->Sem Value) (r:V->Hp->VK->Prop):Prop:=
 ∀ (pins:List (Addr × Obj)) (s:Shared) (σ:St) (H:Hp) (x:V) (v:Value) (Q:VK),Inv X pins σ H s->RelV x v->r x H Q ->
   wpAny (model X.prog X.w) X.A (f v) (EP X pins σ Q) X.xe s
noncomputable def e8 (X:Cx) (f:Value) (r:List V->Hp->VK->Prop):Prop:=
 ∀ (pins:List (Addr × Obj)) (s:Shared) (σ:St) (H:Hp) (xs:List V) (us:List Value) (Q:VK),Inv X pins σ H s->Vals xs us->r xs H Q ->
   wpAny (model X.prog X.w) X.A (call f us) (EP X pins σ Q) X.xe s
noncomputable def tOp (r:R2) (ta tb:TE):TE:=λσ H Q=>ta σ H λx H1=>tb σ H1 λy H2=>r x y H2 Q
noncomputable def tUn (r:V->Hp->VK->Prop) (ta:TE):TE:=λσ H Q=>ta σ H λx H1=>r x H1 Q
noncomputable def rI (C:Int->Int->Prop) (g:Int->Int->V):R2:=λx y H Q=>∃ i j,x=.int i/\y=.int j/\C i j/\Q (g i j) H
noncomputable def rI0 (g:Int->Int->V):R2:=λx y H Q=>∃ i j,x=.int i/\y=.int j/\Q (g i j) H
noncomputable def rU (g:Int->V):V->Hp->VK->Prop:=λx H Q=>∃ i,x=.int i/\Q (g i) H
section
variable {X:Cx} {a b c:Expr} {ta tb tc:TE} {pos:Pos}
theorem xp (ha:PE X a ta) (hb:PE X b tb) {pins:List (Addr × Obj)} {s:Shared} {σ:St} {H:Hp} {R:V->V->Hp->Prop} (I:Inv X pins σ H s)
   (h:ta σ H λx H1=>tb σ H1 λy H2=>R x y H2) {Q:Value->Shared->Prop} {f:Value->Value->Sem Value}
   (hf:∀ v u s2 x y H2,Inv X pins σ H2 s2->RelV x v->RelV y u->R x y H2->wpAny (model X.prog X.w) X.A (f v u) Q X.xe s2) :
   wpAny (model X.prog X.w) X.A (eval a X.env) (λv s₁=>wpAny (model X.prog X.w) X.A (eval b X.env) (λu s₂=>wpAny (model X.prog X.w) X.A (f v u) Q X.xe s₂) X.xe s₁) X.xe s:=by
 refine thn (ha pins s σ H _ I h) λv s1 ⟨x,H1,I1,r1,q1⟩=>?_
 refine thn (hb pins s1 σ H1 _ I1 q1) λu s2 ⟨y,H2,I2,r2,q2⟩=>?_
 exact hf v u s2 x y H2 I2 r1 r2 q2
theorem tu {op:Operator} {r:R2} (ho:OpR X (binaryOp op) r) (ha:PE X a ta) (hb:PE X b tb):PE X (.BinOp a op b pos) (tOp r ta tb):=by
 intro pins s σ H Q I h
 exact wpAny_BinOp (xp ha hb I h λv u s2 x y H2 I2 rx ry q=>ho pins s2 σ H2 x y v u Q I2 rx ry q)
theorem zR {op:UnaryOp} {r:V->Hp->VK->Prop} (ho:UnR X (unaryOp op) r) (ha:PE X a ta):PE X (.UnaryOp op a pos) (tUn r ta):=by
 intro pins s σ H Q I h
 exact UnaryOp_ (thn (ha pins s σ H _ I h) λv s1 ⟨x,H1,I1,r1,q1⟩=>ho pins s1 σ H1 x v Q I1 r1 q1)
theorem opI {f:Value->Value->Sem Value} {C:Int->Int->Prop} {g:Int->Int->Int}
   (rule:∀ (i j:Int) (t u:Tok) (s:Shared) (Q:Value->Shared->Prop) (E:Value->Shared->Prop),C i j->Q (.int (g i j) s.toks) { s with toks:=s.toks + 1 }->wpAny (model X.prog X.w) X.A (f (.int i t) (.int j u)) Q E s) :
   OpR X f (rI C λi j=>.int (g i j)):=by
 intro pins s σ H x y v u Q I rx ry h
 obtain ⟨i,j,rfl,rfl,hc,q⟩:=h
 obtain ⟨t,rfl⟩:=rx
 obtain ⟨t',rfl⟩:=ry
 exact rule i j t t' s _ _ hc ⟨.int (g i j),H,I.tok _,⟨_,rfl⟩,q⟩
theorem zv {f:Value->Value->Sem Value} {g:Int->Int->Int}
   (rule:∀ (i j:Int) (t u:Tok) (s:Shared) (Q:Value->Shared->Prop) (E:Value->Shared->Prop),Q (.int (g i j) s.toks) { s with toks:=s.toks + 1 }->wpAny (model X.prog X.w) X.A (f (.int i t) (.int j u)) Q E s) :
   OpR X f (rI0 λi j=>.int (g i j)):=by
 intro pins s σ H x y v u Q I rx ry h
 obtain ⟨i,j,rfl,rfl,q⟩:=h
 obtain ⟨t,rfl⟩:=rx
 obtain ⟨t',rfl⟩:=ry
 exact rule i j t t' s _ _ ⟨.int (g i j),H,I.tok _,⟨_,rfl⟩,q⟩
theorem uP {f:Value->Value->Sem Value} {g:Int->Int->Bool}
   (rule:∀ (i j:Int) (t u:Tok) (s:Shared) (Q:Value->Shared->Prop) (E:Value->Shared->Prop),Q (.bool (g i j)) s->wpAny (model X.prog X.w) X.A (f (.int i t) (.int j u)) Q E s) :
   OpR X f (rI0 λi j=>.bl (g i j)):=by
 intro pins s σ H x y v u Q I rx ry h
 obtain ⟨i,j,rfl,rfl,q⟩:=h
 obtain ⟨t,rfl⟩:=rx
 obtain ⟨t',rfl⟩:=ry
 exact rule i j t t' s _ _ ⟨.bl (g i j),H,I,rfl,q⟩
noncomputable def Ad (i j:Int):Prop:=0<=j/\j<=1000000/\i.natAbs < 2 ^ 64
theorem yh:OpR X (binaryOp .Add) (rI0 λi j=>.int (i + j)):=zv λ_ _ _ _ _ _ _ q=>add_int q
theorem xr:OpR X (binaryOp .Sub) (rI0 λi j=>.int (i - j)):=zv λ_ _ _ _ _ _ _ q=>sub_int q
theorem uZ:OpR X (binaryOp .Mod) (rI (λ_ j=>j ≠ 0) λi j=>.int (i.fmod j)):=opI λ_ _ _ _ _ _ _ hc q=>mod_int' hc q
theorem yp:OpR X (binaryOp .Pow) (rI Ad λi j=>.int (i ^ j.toNat)):=opI λ_ _ _ _ _ _ _ hc q=>pow_int_small hc.1 hc.2.1 hc.2.2 q
theorem unI {f:Value->Sem Value} {g:Int->Int}
   (rule:∀ (i:Int) (t:Tok) (s:Shared) (Q:Value->Shared->Prop) (E:Value->Shared->Prop),Q (.int (g i) s.toks) { s with toks:=s.toks + 1 }->wpAny (model X.prog X.w) X.A (f (.int i t)) Q E s) :
   UnR X f (rU λi=>.int (g i)):=by
 intro pins s σ H x v Q I rx h
 obtain ⟨i,rfl,q⟩:=h
 obtain ⟨t,rfl⟩:=rx
 exact rule i t s _ _ ⟨.int (g i),H,I.tok _,⟨_,rfl⟩,q⟩
theorem xN:UnR X (unaryOp .USub) (rU λi=>.int (-i)):=unI λ_ _ _ _ _ q=>neg_int q
end
noncomputable def zj:V->V->Bool
 | .non,.non=>true | .non,.int _=>true | .int _,.non=>true | .non,.bl _=>true | .bl _,.non=>true | .non,.str _=>true | .str _,.non=>true
 | .int _,.int _=>true | .bl _,.bl _=>true | .str _,.str _=>true | .byt _,.byt _=>true
 | .int _,.str _=>true | .str _,.int _=>true | .bl _,.str _=>true | .str _,.bl _=>true
 | _,_=>false
noncomputable def rEq:R2:=λx y H Q=>zj x y=true/\Q (.bl (decide (x=y))) H
noncomputable def rNe:R2:=λx y H Q=>zj x y=true/\Q (.bl (!decide (x=y))) H
theorem pY {i j:Int}:decide (V.int i=V.int j)=(i == j):=by
 rw [Bool.eq_iff_iff]
 simp
theorem rm {i j:Bool}:decide (V.bl i=V.bl j)=(i == j):=by
 rw [Bool.eq_iff_iff]
 simp
theorem pK {i j:Str}:decide (V.str i=V.str j)=(i == j):=by
 rw [Bool.eq_iff_iff]
 simp
theorem qj {i j:Array UInt8}:decide (V.byt i=V.byt j)=(i.toList == j.toList):=by
 rw [Bool.eq_iff_iff]
 cases i
 cases j
 simp
section
variable {X:Cx} {a b c:Expr} {ta tb tc:TE} {pos:Pos}
theorem aZ {pins:List (Addr × Obj)} {σ:St} {H:Hp} {s:Shared} {Q:VK} {k k':Bool} (I:Inv X pins σ H s) (q:Q (.bl k) H) (e:k=k'):EP X pins σ Q (.bool k') s:=by
 subst e
 exact ⟨.bl k,H,I,rfl,q⟩
theorem wu:OpR X (compareOp .Eq) rEq:=by
 intro pins s σ H x y v u Q I rx ry h
 obtain ⟨hs,q⟩:=h
 cases x with
 | non=>
   cases rx
   cases y with
   | non=>cases ry; exact PySem.EqNone.eq_none_none (aZ I q (by simp))
   | bl j=>cases ry; exact PySem.EqNone.eq_none_bool (aZ I q (by simp))
   | int j=>obtain ⟨t',rfl⟩:=ry; exact PySem.EqNone.eq_none_int (aZ I q (by simp))
   | str j=>obtain ⟨t',rfl⟩:=ry; exact PySem.EqNone.eq_none_str (aZ I q (by simp))
   | _=>exact absurd (show false=true from hs) Bool.false_ne_true
 | bl i=>
   cases rx
   cases y with
   | non=>cases ry; exact PySem.EqNone.eq_bool_none (aZ I q (by simp))
   | bl j=>cases ry; exact eq_bool (aZ I q rm)
   | str j=>obtain ⟨t',rfl⟩:=ry; exact PySem.EqMixed.eq_bool_str (aZ I q (by simp))
   | _=>exact absurd (show false=true from hs) Bool.false_ne_true
 | int i=>
   obtain ⟨t,rfl⟩:=rx
   cases y with
   | non=>cases ry; exact PySem.EqNone.eq_int_none (aZ I q (by simp))
   | int j=>obtain ⟨t',rfl⟩:=ry; exact eq_int (aZ I q pY)
   | str j=>obtain ⟨t',rfl⟩:=ry; exact PySem.EqMixed.eq_int_str (aZ I q (by simp))
   | _=>exact absurd (show false=true from hs) Bool.false_ne_true
 | str i=>
   obtain ⟨t,rfl⟩:=rx
   cases y with
   | non=>cases ry; exact PySem.EqNone.eq_str_none (aZ I q (by simp))
   | bl j=>cases ry; exact PySem.EqMixed.eq_str_bool (aZ I q (by simp))
   | int j=>obtain ⟨t',rfl⟩:=ry; exact PySem.EqMixed.eq_str_int (aZ I q (by simp))
   | str j=>obtain ⟨t',rfl⟩:=ry; exact eq_str (aZ I q pK)
   | _=>exact absurd (show false=true from hs) Bool.false_ne_true
 | byt i=>
   obtain ⟨t,rfl⟩:=rx
   cases y with
   | byt j=>obtain ⟨t',rfl⟩:=ry; exact PySem.W.eq_bytes (aZ I q qj)
   | _=>exact absurd (show false=true from hs) Bool.false_ne_true
 | _=>cases y <;> exact absurd (show false=true from hs) Bool.false_ne_true
theorem wq:OpR X (compareOp .NotEq) rNe:=by
 intro pins s σ H x y v u Q I rx ry h
 obtain ⟨hs,q⟩:=h
 cases x with
 | non=>
   cases rx
   cases y with
   | non=>cases ry; exact PySem.EqNone.ne_none_none (aZ I q (by simp))
   | bl j=>cases ry; exact PySem.EqNone.ne_none_bool (aZ I q (by simp))
   | int j=>obtain ⟨t',rfl⟩:=ry; exact PySem.EqNone.ne_none_int (aZ I q (by simp))
   | str j=>obtain ⟨t',rfl⟩:=ry; exact PySem.EqNone.ne_none_str (aZ I q (by simp))
   | _=>exact absurd (show false=true from hs) Bool.false_ne_true
 | bl i=>
   cases rx
   cases y with
   | non=>cases ry; exact PySem.EqNone.ne_bool_none (aZ I q (by simp))
   | bl j=>cases ry; exact ne_bool (aZ I q (congrArg not rm))
   | str j=>obtain ⟨t',rfl⟩:=ry; exact PySem.EqMixed.ne_bool_str (aZ I q (by simp))
   | _=>exact absurd (show false=true from hs) Bool.false_ne_true
 | int i=>
   obtain ⟨t,rfl⟩:=rx
   cases y with
   | non=>cases ry; exact PySem.EqNone.ne_int_none (aZ I q (by simp))
   | int j=>obtain ⟨t',rfl⟩:=ry; exact ne_int (aZ I q (congrArg not pY))
   | str j=>obtain ⟨t',rfl⟩:=ry; exact PySem.EqMixed.ne_int_str (aZ I q (by simp))
   | _=>exact absurd (show false=true from hs) Bool.false_ne_true
 | str i=>
   obtain ⟨t,rfl⟩:=rx
   cases y with
   | non=>cases ry; exact PySem.EqNone.ne_str_none (aZ I q (by simp))
   | bl j=>cases ry; exact PySem.EqMixed.ne_str_bool (aZ I q (by simp))
   | int j=>obtain ⟨t',rfl⟩:=ry; exact PySem.EqMixed.ne_str_int (aZ I q (by simp))
   | str j=>obtain ⟨t',rfl⟩:=ry; exact ne_str (aZ I q (congrArg not pK))
   | _=>exact absurd (show false=true from hs) Bool.false_ne_true
 | byt i=>
   obtain ⟨t,rfl⟩:=rx
   cases y with
   | byt j=>obtain ⟨t',rfl⟩:=ry; exact PySem.W.ne_bytes (aZ I q (congrArg not qj))
   | _=>exact absurd (show false=true from hs) Bool.false_ne_true
 | _=>cases y <;> exact absurd (show false=true from hs) Bool.false_ne_true
theorem AK:OpR X (compareOp .Lt) (rI0 λi j=>.bl (decide (i < j))):=uP λ_ _ _ _ _ _ _ q=>lt_int q
theorem AQ:OpR X (compareOp .LtE) (rI0 λi j=>.bl (decide (i<=j))):=uP λ_ _ _ _ _ _ _ q=>le_int q
theorem y0:OpR X (compareOp .Gt) (rI0 λi j=>.bl (decide (j < i))):=uP λ_ _ _ _ _ _ _ q=>gt_int q
theorem zG:OpR X (compareOp .GtE) (rI0 λi j=>.bl (decide (j<=i))):=uP λ_ _ _ _ _ _ _ q=>ge_int q
theorem vf:OpR X (compareOp .IsNot) (λx y H Q=>y=.non/\Q (.bl (!decide (x=.non))) H):=by
 intro pins s σ H x y v u Q I rx ry h
 obtain ⟨rfl,q⟩:=h
 cases ry
 refine isnot_none_gen (aZ I q ?_)
 cases x <;> first
   | (cases rx; rfl)
   | (obtain ⟨t,rfl⟩:=rx; rfl)
theorem sO (b:Expr) {op:CmpOp} (h:op ≠ .In:=by decide) (h2:op ≠ .NotIn:=by decide):behindInMarks op b=false:=by
 have e1:(op == CmpOp.In)=false:=by cases op <;> first | rfl | exact absurd rfl h
 have e2:(op == CmpOp.NotIn)=false:=by cases op <;> first | rfl | exact absurd rfl h2
 cases b <;> simp [behindInMarks,e1,e2]
theorem vo {op:CmpOp} {r:R2} (ho:OpR X (compareOp op) r) (ha:PE X a ta) (hb:PE X b tb) (hm:behindInMarks op b=false):PE X (.Compare a [op] [b] pos) (tOp r ta tb):=by
 intro pins s σ H Q I h
 exact wpAny_Compare1 (xp ha hb I h λv u s2 x y H2 I2 rx ry q=>ho pins s2 σ H2 x y v u Q I2 rx ry q) hm
noncomputable def wg (t:TE):TT:=λσ H Q=>t σ H λx H'=>∃ k,x=.bl k/\Q k H'
theorem v9 {op:CmpOp} {r:R2} (ho:OpR X (compareOp op) r) (ha:PE X a ta) (hb:PE X b tb) (hm:behindInMarks op b=false):PT X (.Compare a [op] [b] pos) (wg (tOp r ta tb)):=by
 intro pins s σ H Q I h
 refine wpAny_isTrue_Compare1 (thn (ha pins s σ H _ I h) λv s1 ⟨x,H1,I1,r1,q1⟩=>thn (hb pins s1 σ H1 _ I1 q1) λu s2 ⟨y,H2,I2,r2,q2⟩=>
   thn (ho pins s2 σ H2 x y v u _ I2 r1 r2 q2) λc s3 ⟨z,H3,I3,r3,k,e,q3⟩=>?_) hm
 subst e
 cases r3
 exact wpAny_truthy_bool ⟨H3,I3,q3⟩
noncomputable def nO (r r':R2) (ta tb tc:TE):TE:=λσ H Q=>ta σ H λx H1=>tb σ H1 λy H2=>r x y H2 λz H3=>∃ k,z=.bl k /\
 (if k=true then tc σ H3 λw' H4=>r' y w' H4 Q else Q (.bl false) H3)
theorem r6 {op op':CmpOp} {r r':R2} (ho:OpR X (compareOp op) r) (ho':OpR X (compareOp op') r') (ha:PE X a ta) (hb:PE X b tb) (hc:PE X c tc)
   (hm:lastMarks [op,op'] [b,c]=false:=by with_unfolding_all rfl):PE X (.Compare a [op,op'] [b,c] pos) (nO r r' ta tb tc):=by
 intro pins s σ H Q I h
 refine Compare_chain (thn (ha pins s σ H _ I h) λv s1 ⟨x,H1,I1,r1,q1⟩=>chain_link (thn (hb pins s1 σ H1 _ I1 q1) λu s2 ⟨y,H2,I2,r2,q2⟩=>
   thn (ho pins s2 σ H2 x y v u _ I2 r1 r2 q2) λd s3 ⟨z,H3,I3,r3,k,e,q3⟩=>?_)) hm
 subst e
 cases r3
 refine wpAny_truthy_bool ?_
 cases k with
 | false=>exact ite_ff ⟨.bl false,H3,I3,rfl,q3⟩
 | true=>exact ite_tt (chain_last (thn (hc pins s3 σ H3 _ I3 q3) λw' s4 ⟨z',H4,I4,r4,q4⟩=>ho' pins s4 σ H4 y z' u w' Q I4 r2 r4 q4))
theorem tG {op op':CmpOp} {r r':R2} (ho:OpR X (compareOp op) r) (ho':OpR X (compareOp op') r') (ha:PE X a ta) (hb:PE X b tb) (hc:PE X c tc)
   (hm:lastMarks [op,op'] [b,c]=false:=by with_unfolding_all rfl):PT X (.Compare a [op,op'] [b,c] pos) (wg (nO r r' ta tb tc)):=by
 intro pins s σ H Q I h
 refine isTrue_chain (thn (ha pins s σ H _ I h) λv s1 ⟨x,H1,I1,r1,q1⟩=>test_link (thn (hb pins s1 σ H1 _ I1 q1) λu s2 ⟨y,H2,I2,r2,q2⟩=>
   thn (ho pins s2 σ H2 x y v u _ I2 r1 r2 q2) λd s3 ⟨z,H3,I3,r3,k,e,q3⟩=>?_)) hm
 subst e
 cases r3
 refine wpAny_truthy_bool ?_
 cases k with
 | false=>
   obtain ⟨k',e',q'⟩:=q3
   cases e'
   exact ite_ff ⟨H3,I3,q'⟩
 | true=>
   refine ite_tt (test_last (thn (hc pins s3 σ H3 _ I3 q3) λw' s4 ⟨z',H4,I4,r4,q4⟩=>thn (ho' pins s4 σ H4 y z' u w' _ I4 r2 r4 q4) λd' s5 ⟨z2,H5,I5,r5,k2,e2,q5⟩=>?_))
   subst e2
   cases r5
   exact wpAny_truthy_bool ⟨H5,I5,q5⟩
theorem lT:(sizeLine:Nat) < 2 ^ 63:=by rw [sizeLine_eq]; decide
theorem vals1 {x:V} {us:List Value} (r:Vals [x] us):∃ u,us=[u]/\RelV x u:=by
 cases r with
 | cons r1 r2=>cases r2; exact ⟨_,rfl,r1⟩
theorem vals2 {x y:V} {us:List Value} (r:Vals [x,y] us):∃ u w',us=[u,w']/\RelV x u/\RelV y w':=by
 cases r with
 | cons r1 r2=>
   cases r2 with
   | cons r3 r4=>cases r4; exact ⟨_,_,rfl,r1,r3⟩
theorem rn:e8 X (.builtin "abs") (λxs H Q=>∃ i,xs=[.int i]/\Q (.int (if i < 0 then -i else i)) H):=by
 intro pins s σ H xs us Q I r h
 obtain ⟨i,rfl,q⟩:=h
 obtain ⟨u,rfl,t,rfl⟩:=vals1 r
 exact call_abs_int λu tk=>⟨.int (if i < 0 then -i else i),H,I.tok _,⟨_,rfl⟩,q⟩
theorem rh (hc:X.calm=true):e8 X (.builtin "max") (λxs H Q=>∃ i j,xs=[.int i,.int j]/\Q (.int (if j > i then j else i)) H):=by
 intro pins s σ H xs us Q I r h
 obtain ⟨i,j,rfl,q⟩:=h
 obtain ⟨u,w',rfl,⟨t,rfl⟩,⟨t',rfl⟩⟩:=vals2 r
 refine max_two_ints (I.ok.hd hc) λh' tk k=>⟨_,H,I.kept k,?_,q⟩
 by_cases hj:j > i
 · rw [if_pos hj,if_pos hj]; exact ⟨_,rfl⟩
 · rw [if_neg hj,if_neg hj]; exact ⟨_,rfl⟩
theorem qG (hc:X.calm=true):e8 X (.builtin "min") (λxs H Q=>∃ i j,xs=[.int i,.int j]/\Q (.int (if j < i then j else i)) H):=by
 intro pins s σ H xs us Q I r h
 obtain ⟨i,j,rfl,q⟩:=h
 obtain ⟨u,w',rfl,⟨t,rfl⟩,⟨t',rfl⟩⟩:=vals2 r
 refine min_two_ints (I.ok.hd hc) λh' tk k=>⟨_,H,I.kept k,?_,q⟩
 by_cases hj:j < i
 · rw [if_pos hj,if_pos hj]; exact ⟨_,rfl⟩
 · rw [if_neg hj,if_neg hj]; exact ⟨_,rfl⟩
theorem qY:e8 X (.type "int") (λxs H Q=>(∃ i,xs=[.int i]/\Q (.int i) H)\/∃ k,xs=[.bl k]/\Q (.int (if k then 1 else 0)) H):=by
 intro pins s σ H xs us Q I r h
 rcases h with ⟨i,rfl,q⟩ | ⟨k,rfl,q⟩
 · obtain ⟨u,rfl,t,rfl⟩:=vals1 r
   exact call_int_int ⟨.int i,H,I,⟨_,rfl⟩,q⟩
 · obtain ⟨u,rfl,r1⟩:=vals1 r
   cases r1
   exact call_int_bool ⟨.int (if k then 1 else 0),H,I.tok _,⟨_,rfl⟩,q⟩
end
section
variable {prog:Program} {w:World} {A:Around} {E:Value->Shared->Prop} {s:Shared} {K:PySem.W.Frag} {x dx C f:Addr} {mA:Str->Option Value} {name:Str} {v:Value}
end
section
variable {P:Program} {w:World} {H H':Hp} {h h':Heap} {a C dx:Addr} {fs fs':List (Str × V)}
end
section
variable {X:Cx} {pins:List (Addr × Obj)} {σ:St} {H:Hp} {s:Shared} {a C dx:Addr} {fs:List (Str × V)} {f:Str} {v:V} {A:Around} {E:Value->Shared->Prop}
end
section
variable {X:Cx} {o e value:Expr} {f:Str} {pos pos' tpos:Pos} {ta tv:TE}
end
section
variable {X:Cx} {pins:List (Addr × Obj)} {σ:St} {H:Hp} {s:Shared} {A:Around} {E:Value->Shared->Prop} {Q:Value->Shared->Prop} {c:Value} {b:Bool}
end
structure eO (k:Nat) (A:Around):Prop where
 hd:A.handled=none
 dp:A.depth + 3 * k + 5 < recursionLimit
 un:A.units + 16 * k + 200 < cLine
theorem eO.mono {j k:Nat} {A:Around} (r:eO k A) (h:j<=k):eO j A:=⟨r.hd,by have:=r.dp; omega,by have:=r.un; omega⟩
theorem eO.deeper {k:Nat} {A:Around} (r:eO (k + 1) A) (env:Env):eO k (A.deeper env):=
 ⟨r.hd,by have:=r.dp; show A.depth + 1 + 3 * k + 5 < _; omega,by have:=r.un; show A.units + 3 + 16 * k + 200 < _; omega⟩
theorem eO.depth {k:Nat} {A:Around} (r:eO k A):A.depth < recursionLimit:=by have:=r.dp; omega
theorem eO.units {k:Nat} {A:Around} (r:eO k A):A.units + 64 < cLine:=by have:=r.un; omega
noncomputable def Bw:TA:=λ_ H Q=>Q [] H
noncomputable def Ah (ta:TE) (tr:TA):TA:=λσ H Q=>ta σ H λx H1=>tr σ H1 λxs H2=>Q (x :: xs) H2
section
variable {X:Cx} {e:Expr} {es:List Expr} {te:TE} {t:TA} {pos:Pos}
theorem cQ:PA X [] Bw:=λ_ _ _ _ H Q I h=>Calls.spliced_nil ⟨[],H,I,.nil,h⟩
theorem bK (ha:PE X e te) (hr:PA X es t) (hs:starEach (e :: es) X.env=(false,eval e X.env) :: starEach es X.env:=by rfl):PA X (e :: es) (Ah te t):=by
 intro pos pins s σ H Q I h
 rw [hs]
 show wpAny _ _ (spliced ((false,eval e X.env) :: backTo pos (starEach es X.env))) _ _ s
 refine Calls.spliced_cons (thn (ha pins s σ H _ I h) λu s1 ⟨x,H1,I1,r1,q1⟩=>?_)
 exact thn (hr pos pins s1 σ H1 _ I1 q1) λus s2 ⟨xs,H2,I2,r2,q2⟩=>⟨x :: xs,H2,I2,.cons r1 r2,q2⟩
noncomputable def A1 (t:TA):TE:=λσ H Q=>t σ H λxs H1=>xs.length<=sizeLine/\∀ p,H1 p=none->Q (.ref p) (upd H1 p (.tup xs))
noncomputable def Bt (t:TA):TE:=λσ H Q=>t σ H λxs H1=>xs.length<=sizeLine/\∀ p,H1 p=none->Q (.ref p) (upd H1 p (.lst xs))
theorem tY {x1} (h:PA X es t):PE X (.Tuple es x1 pos) (A1 t):=by
 intro pins s σ H Q I hq
 refine wpAny_Tuple_spliced (thn (h pos pins s σ H _ I hq) λus s1 ⟨xs,H1,I1,r,z,q⟩=>⟨by rw [<- r.length]; exact z,?_⟩)
 have hf:H1 s1.heap.objs.size=none:=I1.hok.fresh (Nat.le_refl _)
 refine ⟨.ref s1.heap.objs.size,upd H1 s1.heap.objs.size (.tup xs),I1.laid (t':=s1.toks) (λb u e=>Heap.get?_push_of_some _ e) (Nat.le_refl _) ?_,rfl,q _ hf⟩
 exact ⟨z,us,r,⟨_,Heap.get?_push_size _ rfl,rfl,_,rfl⟩⟩
theorem xl (h:PA X es t):PE X (.List es pos) (Bt t):=by
 intro pins s σ H Q I hq
 refine wpAny_List_spliced (thn (h pos pins s σ H _ I hq) λus s1 ⟨xs,H1,I1,r,z,q⟩=>⟨by rw [<- r.length]; exact z,?_⟩)
 have hf:H1 s1.heap.objs.size=none:=I1.hok.fresh (Nat.le_refl _)
 refine ⟨.ref s1.heap.objs.size,upd H1 s1.heap.objs.size (.lst xs),I1.laid (t':=s1.toks) (λb u e=>Heap.get?_push_of_some _ e) (Nat.le_refl _) ?_,rfl,q _ hf⟩
 exact ⟨z,us,0,r,Heap.get?_push_size _ rfl⟩
end
noncomputable abbrev Sp:=List V->Hp->VK->XK->Prop
noncomputable abbrev CXT:=List Env->Hp->Shared->XK->Value->Shared->Prop
structure vt (P:Program) (w:World) (K:PySem.W.Frag) (mg:Str->Option Value) (base:Heap) (A:Around) (outer:List Env) (s:Shared) (H:Hp):Prop where
 frames:A.frames=some outer
 mod:Mod K mg base
 bs:∀ b o,base.get? b=some o->s.heap.get? b=some o/\H b=none
 bsz:base.objs.size<=s.heap.objs.size
 jP:s.heap.FunFrames base outer
 frf:∀ b ∈ frs outer,H b=none
 hok:HOk P w H s.heap
 bare:AllBare s.gens
noncomputable def CE (outer:List Env) (P:Program) (w:World) (H:Hp) (s:Shared) (Q:VK) (u:Value) (s':Shared):Prop:=
 ∃ v H',s'.os=s.os/\AllBare s'.gens/\Un (frs outer) [] H H' s.heap s'.heap/\HOk P w H' s'.heap/\RelV v u/\Q v H'
noncomputable def CR (CX:CXT) (outer:List Env) (P:Program) (w:World) (H:Hp) (s:Shared) (Q:VK) (E:XK) (r:Result) (s':Shared):Prop:=
 match r with
 | .ok (.ret u)=>CE outer P w H s Q u s'
 | .ok _=>False
 | .error e=>CX outer H s E e s'
structure a6 (P:Program) (w:World) (K:PySem.W.Frag) (mg:Str->Option Value) (base:Heap) (CX:CXT) (k:Nat) (f:Addr) (fd:FuncData) (ps:List Str) (sp:Sp):Prop where
 len:∀ vs H Q E,sp vs H Q E->vs.length=ps.length
 run:∀ (A:Around) (outer:List Env) (s:Shared) (H:Hp) (args:Args) (us:List Value) (vs:List V) (Q:VK) (E:XK),eO k A->vt P w K mg base A outer s H->BindsTo s fd args (ps.zip us)->Vals vs us->sp vs H Q E ->
   codeAny (model P w) A (.call (.ref f) args) (CR CX outer P w H s Q E) s
theorem a6.mono {P:Program} {w:World} {K:PySem.W.Frag} {mg:Str->Option Value} {base:Heap} {CX:CXT} {j k:Nat} {f:Addr} {fd:FuncData} {ps:List Str} {sp:Sp} (F:a6 P w K mg base CX j f fd ps sp) (h:j<=k) :
   a6 P w K mg base CX k f fd ps sp:=⟨F.len,λA outer s H args us vs Q E hr=>F.run A outer s H args us vs Q E (hr.mono h)⟩
section
variable {X:Cx} {pins:List (Addr × Obj)} {σ:St} {H:Hp} {s s':Shared}
theorem Inv.AV (I:Inv X pins σ H s):vt X.prog X.w X.K X.mg X.base X.A X.stack s H:=
 ⟨I.ok.frames,I.ok.mod,I.bs,Nat.le_trans I.ok.bsz I.sz,I.stack,I.oO,I.hok,I.bare⟩
theorem Inv.after {Q:VK} {u:Value} (I:Inv X pins σ H s) (h:CE X.stack X.prog X.w H s Q u s'):EP X pins σ Q u s':=by
 obtain ⟨v,H',os,bare,un,hok,r,q⟩:=h
 obtain ⟨hh,g,d,t,os'⟩:=s'
 obtain rfl:os'=s.os:=os
 exact ⟨v,H',I.call (h':=hh) (g':=g) (d':=d) (t':=t) (ch:=[]) un hok bare (λb z=>absurd z (by simp)),r,q⟩
end
noncomputable def zp (sp:Sp) (dvs:List V) (E:XK) (t:TA):TE:=λσ H Q=>t σ H λvs H1=>sp (vs++dvs) H1 Q E
noncomputable def Binds (K:PySem.W.Frag) (fd:FuncData) (ps:List Str) (ds:List Value):Prop:=
 ∀ (s:Shared) (us:List Value),K.In s.heap->(us++ds).length=ps.length->BindsTo s fd ⟨us,[]⟩ (ps.zip (us++ds))
theorem Binds.all {K:PySem.W.Frag} {fd:FuncData} {ps:List Str} (h:∀ us:List Value,us.length=ps.length->bindArgs fd ⟨us,[]⟩=pure (ps.zip us)):Binds K fd ps []:=λs us _ hl=>by
 rw [List.append_nil] at hl ⊢
 exact .of_eq (h us hl)
noncomputable def Passes (CX:CXT) (X:Cx) (E:XK):Prop:=∀ (pins:List (Addr × Obj)) (σ:St) (H:Hp) (s:Shared) (e:Value) (s':Shared),Inv X pins σ H s->CX X.stack H s E e s'->X.xe e s'
section
variable {X:Cx} {CX:CXT} {k:Nat} {f C:Addr} {fd:FuncData} {ps:List Str} {sp:Sp} {dvs:List V} {ds:List Value} {E:XK} {x m:Str} {p pos apos:Pos} {e o:Expr} {es:List Expr} {ta:TE} {t:TA}
theorem yQ {pins:List (Addr × Obj)} {σ:St} {H:Hp} {s:Shared} {Q:VK} {us:List Value} {vs:List V} (F:a6 X.prog X.w X.K X.mg X.base CX k f fd ps sp) (hr:eO k X.A) (hb:Binds X.K fd ps ds) (hd:Vals dvs ds) (hx:Passes CX X E)
   (I:Inv X pins σ H s) (r:Vals vs us) (h:sp (vs++dvs) H Q E):wpAny (model X.prog X.w) X.A (call (.ref f) us) (EP X pins σ Q) X.xe s:=by
 have r2:Vals (vs++dvs) (us++ds):=r.append hd
 have hl:(us++ds).length=ps.length:=by rw [<- r2.length]; exact F.len _ _ _ _ h
 refine wpAny_call (codeAny_mono (F.run X.A X.stack s H ⟨us,[]⟩ (us++ds) (vs++dvs) Q E hr I.AV (hb s us I.kIn hl) r2 h) λr s' hq=>?_)
 cases r with
 | error e=>exact hx pins σ H s e s' I hq
 | ok fl=>
   cases fl with
   | ret u=>exact I.after hq
   | next=>exact False.elim hq
   | brk=>exact False.elim hq
   | cont=>exact False.elim hq
theorem pe (F:a6 X.prog X.w X.K X.mg X.base CX k f fd ps sp) (hr:eO k X.A) (hg:Gl X x) (hm:X.mg x=some (.ref f)) (hk:PySem.W.keepIn X.K (.ref f)=true) (hb:Binds X.K fd ps ds) (hd:Vals dvs ds) (hx:Passes CX X E)
   (ha:PA X (e :: es) t) (hdb:(x == ("__debug__" : Str))=false:=by decide) (he:starEach (e :: es) X.env=(false,eval e X.env) :: starEach es X.env:=by rfl) (hpl:(backTo pos (starEach es X.env)).any (·.1)=false:=by rfl) :
   PE X (.Call (.Name x p) (e :: es) [] pos) (zp sp dvs E t):=by
 intro pins s σ H Q I h
 refine wpAny_Call_Name_kw (oR I hg hm ?_ hdb)
 refine PySem.W.callWith_K (h₀:=X.base) I.ok.mod.kin hk (thn (ha pos pins s σ H _ I h) λus s1 ⟨vs,H1,I1,r,q⟩=>⟨I1.kIn,?_⟩) he hpl
 exact yQ F hr hb hd hx I1 r q
end
section
variable {X:Cx} {CX:CXT} {k:Nat} {f C:Addr} {fd:FuncData} {ps ks:List Str} {sp:Sp} {E:XK} {x m:Str} {p pos apos kpos:Pos} {e o:Expr} {es:List Expr} {kws:List Keyword} {te ta:TE} {t tk:TA} {nm:Option Str}
variable {g:List Value->List Value->List Value} {gV:List V->List V->List V}
end
structure aG (N P:List Str) (sc:Scope):Prop where
 kind:sc.kind=.function
 co:sc.isCoroutine=false
 gen:sc.isGenerator=false
 nd:N.Nodup
 pre:N.take P.length=P
 par:∀ x ∈ P,sc.names.lookup x=some .local\/sc.names.lookup x=some .cell
 nofree:∀ y ∈ sc.names,y.2 ≠ .free
theorem ke {kindOf:Str->Option NameKind} {x:Str}:∀ {binds:List (Str × Value)} {m:Str->Option Value},(∀ v,(x,v) ∉ binds)->bindL kindOf binds m x=m x
 | [],_,_=>rfl
 | (n,v) :: r,m,h=>by
   unfold bindL
   rw [ke λw hw=>h w (List.mem_cons_of_mem _ hw)]
   split
   · have:x ≠ n:=by rintro rfl; exact h v List.mem_cons_self
     simp [this]
   · rfl
theorem kM {kindOf:Str->Option NameKind} {x:Str}:∀ {binds:List (Str × Value)} {m:Str->Option Value},(∀ v,(x,v) ∉ binds)->bindC kindOf binds m x=m x
 | [],_,_=>rfl
 | (n,v) :: r,m,h=>by
   unfold bindC
   rw [kM λw hw=>h w (List.mem_cons_of_mem _ hw)]
   split
   · rfl
   · have:x ≠ n:=by rintro rfl; exact h v List.mem_cons_self
     simp [this]
theorem kq {kindOf:Str->Option NameKind} {x:Str} {v:Value}:∀ {P:List Str} {vs:List Value} {i:Nat} {m:Str->Option Value},P.Nodup->P[i]?=some x->vs[i]?=some v->kindOf x=some .local ->
   bindL kindOf (P.zip vs) m x=some v
 | [],_,_,_,_,h,_,_=>by simp at h
 | _ :: _,[],_,_,_,_,h,_=>by simp at h
 | p :: P,w :: vs,0,m,nd,h1,h2,hk=>by
   simp at h1 h2; subst h1; subst h2
   show bindL kindOf ((p,w) :: P.zip vs) m p=_
   unfold bindL
   rw [ke λv hv=>(List.nodup_cons.mp nd).1 (List.of_mem_zip hv).1,if_pos hk]
   simp
 | p :: P,w :: vs,i + 1,m,nd,h1,h2,hk=>by
   show bindL kindOf ((p,w) :: P.zip vs) m x=_
   unfold bindL
   exact kq (i:=i) (List.nodup_cons.mp nd).2 (by simpa using h1) (by simpa using h2) hk
theorem kj {kindOf:Str->Option NameKind} {x:Str} {v:Value}:∀ {P:List Str} {vs:List Value} {i:Nat} {m:Str->Option Value},P.Nodup->P[i]?=some x->vs[i]?=some v->kindOf x ≠ some .local ->
   bindC kindOf (P.zip vs) m x=some v
 | [],_,_,_,_,h,_,_=>by simp at h
 | _ :: _,[],_,_,_,_,h,_=>by simp at h
 | p :: P,w :: vs,0,m,nd,h1,h2,hk=>by
   simp at h1 h2; subst h1; subst h2
   show bindC kindOf ((p,w) :: P.zip vs) m p=_
   unfold bindC
   rw [kM λv hv=>(List.nodup_cons.mp nd).1 (List.of_mem_zip hv).1,if_neg hk]
   simp
 | p :: P,w :: vs,i + 1,m,nd,h1,h2,hk=>by
   show bindC kindOf ((p,w) :: P.zip vs) m x=_
   unfold bindC
   exact kj (i:=i) (List.nodup_cons.mp nd).2 (by simpa using h1) (by simpa using h2) hk
noncomputable def start (N:List Str) (vs:List V):St:=vs.map some++List.replicate (N.length - vs.length) none
noncomputable def nB (CX:CXT) (P:Program) (w:World) (K:PySem.W.Frag) (mg:Str->Option Value) (base:Heap) (N:List Str) (qual:Str) (scope:Scope) (f:Addr) (cd:Value) (A:Around) (outer:List Env) (s:Shared) (H:Hp) (E:XK):Cx where
 prog:=P
 w:=w
 K:=K
 mg:=mg
 base:=base
 A:=A.deeper (envOfC qual scope s.heap.objs.size f cd)
 N:=N
 s₀:=s
 H₀:=H
 env:=envOfC qual scope s.heap.objs.size f cd
 outer:=outer
 stack:=envOfC qual scope s.heap.objs.size f cd :: outer
 ex:=[]
 calm:=true
 fn:=λ_=>true
 pn:=[]
 xe:=λe s'=>wpAny (model P w) (A.deeper (envOfC qual scope s.heap.objs.size f cd)) (leaving (envOfC qual scope s.heap.objs.size f cd) e) (λ_ s''=>CX outer H s E e s'') (λe' s''=>CX outer H s E e' s'') s'
theorem lZ {sc:Scope} {n:Nat} {x:Str} (h:sc.names.lookup x=some .cell):∃ c,(cellsFrom n sc.names []).lookup x=some c:=by
 have q:=PySem.W.cellsFrom_some sc.names n [] (.inl h)
 exact Option.isSome_iff_exists.mp q
theorem qS {CX:CXT} {P:Program} {w:World} {K:PySem.W.Frag} {mg:Str->Option Value} {base:Heap} {N ps:List Str} {qual:Str} {scope:Scope} {f:Addr} {cd:Value} {A:Around} {outer:List Env} {s s1:Shared} {H:Hp} {E:XK} {us:List Value} {vs:List V}
   (S:aG N ps scope) {cm:Bool} (hd:cm=true->A.handled=none) (e0:vt P w K mg base A outer s H) (hl:vs.length=ps.length) (r:Vals vs us)
   (x:InCallC s s.heap.objs.size (bindL (envOfC qual scope s.heap.objs.size f cd).kindOf (ps.zip us) λ_=>none) (cellsFrom (s.heap.objs.size + 1) scope.names []) (bindC (envOfC qual scope s.heap.objs.size f cd).kindOf (ps.zip us) λ_=>none) s1) :
   Inv { nB CX P w K mg base N qual scope f cd A outer s H E with calm:=cm } [] (start N vs) H s1:=by
 have hpl:ps.length<=N.length:=by have:=congrArg List.length S.pre; rw [List.length_take] at this; omega
 obtain ⟨h1,tk,rfl,hk⟩:=x.done
 have noA:∀ b:Addr,b ∉ (nB CX P w K mg base N qual scope f cd A outer s H E).ex:=λb z=>absurd (show b ∈ ([]:List Addr) from z) (by simp)
 refine ⟨⟨e0.mod,S.kind,rfl,rfl,Nat.le_refl _,λy z c h1 h2=>?_,λy hy=>?_,λy c _ h=>?_,hd,Around.frames_deeper e0.frames,.inr ⟨rfl,rfl⟩,λb z=>absurd z (noA b),e0.bs,e0.bsz,λb _ _=>noA b,λb z=>absurd z (noA b),e0.jP,e0.frf⟩,
   rfl,e0.bare,Un.kept hk,⟨_,x.toInCall.ns,λi y v h1 h2 h3=>?_⟩,λy c h=>⟨_,x.cell y c h⟩,e0.hok.fresh (Nat.le_refl _),λy c h=>?_,λp hp=>absurd (show p ∈ ([]:List (Addr × Obj)) from hp) (by simp),e0.hok.kept hk,?_⟩
 · exact name_of_addr x.apart (PySem.mem_of_lookup h1) (PySem.mem_of_lookup h2)
 · have hy:scope.names.lookup y=some .cell\/scope.names.lookup y=some .free:=hy
   rcases hy with hy | hy
   · exact lZ hy
   · exact absurd rfl (S.nofree _ (PySem.mem_of_lookup hy))
 · exact Nat.le_of_lt (x.above y c (PySem.mem_of_lookup h))
 · have hi:i < vs.length:=by
     unfold start at h2
     by_cases hi:i < vs.length
     · exact hi
     · rw [List.getElem?_append_right (by simpa using hi)] at h2
       rw [List.getElem?_replicate] at h2
       split at h2 <;> cases h2
   have ha:vs[i]?=some v:=by
     unfold start at h2
     rw [List.getElem?_append_left (by simpa using hi),List.getElem?_map] at h2
     cases e:vs[i]? with
     | none=>rw [e] at h2; cases h2
     | some a=>rw [e] at h2; cases h2; rfl
   obtain ⟨u,hu,rv⟩:=r.get ha
   have hp:ps[i]?=some y:=by
     rw [<- S.pre,List.getElem?_take_of_lt (by omega)]; exact h1
   have ndP:ps.Nodup:=by rw [<- S.pre]; exact S.nd.sublist (List.take_sublist _ _)
   refine ⟨u,rv,?_⟩
   rcases S.par y (List.mem_of_getElem? hp) with k | k
   · exact .inl ⟨k,kq ndP hp hu k⟩
   · obtain ⟨c,e⟩:=lZ (n:=s.heap.objs.size + 1) k
     refine .inr ⟨.inl k,c,e,?_⟩
     have q:=x.cell y c e
     rw [kj ndP hp hu (by show scope.names.lookup y ≠ _; rw [k]; decide)] at q
     exact q
 · exact e0.hok.fresh (Nat.le_of_lt (x.above y c (PySem.mem_of_lookup h)))
 · unfold start
   show _=N.length
   rw [List.length_append,List.length_map,List.length_replicate]
   omega
theorem Am {CX:CXT} {P:Program} {w:World} {K:PySem.W.Frag} {mg:Str->Option Value} {base:Heap} {k:Nat} {f:Addr} {name qual:Str} {params:Arguments} {body:List Stmt} {scope:Scope} {dV kV doc pm cdv ct oc:Value} {an od:Option Addr}
   {osl:Array (Option Value)} {N ps:List Str} {sp:Sp} (lk:K.lookup f=some ⟨oc,od,.func (PySem.W.fnOf name qual params body scope dV kV doc pm an cdv ct),osl⟩) (hcd:PySem.W.codeIn K cdv qual=true) (S:aG N ps scope)
   (len:∀ vs H Q E,sp vs H Q E->vs.length=ps.length)
   (hbody:∀ (A:Around) (outer:List Env) (s:Shared) (H:Hp) (vs:List V) (Q:VK) (E:XK),eO k (A.deeper (envOfC qual scope s.heap.objs.size f cdv))->sp vs H Q E ->
     ∃ t,PSs (nB CX P w K mg base N qual scope f cdv A outer s H E) body t/\t { nx:=λ_ H'=>Q .non H',rt:=Q } (start N vs) H) :
   a6 P w K mg base CX (k + 1) f (PySem.W.fnOf name qual params body scope dV kV doc pm an cdv ct) ps sp:=by
 refine ⟨len,λA outer s H args us vs Q E hr e0 hb r hsp=>?_⟩
 have hl:=len _ _ _ _ hsp
 have KX:K.In s.heap:=e0.mod.kin.keeps λb o e=>(e0.bs b o e).1
 have lim:s.heap.NoLimit:=e0.mod.nolimit.keeps λb o e=>(e0.bs b o e).1
 have hkind:∀ y ∈ ps.zip us,scope.names.lookup y.1=some .local\/(scope.names.lookup y.1=some .cell/\((cellsFrom (s.heap.objs.size + 1) scope.names []).lookup y.1).isSome=true):=λ⟨n,v⟩ hy=>by
   rcases S.par n (List.of_mem_zip hy).1 with q | q
   · exact .inl q
   · exact .inr ⟨q,PySem.W.cellsFrom_some _ _ _ (.inl q)⟩
 refine codeAny_call_function hr.depth (KX _ _ lk) rfl S.co S.gen rfl (PySem.W.codeRec_of KX hcd) (hb _ _ _ _ ?_)
 refine wpAny_newFunctionEnv_cells S.kind hkind λenv he s1 x=>?_
 subst he
 refine ⟨lim.keeps x.toInCall.keep,codeAny_func ?_⟩
 obtain ⟨t,ht,hq⟩:=hbody A outer s H vs Q E (hr.deeper _) hsp
 have I:Inv (nB CX P w K mg base N qual scope f cdv A outer s H E) [] (start N vs) H s1:=qS (cm:=true) S (λ_=>hr.hd) e0 hl r x
 refine wpAny_mono (ht [] s1 (start N vs) H _ I hq) (λfl s' hs=>?_) λe s' hs=>hs
 have fin:∀ {σ':St} {H':Hp} {v:V} {u:Value},Inv (nB CX P w K mg base N qual scope f cdv A outer s H E) [] σ' H' s'->RelV v u->Q v H'->CE outer P w H s Q u s':=
   λ{σ' H' v u} J rv q=>⟨v,H',J.os,J.bare,J.base,J.hok,rv,q⟩
 cases fl with
 | ret u=>
   obtain ⟨v,σ',H',J,rv,q⟩:=hs
   exact fin J rv q
 | next=>
   obtain ⟨σ',H',J,q⟩:=hs
   exact fin (v:=V.non) (u:=Value.none) J rfl q
 | brk=>
   obtain ⟨_,_,_,q⟩:=hs
   exact False.elim q
 | cont=>
   obtain ⟨_,_,_,q⟩:=hs
   exact False.elim q
section
variable {X:Cx} {x:Str} {p pos:Pos} {e:Expr} {es:List Expr} {t:TA} {id T:String} {r:List V->Hp->VK->Prop}
noncomputable def tCB (r:List V->Hp->VK->Prop) (t:TA):TE:=λσ H Q=>t σ H λvs H1=>r vs H1 Q
theorem mL (hc:e8 X (.builtin id) r) (hg:Gl X x) (hm:X.mg x=none) (hv:bootBuiltins x=some (.builtin id)) (ha:PA X (e :: es) t) (hn:x ≠ "__name__":=by decide) (hdb:(x == ("__debug__" : Str))=false:=by decide)
   (he:starEach (e :: es) X.env=(false,eval e X.env) :: starEach es X.env:=by rfl) (hpl:(backTo pos (starEach es X.env)).any (·.1)=false:=by rfl):PE X (.Call (.Name x p) (e :: es) [] pos) (tCB r t):=by
 intro pins s σ H Q I h
 refine wpAny_Call_Name_kw (ee I hg hm hv ?_ hn hdb)
 exact PyProof.Rows.callWith_builtin1 (thn (ha pos pins s σ H _ I h) λus s1 ⟨vs,H1,I1,r1,q1⟩=>hc pins s1 σ H1 vs us Q I1 r1 q1) he hpl
theorem q9 (hc:e8 X (.type T) r) (hg:Gl X x) (hm:X.mg x=none) (hv:bootBuiltins x=some (.type T)) (ha:PA X (e :: es) t) (hn:x ≠ "__name__":=by decide) (hdb:(x == ("__debug__" : Str))=false:=by decide)
   (he:starEach (e :: es) X.env=(false,eval e X.env) :: starEach es X.env:=by rfl) (hpl:(backTo pos (starEach es X.env)).any (·.1)=false:=by rfl):PE X (.Call (.Name x p) (e :: es) [] pos) (tCB r t):=by
 intro pins s σ H Q I h
 refine wpAny_Call_Name_kw (ee I hg hm hv ?_ hn hdb)
 exact PyProof.Rows.callWith_type1 (thn (ha pos pins s σ H _ I h) λus s1 ⟨vs,H1,I1,r1,q1⟩=>hc pins s1 σ H1 vs us Q I1 r1 q1) he hpl
end
end L2
namespace HT
open PySem PyProof.Rows
section
open PySem.SeqAt
open PySem.AutoSeq1 (wpAny_loadPart')
open PySem.MeetsSeq PySem.MeetsSeq2 PySem.MeetsSeq3
end
section
variable {prog:Program} {w:World} {A:Around} {E:Value->Shared->Prop} {s:Shared}
theorem vn {t b:Addr} {vs ws:List Value} {Q:Value->Shared->Prop} (ht:IsTup s.heap t vs.toArray) (hb:IsTup s.heap b ws.toArray) (hv:vs ≠ [])
   (h1:ws=[]->Q (.ref t) s) (h2:ws ≠ []->Q (.ref s.heap.objs.size) { s with heap:=s.heap.push { cls:=.type "tuple",data:=.seq (vs++ws).toArray } })
   (hsz:vs.length + ws.length<=sizeLine):wpAny (model prog w) A (binaryOp .Add (.ref t) (.ref b)) Q E s:=by
 obtain ⟨⟨cls,dd,data,sl⟩,ho,hc,n,hd⟩:=id ht
 obtain ⟨⟨cls2,dd2,data2,sl2⟩,ho2,hc2,n2,hd2⟩:=id hb
 simp only at hc hd hc2 hd2
 subst hc hd hc2 hd2
 have e:vs.toArray++ws.toArray=(vs++ws).toArray:=by simp
 by_cases hw:ws=[]
 · exact concat_meets ⟨_,ho,rfl⟩ ⟨_,ho2,rfl⟩ noFill_tuple_add seq_tuple_add PySem.F.slot_tuple_add PySem.F.entry_tuple_add (PySem.F.args_tuple_add_2 _ _)
     (tuple_addW1 t b vs.toArray ws.toArray n n2 dd dd2 sl sl2 (by simpa using hv) (by simp [hw])) ⟨ho,ho2,h1 hw⟩
 · refine concat_meets ⟨_,ho,rfl⟩ ⟨_,ho2,rfl⟩ noFill_tuple_add seq_tuple_add PySem.F.slot_tuple_add PySem.F.entry_tuple_add (PySem.F.args_tuple_add_2 _ _)
     (tuple_addW2 t b vs.toArray ws.toArray n n2 dd dd2 sl sl2 (by simpa using hv) (by simpa using hw) (by rw [List.size_toArray,List.size_toArray]; exact hsz)) ⟨ho,ho2,?_⟩
   rw [e]
   exact h2 hw
noncomputable def sIx (n d:Nat):Option Int->Nat
 | none=>d
 | some v=>if v < 0 then (v + (n:Int)).toNat else min v.toNat n
theorem jD (n d:Nat):sIx n d none=d:=rfl
theorem fK (n d k:Nat):sIx n d (some (k:Int))=min k n:=by
 show (if (k:Int) < 0 then ((k:Int) + (n:Int)).toNat else min (k:Int).toNat n)=min k n
 rw [if_neg (by omega),Int.toNat_natCast]
theorem xn (n d:Nat) (hd:d<=n) (o:Option Int):sIx n d o<=n:=by
 cases o with
 | none=>exact hd
 | some v=>
   show (if v < 0 then (v + (n:Int)).toNat else min v.toNat n)<=n
   by_cases hv:v < 0
   · rw [if_pos hv]; omega
   · rw [if_neg hv]; exact Nat.min_le_right _ _
theorem pT (v:Int) (n d:Nat):(if v < 0 then max (v + (n:Int)) 0 else min v (n:Int))=((sIx n d (some v):Nat):Int):=by
 show (if v < 0 then max (v + (n:Int)) 0 else min v (n:Int))=(((if v < 0 then (v + (n:Int)).toNat else min v.toNat n):Nat):Int)
 by_cases hv:v < 0
 · simp only [if_pos hv]; omega
 · simp only [if_neg hv]; omega
theorem oA (lo hi:Option Int) (n:Nat):Builtin.Slice.sliceAdjust lo hi 1 (n:Int)=(((sIx n 0 lo:Nat):Int),((sIx n n hi:Nat):Int)):=by
 have h1:¬ ((1:Int) < 0):=by omega
 unfold Builtin.Slice.sliceAdjust
 simp only [h1,if_false]
 refine Prod.ext ?_ ?_
 · cases lo with
   | none=>rfl
   | some v=>exact pT v n 0
 · cases hi with
   | none=>rfl
   | some v=>exact pT v n n
theorem oM (i j:Nat):Builtin.Slice.slicePlaces (i:Int) (j:Int) 1=j - i:=by
 unfold Builtin.Slice.slicePlaces
 have h1:(1:Int) > 0:=by omega
 simp only [h1,if_true,Int.ediv_one]
 split <;> omega
theorem jA {v:Value} {o:Option Int} {Q:Option Int->Shared->Prop} (p:IsPart v o) (h:Q o s):wpAny (model prog w) A (Builtin.Slice.slicePartIndex v) Q E s:=by
 cases p with
 | none=>exact slicePart_none h
 | int i t=>exact slicePart_int h
theorem ij {sl:Addr} {vl vu:Value} {lo hi:Option Int} {n:Nat} {Q:Int × Int × Nat->Shared->Prop} (hs:s.heap.IsSliceOf sl vl vu .none) (pl:IsPart vl lo) (pu:IsPart vu hi)
   (h:Q (((sIx n 0 lo:Nat):Int),1,sIx n n hi - sIx n 0 lo) s):wpAny (model prog w) A (Builtin.Slice.sliceApplied (.ref sl) (pure (n:Int))) Q E s:=by
 obtain ⟨os,hos,hcs,hds⟩:=id hs
 unfold Builtin.Slice.sliceApplied Builtin.Slice.sliceFields
 refine wpAny_bind (wpAny_bind (wpAny_field hos hds (x:=vl) rfl (wpAny_bind (wpAny_field hos hds (x:=vu) rfl (wpAny_bind (wpAny_field hos hds (x:=.none) rfl (wpAny_pure ?_)))))))
 refine wpAny_bind (slicePart_none ?_)
 show wpAny _ _ (if ((1:Int) == 0)=true then _ else _) _ _ s
 rw [if_neg (by decide)]
 refine wpAny_bind (jA pl (wpAny_bind (jA pu (wpAny_bind (wpAny_pure ?_)))))
 show wpAny _ _ (match Builtin.Slice.sliceAdjust lo hi 1 (n:Int) with | (lo,hi)=>pure (lo,(1:Int),Builtin.Slice.slicePlaces lo hi 1)) _ _ s
 rw [oA lo hi n]
 show wpAny _ _ (pure (((sIx n 0 lo:Nat):Int),(1:Int),Builtin.Slice.slicePlaces ((sIx n 0 lo:Nat):Int) ((sIx n n hi:Nat):Int) 1)) _ _ s
 rw [oM]
 exact wpAny_pure h
theorem sJ (xs:Array Value) (i k:Nat):((List.range k).filterMap λ(m:Nat)=>xs[((i:Int) + (m:Int) * 1).toNat]?).toArray=((xs.toList.drop i).take k).toArray:=by
 have e:(λ(m:Nat)=>xs[((i:Int) + (m:Int) * 1).toNat]?)=λm=>xs[i + m]?:=by
   funext m
   have:((i:Int) + (m:Int) * 1).toNat=i + m:=by omega
   rw [this]
 rw [e]
 have:=pick_run xs i k
 rw [List.filterMap_map] at this
 have e2:((λx=>xs[x]?) ∘ λx=>i + x)=λm=>xs[i + m]?:=rfl
 rw [e2] at this
 rw [this]
theorem hE {t sl:Addr} {items:Array Value} {vl vu:Value} {lo hi:Option Int} {Q:Value->Shared->Prop} (ht:IsTup s.heap t items) (hs:s.heap.IsSliceOf sl vl vu .none) (pl:IsPart vl lo) (pu:IsPart vu hi)
   (hw:¬ (sIx items.size 0 lo=0/\sIx items.size items.size hi=items.size))
   (h:Q (.ref s.heap.objs.size) { s with heap:=s.heap.push { cls:=.type "tuple",data:=.seq ((items.toList.drop (sIx items.size 0 lo)).take (sIx items.size items.size hi - sIx items.size 0 lo)).toArray } })
   (hsz:items.size<=sizeLine):wpAny (model prog w) A (getItem (.ref t) (.ref sl)) Q E s:=by
 have htake:sizeOk (.seq ((items.toList.drop (sIx items.size 0 lo)).take (sIx items.size items.size hi - sIx items.size 0 lo)).toArray):=by
   show ((items.toList.drop (sIx items.size 0 lo)).take (sIx items.size items.size hi - sIx items.size 0 lo)).toArray.size<=sizeLine
   rw [List.size_toArray,List.length_take,List.length_drop,Array.length_toList]
   omega
 have hj:sIx items.size items.size hi<=items.size:=xn _ _ (Nat.le_refl _) hi
 obtain ⟨os,hos,hcs,hds⟩:=id hs
 have hTs:s.TypeIs (.ref sl) "slice":=⟨os,hos,hcs⟩
 unfold getItem
 try with_reducible refine wpAny_holding ?_
 first | refine wpAny_bind (wpAny_pure ?_) | skip
 refine wpAny_bind (wpAny_sequenceKey ht.typeIs (by decide) ?_)
 refine wpAny_bind (wpAny_callSpecial?_slot (name:=Str.ofString "__getitem__") ht.typeIs PyProof.Rows.slot_tuple_getitem
   (wpAny_call_entry PyProof.Rows.slot_tuple_getitem ht.typeIs entry_tuple_getitem ?_ (args_tuple_getitem _ _)))
 show wpAny _ _ (Builtin.Tuple.tupleItemsOf (.ref t) >>= _) _ _ s
 refine wpAny_bind (tupleItemsOf_ ht ?_)
 refine wpAny_bind (wpAny_typeOf hTs ?_)
 rw [if_pos (by decide)]
 refine wpAny_bind (ij hs pl pu ?_)
 have hno:¬ ((((sIx items.size 0 lo:Nat):Int) == 0 && (1:Int) == 1 && (sIx items.size items.size hi - sIx items.size 0 lo) == items.size)=true):=by
   intro q
   rw [Bool.and_eq_true,Bool.and_eq_true] at q
   have q1:((sIx items.size 0 lo:Nat):Int)=0:=eq_of_beq q.1.1
   have q2:sIx items.size items.size hi - sIx items.size 0 lo=items.size:=eq_of_beq q.2
   exact hw ⟨by omega,by omega⟩
 show wpAny _ _ (if (((sIx items.size 0 lo:Nat):Int) == 0 && (1:Int) == 1 && (sIx items.size items.size hi - sIx items.size 0 lo) == items.size)=true then _ else _) _ _ s
 rw [if_neg hno,sJ]
 first
   | exact wpAny_bind (m:=Builtin.Tuple.tupleExact _) (wpAny_newObj_type (wpAny_pure ⟨_,rfl,wpAny_pure h⟩) htake)
   | exact wpAny_bind (m:=Builtin.Tuple.tupleExact _) (wpAny_newObj_type (wpAny_bind (wpAny_pure (wpAny_pure ⟨_,rfl,wpAny_pure h⟩))) htake)
   | exact wpAny_bind (wpAny_bind (m:=Builtin.Tuple.tupleExact _) (wpAny_newObj_type (wpAny_pure (wpAny_pure ⟨_,rfl,wpAny_pure h⟩)) htake))
   | exact wpAny_bind (wpAny_bind (m:=Builtin.Tuple.tupleExact _) (wpAny_newObj_type (wpAny_pure ⟨_,rfl,wpAny_pure h⟩) htake))
end
end HT
namespace L2
open PySem PySem.Spec PyProof.Rows
noncomputable abbrev TO:=St->Hp->(Option Int->Hp->Prop)->Prop
noncomputable def PO (X:Cx) (e:Option Expr) (t:TO):Prop:=
 ∀ (pins:List (Addr × Obj)) (s:Shared) (σ:St) (H:Hp) (Q:Option Int->Hp->Prop),Inv X pins σ H s->t σ H Q ->
   wpAny (model X.prog X.w) X.A (evalPart e X.env) (λu s'=>∃ o H',Inv X pins σ H' s'/\IsPart u o/\Q o H') X.xe s
noncomputable def uQ:TO:=λ_ H Q=>Q none H
noncomputable def zA (t:TE):TO:=λσ H Q=>t σ H λx H1=>∃ i,x=.int i/\Q (some i) H1
section
variable {X:Cx} {e:Expr} {te:TE} {lo hi:Option Expr} {tl th:TO} {pos p2:Pos}
theorem u4:PO X none uQ:=by
 intro pins s σ H Q I h
 rw [evalPart_none]
 exact wpAny_pure ⟨none,H,I,.none,h⟩
theorem vL (h:PE X e te):PO X (some e) (zA te):=by
 intro pins s σ H Q I hw
 rw [evalPart_some]
 refine thn (h pins s σ H _ I hw) λu s1 ⟨x,H1,I1,r1,q1⟩=>?_
 obtain ⟨i,rfl,q⟩:=q1
 obtain ⟨t,rfl⟩:=r1
 exact ⟨some i,H1,I1,.int i t,q⟩
noncomputable def SlR (X:Cx) (r:V->Option Int->Option Int->Hp->VK->Prop):Prop:=
 ∀ (pins:List (Addr × Obj)) (s:Shared) (σ:St) (H:Hp) (x:V) (v vl vu:Value) (lo hi:Option Int) (sl:Addr) (Q:VK),Inv X pins σ H s->RelV x v->s.heap.IsSliceOf sl vl vu .none->IsPart vl lo->IsPart vu hi->r x lo hi H Q ->
   ∃ T id,typeLookup (.type T) "__getitem__" = pure (some (.builtin id))/\s.TypeIs v T/\wpAny (model X.prog X.w) X.A (getItem v (.ref sl)) (EP X pins σ Q) X.xe s
noncomputable def tSl (r:V->Option Int->Option Int->Hp->VK->Prop) (te:TE) (tl th:TO):TE:=λσ H Q=>te σ H λx H1=>tl σ H1 λl H2=>th σ H2 λu H3=>r x l u H3 Q
theorem mS {r:V->Option Int->Option Int->Hp->VK->Prop} (hr:SlR X r) (he:PE X e te) (hl:PO X lo tl) (hu:PO X hi th):PE X (.Subscript e (.Slice lo hi none p2) pos) (tSl r te tl th):=by
 intro pins s σ H Q I h
 refine Subscript_ (thn (he pins s σ H _ I h) λv s1 ⟨x,H1,I1,r1,q1⟩=>?_)
 refine wpAny_Slice (thn (hl pins s1 σ H1 _ I1 q1) λvl s2 ⟨l,H2,I2,pl,q2⟩=>thn (hu pins s2 σ H2 _ I2 q2) λvu s3 ⟨u,H3,I3,pu,q3⟩=>?_)
 rw [evalPart_none]
 refine wpAny_pure ?_
 have I4:Inv X pins σ H3 { s3 with heap:=s3.heap.push { cls:=.type "slice",data:=.fields #[vl,vu,.none] } }:=I3.kept (t':=s3.toks) λb ob q=>Heap.get?_push_of_some _ q
 obtain ⟨T,id,hT,ht,hg⟩:=hr pins { s3 with heap:=s3.heap.push { cls:=.type "slice",data:=.fields #[vl,vu,.none] } } σ H3 x v vl vu l u s3.heap.objs.size Q I4 r1 (Heap.IsSliceOf.new ..) pl pu q3
 show wpAny (model X.prog X.w) X.A (subscriptTail e (.Slice lo hi none p2) v (.ref s3.heap.objs.size)) (EP X pins σ Q) X.xe { s3 with heap:=s3.heap.push { cls:=.type "slice",data:=.fields #[vl,vu,.none] } }
 exact tail_any (ops:=[.ref s3.heap.objs.size,v]) ht hT hg (by with_unfolding_all rfl)
noncomputable def jE (xs:List V) (lo hi:Option Int):List V:=(xs.drop (HT.sIx xs.length 0 lo)).take (HT.sIx xs.length xs.length hi - HT.sIx xs.length 0 lo)
theorem iK (xs:List V) (lo hi:Option Int):(jE xs lo hi).length<=xs.length:=by
 unfold jE
 rw [List.length_take,List.length_drop]
 omega
noncomputable def AR (K:PySem.W.Frag):V->Option Int->Option Int->Hp->VK->Prop:=λx lo hi H Q=>∃ a xs,x=.ref a/\SqT K H a xs /\
 ¬ (HT.sIx xs.length 0 lo=0/\HT.sIx xs.length xs.length hi=xs.length)/\∀ p,H p=none->Q (.ref p) (upd H p (.tup (jE xs lo hi)))
theorem xP:SlR X (AR X.K):=by
 intro pins s σ H x v vl vu lo hi sl Q I rx hs pl pu h
 obtain ⟨a,xs,rfl,hx,hw,q⟩:=h
 cases rx
 obtain ⟨its,r,ht,hz⟩:=I.tuple hx
 have hlen:its.toArray.size=xs.length:=by rw [List.size_toArray]; exact r.length.symm
 refine ⟨"tuple",_,PyProof.Rows.slot_tuple_getitem.lookup,ht.typeIs,?_⟩
 refine HT.hE ht hs pl pu (by rw [hlen]; exact hw) ?_ (by rw [hlen]; exact hz)
 rw [hlen]
 refine ⟨.ref s.heap.objs.size,_,I.laid (t':=s.toks) (o:=.tup (jE xs lo hi)) (λb ob q=>Heap.get?_push_of_some _ q) (Nat.le_refl _) ?_,rfl,q _ (I.hok.fresh (Nat.le_refl _))⟩
 exact ⟨Nat.le_trans (iK xs lo hi) hz,_,(r.drop (HT.sIx xs.length 0 lo)).take (HT.sIx xs.length xs.length hi - HT.sIx xs.length 0 lo),IsTup.new _ _⟩
noncomputable def zU (K:PySem.W.Frag):R2:=λx y H Q=>∃ a b xs ys,x=.ref a/\y=.ref b/\SqT K H a xs/\SqT K H b ys/\xs ≠ []/\xs.length + ys.length<=sizeLine /\
 (ys=[]->Q (.ref a) H)/\(ys ≠ []->∀ p,H p=none->Q (.ref p) (upd H p (.tup (xs++ys))))
theorem Vals.lP {xs:List V} {us:List Value} (r:Vals xs us):us=[] ↔ xs=[]:=by
 cases r with
 | nil=>simp
 | cons _ _=>simp
theorem vU:OpR X (binaryOp .Add) (zU X.K):=by
 intro pins s σ H x y v u Q I rx ry h
 obtain ⟨a,b,xs,ys,rfl,rfl,ha,hb,hx,hz,q1,q2⟩:=h
 cases rx
 cases ry
 obtain ⟨its,r1,p1,_⟩:=I.tuple ha
 obtain ⟨its2,r2,p2,_⟩:=I.tuple hb
 refine HT.vn p1 p2 (λz=>hx (r1.lP.mp z)) (λz=>⟨.ref a,H,I,rfl,q1 (r2.lP.mp z)⟩) (λz=>?_) (by rw [<- r1.length,<- r2.length]; exact hz)
 refine ⟨.ref s.heap.objs.size,_,I.laid (t':=s.toks) (o:=.tup (xs++ys)) (λb ob q=>Heap.get?_push_of_some _ q) (Nat.le_refl _) ?_,rfl,q2 (λw=>z (r2.lP.mpr w)) _ (I.hok.fresh (Nat.le_refl _))⟩
 exact ⟨by rw [List.length_append]; exact hz,_,r1.append r2,IsTup.new _ _⟩
end
noncomputable def ixN (n:Nat) (i:Int):Option Nat:=if 0<=i then (if i < n then some i.toNat else none) else if -(n:Int)<=i then some (i + n).toNat else none
noncomputable def atI {α:Type} (xs:List α) (i:Int):Option α:=(ixN xs.length i).bind λj=>xs[j]?
theorem oP {n:Nat} {i:Int} {j:Nat} (h:ixN n i=some j):seqIndex? i n=some j/\j < n/\-(n:Int)<=i/\i < n:=by
 unfold ixN at h
 by_cases h0:0<=i
 · rw [if_pos h0] at h
   by_cases h1:i < n
   · rw [if_pos h1] at h
     have e:i.toNat=j:=Option.some.inj h
     exact ⟨by rw [seqIndex_of h0 h1,e],by omega,by omega,h1⟩
   · rw [if_neg h1] at h; cases h
 · rw [if_neg h0] at h
   by_cases h1:-(n:Int)<=i
   · rw [if_pos h1] at h
     have e:(i + n).toNat=j:=Option.some.inj h
     exact ⟨by rw [seqIndex_neg (by omega) h1,e],by omega,h1,by omega⟩
   · rw [if_neg h1] at h; cases h
theorem qh {α:Type} {xs:List α} {i:Int} {v:α} (h:atI xs i=some v):∃ j,seqIndex? i xs.length=some j/\xs[j]?=some v/\j < xs.length/\-(xs.length:Int)<=i/\i < xs.length:=by
 unfold atI at h
 cases e:ixN xs.length i with
 | none=>rw [e] at h; cases h
 | some j=>
   rw [e] at h
   obtain ⟨h1,h2,h3,h4⟩:=oP e
   exact ⟨j,h1,h,h2,h3,h4⟩
noncomputable def gQ (b:Expr):Prop:=∀ o i,subscripted b false o i=operate [o,i] (getItem o i)
noncomputable def IxR (X:Cx) (r:R2):Prop:=
 ∀ (value slice:Expr) (pins:List (Addr × Obj)) (s:Shared) (σ:St) (H:Hp) (x y:V) (v u:Value) (Q:VK),Inv X pins σ H s->RelV x v->RelV y u->r x y H Q ->
   subscripted slice false v u=operate [v,u] (getItem v u)->wpAny (model X.prog X.w) X.A (subscriptTail value slice v u) (EP X pins σ Q) X.xe s
noncomputable def MtR (X:Cx) (id:String) (r:V->List V->Hp->VK->Prop):Prop:=
 ∀ (pins:List (Addr × Obj)) (s:Shared) (σ:St) (H:Hp) (x:V) (xs:List V) (v:Value) (us:List Value) (Q:VK),Inv X pins σ H s->RelV x v->Vals xs us->r x xs H Q ->
   wpAny (model X.prog X.w) X.A (call (.builtin id) (v :: us)) (EP X pins σ Q) X.xe s
section
variable {X:Cx} {a b:Expr} {ta tb:TE} {pos:Pos}
theorem pR {r:R2} (hr:IxR X r) (ha:PE X a ta) (hb:PE X b tb) (hs:gQ b):PE X (.Subscript a b pos) (tOp r ta tb):=by
 intro pins s σ H Q I h
 exact Subscript_ (xp ha hb I h λv u s2 x y H2 I2 rx ry q=>hr a b pins s2 σ H2 x y v u Q I2 rx ry q (hs _ _))
noncomputable def BB (K:PySem.W.Frag):R2:=λx y H Q=>∃ p xs i v,x=.ref p/\y=.int i/\SqL K H p xs/\atI xs i=some v/\Q v H
noncomputable def Bf (K:PySem.W.Frag):R2:=λx y H Q=>∃ p xs i v,x=.ref p/\y=.int i/\SqT K H p xs/\atI xs i=some v/\Q v H
theorem kW:IxR X (BB X.K):=by
 intro value slice pins s σ H x y v u Q I rx ry h hs
 obtain ⟨p,xs,i,z,rfl,rfl,hq,he,q⟩:=h
 cases rx
 obtain ⟨t,rfl⟩:=ry
 obtain ⟨its,r,pl,hz⟩:=I.list hq
 obtain ⟨j,h1,h2,h3,h4,h5⟩:=qh he
 obtain ⟨w,ew,rw'⟩:=r.get h2
 have hl:=r.length
 have hn:=lT
 have fin:EP X pins σ Q w s:=⟨z,H,I,rw',q⟩
 by_cases h0:0<=i
 · have hj:i.toNat=j:=by
     rw [seqIndex_of h0 h5] at h1
     exact Option.some.inj h1
   exact item_listR pl.isList h0 (by omega) (by rw [hj]; simpa using ew) fin hs
 · have hj:(i + (its.toArray.size:Int)).toNat=j:=by
     rw [seqIndex_neg (by omega) h4] at h1
     rw [List.size_toArray,<- hl]
     exact Option.some.inj h1
   exact subscriptTail_builtinR (x:=w) pl.isList.typeIs slot_list_getitem.lookup
     (wpAny_getItem_list_neg (Q:=λr s'=>r=w/\EP X pins σ Q r s') pl.isList (by omega) (by rw [List.size_toArray] <;> omega) (by omega) (by rw [hj]; simpa using ew) ⟨rfl,fin⟩) hs
theorem rD:IxR X (Bf X.K):=by
 intro value slice pins s σ H x y v u Q I rx ry h hs
 obtain ⟨p,xs,i,z,rfl,rfl,hq,he,q⟩:=h
 cases rx
 obtain ⟨t,rfl⟩:=ry
 obtain ⟨its,r,pl,hz⟩:=I.tuple hq
 obtain ⟨j,h1,h2,h3,h4,h5⟩:=qh he
 obtain ⟨w,ew,rw'⟩:=r.get h2
 have hl:=r.length
 have hn:=lT
 have fin:EP X pins σ Q w s:=⟨z,H,I,rw',q⟩
 exact subscriptTail_builtinR (x:=w) pl.typeIs slot_tuple_getitem.lookup
   (getItem_tuple (j:=j) (Q:=λr s'=>r=w/\EP X pins σ Q r s') pl (by omega) (by omega) (by rw [List.size_toArray,<- hl]; exact h1) (by simpa using ew) ⟨rfl,fin⟩) hs
theorem nC (its:List Value) (n j:Nat) (u:Value):Obj.mapSeq (·.setIfInBounds j u) { cls:=.type "list",data:=.seq its.toArray n }={ cls:=.type "list",data:=.seq (its.set j u).toArray n }:=by
 simp [Obj.mapSeq]
theorem Inv.lst {pins:List (Addr × Obj)} {σ:St} {H:Hp} {s:Shared} {p:Addr} {xs:List V} (I:Inv X pins σ H s) (h:H p=some (.lst xs)) :
   ∃ (its:List Value) (n:Nat),Vals xs its/\s.heap.get? p=some { cls:=.type "list",data:=.seq its.toArray n }/\xs.length<=sizeLine:=by
 obtain ⟨z,its,n,r,e⟩:=I.hok p _ h
 exact ⟨its,n,r,e,z⟩
theorem Inv.yV {pins:List (Addr × Obj)} {σ:St} {H:Hp} {s:Shared} {p:Addr} {xs ys:List V} {its its':List Value} {n n':Nat} {f:Obj->Obj} (I:Inv X pins σ H s) (h:H p=some (.lst xs))
   (ho:s.heap.get? p=some { cls:=.type "list",data:=.seq its.toArray n }) (hf:f { cls:=.type "list",data:=.seq its.toArray n }={ cls:=.type "list",data:=.seq its'.toArray n' }) (r:Vals ys its') (hz:ys.length<=sizeLine) (t:Nat) :
   Inv X pins σ (upd H p (.lst ys)) { s with heap:=s.heap.update p f,toks:=t }:=by
 have e:(s.heap.update p f).get? p=some { cls:=.type "list",data:=.seq its'.toArray n' }:=by
   rw [Heap.get?_update_self f ho (by rw [hf] <;> rfl),hf]
 refine I.write (x:=p) (e:=p) (by rw [h]; trivial) (.inl rfl) (λb u hb q=>(Heap.get?_update_other _ _ (Ne.symm hb)).trans q) ⟨_,e⟩ ?_
 exact ⟨hz,its',n',r,e⟩
noncomputable def AL:V->V->V->Hp->(Hp->Prop)->Prop:=λo i v H Q=>∃ p xs k j,o=.ref p/\i=.int k/\H p=some (.lst xs)/\ixN xs.length k=some j/\Q (upd H p (.lst (xs.set j v)))
theorem set_list:An X AL:=by
 intro pins s σ H o i v ov iv u Q I ro ri rv h
 obtain ⟨p,xs,k,j,rfl,rfl,hp,hj,q⟩:=h
 cases ro
 obtain ⟨t,rfl⟩:=ri
 obtain ⟨its,n,r,ho,hz⟩:=I.lst hp
 obtain ⟨h1,h2,h3,h4⟩:=oP hj
 have hl:=r.length
 have hn:=lT
 have I':Inv X pins σ (upd H p (.lst (xs.set j v))) { s with heap:=s.heap.update p (Obj.mapSeq (·.setIfInBounds j u)) }:=
   I.yV hp ho (nC its n j u) (r.set rv j) (by rw [List.length_set]; exact hz) s.toks
 by_cases h0:0<=k
 · have hk:k.toNat=j:=by
     rw [seqIndex_of h0 h4] at h1
     exact Option.some.inj h1
   exact PySem.W.ki_setAt ho h0 (by omega) (by rw [List.size_toArray,<- hl]; exact h4) (by rw [hk]; exact ⟨_,I',q⟩)
 · have hk:(k + (its.toArray.size:Int)).toNat=j:=by
     rw [seqIndex_neg (by omega) h3] at h1
     rw [List.size_toArray,<- hl]
     exact Option.some.inj h1
   exact PySem.W.ki_setBack ho (by omega) (by rw [List.size_toArray,<- hl]; exact h3) (by omega) (by rw [hk]; exact ⟨_,I',q⟩)
theorem kP (lo hi:Option Int) (n:Nat):(sliceBounds lo hi none n).1=((HT.sIx n 0 lo:Nat):Int)/\(sliceBounds lo hi none n).2.1=((HT.sIx n n hi:Nat):Int)/\(sliceBounds lo hi none n).2.2=1:=by
 refine ⟨?_,?_,rfl⟩
 · cases lo with
   | none=>simp [sliceBounds,HT.sIx]
   | some i=>
     simp only [sliceBounds,HT.sIx,Option.getD_none,show (1:Int) > 0 by decide,if_true]
     by_cases h:i < 0
     · simp only [h,if_true] <;> omega
     · simp only [h,if_false] <;> omega
 · cases hi with
   | none=>simp [sliceBounds,HT.sIx]
   | some i=>
     simp only [sliceBounds,HT.sIx,Option.getD_none,show (1:Int) > 0 by decide,if_true]
     by_cases h:i < 0
     · simp only [h,if_true] <;> omega
     · simp only [h,if_false] <;> omega
theorem jU (its:List Value) (lo hi:Option Int):slicePick its.toArray lo hi none=((its.drop (HT.sIx its.length 0 lo)).take (HT.sIx its.length its.length hi - HT.sIx its.length 0 lo)).toArray:=by
 obtain ⟨h1,h2,h3⟩:=kP lo hi its.toArray.size
 unfold slicePick
 rw [h1,h2,h3]
 simp only [sliceRange_one,pick_run,List.size_toArray] <;> rfl
noncomputable def A9 (K:PySem.W.Frag):V->Option Int->Option Int->Hp->VK->Prop:=λx lo hi H Q=>∃ a xs,x=.ref a/\SqL K H a xs/\∀ p,H p=none->Q (.ref p) (upd H p (.lst (jE xs lo hi)))
theorem uU:SlR X (A9 X.K):=by
 intro pins s σ H x v vl vu lo hi sl Q I rx hs pl pu h
 obtain ⟨a,xs,rfl,hx,q⟩:=h
 cases rx
 obtain ⟨its,r,ht,hz⟩:=I.list hx
 have hlen:=r.length
 refine ⟨"list",_,slot_list_getitem.lookup,ht.isList.typeIs,?_⟩
 refine wpAny_getItem_list_slice ht.isList hs pl pu .none (by simp) ?_ (by rw [List.size_toArray] <;> omega)
 rw [jU,<- hlen]
 refine ⟨.ref s.heap.objs.size,_,I.laid (t':=s.toks) (o:=.lst (jE xs lo hi)) (λb ob q=>Heap.get?_push_of_some _ q) (Nat.le_refl _) ?_,rfl,q _ (I.hok.fresh (Nat.le_refl _))⟩
 exact ⟨Nat.le_trans (iK xs lo hi) hz,_,0,(r.drop (HT.sIx xs.length 0 lo)).take (HT.sIx xs.length xs.length hi - HT.sIx xs.length 0 lo),Heap.get?_push_size _ rfl⟩
theorem hG:e8 X (.builtin "len") (λxs H Q=>∃ p ys,xs=[.ref p]/\(SqL X.K H p ys\/SqT X.K H p ys)/\Q (.int ys.length) H):=by
 intro pins s σ H xs us Q I r h
 obtain ⟨p,ys,rfl,hq,q⟩:=h
 obtain ⟨u,rfl,rx⟩:=vals1 r
 cases rx
 have hn:=lT
 rcases hq with hq | hq
 · obtain ⟨its,r',pl,hz⟩:=I.list hq
   have hlen:=r'.length
   exact Calls.call_len_list pl.isList (by simp only [List.size_toArray] <;> omega) ⟨.int ys.length,H,I.tok _,⟨s.toks + 1,by rw [List.size_toArray,hlen]⟩,q⟩
 · obtain ⟨its,r',pl,hz⟩:=I.tuple hq
   have hlen:=r'.length
   exact len_tuple pl (by simp only [List.size_toArray] <;> omega) ⟨.int ys.length,H,I.tok _,⟨s.toks + 1,by rw [List.size_toArray,hlen]⟩,q⟩
theorem gB:e8 X (.type "list") (λxs H Q=>∃ p ys,xs=[.ref p]/\(SqL X.K H p ys\/SqT X.K H p ys)/\∀ l,H l=none->Q (.ref l) (upd H l (.lst ys))):=by
 intro pins s σ H xs us Q I r h
 obtain ⟨p,ys,rfl,hq,q⟩:=h
 obtain ⟨u,rfl,rx⟩:=vals1 r
 cases rx
 have fin:∀ (its:List Value),Vals ys its->ys.length<=sizeLine->∀ (h':Heap) (c':Nat),(∀ b o',s.heap.get? b=some o'->h'.get? b=some o') ->
     h'.get? s.heap.objs.size=some { cls:=.type "list",dict:=none,data:=.seq its.toArray c',slots:=#[] }->EP X pins σ Q (.ref s.heap.objs.size) { s with heap:=h' }:=λits r' hz h' c' kp e=>
   ⟨.ref s.heap.objs.size,_,I.laid (t':=s.toks) kp (Nat.le_refl _) (show b9 X.prog X.w _ h' _ (.lst ys) from ⟨hz,its,c',r',e⟩),rfl,q _ (I.hok.fresh (Nat.le_refl _))⟩
 rcases hq with hq | hq
 · obtain ⟨its,r',pl,hz⟩:=I.list hq
   have hlen:=r'.length
   obtain ⟨o,ho,hc,n,hd⟩:=pl.isList
   exact call_list_seq p (.inl rfl) ho hc hd (λh' c' kp e=>fin its r' hz h' c' kp e) (by simp only [List.size_toArray] <;> omega)
 · obtain ⟨its,r',pl,hz⟩:=I.tuple hq
   have hlen:=r'.length
   obtain ⟨o,ho,hc,n,hd⟩:=pl
   exact call_list_seq p (.inr rfl) ho hc hd (λh' c' kp e=>fin its r' hz h' c' kp e) (by simp only [List.size_toArray] <;> omega)
noncomputable def tyV (K:PySem.W.Frag) (T:String) (x:V) (H:Hp):Prop:=match x with
 | .str _=>T = "str"
 | .int _=>T = "int"
 | .ref p=>(T = "list" /\ ∃ xs,SqL K H p xs)\/(T = "tuple" /\ ∃ o,K.lookup p=some o/\o.cls=.type "tuple" /\ o.dict=none) \/
     (T = "dict" /\ ((∃ kvs,H p=some (.dK kvs))\/∃ kvs,H p=some (.dT kvs)))\/(T = "set" /\ ∃ S n,H p=some (.set S n))
 | _=>False
theorem rL {pins:List (Addr × Obj)} {σ:St} {H:Hp} {s:Shared} {T:String} {x:V} {v:Value} (I:Inv X pins σ H s) (r:RelV x v) (ty:tyV X.K T x H) :
   s.TypeIs v T/\∀ a,v=.ref a->∃ ob,s.heap.get? a=some ob/\ob.dict=none:=by
 cases x with
 | str z=>
   obtain ⟨t,rfl⟩:=r
   cases (show T = "str" from ty)
   exact ⟨typeIs_str s z t,λ_ e=>nomatch e⟩
 | int i=>
   obtain ⟨t,rfl⟩:=r
   cases (show T = "int" from ty)
   exact ⟨typeIs_int s i t,λ_ e=>nomatch e⟩
 | ref p=>
   cases r
   rcases ty with ⟨rfl,xs,hq⟩ | ⟨rfl,o,hk,hc,hd⟩ | ⟨rfl,hk⟩ | ⟨rfl,S,n,hk⟩
   · obtain ⟨its,_,pl,_⟩:=I.list hq
     refine ⟨pl.isList.typeIs,λa e=>?_⟩
     cases e
     obtain ⟨o,n,e,c,hd,_⟩:=pl
     exact ⟨o,e,hd⟩
   · refine ⟨⟨o,I.kIn p o hk,hc⟩,λa e=>?_⟩
     cases e
     exact ⟨o,I.kIn _ o hk,hd⟩
   · have z:∃ o,s.heap.get? p=some o/\o.ExactDict:=by
       rcases hk with ⟨kvs,hk⟩ | ⟨kvs,hk⟩
       · obtain ⟨_,_,_,_,o,_,_,e,ex,_⟩:=I.hok p _ hk
         exact ⟨o,e,ex⟩
       · obtain ⟨_,_,_,_,o,_,_,e,ex,_⟩:=I.hok p _ hk
         exact ⟨o,e,ex⟩
     obtain ⟨o,e,ex⟩:=z
     refine ⟨⟨o,e,ex.1⟩,λa e2=>?_⟩
     cases e2
     exact ⟨o,e,ex.2.1⟩
   · obtain ⟨o,_,_,_,e,ex,_⟩:=I.hok p _ hk
     refine ⟨⟨o,e,ex.1⟩,λa e2=>?_⟩
     cases e2
     exact ⟨o,e,ex.2.1⟩
 | _=>exact False.elim ty
noncomputable def Bm (K:PySem.W.Frag) (T:String) (r:V->List V->Hp->VK->Prop) (to:TE):TE:=λσ H Q=>to σ H λx H1=>tyV K T x H1/\r x [] H1 Q
noncomputable def tBM (K:PySem.W.Frag) (T:String) (r:V->List V->Hp->VK->Prop) (to:TE) (t:TA):TE:=λσ H Q=>to σ H λx H1=>tyV K T x H1/\t σ H1 λxs H2=>r x xs H2 Q
variable {o e:Expr} {es:List Expr} {to:TE} {t:TA} {name:Str} {apos cpos:Pos} {T id:String} {r:V->List V->Hp->VK->Prop}
theorem xD (pa:PlainAttrs T) (slot:Slot T name id) (hty:typeOf (.builtin id)=pure (.type "method_descriptor")) (hm:MtR X id r) (ho:PE X o to)
   (hbase:attributeBase o name X.env (eval o X.env)=eval o X.env:=by rfl) (hline:(apos.endLine == cpos.line)=true:=by rfl):PE X (.Call (.Attribute o name apos) [] [] cpos) (Bm X.K T r to):=by
 intro pins s σ H Q I h
 refine wpAny_Call_method0_late hbase hline (thn (ho pins s σ H _ I h) λv s1 ⟨x,H1,I1,r1,ty,q1⟩=>?_)
 obtain ⟨h1,h2⟩:=rL I1 r1 ty
 exact ⟨T,id,pa,slot,hty,h1,h2,Calls.callWith_builtin rfl (PySem.evalArgs_none (hm pins s1 σ H1 x [] v [] Q I1 r1 .nil q1))⟩
theorem iG (pa:PlainAttrs T) (slot:Slot T name id) (hty:typeOf (.builtin id)=pure (.type "method_descriptor")) (hm:MtR X id r) (ho:PE X o to) (ha:PA X (e :: es) t)
   (hbase:attributeBase o name X.env (eval o X.env)=eval o X.env:=by rfl)
   (hfew:((backTo cpos (starEach (e :: es) X.env)).all (λx=>!x.1) && (backToKw cpos (keywordEach [] X.env)).all (λx=>x.1.isSome)
     && decide ((e :: es).length + ([]:List Keyword).length + (if ([]:List Keyword).isEmpty then 0 else 1) < 30))=true:=by rfl)
   (hline:(apos.endLine == cpos.line)=true:=by rfl) (hs:starEach (e :: es) X.env=(false,eval e X.env) :: starEach es X.env:=by rfl) (hplain:(backTo cpos (starEach es X.env)).any (·.1)=false:=by rfl) :
   PE X (.Call (.Attribute o name apos) (e :: es) [] cpos) (tBM X.K T r to t):=by
 intro pins s σ H Q I h
 refine wpAny_Call_method_late hbase hfew hline rfl (thn (ho pins s σ H _ I h) λv s1 ⟨x,H1,I1,r1,ty,q1⟩=>?_)
 obtain ⟨h1,h2⟩:=rL I1 r1 ty
 refine ⟨T,id,pa,slot,hty,h1,h2,?_⟩
 have hA:=ha cpos pins s1 σ H1 _ I1 q1
 rw [hs] at hA ⊢
 refine Calls.callWith_builtin (by show (false || (backTo cpos (starEach es X.env)).any (·.1))=false; rw [hplain] <;> rfl) (Calls.evalArgs_plain ?_)
 exact thn hA λus s2 ⟨vs,H2,I2,r2,q2⟩=>hm pins s2 σ H2 x vs v us Q I2 r1 r2 q2
end
noncomputable def MtM (X:Cx) (id:String) (r:V->List V->Hp->VK->Prop):Prop:=
 ∀ (pins:List (Addr × Obj)) (s:Shared) (σ:St) (H:Hp) (x:V) (xs:List V) (v:Value) (us:List Value) (Q:VK),Inv X pins σ H s->RelV x v->Vals xs us->r x xs H Q ->
   wpAny (model X.prog X.w) X.A (call (.builtin id) (v :: us)) (EP X pins σ Q) X.xe s
theorem Vals.one:∀ {x:V} {us:List Value},Vals [x] us->∃ u,us=[u]/\RelV x u
 | _,_,.cons r .nil=>⟨_,rfl,r⟩
theorem Vals.two:∀ {x y:V} {us:List Value},Vals [x,y] us->∃ u v,us=[u,v]/\RelV x u/\RelV y v
 | _,_,_,.cons r (.cons q .nil)=>⟨_,_,rfl,r,q⟩
theorem Vals.zero:∀ {us:List Value},Vals [] us->us=[]
 | _,.nil=>rfl
theorem Vals.eraseIdx:∀ {xs:List V} {us:List Value} (i:Nat),Vals xs us->Vals (xs.eraseIdx i) (us.eraseIdx i)
 | _,_,_,.nil=>.nil
 | _,_,0,.cons _ t=>t
 | _,_,i + 1,.cons r t=>.cons r (Vals.eraseIdx i t)
theorem Vals.reverse {xs:List V} {us:List Value} (h:Vals xs us):Vals xs.reverse us.reverse:=by
 induction h with
 | nil=>exact .nil
 | cons r t ih=>rw [List.reverse_cons,List.reverse_cons]; exact Vals.append ih (.cons r .nil)
theorem Vals.rep {xs:List V} {us:List Value} (h:Vals xs us):∀ k:Nat,Vals (List.replicate k xs).flatten (List.replicate k us).flatten
 | 0=>.nil
 | k + 1=>by
   rw [List.replicate_succ,List.replicate_succ,List.flatten_cons,List.flatten_cons]
   exact Vals.append h (Vals.rep h k)
theorem kz {α:Type}:∀ (l:List α) (i:Nat),(l.eraseIdx i).length<=l.length
 | [],_=>Nat.le_refl _
 | _ :: _,0=>Nat.le_succ _
 | _ :: r,i + 1=>Nat.succ_le_succ (kz r i)
theorem foldl_rep (its:List Value):∀ (k:Nat) (acc:List Value),
   List.foldl (λx1 x2=>x1++x2) acc.toArray (List.replicate k its.toArray)=(acc++(List.replicate k its).flatten).toArray
 | 0,acc=>by simp
 | k + 1,acc=>by
   have e:acc.toArray++its.toArray=(acc++its).toArray:=by simp
   have e2:(acc++its)++(List.replicate k its).flatten=acc++(List.replicate (k + 1) its).flatten:=by
     rw [List.replicate_succ,List.flatten_cons,List.append_assoc]
   rw [<- e2,<- foldl_rep its k (acc++its),<- e,List.replicate_succ,List.foldl_cons]
section
variable {X:Cx} {pins:List (Addr × Obj)} {σ:St} {H:Hp} {s:Shared} {l b:Addr} {xs ys zs:List V}
theorem Inv.se {its its':List Value} {n:Nat} {f:Array Value->Array Value} {t':Nat} (I:Inv X pins σ H s) (hH:H l=some (.lst xs))
   (e:s.heap.get? l=some { cls:=.type "list",data:=.seq its.toArray n }) (hf:f its.toArray=its'.toArray) (hv:Vals ys its') (hz:ys.length<=sizeLine) :
   Inv X pins σ (upd H l (.lst ys)) { s with heap:=s.heap.update l (Obj.mapSeq f),toks:=t' }:=by
 have q:=PySem.IsL.update e f
 rw [hf] at q
 refine I.write (x:=l) (e:=l) (by rw [hH]; exact trivial) (.inl rfl) (λb' u hb hu=>(Heap.get?_update_other s.heap (Obj.mapSeq f) (Ne.symm hb)).trans hu) ⟨_,q⟩ ?_
 exact ⟨hz,its',_,hv,q⟩
theorem Inv.zf {its:List Value} {t':Nat} (I:Inv X pins σ H s) (hv:Vals ys its) (hz:ys.length<=sizeLine) :
   Inv X pins σ (upd H s.heap.objs.size (.lst ys)) { s with heap:=s.heap.push { cls:=.type "list",data:=.seq its.toArray },toks:=t' }:=
 I.laid (λ_ _ q=>Heap.get?_push_of_some _ q) (Nat.le_refl _) ⟨hz,its,0,hv,Heap.get?_push_size _ rfl⟩
theorem Inv.fresh (I:Inv X pins σ H s):H s.heap.objs.size=none:=I.hok.fresh (Nat.le_refl _)
theorem Inv.rf (I:Inv X pins σ H s) (hH:H l=some (.lst xs)):xs.length<=sizeLine/\∃ (its:List Value) (n:Nat),Vals xs its/\xs.length=its.length/\s.heap.get? l=some { cls:=.type "list",data:=.seq its.toArray n }:=by
 obtain ⟨z,its,n,r,e⟩:=I.hok l _ hH
 exact ⟨z,its,n,r,r.length,e⟩
theorem mH {n:Nat} (h:n<=sizeLine):Builtin.List.listTooLong n=false:=by
 unfold Builtin.List.listTooLong
 exact decide_eq_false (by omega)
end
section
variable {X:Cx}
noncomputable def uT:V->List V->Hp->VK->Prop:=λx vs H Q=>∃ l xs y,x=.ref l/\vs=[y]/\H l=some (.lst xs)/\xs.length < sizeLine/\Q .non (upd H l (.lst (xs++[y])))
theorem dN:MtM X "list.append" uT:=by
 intro pins s σ H x vs v us Q I rx rv h
 obtain ⟨l,xs,y,rfl,rfl,hH,hz,q⟩:=h
 cases rx
 obtain ⟨u,rfl,ru⟩:=rv.one
 obtain ⟨z,its,n,r,hl,e⟩:=I.rf hH
 refine call_meets F.slot_list_append ⟨_,e,rfl⟩ F.entry_list_append (F.args_list_append_2 _ _) (PySem.list_append l its.toArray n u (by rw [List.size_toArray]; omega)) ⟨e,?_⟩
 refine ⟨.non,_,I.se (its':=its++[u]) hH e (by simp) (r.append (.cons ru .nil)) ?_,rfl,q⟩
 rw [List.length_append,List.length_singleton]
 omega
noncomputable def v5:V->List V->Hp->VK->Prop:=λx vs H Q=>∃ l b xs zs,x=.ref l/\vs=[.ref b]/\H l=some (.lst xs)/\H b=some (.lst zs)/\xs.length + zs.length<=sizeLine/\Q .non (upd H l (.lst (xs++zs)))
theorem iq:MtM X "list.extend" v5:=by
 intro pins s σ H x vs v us Q I rx rv h
 obtain ⟨l,b,xs,zs,rfl,rfl,hH,hB,hz,q⟩:=h
 cases rx
 obtain ⟨u,rfl,ru⟩:=rv.one
 cases ru
 obtain ⟨z,its,n,r,hl,e⟩:=I.rf hH
 obtain ⟨z2,its2,n2,r2,hl2,e2⟩:=I.rf hB
 have hsz:its.toArray.size + its2.toArray.size<=sizeLine:=by rw [List.size_toArray,List.size_toArray]; omega
 have hlong:¬ (!its.toArray.isEmpty && Builtin.List.listTooLong (its.toArray.size + its2.toArray.size))=true:=by
   rw [mH hsz,Bool.and_false]
   exact Bool.false_ne_true
 refine call_meets F.slot_list_extend ⟨_,e,rfl⟩ F.entry_list_extend (F.args_list_extend_2 _ _)
   (AutoSeq1.list_extend_list_list_0 l its.toArray n b its2.toArray n2 hlong (by rw [List.size_toArray]; omega) (by omega)) ⟨e,e2,?_⟩
 refine ⟨.non,_,I.se (its':=its++its2) hH e (by simp) (r.append r2) ?_,rfl,q⟩
 rw [List.length_append]
 omega
noncomputable def xf:V->List V->Hp->VK->Prop:=λx vs H Q=>∃ l xs i k y,x=.ref l/\vs=[.int i]/\H l=some (.lst xs)/\-(2 ^ 63)<=i/\i < 2 ^ 63/\seqIndex? i xs.length=some k/\xs[k]?=some y/\Q y (upd H l (.lst (xs.eraseIdx k)))
theorem sS:MtM X "list.pop" xf:=by
 intro pins s σ H x vs v us Q I rx rv h
 obtain ⟨l,xs,i,k,y,rfl,rfl,hH,h1,h2,hk,hy,q⟩:=h
 cases rx
 obtain ⟨u,rfl,ru⟩:=rv.one
 obtain ⟨t,rfl⟩:=ru
 obtain ⟨z,its,n,r,hl,e⟩:=I.rf hH
 obtain ⟨w,hw,rw'⟩:=r.get hy
 refine call_meets F.slot_list_pop ⟨_,e,rfl⟩ F.entry_list_pop (F.args_list_pop_2 _ _)
   (MeetsSeq.list_pop_at l its.toArray n i t k w (fitsIndex_both h1 h2) (by rw [List.size_toArray,<- hl]; exact hk) (by rw [<- Array.getElem?_toList]; exact hw) (by rw [List.size_toArray]; omega)) ⟨e,?_⟩
 refine ⟨y,_,I.se (its':=its.eraseIdx k) hH e ?_ (r.eraseIdx k) ?_,rw',q⟩
 · show its.toArray.eraseIdxIfInBounds k=(its.eraseIdx k).toArray
   rw [List.eraseIdxIfInBounds_toArray]
 · have:=kz xs k
   omega
noncomputable def rV:V->List V->Hp->VK->Prop:=λx vs H Q=>∃ l xs,x=.ref l/\vs=[]/\H l=some (.lst xs)/\Q .non (upd H l (.lst xs.reverse))
theorem oF:MtM X "list.reverse" rV:=by
 intro pins s σ H x vs v us Q I rx rv h
 obtain ⟨l,xs,rfl,rfl,hH,q⟩:=h
 cases rx
 have hus:=rv.zero
 subst hus
 obtain ⟨z,its,n,r,hl,e⟩:=I.rf hH
 refine call_meets F.slot_list_reverse ⟨_,e,rfl⟩ F.entry_list_reverse (F.args_list_reverse_1 _) (AutoSeq1.list_reverse_list_0 l its.toArray n (by rw [List.size_toArray]; omega)) ⟨e,?_⟩
 refine ⟨.non,_,I.se (its':=its.reverse) hH e (by simp) r.reverse ?_,rfl,q⟩
 rw [List.length_reverse]
 omega
theorem len_rep {α:Type} (xs:List α) (k:Nat):(List.replicate k xs).flatten.length=k * xs.length:=by
 induction k with
 | zero=>simp
 | succ k ih=>rw [List.replicate_succ,List.flatten_cons,List.length_append,ih,Nat.succ_mul,Nat.add_comm]
end
section
variable {prog:Program} {w:World} {A:Around} {E:Value->Shared->Prop} {s:Shared}
end
section
variable {X:Cx}
end
end L2
namespace Att
open PySem PySem.W PySem.Calls PyProof.Rows
theorem iS {P:Params} {h:Heap}:∀ (ns:List Int) (vs:List Value),WellAll P h vs (ns.map WData.int)->IntsAre vs ns:=by
 intro ns
 induction ns with
 | nil=>
   intro vs w
   rw [List.map_nil] at w
   cases w
   exact .nil
 | cons n ns ih=>
   intro vs w
   rw [List.map_cons] at w
   cases w with
   | cons a b=>
     cases a
     exact .cons _ _ (ih _ b)
theorem rd {l:OpenLaw} {n:Nat} (hn:l.most=some n) {P:Params} {h:Heap} {args:List WData} {vals:List Value}
   (hpre:l.row.toRowW.claim.pre args=true) (hwl:WellAll P h vals args) :
   ∃ a vs ns,vals=[Value.ref a]/\args=[WData.list (ns.map WData.int)]/\h.get? a=some { cls:=.type "list",data:=.seq vs.toArray }/\IntsAre vs ns/\ns.length<=n:=by
 have hsh:WShape.hasAll [] args [.list .int]=true:=(pre_splitW hpre).1
 have hc:l.pre.holds [] { args:=args }=true:=(pre_splitW hpre).2
 obtain ⟨d,r,rfl,h1,h2⟩:=hasAllW_cons hsh
 obtain rfl:=hasAllW_nil h2
 obtain ⟨xs,rfl,h3⟩:=hasW_list h1
 obtain ⟨ns,rfl⟩:=items_int h3
 have hlen:ns.length<=n:=by
   unfold OpenLaw.pre at hc
   have h4:(WTm.not (.lt (.lit (.int (n:Int))) (.len (.arg 0)))).holds [] { args:=[.list (ns.map .int)] }=true:=by
     have h4:=(holds_andW hc).1
     rw [hn] at h4
     exact h4
   have h5:=condW_of h4 (w_not (w_lt w_lit (w_len_list (w_arg rfl))))
   rw [List.length_map] at h5
   refine Nat.le_of_not_lt λq=>?_
   have q':(n:Int) < ((ns.length:Nat):Int):=by omega
   first
     | (rw [decide_eq_true q'] at h5; exact absurd h5 (by decide))
     | (simp at h5; omega)
 cases hwl with
 | cons w1 w2=>
   cases w2
   cases w1 with
   | list ho hall=>exact ⟨_,_,ns,rfl,rfl,ho,iS ns _ hall,hlen⟩
theorem qV (l:OpenLaw) (args:List WData):l.row.toRowW.claim.post args (.bool true) args=true:=
 postW_of (r:=l.row.toRowW) (X:=(true == true))
   (show WShape.has [] (.bool true) .bool=true by first | rfl | decide | simp [WShape.has,WShape.arms,WShape.armsAll])
   (show (WTm.eq .res (.lit (.bool true))).value [] { args:=args,res:=some (.bool true),after:=args }=some (.bool (true == true)) from w_eq_bool (w_res rfl) w_lit) rfl
theorem mU {l:OpenLaw} {n:Nat} {q:Program} {loose:List Str} {XP:(Str->Option Value)->Heap->Prop} {YP:World->Heap->Prop} {d:DefRec}
   (hn:l.most=some n) (hdf:d.params.defaults=[])
   (call:∀ (w:World) (s₀ s₁:Shared) (mg mb:Str->Option Value) (fa:Addr) (o:Obj) (pm cd doc:Value) (a:Addr) (vs:List Value) (ns:List Int),
     Ground q loose [] XP w s₀ mg mb s₁.heap->YP w s₁.heap ->
     s₁.heap.get? fa=some o->o.data=.func (docDef d.name d.params d.body d.scope pm cd doc)->s₁.heap.CodeRec cd d.name->mg d.name=some (.ref fa) ->
     s₁.heap.get? a=some { cls:=.type "list",data:=.seq vs.toArray }->IntsAre vs ns->ns.length<=n->s₁.gens=#[] ->
     codeAny (model l.prog w) callerA (.call (.ref fa) ⟨[.ref a],[]⟩) (λr s'=>r=.ok (.ret (.bool true))/\OldK s₁.heap s'.heap/\s'.os=s₁.os/\AllBare s'.gens) s₁) :
   WalkO q loose XP YP l.row.toRowW d [] (λf vs=>PySem.call f vs):=by
 intro w s₀ s₁ mg mb G Y fa o pm cd doc dV kV ho hd hcd hD hmg hg args vals as hpre hlay hrd hwl hlo
 obtain rfl:dV=.none:=Dflts.none hD hdf
 obtain rfl:kV=.none:=Dflts.noKw hD
 obtain ⟨a,vs,ns,rfl,rfl,hobj,hints,hlen⟩:=rd hn hpre hwl
 refine enter_call (codeAny_mono (call w s₀ s₁ mg mb fa o pm cd doc a vs ns G Y ho (fd_plain hd) hcd hmg hobj hints hlen hg) λr s' hq=>?_)
 obtain ⟨rfl,h2,h3,h4⟩:=hq
 exact ⟨.inl ⟨.bool true,.bool true,[],rfl,λ_=>rfl,.bool true,qV l _,λ_=>⟨List.Pairwise.nil,λ_ hm=>(nomatch hm)⟩⟩,h2,h3,h4⟩
section
variable {prog:Program} {w:World} {A:Around} {E:Value->Shared->Prop} {s:Shared} {K:Frag}
end
end Att
namespace L2
open PySem PySem.Spec PyProof.Rows
theorem kr:∀ {vs:List Value} {ns:List Int},IntsAre vs ns->Vals (ns.map V.int) vs
 | _,_,.nil=>.nil
 | _,_,.cons n t h=>.cons ⟨t,rfl⟩ (kr h)
noncomputable def xj (H:Hp):Prop:=∀ b,H b=none\/∃ o xs,H b=some (.frz o (.lst xs))
end L2
namespace L2
open PySem PySem.Spec PyProof.Rows
noncomputable def d9 (s:Stmt):Arguments:=match s with
 | .FunctionDef _ a _ _ _ _ _ _ _ _=>a
 | _=>{ posonlyargs:=[],args:=[],vararg:=none,kwonlyargs:=[],kw_defaults:=[],kwarg:=none,defaults:=[] }
noncomputable def cq (s:Stmt):List Stmt:=match s with
 | .FunctionDef _ _ b _ _ _ _ _ _ _=>b
 | _=>[]
noncomputable def au (s:Stmt):Scope:=match s with
 | .FunctionDef _ _ _ _ _ _ sc _ _ _=>sc
 | _=>{ kind:=.function,names:=[],isGenerator:=false,isCoroutine:=false }
noncomputable abbrev CX0:CXT:=λ_ _ _ _ _ _=>False
noncomputable abbrev E0:XK:=λ_ _ _=>False
theorem wA {X:Cx}:Passes CX0 X E0:=λ_ _ _ _ _ _ _ h=>h.elim
structure Fun (K:PySem.W.Frag) (x qual:Str) (st:Stmt) (f:Addr) (fd:FuncData):Prop where
 ex:∃ (oc:Value) (od:Option Addr) (dV kV doc pm:Value) (an:Option Addr) (cdv ct:Value) (osl:Array (Option Value)),
   fd=PySem.W.fnOf x qual (d9 st) (cq st) (au st) dV kV doc pm an cdv ct/\K.lookup f=some ⟨oc,od,.func fd,osl⟩/\PySem.W.codeIn K cdv qual=true
 kp:PySem.W.keepIn K (.ref f)=true
section
variable {P:Program} {w:World} {K:PySem.W.Frag} {mg:Str->Option Value} {base:Heap}
theorem Fun.ok {x qual:Str} {st:Stmt} {f:Addr} {fd:FuncData} {N ps:List Str} {k:Nat} {sp:Sp} (F:Fun K x qual st f fd) (S:aG N ps (au st)) (len:∀ vs H Q E,sp vs H Q E->vs.length=ps.length)
   (hbody:∀ (cdv:Value) (A:Around) (outer:List Env) (s:Shared) (H:Hp) (vs:List V) (Q:VK) (E:XK),eO k (A.deeper (envOfC qual (au st) s.heap.objs.size f cdv))->sp vs H Q E ->
     ∃ t,PSs (nB CX0 P w K mg base N qual (au st) f cdv A outer s H E).nox (cq st) t/\t { nx:=λ_ H'=>Q .non H',rt:=Q } (start N vs) H):a6 P w K mg base CX0 (k + 1) f fd ps sp:=by
 obtain ⟨oc,od,dV,kV,doc,pm,an,cdv,ct,osl,rfl,lk,hcd⟩:=F.ex
 refine Am lk hcd S len λA outer s H vs Q E hr hsp=>?_
 obtain ⟨t,h,q⟩:=hbody cdv A outer s H vs Q E hr hsp
 exact ⟨t,h.nox,q⟩
theorem Fun.binds {x qual:Str} {st:Stmt} {f:Addr} {fd:FuncData} {ps:List Str} (_:Fun K x qual st f fd) (h:∀ us:List Value,us.length=ps.length->bindArgs fd ⟨us,[]⟩=pure (ps.zip us)):Binds K fd ps []:=.all h
theorem sU {x qual:Str} {st:Stmt} {f:Addr} {oc:Value} {od an:Option Addr} {osl:Array (Option Value)} {dV kV doc pm cdv ct:Value} (l:K.lookup f=some ⟨oc,od,.func (PySem.W.fnOf x qual (d9 st) (cq st) (au st) dV kV doc pm an cdv ct),osl⟩)
   (c:PySem.W.codeIn K cdv qual=true) (k:PySem.W.keepIn K (.ref f)=true):Fun K x qual st f (PySem.W.fnOf x qual (d9 st) (cq st) (au st) dV kV doc pm an cdv ct):=⟨⟨oc,od,dV,kV,doc,pm,an,cdv,ct,osl,rfl,l,c⟩,k⟩
end
theorem ig {n:Nat} (h:n<=1000):n < sizeLine:=Nat.lt_of_le_of_lt h (by decide)
section
variable {X:Cx}
theorem pv (i:Nat) {x:Str} {pos:Pos} (hN:X.N[i]?=some x:=by rfl) (hv:Vis X.env.scope x:=by first | exact Or.inl rfl | exact Or.inr (Or.inl rfl) | exact Or.inr (Or.inr rfl)) (hd:(x == ("__debug__" : Str))=false:=by decide)
   (hcd:(x == ("__classdict__" : Str))=false:=by decide):PE X (.Name x pos) (zC i):=bD hN hv hd hcd
end
theorem l6 {A B:Prop} (h:B):if false=true then A else B:=by
 rw [if_neg Bool.false_ne_true]
 exact h
theorem mw {A B:Prop} (h:A):if true=true then A else B:=by
 rw [if_pos rfl]
 exact h
noncomputable def ao (H H':Hp):Prop:=∀ b o,H b=some o->H' b=some o
theorem ao.refl (H:Hp):ao H H:=λ_ _ h=>h
theorem ao.trans {H H1 H2:Hp} (a:ao H H1) (b:ao H1 H2):ao H H2:=λc o h=>b c o (a c o h)
theorem ao.free {H H':Hp} (e:ao H H') {l:Addr} (h:H' l=Option.none):H l=Option.none:=by
 cases q:H l with
 | none=>rfl
 | some o=>
   rw [e l o q] at h
   cases h
theorem ao.seq {K:PySem.W.Frag} {H H':Hp} {a:Addr} {xs:List V} (e:ao H H') (h:SqL K H a xs):SqL K H' a xs:=by
 rcases h with (h | ⟨o,h⟩) | h
 · exact .inl (.inl (e _ _ h))
 · exact .inl (.inr ⟨o,e _ _ h⟩)
 · exact .inr h
end L2
set_option linter.all false
set_option maxRecDepth 100000
namespace Ev
open PySem PySem.Spec PyProof.Rows L2
structure Bx where
 p:PySem.W.Frag->Hp->Addr->Prop
 mono:∀ {K:PySem.W.Frag} {H H':Hp} {a:Addr},ao H H'->p K H a->p K H' a
 isd:∀ {K:PySem.W.Frag} {H:Hp} {a:Addr},p K H a->∃ o:HO,H a=some o/\∀ (P:Program) (w:World) (H':Hp) (h:Heap),b9 P w H' h a o->∃ ob,h.get? a=some ob/\ob.cls=.type "dict"
inductive D where
 | non | bl (b:Bool) | int (i:Int) | str (x:Str) | tup (xs:List D) | lst (xs:List D) | box (x:Bx)
noncomputable instance:Inhabited D:=⟨.non⟩
mutual
inductive Den (K:PySem.W.Frag) (H:Hp):V->D->Prop where
 | non:Den K H .non .non
 | bl {b:Bool}:Den K H (.bl b) (.bl b)
 | int {i:Int}:Den K H (.int i) (.int i)
 | str {x:Str}:Den K H (.str x) (.str x)
 | tup {a:Addr} {vs:List V} {ds:List D} (h:SqT K H a vs) (r:av K H vs ds):Den K H (.ref a) (.tup ds)
 | lst {a:Addr} {vs:List V} {ds:List D} (h:SqL K H a vs) (r:av K H vs ds):Den K H (.ref a) (.lst ds)
 | box {a:Addr} {x:Bx} (h:x.p K H a):Den K H (.ref a) (.box x)
inductive av (K:PySem.W.Frag) (H:Hp):List V->List D->Prop where
 | nil:av K H [] []
 | cons {v:V} {d:D} {vs:List V} {ds:List D} (h:Den K H v d) (r:av K H vs ds):av K H (v :: vs) (d :: ds)
end
section
variable {K:PySem.W.Frag} {H H':Hp}
theorem aX (e:ao H H') {a:Addr} {xs:List V} (h:SqT K H a xs):SqT K H' a xs:=by
 rcases h with (h | ⟨o,h⟩) | h
 · exact .inl (.inl (e _ _ h))
 · exact .inl (.inr ⟨o,e _ _ h⟩)
 · exact .inr h
theorem aP (e:ao H H') {a:Addr} {xs:List V} (h:SqL K H a xs):SqL K H' a xs:=e.seq h
mutual
theorem Den.mono (e:ao H H'):∀ {v:V} {d:D},Den K H v d->Den K H' v d
 | _,_,.non=>.non
 | _,_,.bl=>.bl
 | _,_,.int=>.int
 | _,_,.str=>.str
 | _,_,.tup h r=>.tup (aX e h) (av.mono e r)
 | _,_,.lst h r=>.lst (aP e h) (av.mono e r)
 | _,_,.box (x:=x) h=>.box (x.mono e h)
theorem av.mono (e:ao H H'):∀ {vs:List V} {ds:List D},av K H vs ds->av K H' vs ds
 | _,_,.nil=>.nil
 | _,_,.cons h r=>.cons (Den.mono e h) (av.mono e r)
end
theorem av.length:∀ {vs:List V} {ds:List D},av K H vs ds->vs.length=ds.length
 | _,_,.nil=>rfl
 | _,_,.cons _ r=>congrArg (· + 1) r.length
theorem av.get:∀ {vs:List V} {ds:List D} {i:Nat} {d:D},av K H vs ds->ds[i]?=some d->∃ v,vs[i]?=some v/\Den K H v d
 | _,_,_,_,.nil,e=>by simp at e
 | _,_,0,_,.cons h _,e=>by simp at e; subst e; exact ⟨_,rfl,h⟩
 | _,_,i + 1,d,.cons _ r,e=>by
   obtain ⟨v,h1,h2⟩:=av.get (i:=i) (d:=d) r (by simpa using e)
   exact ⟨v,by simpa using h1,h2⟩
theorem av.append:∀ {xs ys:List V} {ds es:List D},av K H xs ds->av K H ys es->av K H (xs++ys) (ds++es)
 | _,_,_,_,.nil,s=>s
 | _,_,_,_,.cons h r,s=>.cons h (av.append r s)
theorem av.take:∀ {xs:List V} {ds:List D} (n:Nat),av K H xs ds->av K H (xs.take n) (ds.take n)
 | _,_,0,_=>.nil
 | _,_,_ + 1,.nil=>.nil
 | _,_,n + 1,.cons h r=>.cons h (av.take n r)
theorem av.drop:∀ {xs:List V} {ds:List D} (n:Nat),av K H xs ds->av K H (xs.drop n) (ds.drop n)
 | _,_,0,r=>r
 | _,_,_ + 1,.nil=>.nil
 | _,_,n + 1,.cons _ r=>av.drop n r
end
noncomputable def aI (i j:Int):Prop:=i.natAbs.log2 < 64\/j.natAbs.log2 < 64\/(i.natAbs.log2 < 1000000/\j.natAbs.log2 < 1000000)
noncomputable def aN (j:Int):Prop:=j ≠ 0/\j.natAbs.log2 < 9000
theorem aq {H:Hp} {p:Addr} (h:H p=none) (o:HO):ao H (upd H p o):=λb u q=>by rw [aK (aU q h)]; exact q
noncomputable def Ite (K:PySem.W.Frag) (a:Addr):L2.It:=
 ⟨λi H=>∃ xs x,SqL K H a xs/\xs[i]?=some x,λi H v H'=>∃ p x,H p=none/\v=.ref p/\H'=upd H p (.tup [.int (i:Nat),x])/\∀ xs,SqL K H a xs->xs[i]?=some x,λi H=>∃ xs,SqL K H a xs/\xs.length<=i⟩
theorem qX {P:Program} {w:World} {K:PySem.W.Frag} {ts:List Expr} {q:Nat} {tp:Pos} (a e it:Addr) (hne:e ≠ it) :
   Turn P w K false (.Tuple ts q tp) (Ite K a) [e,it] e (λi h=>(∃ old,IsEnum h e it (i:Nat) old)/\h.IsListIter it a i) where
 mem:=by simp
 obj:=λi h st b hb=>by
   obtain ⟨⟨old,h1⟩,o,h2,h3,h4⟩:=st
   rcases List.mem_cons.mp hb with rfl | hb
   · exact ⟨_,h1,λv z=>nomatch z⟩
   · have z:b=it:=by simpa using hb
     subst z
     exact ⟨o,h2,λv z=>by rw [h4] at z; cases z⟩
 keep:=λi h h' st k=>by
   obtain ⟨⟨old,h1⟩,o,h2,h3,h4⟩:=st
   exact ⟨⟨old,k e (by simp) _ h1⟩,o,k it (by simp) o h2,h3,h4⟩
 item:=by
   intro X hP hw hK hc i pins s σ H E I hf st hg
   subst hP hw hK
   obtain ⟨xs,x,hq,hx⟩:=hg
   obtain ⟨its,rv,p,hz⟩:=I.list hq
   obtain ⟨u,hu,ru⟩:=rv.get hx
   obtain ⟨⟨old,h1⟩,h2⟩:=st
   have fe:=hf e (by simp)
   have fi:=hf it (by simp)
   refine wpAny_pyNext_enum_item h1 h2 p.isList (x:=u) (by simpa using hu) hne λh' g1 g2 g3 g4 g5=>⟨_,rfl,?_⟩
   refine wpAny_letOwnedTupleGo_enum (s:={ s with heap:=h',toks:=s.toks + 1 }) g1 λh2' k1 k2=>?_
   have hn:H s.heap.objs.size=none:=I.hok.fresh (Nat.le_refl _)
   have le1:e < s.heap.objs.size:=Heap.lt_size h1
   have le2:it < s.heap.objs.size:=by obtain ⟨o,z,_⟩:=h2; exact Heap.lt_size z
   have kp:∀ b o,b ≠ e->b ≠ it->s.heap.get? b=some o->h2'.get? b=some o:=λb o b1 b2 z=>(k2.2 b b1).trans (g5 b o b1 b2 z)
   have nt:h2'.get? s.heap.objs.size=some { cls:=.type "tuple",data:=.seq #[.int (i:Nat) s.toks,u] }:=(k2.2 _ (Nat.ne_of_gt le1)).trans g3
   have ne1:∀ b v,H b=some v->b ≠ e:=λb v z q=>by rw [q,fe.1] at z; cases z
   have ne2:∀ b v,H b=some v->b ≠ it:=λb v z q=>by rw [q,fi.1] at z; cases z
   have hok0:HOk X.prog X.w H h2':=λb v z=>(I.hok b v z).ju (λc v' hc' q=>kp c v' (by
       rcases hc' with hc' | hc'
       · rw [hc']; exact ne1 b v z
       · exact ne1 c _ hc') (by
       rcases hc' with hc' | hc'
       · rw [hc']; exact ne2 b v z
       · exact ne2 c _ hc') q) (λ_ q=>q) λ_ _ q=>q
   have hok1:HOk X.prog X.w (upd H s.heap.objs.size (.tup [.int (i:Nat),x])) h2':=λb v z=>by
     by_cases hb:b=s.heap.objs.size
     · subst hb
       rw [aT] at z; cases z
       exact ⟨(by show 2<=sizeLine; decide),[.int (i:Nat) s.toks,u],.cons ⟨_,rfl⟩ (.cons ru .nil),_,nt,rfl,_,rfl⟩
     · rw [aK hb] at z
       exact (hok0 b v z).ju (λc v' _ q=>q) (λc q=>by rw [aK (aU q hn)]; exact q) λc ys q=>by rw [aK (aU q hn)]; exact q
   have I1:Inv X pins σ (upd H s.heap.objs.size (.tup [.int (i:Nat),x])) { s with heap:=h2',toks:=s.toks + 1 }:=by
     refine I.step (g':=s.gens) (d':=s.drawn) (ch:=[e,it]) (λb hb=>?_) (λb o _ _ hc' z _=>kp b o (λq=>hc' (by simp [q])) (λq=>hc' (by simp [q])) z)
       (λb o _ _ hc' z _=>⟨o.slots,kp b o (λq=>hc' (by simp [q])) (λq=>hc' (by simp [q])) z⟩)
       (λb o hc' z n=>by rw [aK (Nat.ne_of_lt (Heap.lt_size z))]; exact n) (λb o hc' z=>⟨o,kp b o (λq=>hc' (by simp [q])) (λq=>hc' (by simp [q])) z⟩)
       (λb ys z=>by rw [aK (aU z hn)]; exact z) (λb o u z=>by rw [aK (aU z hn)]; exact z) (λb ps z=>⟨#[],by rw [aK (aU z hn),z]; simp⟩) (λm hm=>?_) hok1 I.bare
     · rcases List.mem_cons.mp hb with rfl | hb
       · exact ⟨fe.2.2.2.1,fe.2.1,fe.2.2.2.2.1,fe.2.2.2.2.2⟩
       · have z:b=it:=by simpa using hb
         subst z
         exact ⟨fi.2.2.2.1,fi.2.1,fi.2.2.2.2.1,fi.2.2.2.2.2⟩
     · obtain ⟨o,es,ep,ho,r⟩:=hm
       exact ⟨o,es,ep,kp _ o (Ne.symm fe.2.1) (Ne.symm fi.2.1) ho,r⟩
   refine ⟨.ref s.heap.objs.size,_,I1,rfl,⟨s.heap.objs.size,x,hn,rfl,rfl,λys hy=>by rw [I.fh hy hq]; exact hx⟩,⟨⟨_,k1⟩,?_⟩,λb hb=>?_⟩
   · obtain ⟨o,z1,z2,z3⟩:=g2
     exact ⟨o,(k2.2 it (Ne.symm hne)).trans z1,z2,z3⟩
   · rcases List.mem_cons.mp hb with rfl | hb
     · rw [aK (Nat.ne_of_lt le1)]; exact fe.1
     · have z:b=it:=by simpa using hb
       subst z
       rw [aK (Nat.ne_of_lt le2)]; exact fi.1
 done:=by
   intro X hP hw hK hc i pins s σ H E I hf st hg
   subst hP hw hK
   obtain ⟨xs,hq,hx⟩:=hg
   obtain ⟨its,rv,p,hz⟩:=I.list hq
   obtain ⟨⟨old,h1⟩,h2⟩:=st
   obtain ⟨f0,f1,f2,f3,f4,f5⟩:=hf it (by simp)
   have hl:=rv.length
   exact wpAny_pyNext_enum_end (I.ok.hd hc.calm) h1 h2 p.isList (by simp; omega) λh' eb=>⟨rfl,I.turned (t':=s.toks) (λb o hb z=>eb b o hb z) f0 f1 f3 f4 f5⟩
 self:=λ_ _ _ _ _ st h=>by
   obtain ⟨⟨old,h1⟩,_⟩:=st
   exact wpAny_pyIter_enum h1 h
section
variable {X:Cx}
noncomputable def xB (K:PySem.W.Frag) (ta:TA):TI:=λσ H R=>ta σ H λvs H1=>∃ a,vs=[.ref a]/\(∃ xs,SqL K H1 a xs)/\R (Ite K a) H1
theorem rg:bootBuiltins "enumerate" = some (.type "enumerate"):=by decide +kernel
theorem k5 {ts:List Expr} {q:Nat} {tp:Pos} {a:Expr} {ta:TA} {p pos:Pos} (hc:X.calm=true) (hg:Gl X "enumerate") (hm:X.mg "enumerate" = none) (ha:PA X [a] ta) (hs:starEach [a] X.env=[(false,eval a X.env)]) :
   PI X (.Tuple ts q tp) (.Call (.Name "enumerate" p) [a] [] pos) (xB X.K ta):=by
 intro pins s σ H R I h
 refine Call_ (ee I hg hm rg (PyProof.Rows.callWith_type1 (thn (ha pos pins s σ H _ I h) λus s1 ⟨vs,H1,I1,r1,q1⟩=>?_) hs rfl))
 obtain ⟨l,e,⟨xs,hq⟩,q⟩:=q1
 subst e
 obtain ⟨u,rfl,ru⟩:=vals1 r1
 cases ru
 obtain ⟨its,rv,pl,hz⟩:=I1.list hq
 refine call_enumerate_list pl.isList λh' g1 g2 g3 g4=>?_
 refine wpAny_pyIter_enum (s:={ s1 with heap:=h' }) g1 ?_
 have I2:Inv X pins σ H1 { s1 with heap:=h' }:=I1.kept (t':=s1.toks) g4
 have n1:H1 (s1.heap.objs.size + 1)=none:=I1.hok.fresh (by omega)
 have n2:H1 s1.heap.objs.size=none:=I1.hok.fresh (Nat.le_refl _)
 refine ⟨false,s1.heap.objs.size + 1,[s1.heap.objs.size + 1,s1.heap.objs.size],_,_,H1,rfl,I2,.inl hc,qX l (s1.heap.objs.size + 1) s1.heap.objs.size (Nat.succ_ne_self _),⟨⟨_,g1⟩,g2⟩,λb hb=>?_,q⟩
 rcases List.mem_cons.mp hb with rfl | hb
 · exact I1.jV (by omega) n1
 · have z:b=s1.heap.objs.size:=by simpa using hb
   subst z
   exact I1.jV (Nat.le_refl _) n2
end
noncomputable def Itz (K:PySem.W.Frag) (a b:Addr):L2.It:=
 ⟨λi H=>∃ xs ys x y,SqL K H a xs/\SqL K H b ys/\xs[i]?=some x/\ys[i]?=some y,
  λi H v H'=>∃ p x y,H p=none/\v=.ref p/\H'=upd H p (.tup [x,y])/\(∀ xs,SqL K H a xs->xs[i]?=some x)/\∀ ys,SqL K H b ys->ys[i]?=some y,
  λi H=>∃ xs ys,SqL K H a xs/\SqL K H b ys/\(xs.length<=i\/ys.length<=i)⟩
noncomputable def zSt (a b z TI TO i1 i2:Addr) (i:Nat) (h:Heap):Prop:=
 IsZip h z TI TO .none/\IsPair h TI (.ref i1) (.ref i2)/\(∃ u v,IsPair h TO u v)/\h.IsListIter i1 a i/\h.IsListIter i2 b i
theorem kL {h:Heap} {a b z TI TO i1 i2:Addr} {i:Nat} {xs ys:Array Value} (n:TI ≠ TO) (m:i1 ≠ i2) (s:zSt a b z TI TO i1 i2 i h) (l1:h.IsList a xs) (l2:h.IsList b ys):ZipApart z TI TO i1 i2 a b:=by
 obtain ⟨h1,h2,⟨u,v,h3⟩,⟨o4,h4,c4,d4⟩,⟨o5,h5,c5,d5⟩⟩:=s
 obtain ⟨o6,h6,c6,n6,d6⟩:=l1
 obtain ⟨o7,h7,c7,n7,d7⟩:=l2
 have kk:∀ {x y:Addr} {o p:Obj},h.get? x=some o->h.get? y=some p->o.cls ≠ p.cls->x ≠ y:=λe1 e2 c q=>by subst q; rw [e1] at e2; cases e2; exact c rfl
 have cz:∀ {s t:String},s ≠ t->Value.type s ≠ Value.type t:=λn q=>n (by cases q; rfl)
 refine ⟨kk h2 h1 (cz (by decide)),kk h3 h1 (cz (by decide)),kk h4 h1 ?_,kk h5 h1 ?_,n,kk h2 h4 ?_,kk h2 h5 ?_,kk h3 h4 ?_,kk h3 h5 ?_,m,kk h6 h1 ?_,kk h6 h3 ?_,kk h6 h4 ?_,kk h6 h5 ?_,kk h7 h1 ?_,kk h7 h3 ?_,kk h7 h4 ?_,kk h7 h5 ?_⟩
 all_goals first | (rw [c4]; exact cz (by decide)) | (rw [c5]; exact cz (by decide)) | (rw [c6]; exact cz (by decide)) | (rw [c7]; exact cz (by decide)) | (rw [c6,c4]; exact cz (by decide)) | (rw [c6,c5]; exact cz (by decide)) | (rw [c7,c4]; exact cz (by decide)) | (rw [c7,c5]; exact cz (by decide))
theorem rY {P:Program} {w:World} {K:PySem.W.Frag} {ts:List Expr} {q:Nat} {tp:Pos} (a b z TI TO i1 i2:Addr) (nT:TI ≠ TO) (nI:i1 ≠ i2) :
   Turn P w K false (.Tuple ts q tp) (Itz K a b) [z,TI,TO,i1,i2] z (zSt a b z TI TO i1 i2) where
 mem:=by simp
 obj:=λi h st c hb=>by
   obtain ⟨h1,h2,⟨u,v,h3⟩,⟨o4,h4,c4,d4⟩,⟨o5,h5,c5,d5⟩⟩:=st
   simp only [List.mem_cons,List.not_mem_nil,or_false] at hb
   rcases hb with rfl | rfl | rfl | rfl | rfl
   · exact ⟨_,h1,λv z=>nomatch z⟩
   · exact ⟨_,h2,λv z=>nomatch z⟩
   · exact ⟨_,h3,λv z=>nomatch z⟩
   · exact ⟨_,h4,λv z=>by rw [d4] at z; cases z⟩
   · exact ⟨_,h5,λv z=>by rw [d5] at z; cases z⟩
 keep:=λi h h' st k=>by
   obtain ⟨h1,h2,⟨u,v,h3⟩,⟨o4,h4,c4,d4⟩,⟨o5,h5,c5,d5⟩⟩:=st
   exact ⟨k z (by simp) _ h1,k TI (by simp) _ h2,⟨u,v,k TO (by simp) _ h3⟩,⟨o4,k i1 (by simp) _ h4,c4,d4⟩,⟨o5,k i2 (by simp) _ h5,c5,d5⟩⟩
 item:=by
   intro X hP hw hK hc i pins s σ H E I hf st hg
   subst hP hw hK
   obtain ⟨xs,ys,x,y,hq1,hq2,hx,hy⟩:=hg
   obtain ⟨its1,rv1,p1,hz1⟩:=I.list hq1
   obtain ⟨its2,rv2,p2,hz2⟩:=I.list hq2
   obtain ⟨u1,hu1,ru1⟩:=rv1.get hx
   obtain ⟨u2,hu2,ru2⟩:=rv2.get hy
   have D:=kL nT nI st p1.isList p2.isList
   obtain ⟨h1,h2,⟨u,v,h3⟩,h4,h5⟩:=st
   refine wpAny_pyNext_zip_item D h1 h2 h3 h4 h5 p1.isList p2.isList (x:=u1) (y:=u2) (by simpa using hu1) (by simpa using hu2) λh' g1 g2 g3 g4 g5 g6 g7=>⟨_,rfl,?_⟩
   refine wpAny_letOwnedTupleGo_zip (s:={ s with heap:=h' }) g1 λh2' k1 k2=>?_
   have hn:H s.heap.objs.size=none:=I.hok.fresh (Nat.le_refl _)
   have le1:z < s.heap.objs.size:=Heap.lt_size h1
   have lt2:TI < s.heap.objs.size:=Heap.lt_size h2
   have lt3:TO < s.heap.objs.size:=Heap.lt_size h3
   have lt4:i1 < s.heap.objs.size:=by obtain ⟨o,z,_⟩:=h4; exact Heap.lt_size z
   have lt5:i2 < s.heap.objs.size:=by obtain ⟨o,z,_⟩:=h5; exact Heap.lt_size z
   have kp:∀ c o,c ≠ z->c ≠ TO->c ≠ i1->c ≠ i2->s.heap.get? c=some o->h2'.get? c=some o:=λc o b1 b2 b3 b4 e=>(k2.2 c b1).trans (g7 c o b1 b2 b3 b4 e)
   have nt:IsPair h2' s.heap.objs.size u1 u2:=(k2.2 _ (Nat.ne_of_gt le1)).trans g5
   have ne:∀ c,c ∈ [z,TI,TO,i1,i2]->∀ d v,H d=some v->d ≠ c:=λc hc d v e q=>by
     have:=(hf c hc).1
     rw [q,this] at e; cases e
   have hok0:HOk X.prog X.w H h2':=λd v e=>(I.hok d v e).ju (λc v' hc' q=>kp c v'
       (by rcases hc' with hc' | hc'
           · rw [hc']; exact ne z (by simp) d v e
           · exact ne z (by simp) c _ hc')
       (by rcases hc' with hc' | hc'
           · rw [hc']; exact ne TO (by simp) d v e
           · exact ne TO (by simp) c _ hc')
       (by rcases hc' with hc' | hc'
           · rw [hc']; exact ne i1 (by simp) d v e
           · exact ne i1 (by simp) c _ hc')
       (by rcases hc' with hc' | hc'
           · rw [hc']; exact ne i2 (by simp) d v e
           · exact ne i2 (by simp) c _ hc') q) (λ_ q=>q) λ_ _ q=>q
   have hok1:HOk X.prog X.w (upd H s.heap.objs.size (.tup [x,y])) h2':=λd v e=>by
     by_cases hb:d=s.heap.objs.size
     · subst hb
       rw [aT] at e; cases e
       exact ⟨(by show 2<=sizeLine; decide),[u1,u2],.cons ru1 (.cons ru2 .nil),_,nt,rfl,_,rfl⟩
     · rw [aK hb] at e
       exact (hok0 d v e).ju (λc v' _ q=>q) (λc q=>by rw [aK (aU q hn)]; exact q) λc ys q=>by rw [aK (aU q hn)]; exact q
   have I1:Inv X pins σ (upd H s.heap.objs.size (.tup [x,y])) { s with heap:=h2' }:=by
     refine I.step (t':=s.toks) (g':=s.gens) (d':=s.drawn) (ch:=[z,TO,i1,i2]) (λc hb=>?_) (λc o _ _ hc' e _=>kp c o (λq=>hc' (by simp [q])) (λq=>hc' (by simp [q])) (λq=>hc' (by simp [q])) (λq=>hc' (by simp [q])) e)
       (λc o _ _ hc' e _=>⟨o.slots,kp c o (λq=>hc' (by simp [q])) (λq=>hc' (by simp [q])) (λq=>hc' (by simp [q])) (λq=>hc' (by simp [q])) e⟩)
       (λc o hc' e n=>by rw [aK (Nat.ne_of_lt (Heap.lt_size e))]; exact n) (λc o hc' e=>⟨o,kp c o (λq=>hc' (by simp [q])) (λq=>hc' (by simp [q])) (λq=>hc' (by simp [q])) (λq=>hc' (by simp [q])) e⟩)
       (λc ys e=>by rw [aK (aU e hn)]; exact e) (λc o u e=>by rw [aK (aU e hn)]; exact e) (λc ps e=>⟨#[],by rw [aK (aU e hn),e]; simp⟩) (λm hm=>?_) hok1 I.bare
     · have hb':c ∈ [z,TI,TO,i1,i2]:=by
         simp only [List.mem_cons,List.not_mem_nil,or_false] at hb ⊢
         rcases hb with h | h | h | h <;> simp [h]
       have fe:=hf c hb'
       exact ⟨fe.2.2.2.1,fe.2.1,fe.2.2.2.2.1,fe.2.2.2.2.2⟩
     · obtain ⟨o,es,ep,ho,r⟩:=hm
       exact ⟨o,es,ep,kp _ o (Ne.symm (hf z (by simp)).2.1) (Ne.symm (hf TO (by simp)).2.1) (Ne.symm (hf i1 (by simp)).2.1) (Ne.symm (hf i2 (by simp)).2.1) ho,r⟩
   refine ⟨.ref s.heap.objs.size,_,I1,rfl,⟨s.heap.objs.size,x,y,hn,rfl,rfl,λzs hy'=>by rw [I.fh hy' hq1]; exact hx,λzs hy'=>by rw [I.fh hy' hq2]; exact hy⟩,⟨k1,?_,⟨u1,u2,(k2.2 TO D.TOz).trans g2⟩,?_,?_⟩,λc hb=>?_⟩
   · exact kp TI _ D.TIz D.TITO D.TIi1 D.TIi2 h2
   · obtain ⟨o,z1,z2,z3⟩:=g3
     exact ⟨o,(k2.2 i1 D.i1z).trans z1,z2,z3⟩
   · obtain ⟨o,z1,z2,z3⟩:=g4
     exact ⟨o,(k2.2 i2 D.i2z).trans z1,z2,z3⟩
   · have fc:=(hf c hb).1
     have lt:c < s.heap.objs.size:=by
       simp only [List.mem_cons,List.not_mem_nil,or_false] at hb
       rcases hb with rfl | rfl | rfl | rfl | rfl <;> assumption
     rw [aK (Nat.ne_of_lt lt)]
     exact fc
 done:=by
   intro X hP hw hK hc i pins s σ H E I hf st hg
   subst hP hw hK
   obtain ⟨xs,ys,hq1,hq2,hx⟩:=hg
   obtain ⟨its1,rv1,p1,hz1⟩:=I.list hq1
   obtain ⟨its2,rv2,p2,hz2⟩:=I.list hq2
   have D:=kL nT nI st p1.isList p2.isList
   obtain ⟨h1,h2,⟨u,v,h3⟩,h4,h5⟩:=st
   have hl1:=rv1.length
   have hl2:=rv2.length
   refine wpAny_pyNext_zip_end (I.ok.hd hc.calm) D h1 h2 h3 h4 h5 p1.isList p2.isList (by
     rcases hx with hx | hx
     · left; simp; omega
     · right; simp; omega) λh' eb=>⟨rfl,?_⟩
   have ne:∀ c,c ∈ [z,TI,TO,i1,i2]->∀ d v,H d=some v->d ≠ c:=λc hc d v e q=>by
     have:=(hf c hc).1
     rw [q,this] at e; cases e
   have hok0:HOk X.prog X.w H h':=λd v e=>(I.hok d v e).ju (λc v' hc' q=>eb c v'
       (by rcases hc' with hc' | hc'
           · rw [hc']; exact ne z (by simp) d v e
           · exact ne z (by simp) c _ hc')
       (by rcases hc' with hc' | hc'
           · rw [hc']; exact ne TO (by simp) d v e
           · exact ne TO (by simp) c _ hc')
       (by rcases hc' with hc' | hc'
           · rw [hc']; exact ne i1 (by simp) d v e
           · exact ne i1 (by simp) c _ hc')
       (by rcases hc' with hc' | hc'
           · rw [hc']; exact ne i2 (by simp) d v e
           · exact ne i2 (by simp) c _ hc') q) (λ_ q=>q) λ_ _ q=>q
   refine I.step (t':=s.toks) (g':=s.gens) (d':=s.drawn) (ch:=[z,TO,i1,i2]) (λc hb=>?_) (λc o _ _ hc' e _=>eb c o (λq=>hc' (by simp [q])) (λq=>hc' (by simp [q])) (λq=>hc' (by simp [q])) (λq=>hc' (by simp [q])) e)
       (λc o _ _ hc' e _=>⟨o.slots,eb c o (λq=>hc' (by simp [q])) (λq=>hc' (by simp [q])) (λq=>hc' (by simp [q])) (λq=>hc' (by simp [q])) e⟩)
       (λc o hc' e n=>n) (λc o hc' e=>⟨o,eb c o (λq=>hc' (by simp [q])) (λq=>hc' (by simp [q])) (λq=>hc' (by simp [q])) (λq=>hc' (by simp [q])) e⟩)
       (λc ys e=>e) (λc o u e=>e) (λc ps e=>⟨#[],by rw [e]; simp⟩) (λm hm=>?_) hok0 I.bare
   · have hb':c ∈ [z,TI,TO,i1,i2]:=by
       simp only [List.mem_cons,List.not_mem_nil,or_false] at hb ⊢
       rcases hb with h | h | h | h <;> simp [h]
     have fe:=hf c hb'
     exact ⟨fe.2.2.2.1,fe.2.1,fe.2.2.2.2.1,fe.2.2.2.2.2⟩
   · obtain ⟨o,es,ep,ho,r⟩:=hm
     exact ⟨o,es,ep,eb _ o (Ne.symm (hf z (by simp)).2.1) (Ne.symm (hf TO (by simp)).2.1) (Ne.symm (hf i1 (by simp)).2.1) (Ne.symm (hf i2 (by simp)).2.1) ho,r⟩
 self:=λ_ _ _ _ _ st h=>wpAny_pyIter_zip st.1 h
section
variable {X:Cx}
noncomputable def yf (K:PySem.W.Frag) (ta:TA):TI:=λσ H R=>ta σ H λvs H1=>∃ a b,vs=[.ref a,.ref b]/\(∃ xs,SqL K H1 a xs)/\(∃ ys,SqL K H1 b ys)/\R (Itz K a b) H1
theorem nR {ts:List Expr} {q:Nat} {tp:Pos} {a b:Expr} {ta:TA} {p pos:Pos} (hc:X.calm=true) (hg:Gl X "zip") (hm:X.mg "zip" = none) (ha:PA X [a,b] ta) (hs:starEach [a,b] X.env=(false,eval a X.env) :: starEach [b] X.env) (hs2:starEach [b] X.env=[(false,eval b X.env)]) :
   PI X (.Tuple ts q tp) (.Call (.Name "zip" p) [a,b] [] pos) (yf X.K ta):=by
 intro pins s σ H R I h
 refine Call_ (ee I hg hm boot_zip (PyProof.Rows.callWith_type1 (thn (ha pos pins s σ H _ I h) λus s1 ⟨vs,H1,I1,r1,q1⟩=>?_) hs (by rw [hs2]; rfl)))
 obtain ⟨l,l',e,⟨xs,hq1⟩,⟨ys,hq2⟩,q⟩:=q1
 subst e
 obtain ⟨u,u',rfl,ru,ru'⟩:=vals2 r1
 cases ru
 cases ru'
 obtain ⟨its1,rv1,pl1,hz1⟩:=I1.list hq1
 obtain ⟨its2,rv2,pl2,hz2⟩:=I1.list hq2
 refine call_zip_2 pl1.isList pl2.isList λh' g1 g2 g3 g4 g5 g6 g7=>?_
 refine wpAny_pyIter_zip (s:={ s1 with heap:=h' }) g1 ?_
 have I2:Inv X pins σ H1 { s1 with heap:=h' }:=I1.kept (t':=s1.toks) g7
 have nn:∀ j,H1 (s1.heap.objs.size + j)=none:=λj=>I1.hok.fresh (by omega)
 refine ⟨false,s1.heap.objs.size + 4,[s1.heap.objs.size + 4,s1.heap.objs.size + 2,s1.heap.objs.size + 3,s1.heap.objs.size,s1.heap.objs.size + 1],_,_,H1,rfl,I2,.inl hc,rY l l' (s1.heap.objs.size + 4) (s1.heap.objs.size + 2) (s1.heap.objs.size + 3) s1.heap.objs.size (s1.heap.objs.size + 1) (by simp) (Ne.symm (Nat.succ_ne_self _)),⟨g1,g2,⟨_,_,g3⟩,g4,g5⟩,λc hb=>?_,q⟩
 have hb':∃ j,c=s1.heap.objs.size + j:=by
   simp only [List.mem_cons,List.not_mem_nil,or_false] at hb
   rcases hb with h | h | h | h | h
   · exact ⟨_,h⟩
   · exact ⟨_,h⟩
   · exact ⟨_,h⟩
   · exact ⟨0,h⟩
   · exact ⟨_,h⟩
 obtain ⟨j,rfl⟩:=hb'
 exact I1.jV (Nat.le_add_right _ _) (nn j)
end
noncomputable def Itv (K:PySem.W.Frag) (a:Addr) (n:Nat):L2.It:=
 ⟨λi H=>i < n/\∃ xs x,SqL K H a xs/\xs[n - 1 - i]?=some x,λi H x H'=>H'=H/\∀ xs,SqL K H a xs->xs[n - 1 - i]?=some x,λi _=>n<=i⟩
theorem tW {P:Program} {w:World} {K:PySem.W.Frag} {tg:Expr} (a it:Addr) (n:Nat) :
   Turn P w K false tg (Itv K a n) [it] it (λi h=>i<=n/\h.IsRevIter it a ((n:Int) - 1 - (i:Int))) where
 mem:=by simp
 obj:=λi h st b hb=>by
   have e:b=it:=by simpa using hb
   subst e
   obtain ⟨o,e,c,d⟩:=st.2
   exact ⟨o,e,λv z=>by rw [d] at z; cases z⟩
 keep:=λi h h' st k=>⟨st.1,st.2.at λo e=>k it (by simp) o e⟩
 item:=by
   intro X hP hw hK hc i pins s σ H E I hf st hg
   subst hP hw hK
   obtain ⟨hi,xs,x,hq,hx⟩:=hg
   obtain ⟨its,rv,p,hz⟩:=I.list hq
   obtain ⟨u,hu,ru⟩:=rv.get hx
   obtain ⟨f0,f1,f2,f3,f4,f5⟩:=hf it (by simp)
   have st2:=st.2
   rw [show (n:Int) - 1 - (i:Int)=((n - 1 - i:Nat):Int) by omega] at st2
   refine wpAny_pyNext_rev_item st2 p.isList (x:=u) (by simpa using hu) λh' st' sb=>?_
   have I1:Inv X pins σ H { s with heap:=h' }:=I.turned (t':=s.toks) (λb o hb e=>(sb.2 b hb).trans e) f0 f1 f3 f4 f5
   obtain ⟨o,e,c,d⟩:=id st'
   refine ⟨u,rfl,kA (s:={ s with heap:=h' }) e c d (by decide) ⟨x,H,I1,ru,⟨rfl,λys hy=>by rw [I.fh hy hq]; exact hx⟩,⟨hi,?_⟩,λb hb=>(hf b hb).1⟩⟩
   rw [show (n:Int) - 1 - ((i + 1:Nat):Int)=((n - 1 - i:Nat):Int) - 1 by omega]
   exact st'
 done:=by
   intro X hP hw hK hc i pins s σ H E I hf st hg
   subst hP hw hK
   obtain ⟨f0,f1,f2,f3,f4,f5⟩:=hf it (by simp)
   have st2:=st.2
   have hg:n<=i:=hg
   rw [show (n:Int) - 1 - (i:Int)=-1 by have:=st.1; omega] at st2
   exact wpAny_pyNext_rev_end (I.ok.hd hc.calm) st2 λh' eb=>⟨rfl,I.turned (t':=s.toks) (λb o hb e=>eb b o hb e) f0 f1 f3 f4 f5⟩
 self:=λ_ _ _ _ _ st h=>wpAny_pyIter_revIter st.2 h
section
variable {X:Cx} {tg:Expr}
noncomputable def yZ (K:PySem.W.Frag) (ta:TA):TI:=λσ H R=>ta σ H λvs H1=>∃ a xs,vs=[.ref a]/\SqL K H1 a xs/\R (Itv K a xs.length) H1
theorem uv:bootBuiltins "reversed" = some (.type "reversed"):=by decide +kernel
theorem nV {a:Expr} {ta:TA} {p pos:Pos} (hc:X.calm=true) (hg:Gl X "reversed") (hm:X.mg "reversed" = none) (ha:PA X [a] ta) (hs:starEach [a] X.env=[(false,eval a X.env)]):PI X tg (.Call (.Name "reversed" p) [a] [] pos) (yZ X.K ta):=by
 intro pins s σ H R I h
 refine Call_ (ee I hg hm uv (PyProof.Rows.callWith_type1 (thn (ha pos pins s σ H _ I h) λus s1 ⟨vs,H1,I1,r1,q1⟩=>?_) hs rfl))
 obtain ⟨l,xs,e,hq,q⟩:=q1
 subst e
 obtain ⟨u,rfl,ru⟩:=vals1 r1
 cases ru
 obtain ⟨its,rv,pl,hz⟩:=I1.list hq
 have hl:=rv.length
 refine call_reversed_list pl.isList ?_
 have st:({ s1 with heap:=s1.heap.push (revObj l ((its.toArray.size:Int) - 1)) }:Shared).heap.IsRevIter s1.heap.objs.size l ((its.toArray.size:Int) - 1):=⟨_,Heap.get?_push_size _ rfl,rfl,rfl⟩
 refine wpAny_pyIter_revIter st ?_
 refine ⟨false,s1.heap.objs.size,[s1.heap.objs.size],_,_,H1,rfl,I1.kept (t':=s1.toks) (λb o e=>Heap.get?_push_of_some _ e),.inl hc,tW l _ xs.length,⟨Nat.zero_le _,?_⟩,λb hb=>?_,q⟩
 · rw [show (xs.length:Int) - 1 - ((0:Nat):Int)=(its.toArray.size:Int) - 1 by rw [List.size_toArray,<- hl]; omega]
   exact st
 · have e:b=s1.heap.objs.size:=by simpa using hb
   subst e
   exact I1.jV (Nat.le_refl _) (I1.hok.fresh (Nat.le_refl _))
end
theorem t5:∀ (names:List (Str × NameKind)) (n:Nat) (acc:List (Str × Addr)) (x:Str) (c:Addr),(cellsFrom n names acc).lookup x=some c->n<=c\/acc.lookup x=some c
 | [],_,_,_,_,h=>.inr h
 | (y,k) :: r,n,acc,x,c,h=>by
   unfold cellsFrom at h
   split at h
   · rcases t5 r (n + 1) _ x c h with q | q
     · exact .inl (by omega)
     · rw [List.lookup_cons] at q
       split at q
       · cases q; exact .inl (Nat.le_refl _)
       · exact .inr q
   · exact t5 r n acc x c h
theorem jI:∀ (names:List (Str × NameKind)) (n:Nat) (acc:List (Str × Addr)) (x:Str),(x,NameKind.cell) ∉ names->(cellsFrom n names acc).lookup x=acc.lookup x
 | [],_,_,_,_=>rfl
 | (y,k) :: r,n,acc,x,h=>by
   have h1:(x,NameKind.cell) ∉ r:=λz=>h (List.mem_cons_of_mem _ z)
   unfold cellsFrom
   split
   · rename_i hk
     rw [jI r _ _ x h1,List.lookup_cons]
     have:(x == y)=false:=by
       rw [beq_eq_false_iff_ne]
       rintro rfl
       exact h (by rw [eq_of_beq hk]; exact List.mem_cons_self)
     rw [this]
   · exact jI r n acc x h1
theorem lr:∀ (names:List (Str × NameKind)) (n:Nat) (acc:List (Str × Addr)) (x:Str),(x,NameKind.cell) ∈ names->∃ c,(cellsFrom n names acc).lookup x=some c/\n<=c
 | (y,k) :: r,n,acc,x,h=>by
   unfold cellsFrom
   by_cases hr:(x,NameKind.cell) ∈ r
   · split
     · obtain ⟨c,e,l⟩:=lr r (n + 1) ((y,n) :: acc) x hr
       exact ⟨c,e,by omega⟩
     · exact lr r n acc x hr
   · rcases List.mem_cons.mp h with q | q
     · cases q
       rw [if_pos (by rfl),jI r _ _ _ hr]
       exact ⟨n,by simp [List.lookup_cons],Nat.le_refl _⟩
     · exact absurd q hr
theorem nK:∀ (names:List (Str × NameKind)) (n:Nat) (acc:List (Str × Addr)),(∀ x c,acc.lookup x=some c->c < n)->(∀ x y c,acc.lookup x=some c->acc.lookup y=some c->x=y) ->
   ∀ x y c,(cellsFrom n names acc).lookup x=some c->(cellsFrom n names acc).lookup y=some c->x=y
 | [],_,_,_,h=>h
 | (z,k) :: r,n,acc,hl,h=>by
   unfold cellsFrom
   split
   · refine nK r (n + 1) _ (λx c e=>?_) (λx y c e1 e2=>?_)
     · rw [List.lookup_cons] at e
       split at e
       · cases e; exact Nat.lt_succ_self _
       · exact Nat.lt_succ_of_lt (hl x c e)
     · rw [List.lookup_cons] at e1 e2
       split at e1
       · rename_i q1
         cases e1
         split at e2
         · rename_i q2
           exact (eq_of_beq q1).trans (eq_of_beq q2).symm
         · exact absurd (hl y _ e2) (Nat.lt_irrefl _)
       · split at e2
         · cases e2
           exact absurd (hl x _ e1) (Nat.lt_irrefl _)
         · exact h x y c e1 e2
   · exact nK r n acc hl h
theorem kU:∀ (names:List (Str × NameKind)) (h:Heap) (acc:List (Str × Addr)),(∀ x c,acc.lookup x=some c->∃ v,h.IsCell c v)->∀ x c,(cellsFrom h.objs.size names acc).lookup x=some c->∃ v,(pushCells h names).IsCell c v
 | [],_,_,ha,x,c,e=>ha x c e
 | (z,k) :: r,h,acc,ha,x,c,e=>by
   unfold cellsFrom at e
   unfold pushCells
   split at e
   · rename_i hk
     rw [if_pos hk]
     refine kU r _ ((z,h.objs.size) :: acc) (λy d q=>?_) x c (by rw [Heap.size_push]; exact e)
     rw [List.lookup_cons] at q
     split at q
     · cases q
       exact ⟨none,_,Heap.get?_push_size _ rfl,rfl⟩
     · obtain ⟨v,o,ho,hd⟩:=ha y d q
       exact ⟨v,o,Heap.get?_push_of_some _ ho,hd⟩
   · rename_i hk
     rw [if_neg hk]
     exact kU r h acc ha x c e
noncomputable def cC (env:PySem.Env):List (Str × NameKind)->List (Str × Addr)->List (Str × Addr)
 | [],acc=>acc
 | (n,k) :: r,acc=>if k == .free then (match env.cells.lookup n with | some c=>cC env r ((n,c) :: acc) | none=>cC env r acc) else cC env r acc
theorem js (env:PySem.Env):∀ (names:List (Str × NameKind)) (acc:List (Str × Addr)),(∀ x ∈ names,x.2=.free->∃ c,env.cells.lookup x.1=some c) ->
   (forIn (m:=Sem) names acc λx cs=>do
     let (name,kind):=x
     if kind == .free then do
       let c <- cellOf env name
       pure (ForInStep.yield ((name,c) :: cs))
     else pure (ForInStep.yield cs))=pure (cC env names acc)
 | [],acc,_=>rfl
 | (n,k) :: r,acc,h=>by
   rw [List.forIn_cons]
   unfold cC
   by_cases hk:(k == .free)=true
   · obtain ⟨c,hc⟩:=h (n,k) List.mem_cons_self (eq_of_beq hk)
     simp only [hk,if_true,cellOf,hc,pure_bind]
     exact js env r _ λx hx=>h x (List.mem_cons_of_mem _ hx)
   · simp only [hk,Bool.false_eq_true,if_false,pure_bind]
     exact js env r _ λx hx=>h x (List.mem_cons_of_mem _ hx)
theorem p8 {env:PySem.Env} {scope:Scope} (h:∀ x ∈ scope.names,x.2=.free->∃ c,env.cells.lookup x.1=some c):closureFor scope env=pure (cC env scope.names []):=by
 unfold closureFor
 have:=js env scope.names [] h
 simp only [bind_pure]
 exact this
theorem eo (env:PySem.Env):∀ (names:List (Str × NameKind)) (acc:List (Str × Addr)) (x:Str) (c:Addr),(∀ y d,acc.lookup y=some d->env.cells.lookup y=some d)->(cC env names acc).lookup x=some c->env.cells.lookup x=some c
 | [],_,x,c,ha,h=>ha x c h
 | (n,k) :: r,acc,x,c,ha,h=>by
   unfold cC at h
   split at h
   · split at h
     · rename_i c' hc
       refine eo env r _ x c (λy d q=>?_) h
       rw [List.lookup_cons] at q
       split at q
       · rename_i qq
         cases q
         rw [eq_of_beq qq]; exact hc
       · exact ha y d q
     · exact eo env r acc x c ha h
   · exact eo env r acc x c ha h
theorem cR (env:PySem.Env):∀ (names:List (Str × NameKind)) (acc:List (Str × Addr)) (x:Str) (c:Addr),(∀ y d,acc.lookup y=some d->env.cells.lookup y=some d)->env.cells.lookup x=some c->((x,NameKind.free) ∈ names\/acc.lookup x=some c)->(cC env names acc).lookup x=some c
 | [],_,x,c,_,_,h=>h.elim (λz=>absurd z (by simp)) id
 | (n,k) :: r,acc,x,c,ha,hc,h=>by
   unfold cC
   split
   · split
     · rename_i c' hc'
       refine cR env r _ x c (λy d q=>?_) hc ?_
       · rw [List.lookup_cons] at q
         split at q
         · rename_i qq
           cases q
           rw [eq_of_beq qq]; exact hc'
         · exact ha y d q
       · by_cases q:x=n
         · subst q
           rw [hc] at hc'; cases hc'
           exact .inr (by simp [List.lookup_cons])
         · rcases h with h | h
           · rcases List.mem_cons.mp h with z | z
             · cases z; exact absurd rfl q
             · exact .inl z
           · refine .inr ?_
             rw [List.lookup_cons,beq_eq_false_iff_ne.mpr q]
             exact h
     · rename_i hc'
       refine cR env r acc x c ha hc ?_
       rcases h with h | h
       · rcases List.mem_cons.mp h with z | z
         · cases z; rw [hc] at hc'; cases hc'
         · exact .inl z
       · exact .inr h
   · rename_i hk
     refine cR env r acc x c ha hc ?_
     rcases h with h | h
     · rcases List.mem_cons.mp h with z | z
       · cases z; exact absurd rfl hk
       · exact .inl z
     · exact .inr h
theorem kG {M:Model} {A:Around} {E:Value->Shared->Prop} {s:Shared} {scope:Scope} {cl:List (Str × Addr)} {env:PySem.Env} {Q:PySem.Env->Shared->Prop}
   (h:Q (newEnv scope s.heap.objs.size env.globals (cellsFrom (s.heap.objs.size + 1) scope.names cl) env.qual none .none (some env) builtinsNs) { s with heap:=pushCells (s.heap.push { cls:=.type "dict",data:=.dict #[] }) scope.names }) :
   wpAny M A (newFunctionEnv scope env.globals cl [] env.qual none .none (some env)) Q E s:=by
 simp only [newFunctionEnv,Option.isSome_some,if_true]
 refine wpAny_bind (wpAny_alloc ?_)
 refine wpAny_bind (wpAny_layCells _ (λname kind cells=>by cases hkc:kind == NameKind.cell <;> simp [hkc]) _ _ _ _ ?_)
 rw [show ({ s with heap:=s.heap.push { cls:=.type "dict",data:=.dict #[] } }:Shared).heap.objs.size=s.heap.objs.size + 1 from Heap.size_push ..]
 exact wpAny_bind (wpAny_pure (wpAny_pure h))
noncomputable def aR (X:Cx) (s:Shared) (H:Hp) (scope:Scope) (N:List Str) (fp:List Addr):Cx:=
 { prog:=X.prog,w:=X.w,K:=X.K,mg:=X.mg,base:=X.base,A:=X.A,N:=N,s₀:=s,H₀:=H
   env:=compEnvC scope (cellsFrom (s.heap.objs.size + 1 + 1) scope.names (cC X.env scope.names [])) (s.heap.objs.size + 1) X.env
   outer:=X.stack,stack:=X.stack,ex:=fp,fn:=λx=>decide ((x,NameKind.cell) ∈ scope.names),calm:=X.calm,pn:=[],xe:=λ_ _=>False }
noncomputable def gu (σ:L2.St) (caps:List (Option Nat)):L2.St:=caps.map λo=>o.bind λi=>(σ[i]?).join
structure dF (X:Cx) (scope:Scope) (N:List Str) (caps:List (Option Nat)):Prop where
 kind:scope.kind=.function
 loc:∀ x ∈ scope.names,x.2=.local->scope.names.lookup x.1=some .local
 fre:∀ x ∈ scope.names,x.2=.free->X.env.kindOf x.1=some .cell
 one:∀ x,(x,NameKind.free) ∈ scope.names->(x,NameKind.cell) ∉ scope.names
 noboth:∀ x,(x,NameKind.free) ∈ scope.names->(x,NameKind.local) ∉ scope.names
 len:N.length=caps.length + 1
 cap:∀ (j i:Nat),caps[j]?=some (some i)->∃ x,N[j]?=some x/\X.N[i]?=some x/\(x,NameKind.free) ∈ scope.names
 acc:∃ z,N[caps.length]?=some z/\¬ Vis (relabel scope X.env) z
section
variable {X:Cx} {pins:List (Addr × Obj)} {σ:L2.St} {H:Hp} {s:Shared} {scope:Scope} {N:List Str} {caps:List (Option Nat)} {fp:List Addr}
theorem eA {env:PySem.Env} {x:Str} {names:List (Str × NameKind)} (h:∀ y,(y,NameKind.free) ∈ names->env.kindOf y=some .cell) (hk:env.scope.kind=.function) {k:NameKind}
   (e:(names.map λ(n,k)=>if (k == NameKind.free && env.scope.kind == .function && env.kindOf n == some .cell) then (n,NameKind.cell) else (n,k)).lookup x=some k) :
   (x,k) ∈ names\/((x,NameKind.free) ∈ names/\k=.cell):=by
 induction names with
 | nil=>cases e
 | cons p r ih=>
   obtain ⟨n,q⟩:=p
   rw [List.map_cons] at e
   have hr:∀ y,(y,NameKind.free) ∈ r->env.kindOf y=some .cell:=λy hy=>h y (List.mem_cons_of_mem _ hy)
   have sub:((x,k) ∈ r\/((x,NameKind.free) ∈ r/\k=.cell))->(x,k) ∈ (n,q) :: r\/((x,NameKind.free) ∈ (n,q) :: r/\k=.cell):=λz=>
     z.elim (λy=>.inl (List.mem_cons_of_mem _ y)) λy=>.inr ⟨List.mem_cons_of_mem _ y.1,y.2⟩
   dsimp only at e
   split at e
   · rename_i c
     rw [List.lookup_cons] at e
     split at e
     · rename_i qq
       cases e
       rw [Bool.and_eq_true,Bool.and_eq_true] at c
       rw [eq_of_beq qq,eq_of_beq c.1.1]
       exact .inr ⟨List.mem_cons_self,rfl⟩
     · exact sub (ih hr e)
   · rename_i c
     rw [List.lookup_cons] at e
     split at e
     · rename_i qq
       cases e
       rw [eq_of_beq qq]
       exact .inl List.mem_cons_self
     · exact sub (ih hr e)
theorem gm (I:Inv X pins σ H s) (c:dF X scope N caps):∀ x ∈ scope.names,x.2=.free->∃ d,X.env.cells.lookup x.1=some d:=λx hx hf=>I.ok.has x.1 (.inl (c.fre x hx hf))
theorem mf (I:Inv X pins σ H s) (hf:∀ b ∈ fp,j9 X pins H b) (ho:∀ b ∈ fp,∃ o,s.heap.get? b=some o) (c:dF X scope N caps) :
   Inv (aR X s H scope N fp) [] (gu σ caps++[some (.ref s.heap.objs.size)]) (upd H s.heap.objs.size (.lst []))
     { s with heap:=pushCells ((s.heap.push { cls:=.type "list",data:=.seq ([]:List Value).toArray }).push { cls:=.type "dict",data:=.dict #[] }) scope.names }:=by
 have hcl:∀ x d,(cC X.env scope.names []).lookup x=some d->X.env.cells.lookup x=some d:=λx d=>eo X.env scope.names [] x d (λy d z=>by simp at z)
 have kp:∀ b o,s.heap.get? b=some o->(pushCells ((s.heap.push { cls:=.type "list",data:=.seq ([]:List Value).toArray }).push { cls:=.type "dict",data:=.dict #[] }) scope.names).get? b=some o:=λb o e=>
   pushCells_keeps _ _ b o (Heap.get?_push_of_some _ (Heap.get?_push_of_some _ e))
 have sz2:((s.heap.push { cls:=.type "list",data:=.seq ([]:List Value).toArray }).push { cls:=.type "dict",data:=.dict #[] }).objs.size=s.heap.objs.size + 1 + 1:=by rw [Heap.size_push,Heap.size_push]
 have oldc:∀ x d,X.env.cells.lookup x=some d->d < s.heap.objs.size:=λx d e=>by
   obtain ⟨v,o,q,_⟩:=I.cell x d e
   exact Heap.lt_size q
 have cel:∀ x d,(aR X s H scope N fp).env.cells.lookup x=some d->s.heap.objs.size + 1 + 1<=d\/X.env.cells.lookup x=some d:=λx d e=>by
   rcases t5 _ _ _ x d e with q | q
   · exact .inl q
   · exact .inr (hcl x d q)
 have ok:(aR X s H scope N fp).Ok:=by
   refine ⟨I.ok.mod,c.kind,I.ok.glob,I.ok.blt,Nat.le_succ _,?_,?_,?_,I.ok.hd,I.ok.frames,.inl rfl,?_,I.bs,Nat.le_trans I.ok.bsz I.sz,?_,?_,I.stack,I.oO⟩
   · exact nK _ _ _ (λx d e=>Nat.lt_of_lt_of_le (oldc x d (hcl x d e)) (by omega)) λx y d e1 e2=>I.ok.inj x y d (hcl x d e1) (hcl y d e2)
   · intro x hx
     have hfk:∀ y,(y,NameKind.free) ∈ scope.names->X.env.kindOf y=some .cell:=λy hy=>c.fre _ hy rfl
     have fre:(x,NameKind.free) ∈ scope.names->∃ d,(aR X s H scope N fp).env.cells.lookup x=some d:=λhm=>by
       obtain ⟨d,hd⟩:=gm I c _ hm rfl
       exact ⟨d,by
         show (cellsFrom _ scope.names _).lookup x=_
         rw [jI _ _ _ x (c.one x hm)]
         exact cR X.env scope.names [] x d (λy e z=>by simp at z) hd (.inl hm)⟩
     have own:(x,NameKind.cell) ∈ scope.names->∃ d,(aR X s H scope N fp).env.cells.lookup x=some d:=λhm=>by
       obtain ⟨d,e,_⟩:=lr scope.names (s.heap.objs.size + 1 + 1) (cC X.env scope.names []) x hm
       exact ⟨d,e⟩
     rcases hx with hx | hx
     · rcases eA hfk I.ok.kind (show (scope.names.map _).lookup x=some .cell from hx) with q | q
       · exact own q
       · exact fre q.1
     · rcases eA hfk I.ok.kind (show (scope.names.map _).lookup x=some .free from hx) with q | q
       · exact fre q
       · exact fre q.1
   · intro x d hfn e
     have hm:(x,NameKind.cell) ∈ scope.names:=of_decide_eq_true hfn
     obtain ⟨d',e',l⟩:=lr scope.names (s.heap.objs.size + 1 + 1) (cC X.env scope.names []) x hm
     have e2:(cellsFrom (s.heap.objs.size + 1 + 1) scope.names (cC X.env scope.names [])).lookup x=some d:=e
     rw [e'] at e2; cases e2
     exact Nat.le_trans (Nat.le_trans (Nat.le_succ _) (Nat.le_succ _)) l
   · intro b hb
     obtain ⟨o,q⟩:=ho b hb
     have bl:=Heap.lt_size q
     refine ⟨λz=>?_,λx d e z=>?_⟩
     · have z':b=s.heap.objs.size + 1:=z
       rw [z'] at bl
       exact absurd bl (Nat.not_lt.mpr (Nat.le_succ _))
     · subst z
       rcases cel x d e with q | q
       · exact absurd (Nat.lt_of_lt_of_le bl (Nat.le_trans (Nat.le_trans (Nat.le_succ _) (Nat.le_succ _)) q)) (Nat.lt_irrefl _)
       · exact (hf d hb).2.2.2.2.1 x d q rfl
   · intro b o e hb
     rcases (hf b hb).2.2.2.1 with q | q
     · exact I.ok.noex b o e q
     · have:=Nat.lt_of_lt_of_le (Heap.lt_size e) I.ok.bsz
       exact absurd (Nat.lt_of_lt_of_le this q) (Nat.lt_irrefl _)
   · intro b hb hm
     rcases List.mem_cons.mp (I.oe b hm) with q | q
     · exact (hf b hb).2.1 q
     · exact (hf b hb).2.2.1 q
 have hD:(pushCells ((s.heap.push { cls:=.type "list",data:=.seq ([]:List Value).toArray }).push { cls:=.type "dict",data:=.dict #[] }) scope.names).get? s.heap.objs.size=some { cls:=.type "list",data:=.seq ([]:List Value).toArray }:=
   pushCells_keeps _ _ _ _ (Heap.get?_push_of_some _ (Heap.get?_push_size _ rfl))
 have fr:∀ a,s.heap.objs.size<=a->a ≠ s.heap.objs.size->(upd H s.heap.objs.size (.lst [])) a=none:=λa h1 h2=>by rw [aK h2]; exact I.hok.fresh h1
 refine ⟨ok,rfl,I.bare,Un.laid kp (Nat.le_refl _) (I.hok.fresh (Nat.le_refl _)),⟨λ_=>none,?_,λi x v e1 e2 e3=>?_⟩,λx d e=>?_,?_,λx d e=>?_,λp hp=>absurd (show p ∈ ([]:List (Addr × Obj)) from hp) (by simp),?_,?_⟩
 · have:=Heap.Ns.new (s.heap.push { cls:=.type "list",data:=.seq ([]:List Value).toArray }) (.type "dict")
   rw [Heap.size_push] at this
   exact this.keeps (pushCells_keeps _ _)
 · by_cases hi:i < caps.length
   · rw [List.getElem?_append_left (by unfold gu; rw [List.length_map]; exact hi)] at e2
     unfold gu at e2
     rw [List.getElem?_map] at e2
     cases hc:caps[i]? with
     | none=>rw [hc] at e2; cases e2
     | some o=>
       rw [hc] at e2
       cases o with
       | none=>cases e2
       | some j=>
         have e2':(σ[j]?).join=some v:=Option.some.inj e2
         have e4:σ[j]?=some (some v):=by
           cases q:σ[j]? with
           | none=>rw [q] at e2'; cases e2'
           | some y=>rw [q] at e2'; exact congrArg some e2'
         obtain ⟨x',g1,g2,g3⟩:=c.cap i j hc
         rw [show (aR X s H scope N fp).N=N from rfl,g1] at e1
         cases e1
         have hkc:=c.fre _ g3 rfl
         obtain ⟨m,_,hl⟩:=I.loc
         obtain ⟨u,ru,look⟩:=hl j x v g2 e4 (.inr (.inl hkc))
         refine ⟨u,ru,?_⟩
         rcases look with ⟨k,_⟩ | ⟨k,d,hd,hcell⟩
         · rw [hkc] at k; cases k
         · have e5:(aR X s H scope N fp).env.cells.lookup x=some d:=by
             show (cellsFrom _ scope.names _).lookup x=_
             rw [jI _ _ _ x (c.one x g3)]
             exact cR X.env scope.names [] x d (λy e z=>by simp at z) hd (.inl g3)
           have hcell':Heap.IsCell (pushCells ((s.heap.push { cls:=.type "list",data:=.seq ([]:List Value).toArray }).push { cls:=.type "dict",data:=.dict #[] }) scope.names) d (some u):=by
             obtain ⟨o,q1,q2⟩:=hcell
             exact ⟨o,kp _ _ q1,q2⟩
           refine .inr ⟨?_,d,e5,hcell'⟩
           rcases e3 with e3 | e3 | e3
           · exfalso
             rcases eA (λy hy=>c.fre _ hy rfl) I.ok.kind (show (scope.names.map _).lookup x=some .local from e3) with q | q
             · have q1:=c.loc _ q rfl
               exact c.noboth x g3 q
             · cases q.2
           · exact .inl e3
           · exact .inr e3
   · exfalso
     obtain ⟨z,z1,z2⟩:=c.acc
     have hl:i < N.length:=(List.getElem?_eq_some_iff.mp e1).1
     have:i=caps.length:=by have:=c.len; omega
     subst this
     rw [show (aR X s H scope N fp).N=N from rfl,z1] at e1
     cases e1
     exact z2 e3
 · rw [show (aR X s H scope N fp).env.cells=cellsFrom (s.heap.objs.size + 1 + 1) scope.names (cC X.env scope.names []) from rfl,<- sz2] at e
   refine kU scope.names _ _ (λy d' q=>?_) x d e
   obtain ⟨v,o,q1,q2⟩:=I.cell y d' (hcl y d' q)
   exact ⟨v,o,Heap.get?_push_of_some _ (Heap.get?_push_of_some _ q1),q2⟩
 · exact fr _ (Nat.le_succ _) (Nat.succ_ne_self _)
 · rcases cel x d e with q | q
   · exact fr d (by omega) (by intro z; omega)
   · rw [aK (Nat.ne_of_lt (oldc x d q))]; exact I.freeC x d q
 · exact I.hok.laid kp (Nat.le_refl _) ⟨Nat.zero_le _,[],0,.nil,hD⟩
 · rw [List.length_append]
   unfold gu
   rw [List.length_map,show (aR X s H scope N fp).N=N from rfl,c.len]
   rfl
end
noncomputable def PTs (X:Cx) (ifs:List Expr) (t:TT):Prop:=
 ∀ (pins:List (Addr × Obj)) (s:Shared) (σ:L2.St) (H:Hp) (Q:Bool->Hp->Prop),Inv X pins σ H s->t σ H Q ->
   wpAny (model X.prog X.w) X.A (forIn ifs true λc r=>if r=true then do let ok <- isTrue c X.env (eval c X.env); pure (ForInStep.yield ok) else pure (ForInStep.yield r)) (TP X pins σ Q) X.xe s
section
variable {prog:Program} {w:World} {A:Around} {R:Result->Shared->Prop} {s:Shared}
theorem jO {elt target iter:Expr} {ifs:List Expr} {scope:Scope} {pos:Pos} {it acc:Value} {env:PySem.Env} (Iv:Nat->Shared->Prop)
   (step:∀ n s,Iv n s->wpAny (model prog w) A (pyNext it) (λr s₁=>match r with
     | none=>R (.ok .next) s₁
     | some v=>wpAny (model prog w) A (letOwnedTupleGo target it v) (λ_ s₀=>wpAny (model prog w) A (assign target env v) (λ_ s₂=>
         wpAny (model prog w) A (forIn ifs true λc r=>if r=true then do let ok <- isTrue c env (eval c env); pure (ForInStep.yield ok) else pure (ForInStep.yield r)) (λok s₃=>
           if ok=true then wpAny (model prog w) A (eval elt env) (λx s₄=>
             wpAny (model prog w) A (call (.builtin "list.append") [acc,x]) (λ_ s₅=>∃ m,m < n/\Iv m s₅) (λ_ _=>False) s₄) (λ_ _=>False) s₃
           else ∃ m,m < n/\Iv m s₃) (λ_ _=>False) s₂) (λ_ _=>False) s₀) (λ_ _=>False) s₁) (λ_ _=>False) s)
   (n:Nat) (h:Iv n s):codeAny (model prog w) A (.compLoop (.ListComp elt [⟨target,iter,ifs,0⟩] scope pos) 0 it acc env) R s:=by
 have no:∀ {α:Type} {t:Sem α} {Q:α->Shared->Prop} {s:Shared} {E:Value->Shared->Prop},wpAny (model prog w) A t Q (λ_ _=>False) s->wpAny (model prog w) A t Q E s:=λh=>wpAny_mono h (λ_ _ q=>q) λ_ _ q=>q.elim
 refine codeAny_loop rfl Iv (λn s hI=>?_) n h
 show wpAny _ A (Sem.onRaise (compTurn (.ListComp elt [⟨target,iter,ifs,0⟩] scope pos) 0 it acc env) (λx=>do noteFrame x env; theTreesLotGoes x)) _ _ s
 refine wpAny_noted ?_
 rw [compTurn_list]
 refine wpAny_bind (wpAny_standAt (wpAny_bind (thn (no (step n s hI)) λr s₁ h₁=>?_)))
 cases r with
 | none=>exact wpAny_pure h₁
 | some v=>
   refine wpAny_bind (thn (no h₁) λ_ s₀ h₀=>wpAny_bind (thn (no h₀) λ_ s₂ h₂=>wpAny_bind (thn (no h₂) λok s₃ h₃=>?_)))
   cases ok with
   | false=>exact wpAny_pure ⟨rfl,h₃⟩
   | true=>exact wpAny_bind (wpAny_bind (thn (no h₃) λx s₄ h₄=>wpAny_bind (thn (no h₄) λ_ s₅ h₅=>wpAny_pure (wpAny_pure ⟨rfl,h₅⟩))))
end
theorem qa {X:Cx} {kd:Bool} {pins:List (Addr × Obj)} {σ:L2.St} {H:Hp} {s:Shared} {scope:Scope} {N:List Str} {fp:List Addr} (h:Ck kd X) (I:Inv X pins σ H s):Ck kd (aR X s H scope N fp):=by
 rcases h with h | ⟨hk,q,o,u,vs,e1,e2,e3,e4⟩
 · exact .inl h
 · exact .inr ⟨hk,q,o,u,vs,e1,I.base.frzs q o u e2,e3,e4⟩
noncomputable def eE (In:TG->TT->TE->Prop) (caps:List (Option Nat)) (wi:TI):TE:=λσ H Q=>wi σ H λJ H1=>∃ g tt te,In g tt te/\∀ D,H1 D=none ->
 ∃ Z:Nat->Nat->L2.St->Hp->Prop,(∃ m,Z 0 m (gu σ caps++[some (.ref D)]) (upd H1 D (.lst [])))/\∀ i m σ' H',Z i m σ' H' ->
   (J.stop i H'/\Q (.ref D) H')\/(J.go i H'/\∀ x H2,J.yld i H' x H2->g x σ' H2 λσ2 H3=>tt σ2 H3 λb H4=>
     if b=true then te σ2 H4 λv H5=>∃ vs m',H5 D=some (.lst vs)/\vs.length < sizeLine/\m' < m/\Z (i + 1) m' σ2 (upd H5 D (.lst (vs++[v]))) else ∃ m',m' < m/\Z (i + 1) m' σ2 H4)
theorem cJ {X:Cx} {elt tg iter:Expr} {ifs:List Expr} {scope:Scope} {N:List Str} {caps:List (Option Nat)} {pos:Pos} {wi:TI} {In:TG->TT->TE->Prop} (c:dF X scope N caps) (hi:PI X tg iter wi)
   (hs:∀ x,foldedSetIterable iter X.env x=pure x)
   (hin:∀ g tt te,In g tt te->∀ s H fp,PG (aR X s H scope N fp) tg g/\PTs (aR X s H scope N fp) ifs tt/\PE (aR X s H scope N fp) elt te) :
   PE X (.ListComp elt [⟨tg,iter,ifs,0⟩] scope pos) (eE In caps wi):=by
 intro pins s σ H Q I h
 rw [eval_ListComp]
 have hcl:=p8 (gm I c)
 refine wpAny_comprehension_free (use:=none) (g:=⟨tg,iter,ifs,0⟩) (gs:=[]) rfl hs hcl c.kind c.loc ?_
 show wpAny _ _ (eval iter X.env) _ _ s
 refine thn (hi pins s σ H _ I h) λv s1 h1=>thn h1 λitv s2 h2=>?_
 obtain ⟨kd,it,fp,tn,J,H2,e,I2,hck,T,st2,f2,g,tt,te,hI,q⟩:=h2
 have hc:=qa (scope:=scope) (N:=N) (fp:=fp) hck I2
 subst e
 obtain ⟨Z,⟨m0,z0⟩,turn⟩:=q s2.heap.objs.size (I2.hok.fresh (Nat.le_refl _))
 have ho:∀ b ∈ fp,∃ o,s2.heap.get? b=some o:=λb hb=>let ⟨o,e,_⟩:=T.obj _ _ st2 b hb; ⟨o,e⟩
 have I4:=mf (scope:=scope) (N:=N) (caps:=caps) I2 f2 ho c
 obtain ⟨hg,ht,he⟩:=hin g tt te hI s2 H2 fp
 refine wpAny_newObj_type (kG ?_) (by show 0<=sizeLine; decide)
 have hC:(s2.heap.push { cls:=.type "list",dict:=none,data:=.seq ([]:List Value).toArray }).objs.size=s2.heap.objs.size + 1:=Heap.size_push ..
 dsimp only
 rw [hC]
 have kp:∀ b o,s2.heap.get? b=some o->(pushCells ((s2.heap.push { cls:=.type "list",data:=.seq ([]:List Value).toArray }).push { cls:=.type "dict",data:=.dict #[] }) scope.names).get? b=some o:=λb o e=>
   pushCells_keeps _ _ b o (Heap.get?_push_of_some _ (Heap.get?_push_of_some _ e))
 have st4:tn 0 (pushCells ((s2.heap.push { cls:=.type "list",data:=.seq ([]:List Value).toArray }).push { cls:=.type "dict",data:=.dict #[] }) scope.names):=T.keep _ _ _ st2 λb _ o e=>kp b o e
 have stat:∀ {H':Hp},(∀ b ∈ fp,H' b=none)->∀ b ∈ fp,j9 (aR X s2 H2 scope N fp) [] H' b:=λhn b hb=>
   ⟨hn b hb,(I4.ok.exf b hb).1,I4.ok.exfs b hb,.inl hb,(I4.ok.exf b hb).2,λp hp=>absurd (show p ∈ ([]:List (Addr × Obj)) from hp) (by simp)⟩
 have fr4:∀ b ∈ fp,(upd H2 s2.heap.objs.size (.lst [])) b=none:=λb hb=>by
   obtain ⟨o,e⟩:=ho b hb
   rw [aK (Nat.ne_of_lt (Heap.lt_size e))]; exact (f2 b hb).1
 have loop:codeAny (model X.prog X.w) X.A (.compLoop (.ListComp elt [⟨tg,iter,ifs,0⟩] scope pos) 0 (.ref it) (.ref s2.heap.objs.size) (aR X s2 H2 scope N fp).env)
     (compPost (model X.prog X.w) X.A X.xe none (EP X pins σ Q) (.ref s2.heap.objs.size) (s2.heap.objs.size + 1))
     { s2 with heap:=pushCells ((s2.heap.push { cls:=.type "list",data:=.seq ([]:List Value).toArray }).push { cls:=.type "dict",data:=.dict #[] }) scope.names }:=by
   refine jO (λn s'=>∃ i σ' H',Inv (aR X s2 H2 scope N fp) [] σ' H' s'/\tn i s'.heap/\(∀ b ∈ fp,H' b=none)/\Z i n σ' H') ?_ m0 ⟨0,_,_,I4,st4,fr4,z0⟩
   rintro n s3 ⟨i,σ3,H3,I3,st3,fr3,w3⟩
   rcases turn i n σ3 H3 w3 with ⟨stop,qn⟩ | ⟨go,step⟩
   · refine thn (T.done (aR X s2 H2 scope N fp) rfl rfl rfl hc i [] s3 σ3 H3 _ I3 (stat fr3) st3 stop) λr s5 ⟨hr,I5⟩=>?_
     subst hr
     obtain ⟨m,hn,_⟩:=id I5.loc
     refine ⟨m,hn,λh' sb=>⟨.ref s2.heap.objs.size,H3,?_,rfl,qn⟩⟩
     have lt:∀ b o,s2.heap.get? b=some o->b ≠ s2.heap.objs.size + 1:=λb o e=>Nat.ne_of_lt (Nat.lt_succ_of_lt (Heap.lt_size e))
     have u:=I5.base
     have u':Un (frs X.stack) fp H2 H3 s2.heap h':=⟨λb o e n1 n2 n3=>(sb.2 b (lt b o e)).trans (u.keep b o e n1 n2 n3),λb o e n1 n2 n3=>let ⟨sl,z⟩:=u.slot b o e n1 n2 n3; ⟨sl,(sb.2 b (lt b o e)).trans z⟩,
       u.free,λb o e n1=>let ⟨o',z⟩:=u.there b o e n1; ⟨o',(sb.2 b (lt b o e)).trans z⟩,u.tups,u.frzs,u.tbls⟩
     have fC:H3 (s2.heap.objs.size + 1)=none:=I5.free
     refine I2.wW (s':={ s5 with heap:=h' }) I5.os u' (λb o e=>(I5.hok b o e).ju (λd v hd z=>(sb.2 d ?_).trans z) (λ_ z=>z) λ_ _ z=>z) I5.bare λb hb=>⟨(f2 b hb).2.2.2.1,(f2 b hb).2.1,(f2 b hb).2.2.2.2.1,(f2 b hb).2.2.2.2.2⟩
     rcases hd with hd | hd
     · rw [hd]; exact aU e fC
     · exact aU hd fC
   · refine thn (T.item (aR X s2 H2 scope N fp) rfl rfl rfl hc i [] s3 σ3 H3 _ I3 (stat fr3) st3 go) λr s4 ⟨u,hr,h4⟩=>?_
     subst hr
     refine thn h4 λ_ s5 ⟨x,H5,I5,r5,y5,st5,fr5⟩=>?_
     have I5':=I5.pinned (stat fr5) (T.obj _ _ st5)
     refine thn (hg _ s5 σ3 H5 x u _ I5' r5 (step x H5 y5)) λ_ s6 ⟨σ6,H6,I6,q6⟩=>?_
     have again:∀ {s7:Shared} {σ7:L2.St} {H7:Hp} {m':Nat},Inv (aR X s2 H2 scope N fp) ([]++gx fp s5.heap) σ7 H7 s7->m' < n->Z (i + 1) m' σ7 H7 ->
         ∃ m,m < n/\∃ i σ' H',Inv (aR X s2 H2 scope N fp) [] σ' H' s7/\tn i s7.heap/\(∀ b ∈ fp,H' b=none)/\Z i m σ' H':=λ{s7 σ7 H7 m'} I7 hm z7=>by
       refine ⟨m',hm,i + 1,σ7,H7,I7.dB,T.keep _ _ _ st5 λb hb o e=>(I7.pin (b,o) (List.mem_append_right _ (List.mem_append_right _ (bY hb e)))).1,λb hb=>?_,z7⟩
       obtain ⟨o,e,d⟩:=T.obj _ _ st5 b hb
       exact (I7.pin (b,o) (List.mem_append_right _ (List.mem_append_right _ (bY hb e)))).2.1
     refine thn (ht _ s6 σ6 H6 _ I6 q6) λok s7 ⟨H7,I7,q7⟩=>?_
     cases ok with
     | false=>
       rw [if_neg (by decide)] at q7
       obtain ⟨m',hm,z7⟩:=q7
       exact again I7 hm z7
     | true=>
       rw [if_pos rfl] at q7
       refine thn (he _ s7 σ6 H7 _ I7 q7) λv' s8 ⟨v,H8,I8,r8,vs,m',q8,l8,hm,z8⟩=>?_
       refine thn (dN (X:=aR X s2 H2 scope N fp) _ s8 σ6 H8 (.ref s2.heap.objs.size) [v] (.ref s2.heap.objs.size) [v'] (λ_ H9=>H9=upd H8 s2.heap.objs.size (.lst (vs++[v]))) I8 rfl (.cons r8 .nil) ⟨_,vs,v,rfl,rfl,q8,l8,rfl⟩) λ_ s9 ⟨_,H9,I9,_,e9⟩=>?_
       subst e9
       exact again I9 hm z8
 exact codeAny_compStart_list loop (T.self _ 0 _ _ _ st4 loop)
end Ev
namespace Hy
open PySem PySem.Spec PyProof.Rows L2
open Ev (D Den av)
open Classical in
noncomputable def hd (H:Hp) (M:Addr->Prop):Hp:=λb=>if M b then none else H b
theorem aE {H:Hp} {M:Addr->Prop} {b:Addr} {o:HO}:hd H M b=some o ↔ ¬ M b/\H b=some o:=by
 unfold hd
 by_cases h:M b
 · rw [if_pos h]; exact ⟨λz=>(nomatch z),λz=>absurd h z.1⟩
 · rw [if_neg h]; exact ⟨λz=>⟨h,z⟩,λz=>z.2⟩
theorem aC {H H':Hp} {M M':Addr->Prop} (e:ao H H') (m:∀ b,M' b->M b):ao (hd H M) (hd H' M'):=λb _ h=>aE.mpr ⟨λz=>(aE.mp h).1 (m b z),e b _ (aE.mp h).2⟩
theorem aQ {H:Hp} {M:Addr->Prop}:ao (hd H M) H:=λ_ _ h=>(aE.mp h).2
inductive Nd where
 | d (x:D) | l (xs:List Nd) | t (xs:List Nd)
structure Ex where
 p:PySem.W.Frag->Hp->HO->Addr->Prop
 mono:∀ {K:PySem.W.Frag} {G G':Hp} {o:HO} {a:Addr},ao G G'->p K G o a->p K G' o a
 ext:∀ {K:PySem.W.Frag} {G:Hp} {o:HO} {a:Addr},p K G o a->(∃ φ,o=.ext φ)\/(∃ ob φ,o=.frz ob (.ext φ))\/∃ kvs,o=.dK kvs\/∃ ob,o=.frz ob (.dK kvs)
inductive Sl where
 | un | d (x:D) | o (xs:List D) | n (t:Nd) | x (E:Ex)
mutual
inductive bV (K:PySem.W.Frag) (G H:Hp):V->List Addr->Nd->Prop where
 | d {u:V} {x:D} (h:Den K G u x):bV K G H u [] (.d x)
 | l {a:Addr} {vs:List V} {bs:List Addr} {xs:List Nd} (h:H a=some (.lst vs)) (r:a5 K G H vs bs xs):bV K G H (.ref a) (a :: bs) (.l xs)
 | t {a:Addr} {vs:List V} {bs:List Addr} {xs:List Nd} (h:H a=some (.tup vs)) (r:a5 K G H vs bs xs):bV K G H (.ref a) (a :: bs) (.t xs)
inductive a5 (K:PySem.W.Frag) (G H:Hp):List V->List Addr->List Nd->Prop where
 | nil:a5 K G H [] [] []
 | cons {v:V} {vs:List V} {b1 b2:List Addr} {s:Nd} {ss:List Nd} (h:bV K G H v b1 s) (r:a5 K G H vs b2 ss):a5 K G H (v :: vs) (b1++b2) (s :: ss)
end
noncomputable def cb (K:PySem.W.Frag) (G H:Hp) (v:Option V) (bs:List Addr):Sl->Prop
 | .un=>bs=[]
 | .d x=>bs=[]/\∃ u,v=some u/\Den K G u x
 | .o xs=>∃ a vs,bs=[a]/\v=some (.ref a)/\H a=some (.lst vs)/\av K G vs xs
 | .n t=>bs.Nodup/\∃ u,v=some u/\bV K G H u bs t
 | .x E=>∃ a o,bs=[a]/\v=some (.ref a)/\H a=some o/\E.p K G o a
section
variable {K:PySem.W.Frag} {G G' H H':Hp}
mutual
theorem bV.frame (g:ao G G'):∀ {u:V} {bs:List Addr} {t:Nd},(∀ b ∈ bs,H' b=H b)->bV K G H u bs t->bV K G' H' u bs t
 | _,_,_,_,.d h=>.d (h.mono g)
 | _,_,_,e,.l h r=>.l (by rw [e _ (List.mem_cons_self ..)]; exact h) (a5.frame g (λb hb=>e b (List.mem_cons_of_mem _ hb)) r)
 | _,_,_,e,.t h r=>.t (by rw [e _ (List.mem_cons_self ..)]; exact h) (a5.frame g (λb hb=>e b (List.mem_cons_of_mem _ hb)) r)
theorem a5.frame (g:ao G G'):∀ {vs:List V} {bs:List Addr} {xs:List Nd},(∀ b ∈ bs,H' b=H b)->a5 K G H vs bs xs->a5 K G' H' vs bs xs
 | _,_,_,_,.nil=>.nil
 | _,_,_,e,.cons h r=>.cons (bV.frame g (λb hb=>e b (List.mem_append_left _ hb)) h) (a5.frame g (λb hb=>e b (List.mem_append_right _ hb)) r)
end
mutual
theorem bV.some_of:∀ {u:V} {bs:List Addr} {t:Nd},bV K G H u bs t->∀ b ∈ bs,∃ o,H b=some o
 | _,_,_,.d _,_,z=>nomatch z
 | _,_,_,.l h r,b,z=>(List.mem_cons.mp z).elim (λe=>e ▸ ⟨_,h⟩) λz=>a5.some_of r b z
 | _,_,_,.t h r,b,z=>(List.mem_cons.mp z).elim (λe=>e ▸ ⟨_,h⟩) λz=>a5.some_of r b z
theorem a5.some_of:∀ {vs:List V} {bs:List Addr} {xs:List Nd},a5 K G H vs bs xs->∀ b ∈ bs,∃ o,H b=some o
 | _,_,_,.nil,_,z=>nomatch z
 | _,_,_,.cons h r,b,z=>(List.mem_append.mp z).elim (λz=>bV.some_of h b z) λz=>a5.some_of r b z
end
theorem bV.mono (g:ao G G') (e:ao H H') {u:V} {bs:List Addr} {t:Nd} (h:bV K G H u bs t):bV K G' H' u bs t:=h.frame g λb hb=>by
 obtain ⟨o,q⟩:=h.some_of b hb
 rw [q,e b o q]
theorem cb.mono (g:ao G G') (e:ao H H') {v:Option V} {bs:List Addr}:∀ {s:Sl},cb K G H v bs s->cb K G' H' v bs s
 | .un,h=>h
 | .d _,⟨h,u,e1,h2⟩=>⟨h,u,e1,h2.mono g⟩
 | .o _,⟨a,vs,h1,h2,h3,h4⟩=>⟨a,vs,h1,h2,e _ _ h3,h4.mono g⟩
 | .n _,⟨h0,u,h1,h2⟩=>⟨h0,u,h1,h2.mono g e⟩
 | .x E,⟨a,o,h1,h2,h3,h4⟩=>⟨a,o,h1,h2,e _ _ h3,E.mono g h4⟩
end
noncomputable def own (A:Addr->Prop) (B:Nat->List Addr) (b:Addr):Prop:=A b\/∃ i,b ∈ B i
noncomputable def vw (C:Bool) (A:Addr->Prop) (B:Nat->List Addr):Addr->Prop:=match C with
 | true=>own A B
 | false=>A
structure Sta (K:PySem.W.Frag) (A:Addr->Prop) (H₀:Hp) (τ:List Sl) (B:Nat->List Addr) (σ:L2.St) (H:Hp):Prop where
 same:ao H₀ H
 len:σ.length=τ.length
 sl:∀ i s,τ[i]?=some s->cb K (hd H (own A B)) H (σ[i]?).join (B i) s
 fr:∀ i b,b ∈ B i->H₀ b=none
 uq:∀ i j b,b ∈ B i->b ∈ B j->i=j
 ad:∀ b,A b->∃ o,H₀ b=some o
 bd:∀ i b,b ∈ B i->∃ o,H b=some o
noncomputable def upB (B:Nat->List Addr) (i:Nat) (bs:List Addr):Nat->List Addr:=λj=>if j=i then bs else B j
section
variable {K:PySem.W.Frag} {A:Addr->Prop} {H₀ H H':Hp} {τ:List Sl} {B:Nat->List Addr} {σ:L2.St}
theorem Sta.dm (S:Sta K A H₀ τ B σ H) (b:Addr) (h:own A B b):∃ o,H b=some o:=h.elim (λz=>let ⟨o,q⟩:=S.ad b z; ⟨o,S.same _ _ q⟩) λ⟨i,z⟩=>S.bd i b z
theorem Sta.mono (S:Sta K A H₀ τ B σ H) (e:ao H H'):Sta K A H₀ τ B σ H' where
 same:=S.same.trans e
 len:=S.len
 sl:=λi s h=>(S.sl i s h).mono (aC e λ_ z=>z) e
 fr:=S.fr
 uq:=S.uq
 ad:=S.ad
 bd:=λi b h=>let ⟨o,q⟩:=S.bd i b h; ⟨o,e _ _ q⟩
theorem bh {i j:Nat} {bs:List Addr} {b:Addr} (h:b ∈ upB B i bs j):(j=i/\b ∈ bs)\/(j ≠ i/\b ∈ B j):=by
 unfold upB at h
 by_cases e:j=i
 · rw [if_pos e] at h; exact .inl ⟨e,h⟩
 · rw [if_neg e] at h; exact .inr ⟨e,h⟩
theorem Sta.set (S:Sta K A H₀ τ B σ H) (e:ao H H') {i:Nat} {v:V} {s:Sl} {bs:List Addr} (hf:∀ b ∈ bs,H b=none/\∃ o,H' b=some o) (h:cb K (hd H' λb=>own A B b\/b ∈ bs) H' (some v) bs s) :
   Sta K A H₀ (τ.set i s) (upB B i bs) (σ.set i (some v)) H':=by
 have sub:∀ b,own A (upB B i bs) b->own A B b\/b ∈ bs:=λb z=>z.elim (λz=>.inl (.inl z)) λ⟨j,z⟩=>(bh z).elim (λz=>.inr z.2) λz=>.inl (.inr ⟨j,z.2⟩)
 have some_of:∀ b j,b ∈ B j->∃ o,H b=some o:=λb j z=>S.dm b (.inr ⟨j,z⟩)
 refine ⟨S.same.trans e,by rw [List.length_set,List.length_set,S.len],λj t hj=>?_,λj b hb=>?_,λj k b h1 h2=>?_,S.ad,λj b hb=>?_⟩
 · by_cases ej:j=i
   · subst ej
     have hl:j < τ.length:=by
       have:=(List.getElem?_eq_some_iff.mp hj).1
       rwa [List.length_set] at this
     rw [List.getElem?_set_self hl] at hj
     cases hj
     rw [List.getElem?_set_self (by rw [S.len]; exact hl)]
     unfold upB
     rw [if_pos rfl]
     exact h.mono (aC (ao.refl _) sub) (ao.refl _)
   · rw [List.getElem?_set_ne (λz=>ej z.symm)] at hj
     rw [List.getElem?_set_ne (λz=>ej z.symm)]
     unfold upB
     rw [if_neg ej]
     have q:=S.sl j t hj
     refine q.mono (λb o z=>?_) e
     obtain ⟨z1,z2⟩:=aE.mp z
     refine aE.mpr ⟨λy=>?_,e _ _ z2⟩
     rcases sub b y with y | y
     · exact z1 y
     · rw [(hf b y).1] at z2; cases z2
 · rcases bh hb with ⟨_,z⟩ | ⟨_,z⟩
   · exact S.same.free (hf b z).1
   · exact S.fr j b z
 · rcases bh h1 with ⟨e1,z1⟩ | ⟨e1,z1⟩ <;> rcases bh h2 with ⟨e2,z2⟩ | ⟨e2,z2⟩
   · exact e1.trans e2.symm
   · obtain ⟨o,q⟩:=some_of b k z2; rw [(hf b z1).1] at q; cases q
   · obtain ⟨o,q⟩:=some_of b j z1; rw [(hf b z2).1] at q; cases q
   · exact S.uq j k b z1 z2
 · rcases bh hb with ⟨_,z⟩ | ⟨_,z⟩
   · exact (hf b z).2
   · obtain ⟨o,q⟩:=S.bd j b z; exact ⟨o,e _ _ q⟩
theorem Sta.less (S:Sta K A H₀ τ B σ H) {i:Nat} {s:Sl} {bs:List Addr} (hb:∀ b ∈ bs,b ∈ B i) (h:∀ G:Hp,ao (hd H (own A B)) G->(∀ b o,b ∈ B i->b ∉ bs->H b=some o->G b=some o)->cb K G H (σ[i]?).join bs s):Sta K A H₀ (τ.set i s) (upB B i bs) σ H:=by
 have sub:∀ b,own A (upB B i bs) b->own A B b:=λb z=>z.elim .inl λ⟨j,z⟩=>(bh z).elim (λz=>.inr ⟨i,hb b z.2⟩) λz=>.inr ⟨j,z.2⟩
 refine ⟨S.same,by rw [List.length_set,S.len],λj t hj=>?_,λj b h=>?_,λj k b h1 h2=>?_,S.ad,λj b h=>(bh h).elim (λz=>S.bd i b (hb b z.2)) λz=>S.bd j b z.2⟩
 · by_cases ej:j=i
   · subst ej
     have hl:j < τ.length:=by
       have:=(List.getElem?_eq_some_iff.mp hj).1
       rwa [List.length_set] at this
     rw [List.getElem?_set_self hl] at hj
     cases hj
     unfold upB
     rw [if_pos rfl]
     refine h _ (aC (ao.refl _) sub) λb o z1 z2 z3=>aE.mpr ⟨λy=>?_,z3⟩
     rcases y with y | ⟨m,y⟩
     · obtain ⟨_,q⟩:=S.ad b y
       rw [S.fr j b z1] at q; cases q
     · rcases bh y with ⟨e,y⟩ | ⟨e,y⟩
       · exact z2 y
       · exact e (S.uq m j b y z1)
   · rw [List.getElem?_set_ne (λz=>ej z.symm)] at hj
     unfold upB
     rw [if_neg ej]
     exact (S.sl j t hj).mono (aC (ao.refl _) sub) (ao.refl _)
 · rcases bh h with ⟨e,z⟩ | ⟨_,z⟩
   · exact S.fr i b (hb b z)
   · exact S.fr j b z
 · rcases bh h1 with ⟨e1,z1⟩ | ⟨e1,z1⟩ <;> rcases bh h2 with ⟨e2,z2⟩ | ⟨e2,z2⟩
   · exact e1.trans e2.symm
   · exact absurd (S.uq k i b z2 (hb b z1)) e2
   · exact absurd (S.uq j i b z1 (hb b z2)) e1
   · exact S.uq j k b z1 z2
end
end Hy
namespace Hy
open PySem PySem.Spec PyProof.Rows L2
open Ev (D Den av aI aN aq aX aP)
noncomputable def Fr (H H':Hp) (bs:List Addr):Prop:=∀ b ∈ bs,H b=none/\∃ o,H' b=some o
noncomputable def dE (K:PySem.W.Frag) (C:Bool) (τ:List Sl) (s:Sl):TE:=λσ H Q=>∃ A H₀ B,Sta K A H₀ τ B σ H /\
 ∀ v H' bs,ao H H'->Fr H H' bs->cb K (hd H' λb=>vw C A B b\/b ∈ bs) H' (some v) bs s->Q v H'
noncomputable def dA (K:PySem.W.Frag) (C:Bool) (τ:List Sl) (ds:List D):TA:=λσ H Q=>∃ A H₀ B,Sta K A H₀ τ B σ H /\
 ∀ vs H',ao H H'->av K (hd H' (vw C A B)) vs ds->Q vs H'
noncomputable def dT (K:PySem.W.Frag) (τ:List Sl) (c:Bool):TT:=λσ H Q=>∃ A H₀ B,Sta K A H₀ τ B σ H/\∀ H',ao H H'->Q c H'
structure Po where
 nx:List Sl->Prop
 rt:Sl->Prop
 bk:List Sl->Prop:=λ_=>False
 ct:List Sl->Prop:=λ_=>False
 xc:Hp->Prop:=λ_=>True
structure Meets (K:PySem.W.Frag) (A:Addr->Prop) (H₀:Hp) (N:Po) (D:Ends):Prop where
 nx:∀ τ B σ H,N.nx τ->Sta K A H₀ τ B σ H->D.nx σ H
 bk:∀ τ B σ H,N.bk τ->Sta K A H₀ τ B σ H->D.bk σ H
 ct:∀ τ B σ H,N.ct τ->Sta K A H₀ τ B σ H->D.ct σ H
 rt:∀ v H bs s,N.rt s->ao H₀ H->Fr H₀ H bs->cb K (hd H λb=>A b\/b ∈ bs) H (some v) bs s->D.rt v H
 xc:∀ H,ao H₀ H->N.xc H
noncomputable def dS (K:PySem.W.Frag) (τ:List Sl) (N:Po):TS:=λD σ H=>∃ A H₀ B,Sta K A H₀ τ B σ H/\Meets K A H₀ N D
theorem peW {X:Cx} {e:Expr} {t t':TE} (h:PE X e t) (f:∀ σ H Q,t' σ H Q->t σ H Q):PE X e t':=λpins s σ H Q I q=>h pins s σ H Q I (f σ H Q q)
theorem ptW {X:Cx} {e:Expr} {t t':TT} (h:PT X e t) (f:∀ σ H Q,t' σ H Q->t σ H Q):PT X e t':=λpins s σ H Q I q=>h pins s σ H Q I (f σ H Q q)
theorem pwW {X:Cx} {e:Expr} {t t':TT} (h:PW X e t) (f:∀ σ H Q,t' σ H Q->t σ H Q):PW X e t':=λwh pins s σ H Q I q=>h wh pins s σ H Q I (f σ H Q q)
theorem paW {X:Cx} {e:List Expr} {t t':TA} (h:PA X e t) (f:∀ σ H Q,t' σ H Q->t σ H Q):PA X e t':=λp pins s σ H Q I q=>h p pins s σ H Q I (f σ H Q q)
theorem psW {X:Cx} {e:Stmt} {t t':TS} (h:PS X e t) (f:∀ D σ H,t' D σ H->t D σ H):PS X e t':=λpins s σ H D I q=>h pins s σ H D I (f D σ H q)
theorem hZ {X:Cx} {e:List Stmt} {t t':TS} (h:PSs X e t) (f:∀ D σ H,t' D σ H->t D σ H):PSs X e t':=λpins s σ H D I q=>h pins s σ H D I (f D σ H q)
section
variable {K:PySem.W.Frag} {C:Bool} {τ:List Sl} {A:Addr->Prop} {H₀ H H':Hp} {B:Nat->List Addr} {σ:L2.St} {x y z:D} {Q:VK}
theorem i8 {b:Addr} (h:vw C A B b):own A B b:=by
 cases C with
 | true=>exact h
 | false=>exact .inl h
theorem Sta.vd (S:Sta K A H₀ τ B σ H) (b:Addr) (h:vw C A B b):∃ o,H b=some o:=S.dm b (i8 h)
theorem aY (S:Sta K A H₀ τ B σ H) (k:∀ v H',ao H H'->Den K (hd H' (vw C A B)) v x->Q v H'):dE K C τ (.d x) σ H Q:=
 ⟨A,H₀,B,S,λv H' bs e _ ⟨hb,u,eu,h⟩=>by
   cases eu
   exact k v H' e (h.mono (aC (ao.refl _) λ_ z=>.inl z))⟩
theorem di (h:dE K C τ (.d x) σ H Q):∃ A H₀ B,Sta K A H₀ τ B σ H/\∀ v H',ao H H'->Den K (hd H' (vw C A B)) v x->Q v H':=by
 obtain ⟨A,H₀,B,S,k⟩:=h
 exact ⟨A,H₀,B,S,λv H' e d=>k v H' [] e (λ_ z=>nomatch z) ⟨rfl,v,rfl,d.mono (aC (ao.refl _) λ_ z=>z.elim id λz=>nomatch z)⟩⟩
theorem eI {ds:List D} {Q:List V->Hp->Prop} (S:Sta K A H₀ τ B σ H) (k:∀ vs H',ao H H'->av K (hd H' (vw C A B)) vs ds->Q vs H'):dA K C τ ds σ H Q:=⟨A,H₀,B,S,k⟩
theorem jq {M:Addr->Prop} {p:Addr} {o:HO} (hM:∀ b,M b->∃ o,H b=some o) (hp:H p=none):hd (upd H p o) M p=some o:=
 aE.mpr ⟨λz=>(by obtain ⟨o,q⟩:=hM p z; rw [hp] at q; cases q),aT⟩
mutual
noncomputable def ndD:Nd->D
 | .d x=>x
 | .l xs=>.lst (m6 xs)
 | .t xs=>.tup (m6 xs)
noncomputable def m6:List Nd->List D
 | []=>[]
 | x :: xs=>ndD x :: m6 xs
end
noncomputable def fzD:Sl->Option D
 | .un=>none
 | .d x=>some x
 | .o xs=>some (.lst xs)
 | .n t=>some (ndD t)
 | .x _=>none
mutual
theorem bV.den {G G':Hp} (g:ao G G'):∀ {u:V} {bs:List Addr} {t:Nd},(∀ b ∈ bs,∀ o,H b=some o->G' b=some o)->bV K G H u bs t->Den K G' u (ndD t)
 | _,_,_,_,.d h=>h.mono g
 | _,_,_,e,.l h r=>.lst (SqL.of (e _ (List.mem_cons_self ..) _ h)) (a5.den g (λb hb=>e b (List.mem_cons_of_mem _ hb)) r)
 | _,_,_,e,.t h r=>.tup (SqT.of (e _ (List.mem_cons_self ..) _ h)) (a5.den g (λb hb=>e b (List.mem_cons_of_mem _ hb)) r)
theorem a5.den {G G':Hp} (g:ao G G'):∀ {vs:List V} {bs:List Addr} {xs:List Nd},(∀ b ∈ bs,∀ o,H b=some o->G' b=some o)->a5 K G H vs bs xs->av K G' vs (m6 xs)
 | _,_,_,_,.nil=>.nil
 | _,_,_,e,.cons h r=>.cons (bV.den g (λb hb=>e b (List.mem_append_left _ hb)) h) (a5.den g (λb hb=>e b (List.mem_append_right _ hb)) r)
end
theorem cb.den {G G':Hp} {v:Option V} {bs:List Addr} {s:Sl} (h:cb K G H v bs s) (g:ao G G') (hv:∀ b ∈ bs,∀ o,H b=some o->G' b=some o) (e:fzD s=some x):∃ u,v=some u/\Den K G' u x:=by
 cases s with
 | un=>cases e
 | d y=>cases e; obtain ⟨_,u,e,q⟩:=h; exact ⟨u,e,q.mono g⟩
 | o xs=>
   cases e
   obtain ⟨a,vs,rfl,h2,h3,h4⟩:=h
   exact ⟨_,h2,.lst (SqL.of (hv a (List.mem_cons_self ..) _ h3)) (h4.mono g)⟩
 | n t=>
   cases e
   obtain ⟨_,u,e,q⟩:=h
   exact ⟨u,e,q.den g hv⟩
 | x E=>cases e
theorem slot_of {i:Nat} {u:V} (h:(σ[i]?).join=some u):σ[i]?=some (some u):=by
 cases e:σ[i]? with
 | none=>rw [e] at h; cases h
 | some o=>rw [e] at h; exact congrArg some h
end
section
variable {X:Cx} {C:Bool} {τ:List Sl} {x y z:D} {a b e:Expr} {es:List Expr} {pos:Pos}
theorem aa (i:Nat) {n:Str} {x:D} (h:τ[i]?=some (.d x):=by rfl) (hN:X.N[i]?=some n:=by rfl) (hv:Vis X.env.scope n:=by first | exact Or.inl rfl | exact Or.inr (Or.inl rfl) | exact Or.inr (Or.inr rfl))
   (hd:(n == ("__debug__" : Str))=false:=by decide) (hcd:(n == ("__classdict__" : Str))=false:=by decide):PE X (.Name n pos) (dE X.K C τ (.d x)):=peW (bD hN hv hd hcd) λσ H Q q=>by
 obtain ⟨A,H₀,B,S,k⟩:=di q
 obtain ⟨_,u,e,d⟩:=S.sl i _ h
 exact ⟨u,slot_of e,k u H (ao.refl _) (d.mono (aC (ao.refl _) λ_ z=>i8 z))⟩
theorem sG (i:Nat) {n:Str} {s:Sl} {x:D} (h:τ[i]?=some s:=by rfl) (hx:fzD s=some x:=by rfl) (hN:X.N[i]?=some n:=by rfl) (hv:Vis X.env.scope n:=by first | exact Or.inl rfl | exact Or.inr (Or.inl rfl) | exact Or.inr (Or.inr rfl))
   (hd:(n == ("__debug__" : Str))=false:=by decide) (hcd:(n == ("__classdict__" : Str))=false:=by decide):PE X (.Name n pos) (dE X.K false τ (.d x)):=peW (bD hN hv hd hcd) λσ H Q q=>by
 obtain ⟨A,H₀,B,S,k⟩:=di q
 obtain ⟨u,e,d⟩:=(S.sl i _ h).den (G':=Hy.hd H A) (aC (ao.refl _) λ_ z=>.inl z) (λb hb o ho=>aE.mpr ⟨λz=>(by obtain ⟨_,q⟩:=S.ad b z; rw [S.fr i b hb] at q; cases q),ho⟩) hx
 exact ⟨u,slot_of e,k u H (ao.refl _) d⟩
theorem kK {v:V} (h:PE X e (tC v)) (d:∀ H,Den X.K H v x):PE X e (dE X.K C τ (.d x)):=peW h λσ H Q q=>by
 obtain ⟨A,H₀,B,S,k⟩:=di q
 exact k v H (ao.refl _) (d _)
theorem af {i j}:PE X (.Constant (.int i) j pos) (dE X.K C τ (.d (.int i))):=kK xO λ_=>.int
theorem vc {b j}:PE X (.Constant (.bool b) j pos) (dE X.K C τ (.d (.bl b))):=kK zy λ_=>.bl
theorem wF {j}:PE X (.Constant .none j pos) (dE X.K C τ (.d .non)):=kK xh λ_=>.non
theorem bL {s j}:PE X (.Constant (.str s) j pos) (dE X.K C τ (.d (.str s))):=kK xU λ_=>.str
theorem x9 {n:Str} {i:Int} (hm:∃ t,X.mg n=some (.int i t)) (hg:Gl X n:=by rfl) (hd:(n == ("__debug__" : Str))=false:=by decide):PE X (.Name n pos) (dE X.K C τ (.d (.int i))):=by
 obtain ⟨t,hm⟩:=hm
 exact kK (qd (v:=.int i) hg hm ⟨t,rfl⟩ hd) λ_=>.int
theorem bJ {s:Sl} (h:PE X e (dE X.K C τ s)) (hx:fzD s=some x:=by rfl):PE X e (dE X.K C τ (.d x)):=peW h λσ H Q q=>by
 obtain ⟨A,H₀,B,S,k⟩:=di q
 refine ⟨A,H₀,B,S,λv H' bs e hf q=>?_⟩
 have vd:=S.vd (C:=C)
 obtain ⟨u,e1,d⟩:=q.den (G':=Hy.hd H' (vw C A B)) (aC (ao.refl _) λ_ z=>.inl z) (λb hb o ho=>aE.mpr ⟨λz=>(by obtain ⟨_,q⟩:=vd b z; rw [(hf b hb).1] at q; cases q),ho⟩) hx
 cases e1
 exact k v H' e d
noncomputable def flat:D->Bool
 | .tup _=>false
 | .lst _=>false
 | .box _=>false
 | _=>true
theorem sD {K:PySem.W.Frag} {G G':Hp} {v:V} (h:Den K G v x) (f:flat x=true):Den K G' v x:=by
 cases h with
 | non=>exact .non
 | bl=>exact .bl
 | int=>exact .int
 | str=>exact .str
 | tup _ _=>cases f
 | lst _ _=>cases f
 | box _=>cases f
theorem Bj (h:PE X e (dE X.K false τ (.d x))) (f:flat x=true:=by rfl):PE X e (dE X.K C τ (.d x)):=peW h λσ H Q q=>by
 obtain ⟨A,H₀,B,S,k⟩:=di q
 exact aY S λv H' e d=>k v H' e (sD d f)
noncomputable def cA (X:Cx) (f:Value->Value->Sem Value) (x y z:D):Prop:=∃ r:R2,OpR X f r /\
 ∀ (M:Addr->Prop) (v w:V) (H:Hp) (Q:VK),(∀ b,M b->∃ o,H b=some o)->Den X.K (hd H M) v x->Den X.K (hd H M) w y->(∀ u H',ao H H'->Den X.K (hd H' M) u z->Q u H')->r v w H Q
theorem two {r:R2} (hr:∀ (M:Addr->Prop) (v w:V) (H:Hp) (Q:VK),(∀ b,M b->∃ o,H b=some o)->Den X.K (hd H M) v x->Den X.K (hd H M) w y->(∀ u H',ao H H'->Den X.K (hd H' M) u z->Q u H')->r v w H Q) :
   ∀ σ H Q,dE X.K C τ (.d z) σ H Q->tOp r (dE X.K C τ (.d x)) (dE X.K C τ (.d y)) σ H Q:=by
 intro σ H Q h
 obtain ⟨A,H₀,B,S,k⟩:=di h
 refine aY S λv H1 e1 d1=>aY (S.mono e1) λw H2 e2 d2=>hr (vw C A B) v w H2 Q ((S.mono e1).mono e2).vd (d1.mono (aC e2 λ_ z=>z)) d2 λu H' e3 d3=>k u H' (e1.trans (e2.trans e3)) d3
theorem aJ {op:Operator} (ha:PE X a (dE X.K C τ (.d x))) (hb:PE X b (dE X.K C τ (.d y))) (ho:cA X (binaryOp op) x y z):PE X (.BinOp a op b pos) (dE X.K C τ (.d z)):=by
 obtain ⟨r,h1,h2⟩:=ho
 exact peW (tu h1 ha hb) (two h2)
theorem gP {op:CmpOp} (ha:PE X a (dE X.K C τ (.d x))) (hb:PE X b (dE X.K C τ (.d y))) (ho:cA X (compareOp op) x y z) (hm:behindInMarks op b=false:=by first | exact sO _ | rfl):PE X (.Compare a [op] [b] pos) (dE X.K C τ (.d z)):=by
 obtain ⟨r,h1,h2⟩:=ho
 exact peW (vo h1 ha hb hm) (two h2)
theorem uG {t:TE} {c:Bool} (h:∀ σ H Q,dE X.K false τ (.d (.bl c)) σ H Q->t σ H Q):∀ σ H Q,dT X.K τ c σ H Q->t σ H λx H'=>∃ k,x=.bl k/\Q k H':=λσ H Q ⟨A,H₀,B,S,k⟩=>
 h σ H _ (aY S λv H' e d=>by cases d; exact ⟨c,rfl,k H' e⟩)
theorem bg {op:CmpOp} {c:Bool} (ha:PE X a (dE X.K false τ (.d x))) (hb:PE X b (dE X.K false τ (.d y))) (ho:cA X (compareOp op) x y (.bl c)) (hm:behindInMarks op b=false:=by first | exact sO _ | rfl):PT X (.Compare a [op] [b] pos) (dT X.K τ c):=by
 obtain ⟨r,h1,h2⟩:=ho
 exact ptW (v9 h1 ha hb hm) (uG (two h2))
theorem b7 {c:Bool} (h:PE X e (dE X.K false τ (.d (.bl c)))) (he:∀ whole,isTrue e X.env whole=(do let v <- whole; standAt e.pos; holding [v] (truthy v)):=by intro _; rfl):PT X e (dT X.K τ c):=
 ptW (xg h he) (uG λ_ _ _ q=>q)
theorem ng {g:Int->Int->V} {P:Int->Int->Prop} {i j:Int} (hc:P i j) (hz:∀ K H,Den K H (g i j) z):∀ (M:Addr->Prop) (v w:V) (H:Hp) (Q:VK),(∀ b,M b->∃ o,H b=some o)->Den X.K (hd H M) v (.int i)->Den X.K (hd H M) w (.int j) ->
   (∀ u H',ao H H'->Den X.K (hd H' M) u z->Q u H')->rI P g v w H Q:=λ_ v w H Q _ d1 d2 k=>by
 cases d1
 cases d2
 exact ⟨i,j,rfl,rfl,hc,k _ H (ao.refl _) (hz _ _)⟩
theorem kF {g:Int->Int->V} {i j:Int} (hz:∀ K H,Den K H (g i j) z):∀ (M:Addr->Prop) (v w:V) (H:Hp) (Q:VK),(∀ b,M b->∃ o,H b=some o)->Den X.K (hd H M) v (.int i)->Den X.K (hd H M) w (.int j) ->
   (∀ u H',ao H H'->Den X.K (hd H' M) u z->Q u H')->rI0 g v w H Q:=λ_ v w H Q _ d1 d2 k=>by
 cases d1
 cases d2
 exact ⟨i,j,rfl,rfl,k _ H (ao.refl _) (hz _ _)⟩
variable {i j:Int}
theorem bC:cA X (binaryOp .Add) (.int i) (.int j) (.int (i + j)):=⟨_,yh,kF λ_ _=>.int⟩
theorem cE:cA X (binaryOp .Sub) (.int i) (.int j) (.int (i - j)):=⟨_,xr,kF λ_ _=>.int⟩
theorem aI.ok' {i j:Int} (h:aI i j):IntMulOk i j:=by
 have b:∀ {k:Int} {n:Nat},k.natAbs.log2 < n->Builtin.Int.intBits k<=n:=λ{k n} q=>by
   unfold Builtin.Int.intBits
   split
   · exact Nat.zero_le _
   · exact q
 rcases h with h | h | ⟨h1,h2⟩
 · exact .of_left (b h)
 · exact .of_right (b h)
 · exact .of_bits (Nat.le_trans (b h1) (by decide)) (Nat.le_trans (b h2) (by decide))
theorem bA (h:aI i j):cA X (binaryOp .Mult) (.int i) (.int j) (.int (i * j)):=⟨rI aI λi j=>.int (i * j),opI λ_ _ _ _ _ _ _ hc q=>mul_int q (aI.ok' hc),ng h λ_ _=>.int⟩
theorem ft (h:aN j):cA X (binaryOp .FloorDiv) (.int i) (.int j) (.int (i.fdiv j)):=⟨rI (λ_ j=>aN j) λi j=>.int (i.fdiv j),opI λ_ _ _ _ _ _ _ hc q=>floordiv_int hc.1 q (.inl (PyProof.noPylong_of_log2 hc.2)),ng h λ_ _=>.int⟩
theorem cg (h:j ≠ 0):cA X (binaryOp .Mod) (.int i) (.int j) (.int (i.fmod j)):=⟨_,uZ,ng h λ_ _=>.int⟩
theorem zx (h:Ad i j):cA X (binaryOp .Pow) (.int i) (.int j) (.int (i ^ j.toNat)):=⟨_,yp,ng h λ_ _=>.int⟩
theorem vz:cA X (compareOp .Lt) (.int i) (.int j) (.bl (decide (i < j))):=⟨_,AK,kF λ_ _=>.bl⟩
theorem yq:cA X (compareOp .LtE) (.int i) (.int j) (.bl (decide (i<=j))):=⟨_,AQ,kF λ_ _=>.bl⟩
theorem tj:cA X (compareOp .Gt) (.int i) (.int j) (.bl (decide (j < i))):=⟨_,y0,kF λ_ _=>.bl⟩
theorem yE:cA X (compareOp .GtE) (.int i) (.int j) (.bl (decide (j<=i))):=⟨_,zG,kF λ_ _=>.bl⟩
theorem lW:cA X (compareOp .Eq) (.int i) (.int j) (.bl (decide (i=j))):=⟨_,wu,λ_ v w H Q _ d1 d2 k=>by
 cases d1
 cases d2
 exact ⟨rfl,by rw [show decide (V.int i=V.int j)=decide (i=j) by simp]; exact k _ H (ao.refl _) .bl⟩⟩
theorem qZ:cA X (compareOp .NotEq) (.int i) (.int j) (.bl (!decide (i=j))):=⟨_,wq,λ_ v w H Q _ d1 d2 k=>by
 cases d1
 cases d2
 exact ⟨rfl,by rw [show decide (V.int i=V.int j)=decide (i=j) by simp]; exact k _ H (ao.refl _) .bl⟩⟩
theorem kx (h:PE X a (dE X.K C τ (.d (.int i)))):PE X (.UnaryOp .USub a pos) (dE X.K C τ (.d (.int (-i)))):=peW (zR xN h) λσ H Q q=>by
 obtain ⟨A,H₀,B,S,k⟩:=di q
 refine aY S λv H1 e1 d1=>?_
 cases d1
 exact ⟨i,rfl,k _ H1 e1 .int⟩
theorem ug {e:Expr}:PE X e λ_ _ _=>False:=λ_ _ _ _ _ _ h=>h.elim
theorem pw_no {e:Expr}:PW X e λ_ _ _=>False:=λ_ _ _ _ _ _ _ h=>h.elim
variable {p q:Bool} {c:Expr} {rest:List Expr}
theorem kH {op} {s:Sl} (h:PE X a (dE X.K C τ s)):PE X (.BoolOp op [a] pos) (dE X.K C τ s):=xF h
theorem i7 (ha:PE X a (dE X.K C τ (.d (.bl p)))) (hb:p=true->PE X (.BoolOp .And (b :: rest) pos) (dE X.K C τ (.d (.bl q)))):PE X (.BoolOp .And (a :: b :: rest) pos) (dE X.K C τ (.d (.bl (p && q)))):=by
 cases p with
 | false=>
   refine peW (tM ha ug) λσ H Q z=>?_
   obtain ⟨A,H₀,B,S,k⟩:=di z
   exact aY S λv H' e d=>by cases d; exact ⟨_,rfl,k _ H' e .bl⟩
 | true=>
   refine peW (tM ha (hb rfl)) λσ H Q z=>?_
   obtain ⟨A,H₀,B,S,k⟩:=di z
   exact aY S λv H' e d=>by cases d; exact ⟨_,rfl,aY (S.mono e) λv H2 e2 d2=>k v H2 (e.trans e2) d2⟩
theorem wL (ha:PE X a (dE X.K C τ (.d (.bl p)))):PE X (.UnaryOp .Not a pos) (dE X.K C τ (.d (.bl (!p)))):=peW (wX ha) λσ H Q z=>by
 obtain ⟨A,H₀,B,S,k⟩:=di z
 exact aY S λv H' e d=>by cases d; exact ⟨_,rfl,k _ H' e .bl⟩
theorem xw (ha:PT X a (dT X.K τ p)):PW X (.BoolOp .And [a] pos) (dT X.K τ p):=pw_and1 ha
theorem fX (ha:PT X a (dT X.K τ p)):PW X (.BoolOp .Or [a] pos) (dT X.K τ p):=pw_or1 ha
theorem Aw (ha:PT X a (dT X.K τ p)) (hb:p=true->PW X (.BoolOp .And (b :: rest) pos) (dT X.K τ q)):PW X (.BoolOp .And (a :: b :: rest) pos) (dT X.K τ (p && q)):=by
 cases p with
 | false=>exact pwW (pw_and ha pw_no) λσ H Q ⟨A,H₀,B,S,k⟩=>⟨A,H₀,B,S,λH' e=>l6 (k H' e)⟩
 | true=>exact pwW (pw_and ha (hb rfl)) λσ H Q ⟨A,H₀,B,S,k⟩=>⟨A,H₀,B,S,λH' e=>mw (⟨A,H₀,B,S.mono e,λH2 e2=>k H2 (e.trans e2)⟩)⟩
theorem fP (ha:PT X a (dT X.K τ p)) (hb:p=false->PW X (.BoolOp .Or (b :: rest) pos) (dT X.K τ q)):PW X (.BoolOp .Or (a :: b :: rest) pos) (dT X.K τ (p || q)):=by
 cases p with
 | true=>exact pwW (pw_or ha pw_no) λσ H Q ⟨A,H₀,B,S,k⟩=>⟨A,H₀,B,S,λH' e=>mw (k H' e)⟩
 | false=>exact pwW (pw_or ha (hb rfl)) λσ H Q ⟨A,H₀,B,S,k⟩=>⟨A,H₀,B,S,λH' e=>l6 (⟨A,H₀,B,S.mono e,λH2 e2=>k H2 (e.trans e2)⟩)⟩
theorem b5 (ha:PT X a (dT X.K τ p)):PT X (.UnaryOp .Not a pos) (dT X.K τ (!p)):=ptW (yy ha) λσ H Q ⟨A,H₀,B,S,k⟩=>⟨A,H₀,B,S,λH' e=>k H' e⟩
theorem ue {s:Sl} (hc:PT X c (dT X.K τ p)) (ha:p=true->PE X a (dE X.K C τ s)) (hb:p=false->PE X b (dE X.K C τ s)):PE X (.IfExp c a b pos) (dE X.K C τ s):=by
 have fin:∀ {σ H H' Q} {A:Addr->Prop} {H₀ B},Sta X.K A H₀ τ B σ H->(∀ v H' bs,ao H H'->Fr H H' bs->cb X.K (hd H' λb=>vw C A B b\/b ∈ bs) H' (some v) bs s->Q v H')->ao H H'->dE X.K C τ s σ H' Q:=λS k e=>
   ⟨_,_,_,S.mono e,λv H2 bs e2 hf h=>k v H2 bs (e.trans e2) (λb hb=>⟨e.free (hf b hb).1,(hf b hb).2⟩) h⟩
 cases p with
 | true=>exact peW (mh hc (ha rfl) ug) λσ H Q ⟨A,H₀,B,S,k⟩=>⟨A,H₀,B,S,λH' e=>mw (fin S k e)⟩
 | false=>exact peW (mh hc ug (hb rfl)) λσ H Q ⟨A,H₀,B,S,k⟩=>⟨A,H₀,B,S,λH' e=>l6 (fin S k e)⟩
theorem pM {op op':CmpOp} (ha:PE X a (dE X.K C τ (.d x))) (hb:PE X b (dE X.K C τ (.d y))) (hc:PE X c (dE X.K C τ (.d z))) (h1:cA X (compareOp op) x y (.bl p)) (h2:cA X (compareOp op') y z (.bl q))
   (hm:lastMarks [op,op'] [b,c]=false:=by with_unfolding_all rfl):PE X (.Compare a [op,op'] [b,c] pos) (dE X.K C τ (.d (.bl (p && q))))/\(C=false->PT X (.Compare a [op,op'] [b,c] pos) (dT X.K τ (p && q))):=by
 obtain ⟨r,o1,k1⟩:=h1
 obtain ⟨r',o2,k2⟩:=h2
 have key:∀ σ H Q,dE X.K C τ (.d (.bl (p && q))) σ H Q->nO r r' (dE X.K C τ (.d x)) (dE X.K C τ (.d y)) (dE X.K C τ (.d z)) σ H Q:=λσ H Q h=>by
   obtain ⟨A,H₀,B,S,k⟩:=di h
   refine aY S λv H1 e1 d1=>aY (S.mono e1) λw H2 e2 d2=>k1 (vw C A B) v w H2 _ ((S.mono e1).mono e2).vd (d1.mono (aC e2 λ_ z=>z)) d2 λu H3 e3 d3=>?_
   cases d3
   refine ⟨p,rfl,?_⟩
   cases p with
   | false=>exact l6 (k _ H3 (e1.trans (e2.trans e3)) .bl)
   | true=>exact mw (aY (((S.mono e1).mono e2).mono e3) λw' H4 e4 d4=>k2 (vw C A B) w w' H4 Q ((((S.mono e1).mono e2).mono e3).mono e4).vd (d2.mono (aC (e3.trans e4) λ_ z=>z)) d4 λu H5 e5 d5=>k u H5 (e1.trans (e2.trans (e3.trans (e4.trans e5)))) d5)
 exact ⟨peW (r6 o1 o2 ha hb hc hm) key,λhC=>by subst hC; exact ptW (tG o1 o2 ha hb hc hm) (uG key)⟩
theorem ag:PA X [] (dA X.K C τ []):=paW cQ λσ H Q ⟨A,H₀,B,S,k⟩=>k [] H (ao.refl _) .nil
theorem ae {ds:List D} (ha:PE X e (dE X.K C τ (.d x))) (hr:PA X es (dA X.K C τ ds)) (hs:starEach (e :: es) X.env=(false,eval e X.env) :: starEach es X.env:=by rfl):PA X (e :: es) (dA X.K C τ (x :: ds)):=paW (bK ha hr hs) λσ H Q ⟨A,H₀,B,S,k⟩=>
 aY S λv H1 e1 d1=>eI (S.mono e1) λvs H2 e2 d2=>k _ H2 (e1.trans e2) (.cons (d1.mono (aC e2 λ_ z=>z)) d2)
theorem bQ {ds:List D} {m} (h:PA X es (dA X.K C τ ds)) (hl:Nat.ble ds.length 1000=true:=by rfl):PE X (.Tuple es m pos) (dE X.K C τ (.d (.tup ds))):=peW (tY h) λσ H Q q=>by
 obtain ⟨A,H₀,B,S,k⟩:=di q
 refine eI S λvs H1 e1 d1=>⟨by rw [d1.length]; exact Nat.le_of_lt (ig (Nat.le_of_ble_eq_true hl)),λp hp=>k _ _ (e1.trans (aq hp _)) ?_⟩
 exact .tup (SqT.of (jq (S.mono e1).vd hp)) (d1.mono (aC (aq hp _) λ_ z=>z))
theorem cD {ds:List D} (h:PA X es (dA X.K C τ ds)) (hl:Nat.ble ds.length 1000=true:=by rfl):PE X (.List es pos) (dE X.K C τ (.o ds)):=peW (xl h) λσ H Q ⟨A,H₀,B,S,k⟩=>
 eI S λvs H1 e1 d1=>⟨by rw [d1.length]; exact Nat.le_of_lt (ig (Nat.le_of_ble_eq_true hl)),λp hp=>k _ _ [p] (e1.trans (aq hp _)) (λb hb=>by
   obtain rfl:=List.mem_singleton.mp hb
   exact ⟨e1.free hp,_,aT⟩) ⟨p,vs,rfl,rfl,aT,d1.mono λb o z=>by
     obtain ⟨z1,z2⟩:=aE.mp z
     refine aE.mpr ⟨λy=>?_,aq hp _ _ _ z2⟩
     rcases y with y | y
     · exact z1 y
     · rw [List.mem_singleton.mp y] at z2; rw [hp] at z2; cases z2⟩⟩
end
noncomputable def spD (K:PySem.W.Frag) (Φ:List D->Sl->Prop):Sp:=λvs H Q _=>∃ A ds s,(∀ b,A b->∃ o,H b=some o)/\av K (hd H A) vs ds/\Φ ds s /\
 ∀ v H' bs,ao H H'->Fr H H' bs->cb K (hd H' λb=>A b\/b ∈ bs) H' (some v) bs s->Q v H'
noncomputable def Cal (P:Program) (w:World) (K:PySem.W.Frag) (mg:Str->Option Value) (base:Heap) (k:Nat) (n:Str) (Φ:List D->Sl->Prop):Prop:=
 ∃ f fd ps,a6 P w K mg base CX0 k f fd ps (spD K Φ)/\mg n=some (.ref f)/\PySem.W.keepIn K (.ref f)=true/\Binds K fd ps []
theorem Cal.mono {P:Program} {w:World} {K:PySem.W.Frag} {mg:Str->Option Value} {base:Heap} {j k:Nat} {n:Str} {Φ:List D->Sl->Prop} (c:Cal P w K mg base j n Φ) (h:j<=k):Cal P w K mg base k n Φ:=
 let ⟨f,fd,ps,F,r⟩:=c; ⟨f,fd,ps,F.mono h,r⟩
noncomputable def aB:List Str:=["len","abs","max","min","int","bool","list","tuple","str","isinstance","range","enumerate","all","zip","sorted","sum","any","reversed"]
structure Bk (X:Cx) (k:Nat):Prop where
 room:eO k X.A
 calm:X.calm=true
 blt:∀ x ∈ aB,X.mg x=none
 po:PassesOwn (model X.prog X.w) X.A X.env X.xe
section
variable {X:Cx} {C:Bool} {τ:List Sl} {x y z:D} {a b e:Expr} {es:List Expr} {pos p:Pos} {k:Nat} {s:Sl} {ds:List D} {i j:Int}
theorem x_call {n:Str} {Φ:List D->Sl->Prop} (B:Bk X k) (c:Cal X.prog X.w X.K X.mg X.base k n Φ) (ha:PA X (e :: es) (dA X.K C τ ds)) (h:Φ ds s) (hg:Gl X n:=by rfl) (hdb:(n == ("__debug__" : Str))=false:=by decide)
   (he:starEach (e :: es) X.env=(false,eval e X.env) :: starEach es X.env:=by rfl) (hpl:(backTo pos (starEach es X.env)).any (·.1)=false:=by rfl):PE X (.Call (.Name n p) (e :: es) [] pos) (dE X.K C τ s):=by
 obtain ⟨f,fd,ps,F,hm,hk,hb⟩:=c
 refine peW (pe F B.room hg hm hk hb .nil wA ha hdb he hpl) λσ H Q ⟨A,H₀,B,S,q⟩=>eI S λvs H1 e1 d1=>?_
 rw [List.append_nil]
 exact ⟨vw C A B,ds,s,(S.mono e1).vd,d1,h,λv H' bs e2 hf h2=>q v H' bs (e1.trans e2) (λb hb=>⟨e1.free (hf b hb).1,(hf b hb).2⟩) h2⟩
noncomputable def hX (X:Cx) (f:Value) (ds:List D) (s:Sl):Prop:=∃ r:List V->Hp->VK->Prop,e8 X f r /\
 ∀ (M:Addr->Prop) (vs:List V) (H:Hp) (Q:VK),(∀ b,M b->∃ o,H b=some o)->av X.K (hd H M) vs ds->(∀ u H' bs,ao H H'->Fr H H' bs->cb X.K (hd H' λb=>M b\/b ∈ bs) H' (some u) bs s->Q u H')->r vs H Q
theorem tD {r:List V->Hp->VK->Prop} (hr:∀ (M:Addr->Prop) (vs:List V) (H:Hp) (Q:VK),(∀ b,M b->∃ o,H b=some o)->av X.K (hd H M) vs ds->(∀ u H' bs,ao H H'->Fr H H' bs->cb X.K (hd H' λb=>M b\/b ∈ bs) H' (some u) bs s->Q u H')->r vs H Q) :
   ∀ σ H Q,dE X.K C τ s σ H Q->tCB r (dA X.K C τ ds) σ H Q:=λσ H Q ⟨A,H₀,B,S,q⟩=>
 eI S λvs H1 e1 d1=>hr (vw C A B) vs H1 Q (S.mono e1).vd d1 λv H' bs e2 hf h2=>q v H' bs (e1.trans e2) (λb hb=>⟨e1.free (hf b hb).1,(hf b hb).2⟩) h2
theorem bx {n:Str} {id:String} (B:Bk X k) (ha:PA X (e :: es) (dA X.K C τ ds)) (c:hX X (.builtin id) ds s) (hn:n ∈ aB:=by decide) (hg:Gl X n:=by rfl) (hv:bootBuiltins n=some (.builtin id):=by decide +kernel) (h1:n ≠ "__name__":=by decide) (hdb:(n == ("__debug__" : Str))=false:=by decide)
   (he:starEach (e :: es) X.env=(false,eval e X.env) :: starEach es X.env:=by rfl) (hpl:(backTo pos (starEach es X.env)).any (·.1)=false:=by rfl):PE X (.Call (.Name n p) (e :: es) [] pos) (dE X.K C τ s):=by
 obtain ⟨r,h1,h2⟩:=c
 exact peW (mL h1 hg (B.blt _ hn) hv ha (by assumption) hdb he hpl) (tD h2)
theorem qz {n:Str} {T:String} (B:Bk X k) (ha:PA X (e :: es) (dA X.K C τ ds)) (c:hX X (.type T) ds s) (hn:n ∈ aB:=by decide) (hg:Gl X n:=by rfl) (hv:bootBuiltins n=some (.type T):=by decide +kernel) (h1:n ≠ "__name__":=by decide) (hdb:(n == ("__debug__" : Str))=false:=by decide)
   (he:starEach (e :: es) X.env=(false,eval e X.env) :: starEach es X.env:=by rfl) (hpl:(backTo pos (starEach es X.env)).any (·.1)=false:=by rfl):PE X (.Call (.Name n p) (e :: es) [] pos) (dE X.K C τ s):=by
 obtain ⟨r,h1,h2⟩:=c
 exact peW (q9 h1 hg (B.blt _ hn) hv ha (by assumption) hdb he hpl) (tD h2)
theorem il {K:PySem.W.Frag} {H:Hp} {M:Addr->Prop} {v:V} (h:Den K (hd H M) v x):cb K (hd H λb=>M b\/b ∈ ([]:List Addr)) H (some v) [] (.d x):=⟨rfl,v,rfl,h.mono (aC (ao.refl _) λ_ z=>z.elim id λz=>nomatch z)⟩
theorem dY {H H':Hp}:Fr H H' []:=λ_ z=>nomatch z
theorem iM {xs:List D}:hX X (.builtin "len") [.lst xs] (.d (.int xs.length)):=⟨_,hG,λM vs H Q _ d q=>by
 cases d with
 | cons d r=>
   cases r
   cases d with
   | lst h r=>
     refine ⟨_,_,rfl,.inl (aP aQ h),?_⟩
     rw [r.length]
     exact q _ H [] (ao.refl _) dY (il .int)⟩
theorem gc {xs:List D}:hX X (.builtin "len") [.tup xs] (.d (.int xs.length)):=⟨_,hG,λM vs H Q _ d q=>by
 cases d with
 | cons d r=>
   cases r
   cases d with
   | tup h r=>
     refine ⟨_,_,rfl,.inr (aX aQ h),?_⟩
     rw [r.length]
     exact q _ H [] (ao.refl _) dY (il .int)⟩
noncomputable def u5 (i:Int):Int:=if i < 0 then -i else i
theorem mE:hX X (.builtin "abs") [.int i] (.d (.int (u5 i))):=⟨_,rn,λM vs H Q _ d q=>by
 cases d with
 | cons d r=>
   cases r
   cases d
   exact ⟨_,rfl,q _ H [] (ao.refl _) dY (il .int)⟩⟩
theorem rq (hc:X.calm=true):hX X (.builtin "max") [.int i,.int j] (.d (.int (if j > i then j else i))):=⟨_,rh hc,λM vs H Q _ d q=>by
 cases d with
 | cons d r=>
   cases r with
   | cons d' r=>
     cases r
     cases d
     cases d'
     exact ⟨_,_,rfl,q _ H [] (ao.refl _) dY (il .int)⟩⟩
theorem zO (hc:X.calm=true):hX X (.builtin "min") [.int i,.int j] (.d (.int (if j < i then j else i))):=⟨_,qG hc,λM vs H Q _ d q=>by
 cases d with
 | cons d r=>
   cases r with
   | cons d' r=>
     cases r
     cases d
     cases d'
     exact ⟨_,_,rfl,q _ H [] (ao.refl _) dY (il .int)⟩⟩
theorem wk {c:Bool}:hX X (.type "int") [.bl c] (.d (.int (if c then 1 else 0))):=⟨_,qY,λM vs H Q _ d q=>by
 cases d with
 | cons d r=>
   cases r
   cases d
   exact .inr ⟨_,rfl,q _ H [] (ao.refl _) dY (il .int)⟩⟩
theorem jv {K:PySem.W.Frag} {H:Hp} {M:Addr->Prop} {p:Addr} {vs:List V} {xs:List D} (hp:H p=none) (d:av K (hd H M) vs xs) :
   ao H (upd H p (.lst vs))/\Fr H (upd H p (.lst vs)) [p]/\cb K (hd (upd H p (.lst vs)) λb=>M b\/b ∈ [p]) (upd H p (.lst vs)) (some (.ref p)) [p] (.o xs):=
 ⟨aq hp _,λb hb=>by
   obtain rfl:=List.mem_singleton.mp hb
   exact ⟨hp,_,aT⟩,p,vs,rfl,rfl,aT,d.mono λb o z=>by
     obtain ⟨z1,z2⟩:=aE.mp z
     refine aE.mpr ⟨λy=>?_,aq hp _ _ _ z2⟩
     rcases y with y | y
     · exact z1 y
     · rw [List.mem_singleton.mp y] at z2; rw [hp] at z2; cases z2⟩
theorem rW {xs:List D}:hX X (.type "list") [.lst xs] (.o xs):=⟨_,gB,λM vs H Q _ d q=>by
 cases d with
 | cons d r=>
   cases r
   cases d with
   | lst h r=>
     refine ⟨_,_,rfl,.inl (aP aQ h),λp hp=>?_⟩
     obtain ⟨z1,z2,z3⟩:=jv (K:=X.K) (M:=M) hp r
     exact q _ _ [p] z1 z2 z3⟩
theorem qk {xs:List D}:hX X (.type "list") [.tup xs] (.o xs):=⟨_,gB,λM vs H Q _ d q=>by
 cases d with
 | cons d r=>
   cases r
   cases d with
   | tup h r=>
     refine ⟨_,_,rfl,.inr (aX aQ h),λp hp=>?_⟩
     obtain ⟨z1,z2,z3⟩:=jv (K:=X.K) (M:=M) hp r
     exact q _ _ [p] z1 z2 z3⟩
theorem oI {K:PySem.W.Frag} {H:Hp} {vs:List V} {ds:List D} {i:Int} {d:D} (r:av K H vs ds) (h:atI ds i=some d):∃ v,atI vs i=some v/\Den K H v d:=by
 unfold atI at h ⊢
 rw [r.length]
 cases e:ixN ds.length i with
 | none=>rw [e] at h; cases h
 | some j=>rw [e] at h; exact r.get h
noncomputable def vN (X:Cx) (x y z:D):Prop:=∃ r:R2,IxR X r /\
 ∀ (M:Addr->Prop) (v w:V) (H:Hp) (Q:VK),(∀ b,M b->∃ o,H b=some o)->Den X.K (hd H M) v x->Den X.K (hd H M) w y->(∀ u H',ao H H'->Den X.K (hd H' M) u z->Q u H')->r v w H Q
theorem aL (ha:PE X a (dE X.K C τ (.d x))) (hb:PE X b (dE X.K C τ (.d y))) (ho:vN X x y z) (hs:gQ b:=by exact λ_ _=>rfl):PE X (.Subscript a b pos) (dE X.K C τ (.d z)):=by
 obtain ⟨r,h1,h2⟩:=ho
 exact peW (pR h1 ha hb hs) (two h2)
theorem bb {xs:List D} (h:atI xs i=some z):vN X (.lst xs) (.int i) z:=⟨_,kW,λM v w H Q _ d1 d2 q=>by
 cases d2
 cases d1 with
 | lst hs r=>
   obtain ⟨v,e,d⟩:=oI r h
   exact ⟨_,_,_,_,rfl,rfl,aP aQ hs,e,q _ H (ao.refl _) d⟩⟩
theorem aM {xs:List D} (h:atI xs i=some z):vN X (.tup xs) (.int i) z:=⟨_,rD,λM v w H Q _ d1 d2 q=>by
 cases d2
 cases d1 with
 | tup hs r=>
   obtain ⟨v,e,d⟩:=oI r h
   exact ⟨_,_,_,_,rfl,rfl,aX aQ hs,e,q _ H (ao.refl _) d⟩⟩
theorem du (n:Nat) {nm:Str} {xs:List D} (hb:PE X b (dE X.K false τ (.d (.int i)))) (hz:atI xs i=some z) (h:τ[n]?=some (.o xs):=by rfl) (hs:gQ b:=by exact λ_ _=>rfl) (hN:X.N[n]?=some nm:=by rfl)
   (hv:Vis X.env.scope nm:=by first | exact Or.inl rfl | exact Or.inr (Or.inl rfl) | exact Or.inr (Or.inr rfl)) (hd:(nm == ("__debug__" : Str))=false:=by decide) (hcd:(nm == ("__classdict__" : Str))=false:=by decide):PE X (.Subscript (.Name nm p) b pos) (dE X.K C τ (.d z)):=
 peW (pR kW (bD (i:=n) hN hv hd hcd) hb hs) λσ H Q q=>by
   obtain ⟨A,H₀,B,S,k⟩:=di q
   obtain ⟨l,vs,hb,e1,e2,d⟩:=S.sl n _ h
   refine ⟨_,slot_of e1,aY S λw H1 e3 d1=>?_⟩
   cases d1
   obtain ⟨v,e4,d4⟩:=oI d hz
   exact ⟨l,vs,i,v,rfl,rfl,SqL.of (e3 _ _ e2),e4,k v H1 e3 (d4.mono (aC e3 λ_ z=>i8 z))⟩
noncomputable def dO (K:PySem.W.Frag) (τ:List Sl) (c:Option Int):TO:=λσ H Q=>∃ A H₀ B,Sta K A H₀ τ B σ H/\∀ H',ao H H'->Q c H'
theorem zN {e:Option Expr} {t t':TO} (h:PO X e t) (f:∀ σ H Q,t' σ H Q->t σ H Q):PO X e t':=λpins s σ H Q I q=>h pins s σ H Q I (f σ H Q q)
theorem jc:PO X none (dO X.K τ none):=zN u4 λσ H Q ⟨A,H₀,B,S,k⟩=>k H (ao.refl _)
theorem fg (h:PE X e (dE X.K false τ (.d (.int i)))):PO X (some e) (dO X.K τ (some i)):=zN (vL h) λσ H Q ⟨A,H₀,B,S,k⟩=>aY S λv H1 e1 d1=>by
 cases d1
 exact ⟨_,rfl,k H1 e1⟩
noncomputable def cutD (xs:List D) (lo hi:Option Int):List D:=(xs.drop (HT.sIx xs.length 0 lo)).take (HT.sIx xs.length xs.length hi - HT.sIx xs.length 0 lo)
theorem AM {lo hi:Option Expr} {l u:Option Int} {xs:List D} {p2:Pos} (ha:PE X a (dE X.K C τ (.d (.lst xs)))) (hl:PO X lo (dO X.K τ l)) (hu:PO X hi (dO X.K τ u)):PE X (.Subscript a (.Slice lo hi none p2) pos) (dE X.K C τ (.o (cutD xs l u))):=
 peW (mS uU ha hl hu) λσ H Q ⟨A,H₀,B,S,k⟩=>aY S λv H1 e1 d1=>⟨A,H₀,B,S.mono e1,λH2 e2=>⟨A,H₀,B,(S.mono e1).mono e2,λH3 e3=>by
   cases d1 with
   | @lst _ ws _ h r=>
     have h:=aP (e2.trans e3) (aP aQ h)
     refine ⟨_,_,rfl,h,λp hp=>?_⟩
     have r:=r.mono (aC (e2.trans e3) λ_ z=>z)
     have r':av X.K (hd H3 (vw C A B)) (jE ws l u) (cutD xs l u):=by
       unfold jE cutD
       rw [r.length]
       exact (r.drop _).take _
     obtain ⟨z1,z2,z3⟩:=jv (K:=X.K) hp r'
     exact k _ _ [p] (e1.trans (e2.trans (e3.trans z1))) (λb hb=>⟨(e1.trans (e2.trans e3)).free (z2 b hb).1,(z2 b hb).2⟩) z3⟩⟩
inductive Ty where
 | int | bool | str | list | tuple
noncomputable def tyN:Ty->String
 | .int=>"int" | .bool=>"bool" | .str=>"str" | .list=>"list" | .tuple=>"tuple"
noncomputable def zT:D->String
 | .non=>"NoneType" | .bl _=>"bool" | .int _=>"int" | .str _=>"str" | .tup _=>"tuple" | .lst _=>"list" | .box _=>"dict"
noncomputable def jX:Ty->D->Bool
 | .int,.int _=>true
 | .int,.bl _=>true
 | .bool,.bl _=>true
 | .str,.str _=>true
 | .list,.lst _=>true
 | .tuple,.tup _=>true
 | _,_=>false
theorem xq (K:PySem.W.Frag) (d:D) (t:Ty):PySem.W.kitOne K (.type (zT d)) (.type (tyN t))=some (jX t d):=by
 cases d <;> cases t <;> (show PySem.W.kitOne K (.type _) (.type _)=some _) <;> with_unfolding_all rfl
theorem yr (t:Ty):e8 X (.builtin "isinstance") (λxs H Q=>∃ G x d,ao G H/\xs=[x,.ty (tyN t)]/\Den X.K G x d/\Q (.bl (jX t d)) H):=by
 intro pins s σ H xs us Q I r q
 obtain ⟨G,x,d,sg,rfl,dx,q⟩:=q
 obtain ⟨u,w,rfl,rx,rt⟩:∃ u w,us=[u,w]/\RelV x u/\RelV (.ty (tyN t)) w:=by
   cases r with
   | cons r1 r=>cases r with
     | cons r2 r=>cases r; exact ⟨_,_,rfl,r1,r2⟩
 cases (show w=Value.type (tyN t) from rt)
 have kt:=xq X.K d t
 have fin:∀ tk,EP X pins σ Q (.bool (jX t d)) { s with toks:=tk }:=λtk=>⟨.bl _,H,I.tok _,rfl,q⟩
 cases dx with
 | non=>cases (show u=Value.none from rx); exact PySem.W.kia_one PySem.W.kitx_none I.kIn True.intro kt (λz=>nomatch z) fin
 | bl=>cases (show u=Value.bool _ from rx); exact PySem.W.kia_one PySem.W.kitx_bool I.kIn True.intro kt (λz=>nomatch z) fin
 | int=>obtain ⟨t',z⟩:=(show ∃ t,u=Value.int _ t from rx); cases z; exact PySem.W.kia_one PySem.W.kitx_int I.kIn True.intro kt (λz=>nomatch z) fin
 | str=>obtain ⟨t',z⟩:=(show ∃ t,u=Value.str _ t from rx); cases z; exact PySem.W.kia_one PySem.W.kitx_str I.kIn True.intro kt (λz=>nomatch z) fin
 | tup h r1=>
   cases (show u=Value.ref _ from rx)
   obtain ⟨its,_,⟨o,h1,h2,_⟩,_⟩:=I.tuple (aX sg h)
   exact PySem.W.kia_one PySem.W.kitx_tuple I.kIn ⟨o,h1,h2⟩ kt (λz=>nomatch z) fin
 | lst h r1=>
   cases (show u=Value.ref _ from rx)
   obtain ⟨its,_,⟨o,n,h1,h2,_⟩,_⟩:=I.list (aP sg h)
   exact PySem.W.kia_one PySem.W.kitx_list I.kIn ⟨o,h1,h2⟩ kt (λz=>nomatch z) fin
 | @box a x h=>
   cases (show u=Value.ref _ from rx)
   obtain ⟨o',h1,h2⟩:=x.isd h
   obtain ⟨o,h3,h4⟩:=h2 _ _ _ _ (I.hok a _ (sg _ _ h1))
   exact PySem.W.kia_one PySem.W.kitx_dict I.kIn ⟨o,h3,h4⟩ kt (λz=>nomatch z) fin
theorem eK {n:Str} {q:Pos} (t:Ty) (B:Bk X k) (ha:PE X a (dE X.K false τ (.d x))) (hn:n ∈ aB:=by decide) (ht:bootBuiltins n=some (.type (tyN t)):=by decide +kernel) (hg:Gl X "isinstance":=by rfl) (hg':Gl X n:=by rfl) (h1:n ≠ "__name__":=by decide) (hdb:(n == ("__debug__" : Str))=false:=by decide)
   (he:starEach [a,.Name n q] X.env=(false,eval a X.env) :: starEach [.Name n q] X.env:=by rfl) (hpl:(backTo pos (starEach [.Name n q] X.env)).any (·.1)=false:=by rfl):PE X (.Call (.Name "isinstance" p) [a,.Name n q] [] pos) (dE X.K C τ (.d (.bl (jX t x)))):=by
 refine peW (mL (yr t) hg (B.blt _ (by decide)) (by decide +kernel) (bK ha (bK (vh (v:=.ty (tyN t)) hg' (B.blt _ hn) ht rfl h1 hdb) cQ) he) (by decide) (by decide) he hpl) λσ H Q q=>?_
 obtain ⟨A,H₀,B,S,k⟩:=di q
 exact aY S λv H1 e1 d1=>⟨_,v,x,aQ,rfl,d1,k _ H1 e1 .bl⟩
end
section
variable {K:PySem.W.Frag} {A:Addr->Prop} {H₀ H H':Hp} {τ:List Sl} {B:Nat->List Addr} {σ:L2.St}
theorem Sta.put (S:Sta K A H₀ τ B σ H) {i:Nat} {a:Addr} {xs ys:List D} {vs:List V} (hi:τ[i]?=some (.o xs)) (hB:B i=[a]) (d:av K (hd H (own A B)) vs ys):Sta K A H₀ (τ.set i (.o ys)) B σ (upd H a (.lst vs)):=by
 have ha:own A B a:=.inr ⟨i,by rw [hB]; exact List.mem_singleton.mpr rfl⟩
 have ne:∀ b,b ≠ a->upd H a (.lst vs) b=H b:=λb h=>aK h
 have sm:ao (hd H (own A B)) (hd (upd H a (.lst vs)) (own A B)):=λb o z=>by
   obtain ⟨z1,z2⟩:=aE.mp z
   exact aE.mpr ⟨z1,by rw [ne b (λe=>z1 (e ▸ ha))]; exact z2⟩
 have f0:H₀ a=none:=S.fr i a (by rw [hB]; exact List.mem_singleton.mpr rfl)
 have hs:ao H₀ (upd H a (.lst vs)):=λb o z=>by rw [ne b (λe=>by rw [e,f0] at z; cases z)]; exact S.same b o z
 refine ⟨hs,by rw [List.length_set,S.len],λj t hj=>?_,S.fr,S.uq,S.ad,λj b hb=>?_⟩
 · by_cases ej:j=i
   · subst ej
     have hl:=(List.getElem?_eq_some_iff.mp hi).1
     rw [List.getElem?_set_self hl] at hj
     cases hj
     obtain ⟨a',vs',e1,e2,_,_⟩:=S.sl j _ hi
     rw [hB] at e1
     cases e1
     exact ⟨a,vs,hB,e2,aT,d.mono sm⟩
   · rw [List.getElem?_set_ne (λz=>ej z.symm)] at hj
     have q:=S.sl j t hj
     have off:∀ b ∈ B j,b ≠ a:=λb hb e=>ej (S.uq j i a (e ▸ hb) (by rw [hB]; exact List.mem_singleton.mpr rfl))
     cases t with
     | un=>exact q
     | d x=>obtain ⟨z,u,e,d⟩:=q; exact ⟨z,u,e,d.mono sm⟩
     | o zs=>
       obtain ⟨c,ws,z1,z2,z3,z4⟩:=q
       exact ⟨c,ws,z1,z2,by rw [ne c (off c (by rw [z1]; exact List.mem_singleton.mpr rfl))]; exact z3,z4.mono sm⟩
     | n t=>
       obtain ⟨z0,u,z1,z2⟩:=q
       exact ⟨z0,u,z1,z2.frame sm λb hb=>ne b (off b hb)⟩
     | x E=>
       obtain ⟨c,o,z1,z2,z3,z4⟩:=q
       exact ⟨c,o,z1,z2,by rw [ne c (off c (by rw [z1]; exact List.mem_singleton.mpr rfl))]; exact z3,E.mono sm z4⟩
 · by_cases e:b=a
   · subst e; exact ⟨_,aT⟩
   · rw [ne b e]; exact S.bd j b hb
theorem Sta.fz (S:Sta K A H₀ τ B σ H) {i:Nat} {s:Sl} {x:D} (hi:τ[i]?=some s) (hx:fzD s=some x):Sta K A H₀ (τ.set i (.d x)) (upB B i []) σ H:=
 S.less (λ_ z=>nomatch z) λG g hv=>by
   obtain ⟨u,e,d⟩:=(S.sl i s hi).den (G':=G) g (λb hb o ho=>hv b o hb (λz=>nomatch z) ho) hx
   exact ⟨rfl,u,e,d⟩
end
section
variable {X:Cx} {C:Bool} {τ:List Sl} {x y z:D} {a b e c:Expr} {es:List Expr} {pos p:Pos} {k:Nat} {s:Sl} {ds:List D} {N:Po} {st:Stmt} {rest body els:List Stmt}
theorem ba (h:N.nx τ):PSs X [] (dS X.K τ N):=hZ iW λD σ H ⟨A,H₀,B,S,M⟩=>M.nx τ B σ H h S
theorem bH {M:List Sl->Prop} (h1:PS X st (dS X.K τ { N with nx:=M })) (h2:∀ τ',M τ'->PSs X rest (dS X.K τ' N)):PSs X (st :: rest) (dS X.K τ N):=by
 have h:PSs X rest λD σ H=>∃ τ',M τ'/\dS X.K τ' N D σ H:=λpins s σ H D I ⟨τ',m,q⟩=>h2 τ' m pins s σ H D I q
 exact hZ (dD h1 h) λD σ H ⟨A,H₀,B,S,Me⟩=>⟨A,H₀,B,S,λτ' B' σ' H' m S'=>⟨τ',m,A,H₀,B',S',Me⟩,Me.bk,Me.ct,Me.rt,Me.xc⟩
theorem iD (i:Nat) {s:Sl} {x:D} (h:PSs X rest (dS X.K (τ.set i (.d x)) N)) (hi:τ[i]?=some s:=by rfl) (hx:fzD s=some x:=by rfl):PSs X rest (dS X.K τ N):=hZ h λD σ H ⟨A,H₀,B,S,Me⟩=>⟨A,H₀,_,S.fz hi hx,Me⟩
theorem aO (i:Nat) {n:Str} {p:Pos} (hN:X.N.Nodup) (he:PE X e (dE X.K true τ s)) (hr:PSs X rest (dS X.K (τ.set i s) N)) (hi:X.N[i]?=some n:=by rfl) (hx:Loc X.env.scope n:=by first | exact .inl rfl | exact .inr rfl) (hs:swapsWith e (some (.Name n p)) pos.line X.env=pure false:=by rfl)
   (hf:X.fn n=true\/X.env.scope.names.lookup n=some .local:=by first | exact .inl rfl | exact .inr rfl | assumption):PSs X (.Assign [.Name n p] e pos :: rest) (dS X.K τ N):=
 bH (M:=(·=τ.set i s)) (psW (rA hN hi hx he hs hf) λD σ H ⟨A,H₀,B,S,Me⟩=>⟨A,H₀,B,S,λv H' bs e hf h=>Me.nx _ _ _ _ rfl (S.set e hf h)⟩) λ_ e=>e ▸ hr
theorem yL (he:PE X e (dE X.K true τ s)) (hr:PSs X rest (dS X.K τ N)) (hs:swapsWith e none pos.line X.env=pure false:=by rfl):PSs X (.Expr e pos :: rest) (dS X.K τ N):=
 bH (M:=(·=τ)) (psW (cK he hs) λD σ H ⟨A,H₀,B,S,Me⟩=>⟨A,H₀,B,S,λv H' bs e hf h=>Me.nx _ _ _ _ rfl (S.mono e)⟩) λ_ e=>e ▸ hr
theorem aW (he:PE X e (dE X.K false τ s)) (h:N.rt s):PSs X (.Return (some e) pos :: rest) (dS X.K τ N):=
 bH (M:=λ_=>False) (psW (lE he) λD σ H ⟨A,H₀,B,S,Me⟩=>⟨A,H₀,B,S,λv H' bs e hf q=>Me.rt v H' bs s h (S.same.trans e) (λb hb=>⟨S.same.free (hf b hb).1,(hf b hb).2⟩) q⟩) λ_ e=>e.elim
theorem rQ (i:Nat) {n:Str} (h:N.rt s) (hi:τ[i]?=some s:=by rfl) (h0:s ≠ .un:=by exact nofun) (hN:X.N[i]?=some n:=by rfl) (hv:Vis X.env.scope n:=by first | exact Or.inl rfl | exact Or.inr (Or.inl rfl) | exact Or.inr (Or.inr rfl))
   (hd:(n == ("__debug__" : Str))=false:=by decide) (hcd:(n == ("__classdict__" : Str))=false:=by decide):PSs X (.Return (some (.Name n p)) pos :: rest) (dS X.K τ N):=
 bH (M:=λ_=>False) (psW (lE (bD hN hv hd hcd)) λD σ H ⟨A,H₀,B,S,Me⟩=>by
   have q:=S.sl i s hi
   obtain ⟨u,e⟩:∃ u,(σ[i]?).join=some u:=by
     cases s with
     | un=>exact absurd rfl h0
     | d x=>obtain ⟨_,u,e,_⟩:=q; exact ⟨u,e⟩
     | o xs=>obtain ⟨_,_,_,e,_⟩:=q; exact ⟨_,e⟩
     | n t=>obtain ⟨_,u,e,_⟩:=q; exact ⟨u,e⟩
     | x E=>obtain ⟨_,_,_,e,_⟩:=q; exact ⟨_,e⟩
   rw [e] at q
   exact ⟨u,slot_of e,Me.rt u H (B i) s h S.same (λb hb=>⟨S.fr i b hb,S.bd i b hb⟩) (q.mono (aC (ao.refl _) λb z=>z.elim .inl λz=>.inr ⟨i,z⟩) (ao.refl _))⟩) λ_ e=>e.elim
theorem wo {H H':Hp} {σ:L2.St} {D:Ends} {A:Addr->Prop} {H₀:Hp} {B:Nat->List Addr} (S:Sta X.K A H₀ τ B σ H) (Me:Meets X.K A H₀ N D) (e:ao H H'):dS X.K τ N D σ H':=⟨A,H₀,B,S.mono e,Me⟩
theorem AY {t:Bool} (hc:PT X c (dT X.K τ t)) (ha:t=true->PSs X body (dS X.K τ N)) (hb:t=false->PSs X els (dS X.K τ N)):PS X (.If c body els pos) (dS X.K τ N):=by
 cases t with
 | true=>exact psW (kB hc (ha rfl) bZ) λD σ H ⟨A,H₀,B,S,Me⟩=>⟨A,H₀,B,S,λH' e=>mw (wo S Me e)⟩
 | false=>exact psW (kB hc bZ (hb rfl)) λD σ H ⟨A,H₀,B,S,Me⟩=>⟨A,H₀,B,S,λH' e=>l6 (wo S Me e)⟩
theorem lx {t:Bool} {M:List Sl->Prop} (hc:PT X c (dT X.K τ t)) (ha:t=true->PSs X body (dS X.K τ { N with nx:=M })) (hb:t=false->PSs X els (dS X.K τ { N with nx:=M })) (hr:∀ τ',M τ'->PSs X rest (dS X.K τ' N)):PSs X (.If c body els pos :: rest) (dS X.K τ N):=
 bH (AY hc ha hb) hr
theorem fT {t:Bool} (hc:PT X c (dT X.K τ t)) (ha:t=true->PSs X body (dS X.K τ { N with nx:=λ_=>False })) (hr:t=false->PSs X rest (dS X.K τ N)):PSs X (.If c body [] pos :: rest) (dS X.K τ N):=by
 cases t with
 | true=>exact lx (M:=λ_=>False) hc ha (λz=>nomatch z) λ_ z=>z.elim
 | false=>exact lx (M:=(·=τ)) hc (λz=>nomatch z) (λ_=>ba rfl) λ_ e=>e ▸ hr rfl
theorem dC {t:Bool} (hc:PT X c (dT X.K τ t)) (ht:t=false) (hr:PSs X rest (dS X.K τ N)):PSs X (.If c body [] pos :: rest) (dS X.K τ N):=fT hc (λz=>by rw [ht] at z; cases z) λ_=>hr
theorem uK (i:Nat) {n:Str} {xs:List D} {ap cp:Pos} (he:PE X e (dE X.K true τ (.d x))) (hl:xs.length < 1000000) (hr:PSs X rest (dS X.K (τ.set i (.o (xs++[x]))) N)) (hi:τ[i]?=some (.o xs):=by rfl) (hN:X.N[i]?=some n:=by rfl)
   (hv:Vis X.env.scope n:=by first | exact Or.inl rfl | exact Or.inr (Or.inl rfl) | exact Or.inr (Or.inr rfl)) (hd:(n == ("__debug__" : Str))=false:=by decide) (hcd:(n == ("__classdict__" : Str))=false:=by decide)
   (hfew:((backTo cp (starEach [e] X.env)).all (λx=>!x.1) && (backToKw cp (keywordEach [] X.env)).all (λx=>x.1.isSome) && decide (([e]:List Expr).length + ([]:List Keyword).length + (if ([]:List Keyword).isEmpty then 0 else 1) < 30))=true:=by rfl)
   (hline:(ap.endLine == cp.line)=true:=by rfl) (hst:starEach [e] X.env=(false,eval e X.env) :: starEach [] X.env:=by rfl) (hpl:(backTo cp (starEach [] X.env)).any (·.1)=false:=by rfl)
   (hs:swapsWith (.Call (.Attribute (.Name n p) "append" ap) [e] [] cp) none pos.line X.env=pure false:=by rfl) (hbase:attributeBase (.Name n p) "append" X.env (eval (.Name n p) X.env)=eval (.Name n p) X.env:=by rfl) :
   PSs X (.Expr (.Call (.Attribute (.Name n p) "append" ap) [e] [] cp) pos :: rest) (dS X.K τ N):=
 bH (M:=(·=τ.set i (.o (xs++[x])))) (psW (cK (iG PySem.F.plainAttrs_list PySem.F.slot_list_append PySem.F.type_list_append dN (bD hN hv hd hcd) (bK he cQ hst) hbase hfew hline hst hpl) hs) λD σ H ⟨A,H₀,B,S,Me⟩=>by
   obtain ⟨l,vs,hb,e1,e2,d⟩:=S.sl i _ hi
   refine ⟨_,slot_of e1,.inl ⟨rfl,_,SqL.of e2⟩,aY S λv H1 e3 d1=>⟨l,vs,v,rfl,rfl,e3 _ _ e2,by rw [d.length]; exact Nat.lt_trans hl (by decide),?_⟩⟩
   exact Me.nx _ _ _ _ rfl ((S.mono e3).put hi hb ((d.mono (aC e3 λ_ z=>z)).append (.cons d1 .nil)))) λ_ e=>e ▸ hr
theorem lQ {K:PySem.W.Frag} {H:Hp}:∀ {vs:List V} {ds:List D} {v:V} {d:D} (j:Nat),av K H vs ds->Den K H v d->av K H (vs.set j v) (ds.set j d)
 | _,_,_,_,_,.nil,_=>.nil
 | _,_,_,_,0,.cons _ r,h=>.cons h r
 | _,_,_,_,j + 1,.cons h' r,h=>.cons h' (lQ j r h)
theorem rZ (i:Nat) {n:Str} {xs:List D} {m:Int} {j:Nat} {ix:Expr} {sp:Pos} (hx:PE X ix (dE X.K false τ (.d (.int m)))) (he:PE X e (dE X.K true τ (.d x))) (hj:ixN xs.length m=some j) (hr:PSs X rest (dS X.K (τ.set i (.o (xs.set j x))) N)) (hi:τ[i]?=some (.o xs):=by rfl) (hN:X.N[i]?=some n:=by rfl)
   (hv:Vis X.env.scope n:=by first | exact Or.inl rfl | exact Or.inr (Or.inl rfl) | exact Or.inr (Or.inr rfl)) (hd:(n == ("__debug__" : Str))=false:=by decide) (hcd:(n == ("__classdict__" : Str))=false:=by decide)
   (hs:swapsWithSole [.Subscript (.Name n p) ix sp] e pos.line X.env=pure false:=by rfl) (hw:swappedStores [.Subscript (.Name n p) ix sp] e X.env=pure none:=by rfl) (h1:(assignEach [.Subscript (.Name n p) ix sp] X.env).map (·.2)=[assign (.Subscript (.Name n p) ix sp) X.env]:=by rfl)
   (ha:∀ v,assign (.Subscript (.Name n p) ix sp) X.env v=(do
     let ov <- holding [v] (eval (.Name n p) X.env)
     let iv <- holding [v,ov] (eval ix X.env)
     standAt sp
     holding [v,ov,iv] (setItem ov iv v)
     release [v,ov,iv] []):=by intro _; rfl) :
   PSs X (.Assign [.Subscript (.Name n p) ix sp] e pos :: rest) (dS X.K τ N):=
 bH (M:=(·=τ.set i (.o (xs.set j x)))) (psW (oo he (tJ (bD hN hv hd hcd) hx set_list ha) hs hw h1) λD σ H ⟨A,H₀,B,S,Me⟩=>aY S λv H1 e1 d1=>by
   obtain ⟨l,vs,hb,f1,f2,d⟩:=(S.mono e1).sl i _ hi
   refine ⟨_,slot_of f1,aY (S.mono e1) λw H2 e2 d2=>?_⟩
   cases d2
   refine ⟨l,vs,m,j,rfl,rfl,e2 _ _ f2,by rw [d.length]; exact hj,?_⟩
   exact Me.nx _ _ _ _ rfl (((S.mono e1).mono e2).put hi hb (lQ j (d.mono (aC e2 λ_ z=>z)) (d1.mono (aC e2 λ_ z=>z))))) λ_ e=>e ▸ hr
end
end Hy
namespace Hy
open PySem PySem.Spec PyProof.Rows L2
open Ev (D Den av aq aX aP Ite Itz Itv xB yf yZ k5 nR nV aR gu dF PTs cJ eE)
noncomputable def Yl (K:PySem.W.Frag) (J:L2.It) (xs:List D) (G:Hp):Prop:=∀ H,ao G H->(∀ i,xs.length<=i->J.stop i H)/\∀ (i:Nat) (h:i < xs.length),J.go i H /\
 ∀ x H',J.yld i H x H'->ao H H'/\∀ M:Addr->Prop,(∀ b,M b->∃ o,H b=some o)->ao G (hd H M)->Den K (hd H' M) x xs[i]
noncomputable def dI (K:PySem.W.Frag) (τ:List Sl) (xs:List D):TI:=λσ H R=>∃ A H₀ B,Sta K A H₀ τ B σ H/\∀ J H',ao H H'->Yl K J xs (hd H' (own A B))->R J H'
noncomputable def dG (K:PySem.W.Frag) (τ:List Sl) (x:D) (τ':List Sl):TG:=λv σ H Q=>∃ A H₀ B,Sta K A H₀ τ B σ H/\Den K (hd H (own A B)) v x/\∀ σ' B',Sta K A H₀ τ' B' σ' H->Q σ' H
theorem piW {X:Cx} {tg e:Expr} {t t':TI} (h:PI X tg e t) (f:∀ σ H Q,t' σ H Q->t σ H Q):PI X tg e t':=λpins s σ H Q I q=>h pins s σ H Q I (f σ H Q q)
theorem pgW {X:Cx} {e:Expr} {t t':TG} (h:PG X e t) (f:∀ v σ H Q,t' v σ H Q->t v σ H Q):PG X e t':=λpins s σ H v u Q I r q=>h pins s σ H v u Q I r (f v σ H Q q)
section
variable {K:PySem.W.Frag} {G:Hp} {a:Addr} {vs:List V} {xs:List D}
theorem vm (h:SqL K G a vs) (r:av K G vs xs):Yl K (Itl K a) xs G:=by
 intro H sg
 have hl:=r.length
 refine ⟨λi hi=>⟨vs,aP sg h,by omega⟩,λi hi=>?_⟩
 obtain ⟨v,hv,dv⟩:=r.get (List.getElem?_eq_getElem hi)
 refine ⟨⟨vs,v,aP sg h,hv⟩,λx H' ⟨e1,e2⟩=>?_⟩
 subst e1
 have ex:x=v:=by have:=e2 vs (aP sg h); rw [hv] at this; exact (Option.some.inj this).symm
 subst ex
 exact ⟨ao.refl _,λM _ sv=>dv.mono sv⟩
theorem yA (h:SqT K G a vs) (r:av K G vs xs):Yl K (Itt K a) xs G:=by
 intro H sg
 have hl:=r.length
 refine ⟨λi hi=>⟨vs,aX sg h,by omega⟩,λi hi=>?_⟩
 obtain ⟨v,hv,dv⟩:=r.get (List.getElem?_eq_getElem hi)
 refine ⟨⟨vs,v,aX sg h,hv⟩,λx H' ⟨e1,e2⟩=>?_⟩
 subst e1
 have ex:x=v:=by have:=e2 vs (aX sg h); rw [hv] at this; exact (Option.some.inj this).symm
 subst ex
 exact ⟨ao.refl _,λM _ sv=>dv.mono sv⟩
noncomputable def fY (lo:Int) (n:Nat):List D:=(List.range n).map λk=>D.int (lo + (k:Nat))
theorem aS (lo:Int) (n:Nat):(fY lo n).length=n:=by simp [fY]
theorem i4 (lo:Int) (n i:Nat) (h:i < (fY lo n).length):(fY lo n)[i]=.int (lo + (i:Nat)):=by simp [fY]
theorem ur (lo:Int) (n:Nat):Yl K (Itr lo n) (fY lo n) G:=by
 intro H sg
 refine ⟨λi hi=>by rw [aS] at hi; exact hi,λi hi=>?_⟩
 have hi':i < n:=by rw [aS] at hi; exact hi
 refine ⟨hi',λx H' ⟨e1,e2⟩=>?_⟩
 subst e1 e2
 refine ⟨ao.refl _,λM _ sv=>?_⟩
 rw [i4]
 exact .int
noncomputable def kR (xs:List D):List D:=(List.range xs.length).map λi=>D.tup [.int (i:Nat),xs.getD i .non]
theorem hJ (xs:List D):(kR xs).length=xs.length:=by simp [kR]
theorem ql (xs:List D) (i:Nat) (h:i < (kR xs).length):(kR xs)[i]=.tup [.int (i:Nat),xs.getD i .non]:=by simp [kR]
theorem x5 (h:SqL K G a vs) (r:av K G vs xs):Yl K (Ite K a) (kR xs) G:=by
 intro H sg
 have hl:=r.length
 have el:=hJ xs
 refine ⟨λi hi=>⟨vs,aP sg h,by omega⟩,λi hi=>?_⟩
 have hi':i < xs.length:=by omega
 obtain ⟨v,hv,dv⟩:=r.get (List.getElem?_eq_getElem hi')
 refine ⟨⟨vs,v,aP sg h,hv⟩,λy H' ⟨p,x,hp,e0,e1,e2⟩=>?_⟩
 subst e0 e1
 have ex:x=v:=by have:=e2 vs (aP sg h); rw [hv] at this; exact (Option.some.inj this).symm
 subst ex
 refine ⟨aq hp _,λM hM sv=>?_⟩
 rw [ql,show xs.getD i .non=xs[i] by simp [List.getD,hi']]
 exact .tup (SqT.of (jq hM hp)) (.cons .int (.cons (dv.mono (sv.trans (aC (aq hp _) λ_ z=>z))) .nil))
end
section
variable {X:Cx} {C:Bool} {τ:List Sl} {x y z:D} {a b e c tg it:Expr} {es:List Expr} {pos p q:Pos} {k:Nat} {s:Sl} {xs:List D} {N:Po} {st:Stmt} {rest body els:List Stmt}
theorem bU (h:PE X it (dE X.K true τ (.d (.lst xs)))) (hc:X.calm=true:=by first | rfl | assumption):PI X tg it (dI X.K τ xs):=piW (v3 hc h) λσ H R ⟨A,H₀,B,S,k⟩=>aY S λv H1 e1 d1=>by
 cases d1 with
 | lst h r=>exact ⟨_,rfl,⟨_,aP aQ h⟩,k _ H1 e1 (vm h r)⟩
theorem AB (h:PE X it (dE X.K true τ (.d (.tup xs)))) (hc:X.calm=true:=by first | rfl | assumption):PI X tg it (dI X.K τ xs):=piW (yo hc h) λσ H R ⟨A,H₀,B,S,k⟩=>aY S λv H1 e1 d1=>by
 cases d1 with
 | tup h r=>exact ⟨_,rfl,⟨_,aX aQ h⟩,k _ H1 e1 (yA h r)⟩
theorem fR {n:Int} (B:Bk X k) (h:PE X a (dE X.K false τ (.d (.int n)))) (h1:-(2 ^ 62)<=n) (h2:n < 2 ^ 62) (hg:Gl X "range":=by rfl) (hs:starEach [a] X.env=[(false,eval a X.env)]:=by rfl):PI X tg (.Call (.Name "range" p) [a] [] pos) (dI X.K τ (fY 0 n.toNat)):=
 piW (qw (.inl B.calm) hg (B.blt _ (by decide)) (ae h ag hs) hs) λσ H R ⟨A,H₀,B,S,k⟩=>eI S λvs H1 e1 d1=>by
   cases d1 with
   | cons d r=>
     cases r
     cases d
     exact ⟨n,rfl,h1,h2,k _ H1 e1 (ur 0 _)⟩
theorem rR {m n:Int} (B:Bk X k) (h:PE X a (dE X.K false τ (.d (.int m)))) (h':PE X b (dE X.K false τ (.d (.int n)))) (h1:-(2 ^ 62)<=m/\m < 2 ^ 62/\-(2 ^ 62)<=n/\n < 2 ^ 62) (hg:Gl X "range":=by rfl) (hs:starEach [a,b] X.env=[(false,eval a X.env),(false,eval b X.env)]:=by rfl)
   (hs2:starEach [b] X.env=[(false,eval b X.env)]:=by rfl):PI X tg (.Call (.Name "range" p) [a,b] [] pos) (dI X.K τ (fY m (n - m).toNat)):=
 piW (qy (.inl B.calm) hg (B.blt _ (by decide)) (ae h (ae h' ag hs2) (by rw [hs,hs2])) hs hs2) λσ H R ⟨A,H₀,B,S,k⟩=>eI S λvs H1 e1 d1=>by
   cases d1 with
   | cons d r=>
     cases r with
     | cons d' r=>
       cases r
       cases d
       cases d'
       exact ⟨m,n,rfl,h1,k _ H1 e1 (ur m _)⟩
theorem wQ {ts:List Expr} {m:Nat} {tp:Pos} (B:Bk X k) (h:PE X a (dE X.K true τ (.d (.lst xs)))) (hg:Gl X "enumerate":=by rfl) (hs:starEach [a] X.env=[(false,eval a X.env)]:=by rfl):PI X (.Tuple ts m tp) (.Call (.Name "enumerate" p) [a] [] pos) (dI X.K τ (kR xs)):=
 piW (k5 B.calm hg (B.blt _ (by decide)) (ae h ag hs) hs) λσ H R ⟨A,H₀,B,S,k⟩=>eI S λvs H1 e1 d1=>by
   cases d1 with
   | cons d r=>
     cases r
     cases d with
     | lst h r=>exact ⟨_,rfl,⟨_,aP aQ h⟩,k _ H1 e1 (x5 h r)⟩
theorem zi (i:Nat) {n:Str} (hN:X.N.Nodup) (hi:X.N[i]?=some n:=by rfl) (hx:Loc X.env.scope n:=by first | exact .inl rfl | exact .inr rfl) (hf:X.fn n=true\/X.env.scope.names.lookup n=some .local:=by first | exact .inl rfl | exact .inr rfl | assumption):PG X (.Name n p) (dG X.K τ x (τ.set i (.d x))):=
 pgW (fH (i:=i) hN hi hx hf) λv σ H Q ⟨A,H₀,B,S,d,k⟩=>k _ _ (S.set (ao.refl _) (bs:=[]) (λ_ z=>nomatch z) (il d))
theorem wR (i j:Nat) {n m:Str} {p2 pt:Pos} {md:Nat} (hc:X.calm=true) (hN:X.N.Nodup) (hi:X.N[i]?=some n:=by rfl) (hj:X.N[j]?=some m:=by rfl) (hx:Loc X.env.scope n:=by first | exact .inl rfl | exact .inr rfl) (hy:Loc X.env.scope m:=by first | exact .inl rfl | exact .inr rfl)
   (hf:X.fn n=true\/X.env.scope.names.lookup n=some .local:=by first | exact .inl rfl | exact .inr rfl | assumption) (hf':X.fn m=true\/X.env.scope.names.lookup m=some .local:=by first | exact .inl rfl | exact .inr rfl | assumption) :
   PG X (.Tuple [.Name n p,.Name m p2] md pt) (dG X.K τ (.tup [x,y]) ((τ.set i (.d x)).set j (.d y))):=by
 refine pgW (uC hc (ji (fH (i:=i) hN hi hx hf) (ji (fH (i:=j) hN hj hy hf') qp))) λv σ H Q ⟨A,H₀,B,S,d,k⟩=>?_
 cases d with
 | tup h r=>
   cases r with
   | cons d1 r=>
     cases r with
     | cons d2 r=>
       cases r
       have S1:=S.set (i:=i) (ao.refl _) (bs:=[]) (λ_ z=>nomatch z) (il d1)
       have sub:∀ b,own A (upB B i []) b->own A B b:=λb z=>z.elim .inl λ⟨j,z⟩=>(bh z).elim (λz=>nomatch z.2) λz=>.inr ⟨j,z.2⟩
       exact ⟨_,_,rfl,aX aQ h,rfl,_,_,rfl,_,_,rfl,rfl,k _ _ (S1.set (i:=j) (ao.refl _) (bs:=[]) (λ_ z=>nomatch z) (il (d2.mono (aC (ao.refl _) sub))))⟩
theorem Sta.base {K:PySem.W.Frag} {A:Addr->Prop} {H₀ H:Hp} {τ:List Sl} {B:Nat->List Addr} {σ:L2.St} (S:Sta K A H₀ τ B σ H):ao H₀ (hd H λb=>∃ i,b ∈ B i)/\Sta K A (hd H λb=>∃ i,b ∈ B i) τ B σ H:=by
 have s0:ao H₀ (hd H λb=>∃ i,b ∈ B i):=λb o h=>aE.mpr ⟨λ⟨i,z⟩=>(by rw [S.fr i b z] at h; cases h),S.same _ _ h⟩
 exact ⟨s0,aQ,S.len,S.sl,λi b hb=>by
   cases e:hd H (λb=>∃ i,b ∈ B i) b with
   | none=>rfl
   | some o=>exact absurd ⟨i,hb⟩ (aE.mp e).1,S.uq,λb hb=>let ⟨o,q⟩:=S.ad b hb; ⟨o,s0 _ _ q⟩,S.bd⟩
theorem Sta.back {K:PySem.W.Frag} {A:Addr->Prop} {H₀ G H:Hp} {τ:List Sl} {B:Nat->List Addr} {σ:L2.St} (S:Sta K A G τ B σ H) (s:ao H₀ G) (ad:∀ b,A b->∃ o,H₀ b=some o):Sta K A H₀ τ B σ H:=
 ⟨s.trans S.same,S.len,S.sl,λi b hb=>s.free (S.fr i b hb),S.uq,ad,S.bd⟩
theorem tF {M:Nat->List Sl->Prop} {T:Nat->List Sl->List Sl} (B:Bk X k) (hi:PI X tg it (dI X.K τ xs)) (h0:M 0 τ) (hg:∀ i (h:i < xs.length) τ',M i τ'->PG X tg (dG X.K τ' xs[i] (T i τ')))
   (hb:∀ i,i < xs.length->∀ τ',M i τ'->PSs X body (dS X.K (T i τ') { N with nx:=M (i + 1),ct:=M (i + 1),bk:=N.nx })) (hn:∀ τ',M xs.length τ'->N.nx τ')
   (hs:∀ x,foldedSetIterable it X.env x=pure x:=by intro _; rfl):PS X (.For tg it body [] pos) (dS X.K τ N):=by
 have hg':PG X tg λv σ H Q=>∃ (i:Nat) (h:i < xs.length) (τ':List Sl),M i τ'/\dG X.K τ' xs[i] (T i τ') v σ H Q:=λpins s σ H v u Q I r ⟨i,h,τ',m,q⟩=>hg i h τ' m pins s σ H v u Q I r q
 have hb':PSs X body λD σ H=>∃ i τ',i < xs.length/\M i τ'/\dS X.K (T i τ') { N with nx:=M (i + 1),ct:=M (i + 1),bk:=N.nx } D σ H:=λpins s σ H D I ⟨i,τ',h,m,q⟩=>hb i h τ' m pins s σ H D I q
 refine psW (sH B.po hi hg' hb' hs) λD σ H ⟨A,H₀,B,S,Me⟩=>⟨A,H₀,B,S,λJ H1 e1 yl=>?_⟩
 obtain ⟨s0,S1⟩:=(S.mono e1).base
 have sub:∀ {H'},ao (hd H1 λb=>∃ i,b ∈ B i) H'->ao (hd H1 (own A B)) H':=λe=>(aC (ao.refl _) λ_ z=>.inr z).trans e
 refine ⟨λi m σ' H'=>m=xs.length - i/\i<=xs.length/\∃ τ' B',M i τ'/\Sta X.K A (hd H1 λb=>∃ i,b ∈ B i) τ' B' σ' H',⟨xs.length,rfl,Nat.zero_le _,τ,B,h0,S1⟩,?_⟩
 rintro i m σ' H' ⟨rfl,hi,τ',B',hM,S'⟩
 obtain ⟨y1,y2⟩:=yl H' (sub S'.same)
 by_cases hlt:i < xs.length
 · obtain ⟨g,y⟩:=y2 i hlt
   refine .inr ⟨g,λσ2 H2=>∃ τ2 B2,M (i + 1) τ2/\Sta X.K A (hd H1 λb=>∃ i,b ∈ B i) τ2 B2 σ2 H2,λσ2 H2 q=>⟨xs.length - (i + 1),by omega,rfl,hlt,q⟩,λx H2 hy=>?_⟩
   obtain ⟨e2,dx⟩:=y x H2 hy
   have S2:=S'.mono e2
   refine ⟨i,hlt,τ',hM,A,_,B',S2,dx (own A B') S'.dm ?_,λσ3 B3 S3=>⟨i,τ',hlt,hM,A,_,B3,S3,?_⟩⟩
   · intro b o z
     obtain ⟨z1,z2⟩:=aE.mp z
     have z3:hd H1 (λb=>∃ i,b ∈ B i) b=some o:=aE.mpr ⟨λy=>z1 (.inr y),z2⟩
     refine aE.mpr ⟨λy=>?_,S'.same _ _ z3⟩
     rcases y with y | ⟨l,y⟩
     · exact z1 (.inl y)
     · rw [S'.fr l b y] at z3; cases z3
   · exact ⟨λτ3 B3 σ3 H3 m S3=>⟨τ3,B3,m,S3⟩,λτ3 B3 σ3 H3 m S3=>Me.nx τ3 B3 σ3 H3 m (S3.back s0 S.ad),λτ3 B3 σ3 H3 m S3=>⟨τ3,B3,m,S3⟩,
       λv H3 bs s3 hr e3 hf q=>Me.rt v H3 bs s3 hr (s0.trans e3) (λb hb=>⟨s0.free (hf b hb).1,(hf b hb).2⟩) q,λH3 e3=>Me.xc H3 (s0.trans e3)⟩
 · have e:i=xs.length:=by omega
   subst e
   exact .inl ⟨y1 _ (Nat.le_refl _),Me.nx τ' B' σ' H' (hn τ' hM) (S'.back s0 S.ad)⟩
theorem dM (j:Nat) {n:Str} (M:Nat->List Sl->Prop) {g:Nat->D} (B:Bk X k) (hN:X.N.Nodup) (hi:PI X (.Name n p) it (dI X.K τ xs)) (hx:∀ i (h:i < xs.length),xs[i]=g i) (h0:M 0 τ)
   (hb:∀ i,i < xs.length->∀ τ',M i τ'->PSs X body (dS X.K (τ'.set j (.d (g i))) { N with nx:=M (i + 1),ct:=M (i + 1),bk:=λ_=>False }))
   (hr:∀ τ',M xs.length τ'->PSs X rest (dS X.K τ' N)) (hs:∀ x,foldedSetIterable it X.env x=pure x:=by intro _; rfl) (hi':X.N[j]?=some n:=by rfl) (hl:Loc X.env.scope n:=by first | exact .inl rfl | exact .inr rfl)
   (hf:X.fn n=true\/X.env.scope.names.lookup n=some .local:=by first | exact .inl rfl | exact .inr rfl | assumption):PSs X (.For (.Name n p) it body [] pos :: rest) (dS X.K τ N):=
 bH (M:=M xs.length) (tF (M:=M) (T:=λi τ'=>τ'.set j (.d (g i))) B hi h0 (λi h τ' m=>by rw [hx i h]; exact zi j hN hi' hl hf)
   (λi h τ' m=>hZ (hb i h τ' m) λD σ H ⟨A,H₀,B,S,Me⟩=>⟨A,H₀,B,S,Me.nx,λ_ _ _ _ z=>z.elim,Me.ct,Me.rt,Me.xc⟩) (λ_ m=>m) hs) hr
theorem rX (j l:Nat) {n m:Str} {p2 pt:Pos} {md:Nat} (M:Nat->List Sl->Prop) {g g':Nat->D} (B:Bk X k) (hN:X.N.Nodup) (hi:PI X (.Tuple [.Name n p,.Name m p2] md pt) it (dI X.K τ xs)) (hx:∀ i (h:i < xs.length),xs[i]=.tup [g i,g' i]) (h0:M 0 τ)
   (hb:∀ i,i < xs.length->∀ τ',M i τ'->PSs X body (dS X.K ((τ'.set j (.d (g i))).set l (.d (g' i))) { N with nx:=M (i + 1),ct:=M (i + 1),bk:=λ_=>False }))
   (hr:∀ τ',M xs.length τ'->PSs X rest (dS X.K τ' N)) (hs:∀ x,foldedSetIterable it X.env x=pure x:=by intro _; rfl) (hi':X.N[j]?=some n:=by rfl) (hj':X.N[l]?=some m:=by rfl) (hl:Loc X.env.scope n:=by first | exact .inl rfl | exact .inr rfl) (hl':Loc X.env.scope m:=by first | exact .inl rfl | exact .inr rfl)
   (hf:X.fn n=true\/X.env.scope.names.lookup n=some .local:=by first | exact .inl rfl | exact .inr rfl | assumption) (hf':X.fn m=true\/X.env.scope.names.lookup m=some .local:=by first | exact .inl rfl | exact .inr rfl | assumption):PSs X (.For (.Tuple [.Name n p,.Name m p2] md pt) it body [] pos :: rest) (dS X.K τ N):=
 bH (M:=M xs.length) (tF (M:=M) (T:=λi τ'=>(τ'.set j (.d (g i))).set l (.d (g' i))) B hi h0 (λi h τ' m=>by rw [hx i h]; exact wR j l B.calm hN hi' hj' hl hl' hf hf')
   (λi h τ' m=>hZ (hb i h τ' m) λD σ H ⟨A,H₀,B,S,Me⟩=>⟨A,H₀,B,S,Me.nx,λ_ _ _ _ z=>z.elim,Me.ct,Me.rt,Me.xc⟩) (λ_ m=>m) hs) hr
theorem fW {n:Nat} (i:Nat) (h:i < (fY 0 n).length):(fY 0 n)[i]=.int (i:Nat):=by rw [i4,Int.zero_add]
theorem zd {bs:List Int} (i:Nat) (h:i < (bs.map D.int).length):(bs.map D.int)[i]=.int (bs.getD i 0):=by
 have:i < bs.length:=by simpa using h
 simp [this]
theorem wz {bs:List Int} (i:Nat) (h:i < (kR (bs.map D.int)).length):(kR (bs.map D.int))[i]=.tup [.int (i:Nat),.int (bs.getD i 0)]:=by
 have:i < bs.length:=by rw [hJ] at h; simpa using h
 rw [ql]
 simp [this]
end
end Hy
namespace Ev
open PySem PySem.Spec PyProof.Rows L2
theorem mM {X:Cx} {gT:TG} {y:Str} {py spos:Pos} {elt tg iter:Expr} {ifs:List Expr} {scope:Scope} {N:List Str} {caps:List (Option Nat)} {pos:Pos} {wi:TI} {In:TG->TT->TE->Prop} (hT:PG X (.Name y py) gT) (c:dF X scope N caps) (hi:PI X tg iter wi)
   (hs:∀ x,foldedSetIterable iter X.env x=pure x)
   (hin:∀ g tt te,In g tt te->∀ s H fp,PG (aR X s H scope N fp) tg g/\PTs (aR X s H scope N fp) ifs tt/\PE (aR X s H scope N fp) elt te)
   (hsw:swapsWith (.ListComp elt [⟨tg,iter,ifs,0⟩] scope pos) (some (.Name y py)) spos.line X.env=pure true) :
   PS X (.Assign [.Name y py] (.ListComp elt [⟨tg,iter,ifs,0⟩] scope pos) spos) (yB (eE In caps wi) gT):=by
 intro pins s σ H D I h
 rw [exec_Assign_Name_used _ _ _ _ hsw]
 refine wpAny_bind (wpAny_standAt (wpAny_bind ?_))
 show wpAny _ _ (do let _ <- comprehension (.ListComp elt [⟨tg,iter,ifs,0⟩] scope pos) scope X.env _ (newList []) false _ (some (assign (.Name y py) X.env))) _ _ s
 refine wpAny_bind ?_
 have hcl:=p8 (gm I c)
 refine wpAny_comprehension_free (use:=some (assign (.Name y py) X.env)) (Q:=λ_ s'=>wpAny (model X.prog X.w) X.A (pure ()) (λ_ s''=>wpAny (model X.prog X.w) X.A (pure Flow.next) (SP X pins D) X.xe s'') X.xe s') (g:=⟨tg,iter,ifs,0⟩) (gs:=[]) rfl hs hcl c.kind c.loc ?_
 show wpAny _ _ (eval iter X.env) _ _ s
 refine thn (hi pins s σ H _ I h) λv s1 h1=>thn h1 λitv s2 h2=>?_
 obtain ⟨kd,it,fp,tn,J,H2,e,I2,hck,T,st2,f2,g,tt,te,hI,q⟩:=h2
 have hc:=qa (scope:=scope) (N:=N) (fp:=fp) hck I2
 subst e
 obtain ⟨Z,⟨m0,z0⟩,turn⟩:=q s2.heap.objs.size (I2.hok.fresh (Nat.le_refl _))
 have ho:∀ b ∈ fp,∃ o,s2.heap.get? b=some o:=λb hb=>let ⟨o,e,_⟩:=T.obj _ _ st2 b hb; ⟨o,e⟩
 have I4:=mf (scope:=scope) (N:=N) (caps:=caps) I2 f2 ho c
 obtain ⟨hg,ht,he⟩:=hin g tt te hI s2 H2 fp
 refine wpAny_newObj_type (kG ?_) (by show 0<=sizeLine; decide)
 have hC:(s2.heap.push { cls:=.type "list",dict:=none,data:=.seq ([]:List Value).toArray }).objs.size=s2.heap.objs.size + 1:=Heap.size_push ..
 dsimp only
 rw [hC]
 have kp:∀ b o,s2.heap.get? b=some o->(pushCells ((s2.heap.push { cls:=.type "list",data:=.seq ([]:List Value).toArray }).push { cls:=.type "dict",data:=.dict #[] }) scope.names).get? b=some o:=λb o e=>
   pushCells_keeps _ _ b o (Heap.get?_push_of_some _ (Heap.get?_push_of_some _ e))
 have st4:tn 0 (pushCells ((s2.heap.push { cls:=.type "list",data:=.seq ([]:List Value).toArray }).push { cls:=.type "dict",data:=.dict #[] }) scope.names):=T.keep _ _ _ st2 λb _ o e=>kp b o e
 have stat:∀ {H':Hp},(∀ b ∈ fp,H' b=none)->∀ b ∈ fp,j9 (aR X s2 H2 scope N fp) [] H' b:=λhn b hb=>
   ⟨hn b hb,(I4.ok.exf b hb).1,I4.ok.exfs b hb,.inl hb,(I4.ok.exf b hb).2,λp hp=>absurd (show p ∈ ([]:List (Addr × Obj)) from hp) (by simp)⟩
 have fr4:∀ b ∈ fp,(upd H2 s2.heap.objs.size (.lst [])) b=none:=λb hb=>by
   obtain ⟨o,e⟩:=ho b hb
   rw [aK (Nat.ne_of_lt (Heap.lt_size e))]; exact (f2 b hb).1
 have loop:codeAny (model X.prog X.w) X.A (.compLoop (.ListComp elt [⟨tg,iter,ifs,0⟩] scope pos) 0 (.ref it) (.ref s2.heap.objs.size) (aR X s2 H2 scope N fp).env)
     (compPost (model X.prog X.w) X.A X.xe (some (assign (.Name y py) X.env)) (λ_ s'=>wpAny (model X.prog X.w) X.A (pure ()) (λ_ s''=>wpAny (model X.prog X.w) X.A (pure Flow.next) (SP X pins D) X.xe s'') X.xe s') (.ref s2.heap.objs.size) (s2.heap.objs.size + 1))
     { s2 with heap:=pushCells ((s2.heap.push { cls:=.type "list",data:=.seq ([]:List Value).toArray }).push { cls:=.type "dict",data:=.dict #[] }) scope.names }:=by
   refine jO (λn s'=>∃ i σ' H',Inv (aR X s2 H2 scope N fp) [] σ' H' s'/\tn i s'.heap/\(∀ b ∈ fp,H' b=none)/\Z i n σ' H') ?_ m0 ⟨0,_,_,I4,st4,fr4,z0⟩
   rintro n s3 ⟨i,σ3,H3,I3,st3,fr3,w3⟩
   rcases turn i n σ3 H3 w3 with ⟨stop,qn⟩ | ⟨go,step⟩
   · refine thn (T.done (aR X s2 H2 scope N fp) rfl rfl rfl hc i [] s3 σ3 H3 _ I3 (stat fr3) st3 stop) λr s5 ⟨hr,I5⟩=>?_
     subst hr
     obtain ⟨m,hn,_⟩:=id I5.loc
     have I6:Inv X pins σ H3 s5:=by
       have lt:∀ b o,s2.heap.get? b=some o->b ≠ s2.heap.objs.size + 1:=λb o e=>Nat.ne_of_lt (Nat.lt_succ_of_lt (Heap.lt_size e))
       have u:=I5.base
       have u':Un (frs X.stack) fp H2 H3 s2.heap s5.heap:=⟨λb o e n1 n2 n3=>u.keep b o e n1 n2 n3,λb o e n1 n2 n3=>u.slot b o e n1 n2 n3,u.free,λb o e n1=>u.there b o e n1,u.tups,u.frzs,u.tbls⟩
       exact I2.wW (s':=s5) I5.os u' I5.hok I5.bare λb hb=>⟨(f2 b hb).2.2.2.1,(f2 b hb).2.1,(f2 b hb).2.2.2.2.1,(f2 b hb).2.2.2.2.2⟩
     have fC:H3 (s2.heap.objs.size + 1)=none:=I5.free
     have fk:j9 X pins H3 (s2.heap.objs.size + 1):=I2.jV (Nat.le_succ _) fC
     obtain ⟨oC,es,ep,hoC,hdC,rC⟩:=id hn
     have hpin:=I6.pinned (fp:=[s2.heap.objs.size + 1]) (λb hb=>by rw [List.mem_singleton.mp hb]; exact fk) (λb hb=>by rw [List.mem_singleton.mp hb]; exact ⟨oC,hoC,λv z=>by rw [hdC] at z; cases z⟩)
     have hmem:(s2.heap.objs.size + 1,oC) ∈ gx [s2.heap.objs.size + 1] s5.heap:=bY (List.mem_singleton_self _) hoC
     refine thn (hT _ s5 σ H3 (.ref s2.heap.objs.size) (.ref s2.heap.objs.size) _ hpin rfl qn) λ_ s6 ⟨σ6,H6,I7,q7⟩=>?_
     obtain ⟨p1,p2,p3,p4,p5⟩:=I7.pin _ (List.mem_append_right _ (List.mem_append_right _ hmem))
     refine ⟨m,⟨oC,es,ep,p1,hdC,rC⟩,λh' sb=>wpAny_pure (wpAny_pure ?_)⟩
     refine ⟨σ6,H6,?_,q7⟩
     exact (I7.dB).turned (t':=s6.toks) (it:=s2.heap.objs.size + 1) (λb o hb e=>(sb.2 b hb).trans e) p2 p3 fk.2.2.2.1 fk.2.2.2.2.1 fk.2.2.2.2.2
   · refine thn (T.item (aR X s2 H2 scope N fp) rfl rfl rfl hc i [] s3 σ3 H3 _ I3 (stat fr3) st3 go) λr s4 ⟨u,hr,h4⟩=>?_
     subst hr
     refine thn h4 λ_ s5 ⟨x,H5,I5,r5,y5,st5,fr5⟩=>?_
     have I5':=I5.pinned (stat fr5) (T.obj _ _ st5)
     refine thn (hg _ s5 σ3 H5 x u _ I5' r5 (step x H5 y5)) λ_ s6 ⟨σ6,H6,I6,q6⟩=>?_
     have again:∀ {s7:Shared} {σ7:L2.St} {H7:Hp} {m':Nat},Inv (aR X s2 H2 scope N fp) ([]++gx fp s5.heap) σ7 H7 s7->m' < n->Z (i + 1) m' σ7 H7 ->
         ∃ m,m < n/\∃ i σ' H',Inv (aR X s2 H2 scope N fp) [] σ' H' s7/\tn i s7.heap/\(∀ b ∈ fp,H' b=none)/\Z i m σ' H':=λ{s7 σ7 H7 m'} I7 hm z7=>by
       refine ⟨m',hm,i + 1,σ7,H7,I7.dB,T.keep _ _ _ st5 λb hb o e=>(I7.pin (b,o) (List.mem_append_right _ (List.mem_append_right _ (bY hb e)))).1,λb hb=>?_,z7⟩
       obtain ⟨o,e,d⟩:=T.obj _ _ st5 b hb
       exact (I7.pin (b,o) (List.mem_append_right _ (List.mem_append_right _ (bY hb e)))).2.1
     refine thn (ht _ s6 σ6 H6 _ I6 q6) λok s7 ⟨H7,I7,q7⟩=>?_
     cases ok with
     | false=>
       rw [if_neg (by decide)] at q7
       obtain ⟨m',hm,z7⟩:=q7
       exact again I7 hm z7
     | true=>
       rw [if_pos rfl] at q7
       refine thn (he _ s7 σ6 H7 _ I7 q7) λv' s8 ⟨v,H8,I8,r8,vs,m',q8,l8,hm,z8⟩=>?_
       refine thn (dN (X:=aR X s2 H2 scope N fp) _ s8 σ6 H8 (.ref s2.heap.objs.size) [v] (.ref s2.heap.objs.size) [v'] (λ_ H9=>H9=upd H8 s2.heap.objs.size (.lst (vs++[v]))) I8 rfl (.cons r8 .nil) ⟨_,vs,v,rfl,rfl,q8,l8,rfl⟩) λ_ s9 ⟨_,H9,I9,_,e9⟩=>?_
       subst e9
       exact again I9 hm z8
 exact codeAny_compStart_list loop (T.self _ 0 _ _ _ st4 loop)
end Ev
namespace Hy
open PySem PySem.Spec PyProof.Rows L2
open Ev (D Den av aq aX aP aR gu dF PTs cJ eE mM)
noncomputable def slot:List Str->Str->Option Nat
 | [],_=>none
 | y :: r,x=>if x=y then some 0 else (slot r x).map (· + 1)
theorem slot_get:∀ {N:List Str} {x:Str} {i:Nat},slot N x=some i->N[i]?=some x
 | [],_,_,h=>by cases h
 | y :: r,x,i,h=>by
   unfold slot at h
   split at h
   · cases h; rename_i e; rw [e]; rfl
   · cases e:slot r x with
     | none=>rw [e] at h; cases h
     | some j=>rw [e] at h; cases h; simpa using slot_get e
noncomputable def sZ (scope sc:Scope):Scope:={ scope with names:=scope.names.map λ(n,k)=>if (k == .free && sc.kind == .function && sc.names.lookup n == some .cell) then (n,.cell) else (n,k) }
noncomputable def bNm (scope:Scope):List Str:=(scope.names.filter λp=>(p.2 == .local || p.2 == .cell || p.2 == .free) && p.1 != (".0" : Str)).map (·.1)
noncomputable def bCp (No:List Str) (scope:Scope):List (Option Nat):=(bNm scope).map λx=>if (x,NameKind.free) ∈ scope.names then slot No x else none
noncomputable def bOk (sc scope:Scope):Bool:=
 scope.kind == .function && scope.names.all (λp=>p.2 != .local || scope.names.lookup p.1 == some .local) && scope.names.all (λp=>p.2 != .free || sc.names.lookup p.1 == some .cell)
   && scope.names.all (λp=>p.2 != .free || (!decide ((p.1,NameKind.cell) ∈ scope.names) && !decide ((p.1,NameKind.local) ∈ scope.names))) && decide (bNm scope++[("#" : Str)]).Nodup
   && (sZ scope sc).names.all (λp=>p.1 != ("#" : Str))
theorem uk {a b:Bool} (h:(a && b)=true):a=true/\b=true:=by rw [Bool.and_eq_true] at h; exact h
theorem sk {x:Str} {q:NameKind}:∀ {names:List (Str × NameKind)},names.lookup x=some q->(x,q) ∈ names
 | (y,k) :: r,h=>by
   rw [List.lookup_cons] at h
   split at h
   · rename_i e; cases h; rw [eq_of_beq e]; exact List.mem_cons_self ..
   · exact List.mem_cons_of_mem _ (sk h)
theorem kY {X:Cx} {scope:Scope} (h:bOk X.env.scope scope=true):dF X scope (bNm scope++[("#" : Str)]) (bCp X.N scope)/\(bNm scope++[("#" : Str)]).Nodup:=by
 unfold bOk at h
 obtain ⟨h,h6⟩:=uk h
 obtain ⟨h,h5⟩:=uk h
 obtain ⟨h,h4⟩:=uk h
 obtain ⟨h,h3⟩:=uk h
 obtain ⟨h1,h2⟩:=uk h
 rw [List.all_eq_true] at h2 h3 h4 h6
 refine ⟨⟨eq_of_beq h1,λx hx hk=>?_,λx hx hk=>?_,λx hx hm=>?_,λx hx hm=>?_,?_,λj i hj=>?_,?_⟩,of_decide_eq_true h5⟩
 · have:=h2 x hx; rw [hk] at this; simpa using this
 · have:=h3 x hx; rw [hk] at this; show X.env.scope.names.lookup x.1=_; simpa using this
 · have:=h4 _ hx; simp [hm] at this
 · have:=h4 _ hx; simp [hm] at this
 · unfold bCp; rw [List.length_append,List.length_map]; rfl
 · unfold bCp at hj
   rw [List.getElem?_map] at hj
   cases e:(bNm scope)[j]? with
   | none=>rw [e] at hj; cases hj
   | some x=>
     rw [e] at hj
     simp only [Option.map_some,Option.some.injEq] at hj
     split at hj
     · exact ⟨x,by rw [List.getElem?_append_left (List.getElem?_eq_some_iff.mp e).1]; exact e,slot_get hj,by assumption⟩
     · cases hj
 · refine ⟨("#" : Str),?_,λhv=>?_⟩
   · unfold bCp; rw [List.length_map,List.getElem?_append_right (Nat.le_refl _),Nat.sub_self]; rfl
   · have key:∀ q,(sZ scope X.env.scope).names.lookup ("#" : Str) ≠ some q:=λq hq=>by
       have:=h6 _ (sk hq)
       simp at this
     rcases hv with hv | hv | hv <;> exact key _ hv
noncomputable abbrev cpX (X:Cx) (s:Shared) (H:Hp) (scope:Scope) (fp:List Addr):Cx:=aR X s H scope (bNm scope++[("#" : Str)]) fp
theorem Bk.comp {X:Cx} {k:Nat} (B:Bk X k) (s:Shared) (H:Hp) (scope:Scope) (fp:List Addr):Bk (cpX X s H scope fp) k:=⟨B.room,B.calm,B.blt,PassesOwn.never⟩
noncomputable def cM (τ:List Sl) (caps:List (Option Nat)):List Sl:=caps.map λo=>match o with
 | some i=>match τ[i]? with
   | some (.d x)=>.d x
   | _=>.un
 | none=>.un
theorem pw {X:Cx}:PTs X [] λ_ H Q=>Q true H:=λpins s σ H Q I q=>by
 show wpAny _ _ (pure true) _ _ _
 exact wpAny_pure ⟨H,I,q⟩
section
variable {X:Cx} {C:Bool} {τ:List Sl} {x y z:D} {a b e c tg it elt:Expr} {es ifs:List Expr} {pos p q:Pos} {k:Nat} {xs:List D} {scope:Scope}
structure Cmp (X:Cx) (elt tg it:Expr) (ifs:List Expr) (scope:Scope) (τ:List Sl) (ys:List D):Prop where
 ex:∃ (In:TG->TT->TE->Prop) (caps:List (Option Nat)) (N:List Str) (wi:TI),dF X scope N caps/\PI X tg it wi/\(∀ g tt te,In g tt te->∀ s H fp,PG (aR X s H scope N fp) tg g/\PTs (aR X s H scope N fp) ifs tt/\PE (aR X s H scope N fp) elt te) /\
   ∀ C σ H Q,dE X.K C τ (.o ys) σ H Q->eE In caps wi σ H Q
 hs:∀ x,foldedSetIterable it X.env x=pure x
theorem eP {ys:List D} (h:Cmp X elt tg it ifs scope τ ys):PE X (.ListComp elt [⟨tg,it,ifs,0⟩] scope pos) (dE X.K C τ (.o ys)):=by
 obtain ⟨In,caps,N,wi,h1,h2,h3,h4⟩:=h.ex
 exact peW (cJ h1 h2 h.hs h3) (h4 C)
theorem lO (i:Nat) {n:Str} {p spos:Pos} {rest:List Stmt} {N:Po} {ys:List D} {s:Sl} (hN:X.N.Nodup) (h:Cmp X elt tg it ifs scope τ ys) (hz:s=.o ys\/s=.d (.lst ys)) (hr:PSs X rest (dS X.K (τ.set i s) N)) (hi:X.N[i]?=some n:=by rfl) (hx:Loc X.env.scope n:=by first | exact .inl rfl | exact .inr rfl)
   (hsw:swapsWith (.ListComp elt [⟨tg,it,ifs,0⟩] scope pos) (some (.Name n p)) spos.line X.env=pure true:=by rfl) (hf:X.fn n=true\/X.env.scope.names.lookup n=some .local:=by first | exact .inl rfl | exact .inr rfl | assumption) :
   PSs X (.Assign [.Name n p] (.ListComp elt [⟨tg,it,ifs,0⟩] scope pos) spos :: rest) (dS X.K τ N):=by
 obtain ⟨In,caps,N',wi,h1,h2,h3,h4⟩:=h.ex
 have h5:∀ σ H Q,dE X.K true τ s σ H Q->eE In caps wi σ H Q:=by
   rcases hz with rfl | rfl
   · exact h4 true
   · intro σ H Q q
     obtain ⟨A,H₀,B,S,k⟩:=di q
     refine h4 true σ H Q ⟨A,H₀,B,S,λv H' bs e hf q=>?_⟩
     obtain ⟨u,e1,d⟩:=q.den (G':=Hy.hd H' (vw true A B)) (aC (ao.refl _) λ_ z=>.inl z) (λb hb o ho=>aE.mpr ⟨λz=>(by obtain ⟨_,q⟩:=S.vd (C:=true) b z; rw [(hf b hb).1] at q; cases q),ho⟩) rfl
     cases e1
     exact k v H' e d
 exact bH (M:=(·=τ.set i s)) (psW (mM (fH (i:=i) hN hi hx hf) h1 h2 h.hs h3 hsw) λD σ H ⟨A,H₀,B,S,Me⟩=>h5 _ _ _ ⟨A,H₀,B,S,λv H' bs e hf h=>Me.nx _ _ _ _ rfl (S.set e hf h)⟩) λ_ e=>e ▸ hr
theorem sN {T:Nat->List Sl} {t:Nat->Bool} {f:Nat->D} (hc:bOk X.env.scope scope=true) (hi:PI X tg it (dI X.K τ xs)) (hT:∀ i,(T i).length=(cM τ (bCp X.N scope)++[Sl.un]).length/\∀ (l:Nat) (x:D),(cM τ (bCp X.N scope)++[Sl.un])[l]?=some (.d x)->(T i)[l]?=some (.d x))
   (hg:∀ i (h:i < xs.length) s H fp,PG (cpX X s H scope fp) tg (dG X.K (cM τ (bCp X.N scope)++[Sl.un]) xs[i] (T i)))
   (ht:∀ i,i < xs.length->∀ s H fp,PTs (cpX X s H scope fp) ifs (dT X.K (T i) (t i)))
   (he:∀ i,i < xs.length->t i=true->∀ s H fp,PE (cpX X s H scope fp) elt (dE X.K true (T i) (.d (f i)))) (hl:xs.length < 1000000) (hs:∀ x,foldedSetIterable it X.env x=pure x:=by intro _; rfl) :
   Cmp X elt tg it ifs scope τ (((List.range xs.length).filter t).map f):=by
 obtain ⟨cap,_⟩:=kY hc
 generalize hτ:cM τ (bCp X.N scope)++[Sl.un]=τb at *
 refine ⟨⟨λg tt te=>g=(λv σ H Q=>∃ (i:Nat) (h:i < xs.length),dG X.K τb xs[i] (T i) v σ H Q)/\tt=(λσ H Q=>∃ i,i < xs.length/\dT X.K (T i) (t i) σ H Q)/\te=(λσ H Q=>∃ i,i < xs.length/\t i=true/\dE X.K true (T i) (.d (f i)) σ H Q),_,_,_,cap,hi,?_,?_⟩,hs⟩
 · rintro g tt te ⟨rfl,rfl,rfl⟩ s H fp
   exact ⟨λpins s' σ H' v u Q I r ⟨i,h,q⟩=>hg i h s H fp pins s' σ H' v u Q I r q,λpins s' σ H' Q I ⟨i,h,q⟩=>ht i h s H fp pins s' σ H' Q I q,λpins s' σ H' Q I ⟨i,h,h',q⟩=>he i h h' s H fp pins s' σ H' Q I q⟩
 rintro C σ H Q ⟨A,H₀,B,S,kk⟩
 refine ⟨A,H₀,B,S,λJ H1 e1 yl=>⟨_,_,_,⟨rfl,rfl,rfl⟩,λD hD=>?_⟩⟩
 have S1:=S.mono e1
 have nD:¬ own A B D:=λz=>by obtain ⟨o,q⟩:=S1.dm D z; rw [hD] at q; cases q
 have noN:∀ (l:Nat) (t:Nd),τb[l]?=some (.n t)->0 ≠ 0:=λl t h=>by
   exfalso
   rw [<- hτ] at h
   have:=List.mem_of_getElem? h
   rcases List.mem_append.mp this with z | z
   · unfold cM at z
     obtain ⟨o,_,ho⟩:=List.mem_map.mp z
     split at ho
     · split at ho <;> cases ho
     · cases ho
   · cases List.mem_singleton.mp z
 have slots:∀ {σ':L2.St} {H':Hp},ao H1 H'->(∃ o,H' D=some o)->σ'.length=τb.length->(∀ (l:Nat) (s:Sl),τb[l]?=some s->cb X.K (hd H' λb=>own A B b\/b=D) H' (σ'[l]?).join [] s)->Sta X.K (λb=>own A B b\/b=D) H' τb (λ_=>[]) σ' H':=λ{σ' H'} e1 e2 e3 e4=>
   ⟨ao.refl _,e3,λl s h=>(e4 l s h).mono (aC (ao.refl _) λ_ z=>z.elim id λ⟨_,z⟩=>(nomatch z)) (ao.refl _),λ_ _ z=>(nomatch z),λ_ _ _ z=>(nomatch z),λb z=>z.elim (λz=>let ⟨o,q⟩:=S1.dm b z; ⟨o,e1 _ _ q⟩) λz=>z ▸ e2,λ_ _ z=>(nomatch z)⟩
 refine ⟨λi m σ' H'=>m=xs.length - i/\i<=xs.length/\ao H1 H'/\(∃ vs,H' D=some (.lst vs)/\vs.length<=i/\av X.K (hd H' λb=>own A B b\/b=D) vs (((List.range i).filter t).map f)) /\
   σ'.length=τb.length/\∀ (l:Nat) (s:Sl),τb[l]?=some s->cb X.K (hd H' λb=>own A B b\/b=D) H' (σ'[l]?).join [] s,⟨xs.length,rfl,Nat.zero_le _,aq hD _,⟨[],aT,Nat.le_refl _,.nil⟩,?_,λl s h=>?_⟩,?_⟩
 · rw [<- hτ]; unfold gu cM; rw [List.length_append,List.length_append,List.length_map,List.length_map]; rfl
 · have hv:ao (hd H (own A B)) (hd (upd H1 D (.lst [])) λb=>own A B b\/b=D):=λb o z=>by
     obtain ⟨z1,z2⟩:=aE.mp z
     have z2:=e1 _ _ z2
     have ne:b ≠ D:=λz=>by rw [z,hD] at z2; cases z2
     exact aE.mpr ⟨λy=>y.elim z1 ne,by rw [aK ne]; exact z2⟩
   cases s with
   | un=>rfl
   | d x=>
     rw [<- hτ] at h
     have hlt:l < (bCp X.N scope).length:=by
       rcases Nat.lt_or_ge l (bCp X.N scope).length with h' | h'
       · exact h'
       · exfalso
         rw [List.getElem?_append_right (by unfold cM; rw [List.length_map]; exact h')] at h
         cases e:l - (cM τ (bCp X.N scope)).length with
         | zero=>rw [e] at h; cases h
         | succ n=>rw [e] at h; cases h
     rw [List.getElem?_append_left (by unfold cM; rw [List.length_map]; exact hlt)] at h
     rw [List.getElem?_append_left (by unfold gu; rw [List.length_map]; exact hlt)]
     unfold cM at h
     unfold gu
     rw [List.getElem?_map] at h ⊢
     cases e:(bCp X.N scope)[l]? with
     | none=>rw [e] at h; cases h
     | some o=>
       rw [e] at h
       cases o with
       | none=>cases h
       | some i=>
         simp only [Option.map_some,Option.some.injEq] at h
         split at h
         · rename_i x' hx'
           cases h
           obtain ⟨_,u,eu,d⟩:=S.sl i _ hx'
           exact ⟨rfl,u,by simpa using eu,d.mono hv⟩
         · cases h
   | o xs'=>
     exfalso
     rw [<- hτ] at h
     have:=List.mem_of_getElem? h
     rcases List.mem_append.mp this with z | z
     · unfold cM at z
       obtain ⟨o,_,ho⟩:=List.mem_map.mp z
       split at ho
       · split at ho <;> cases ho
       · cases ho
     · cases List.mem_singleton.mp z
   | n t'=>
     exfalso
     rw [<- hτ] at h
     have:=List.mem_of_getElem? h
     rcases List.mem_append.mp this with z | z
     · unfold cM at z
       obtain ⟨o,_,ho⟩:=List.mem_map.mp z
       split at ho
       · split at ho <;> cases ho
       · cases ho
     · cases List.mem_singleton.mp z
   | x E'=>
     exfalso
     rw [<- hτ] at h
     have:=List.mem_of_getElem? h
     rcases List.mem_append.mp this with z | z
     · unfold cM at z
       obtain ⟨o,_,ho⟩:=List.mem_map.mp z
       split at ho
       · split at ho <;> cases ho
       · cases ho
     · cases List.mem_singleton.mp z
 rintro i m σ' H' ⟨rfl,hi,e2,⟨vs,hv1,hv2,hv3⟩,hlen,hsl⟩
 obtain ⟨y1,y2⟩:=yl H' (aQ.trans e2)
 by_cases hlt:i < xs.length
 · obtain ⟨g,y⟩:=y2 i hlt
   refine .inr ⟨g,λx H2 hy=>?_⟩
   obtain ⟨e3,dx⟩:=y x H2 hy
   have S2:Sta X.K (λb=>own A B b\/b=D) H' τb (λ_=>[]) σ' H':=slots e2 ⟨_,hv1⟩ hlen hsl
   have o0:∀ b,own (λb=>own A B b\/b=D) (λ_=>([]:List Addr)) b->own A B b\/b=D:=λb z=>z.elim id λ⟨_,z⟩=>(nomatch z)
   have dx':=dx _ S2.dm (λb o z=>by
     obtain ⟨z1,z2⟩:=aE.mp z
     exact aE.mpr ⟨λy=>(o0 b y).elim z1 λy=>(by rw [y,hD] at z2; cases z2),e2 _ _ z2⟩)
   refine ⟨i,hlt,_,_,_,S2.mono e3,dx',λσ2 B2 S3=>?_⟩
   have hB2:∀ j b,b ∈ B2 j->b ≠ D:=λj b hb z=>by
     have:=S3.fr j b hb
     rw [z,hv1] at this
     cases this
   have back:∀ {H5:Hp},ao H2 H5->σ2.length=τb.length/\∀ (l:Nat) (s:Sl),τb[l]?=some s->cb X.K (hd H5 λb=>own A B b\/b=D) H5 (σ2[l]?).join [] s:=λ{H5} e5=>by
     refine ⟨S3.len.trans (hT i).1,λl s h=>?_⟩
     cases s with
     | un=>rfl
     | d x=>
       obtain ⟨_,u,eu,d⟩:=S3.sl l _ ((hT i).2 l x h)
       exact ⟨rfl,u,eu,d.mono (aC e5 λ_ z=>.inl z)⟩
     | o xs'=>exact absurd (hsl l _ h) (λ⟨_,_,z,_⟩=>(nomatch z))
     | n t'=>exact absurd rfl (noN l t' h)
     | x E'=>exact absurd (hsl l _ h) (λ⟨_,_,z,_⟩=>(nomatch z))
   refine ⟨i,hlt,_,_,_,S3,λH4 e4=>?_⟩
   cases ht:t i with
   | false=>
     rw [if_neg Bool.false_ne_true]
     obtain ⟨b1,b2⟩:=back e4
     refine ⟨xs.length - (i + 1),by omega,rfl,hlt,e2.trans (e3.trans e4),⟨vs,e4 _ _ (e3 _ _ hv1),by omega,?_⟩,b1,b2⟩
     rw [List.range_succ,List.filter_append,List.map_append,List.filter_cons,ht]
     simpa using hv3.mono (aC (e3.trans e4) λ_ z=>z)
   | true=>
     rw [if_pos rfl]
     refine ⟨i,hlt,ht,aY (S3.mono e4) λv H5 e5 d5=>?_⟩
     have e6:=e3.trans (e4.trans e5)
     have hv5:=e6 _ _ hv1
     refine ⟨vs,xs.length - (i + 1),hv5,Nat.lt_trans (Nat.lt_of_le_of_lt hv2 (Nat.lt_trans hlt hl)) (by decide),by omega,rfl,hlt,?_,?_⟩
     · intro b o z
       have ne:b ≠ D:=λy=>by rw [y,hD] at z; cases z
       rw [aK ne]
       exact e6 _ _ (e2 _ _ z)
     have sm:ao (hd H5 λb=>own A B b\/b=D) (hd (upd H5 D (.lst (vs++[v]))) λb=>own A B b\/b=D):=λb o z=>by
       obtain ⟨z1,z2⟩:=aE.mp z
       exact aE.mpr ⟨z1,by rw [aK λy=>z1 (.inr y)]; exact z2⟩
     obtain ⟨b1,b2⟩:=back (e4.trans e5)
     refine ⟨⟨vs++[v],aT,by rw [List.length_append]; exact Nat.succ_le_succ hv2,?_⟩,b1,λl s h=>?_⟩
     · rw [List.range_succ,List.filter_append,List.map_append,List.filter_cons,ht,if_pos rfl]
       refine av.append (hv3.mono ((aC e6 λ_ z=>z).trans sm)) (.cons (d5.mono ((aC (ao.refl _) λ_ z=>.inl z).trans sm)) .nil)
     · cases s with
       | un=>rfl
       | d x=>obtain ⟨z1,u,eu,d⟩:=b2 l _ h; exact ⟨z1,u,eu,d.mono sm⟩
       | o xs'=>exact absurd (hsl l _ h) (λ⟨_,_,z,_⟩=>(nomatch z))
       | n t'=>exact absurd rfl (noN l t' h)
       | x E'=>exact absurd (hsl l _ h) (λ⟨_,_,z,_⟩=>(nomatch z))
 · have e:i=xs.length:=by omega
   subst e
   refine .inl ⟨y1 _ (Nat.le_refl _),kk _ _ [D] (e1.trans e2) (λb hb=>?_) ⟨D,vs,rfl,rfl,hv1,hv3.mono (aC (ao.refl _) λb z=>z.elim (λz=>.inl (i8 z)) λz=>.inr (List.mem_singleton.mp z))⟩⟩
   obtain rfl:=List.mem_singleton.mp hb
   exact ⟨e1.free hD,_,hv1⟩
theorem cmp (j:Nat) {n:Str} {g f:Nat->D} (B:Bk X k) (hi:PI X (.Name n p) it (dI X.K τ xs)) (hx:∀ i (h:i < xs.length),xs[i]=g i) (hl:xs.length < 1000000)
   (he:∀ i,i < xs.length->∀ s H fp,PE (cpX X s H scope fp) elt (dE X.K true ((cM τ (bCp X.N scope)++[Sl.un]).set j (.d (g i))) (.d (f i))))
   (hc:bOk X.env.scope scope=true:=by kernel_rfl) (hu:(cM τ (bCp X.N scope)++[Sl.un])[j]?=some .un:=by rfl) (hN:(bNm scope++[("#" : Str)])[j]?=some n:=by rfl) (hv:∀ s H fp,Loc (cpX X s H scope fp).env.scope n:=by intro _ _ _; first | exact .inl rfl | exact .inr rfl)
   (hf:∀ s H fp,(cpX X s H scope fp).fn n=true\/(cpX X s H scope fp).env.scope.names.lookup n=some .local:=by intro _ _ _; first | exact .inr rfl | exact .inl rfl) (hs:∀ x,foldedSetIterable it X.env x=pure x:=by intro _; rfl) :
   Cmp X elt (.Name n p) it [] scope τ ((List.range xs.length).map f):=by
 have h:=sN (T:=λi=>(cM τ (bCp X.N scope)++[Sl.un]).set j (.d (g i))) (t:=λ_=>true) (f:=f) (elt:=elt) (ifs:=[]) hc hi (λi=>⟨List.length_set,λl x h=>?_⟩) (λi h s H fp=>?_) (λi h s H fp=>?_) (λi h _ s H fp=>he i h s H fp) hl hs
 · rwa [List.filter_eq_self.mpr λ_ _=>rfl] at h
 · rw [List.getElem?_set_ne (λz=>by rw [<- z,hu] at h; cases h)]
   exact h
 · rw [hx i h]
   exact zi j (kY hc).2 hN (hv s H fp) (hf s H fp)
 · exact λpins s' σ H' Q I ⟨A,H₀,B,S,q⟩=>pw pins s' σ H' Q I (q H' (ao.refl _))
end
section
variable {P:Program} {w:World} {K:PySem.W.Frag} {mg:Str->Option Value} {base:Heap}
noncomputable def xR (N:List Str) (ds:List D):List Sl:=ds.map .d++List.replicate (N.length - ds.length) .un
noncomputable abbrev Xc (P:Program) (w:World) (K:PySem.W.Frag) (mg:Str->Option Value) (base:Heap) (N:List Str) (qual:Str) (st:Stmt) (f:Addr) (cdv:Value) (A:Around) (outer:List Env) (s:Shared) (H:Hp) (E:XK):Cx:=(nB CX0 P w K mg base N qual (au st) f cdv A outer s H E).nox
theorem fnD {x qual:Str} {st:Stmt} {f:Addr} {fd:FuncData} {N ps:List Str} {k:Nat} {Φ:List D->Sl->Prop} (F:Fun K x qual st f fd) (S:aG N ps (au st)) (hb:∀ x ∈ aB,mg x=none) (len:∀ ds r,Φ ds r->ds.length=ps.length)
   (body:∀ ds r,Φ ds r->∀ cdv A outer s H E,Bk (Xc P w K mg base N qual st f cdv A outer s H E) k->PSs (Xc P w K mg base N qual st f cdv A outer s H E) (cq st) (dS K (xR N ds) { nx:=λ_=>r=.d .non,rt:=λr'=>r'=r })) :
   a6 P w K mg base CX0 (k + 1) f fd ps (spD K Φ):=by
 refine F.ok S (λvs H Q E ⟨A,ds,r,_,d,h,_⟩=>d.length.trans (len ds r h)) λcdv A outer s H vs Q E hr ⟨A',ds,r,ha,d,h,q⟩=>⟨_,body ds r h cdv A outer s H E ⟨hr,rfl,hb,PassesOwn.never⟩,A',H,λ_=>[],⟨ao.refl _,?_,λi s hi=>?_,λ_ _ z=>(nomatch z),λ_ _ _ z=>(nomatch z),ha,λ_ _ z=>(nomatch z)⟩,λτ B σ H' h S=>?_,λ_ _ _ _ h=>h.elim,λ_ _ _ _ h=>h.elim,λv H' bs s h e hf z=>?_,λ_ _=>trivial⟩
 · unfold L2.start xR
   simp [d.length]
 · have hl:=d.length
   unfold xR at hi
   unfold L2.start
   by_cases hlt:i < ds.length
   · rw [List.getElem?_append_left (by simpa using hlt),List.getElem?_map,List.getElem?_eq_getElem hlt] at hi
     cases hi
     obtain ⟨v,e,dv⟩:=d.get (List.getElem?_eq_getElem hlt)
     refine ⟨rfl,v,?_,dv.mono (aC (ao.refl _) λ_ z=>z.elim id λ⟨_,z⟩=>(nomatch z))⟩
     rw [List.getElem?_append_left (by simpa [hl] using hlt),List.getElem?_map,e]
     rfl
   · rw [List.getElem?_append_right (by simpa using hlt),List.getElem?_replicate] at hi
     split at hi
     · cases hi; rfl
     · cases hi
 · obtain rfl:=(h:r=_)
   exact q .non H' [] S.same dY (il .non)
 · obtain rfl:=(h:s=r)
   exact q v H' bs e hf z
theorem vP {K:PySem.W.Frag} {Φ:List D->Sl->Prop} (hΦ:∀ ns:List Int,ns.length<=63->Φ [.lst (ns.map .int)] (.d (.bl true))) (H:Hp) (a:Addr) (ns:List Int) (hl:ns.length<=63) (hS:SqL K H a (ns.map V.int)):spD K Φ [.ref a] H (λv _=>v=.bl true) λ_ _ _=>False:=by
 have hh:hd H (λ_=>False)=H:=by funext b; unfold hd; rw [if_neg id]
 refine ⟨λ_=>False,_,_,λ_ z=>z.elim,.cons (.lst (vs:=ns.map V.int) (by rw [hh]; exact hS) ?_) .nil,hΦ ns hl,λv H' bs _ _ h=>?_⟩
 · clear hl hS
   induction ns with
   | nil=>exact .nil
   | cons n ns ih=>exact .cons .int ih
 · obtain ⟨_,u,e,d⟩:=h
   cases e
   cases d
   rfl
end
end Hy
namespace K31
open PySem PySem.Spec PyProof.Rows L2 Hy
noncomputable def top (i:Nat):Stmt:=PySem.Challenge.pw_signsmooth_k31_whole_ladders_again.main.body.getD i (.Pass ⟨0,0,0,0⟩)
theorem gS:aG ["_law_cell_here","_law_bases","_law_row","_law_base","_law_k","_law_mixed"] ["_law_cell_here","_law_bases"] (au (top 44)):=⟨rfl,rfl,rfl,by decide +kernel,rfl,by decide +kernel,by decide +kernel⟩
theorem i9:aG ["_law_cell_here","_law_most","_law_parts","_law_tracks"] ["_law_cell_here","_law_most"] (au (top 53)):=⟨rfl,rfl,rfl,by decide +kernel,rfl,by decide +kernel,by decide +kernel⟩
theorem gZ:aG ["_law_one","_law_other","_law_rest"] ["_law_one","_law_other"] (au (top 45)):=⟨rfl,rfl,rfl,by decide +kernel,rfl,by decide +kernel,by decide +kernel⟩
theorem kC:aG ["_law_top","_law_bottom","_law_common"] ["_law_top","_law_bottom"] (au (top 46)):=⟨rfl,rfl,rfl,by decide +kernel,rfl,by decide +kernel,by decide +kernel⟩
theorem mR:aG ["_law_many","_law_number","_law_k"] ["_law_many"] (au (top 42)):=⟨rfl,rfl,rfl,by decide +kernel,rfl,by decide +kernel,by decide +kernel⟩
theorem iO:aG ["_law_part","_law_figures","_law_ten_here"] ["_law_part","_law_figures"] (au (top 48)):=⟨rfl,rfl,rfl,by decide +kernel,rfl,by decide +kernel,by decide +kernel⟩
theorem iP:aG ["_law_cell_here","_law_tracks","_law_rows","_law_columns","_law_many","_law_figures","_law_parts","_law_steps","_law_k","_law_word","_law_at"] ["_law_cell_here","_law_tracks","_law_rows","_law_columns","_law_many","_law_figures"] (au (top 49)):=⟨rfl,rfl,rfl,by decide +kernel,rfl,by decide +kernel,by decide +kernel⟩
theorem jN:aG ["_law_one","_law_other","_law_most","_law_figures","_law_sizes_here"] ["_law_one","_law_other","_law_most","_law_figures"] (au (top 54)):=⟨rfl,rfl,rfl,by decide +kernel,rfl,by decide +kernel,by decide +kernel⟩
theorem nP:aG ["_law_one","_law_other"] ["_law_one","_law_other"] (au (top 51)):=⟨rfl,rfl,rfl,by decide +kernel,rfl,by decide +kernel,by decide +kernel⟩
theorem qB:aG ["_law_one","_law_other"] ["_law_one","_law_other"] (au (top 50)):=⟨rfl,rfl,rfl,by decide +kernel,rfl,by decide +kernel,by decide +kernel⟩
theorem cS:aG ["_law_ladder_here","_law_tracks","_law_rows","_law_columns","_law_steps","_law_lines","_law_word","_law_k","_law_weight_here"] ["_law_ladder_here"] (au (top 52)):=⟨rfl,rfl,rfl,by decide +kernel,rfl,by decide +kernel,by decide +kernel⟩
theorem hW:aG ["thing"] ["thing"] (au (top 17)):=⟨rfl,rfl,rfl,by decide +kernel,rfl,by decide +kernel,by decide +kernel⟩
theorem my:aG ["thing"] ["thing"] (au (top 7)):=⟨rfl,rfl,rfl,by decide +kernel,rfl,by decide +kernel,by decide +kernel⟩
theorem cY:aG ["one","other","greater","lesser","rest"] ["one","other"] (au (top 9)):=⟨rfl,rfl,rfl,by decide +kernel,rfl,by decide +kernel,by decide +kernel⟩
theorem jg:aG ["thing"] ["thing"] (au (top 8)):=⟨rfl,rfl,rfl,by decide +kernel,rfl,by decide +kernel,by decide +kernel⟩
theorem rj:aG ["thing"] ["thing"] (au (top 18)):=⟨rfl,rfl,rfl,by decide +kernel,rfl,by decide +kernel,by decide +kernel⟩
theorem mG:aG ["thing"] ["thing"] (au (top 19)):=⟨rfl,rfl,rfl,by decide +kernel,rfl,by decide +kernel,by decide +kernel⟩
theorem ka:aG ["thing"] ["thing"] (au (top 20)):=⟨rfl,rfl,rfl,by decide +kernel,rfl,by decide +kernel,by decide +kernel⟩
theorem fV:aG ["many","size","found","turn","longer","choice","least"] ["many","size"] (au (top 21)):=⟨rfl,rfl,rfl,by decide +kernel,rfl,by decide +kernel,by decide +kernel⟩
theorem cX:aG ["known","row","columns","total","k","part"] ["known","row","columns"] (au (top 31)):=⟨rfl,rfl,rfl,by decide +kernel,rfl,by decide +kernel,by decide +kernel⟩
theorem eD:aG ["known","row","column_choices","found","columns"] ["known","row","column_choices"] (au (top 30)):=⟨rfl,rfl,rfl,by decide +kernel,rfl,by decide +kernel,by decide +kernel⟩
theorem cB:aG ["rows","found","known","size","fresh","column_choices","some","columns"] ["rows"] (au (top 29)):=⟨rfl,rfl,rfl,by decide +kernel,rfl,by decide +kernel,by decide +kernel⟩
theorem lB:aG ["row","scale"] ["row","scale"] (au (top 26)):=⟨rfl,rfl,rfl,by decide +kernel,rfl,by decide +kernel,by decide +kernel⟩
theorem j7:aG ["table","scales"] ["table","scales"] (au (top 27)):=⟨rfl,rfl,rfl,by decide +kernel,rfl,by decide +kernel,by decide +kernel⟩
theorem iI:aG ["row","scale","number"] ["row"] (au (top 25)):=⟨rfl,rfl,rfl,by decide +kernel,rfl,by decide +kernel,by decide +kernel⟩
theorem fu:aG ["table","bound","found","choices"] ["table","bound"] (au (top 28)):=⟨rfl,rfl,rfl,by decide +kernel,rfl,by decide +kernel,by decide +kernel⟩
theorem lM:aG ["table","j"] ["table","j"] (au (top 23)):=⟨rfl,rfl,rfl,by decide +kernel,rfl,by decide +kernel,by decide +kernel⟩
theorem j5:aG ["table"] ["table"] (au (top 22)):=⟨rfl,rfl,rfl,by decide +kernel,rfl,by decide +kernel,by decide +kernel⟩
theorem iN:aG ["grid","i"] ["grid","i"] (au (top 39)):=⟨rfl,rfl,rfl,by decide +kernel,rfl,by decide +kernel,by decide +kernel⟩
theorem fQ:aG ["one","other","first","second"] ["one","other"] (au (top 13)):=⟨rfl,rfl,rfl,by decide +kernel,rfl,by decide +kernel,by decide +kernel⟩
theorem cN:aG ["top","bottom","divisor"] ["top","bottom"] (au (top 10)):=⟨rfl,rfl,rfl,by decide +kernel,rfl,by decide +kernel,by decide +kernel⟩
theorem jl:aG ["one","other"] ["one","other"] (au (top 14)):=⟨rfl,rfl,rfl,by decide +kernel,rfl,by decide +kernel,by decide +kernel⟩
theorem kD:aG ["one","other","shared","top","divisor"] ["one","other"] (au (top 11)):=⟨rfl,rfl,rfl,by decide +kernel,rfl,by decide +kernel,by decide +kernel⟩
theorem nW:aG ["one","other"] ["one","other"] (au (top 12)):=⟨rfl,rfl,rfl,by decide +kernel,rfl,by decide +kernel,by decide +kernel⟩
theorem iH:aG ["grid","i","k","weight"] ["grid","i","k"] (au (top 40)):=⟨rfl,rfl,rfl,by decide +kernel,rfl,by decide +kernel,by decide +kernel⟩
theorem eJ:aG ["grid","k","steps","i"] ["grid","k"] (au (top 38)):=⟨rfl,rfl,rfl,by decide +kernel,rfl,by decide +kernel,by decide +kernel⟩
theorem jy:aG ["step"] ["step"] (au (top 33)):=⟨rfl,rfl,rfl,by decide +kernel,rfl,by decide +kernel,by decide +kernel⟩
theorem iL:aG ["table","grid","many","ahead","behind","k","corners"] ["table"] (au (top 37)):=⟨rfl,rfl,rfl,by decide +kernel,rfl,by decide +kernel,by decide +kernel⟩
theorem jJ:aG ["table","size","wide"] ["table","size"] (au (top 36)):=⟨rfl,rfl,rfl,by decide +kernel,rfl,by decide +kernel,by decide +kernel⟩
theorem fv:aG ["table","below","size"] ["table"] (au (top 35)):=⟨rfl,rfl,rfl,by decide +kernel,rfl,by decide +kernel,by decide +kernel⟩
theorem nM:aG ["_law_thing"] ["_law_thing"] (au (top 47)):=⟨rfl,rfl,rfl,by decide +kernel,rfl,by decide +kernel,by decide +kernel⟩
theorem gR:aG ["_law_step","_law_tracks","_law_weight_here"] ["_law_step","_law_tracks"] (au (top 55)):=⟨rfl,rfl,rfl,by decide +kernel,rfl,by decide +kernel,by decide +kernel⟩
theorem jF:aG ["_law_found","_law_table","_law_steps"] ["_law_found","_law_table"] (au (top 56)):=⟨rfl,rfl,rfl,by decide +kernel,rfl,by decide +kernel,by decide +kernel⟩
theorem qE:aG ["_law_script","_law_k"] ["_law_script","_law_k"] (au (top 43)):=⟨rfl,rfl,rfl,by decide +kernel,rfl,by decide +kernel,by decide +kernel⟩
theorem um:aG ["_law_script","_law_k","_law_cell_here","_law_ladder_here","_law_table","_law_handed","_law_found"] ["_law_script"] (au (top 57)):=⟨rfl,rfl,rfl,by decide +kernel,rfl,by decide +kernel,by decide +kernel⟩
end K31
namespace L2
open PySem PySem.Spec PyProof.Rows
section
variable {κ:Type} [DecidableEq κ]
end
section
variable {P:Program} {w:World} {H:Hp} {h:Heap} {a:Addr}
end
section
variable {X:Cx} {pins:List (Addr × Obj)} {σ:St} {H:Hp} {s:Shared} {a:Addr} {y v:V} {u r:Value} {o:Option V} {A:Around} {E:Value->Shared->Prop}
theorem Inv.big (I:Inv X pins σ H s):sysModules < s.heap.objs.size:=by
 have h:mainGlobals < s.heap.objs.size:=(I.mod.glob.keeps I.bk).lt
 exact Nat.lt_trans (by decide) h
theorem kQ {h':Heap} {t':Nat} {ob:HO} (I:Inv X pins σ H s) (mu:Mut (H a)) (hs:Heap.SameBut a s.heap h') (he:∃ q,h'.get? a=some q) (new:b9 X.prog X.w (upd H a ob) h' a ob) :
   Inv X pins σ (upd H a ob) { s with heap:=h',toks:=t' }:=
 I.write (x:=a) (e:=a) mu (.inl rfl) (λb q hb z=>(hs.2 b hb).trans z) he new
end
section
variable {X:Cx} {pins:List (Addr × Obj)} {σ:St} {H:Hp} {s:Shared} {a:Addr} {kvs:List (Key × V)} {k:Key} {u:Value} {A:Around} {E:Value->Shared->Prop}
end
noncomputable def mW (i:Expr):Prop:=∀ ov iv,subscripted i false ov iv=operate [ov,iv] (getItem ov iv)
theorem pG {prog:Program} {w:World} {A:Around} {E:Value->Shared->Prop} {s:Shared} {env:Env} {value slice:Expr} {pos:Pos} {T id:String} {Q:Value->Shared->Prop}
   (hl:typeLookup (.type T) "__getitem__" = pure (some (.builtin id))) (hs:mW slice)
   (h:wpAny (model prog w) A (eval value env) (λo s₁=>wpAny (model prog w) A (eval slice env) (λi s₂=>s₂.TypeIs o T/\wpAny (model prog w) A (getItem o i) Q E s₂) E s₁) E s) :
   wpAny (model prog w) A (eval (.Subscript value slice pos) env) Q E s:=by
 refine Subscript_ (wpAny_mono h (λo s₁ h₁=>wpAny_mono h₁ (λi s₂ h₂=>?_) λ_ _ x=>x) λ_ _ x=>x)
 obtain ⟨hT,h₂⟩:=h₂
 unfold subscriptTail
 refine wpAny_bind ?_
 rw [getitemInPython_of_ne hT.not_modules]
 refine wpAny_bind (wpAny_specialOf hT hl ?_)
 have fin:wpAny (model prog w) A (subscripted slice false o i) (λr s₃=>wpAny (model prog w) A (letTemporaryGo value o r >>= λ_=>pure r) Q E s₃) E s₂:=by
   rw [hs o i]
   exact wpAny_operating (wpAny_mono h₂ (λr s₃ h₃=>wpAny_bind (wpAny_letTemporaryGo (wpAny_pure h₃))) λ_ _ x=>x)
 first
   | exact wpAny_pure (wpAny_bind fin)
   | exact wpAny_bind (wpAny_pure (wpAny_bind fin))
   | exact wpAny_bind fin
section
variable {X:Cx} {o i e value:Expr} {pos pos' tpos:Pos} {td ty tv:TE}
end
section
variable {X:Cx} {pos:Pos}
end
section
variable {X:Cx} {pins:List (Addr × Obj)} {σ:St} {H:Hp} {s:Shared} {a:Addr} {y d:V} {u r:Value} {o:Option V} {A:Around} {E:Value->Shared->Prop}
end
section
variable {X:Cx} {o e f:Expr} {apos cpos:Pos} {td ty tx:TE}
end
end L2
namespace Ev
open PySem PySem.Spec PyProof.Rows L2
open PySem.Builtin.Range (rangeFitsLong rangeSize)
section
variable {prog:Program} {w:World} {A:Around} {E:Value->Shared->Prop} {s:Shared}
end
section
variable {X:Cx} {tg:Expr}
end
end Ev
namespace Ev
open PySem PySem.Spec PyProof.Rows L2
section
variable {X:Cx} {tg:Expr}
end
end Ev
namespace Hy
open PySem PySem.Spec PyProof.Rows L2
open Ev (D Den av aI aN aq aX aP)
section
variable {X:Cx} {C:Bool} {τ:List Sl} {x y z:D} {a b e:Expr} {es:List Expr} {pos p:Pos} {k:Nat} {s:Sl} {ds:List D} {i j:Int}
theorem uY:OpR X (binaryOp .Add) (λx y H Q=>∃ l b xs zs,x=.ref l/\y=.ref b/\SqL X.K H l xs/\SqL X.K H b zs/\xs.length + zs.length<=sizeLine/\∀ p,H p=none->Q (.ref p) (upd H p (.lst (xs++zs)))):=by
 intro pins s σ H x y v u Q I rx ry h
 obtain ⟨l,b,xs,zs,rfl,rfl,hH,hB,hz,q⟩:=h
 cases rx
 cases ry
 obtain ⟨its,r,pl,_⟩:=I.list hH
 obtain ⟨its2,r2,pl2,_⟩:=I.list hB
 have hl:=r.length
 have hl2:=r2.length
 obtain ⟨⟨cls,dd,data,sl⟩,ho,hc,n,hd⟩:=pl.isList
 obtain ⟨⟨cls2,dd2,data2,sl2⟩,ho2,hc2,n2,hd2⟩:=pl2.isList
 simp only at hc hd hc2 hd2
 subst hc hd hc2 hd2
 have e:its.toArray++its2.toArray=(its++its2).toArray:=by simp
 refine concat_meets ⟨_,ho,rfl⟩ ⟨_,ho2,rfl⟩ noFill_list_add seq_list_add PySem.F.slot_list_add PySem.F.entry_list_add (PySem.F.args_list_add_2 _ _) (list_addW l b its.toArray its2.toArray n n2 dd dd2 sl sl2 (by rw [List.size_toArray,List.size_toArray]; omega)) ⟨ho,ho2,?_⟩
 rw [e]
 exact ⟨.ref _,_,I.zf (t':=s.toks) (r.append r2) (by rw [List.length_append]; omega),rfl,q _ I.fresh⟩
theorem mK {xs ys:List D} (ha:PE X a (dE X.K C τ (.d (.lst xs)))) (hb:PE X b (dE X.K C τ (.d (.lst ys)))) (hl:xs.length + ys.length < 1000000):PE X (.BinOp a .Add b pos) (dE X.K C τ (.o (xs++ys))):=peW (tu uY ha hb) λσ H Q ⟨A,H₀,B,S,k⟩=>
 aY S λv H1 e1 d1=>aY (S.mono e1) λw H2 e2 d2=>by
   cases d1 with
   | lst h1 r1=>cases d2 with
     | lst h2 r2=>
       refine ⟨_,_,_,_,rfl,rfl,aP (aQ.trans e2) h1,aP aQ h2,by rw [r1.length,r2.length]; exact Nat.le_of_lt (Nat.lt_trans hl (by decide)),λp hp=>?_⟩
       obtain ⟨z1,z2,z3⟩:=jv (K:=X.K) hp ((r1.mono (aC e2 λ_ z=>z)).append r2)
       exact k _ _ [p] (e1.trans (e2.trans z1)) (λb hb=>⟨(e1.trans e2).free (z2 b hb).1,(z2 b hb).2⟩) z3
theorem mkL (h:i.natAbs < 2 ^ 60):aI i j:=.inl (by
 rcases Nat.eq_zero_or_pos i.natAbs with z | z
 · rw [z]; decide
 · exact Nat.lt_trans ((Nat.log2_lt (by omega)).mpr h) (by decide))
theorem mkR (h:j.natAbs < 2 ^ 60):aI i j:=.inr (.inl (by
 rcases Nat.eq_zero_or_pos j.natAbs with z | z
 · rw [z]; decide
 · exact Nat.lt_trans ((Nat.log2_lt (by omega)).mpr h) (by decide)))
theorem mkD (h0:j ≠ 0) (h:j.natAbs < 2 ^ 62):aN j:=⟨h0,Nat.lt_trans ((Nat.log2_lt (by omega)).mpr h) (by decide)⟩
end
theorem aF {α:Type} {xs:List α} {i:Nat} {x:α} (h:xs[i]?=some x):atI xs (i:Int)=some x:=by
 unfold atI ixN
 have:=(List.getElem?_eq_some_iff.mp h).1
 rw [if_pos (by omega),if_pos (by omega)]
 simpa using h
theorem cy {ns:List Int} {i:Int} (h0:0<=i) (h:i.toNat < ns.length):atI (ns.map D.int) i=some (.int (ns.getD i.toNat 0)):=by
 obtain ⟨n,rfl⟩:=Int.eq_ofNat_of_zero_le h0
 exact aF (by
   have h:n < ns.length:=h
   simp [h])
theorem sW {xs:List D} (n:Nat):cutD xs none (some (n:Int))=xs.take n:=by
 unfold cutD
 rw [HT.fK,HT.jD,List.drop_zero,Nat.sub_zero]
 rcases Nat.le_total n xs.length with h | h
 · rw [Nat.min_eq_left h]
 · rw [Nat.min_eq_right h,List.take_of_length_le (Nat.le_refl _),List.take_of_length_le h]
theorem uO {xs:List D} (m n:Nat):cutD xs (some (m:Int)) (some (n:Int))=(xs.take n).drop m:=by
 unfold cutD
 rw [HT.fK,HT.fK]
 rw [<- List.drop_take]
 rcases Nat.le_total n xs.length with h | h
 · rw [Nat.min_eq_left h]
   rcases Nat.le_total m xs.length with h' | h'
   · rw [Nat.min_eq_left h']
   · rw [Nat.min_eq_right h',List.drop_eq_nil_of_le (by simp; omega),List.drop_eq_nil_of_le (by simp; omega)]
 · rw [Nat.min_eq_right h,List.take_of_length_le (Nat.le_refl _),List.take_of_length_le h]
   rcases Nat.le_total m xs.length with h' | h'
   · rw [Nat.min_eq_left h']
   · rw [Nat.min_eq_right h',List.drop_eq_nil_of_le (Nat.le_refl _),List.drop_eq_nil_of_le h']
theorem getD_none {α:Type} {xs:List α} {i:Nat} {d:α} (h:xs.length<=i):xs.getD i d=d:=by simp [List.getD,h]
theorem ex1 {α:Type} {p:α->Prop} {a:α} (h:p a):∃ a,p a:=⟨a,h⟩
theorem ex2 {α:Type} {p:α->α->Prop} {a b:α} (h:p a b):∃ a b,p a b:=⟨a,b,h⟩
theorem ex3 {α:Type} {p:α->α->α->Prop} {a b c:α} (h:p a b c):∃ a b c,p a b c:=⟨a,b,c,h⟩
end Hy
namespace L2
open PySem PySem.Spec PyProof.Rows PySem.SeqAt
section
variable {P:Program} {w:World} {A:Around} {E:Value->Shared->Prop} {s:Shared}
noncomputable def HK (P:Program) (w:World) (A:Around) (h:Heap) (v:Value) (x:Int) (d:Nat):Prop:=
 ∀ (s:Shared) (E:Value->Shared->Prop) (Q:Int->Shared->Prop),s.heap=h->Q x { s with toks:=s.toks + d }->wpAny (model P w) A (pyHash v) Q E s
theorem qv {a:Addr} {u v:Value} {x y:Int} {m n:Nat} {Q:Int->Shared->Prop} (hu:A.units < cLine) (hk:IsTup s.heap a #[u,v]) (h1:∀ B,B.units<=A.units + 1->HK P w B s.heap u x m) (h2:∀ B,B.units<=A.units + 1->HK P w B s.heap v y n)
   (h:Q (reduceHash (Builtin.Tuple.tupleHashOf [x,y])) { s with toks:=s.toks + (m + n + 1) }):wpAny (model P w) A (pyHash (.ref a)) Q E s:=by
 obtain ⟨o,ho,hc,k,hd⟩:=hk
 have hT:s.TypeIs (.ref a) "tuple":=⟨o,ho,hc⟩
 unfold pyHash
 refine wpAny_bind (wpAny_cRoomFor_or (.inr hu) ?_)
 refine wpAny_bind (wpAny_specialOf hT F.slot_tuple_hash.lookup ?_)
 show wpAny _ _ (if (some (Value.builtin "tuple.__hash__") == some Value.none)=true then _ else _) Q E s
 rw [if_neg (by rw [beq_builtin_none]; exact Bool.false_ne_true)]
 refine wpAny_bind (wpAny_specialOf hT F.slot_tuple_hash.lookup ?_)
 show wpAny _ _ (callSpecialIfBoundUnlessNone? (.ref a) "__hash__" _ >>= _) Q E s
 refine wpAny_bind (wpAny_callSpecialIfBoundUnlessNone?_slot hT F.slot_tuple_hash (wpAny_call_entry F.slot_tuple_hash hT F.entry_tuple_hash ?_ (F.args_tuple_hash_1 _)))
 show wpAny _ _ (Builtin.Tuple.tupleItemsOf (.ref a) >>= _) _ _ s
 refine wpAny_bind (wpAny_tupleItemsOf ho hd ?_)
 refine wpAny_bind ?_
 rw [<- Array.forIn_toList]
 refine wpAny_forIn_list _
   (λrest (b:Array Int) s'=>(rest=[u,v]/\b=#[]/\s'=s)\/(rest=[v]/\b=#[x]/\s'={ s with toks:=s.toks + m })\/(rest=[]/\b=#[x,y]/\s'={ s with toks:=s.toks + (m + n) }))
   _ ?_ ?_ _ _ (.inl ⟨rfl,rfl,rfl⟩)
 · rintro z rest b s' (⟨e,rfl,rfl⟩ | ⟨e,rfl,rfl⟩ | ⟨e,_⟩)
   · cases e
     refine wpAny_bind (h1 _ ?_ _ _ _ rfl ?_)
     · exact Nat.le_refl _
     · exact wpAny_pure (.inr (.inl ⟨rfl,rfl,rfl⟩))
   · cases e
     refine wpAny_bind (h2 _ ?_ _ _ _ rfl ?_)
     · exact Nat.le_refl _
     · exact wpAny_pure (.inr (.inr ⟨rfl,rfl,by simp [Nat.add_assoc]⟩))
   · cases e
 · rintro b s' (⟨e,_⟩ | ⟨e,_⟩ | ⟨_,rfl,rfl⟩)
   · cases e
   · cases e
   show wpAny _ _ (retInt (Builtin.Tuple.tupleHashOf [x,y])) _ _ _
   refine wpAny_ret_mkInt ?_
   show wpAny _ _ (if (decide (-(2:Int) ^ 63<=Builtin.Tuple.tupleHashOf [x,y]) && decide (Builtin.Tuple.tupleHashOf [x,y] < 2 ^ 63))=true then _ else _) Q E _
   unfold reduceHash at h
   by_cases hr:(decide (-(2:Int) ^ 63<=Builtin.Tuple.tupleHashOf [x,y]) && decide (Builtin.Tuple.tupleHashOf [x,y] < 2 ^ 63))=true
   · rw [if_pos hr]
     rw [if_pos hr] at h
     exact wpAny_pure (by simpa [Nat.add_assoc] using h)
   · rw [if_neg hr]
     rw [if_neg hr] at h
     exact wpAny_bind (wpAny_rule (wpAny_pure (by simpa [Nat.add_assoc] using h)))
theorem nu {a:Addr} {u v:Value} {n:Nat} {Q:Bool->Shared->Prop} (hk:IsTup s.heap a #[u,v]) (h1:∀ A E Q,Q true s->wpAny (model P w) A (eqIsQuiet n u) Q E s) (h2:∀ A E Q,Q true s->wpAny (model P w) A (eqIsQuiet n v) Q E s) (h:Q true s) :
   wpAny (model P w) A (eqIsQuiet (n + 1) (.ref a)) Q E s:=by
 obtain ⟨o,ho,hc,k,hd⟩:=hk
 have hT:s.TypeIs (.ref a) "tuple":=⟨o,ho,hc⟩
 unfold eqIsQuiet
 refine wpAny_bind (wpAny_specialOf hT F.slot_tuple_eq.lookup ?_)
 show wpAny _ _ (isInstance (.ref a) (.type "tuple") >>= _) _ _ s
 refine wpAny_bind (wpAny_isInstance hT isSubtype_tuple_tuple ?_)
 simp only [Bool.not_true,Bool.false_eq_true,if_false]
 refine wpAny_bind (wpAny_seqItems ho hd ?_)
 refine wpAny_bind ?_
 show wpAny _ _ (forIn #[u,v] _ _) _ _ s
 rw [<- Array.forIn_toList]
 refine wpAny_forIn_list _ (λrest r s'=>r.1=none/\s'=s/\∀ z ∈ rest,z=u\/z=v) _ ?_ ?_ _ _ ⟨rfl,rfl,λz hz=>by simpa using hz⟩
 · rintro z rest r s' ⟨hr,rfl,hall⟩
   have hz:∀ A E Q,Q true s'->wpAny (model P w) A (eqIsQuiet n z) Q E s':=by
     rcases hall z List.mem_cons_self with rfl | rfl
     · exact h1
     · exact h2
   refine wpAny_bind (hz _ _ _ ?_)
   simp only [Bool.not_true,Bool.false_eq_true,if_false]
   exact wpAny_pure ⟨rfl,rfl,λx hx=>hall x (List.mem_cons_of_mem _ hx)⟩
 · rintro ⟨r1,r2⟩ s' ⟨hr,rfl,_⟩
   simp only at hr
   subst hr
   exact wpAny_pure h
theorem u7 {a b:Addr} {u v u' v':Value} {p q:Bool} (hu:A.units < cLine) (ha:IsTup s.heap a #[u,v]) (hb:IsTup s.heap b #[u',v']) (h1:EqAt A.in1 s u u' p) (h2:EqAt A.in1 s v v' q) (hs:a=b->(p && q)=true):EqAt A s (.ref a) (.ref b) (p && q):=by
 by_cases z:a=b
 · subst z
   rw [hs rfl]
   exact .same _
 · have:=EqAt.of_refs z (RcAt.tuples (e:=λj=>if j=0 then p else q) ha hb hu λj j1 j2=>by
     match j,j1 with
     | 0,_=>exact h1
     | 1,_=>exact h2)
   have e:((List.range (min (#[u,v]:Array Value).size (#[u',v']:Array Value).size)).all (λj=>if j=0 then p else q) && (#[u,v]:Array Value).size == (#[u',v']:Array Value).size)=(p && q):=by
     show (p && (q && true) && true)=(p && q)
     cases p <;> cases q <;> rfl
   rw [e] at this
   exact this
end
theorem iZ {h:Heap} {a:Addr} {x y:Array Value} (p:IsTup h a x) (q:IsTup h a y):x=y:=by
 obtain ⟨o,ho,_,n,hd⟩:=p
 obtain ⟨o',ho',_,n',hd'⟩:=q
 rw [ho] at ho'; cases ho'
 rw [hd] at hd'; cases hd'; rfl
theorem oV {h h':Heap} {a d:Addr} {x:Array Value} {o:Obj} {es ep} (p:IsTup h a x) (ho:h.get? d=some o) (hd:o.data=.dict es ep) (hs:Heap.SameBut d h h'):IsTup h' a x:=by
 obtain ⟨o',ho',hc,n,hd'⟩:=p
 have hne:a ≠ d:=by
   rintro rfl
   rw [ho] at ho'; cases ho'
   rw [hd] at hd'; exact nomatch hd'
 exact ⟨o',(hs.2 a hne).trans ho',hc,n,hd'⟩
structure IK (P:Program) (w:World) (K:Type) [DecidableEq K] where
 is:Heap->K->Value->Prop
 hash:K->Int
 draws:K->Nat
 dep:Nat
 inj:∀ {h:Heap} {v:Value} {x y:K},is h x v->is h y v->x=y
 keeps:∀ {h h':Heap} {k:K} {v:Value} {d:Addr} {o:Obj} {es ep},is h k v->h.get? d=some o->o.data=.dict es ep->Heap.SameBut d h h'->is h' k v
 hk:∀ {A:Around} {h:Heap} {k:K} {v:Value},is h k v->A.units + dep < cLine->HK P w A h v (hash k) (draws k)
 eq:∀ {A:Around} {s:Shared} {x y:K} {u v:Value},is s.heap x u->is s.heap y v->A.units + dep < cLine->EqAt A s u v (decide (x=y))
 quiet:∀ {s:Shared} {k:K} {v:Value} {n:Nat},dep < n->is s.heap k v->∀ A E Q,Q true s->wpAny (model P w) A (eqIsQuiet n v) Q E s
section
variable {P:Program} {w:World}
noncomputable def y3:IK P w Int where
 is:=λ_ k v=>∃ t,v=.int k t
 hash:=hashInt
 draws:=λ_=>1
 dep:=0
 inj:=λ⟨_,e⟩ ⟨_,g⟩=>by rw [e] at g; cases g; rfl
 keeps:=λh _ _ _=>h
 hk:=λ⟨_,e⟩ _ s E Q _ hq=>by rw [e]; exact wpAny_pyHash_int hq
 eq:=λ{A s x y u v} ⟨_,e⟩ ⟨_,g⟩ _=>by
   rw [e,g]
   have:decide (x=y)=(x == y):=by by_cases h:x=y <;> simp [h]
   rw [this]
   exact .int_int _ _ _ _
 quiet:=λ{s k v n} hn ⟨_,e⟩ A E Q q=>by
   obtain ⟨m,rfl⟩:∃ m,n=m + 1:=⟨n - 1,by omega⟩
   rw [e]
   exact wpAny_pure q
variable {K K':Type} [DecidableEq K] [DecidableEq K']
noncomputable def w4 (a:IK P w K) (b:IK P w K'):IK P w (K × K') where
 is:=λh k v=>∃ p u u',v=.ref p/\IsTup h p #[u,u']/\a.is h k.1 u/\b.is h k.2 u'
 hash:=λk=>reduceHash (Builtin.Tuple.tupleHashOf [a.hash k.1,b.hash k.2])
 draws:=λk=>a.draws k.1 + b.draws k.2 + 1
 dep:=max a.dep b.dep + 1
 inj:=λ{h v x y} ⟨p,u,u',e,t,h1,h2⟩ ⟨p',v1,v2,e',t',g1,g2⟩=>by
   rw [e] at e'
   cases e'
   have q:=iZ t t'
   simp only [Array.mk.injEq,List.cons.injEq,and_true] at q
   obtain ⟨rfl,rfl⟩:=q
   exact Prod.ext (a.inj h1 g1) (b.inj h2 g2)
 keeps:=λ⟨p,u,u',e,t,h1,h2⟩ ho hd hs=>⟨p,u,u',e,oV t ho hd hs,a.keeps h1 ho hd hs,b.keeps h2 ho hd hs⟩
 hk:=λ{A h k v} ⟨p,u,u',e,t,h1,h2⟩ hu s E Q eh hq=>by
   rw [e]
   subst eh
   exact qv (by omega) t (λB hB=>a.hk h1 (by omega)) (λB hB=>b.hk h2 (by omega)) hq
 eq:=λ{A s x y u v} hx hy hu=>by
   obtain ⟨p,u1,u2,e,t,h1,h2⟩:=id hx
   obtain ⟨p',v1,v2,e',t',g1,g2⟩:=id hy
   have ed:decide (x=y)=(decide (x.1=y.1) && decide (x.2=y.2)):=by
     obtain ⟨x1,x2⟩:=x
     obtain ⟨y1,y2⟩:=y
     rw [Bool.eq_iff_iff]
     simp
   rw [e,e',ed]
   refine u7 (by omega) t t' (a.eq h1 g1 (show A.units + 1 + a.dep < cLine by omega)) (b.eq h2 g2 (show A.units + 1 + b.dep < cLine by omega)) λz=>?_
   subst z
   have q:=iZ t t'
   simp only [Array.mk.injEq,List.cons.injEq,and_true] at q
   obtain ⟨rfl,rfl⟩:=q
   rw [a.inj h1 g1,b.inj h2 g2]
   simp
 quiet:=λ{s k v n} hn ⟨p,u,u',e,t,h1,h2⟩ A E Q q=>by
   obtain ⟨m,rfl⟩:∃ m,n=m + 1:=⟨n - 1,by omega⟩
   rw [e]
   exact nu t (a.quiet (by omega) h1) (b.quiet (by omega) h2) q
noncomputable def kindOf (a:IK P w K) (hd:a.dep<=7):HeapKind P w K where
 is:=λh k p=>a.is h k (.ref p)
 hash:=a.hash
 draws:=a.draws
 room:=λA=>A.units + 8 < cLine
 inj:=a.inj
 keeps:=a.keeps
 pyHash:=λ{A E s k p Q} hu hk h=>a.hk hk (by omega) s E Q rfl h
 eqBool:=λ{A E s x y p p' Q} hu hx hy h=>a.eq hx hy (by omega) _ _ _ _ h
 quiet:=λ{A E s k p Q} hk h=>a.quiet (by omega) hk A E Q h
end
inductive dj {K:Type} (R:K->Value->Prop):List K->List Value->Prop where
 | nil:dj R [] []
 | cons {x:K} {v:Value} {xs:List K} {vs:List Value} (h:R x v) (r:dj R xs vs):dj R (x :: xs) (v :: vs)
section
variable {K:Type}
theorem dj.mono {R S:K->Value->Prop} (f:∀ x v,R x v->S x v):∀ {xs:List K} {vs:List Value},dj R xs vs->dj S xs vs
 | _,_,.nil=>.nil
 | _,_,.cons h r=>.cons (f _ _ h) (r.mono f)
theorem dj.inj {R:K->Value->Prop} (f:∀ x y v,R x v->R y v->x=y):∀ {xs ys:List K} {vs:List Value},dj R xs vs->dj R ys vs->xs=ys
 | _,_,_,.nil,.nil=>rfl
 | _,_,_,.cons h r,.cons g q=>by rw [f _ _ _ h g,r.inj f q]
theorem dj.length {R:K->Value->Prop}:∀ {xs:List K} {vs:List Value},dj R xs vs->xs.length=vs.length
 | _,_,.nil=>rfl
 | _,_,.cons _ r=>congrArg (· + 1) r.length
theorem dj.at {R:K->Value->Prop}:∀ {xs:List K} {vs:List Value},dj R xs vs->∀ (j:Nat) (h1:j < xs.length) (h2:j < vs.length),R xs[j] vs[j]
 | _,_,.nil,_,h1,_=>absurd h1 (Nat.not_lt_zero _)
 | _,_,.cons h _,0,_,_=>h
 | _,_,.cons _ r,j + 1,h1,h2=>r.at j (Nat.lt_of_succ_lt_succ h1) (Nat.lt_of_succ_lt_succ h2)
theorem dj.mem {R:K->Value->Prop}:∀ {xs:List K} {vs:List Value},dj R xs vs->∀ v ∈ vs,∃ x,R x v
 | _,_,.nil,_,h=>nomatch h
 | _,_,.cons h r,v,hv=>(List.mem_cons.mp hv).elim (λz=>⟨_,z ▸ h⟩) (r.mem v)
theorem all_eq [DecidableEq K] {xs ys:List K}:((List.range (min xs.length ys.length)).all (λj=>decide (xs[j]?=ys[j]?)) && xs.length == ys.length)=decide (xs=ys):=by
 rw [Bool.eq_iff_iff]
 simp only [Bool.and_eq_true,List.all_eq_true,List.mem_range,decide_eq_true_eq,beq_iff_eq]
 constructor
 · rintro ⟨h1,h2⟩
   refine List.ext_getElem? λj=>?_
   by_cases hj:j < xs.length
   · exact h1 j (by omega)
   · rw [List.getElem?_eq_none (by omega),List.getElem?_eq_none (by omega)]
 · rintro rfl
   exact ⟨λ_ _=>rfl,rfl⟩
end
section
variable {P:Program} {w:World} {K:Type} [DecidableEq K]
theorem qA {a:IK P w K} {A:Around} {E:Value->Shared->Prop} {s:Shared} {p:Addr} {its:List Value} {xs:List K} {Q:Int->Shared->Prop} (hu:A.units + (a.dep + 1) < cLine) (hk:IsTup s.heap p its.toArray) (hs:dj (a.is s.heap) xs its)
   (h:Q (reduceHash (Builtin.Tuple.tupleHashOf (xs.map a.hash))) { s with toks:=s.toks + ((xs.map a.draws).sum + 1) }):wpAny (model P w) A (pyHash (.ref p)) Q E s:=by
 obtain ⟨o,ho,hc,k,hd⟩:=hk
 have hT:s.TypeIs (.ref p) "tuple":=⟨o,ho,hc⟩
 unfold pyHash
 refine wpAny_bind (wpAny_cRoomFor_or (.inr (by omega)) ?_)
 refine wpAny_bind (wpAny_specialOf hT F.slot_tuple_hash.lookup ?_)
 show wpAny _ _ (if (some (Value.builtin "tuple.__hash__") == some Value.none)=true then _ else _) Q E s
 rw [if_neg (by rw [beq_builtin_none]; exact Bool.false_ne_true)]
 refine wpAny_bind (wpAny_specialOf hT F.slot_tuple_hash.lookup ?_)
 show wpAny _ _ (callSpecialIfBoundUnlessNone? (.ref p) "__hash__" _ >>= _) Q E s
 refine wpAny_bind (wpAny_callSpecialIfBoundUnlessNone?_slot hT F.slot_tuple_hash (wpAny_call_entry F.slot_tuple_hash hT F.entry_tuple_hash ?_ (F.args_tuple_hash_1 _)))
 show wpAny _ _ (Builtin.Tuple.tupleItemsOf (.ref p) >>= _) _ _ s
 refine wpAny_bind (wpAny_tupleItemsOf ho hd ?_)
 refine wpAny_bind ?_
 rw [<- Array.forIn_toList]
 refine wpAny_forIn_list _
   (λrest (b:Array Int) s'=>∃ (ks:List K) (n:Nat),dj (a.is s.heap) ks rest/\b.toList++ks.map a.hash=xs.map a.hash/\n + (ks.map a.draws).sum=(xs.map a.draws).sum/\s'={ s with toks:=s.toks + n })
   _ ?_ ?_ _ _ ⟨xs,0,hs,rfl,by omega,rfl⟩
 · rintro z rest b s' ⟨ks,n,hr,e1,e2,rfl⟩
   cases hr with
   | @cons x _ ks' _ hx hr=>
     refine wpAny_bind (a.hk hx (show A.units + 1 + a.dep < cLine by omega) _ _ _ rfl ?_)
     refine wpAny_pure ⟨ks',n + a.draws x,hr,?_,?_,by simp [Nat.add_assoc]⟩
     · simpa using e1
     · rw [List.map_cons,List.sum_cons] at e2
       omega
 · rintro b s' ⟨ks,n,hr,e1,e2,rfl⟩
   cases hr
   rw [List.map_nil,List.append_nil] at e1
   rw [List.map_nil,List.sum_nil,Nat.add_zero] at e2
   subst e2
   show wpAny _ _ (retInt (Builtin.Tuple.tupleHashOf b.toList)) _ _ _
   rw [e1]
   refine wpAny_ret_mkInt ?_
   show wpAny _ _ (if (decide (-(2:Int) ^ 63<=Builtin.Tuple.tupleHashOf (xs.map a.hash)) && decide (Builtin.Tuple.tupleHashOf (xs.map a.hash) < 2 ^ 63))=true then _ else _) Q E _
   unfold reduceHash at h
   by_cases hr:(decide (-(2:Int) ^ 63<=Builtin.Tuple.tupleHashOf (xs.map a.hash)) && decide (Builtin.Tuple.tupleHashOf (xs.map a.hash) < 2 ^ 63))=true
   · rw [if_pos hr]
     rw [if_pos hr] at h
     exact wpAny_pure (by simpa [Nat.add_assoc] using h)
   · rw [if_neg hr]
     rw [if_neg hr] at h
     exact wpAny_bind (wpAny_rule (wpAny_pure (by simpa [Nat.add_assoc] using h)))
theorem nG {A:Around} {E:Value->Shared->Prop} {s:Shared} {p:Addr} {its:List Value} {n:Nat} {Q:Bool->Shared->Prop} (hk:IsTup s.heap p its.toArray) (h1:∀ z ∈ its,∀ A E Q,Q true s->wpAny (model P w) A (eqIsQuiet n z) Q E s) (h:Q true s) :
   wpAny (model P w) A (eqIsQuiet (n + 1) (.ref p)) Q E s:=by
 obtain ⟨o,ho,hc,k,hd⟩:=hk
 have hT:s.TypeIs (.ref p) "tuple":=⟨o,ho,hc⟩
 unfold eqIsQuiet
 refine wpAny_bind (wpAny_specialOf hT F.slot_tuple_eq.lookup ?_)
 show wpAny _ _ (isInstance (.ref p) (.type "tuple") >>= _) _ _ s
 refine wpAny_bind (wpAny_isInstance hT isSubtype_tuple_tuple ?_)
 simp only [Bool.not_true,Bool.false_eq_true,if_false]
 refine wpAny_bind (wpAny_seqItems ho hd ?_)
 refine wpAny_bind ?_
 show wpAny _ _ (forIn its.toArray _ _) _ _ s
 rw [<- Array.forIn_toList]
 refine wpAny_forIn_list _ (λrest r s'=>r.1=none/\s'=s/\∀ z ∈ rest,z ∈ its) _ ?_ ?_ _ _ ⟨rfl,rfl,λz hz=>by simpa using hz⟩
 · rintro z rest r s' ⟨hr,rfl,hall⟩
   refine wpAny_bind (h1 z (hall z List.mem_cons_self) _ _ _ ?_)
   simp only [Bool.not_true,Bool.false_eq_true,if_false]
   exact wpAny_pure ⟨rfl,rfl,λx hx=>hall x (List.mem_cons_of_mem _ hx)⟩
 · rintro ⟨r1,r2⟩ s' ⟨hr,rfl,_⟩
   simp only at hr
   subst hr
   exact wpAny_pure h
noncomputable def xC (a:IK P w K):IK P w (List K) where
 is:=λh ks v=>∃ p its,v=.ref p/\IsTup h p its.toArray/\dj (a.is h) ks its
 hash:=λks=>reduceHash (Builtin.Tuple.tupleHashOf (ks.map a.hash))
 draws:=λks=>(ks.map a.draws).sum + 1
 dep:=a.dep + 1
 inj:=λ{h v x y} ⟨p,its,e,t,r⟩ ⟨p',its',e',t',r'⟩=>by
   rw [e] at e'
   cases e'
   have q:its=its':=congrArg Array.toList (iZ t t')
   subst q
   exact dj.inj (R:=a.is h) (λ_ _ _ z1 z2=>a.inj z1 z2) r r'
 keeps:=λ⟨p,its,e,t,r⟩ ho hd hs=>⟨p,its,e,oV t ho hd hs,r.mono λ_ _ z=>a.keeps z ho hd hs⟩
 hk:=λ{A h k v} ⟨p,its,e,t,r⟩ hu s E Q eh hq=>by
   rw [e]
   subst eh
   exact qA hu t r hq
 eq:=λ{A s x y u v} hx hy hu=>by
   obtain ⟨p,its,e,t,r⟩:=id hx
   obtain ⟨p',its',e',t',r'⟩:=id hy
   rw [e,e']
   by_cases z:p=p'
   · subst z
     have q:its=its':=congrArg Array.toList (iZ t t')
     subst q
     rw [decide_eq_true (dj.inj (R:=a.is s.heap) (λ_ _ _ z1 z2=>a.inj z1 z2) r r')]
     exact .same _
   · have:=EqAt.of_refs z (RcAt.tuples (e:=λj=>decide (x[j]?=y[j]?)) t t' (show A.units < cLine by omega) λj j1 j2=>by
       have l1:j < x.length:=by rw [r.length]; simpa using j1
       have l2:j < y.length:=by rw [r'.length]; simpa using j2
       rw [List.getElem?_eq_getElem l1,List.getElem?_eq_getElem l2]
       have:=a.eq (A:=A.in1) (r.at j l1 (by simpa using j1)) (r'.at j l2 (by simpa using j2)) (show A.units + 1 + a.dep < cLine by omega)
       simpa using this)
     have el:(its.toArray.size,its'.toArray.size)=(x.length,y.length):=by rw [r.length,r'.length]; simp
     have e1:its.toArray.size=x.length:=congrArg Prod.fst el
     have e2:its'.toArray.size=y.length:=congrArg Prod.snd el
     rw [e1,e2,all_eq] at this
     exact this
 quiet:=λ{s k v n} hn ⟨p,its,e,t,r⟩ A E Q q=>by
   obtain ⟨m,rfl⟩:∃ m,n=m + 1:=⟨n - 1,by omega⟩
   rw [e]
   refine nG t (λz hz=>?_) q
   obtain ⟨x,hx⟩:=r.mem z hz
   exact a.quiet (by omega) hx
end
end L2
namespace Ev
open PySem PySem.Spec PyProof.Rows L2
structure KD (K:Type) [DecidableEq K] where
 ik:∀ (P:Program) (w:World),IK P w K
 dep:Nat
 dep_ok:∀ P w,(ik P w).dep=dep
 toD:K->D
 den:∀ {X:Cx} {pins:List (Addr × Obj)} {σ:L2.St} {H:Hp} {s:Shared} {v:V} {u:Value} {k:K},Inv X pins σ H s->Den X.K H v (toD k)->RelV v u->(ik X.prog X.w).is s.heap k u
noncomputable def Ag:KD Int where
 ik:=λ_ _=>y3
 dep:=0
 dep_ok:=λ_ _=>rfl
 toD:=.int
 den:=λ_ d r=>by cases d; exact r
section
variable {K K':Type} [DecidableEq K] [DecidableEq K']
noncomputable def yw (a:KD K) (b:KD K'):KD (K × K') where
 ik:=λP w=>w4 (a.ik P w) (b.ik P w)
 dep:=max a.dep b.dep + 1
 dep_ok:=λP w=>by show max (a.ik P w).dep (b.ik P w).dep + 1=_; rw [a.dep_ok,b.dep_ok]
 toD:=λk=>.tup [a.toD k.1,b.toD k.2]
 den:=λ{X pins σ H s v u k} I d r=>by
   cases d with
   | tup h q=>
     cases (show u=Value.ref _ from r)
     obtain ⟨its,rv,t,_⟩:=I.tuple h
     cases q with
     | cons d1 q=>cases q with
       | cons d2 q=>cases q with
         | nil=>cases rv with
           | cons r1 rv=>cases rv with
             | cons r2 rv=>cases rv with
               | nil=>exact ⟨_,_,_,rfl,t,a.den I d1 r1,b.den I d2 r2⟩
theorem mY (a:KD K) {X:Cx} {pins:List (Addr × Obj)} {σ:L2.St} {H:Hp} {s:Shared} (I:Inv X pins σ H s):∀ {ks:List K} {vs:List V} {us:List Value},av X.K H vs (ks.map a.toD)->Vals vs us->dj ((a.ik X.prog X.w).is s.heap) ks us
 | [],_,_,.nil,.nil=>.nil
 | _ :: _,_,_,.cons d r,.cons q t=>.cons (a.den I d q) (mY a I r t)
noncomputable def yg (a:KD K):KD (List K) where
 ik:=λP w=>xC (a.ik P w)
 dep:=a.dep + 1
 dep_ok:=λP w=>by show (a.ik P w).dep + 1=_; rw [a.dep_ok]
 toD:=λks=>.tup (ks.map a.toD)
 den:=λ{X pins σ H s v u k} I d r=>by
   generalize e:D.tup (k.map a.toD)=x at d
   cases d with
   | tup h q=>
     cases e
     cases (show u=Value.ref _ from r)
     obtain ⟨its,rv,t,_⟩:=I.tuple h
     exact ⟨_,its,rfl,t,mY a I q rv⟩
   | _=>cases e
noncomputable abbrev NEs (K:Type):=List (K × Addr × Value)
noncomputable def kd (a:KD K) (hd:a.dep<=7) (P:Program) (w:World):HeapKind P w K:=kindOf (a.ik P w) (by rw [a.dep_ok]; exact hd)
variable {a:KD K} {hd:a.dep<=7}
noncomputable def dNk (a:KD K) (hd:a.dep<=7) (P:Program) (w:World) (p:Addr) (xs:NEs K):HO:=.ext λh=>(p == sysModules)=false/\∃ o es ep,h.get? p=some o/\o.ExactDict/\o.data=.dict es ep/\es.toList=xs.map (entryOfKey (kd a hd P w))/\(xs.map (·.1)).Nodup
structure g8 (a:KD K) (hd:a.dep<=7) (P:Program) (w:World) (F:PySem.W.Frag) (H:Hp) (d:Addr) (xs:NEs K):Prop where
 at_:H d=some (dNk a hd P w d xs)
 key:∀ x ∈ xs,Den F H (.ref x.2.1) (a.toD x.1)
variable {X:Cx} {pins:List (Addr × Obj)} {σ:L2.St} {H:Hp} {s:Shared} {d b:Addr} {xs:NEs K} {k:K} {A:Around} {E:Value->Shared->Prop}
theorem key_is (I:Inv X pins σ H s) (q:Den X.K H (.ref b) (a.toD k)):(kd a hd X.prog X.w).is s.heap k b:=a.den I q rfl
theorem ux (I:Inv X pins σ H s) (D:g8 a hd X.prog X.w X.K H d xs):(d == sysModules)=false/\s.heap.DictOfH (kd a hd X.prog X.w) d xs:=by
 obtain ⟨⟨h0,o,es,ep,h1,h2,h3,h4,h5⟩,_⟩:=(show b9 X.prog X.w H s.heap d (dNk a hd X.prog X.w d xs) from I.hok d _ D.at_)
 exact ⟨h0,o,es,ep,h1,h2,h3,h4,λx hx=>key_is I (D.key x hx),h5⟩
noncomputable def zz (a:KD K) (hd:a.dep<=7) (P:Program) (w:World) (F:PySem.W.Frag) (td ty:TE):TE:=λσ H Q=>td σ H λx H1=>ty σ H1 λy H2=>∃ d b k xs p v,x=.ref d/\y=.ref b/\g8 a hd P w F H2 d xs/\Den F H2 (.ref b) (a.toD k)/\atKey xs k=some p/\RelV v p.2/\Q v H2
noncomputable def Af (a:KD K) (hd:a.dep<=7) (P:Program) (w:World) (F:PySem.W.Frag) (td ty tv:TE):TS:=λD σ H=>tv σ H λv H1=>td σ H1 λx H2=>ty σ H2 λy H3=>∃ d b k xs,x=.ref d/\y=.ref b/\g8 a hd P w F H3 d xs/\Den F H3 (.ref b) (a.toD k)/\xs.length<=sizeLine/\∀ u,RelV v u->D.nx σ (upd H3 d (dNk a hd P w d (storedH xs k b u)))
noncomputable def AN (a:KD K) (hd:a.dep<=7) (P:Program) (w:World):TE:=λ_ H Q=>∀ p,H p=none->Q (.ref p) (upd H p (dNk a hd P w p []))
variable {o i e value:Expr} {pos pos':Pos} {td ty tv:TE}
theorem gN (hu:X.A.units + 16 < cLine) (ho:PE X o td) (hi:PE X i ty) (hs:mW i):PE X (.Subscript o i pos) (zz a hd X.prog X.w X.K td ty):=by
 intro pins s σ H Q I h
 refine pG PySem.F.slot_dict_getitem.lookup hs (thn (ho pins s σ H _ I h) λu s1 ⟨x,H1,I1,rx,q1⟩=>thn (hi pins s1 σ H1 _ I1 q1) λiv s2 ⟨y,H2,I2,ry,d,b,k,xs,p,v,ex,ey,D,g,hp,rv,q2⟩=>?_)
 subst ex ey
 obtain rfl:u=Value.ref d:=rx
 obtain rfl:iv=Value.ref b:=ry
 obtain ⟨_,dd⟩:=ux I2 D
 exact ⟨dd.typeIs,wpAny_getItem_heap (show X.A.units + 1 + 8 < cLine by omega) (key_is I2 g) dd hp ⟨v,H2,I2.tok _,rv,q2⟩⟩
theorem lU (hu:X.A.units + 16 < cLine) (ho:PE X o td) (hi:PE X i ty) (hv:PE X value tv) (hs:swapsWith value (some (.Subscript o i pos')) pos.line X.env=pure false) :
   PS X (.Assign [.Subscript o i pos'] value pos) (Af a hd X.prog X.w X.K td ty tv):=by
 intro pins s σ H D I h
 refine wpAny_Assign_Subscript (thn (hv pins s σ H _ I h) λr s1 ⟨v,H1,I1,rv,q1⟩=>thn (ho pins s1 σ H1 _ I1 q1) λu s2 ⟨x,H2,I2,rx,q2⟩=>thn (hi pins s2 σ H2 _ I2 q2) λiv s3 ⟨y,H3,I3,ry,d,b,k,xs,ex,ey,D',g,hl,q3⟩=>?_) hs
 subst ex ey
 obtain rfl:u=Value.ref d:=rx
 obtain rfl:iv=Value.ref b:=ry
 obtain ⟨hd',dd⟩:=ux I3 D'
 refine wpAny_setItem_heap (hsz:=hl) (show X.A.units + 1 + 8 < cLine by omega) (key_is I3 g) dd λh' dd' hs=>⟨σ,_,?_,q3 r rv⟩
 obtain ⟨q,es,ep,hq,h2,h3,h4,_,h5⟩:=dd'
 refine kQ I3 (by rw [D'.at_]; exact True.intro) hs ⟨q,hq⟩ ⟨⟨hd',q,es,ep,hq,h2,h3,h4,h5⟩,⟨q,hq⟩,λa1 a2 ⟨z0,o,es,ep,z1,z2⟩ hk=>⟨z0,o,es,ep,hk o z1,z2⟩⟩
theorem kX:PE X (.Dict [] [] pos) (AN a hd X.prog X.w):=λpins s σ H Q I h=>
 wpAny_Dict_empty ⟨.ref s.heap.objs.size,_,I.laid (a:=s.heap.objs.size) (o:=dNk a hd X.prog X.w s.heap.objs.size []) (t':=s.toks) (λ_ _ q=>Heap.get?_push_of_some _ q) (Nat.le_refl _)
   ⟨⟨beq_eq_false_iff_ne.mpr (Ne.symm (Nat.ne_of_lt I.big)),_,#[],0,Heap.get?_push_size _ rfl,⟨rfl,rfl,rfl⟩,rfl,rfl,List.nodup_nil⟩,⟨_,Heap.get?_push_size _ rfl⟩,λa1 a2 ⟨z0,o,es,ep,z1,z2⟩ hk=>⟨z0,o,es,ep,hk o z1,z2⟩⟩,rfl,h _ (I.hok.fresh (Nat.le_refl _))⟩
end
end Ev
namespace Hy
open PySem PySem.Spec PyProof.Rows L2
open Ev (D Den av KD NEs dNk g8)
section
variable {K:Type} [DecidableEq K]
inductive EnK (a:KD K) (F:PySem.W.Frag) (G:Hp):NEs K->List (K × D)->Prop where
 | nil:EnK a F G [] []
 | cons {k:K} {b:Addr} {u:Value} {v:V} {x:D} {xs:NEs K} {m:List (K × D)} (hk:Den F G (.ref b) (a.toD k)) (hr:RelV v u) (hv:Den F G v x) (r:EnK a F G xs m):EnK a F G ((k,b,u) :: xs) ((k,x) :: m)
variable {a:KD K} {F:PySem.W.Frag} {G G':Hp}
theorem EnK.mono (e:ao G G'):∀ {xs:NEs K} {m:List (K × D)},EnK a F G xs m->EnK a F G' xs m
 | _,_,.nil=>.nil
 | _,_,.cons h1 h2 h3 r=>.cons (h1.mono e) h2 (h3.mono e) (r.mono e)
theorem EnK.length:∀ {xs:NEs K} {m:List (K × D)},EnK a F G xs m->xs.length=m.length
 | _,_,.nil=>rfl
 | _,_,.cons _ _ _ r=>congrArg (· + 1) r.length
theorem EnK.key:∀ {xs:NEs K} {m:List (K × D)},EnK a F G xs m->∀ x ∈ xs,Den F G (.ref x.2.1) (a.toD x.1)
 | _,_,.nil,_,h=>nomatch h
 | _,_,.cons h _ _ r,x,hx=>(List.mem_cons.mp hx).elim (λz=>z ▸ h) (r.key x)
noncomputable def getM (m:List (K × D)) (k:K):Option D:=(m.find? λx=>decide (x.1=k)).map (·.2)
noncomputable def eM (m:List (K × D)) (k:K) (x:D):List (K × D):=if (getM m k).isSome then m.map λy=>if y.1=k then (y.1,x) else y else m++[(k,x)]
theorem EnK.at:∀ {xs:NEs K} {m:List (K × D)},EnK a F G xs m->∀ k,match getM m k with
   | none=>atKey xs k=none
   | some x=>∃ p v,atKey xs k=some p/\RelV v p.2/\Den F G v x
 | _,_,.nil,_=>rfl
 | _,_,.cons (k:=k') (x:=y) (m:=m) (xs:=xs) h1 h2 h3 r,k=>by
   have ih:=r.at k
   unfold getM atKey at *
   by_cases e:k'=k
   · simp only [List.find?_cons,e,decide_true,Option.map_some]
     exact ⟨_,_,rfl,h2,h3⟩
   · simp only [List.find?_cons,e,decide_false]
     exact ih
theorem EnK.isSome {xs:NEs K} {m:List (K × D)} (h:EnK a F G xs m) (k:K):(atKey xs k).isSome=(getM m k).isSome:=by
 have:=h.at k
 cases e:getM m k with
 | none=>rw [e] at this; simp only at this; rw [this]; rfl
 | some x=>rw [e] at this; obtain ⟨p,v,h1,_⟩:=this; rw [h1]; rfl
theorem EnK.snoc {k:K} {b:Addr} {u:Value} {v:V} {x:D} (h1:Den F G (.ref b) (a.toD k)) (h2:RelV v u) (h3:Den F G v x):∀ {xs:NEs K} {m:List (K × D)},EnK a F G xs m->EnK a F G (xs++[(k,b,u)]) (m++[(k,x)])
 | _,_,.nil=>.cons h1 h2 h3 .nil
 | _,_,.cons g1 g2 g3 r=>.cons g1 g2 g3 (r.snoc h1 h2 h3)
theorem EnK.over {k:K} {u:Value} {v:V} {x:D} (h2:RelV v u) (h3:Den F G v x):∀ {xs:NEs K} {m:List (K × D)},EnK a F G xs m->EnK a F G (xs.map (putAt k u)) (m.map λy=>if y.1=k then (y.1,x) else y)
 | _,_,.nil=>.nil
 | _,_,.cons (k:=k') g1 g2 g3 r=>by
   rw [List.map_cons,List.map_cons]
   unfold putAt
   by_cases e:k'=k
   · simp only [e,if_true]
     rw [e] at g1
     exact .cons g1 h2 h3 (r.over h2 h3)
   · simp only [e,if_false]
     exact .cons g1 g2 g3 (r.over h2 h3)
theorem EnK.put {k:K} {b:Addr} {u:Value} {v:V} {x:D} {xs:NEs K} {m:List (K × D)} (h:EnK a F G xs m) (h1:Den F G (.ref b) (a.toD k)) (h2:RelV v u) (h3:Den F G v x):EnK a F G (storedH xs k b u) (eM m k x):=by
 unfold storedH eM
 rw [h.isSome k]
 split
 · exact h.over h2 h3
 · exact h.snoc h1 h2 h3
noncomputable def exK (a:KD K) (hd:a.dep<=7) (P:Program) (w:World) (m:List (K × D)):Ex where
 p:=λF G o p=>∃ xs,o=dNk a hd P w p xs/\EnK a F G xs m
 mono:=λe ⟨xs,h1,h2⟩=>⟨xs,h1,h2.mono e⟩
 ext:=λ⟨xs,h1,_⟩=>.inl ⟨_,h1⟩
end
end Hy
namespace Hy
open PySem PySem.Spec PyProof.Rows L2
open Ev (D Den av KD NEs dNk g8 aq gN kX lU)
section
variable {K:Type} [DecidableEq K] {a:KD K} {hd:a.dep<=7} {X:Cx} {C:Bool} {τ:List Sl} {x:D} {b e ix:Expr} {pos p q:Pos} {k:Nat} {N:Po} {rest:List Stmt} {m:List (K × D)} {key:K}
theorem oB:PE X (.Dict [] [] pos) (dE X.K C τ (.x (exK a hd X.prog X.w []))):=peW kX λσ H Q ⟨A,H₀,B,S,k⟩=>λp hp=>k (.ref p) _ [p] (aq hp _) (λb hb=>by rw [List.mem_singleton.mp hb]; exact ⟨hp,_,aT⟩) ⟨p,_,rfl,rfl,aT,[],rfl,.nil⟩
theorem Sta.dct {F:PySem.W.Frag} {P:Program} {w:World} {A:Addr->Prop} {H₀ H:Hp} {B:Nat->List Addr} {σ:L2.St} {i:Nat} (S:Sta F A H₀ τ B σ H) (hi:τ[i]?=some (.x (exK a hd P w m))):∃ d xs,(σ[i]?).join=some (.ref d)/\B i=[d]/\H d=some (dNk a hd P w d xs)/\EnK a F (Hy.hd H (own A B)) xs m:=by
 obtain ⟨d,o,h1,h2,h3,xs,rfl,h5⟩:=S.sl i _ hi
 exact ⟨d,xs,h2,h1,h3,h5⟩
theorem ym (i:Nat) {n:Str} (hu:X.A.units + 16 < cLine) (hi:τ[i]?=some (.x (exK a hd X.prog X.w m))) (hk:PE X ix (dE X.K false τ (.d (a.toD key)))) (hx:getM m key=some x) (hr:∀ H v,Den X.K H v (a.toD key)->∃ b,v=.ref b) (hs:mW ix) (hN:X.N[i]?=some n:=by rfl)
   (hv:Vis X.env.scope n:=by first | exact Or.inl rfl | exact Or.inr (Or.inl rfl) | exact Or.inr (Or.inr rfl)) (hd1:(n == ("__debug__" : Str))=false:=by decide) (hcd:(n == ("__classdict__" : Str))=false:=by decide):PE X (.Subscript (.Name n p) ix pos) (dE X.K C τ (.d x)):=
 peW (gN (a:=a) (hd:=hd) hu (bD (i:=i) hN hv hd1 hcd) hk hs) λσ H Q q=>by
   obtain ⟨A,H₀,B,S,kk⟩:=di q
   obtain ⟨d,xs,e1,e2,e3,e4⟩:=S.dct hi
   refine ⟨_,slot_of e1,aY S λy H2 e5 dy=>?_⟩
   obtain ⟨b,rfl⟩:=hr _ _ dy
   have S2:=S.mono e5
   obtain ⟨d',xs',g1,g2,g3,g4⟩:=S2.dct hi
   rw [e1] at g1
   cases g1
   have:=g4.at key
   rw [hx] at this
   obtain ⟨pp,v,h1,h2,h3⟩:=this
   exact ⟨d,b,key,xs',pp,v,rfl,rfl,⟨g3,λz hz=>(g4.key z hz).mono aQ⟩,dy.mono aQ,h1,h2,kk v H2 e5 (h3.mono (aC (ao.refl _) λ_ z=>i8 z))⟩
end
section
variable {K:PySem.W.Frag} {A:Addr->Prop} {H₀ H H':Hp} {τ:List Sl} {B:Nat->List Addr} {σ:L2.St}
theorem Sta.zM (S:Sta K A H₀ τ B σ H) {i:Nat} {a:Addr} {E E':Ex} {o':HO} (hi:τ[i]?=some (.x E)) (hB:B i=[a]) (d:E'.p K (hd H (own A B)) o' a):Sta K A H₀ (τ.set i (.x E')) B σ (upd H a o'):=by
 have ha:own A B a:=.inr ⟨i,by rw [hB]; exact List.mem_singleton.mpr rfl⟩
 have ne:∀ b,b ≠ a->upd H a o' b=H b:=λb h=>aK h
 have sm:ao (hd H (own A B)) (hd (upd H a o') (own A B)):=λb o z=>by
   obtain ⟨z1,z2⟩:=aE.mp z
   exact aE.mpr ⟨z1,by rw [ne b (λe=>z1 (e ▸ ha))]; exact z2⟩
 have f0:H₀ a=none:=S.fr i a (by rw [hB]; exact List.mem_singleton.mpr rfl)
 have hs:ao H₀ (upd H a o'):=λb o z=>by rw [ne b (λe=>by rw [e,f0] at z; cases z)]; exact S.same b o z
 refine ⟨hs,by rw [List.length_set,S.len],λj t hj=>?_,S.fr,S.uq,S.ad,λj b hb=>?_⟩
 · by_cases ej:j=i
   · subst ej
     have hl:=(List.getElem?_eq_some_iff.mp hi).1
     rw [List.getElem?_set_self hl] at hj
     cases hj
     obtain ⟨a',o,e1,e2,_,_⟩:=S.sl j _ hi
     rw [hB] at e1
     cases e1
     exact ⟨a,o',hB,e2,aT,E'.mono sm d⟩
   · rw [List.getElem?_set_ne (λz=>ej z.symm)] at hj
     have off:∀ b ∈ B j,b ≠ a:=λb hb e=>ej (S.uq j i a (e ▸ hb) (by rw [hB]; exact List.mem_singleton.mpr rfl))
     have q:=S.sl j t hj
     cases t with
     | un=>exact q
     | d x=>obtain ⟨z,u,e,d⟩:=q; exact ⟨z,u,e,d.mono sm⟩
     | o zs=>
       obtain ⟨c,ws,z1,z2,z3,z4⟩:=q
       exact ⟨c,ws,z1,z2,by rw [ne c (off c (by rw [z1]; exact List.mem_singleton.mpr rfl))]; exact z3,z4.mono sm⟩
     | n t=>
       obtain ⟨z0,u,z1,z2⟩:=q
       exact ⟨z0,u,z1,z2.frame sm λb hb=>ne b (off b hb)⟩
     | x E=>
       obtain ⟨c,o,z1,z2,z3,z4⟩:=q
       exact ⟨c,o,z1,z2,by rw [ne c (off c (by rw [z1]; exact List.mem_singleton.mpr rfl))]; exact z3,E.mono sm z4⟩
 · by_cases e:b=a
   · subst e; exact ⟨_,aT⟩
   · rw [ne b e]; exact S.bd j b hb
end
section
variable {K:Type} [DecidableEq K] {a:KD K} {hd:a.dep<=7} {X:Cx} {C:Bool} {τ:List Sl} {x:D} {b e ix:Expr} {pos p q sp:Pos} {k:Nat} {N:Po} {rest:List Stmt} {m:List (K × D)} {key:K}
theorem ny (i:Nat) {n:Str} (hu:X.A.units + 16 < cLine) (hi:τ[i]?=some (.x (exK a hd X.prog X.w m))) (hk:PE X ix (dE X.K true τ (.d (a.toD key)))) (he:PE X e (dE X.K true τ (.d x))) (hl:m.length<=sizeLine) (hr:∀ H v,Den X.K H v (a.toD key)->∃ b,v=.ref b)
   (hn:PSs X rest (dS X.K (τ.set i (.x (exK a hd X.prog X.w (eM m key x)))) N)) (hN:X.N[i]?=some n:=by rfl)
   (hv:Vis X.env.scope n:=by first | exact Or.inl rfl | exact Or.inr (Or.inl rfl) | exact Or.inr (Or.inr rfl)) (hd1:(n == ("__debug__" : Str))=false:=by decide) (hcd:(n == ("__classdict__" : Str))=false:=by decide)
   (hs:swapsWith e (some (.Subscript (.Name n p) ix sp)) pos.line X.env=pure false:=by rfl):PSs X (.Assign [.Subscript (.Name n p) ix sp] e pos :: rest) (dS X.K τ N):=
 bH (M:=(·=τ.set i (.x (exK a hd X.prog X.w (eM m key x))))) (psW (lU (a:=a) (hd:=hd) hu (bD (i:=i) hN hv hd1 hcd) hk he hs) λD σ H ⟨A,H₀,B,S,Me⟩=>aY S λv H1 e1 d1=>by
   have S1:=S.mono e1
   obtain ⟨d,xs,g1,_⟩:=S1.dct hi
   refine ⟨_,slot_of g1,aY S1 λy H2 e2 dy=>?_⟩
   obtain ⟨b,rfl⟩:=hr _ _ dy
   have S2:=S1.mono e2
   obtain ⟨d',xs',h1,h2,h3,h4⟩:=S2.dct hi
   rw [g1] at h1
   cases h1
   have d1':=d1.mono (aC e2 λ_ z=>z)
   exact ⟨d,b,key,xs',rfl,rfl,⟨h3,λz hz=>(h4.key z hz).mono aQ⟩,dy.mono aQ,by rw [h4.length]; exact hl,λu hu=>Me.nx _ _ _ _ rfl (S2.zM hi h2 ⟨_,rfl,h4.put dy hu d1'⟩)⟩) λ_ e=>e ▸ hn
end
end Hy
namespace Hy
open PySem PySem.Spec PyProof.Rows L2
open Ev (D Den av Bx aq)
section
variable {K:PySem.W.Frag} {A:Addr->Prop} {H₀ H:Hp} {τ:List Sl} {B:Nat->List Addr} {σ:L2.St} {m:List (Int × Int)} {i:Nat}
end
section
variable {X:Cx} {C:Bool} {τ:List Sl} {x y:D} {a b e f o ix tg:Expr} {pos p q apos cpos sp:Pos} {k:Nat} {N:Po} {rest:List Stmt} {m:List (Int × Int)} {key v n:Int}
theorem iy {xs:List D} {n:Nat} (h:xs.length=n):hX X (.builtin "len") [.lst xs] (.d (.int n)):=h ▸ iM
theorem lb {n:Str}:mW (.Name n p):=λ_ _=>rfl
theorem so {op:Operator}:mW (.BinOp a op b p):=λ_ _=>rfl
end
end Hy
namespace Hy
open PySem PySem.Spec PyProof.Rows L2
open Ev (D Den av aq aX aP)
noncomputable def iT:List Nat->Nd->Option Nd
 | [],t=>some t
 | i :: p,.l xs=>(xs[i]?).bind (iT p)
 | i :: p,.t xs=>(xs[i]?).bind (iT p)
 | _ :: _,.d _=>none
noncomputable def eV:List Nat->Nd->Nd->Nd
 | [],_,n=>n
 | i :: p,.l xs,n=>.l (xs.set i (eV p (xs.getD i (.d .non)) n))
 | i :: p,.t xs,n=>.t (xs.set i (eV p (xs.getD i (.d .non)) n))
 | _ :: _,.d x,_=>.d x
noncomputable def c9 (H:Hp):List Nat->V->V->Prop
 | [],u,v=>v=u
 | i :: p,u,v=>∃ a vs w,u=.ref a/\(H a=some (.lst vs)\/H a=some (.tup vs))/\vs[i]?=some w/\c9 H p w v
theorem c9.mono {H H':Hp} (e:ao H H'):∀ {p:List Nat} {u v:V},c9 H p u v->c9 H' p u v
 | [],_,_,h=>h
 | _ :: _,_,_,⟨a,vs,w,h1,h2,h3,h4⟩=>⟨a,vs,w,h1,h2.elim (λz=>.inl (e _ _ z)) (λz=>.inr (e _ _ z)),h3,h4.mono e⟩
theorem c9.snoc {H:Hp} {i:Nat} {a:Addr} {vs:List V} {w:V}:∀ {p:List Nat} {u:V},c9 H p u (.ref a)->(H a=some (.lst vs)\/H a=some (.tup vs))->vs[i]?=some w->c9 H (p++[i]) u w
 | [],_,h,h1,h2=>⟨a,vs,w,h.symm,h1,h2,rfl⟩
 | _ :: _,_,⟨b,us,x,z1,z2,z3,z4⟩,h1,h2=>⟨b,us,x,z1,z2,z3,z4.snoc h1 h2⟩
section
variable {K:PySem.W.Frag} {G H:Hp}
theorem a5.length:∀ {vs:List V} {bs:List Addr} {xs:List Nd},a5 K G H vs bs xs->vs.length=xs.length
 | _,_,_,.nil=>rfl
 | _,_,_,.cons _ r=>congrArg (· + 1) r.length
theorem a5.part:∀ {vs:List V} {bs:List Addr} {xs:List Nd} {i:Nat} {c:Nd},a5 K G H vs bs xs->xs[i]?=some c->∃ v l m r,vs[i]?=some v/\bs=l++(m++r)/\bV K G H v m c /\
   ∀ {G' H':Hp} {m':List Addr} {c':Nd},ao G G'->(∀ b,b ∈ l\/b ∈ r->H' b=H b)->bV K G' H' v m' c'->a5 K G' H' vs (l++(m'++r)) (xs.set i c')
 | _,_,_,_,_,.nil,e=>by cases e
 | _,_,_,0,_,.cons (b1:=b1) (b2:=b2) h r,e=>by
   cases e
   exact ⟨_,[],b1,b2,rfl,rfl,h,λg e h'=>by rw [List.nil_append]; exact .cons h' (r.frame g λb hb=>e b (.inr hb))⟩
 | _,_,_,i + 1,c,.cons (b1:=b1) h r,e=>by
   obtain ⟨v,l,m,q,h1,h2,h3,h4⟩:=a5.part (i:=i) (c:=c) r (by simpa using e)
   refine ⟨v,b1++l,m,q,by simpa using h1,by rw [h2,List.append_assoc],h3,λ{G' H' m' c'} g e h'=>?_⟩
   rw [List.append_assoc]
   exact .cons (h.frame g λb hb=>e b (.inl (List.mem_append_left _ hb))) (h4 g (λb hb=>e b (hb.elim (λz=>.inl (List.mem_append_right _ z)) .inr)) h')
theorem bV.focus:∀ (p:List Nat) {u:V} {bs:List Addr} {t c:Nd},bV K G H u bs t->iT p t=some c->∃ v l m r,c9 H p u v/\bs=l++(m++r)/\bV K G H v m c /\
   ∀ {G' H':Hp} {m':List Addr} {c':Nd},ao G G'->(∀ b,b ∈ l\/b ∈ r->H' b=H b)->bV K G' H' v m' c'->bV K G' H' u (l++(m'++r)) (eV p t c')
 | [],u,bs,tr,c,h,e=>by
   cases e
   exact ⟨u,[],bs,[],rfl,by simp,h,λg _ h'=>by simpa [eV] using h'⟩
 | i :: p,_,_,.l xs,c,.l (a:=a) (bs:=bs) hH r,e=>by
   rw [iT] at e
   cases ei:xs[i]? with
   | none=>rw [ei] at e; cases e
   | some x=>
     rw [ei] at e
     obtain ⟨v,l,m,q,h1,h2,h3,h4⟩:=r.part ei
     obtain ⟨w,l',m',q',g1,g2,g3,g4⟩:=bV.focus p h3 e
     refine ⟨w,a :: (l++l'),m',q'++q,⟨a,_,v,rfl,.inl hH,h1,g1⟩,by rw [h2,g2]; simp,g3,λ{G' H' m2 c2} g e2 h'=>?_⟩
     have k1:=g4 g (λb hb=>e2 b (hb.elim (λz=>.inl (List.mem_cons_of_mem _ (List.mem_append_right _ z))) λz=>.inr (List.mem_append_left _ z))) h'
     have k2:=h4 g (λb hb=>e2 b (hb.elim (λz=>.inl (List.mem_cons_of_mem _ (List.mem_append_left _ z))) λz=>.inr (List.mem_append_right _ z))) k1
     rw [eV,show xs.getD i (.d .non)=x by simp [List.getD,ei]]
     have k3:=bV.l (G:=G') (K:=K) (a:=a) (by rw [e2 a (.inl (List.mem_cons_self ..))]; exact hH) k2
     simpa using k3
 | i :: p,_,_,.t xs,c,.t (a:=a) (bs:=bs) hH r,e=>by
   rw [iT] at e
   cases ei:xs[i]? with
   | none=>rw [ei] at e; cases e
   | some x=>
     rw [ei] at e
     obtain ⟨v,l,m,q,h1,h2,h3,h4⟩:=r.part ei
     obtain ⟨w,l',m',q',g1,g2,g3,g4⟩:=bV.focus p h3 e
     refine ⟨w,a :: (l++l'),m',q'++q,⟨a,_,v,rfl,.inr hH,h1,g1⟩,by rw [h2,g2]; simp,g3,λ{G' H' m2 c2} g e2 h'=>?_⟩
     have k1:=g4 g (λb hb=>e2 b (hb.elim (λz=>.inl (List.mem_cons_of_mem _ (List.mem_append_right _ z))) λz=>.inr (List.mem_append_left _ z))) h'
     have k2:=h4 g (λb hb=>e2 b (hb.elim (λz=>.inl (List.mem_cons_of_mem _ (List.mem_append_left _ z))) λz=>.inr (List.mem_append_right _ z))) k1
     rw [eV,show xs.getD i (.d .non)=x by simp [List.getD,ei]]
     have k3:=bV.t (G:=G') (K:=K) (a:=a) (by rw [e2 a (.inl (List.mem_cons_self ..))]; exact hH) k2
     simpa using k3
theorem c9.det:∀ {p:List Nat} {u v w:V},c9 H p u v->c9 H p u w->v=w
 | [],_,_,_,h,h'=>h.trans h'.symm
 | _ :: _,_,_,_,⟨a,vs,x,h1,h2,h3,h4⟩,⟨b,us,y,g1,g2,g3,g4⟩=>by
   rw [h1] at g1
   cases g1
   have e:vs=us:=by
     rcases h2 with h2 | h2 <;> rcases g2 with g2 | g2 <;> rw [h2] at g2 <;> cases g2 <;> rfl
   subst e
   rw [h3] at g3
   cases g3
   exact h4.det g4
theorem cb.frame {G' H':Hp} (g:ao G G') {v:Option V} {bs:List Addr}:∀ {s:Sl},(∀ b ∈ bs,H' b=H b)->cb K G H v bs s->cb K G' H' v bs s
 | .un,_,h=>h
 | .d _,_,⟨h,u,e1,h2⟩=>⟨h,u,e1,h2.mono g⟩
 | .o _,e,⟨a,vs,h1,h2,h3,h4⟩=>⟨a,vs,h1,h2,by rw [e a (by rw [h1]; exact List.mem_cons_self ..)]; exact h3,h4.mono g⟩
 | .n _,e,⟨h0,u,h1,h2⟩=>⟨h0,u,h1,h2.frame g e⟩
 | .x E,e,⟨a,o,h1,h2,h3,h4⟩=>⟨a,o,h1,h2,by rw [e a (by rw [h1]; exact List.mem_cons_self ..)]; exact h3,E.mono g h4⟩
theorem n9 {l r b0 b1:List Addr} {a:Addr} (h:(l++((a :: b0)++r)).Nodup) (h1:b1.Nodup) (hb:∀ b ∈ b1,b ∈ b0\/(b ∉ l/\b ≠ a/\b ∉ r)):(l++((a :: b1)++r)).Nodup:=by
 obtain ⟨z1,z2,z3⟩:=List.nodup_append.mp h
 rw [List.cons_append] at z2
 obtain ⟨z4,z5⟩:=List.nodup_cons.mp z2
 obtain ⟨z6,z7,z8⟩:=List.nodup_append.mp z5
 refine List.nodup_append.mpr ⟨z1,?_,λx hx y hy=>?_⟩
 · rw [List.cons_append]
   refine List.nodup_cons.mpr ⟨λz=>?_,List.nodup_append.mpr ⟨h1,z7,λx hx y hy=>?_⟩⟩
   · rcases List.mem_append.mp z with z | z
     · rcases hb a z with q | q
       · exact z4 (List.mem_append_left _ q)
       · exact q.2.1 rfl
     · exact z4 (List.mem_append_right _ z)
   · rcases hb x hx with q | q
     · exact z8 x q y hy
     · exact λe=>q.2.2 (e ▸ hy)
 · rw [List.cons_append] at hy
   rcases List.mem_cons.mp hy with q | q
   · exact z3 x hx y (by rw [q]; exact List.mem_append_left _ (List.mem_cons_self ..))
   · rcases List.mem_append.mp q with q | q
     · rcases hb y q with q | q
       · exact z3 x hx y (List.mem_append_left _ (List.mem_cons_of_mem _ q))
       · exact λe=>q.1 (e ▸ hx)
     · exact z3 x hx y (List.mem_append_right _ q)
theorem Sta.putN {A:Addr->Prop} {H₀:Hp} {τ:List Sl} {B:Nat->List Addr} {σ:L2.St} {i:Nat} {t:Nd} {p:List Nat} {xs:List Nd} (S:Sta K A H₀ τ B σ H) (hi:τ[i]?=some (.n t)) (hp:iT p t=some (.l xs)) :
   ∃ u a vs bs0,(σ[i]?).join=some u/\c9 H p u (.ref a)/\H a=some (.lst vs)/\a5 K (hd H (own A B)) H vs bs0 xs/\bs0.Nodup/\own A B a/\(∀ b ∈ bs0,own A B b/\b ≠ a) /\
     ∀ {H1:Hp} {vs':List V} {bs1:List Addr} {xs':List Nd},ao H H1->bs1.Nodup->(∀ b ∈ bs1,b ∈ bs0\/(H b=none/\∃ o,H1 b=some o))->a5 K (hd (upd H1 a (.lst vs')) λb=>own A B b\/b ∈ bs1) (upd H1 a (.lst vs')) vs' bs1 xs' ->
       ∃ B',Sta K A H₀ (τ.set i (.n (eV p t (.l xs')))) B' σ (upd H1 a (.lst vs')):=by
 obtain ⟨nd,u,eu,ok⟩:=S.sl i _ hi
 obtain ⟨v,l,m,r,pv,hbs,okc,back⟩:=ok.focus p hp
 cases okc with
 | @l a vs bs0 _ hH r0=>
   have mem:∀ b,b ∈ l\/b=a\/b ∈ bs0\/b ∈ r->b ∈ B i:=λb hb=>by
     rw [hbs]
     rcases hb with z | z | z | z
     · exact List.mem_append_left _ z
     · exact List.mem_append_right _ (by rw [z]; exact List.mem_append_left _ (List.mem_cons_self ..))
     · exact List.mem_append_right _ (List.mem_append_left _ (List.mem_cons_of_mem _ z))
     · exact List.mem_append_right _ (List.mem_append_right _ z)
   have nd':=nd
   rw [hbs] at nd'
   obtain ⟨n1,n2,n3⟩:=List.nodup_append.mp nd'
   rw [List.cons_append] at n2
   obtain ⟨n4,n5⟩:=List.nodup_cons.mp n2
   obtain ⟨n6,_,_⟩:=List.nodup_append.mp n5
   have ha:own A B a:=.inr ⟨i,mem a (.inr (.inl rfl))⟩
   refine ⟨u,a,vs,bs0,eu,pv,hH,r0,n6,ha,λb hb=>⟨.inr ⟨i,mem b (.inr (.inr (.inl hb)))⟩,λz=>n4 (z ▸ List.mem_append_left _ hb)⟩,λ{H1 vs' bs1 xs'} e h1 hb hx=>?_⟩
   have keep:∀ b o,b ≠ a->H b=some o->upd H1 a (.lst vs') b=H b:=λb o ne h=>by rw [aK ne,e _ _ h,h]
   have la:∀ b,b ∈ l\/b ∈ r->b ≠ a:=λb hb z=>by
     rcases hb with q | q
     · exact n3 b q a (List.mem_append_left _ (List.mem_cons_self ..)) z
     · exact n4 (z ▸ List.mem_append_right _ q)
   have fresh:∀ b ∈ bs1,b ∈ bs0\/(b ∉ l/\b ≠ a/\b ∉ r):=λb hb1=>by
     rcases hb b hb1 with q | ⟨q,_⟩
     · exact .inl q
     · have no:∀ c,c ∈ B i->b ≠ c:=λc hc z=>by obtain ⟨o,hc⟩:=S.bd i c hc; rw [<- z,q] at hc; cases hc
       exact .inr ⟨λz=>no b (mem b (.inl z)) rfl,no a (mem a (.inr (.inl rfl))),λz=>no b (mem b (.inr (.inr (.inr z)))) rfl⟩
   have sub:∀ b,own A (upB B i (l++((a :: bs1)++r))) b->own A B b\/b ∈ bs1:=λb z=>by
     rcases z with z | ⟨j,z⟩
     · exact .inl (.inl z)
     · rcases bh z with ⟨_,z⟩ | ⟨_,z⟩
       · rcases List.mem_append.mp z with z | z
         · exact .inl (.inr ⟨i,mem b (.inl z)⟩)
         · rw [List.cons_append] at z
           rcases List.mem_cons.mp z with z | z
           · exact .inl (z ▸ ha)
           · rcases List.mem_append.mp z with z | z
             · exact .inr z
             · exact .inl (.inr ⟨i,mem b (.inr (.inr (.inr z)))⟩)
       · exact .inl (.inr ⟨j,z⟩)
   have sm:ao (hd H (own A B)) (hd (upd H1 a (.lst vs')) (own A (upB B i (l++((a :: bs1)++r))))):=λb o z=>by
     obtain ⟨z1,z2⟩:=aE.mp z
     refine aE.mpr ⟨λy=>?_,by rw [keep b o (λq=>z1 (q ▸ ha)) z2]; exact z2⟩
     rcases sub b y with y | y
     · exact z1 y
     · rcases hb b y with q | ⟨q,_⟩
       · exact z1 (.inr ⟨i,mem b (.inr (.inr (.inl q)))⟩)
       · rw [q] at z2; cases z2
   have hs:ao H₀ (upd H1 a (.lst vs')):=λb o z=>by
     have f0:=S.fr i a (mem a (.inr (.inl rfl)))
     rw [aK (λq=>by rw [q,f0] at z; cases z)]
     exact e _ _ (S.same _ _ z)
   refine ⟨upB B i (l++((a :: bs1)++r)),hs,by rw [List.length_set,S.len],λj s hj=>?_,λj b z=>?_,λj k b z1 z2=>?_,S.ad,λj b z=>?_⟩
   · by_cases ej:j=i
     · subst ej
       have hl:=(List.getElem?_eq_some_iff.mp hi).1
       rw [List.getElem?_set_self hl] at hj
       cases hj
       unfold upB
       rw [if_pos rfl]
       refine ⟨n9 nd' h1 fresh,u,eu,back sm (λb hb=>?_) (.l aT (hx.frame (aC (ao.refl _) sub) λ_ _=>rfl))⟩
       obtain ⟨o,q⟩:=S.bd j b (mem b (hb.elim .inl λz=>.inr (.inr (.inr z))))
       exact keep b o (la b hb) q
     · rw [List.getElem?_set_ne (λz=>ej z.symm)] at hj
       unfold upB
       rw [if_neg ej]
       refine (S.sl j s hj).frame sm λb hb=>?_
       obtain ⟨o,q⟩:=S.bd j b hb
       exact keep b o (λz=>ej (S.uq j i a (z ▸ hb) (mem a (.inr (.inl rfl))))) q
   · rcases bh z with ⟨_,z⟩ | ⟨_,z⟩
     · rcases sub b (.inr ⟨i,by unfold upB; rw [if_pos rfl]; exact z⟩) with y | y
       · rcases List.mem_append.mp z with z | z
         · exact S.fr i b (mem b (.inl z))
         · rw [List.cons_append] at z
           rcases List.mem_cons.mp z with z | z
           · exact S.fr i b (mem b (.inr (.inl z)))
           · rcases List.mem_append.mp z with z | z
             · rcases hb b z with q | ⟨q,_⟩
               · exact S.fr i b (mem b (.inr (.inr (.inl q))))
               · exact S.same.free q
             · exact S.fr i b (mem b (.inr (.inr (.inr z))))
       · rcases hb b y with q | ⟨q,_⟩
         · exact S.fr i b (mem b (.inr (.inr (.inl q))))
         · exact S.same.free q
     · exact S.fr j b z
   · have inB:∀ {c},c ∈ l++((a :: bs1)++r)->c ∈ B i\/H c=none:=λ{c} z=>by
       rcases List.mem_append.mp z with z | z
       · exact .inl (mem c (.inl z))
       · rw [List.cons_append] at z
         rcases List.mem_cons.mp z with z | z
         · exact .inl (mem c (.inr (.inl z)))
         · rcases List.mem_append.mp z with z | z
           · rcases hb c z with q | ⟨q,_⟩
             · exact .inl (mem c (.inr (.inr (.inl q))))
             · exact .inr q
           · exact .inl (mem c (.inr (.inr (.inr z))))
     have cross:∀ {j},j ≠ i->b ∈ B j->b ∈ l++((a :: bs1)++r)->False:=λ{j} nj y1 y2=>by
       rcases inB y2 with q | q
       · exact nj (S.uq j i b y1 q)
       · obtain ⟨o,w⟩:=S.bd j b y1; rw [q] at w; cases w
     rcases bh z1 with ⟨e1,y1⟩ | ⟨e1,y1⟩ <;> rcases bh z2 with ⟨e2,y2⟩ | ⟨e2,y2⟩
     · exact e1.trans e2.symm
     · exact (cross e2 y2 y1).elim
     · exact (cross e1 y1 y2).elim
     · exact S.uq j k b y1 y2
   · rcases bh z with ⟨_,z⟩ | ⟨_,z⟩
     · by_cases e':b=a
       · exact ⟨_,by rw [e']; exact aT⟩
       · rw [aK e']
         have old:b ∈ B i->∃ o,H1 b=some o:=λq=>let ⟨o,w⟩:=S.bd i b q; ⟨o,e _ _ w⟩
         rcases List.mem_append.mp z with z | z
         · exact old (mem b (.inl z))
         · rw [List.cons_append] at z
           rcases List.mem_cons.mp z with z | z
           · exact absurd z e'
           · rcases List.mem_append.mp z with z | z
             · rcases hb b z with q | ⟨_,q⟩
               · exact old (mem b (.inr (.inr (.inl q))))
               · exact q
             · exact old (mem b (.inr (.inr (.inr z))))
     · by_cases e':b=a
       · exact ⟨_,by rw [e']; exact aT⟩
       · rw [aK e']
         obtain ⟨o,w⟩:=S.bd j b z
         exact ⟨o,e _ _ w⟩
end
noncomputable def dP (K:PySem.W.Frag) (τ:List Sl) (i:Nat) (p:List Nat):TE:=λσ H Q=>∃ A H₀ B,Sta K A H₀ τ B σ H/\∀ u v H',(σ[i]?).join=some u->ao H H'->c9 H' p u v->Q v H'
noncomputable def ya:Sl->Option Nd
 | .un=>none
 | .d x=>some (.d x)
 | .o xs=>some (.l (xs.map .d))
 | .n t=>some t
 | .x _=>none
section
variable {K:PySem.W.Frag} {G H:Hp}
theorem ot:∀ {vs:List V} {xs:List D},av K G vs xs->a5 K G H vs [] (xs.map .d)
 | _,_,.nil=>.nil
 | _,_,.cons h r=>.cons (b1:=[]) (b2:=[]) (.d h) (ot r)
theorem cb.nd {v:V} {bs:List Addr} {s:Sl} {c:Nd} (h:cb K G H (some v) bs s) (e:ya s=some c):bV K G H v bs c/\bs.Nodup:=by
 cases s with
 | un=>cases e
 | d x=>cases e; obtain ⟨rfl,u,eu,d⟩:=h; cases eu; exact ⟨.d d,List.nodup_nil⟩
 | o xs=>cases e; obtain ⟨a,vs,rfl,e2,h3,h4⟩:=h; cases e2; exact ⟨.l h3 (ot h4),by simp⟩
 | n t=>cases e; obtain ⟨h0,u,eu,h2⟩:=h; cases eu; exact ⟨h2,h0⟩
 | x E=>cases e
theorem a5.snoc {v:V} {c:Nd} {b2:List Addr} (h:bV K G H v b2 c):∀ {vs:List V} {bs:List Addr} {xs:List Nd},a5 K G H vs bs xs->a5 K G H (vs++[v]) (bs++b2) (xs++[c])
 | _,_,_,.nil=>by have:=a5.cons h .nil; rw [List.append_nil] at this; exact this
 | _,_,_,.cons h1 r=>by rw [List.append_assoc]; exact .cons h1 (a5.snoc h r)
end
section
variable {X:Cx} {C:Bool} {τ:List Sl} {x y z:D} {a b e o ix:Expr} {es:List Expr} {pos p q:Pos} {k:Nat} {s:Sl} {N:Po} {rest:List Stmt} {i:Nat} {t c:Nd} {pt:List Nat} {xs:List Nd} {j:Int} {m:Nat}
theorem nE (i:Nat) {n:Str} {t:Nd} (h:τ[i]?=some (.n t):=by rfl) (hN:X.N[i]?=some n:=by rfl) (hv:Vis X.env.scope n:=by first | exact Or.inl rfl | exact Or.inr (Or.inl rfl) | exact Or.inr (Or.inr rfl))
   (hd:(n == ("__debug__" : Str))=false:=by decide) (hcd:(n == ("__classdict__" : Str))=false:=by decide):PE X (.Name n pos) (dP X.K τ i []):=peW (bD hN hv hd hcd) λσ H Q ⟨A,H₀,B,S,k⟩=>by
 obtain ⟨_,u,e,_⟩:=S.sl i _ h
 exact ⟨u,slot_of e,k u u H e (ao.refl _) rfl⟩
theorem Sta.at {K:PySem.W.Frag} {A:Addr->Prop} {H₀ H:Hp} {τ:List Sl} {B:Nat->List Addr} {σ:L2.St} (S:Sta K A H₀ τ B σ H) (hi:τ[i]?=some (.n t)) (hp:iT pt t=some c):∃ u v m,(σ[i]?).join=some u/\c9 H pt u v/\bV K (hd H (own A B)) H v m c/\∀ b ∈ m,b ∈ B i:=by
 obtain ⟨_,u,e,ok⟩:=S.sl i _ hi
 obtain ⟨v,l,m,r,h1,h2,h3,_⟩:=ok.focus pt hp
 exact ⟨u,v,m,e,h1,h3,λb hb=>by rw [h2]; exact List.mem_append_right _ (List.mem_append_left _ hb)⟩
theorem qm {K:PySem.W.Frag} {G H:Hp} {vs:List V} {bs:List Addr} {m:Nat} (r:a5 K G H vs bs xs) (hm:m < xs.length):∃ v,vs[m]?=some v:=⟨vs[m]'(by rw [r.length]; exact hm),List.getElem?_eq_getElem _⟩
theorem sh {n m:Nat} {j:Int} (h:ixN n j=some m):m < n:=by
 unfold ixN at h
 split at h
 · split at h
   · cases h; omega
   · cases h
 · split at h
   · cases h; omega
   · cases h
theorem BC (ha:PE X a (dP X.K τ i pt)) (hb:PE X b (dE X.K false τ (.d (.int j)))) (hi:τ[i]?=some (.n t)) (hp:iT pt t=some (.l xs)) (hj:ixN xs.length j=some m) (hs:gQ b:=by exact λ_ _=>rfl):PE X (.Subscript a b pos) (dP X.K τ i (pt++[m])):=
 peW (pR kW ha hb hs) λσ H Q ⟨A,H₀,B,S,k⟩=>⟨A,H₀,B,S,λu v H1 eu e1 pv=>aY (S.mono e1) λw H2 e2 d2=>by
   cases d2
   obtain ⟨u',v',m',eu',pv',ok,_⟩:=((S.mono e1).mono e2).at hi hp
   rw [eu] at eu'
   cases eu'
   obtain rfl:=(pv.mono e2).det pv'
   cases ok with
   | @l ad vs _ _ hH r=>
     obtain ⟨x,hx⟩:=qm r (sh hj)
     exact ⟨ad,vs,j,x,rfl,rfl,SqL.of hH,by unfold atI; rw [r.length,hj]; exact hx,k u x H2 eu (e1.trans e2) (pv'.snoc (.inl hH) hx)⟩⟩
theorem lH (ha:PE X a (dP X.K τ i pt)) (hb:PE X b (dE X.K false τ (.d (.int j)))) (hi:τ[i]?=some (.n t)) (hp:iT pt t=some (.t xs)) (hj:ixN xs.length j=some m) (hs:gQ b:=by exact λ_ _=>rfl):PE X (.Subscript a b pos) (dP X.K τ i (pt++[m])):=
 peW (pR rD ha hb hs) λσ H Q ⟨A,H₀,B,S,k⟩=>⟨A,H₀,B,S,λu v H1 eu e1 pv=>aY (S.mono e1) λw H2 e2 d2=>by
   cases d2
   obtain ⟨u',v',m',eu',pv',ok,_⟩:=((S.mono e1).mono e2).at hi hp
   rw [eu] at eu'
   cases eu'
   obtain rfl:=(pv.mono e2).det pv'
   cases ok with
   | @t ad vs _ _ hH r=>
     obtain ⟨x,hx⟩:=qm r (sh hj)
     exact ⟨ad,vs,j,x,rfl,rfl,SqT.of hH,by unfold atI; rw [r.length,hj]; exact hx,k u x H2 eu (e1.trans e2) (pv'.snoc (.inr hH) hx)⟩⟩
theorem za (h:PE X e (dP X.K τ i pt)) (hi:τ[i]?=some (.n t)) (hp:iT pt t=some c):PE X e (dE X.K false τ (.d (ndD c))):=peW h λσ H Q q=>by
 obtain ⟨A,H₀,B,S,k⟩:=di q
 refine ⟨A,H₀,B,S,λu v H1 eu e1 pv=>?_⟩
 obtain ⟨u',v',m',eu',pv',ok,hm⟩:=(S.mono e1).at hi hp
 rw [eu] at eu'
 cases eu'
 obtain rfl:=pv.det pv'
 exact k v H1 e1 (ok.den (aC (ao.refl _) λ_ z=>.inl z) λb hb o ho=>aE.mpr ⟨λz=>(by obtain ⟨_,w⟩:=S.ad b z; rw [S.fr i b (hm b hb)] at w; cases w),ho⟩)
theorem yY {ap cp:Pos} (ho:PE X o (dP X.K τ i pt)) (he:PE X e (dE X.K true τ s)) (hi:τ[i]?=some (.n t)) (hp:iT pt t=some (.l xs)) (hc:ya s=some c) (hl:xs.length < 1000000) (hr:PSs X rest (dS X.K (τ.set i (.n (eV pt t (.l (xs++[c]))))) N))
   (hfew:((backTo cp (starEach [e] X.env)).all (λx=>!x.1) && (backToKw cp (keywordEach [] X.env)).all (λx=>x.1.isSome) && decide (([e]:List Expr).length + ([]:List Keyword).length + (if ([]:List Keyword).isEmpty then 0 else 1) < 30))=true:=by rfl)
   (hline:(ap.endLine == cp.line)=true:=by rfl) (hst:starEach [e] X.env=(false,eval e X.env) :: starEach [] X.env:=by rfl) (hpl:(backTo cp (starEach [] X.env)).any (·.1)=false:=by rfl)
   (hs:swapsWith (.Call (.Attribute o "append" ap) [e] [] cp) none pos.line X.env=pure false:=by rfl) (hbase:attributeBase o "append" X.env (eval o X.env)=eval o X.env:=by rfl) :
   PSs X (.Expr (.Call (.Attribute o "append" ap) [e] [] cp) pos :: rest) (dS X.K τ N):=
 bH (M:=(·=τ.set i (.n (eV pt t (.l (xs++[c])))))) (psW (cK (iG PySem.F.plainAttrs_list PySem.F.slot_list_append PySem.F.type_list_append dN ho (bK he cQ hst) hbase hfew hline hst hpl) hs) λD σ H ⟨A,H₀,B,S,Me⟩=>by
   refine ⟨A,H₀,B,S,λu v H1 eu e1 pv=>?_⟩
   have S1:=S.mono e1
   obtain ⟨u',l,vs,bs0,eu',pv',hH,r0,nd0,hal,hown,put⟩:=S1.putN hi hp
   rw [eu] at eu'
   cases eu'
   obtain rfl:=pv.det pv'
   refine ⟨.inl ⟨rfl,_,SqL.of hH⟩,A,H₀,B,S1,λw H2 bs e2 hf hw=>⟨l,vs,w,rfl,rfl,e2 _ _ hH,by rw [r0.length]; exact Nat.lt_trans hl (by decide),?_⟩⟩
   obtain ⟨nw,ndw⟩:=hw.nd hc
   have off:∀ b ∈ bs,b ≠ l:=λb hb z=>by rw [z] at hb; rw [(hf l hb).1] at hH; cases hH
   have sm:ao (hd H2 λb=>own A B b\/b ∈ bs) (hd (upd H2 l (.lst (vs++[w]))) λb=>own A B b\/b ∈ bs0++bs):=λb o z=>by
     obtain ⟨z1,z2⟩:=aE.mp z
     refine aE.mpr ⟨λy=>z1 ?_,by rw [aK (λy:b=l=>z1 (.inl (by rw [y]; exact hal)))]; exact z2⟩
     rcases y with y | y
     · exact .inl y
     · exact (List.mem_append.mp y).elim (λz=>.inl (hown b z).1) .inr
   have sm0:ao (hd H1 (own A B)) (hd (upd H2 l (.lst (vs++[w]))) λb=>own A B b\/b ∈ bs0++bs):=λb o z=>by
     obtain ⟨z1,z2⟩:=aE.mp z
     refine aE.mpr ⟨λy=>?_,by rw [aK (λy:b=l=>z1 (by rw [y]; exact hal))]; exact e2 _ _ z2⟩
     rcases y with y | y
     · exact z1 y
     · rcases List.mem_append.mp y with y | y
       · exact z1 (hown b y).1
       · rw [(hf b y).1] at z2; cases z2
   obtain ⟨B',S'⟩:=put (H1:=H2) (vs':=vs++[w]) (bs1:=bs0++bs) (xs':=xs++[c]) e2 (List.nodup_append.mpr ⟨nd0,ndw,λx hx y hy z=>by
       obtain ⟨o,q⟩:=r0.some_of x hx
       rw [z,(hf y hy).1] at q; cases q⟩)
     (λb hb=>(List.mem_append.mp hb).elim .inl λz=>.inr (hf b z))
     (a5.snoc (nw.frame sm λb hb=>aK (off b hb)) (r0.frame sm0 λb hb=>by
       obtain ⟨o,q⟩:=r0.some_of b hb
       rw [aK (hown b hb).2,e2 _ _ q,q]))
   exact Me.nx _ B' _ _ rfl S') λ_ e=>e ▸ hr
end
end Hy
namespace Ev
open PySem PySem.Spec PyProof.Rows L2
noncomputable def bad:Str:=⟨#[0x110000]⟩
mutual
noncomputable def eqD:D->D->Bool
 | .non,.non=>true
 | .bl a,.bl b=>a == b
 | .bl a,.int j=>(if a then 1 else 0) == j
 | .int i,.bl b=>i == (if b then 1 else 0)
 | .int a,.int b=>a == b
 | .str a,.str b=>a == b
 | .tup xs,.tup ys=>iU xs ys
 | .lst xs,.lst ys=>iU xs ys
 | .box _,.box _=>true
 | .box _,.str b=>bad == b
 | .str a,.box _=>a == bad
 | .box _,.non | .box _,.bl _ | .box _,.int _ | .box _,.tup _ | .box _,.lst _=>false
 | .non,.box _ | .bl _,.box _ | .int _,.box _ | .tup _,.box _ | .lst _,.box _=>false
 | .non,.bl _ | .non,.int _ | .non,.str _ | .non,.tup _ | .non,.lst _=>false
 | .bl _,.non | .bl _,.str _ | .bl _,.tup _ | .bl _,.lst _=>false
 | .int _,.non | .int _,.str _ | .int _,.tup _ | .int _,.lst _=>false
 | .str _,.non | .str _,.bl _ | .str _,.int _ | .str _,.tup _ | .str _,.lst _=>false
 | .tup _,.non | .tup _,.bl _ | .tup _,.int _ | .tup _,.str _ | .tup _,.lst _=>false
 | .lst _,.non | .lst _,.bl _ | .lst _,.int _ | .lst _,.str _ | .lst _,.tup _=>false
noncomputable def iU:List D->List D->Bool
 | [],[]=>true
 | x :: xs,y :: ys=>eqD x y && iU xs ys
 | [],_ :: _=>false
 | _ :: _,[]=>false
end
mutual
noncomputable def toP:D->PyData
 | .non=>.none
 | .bl b=>.bool b
 | .int i=>.int i
 | .str x=>.str x
 | .tup xs=>.tuple (fO xs)
 | .lst xs=>.list (fO xs)
 | .box _=>.str bad
noncomputable def fO:List D->List PyData
 | []=>[]
 | x :: xs=>toP x :: fO xs
end
mutual
noncomputable def cln:D->Bool
 | .str x=>PyData.strOk x
 | .tup xs=>dr xs
 | .lst xs=>dr xs
 | .box _=>false
 | .non | .bl _ | .int _=>true
noncomputable def dr:List D->Bool
 | []=>true
 | x :: xs=>cln x && dr xs
end
mutual
noncomputable def dep:D->Nat
 | .tup xs=>eQ xs + 1
 | .lst xs=>eQ xs + 1
 | .non | .bl _ | .int _ | .str _ | .box _=>0
noncomputable def eQ:List D->Nat
 | []=>0
 | x :: xs=>max (dep x) (eQ xs)
end
noncomputable def cF (x:D):Prop:=cln x=true/\dep x<=64
noncomputable instance (x:D):Decidable (cF x):=inferInstanceAs (Decidable (_/\_))
mutual
theorem fA:∀ x y:D,PyData.eqv (toP x) (toP y)=eqD x y
 | .non,y=>by cases y <;> simp [toP,PyData.eqv,eqD]
 | .bl a,y=>by cases y <;> simp [toP,PyData.eqv,eqD]
 | .int a,y=>by cases y <;> simp [toP,PyData.eqv,eqD]
 | .str a,y=>by cases y <;> simp [toP,PyData.eqv,eqD]
 | .tup xs,.tup ys=>by simp only [toP,PyData.eqv,eqD]; exact i6 xs ys
 | .lst xs,.lst ys=>by simp only [toP,PyData.eqv,eqD]; exact i6 xs ys
 | .tup xs,.non=>by simp [toP,PyData.eqv,eqD]
 | .tup xs,.bl _=>by simp [toP,PyData.eqv,eqD]
 | .tup xs,.int _=>by simp [toP,PyData.eqv,eqD]
 | .tup xs,.str _=>by simp [toP,PyData.eqv,eqD]
 | .tup xs,.lst _=>by simp [toP,PyData.eqv,eqD]
 | .lst xs,.non=>by simp [toP,PyData.eqv,eqD]
 | .lst xs,.bl _=>by simp [toP,PyData.eqv,eqD]
 | .lst xs,.int _=>by simp [toP,PyData.eqv,eqD]
 | .lst xs,.str _=>by simp [toP,PyData.eqv,eqD]
 | .lst xs,.tup _=>by simp [toP,PyData.eqv,eqD]
 | .tup xs,.box _=>by simp [toP,PyData.eqv,eqD]
 | .lst xs,.box _=>by simp [toP,PyData.eqv,eqD]
 | .box _,y=>by cases y <;> simp [toP,PyData.eqv,eqD]
theorem i6:∀ xs ys:List D,PyData.eqvAll (fO xs) (fO ys)=iU xs ys
 | [],[]=>by simp [fO,PyData.eqvAll,iU]
 | [],_ :: _=>by simp [fO,PyData.eqvAll,iU]
 | _ :: _,[]=>by simp [fO,PyData.eqvAll,iU]
 | x :: xs,y :: ys=>by simp only [fO,PyData.eqvAll,iU]; rw [fA x y,i6 xs ys]
end
mutual
theorem gY:∀ x:D,(toP x).canLay0=cln x
 | .non=>by simp [toP,PyData.canLay0,cln]
 | .bl _=>by simp [toP,PyData.canLay0,cln]
 | .int _=>by simp [toP,PyData.canLay0,cln]
 | .str _=>by simp [toP,PyData.canLay0,cln]
 | .tup xs=>by simp only [toP,PyData.canLay0,cln]; exact jj xs
 | .lst xs=>by simp only [toP,PyData.canLay0,cln]; exact jj xs
 | .box _=>by simp only [toP,PyData.canLay0,cln]; decide +kernel
theorem jj:∀ xs:List D,PyData.canLayAll0 (fO xs)=dr xs
 | []=>by simp [fO,PyData.canLayAll0,dr]
 | x :: xs=>by simp only [fO,PyData.canLayAll0,dr]; rw [gY x,jj xs]
end
mutual
theorem iX:∀ x:D,(toP x).depth=dep x
 | .non=>by simp [toP,PyData.depth,dep]
 | .bl _=>by simp [toP,PyData.depth,dep]
 | .int _=>by simp [toP,PyData.depth,dep]
 | .str _=>by simp [toP,PyData.depth,dep]
 | .tup xs=>by simp only [toP,PyData.depth,dep]; rw [jC xs]
 | .lst xs=>by simp only [toP,PyData.depth,dep]; rw [jC xs]
 | .box _=>by simp [toP,PyData.depth,dep]
theorem jC:∀ xs:List D,PyData.depthAll (fO xs)=eQ xs
 | []=>by simp [fO,PyData.depthAll,eQ]
 | x :: xs=>by simp only [fO,PyData.depthAll,eQ]; rw [iX x,jC xs]
end
theorem cL {x:D} (h:cF x):SeqAt.shaped (toP x)=true:=by
 unfold SeqAt.shaped
 rw [gY,iX,h.1,Bool.true_and]
 exact decide_eq_true h.2
section
variable {X:Cx} {pins:List (Addr × Obj)} {σ:L2.St} {H G:Hp} {s:Shared}
mutual
theorem b6 (I:Inv X pins σ H s) (e:ao G H):∀ {v:V} {d:D} {u:Value},Den X.K G v d->RelV v u->cln d=true->∃ as,Reads s.heap u (toP d) as
 | _,_,_,.non,r,_=>by cases r; exact ⟨_,.none⟩
 | _,_,_,.bl,r,_=>by cases r; exact ⟨_,.bool _⟩
 | _,_,_,.int,r,_=>by obtain ⟨t,rfl⟩:=r; exact ⟨_,.int _ _⟩
 | _,_,_,.str,r,_=>by obtain ⟨t,rfl⟩:=r; exact ⟨_,.str _ _⟩
 | _,_,_,.tup h q,r,c=>by
   cases r
   obtain ⟨its,rv,⟨o,h1,h2,n,h3⟩,_⟩:=I.tuple (aX e h)
   obtain ⟨as,z⟩:=iB I e q rv (by rw [cln] at c; exact c)
   exact ⟨_,.tuple h1 h2 h3 (by simpa using z)⟩
 | _,_,_,.lst h q,r,c=>by
   cases r
   obtain ⟨its,rv,⟨o,n,h1,h2,_,h3⟩,_⟩:=I.list (aP e h)
   obtain ⟨as,z⟩:=iB I e q rv (by rw [cln] at c; exact c)
   exact ⟨_,.list h1 h2 h3 (by simpa using z)⟩
 | _,_,_,.box _,_,c=>by rw [cln] at c; cases c
theorem iB (I:Inv X pins σ H s) (e:ao G H):∀ {vs:List V} {ds:List D} {us:List Value},av X.K G vs ds->Vals vs us->dr ds=true->∃ as,ReadsAll s.heap us (fO ds) as
 | _,_,_,.nil,.nil,_=>⟨_,.nil⟩
 | _,_,_,.cons h q,.cons r rs,c=>by
   rw [dr,Bool.and_eq_true] at c
   obtain ⟨as,z⟩:=b6 I e h r c.1
   obtain ⟨bs,z'⟩:=iB I e q rs c.2
   exact ⟨_,.cons z z'⟩
end
end
end Ev
namespace Hy
open PySem PySem.Spec PyProof.Rows L2
open Ev (D Den av aq aX aP Itz Itv yf yZ nR nV eqD cF b6 cL fA)
section
variable {X:Cx} {C:Bool} {τ:List Sl} {x y z:D} {a b e c tg it elt:Expr} {es ifs:List Expr} {pos p q:Pos} {k:Nat} {s:Sl} {N:Po} {rest body:List Stmt} {ds xs ys:List D} {i j:Int} {scope:Scope}
theorem px (M:Nat->Bool->List Sl->Prop) (B:Bk X k) (h0:∃ n t,M n t τ) (hc:∀ n t τ',M n t τ'->PT X c (dT X.K τ' t)) (hb:∀ n τ',M n true τ'->PSs X body (dS X.K τ' { N with nx:=λτ2=>∃ m t,m < n/\M m t τ2,ct:=λτ2=>∃ m t,m < n/\M m t τ2,bk:=λ_=>False }))
   (hr:∀ n τ',M n false τ'->PSs X rest (dS X.K τ' N)):PSs X (.While c body [] pos :: rest) (dS X.K τ N):=by
 have hc':PT X c λσ H Q=>∃ n t τ',M n t τ'/\dT X.K τ' t σ H Q:=λpins s σ H Q I ⟨n,t,τ',m,q⟩=>hc n t τ' m pins s σ H Q I q
 have hb':PSs X body λD σ H=>∃ n τ',M n true τ'/\dS X.K τ' { N with nx:=λτ2=>∃ m t,m < n/\M m t τ2,ct:=λτ2=>∃ m t,m < n/\M m t τ2,bk:=λ_=>False } D σ H:=λpins s σ H D I ⟨n,τ',m,q⟩=>hb n τ' m pins s σ H D I q
 refine bH (M:=λτ'=>∃ n,M n false τ') (psW (tV B.po hc' hb') λD σ H ⟨A,H₀,B,S,Me⟩=>⟨λm σ' H'=>∃ t τ' B',M m t τ'/\Sta X.K A H₀ τ' B' σ' H',?_,?_⟩) λτ' h=>let ⟨n,h⟩:=h; hr n τ' h
 · obtain ⟨n,t,h0⟩:=h0
   exact ⟨n,t,τ,B,h0,S⟩
 rintro m σ' H' ⟨t,τ',B',hM,S'⟩
 refine ⟨m,t,τ',hM,A,H₀,B',S',λH1 e1=>?_⟩
 cases t with
 | false=>exact l6 (Me.nx τ' B' σ' H1 ⟨m,hM⟩ (S'.mono e1))
 | true=>
   refine mw ⟨λσ2 H2=>∃ τ2 B2,(∃ n t,n < m/\M n t τ2)/\Sta X.K A H₀ τ2 B2 σ2 H2,λσ2 H2 ⟨τ2,B2,⟨n,t,l,q⟩,S2⟩=>⟨n,l,t,τ2,B2,q,S2⟩,m,τ',hM,A,H₀,B',S'.mono e1,?_⟩
   exact ⟨λτ2 B2 σ2 H2 m S2=>⟨τ2,B2,m,S2⟩,λ_ _ _ _ z=>z.elim,λτ2 B2 σ2 H2 m S2=>⟨τ2,B2,m,S2⟩,Me.rt,Me.xc⟩
noncomputable def fN (xs ys:List D):List D:=(xs.zip ys).map λp=>.tup [p.1,p.2]
theorem bO:(fN xs ys).length=min xs.length ys.length:=by simp [fN]
theorem kO (i:Nat) (h:i < (fN xs ys).length):(fN xs ys)[i]=.tup [xs.getD i .non,ys.getD i .non]:=by
 rw [bO] at h
 simp [fN,show i < xs.length by omega,show i < ys.length by omega]
theorem yT {K:PySem.W.Frag} {G:Hp} {a b:Addr} {vs ws:List V} (h:SqL K G a vs) (r:av K G vs xs) (h':SqL K G b ws) (r':av K G ws ys):Yl K (Itz K a b) (fN xs ys) G:=by
 intro H sg
 have hl:=r.length
 have hl':=r'.length
 refine ⟨λi hi=>⟨vs,ws,aP sg h,aP sg h',by rw [bO] at hi; omega⟩,λi hi=>?_⟩
 have hi':=hi
 rw [bO] at hi'
 obtain ⟨v,hv,dv⟩:=r.get (List.getElem?_eq_getElem (show i < xs.length by omega))
 obtain ⟨w,hw,dw⟩:=r'.get (List.getElem?_eq_getElem (show i < ys.length by omega))
 refine ⟨⟨vs,ws,v,w,aP sg h,aP sg h',hv,hw⟩,λy H' ⟨p,x1,x2,hp,e0,e1,e2,e3⟩=>?_⟩
 subst e0 e1
 have ex:x1=v:=by have:=e2 vs (aP sg h); rw [hv] at this; exact (Option.some.inj this).symm
 have ey:x2=w:=by have:=e3 ws (aP sg h'); rw [hw] at this; exact (Option.some.inj this).symm
 subst ex ey
 refine ⟨aq hp _,λM hM sv=>?_⟩
 rw [kO,show xs.getD i .non=xs[i] by simp [show i < xs.length by omega],show ys.getD i .non=ys[i] by simp [show i < ys.length by omega]]
 have up:=sv.trans (aC (aq hp (.tup [x1,x2])) λ_ z=>z)
 exact .tup (SqT.of (jq hM hp)) (.cons (dv.mono up) (.cons (dw.mono up) .nil))
theorem pO {ts:List Expr} {m:Nat} {tp:Pos} (B:Bk X k) (h:PE X a (dE X.K true τ (.d (.lst xs)))) (h':PE X b (dE X.K true τ (.d (.lst ys)))) (hg:Gl X "zip":=by rfl) (hs:starEach [a,b] X.env=(false,eval a X.env) :: starEach [b] X.env:=by rfl) (hs2:starEach [b] X.env=[(false,eval b X.env)]:=by rfl) :
   PI X (.Tuple ts m tp) (.Call (.Name "zip" p) [a,b] [] pos) (dI X.K τ (fN xs ys)):=
 piW (nR B.calm hg (B.blt _ (by decide)) (ae h (ae h' ag hs2) hs) hs hs2) λσ H R ⟨A,H₀,B,S,k⟩=>eI S λvs H1 e1 d1=>by
   cases d1 with
   | cons d r=>
     cases r with
     | cons d' r=>
       cases r
       cases d with
       | lst h r=>cases d' with
         | lst h' r'=>exact ⟨_,_,rfl,⟨_,aP aQ h⟩,⟨_,aP aQ h'⟩,k _ H1 e1 (yT h r h' r')⟩
theorem xu {K:PySem.W.Frag} {G:Hp} {a:Addr} {vs:List V} (h:SqL K G a vs) (r:av K G vs xs):Yl K (Itv K a vs.length) xs.reverse G:=by
 intro H sg
 have hl:=r.length
 refine ⟨λi hi=>by rw [List.length_reverse] at hi; show vs.length<=i; omega,λi hi=>?_⟩
 rw [List.length_reverse] at hi
 obtain ⟨v,hv,dv⟩:=r.get (List.getElem?_eq_getElem (show xs.length - 1 - i < xs.length by omega))
 rw [<- hl] at hv
 refine ⟨⟨by omega,vs,v,aP sg h,hv⟩,λx H' ⟨e1,e2⟩=>?_⟩
 subst e1
 have ex:x=v:=by have:=e2 vs (aP sg h); rw [hv] at this; exact (Option.some.inj this).symm
 subst ex
 refine ⟨ao.refl _,λM _ sv=>?_⟩
 rw [List.getElem_reverse]
 exact dv.mono sv
theorem wD (B:Bk X k) (h:PE X a (dE X.K true τ (.d (.lst xs)))) (hg:Gl X "reversed":=by rfl) (hs:starEach [a] X.env=[(false,eval a X.env)]:=by rfl):PI X tg (.Call (.Name "reversed" p) [a] [] pos) (dI X.K τ xs.reverse):=
 piW (nV B.calm hg (B.blt _ (by decide)) (ae h ag hs) hs) λσ H R ⟨A,H₀,B,S,k⟩=>eI S λvs H1 e1 d1=>by
   cases d1 with
   | cons d r=>
     cases r
     cases d with
     | lst h r=>exact ⟨_,_,rfl,aP aQ h,k _ H1 e1 (xu h r)⟩
theorem yn (hu:X.A.units + 64 < cLine):OpR X (compareOp .Eq) (λx y H Q=>∃ G d e,ao G H/\Den X.K G x d/\Den X.K G y e/\cF d/\cF e/\Q (.bl (eqD d e)) H):=by
 intro pins s σ H x y v u Q I rx ry ⟨G,d,e,sg,dx,dy,o1,o2,q⟩
 obtain ⟨as,r1⟩:=b6 I sg dx rx o1.1
 obtain ⟨bs,r2⟩:=b6 I sg dy ry o2.1
 exact eq_dataH r1 r2 (cL o1) (cL o2) hu ⟨.bl _,H,I,by rw [fA]; rfl,q⟩
theorem yb (hu:X.A.units + 64 < cLine):OpR X (compareOp .NotEq) (λx y H Q=>∃ G d e,ao G H/\Den X.K G x d/\Den X.K G y e/\cF d/\cF e/\Q (.bl (!eqD d e)) H):=by
 intro pins s σ H x y v u Q I rx ry ⟨G,d,e,sg,dx,dy,o1,o2,q⟩
 obtain ⟨as,r1⟩:=b6 I sg dx rx o1.1
 obtain ⟨bs,r2⟩:=b6 I sg dy ry o2.1
 exact ne_dataH r1 r2 (cL o1) (cL o2) hu ⟨.bl _,H,I,by rw [fA]; rfl,q⟩
theorem wb (B:Bk X k) (h1:cF x) (h2:cF y):cA X (compareOp .Eq) x y (.bl (eqD x y)):=⟨_,yn B.room.units,λM v w H Q _ d1 d2 q=>⟨_,x,y,aQ,d1,d2,h1,h2,q _ H (ao.refl _) .bl⟩⟩
theorem wm (B:Bk X k) (h1:cF x) (h2:cF y):cA X (compareOp .NotEq) x y (.bl (!eqD x y)):=⟨_,yb B.room.units,λM v w H Q _ d1 d2 q=>⟨_,x,y,aQ,d1,d2,h1,h2,q _ H (ao.refl _) .bl⟩⟩
variable {u v:Str}
theorem pd:cA X (compareOp .Eq) (.str u) (.str v) (.bl (decide (u=v))):=⟨_,wu,λ_ v' w H Q _ d1 d2 k=>by
 cases d1
 cases d2
 exact ⟨rfl,by rw [show decide (V.str u=V.str v)=decide (u=v) by simp]; exact k _ H (ao.refl _) .bl⟩⟩
theorem oN:cA X (compareOp .NotEq) (.str u) (.str v) (.bl (!decide (u=v))):=⟨_,wq,λ_ v' w H Q _ d1 d2 k=>by
 cases d1
 cases d2
 exact ⟨rfl,by rw [show decide (V.str u=V.str v)=decide (u=v) by simp]; exact k _ H (ao.refl _) .bl⟩⟩
theorem iJ:∀ {bs:List Bool} {us:List Value},Vals (bs.map V.bl) us->us=bs.map Value.bool
 | [],_,h=>by cases h; rfl
 | b :: bs,_,h=>by
   cases h with
   | cons rv rs=>rw [iJ rs,show _=Value.bool b from rv]; rfl
theorem uE (hc:X.calm=true):e8 X (.builtin "all") (λxs H Q=>∃ (p:Addr) (bs:List Bool),xs=[.ref p]/\SqL X.K H p (bs.map V.bl)/\Q (.bl (bs.all id)) H):=by
 intro pins s σ H xs us Q I r q
 obtain ⟨p,bs,rfl,h,q⟩:=q
 obtain ⟨u,rfl,ru⟩:∃ u,us=[u]/\RelV (.ref p) u:=by
   cases r with
   | cons r1 r=>cases r; exact ⟨_,rfl,r1⟩
 cases (show u=Value.ref _ from ru)
 obtain ⟨its,rv,pl,hz⟩:=I.list h
 obtain rfl:=iJ rv
 have lt:∀ a,s.heap.IsList a (bs.map Value.bool).toArray->a ≠ s.heap.objs.size:=λa ⟨o,z,_⟩=>Nat.ne_of_lt (Heap.lt_size z)
 refine call_all_walk (wpAny_pyIter_list pl.isList ⟨_,_,_,_,_,_,λi=>(bs.map Value.bool)[i]? == some (Value.bool true),rfl,Walks.list (A:=X.A.in1) (I.ok.hd hc) _ _ (lt _ pl.isList) (bs.map Value.bool).toArray,⟨⟨_,Heap.get?_push_size _ rfl,rfl,rfl⟩,?_⟩,λi v s' Q' E' hP hQ=>?_,λh' tk hk=>?_⟩)
 · obtain ⟨o,z1,z2⟩:=pl.isList
   exact ⟨o,Heap.get?_push_of_some _ z1,z2⟩
 · have hP':(bs.map Value.bool)[i]?=some v:=by simpa using hP
   obtain ⟨c,_,rfl⟩:=List.mem_map.mp (List.mem_of_getElem? hP')
   refine wpAny_truthy_bool ?_
   have hQ:Q' ((bs.map Value.bool)[i]? == some (Value.bool true)) s':=hQ
   rw [hP'] at hQ
   cases c
   · exact hQ
   · exact hQ
 · refine ⟨.bl (bs.all id),H,I.kept (t':=tk) λb' o z=>?_,?_,q⟩
   · refine hk b' o (λhm=>?_) (Heap.get?_push_of_some _ z)
     have:b'=s.heap.objs.size:=by simpa using hm
     exact absurd (Heap.lt_size z) (by rw [this]; exact Nat.lt_irrefl _)
   · have e:∀ bs:List Bool,bs.all id=(List.range (bs.map Value.bool).toArray.size).all λi=>(bs.map Value.bool)[i]? == some (Value.bool true):=λbs=>by
       rw [List.size_toArray,List.length_map]
       induction bs with
       | nil=>rfl
       | cons b bs ih=>
         rw [List.all_cons,ih,List.length_cons,List.range_succ_eq_map,List.all_cons,List.all_map]
         congr 1
         cases b <;> rfl
     rw [e]; rfl
theorem pE {K:PySem.W.Frag} {H:Hp}:∀ {vs:List V} {bs:List Bool},av K H vs (bs.map .bl)->vs=bs.map V.bl
 | _,[],h=>by cases h; rfl
 | _,_ :: _,h=>by
   cases h with
   | cons d r=>cases d; rw [pE r]; rfl
theorem me (hc:X.calm=true) (bs:List Bool) (hx:xs=bs.map .bl):hX X (.builtin "all") [.lst xs] (.d (.bl (bs.all id))):=⟨_,uE hc,λM vs H Q _ d q=>by
 subst hx
 cases d with
 | cons d r=>
   cases r
   cases d with
   | lst h r=>
     cases pE r
     exact ⟨_,_,rfl,aP aQ h,q _ H [] (ao.refl _) dY (il .bl)⟩⟩
end
end Hy
namespace Hy
open PySem PySem.Spec PyProof.Rows L2
open Ev (D Den av aI aN aq aX aP)
section
variable {X:Cx} {i:Int}
end
end Hy
namespace Hy
open PySem PySem.Spec PyProof.Rows L2
open Ev (D Den av aq aX aP aR gu dF PTs cJ eE)
section
variable {X:Cx} {C:Bool} {τ:List Sl} {x y z:D} {a b e c tg it elt o:Expr} {es ifs:List Expr} {pos p q:Pos} {k:Nat} {s:Sl} {N:Po} {rest body:List Stmt} {ds xs ys:List D} {i j:Int} {scope:Scope}
theorem vT:OpR X (binaryOp .Mult) (λx y H Q=>∃ l k xs,x=.ref l/\y=.int k/\SqL X.K H l xs/\0<=k/\k < 100000/\xs.length * k.toNat<=sizeLine/\∀ p,H p=none->Q (.ref p) (upd H p (.lst (List.replicate k.toNat xs).flatten))):=by
 intro pins s σ H x y v u Q I rx ry h
 obtain ⟨l,k,xs,rfl,rfl,hH,h1,h2,hz,q⟩:=h
 cases rx
 obtain ⟨t,rfl⟩:=ry
 obtain ⟨its,r,pl,_⟩:=I.list hH
 have hl:=r.length
 obtain ⟨⟨cls,dd,data,sl⟩,e,hc,n,hd⟩:=pl.isList
 simp only at hc hd
 subst hc hd
 have hlen:its.toArray.size * k.toNat<=sizeLine:=by rw [List.size_toArray,<- hl]; exact hz
 have hcap:¬ its.toArray.size * k.toNat > (2 ^ 63 - 1) / 8:=by
   have:(sizeLine:Nat)<=(2 ^ 63 - 1) / 8:=by decide
   omega
 have hfit:¬ (!Builtin.List.listFitsIndex k)=true:=by
   rw [fitsIndex_both (by omega) (by omega)]
   exact Bool.false_ne_true
 have hlong:¬ Builtin.List.listTooLong (its.toArray.size * k.toNat)=true:=by
   rw [mH hlen]
   exact Bool.false_ne_true
 have hnew:List.foldl (λx1 x2=>x1++x2) #[] (List.replicate (if its.toArray.isEmpty=true then 0 else k.toNat) its.toArray)=(List.replicate k.toNat its).flatten.toArray:=by
   have f0:∀ m:Nat,List.foldl (λx1 x2=>x1++x2) #[] (List.replicate m its.toArray)=(List.replicate m its).flatten.toArray:=λm=>by
     have:=foldl_rep its m []
     rw [List.nil_append] at this
     exact this
   rw [f0]
   cases its with
   | nil=>simp
   | cons a r'=>rw [if_neg (by simp)]
 refine wpAny_binaryOp_repeat_ref (T:="list") (U:="int") (by decide) ⟨_,e,rfl⟩ (λs'=>typeIs_int s' k t) noFill_list_mul F.fills_int_mul F.slot_int_rmul repeat_list F.slot_int_index.lookup
   (call_meets F.slot_int_rmul (typeIs_int s k t) F.entry_int_rmul (F.args_int_rmul_2 _ _) (lm_int_rmul_list_any k t l its.toArray n dd sl)
     ⟨e,rfl,⟨_,e,rfl⟩,call_meets F.slot_list_mul ⟨_,e,rfl⟩ F.entry_list_mul (F.args_list_mul_2 _ _) (lm_list_mul_any l its.toArray n dd sl k t hfit hcap hlong) ⟨e,?_⟩⟩)
 rw [hnew]
 exact ⟨.ref _,_,I.zf (t':=s.toks) (r.rep k.toNat) (by rw [len_rep,Nat.mul_comm]; exact hz),rfl,q _ I.fresh⟩
theorem o9 {K:PySem.W.Frag} {H:Hp} {vs:List V} (h:av K H vs xs):∀ k:Nat,av K H (List.replicate k vs).flatten (List.replicate k xs).flatten
 | 0=>.nil
 | k + 1=>by rw [List.replicate_succ,List.replicate_succ,List.flatten_cons,List.flatten_cons]; exact h.append (o9 h k)
theorem si (ha:PE X a (dE X.K C τ (.d (.lst xs)))) (hb:PE X b (dE X.K C τ (.d (.int j)))) (h0:0<=j) (h1:j < 100000) (hl:xs.length * j.toNat < 1000000):PE X (.BinOp a .Mult b pos) (dE X.K C τ (.o (List.replicate j.toNat xs).flatten)):=peW (tu vT ha hb) λσ H Q ⟨A,H₀,B,S,k⟩=>
 aY S λv H1 e1 d1=>aY (S.mono e1) λw H2 e2 d2=>by
   cases d2
   cases d1 with
   | lst h1' r1=>
     refine ⟨_,j,_,rfl,rfl,aP (aQ.trans e2) h1',h0,h1,by rw [r1.length]; exact Nat.le_of_lt (Nat.lt_trans hl (by decide)),λp hp=>?_⟩
     obtain ⟨z1,z2,z3⟩:=jv (K:=X.K) hp (o9 (r1.mono (aC e2 λ_ z=>z)) j.toNat)
     exact k _ _ [p] (e1.trans (e2.trans z1)) (λb hb=>⟨(e1.trans e2).free (z2 b hb).1,(z2 b hb).2⟩) z3
noncomputable def dN' (K:PySem.W.Frag) (C:Bool) (τ:List Sl) (ns:List Nd):TA:=λσ H Q=>∃ A H₀ B,Sta K A H₀ τ B σ H/\∀ vs H' bs,ao H H'->Fr H H' bs->bs.Nodup->a5 K (hd H' λb=>vw C A B b\/b ∈ bs) H' vs bs ns->Q vs H'
theorem rH:PA X [] (dN' X.K C τ []):=paW cQ λσ H Q ⟨A,H₀,B,S,k⟩=>k [] H [] (ao.refl _) dY List.nodup_nil .nil
theorem Sta.hide {K:PySem.W.Frag} {A:Addr->Prop} {H₀ H H1:Hp} {B:Nat->List Addr} {σ:L2.St} {b1:List Addr} (S:Sta K A H₀ τ B σ H) (e:ao H H1) (f:Fr H H1 b1):Sta K (λb=>A b\/b ∈ b1) (hd H1 λb=>∃ i,b ∈ B i) τ B σ H1 where
 same:=aQ
 len:=S.len
 sl:=λi s h=>(S.sl i s h).mono (λb o z=>by
   obtain ⟨z1,z2⟩:=aE.mp z
   refine aE.mpr ⟨λw=>?_,e _ _ z2⟩
   rcases w with (w | w) | w
   · exact z1 (.inl w)
   · rw [(f b w).1] at z2; cases z2
   · exact z1 (.inr w)) e
 fr:=λi b hb=>by
   cases q:hd H1 (λb=>∃ i,b ∈ B i) b with
   | none=>rfl
   | some o=>exact absurd ⟨i,hb⟩ (aE.mp q).1
 uq:=S.uq
 ad:=λb hb=>by
   rcases hb with z | z
   · obtain ⟨o,q⟩:=S.ad b z
     exact ⟨o,aE.mpr ⟨λ⟨i,w⟩=>(by rw [S.fr i b w] at q; cases q),e _ _ (S.same _ _ q)⟩⟩
   · obtain ⟨w1,o,w2⟩:=f b z
     exact ⟨o,aE.mpr ⟨λ⟨i,w⟩=>(by obtain ⟨o',q⟩:=S.bd i b w; rw [w1] at q; cases q),w2⟩⟩
 bd:=λi b hb=>let ⟨o,q⟩:=S.bd i b hb; ⟨o,e _ _ q⟩
theorem k8 {A:Addr->Prop} {B:Nat->List Addr} {b1:List Addr} {b:Addr} (h:vw C A B b\/b ∈ b1):vw C (λb=>A b\/b ∈ b1) B b:=by
 cases C with
 | true=>
   rcases h with (h | h) | h
   · exact .inl (.inl h)
   · exact .inr h
   · exact .inl (.inr h)
 | false=>exact h
theorem eY {n:Nd} {ns:List Nd} (ha:PE X e (dE X.K C τ s)) (hn:ya s=some n) (hr:PA X es (dN' X.K C τ ns)) (hs:starEach (e :: es) X.env=(false,eval e X.env) :: starEach es X.env:=by rfl):PA X (e :: es) (dN' X.K C τ (n :: ns)):=paW (bK ha hr hs) λσ H Q ⟨A,H₀,B,S,k⟩=>
 ⟨A,H₀,B,S,λv H1 b1 e1 f1 h1=>⟨_,_,B,S.hide e1 f1,λvs H2 b2 e2 f2 n2 h2=>by
   obtain ⟨q1,n1⟩:=h1.nd hn
   refine k _ H2 (b1++b2) (e1.trans e2) (λb hb=>?_) (List.nodup_append.mpr ⟨n1,n2,λx hx y hy z=>?_⟩) (.cons (q1.frame ?_ λb hb=>?_) (h2.frame ?_ λ_ _=>rfl))
   · rcases List.mem_append.mp hb with z | z
     · obtain ⟨w1,o,w2⟩:=f1 b z; exact ⟨w1,o,e2 _ _ w2⟩
     · exact ⟨e1.free (f2 b z).1,(f2 b z).2⟩
   · obtain ⟨_,o,w⟩:=f1 x hx; rw [z,(f2 y hy).1] at w; cases w
   · intro b o z
     obtain ⟨z1,z2⟩:=aE.mp z
     refine aE.mpr ⟨λw=>?_,e2 _ _ z2⟩
     rcases w with w | w
     · exact z1 (.inl w)
     · rcases List.mem_append.mp w with w | w
       · exact z1 (.inr w)
       · rw [(f2 b w).1] at z2; cases z2
   · obtain ⟨_,o,w⟩:=f1 b hb
     rw [w,e2 _ _ w]
   · refine aC (ao.refl _) λb w=>?_
     rcases w with w | w
     · exact .inl (k8 (.inl w))
     · rcases List.mem_append.mp w with w | w
       · exact .inl (k8 (.inr w))
       · exact .inr w⟩⟩
theorem x6 {K:PySem.W.Frag} {H:Hp} {M:Addr->Prop} {p:Addr} {o:HO} {vs:List V} {bs:List Addr} {ns:List Nd} (hp:H p=none) (d:a5 K (hd H λb=>M b\/b ∈ bs) H vs bs ns) (nd:bs.Nodup) :
   a5 K (hd (upd H p o) λb=>M b\/b ∈ p :: bs) (upd H p o) vs bs ns/\(p :: bs).Nodup:=by
 have off:∀ b ∈ bs,b ≠ p:=λb hb z=>by obtain ⟨w,q⟩:=d.some_of b hb; rw [z,hp] at q; cases q
 refine ⟨d.frame (λb w z=>?_) λb hb=>aK (off b hb),List.nodup_cons.mpr ⟨λz=>off p z rfl,nd⟩⟩
 obtain ⟨z1,z2⟩:=aE.mp z
 have ne:b ≠ p:=λy=>by rw [y,hp] at z2; cases z2
 refine aE.mpr ⟨λy=>?_,by rw [aK ne]; exact z2⟩
 rcases y with y | y
 · exact z1 (.inl y)
 · rcases List.mem_cons.mp y with y | y
   · exact ne y
   · exact z1 (.inr y)
theorem oq {ns:List Nd} {m} (h:PA X es (dN' X.K C τ ns)) (hl:Nat.ble ns.length 1000=true:=by rfl):PE X (.Tuple es m pos) (dE X.K C τ (.n (.t ns))):=peW (tY h) λσ H Q ⟨A,H₀,B,S,k⟩=>
 ⟨A,H₀,B,S,λvs H1 bs e1 f1 n1 h1=>⟨by rw [h1.length]; exact Nat.le_of_lt (ig (Nat.le_of_ble_eq_true hl)),λp hp=>by
   obtain ⟨z1,z2⟩:=x6 (o:=.tup vs) hp h1 n1
   exact k _ _ (p :: bs) (e1.trans (aq hp _)) (λb hb=>by
     rcases List.mem_cons.mp hb with w | w
     · subst w; exact ⟨e1.free hp,_,aT⟩
     · obtain ⟨w1,o,w2⟩:=f1 b w; exact ⟨w1,o,aq hp _ _ _ w2⟩) ⟨z2,_,rfl,.t aT z1⟩⟩⟩
end
section
variable {X:Cx} {C:Bool} {τ τ':List Sl} {x y z:D} {a b e c tg it elt o ix:Expr} {es ifs:List Expr} {pos p q:Pos} {k:Nat} {s:Sl} {N:Po} {rest body:List Stmt} {ds xs ys:List D} {i:Nat} {j:Int} {scope:Scope}
noncomputable def dGs (K:PySem.W.Frag) (τ:List Sl) (xs:List D) (τ':List Sl):TGs:=λvs σ H Q=>∃ A H₀ B,Sta K A H₀ τ B σ H/\av K (hd H (own A B)) vs xs/\∀ σ' B',Sta K A H₀ τ' B' σ' H->Q σ' H
theorem Au {es:List Expr} {t t':TGs} (h:PGs X es t) (f:∀ v σ H Q,t' v σ H Q->t v σ H Q):PGs X es t':=λpins s σ H v u Q I r q=>h pins s σ H v u Q I r (f v σ H Q q)
theorem t8:PGs X [] (dGs X.K τ [] τ):=Au qp λv σ H Q ⟨A,H₀,B,S,d,k⟩=>by
 cases d
 exact ⟨rfl,k σ B S⟩
theorem dR (i:Nat) {n:Str} (hN:X.N.Nodup) (h:PGs X es (dGs X.K (τ.set i (.d x)) xs τ')) (hi:X.N[i]?=some n:=by rfl) (hx:Loc X.env.scope n:=by first | exact .inl rfl | exact .inr rfl) (hf:X.fn n=true\/X.env.scope.names.lookup n=some .local:=by first | exact .inl rfl | exact .inr rfl | assumption):PGs X (.Name n p :: es) (dGs X.K τ (x :: xs) τ'):=
 Au (ji (fH (i:=i) hN hi hx hf) h) λv σ H Q ⟨A,H₀,B,S,d,k⟩=>by
   cases d with
   | cons d r=>
     have sub:∀ b,own A (upB B i []) b->own A B b:=λb z=>z.elim .inl λ⟨j,z⟩=>(bh z).elim (λz=>nomatch z.2) λz=>.inr ⟨j,z.2⟩
     exact ⟨_,_,rfl,A,H₀,_,S.set (ao.refl _) (bs:=[]) (λ_ z=>nomatch z) (il d),r.mono (aC (ao.refl _) sub),k⟩
theorem wM {m:Nat} (hc:X.calm=true) (h:PGs X es (dGs X.K τ xs τ')) (hl:(assignEach es X.env).length=xs.length:=by rfl) (hst:(assignEach es X.env).findIdx? (·.1)=none:=by rfl):PG X (.Tuple es m pos) (dG X.K τ (.tup xs) τ'):=
 pgW (uC (n:=xs.length) hc h hl hst) λv σ H Q ⟨A,H₀,B,S,d,k⟩=>by
   cases d with
   | tup h r=>exact ⟨_,_,rfl,aX aQ h,r.length,A,H₀,B,S,r,k⟩
theorem xX {m:Nat} (he:PE X e (dE X.K true τ (.d x))) (hg:PG X (.Tuple es m p) (dG X.K τ x τ')) (hr:PSs X rest (dS X.K τ' N)) (hs:swapsWithSole [.Tuple es m p] e pos.line X.env=pure false:=by rfl) (hw:swappedStores [.Tuple es m p] e X.env=pure none:=by rfl)
   (h1:(assignEach [.Tuple es m p] X.env).map (·.2)=[assign (.Tuple es m p) X.env]:=by rfl):PSs X (.Assign [.Tuple es m p] e pos :: rest) (dS X.K τ N):=
 bH (M:=(·=τ')) (psW (oo he hg hs hw h1) λD σ H ⟨A,H₀,B,S,Me⟩=>aY S λv H1 e1 d1=>⟨A,H₀,B,S.mono e1,d1,λσ' B' S'=>Me.nx _ _ _ _ rfl S'⟩) λ_ e=>e ▸ hr
theorem xm (M:Nat->List Sl->Prop) (T:Nat->List Sl->List Sl) (B:Bk X k) (hi:PI X tg it (dI X.K τ xs)) (hg:∀ i (h:i < xs.length) τ',M i τ'->PG X tg (dG X.K τ' xs[i] (T i τ'))) (h0:M 0 τ)
   (hb:∀ i,i < xs.length->∀ τ',M i τ'->PSs X body (dS X.K (T i τ') { N with nx:=M (i + 1),ct:=M (i + 1),bk:=λ_=>False }))
   (hr:∀ τ',M xs.length τ'->PSs X rest (dS X.K τ' N)) (hs:∀ x,foldedSetIterable it X.env x=pure x:=by intro _; rfl):PSs X (.For tg it body [] pos :: rest) (dS X.K τ N):=
 bH (M:=M xs.length) (tF (M:=M) (T:=T) B hi h0 hg (λi h τ' m=>hZ (hb i h τ' m) λD σ H ⟨A,H₀,B,S,Me⟩=>⟨A,H₀,B,S,Me.nx,λ_ _ _ _ z=>z.elim,Me.ct,Me.rt,Me.xc⟩) (λ_ m=>m) hs) hr
theorem Be (T:Nat->List Sl) {f:Nat->D} (B:Bk X k) (hi:PI X tg it (dI X.K τ xs)) (hl:xs.length < 1000000) (hT:∀ i,(T i).length=(cM τ (bCp X.N scope)++[Sl.un]).length/\∀ (l:Nat) (x:D),(cM τ (bCp X.N scope)++[Sl.un])[l]?=some (.d x)->(T i)[l]?=some (.d x))
   (hg:∀ i (h:i < xs.length) s H fp,PG (cpX X s H scope fp) tg (dG X.K (cM τ (bCp X.N scope)++[.un]) xs[i] (T i)))
   (he:∀ i,i < xs.length->∀ s H fp,PE (cpX X s H scope fp) elt (dE X.K true (T i) (.d (f i)))) (hc:bOk X.env.scope scope=true:=by kernel_rfl) (hs:∀ x,foldedSetIterable it X.env x=pure x:=by intro _; rfl) :
   Cmp X elt tg it [] scope τ ((List.range xs.length).map f):=by
 have h:=sN (T:=T) (t:=λ_=>true) (f:=f) (elt:=elt) (ifs:=[]) hc hi hT hg (λi h s H fp=>λpins s' σ H' Q I ⟨A,H₀,B,S,q⟩=>pw pins s' σ H' Q I (q H' (ao.refl _))) (λi h _ s H fp=>he i h s H fp) hl hs
 rwa [List.filter_eq_self.mpr λ_ _=>rfl] at h
end
section
variable {X:Cx} {C:Bool} {τ τ':List Sl} {x y z:D} {a b e c tg it elt o ix:Expr} {es ifs:List Expr} {pos p q:Pos} {k:Nat} {s:Sl} {N:Po} {rest body:List Stmt} {ds xs ys:List D} {i:Nat} {scope:Scope}
theorem va (j l:Nat) {n m:Str} {p2 pt:Pos} {md:Nat} {g g' f:Nat->D} (B:Bk X k) (hi:PI X (.Tuple [.Name n p,.Name m p2] md pt) it (dI X.K τ xs)) (hx:∀ i (h:i < xs.length),xs[i]=.tup [g i,g' i]) (hl:xs.length < 1000000)
   (he:∀ i,i < xs.length->∀ s H fp,PE (cpX X s H scope fp) elt (dE X.K true (((cM τ (bCp X.N scope)++[Sl.un]).set j (.d (g i))).set l (.d (g' i))) (.d (f i))))
   (hc:bOk X.env.scope scope=true:=by kernel_rfl) (hu:(cM τ (bCp X.N scope)++[Sl.un])[j]?=some .un:=by rfl) (hu':(cM τ (bCp X.N scope)++[Sl.un])[l]?=some .un:=by rfl) (hN:(bNm scope++[("#" : Str)])[j]?=some n:=by rfl) (hN':(bNm scope++[("#" : Str)])[l]?=some m:=by rfl) (hv:∀ s H fp,Loc (cpX X s H scope fp).env.scope n:=by intro _ _ _; first | exact .inl rfl | exact .inr rfl) (hv':∀ s H fp,Loc (cpX X s H scope fp).env.scope m:=by intro _ _ _; first | exact .inl rfl | exact .inr rfl)
   (hf:∀ s H fp,(cpX X s H scope fp).fn n=true\/(cpX X s H scope fp).env.scope.names.lookup n=some .local:=by intro _ _ _; first | exact .inr rfl | exact .inl rfl) (hf':∀ s H fp,(cpX X s H scope fp).fn m=true\/(cpX X s H scope fp).env.scope.names.lookup m=some .local:=by intro _ _ _; first | exact .inr rfl | exact .inl rfl) (hs:∀ x,foldedSetIterable it X.env x=pure x:=by intro _; rfl) :
   Cmp X elt (.Tuple [.Name n p,.Name m p2] md pt) it [] scope τ ((List.range xs.length).map f):=
 Be (λi=>((cM τ (bCp X.N scope)++[Sl.un]).set j (.d (g i))).set l (.d (g' i))) B hi hl (λi=>⟨by rw [List.length_set,List.length_set],λr x h=>by
     rw [List.getElem?_set_ne (λz=>by rw [<- z,hu'] at h; cases h),List.getElem?_set_ne (λz=>by rw [<- z,hu] at h; cases h)]
     exact h⟩)
   (λi h s H fp=>by rw [hx i h]; exact wR j l (B.comp s H scope fp).calm (kY hc).2 hN hN' (hv s H fp) (hv' s H fp) (hf s H fp) (hf' s H fp)) he hc hs
end
end Hy
namespace Su
open PySem PyProof.Rows HT
open PySem.SeqAt
open PySem.AutoSeq1 (wpAny_loadPart')
open PySem.MeetsSeq PySem.MeetsSeq2 PySem.MeetsSeq3
section
variable {prog:Program} {w:World} {A:Around} {E:Value->Shared->Prop} {s:Shared}
end
end Su
namespace Hy
open PySem PySem.Spec PyProof.Rows L2
open Ev (D Den av aI aN aq aX aP)
section
variable {X:Cx} {C:Bool} {τ:List Sl} {x y z:D} {a b e:Expr} {es:List Expr} {pos p:Pos} {k:Nat} {s:Sl} {ds xs ys:List D} {i j:Int} {N:Po} {rest:List Stmt}
theorem vQ:OpR X (binaryOp .Add) (λx y H Q=>∃ a b ys,x=.ref a/\y=.ref b/\SqT X.K H a []/\SqT X.K H b ys/\Q (.ref b) H):=by
 intro pins s σ H x y v u Q I rx ry h
 obtain ⟨a,b,ys,rfl,rfl,ha,hb,q⟩:=h
 cases rx
 cases ry
 obtain ⟨its,r1,p1,_⟩:=I.tuple ha
 obtain ⟨its2,r2,p2,_⟩:=I.tuple hb
 cases r1
 obtain ⟨⟨cls,dd,data,sl⟩,ho,hc,n,hd⟩:=id p1
 obtain ⟨⟨cls2,dd2,data2,sl2⟩,ho2,hc2,n2,hd2⟩:=id p2
 simp only at hc hd hc2 hd2
 subst hc hd hc2 hd2
 exact concat_meets ⟨_,ho,rfl⟩ ⟨_,ho2,rfl⟩ noFill_tuple_add seq_tuple_add PySem.F.slot_tuple_add PySem.F.entry_tuple_add (PySem.F.args_tuple_add_2 _ _) (tuple_addW0 a b _ _ n n2 dd dd2 sl sl2 (by simp)) ⟨ho,ho2,⟨.ref b,H,I,rfl,q⟩⟩
theorem sf (hl:xs.length + ys.length < 1000000):cA X (binaryOp .Add) (.tup xs) (.tup ys) (.tup (xs++ys)):=by
 have lim:1000000<=sizeLine:=by decide
 cases xs with
 | nil=>exact ⟨_,vQ,λM v w H Q _ d1 d2 k=>by
     cases d1 with
     | tup h1 r1=>
       cases r1
       cases d2 with
       | tup h2 r2=>exact ⟨_,_,_,rfl,rfl,aX aQ h1,aX aQ h2,k _ H (ao.refl _) (.tup h2 r2)⟩⟩
 | cons x0 xs=>exact ⟨_,vU,λM v w H Q hM d1 d2 k=>by
     cases d1 with
     | @tup a1 vs _ h1 r1=>
     cases d2 with
     | @tup a2 ws _ h2 r2=>
     have l1:=r1.length
     have l2:=r2.length
     refine ⟨_,_,_,_,rfl,rfl,aX aQ h1,aX aQ h2,λz=>by subst z; simp at l1,by omega,λz=>?_,λ_ p hp=>?_⟩
     · subst z
       cases r2
       rw [List.append_nil] at k
       exact k _ H (ao.refl _) (.tup h1 r1)
     · have e:=aq hp (.tup (vs++ws))
       exact k _ _ e (.tup (SqT.of (jq hM hp)) ((r1.append r2).mono (aC e λ_ z=>z)))⟩
end
section
variable {X:Cx} {C:Bool} {τ:List Sl} {x y z:D} {a b e:Expr} {es:List Expr} {pos p:Pos} {k:Nat} {s:Sl} {ds xs ys:List D} {N:Po} {rest:List Stmt}
theorem zL (i:Nat) {n:Str} {ap cp:Pos} (he:PE X e (dE X.K true τ (.o ys))) (hl:xs.length + ys.length < 1000000) (hr:PSs X rest (dS X.K (τ.set i (.o (xs++ys))) N)) (hi:τ[i]?=some (.o xs):=by rfl) (hN:X.N[i]?=some n:=by rfl)
   (hv:Vis X.env.scope n:=by first | exact Or.inl rfl | exact Or.inr (Or.inl rfl) | exact Or.inr (Or.inr rfl)) (hd:(n == ("__debug__" : Str))=false:=by decide) (hcd:(n == ("__classdict__" : Str))=false:=by decide)
   (hfew:((backTo cp (starEach [e] X.env)).all (λx=>!x.1) && (backToKw cp (keywordEach [] X.env)).all (λx=>x.1.isSome) && decide (([e]:List Expr).length + ([]:List Keyword).length + (if ([]:List Keyword).isEmpty then 0 else 1) < 30))=true:=by rfl)
   (hline:(ap.endLine == cp.line)=true:=by rfl) (hst:starEach [e] X.env=(false,eval e X.env) :: starEach [] X.env:=by rfl) (hpl:(backTo cp (starEach [] X.env)).any (·.1)=false:=by rfl)
   (hs:swapsWith (.Call (.Attribute (.Name n p) "extend" ap) [e] [] cp) none pos.line X.env=pure false:=by rfl) (hbase:attributeBase (.Name n p) "extend" X.env (eval (.Name n p) X.env)=eval (.Name n p) X.env:=by rfl) :
   PSs X (.Expr (.Call (.Attribute (.Name n p) "extend" ap) [e] [] cp) pos :: rest) (dS X.K τ N):=
 bH (M:=(·=τ.set i (.o (xs++ys)))) (psW (cK (iG PySem.F.plainAttrs_list PySem.F.slot_list_extend PySem.F.type_list_extend iq (bD hN hv hd hcd) (bK he cQ hst) hbase hfew hline hst hpl) hs) λD σ H ⟨A,H₀,B,S,Me⟩=>by
   obtain ⟨l,vs,hb,e1,e2,d⟩:=S.sl i _ hi
   refine ⟨_,slot_of e1,.inl ⟨rfl,_,SqL.of e2⟩,A,H₀,B,S,λv H1 bs e3 fr ⟨l2,ws,eb,ev,h2,d2⟩=>?_⟩
   cases ev
   have lim:1000000<=sizeLine:=by decide
   refine ⟨l,l2,vs,ws,rfl,rfl,e3 _ _ e2,h2,by rw [d.length,d2.length]; omega,?_⟩
   exact Me.nx _ _ _ _ rfl ((S.mono e3).put hi hb ((d.mono (aC e3 λ_ z=>z)).append (d2.mono (aC (ao.refl _) λ_ z=>.inl z))))) λ_ e=>e ▸ hr
theorem pg {K:PySem.W.Frag} {H:Hp}:∀ {vs:List V} {ds:List D},av K H vs ds->av K H vs.reverse ds.reverse
 | _,_,.nil=>.nil
 | _,_,.cons h r=>by rw [List.reverse_cons,List.reverse_cons]; exact (pg r).append (.cons h .nil)
end
end Hy
namespace Hy
open PySem PySem.Spec PyProof.Rows L2
open Ev (D Den av)
section
variable {K:PySem.W.Frag} {G G' H:Hp}
end
end Hy
namespace Hy
open PySem PySem.Spec PyProof.Rows L2
open Ev (D Den av aq aX aP)
section
variable {X:Cx} {C:Bool} {τ:List Sl} {x y z:D} {a b e o ix:Expr} {es:List Expr} {pos p q:Pos} {k:Nat} {s:Sl} {N:Po} {rest:List Stmt} {i j:Nat} {t c:Nd} {pt:List Nat} {xs:List Nd} {m:Nat}
end
end Hy
namespace Hy
open PySem PySem.Spec PyProof.Rows L2
open Ev (D Den av)
noncomputable def But (d:Addr) (H H':Hp):Prop:=∀ b o,b ≠ d->H b=some o->H' b=some o
theorem But.hd {H H':Hp} {d:Addr} {M:Addr->Prop} (e:But d H H') (h:M d):ao (Hy.hd H M) (Hy.hd H' M):=λb o z=>by
 obtain ⟨z1,z2⟩:=aE.mp z
 exact aE.mpr ⟨z1,e b o (λy=>z1 (y ▸ h)) z2⟩
noncomputable def Hid (M:Addr->Prop) (H:Hp) (d:Addr):Prop:=M d/\∀ b,M b->∃ o,H b=some o
theorem Hid.but {M:Addr->Prop} {H H':Hp} {d:Addr} (h:Hid M H d) (e:But d H H') (hd:∃ o,H' d=some o):Hid M H' d:=⟨h.1,λb z=>by
 by_cases q:b=d
 · rw [q]; exact hd
 · obtain ⟨o,y⟩:=h.2 b z
   exact ⟨o,e b o q y⟩⟩
noncomputable def nN (P:Program) (w:World) (K:PySem.W.Frag) (mg:Str->Option Value) (base:Heap) (k:Nat) (n:Str) (sp:Sp):Prop:=
 ∃ f fd ps,a6 P w K mg base CX0 k f fd ps sp/\mg n=some (.ref f)/\PySem.W.keepIn K (.ref f)=true/\Binds K fd ps []
section
variable {K:PySem.W.Frag} {A:Addr->Prop} {H₀ H H':Hp} {τ:List Sl} {B:Nat->List Addr} {σ:L2.St}
theorem Sta.hid (S:Sta K A H₀ τ B σ H) {i:Nat} {a:Addr} (hB:B i=[a]):Hid (own A B) H a:=⟨.inr ⟨i,by rw [hB]; exact List.mem_singleton.mpr rfl⟩,S.dm⟩
end
section
variable {X:Cx} {τ:List Sl} {x y z:D} {a b e c:Expr} {es:List Expr} {pos p q:Pos} {k:Nat} {s:Sl} {ds:List D} {N:Po} {rest body:List Stmt}
end
section
variable {P:Program} {w:World} {K:PySem.W.Frag} {mg:Str->Option Value} {base:Heap}
end
section
variable {X:Cx} {τ:List Sl} {es:List Expr} {pos p q pr:Pos} {k:Nat} {s:Sl} {ds:List D} {N:Po} {rest:List Stmt}
end
end Hy
namespace Ev
open PySem PySem.Spec PyProof.Rows L2
section
variable {K:Type} [DecidableEq K] {a:KD K} {hd:a.dep<=7} {X:Cx} {o i e f:Expr} {pos apos cpos:Pos} {td ty tx tk tv:TE}
noncomputable def Ao (a:KD K) (hd:a.dep<=7) (P:Program) (w:World) (F:PySem.W.Frag) (tk tv:TE):TE:=λσ H Q=>∀ p,H p=none->tk σ (upd H p (dNk a hd P w p [])) λy H1=>tv σ H1 λv H2=>∃ b k,y=.ref b/\H2 p=some (dNk a hd P w p [])/\Den F H2 (.ref b) (a.toD k)/\∀ u,RelV v u->Q (.ref p) (upd H2 p (dNk a hd P w p (storedH [] k b u)))
theorem pD (hu:X.A.units + 16 < cLine) (hk:PE X e tk) (hv:PE X f tv):PE X (.Dict [some e] [f] pos) (Ao a hd X.prog X.w X.K tk tv):=λpins s σ H Q I h=>by
 refine wpAny_Dict_any rfl rfl (by simp) (show 1<=15 by decide) (pairTrees_cons_walk ?_)
 have I0:=I.laid (a:=s.heap.objs.size) (o:=dNk a hd X.prog X.w s.heap.objs.size []) (t':=s.toks) (h':=s.heap.push { cls:=.type "dict",data:=.dict #[] }) (λ_ _ q=>Heap.get?_push_of_some _ q) (Nat.le_refl _)
   ⟨⟨beq_eq_false_iff_ne.mpr (Ne.symm (Nat.ne_of_lt I.big)),_,#[],0,Heap.get?_push_size _ rfl,⟨rfl,rfl,rfl⟩,rfl,rfl,List.nodup_nil⟩,⟨_,Heap.get?_push_size _ rfl⟩,λa1 a2 ⟨z0,o,es,ep,z1,z2⟩ hk=>⟨z0,o,es,ep,hk o z1,z2⟩⟩
 refine thn (hk _ _ σ _ _ I0 (h _ (I.hok.fresh (Nat.le_refl _)))) λkv s1 ⟨y,H1,I1,ry,q1⟩=>thn (hv _ s1 σ H1 _ I1 q1) λvv s2 ⟨v,H2,I2,rv,b,k,ey,hp,g,q2⟩=>pairTrees_nil_walk ?_
 subst ey
 obtain rfl:kv=Value.ref b:=ry
 have D:g8 a hd X.prog X.w X.K H2 s.heap.objs.size []:=⟨hp,λ_ z=>nomatch z⟩
 obtain ⟨hd',dd⟩:=ux I2 D
 unfold storeAll
 rw [List.forIn_cons]
 refine wpAny_bind (wpAny_bind (wpAny_dictSet_heap (hsz:=Nat.zero_le _) (show X.A.units + 8 < cLine by omega) (key_is I2 g) dd λh' dd' hs=>wpAny_pure ?_))
 dsimp only
 rw [List.forIn_nil]
 refine wpAny_pure ?_
 obtain ⟨q,es,ep,hq,h2,h3,h4,_,h5⟩:=dd'
 refine ⟨.ref s.heap.objs.size,_,kQ (ob:=dNk a hd X.prog X.w s.heap.objs.size (storedH [] k b vv)) I2 (by rw [hp]; exact True.intro) hs ⟨q,hq⟩ ⟨⟨hd',q,es,ep,hq,h2,h3,h4,h5⟩,⟨q,hq⟩,λa1 a2 ⟨z0,o,es,ep,z1,z2⟩ hk=>⟨z0,o,es,ep,hk o z1,z2⟩⟩,rfl,q2 vv rv⟩
end
end Ev
namespace Hy
open PySem PySem.Spec PyProof.Rows L2
open Ev (D Den av KD NEs dNk g8 Bx aq gN pD)
section
variable {K:Type} [DecidableEq K] {a:KD K} {hd:a.dep<=7} {X:Cx} {C:Bool} {τ:List Sl} {x y:D} {b e f o ix:Expr} {pos p q apos cpos:Pos} {k:Nat} {N:Po} {rest:List Stmt} {m:List (K × D)} {key:K}
noncomputable def bxK (a:KD K) (hd:a.dep<=7) (P:Program) (w:World) (m:List (K × D)):Bx where
 p:=λF H d=>∃ xs,H d=some (dNk a hd P w d xs)/\EnK a F H xs m
 mono:=λe ⟨xs,h1,h2⟩=>⟨xs,e _ _ h1,h2.mono e⟩
 isd:=λ{_ _ d} ⟨xs,h1,_⟩=>⟨_,h1,λP w H' h z=>let ⟨_,o,_,_,z1,z2,_⟩:=z.1; ⟨o,z1,z2.1⟩⟩
noncomputable abbrev bxD (a:KD K) (hd:a.dep<=7) (P:Program) (w:World) (m:List (K × D)):D:=.box (bxK a hd P w m)
theorem Sta.fzX {F:PySem.W.Frag} {P:Program} {w:World} {A:Addr->Prop} {H₀ H:Hp} {B:Nat->List Addr} {σ:L2.St} {i:Nat} (S:Sta F A H₀ τ B σ H) (hi:τ[i]?=some (.x (exK a hd P w m))):Sta F A H₀ (τ.set i (.d (bxD a hd P w m))) (upB B i []) σ H:=
 S.less (λ_ z=>nomatch z) λG g hv=>by
   obtain ⟨d,xs,h1,h2,h3,h4⟩:=S.dct hi
   exact ⟨rfl,_,h1,.box ⟨xs,hv d _ (by rw [h2]; exact List.mem_singleton.mpr rfl) (λz=>nomatch z) h3,h4.mono g⟩⟩
theorem wx (i:Nat) (h:PSs X rest (dS X.K (τ.set i (.d (bxD a hd X.prog X.w m))) N)) (hi:τ[i]?=some (.x (exK a hd X.prog X.w m)):=by rfl):PSs X rest (dS X.K τ N):=hZ h λD σ H ⟨A,H₀,B,S,Me⟩=>⟨A,H₀,_,S.fzX hi,Me⟩
theorem wO (h:PE X e (dE X.K C τ (.x (exK a hd X.prog X.w m)))):PE X e (dE X.K C τ (.d (bxD a hd X.prog X.w m))):=peW h λσ H Q q=>by
 obtain ⟨A,H₀,B,S,k⟩:=di q
 refine ⟨A,H₀,B,S,λv H' bs e hf ⟨d,o,h1,h2,h3,xs,h4,h5⟩=>?_⟩
 cases h2
 subst h1 h4
 have vd:=S.vd (C:=C)
 have un:¬ vw C A B d:=λz=>by
   obtain ⟨_,q⟩:=vd d z
   rw [(hf d (List.mem_singleton.mpr rfl)).1] at q
   cases q
 exact k _ H' e (.box ⟨xs,aE.mpr ⟨un,h3⟩,h5.mono (aC (ao.refl _) λ_ z=>.inl z)⟩)
theorem nH (hu:X.A.units + 16 < cLine) (hb:PE X b (dE X.K C τ (.d (bxD a hd X.prog X.w m)))) (hk:PE X ix (dE X.K C τ (.d (a.toD key)))) (hx:getM m key=some x) (hr:∀ H v,Den X.K H v (a.toD key)->∃ b,v=.ref b) (hs:mW ix):PE X (.Subscript b ix pos) (dE X.K C τ (.d x)):=
 peW (gN (a:=a) (hd:=hd) hu hb hk hs) λσ H Q q=>by
   obtain ⟨A,H₀,B,S,kk⟩:=di q
   refine aY S λv H1 e1 d1=>aY (S.mono e1) λy H2 e2 dy=>?_
   obtain ⟨b',rfl⟩:=hr _ _ dy
   cases d1.mono (aC e2 λ_ z=>z) with
   | box h=>
     obtain ⟨xs,g3,g4⟩:=h
     have:=g4.at key
     rw [hx] at this
     obtain ⟨pp,v,h1,h2,h3⟩:=this
     exact ⟨_,b',key,xs,pp,v,rfl,rfl,⟨aQ _ _ g3,λz hz=>(g4.key z hz).mono aQ⟩,dy.mono aQ,h1,h2,kk v H2 (e1.trans e2) h3⟩
theorem sY (hu:X.A.units + 16 < cLine) (hk:PE X e (dE X.K C τ (.d (a.toD key)))) (hv:PE X f (dE X.K C τ (.d x))) (hr:∀ H v,Den X.K H v (a.toD key)->∃ b,v=.ref b):PE X (.Dict [some e] [f] pos) (dE X.K C τ (.x (exK a hd X.prog X.w [(key,x)]))):=
 peW (pD (a:=a) (hd:=hd) hu hk hv) λσ H Q ⟨A,H₀,B,S,kk⟩=>λp hp=>by
   have e0:=aq hp (dNk a hd X.prog X.w p [])
   have f0:Fr H (upd H p (dNk a hd X.prog X.w p [])) [p]:=λb hb=>by rw [List.mem_singleton.mp hb]; exact ⟨hp,_,aT⟩
   have S1:=S.hide e0 f0
   refine aY S1 λy H2 e2 dy=>aY (S1.mono e2) λv H3 e3 dv=>?_
   obtain ⟨b',rfl⟩:=hr _ _ dy
   have e03:=e2.trans e3
   have hp3:=e03 _ _ (aT (H:=H) (a:=p) (o:=dNk a hd X.prog X.w p []))
   have dy3:=dy.mono (aC e3 λ_ z=>z)
   refine ⟨b',key,rfl,hp3,dy3.mono aQ,λu hu=>?_⟩
   have sm:ao (Hy.hd H3 (vw C (λb=>A b\/b ∈ [p]) B)) (Hy.hd (upd H3 p (dNk a hd X.prog X.w p (storedH [] key b' u))) λb=>vw C A B b\/b ∈ [p]):=λb o z=>by
     obtain ⟨z1,z2⟩:=aE.mp z
     have nh:¬ (vw C A B b\/b ∈ [p]):=λy=>z1 (k8 y)
     exact aE.mpr ⟨nh,by rw [aK (λq=>nh (.inr (List.mem_singleton.mpr q)))]; exact z2⟩
   have hs:ao H (upd H3 p (dNk a hd X.prog X.w p (storedH [] key b' u))):=λb o z=>by
     have ne:b ≠ p:=λq=>by rw [q,hp] at z; cases z
     rw [aK ne]
     exact e03 _ _ (e0 _ _ z)
   exact kk (.ref p) _ [p] hs (λb hb=>by rw [List.mem_singleton.mp hb]; exact ⟨hp,_,aT⟩) ⟨p,_,rfl,rfl,aT,_,rfl,(EnK.nil.put dy3 hu dv).mono sm⟩
end
end Hy
namespace Hy
open PySem PySem.Spec PyProof.Rows L2
open Ev (D Den av aq aR gu dF PTs cJ eE)
section
variable {X:Cx}
end
section
variable {X:Cx} {C:Bool} {τ:List Sl} {e it:Expr} {pos p q p2 Bn tp ip vp rp ap cp p1:Pos} {k:Nat} {N:Po} {rest:List Stmt} {scope:Scope}
end
end Hy
namespace Hy
open PySem PySem.Spec PyProof.Rows L2
open Ev (D Den av aq aX aP)
section
variable {X:Cx}
theorem sd {α:Type}:∀ (its:List α) (k:Nat) (y:α),k<=its.length->its.insertIdx k y=its.take k++[y]++its.drop k
 | _,0,_,_=>rfl
 | a :: r,k + 1,y,h=>by
   rw [List.insertIdx_succ_cons,sd r k y (by simpa using h)]
   rfl
theorem yW {its:List Value} {k:Nat} {y:Value} (h:k<=its.length):(its.toArray.extract 0 k).push y++its.toArray.extract k=(its.insertIdx k y).toArray:=by
 apply Array.toList_inj.mp
 simp only [Array.toList_append,Array.toList_push,Array.toList_extract,List.extract_eq_drop_take,List.drop_zero,Nat.sub_zero,List.size_toArray]
 rw [sd its k y h]
 congr 1
 exact List.take_of_length_le (by rw [List.length_drop]; exact Nat.le_refl _)
noncomputable def vy:V->List V->Hp->VK->Prop:=λx vs H Q=>∃ l xs,∃ i:Int,∃ y,x=.ref l/\vs=[.int i,y]/\H l=some (.lst xs)/\0<=i/\i.toNat<=xs.length/\xs.length < sizeLine/\Q .non (upd H l (.lst (xs.insertIdx i.toNat y)))
theorem qQ:MtM X "list.insert" vy:=by
 intro pins s σ H x vs v us Q I rx rv h
 obtain ⟨l,xs,i,y,rfl,rfl,hH,h0,h1,h2,q⟩:=h
 cases rx
 obtain ⟨u,w,rfl,ru,rw'⟩:=rv.two
 obtain ⟨t,rfl⟩:=ru
 obtain ⟨z,its,n,r,hl,e⟩:=I.rf hH
 have hi:i < 2 ^ 63:=by have:=Int.toNat_of_nonneg h0; have:sizeLine < 2 ^ 62:=(by decide); omega
 have hf:Builtin.List.listFitsIndex i=true:=by
   unfold Builtin.List.listFitsIndex
   rw [Bool.and_eq_true]
   exact ⟨decide_eq_true (by omega),decide_eq_true hi⟩
 refine call_meets PySem.F.slot_list_insert ⟨_,e,rfl⟩ PySem.F.entry_list_insert (PySem.F.args_list_insert_3 _ _ _) (PySem.AutoSeq1.list_insert_list_int_val_1 l its.toArray n i t w (by simp [hf]) (by rw [List.size_toArray]; omega)) ⟨e,?_⟩
 have vi:∀ {xs:List V} {us:List Value} (k:Nat) {a:V} {b:Value},Vals xs us->RelV a b->Vals (xs.insertIdx k a) (us.insertIdx k b):=λ{xs us} k {a b} r ra=>by
   induction k generalizing xs us with
   | zero=>exact .cons ra r
   | succ k ih=>cases r with
     | nil=>exact .nil
     | cons r1 r2=>exact .cons r1 (ih r2)
 refine ⟨.non,_,I.se (its':=its.insertIdx i.toNat w) hH e ?_ (vi _ r rw') ?_,rfl,q⟩
 · show (its.toArray.extract 0 (if i < 0 then (i + (its.toArray.size:Int)).toNat else min i.toNat its.toArray.size)).push w++its.toArray.extract (if i < 0 then (i + (its.toArray.size:Int)).toNat else min i.toNat its.toArray.size)=_
   rw [if_neg (by omega),List.size_toArray,Nat.min_eq_left (by omega)]
   exact yW (by omega)
 · rw [List.length_insertIdx_of_le_length h1]; omega
end
section
variable {X:Cx} {C:Bool} {τ:List Sl} {x y z:D} {a b e f o ix:Expr} {es:List Expr} {pos p q:Pos} {k:Nat} {s:Sl} {N:Po} {rest:List Stmt} {i:Nat} {t c:Nd} {pt:List Nat} {xs:List Nd} {j:Int} {m:Nat}
end
end Hy
namespace Hy
open PySem PySem.Spec PyProof.Rows L2
open Ev (D Den av aq)
theorem kE {K:PySem.W.Frag} {H:Hp}:∀ {vs:List V} {ds:List D} (j:Nat),av K H vs ds->av K H (vs.eraseIdx j) (ds.eraseIdx j)
 | _,_,_,.nil=>.nil
 | _,_,0,.cons _ r=>r
 | _,_,j + 1,.cons h r=>.cons h (kE j r)
theorem pC {K:PySem.W.Frag} {H:Hp} {v:V} {x:D} (h:Den K H v x):∀ {vs:List V} {ds:List D} (j:Nat),av K H vs ds->av K H (vs.insertIdx j v) (ds.insertIdx j x)
 | _,_,0,r=>.cons h r
 | _,_,_ + 1,.nil=>.nil
 | _,_,j + 1,.cons h1 r=>.cons h1 (pC h j r)
section
variable {X:Cx} {τ:List Sl} {a b:Expr} {pos p q:Pos} {N:Po} {rest:List Stmt}
end
end Hy
namespace Ev
open PySem PySem.Spec PyProof.Rows L2
section
variable {prog:Program} {w:World} {A:Around} {E:Value->Shared->Prop} {s:Shared} {d it:Addr} {o:Obj} {es:Array DictEntry} {ep i:Nat}
theorem vE {Q:Value->Shared->Prop} (hd:(d == sysModules)=false) (ho:s.heap.get? d=some o) (hx:o.ExactDict) (hdat:o.data=.dict es ep)
   (hQ:Q (.ref s.heap.objs.size) { s with heap:=s.heap.push { cls:=.type "dict_keyiterator",data:=.fields #[.ref d,.int 0 0,.int es.size 0,.int ep 0] } }):wpAny (model prog w) A (pyIter (.ref d)) Q E s:=by
 have hT:s.TypeIs (.ref d) "dict":=⟨o,ho,hx.1⟩
 refine wpAny_pyIter_slot hT PySem.F.slot_dict_iter (wpAny_call_entry PySem.F.slot_dict_iter hT PySem.F.entry_dict_iter ?_ (PySem.F.args_dict_iter_1 _))
 unfold Builtin.«dict.__iter__»
 refine wpAny_bind ?_
 unfold Builtin.Dict.dictSlotNone
 refine wpAny_bind (wpAny_notOrdered_dict hT (wpAny_pure ?_))
 show wpAny _ _ (Builtin.Dict.showsAll d >>= _) _ _ s
 unfold Builtin.Dict.showsAll
 rw [if_neg (by rw [hd]; exact Bool.false_ne_true)]
 refine wpAny_bind (wpAny_pure (wpAny_bind (wpAny_dictEntries ho hdat (wpAny_bind (wpAny_dictEpoch ho hdat ?_)))))
 refine wpAny_bind (wpAny_newObj_type (wpAny_pure ⟨_,rfl,"dict_keyiterator",_,⟨_,Heap.get?_push_size _ rfl,rfl⟩,PySem.F.slot_dict_keyiterator_next.lookup,?_⟩))
 simpa [rawInt] using hQ
theorem tN:Builtin.Dict_items.ownsTuple "dict_keyiterator" = false:=by decide
theorem vM {Q:Option Value->Shared->Prop} (hit:s.heap.IsKeyIter it d i es.size ep) (ho:s.heap.get? d=some o) (hdat:o.data=.dict es ep) (hlt:i < es.size)
   (hQ:∀ h',h'.IsKeyIter it d (i + 1) es.size ep->Heap.SameBut it s.heap h'->Q (some es[i].key) { s with heap:=h' }):wpAny (model prog w) A (pyNext (.ref it)) Q E s:=by
 obtain ⟨oi,hoi,hc,hdi⟩:=id hit
 unfold pyNext
 refine wpAny_bind (wpAny_attempt (wpAny_callSpecial?_slot (name:=Str.ofString "__next__") hit.typeIs PySem.F.slot_dict_keyiterator_next (wpAny_call_entry PySem.F.slot_dict_keyiterator_next hit.typeIs PySem.F.entry_dict_keyiterator_next ?_ (PySem.F.args_dict_keyiterator_next_1 _))))
 refine wpAny_bind (wpAny_pure (wpAny_bind (wpAny_bind ?_)))
 first | refine wpAny_bind (wpAny_typeNameOfWhole_keyiter hit.typeIs (wpAny_pure ?_)) | refine wpAny_bind (wpAny_typeNameOf_keyiter hit.typeIs (wpAny_pure ?_))
 refine wpAny_bind (wpAny_fieldsOf hoi hdi ?_)
 simp only [tN,Bool.false_eq_true,if_false]
 show wpAny _ _ (if (Value.ref d == Value.none)=true then _ else _) _ _ s
 rw [if_neg (show ¬ ((Value.ref d == Value.none)=true) from Bool.false_ne_true)]
 refine wpAny_bind (wpAny_pure (wpAny_bind (wpAny_dictEntries ho hdat ?_)))
 rw [if_neg (by simp)]
 refine wpAny_bind (wpAny_pure (wpAny_bind (wpAny_dictEpoch ho hdat ?_)))
 rw [if_neg (by simp)]
 refine wpAny_pure ?_
 simp only [show ¬ ((i:Int) < 0) from by omega,if_false,Int.toNat_natCast,Array.getElem?_eq_getElem hlt]
 refine wpAny_bind ?_
 first | refine wpAny_bind (wpAny_typeNameOfWhole_keyiter hit.typeIs (wpAny_pure ?_)) | refine wpAny_bind (wpAny_typeNameOf_keyiter hit.typeIs (wpAny_pure ?_))
 refine wpAny_bind (wpAny_isOneOf_keyiter hit.typeIs ?_)
 show wpAny _ _ (setField (.ref it) 1 (rawInt ((i:Int) + 1)) >>= _) _ _ s
 refine wpAny_bind (wpAny_setField hoi hdi (by simp) ?_)
 have hit':(s.heap.update it (Obj.mapFields (·.setIfInBounds 1 (rawInt ((i:Int) + 1))))).IsKeyIter it d (i + 1) es.size ep:=
   ⟨_,Heap.get?_update_self _ hoi (Obj.isFreed_of_fields (Obj.data_mapFields hdi _)),(Obj.cls_mapFields ..).trans hc,by rw [Obj.data_mapFields hdi]; simp [rawInt]⟩
 refine wpAny_bind (wpAny_holding ?_)
 refine wpAny_bind (wpAny_isOneOf_keyiter (s:={ s with heap:=s.heap.update it (Obj.mapFields (·.setIfInBounds 1 (rawInt ((i:Int) + 1)))) }) hit'.typeIs ?_)
 show wpAny _ _ (pure es[i].key) _ _ _
 exact wpAny_pure (wpAny_pure ⟨_,rfl,wpAny_pure (hQ _ hit' (Heap.SameBut.update ..))⟩)
theorem yC {Q:Option Value->Shared->Prop} (hh:A.handled=none) (hit:s.heap.IsKeyIter it d i es.size ep) (ho:s.heap.get? d=some o) (hdat:o.data=.dict es ep) (hge:es.size<=i)
   (hQ:∀ h',Heap.ExtBut it s.heap h'->Q none { s with heap:=h' }):wpAny (model prog w) A (pyNext (.ref it)) Q E s:=by
 obtain ⟨oi,hoi,hc,hdi⟩:=id hit
 unfold pyNext
 refine wpAny_bind (wpAny_attempt (wpAny_callSpecial?_slot (name:=Str.ofString "__next__") hit.typeIs PySem.F.slot_dict_keyiterator_next (wpAny_call_entry PySem.F.slot_dict_keyiterator_next hit.typeIs PySem.F.entry_dict_keyiterator_next ?_ (PySem.F.args_dict_keyiterator_next_1 _))))
 refine wpAny_bind (wpAny_pure (wpAny_bind (wpAny_bind ?_)))
 first | refine wpAny_bind (wpAny_typeNameOfWhole_keyiter hit.typeIs (wpAny_pure ?_)) | refine wpAny_bind (wpAny_typeNameOf_keyiter hit.typeIs (wpAny_pure ?_))
 refine wpAny_bind (wpAny_fieldsOf hoi hdi ?_)
 simp only [tN,Bool.false_eq_true,if_false]
 show wpAny _ _ (if (Value.ref d == Value.none)=true then _ else _) _ _ s
 rw [if_neg (show ¬ ((Value.ref d == Value.none)=true) from Bool.false_ne_true)]
 refine wpAny_bind (wpAny_pure (wpAny_bind (wpAny_dictEntries ho hdat ?_)))
 rw [if_neg (by simp)]
 refine wpAny_bind (wpAny_pure (wpAny_bind (wpAny_dictEpoch ho hdat ?_)))
 rw [if_neg (by simp)]
 refine wpAny_pure ?_
 simp only [show ¬ ((i:Int) < 0) from by omega,if_false,Int.toNat_natCast,Array.getElem?_eq_none hge]
 refine wpAny_bind ?_
 first | refine wpAny_bind (wpAny_typeNameOfWhole_keyiter hit.typeIs (wpAny_pure ?_)) | refine wpAny_bind (wpAny_typeNameOf_keyiter hit.typeIs (wpAny_pure ?_))
 show wpAny _ _ (setField (.ref it) 0 .none >>= _) _ _ s
 refine wpAny_bind (wpAny_setField hoi hdi (by simp) ?_)
 show wpAny _ _ (newExc (.type "StopIteration") [] >>= _) _ _ _
 refine wpAny_bind ?_
 simp only [newExc,newTuple]
 refine wpAny_bind (wpAny_newObj_type ?_ (by size_fits))
 refine wpAny_bind (m:=firstArgMember _ _) (wpAny_of_eq (a:=Value.none) (by first | rfl | (simp only [firstArgMember]; rfl)) ?_)
 refine wpAny_newObj_type ?_ (by size_fits)
 simp only [raiseNew]
 refine wpAny_bind (wpAny_handled ?_)
 rw [show A.in1.handled=none from hh]
 refine wpAny_bind (wpAny_pure (wpAny_throw ?_))
 refine wpAny_bind (wpAny_isInstance (T:="StopIteration") (b:=true) ⟨_,Heap.get?_push_size _ rfl,rfl⟩ isSubtype_stop ?_)
 exact wpAny_pure (hQ _ (((Heap.SameBut.update ..).extBut.push _).push _))
end
section
variable {K:Type} [DecidableEq K] {a:KD K} {hd:a.dep<=7} {X:Cx} {pins:List (Addr × Obj)} {σ:L2.St} {H:Hp} {s:Shared} {d:Addr} {xs:NEs K} {ob:Obj}
theorem r9 (I:Inv X pins σ H s) (h:H d=some (.frz ob (dNk a hd X.prog X.w d xs))):(d == sysModules)=false/\∃ es ep,s.heap.get? d=some ob/\ob.ExactDict/\ob.data=.dict es ep/\es.toList=xs.map (entryOfKey (kd a hd X.prog X.w))/\(xs.map (·.1)).Nodup:=by
 obtain ⟨e,⟨h0,o,es,ep,h1,h2⟩,_⟩:=(show b9 X.prog X.w H s.heap d (.frz ob (dNk a hd X.prog X.w d xs)) from I.hok d _ h)
 rw [e] at h1
 cases h1
 exact ⟨h0,es,ep,e,h2⟩
noncomputable def Itw (a:KD K) (hd:a.dep<=7) (P:Program) (w:World) (d:Addr) (ob:Obj) (xs:NEs K):L2.It:=
 ⟨λi H=>i < xs.length/\H d=some (.frz ob (dNk a hd P w d xs)),λi H x H'=>H'=H/\∃ p,xs[i]?=some p/\x=.ref p.2.1,λi H=>xs.length<=i/\H d=some (.frz ob (dNk a hd P w d xs))⟩
theorem uW {P:Program} {w:World} {F:PySem.W.Frag} {tg:Expr} (it:Addr) (es:Array DictEntry) (ep:Nat) (hdat:ob.data=.dict es ep) :
   Turn P w F false tg (Itw a hd P w d ob xs) [it] it (λi h=>i<=xs.length/\h.IsKeyIter it d i xs.length ep) where
 mem:=by simp
 obj:=λi h st b hb=>by
   have e:b=it:=by simpa using hb
   subst e
   obtain ⟨o,e,c,d⟩:=st.2
   exact ⟨o,e,λv z=>by rw [d] at z; cases z⟩
 keep:=λi h h' st k=>⟨st.1,st.2.at λo e=>k it (by simp) o e⟩
 item:=by
   intro X hP hw hK hc i pins s σ H E I hf st hg
   subst hP hw hK
   obtain ⟨hi,ha⟩:=hg
   obtain ⟨f0,f1,f2,f3,f4,f5⟩:=hf it (by simp)
   obtain ⟨_,es',ep',g1,_,g3,g4,_⟩:=r9 I ha
   rw [hdat] at g3
   injection g3 with z1 z2
   subst z1 z2
   have hl:es.size=xs.length:=by rw [<- Array.length_toList,g4,List.length_map]
   have st2:=st.2
   rw [<- hl] at st2
   have hie:i < es.size:=by omega
   have hk:es[i].key=.ref (xs[i]).2.1:=by
     have e:es.toList[i]?=some (entryOfKey (kd a hd X.prog X.w) xs[i]):=by rw [g4,List.getElem?_map,List.getElem?_eq_getElem hi]; rfl
     rw [Array.getElem?_toList,Array.getElem?_eq_getElem hie] at e
     rw [Option.some.inj e]
     rfl
   refine vM st2 g1 hdat hie λh' st' sb=>?_
   have I1:Inv X pins σ H { s with heap:=h' }:=I.turned (t':=s.toks) (λb o hb e=>(sb.2 b hb).trans e) f0 f1 f3 f4 f5
   obtain ⟨o',e,c,dd⟩:=id st'
   rw [hk]
   refine ⟨_,rfl,kA (s:={ s with heap:=h' }) e c dd (by decide) ⟨.ref (xs[i]).2.1,H,I1,rfl,⟨rfl,_,List.getElem?_eq_getElem hi,rfl⟩,⟨hi,by rw [<- hl]; exact st'⟩,λb hb=>(hf b hb).1⟩⟩
 done:=by
   intro X hP hw hK hc i pins s σ H E I hf st hg
   subst hP hw hK
   obtain ⟨hi,ha⟩:=hg
   obtain ⟨f0,f1,f2,f3,f4,f5⟩:=hf it (by simp)
   obtain ⟨_,es',ep',g1,_,g3,g4,_⟩:=r9 I ha
   rw [hdat] at g3
   injection g3 with z1 z2
   subst z1 z2
   have hl:es.size=xs.length:=by rw [<- Array.length_toList,g4,List.length_map]
   have st2:=st.2
   rw [<- hl] at st2
   exact yC (I.ok.hd hc.calm) st2 g1 hdat (by omega) λh' eb=>⟨rfl,I.turned (t':=s.toks) (λb o hb e=>eb b o hb e) f0 f1 f3 f4 f5⟩
 self:=λ_ _ _ _ _ st h=>wpAny_pyIter_keyiter st.2 h
end
section
variable {K:Type} [DecidableEq K] {a:KD K} {hd:a.dep<=7} {X:Cx} {tg l o i:Expr} {tl td ty:TE} {pos:Pos}
noncomputable def xS (a:KD K) (hd:a.dep<=7) (P:Program) (w:World) (tl:TE):TI:=λσ H R=>tl σ H λx H1=>∃ d ob xs,x=.ref d/\H1 d=some (.frz ob (dNk a hd P w d xs))/\R (Itw a hd P w d ob xs) H1
theorem mq (hc:X.calm=true) (hl:PE X l tl):PI X tg l (xS a hd X.prog X.w tl):=by
 intro pins s σ H R I h
 refine thn (hl pins s σ H _ I h) λu s1 ⟨x,H1,I1,r1,d,ob,xs,ex,ha,q⟩=>?_
 subst ex
 cases r1
 obtain ⟨h0,es,ep,g1,g2,g3,g4,_⟩:=r9 I1 ha
 have hl:es.size=xs.length:=by rw [<- Array.length_toList,g4,List.length_map]
 refine vE h0 g1 g2 g3 ?_
 refine ⟨false,s1.heap.objs.size,[s1.heap.objs.size],_,_,H1,rfl,I1.kept (t':=s1.toks) λb o e=>Heap.get?_push_of_some _ e,.inl hc,uW (xs:=xs) _ es ep g3,⟨Nat.zero_le _,?_⟩,λb hb=>?_,q⟩
 · rw [<- hl]
   exact ⟨_,Heap.get?_push_size _ rfl,rfl,rfl⟩
 · have e:b=s1.heap.objs.size:=by simpa using hb
   subst e
   exact I1.jV (Nat.le_refl _) (I1.hok.fresh (Nat.le_refl _))
noncomputable def zX (a:KD K) (hd:a.dep<=7) (P:Program) (w:World) (F:PySem.W.Frag) (td ty:TE):TE:=λσ H Q=>td σ H λx H1=>ty σ H1 λy H2=>∃ d ob b k xs p v,x=.ref d/\y=.ref b/\H2 d=some (.frz ob (dNk a hd P w d xs))/\(∀ x ∈ xs,Den F H2 (.ref x.2.1) (a.toD x.1))/\Den F H2 (.ref b) (a.toD k)/\atKey xs k=some p/\RelV v p.2/\Q v H2
theorem qu (hu:X.A.units + 16 < cLine) (ho:PE X o td) (hi:PE X i ty) (hs:mW i):PE X (.Subscript o i pos) (zX a hd X.prog X.w X.K td ty):=by
 intro pins s σ H Q I h
 refine pG PySem.F.slot_dict_getitem.lookup hs (thn (ho pins s σ H _ I h) λu s1 ⟨x,H1,I1,rx,q1⟩=>thn (hi pins s1 σ H1 _ I1 q1) λiv s2 ⟨y,H2,I2,ry,d,ob,b,k,xs,p,v,ex,ey,ha,hk,g,hp,rv,q2⟩=>?_)
 subst ex ey
 obtain rfl:u=Value.ref d:=rx
 obtain rfl:iv=Value.ref b:=ry
 obtain ⟨_,es,ep,g1,g2,g3,g4,g5⟩:=r9 I2 ha
 have dd:s2.heap.DictOfH (kd a hd X.prog X.w) d xs:=⟨ob,es,ep,g1,g2,g3,g4,λx hx=>key_is I2 (hk x hx),g5⟩
 exact ⟨dd.typeIs,wpAny_getItem_heap (show X.A.units + 1 + 8 < cLine by omega) (key_is I2 g) dd hp ⟨v,H2,I2.tok _,rv,q2⟩⟩
end
end Ev
namespace Hy
open PySem PySem.Spec PyProof.Rows L2
open Ev (D Den av KD NEs dNk g8 Bx aq r9 Itw mq qu)
section
variable {K:Type} [DecidableEq K] {a:KD K} {hd:a.dep<=7} {X:Cx} {C:Bool} {τ:List Sl} {x y:D} {b e f o ix tg:Expr} {pos p q apos cpos:Pos} {k:Nat} {N:Po} {rest:List Stmt} {m:List (K × D)} {key:K}
noncomputable def bxW (a:KD K) (hd:a.dep<=7) (P:Program) (w:World) (m:List (K × D)):Bx where
 p:=λF H d=>∃ ob xs,H d=some (.frz ob (dNk a hd P w d xs))/\EnK a F H xs m
 mono:=λe ⟨ob,xs,h1,h2⟩=>⟨ob,xs,e _ _ h1,h2.mono e⟩
 isd:=λ{_ _ d} ⟨ob,xs,h1,_⟩=>⟨_,h1,λP w H' h z=>let ⟨_,o,_,_,z1,z2,_⟩:=z.2.1; ⟨o,z1,z2.1⟩⟩
noncomputable def exW (a:KD K) (hd:a.dep<=7) (P:Program) (w:World) (ob:Obj) (m:List (K × D)):Ex where
 p:=λF G o p=>∃ xs,o=.frz ob (dNk a hd P w p xs)/\EnK a F G xs m
 mono:=λe ⟨xs,h1,h2⟩=>⟨xs,h1,h2.mono e⟩
 ext:=λ⟨xs,h1,_⟩=>.inr (.inl ⟨_,_,h1⟩)
theorem Sta.fzW {F:PySem.W.Frag} {P:Program} {w:World} {A:Addr->Prop} {H₀ H:Hp} {B:Nat->List Addr} {σ:L2.St} {i:Nat} {ob:Obj} (S:Sta F A H₀ τ B σ H) (hi:τ[i]?=some (.x (exW a hd P w ob m))):Sta F A H₀ (τ.set i (.d (.box (bxW a hd P w m)))) (upB B i []) σ H:=
 S.less (λ_ z=>nomatch z) λG g hv=>by
   obtain ⟨d,o,h1,h2,h3,xs,h4,h5⟩:=S.sl i _ hi
   subst h4
   exact ⟨rfl,_,h2,.box ⟨ob,xs,hv d _ (by rw [h1]; exact List.mem_singleton.mpr rfl) (λz=>nomatch z) h3,h5.mono g⟩⟩
theorem y4 (i:Nat) (h:PSs X rest (dS X.K (τ.set i (.d (.box (bxW a hd X.prog X.w m)))) N)) (hi:τ[i]?=some (.x (exK a hd X.prog X.w m)):=by rfl):PSs X rest (dS X.K τ N):=by
 intro pins s σ H D I ⟨A,H₀,B,S,Me⟩
 obtain ⟨d,xs,h1,h2,h3,h4⟩:=S.dct hi
 obtain ⟨⟨z0,o,es,ep,z1,z2⟩,z3,z4⟩:=(show b9 X.prog X.w H s.heap d (dNk a hd X.prog X.w d xs) from I.hok d _ h3)
 have I2:Inv X pins σ (upd H d (.frz o (dNk a hd X.prog X.w d xs))) s:=kQ (t':=s.toks) (h':=s.heap) I (by rw [h3]; exact True.intro) (.refl _ _) ⟨o,z1⟩ ⟨z1,⟨z0,o,es,ep,z1,z2⟩,z3,z4⟩
 have hl:=(List.getElem?_eq_some_iff.mp hi).1
 have S2:=S.zM (E':=exW a hd X.prog X.w o m) hi h2 ⟨xs,rfl,h4⟩
 have S3:=S2.fzW (ob:=o) (m:=m) (List.getElem?_set_self hl)
 rw [List.set_set] at S3
 exact h pins s σ _ D I2 ⟨A,H₀,_,S3,Me⟩
theorem yO (hu:X.A.units + 16 < cLine) (hb:PE X b (dE X.K C τ (.d (.box (bxW a hd X.prog X.w m))))) (hk:PE X ix (dE X.K C τ (.d (a.toD key)))) (hx:getM m key=some x) (hr:∀ H v,Den X.K H v (a.toD key)->∃ b,v=.ref b) (hs:mW ix):PE X (.Subscript b ix pos) (dE X.K C τ (.d x)):=
 peW (qu (a:=a) (hd:=hd) hu hb hk hs) λσ H Q q=>by
   obtain ⟨A,H₀,B,S,kk⟩:=di q
   refine aY S λv H1 e1 d1=>aY (S.mono e1) λy H2 e2 dy=>?_
   obtain ⟨b',rfl⟩:=hr _ _ dy
   cases d1.mono (aC e2 λ_ z=>z) with
   | box h=>
     obtain ⟨ob,xs,g3,g4⟩:=h
     have:=g4.at key
     rw [hx] at this
     obtain ⟨pp,v,h1,h2,h3⟩:=this
     exact ⟨_,ob,b',key,xs,pp,v,rfl,rfl,aQ _ _ g3,λz hz=>(g4.key z hz).mono aQ,dy.mono aQ,h1,h2,kk v H2 (e1.trans e2) h3⟩
theorem EnK.tI {F:PySem.W.Frag} {G:Hp}:∀ {xs:NEs K} {m:List (K × D)},EnK a F G xs m->∀ i (h:i < m.length),∃ p,xs[i]?=some p/\p.1=(m[i]).1
 | _,_,.nil,i,h=>absurd h (by simp)
 | _,_,.cons ..,0,_=>⟨_,rfl,rfl⟩
 | _,_,.cons _ _ _ r,i + 1,h=>by
   obtain ⟨p,h1,h2⟩:=EnK.tI r i (by simpa using h)
   exact ⟨p,h1,h2⟩
theorem vC (h:PE X e (dE X.K true τ (.d (.box (bxW a hd X.prog X.w m))))) (hc:X.calm=true:=by first | rfl | assumption):PI X tg e (dI X.K τ (m.map λp=>a.toD p.1)):=piW (mq (a:=a) (hd:=hd) hc h) λσ H R ⟨A,H₀,B,S,k⟩=>aY S λv H1 e1 d1=>by
 cases d1 with
 | box h=>
   obtain ⟨ob,xs,g,en⟩:=h
   have ln:=en.length
   refine ⟨_,ob,xs,rfl,aQ _ _ g,k _ H1 e1 λH2 sg=>⟨λi hi=>⟨by rw [ln]; simpa using hi,sg _ _ g⟩,λi hi=>⟨⟨by rw [ln]; simpa using hi,sg _ _ g⟩,λx H' ⟨eH,p,hp,ex⟩=>?_⟩⟩⟩
   subst eH ex
   refine ⟨ao.refl _,λM hM sM=>?_⟩
   have hi':i < m.length:=by simpa using hi
   obtain ⟨p',hp',ek⟩:=en.tI i hi'
   rw [hp] at hp'
   cases hp'
   rw [List.getElem_map,<- ek]
   exact (en.key p (List.mem_of_getElem? hp)).mono sM
end
end Hy
namespace Ev
open PySem PySem.Spec PyProof.Rows L2
section
variable {X:Cx} {o e f g:Expr} {pos apos cpos:Pos} {td te tf tg:TE}
end
section
variable {X:Cx} {tg l:Expr} {tl:TE}
end
end Ev
namespace Hy
open PySem PySem.Spec PyProof.Rows L2
open Ev (D Den av aq)
section
variable {X:Cx} {C:Bool} {τ:List Sl} {o e f g a b:Expr} {pos apos cpos p p2:Pos} {z w v:Str} {k:Nat} {xs:List D}
end
end Hy
namespace Tx
open PySem
noncomputable def inj (c:Nat):List (List Nat)->List Nat
 | []=>[]
 | [a]=>a
 | a :: b :: r=>a++c :: inj c (b :: r)
noncomputable def cs (x:Str):List Nat:=x.cps.toList
noncomputable def ch (c:Nat):Str:=⟨#[c]⟩
end Tx
namespace Hx
open PySem PySem.Spec PyProof.Rows
section
variable {M:Model} {A:Around} {E:Value->Shared->Prop} {s:Shared}
end
end Hx
namespace Hx
open PySem PySem.Spec PySem.Calls PyProof.Rows PySem.W
section
variable {prog:Program} {w:World} {A:Around} {E:Value->Shared->Prop} {s:Shared} {K:Frag} {x D:Addr} {ox:Obj}
end
end Hx
namespace Hx
open PySem PySem.Spec PySem.Calls PyProof.Rows PySem.W L2
section
variable {X:Cx} {x:Str} {C S:Addr} {np cpos pos:Pos} {e:Expr} {es:List Expr} {t:TA}
end
section
variable {fs fs' ch:List Addr} {H H1:Hp} {h h1 h2:Heap} {old:Addr->Prop} {P:Program} {w:World} {a:Addr}
end
theorem there {P:Program} {w:World} {H:Hp} {h:Heap} {a:Addr} {o:HO} (x:b9 P w H h a o):∃ u,h.get? a=some u:=by
 cases o with
 | lst xs=>obtain ⟨_,_,_,_,e⟩:=x; exact ⟨_,e⟩
 | tup xs=>obtain ⟨_,_,_,o,e,_⟩:=x; exact ⟨_,e⟩
 | dK kvs=>obtain ⟨_,_,_,_,o,_,_,e,_⟩:=x; exact ⟨_,e⟩
 | dT kvs=>obtain ⟨_,_,_,_,o,_,_,e,_⟩:=x; exact ⟨_,e⟩
 | set S n=>obtain ⟨o,_,_,_,e,_⟩:=x; exact ⟨_,e⟩
 | ins C dx fs=>obtain ⟨_,_,_,e,_⟩:=x; exact ⟨_,e⟩
 | own y=>exact x
 | xd fs=>obtain ⟨_,⟨o,_,_,e,_⟩,_⟩:=x; exact ⟨_,e⟩
 | met f y=>exact ⟨_,x⟩
 | rng lo hi=>obtain ⟨_,_,_,e⟩:=x; exact ⟨_,e⟩
 | frz o u=>exact ⟨_,x.1⟩
 | tbl ps=>exact ⟨_,x⟩
 | ext φ=>exact x.2.1
section
variable {P:Program} {w:World} {K:Frag} {mg:Str->Option Value} {base:Heap} {N:List Str} {qual:Str} {scope:Scope} {f:Addr} {cd:Value} {A:Around} {outer:List Env} {s0:Shared} {H0:Hp} {E:XK} {cl:Nat->Addr}
end
section
variable {X:Cx} {pins:List (Addr × Obj)} {σ:L2.St} {H:Hp} {s:Shared} {a:Addr}
end
section
variable {X:Cx} {cl:Nat->Addr} {ks:List Nat} {n sm:Str} {i:Nat} {S:Addr} {ret:Expr} {psm pr ph pos:Pos} {body:List Stmt} {tb:(Nat->Hp->Prop)->TS} {tr:Addr->Obj->TE}
end
end Hx
namespace Hy
open PySem PySem.Spec PyProof.Rows L2
open Ev (D Den av aq)
section
variable {X:Cx} {C:Bool} {τ:List Sl} {x y z:D} {a b e:Expr} {es:List Expr} {pos p np cpos:Pos} {k c:Nat} {s:Sl} {ds:List D} {N:Po} {rest body:List Stmt} {cl:Nat->Addr} {Ex:Nat->Hp->Prop} {Et:Hp->Prop}
end
section
variable {P:Program} {w:World} {K:PySem.W.Frag} {mg:Str->Option Value} {base:Heap} {cl:Nat->Addr}
end
section
variable {X:Cx} {C:Bool} {τ:List Sl} {e:Expr} {k c i:Nat} {N:Po} {rest body:List Stmt} {cl:Nat->Addr} {n:Str} {fw S:Addr} {p p' q psm pr ph pos:Pos}
end
end Hy
namespace Hx
open PySem PySem.Spec PyProof.Rows L2
section
variable {X:Cx} {body:List Stmt} {h0:ExceptHandler} {hs:List ExceptHandler} {pos:Pos} {t:TS}
end
end Hx
namespace Hy
open PySem PySem.Spec PyProof.Rows L2
end Hy
namespace Hy
open PySem PySem.Spec PyProof.Rows L2
open Ev (D Den av aq aX aP)
section
variable {X:Cx} {C:Bool} {τ:List Sl} {a b e e1 e2 e3 o:Expr} {pos p p2 tp:Pos} {k:Nat} {x x1 x2 x3:D} {N:Po} {rest:List Stmt}
theorem pW {lo hi:Option Expr} {l u:Option Int} {xs:List D} (ha:PE X a (dE X.K C τ (.d (.tup xs)))) (hl:PO X lo (dO X.K τ l)) (hu:PO X hi (dO X.K τ u)) (hw:¬ (HT.sIx xs.length 0 l=0/\HT.sIx xs.length xs.length u=xs.length)):PE X (.Subscript a (.Slice lo hi none p2) pos) (dE X.K C τ (.d (.tup (cutD xs l u)))):=
 peW (mS xP ha hl hu) λσ H Q q=>by
   obtain ⟨A,H₀,B,S,k⟩:=di q
   exact aY S λv H1 e1 d1=>⟨A,H₀,B,S.mono e1,λH2 e2=>⟨A,H₀,B,(S.mono e1).mono e2,λH3 e3=>by
     cases d1 with
     | @tup _ ws _ h r=>
       have h:=aX (e2.trans e3) (aX aQ h)
       have r:=r.mono (aC (e2.trans e3) λ_ z=>z)
       refine ⟨_,_,rfl,h,by rw [r.length]; exact hw,λp hp=>?_⟩
       have r':av X.K (hd H3 (vw C A B)) (jE ws l u) (cutD xs l u):=by
         unfold jE cutD
         rw [r.length]
         exact (r.drop _).take _
       have hM:=(((S.mono e1).mono e2).mono e3).vd (C:=C)
       have e4:=aq hp (.tup (jE ws l u))
       exact k _ _ ((e1.trans (e2.trans e3)).trans e4) (.tup (SqT.of (jq hM hp)) (r'.mono (aC e4 λ_ z=>z)))⟩⟩
theorem jf {K:PySem.W.Frag} {G H:Hp}:∀ {vs:List V} {bs:List Addr} {ds:List D},a5 K G H vs bs (ds.map .d)->av K G vs ds/\bs=[]
 | _,_,[],h=>by cases h; exact ⟨.nil,rfl⟩
 | _,_,x :: ds,h=>by
   rw [List.map_cons] at h
   cases h with
   | cons h r=>
     cases h with
     | d h=>
       obtain ⟨d1,rfl⟩:=jf r
       exact ⟨.cons h d1,rfl⟩
end
end Hy
namespace K31
open PySem PySem.Spec PyProof.Rows L2 Hy
open Ev (D Den av aI aN)
noncomputable def aA (f:Nat->Rat):Nat->Rat
 | 0=>0
 | n + 1=>aA f n + f n
theorem ar {f g:Nat->Rat}:∀ {n:Nat},(∀ k < n,f k=g k)->aA f n=aA g n
 | 0,_=>rfl
 | n + 1,h=>by rw [aA,aA,ar λk hk=>h k (by omega),h n (by omega)]
theorem aV (c:Rat) (f:Nat->Rat):∀ n:Nat,c * aA f n=aA (λk=>c * f k) n
 | 0=>Rat.mul_zero c
 | n + 1=>by rw [aA,aA,Rat.mul_add,aV c f n]
theorem fo (c:Rat) (f:Nat->Rat):∀ n:Nat,aA f n * c=aA (λk=>f k * c) n
 | 0=>Rat.zero_mul c
 | n + 1=>by rw [aA,aA,Rat.add_mul,fo c f n]
theorem cv (f g:Nat->Rat):∀ n:Nat,aA (λk=>f k + g k) n=aA f n + aA g n
 | 0=>(Rat.add_zero 0).symm
 | n + 1=>by rw [aA,aA,aA,cv f g n]; grind
theorem ic:∀ n:Nat,aA (λ_=>0) n=0
 | 0=>rfl
 | n + 1=>by rw [aA,ic n,Rat.add_zero]
theorem fy (f:Nat->Nat->Rat) (m:Nat):∀ n:Nat,aA (λk=>aA (λl=>f k l) m) n=aA (λl=>aA (λk=>f k l) n) m
 | 0=>by simp only [aA]; exact (ic m).symm
 | n + 1=>by simp only [aA]; rw [fy f m n,<- cv]
noncomputable def dq (i j:Nat):Rat:=if i=j then 1 else 0
theorem mT (A:Nat->Rat) (j:Nat):∀ n:Nat,n<=j->aA (λk=>A k * dq k j) n=0
 | 0,_=>rfl
 | n + 1,h=>by
   rw [aA,mT A j n (by omega),dq,if_neg (by omega),Rat.mul_zero,Rat.add_zero]
theorem bE (A:Nat->Rat) (j:Nat):∀ n:Nat,j < n->aA (λk=>A k * dq k j) n=A j
 | n + 1,h=>by
   rw [aA]
   by_cases e:j=n
   · subst e
     rw [mT A j j (Nat.le_refl _),dq,if_pos rfl,Rat.mul_one,Rat.zero_add]
   · rw [bE A j n (by omega),dq,if_neg (by omega),Rat.mul_zero,Rat.add_zero]
theorem jL (A:Nat->Rat) (i n:Nat) (h:i < n):aA (λk=>dq i k * A k) n=A i:=by
 rw [<- bE A i n h]
 congr 1
 funext k
 rw [Rat.mul_comm,dq,dq]
 by_cases e:i=k
 · rw [if_pos e,if_pos e.symm]
 · rw [if_neg e,if_neg λz=>e z.symm]
noncomputable def skp (i r:Nat):Nat:=if r < i then r else r + 1
noncomputable def minor (M:Nat->Nat->Rat) (i r c:Nat):Rat:=M (skp i r) (c + 1)
noncomputable def sgn (i:Nat):Rat:=if i % 2=0 then 1 else -1
theorem eX (i:Nat):sgn (i + 1)=-sgn i:=by
 unfold sgn
 by_cases h:i % 2=0
 · rw [if_pos h,if_neg (by omega)]
 · rw [if_neg h,if_pos (by omega)]
   rfl
theorem lS (i:Nat):sgn i * sgn i=1:=by
 unfold sgn
 split <;> grind
noncomputable def det:Nat->(Nat->Nat->Rat)->Rat
 | 0,_=>1
 | n + 1,M=>aA (λi=>sgn i * M i 0 * det n (minor M i)) (n + 1)
theorem gr {i r n:Nat} (h:r < n):skp i r < n + 1:=by unfold skp; split <;> omega
theorem w5 (i r:Nat):skp i r ≠ i:=by unfold skp; split <;> omega
theorem aD:∀ {n:Nat} {M M':Nat->Nat->Rat},(∀ i < n,∀ j < n,M i j=M' i j)->det n M=det n M'
 | 0,_,_,_=>rfl
 | n + 1,M,M',h=>by
   unfold det
   refine ar λi hi=>?_
   rw [h i hi 0 (by omega),aD (M:=minor M i) (M':=minor M' i) λr hr c hc=>h _ (gr hr) _ (by omega)]
noncomputable def aw (M:Nat->Nat->Rat) (p:Nat) (v:Nat->Rat) (r c:Nat):Rat:=if r=p then v c else M r c
noncomputable def aH (M:Nat->Nat->Rat) (q:Nat) (v:Nat->Rat) (r c:Nat):Rat:=if c=q then v r else M r c
noncomputable def un (i p:Nat):Nat:=if p < i then p else p - 1
theorem gv (M:Nat->Nat->Rat) (p:Nat) (v:Nat->Rat):minor (aw M p v) p=minor M p:=by
 funext r c
 unfold minor aw
 rw [if_neg (w5 p r)]
theorem eR (M:Nat->Nat->Rat) {i p:Nat} (h:i ≠ p) (v:Nat->Rat):minor (aw M p v) i=aw (minor M i) (un i p) λc=>v (c + 1):=by
 funext r c
 unfold minor aw
 have:skp i r=p ↔ r=un i p:=by unfold skp un; split <;> split <;> omega
 by_cases q:skp i r=p
 · rw [if_pos q,if_pos (this.mp q)]
 · rw [if_neg q,if_neg λz=>q (this.mpr z)]
theorem lg:∀ {n:Nat} (M:Nat->Nat->Rat) {p:Nat},p < n->∀ (a b:Rat) (x y:Nat->Rat),det n (aw M p λc=>a * x c + b * y c)=a * det n (aw M p x) + b * det n (aw M p y)
 | 0,_,_,h,_,_,_,_=>absurd h (Nat.not_lt_zero _)
 | n + 1,M,p,hp,a,b,x,y=>by
   unfold det
   rw [aV,aV,<- cv]
   refine ar λi hi=>?_
   by_cases h:i=p
   · subst h
     rw [gv,gv,gv]
     simp only [aw,if_pos rfl]
     grind
   · rw [eR M h,eR M h,eR M h,lg (minor M i) (show un i p < n by unfold un; split <;> omega) a b]
     simp only [aw,if_neg h]
     grind
theorem sx {f:Nat->Rat} {p:Nat} (h0:∀ i,i ≠ p->i ≠ p + 1->f i=0) (h:f p + f (p + 1)=0):∀ n,p + 1 < n->aA f n=0:=by
 have z:∀ n,n<=p->aA f n=0:=by
   intro n
   induction n with
   | zero=>intro _; rfl
   | succ n ih=>intro hn; rw [aA,ih (by omega),h0 n (by omega) (by omega),Rat.add_zero]
 intro n
 induction n with
 | zero=>intro hn; omega
 | succ n ih=>
   intro hn
   rw [aA]
   by_cases q:n=p + 1
   · subst q
     rw [aA,z p (Nat.le_refl _),Rat.zero_add]
     exact h
   · rw [ih (by omega),h0 n (by omega) q,Rat.add_zero]
theorem bf {f:Nat->Rat} {n:Nat} (h:∀ i < n,f i=0):aA f n=0:=by
 rw [ar h]; exact ic n
theorem lJ:∀ {n:Nat} {M:Nat->Nat->Rat} {p:Nat},p + 1 < n->(∀ c < n,M p c=M (p + 1) c)->det n M=0
 | 0,_,_,h,_=>absurd h (Nat.not_lt_zero _)
 | n + 1,M,p,hp,h=>by
   unfold det
   let f:Nat->Rat:=λi=>if i < n + 1 then sgn i * M i 0 * det n (minor M i) else 0
   have e:aA (λi=>sgn i * M i 0 * det n (minor M i)) (n + 1)=aA f (n + 1):=ar λi hi=>by simp only [f]; rw [if_pos hi]
   rw [e]
   refine sx (p:=p) (λi h1 h2=>?_) ?_ _ hp
   · simp only [f]
     by_cases hi:i < n + 1
     · rw [if_pos hi]
       have:det n (minor M i)=0:=by
         by_cases q:i < p
         · refine lJ (p:=p - 1) (by omega) λc hc=>?_
           unfold minor skp
           rw [if_neg (by omega),if_neg (by omega),show p - 1 + 1=p by omega]
           exact h (c + 1) (by omega)
         · refine lJ (p:=p) (by omega) λc hc=>?_
           unfold minor skp
           rw [if_pos (by omega),if_pos (by omega)]
           exact h (c + 1) (by omega)
       rw [this,Rat.mul_zero]
     · rw [if_neg hi]
   · simp only [f]
     rw [if_pos (by omega),if_pos hp,eX,<- h 0 (by omega)]
     have:det n (minor M p)=det n (minor M (p + 1)):=aD λr hr c hc=>by
       unfold minor skp
       by_cases q:r < p
       · rw [if_pos q,if_pos (by omega)]
       · rw [if_neg q]
         by_cases q2:r=p
         · subst q2
           rw [if_pos (by omega)]
           exact (h (c + 1) (by omega)).symm
         · rw [if_neg (by omega)]
     rw [this]
     grind
structure ML (n:Nat) (f:(Nat->Nat->Rat)->Rat):Prop where
 cong:∀ {M M':Nat->Nat->Rat},(∀ i < n,∀ j < n,M i j=M' i j)->f M=f M'
 lin:∀ (M:Nat->Nat->Rat) {p:Nat},p < n->∀ (a b:Rat) (x y:Nat->Rat),f (aw M p λc=>a * x c + b * y c)=a * f (aw M p x) + b * f (aw M p y)
 alt:∀ {M:Nat->Nat->Rat} {p:Nat},p + 1 < n->(∀ c < n,M p c=M (p + 1) c)->f M=0
theorem bN (n:Nat):ML n (det n):=⟨aD,lg,lJ⟩
section
variable {n:Nat} {f:(Nat->Nat->Rat)->Rat}
theorem bq (M:Nat->Nat->Rat) (p:Nat):aw M p (M p)=M:=by
 funext r c
 unfold aw
 split
 · rename_i h; rw [h]
 · rfl
theorem bF {M:Nat->Nat->Rat} {p:Nat} {v:Nat->Rat}:aw M p v p=v:=by funext c; unfold aw; rw [if_pos rfl]
theorem bG {M:Nat->Nat->Rat} {p r:Nat} {v:Nat->Rat} (h:r ≠ p):aw M p v r=M r:=by funext c; unfold aw; rw [if_neg h]
theorem bj {M:Nat->Nat->Rat} {p q:Nat} {v u:Nat->Rat} (h:p ≠ q):aw (aw M p v) q u=aw (aw M q u) p v:=by
 funext r c
 unfold aw
 by_cases h1:r=q
 · rw [if_pos h1,if_neg λz=>h (z.symm.trans h1),if_pos h1]
 · rw [if_neg h1,if_neg h1]
theorem ML.add (h:ML n f) (M:Nat->Nat->Rat) {p:Nat} (hp:p < n) (x y:Nat->Rat):f (aw M p λc=>x c + y c)=f (aw M p x) + f (aw M p y):=by
 have:=h.lin M hp 1 1 x y
 simp only [Rat.one_mul] at this
 exact this
theorem ML.nb (h:ML n f) (M:Nat->Nat->Rat) {p:Nat} (hp:p + 1 < n) (x y:Nat->Rat):f (aw (aw M p x) (p + 1) y)=-f (aw (aw M p y) (p + 1) x):=by
 have z:∀ u:Nat->Rat,f (aw (aw M p u) (p + 1) u)=0:=λu=>h.alt hp λc _=>by rw [bF,bG (by omega),bF]
 have e:=z λc=>x c + y c
 rw [h.add _ hp] at e
 rw [bj (by omega),h.add _ (show p < n by omega),bj (M:=M) (p:=p) (q:=p + 1) (v:=λc=>x c + y c) (u:=y) (by omega),h.add _ (show p < n by omega)] at e
 rw [bj (M:=M) (p:=p + 1) (q:=p) (v:=x) (u:=x) (by omega),z x,bj (M:=M) (p:=p + 1) (q:=p) (v:=y) (u:=y) (by omega),z y,bj (M:=M) (p:=p + 1) (q:=p) (v:=x) (u:=y) (by omega),bj (M:=M) (p:=p + 1) (q:=p) (v:=y) (u:=x) (by omega)] at e
 grind
theorem ML.two (h:ML n f):∀ (d:Nat) (M:Nat->Nat->Rat) (p:Nat),p + 1 + d < n->M p=M (p + 1 + d)->f M=0
 | 0,M,p,hp,e=>h.alt hp λc _=>by rw [e]
 | d + 1,M,p,hp,e=>by
   have s:=h.nb M (p:=p + 1 + d) (by omega) (M (p + 1 + d)) (M (p + 1 + d + 1))
   rw [bq,bq] at s
   rw [s,ML.two h d _ p (by omega) (by rw [bG (by omega),bG (by omega),bG (by omega),bF]; exact e)]
   rfl
theorem ML.same (h:ML n f) {M:Nat->Nat->Rat} {p q:Nat} (hp:p < n) (hq:q < n) (hpq:p ≠ q) (e:M p=M q):f M=0:=by
 rcases Nat.lt_or_lt_of_ne hpq with z | z
 · exact h.two (q - p - 1) M p (by omega) (by rw [show p + 1 + (q - p - 1)=q by omega]; exact e)
 · exact h.two (p - q - 1) M q (by omega) (by rw [show q + 1 + (p - q - 1)=p by omega]; exact e.symm)
theorem ML.swap (h:ML n f) {M:Nat->Nat->Rat} {p q:Nat} (hp:p < n) (hq:q < n) (hpq:p ≠ q) (x y:Nat->Rat):f (aw (aw M p x) q y)=-f (aw (aw M p y) q x):=by
 have z:∀ u:Nat->Rat,f (aw (aw M p u) q u)=0:=λu=>h.same hp hq hpq (by rw [bF,bG hpq,bF])
 have e:=z λc=>x c + y c
 have c1:∀ u v:Nat->Rat,aw (aw M q u) p v=aw (aw M p v) q u:=λu v=>bj λz=>hpq z.symm
 rw [h.add _ hq,bj hpq,h.add _ hp,bj (M:=M) (p:=p) (q:=q) (v:=λc=>x c + y c) (u:=y) hpq,h.add _ hp,c1,c1,c1,c1,z x,z y] at e
 grind
theorem ML.tP (h:ML n f) (M:Nat->Nat->Rat) {p:Nat} (hp:p < n):f (aw M p λ_=>0)=0:=by
 have:=h.lin M hp 0 0 (λ_=>0) (λ_=>0)
 simp only [Rat.zero_mul,Rat.add_zero] at this
 exact this
theorem ML.sum (h:ML n f) (M:Nat->Nat->Rat) {p:Nat} (hp:p < n) (v:Nat->Rat) (e:Nat->Nat->Rat):∀ m,f (aw M p λj=>aA (λc=>v c * e c j) m)=aA (λc=>v c * f (aw M p (e c))) m
 | 0=>h.tP M hp
 | m + 1=>by
   have:=h.lin M hp 1 (v m) (λj=>aA (λc=>v c * e c j) m) (e m)
   simp only [Rat.one_mul] at this
   rw [aA,<- ML.sum h M hp v e m]
   exact this
theorem ML.comb (h:ML n f) (M:Nat->Nat->Rat) {p k:Nat} (hp:p < n) (hk:k<=p) (d:Rat) (β:Nat->Rat):f (aw M p λj=>d * M p j + aA (λi=>β i * M i j) k)=d * f M:=by
 have e:=h.lin M hp d 1 (M p) (λj=>aA (λi=>β i * M i j) k)
 simp only [Rat.one_mul] at e
 rw [e,bq,h.sum M hp β M k,bf,Rat.add_zero]
 intro i hi
 rw [h.same (p:=i) (q:=p) (by omega) hp (by omega) (by rw [bG (by omega),bF]),Rat.mul_zero]
end
noncomputable def idQ (i j:Nat):Rat:=if i=j then 1 else 0
noncomputable def un1 (σ:Nat->Nat) (i j:Nat):Rat:=if σ i=j then 1 else 0
theorem sT:∀ (m:Nat) (σ:Nat->Nat),(∀ i < m + 1,σ i < m)->∃ i j,i < j/\j < m + 1/\σ i=σ j
 | 0,σ,h=>absurd (h 0 (by decide)) (Nat.not_lt_zero _)
 | m + 1,σ,h=>by
   by_cases q:∃ i,i < m + 1/\σ i=σ (m + 1)
   · obtain ⟨i,hi,e⟩:=q
     exact ⟨i,m + 1,hi,by omega,e⟩
   · have q':∀ i < m + 1,σ i ≠ σ (m + 1):=λi hi z=>q ⟨i,hi,z⟩
     obtain ⟨i,j,h1,h2,e⟩:=sT m (λi=>if σ (m + 1) < σ i then σ i - 1 else σ i) λi hi=>by
       have a:=h i (by omega)
       have b:=h (m + 1) (by omega)
       have c:=q' i hi
       split <;> omega
     refine ⟨i,j,h1,by omega,?_⟩
     have a:=q' i (by omega)
     have b:=q' j h2
     split at e <;> split at e <;> omega
theorem uL {n k:Nat} {σ:Nat->Nat} (h:∀ i < n,σ i < n) (hk:k < n) (hn:∀ i < n,σ i ≠ k):∃ i j,i < j/\j < n/\σ i=σ j:=by
 obtain ⟨m,rfl⟩:∃ m,n=m + 1:=⟨n - 1,by omega⟩
 obtain ⟨i,j,h1,h2,e⟩:=sT m (λi=>if k < σ i then σ i - 1 else σ i) λi hi=>by
   have a:=h i hi
   have b:=hn i hi
   split <;> omega
 refine ⟨i,j,h1,h2,?_⟩
 have a:=hn i (by omega)
 have b:=hn j h2
 split at e <;> split at e <;> omega
section
variable {n:Nat} {h:(Nat->Nat->Rat)->Rat}
theorem ML.rJ (H:ML n h) (h0:h idQ=0):∀ (d k:Nat),k + d=n->∀ σ:Nat->Nat,(∀ i < n,σ i < n)->(∀ i < k,σ i=i)->h (un1 σ)=0
 | 0,k,hk,σ,_,hf=>by
   rw [<- h0]
   exact H.cong λi hi j _=>by unfold un1 idQ; rw [hf i (by omega)]
 | d + 1,k,hk,σ,hs,hf=>by
   by_cases q:∃ j,k<=j/\j < n/\σ j=k
   · obtain ⟨j,h1,h2,h3⟩:=q
     by_cases z:j=k
     · subst z
       exact ML.rJ H h0 d (j + 1) (by omega) σ hs λi hi=>by
         by_cases y:i=j
         · rw [y]; exact h3
         · exact hf i (by omega)
     · have e:un1 σ=aw (aw (un1 σ) k (un1 σ k)) j (un1 σ j):=by rw [bq,bq]
       have e2:aw (aw (un1 σ) k (un1 σ j)) j (un1 σ k)=un1 λi=>if i=j then σ k else if i=k then σ j else σ i:=by
         funext r c
         have zk:¬ k=j:=λy=>z y.symm
         by_cases y1:r=j <;> by_cases y2:r=k <;> simp [aw,un1,y1,y2,zk]
       rw [e,H.swap (by omega) h2 (λy=>z y.symm),e2,ML.rJ H h0 d (k + 1) (by omega) _ (λi hi=>?_) (λi hi=>?_)]
       · rfl
       · split
         · exact hs k (by omega)
         · split
           · exact hs j h2
           · exact hs i hi
       · rw [if_neg (by omega)]
         by_cases y:i=k
         · rw [if_pos y,h3,y]
         · rw [if_neg y]
           exact hf i (by omega)
   · obtain ⟨i,j,h1,h2,e⟩:=uL hs (show k < n by omega) λi hi z=>by
       by_cases y:i < k
       · have:=hf i y
         omega
       · exact q ⟨i,by omega,hi,z⟩
     exact H.same (p:=i) (q:=j) (by omega) h2 (by omega) (by funext c; unfold un1; rw [e])
noncomputable def lF (k:Nat) (M:Nat->Nat->Rat) (σ:Nat->Nat) (i j:Nat):Rat:=if i < k then M i j else un1 σ i j
theorem ML.z9 (H:ML n h) (h0:h idQ=0) (M:Nat->Nat->Rat):∀ (k:Nat),k<=n->∀ σ:Nat->Nat,(∀ i < n,σ i < n)->h (lF k M σ)=0
 | 0,_,σ,hs=>by
   rw [<- ML.rJ H h0 n 0 (by omega) σ hs λi hi=>absurd hi (Nat.not_lt_zero _)]
   exact H.cong λi _ j _=>by unfold lF; rw [if_neg (Nat.not_lt_zero _)]
 | k + 1,hk,σ,hs=>by
   have e:h (lF (k + 1) M σ)=h (aw (lF k M σ) k λj=>aA (λc=>M k c * idQ c j) n):=H.cong λi hi j hj=>by
     unfold aw lF
     by_cases y:i=k
     · subst y
       rw [if_pos (by omega),if_pos rfl]
       exact (bE (M i) j n hj).symm
     · rw [if_neg y]
       by_cases z:i < k
       · rw [if_pos (by omega),if_pos z]
       · rw [if_neg (by omega),if_neg z]
   rw [e,H.sum _ (by omega),bf]
   intro c hc
   have e2:aw (lF k M σ) k (idQ c)=lF k M λi=>if i=k then c else σ i:=by
     funext r j
     by_cases y:r=k <;> simp [aw,lF,un1,idQ,y]
   rw [e2,ML.z9 H h0 M k (by omega) _ (λi hi=>?_),Rat.mul_zero]
   split
   · exact hc
   · exact hs i hi
theorem ML.zero (H:ML n h) (h0:h idQ=0) (M:Nat->Nat->Rat):h M=0:=by
 rw [<- ML.z9 H h0 M n (Nat.le_refl _) (λi=>i) λi hi=>hi]
 exact H.cong λi hi j _=>by unfold lF; rw [if_pos hi]
end
theorem uj:minor idQ 0=idQ:=by
 funext r c
 unfold minor idQ skp
 rw [if_neg (Nat.not_lt_zero _)]
 by_cases h:r=c
 · rw [if_pos (by omega),if_pos h]
 · rw [if_neg (by omega),if_neg h]
theorem nS:∀ n,det n idQ=1
 | 0=>rfl
 | n + 1=>by
   unfold det
   rw [ar (g:=λi=>det n (minor idQ i) * idQ i 0) λi hi=>?_]
   · have:=bE (λi=>det n (minor idQ i)) 0 (n + 1) (by omega)
     have e:(λi=>det n (minor idQ i) * idQ i 0)=λk=>(λi=>det n (minor idQ i)) k * dq k 0:=rfl
     rw [e,this,uj,nS n]
   · by_cases z:i=0
     · subst z
       show 1 * 1 * _=_ * 1
       grind
     · unfold idQ
       rw [if_neg z]
       grind
theorem ML.uniq {n:Nat} {f:(Nat->Nat->Rat)->Rat} (F:ML n f) (M:Nat->Nat->Rat):f M=det n M * f idQ:=by
 have D:=bN n
 have H:ML n λM=>f M - det n M * f idQ:=by
   refine ⟨λ{M M'} e=>?_,λM p hp a b x y=>?_,λ{M p} hp e=>?_⟩
   · rw [F.cong e,D.cong e]
   · rw [F.lin M hp,D.lin M hp]
     grind
   · rw [F.alt hp e,D.alt hp e]
     grind
 have:=H.zero (by rw [nS]; grind) M
 grind
theorem gL:∀ {n:Nat} (M:Nat->Nat->Rat) {q:Nat},q < n->∀ (a b:Rat) (x y:Nat->Rat),det n (aH M q λc=>a * x c + b * y c)=a * det n (aH M q x) + b * det n (aH M q y)
 | 0,_,_,h,_,_,_,_=>absurd h (Nat.not_lt_zero _)
 | n + 1,M,q,hq,a,b,x,y=>by
   unfold det
   rw [aV,aV,<- cv]
   refine ar λi hi=>?_
   cases q with
   | zero=>
     have e:∀ v,minor (aH M 0 v) i=minor M i:=λv=>by
       funext r c
       unfold minor aH
       rw [if_neg (by omega)]
     rw [e,e,e]
     simp only [aH,if_true]
     grind
   | succ q=>
     have e:∀ v,minor (aH M (q + 1) v) i=aH (minor M i) q λr=>v (skp i r):=λv=>by
       funext r c
       unfold minor aH
       by_cases z:c=q
       · rw [if_pos (by omega),if_pos z]
       · rw [if_neg (by omega),if_neg z]
     rw [e,e,e,gL (minor M i) (show q < n by omega) a b]
     have z:¬ (0=q + 1):=by omega
     simp only [aH,if_neg z]
     grind
theorem kb (g:Nat->Rat) (i:Nat):∀ n,i<=n->aA (λj=>g (skp i j)) n=aA g (n + 1) - g i
 | 0,h=>by
   have:i=0:=by omega
   subst this
   show (0:Rat)=0 + g 0 - g 0
   grind
 | n + 1,h=>by
   by_cases q:i=n + 1
   · subst q
     have e:aA (λj=>g (skp (n + 1) j)) (n + 1)=aA g (n + 1):=ar λk hk=>by unfold skp; rw [if_pos hk]
     rw [e,aA.eq_2 g (n + 1)]
     grind
   · rw [aA,kb g i n (by omega),aA.eq_2 g (n + 1)]
     have:skp i n=n + 1:=by unfold skp; rw [if_neg (by omega)]
     rw [this]
     grind
theorem qD {n:Nat} {G:Nat->Nat->Rat} (h:∀ i < n,∀ j < n,G i j=-G j i):aA (λi=>aA (λj=>G i j) n) n=0:=by
 have e:aA (λi=>aA (λj=>G i j) n) n=-1 * aA (λi=>aA (λj=>G i j) n) n:=by
   conv=>lhs; rw [fy]
   rw [aV]
   refine ar λi hi=>?_
   rw [aV]
   refine ar λj hj=>?_
   rw [h j hj i hi]
   grind
 grind
theorem vk {i j r:Nat} (h:i < j):skp i (skp (j - 1) r)=skp j (skp i r):=by
 unfold skp
 split <;> split <;> (try split) <;> (try split) <;> omega
theorem l7:∀ {n:Nat} {M:Nat->Nat->Rat} {q:Nat},q + 1 < n->(∀ r < n,M r q=M r (q + 1))->det n M=0
 | 0,_,_,h,_=>absurd h (Nat.not_lt_zero _)
 | 1,_,_,h,_=>by omega
 | n + 2,M,q + 1,hq,h=>by
   rw [det]
   refine bf λi hi=>?_
   rw [l7 (M:=minor M i) (q:=q) (by omega) λr hr=>h _ (gr hr),Rat.mul_zero]
 | n + 2,M,0,hq,h=>by
   let D:Nat->Nat->Rat:=λi j=>det n λr c=>M (skp i (skp j r)) (c + 2)
   let G:Nat->Nat->Rat:=λi j=>if i < j then -(sgn i * sgn j * M i 0 * M j 0 * D i (j - 1)) else if j < i then sgn i * sgn j * M i 0 * M j 0 * D i j else 0
   have inner:∀ i < n + 2,sgn i * M i 0 * det (n + 1) (minor M i)=aA (λj=>G i j) (n + 2):=λi hi=>by
     have e:aA (λj=>G i j) (n + 2)=aA (λj=>G i (skp i j)) (n + 1):=by
       have g0:G i i=0:=by simp only [G]; rw [if_neg (Nat.lt_irrefl i),if_neg (Nat.lt_irrefl i)]
       rw [kb (λj=>G i j) i (n + 1) (by omega),g0]
       grind
     rw [e,det,aV]
     refine ar λj hj=>?_
     have m0:minor M i j 0=M (skp i j) 0:=(h _ (gr hj)).symm
     have mm:det n (minor (minor M i) j)=D i j:=rfl
     rw [m0,mm]
     simp only [G]
     by_cases z:j < i
     · have s:skp i j=j:=by unfold skp; rw [if_pos z]
       rw [s,if_neg (by omega),if_pos z]
       grind
     · have s:skp i j=j + 1:=by unfold skp; rw [if_neg z]
       rw [s,if_pos (by omega),eX,show j + 1 - 1=j by omega]
       grind
   rw [det,ar inner]
   refine qD λi hi j hj=>?_
   have sy:∀ {i j:Nat},i < j->D i (j - 1)=D j i:=λ{i j} z=>by
     simp only [D]
     congr 1
     funext r c
     rw [vk z]
   simp only [G]
   rcases Nat.lt_trichotomy i j with z | z | z
   · rw [if_pos z,if_neg (by omega),if_pos z,sy z]
     grind
   · subst z
     rw [if_neg (Nat.lt_irrefl _),if_neg (Nat.lt_irrefl _)]
     rfl
   · rw [if_neg (by omega),if_pos z,if_pos z,sy z]
     grind
theorem cf (n:Nat) (M:Nat->Nat->Rat):det n (λi j=>M j i)=det n M:=by
 have H:ML n λM=>det n λi j=>M j i:=by
   refine ⟨λ{M M'} e=>aD λi hi j hj=>e j hj i hi,λM p hp a b x y=>?_,λ{M p} hp e=>l7 hp λr hr=>e r hr⟩
   exact gL (λi j=>M j i) hp a b x y
 have u:=H.uniq M
 have i1:(det n λi j=>idQ j i)=1:=by
   rw [<- nS n]
   congr 1
   funext i j
   unfold idQ
   by_cases z:i=j
   · rw [if_pos z,if_pos z.symm]
   · rw [if_neg z,if_neg λy=>z y.symm]
 simp only [i1,Rat.mul_one] at u
 exact u
theorem kh (m:Nat):∀ (k:Nat) (M:Nat->Nat->Rat),(∀ i,k<=i->i < k + m->∀ j < k,M i j=0)->det (k + m) M=det k M * det m λi j=>M (k + i) (k + j)
 | 0,M,_=>by
   rw [Nat.zero_add]
   show det m M=1 * _
   rw [Rat.one_mul]
   congr 1
   funext i j
   rw [Nat.zero_add,Nat.zero_add]
 | k + 1,M,h=>by
   have a:k + 1 + m=(k + m) + 1:=by omega
   rw [a,det,det,fo]
   have tail:∀ t,aA (λi=>sgn i * M i 0 * det (k + m) (minor M i)) (k + 1 + t)=aA (λi=>sgn i * M i 0 * det (k + m) (minor M i)) (k + 1)\/¬ t<=m:=by
     intro t
     induction t with
     | zero=>exact .inl rfl
     | succ t ih=>
       by_cases q:t + 1<=m
       · rcases ih with ih | ih
         · refine .inl ?_
           rw [show k + 1 + (t + 1)=(k + 1 + t) + 1 by omega,aA,ih,h (k + 1 + t) (by omega) (by omega) 0 (by omega)]
           grind
         · omega
       · exact .inr q
   rcases tail m with e | e
   · rw [show k + m + 1=k + 1 + m by omega,e]
     refine ar λi hi=>?_
     rw [kh m k (minor M i) λr h1 h2 c hc=>?_]
     · have:(λr c=>minor M i (k + r) (k + c))=λr c=>M (k + 1 + r) (k + 1 + c):=by
         funext r c
         unfold minor skp
         rw [if_neg (by omega),show k + r + 1=k + 1 + r by omega,show k + c + 1=k + 1 + c by omega]
       rw [this]
       grind
     · unfold minor skp
       rw [if_neg (by omega)]
       exact h _ (by omega) (by omega) _ (by omega)
   · exact absurd (Nat.le_refl m) e
noncomputable def bm (Y:Nat->Nat->Rat) (k p q:Nat):Rat:=det (k + 1) λr c=>Y (if r < k then r else p) (if c < k then c else q)
noncomputable def bc (Y:Nat->Nat->Rat) (k p i:Nat):Rat:=det (k + 1) (aw (λr c=>Y (if c < k then c else p) r) k (idQ i))
theorem fF (M:Nat->Nat->Rat):det 1 M=M 0 0:=by
 show 0 + 1 * M 0 0 * 1=M 0 0
 grind
theorem vZ (M:Nat->Nat->Rat):det 2 M=M 0 0 * M 1 1 - M 0 1 * M 1 0:=by
 show 0 + 1 * M 0 0 * det 1 (minor M 0) + -1 * M 1 0 * det 1 (minor M 1)=_
 rw [fF,fF]
 show 0 + 1 * M 0 0 * M 1 1 + -1 * M 1 0 * M 0 1=_
 grind
section
variable {Y:Nat->Nat->Rat} {k p q:Nat}
theorem n8:bm Y k p q=det k Y * Y p q + aA (λi=>bc Y k p i * Y i q) k:=by
 have e:bm Y k p q=det (k + 1) (aw (λr c=>Y (if c < k then c else p) r) k λr=>aA (λc=>Y (if c < k then c else p) q * idQ c r) (k + 1)):=by
   unfold bm
   rw [<- cf]
   refine aD λi hi j hj=>?_
   unfold aw
   by_cases z:i=k
   · subst z
     rw [if_pos rfl,if_neg (Nat.lt_irrefl _)]
     exact (bE (λc=>Y (if c < i then c else p) q) j (i + 1) hj).symm
   · rw [if_neg z,if_pos (show i < k by omega)]
 have last:det (k + 1) (aw (λr c=>Y (if c < k then c else p) r) k (idQ k))=det k Y:=by
   rw [kh 1 k _ λi h1 h2 j hj=>?_,fF]
   · have e1:aw (λr c=>Y (if c < k then c else p) r) k (idQ k) (k + 0) (k + 0)=1:=by
       unfold aw idQ
       rw [if_pos (Nat.add_zero k),if_pos (Nat.add_zero k).symm]
     rw [e1,Rat.mul_one,<- cf]
     refine aD λi hi j hj=>?_
     unfold aw
     rw [if_neg (by omega)]
     dsimp only
     rw [if_pos hi]
   · have:i=k:=by omega
     subst this
     unfold aw idQ
     rw [if_pos rfl,if_neg (by omega)]
 rw [e,(bN (k + 1)).sum _ (Nat.lt_succ_self k),aA,last,if_neg (Nat.lt_irrefl _),Rat.add_comm,Rat.mul_comm (Y p q)]
 congr 1
 exact ar λi hi=>by rw [if_pos hi,Rat.mul_comm]; rfl
theorem pP (h:q < k):bm Y k p q=0:=by
 unfold bm
 rw [<- cf]
 refine (bN (k + 1)).same (p:=q) (q:=k) (by omega) (by omega) (by omega) ?_
 funext r
 rw [if_pos h,if_neg (Nat.lt_irrefl _)]
noncomputable def rho (k m r:Nat):Nat:=if r < k then r else if r=k then k + m else if r<=k + m then r - 1 else r
theorem lh {n:Nat}:∀ (m:Nat) (Y:Nat->Nat->Rat),k + m < n->(det n λr=>Y (rho k m r))=sgn m * det n Y
 | 0,Y,_=>by
   have:(λr=>Y (rho k 0 r))=Y:=by
     funext r
     congr 1
     unfold rho
     split
     · rfl
     · split
       · omega
       · split <;> omega
   rw [this]
   show _=1 * _
   rw [Rat.one_mul]
 | m + 1,Y,h=>by
   have ih:=lh (n:=n) m (aw (aw Y (k + m) (Y (k + m + 1))) (k + m + 1) (Y (k + m))) (by omega)
   have s:=(bN n).nb Y (p:=k + m) (by omega) (Y (k + m + 1)) (Y (k + m))
   rw [bq,bq] at s
   rw [s] at ih
   rw [eX]
   have e:(λr=>aw (aw Y (k + m) (Y (k + m + 1))) (k + m + 1) (Y (k + m)) (rho k m r))=λr=>Y (rho k (m + 1) r):=by
     funext r
     by_cases z:rho k m r=k + m + 1
     · rw [z,bF]
       congr 1
       unfold rho at z ⊢
       split at z
       · omega
       · split at z
         · omega
         · split at z
           · omega
           · rename_i a b c
             rw [if_neg a,if_neg b,if_pos (by omega)]
             omega
     · rw [bG z]
       by_cases y:rho k m r=k + m
       · rw [y,bF]
         congr 1
         unfold rho at y z ⊢
         split at y
         · omega
         · split at y
           · rename_i a b
             rw [if_neg a,if_pos b]
             omega
           · split at y
             · omega
             · omega
       · rw [bG y]
         congr 1
         unfold rho at y z ⊢
         split at y
         · rename_i a
           rw [if_pos a,if_pos a]
         · rename_i a
           rw [if_neg a] at z
           split at y
           · omega
           · rename_i b
             rw [if_neg b] at z
             rw [if_neg a,if_neg b,if_neg a,if_neg b]
             split at y
             · rename_i c
               rw [if_pos c,if_pos (by omega)]
             · rename_i c
               rw [if_neg c] at z
               rw [if_neg c,if_neg (by omega)]
   rw [e] at ih
   rw [ih]
   grind
end
noncomputable def ZB (b:Nat) (x:Rat):Prop:=∃ z:Int,x=(z:Rat)/\z.natAbs<=2 ^ b
theorem ZB.mono {b c:Nat} {x:Rat} (h:ZB b x) (hc:b<=c):ZB c x:=by
 obtain ⟨z,e,l⟩:=h
 exact ⟨z,e,Nat.le_trans l (Nat.pow_le_pow_right (by decide) hc)⟩
theorem ZB.mul {b c:Nat} {x y:Rat} (h:ZB b x) (g:ZB c y):ZB (b + c) (x * y):=by
 obtain ⟨u,rfl,l⟩:=h
 obtain ⟨v,rfl,k⟩:=g
 exact ⟨u * v,(Rat.intCast_mul u v).symm,by rw [Int.natAbs_mul,Nat.pow_add]; exact Nat.mul_le_mul l k⟩
theorem ZB.sgn (i:Nat):ZB 0 (sgn i):=by
 show ZB 0 (if i % 2=0 then 1 else -1)
 split
 · exact ⟨1,rfl,by decide⟩
 · exact ⟨-1,rfl,by decide⟩
theorem ZB.sum {b:Nat} {f:Nat->Rat}:∀ {n:Nat},(∀ i < n,ZB b (f i))->∃ z:Int,aA f n=(z:Rat)/\z.natAbs<=n * 2 ^ b
 | 0,_=>⟨0,rfl,Nat.zero_le _⟩
 | n + 1,h=>by
   obtain ⟨u,e,l⟩:=ZB.sum λi hi=>h i (Nat.lt_succ_of_lt hi)
   obtain ⟨v,e',l'⟩:=h n (Nat.lt_succ_self n)
   refine ⟨u + v,by rw [aA,e,e',Rat.intCast_add],?_⟩
   rw [Nat.succ_mul]
   exact Nat.le_trans (Int.natAbs_add_le _ _) (Nat.add_le_add l l')
theorem uN {b:Nat}:∀ {n:Nat} {M:Nat->Nat->Rat},n<=8->(∀ i < n,∀ j < n,ZB b (M i j))->ZB (n * (b + 3)) (det n M)
 | 0,_,_,_=>⟨1,rfl,Nat.one_le_two_pow⟩
 | n + 1,M,hn,h=>by
   obtain ⟨z,e,l⟩:=ZB.sum (b:=b + n * (b + 3)) (f:=λi=>sgn i * M i 0 * det n (minor M i)) (n:=n + 1) λi hi=>by
     have:=((ZB.sgn i).mul (h i hi 0 (by omega))).mul (uN (n:=n) (M:=minor M i) (by omega) λr hr c hc=>h _ (gr hr) _ (by omega))
     exact this.mono (by omega)
   refine ⟨z,e,Nat.le_trans l ?_⟩
   rw [show (n + 1) * (b + 3)=3 + (b + n * (b + 3)) by rw [Nat.succ_mul]; omega,Nat.pow_add 2 3]
   exact Nat.mul_le_mul_right _ (by omega)
noncomputable def iF (s:Nat->Rat):Nat->Rat
 | 0=>1
 | n + 1=>iF s n * s n
theorem ku {n:Nat} (s:Nat->Rat) (M:Nat->Nat->Rat):∀ t,t<=n->det n (λi j=>if i < t then s i * M i j else M i j)=iF s t * det n M
 | 0,_=>by
   rw [iF,Rat.one_mul]
   exact aD λi _ j _=>if_neg (Nat.not_lt_zero _)
 | t + 1,h=>by
   have ih:=ku (n:=n) s M t (by omega)
   have c:=(bN n).comb (λi j=>if i < t then s i * M i j else M i j) (p:=t) (k:=0) (by omega) (Nat.zero_le _) (s t) (λ_=>0)
   rw [ih] at c
   rw [iF,Rat.mul_comm (iF s t),Rat.mul_assoc,<- c]
   refine aD λi _ j _=>?_
   unfold aw
   by_cases q:i=t
   · subst q
     rw [if_pos (Nat.lt_succ_self i),if_pos rfl]
     dsimp only
     rw [if_neg (Nat.lt_irrefl i)]
     show _=_ + 0
     rw [Rat.add_zero]
   · rw [if_neg q]
     dsimp only
     by_cases z:i < t
     · rw [if_pos (by omega),if_pos z]
     · rw [if_neg (by omega),if_neg z]
theorem rz (m:Nat) (Y:Nat->Nat->Rat):det (m + 1) Y=aA (λc=>sgn (m + c) * Y m c * det m λr q=>Y r (skp c q)) (m + 1):=by
 have e1:=lh (k:=0) (n:=m + 1) m Y (by omega)
 have e2:=cf (m + 1) λr=>Y (rho 0 m r)
 rw [det] at e2
 have r0:rho 0 m 0=m:=by unfold rho; rw [if_neg (by omega),if_pos rfl]; omega
 have rs:∀ r,r < m->rho 0 m (r + 1)=r:=λr hr=>by
   unfold rho
   rw [if_neg (by omega),if_neg (by omega),if_pos (by omega)]
   omega
 have e3:aA (λc=>sgn c * Y m c * det m λr q=>Y r (skp c q)) (m + 1)=sgn m * det (m + 1) Y:=by
   rw [<- e1,<- e2]
   refine ar λc _=>?_
   rw [r0,<- cf m]
   congr 1
   exact aD λr hr q hq=>by
     unfold minor
     dsimp only
     rw [rs q hq]
 have sm:∀ c,sgn (m + c)=sgn m * sgn c:=λc=>by
   induction c with
   | zero=>rw [Nat.add_zero,show sgn 0=1 from rfl,Rat.mul_one]
   | succ c ih=>rw [<- Nat.add_assoc,eX,ih,eX]; grind
 have:aA (λc=>sgn (m + c) * Y m c * det m λr q=>Y r (skp c q)) (m + 1)=sgn m * aA (λc=>sgn c * Y m c * det m λr q=>Y r (skp c q)) (m + 1):=by
   rw [aV]
   refine ar λc _=>?_
   rw [sm]
   grind
 rw [this,e3,<- Rat.mul_assoc,lS,Rat.one_mul]
noncomputable def gC (M:Nat->Nat->Rat) (L:List Nat):Rat:=det L.length λr c=>M r (L.getD c 0)
theorem oG {M:Nat->Nat->Rat} {L:List Nat} {m:Nat} (h:L.length=m + 1):gC M L=aA (λc=>sgn (m - c) * M m (L.getD c 0) * gC M (L.eraseIdx c)) (m + 1):=by
 unfold gC
 rw [h,rz]
 refine ar λc hc=>?_
 have e1:sgn (m + c)=sgn (m - c):=by
   unfold sgn
   by_cases z:(m + c) % 2=0
   · rw [if_pos z,if_pos (by omega)]
   · rw [if_neg z,if_neg (by omega)]
 have e2:(L.eraseIdx c).length=m:=by rw [List.length_eraseIdx_of_lt (by omega)]; omega
 rw [e1,e2]
 refine congrArg (λx=>sgn (m - c) * M m (L.getD c 0) * x) (aD λr _ q hq=>?_)
 rw [List.getD_eq_getElem?_getD,List.getD_eq_getElem?_getD,List.getElem?_eraseIdx]
 unfold skp
 split <;> rfl
noncomputable def cols (n S:Nat):List Nat:=(List.range n).filter λj=>S.testBit j
noncomputable def above (n j S:Nat):List Nat:=((List.range (n - (j + 1))).map (j + 1 + ·)).filter λk=>S.testBit k
theorem jG (g:Nat->Rat):∀ n,aA g (n + 1)=g 0 + aA (λk=>g (k + 1)) n
 | 0=>by simp only [aA,Rat.add_zero,Rat.zero_add]
 | n + 1=>by
   rw [aA,jG g n,aA,Rat.add_assoc]
section
variable {P:Program} {w:World} {K:PySem.W.Frag} {mg:Str->Option Value} {base:Heap} {k:Nat} {f:Addr} {fd:FuncData} {qual:Str}
end
noncomputable def mi (M:Nat->Nat->Rat) (k:Nat) (ρ γ:Nat->Nat):Rat:=det k λr c=>M (ρ r) (γ c)
theorem uf {M:Nat->Nat->Rat} {k:Nat} {ρ ρ' γ γ':Nat->Nat} (h:∀ i < k,ρ i=ρ' i) (h':∀ i < k,γ i=γ' i):mi M k ρ γ=mi M k ρ' γ':=aD λi hi j hj=>by rw [h i hi,h' j hj]
theorem Ay (M:Nat->Nat->Rat) (k:Nat) (ρ γ:Nat->Nat):mi (λi j=>M j i) k γ ρ=mi M k ρ γ:=cf k λr c=>M (ρ r) (γ c)
theorem mx {n k:Nat} (m:Nat) (Y:Nat->Nat->Rat) (h:k + m < n):(det n λr c=>Y r (rho k m c))=sgn m * det n Y:=by
 rw [<- cf n Y,<- lh (k:=k) m (λi j=>Y j i) h]
 exact (cf n λi j=>Y j (rho k m i))
theorem pf {d x y:Rat} (h:d ≠ 0) (e:d * x=d * y):x=y:=by
 have:=congrArg (d⁻¹ * ·) e
 simp only [<- Rat.mul_assoc,Rat.inv_mul_cancel d h,Rat.one_mul] at this
 exact this
noncomputable def k2 (Y:Nat->Nat->Rat) (s x y:Nat):Rat:=det (s + 2) λr c=>Y r (if c < s then c else if c=s then x else y)
theorem xE {s:Nat} {x y:Rat} (h:x=sgn s * y):y=sgn s * x:=by rw [h,<- Rat.mul_assoc,lS,Rat.one_mul]
noncomputable def Inc (k:Nat) (γ:Nat->Nat):Prop:=∀ i,i + 1 < k->γ i < γ (i + 1)
theorem Inc.lt {k:Nat} {γ:Nat->Nat} (h:Inc k γ):∀ (d i:Nat),i + d + 1 < k->γ i < γ (i + d + 1)
 | 0,i,hi=>h i hi
 | d + 1,i,hi=>Nat.lt_trans (h.lt d i (by omega)) (h (i + d + 1) hi)
theorem Inc.mono {k:Nat} {γ:Nat->Nat} (h:Inc k γ) {i j:Nat} (hij:i < j) (hj:j < k):γ i < γ j:=by
 have:=h.lt (j - i - 1) i (by omega)
 rwa [show i + (j - i - 1) + 1=j by omega] at this
theorem Inc.up {k:Nat} {γ:Nat->Nat} (h:Inc (k + 1) γ):Inc k λc=>γ (c + 1):=λi hi=>h (i + 1) (by omega)
section
variable {P:Program} {w:World} {K:PySem.W.Frag} {mg:Str->Option Value} {base:Heap} {k:Nat} {f:Addr} {fd:FuncData} {qual:Str}
end
noncomputable def Tnn (m n:Nat) (A:Nat->Nat->Rat):Prop:=∀ (k:Nat) (ρ γ:Nat->Nat),Inc k ρ->(∀ i,i < k->ρ i < m)->Inc k γ->(∀ i,i < k->γ i < n)->0<=mi A k ρ γ
theorem Tnn.congr {m n:Nat} {A B:Nat->Nat->Rat} (h:Tnn m n A) (e:∀ i,i < m->∀ j,j < n->A i j=B i j):Tnn m n B:=λk ρ γ h1 h2 h3 h4=>by
 have:mi B k ρ γ=mi A k ρ γ:=aD λi hi j hj=>(e _ (h2 i hi) _ (h4 j hj)).symm
 rw [this]
 exact h k ρ γ h1 h2 h3 h4
theorem Tnn.tr {m n:Nat} {A:Nat->Nat->Rat} (h:Tnn m n A):Tnn n m λi j=>A j i:=λk ρ γ h1 h2 h3 h4=>by
 rw [Ay]
 exact h k γ ρ h3 h4 h1 h2
theorem Tnn.le {m n m' n':Nat} {A:Nat->Nat->Rat} (h:Tnn m n A) (hm:m'<=m) (hn:n'<=n):Tnn m' n' A:=λk ρ γ h1 h2 h3 h4=>h k ρ γ h1 (λi hi=>by have:=h2 i hi; omega) h3 λi hi=>by have:=h4 i hi; omega
theorem Inc.ne {k:Nat} {γ:Nat->Nat} (h:Inc k γ) {i j:Nat} (hi:i < k) (hj:j < k) (ne:i ≠ j):γ i ≠ γ j:=by
 rcases Nat.lt_or_ge i j with z | z
 · have:=h.mono z hj; omega
 · have:=h.mono (show j < i by omega) hi; omega
theorem fL {n:Nat} {M:Nat->Nat->Rat} {p q:Nat} (hp:p < n) (hq:q < n) (hpq:p ≠ q) (e:∀ r,M r p=M r q):det n M=0:=by
 rw [<- cf]
 exact (bN n).same hp hq hpq (funext e)
theorem Tnn.col {m n h t:Nat} {A:Nat->Nat->Rat} {a b:Rat} (H:Tnn m n A) (ha:0<=a) (hb:0<=b) (ht:b=0\/(t < n/\(t=h + 1\/h=t + 1))):Tnn m n λi j=>if j=h then a * A i h + b * A i t else A i j:=λk ρ γ h1 h2 h3 h4=>by
 by_cases ex:∃ c,c < k/\γ c=h
 · obtain ⟨c0,hc,ec⟩:=ex
   have e1:mi (λi j=>if j=h then a * A i h + b * A i t else A i j) k ρ γ=det k (aH (λr c=>A (ρ r) (γ c)) c0 λr=>a * A (ρ r) h + b * A (ρ r) t):=aD λi hi j hj=>by
     show (if γ j=h then a * A (ρ i) h + b * A (ρ i) t else A (ρ i) (γ j))=if j=c0 then a * A (ρ i) h + b * A (ρ i) t else A (ρ i) (γ j)
     by_cases z:j=c0
     · rw [if_pos z,if_pos (by rw [z]; exact ec)]
     · rw [if_neg z,if_neg (by rw [<- ec]; exact h3.ne hj hc z)]
   rw [e1,gL _ hc a b]
   have e2:det k (aH (λr c=>A (ρ r) (γ c)) c0 λr=>A (ρ r) h)=mi A k ρ γ:=aD λi hi j hj=>by
     show (if j=c0 then A (ρ i) h else A (ρ i) (γ j))=A (ρ i) (γ j)
     split
     · rename_i z; rw [z,ec]
     · rfl
   rw [e2]
   have p1:=Rat.mul_nonneg ha (H k ρ γ h1 h2 h3 h4)
   have p2:0<=b * det k (aH (λr c=>A (ρ r) (γ c)) c0 λr=>A (ρ r) t):=by
     rcases ht with z | ⟨tn,nb⟩
     · rw [z,Rat.zero_mul]; exact Rat.le_refl
     refine Rat.mul_nonneg hb ?_
     by_cases ex:∃ c,c < k/\γ c=t
     · obtain ⟨c1,hc1,ec1⟩:=ex
       have ne:c0 ≠ c1:=λz=>by rw [z,ec1] at ec; omega
       rw [fL hc hc1 ne λr=>?_]
       · exact Rat.le_refl
       · show (if c0=c0 then A (ρ r) t else A (ρ r) (γ c0))=if c1=c0 then A (ρ r) t else A (ρ r) (γ c1)
         rw [if_pos rfl,if_neg (Ne.symm ne),ec1]
     · have e3:det k (aH (λr c=>A (ρ r) (γ c)) c0 λr=>A (ρ r) t)=mi A k ρ λc=>if c=c0 then t else γ c:=aD λi hi j hj=>by
         show (if j=c0 then A (ρ i) t else A (ρ i) (γ j))=A (ρ i) (if j=c0 then t else γ j)
         by_cases z:j=c0
         · rw [if_pos z,if_pos z]
         · rw [if_neg z,if_neg z]
       rw [e3]
       have nt:∀ c,c < k->γ c ≠ t:=λc hc z=>ex ⟨c,hc,z⟩
       refine H k ρ _ h1 h2 (λi hi=>?_) λi hi=>?_
       · have:=h3 i hi
         have n1:=nt i (by omega)
         have n2:=nt (i + 1) (by omega)
         show (if i=c0 then t else γ i) < if i + 1=c0 then t else γ (i + 1)
         by_cases z:i=c0
         · rw [if_pos z,if_neg (by omega)]
           rw [z] at this n2 ⊢
           omega
         · by_cases z':i + 1=c0
           · rw [if_neg z,if_pos z']
             rw [z'] at this
             omega
           · rw [if_neg z,if_neg z']
             exact this
       · show (if i=c0 then t else γ i) < n
         split
         · exact tn
         · exact h4 i hi
   exact Rat.add_nonneg p1 p2
 · have e1:mi (λi j=>if j=h then a * A i h + b * A i t else A i j) k ρ γ=mi A k ρ γ:=aD λi hi j hj=>if_neg λz=>ex ⟨j,hj,z⟩
   rw [e1]
   exact H k ρ γ h1 h2 h3 h4
theorem rS {k:Nat} {M:Nat->Nat->Rat} (hk:0 < k) (h:∀ c,c < k->M 0 c=0):det k M=0:=by
 rw [<- (bN k).tP M hk]
 refine aD λi hi j hj=>?_
 unfold aw
 split
 · rename_i z; rw [z]; exact h j hj
 · rfl
theorem xo (m n:Nat):Tnn m n λi j=>if i=j then 1 else 0:=λk=>by
 induction k with
 | zero=>intro ρ γ _ _ _ _; show (0:Rat)<=1; decide
 | succ k ih=>
   intro ρ γ h1 h2 h3 h4
   unfold mi
   by_cases z:ρ 0=γ 0
   · have e:det (k + 1) (λr c=>if ρ r=γ c then (1:Rat) else 0)=det k λr c=>if ρ (r + 1)=γ (c + 1) then 1 else 0:=by
       show aA _ (k + 1)=_
       rw [jG]
       rw [bf λi hi=>?_,Rat.add_zero]
       · show sgn 0 * (if ρ 0=γ 0 then 1 else 0) * det k (minor _ 0)=_
         rw [if_pos z,show sgn 0=1 from rfl,Rat.one_mul,Rat.one_mul]
         rfl
       · show sgn (i + 1) * (if ρ (i + 1)=γ 0 then 1 else 0) * _=(0:Rat)
         have:=h1.mono (show 0 < i + 1 by omega) (by omega)
         rw [if_neg (by omega),Rat.mul_zero,Rat.zero_mul]
     rw [e]
     exact ih (λr=>ρ (r + 1)) (λc=>γ (c + 1)) (λi hi=>h1 (i + 1) (by omega)) (λi hi=>h2 (i + 1) (by omega)) (λi hi=>h3 (i + 1) (by omega)) λi hi=>h4 (i + 1) (by omega)
   · have e:det (k + 1) (λr c=>if ρ r=γ c then (1:Rat) else 0)=0:=by
       have mono:∀ {δ:Nat->Nat},Inc (k + 1) δ->∀ c,c < k + 1->δ 0<=δ c:=λ{δ} hd c hc=>by
         rcases Nat.eq_zero_or_pos c with y | y
         · rw [y]; exact Nat.le_refl _
         · have:=hd.mono y hc; omega
       rcases Nat.lt_or_ge (ρ 0) (γ 0) with y | y
       · exact rS (by omega) λc hc=>if_neg (by have:=mono h3 c hc; omega)
       · show aA _ (k + 1)=0
         refine bf λi hi=>?_
         show sgn i * (if ρ i=γ 0 then 1 else 0) * _=(0:Rat)
         have:=mono h1 i hi
         rw [if_neg (by omega),Rat.mul_zero,Rat.zero_mul]
     rw [e]
     exact Rat.le_refl
section
variable {P:Program} {w:World} {K:PySem.W.Frag} {mg:Str->Option Value} {base:Heap} {k:Nat} {f:Addr} {fd:FuncData} {qual:Str}
end
noncomputable def jK:Int->List Int->List Int
 | _,[]=>[]
 | c,b :: r=>c.fmod b :: jK (c.fdiv b) r
noncomputable def uM (c:Int) (bs:List Int):Int:=bs.foldl (λc b=>c.fdiv b) c
noncomputable def yN (c:Int) (k:Nat) (b:Int):Int:=(((((c * 48271 + (k:Int) * k * 69621 + (k:Int) * 16807 + 11).fmod 2147483647) * 40692 + c + 31 * (k:Int)).fmod 2147483399).fdiv 7).fmod b
noncomputable def uS (c:Int) (bs:List Int):List Int:=(List.range bs.length).map λk=>yN c k (bs.getD k 0)
noncomputable def nums (c:Int) (bs:List Int):List Int:=if (10:Int) ^ (18:Int).toNat<=u5 c then jK c bs else uS c bs
theorem ki:∀ (bs:List Int) (c b:Int),jK c (bs++[b])=jK c bs++[(uM c bs).fmod b]
 | [],_,_=>rfl
 | a :: bs,c,b=>by rw [List.cons_append,jK,jK,ki bs]; rfl
theorem je:∀ (bs:List Int) (c:Int),(jK c bs).length=bs.length
 | [],_=>rfl
 | _ :: bs,c=>congrArg (· + 1) (je bs _)
theorem mI (c:Int) (bs:List Int):(nums c bs).length=bs.length:=by
 unfold nums
 split
 · exact je bs c
 · simp [uS]
theorem pU:∀ (bs:List Int) (c:Int),(∀ b ∈ bs,0 < b)->∀ (i:Nat),i < bs.length->0<=(jK c bs).getD i 0/\(jK c bs).getD i 0 < bs.getD i 0
 | b :: bs,c,h,0,_=>by
   have:=h b (List.mem_cons_self ..)
   exact ⟨Int.fmod_nonneg_of_pos c this,Int.fmod_lt_of_pos c this⟩
 | b :: bs,c,h,i + 1,hi=>by
   have:=pU bs (c.fdiv b) (λx hx=>h x (List.mem_cons_of_mem _ hx)) i (by simpa using hi)
   simpa [jK] using this
theorem iV {c:Int} {bs:List Int} (h:∀ b ∈ bs,0 < b) {i:Nat} (hi:i < bs.length):0<=(nums c bs).getD i 0/\(nums c bs).getD i 0 < bs.getD i 0:=by
 unfold nums
 split
 · exact pU bs c h i hi
 · have hp:0 < bs.getD i 0:=h _ (by simp [hi])
   have e:(uS c bs).getD i 0=yN c i (bs.getD i 0):=by simp [uS,hi]
   rw [e]
   exact ⟨Int.fmod_nonneg_of_pos _ hp,Int.fmod_lt_of_pos _ hp⟩
theorem take_snoc {α:Type} {xs:List α} {i:Nat} (d:α) (h:i < xs.length):xs.take (i + 1)=xs.take i++[xs.getD i d]:=by
 rw [List.take_add_one,List.getElem?_eq_getElem h]
 simp [h]
theorem w8 {b:Int} (h0:0 < b) (h:b < 2 ^ 60):0 < b/\aN b:=⟨h0,mkD (by omega) (by omega)⟩
noncomputable def c8 (ds:List D) (r:Sl):Prop:=∃ (c:Int) (bs:List Int),ds=[.int c,.lst (bs.map .int)]/\bs.length<=10000/\(∀ b ∈ bs,0 < b/\aN b)/\r=.o ((nums c bs).map .int)
section
variable {P:Program} {w:World} {K:PySem.W.Frag} {mg:Str->Option Value} {base:Heap} {k:Nat} {f:Addr} {fd:FuncData} {qual:Str}
theorem lG (F:Fun K "_law_numbers" qual (top 44) f fd) (hb:∀ x ∈ aB,mg x=none):a6 P w K mg base CX0 (k + 1) f fd ["_law_cell_here","_law_bases"] (spD K c8):=by
 refine fnD F gS hb (by rintro _ _ ⟨_,_,rfl,_⟩; rfl) ?_
 rintro _ _ ⟨c,bs,rfl,hl,hbs,rfl⟩ cdv A outer s H E b
 have nd:=gS.nd
 have hp:∀ i,i < bs.length->0 < bs.getD i 0/\aN (bs.getD i 0):=λi hi=>hbs _ (by simp [hi])
 refine aO 2 nd (cD ag) ?_
 refine fT (bg (bx b (ae (aa 0) ag) mE) (aJ af af (zx ⟨by decide,by decide,by decide⟩)) yE) (λh=>?_) λh=>?_
 · refine dM 3 (λi τ=>∃ s3,τ=[.d (.int (uM c (bs.take i))),.d (.lst (bs.map .int)),.o ((jK c (bs.take i)).map .int),s3,.un,.un]) b nd (bU (aa 1)) zd ⟨_,rfl⟩ (λi hi τ h=>?_) λτ h=>?_
   · obtain ⟨s3,rfl⟩:=h
     have hi:i < bs.length:=by simpa using hi
     obtain ⟨p1,p2⟩:=hp i hi
     refine uK 2 (aJ (aa 0) (aa 3) (cg (by omega))) ?_ ?_
     · rw [List.length_map,je,List.length_take]; omega
     refine aO 0 nd (aJ (aa 0) (aa 3) (ft p2)) (ba ?_)
     apply ex1
     show [Sl.d (.int ((uM c (bs.take i)).fdiv (bs.getD i 0))),_,Sl.o _,_,_,_]=_
     rw [take_snoc 0 hi,ki,List.map_append]
     unfold uM
     rw [List.foldl_append]
     rfl
   · obtain ⟨s3,rfl⟩:=h
     refine rQ 2 ?_
     rw [List.length_map,List.take_of_length_le (Nat.le_refl _)]
     unfold nums
     rw [if_pos (of_decide_eq_true h)]
 · refine rX 4 3 (λi τ=>∃ s3 s4 s5,τ=[.d (.int c),.d (.lst (bs.map .int)),.o (((List.range i).map λk=>yN c k (bs.getD k 0)).map .int),s3,s4,s5]) b nd (wQ b (aa 1)) wz ⟨_,_,_,rfl⟩ (λi hi τ h=>?_) λτ h=>?_
   · obtain ⟨s3,s4,s5,rfl⟩:=h
     have hi:i < bs.length:=by rw [hJ,List.length_map] at hi; exact hi
     obtain ⟨p1,p2⟩:=hp i hi
     refine aO 5 nd (aJ (aJ (aJ (aJ (aJ (aa 0) af (bA (mkR (by decide)))) (aJ (aJ (aa 4) (aa 4) (bA (mkL (by omega)))) af (bA (mkR (by decide)))) bC) (aJ (aa 4) af (bA (mkR (by decide)))) bC) af bC) af (cg (by decide))) ?_
     refine uK 2 (aJ (aJ (aJ (aJ (aJ (aJ (aa 5) af (bA (mkR (by decide)))) (aa 0) bC) (aJ af (aa 4) (bA (mkL (by decide)))) bC) af (cg (by decide))) af (ft (mkD (by decide) (by decide)))) (aa 3) (cg (by omega))) ?_ (ba ?_)
     · rw [List.length_map,List.length_map,List.length_range]; omega
     apply ex3
     rw [List.range_succ,List.map_append,List.map_append]
     rfl
   · obtain ⟨s3,s4,s5,rfl⟩:=h
     refine rQ 2 ?_
     rw [hJ,List.length_map]
     unfold nums
     rw [if_neg (of_decide_eq_false h)]
     rfl
end
end K31
namespace Hy
open PySem PySem.Spec PyProof.Rows L2
open Ev (D Den av aI aN)
structure Pyl (P:Program) (base:Heap):Prop where
 seer:base.NoSeer
 tree:P.given.tree=none
theorem xk {X:Cx} {pins:List (Addr × Obj)} {σ:L2.St} {H:Hp} {s:Shared} (y:Pyl X.prog X.base) (I:Inv X pins σ H s) (hst:X.stack=X.env :: X.outer) (hg:X.env.scope.isGenerator=false) (hc:X.env.scope.isCoroutine=false):SeerAt (model X.prog X.w) X.A s.heap:=
 SeerAt.of (M:=model X.prog X.w) (y.seer.keeps I.bk) y.tree (I.ok.frames.trans (congrArg some hst)) hg hc I.ok.blt I.ok.glob
theorem bR {X:Cx} {k:Nat} {i j:Int} (y:Pyl X.prog X.base) (b:Bk X k) (hk:33<=k) (h:j ≠ 0) (hst:X.stack=X.env :: X.outer:=by rfl) (hg:X.env.scope.isGenerator=false:=by rfl) (hc:X.env.scope.isCoroutine=false:=by rfl) :
   cA X (binaryOp .FloorDiv) (.int i) (.int j) (.int (i.fdiv j)):=
 ⟨rI (λ_ j=>j ≠ 0) λi j=>.int (i.fdiv j),(λpins s σ H x z v u Q I rx ry h=>by
   obtain ⟨i,j,rfl,rfl,hc',q⟩:=h
   obtain ⟨t,rfl⟩:=rx
   obtain ⟨t',rfl⟩:=ry
   exact floordiv_int hc' ⟨.int (i.fdiv j),H,I.tok _,⟨_,rfl⟩,q⟩ (.inr (PylongRoom.of I.nolimit (by have:=b.room.dp; show X.A.depth + 100 < _; omega) (xk y I hst hg hc)))),ng h λ_ _=>.int⟩
end Hy
namespace K31
open PySem PySem.Spec PyProof.Rows L2 Hy
open Ev (D Den av aI aN)
noncomputable def frD (q:Rat):D:=.tup [.int q.num,.int (q.den:Nat)]
theorem cH (x:Rat):x * (((x.den:Nat):Int):Rat)=(x.num:Rat):=by
 have h:mkRat x.num x.den=x:=by rw [<- Rat.normalize_eq_mkRat x.den_nz]; exact Rat.normalize_self x
 rw [Rat.mkRat_eq_div] at h
 have hd:((x.den:Nat):Rat) ≠ 0:=λz=>x.den_nz (Rat.natCast_eq_zero_iff.mp z)
 rw [Rat.intCast_natCast]
 conv=>lhs; lhs; rw [<- h]
 exact Rat.div_mul_cancel hd
theorem bI {t b:Int} {x:Rat} (hb:0 < b) (h:(t:Rat)=x * (b:Rat)):x.num=t / (Int.gcd t b:Int)/\((x.den:Nat):Int)=b / (Int.gcd t b:Int):=by
 have hb0:((b.toNat:Nat):Rat) ≠ 0:=λz=>by have:=Rat.natCast_eq_zero_iff.mp z; omega
 have hbb:((b:Int):Rat)=((b.toNat:Nat):Rat):=by rw [<- Rat.intCast_natCast,Int.toNat_of_nonneg (by omega)]
 have e:x=mkRat t b.toNat:=by
   rw [Rat.mkRat_eq_div,h,hbb,Rat.mul_div_cancel hb0]
 have g:b.toNat.gcd t.natAbs=Int.gcd t b:=by
   rw [Int.gcd,Nat.gcd_comm,show b.natAbs=b.toNat by omega]
 have nz:¬ b.toNat=0:=by omega
 constructor
 · rw [e,Rat.num_mkRat,if_neg nz,g]
 · rw [e,Rat.den_mkRat,if_neg nz,g,Int.natCast_ediv,Int.toNat_of_nonneg (by omega)]
theorem den_pos (q:Rat):0 < ((q.den:Nat):Int):=by have:=q.den_pos; omega
theorem xM {b:Int} (hb:0 < b):(b:Rat) ≠ 0:=λz=>by have:=Rat.intCast_eq_zero_iff.mp z; omega
noncomputable def Bd (n:Nat) (i:Int):Prop:=i.natAbs < 2 ^ n
theorem Bd.mono {m n:Nat} {i:Int} (h:Bd m i) (hm:m<=n):Bd n i:=Nat.lt_of_lt_of_le h (Nat.pow_le_pow_right (by decide) hm)
theorem Bd.log {n:Nat} {i:Int} (h:Bd n i) (hn:0 < n):i.natAbs.log2 < n:=by
 rcases Nat.eq_zero_or_pos i.natAbs with z | z
 · rw [z]; exact hn
 · exact (Nat.log2_lt (by omega)).mpr h
theorem Bd.mul {m n:Nat} {i j:Int} (h:Bd m i) (g:Bd n j):Bd (m + n) (i * j):=by
 unfold Bd at *
 rw [Int.natAbs_mul,Nat.pow_add]
 rcases Nat.eq_zero_or_pos j.natAbs with z | z
 · rw [z,Nat.mul_zero]; exact Nat.mul_pos (Nat.two_pow_pos m) (Nat.two_pow_pos n)
 · exact Nat.lt_of_lt_of_le (Nat.mul_lt_mul_of_pos_right h z) (Nat.mul_le_mul_left _ (Nat.le_of_lt g))
theorem Bd.neg {n:Nat} {i:Int} (h:Bd n i):Bd n (-i):=by unfold Bd at *; rwa [Int.natAbs_neg]
theorem Bd.aI {m n:Nat} {i j:Int} (h:Bd m i) (g:Bd n j) (hm:m<=1000000) (hn:n<=1000000):aI i j:=
 .inr (.inr ⟨(h.mono (Nat.le_succ_of_le hm)).log (by omega) |> λz=>by
   rcases Nat.eq_zero_or_pos i.natAbs with q | q
   · rw [q]; decide
   · exact Nat.lt_of_lt_of_le ((Nat.log2_lt (by omega)).mpr h) hm,by
   rcases Nat.eq_zero_or_pos j.natAbs with q | q
   · rw [q]; decide
   · exact Nat.lt_of_lt_of_le ((Nat.log2_lt (by omega)).mpr g) hn⟩)
theorem Bd.aN {n:Nat} {j:Int} (h:Bd n j) (h0:j ≠ 0) (hn:n<=9000):aN j:=⟨h0,Nat.lt_of_lt_of_le ((Nat.log2_lt (by omega)).mpr h) hn⟩
theorem Bd.of_dvd {n:Nat} {i j:Int} (h:Bd n j) (hd:i ∣ j) (h0:j ≠ 0):Bd n i:=Nat.lt_of_le_of_lt (Nat.le_of_dvd (by omega) (Int.natAbs_dvd_natAbs.mpr hd)) h
theorem Bd.ediv {n:Nat} {i:Int} (h:Bd n i) (j:Int):Bd n (i / j):=Nat.lt_of_le_of_lt (Int.natAbs_ediv_le_natAbs i j) h
theorem Bd.gcd {n:Nat} {i j:Int} (h:Bd n j) (h0:j ≠ 0):Bd n (Int.gcd i j:Int):=h.of_dvd (Int.gcd_dvd_right ..) h0
theorem dZ {i j:Int} (h0:j ≠ 0):(Int.gcd i j:Int) ≠ 0:=λz=>h0 (by have:=Int.gcd_eq_zero_iff.mp (Int.ofNat_eq_zero.mp z); exact this.2)
theorem a8 {i j:Int} (t:Int):t.fdiv (Int.gcd i j:Int)=t / (Int.gcd i j:Int):=Int.fdiv_eq_ediv_of_nonneg _ (Int.natCast_nonneg _)
structure Sq (n:Nat) (q:Rat):Prop where
 num:Bd n q.num
 den:Bd n (q.den:Nat)
theorem Sq.mono {m n:Nat} {q:Rat} (h:Sq m q) (hm:m<=n):Sq n q:=⟨h.num.mono hm,h.den.mono hm⟩
theorem Sq.bI {n:Nat} {t b:Int} {x:Rat} (hb:0 < b) (h:(t:Rat)=x * (b:Rat)) (h1:Bd n t) (h2:Bd n b):Sq n x:=by
 obtain ⟨e1,e2⟩:=K31.bI hb h
 exact ⟨by rw [e1]; exact h1.ediv _,by rw [e2]; exact h2.ediv _⟩
noncomputable def whl (x:D):Bool:=jX .int x && !jX .bool x
noncomputable def gq (ds:List D) (r:Sl):Prop:=∃ x,ds=[x]/\r=.d (.bl (whl x))
noncomputable def a9 (ds:List D) (r:Sl):Prop:=∃ a b:Int,ds=[.int a,.int b]/\r=.d (.int (Int.gcd a b:Int))
theorem gX (i:Int):u5 i=(i.natAbs:Int):=by unfold u5; omega
noncomputable def qI:D->Bool
 | .tup [.int a,.int b]=>decide (1<=b) && decide ((Int.gcd a b:Int)=1)
 | _=>false
theorem vS (q:Rat):qI (frD q)=true:=by
 have h1:=den_pos q
 have h2:Int.gcd q.num (q.den:Nat)=1:=q.reduced
 show (decide ((1:Int)<=(q.den:Nat)) && decide ((Int.gcd q.num (q.den:Nat):Int)=1))=true
 rw [h2,decide_eq_true (show (1:Int)<=(q.den:Nat) by omega)]
 rfl
theorem tO {xs:List D} (h:xs.length ≠ 2):qI (.tup xs)=false:=by
 unfold qI
 split
 · rename_i e; cases e; exact absurd rfl h
 · rfl
noncomputable def dk (ds:List D) (r:Sl):Prop:=∃ x,ds=[x]/\r=.d (.bl (qI x))
noncomputable def b8 (ds:List D) (r:Sl):Prop:=∃ (t b:Int) (q:Rat),ds=[.int t,.int b]/\b ≠ 0/\Bd 900000 b/\(t:Rat)=q * (b:Rat)/\r=.d (frD q)
noncomputable def bW (ds:List D) (r:Sl):Prop:=∃ xs,ds=[.lst xs]/\r=.d (.bl (decide ((1:Int)<=(xs.length:Nat)) && decide (((xs.length:Nat):Int)<=7)))
section
variable {P:Program} {w:World} {K:PySem.W.Frag} {mg:Str->Option Value} {base:Heap} {k:Nat} {f:Addr} {fd:FuncData} {qual:Str}
theorem m9 (F:Fun K "is_whole" qual (top 7) f fd) (hb:∀ x ∈ aB,mg x=none):a6 P w K mg base CX0 (k + 1) f fd ["thing"] (spD K gq):=by
 refine fnD F my hb (by rintro _ _ ⟨_,rfl,_⟩; rfl) ?_
 rintro _ _ ⟨x,rfl,rfl⟩ cdv A outer s H E b
 exact aW (i7 (eK .int b (aa 0)) λh=>(kH (wL (eK .bool b (aa 0))))) rfl
theorem gD (F:Fun K "common_divisor" qual (top 9) f fd) (hb:∀ x ∈ aB,mg x=none):a6 P w K mg base CX0 (k + 1) f fd ["one","other"] (spD K a9):=by
 refine fnD F cY hb (by rintro _ _ ⟨_,_,rfl,_⟩; rfl) ?_
 rintro _ _ ⟨x,y,rfl,rfl⟩ cdv A outer s H E b
 have nd:=cY.nd
 refine aO 2 nd (bx b (ae (aa 0) ag) mE) (aO 3 nd (bx b (ae (aa 1) ag) mE) ?_)
 rw [gX,gX]
 refine px (λn t τ=>∃ (g:Nat) (s4:Sl),Nat.gcd g n=Int.gcd x y/\t=(!decide ((n:Int)=0))/\τ=[.d (.int x),.d (.int y),.d (.int g),.d (.int n),s4]) b ⟨_,_,_,_,rfl,rfl,rfl⟩ (λn t τ h=>?_) (λn τ h=>?_) λn τ h=>?_
 · obtain ⟨g,s4,_,rfl,rfl⟩:=h
   exact bg (aa 3) af qZ
 · obtain ⟨g,s4,hg,ht,rfl⟩:=h
   have hl:n ≠ 0:=λz=>by simp [z] at ht
   have e:(g:Int).fmod n=((g % n:Nat):Int):=by rw [Int.fmod_eq_emod_of_nonneg _ (by omega)]; rfl
   refine aO 4 nd (aJ (aa 2) (aa 3) (cg (by omega))) ?_
   rw [e]
   refine aO 2 nd (aa 3) (aO 3 nd (aa 4) (ba ⟨g % n,_,Nat.mod_lt g (Nat.pos_of_ne_zero hl),n,_,?_,rfl,rfl⟩))
   rw [<- hg,Nat.gcd_comm n,<- Nat.gcd_rec,Nat.gcd_comm]
 · obtain ⟨g,s4,hg,ht,rfl⟩:=h
   have hl:n=0:=by simpa using ht
   refine aW (aa 2) ?_
   rw [<- hg,hl,Nat.gcd_zero_right]
theorem jo (F:Fun K "is_fraction" qual (top 8) f fd) (hb:∀ x ∈ aB,mg x=none) (c_is_whole:Cal P w K mg base k "is_whole" gq) (c_common_divisor:Cal P w K mg base k "common_divisor" a9):a6 P w K mg base CX0 (k + 1) f fd ["thing"] (spD K dk):=by
 refine fnD F jg hb (by rintro _ _ ⟨_,rfl,_⟩; rfl) ?_
 rintro _ _ ⟨x,rfl,rfl⟩ cdv A outer s H E b
 by_cases ht:jX .tuple x=true
 · obtain ⟨xs,rfl⟩:∃ xs,x=.tup xs:=by cases x <;> first | exact ⟨_,rfl⟩ | cases ht
   refine fT (PW.pt (fP (b5 (b7 (eK .tuple b (aa 0)))) λh=>(fX (bg (bx b (ae (aa 0) ag) gc) af qZ)))) (λh=>?_) λh=>?_
   · refine aW vc ?_
     have h:(!decide ((xs.length:Int)=2))=true:=h
     have:xs.length ≠ 2:=λz=>by rw [z] at h; cases h
     rw [tO this]
   · have h:(!decide ((xs.length:Int)=2))=false:=h
     have h2:xs.length=2:=by simp at h; omega
     obtain ⟨u,v,rfl⟩:∃ u v,xs=[u,v]:=by
       match xs,h2 with
       | [u,v],_=>exact ⟨u,v,rfl⟩
     refine fT (PW.pt (fP (b5 (b7 (x_call b c_is_whole (ae (aL (aa 0) af (aM (aF (i:=0) rfl))) ag) ⟨_,rfl,rfl⟩))) λh=>(fX (b5 (b7 (x_call b c_is_whole (ae (aL (aa 0) af (aM (aF (i:=1) rfl))) ag) ⟨_,rfl,rfl⟩)))))) (λh=>?_) λh=>?_
     · refine aW vc ?_
       have:qI (.tup [u,v])=false:=by cases u <;> cases v <;> first | rfl | cases h
       rw [this]
     · obtain ⟨i,j,rfl,rfl⟩:∃ i j,u=.int i/\v=.int j:=by cases u <;> cases v <;> first | exact ⟨_,_,rfl,rfl⟩ | cases h
       exact aW (i7 (gP (aL (aa 0) af (aM (aF (i:=1) rfl))) af yE) λh=>(kH (gP (x_call b c_common_divisor (ae (aL (aa 0) af (aM (aF (i:=0) rfl))) (ae (aL (aa 0) af (aM (aF (i:=1) rfl))) ag)) ⟨_,_,rfl,rfl⟩) af lW))) rfl
 · have e:jX .tuple x=false:=by simpa using ht
   have ef:qI x=false:=by cases x <;> first | rfl | cases e
   refine fT (PW.pt (fP (q:=true) (b5 (b7 (eK .tuple b (aa 0)))) λh=>(by rw [e] at h; cases h))) (λh=>?_) λh=>?_
   · refine aW vc ?_
     rw [ef]
   · rw [Bool.or_true] at h; cases h
theorem gi (F:Fun K "in_lowest_terms" qual (top 10) f fd) (hb:∀ x ∈ aB,mg x=none) (pyl:Pyl P base) (hk:33<=k) (c_common_divisor:Cal P w K mg base k "common_divisor" a9):a6 P w K mg base CX0 (k + 1) f fd ["top","bottom"] (spD K b8):=by
 refine fnD F cN hb (by rintro _ _ ⟨_,_,_,rfl,_⟩; rfl) ?_
 rintro _ _ ⟨t,c,q,rfl,h0,h1,hq,rfl⟩ cdv A outer s H E b
 have nd:=cN.nd
 refine aO 2 nd (x_call b c_common_divisor (ae (aa 0) (ae (aa 1) ag)) ⟨_,_,rfl,rfl⟩) ?_
 have g0:=dZ (i:=t) h0
 have gb:=h1.gcd (i:=t) h0
 refine lx (M:=λτ=>τ=[.d (.int t),.d (.int c),.d (.int (if c < 0 then -(Int.gcd t c:Int) else (Int.gcd t c:Int)))]) (bg (aa 1) af vz) (λh=>?_) (λh=>?_) λτ h=>?_
 · rw [if_pos (of_decide_eq_true h)]
   exact aO 2 nd (kx (aa 2)) (ba rfl)
 · rw [if_neg (of_decide_eq_false h)]
   exact ba rfl
 subst h
 have dv:(if c < 0 then -(Int.gcd t c:Int) else (Int.gcd t c:Int)) ≠ 0:=by split <;> omega
 refine aW (bQ (ae (aJ (aa 0) (aa 2) (bR pyl b hk dv)) (ae (aJ (aa 1) (aa 2) (bR pyl b hk dv)) ag))) ?_
 by_cases hc:c < 0
 · have hq':((-t:Int):Rat)=q * ((-c:Int):Rat):=by rw [Rat.intCast_neg,Rat.intCast_neg,hq,Rat.mul_neg]
   obtain ⟨e1,e2⟩:=bI (by omega) hq'
   rw [Int.neg_gcd,Int.gcd_neg] at e1 e2
   rw [if_pos hc,frD,e1,e2,<- a8 (-t),<- a8 (-c),<- Int.neg_fdiv_neg (-t),<- Int.neg_fdiv_neg (-c),Int.neg_neg,Int.neg_neg]
 · obtain ⟨e1,e2⟩:=bI (by omega) hq
   rw [if_neg hc,frD,e1,e2,a8,a8]
theorem ir (F:Fun K "is_short_list" qual (top 17) f fd) (hb:∀ x ∈ aB,mg x=none) (y_MOST:∃ t,mg "MOST" = some (.int 7 t)):a6 P w K mg base CX0 (k + 1) f fd ["thing"] (spD K bW):=by
 refine fnD F hW hb (by rintro _ _ ⟨_,rfl,_⟩; rfl) ?_
 rintro _ _ ⟨xs,rfl,rfl⟩ cdv A outer s H E b
 exact aW (i7 (eK .list b (aa 0)) λh=>(kH (pM af (bx b (ae (aa 0) ag) iM) (x9 y_MOST) yq yq).1)) rfl
end
noncomputable def rwQ (r:List Rat):D:=.lst (r.map frD)
noncomputable def tbQ (M:List (List Rat)):D:=.lst (M.map rwQ)
structure Tq (R C:Nat) (M:List (List Rat)):Prop where
 r1:1<=R
 r7:R<=7
 c1:1<=C
 c7:C<=7
 len:M.length=R
 row:∀ r ∈ M,r.length=C
theorem fS {α:Type} {f:α->D} {xs:List α} (d:α):∀ i (h:i < (xs.map f).length),(xs.map f)[i]=f (xs.getD i d):=λi h=>by
 have:i < xs.length:=by simpa using h
 simp [this]
theorem gh {α:Type} {f:α->D} {xs:List α} (d:α) {i:Nat} (h:i < xs.length):atI (xs.map f) (i:Int)=some (f (xs.getD i d)):=aF (by simp [h])
theorem eF {α:Type} {xs:List α} {d:α} {i:Nat} (h:i < xs.length):xs.getD i d ∈ xs:=by simp [h]
theorem Tq.at_ {R C:Nat} {M:List (List Rat)} (h:Tq R C M) {i:Nat} (hi:i < R):(M.getD i []).length=C:=h.row _ (eF (by rw [h.len]; exact hi))
theorem uc (n:Nat) (f:Nat->Bool) (h:∀ i,i < n->f i=true):((List.range n).map f).all id=true:=by
 rw [List.all_map,List.all_eq_true]
 intro i hi
 exact h i (List.mem_range.mp hi)
structure Qs (d v:Nat) (q:Rat):Prop where
 den:Bd d (q.den:Nat)
 val:q.num.natAbs<=2 ^ v * q.den
theorem tS {X:Cx} {xs:List D} {n:Nat} (h:xs.length=n):hX X (.builtin "len") [.lst xs] (.d (.int n)):=h ▸ iM
theorem gK {α:Type} (f:α->D) (xs:List α) (d:α) {m:Nat} (h:m=xs.length):(List.range m).map (λi=>f (xs.getD i d))=xs.map f:=by
 subst h
 refine List.ext_getElem (by simp) λi h1 h2=>?_
 have:i < xs.length:=by simpa using h2
 simp [this]
noncomputable def jm (ds:List D) (r:Sl):Prop:=∃ q:List Rat,ds=[rwQ q]/\1<=q.length/\q.length<=7/\r=.d (.bl true)
noncomputable def gf (ds:List D) (r:Sl):Prop:=∃ (R C:Nat) (M:List (List Rat)),ds=[tbQ M]/\Tq R C M/\r=.d (.bl true)
noncomputable def eC (ds:List D) (r:Sl):Prop:=∃ (R C:Nat) (M:List (List Rat)),ds=[tbQ M]/\Tq R C M/\r=.d .non
section
variable {P:Program} {w:World} {K:PySem.W.Frag} {mg:Str->Option Value} {base:Heap} {k:Nat} {f:Addr} {fd:FuncData} {qual:Str}
theorem qL (F:Fun K "is_row" qual (top 18) f fd) (hb:∀ x ∈ aB,mg x=none) (c_is_short_list:Cal P w K mg base k "is_short_list" bW) (c_is_fraction:Cal P w K mg base k "is_fraction" dk):a6 P w K mg base CX0 (k + 1) f fd ["thing"] (spD K jm):=by
 refine fnD F rj hb (by rintro _ _ ⟨_,rfl,_⟩; rfl) ?_
 rintro _ _ ⟨q,rfl,h1,h7,rfl⟩ cdv A outer s H E b
 refine aW (i7 (x_call b c_is_short_list (ae (aa 0) ag) ⟨_,rfl,rfl⟩) λh=>(kH (bx b (ae (bJ (eP (cmp 0 (f:=λ_=>.bl true) b (bU (aa 0)) (fS (f:=frD) (xs:=q) 0) (by rw [List.length_map]; omega) λi hi s0 H0 fp=>(x_call (b.comp s0 H0 _ fp) c_is_fraction (ae (aa 0) ag) ⟨_,rfl,by rw [vS]⟩)))) ag) (me b.calm ((List.range (q.map frD).length).map λ_=>true) (by rw [List.map_map]; rfl))))) ?_
 rw [List.length_map,decide_eq_true (by omega),decide_eq_true (by omega),uc _ _ λ_ _=>rfl]
 rfl
theorem m5 (F:Fun K "is_table" qual (top 19) f fd) (hb:∀ x ∈ aB,mg x=none) (c_is_short_list:Cal P w K mg base k "is_short_list" bW) (c_is_row:Cal P w K mg base k "is_row" jm):a6 P w K mg base CX0 (k + 1) f fd ["thing"] (spD K gf):=by
 refine fnD F mG hb (by rintro _ _ ⟨_,_,_,rfl,_⟩; rfl) ?_
 rintro _ _ ⟨R,C,M,rfl,t,rfl⟩ cdv A outer s H E b
 have hl:(M.map rwQ).length=R:=by rw [List.length_map,t.len]
 have r1:=t.r1
 have r7:=t.r7
 have c1:=t.c1
 have c7:=t.c7
 refine dC (PW.pt (fP (b5 (b7 (x_call b c_is_short_list (ae (aa 0) ag) ⟨_,rfl,rfl⟩))) λh=>(fX (b5 (b7 (bx b (ae (bJ (eP (cmp 0 (f:=λ_=>.bl true) b (bU (aa 0)) (fS (f:=rwQ) (xs:=M) []) (by rw [hl]; omega) λi hi s0 H0 fp=>(x_call (b.comp s0 H0 _ fp) c_is_row (ae (aa 0) ag) ⟨_,rfl,?_,?_,rfl⟩)))) ag) (me b.calm ((List.range (M.map rwQ).length).map λ_=>true) (by rw [List.map_map]; rfl)))))))) ?_ ?_
 · rw [t.at_ (by rw [hl] at hi; exact hi)]; exact c1
 · rw [t.at_ (by rw [hl] at hi; exact hi)]; exact c7
 · rw [hl,decide_eq_true (by omega),decide_eq_true (by omega),uc _ _ λ_ _=>rfl]; rfl
 have e0:atI (M.map rwQ) 0=some (rwQ (M.getD 0 [])):=gh [] (i:=0) (by rw [t.len]; omega)
 refine aW (bx b (ae (bJ (eP (cmp 0 (f:=λ_=>.bl (decide ((C:Int)=(C:Int)))) b (bU (aa 0)) (fS (f:=rwQ) (xs:=M) []) (by rw [hl]; omega) λi hi s0 H0 fp=>(gP (bx (b.comp s0 H0 _ fp) (ae (aa 0) ag) (tS (n:=C) (by rw [List.length_map]; exact t.at_ (by rw [hl] at hi; exact hi)))) (bx (b.comp s0 H0 _ fp) (ae (aL (aa 1) af (bb e0)) ag) (tS (n:=C) (by rw [List.length_map]; exact t.at_ (by omega)))) lW)))) ag) (me b.calm ((List.range (M.map rwQ).length).map λ_=>decide ((C:Int)=(C:Int))) (by rw [List.map_map]; rfl))) ?_
 rw [uc _ _ λ_ _=>decide_eq_true rfl]
theorem jS (F:Fun K "look_table" qual (top 20) f fd) (hb:∀ x ∈ aB,mg x=none) (c_is_table:Cal P w K mg base k "is_table" gf):a6 P w K mg base CX0 (k + 1) f fd ["thing"] (spD K eC):=by
 refine fnD F ka hb (by rintro _ _ ⟨_,_,_,rfl,_⟩; rfl) ?_
 rintro _ _ ⟨R,C,M,rfl,t,rfl⟩ cdv A outer s H E b
 exact dC (b5 (b7 (x_call b c_is_table (ae (aa 0) ag) ⟨R,C,M,rfl,t,rfl⟩))) rfl (ba rfl)
end
noncomputable def sg (x y:Rat):Int:=(Int.gcd (x.den:Nat) (y.den:Nat):Int)
noncomputable def stop (x y:Rat):Int:=x.num * (((y.den:Nat):Int) / sg x y) + y.num * (((x.den:Nat):Int) / sg x y)
noncomputable def sdiv (x y:Rat):Int:=(Int.gcd (stop x y) (sg x y):Int)
theorem Ai {t:Int} {d g:Nat} {h1 h2 h3 h4}:(Rat.maybeNormalize t d g h1 h2 h3 h4).num=t / (g:Int)/\(Rat.maybeNormalize t d g h1 h2 h3 h4).den=d / g:=by
 unfold Rat.maybeNormalize
 split
 · rename_i e
   subst e
   exact ⟨(Int.ediv_one _).symm,(Nat.div_one _).symm⟩
 · exact ⟨rfl,rfl⟩
theorem y7 (x y:Rat):(x + y).num=stop x y / sdiv x y/\(((x + y).den:Nat):Int)=((x.den:Nat):Int) / sg x y * (((y.den:Nat):Int) / sdiv x y):=by
 have hg:sg x y=((x.den.gcd y.den:Nat):Int):=rfl
 show (Rat.add x y).num=_/\(((Rat.add x y).den:Nat):Int)=_
 unfold Rat.add
 by_cases h:x.den.gcd y.den=1
 · simp only [dif_pos h]
   have e1:sg x y=1:=by rw [hg,h]; rfl
   have e2:sdiv x y=1:=by unfold sdiv; rw [e1,Int.gcd_one_right]; rfl
   unfold stop
   rw [e2,e1,Int.ediv_one,Int.ediv_one,Int.ediv_one]
   exact ⟨rfl,Int.natCast_mul _ _⟩
 · simp only [dif_neg h]
   have d:sdiv x y=(((stop x y).natAbs.gcd (x.den.gcd y.den):Nat):Int):=rfl
   have dd:(stop x y).natAbs.gcd (x.den.gcd y.den) ∣ y.den:=Nat.dvd_trans (Nat.gcd_dvd_right _ _) (Nat.gcd_dvd_right _ _)
   refine ⟨Ai.1,?_⟩
   rw [Ai.2,d]
   show ((x.den / x.den.gcd y.den * y.den / (stop x y).natAbs.gcd (x.den.gcd y.den):Nat):Int)=((x.den / x.den.gcd y.den:Nat):Int) * ((y.den / (stop x y).natAbs.gcd (x.den.gcd y.den):Nat):Int)
   rw [Nat.mul_div_assoc _ dd,Int.natCast_mul]
theorem yt (x y:Rat):(x * y).num=x.num / (Int.gcd x.num (y.den:Nat):Int) * (y.num / (Int.gcd y.num (x.den:Nat):Int))/\(((x * y).den:Nat):Int)=((x.den:Nat):Int) / (Int.gcd y.num (x.den:Nat):Int) * (((y.den:Nat):Int) / (Int.gcd x.num (y.den:Nat):Int)):=by
 show (Rat.mul x y).num=_/\(((Rat.mul x y).den:Nat):Int)=_
 unfold Rat.mul
 exact ⟨rfl,rfl⟩
theorem inv_mul {q:Rat} (h0:q ≠ 0):((((q.den:Nat):Int)):Rat)=q⁻¹ * (q.num:Rat):=by
 rw [<- cH q,<- Rat.mul_assoc,Rat.inv_mul_cancel q h0,Rat.one_mul]
theorem Sq.inv {n:Nat} {q:Rat} (h:Sq n q) (h0:q ≠ 0):Sq n q⁻¹:=by
 have hn:q.num ≠ 0:=λz=>h0 (Rat.num_eq_zero.mp z)
 have e:=inv_mul h0
 rcases Int.lt_or_lt_of_ne hn with z | z
 · exact Sq.bI (t:=-((q.den:Nat):Int)) (b:=-q.num) (by omega) (by rw [Rat.intCast_neg,Rat.intCast_neg,e,Rat.mul_neg]) h.den.neg h.num.neg
 · exact Sq.bI z e h.den h.num
theorem sF (p q:Rat):((p.num * ((q.den:Nat):Int) + q.num * ((p.den:Nat):Int):Int):Rat)=(p + q) * (((p.den:Nat):Int) * ((q.den:Nat):Int):Int):=by
 rw [Rat.intCast_add,Rat.intCast_mul,Rat.intCast_mul,Rat.intCast_mul,<- cH p,<- cH q]
 grind
theorem Sq.neg {n:Nat} {q:Rat} (h:Sq n q):Sq n (-q):=⟨h.num.neg,h.den⟩
theorem yF (q:Rat):frD (-q)=.tup [.int (-q.num),.int (q.den:Nat)]:=by
 unfold frD
 rw [show (-q).num=-q.num from rfl,show (-q).den=q.den from rfl]
theorem mC (p q:Rat):((p.num * q.num:Int):Rat)=p * q * (((p.den:Nat):Int) * ((q.den:Nat):Int):Int):=by
 rw [Rat.intCast_mul,Rat.intCast_mul,<- cH p,<- cH q]
 grind
theorem lA {a b:Int} (h:0 < a) (g:0 < b):0 < a * b:=Int.mul_pos h g
theorem Sq.mul {m n:Nat} {p q:Rat} (h:Sq m p) (g:Sq n q):Sq (m + n) (p * q):=Sq.bI (lA (den_pos p) (den_pos q)) (mC p q) (h.num.mul g.num) (h.den.mul g.den)
noncomputable def jz (ds:List D) (r:Sl):Prop:=∃ (m n:Nat) (p q:Rat),ds=[frD p,frD q]/\Sq m p/\Sq n q/\m + n<=900000/\r=.d (frD (p + q))
noncomputable def iE (ds:List D) (r:Sl):Prop:=∃ (m n:Nat) (p q:Rat),ds=[frD p,frD q]/\Sq m p/\Sq n q/\m + n<=900000/\r=.d (frD (p - q))
noncomputable def cG (ds:List D) (r:Sl):Prop:=∃ (m n:Nat) (p q:Rat),ds=[frD p,frD q]/\Sq m p/\Sq n q/\m + n<=900000/\r=.d (frD (p * q))
noncomputable def df (ds:List D) (r:Sl):Prop:=∃ (m n:Nat) (p q:Rat),ds=[frD p,frD q]/\q ≠ 0/\Sq m p/\Sq n q/\m + n<=900000/\r=.d (frD (p / q))
section
variable {P:Program} {w:World} {K:PySem.W.Frag} {mg:Str->Option Value} {base:Heap} {k:Nat} {f:Addr} {fd:FuncData} {qual:Str}
theorem qT (F:Fun K "sum_of" qual (top 11) f fd) (hb:∀ x ∈ aB,mg x=none) (pyl:Pyl P base) (hk:33<=k) (c_common_divisor:Cal P w K mg base k "common_divisor" a9):a6 P w K mg base CX0 (k + 1) f fd ["one","other"] (spD K jz):=by
 refine fnD F kD hb (by rintro _ _ ⟨_,_,_,_,rfl,_⟩; rfl) ?_
 rintro _ _ ⟨m,n,p,q,rfl,h1,h2,hl,rfl⟩ cdv A outer s H E b
 have nd:=kD.nd
 have hq:=den_pos q
 have hp:=den_pos p
 have s0:sg p q ≠ 0:=dZ (by omega)
 have sb:Bd n (sg p q):=h2.den.gcd (by omega)
 have g0:sdiv p q ≠ 0:=dZ s0
 have gb:Bd n (sdiv p q):=sb.gcd s0
 have fd1:∀ t:Int,t.fdiv (sg p q)=t / sg p q:=λt=>a8 t
 have fd2:∀ t:Int,t.fdiv (sdiv p q)=t / sdiv p q:=λt=>a8 t
 refine aO 2 nd (x_call b c_common_divisor (ae (aL (aa 0) af (aM (aF (i:=1) rfl))) (ae (aL (aa 1) af (aM (aF (i:=1) rfl))) ag)) ⟨_,_,rfl,rfl⟩) ?_
 show PSs _ _ (dS K [_,_,.d (.int (sg p q)),_,_] _)
 have e3:p.num * ((q.den:Nat):Int).fdiv (sg p q) + q.num * ((p.den:Nat):Int).fdiv (sg p q)=stop p q:=by rw [fd1,fd1]; rfl
 refine aO 3 nd (aJ (aJ (aL (aa 0) af (aM (aF (i:=0) rfl))) (aJ (aL (aa 1) af (aM (aF (i:=1) rfl))) (aa 2) (bR pyl b hk s0)) (bA (by rw [fd1]; exact h1.num.aI (h2.den.ediv _) (by omega) (by omega)))) (aJ (aL (aa 1) af (aM (aF (i:=0) rfl))) (aJ (aL (aa 0) af (aM (aF (i:=1) rfl))) (aa 2) (bR pyl b hk s0)) (bA (by rw [fd1]; exact h2.num.aI (h1.den.ediv _) (by omega) (by omega)))) bC) ?_
 rw [e3]
 refine aO 4 nd (x_call b c_common_divisor (ae (aa 3) (ae (aa 2) ag)) ⟨_,_,rfl,rfl⟩) ?_
 show PSs _ _ (dS K [_,_,_,_,.d (.int (sdiv p q))] _)
 obtain ⟨q1,q2⟩:=y7 p q
 refine aW (bQ (ae (aJ (aa 3) (aa 4) (bR pyl b hk g0)) (ae (aJ (aJ (aL (aa 0) af (aM (aF (i:=1) rfl))) (aa 2) (bR pyl b hk s0)) (aJ (aL (aa 1) af (aM (aF (i:=1) rfl))) (aa 4) (bR pyl b hk g0)) (bA (by rw [fd1,fd2]; exact (h1.den.ediv _).aI (h2.den.ediv _) (by omega) (by omega)))) ag))) ?_
 rw [fd1,fd2,fd2,<- q1,<- q2]
 rfl
theorem nv (F:Fun K "rest_of" qual (top 12) f fd) (hb:∀ x ∈ aB,mg x=none) (c_sum_of:Cal P w K mg base k "sum_of" jz):a6 P w K mg base CX0 (k + 1) f fd ["one","other"] (spD K iE):=by
 refine fnD F nW hb (by rintro _ _ ⟨_,_,_,_,rfl,_⟩; rfl) ?_
 rintro _ _ ⟨m,n,p,q,rfl,h1,h2,hl,rfl⟩ cdv A outer s H E b
 exact aW (x_call b c_sum_of (ae (aa 0) (ae (bQ (ae (kx (aL (aa 1) af (aM (aF (i:=0) rfl)))) (ae (aL (aa 1) af (aM (aF (i:=1) rfl))) ag))) ag)) ⟨m,n,p,-q,by rw [yF],h1,h2.neg,hl,by rw [Rat.sub_eq_add_neg]⟩) rfl
theorem j8 (F:Fun K "product_of" qual (top 13) f fd) (hb:∀ x ∈ aB,mg x=none) (pyl:Pyl P base) (hk:33<=k) (c_common_divisor:Cal P w K mg base k "common_divisor" a9):a6 P w K mg base CX0 (k + 1) f fd ["one","other"] (spD K cG):=by
 refine fnD F fQ hb (by rintro _ _ ⟨_,_,_,_,rfl,_⟩; rfl) ?_
 rintro _ _ ⟨m,n,p,q,rfl,h1,h2,hl,rfl⟩ cdv A outer s H E b
 have nd:=fQ.nd
 have hq:=den_pos q
 have hp:=den_pos p
 have n1:(Int.gcd p.num (q.den:Nat):Int) ≠ 0:=dZ (by omega)
 have n2:(Int.gcd q.num (p.den:Nat):Int) ≠ 0:=dZ (by omega)
 obtain ⟨q1,q2⟩:=yt p q
 refine aO 2 nd (x_call b c_common_divisor (ae (aL (aa 0) af (aM (aF (i:=0) rfl))) (ae (aL (aa 1) af (aM (aF (i:=1) rfl))) ag)) ⟨_,_,rfl,rfl⟩) ?_
 refine aO 3 nd (x_call b c_common_divisor (ae (aL (aa 1) af (aM (aF (i:=0) rfl))) (ae (aL (aa 0) af (aM (aF (i:=1) rfl))) ag)) ⟨_,_,rfl,rfl⟩) ?_
 refine aW (bQ (ae (aJ (aJ (aL (aa 0) af (aM (aF (i:=0) rfl))) (aa 2) (bR pyl b hk n1)) (aJ (aL (aa 1) af (aM (aF (i:=0) rfl))) (aa 3) (bR pyl b hk n2)) (bA (by rw [a8,a8]; exact (h1.num.ediv _).aI (h2.num.ediv _) (by omega) (by omega)))) (ae (aJ (aJ (aL (aa 0) af (aM (aF (i:=1) rfl))) (aa 3) (bR pyl b hk n2)) (aJ (aL (aa 1) af (aM (aF (i:=1) rfl))) (aa 2) (bR pyl b hk n1)) (bA (by rw [a8,a8]; exact (h1.den.ediv _).aI (h2.den.ediv _) (by omega) (by omega)))) ag))) ?_
 rw [a8,a8,a8,a8,<- q1,<- q2]
 rfl
theorem jh (F:Fun K "quotient_of" qual (top 14) f fd) (hb:∀ x ∈ aB,mg x=none) (c_product_of:Cal P w K mg base k "product_of" cG) (c_in_lowest_terms:Cal P w K mg base k "in_lowest_terms" b8):a6 P w K mg base CX0 (k + 1) f fd ["one","other"] (spD K df):=by
 refine fnD F jl hb (by rintro _ _ ⟨_,_,_,_,rfl,_⟩; rfl) ?_
 rintro _ _ ⟨m,n,p,q,rfl,h0,h1,h2,hl,rfl⟩ cdv A outer s H E b
 have hn:q.num ≠ 0:=λz=>h0 (Rat.num_eq_zero.mp z)
 refine dC (bg (aL (aa 1) af (aM (aF (i:=0) rfl))) af lW) (decide_eq_false hn) ?_
 exact aW (x_call b c_product_of (ae (aa 0) (ae (x_call b c_in_lowest_terms (ae (aL (aa 1) af (aM (aF (i:=1) rfl))) (ae (aL (aa 1) af (aM (aF (i:=0) rfl))) ag)) ⟨_,_,q⁻¹,rfl,hn,h2.num.mono (by omega),inv_mul h0,rfl⟩) ag)) ⟨m,n,p,q⁻¹,rfl,h1,h2.inv h0,hl,by rw [Rat.div_def]⟩) rfl
end
end K31
namespace Hy
open PySem PySem.Spec PyProof.Rows L2
open Ev (D Den av aq aX aP)
noncomputable def Pj (σ:L2.St) (H:Hp) (i j k:Nat):Prop:=∃ a vs v,(σ[i]?).join=some (.ref a)/\H a=some (.lst vs)/\vs[k]?=some v/\σ[j]?=some (some v)
noncomputable def dEJ (K:PySem.W.Frag) (τ:List Sl) (i j k:Nat) (x:D):TE:=λσ H Q=>∃ A H₀ B,Sta K A H₀ τ B σ H/\Pj σ H i j k/\∀ v H',ao H H'->Den K (hd H' A) v x->Q v H'
section
variable {X:Cx} {τ τ1 τ2:List Sl} {x y z:D} {a b e o ix:Expr} {es:List Expr} {pos p q:Pos} {l:Nat} {s:Sl} {N:Po} {st:Stmt} {body rest:List Stmt} {i j k:Nat} {t c:Nd} {pt:List Nat} {xs:List Nd} {m:Nat} {ds:List D}
end
section
variable {X:Cx} {τ τ1 τ2:List Sl} {x y z:D} {a b e o ix:Expr} {es:List Expr} {pos p q:Pos} {l:Nat} {s:Sl} {N:Po} {st:Stmt} {body rest:List Stmt} {i j k:Nat} {t c:Nd} {pt:List Nat} {xs:List Nd} {m:Nat} {ds:List D}
theorem ej (h:PE X e (dE X.K false τ (.d x))):PE X e (dEJ X.K τ i j k x):=peW h λσ H Q ⟨A,H₀,B,S,_,q⟩=>aY S λv H' e d=>q v H' e d
end
section
variable {X:Cx} {τ τ1 τ2:List Sl} {x y z:D} {a b e o ix:Expr} {pos p q:Pos} {l:Nat} {N:Po} {st:Stmt} {body rest:List Stmt} {i j k:Nat} {t c:Nd} {pt:List Nat} {ds:List D}
end
section
variable {K:PySem.W.Frag} {G H:Hp}
end
section
variable {X:Cx} {τ:List Sl} {ia ia2 ib ib2:Expr} {N:Po} {rest:List Stmt} {xs:List Nd} {xa xb:Nd}
end
section
variable {X:Cx} {τ:List Sl} {e2:Expr} {N:Po} {rest:List Stmt} {pos p tp:Pos} {x2:D} {t:Nd}
end
section
variable {P:Program} {w:World} {K:PySem.W.Frag} {mg:Str->Option Value} {base:Heap}
end
section
variable {X:Cx} {τ:List Sl} {es:List Expr} {pos p q pr:Pos} {k:Nat} {s:Sl} {ds:List D} {N:Po} {rest:List Stmt}
end
end Hy
namespace L2
open PySem PySem.Spec PyProof.Rows
end L2
namespace Hy
open PySem PySem.Spec PyProof.Rows L2
open Ev (D Den av aq aX aP aR gu dF PTs cJ eE)
section
variable {P:Program} {w:World} {K:PySem.W.Frag} {mg:Str->Option Value} {base:Heap}
end
section
variable {X:Cx} {τ:List Sl} {es:List Expr} {pos p q pr:Pos} {k:Nat} {s:Sl} {ds xs:List D} {N:Po} {rest:List Stmt} {elt it:Expr} {scope:Scope}
end
end Hy
namespace Hy
open PySem PySem.Spec PyProof.Rows L2
open Ev (D Den av aq)
section
variable {X:Cx} {C:Bool} {τ:List Sl} {x y z:D} {a b e c0 tg it elt:Expr} {es ifs:List Expr} {pos p q q':Pos} {k c:Nat} {cl:Nat->Addr} {xs:List D} {scope:Scope}
end
section
variable {P:Program} {w:World} {K:PySem.W.Frag} {mg:Str->Option Value} {base:Heap} {cl:Nat->Addr}
end
end Hy
namespace Hy
open PySem PySem.Spec PyProof.Rows L2
open Ev (D Den av cJ eE)
section
variable {X:Cx} {C:Bool} {τ:List Sl} {a e tg it elt:Expr} {es ifs:List Expr} {pos p:Pos} {Et:Hp->Prop} {scope:Scope}
end
end Hy
namespace Hy
open PySem PySem.Spec PyProof.Rows L2
open Ev (D Den av aq)
section
variable {X:Cx} {C:Bool} {τ:List Sl} {e o:Expr} {k c i:Nat} {N:Po} {rest body:List Stmt} {cl:Nat->Addr} {n:Str} {fw S:Addr} {p p' q psm pr ph pos pc pq:Pos} {t:Nd} {pt:List Nat} {xs:List Nd}
end
end Hy
namespace Lc
open PySem PySem.Spec PyProof.Rows L2
open PySem.AutoSeq1 (wpAny_loadPart')
open PySem.MeetsSeq PySem.MeetsSeq2 PySem.MeetsSeq3 PySem.SeqRoads2 PySem.SeqAt
open Ev (D Den av eqD cF toP)
section
variable {X:Cx} {pins:List (Addr × Obj)} {σ:L2.St} {H G:Hp} {s:Shared}
open Ev (cln dr dep eQ b6 fA gY iX)
theorem oT {K:PySem.W.Frag} {G:Hp}:∀ {vs:List V} {xs:List D} {us:List Value},av K G vs xs->Vals vs us->∀ {j:Nat} {x:D},xs[j]?=some x->∃ v u,us[j]?=some u/\Den K G v x/\RelV v u
 | _,_,_,.cons d r,.cons q qs,0,x,e=>by cases e; exact ⟨_,_,rfl,d,q⟩
 | _,_,_,.cons d r,.cons q qs,j + 1,x,e=>oT r qs (j:=j) e
 | _,_,_,.nil,.nil,_,_,e=>by cases e
theorem sL (I:Inv X pins σ H s) (e:ao G H) {A:Around} {v v':V} {x y:D} {u u':Value} (d:Den X.K G v x) (r:RelV v u) (d':Den X.K G v' y) (r':RelV v' u') (c1:cln x=true) (c2:cln y=true) (hu:A.units + dep x < cLine):EqAt A s u u' (eqD x y):=by
 obtain ⟨as,z1⟩:=b6 I e d r c1
 obtain ⟨bs,z2⟩:=b6 I e d' r' c2
 rw [<- fA]
 refine eqAt_reads _ _ A s u u' as bs z1 z2 (by rw [gY]; exact c1) (by rw [gY]; exact c2) ?_
 rw [iX]
 exact Nat.lt_of_le_of_lt (Nat.add_le_add_left (Nat.min_le_left _ _) _) hu
end
end Lc
namespace Hy
open PySem PySem.Spec PyProof.Rows L2
open Ev (D Den av cF)
end Hy
namespace Hy
open PySem PySem.Spec PyProof.Rows L2
open Ev (D Den av aq aX aP Ite xB k5)
section
variable {X:Cx} {τ:List Sl} {k:Nat} {N:Po} {rest ret:List Stmt} {c:Expr} {ns:List Nd} {xs:List D} {p q ip tp pos bp cp pb:Pos}
end
end Hy
namespace Hy
open PySem PySem.Spec PyProof.Rows L2
open Ev (D Den av aP eqD cF dr cln dep eQ)
section
variable {X:Cx} {k:Nat} {x:D} {xs:List D}
theorem vO (hu:X.A.units + 70 < cLine):OpR X (compareOp .NotIn) (λv y H Q=>∃ G d xs a,y=.ref a/\ao G H/\Den X.K G v d/\Den X.K G (.ref a) (.lst xs)/\cF d/\(∀ z ∈ xs,cF z)/\Q (.bl (!xs.any λz=>eqD z d)) H):=by
 classical
 intro pins s σ H v y u u' Q I rx ry ⟨G,d,xs,a,e0,sg,dx,dy,o1,o2,q⟩
 subst e0
 cases ry
 cases dy with
 | @lst _ vs _ hl r=>
   obtain ⟨its,rv,pl,hz⟩:=I.list (aP sg hl)
   have l1:=r.length
   have l2:=rv.length
   have i1:∀ A:Around,A.in1.units=A.units + 1:=λ_=>rfl
   have ev:∀ i (h:i < xs.length),∃ w,its[i]?=some w/\SeqAt.EqAt X.A.in1 s w u (eqD xs[i] d):=λi h=>by
     obtain ⟨v',w,e1,d1,r1⟩:=Lc.oT r rv (List.getElem?_eq_getElem h)
     have oz:=o2 _ (List.getElem_mem h)
     exact ⟨w,e1,Lc.sL I sg d1 r1 dx rx oz.1 o1.1 (by rw [i1]; have:=oz.2; omega)⟩
   let f:Value->Bool:=λw=>decide (∃ i,∃ h:i < xs.length,its[i]?=some w/\eqD xs[i] d=true)
   have an:its.toArray.any f=xs.any λz=>eqD z d:=by
     rw [Bool.eq_iff_iff]
     constructor
     · intro h
       obtain ⟨w,hw,h⟩:=List.any_eq_true.mp (by simpa using h)
       obtain ⟨i,hi,_,e⟩:=of_decide_eq_true h
       exact List.any_eq_true.mpr ⟨_,List.getElem_mem hi,e⟩
     · intro h
       obtain ⟨z,hz,e⟩:=List.any_eq_true.mp h
       obtain ⟨i,hi,rfl⟩:=List.getElem_of_mem hz
       obtain ⟨w,ew,_⟩:=ev i hi
       have:its.any f=true:=List.any_eq_true.mpr ⟨w,List.mem_of_getElem? ew,decide_eq_true ⟨i,hi,ew,e⟩⟩
       simpa using this
   refine SeqAt.notIn_listAt f pl.isList (λw hw=>?_) ⟨.bl _,H,I,rfl,?_⟩
   · have hw:w ∈ its:=by simpa using hw
     obtain ⟨i,hi,e⟩:=List.getElem_of_mem hw
     have hi':i < xs.length:=by omega
     have ei:its[i]?=some w:=by rw [List.getElem?_eq_getElem hi,e]
     by_cases c:∃ i,∃ h:i < xs.length,its[i]?=some w/\eqD xs[i] d=true
     · have:f w=true:=decide_eq_true c
       rw [this]
       obtain ⟨j,hj,ej,t⟩:=c
       obtain ⟨w',ew,q'⟩:=ev j hj
       rw [ej] at ew
       cases ew
       rw [t] at q'
       exact q'
     · have:f w=false:=decide_eq_false c
       rw [this]
       obtain ⟨w',ew,q'⟩:=ev i hi'
       rw [ei] at ew
       cases ew
       cases t:eqD xs[i] d with
       | true=>exact absurd ⟨i,hi',ei,t⟩ c
       | false=>rw [t] at q'; exact q'
   · rw [an]
     exact q
theorem yX (B:Bk X k) (h1:cF x) (h2:∀ z ∈ xs,cF z):cA X (compareOp .NotIn) x (.lst xs) (.bl (!xs.any λz=>eqD z x)):=⟨_,vO (by have:=B.room.un; omega),λM v w H Q _ d1 d2 q=>by
 cases d2 with
 | lst h r=>exact ⟨_,x,xs,_,rfl,aQ,d1,.lst h r,h1,h2,q _ H (ao.refl _) .bl⟩⟩
end
end Hy
namespace Hy
open PySem PySem.Spec PyProof.Rows L2
open Ev (D Den av aq aX aP)
noncomputable def par:D->Bool
 | .tup [x,y]=>flat x && flat y
 | _=>false
section
variable {K:PySem.W.Frag} {G H:Hp}
end
section
variable {X:Cx} {τ:List Sl} {e:Expr} {pos:Pos} {N:Po} {rest:List Stmt}
end
section
variable {K:PySem.W.Frag} {A:Addr->Prop} {H₀ H:Hp} {τ:List Sl} {B:Nat->List Addr} {σ:L2.St}
end
section
variable {X:Cx} {τ:List Sl} {N:Po} {rest:List Stmt} {xs:List Nd} {pos p p2:Pos} {s:Sl} {c:Nd}
end
end Hy
namespace Hy
open PySem PySem.Spec PyProof.Rows L2
open Ev (D Den av aI aN aq aX aP eqD cF dr cln dep eQ)
section
variable {X:Cx} {k:Nat} {x:D} {xs:List D}
end
section
variable {X:Cx} {C:Bool} {τ:List Sl} {x:D} {e o:Expr} {pos:Pos} {N:Po} {rest:List Stmt}
end
end Hy
namespace K31
open PySem PySem.Spec PyProof.Rows L2 Hy
open Ev (D Den av aI aN)
theorem wJ (xs:List D):m6 (xs.map .d)=xs:=by
 induction xs with
 | nil=>rfl
 | cons x xs ih=>rw [List.map_cons,m6,ndD,ih]
theorem oX {n m:Nat} (h:m < n):ixN n (m:Int)=some m:=by
 unfold ixN
 rw [if_pos (by omega),if_pos (by omega)]
 simp
noncomputable def mkT (R C:Nat) (G:Nat->Nat->Rat):List (List Rat):=(List.range R).map λi=>(List.range C).map (G i)
theorem cI (R C:Nat) (G:Nat->Nat->Rat):(mkT R C G).length=R:=by simp [mkT]
theorem gO {R C i:Nat} {G:Nat->Nat->Rat} (hi:i < R):(mkT R C G).getD i []=(List.range C).map (G i):=by simp [mkT,hi]
theorem uJ {R C i j:Nat} {G:Nat->Nat->Rat} (hi:i < R) (hj:j < C):((mkT R C G).getD i []).getD j 0=G i j:=by rw [gO hi]; simp [hj]
theorem qR {R C:Nat} {G H:Nat->Nat->Rat} (h:∀ i,i < R->∀ j,j < C->G i j=H i j):mkT R C G=mkT R C H:=by
 unfold mkT
 refine List.map_congr_left λi hi=>List.map_congr_left λj hj=>h i (List.mem_range.mp hi) j (List.mem_range.mp hj)
theorem lK {R C:Nat} {G:Nat->Nat->Rat} (r1:1<=R) (r7:R<=7) (c1:1<=C) (c7:C<=7):Tq R C (mkT R C G):=⟨r1,r7,c1,c7,cI R C G,λr hr=>by
 unfold mkT at hr
 obtain ⟨i,_,rfl⟩:=List.mem_map.mp hr
 simp⟩
theorem dh {n:Nat} {g:Nat->Nat->Rat}:((mkT n n g).map rwQ).length=n:=by rw [List.length_map,cI]
theorem gM {n i:Nat} {g:Nat->Nat->Rat} (hi:i < n):atI ((mkT n n g).map rwQ) (i:Int)=some (rwQ ((List.range n).map (g i))):=by
 have:=gh (f:=rwQ) (xs:=mkT n n g) [] (i:=i) (by rw [cI]; exact hi)
 rw [gO hi] at this
 exact this
theorem gw {n k:Nat} {f:Nat->Rat} (hk:k < n):atI (((List.range n).map f).map frD) (k:Int)=some (frD (f k)):=by
 have:=gh (f:=frD) (xs:=(List.range n).map f) 0 (i:=k) (by rw [List.length_map,List.length_range]; exact hk)
 have e:((List.range n).map f).getD k 0=f k:=by simp [hk]
 rw [e] at this
 exact this
theorem Bi {xs ys:List Rat} (i:Nat) (h:i < (fN (xs.map frD) (ys.map frD)).length):(fN (xs.map frD) (ys.map frD))[i]=.tup [frD (xs.getD i 0),frD (ys.getD i 0)]:=by
 rw [kO]
 rw [bO,List.length_map,List.length_map] at h
 simp [show i < xs.length by omega,show i < ys.length by omega]
theorem Sq.div {m:Nat} {x y:Rat} (hx:Sq m x) (hy:Sq m y) (h:y ≠ 0):Sq (m + m) (x / y):=by
 have n0:y.num ≠ 0:=λz=>h (Rat.num_eq_zero.mp z)
 have dx:=den_pos x
 have dy:=den_pos y
 have e:((x.num * (y.den:Nat):Int):Rat)=x / y * (((x.den:Nat) * y.num:Int):Rat):=by
   rw [Rat.intCast_mul,Rat.intCast_mul,<- cH x,<- cH y]
   generalize (((x.den:Nat):Int):Rat)=a
   generalize (((y.den:Nat):Int):Rat)=b
   have:x / y * y=x:=Rat.div_mul_cancel h
   generalize x / y=w at this ⊢
   grind
 have b1:Bd (m + m) (x.num * (y.den:Nat)):=hx.num.mul hy.den
 have b2:Bd (m + m) ((x.den:Nat) * y.num):=hx.den.mul hy.num
 rcases Int.lt_or_gt_of_ne n0 with neg | pos
 · refine Sq.bI (t:=-(x.num * (y.den:Nat))) (b:=-((x.den:Nat) * y.num)) ?_ ?_ ?_ ?_
   · have:=Int.mul_neg_of_pos_of_neg dx neg; omega
   · rw [Rat.intCast_neg,Rat.intCast_neg,e]; grind
   · unfold Bd at b1 ⊢; rw [Int.natAbs_neg]; exact b1
   · unfold Bd at b2 ⊢; rw [Int.natAbs_neg]; exact b2
 · exact Sq.bI (Int.mul_pos dx pos) e b1 b2
section
variable {P:Program} {w:World} {K:PySem.W.Frag} {mg:Str->Option Value} {base:Heap} {k:Nat} {f:Addr} {fd:FuncData} {qual:Str}
end
noncomputable abbrev Stp:=Str × Nat × Rat
noncomputable def stD (s:Stp):D:=.tup [.str s.1,.int (s.2.1:Nat),frD s.2.2]
noncomputable def okS (T:Nat) (s:Stp):Prop:=0<=s.2.2.num/\((s.1 = "weigh" /\ s.2.1 < T)\/((s.1 = "down" \/ s.1 = "up")/\s.2.1 + 1 < T))
noncomputable def rgS (s:Stp):Nat:=if s.1 = "down" then s.2.1 else s.2.1 + 1
noncomputable def rgE (s:Stp):Nat:=if s.1 = "down" then s.2.1 + 1 else s.2.1
noncomputable def eL (V:Nat->Nat->Rat) (n:Nat) (r:Nat->Rat):Nat->Nat->Rat:=λk=>if k=n then r else V k
noncomputable def V0 (k i:Nat):Rat:=if i=k then 1 else 0
noncomputable def bkV (L:Nat->Nat->Rat) (st:Stp):Nat->Nat->Rat:=if st.1 = "weigh" then eL L st.2.1 λi=>st.2.2 * L st.2.1 i else eL L (rgS st) λi=>L (rgS st) i + st.2.2 * L (rgE st) i
noncomputable def bwd (ss:List Stp):Nat->Nat->Rat:=ss.reverse.foldl bkV V0
section
variable {P:Program} {w:World} {K:PySem.W.Frag} {mg:Str->Option Value} {base:Heap} {k:Nat} {f:Addr} {fd:FuncData} {qual:Str}
end
noncomputable def act (ss:List Stp) (L:Nat->Nat->Rat):Nat->Nat->Rat:=ss.foldr (λst L=>bkV L st) L
theorem da (xs ys:List Stp) (L:Nat->Nat->Rat):act (xs++ys) L=act xs (act ys L):=by unfold act; rw [List.foldr_append]
theorem vA (ss:List Stp):bwd ss=act ss V0:=by unfold bwd act; rw [List.foldl_reverse]
noncomputable def Eqn (n:Nat) (A B:Nat->Nat->Rat):Prop:=∀ i,i < n->∀ j,j < n->A i j=B i j
theorem Eqn.refl {n:Nat} (A:Nat->Nat->Rat):Eqn n A A:=λ_ _ _ _=>rfl
theorem Eqn.symm {n:Nat} {A B:Nat->Nat->Rat} (h:Eqn n A B):Eqn n B A:=λi hi j hj=>(h i hi j hj).symm
theorem Eqn.trans {n:Nat} {A B C:Nat->Nat->Rat} (h:Eqn n A B) (g:Eqn n B C):Eqn n A C:=λi hi j hj=>(h i hi j hj).trans (g i hi j hj)
theorem Eqn.tr {n:Nat} {A B:Nat->Nat->Rat} (h:Eqn n A B):Eqn n (λi j=>A j i) λi j=>B j i:=λi hi j hj=>h j hj i hi
theorem x8 {n:Nat} {st:Stp} (h:okS n st):(st.1 = "weigh" -> st.2.1 < n)/\(st.1 ≠ "weigh" -> rgS st < n/\rgE st < n):=by
 rcases h.2 with ⟨e,z⟩ | ⟨e,z⟩
 · exact ⟨λ_=>z,λne=>absurd e ne⟩
 · refine ⟨λ_=>by omega,λ_=>?_⟩
   unfold rgS rgE
   split <;> omega
theorem vV {n:Nat} {st:Stp} {A B:Nat->Nat->Rat} (hs:okS n st) (h:Eqn n A B):Eqn n (bkV A st) (bkV B st):=λi hi j hj=>by
 obtain ⟨h1,h2⟩:=x8 hs
 unfold bkV eL
 by_cases e:st.1 = "weigh"
 · rw [if_pos e,if_pos e]
   show (if i=st.2.1 then _ else A i) j=(if i=st.2.1 then _ else B i) j
   split
   · show st.2.2 * A st.2.1 j=st.2.2 * B st.2.1 j
     rw [h _ (h1 e) j hj]
   · exact h i hi j hj
 · rw [if_neg e,if_neg e]
   show (if i=rgS st then _ else A i) j=(if i=rgS st then _ else B i) j
   split
   · show A (rgS st) j + st.2.2 * A (rgE st) j=B (rgS st) j + st.2.2 * B (rgE st) j
     rw [h _ (h2 e).1 j hj,h _ (h2 e).2 j hj]
   · exact h i hi j hj
theorem fG {n:Nat} {A B:Nat->Nat->Rat} (h:Eqn n A B):∀ ss:List Stp,(∀ st ∈ ss,okS n st)->Eqn n (act ss A) (act ss B)
 | [],_=>h
 | st :: ss,hs=>vV (hs st (List.mem_cons_self ..)) (fG h ss λs m=>hs s (List.mem_cons_of_mem _ m))
theorem xK (A:Nat->Nat->Rat) (s t:Stp):(λi j=>bkV (λp q=>bkV A s q p) t j i)=bkV (λi j=>bkV (λp q=>A q p) t j i) s:=by
 funext i j
 unfold bkV eL
 by_cases es:s.1 = "weigh" <;> by_cases et:t.1 = "weigh"
 · simp only [if_pos es,if_pos et]
   by_cases a:i=s.2.1 <;> by_cases b:j=t.2.1 <;> simp only [a,b,if_true,if_false] <;> grind
 · simp only [if_pos es,if_neg et]
   by_cases a:i=s.2.1 <;> by_cases b:j=rgS t <;> simp only [a,b,if_true,if_false] <;> grind
 · simp only [if_neg es,if_pos et]
   by_cases a:i=rgS s <;> by_cases b:j=t.2.1 <;> simp only [a,b,if_true,if_false] <;> grind
 · simp only [if_neg es,if_neg et]
   by_cases a:i=rgS s <;> by_cases b:j=rgS t <;> simp only [a,b,if_true,if_false] <;> grind
noncomputable def cW (ss:List Stp) (A:Nat->Nat->Rat):Nat->Nat->Rat:=λi j=>act ss (λp q=>A q p) j i
theorem kg (t:Stp) (ss:List Stp) (A:Nat->Nat->Rat):cW (t :: ss) A=λi j=>bkV (λp q=>cW ss A q p) t j i:=rfl
theorem oS (s:Stp) (A:Nat->Nat->Rat):∀ ss:List Stp,cW ss (bkV A s)=bkV (cW ss A) s
 | []=>rfl
 | t :: ss=>by
   rw [kg,kg,oS s A ss]
   exact xK (cW ss A) s t
theorem gW (xs ys:List Stp) (A:Nat->Nat->Rat):cW ys (act xs A)=act xs (cW ys A):=by
 induction xs with
 | nil=>rfl
 | cons s xs ih=>
   show cW ys (bkV (act xs A) s)=bkV (act xs (cW ys A)) s
   rw [oS,ih]
theorem mr (xs ys:List Stp) (A:Nat->Nat->Rat):cW (xs++ys) A=cW xs (cW ys A):=by
 unfold cW
 rw [da]
theorem jQ {n:Nat} {A B:Nat->Nat->Rat} (h:Eqn n A B) (ss:List Stp) (hs:∀ st ∈ ss,okS n st):Eqn n (cW ss A) (cW ss B):=λi hi j hj=>fG h.tr ss hs j hj i hi
noncomputable def trn (s:Stp):Stp:=if s.1 = "weigh" then s else (if s.1 = "down" then "up" else "down",s.2.1,s.2.2)
theorem yd (s:Stp) (h:s.1 = "weigh" \/ s.1 = "down" \/ s.1 = "up"):(λi j=>bkV V0 s j i)=bkV V0 (trn s):=by
 funext i j
 obtain ⟨u,k,w⟩:=s
 rcases h with h | h | h
 · have h:u = "weigh":=h
   subst h
   unfold trn bkV eL V0
   simp only [if_true]
   by_cases a:i=k <;> by_cases b:j=k <;> simp only [a,b,if_true,if_false] <;> grind
 · have h:u = "down":=h
   subst h
   have n1:¬ (("down" : Str) = "weigh"):=by decide
   have n2:¬ (("up" : Str) = "weigh"):=by decide
   have n3:¬ (("up" : Str) = "down"):=by decide
   unfold trn bkV eL V0 rgS rgE
   simp only [if_neg n1,if_neg n2,if_neg n3,if_true]
   by_cases a:i=k + 1 <;> by_cases b:j=k <;> simp only [a,b,if_true,if_false] <;> grind
 · have h:u = "up":=h
   subst h
   have n1:¬ (("down" : Str) = "weigh"):=by decide
   have n2:¬ (("up" : Str) = "weigh"):=by decide
   have n3:¬ (("up" : Str) = "down"):=by decide
   unfold trn bkV eL V0 rgS rgE
   simp only [if_neg n1,if_neg n2,if_neg n3,if_true]
   by_cases a:i=k <;> by_cases b:j=k + 1 <;> simp only [a,b,if_true,if_false] <;> grind
theorem Aj:(λi j=>V0 j i)=V0:=by
 funext i j
 unfold V0
 by_cases h:i=j
 · rw [if_pos h,if_pos h.symm]
 · rw [if_neg h,if_neg (Ne.symm h)]
theorem qf:∀ ss:List Stp,(∀ s ∈ ss,s.1 = "weigh" \/ s.1 = "down" \/ s.1 = "up")->cW ss V0=act (ss.reverse.map trn) V0
 | [],_=>rfl
 | t :: ss,h=>by
   have ih:=qf ss λs m=>h s (List.mem_cons_of_mem _ m)
   rw [List.reverse_cons,List.map_append,da]
   show cW (t :: ss) V0=act (ss.reverse.map trn) (bkV V0 (trn t))
   rw [<- yd t (h t (List.mem_cons_self ..))]
   have e:(λi j=>bkV V0 t j i)=cW [t] V0:=by
     show _=λi j=>bkV (λp q=>V0 q p) t j i
     rw [Aj]
   rw [e,<- gW,<- ih]
   exact mr [t] ss V0
section
variable {P:Program} {w:World} {K:PySem.W.Frag} {mg:Str->Option Value} {base:Heap} {k:Nat} {f:Addr} {fd:FuncData} {qual:Str}
end
section
variable {A:Nat->Nat->Rat} {k:Nat}
theorem ub (A:Nat->Nat->Rat) (c:Nat) (b:Nat->Rat):det k (aH A c b)=det k (aw (λr j=>A j r) c b):=by
 rw [<- cf]
 exact aD λi _ j _=>rfl
theorem uX {b:Nat->Rat}:∃ a:Nat->Rat,∀ p,p < k->aA (λc=>a c * A p c) k=det k A * b p:=by
 refine ⟨λi=>-bc (λr c=>if r < k then A c r else b c) k k i,λp hp=>?_⟩
 have e:=n8 (Y:=λr c=>if r < k then A c r else b c) (k:=k) (p:=k) (q:=p)
 rw [pP hp] at e
 have e1:det k (λr c=>if r < k then A c r else b c)=det k A:=by
   rw [<- cf k A]
   exact aD λi hi j hj=>if_pos hi
 rw [e1] at e
 have e2:aA (λc=>-bc (λr c=>if r < k then A c r else b c) k k c * A p c) k=-1 * aA (λi=>bc (λr c=>if r < k then A c r else b c) k k i * (if i < k then A p i else b p)) k:=by
   rw [aV]
   refine ar λc hc=>?_
   rw [if_pos hc]
   grind
 rw [e2]
 have e3:(if k < k then A p k else b p)=b p:=if_neg (Nat.lt_irrefl k)
 rw [e3] at e
 grind
theorem Bg {b:Nat->Rat} (h0:det k A ≠ 0) {p:Nat} (hp:p < k):aA (λc=>A p c * det k (aH A c b)) k=det k A * b p:=by
 obtain ⟨a,ha⟩:=uX (A:=A) (k:=k) (b:=b)
 have key:∀ c,c < k->det k (aH A c b)=a c:=λc hc=>by
   have e1:=(bN k).sum (λr j=>A j r) hc a (λc' j=>A j c') k
   have e2:det k (aw (λr j=>A j r) c λj=>aA (λc'=>a c' * A j c') k)=det k A * det k (aw (λr j=>A j r) c b):=by
     have:=lg (n:=k) (λr j=>A j r) hc (det k A) 0 b b
     rw [Rat.zero_mul,Rat.add_zero] at this
     rw [<- this]
     refine aD λi hi j hj=>?_
     unfold aw
     split
     · show aA (λc'=>a c' * A j c') k=_
       rw [ha j hj]
       grind
     · rfl
   have e3:aA (λc'=>a c' * det k (aw (λr j=>A j r) c λj=>A j c')) k=aA (λc'=>(a c' * det k A) * dq c' c) k:=ar λc' hc'=>by
     unfold dq
     by_cases z:c'=c
     · subst z
       rw [if_pos rfl,Rat.mul_one,show (λj=>A j c')=(λr j=>A j r) c' from rfl,bq,cf]
     · rw [if_neg z,Rat.mul_zero,(bN k).same (M:=aw (λr j=>A j r) c λj=>A j c') (p:=c) (q:=c') hc hc' (Ne.symm z) (by rw [bF,bG z]),Rat.mul_zero]
   rw [e2,e3,bE _ c k hc] at e1
   rw [ub]
   have:(det k (aw (λr j=>A j r) c b) - a c) * det k A=0:=by grind
   rcases Rat.mul_eq_zero.mp this with z | z
   · grind
   · exact absurd z h0
 rw [<- ha p hp]
 refine ar λc hc=>?_
 rw [key c hc,Rat.mul_comm]
end
theorem jd {f:Nat->Rat}:∀ k,0 < k->(∀ j,j < k->j ≠ 0->f j=0)->aA f k=f 0
 | 1,_,_=>by rw [aA,aA,Rat.zero_add]
 | k + 2,_,h=>by rw [aA,jd (k + 1) (by omega) λj hj=>h j (by omega),h (k + 1) (by omega) (by omega),Rat.add_zero]
theorem lL {f:Nat->Rat} {p:Nat} (hp:0 < p):∀ k,p < k->(∀ j,j < k->j ≠ 0->j ≠ p->f j=0)->aA f k=f 0 + f p
 | 0,h,_=>absurd h (Nat.not_lt_zero _)
 | k + 1,h,g=>by
   by_cases e:p=k
   · subst e
     rw [aA,jd p hp λj hj h0=>g j (by omega) h0 (by omega)]
   · rw [aA,lL hp k (by omega) λj hj=>g j (by omega),g k (by omega) (by omega) (by omega),Rat.add_zero]
theorem ko (M:Nat->Nat->Rat) (q:Nat) (v:Nat->Rat):(λi j=>aH M q v j i)=aw (λi j=>M j i) q v:=rfl
theorem rO {k q:Nat} (N:Nat->Nat->Rat) (hq:q < k) (v:Nat->Rat) (e:Nat->Nat->Rat) (m:Nat):det k (aH N q λr=>aA (λc=>v c * e c r) m)=aA (λc=>v c * det k (aH N q (e c))) m:=by
 rw [<- cf,ko,(bN k).sum _ hq]
 refine ar λc _=>?_
 rw [<- cf k (aH N q (e c)),ko]
section
variable {k p:Nat} {M:Nat->Nat->Rat}
noncomputable def dPP (k p:Nat) (M:Nat->Nat->Rat) (u w:Nat->Rat):Rat:=det k (aH (aH M 0 u) p w)
theorem bB {M:Nat->Nat->Rat} {q:Nat} {v:Nat->Rat} {r:Nat}:aH M q v r q=v r:=if_pos rfl
theorem a7 {M:Nat->Nat->Rat} {q c:Nat} {v:Nat->Rat} {r:Nat} (h:c ≠ q):aH M q v r c=M r c:=if_neg h
theorem kf {u u' w w':Nat->Rat} (hu:∀ r < k,u r=u' r) (hw:∀ r < k,w r=w' r):dPP k p M u w=dPP k p M u' w':=aD λr hr c _=>by
 unfold aH
 by_cases h:c=p
 · rw [if_pos h,if_pos h,hw r hr]
 · rw [if_neg h,if_neg h]
   by_cases h2:c=0
   · rw [if_pos h2,if_pos h2,hu r hr]
   · rw [if_neg h2,if_neg h2]
theorem mj (hp:0 < p) (hk:p < k) (u:Nat->Rat):dPP k p M u u=0:=fL (p:=0) (q:=p) (by omega) hk (by omega) λr=>by
 rw [bB,a7 (by omega),bB]
theorem gI (hp:0 < p) (hk:p < k) (u w:Nat->Rat):dPP k p M u w=-dPP k p M w u:=by
 unfold dPP
 have h:=(bN k).swap (M:=λi j=>M j i) (p:=0) (q:=p) (by omega) hk (by omega) u w
 rw [<- cf k (aH (aH M 0 u) p w),<- cf k (aH (aH M 0 w) p u)]
 exact h
theorem oQ (hp:0 < p) (hk:p < k) (w c:Nat->Rat) (A:Nat->Nat->Rat) (hA:∀ j,j ≠ 0->j ≠ p->∀ r,A r j=M r j):dPP k p M (λr=>aA (λj=>c j * A r j) k) w=c 0 * dPP k p M (λr=>A r 0) w + c p * dPP k p M (λr=>A r p) w:=by
 have com:∀ v,aH (aH M 0 v) p w=aH (aH M p w) 0 v:=λv=>by
   funext r j
   unfold aH
   by_cases h:j=p
   · rw [if_pos h,if_neg (show ¬ j=0 by omega),if_pos h]
   · rw [if_neg h,if_neg h]
 unfold dPP
 rw [com,rO _ (by omega) c (λj r=>A r j) k,lL hp k hk λj hj h0 hjp=>?_]
 · rw [com,com]
 · rw [fL (p:=0) (q:=j) (by omega) hj (by omega) λr=>by rw [bB,a7 h0,a7 hjp,hA j h0 hjp],Rat.mul_zero]
theorem vF (hp:0 < p) (hk:p < k) (u c:Nat->Rat) (A:Nat->Nat->Rat) (hA:∀ j,j ≠ 0->j ≠ p->∀ r,A r j=M r j):dPP k p M u (λr=>aA (λj=>c j * A r j) k)=c 0 * dPP k p M u (λr=>A r 0) + c p * dPP k p M u (λr=>A r p):=by
 rw [gI hp hk,oQ hp hk u c A hA,gI hp hk u,gI hp hk u]
 grind
theorem gp (hp:0 < p) (hk:p < k) {g e x y:Nat->Rat} (h0:dPP k p M g x ≠ 0):dPP k p M g y * dPP k p M e x - dPP k p M g x * dPP k p M e y=dPP k p M e g * dPP k p M x y:=by
 let A:Nat->Nat->Rat:=aH (aH M 0 g) p x
 have hA:∀ j,j ≠ 0->j ≠ p->∀ r,A r j=M r j:=λj h1 h2 r=>by
   show aH (aH M 0 g) p x r j=M r j
   rw [a7 h2,a7 h1]
 have A0:(λr=>A r 0)=g:=by
   funext r
   show aH (aH M 0 g) p x r 0=g r
   rw [a7 (by omega),bB]
 have Ap:(λr=>A r p)=x:=by
   funext r
   exact bB
 have ex:∀ v:Nat->Rat,∃ c:Nat->Rat,∀ r,r < k->v r=aA (λj=>c j * A r j) k:=λv=>by
   refine ⟨λj=>det k (aH A j v) / det k A,λr hr=>?_⟩
   have hD:det k A ≠ 0:=h0
   have e:=Bg (b:=v) hD hr
   refine pf hD ?_
   rw [<- e,aV]
   refine ar λj _=>?_
   show A r j * det k (aH A j v)=det k A * (det k (aH A j v) / det k A * A r j)
   generalize det k A=D at hD ⊢
   generalize det k (aH A j v)=z
   generalize A r j=y
   rw [<- Rat.mul_assoc,Rat.mul_comm D,Rat.div_mul_cancel hD,Rat.mul_comm]
 obtain ⟨a,ha⟩:=ex e
 obtain ⟨b,hb⟩:=ex y
 have sw:=gI (M:=M) hp hk x g
 have gg:=mj (M:=M) hp hk g
 have xx:=mj (M:=M) hp hk x
 have e1:∀ w,dPP k p M e w=a 0 * dPP k p M g w + a p * dPP k p M x w:=λw=>by
   rw [kf (w':=w) ha λ_ _=>rfl,oQ hp hk w a A hA,A0,Ap]
 have e2:∀ u,dPP k p M u y=b 0 * dPP k p M u g + b p * dPP k p M u x:=λu=>by
   rw [kf (u':=u) (λ_ _=>rfl) hb,vF hp hk u b A hA,A0,Ap]
 rw [e2 g,e1 x,e1 y,e2 g,e2 x,e1 g,gg,xx,sw]
 grind
end
section
variable {P:Program} {w:World} {K:PySem.W.Frag} {mg:Str->Option Value} {base:Heap} {k:Nat} {f:Addr} {fd:FuncData} {qual:Str}
end
noncomputable def bo (γ:Nat->Nat) (p q:Nat):Nat->Nat:=λc=>if c=p then q else γ c
section
variable {A:Nat->Nat->Rat} {m n z q:Nat}
theorem xJ {k:Nat} {ρ γ:Nat->Nat} (hk:0 < k) (h0:∀ c,0 < c->c < k->A z (γ c)=0):mi A (k + 1) (λr=>if r=0 then z else ρ (r - 1)) (λc=>if c=0 then q else γ (c - 1))=A z q * mi A k ρ γ - A z (γ 0) * mi A k ρ (bo γ 0 q):=by
 rw [<- Ay]
 unfold mi
 rw [det,lL (p:=1) (by decide) (k + 1) (by omega) λi hi h1 h2=>?_]
 · have e1:det k (minor (λr c=>A (if c=0 then z else ρ (c - 1)) (if r=0 then q else γ (r - 1))) 0)=det k λr c=>A (ρ r) (γ c):=by
     rw [<- cf k λr c=>A (ρ r) (γ c)]
     refine aD λr hr c hc=>?_
     show A (if c + 1=0 then z else ρ (c + 1 - 1)) (if skp 0 r=0 then q else γ (skp 0 r - 1))=A (ρ c) (γ r)
     have:skp 0 r=r + 1:=if_neg (by omega)
     rw [this,if_neg (by omega),if_neg (by omega)]
     rfl
   have e2:det k (minor (λr c=>A (if c=0 then z else ρ (c - 1)) (if r=0 then q else γ (r - 1))) 1)=det k λr c=>A (ρ r) (bo γ 0 q c):=by
     rw [<- cf k λr c=>A (ρ r) (bo γ 0 q c)]
     refine aD λr hr c hc=>?_
     show A (if c + 1=0 then z else ρ (c + 1 - 1)) (if skp 1 r=0 then q else γ (skp 1 r - 1))=A (ρ c) (bo γ 0 q r)
     rw [if_neg (by omega)]
     unfold bo
     by_cases r0:r=0
     · subst r0; rfl
     · have:skp 1 r=r + 1:=if_neg (by omega)
       rw [this,if_neg (by omega),if_neg r0]
       rfl
   rw [e1,e2]
   show 1 * A (if 0=0 then z else ρ (0 - 1)) (if 0=0 then q else γ (0 - 1)) * _ + -1 * A (if 0=0 then z else ρ (0 - 1)) (if 1=0 then q else γ (1 - 1)) * _=_
   rw [if_pos rfl,if_pos rfl,if_neg (by decide)]
   generalize (det k λr c=>A (ρ r) (γ c))=x
   generalize (det k λr c=>A (ρ r) (bo γ 0 q c))=y
   show 1 * A z q * x + -1 * A z (γ 0) * y=_
   grind
 · show sgn i * A (if 0=0 then z else ρ (0 - 1)) (if i=0 then q else γ (i - 1)) * _=0
   rw [if_pos rfl,if_neg h1,h0 (i - 1) (by omega) (by omega),Rat.mul_zero,Rat.zero_mul]
theorem wB {p:Nat}:rho 0 p 0=p:=by unfold rho; rw [if_neg (by omega),if_pos rfl,Nat.zero_add]
theorem uo {p c:Nat} (h0:c ≠ 0) (h1:c<=p):rho 0 p c=c - 1:=by unfold rho; rw [if_neg (by omega),if_neg h0,if_pos (by omega)]
theorem tT {p c:Nat} (h:p < c):rho 0 p c=c:=by unfold rho; rw [if_neg (by omega),if_neg (by omega),if_neg (by omega)]
theorem qo {k b:Nat} {ρ:Nat->Nat} (h:Inc (k + 1) ρ):Inc k λr=>ρ (skp b r):=λi hi=>by
 show ρ (skp b i) < ρ (skp b (i + 1))
 refine h.mono ?_ ?_
 · unfold skp; split <;> split <;> omega
 · unfold skp; split <;> omega
theorem t4 (H:Tnn m n A) (hz:z < m) (hq:q + 1 < n) (h0:∀ j,q + 1 < j->j < n->A z j=0):∀ (p k:Nat) (ρ γ:Nat->Nat),p < k->Inc k ρ->(∀ i,i < k->ρ i < m)->(∀ i,i < k->z<=ρ i)->Inc k γ->(∀ i,i < k->γ i < n)->γ p=q + 1->(∀ c,c < p->γ c < q)->A z (q + 1) * mi A k ρ (bo γ p q)<=A z q * mi A k ρ γ
 | 0,k,ρ,γ,hp,h1,h2,h3,h4,h5,h6,_=>by
   have e:=xJ (A:=A) (z:=z) (q:=q) (ρ:=ρ) (γ:=γ) hp λc c0 hc=>h0 _ (by have:=h4.mono c0 hc; omega) (h5 c hc)
   rw [h6] at e
   have nn:0<=mi A (k + 1) (λr=>if r=0 then z else ρ (r - 1)) (λc=>if c=0 then q else γ (c - 1)):=by
     by_cases ez:z=ρ 0
     · have:mi A (k + 1) (λr=>if r=0 then z else ρ (r - 1)) (λc=>if c=0 then q else γ (c - 1))=0:=by
         refine (bN (k + 1)).same (p:=0) (q:=1) (by omega) (by omega) (by decide) ?_
         funext c
         show A (if 0=0 then z else ρ (0 - 1)) _=A (if 1=0 then z else ρ (1 - 1)) _
         rw [if_pos rfl,if_neg (by decide),ez]
       rw [this]
       exact Rat.le_refl
     · have z0:z < ρ 0:=by have:=h3 0 hp; omega
       refine H (k + 1) _ _ (λi hi=>?_) (λi hi=>?_) (λi hi=>?_) λi hi=>?_
       · show (if i=0 then z else ρ (i - 1)) < (if i + 1=0 then z else ρ (i + 1 - 1))
         by_cases i0:i=0
         · subst i0; exact z0
         · rw [if_neg i0,if_neg (by omega)]
           exact h1.mono (by omega) (by omega)
       · show (if i=0 then z else ρ (i - 1)) < m
         split
         · exact hz
         · exact h2 _ (by omega)
       · show (if i=0 then q else γ (i - 1)) < (if i + 1=0 then q else γ (i + 1 - 1))
         by_cases i0:i=0
         · subst i0
           show q < γ 0
           omega
         · rw [if_neg i0,if_neg (by omega)]
           exact h4.mono (by omega) (by omega)
       · show (if i=0 then q else γ (i - 1)) < n
         split
         · omega
         · exact h5 _ (by omega)
   rw [e] at nn
   generalize A z q * mi A k ρ γ=x at nn ⊢
   generalize A z (q + 1) * mi A k ρ (bo γ 0 q)=y at nn ⊢
   grind
 | p + 1,0,_,_,hp,_,_,_,_,_,_,_=>absurd hp (Nat.not_lt_zero _)
 | p + 1,k + 1,ρ,γ,hp,h1,h2,h3,h4,h5,h6,h7=>by
   have az:0<=A z q:=by
     have:=H 1 (λ_=>z) (λ_=>q) (λi hi=>by omega) (λ_ _=>hz) (λi hi=>by omega) (λ_ _=>by omega)
     rw [show mi A 1 (λ_=>z) (λ_=>q)=A z q from fF _] at this
     exact this
   have dy:0<=mi A (k + 1) ρ γ:=H _ _ _ h1 h2 h4 h5
   have iu:Inc (k + 1) (bo γ (p + 1) q):=λi hi=>by
     have:=h4 i hi
     unfold bo
     by_cases c1:i=p + 1
     · rw [if_pos c1,if_neg (by omega)]
       subst c1
       omega
     · by_cases c2:i + 1=p + 1
       · rw [if_neg c1,if_pos c2]
         exact h7 i (by omega)
       · rw [if_neg c1,if_neg c2]
         exact this
   have bu:∀ i,i < k + 1->bo γ (p + 1) q i < n:=λi hi=>by
     unfold bo
     split
     · omega
     · exact h5 i hi
   have dx:0<=mi A (k + 1) ρ (bo γ (p + 1) q):=H _ _ _ h1 h2 iu bu
   by_cases dz:mi A (k + 1) ρ (bo γ (p + 1) q)=0
   · rw [dz,Rat.mul_zero]
     exact Rat.mul_nonneg az dy
   obtain ⟨b,hb,db⟩:∃ b,b < k + 1/\mi A k (λr=>ρ (skp b r)) (λc=>bo γ (p + 1) q (c + 1)) ≠ 0:=by
     refine Classical.byContradiction λno=>dz ?_
     unfold mi
     rw [det]
     refine bf λi hi=>?_
     have:mi A k (λr=>ρ (skp i r)) (λc=>bo γ (p + 1) q (c + 1))=0:=Classical.byContradiction λne=>no ⟨i,hi,ne⟩
     have e:det k (minor (λr c=>A (ρ r) (bo γ (p + 1) q c)) i)=mi A k (λr=>ρ (skp i r)) (λc=>bo γ (p + 1) q (c + 1)):=rfl
     rw [e,this,Rat.mul_zero]
   have sub:∀ c,bo γ (p + 1) q (c + 1)=bo (λc=>γ (c + 1)) p q c:=λc=>by
     unfold bo
     by_cases e:c=p
     · rw [if_pos e,if_pos (by omega)]
     · rw [if_neg e,if_neg (by omega)]
   have pk:p < k:=by omega
   have r1:=qo (b:=b) h1
   have r2:∀ i,i < k->ρ (skp b i) < m:=λi hi=>h2 _ (gr hi)
   have r3:∀ i,i < k->z<=ρ (skp b i):=λi hi=>h3 _ (gr hi)
   have ih:=t4 H hz hq h0 p k (λr=>ρ (skp b r)) (λc=>γ (c + 1)) pk r1 r2 r3 h4.up (λi hi=>h5 _ (by omega)) h6 λc hc=>h7 _ (by omega)
   have dxe:mi A k (λr=>ρ (skp b r)) (λc=>bo γ (p + 1) q (c + 1))=mi A k (λr=>ρ (skp b r)) (bo (λc=>γ (c + 1)) p q):=uf (λ_ _=>rfl) λc _=>sub c
   rw [dxe] at db
   have dxs:0<=mi A k (λr=>ρ (skp b r)) (bo (λc=>γ (c + 1)) p q):=by
     rw [<- dxe]
     exact H _ _ _ r1 r2 iu.up λi hi=>bu _ (by omega)
   have pb:∀ w:Nat->Rat,dPP (k + 1) (p + 1) (λr c=>A (ρ r) (γ c)) (λr=>if r=b then 1 else 0) w=sgn b * det k (λr c=>if c=p then w (skp b r) else A (ρ (skp b r)) (γ (c + 1))):=λw=>by
     unfold dPP
     rw [det]
     have e:∀ i,i < k + 1->sgn i * aH (aH (λr c=>A (ρ r) (γ c)) 0 λr=>if r=b then (1:Rat) else 0) (p + 1) w i 0 * det k (minor (aH (aH (λr c=>A (ρ r) (γ c)) 0 λr=>if r=b then (1:Rat) else 0) (p + 1) w) i)=(sgn i * det k (minor (aH (aH (λr c=>A (ρ r) (γ c)) 0 λr=>if r=b then (1:Rat) else 0) (p + 1) w) i)) * dq i b:=λi _=>by
       rw [a7 (by omega),bB]
       unfold dq
       by_cases e:i=b
       · rw [if_pos e]; grind
       · rw [if_neg e]; grind
     rw [ar e,bE _ _ _ hb]
     congr 1
     refine aD λr hr c hc=>?_
     show aH (aH (λr c=>A (ρ r) (γ c)) 0 λr=>if r=b then (1:Rat) else 0) (p + 1) w (skp b r) (c + 1)=_
     by_cases e:c=p
     · rw [if_pos e,e,bB]
     · rw [if_neg e,a7 (by omega),a7 (by omega)]
   have Pg:∀ v:Nat,dPP (k + 1) (p + 1) (λr c=>A (ρ r) (γ c)) (λr=>A (ρ r) (γ 0)) (λr=>A (ρ r) v)=mi A (k + 1) ρ (bo γ (p + 1) v):=λv=>aD λr hr c hc=>by
     unfold bo
     by_cases e:c=p + 1
     · rw [if_pos e,e,bB]
     · rw [if_neg e,a7 e]
       by_cases e0:c=0
       · rw [e0,bB]
       · rw [a7 e0]
   have Pe:∀ v:Nat,dPP (k + 1) (p + 1) (λr c=>A (ρ r) (γ c)) (λr=>if r=b then 1 else 0) (λr=>A (ρ r) v)=sgn b * mi A k (λr=>ρ (skp b r)) (bo (λc=>γ (c + 1)) p v):=λv=>by
     rw [pb]
     congr 1
     refine aD λr hr c hc=>?_
     unfold bo
     by_cases e:c=p
     · rw [if_pos e,if_pos e]
     · rw [if_neg e,if_neg e]
   have uy:bo γ (p + 1) (q + 1)=γ:=by
     funext c
     unfold bo
     by_cases e:c=p + 1
     · rw [if_pos e,e,h6]
     · rw [if_neg e]
   have uy':bo (λc=>γ (c + 1)) p (q + 1)=λc=>γ (c + 1):=by
     funext c
     unfold bo
     by_cases e:c=p
     · rw [if_pos e,e,h6]
     · rw [if_neg e]
   have G:=gp (M:=λr c=>A (ρ r) (γ c)) (p:=p + 1) (k:=k + 1) (g:=λr=>A (ρ r) (γ 0)) (e:=λr=>if r=b then 1 else 0) (x:=λr=>A (ρ r) q) (y:=λr=>A (ρ r) (q + 1)) (by omega) hp (by rw [Pg]; exact dz)
   rw [Pg,Pg,Pe,Pe,Pe,uy,uy'] at G
   have s1:mi A k (λr=>ρ (skp b r)) (bo (λc=>γ (c + 1)) p (γ 0))=sgn p * mi A k (λr=>ρ (skp b r)) (λc=>γ (skp (p + 1) c)):=by
     refine xE ?_
     unfold mi
     rw [<- mx (k:=0) p (λr c=>A (ρ (skp b r)) (bo (λc=>γ (c + 1)) p (γ 0) c)) (by omega)]
     refine aD λr hr c hc=>?_
     show A (ρ (skp b r)) (γ (skp (p + 1) c))=A (ρ (skp b r)) (bo (λc=>γ (c + 1)) p (γ 0) (rho 0 p c))
     congr 1
     unfold bo
     by_cases c0:c=0
     · subst c0
       rw [show skp (p + 1) 0=0 from if_pos (by omega),wB,if_pos rfl]
     · by_cases c1:c<=p
       · rw [show skp (p + 1) c=c from if_pos (by omega),uo c0 c1,if_neg (by omega)]
         show γ c=γ (c - 1 + 1)
         rw [show c - 1 + 1=c by omega]
       · rw [show skp (p + 1) c=c + 1 from if_neg (by omega),tT (by omega),if_neg (by omega)]
   have s2:dPP (k + 1) (p + 1) (λr c=>A (ρ r) (γ c)) (λr=>A (ρ r) q) (λr=>A (ρ r) (q + 1))=sgn p * mi A (k + 1) ρ (λc=>if c < p then γ (c + 1) else if c=p then q else γ c):=by
     unfold mi
     rw [<- mx (k:=0) p (λr c=>A (ρ r) (if c < p then γ (c + 1) else if c=p then q else γ c)) (by omega)]
     refine aD λr hr c hc=>?_
     show aH (aH (λr c=>A (ρ r) (γ c)) 0 λr=>A (ρ r) q) (p + 1) (λr=>A (ρ r) (q + 1)) r c=A (ρ r) (if rho 0 p c < p then γ (rho 0 p c + 1) else if rho 0 p c=p then q else γ (rho 0 p c))
     by_cases c0:c=0
     · subst c0
       rw [a7 (by omega),bB,wB,if_neg (by omega),if_pos rfl]
     · by_cases c1:c<=p
       · rw [a7 (by omega),a7 c0,uo c0 c1,if_pos (by omega),show c - 1 + 1=c by omega]
       · rw [tT (by omega),if_neg (by omega),if_neg (by omega)]
         by_cases c2:c=p + 1
         · rw [c2,bB,h6]
         · rw [a7 c2,a7 c0]
   have n1:0<=mi A k (λr=>ρ (skp b r)) (λc=>γ (skp (p + 1) c)):=H _ _ _ r1 r2 (qo h4) λi hi=>h5 _ (gr hi)
   have n2:0<=mi A (k + 1) ρ (λc=>if c < p then γ (c + 1) else if c=p then q else γ c):=H _ _ _ h1 h2 (λi hi=>by
     show (if i < p then γ (i + 1) else if i=p then q else γ i) < (if i + 1 < p then γ (i + 1 + 1) else if i + 1=p then q else γ (i + 1))
     have q1:=h4 i hi
     by_cases a1:i + 1 < p
     · rw [if_pos (by omega),if_pos a1]
       exact h4 (i + 1) (by omega)
     · by_cases a2:i + 1=p
       · rw [if_pos (by omega),if_neg a1,if_pos a2]
         exact h7 _ (by omega)
       · by_cases a3:i=p
         · rw [if_neg (by omega),if_pos a3,if_neg (by omega),if_neg (by omega),a3,h6]
           omega
         · rw [if_neg (by omega),if_neg a3,if_neg (by omega),if_neg (by omega)]
           exact q1) λi hi=>by
     split
     · exact h5 _ (by omega)
     · split
       · omega
       · exact h5 _ hi
   rw [s1,s2] at G
   have ss:=lS p
   have sb:=lS b
   have pr:=Rat.mul_nonneg n1 n2
   generalize mi A k (λr=>ρ (skp b r)) (λc=>γ (skp (p + 1) c))=w1 at G pr
   generalize mi A (k + 1) ρ (λc=>if c < p then γ (c + 1) else if c=p then q else γ c)=w2 at G pr
   generalize mi A (k + 1) ρ γ=Dy at G dy ⊢
   generalize mi A (k + 1) ρ (bo γ (p + 1) q)=Dx at G dx dz ⊢
   generalize mi A k (λr=>ρ (skp b r)) (bo (λc=>γ (c + 1)) p q)=ex at G ih db dxs
   generalize mi A k (λr=>ρ (skp b r)) (λc=>γ (c + 1))=ey at G ih
   generalize A z q=ax at az ih ⊢
   generalize A z (q + 1)=ay at ih ⊢
   generalize sgn b=σ at G sb
   generalize sgn p=τ at G ss
   have key:Dy * ex - Dx * ey=w1 * w2:=by
     have:σ * (Dy * (σ * ex) - Dx * (σ * ey))=σ * (σ * (τ * w1) * (τ * w2)):=by rw [G]
     grind
   have e1:Dx * ey<=Dy * ex:=by grind
   have e2:Dx * (ay * ex)<=Dx * (ax * ey):=Rat.mul_le_mul_of_nonneg_left ih dx
   have e3:ax * (Dx * ey)<=ax * (Dy * ex):=Rat.mul_le_mul_of_nonneg_left e1 az
   have e4:ex * (ay * Dx)<=ex * (ax * Dy):=by grind
   have ep:0 < ex:=by
     rcases Rat.le_iff_lt_or_eq.mp dxs with h | h
     · exact h
     · exact absurd h.symm db
   exact Rat.le_of_mul_le_mul_left e4 ep
end
section
variable {P:Program} {w:World} {K:PySem.W.Frag} {mg:Str->Option Value} {base:Heap} {k:Nat} {f:Addr} {fd:FuncData} {qual:Str}
end
section
variable {A:Nat->Nat->Rat} {m n q:Nat}
theorem Tnn.whC (H:Tnn m n A) (hm:0 < m) (hq:q + 1 < n) (h0:∀ j,q + 1 < j->j < n->A 0 j=0) (hp:A 0 q ≠ 0):Tnn m n λi j=>if j=q + 1 then A i (q + 1) - A 0 (q + 1) / A 0 q * A i q else A i j:=λk ρ γ h1 h2 h3 h4=>by
 have pos:0<=A 0 q:=by
   have:=H 1 (λ_=>0) (λ_=>q) (λi hi=>by omega) (λ_ _=>hm) (λi hi=>by omega) (λ_ _=>by omega)
   rw [show mi A 1 (λ_=>0) (λ_=>q)=A 0 q from fF _] at this
   exact this
 have pos:0 < A 0 q:=by
   rcases Rat.le_iff_lt_or_eq.mp pos with h | h
   · exact h
   · exact absurd h.symm hp
 by_cases ex:∃ c,c < k/\γ c=q + 1
 · obtain ⟨p,hc,ec⟩:=ex
   have e1:mi (λi j=>if j=q + 1 then A i (q + 1) - A 0 (q + 1) / A 0 q * A i q else A i j) k ρ γ=det k (aH (λr c=>A (ρ r) (γ c)) p λr=>1 * A (ρ r) (q + 1) + (-(A 0 (q + 1) / A 0 q)) * A (ρ r) q):=aD λi hi j hj=>by
     show (if γ j=q + 1 then A (ρ i) (q + 1) - A 0 (q + 1) / A 0 q * A (ρ i) q else A (ρ i) (γ j))=if j=p then _ else A (ρ i) (γ j)
     by_cases z:j=p
     · rw [if_pos z,if_pos (by rw [z]; exact ec)]
       grind
     · rw [if_neg z,if_neg (by rw [<- ec]; exact h3.ne hj hc z)]
   rw [e1,gL _ hc]
   have e2:det k (aH (λr c=>A (ρ r) (γ c)) p λr=>A (ρ r) (q + 1))=mi A k ρ γ:=aD λi hi j hj=>by
     show (if j=p then A (ρ i) (q + 1) else A (ρ i) (γ j))=A (ρ i) (γ j)
     split
     · rename_i z; rw [z,ec]
     · rfl
   have e3:det k (aH (λr c=>A (ρ r) (γ c)) p λr=>A (ρ r) q)=mi A k ρ (bo γ p q):=aD λi hi j hj=>by
     show (if j=p then A (ρ i) q else A (ρ i) (γ j))=A (ρ i) (if j=p then q else γ j)
     by_cases z:j=p
     · rw [if_pos z,if_pos z]
     · rw [if_neg z,if_neg z]
   rw [e2,e3]
   by_cases ex2:∃ c,c < k/\γ c=q
   · obtain ⟨c1,hc1,ec1⟩:=ex2
     have ne:p ≠ c1:=λz=>by rw [z,ec1] at ec; omega
     have z0:mi A k ρ (bo γ p q)=0:=fL hc hc1 ne λr=>by
       show A (ρ r) (bo γ p q p)=A (ρ r) (bo γ p q c1)
       unfold bo
       rw [if_pos rfl,if_neg (Ne.symm ne),ec1]
     rw [z0,Rat.mul_zero,Rat.add_zero,Rat.one_mul]
     exact H k ρ γ h1 h2 h3 h4
   · have lt:∀ c,c < p->γ c < q:=λc hcp=>by
       have:=h3.mono hcp hc
       have:γ c ≠ q:=λz=>ex2 ⟨c,by omega,z⟩
       omega
     have w:=t4 H hm hq h0 p k ρ γ hc h1 h2 (λ_ _=>Nat.zero_le _) h3 h4 ec lt
     generalize mi A k ρ γ=x at w ⊢
     generalize mi A k ρ (bo γ p q)=y at w ⊢
     generalize A 0 (q + 1)=b at w ⊢
     generalize A 0 q=a at w pos ⊢
     have e:a * (1 * x + -(b / a) * y)=a * x - b * y:=by
       have ha:a ≠ 0:=λz=>by rw [z] at pos; exact absurd pos (by decide)
       grind
     have w2:a * 0<=a * (1 * x + -(b / a) * y):=by rw [e]; grind
     exact Rat.le_of_mul_le_mul_left w2 pos
 · have e1:mi (λi j=>if j=q + 1 then A i (q + 1) - A 0 (q + 1) / A 0 q * A i q else A i j) k ρ γ=mi A k ρ γ:=aD λi hi j hj=>if_neg λz=>ex ⟨j,hj,z⟩
   rw [e1]
   exact H k ρ γ h1 h2 h3 h4
theorem Tnn.whR (H:Tnn m n A) (hn:0 < n) (hq:q + 1 < m) (h0:∀ i,q + 1 < i->i < m->A i 0=0) (hp:A q 0 ≠ 0):Tnn m n λi j=>if i=q + 1 then A (q + 1) j - A (q + 1) 0 / A q 0 * A q j else A i j:=
 (H.tr.whC hn hq h0 hp).tr
theorem Tnn.nn (H:Tnn m n A) {i j:Nat} (hi:i < m) (hj:j < n):0<=A i j:=by
 have:=H 1 (λ_=>i) (λ_=>j) (λ_ _=>by omega) (λ_ _=>hi) (λ_ _=>by omega) (λ_ _=>hj)
 rw [show mi A 1 (λ_=>i) (λ_=>j)=A i j from fF _] at this
 exact this
theorem Tnn.vG (H:Tnn m n A) (hq:q + 1 < m) (h0:A q 0=0) (h1:A (q + 1) 0 ≠ 0) {j:Nat} (hj:j < n):A q j=0:=by
 by_cases j0:j=0
 · rw [j0]; exact h0
 have d:=H 2 (λr=>q + r) (λc=>if c=0 then 0 else j) (λi hi=>by show q + i < q + (i + 1); omega) (λi hi=>by show q + i < m; omega) (λi hi=>by
   obtain rfl:i=0:=by omega
   show 0 < (if 0 + 1=0 then 0 else j)
   rw [if_neg (by decide)]
   omega) λi hi=>by
   show (if i=0 then 0 else j) < n
   split <;> omega
 have e:mi A 2 (λr=>q + r) (λc=>if c=0 then 0 else j)=A q 0 * A (q + 1) j - A q j * A (q + 1) 0:=by
   unfold mi
   rw [vZ]
   rfl
 rw [e,h0] at d
 have a:=H.nn (i:=q) (j:=j) (by omega) hj
 have b:=H.nn (i:=q + 1) (j:=0) hq (by omega)
 generalize A q j=x at d a ⊢
 generalize A (q + 1) 0=y at d b h1 ⊢
 have:x * y=0:=by
   have:=Rat.mul_nonneg a b
   grind
 rcases Rat.mul_eq_zero.mp this with z | z
 · exact z
 · exact absurd z h1
noncomputable def swp (q i:Nat):Nat:=if i=q then q + 1 else if i=q + 1 then q else i
theorem Tnn.swap (H:Tnn m n A) (hq:q + 1 < m) (h0:∀ j,j < n->A q j=0):Tnn m n λi j=>A (swp q i) j:=λk ρ γ h1 h2 h3 h4=>by
 by_cases ex:∃ c,c < k/\ρ c=q + 1
 · obtain ⟨p,hp,ep⟩:=ex
   have:mi (λi j=>A (swp q i) j) k ρ γ=0:=by
     rw [<- (bN k).tP (λr c=>A (swp q (ρ r)) (γ c)) hp]
     refine aD λi hi j hj=>?_
     unfold aw
     split
     · rename_i z
       rw [z,ep]
       show A (swp q (q + 1)) (γ j)=0
       rw [show swp q (q + 1)=q by unfold swp; rw [if_neg (by omega),if_pos rfl]]
       exact h0 _ (h4 j hj)
     · rfl
   rw [this]
   exact Rat.le_refl
 · refine H k (λr=>swp q (ρ r)) γ (λi hi=>?_) (λi hi=>?_) h3 h4
   · have:=h1 i hi
     have n1:ρ i ≠ q + 1:=λz=>ex ⟨i,by omega,z⟩
     have n2:ρ (i + 1) ≠ q + 1:=λz=>ex ⟨i + 1,hi,z⟩
     show swp q (ρ i) < swp q (ρ (i + 1))
     unfold swp
     rw [if_neg n1,if_neg n2]
     split <;> split <;> omega
   · have:=h2 i hi
     show swp q (ρ i) < m
     unfold swp
     split
     · omega
     · split <;> omega
end
section
variable {P:Program} {w:World} {K:PySem.W.Frag} {mg:Str->Option Value} {base:Heap} {k:Nat} {f:Addr} {fd:FuncData} {qual:Str}
end
noncomputable def tkF (g:Nat->Nat->Rat) (i k:Nat):Nat->Nat->Rat:=λa b=>if a=i + 1 then g (i + 1) b - g (i + 1) k / g i k * g i b else g a b
noncomputable def lfF (g:Nat->Nat->Rat) (i:Nat):Nat->Nat->Rat:=λa b=>g (swp i a) b
noncomputable def cw (k i:Nat) (g:Nat->Nat->Rat):Nat->Nat->Rat:=if g (i + 1) k=0 then g else if g i k=0 then lfF g i else tkF g i k
noncomputable def dt (k i:Nat) (g:Nat->Nat->Rat):List Stp:=if g (i + 1) k=0 then [] else if g i k=0 then [("weigh",i,0),("up",i,1)] else [("up",i,g (i + 1) k / g i k)]
noncomputable def clG (k:Nat):Nat->(Nat->Nat->Rat)->Nat->Nat->Rat
 | 0,g=>g
 | d + 1,g=>clG k d (cw k (k + d) g)
noncomputable def clS (k:Nat):Nat->(Nat->Nat->Rat)->List Stp
 | 0,_=>[]
 | d + 1,g=>dt k (k + d) g++clS k d (cw k (k + d) g)
structure Bl (n k:Nat) (g:Nat->Nat->Rat):Prop where
 off:∀ i,i < n->∀ j,j < n->i ≠ j->(i < k\/j < k)->g i j=0
 tn:Tnn (n - k) (n - k) λi j=>g (k + i) (k + j)
theorem Bl.tr {n k:Nat} {g:Nat->Nat->Rat} (h:Bl n k g):Bl n k λi j=>g j i:=⟨λi hi j hj ne o=>h.off j hj i hi (Ne.symm ne) o.symm,h.tn.tr⟩
theorem lN {q:Nat}:swp q q=q + 1:=if_pos rfl
theorem ie {q:Nat}:swp q (q + 1)=q:=by unfold swp; rw [if_neg (by omega),if_pos rfl]
theorem dU {q a:Nat} (h:a ≠ q) (h':a ≠ q + 1):swp q a=a:=by unfold swp; rw [if_neg h,if_neg h']
theorem xQ (k q a:Nat):swp (k + q) (k + a)=k + swp q a:=by
 unfold swp
 by_cases h:a=q
 · rw [if_pos h,if_pos (by omega)]; omega
 · rw [if_neg h,if_neg (by omega)]
   by_cases h2:a=q + 1
   · rw [if_pos h2,if_pos (by omega)]
   · rw [if_neg h2,if_neg (by omega)]
theorem sj {q:Rat} (h:0<=q):0<=q.num:=Rat.num_nonneg.mpr h
theorem yJ {x y:Rat} (hx:0<=x) (hy:0<=y):0<=x / y:=by
 rcases Rat.le_iff_lt_or_eq.mp hy with h | h
 · have ne:y ≠ 0:=λz=>by rw [z] at h; exact absurd h (by decide)
   have e:y * (x / y)=x:=by rw [Rat.mul_comm]; exact Rat.div_mul_cancel ne
   refine Rat.le_of_mul_le_mul_left (c:=y) ?_ h
   rw [e,Rat.mul_zero]
   exact hx
 · rw [<- h,Rat.div_def,Rat.inv_zero,Rat.mul_zero]
   exact Rat.le_refl
section
variable {n k:Nat} {g:Nat->Nat->Rat}
theorem Bl.nn (h:Bl n k g) {i j:Nat} (hi:k<=i) (hin:i < n) (hj:k<=j) (hjn:j < n):0<=g i j:=by
 have:=h.tn.nn (i:=i - k) (j:=j - k) (by omega) (by omega)
 rw [show k + (i - k)=i by omega,show k + (j - k)=j by omega] at this
 exact this
theorem Bl.vG (h:Bl n k g) {i:Nat} (hk:k<=i) (hi:i + 1 < n) (h0:g i k=0) (h1:g (i + 1) k ≠ 0):∀ b,b < n->g i b=0:=λb hb=>by
 by_cases e:b < k
 · exact h.off i (by omega) b hb (by omega) (.inr e)
 · have:=h.tn.vG (q:=i - k) (by omega) (by rw [show k + (i - k)=i by omega]; exact h0) (by rw [show k + (i - k + 1)=i + 1 by omega]; exact h1) (j:=b - k) (by omega)
   rw [show k + (i - k)=i by omega,show k + (b - k)=b by omega] at this
   exact this
structure One (n k d:Nat) (g g':Nat->Nat->Rat) (ss:List Stp):Prop where
 bl:Bl n k g'
 z:∀ i,k + d < i->i < n->g' i k=0
 eq:Eqn n (act ss g') g
 ok:∀ st ∈ ss,okS n st
 keep:g k k ≠ 0->∀ b,g' k b=g k b
theorem tL {d:Nat} (h:Bl n k g) (hd:k + d + 1 < n) (hz:∀ i,k + d + 1 < i->i < n->g i k=0):One n k d g (cw k (k + d) g) (dt k (k + d) g):=by
 unfold cw dt
 by_cases e1:g (k + d + 1) k=0
 · rw [if_pos e1,if_pos e1]
   exact ⟨h,λi h1 h2=>(if e:i=k + d + 1 then by rw [e]; exact e1 else hz i (by omega) h2),Eqn.refl g,λ_ z=>(nomatch z),λ_ _=>rfl⟩
 rw [if_neg e1,if_neg e1]
 by_cases e2:g (k + d) k=0
 · rw [if_pos e2,if_pos e2]
   have hg:=h.vG (i:=k + d) (by omega) hd e2 e1
   refine ⟨⟨λi hi j hj ne o=>?_,?_⟩,λi h1 h2=>?_,λi hi j hj=>?_,λst m=>?_,λnz b=>?_⟩
   · show g (swp (k + d) i) j=0
     by_cases a:i=k + d
     · rw [a,lN]
       exact h.off _ hd j hj (by omega) (.inr (by omega))
     · by_cases b:i=k + d + 1
       · rw [b,ie]
         exact hg j hj
       · rw [dU a b]
         exact h.off i hi j hj ne o
   · refine (h.tn.swap (q:=d) (by omega) λj hj=>hg _ (by omega)).congr λi hi j hj=>?_
     show g (k + swp d i) (k + j)=g (swp (k + d) (k + i)) (k + j)
     rw [xQ]
   · show g (swp (k + d) i) k=0
     by_cases b:i=k + d + 1
     · rw [b,ie]; exact e2
     · rw [dU (by omega) b]; exact hz i (by omega) h2
   · show bkV (bkV (lfF g (k + d)) ("up",k + d,1)) ("weigh",k + d,0) i j=g i j
     have n1:¬ (("up" : Str) = "weigh"):=by decide
     have n2:¬ (("up" : Str) = "down"):=by decide
     unfold bkV eL rgS rgE
     simp only [if_neg n1,if_neg n2,if_true]
     by_cases a:i=k + d
     · subst a
       simp only [if_true]
       rw [hg j hj,Rat.zero_mul]
     · by_cases b:i=k + d + 1
       · subst b
         simp only [if_neg a,if_true]
         show g (swp (k + d) (k + d + 1)) j + 1 * g (swp (k + d) (k + d)) j=_
         rw [ie,lN,hg j hj,Rat.zero_add,Rat.one_mul]
       · simp only [if_neg a,if_neg b]
         show g (swp (k + d) i) j=_
         rw [dU a b]
   · simp only [List.mem_cons,List.not_mem_nil,or_false] at m
     rcases m with rfl | rfl
     · exact ⟨(by decide:(0:Int)<=(0:Rat).num),.inl ⟨rfl,by show k + d < n; omega⟩⟩
     · exact ⟨(by decide:(0:Int)<=(1:Rat).num),.inr ⟨.inr rfl,hd⟩⟩
   · show g (swp (k + d) k) b=g k b
     have:d ≠ 0:=λz=>nz (by rw [z] at e2; exact e2)
     rw [dU (by omega) (by omega)]
 · rw [if_neg e2,if_neg e2]
   refine ⟨⟨λi hi j hj ne o=>?_,?_⟩,λi h1 h2=>?_,λi hi j hj=>?_,λst m=>?_,λnz b=>?_⟩
   · unfold tkF
     by_cases b:i=k + d + 1
     · rw [if_pos b,h.off (k + d + 1) hd j hj (by omega) (.inr (by omega)),h.off (k + d) (by omega) j hj (by omega) (.inr (by omega)),Rat.mul_zero]
       grind
     · rw [if_neg b]
       exact h.off i hi j hj ne o
   · refine (h.tn.whR (q:=d) (by omega) (by omega) (λi h1 h2=>hz (k + i) (by omega) (by omega)) e2).congr λi hi j hj=>?_
     show (if i=d + 1 then g (k + (d + 1)) (k + j) - g (k + (d + 1)) (k + 0) / g (k + d) (k + 0) * g (k + d) (k + j) else g (k + i) (k + j))=(if k + i=k + d + 1 then g (k + d + 1) (k + j) - g (k + d + 1) k / g (k + d) k * g (k + d) (k + j) else g (k + i) (k + j))
     by_cases b:i=d + 1
     · rw [if_pos b,if_pos (by omega)]
       rfl
     · rw [if_neg b,if_neg (by omega)]
   · unfold tkF
     by_cases b:i=k + d + 1
     · rw [if_pos b]
       grind
     · rw [if_neg b]
       exact hz i (by omega) h2
   · show bkV (tkF g (k + d) k) ("up",k + d,g (k + d + 1) k / g (k + d) k) i j=g i j
     have n1:¬ (("up" : Str) = "weigh"):=by decide
     have n2:¬ (("up" : Str) = "down"):=by decide
     unfold bkV eL rgS rgE tkF
     simp only [if_neg n1,if_neg n2]
     by_cases b:i=k + d + 1
     · subst b
       simp only [if_true]
       rw [if_neg (by omega)]
       grind
     · simp only [if_neg b]
   · simp only [List.mem_cons,List.not_mem_nil,or_false] at m
     subst m
     exact ⟨sj (yJ (h.nn (by omega) hd (Nat.le_refl _) (by omega)) (h.nn (by omega) (by omega) (Nat.le_refl _) (by omega))),.inr ⟨.inr rfl,hd⟩⟩
   · unfold tkF
     rw [if_neg (by omega)]
theorem fU:∀ (d:Nat) (g:Nat->Nat->Rat),Bl n k g->k + d < n->(∀ i,k + d < i->i < n->g i k=0)->One n k 0 g (clG k d g) (clS k d g)
 | 0,g,h,_,hz=>⟨h,hz,Eqn.refl g,λ_ z=>(nomatch z),λ_ _=>rfl⟩
 | d + 1,g,h,hd,hz=>by
   have o:=tL h hd hz
   have r:=fU d (cw k (k + d) g) o.bl (by omega) o.z
   refine ⟨r.bl,r.z,?_,λst m=>?_,λnz b=>?_⟩
   · show Eqn n (act (dt k (k + d) g++clS k d (cw k (k + d) g)) _) g
     rw [da]
     exact (fG r.eq _ o.ok).trans o.eq
   · rcases List.mem_append.mp m with m | m
     · exact o.ok st m
     · exact r.ok st m
   · have e:=o.keep nz
     exact (r.keep (by rw [e]; exact nz) b).trans (e b)
theorem fD:∀ (d:Nat) (g:Nat->Nat->Rat),(∀ i,k < i->i<=k + d->g i k=0)->clG k d g=g/\clS k d g=[]
 | 0,g,_=>⟨rfl,rfl⟩
 | d + 1,g,h=>by
   have e:g (k + d + 1) k=0:=h _ (by omega) (by omega)
   have r:=fD d g λi h1 h2=>h i h1 (by omega)
   unfold clG clS cw dt
   rw [if_pos e,if_pos e,r.1,r.2]
   exact ⟨rfl,rfl⟩
theorem mv (k i:Nat) (g:Nat->Nat->Rat):(dt k i g).length<=2:=by
 unfold dt
 split
 · exact Nat.zero_le _
 · split
   · exact Nat.le_refl 2
   · exact Nat.le_succ 1
theorem gJ:∀ (d:Nat) (g:Nat->Nat->Rat),(clS k d g).length<=2 * d
 | 0,_=>Nat.le_refl _
 | d + 1,g=>by
   have a:=mv k (k + d) g
   have b:=gJ d (cw k (k + d) g)
   unfold clS
   rw [List.length_append]
   omega
end
section
variable {P:Program} {w:World} {K:PySem.W.Frag} {mg:Str->Option Value} {base:Heap} {k:Nat} {f:Addr} {fd:FuncData} {qual:Str}
end
noncomputable def trF (g:Nat->Nat->Rat):Nat->Nat->Rat:=λi j=>g j i
noncomputable def st1 (n k:Nat) (g:Nat->Nat->Rat):Nat->Nat->Rat:=clG k (n - 1 - k) g
noncomputable def st2 (n k:Nat) (g:Nat->Nat->Rat):Nat->Nat->Rat:=trF (clG k (n - 1 - k) (trF (st1 n k g)))
noncomputable def st3 (n k:Nat) (g:Nat->Nat->Rat):Nat->Nat->Rat:=clG k (n - 1 - k) (st2 n k g)
noncomputable def stA (n k:Nat) (g:Nat->Nat->Rat):List Stp:=clS k (n - 1 - k) g++clS k (n - 1 - k) (st2 n k g)
noncomputable def stB (n k:Nat) (g:Nat->Nat->Rat):List Stp:=clS k (n - 1 - k) (trF (st1 n k g))
theorem fE {k:Nat}:∀ (d:Nat) (g:Nat->Nat->Rat),(∃ i,k<=i/\i<=k + d/\g i k ≠ 0)->clG k d g k k ≠ 0
 | 0,g,⟨i,h1,h2,h3⟩=>by
   obtain rfl:i=k:=by omega
   exact h3
 | d + 1,g,⟨i,h1,h2,h3⟩=>by
   refine fE d (cw k (k + d) g) ?_
   unfold cw
   by_cases e1:g (k + d + 1) k=0
   · rw [if_pos e1]
     refine ⟨i,h1,?_,h3⟩
     have:i ≠ k + d + 1:=λz=>h3 (by rw [z]; exact e1)
     omega
   · rw [if_neg e1]
     refine ⟨k + d,by omega,Nat.le_refl _,?_⟩
     by_cases e2:g (k + d) k=0
     · rw [if_pos e2]
       show g (swp (k + d) (k + d)) k ≠ 0
       rw [lN]
       exact e1
     · rw [if_neg e2]
       show (if k + d=k + d + 1 then _ else g (k + d) k) ≠ 0
       rw [if_neg (by omega)]
       exact e2
structure Stg (n k:Nat) (g:Nat->Nat->Rat):Prop where
 bl:Bl n (k + 1) (st3 n k g)
 eq:Eqn n (act (stA n k g) (cW (stB n k g) (st3 n k g))) g
 ok:∀ st ∈ stA n k g++stB n k g,okS n st
theorem xY {n k:Nat} {g:Nat->Nat->Rat} (h:Bl n k g) (hk:k < n):Stg n k g:=by
 have c1:=fU (n - 1 - k) g h (by omega) λi h1 h2=>by omega
 have c2:=fU (n - 1 - k) (trF (st1 n k g)) c1.bl.tr (by omega) λi h1 h2=>by omega
 have b2:Bl n k (st2 n k g):=c2.bl.tr
 have c3:=fU (n - 1 - k) (st2 n k g) b2 (by omega) λi h1 h2=>by omega
 have row2:∀ j,k < j->j < n->st2 n k g k j=0:=λj h1 h2=>c2.z j (by omega) h2
 have row3:∀ j,k < j->j < n->st3 n k g k j=0:=λj h1 h2=>by
   by_cases nz:st2 n k g k k=0
   · have none:∀ i,k < i->i<=k + (n - 1 - k)->st2 n k g i k=0:=λi i1 i2=>by
       have hr:∀ j,k<=j->j < n->st1 n k g k j=0:=λj j1 j2=>Classical.byContradiction λne=>fE (n - 1 - k) (trF (st1 n k g)) ⟨j,j1,by omega,ne⟩ nz
       have e:=(fD (k:=k) (n - 1 - k) (trF (st1 n k g)) λi i1 i2=>hr i (by omega) (by omega)).1
       show trF (clG k (n - 1 - k) (trF (st1 n k g))) i k=0
       rw [e]
       exact c1.z i (by omega) (by omega)
     have e:=(fD (k:=k) (n - 1 - k) (st2 n k g) none).1
     show clG k (n - 1 - k) (st2 n k g) k j=0
     rw [e]
     exact row2 j h1 h2
   · show clG k (n - 1 - k) (st2 n k g) k j=0
     rw [c3.keep nz j]
     exact row2 j h1 h2
 refine ⟨⟨λi hi j hj ne o=>?_,?_⟩,?_,λst m=>?_⟩
 · by_cases a:i < k\/j < k
   · exact c3.bl.off i hi j hj ne a
   · by_cases b:i=k
     · rw [b]
       exact row3 j (by omega) hj
     · have:j=k:=by omega
       rw [this]
       exact c3.z i (by omega) hi
 · have t:=c3.bl.tn
   refine λl ρ γ h1 h2 h3 h4=>?_
   have:=t l (λi=>1 + ρ i) (λi=>1 + γ i) (λi hi=>by have:=h1 i hi; show 1 + ρ i < 1 + ρ (i + 1); omega) (λi hi=>by have:=h2 i hi; show 1 + ρ i < n - k; omega) (λi hi=>by have:=h3 i hi; show 1 + γ i < 1 + γ (i + 1); omega) λi hi=>by have:=h4 i hi; show 1 + γ i < n - k; omega
   have e:mi (λi j=>st3 n k g (k + 1 + i) (k + 1 + j)) l ρ γ=mi (λi j=>clG k (n - 1 - k) (st2 n k g) (k + i) (k + j)) l (λi=>1 + ρ i) λi=>1 + γ i:=by
     unfold mi
     refine aD λi _ j _=>?_
     show st3 n k g (k + 1 + ρ i) (k + 1 + γ j)=st3 n k g (k + (1 + ρ i)) (k + (1 + γ j))
     rw [Nat.add_assoc,Nat.add_assoc]
   rw [e]
   exact this
 · unfold stA
   rw [da,<- gW]
   have e3:Eqn n (act (clS k (n - 1 - k) (st2 n k g)) (st3 n k g)) (st2 n k g):=c3.eq
   have o3:∀ st ∈ clS k (n - 1 - k) (st2 n k g),okS n st:=c3.ok
   have o2:∀ st ∈ stB n k g,okS n st:=c2.ok
   have e2:Eqn n (cW (stB n k g) (st2 n k g)) (st1 n k g):=λi hi j hj=>c2.eq j hj i hi
   exact (fG ((jQ e3 _ o2).trans e2) _ c1.ok).trans c1.eq
 · unfold stA at m
   rcases List.mem_append.mp m with m | m
   · rcases List.mem_append.mp m with m | m
     · exact c1.ok st m
     · exact c3.ok st m
   · exact c2.ok st m
noncomputable def apF (n:Nat) (A:Nat->Nat->Rat):Nat->(Nat->Nat->Rat) × List Stp × List Stp
 | 0=>(A,[],[])
 | k + 1=>let r:=apF n A k; (st3 n k r.1,r.2.1++stA n k r.1,r.2.2++stB n k r.1)
noncomputable def crS (n:Nat) (g:Nat->Nat->Rat):List Stp:=(List.range n).map λk=>("weigh",k,g k k)
noncomputable def apS (n:Nat) (A:Nat->Nat->Rat):List Stp:=(apF n A n).2.1++(crS n (apF n A n).1++(apF n A n).2.2.reverse.map trn)
structure Apo (n k:Nat) (A:Nat->Nat->Rat):Prop where
 bl:Bl n k (apF n A k).1
 eq:Eqn n (act (apF n A k).2.1 (cW (apF n A k).2.2 (apF n A k).1)) A
 ok:∀ st ∈ (apF n A k).2.1++(apF n A k).2.2,okS n st
 nn:∀ i,i < k->i < n->0<=(apF n A k).1 i i
theorem rE {n k:Nat} {g:Nat->Nat->Rat} {i:Nat} (h:Bl n k g) (hk:k < n) (hi:i < k):st3 n k g i i=g i i:=by
 have low:∀ d g j,k + d < n->clG k d g i j=g i j:=λd=>by
   induction d with
   | zero=>intro g j _; rfl
   | succ d ih=>
     intro g j hd
     show clG k d (cw k (k + d) g) i j=_
     rw [ih _ _ (by omega)]
     unfold cw
     split
     · rfl
     · split
       · show g (swp (k + d) i) j=_
         rw [dU (by omega) (by omega)]
       · unfold tkF
         rw [if_neg (by omega)]
 show clG k (n - 1 - k) (st2 n k g) i i=_
 rw [low _ _ _ (by omega)]
 show clG k (n - 1 - k) (trF (st1 n k g)) i i=_
 rw [low _ _ _ (by omega)]
 show clG k (n - 1 - k) g i i=_
 rw [low _ _ _ (by omega)]
theorem oY {n:Nat} {A:Nat->Nat->Rat} (H:Tnn n n A):∀ k,k<=n->Apo n k A
 | 0,_=>⟨⟨λi _ j _ _ o=>absurd o (by omega),H.congr λi _ j _=>by rw [Nat.zero_add,Nat.zero_add]; rfl⟩,Eqn.refl A,λ_ z=>(nomatch z),λi hi=>absurd hi (Nat.not_lt_zero _)⟩
 | k + 1,hk=>by
   have r:=oY H k (by omega)
   have s:=xY r.bl (by omega)
   have ro:∀ st ∈ (apF n A k).2.1,okS n st:=λst m=>r.ok st (List.mem_append_left _ m)
   have rb:∀ st ∈ (apF n A k).2.2,okS n st:=λst m=>r.ok st (List.mem_append_right _ m)
   refine ⟨s.bl,?_,λst m=>?_,λi hi hin=>?_⟩
   · show Eqn n (act ((apF n A k).2.1++stA n k (apF n A k).1) (cW ((apF n A k).2.2++stB n k (apF n A k).1) (st3 n k (apF n A k).1))) A
     rw [da,mr,<- gW (stA n k (apF n A k).1)]
     exact (fG (jQ s.eq _ rb) _ ro).trans r.eq
   · have m:st ∈ ((apF n A k).2.1++stA n k (apF n A k).1)++((apF n A k).2.2++stB n k (apF n A k).1):=m
     rcases List.mem_append.mp m with m | m
     · rcases List.mem_append.mp m with m | m
       · exact ro st m
       · exact s.ok st (List.mem_append_left _ m)
     · rcases List.mem_append.mp m with m | m
       · exact rb st m
       · exact s.ok st (List.mem_append_right _ m)
   · show 0<=st3 n k (apF n A k).1 i i
     by_cases e:i=k
     · rw [e]
       have b2:Bl n k (st2 n k (apF n A k).1):=(fU (n - 1 - k) (trF (st1 n k (apF n A k).1)) (fU (n - 1 - k) (apF n A k).1 r.bl (by omega) λi h1 h2=>by omega).bl.tr (by omega) λi h1 h2=>by omega).bl.tr
       exact (fU (n - 1 - k) _ b2 (by omega) λi h1 h2=>by omega).bl.nn (Nat.le_refl _) (by omega) (Nat.le_refl _) (by omega)
     · rw [rE r.bl (by omega) (by omega)]
       exact r.nn i (by omega) hin
theorem rP (f:Nat->Rat) (L:Nat->Nat->Rat):∀ m,act ((List.range m).map λk=>(("weigh",k,f k):Stp)) L=λi j=>if i < m then f i * L i j else L i j
 | 0=>by funext i j; rw [if_neg (Nat.not_lt_zero _)]; rfl
 | m + 1=>by
   rw [List.range_succ,List.map_append,da,rP f _ m]
   funext i j
   show (if i < m then f i * bkV L ("weigh",m,f m) i j else bkV L ("weigh",m,f m) i j)=_
   have e:bkV L (("weigh",m,f m):Stp) i j=if i=m then f m * L m j else L i j:=by
     unfold bkV eL
     simp only [if_true]
     split <;> rfl
   rw [e]
   by_cases a:i < m
   · rw [if_pos a,if_neg (by omega),if_pos (by omega)]
   · rw [if_neg a]
     by_cases b:i=m
     · rw [if_pos b,if_pos (by omega),b]
     · rw [if_neg b,if_neg (by omega)]
theorem rk {n:Nat} {st:Stp} (h:okS n st):st.1 = "weigh" \/ st.1 = "down" \/ st.1 = "up":=by
 rcases h.2 with ⟨e,_⟩ | ⟨e,_⟩
 · exact .inl e
 · exact .inr e
theorem vB {n:Nat} {st:Stp} (h:okS n st):okS n (trn st):=by
 unfold trn
 rcases h.2 with ⟨e,_⟩ | ⟨e,z⟩
 · rw [if_pos e]; exact h
 · rcases e with e | e
   · rw [if_neg (by rw [e]; decide),if_pos e]
     exact ⟨h.1,.inr ⟨.inr rfl,z⟩⟩
   · rw [if_neg (by rw [e]; decide),if_neg (by rw [e]; decide)]
     exact ⟨h.1,.inr ⟨.inl rfl,z⟩⟩
theorem sE {n:Nat} {A:Nat->Nat->Rat} (H:Tnn n n A):Eqn n (bwd (apS n A)) A/\∀ st ∈ apS n A,okS n st:=by
 have r:=oY H n (Nat.le_refl _)
 have ro:∀ st ∈ (apF n A n).2.1,okS n st:=λst m=>r.ok st (List.mem_append_left _ m)
 have rb:∀ st ∈ (apF n A n).2.2,okS n st:=λst m=>r.ok st (List.mem_append_right _ m)
 have rc:∀ st ∈ crS n (apF n A n).1,okS n st:=λst m=>by
   unfold crS at m
   obtain ⟨k,hk,rfl⟩:=List.mem_map.mp m
   have hk:=List.mem_range.mp hk
   exact ⟨sj (r.nn k hk hk),.inl ⟨rfl,hk⟩⟩
 refine ⟨?_,λst m=>?_⟩
 · rw [vA]
   unfold apS
   rw [da,da,<- qf _ λs m=>rk (rb s m),<- gW]
   refine (fG (jQ ?_ _ rb) _ ro).trans r.eq
   intro i hi j hj
   unfold crS
   rw [rP (λk=>(apF n A n).1 k k)]
   show (if i < n then (apF n A n).1 i i * V0 i j else V0 i j)=_
   rw [if_pos hi]
   unfold V0
   by_cases e:i=j
   · rw [if_pos e.symm,e]
     exact Rat.mul_one _
   · rw [if_neg (Ne.symm e),Rat.mul_zero]
     exact (r.bl.off i hi j hj e (.inl hi)).symm
 · unfold apS at m
   rcases List.mem_append.mp m with m | m
   · exact ro st m
   · rcases List.mem_append.mp m with m | m
     · exact rc st m
     · obtain ⟨s,hs,rfl⟩:=List.mem_map.mp m
       exact vB (rb s (List.mem_reverse.mp hs))
theorem vq (n k:Nat) (g:Nat->Nat->Rat):(stA n k g).length<=4 * (n - 1 - k):=by
 unfold stA
 rw [List.length_append]
 have a:=gJ (k:=k) (n - 1 - k) g
 have b:=gJ (k:=k) (n - 1 - k) (st2 n k g)
 omega
theorem oD (n:Nat) (A:Nat->Nat->Rat):∀ k,k<=n->(apF n A k).2.1.length<=4 * (n * k)/\(apF n A k).2.2.length<=2 * (n * k)
 | 0,_=>⟨Nat.zero_le _,Nat.zero_le _⟩
 | k + 1,h=>by
   have r:=oD n A k (by omega)
   have a:=vq n k (apF n A k).1
   have b:=gJ (k:=k) (n - 1 - k) (trF (st1 n k (apF n A k).1))
   have e:n * (k + 1)=n * k + n:=Nat.mul_succ ..
   constructor
   · show ((apF n A k).2.1++stA n k (apF n A k).1).length<=_
     rw [List.length_append,e]
     omega
   · show ((apF n A k).2.2++stB n k (apF n A k).1).length<=_
     unfold stB
     rw [List.length_append,e]
     omega
theorem vx {n:Nat} (hn:n<=7) (A:Nat->Nat->Rat):(apS n A).length<=400:=by
 obtain ⟨a,b⟩:=oD n A n (Nat.le_refl _)
 have:n * n<=49:=Nat.mul_le_mul hn hn
 unfold apS crS
 rw [List.length_append,List.length_append,List.length_map,List.length_map,List.length_range,List.length_reverse]
 omega
section
variable {P:Program} {w:World} {K:PySem.W.Frag} {mg:Str->Option Value} {base:Heap} {k:Nat} {f:Addr} {fd:FuncData} {qual:Str}
end
noncomputable def bz (n:Nat) (A:Nat->Nat->Rat) (l u:Nat) (v:Nat->Rat):Prop:=∃ y:Nat->Rat,∀ c,c < n->v c=aA (λx=>if l<=x then y x * A x c else 0) u
section
variable {n:Nat} {A:Nat->Nat->Rat} {l u:Nat} {v w:Nat->Rat}
theorem bz.congr (h:bz n A l u v) (e:∀ c,c < n->w c=v c):bz n A l u w:=by
 obtain ⟨y,hy⟩:=h
 exact ⟨y,λc hc=>(e c hc).trans (hy c hc)⟩
theorem bz.zero:bz n A l u λ_=>0:=⟨λ_=>0,λc _=>by
 symm
 refine bf λx _=>?_
 split
 · exact Rat.zero_mul _
 · rfl⟩
theorem bz.lin (h:bz n A l u v) (g:bz n A l u w) (a b:Rat):bz n A l u λc=>a * v c + b * w c:=by
 obtain ⟨y,hy⟩:=h
 obtain ⟨z,hz⟩:=g
 refine ⟨λx=>a * y x + b * z x,λc hc=>?_⟩
 show a * v c + b * w c=_
 rw [hy c hc,hz c hc,aV,aV,<- cv]
 refine ar λx _=>?_
 by_cases e:l<=x
 · rw [if_pos e,if_pos e,if_pos e]; grind
 · rw [if_neg e,if_neg e,if_neg e]; grind
theorem bz.mem {x:Nat} (h1:l<=x) (h2:x < u):bz n A l u (A x):=⟨λz=>if z=x then 1 else 0,λc _=>by
 have e:aA (λz=>if l<=z then (if z=x then (1:Rat) else 0) * A z c else 0) u=aA (λz=>A z c * dq z x) u:=ar λz _=>by
   unfold dq
   by_cases a:z=x
   · rw [if_pos a,if_pos (by omega)]; grind
   · rw [if_neg a]
     split
     · grind
     · grind
 rw [e,bE _ _ _ h2]⟩
theorem bz.snoc (h:bz n A l (u + 1) v):∃ a w,bz n A l u w/\(∀ c,c < n->v c=a * A u c + w c)/\(u < l->a=0):=by
 obtain ⟨y,hy⟩:=h
 refine ⟨if l<=u then y u else 0,λc=>aA (λx=>if l<=x then y x * A x c else 0) u,⟨y,λc _=>rfl⟩,λc hc=>?_,λe=>if_neg (by omega)⟩
 rw [hy c hc,aA,Rat.add_comm]
 split
 · rfl
 · rw [Rat.zero_mul]
theorem bz.trans {l' u':Nat} (g:∀ x,l'<=x->x < u'->bz n A l u (A x)):∀ {v:Nat->Rat},bz n A l' u' v->bz n A l u v:=by
 induction u' with
 | zero=>
   intro v ⟨y,hy⟩
   exact bz.zero.congr hy
 | succ u' ih=>
   intro v h
   obtain ⟨a,w,hw,e,z⟩:=h.snoc
   have hw:=ih (λx h1 h2=>g x h1 (by omega)) hw
   by_cases q:l'<=u'
   · refine ((g u' q (by omega)).lin hw a 1).congr λc hc=>?_
     rw [e c hc,Rat.one_mul]
   · refine hw.congr λc hc=>?_
     rw [e c hc,z (by omega),Rat.zero_mul,Rat.zero_add]
theorem bz.mono {l' u':Nat} (h:bz n A l u v) (h1:l'<=l) (h2:u<=u'):bz n A l' u' v:=h.trans λx a b=>bz.mem (by omega) (by omega)
end
noncomputable def vec (n:Nat) (A φ:Nat->Nat->Rat) (i c:Nat):Rat:=aA (λr=>φ i r * A r c) n
noncomputable def Al (n:Nat) (A φ:Nat->Nat->Rat) (i:Nat):Prop:=∃ c,c < n/\vec n A φ i c ≠ 0
structure dQ (n:Nat) (A φ:Nat->Nat->Rat) (o l b:Nat->Nat):Prop where
 on:∀ i,i < n->o i < n
 sur:∀ r,r < n->∃ i,i < n/\o i=r
 one:∀ i,i < n->φ i (o i)=1
 hi:∀ i,i < n->∀ r,o i < r->φ i r=0
 lo:∀ i,i < n->∀ r,r < l i->φ i r=0
 ord:∀ i j,i < j->j < n->Al n A φ i->Al n A φ j->o i < o j/\l i<=l j
 van:∀ i,i < n->∀ c,c < b i->c < n->vec n A φ i c=0
 inj:∀ i,i < n->Al n A φ i->∀ v,bz n A (l i) (o i) v->(∀ c,c < b i->c < n->v c=0)->∀ c,c < n->v c=0
 ded:∀ i,i < n->Al n A φ i->∀ j,j < n->¬ Al n A φ j->o i < o j->bz n A (l i) (o j) (A (o j))
noncomputable def upA {α:Type} (f:Nat->α) (i:Nat) (x:α):Nat->α:=λj=>if j=i then x else f j
theorem bT {α:Type} {f:Nat->α} {i:Nat} {x:α}:upA f i x i=x:=if_pos rfl
theorem bP {α:Type} {f:Nat->α} {i j:Nat} {x:α} (h:j ≠ i):upA f i x j=f j:=if_neg h
section
variable {n:Nat} {A φ:Nat->Nat->Rat} {o l b:Nat->Nat}
theorem dQ.start (n:Nat) (A:Nat->Nat->Rat):dQ n A (λi r=>if i=r then 1 else 0) (λi=>i) (λi=>i) λ_=>0:=by
 have ve:∀ i,i < n->∀ c,vec n A (λi r=>if i=r then (1:Rat) else 0) i c=A i c:=λi hi c=>jL (λr=>A r c) i n hi
 refine ⟨λi h=>h,λr h=>⟨r,h,rfl⟩,λi _=>if_pos rfl,λi _ r h=>if_neg (by omega),λi _ r h=>if_neg (by omega),λi j h _ _ _=>⟨h,by omega⟩,λ_ _ _ h=>absurd h (Nat.not_lt_zero _),λi _ _ v ⟨y,hy⟩ _ c hc=>?_,λi hi _ j hj nd lt=>?_⟩
 · rw [hy c hc]
   exact bf λx hx=>if_neg (by omega)
 · refine bz.zero.congr λc hc=>?_
   refine Classical.byContradiction λne=>nd ⟨c,hc,?_⟩
   rw [ve j hj]
   exact ne
theorem dQ.le (h:dQ n A φ o l b) {i:Nat} (hi:i < n):l i<=o i:=by
 refine Classical.byContradiction λne=>?_
 have a:=h.one i hi
 rw [h.lo i hi _ (by omega)] at a
 exact absurd a (by decide)
theorem dQ.sup (h:dQ n A φ o l b) {i:Nat} (hi:i < n):bz n A (l i) (o i) λc=>vec n A φ i c - A (o i) c:=by
 refine ⟨λx=>φ i x,λc hc=>?_⟩
 have on:=h.on i hi
 have e1:∀ m,m<=n->o i < m->aA (λr=>φ i r * A r c) m=aA (λr=>φ i r * A r c) (o i + 1):=λm=>by
   induction m with
   | zero=>intro _ z; exact absurd z (Nat.not_lt_zero _)
   | succ m ih=>
     intro h1 h2
     by_cases e:m=o i
     · rw [e]
     · rw [aA,ih (by omega) (by omega),h.hi i hi m (by omega),Rat.zero_mul,Rat.add_zero]
 show vec n A φ i c - A (o i) c=_
 unfold vec
 rw [e1 n (Nat.le_refl _) on,aA,h.one i hi]
 have e2:aA (λr=>φ i r * A r c) (o i)=aA (λx=>if l i<=x then φ i x * A x c else 0) (o i):=ar λx hx=>by
   by_cases e:l i<=x
   · rw [if_pos e]
   · rw [if_neg e,h.lo i hi x (by omega),Rat.zero_mul]
 rw [e2]
 grind
theorem dQ.zg (h:dQ n A φ o l b) {i:Nat} (hi:i < n):bz n A (l i) (o i + 1) (vec n A φ i):=by
 have a:=(h.sup hi).mono (Nat.le_refl _) (Nat.le_succ (o i))
 have c:=bz.mem (n:=n) (A:=A) (l:=l i) (u:=o i + 1) (x:=o i) (h.le hi) (Nat.lt_succ_self _)
 refine (a.lin c 1 1).congr λc hc=>?_
 show _=1 * (vec n A φ i c - A (o i) c) + 1 * A (o i) c
 grind
theorem lp (i:Nat) (f:Nat->Rat) {j:Nat} (c:Nat) (h:j ≠ i):vec n A (upA φ i f) j c=vec n A φ j c:=by
 unfold vec
 rw [bP h]
theorem om (i:Nat) (w:Rat) (c:Nat):vec n A (upA φ (i + 1) λr=>φ (i + 1) r - w * φ i r) (i + 1) c=vec n A φ (i + 1) c - w * vec n A φ i c:=by
 unfold vec
 rw [bT,aV]
 have e:∀ m,aA (λr=>(φ (i + 1) r - w * φ i r) * A r c) m=aA (λr=>φ (i + 1) r * A r c) m - aA (λk=>w * (φ i k * A k c)) m:=λm=>by
   induction m with
   | zero=>show (0:Rat)=0 - 0; grind
   | succ m ih=>rw [aA,aA,aA,ih]; grind
 exact e n
theorem dQ.tk (h:dQ n A φ o l b) {i γ:Nat} (hi:i + 1 < n) (ai:Al n A φ i) (aj:Al n A φ (i + 1)) (hγ:γ < n) (z:∀ c,c < γ->vec n A φ i c=0) (z':∀ c,c < γ->vec n A φ (i + 1) c=0) (p:vec n A φ i γ ≠ 0) (bi:b i<=γ) {w:Rat} (hw:vec n A φ (i + 1) γ=w * vec n A φ i γ) :
   dQ n A (upA φ (i + 1) λr=>φ (i + 1) r - w * φ i r) o (upA l (i + 1) (l i)) (upA b (i + 1) (γ + 1)):=by
 obtain ⟨oi,li⟩:=h.ord i (i + 1) (by omega) hi ai aj
 have al:∀ j,j ≠ i + 1->(Al n A (upA φ (i + 1) λr=>φ (i + 1) r - w * φ i r) j ↔ Al n A φ j):=λj ne=>by
   unfold Al
   simp only [lp (i + 1) _ _ ne]
 have betw:∀ x,o i < x->x < o (i + 1)->bz n A (l i) x (A x):=λx h1 h2=>by
   have on:=h.on (i + 1) hi
   obtain ⟨j,hj,rfl⟩:=h.sur x (by omega)
   by_cases aj':Al n A φ j
   · exfalso
     rcases Nat.lt_trichotomy j i with q | q | q
     · have:=(h.ord j i q (by omega) aj' ai).1; omega
     · subst q; omega
     · by_cases q2:j=i + 1
       · subst q2; omega
       · have:=(h.ord (i + 1) j (by omega) hj aj aj').1; omega
   · exact h.ded i (by omega) ai j hj aj' h1
 have down:∀ u,u<=o (i + 1)->∀ v,bz n A (l i) u v->bz n A (l i) (o i + 1) v:=λu=>by
   induction u with
   | zero=>intro _ v hv; exact hv.mono (Nat.le_refl _) (Nat.zero_le _)
   | succ u ih=>
     intro hu v hv
     by_cases q:u<=o i
     · exact hv.mono (Nat.le_refl _) (by omega)
     · obtain ⟨a,w,hw,e,_⟩:=hv.snoc
       refine ((ih (by omega) _ (betw u (by omega) (by omega))).lin (ih (by omega) _ hw) a 1).congr λc hc=>?_
       rw [e c hc,Rat.one_mul]
 refine ⟨h.on,h.sur,λj hj=>?_,λj hj r hr=>?_,λj hj r hr=>?_,λj j' lt hj' a1 a2=>?_,λj hj c h1 h2=>?_,λj hj a v hv hz=>?_,λj hj a j' hj' nd lt=>?_⟩
 · by_cases e:j=i + 1
   · subst e
     rw [bT,h.one (i + 1) hi,h.hi i (by omega) _ oi]
     grind
   · rw [bP e]; exact h.one j hj
 · by_cases e:j=i + 1
   · subst e
     rw [bT,h.hi (i + 1) hi r hr,h.hi i (by omega) r (by omega)]
     grind
   · rw [bP e]; exact h.hi j hj r hr
 · by_cases e:j=i + 1
   · subst e
     rw [bT] at hr ⊢
     rw [h.lo (i + 1) hi r (by omega),h.lo i (by omega) r hr]
     grind
   · rw [bP e] at hr ⊢; exact h.lo j hj r hr
 · by_cases e:j=i + 1
   · subst e
     rw [bT,bP (show j' ≠ i + 1 by omega)]
     have:=h.ord (i + 1) j' lt hj' aj ((al j' (by omega)).mp a2)
     exact ⟨this.1,by omega⟩
   · by_cases e':j'=i + 1
     · subst e'
       rw [bT,bP e]
       have a1:=(al j e).mp a1
       by_cases q:j=i
       · subst q; exact ⟨oi,Nat.le_refl _⟩
       · have:=h.ord j i (by omega) (by omega) a1 ai
         exact ⟨by omega,this.2⟩
     · rw [bP e,bP e']
       exact h.ord j j' lt hj' ((al j e).mp a1) ((al j' e').mp a2)
 · by_cases e:j=i + 1
   · subst e
     rw [bT] at h1
     rw [om]
     by_cases q:c=γ
     · rw [q,hw]; grind
     · rw [z c (by omega),z' c (by omega)]; grind
   · rw [bP e] at h1
     rw [lp _ _ _ e]
     exact h.van j hj c h1 h2
 · by_cases e:j=i + 1
   · subst e
     rw [bT] at hv
     rw [bT] at hz
     obtain ⟨a,w1,hw1,e1,_⟩:=(down _ (Nat.le_refl _) v hv).snoc
     have hu:bz n A (l i) (o i) λc=>1 * w1 c + (-a) * (vec n A φ i c - A (o i) c):=hw1.lin (h.sup (by omega)) 1 (-a)
     have zu:=h.inj i (by omega) ai _ hu λc h1 h2=>by
       have y1:=hz c (by omega) h2
       rw [e1 c h2] at y1
       have y2:=z c (by omega)
       show 1 * w1 c + (-a) * (vec n A φ i c - A (o i) c)=0
       rw [y2]
       grind
     have vv:∀ c,c < n->v c=a * vec n A φ i c:=λc hc=>by
       have y:1 * w1 c + (-a) * (vec n A φ i c - A (o i) c)=0:=zu c hc
       rw [e1 c hc]
       grind
     have a0:a=0:=by
       have y:=hz γ (by omega) hγ
       rw [vv γ hγ] at y
       rcases Rat.mul_eq_zero.mp y with y | y
       · exact y
       · exact absurd y p
     intro c hc
     rw [vv c hc,a0,Rat.zero_mul]
   · rw [bP e] at hv hz
     exact h.inj j hj ((al j e).mp a) v hv hz
 · by_cases e:j=i + 1
   · subst e
     rw [bT]
     have ne:j' ≠ i + 1:=λq=>by subst q; omega
     exact (h.ded (i + 1) hi aj j' hj' (λq=>nd ((al j' ne).mpr q)) lt).mono li (Nat.le_refl _)
   · rw [bP e]
     have a':=(al j e).mp a
     by_cases e':j'=i + 1
     · subst e'
       have lj:l j<=l i:=by
         rcases Nat.lt_trichotomy j i with q | q | q
         · exact (h.ord j i q (by omega) a' ai).2
         · rw [q]; exact Nat.le_refl _
         · have:=(h.ord (i + 1) j (by omega) hj aj a').1; omega
       have z0:∀ c,c < n->vec n A φ (i + 1) c - w * vec n A φ i c=0:=λc hc=>Classical.byContradiction λne=>nd ⟨c,hc,by rw [om]; exact ne⟩
       have s1:=(h.sup hi).mono (l':=l i) li (Nat.le_refl _)
       have s2:=(h.zg (i:=i) (by omega)).mono (l':=l i) (u':=o (i + 1)) (Nat.le_refl _) oi
       refine ((s1.lin s2 (-1) w).mono lj (Nat.le_refl _)).congr λc hc=>?_
       have y:=z0 c hc
       show A (o (i + 1)) c=-1 * (vec n A φ (i + 1) c - A (o (i + 1)) c) + w * vec n A φ i c
       grind
     · exact h.ded j hj a' j' hj' (λq=>nd ((al j' e').mpr q)) lt
theorem cj {n i j:Nat} (hi:i + 1 < n) (hj:j < n):swp i j < n:=by unfold swp; split <;> (try split) <;> omega
theorem v7 (i j:Nat):swp i (swp i j)=j:=by
 unfold swp
 by_cases h:j=i
 · rw [if_pos h,if_neg (by omega),if_pos rfl]; omega
 · rw [if_neg h]
   by_cases h2:j=i + 1
   · rw [if_pos h2,if_pos rfl]; omega
   · rw [if_neg h2,if_neg h,if_neg h2]
theorem dQ.lf (h:dQ n A φ o l b) {i:Nat} (hi:i + 1 < n) (d:¬ Al n A φ i):dQ n A (λj=>φ (swp i j)) (λj=>o (swp i j)) (λj=>l (swp i j)) λj=>b (swp i j):=by
 have al:∀ j,Al n A (λj=>φ (swp i j)) j ↔ Al n A φ (swp i j):=λj=>Iff.rfl
 refine ⟨λj hj=>h.on _ (cj hi hj),λr hr=>?_,λj hj=>h.one _ (cj hi hj),λj hj=>h.hi _ (cj hi hj),λj hj=>h.lo _ (cj hi hj),λj j' lt hj' a1 a2=>?_,λj hj=>h.van _ (cj hi hj),λj hj=>h.inj _ (cj hi hj),λj hj a j' hj'=>h.ded _ (cj hi hj) a _ (cj hi hj')⟩
 · obtain ⟨j,hj,e⟩:=h.sur r hr
   exact ⟨swp i j,cj hi hj,by rw [v7]; exact e⟩
 · have n1:swp i j ≠ i:=λe=>d (by have:=(al j).mp a1; rw [e] at this; exact this)
   have n2:swp i j' ≠ i:=λe=>d (by have:=(al j').mp a2; rw [e] at this; exact this)
   have q1:j ≠ i + 1:=λe=>n1 (by rw [e]; exact ie)
   have q2:j' ≠ i + 1:=λe=>n2 (by rw [e]; exact ie)
   refine h.ord _ _ ?_ (cj hi hj') a1 a2
   unfold swp
   rw [if_neg q1,if_neg q2]
   split <;> split <;> omega
end
section
variable {P:Program} {w:World} {K:PySem.W.Frag} {mg:Str->Option Value} {base:Heap} {k:Nat} {f:Addr} {fd:FuncData} {qual:Str}
end
structure Bas (n:Nat) (A:Nat->Nat->Rat) (l u b s:Nat) (ρ γ:Nat->Nat):Prop where
 rows:∀ i,i < s->l<=ρ i/\ρ i < u
 cols:∀ i,i < s->γ i < b/\γ i < n
 det0:det s (λi j=>A (ρ i) (γ j)) ≠ 0
 span:∀ x,l<=x->x < u->∃ y:Nat->Rat,∀ c,c < n->A x c=aA (λi=>y i * A (ρ i) c) s
 len:s<=u
noncomputable def brd (A:Nat->Nat->Rat) (ρ γ:Nat->Nat) (s x:Nat) (i j:Nat):Rat:=A (if i < s then ρ i else x) (if j < s then γ j else j - s)
noncomputable def brc (A:Nat->Nat->Rat) (ρ γ:Nat->Nat) (s x i:Nat):Rat:=bc (brd A ρ γ s x) s s i
section
variable {n:Nat} {A:Nat->Nat->Rat} {ρ γ:Nat->Nat} {s x:Nat}
theorem p9:det s (brd A ρ γ s x)=det s λi j=>A (ρ i) (γ j):=aD λi hi j hj=>by
 unfold brd
 rw [if_pos hi,if_pos hj]
noncomputable def rsd (A:Nat->Nat->Rat) (ρ γ:Nat->Nat) (s x c:Nat):Rat:=det s (λi j=>A (ρ i) (γ j)) * A x c + aA (λi=>brc A ρ γ s x i * A (ρ i) c) s
theorem rN (c:Nat):rsd A ρ γ s x c=bm (brd A ρ γ s x) s s (s + c):=by
 rw [n8,p9]
 unfold rsd
 congr 1
 · unfold brd
   rw [if_neg (by omega),if_neg (by omega),Nat.add_sub_cancel_left]
 · refine ar λi hi=>?_
   unfold brc
   congr 1
   unfold brd
   rw [if_pos hi,if_neg (by omega),Nat.add_sub_cancel_left]
theorem uh {j:Nat} (hj:j < s):rsd A ρ γ s x (γ j)=0:=by
 have e:=n8 (Y:=brd A ρ γ s x) (k:=s) (p:=s) (q:=j)
 rw [pP hj,p9] at e
 unfold rsd
 have e1:brd A ρ γ s x s j=A x (γ j):=by
   unfold brd
   rw [if_neg (by omega),if_pos hj]
 rw [e1] at e
 rw [e]
 congr 1
 refine ar λi hi=>?_
 unfold brc
 congr 1
 unfold brd
 rw [if_pos hi,if_pos hj]
theorem bz.sum {l u:Nat} {n:Nat} {A:Nat->Nat->Rat} (y:Nat->Rat) (ρ:Nat->Nat):∀ s,(∀ i,i < s->l<=ρ i/\ρ i < u)->bz n A l u λc=>aA (λi=>y i * A (ρ i) c) s
 | 0,_=>bz.zero
 | s + 1,h=>by
   have a:=bz.sum (l:=l) (u:=u) (n:=n) (A:=A) y ρ s λi hi=>h i (by omega)
   have b:=bz.mem (n:=n) (A:=A) (h s (by omega)).1 (h s (by omega)).2
   refine (a.lin b 1 (y s)).congr λc _=>?_
   show aA _ s + y s * A (ρ s) c=_
   rw [Rat.one_mul]
end
theorem uz {n:Nat} {A:Nat->Nat->Rat} {l b:Nat}:∀ u,(∀ v,bz n A l u v->(∀ c,c < b->c < n->v c=0)->∀ c,c < n->v c=0)->∃ s ρ γ,Bas n A l u b s ρ γ
 | 0,_=>⟨0,id,id,λ_ h=>absurd h (Nat.not_lt_zero _),λ_ h=>absurd h (Nat.not_lt_zero _),(by decide:(1:Rat) ≠ 0),λ_ _ h=>absurd h (Nat.not_lt_zero _),Nat.le_refl _⟩
 | u + 1,h=>by
   by_cases lu:u < l
   · exact ⟨0,id,id,λ_ h=>absurd h (Nat.not_lt_zero _),λ_ h=>absurd h (Nat.not_lt_zero _),(by decide:(1:Rat) ≠ 0),λ_ h1 h2=>absurd h1 (by omega),Nat.zero_le _⟩
   obtain ⟨s,ρ,γ,B⟩:=uz u λv hv=>h v (hv.mono (Nat.le_refl _) (Nat.le_succ u))
   by_cases z:∀ c,c < b->c < n->rsd A ρ γ s u c=0
   ·
     have ri:bz n A l (u + 1) (rsd A ρ γ s u):=by
       have a:=bz.mem (n:=n) (A:=A) (l:=l) (u:=u + 1) (x:=u) (by omega) (Nat.lt_succ_self u)
       have c:=bz.sum (l:=l) (u:=u + 1) (n:=n) (A:=A) (brc A ρ γ s u) ρ s λi hi=>⟨(B.rows i hi).1,by have:=(B.rows i hi).2; omega⟩
       refine (a.lin c (det s λi j=>A (ρ i) (γ j)) 1).congr λc _=>?_
       show rsd A ρ γ s u c=_ * A u c + 1 * _
       rw [Rat.one_mul]
       rfl
     have z0:=h _ ri z
     refine ⟨s,ρ,γ,λi hi=>⟨(B.rows i hi).1,by have:=(B.rows i hi).2; omega⟩,B.cols,B.det0,λx h1 h2=>?_,by have:=B.len; omega⟩
     by_cases e:x=u
     · subst e
       refine ⟨λi=>-(brc A ρ γ s x i) / det s (λi j=>A (ρ i) (γ j)),λc hc=>?_⟩
       have y:=z0 c hc
       unfold rsd at y
       have d0:=B.det0
       refine pf d0 ?_
       rw [aV]
       have e2:aA (λi=>det s (λi j=>A (ρ i) (γ j)) * (-(brc A ρ γ s x i) / det s (λi j=>A (ρ i) (γ j)) * A (ρ i) c)) s=-1 * aA (λi=>brc A ρ γ s x i * A (ρ i) c) s:=by
         rw [aV]
         refine ar λi _=>?_
         generalize (det s λi j=>A (ρ i) (γ j))=D at d0 ⊢
         generalize brc A ρ γ s x i=t
         generalize A (ρ i) c=a
         have:-t / D * D=-t:=Rat.div_mul_cancel d0
         generalize -t / D=q at this ⊢
         grind
       rw [e2]
       grind
     · exact B.span x h1 (by omega)
   ·
     obtain ⟨c0,h1,h2,h3⟩:∃ c0,c0 < b/\c0 < n/\rsd A ρ γ s u c0 ≠ 0:=Classical.byContradiction λno=>z λc h1 h2=>Classical.byContradiction λne=>no ⟨c,h1,h2,ne⟩
     refine ⟨s + 1,upA ρ s u,upA γ s c0,λi hi=>?_,λi hi=>?_,?_,λx x1 x2=>?_,by have:=B.len; omega⟩
     · by_cases e:i=s
       · rw [e,bT]; omega
       · rw [bP e]
         have:=B.rows i (by omega)
         omega
     · by_cases e:i=s
       · rw [e,bT]; exact ⟨h1,h2⟩
       · rw [bP e]; exact B.cols i (by omega)
     · rw [rN] at h3
       have e:det (s + 1) (λi j=>A (upA ρ s u i) (upA γ s c0 j))=bm (brd A ρ γ s u) s s (s + c0):=by
         unfold bm
         refine aD λi hi j hj=>?_
         unfold brd
         have e1:(if (if i < s then i else s) < s then ρ (if i < s then i else s) else u)=upA ρ s u i:=by
           by_cases q:i < s
           · rw [if_pos q,if_pos q,bP (by omega)]
           · have:i=s:=by omega
             rw [if_neg q,if_neg (by omega),this,bT]
         have e2:(if (if j < s then j else s + c0) < s then γ (if j < s then j else s + c0) else (if j < s then j else s + c0) - s)=upA γ s c0 j:=by
           by_cases q:j < s
           · rw [if_pos q,if_pos q,bP (by omega)]
           · have:j=s:=by omega
             rw [if_neg q,if_neg (by omega),this,bT,Nat.add_sub_cancel_left]
         rw [e1,e2]
       rw [e]
       exact h3
     · by_cases e:x=u
       · subst e
         refine ⟨λi=>if i=s then 1 else 0,λc hc=>?_⟩
         rw [aA,bf λi hi=>?_]
         · show A x c=0 + (if s=s then (1:Rat) else 0) * A (upA ρ s x s) c
           rw [if_pos rfl,bT,Rat.zero_add,Rat.one_mul]
         · show (if i=s then (1:Rat) else 0) * _=0
           rw [if_neg (by omega),Rat.zero_mul]
       · obtain ⟨y,hy⟩:=B.span x x1 (by omega)
         refine ⟨λi=>if i=s then 0 else y i,λc hc=>?_⟩
         have e0:(λi=>if i=s then 0 else y i) s * A (upA ρ s u s) c=0:=by
           show (if s=s then (0:Rat) else y s) * _=0
           rw [if_pos rfl,Rat.zero_mul]
         rw [hy c hc,aA,e0,Rat.add_zero]
         refine ar λi hi=>?_
         show _=(if i=s then 0 else y i) * A (upA ρ s u i) c
         rw [if_neg (by omega),bP (by omega)]
theorem vK {s:Nat} {M:Nat->Nat->Rat} (h0:det s M ≠ 0) {y:Nat->Rat} (h:∀ j,j < s->aA (λi=>y i * M i j) s=0):∀ i,i < s->y i=0:=λi hi=>by
 have e1:=(bN s).sum M hi y (λi' j=>M i' j) s
 have e2:det s (aw M i λj=>aA (λc=>y c * M c j) s)=0:=by
   rw [<- (bN s).tP M hi]
   refine aD λr hr c hc=>?_
   unfold aw
   split
   · exact h c hc
   · rfl
 have e3:aA (λc=>y c * det s (aw M i λj=>M c j)) s=aA (λc=>(y c * det s M) * dq c i) s:=ar λc hc=>by
   unfold dq
   by_cases e:c=i
   · rw [if_pos e,e,show (λj=>M i j)=M i from rfl,bq,Rat.mul_one]
   · rw [if_neg e,(bN s).same (p:=i) (q:=c) hi hc (Ne.symm e) (by rw [bF,bG e]),Rat.mul_zero,Rat.mul_zero]
 rw [e2,e3,bE _ _ _ hi] at e1
 rcases Rat.mul_eq_zero.mp e1.symm with z | z
 · exact z
 · exact absurd z h0
theorem dQ.rep {n:Nat} {A φ:Nat->Nat->Rat} {o l b:Nat->Nat} (h:dQ n A φ o l b) {i:Nat} (hi:i < n) (a:Al n A φ i):∃ s ρ γ,s<=o i/\(∀ t,t < s->ρ t < n)/\(∀ t,t < s->γ t < n)/\det s (λx y=>A (ρ x) (γ y)) ≠ 0/\∀ c,c < n->det s (λx y=>A (ρ x) (γ y)) * vec n A φ i c=rsd A ρ γ s (o i) c:=by
 obtain ⟨s,ρ,γ,B⟩:=uz (n:=n) (A:=A) (l:=l i) (b:=b i) (o i) (h.inj i hi a)
 have on:=h.on i hi
 refine ⟨s,ρ,γ,B.len,λt ht=>by have:=(B.rows t ht).2; omega,λt ht=>(B.cols t ht).2,B.det0,?_⟩
 obtain ⟨y,hy⟩:∃ y:Nat->Rat,∀ c,c < n->vec n A φ i c - A (o i) c=aA (λt=>y t * A (ρ t) c) s:=by
   have all:∀ u,u<=o i->∀ v,bz n A (l i) u v->∃ y:Nat->Rat,∀ c,c < n->v c=aA (λt=>y t * A (ρ t) c) s:=λu=>by
     induction u with
     | zero=>
       intro _ v ⟨z,hz⟩
       exact ⟨λ_=>0,λc hc=>by
         rw [hz c hc]
         symm
         exact bf λ_ _=>Rat.zero_mul _⟩
     | succ u ih=>
       intro hu v hv
       obtain ⟨a,w,hw,e,z⟩:=hv.snoc
       obtain ⟨y,hy⟩:=ih (by omega) w hw
       by_cases q:u < l i
       · exact ⟨y,λc hc=>by rw [e c hc,z q,Rat.zero_mul,Rat.zero_add]; exact hy c hc⟩
       · obtain ⟨y',hy'⟩:=B.span u (by omega) (by omega)
         refine ⟨λt=>a * y' t + y t,λc hc=>?_⟩
         rw [e c hc,hy' c hc,hy c hc,aV,<- cv]
         refine ar λt _=>?_
         grind
   exact all _ (Nat.le_refl _) _ (h.sup hi)
 have k:=vK B.det0 (y:=λt=>det s (λx y=>A (ρ x) (γ y)) * y t - brc A ρ γ s (o i) t) λj hj=>by
   have e1:vec n A φ i (γ j)=0:=h.van i hi _ (B.cols j hj).1 (B.cols j hj).2
   have e2:=hy (γ j) (B.cols j hj).2
   have e3:=uh (A:=A) (ρ:=ρ) (γ:=γ) (x:=o i) hj
   unfold rsd at e3
   have e4:aA (λt=>(det s (λx y=>A (ρ x) (γ y)) * y t - brc A ρ γ s (o i) t) * A (ρ t) (γ j)) s=det s (λx y=>A (ρ x) (γ y)) * aA (λt=>y t * A (ρ t) (γ j)) s + -1 * aA (λt=>brc A ρ γ s (o i) t * A (ρ t) (γ j)) s:=by
     rw [aV,aV,<- cv]
     refine ar λt _=>?_
     grind
   rw [e4,<- e2,e1]
   grind
 intro c hc
 unfold rsd
 have e:vec n A φ i c=A (o i) c + aA (λt=>y t * A (ρ t) c) s:=by rw [<- hy c hc]; grind
 rw [e,Rat.mul_add,aV]
 congr 1
 refine ar λt ht=>?_
 have:=k t ht
 generalize (det s λx y=>A (ρ x) (γ y))=D at this ⊢
 grind
section
variable {P:Program} {w:World} {K:PySem.W.Frag} {mg:Str->Option Value} {base:Heap} {k:Nat} {f:Addr} {fd:FuncData} {qual:Str}
end
noncomputable def trN (N:Nat->Nat->Rat):Nat->Nat->Rat:=λi j=>N j i
noncomputable def dbl (n:Nat) (N φ κ:Nat->Nat->Rat) (i j:Nat):Rat:=aA (λc=>vec n N φ i c * κ j c) n
theorem wc (n:Nat) (N φ κ:Nat->Nat->Rat) (i j:Nat):dbl n (trN N) κ φ j i=dbl n N φ κ i j:=by
 unfold dbl vec trN
 have e1:aA (λc=>aA (λr=>φ i r * N r c) n * κ j c) n=aA (λc=>aA (λr=>φ i r * N r c * κ j c) n) n:=ar λc _=>fo _ _ _
 have e2:aA (λc=>aA (λr=>κ j r * N c r) n * φ i c) n=aA (λc=>aA (λr=>φ i c * N c r * κ j r) n) n:=ar λc _=>by
   rw [fo]
   exact ar λr _=>by grind
 rw [e1,e2,fy]
structure dH (n:Nat) (N:Nat->Nat->Rat) (sc tc:Nat->Rat) (g φ:Nat->Nat->Rat) (o l b:Nat->Nat) (κ:Nat->Nat->Rat) (o' l' b':Nat->Nat):Prop where
 R:dQ n N φ o l b
 C:dQ n (trN N) κ o' l' b'
 lk:∀ i,i < n->∀ j,j < n->sc (o i) * tc (o' j) * g i j=dbl n N φ κ i j
 pos:∀ r,0 < sc r
 pos':∀ r,0 < tc r
theorem lX {f κ:Nat->Rat} {c:Nat} (h1:κ c=1) (h2:∀ x,c < x->κ x=0) (h3:∀ x,x < c->f x=0):∀ n,c < n->aA (λx=>f x * κ x) n=f c
 | 0,h=>absurd h (Nat.not_lt_zero _)
 | n + 1,h=>by
   rw [aA]
   by_cases e:c=n
   · rw [<- e,bf λx hx=>by show f x * κ x=0; rw [h3 x hx,Rat.zero_mul],h1,Rat.zero_add,Rat.mul_one]
   · rw [lX h1 h2 h3 n (by omega),h2 n (by omega),Rat.mul_zero,Rat.add_zero]
section
variable {n k:Nat} {N g φ κ:Nat->Nat->Rat} {sc tc:Nat->Rat} {o l b o' l' b':Nat->Nat}
theorem dH.tr (G:dH n N sc tc g φ o l b κ o' l' b'):(∀ i,i < n->∀ j,j < n->sc (o i) * tc (o' j) * g i j=dbl n (trN N) κ φ j i):=λi hi j hj=>by rw [wc]; exact G.lk i hi j hj
theorem nJ {s x:Rat} (hs:0 < s) (h:s * x=0):x=0:=by
 rcases Rat.mul_eq_zero.mp h with z | z
 · rw [z] at hs; exact absurd hs (by decide)
 · exact z
theorem dH.alR (G:dH n N sc tc g φ o l b κ o' l' b') {i j:Nat} (hi:i < n) (hj:j < n) (h:g i j ≠ 0):Al n N φ i:=Classical.byContradiction λno=>h <| nJ (Rat.mul_pos (G.pos (o i)) (G.pos' (o' j))) (by
 rw [G.lk i hi j hj]
 exact bf λc hc=>by
   have:vec n N φ i c=0:=Classical.byContradiction λne=>no ⟨c,hc,ne⟩
   show vec n N φ i c * κ j c=0
   rw [this,Rat.zero_mul])
theorem dH.alC (G:dH n N sc tc g φ o l b κ o' l' b') {i j:Nat} (hi:i < n) (hj:j < n) (h:g i j ≠ 0):Al n (trN N) κ j:=Classical.byContradiction λno=>h <| nJ (Rat.mul_pos (G.pos (o i)) (G.pos' (o' j))) (by
 rw [G.tr i hi j hj]
 exact bf λc hc=>by
   have:vec n (trN N) κ j c=0:=Classical.byContradiction λne=>no ⟨c,hc,ne⟩
   show vec n (trN N) κ j c * φ i c=0
   rw [this,Rat.zero_mul])
theorem dH.low (G:dH n N sc tc g φ o l b κ o' l' b') {i t:Nat} (hi:i < n) (ht:t<=n) (h:∀ j,j < n->o' j < t->g i j=0):∀ c,c < t->vec n N φ i c=0:=λc=>by
 induction c using Nat.strongRecOn with
 | ind c ih=>
   intro hc
   obtain ⟨j,hj,e⟩:=G.C.sur c (by omega)
   have z:=G.lk i hi j hj
   rw [h j hj (by omega),Rat.mul_zero] at z
   unfold dbl at z
   rw [lX (c:=c) (by rw [<- e]; exact G.C.one j hj) (λx hx=>G.C.hi j hj x (by omega)) (λx hx=>ih x hx (by omega)) n (by omega)] at z
   exact z.symm
theorem dH.dead (G:dH n N sc tc g φ o l b κ o' l' b') {i:Nat} (hi:i < n) (h:∀ j,j < n->g i j=0):¬ Al n N φ i:=λ⟨c,hc,ne⟩=>ne (G.low hi (Nat.le_refl n) (λj hj _=>h j hj) c hc)
theorem dH.piv (G:dH n N sc tc g φ o l b κ o' l' b') (B:Bl n k g) (hk:k < n) (ak:Al n (trN N) κ k) {i:Nat} (hki:k<=i) (hi:i < n):(∀ c,c < o' k->vec n N φ i c=0)/\vec n N φ i (o' k)=sc (o i) * tc (o' k) * g i k:=by
 have low:∀ c,c < o' k->vec n N φ i c=0:=G.low hi (Nat.le_of_lt (G.C.on k hk)) λj hj lt=>by
   by_cases q:j < k
   · exact B.off i hi j hj (by omega) (.inr q)
   · have jk:k < j:=by
       have:j ≠ k:=λe=>by rw [e] at lt; omega
       omega
     refine Classical.byContradiction λne=>?_
     have:=(G.C.ord k j jk hj ak (G.alC hi hj ne)).1
     omega
 refine ⟨low,?_⟩
 rw [G.lk i hi k hk]
 unfold dbl
 exact (lX (G.C.one k hk) (G.C.hi k hk) low n (G.C.on k hk)).symm
theorem xI (i:Nat) (f:Nat->Rat) {x:Nat} (j:Nat) (h:x ≠ i):dbl n N (upA φ i f) κ x j=dbl n N φ κ x j:=by
 unfold dbl
 exact ar λc _=>by rw [lp _ _ _ h]
theorem yk (i:Nat) (w:Rat) (j:Nat):dbl n N (upA φ (i + 1) λr=>φ (i + 1) r - w * φ i r) κ (i + 1) j=dbl n N φ κ (i + 1) j - w * dbl n N φ κ i j:=by
 unfold dbl
 have e:∀ m,aA (λc=>vec n N (upA φ (i + 1) λr=>φ (i + 1) r - w * φ i r) (i + 1) c * κ j c) m=aA (λc=>vec n N φ (i + 1) c * κ j c) m - w * aA (λc=>vec n N φ i c * κ j c) m:=λm=>by
   induction m with
   | zero=>show (0:Rat)=0 - w * 0; grind
   | succ m ih=>rw [aA,aA,aA,ih,om]; grind
 exact e n
noncomputable def PB (n k d:Nat) (N κ:Nat->Nat->Rat) (b o':Nat->Nat):Prop:=∀ i,k<=i->i < n->(∀ j,k < j->j < n->Al n (trN N) κ j->b i<=o' j)/\(i<=k + d->Al n (trN N) κ k->b i<=o' k)
noncomputable def CB (n lo m:Nat) (N φ:Nat->Nat->Rat) (o b':Nat->Nat):Prop:=∀ j,lo<=j->j < n->∀ i,m<=i->i < n->Al n N φ i->b' j<=o i
noncomputable def Gd (n k d lo m:Nat) (N:Nat->Nat->Rat) (sc tc:Nat->Rat) (g κ:Nat->Nat->Rat) (o' l' b':Nat->Nat):Prop:=∃ φ o l b,dH n N sc tc g φ o l b κ o' l' b'/\PB n k d N κ b o'/\CB n lo m N φ o b'
theorem Gd.one {d lo m:Nat} (h:Gd n k (d + 1) lo m N sc tc g κ o' l' b') (B:Bl n k g) (hd:k + d + 1 < n) (hm:m=k\/(m=k + 1/\g k k ≠ 0)):Gd n k d lo m N sc tc (cw k (k + d) g) κ o' l' b':=by
 obtain ⟨φ,o,l,b,G,P,Q⟩:=h
 unfold cw
 by_cases e1:g (k + d + 1) k=0
 · rw [if_pos e1]
   exact ⟨φ,o,l,b,G,λi h1 h2=>⟨(P i h1 h2).1,λh3=>(P i h1 h2).2 (by omega)⟩,Q⟩
 rw [if_neg e1]
 have ak:=G.alC hd (by omega) e1
 have aj:=G.alR hd (by omega) e1
 by_cases e2:g (k + d) k=0
 · rw [if_pos e2]
   have dd:=G.dead (by omega) (B.vG (i:=k + d) (by omega) hd e2 e1)
   refine ⟨_,_,_,_,⟨G.R.lf hd dd,G.C,λi hi j hj=>G.lk _ (cj hd hi) j hj,G.pos,G.pos'⟩,λi h1 h2=>?_,λj h1 h2 i h3 h4 a=>?_⟩
   · have s1:k<=swp (k + d) i:=by unfold swp; split <;> (try split) <;> omega
     have s2:=cj hd h2
     refine ⟨(P _ s1 s2).1,λh3 ak'=>(P _ s1 s2).2 ?_ ak'⟩
     unfold swp
     split <;> (try split) <;> omega
   · refine Q j h1 h2 (swp (k + d) i) ?_ (cj hd h4) a
     rcases hm with rfl | ⟨rfl,nz⟩
     · unfold swp; split <;> (try split) <;> omega
     · have:d ≠ 0:=λz=>nz (by rw [z] at e2; exact e2)
       unfold swp; split <;> (try split) <;> omega
 · rw [if_neg e2]
   have ai:=G.alR (i:=k + d) (by omega) (by omega) e2
   obtain ⟨z1,p1⟩:=G.piv B (by omega) ak (i:=k + d) (by omega) (by omega)
   obtain ⟨z2,p2⟩:=G.piv B (by omega) ak (i:=k + d + 1) (by omega) hd
   have ps:=G.pos (o (k + d))
   have s0:sc (o (k + d)) ≠ 0:=λz=>by rw [z] at ps; exact absurd ps (by decide)
   have hw:vec n N φ (k + d + 1) (o' k)=(g (k + d + 1) k / g (k + d) k * sc (o (k + d + 1)) / sc (o (k + d))) * vec n N φ (k + d) (o' k):=by
     rw [p1,p2]
     have e2:g (k + d) k ≠ 0:=e2
     generalize g (k + d + 1) k=x
     generalize g (k + d) k=y at e2 ⊢
     generalize sc (o (k + d))=s at s0 ⊢
     generalize sc (o (k + d + 1))=t
     generalize tc (o' k)=v
     grind
   have r:=G.R.tk (i:=k + d) (γ:=o' k) hd ai aj (G.C.on k (by omega)) z1 z2 (by rw [p1]; exact λz=>e2 (nJ (Rat.mul_pos ps (G.pos' (o' k))) z)) ((P (k + d) (by omega) (by omega)).2 (by omega) ak) hw
   refine ⟨_,_,_,_,⟨r,G.C,λi hi j hj=>?_,G.pos,G.pos'⟩,λi h1 h2=>?_,λj h1 h2 i h3 h4 a=>?_⟩
   · unfold tkF
     by_cases q:i=k + d + 1
     · subst q
       rw [if_pos rfl,yk,<- G.lk _ hd j hj,<- G.lk _ (show k + d < n by omega) j hj]
       generalize g (k + d + 1) k / g (k + d) k=w
       generalize sc (o (k + d))=s at s0 ⊢
       generalize sc (o (k + d + 1))=t
       generalize tc (o' j)=v
       have:w * t / s * s=w * t:=Rat.div_mul_cancel s0
       generalize w * t / s=q at this ⊢
       grind
     · rw [if_neg q,xI _ _ _ q]
       exact G.lk i hi j hj
   · by_cases q:i=k + d + 1
     · subst q
       rw [bT]
       exact ⟨λj h3 h4 a=>(G.C.ord k j h3 h4 ak a).1,λh3=>absurd h3 (by omega)⟩
     · rw [bP q]
       exact ⟨(P i h1 h2).1,λh3=>(P i h1 h2).2 (by omega)⟩
   · refine Q j h1 h2 i h3 h4 ?_
     by_cases q:i=k + d + 1
     · rw [q]; exact aj
     · obtain ⟨c,hc,ne⟩:=a
       exact ⟨c,hc,by rw [lp _ _ _ q] at ne; exact ne⟩
end
section
variable {P:Program} {w:World} {K:PySem.W.Frag} {mg:Str->Option Value} {base:Heap} {k:Nat} {f:Addr} {fd:FuncData} {qual:Str}
end
noncomputable def Ok0 (n:Nat) (N:Nat->Nat->Rat) (sc tc:Nat->Rat) (g:Nat->Nat->Rat):Prop:=∃ φ o l b κ o' l' b',dH n N sc tc g φ o l b κ o' l' b'
noncomputable def Sz (n M:Nat) (g:Nat->Nat->Rat):Prop:=∀ i,i < n->∀ j,j < n->Sq M (g i j)
noncomputable def SzP (n M k:Nat):Nat->(Nat->Nat->Rat)->Prop
 | 0,g=>Sz n M g
 | d + 1,g=>Sz n M g/\SzP n M k d (cw k (k + d) g)
theorem dH.swp {n:Nat} {N g φ κ:Nat->Nat->Rat} {sc tc:Nat->Rat} {o l b o' l' b':Nat->Nat} (G:dH n N sc tc g φ o l b κ o' l' b'):dH n (trN N) tc sc (trF g) κ o' l' b' φ o l b:=
 ⟨G.C,G.R,λi hi j hj=>by
   show tc (o' i) * sc (o j) * g j i=dbl n (trN N) κ φ i j
   rw [wc,<- G.lk j hj i hi]
   grind,G.pos',G.pos⟩
theorem Ok0.tr {n:Nat} {N g:Nat->Nat->Rat} {sc tc:Nat->Rat} (h:Ok0 n N sc tc g):Ok0 n (trN N) tc sc (trF g):=by
 obtain ⟨φ,o,l,b,κ,o',l',b',G⟩:=h
 exact ⟨κ,o',l',b',φ,o,l,b,G.swp⟩
theorem Sz.tr {n M:Nat} {g:Nat->Nat->Rat} (h:Sz n M g):Sz n M (trF g):=λi hi j hj=>h j hj i hi
theorem mn {n M k:Nat} {g:Nat->Nat->Rat} (h:Sz n M g):∀ d,(∀ i,k < i->i<=k + d->g i k=0)->SzP n M k d g
 | 0,_=>h
 | d + 1,z=>⟨h,by
   have e:cw k (k + d) g=g:=by unfold cw; rw [if_pos (z (k + d + 1) (by omega) (by omega))]
   rw [e]
   exact mn h d λi h1 h2=>z i h1 (by omega)⟩
section
variable {n k:Nat} {N:Nat->Nat->Rat} {sc tc:Nat->Rat}
theorem Gd.all {κ:Nat->Nat->Rat} {o' l' b':Nat->Nat} {lo m:Nat}:∀ (d:Nat) (g:Nat->Nat->Rat),Gd n k d lo m N sc tc g κ o' l' b'->Bl n k g->k + d < n->(∀ i,k + d < i->i < n->g i k=0)->(m=k\/(m=k + 1/\g k k ≠ 0))->Gd n k 0 lo m N sc tc (clG k d g) κ o' l' b'/\∀ M,(∀ g,Ok0 n N sc tc g->Sz n M g)->SzP n M k d g
 | 0,g,h,_,_,_,_=>⟨h,λM hS=>by
   obtain ⟨φ,o,l,b,G,_,_⟩:=h
   exact hS g ⟨φ,o,l,b,κ,o',l',b',G⟩⟩
 | d + 1,g,h,B,hd,hz,hm=>by
   have o:=tL B hd hz
   have h1:=h.one B hd hm
   have r:=Gd.all d _ h1 o.bl (by omega) o.z (hm.imp id λ⟨e,nz⟩=>⟨e,by rw [o.keep nz]; exact nz⟩)
   refine ⟨r.1,λM hS=>⟨?_,r.2 M hS⟩⟩
   obtain ⟨φ,o,l,b,G,_,_⟩:=h
   exact hS g ⟨φ,o,l,b,κ,o',l',b',G⟩
noncomputable def FS (n k:Nat) (N:Nat->Nat->Rat) (sc tc:Nat->Rat) (g:Nat->Nat->Rat):Prop:=∃ φ o l b κ o' l' b',dH n N sc tc g φ o l b κ o' l' b'/\CB n k k (trN N) κ o' b/\CB n k k N φ o b'
theorem tK {g:Nat->Nat->Rat} (B:Bl n k g) (hk:k < n) (nz:st2 n k g k k=0):∀ i,k < i->i<=k + (n - 1 - k)->st2 n k g i k=0:=λi i1 i2=>by
 have c1:=fU (n - 1 - k) g B (by omega) λi h1 h2=>by omega
 have hr:∀ j,k<=j->j < n->st1 n k g k j=0:=λj j1 j2=>Classical.byContradiction λne=>fE (n - 1 - k) (trF (st1 n k g)) ⟨j,j1,by omega,ne⟩ nz
 have e:=(fD (k:=k) (n - 1 - k) (trF (st1 n k g)) λi i1 i2=>hr i (by omega) (by omega)).1
 show trF (clG k (n - 1 - k) (trF (st1 n k g))) i k=0
 rw [e]
 exact c1.z i (by omega) (by omega)
theorem FS.wG {g:Nat->Nat->Rat} (h:FS n k N sc tc g) (B:Bl n k g) (hk:k < n):FS n (k + 1) N sc tc (st3 n k g)/\∀ M,(∀ g,Ok0 n N sc tc g->Sz n M g)->SzP n M k (n - 1 - k) g/\SzP n M k (n - 1 - k) (trF (st1 n k g))/\SzP n M k (n - 1 - k) (st2 n k g):=by
 have c1:=fU (n - 1 - k) g B (by omega) λi h1 h2=>by omega
 have c2:=fU (n - 1 - k) (trF (st1 n k g)) c1.bl.tr (by omega) λi h1 h2=>by omega
 have b2:Bl n k (st2 n k g):=c2.bl.tr
 obtain ⟨φ,o,l,b,κ,o',l',b',G,RB,QB⟩:=h
 have p1:Gd n k (n - 1 - k) k k N sc tc g κ o' l' b':=⟨φ,o,l,b,G,λi h1 h2=>⟨λj h3 h4 a=>RB i h1 h2 j (by omega) h4 a,λ_ a=>RB i h1 h2 k (Nat.le_refl _) hk a⟩,QB⟩
 obtain ⟨q1,s1⟩:=p1.all (n - 1 - k) g B (by omega) (λi h1 h2=>by omega) (.inl rfl)
 obtain ⟨m,hm,φ1,o1,l1,b1,G1,RB1,QB1⟩:∃ m,(m=k\/(m=k + 1/\st1 n k g k k ≠ 0))/\∃ φ1 o1 l1 b1,dH n N sc tc (st1 n k g) φ1 o1 l1 b1 κ o' l' b'/\CB n k m (trN N) κ o' b1/\CB n k k N φ1 o1 b':=by
   by_cases z:∀ i,k < i->i<=k + (n - 1 - k)->g i k=0
   · have e:st1 n k g=g:=(fD (k:=k) (n - 1 - k) g z).1
     rw [e]
     exact ⟨k,.inl rfl,φ,o,l,b,G,RB,QB⟩
   · obtain ⟨i,i1,i2,i3⟩:∃ i,k < i/\i<=k + (n - 1 - k)/\g i k ≠ 0:=Classical.byContradiction λno=>z λi h1 h2=>Classical.byContradiction λne=>no ⟨i,h1,h2,ne⟩
     have nz:st1 n k g k k ≠ 0:=fE (n - 1 - k) g ⟨i,by omega,i2,i3⟩
     obtain ⟨φ1,o1,l1,b1,G1,P1,Q1⟩:=q1
     exact ⟨k + 1,.inr ⟨rfl,nz⟩,φ1,o1,l1,b1,G1,λi h1 h2 j h3 h4 a=>(P1 i h1 h2).1 j (by omega) h4 a,Q1⟩
 have p2:Gd n k (n - 1 - k) k m (trN N) tc sc (trF (st1 n k g)) φ1 o1 l1 b1:=⟨κ,o',l',b',G1.swp,λj h1 h2=>⟨λi h3 h4 a=>QB1 j h1 h2 i (by omega) h4 a,λ_ a=>QB1 j h1 h2 k (Nat.le_refl _) hk a⟩,RB1⟩
 obtain ⟨⟨κ2,o2,l2,d2,G2,P2,Q2⟩,s2⟩:=p2.all (n - 1 - k) (trF (st1 n k g)) c1.bl.tr (by omega) (λi h1 h2=>by omega) hm
 have G2':dH n N sc tc (st2 n k g) φ1 o1 l1 b1 κ2 o2 l2 d2:=G2.swp
 have Q2:CB n k m (trN N) κ2 o2 b1:=Q2
 have P2:∀ j,k<=j->j < n->(∀ i,k < i->i < n->Al n N φ1 i->d2 j<=o1 i)/\(j<=k + 0->Al n N φ1 k->d2 j<=o1 k):=P2
 have sz12:∀ M,(∀ g,Ok0 n N sc tc g->Sz n M g)->SzP n M k (n - 1 - k) g/\SzP n M k (n - 1 - k) (trF (st1 n k g)):=λM hS=>⟨s1 M hS,s2 M λg hg=>(hS (trF g) hg.tr).tr⟩
 by_cases z:∀ i,k < i->i<=k + (n - 1 - k)->st2 n k g i k=0
 · have e:st3 n k g=st2 n k g:=(fD (k:=k) (n - 1 - k) (st2 n k g) z).1
   rw [e]
   refine ⟨⟨φ1,o1,l1,b1,κ2,o2,l2,d2,G2',λi h1 h2 j h3 h4 a=>Q2 i (by omega) h2 j (by rcases hm with rfl | ⟨rfl,_⟩ <;> omega) h4 a,λj h1 h2 i h3 h4 a=>(P2 j (by omega) h2).1 i (by omega) h4 a⟩,λM hS=>⟨(sz12 M hS).1,(sz12 M hS).2,mn (hS _ ⟨φ1,o1,l1,b1,κ2,o2,l2,d2,G2'⟩) _ z⟩⟩
 · have nz:st2 n k g k k ≠ 0:=λe=>z (tK B hk e)
   have mk:m=k:=by
     rcases hm with e | ⟨_,nz1⟩
     · exact e
     · exfalso
       refine z λi h1 h2=>?_
       have e:=c2.keep (show trF (st1 n k g) k k ≠ 0 from nz1) i
       show clG k (n - 1 - k) (trF (st1 n k g)) k i=0
       rw [e]
       exact c1.z i (by omega) (by omega)
   subst mk
   have p3:Gd n m (n - 1 - m) (m + 1) (m + 1) N sc tc (st2 n m g) κ2 o2 l2 d2:=⟨φ1,o1,l1,b1,G2',λi h1 h2=>⟨λj h3 h4 a=>Q2 i h1 h2 j (by omega) h4 a,λ_ a=>Q2 i h1 h2 m (Nat.le_refl _) hk a⟩,λj h1 h2 i h3 h4 a=>(P2 j (by omega) h2).1 i (by omega) h4 a⟩
   obtain ⟨⟨φ3,o3,l3,b3,G3,P3,Q3⟩,s3⟩:=p3.all (n - 1 - m) (st2 n m g) b2 (by omega) (λi h1 h2=>by omega) (.inr ⟨rfl,nz⟩)
   exact ⟨⟨φ3,o3,l3,b3,κ2,o2,l2,d2,G3,λi h1 h2 j h3 h4 a=>(P3 i (by omega) h2).1 j (by omega) h4 a,Q3⟩,λM hS=>⟨(sz12 M hS).1,(sz12 M hS).2,s3 M hS⟩⟩
end
theorem FS.start {n:Nat} {N A:Nat->Nat->Rat} {sc tc:Nat->Rat} (h:∀ i,i < n->∀ j,j < n->sc i * tc j * A i j=N i j) (p:∀ r,0 < sc r) (p':∀ r,0 < tc r):FS n 0 N sc tc A:=by
 refine ⟨_,_,_,_,_,_,_,_,⟨dQ.start n N,dQ.start n (trN N),λi hi j hj=>?_,p,p'⟩,λ_ _ _ _ _ _ _=>Nat.zero_le _,λ_ _ _ _ _ _ _=>Nat.zero_le _⟩
 rw [h i hi j hj]
 unfold dbl
 have e:∀ c,vec n N (λi r=>if i=r then (1:Rat) else 0) i c=N i c:=λc=>jL (λr=>N r c) i n hi
 have e2:aA (λc=>vec n N (λi r=>if i=r then (1:Rat) else 0) i c * (if j=c then (1:Rat) else 0)) n=aA (λc=>N i c * dq c j) n:=ar λc _=>by
   rw [e c]
   unfold dq
   by_cases q:j=c
   · rw [if_pos q,if_pos q.symm]
   · rw [if_neg q,if_neg (Ne.symm q)]
 rw [e2,bE _ _ _ hj]
theorem tE {n:Nat} {N A:Nat->Nat->Rat} {sc tc:Nat->Rat} (H:Tnn n n A) (F:FS n 0 N sc tc A):∀ k,k<=n->FS n k N sc tc (apF n A k).1
 | 0,_=>F
 | k + 1,hk=>((tE H F k (by omega)).wG (oY H k (by omega)).bl (by omega)).1
section
variable {P:Program} {w:World} {K:PySem.W.Frag} {mg:Str->Option Value} {base:Heap} {k:Nat} {f:Addr} {fd:FuncData} {qual:Str}
end
theorem ZB.idQ (m i j:Nat):ZB m (idQ i j):=by
 unfold K31.idQ
 split
 · exact ⟨1,rfl,by show 1<=_; exact Nat.one_le_two_pow⟩
 · exact ⟨0,rfl,Nat.zero_le _⟩
section
variable {n β:Nat} {N:Nat->Nat->Rat} {ρ γ:Nat->Nat} {s x:Nat}
theorem rB (hN:∀ i,i < n->∀ j,j < n->ZB β (N i j)) (hρ:∀ t,t < s->ρ t < n) (hγ:∀ t,t < s->γ t < n) (hx:x < n) {i j:Nat} (hj:j < s\/(s<=j/\j - s < n)):ZB β (brd N ρ γ s x i j):=by
 unfold brd
 refine hN _ ?_ _ ?_
 · split
   · exact hρ _ (by assumption)
   · exact hx
 · split
   · exact hγ _ (by assumption)
   · rcases hj with h | h
     · contradiction
     · exact h.2
theorem zB (hN:∀ i,i < n->∀ j,j < n->ZB β (N i j)) (hρ:∀ t,t < s->ρ t < n) (hγ:∀ t,t < s->γ t < n) (hs:s + 1<=n) (h7:n<=7):ZB (n * (β + 3)) (det s λi j=>N (ρ i) (γ j)):=
 (uN (by omega) λi hi j hj=>hN _ (hρ i hi) _ (hγ j hj)).mono (Nat.mul_le_mul_right _ (by omega))
theorem xA (hN:∀ i,i < n->∀ j,j < n->ZB β (N i j)) (hρ:∀ t,t < s->ρ t < n) (hγ:∀ t,t < s->γ t < n) (hx:x < n) (hs:s + 1<=n) (h7:n<=7) {c:Nat} (hc:c < n):ZB (n * (β + 3)) (rsd N ρ γ s x c):=by
 rw [rN]
 refine (uN (n:=s + 1) (by omega) λi hi j hj=>?_).mono (Nat.mul_le_mul_right _ hs)
 refine rB hN hρ hγ hx ?_
 by_cases q:j < s
 · rw [if_pos q]; exact .inl q
 · rw [if_neg q]; exact .inr ⟨by omega,by omega⟩
theorem xi (hN:∀ i,i < n->∀ j,j < n->ZB β (N i j)) (hρ:∀ t,t < s->ρ t < n) (hγ:∀ t,t < s->γ t < n) (hx:x < n) (hs:s + 1<=n) (h7:n<=7) {i:Nat} (hi:i < s):ZB (n * (β + 3)) (brc N ρ γ s x i):=by
 unfold brc bc
 refine (uN (n:=s + 1) (b:=β) (by omega) λa ha c hc=>?_).mono (Nat.mul_le_mul_right _ hs)
 unfold aw
 by_cases q:a=s
 · rw [if_pos q]; exact ZB.idQ _ _ _
 · rw [if_neg q]
   exact rB hN hρ hγ hx (.inl (by omega))
end
theorem ZB.AU {m:Nat} {x y:Rat} (h:ZB m x) (g:ZB m y):ZB (m + 1) (x + y):=by
 obtain ⟨a,rfl,h⟩:=h
 obtain ⟨d,rfl,g⟩:=g
 refine ⟨a + d,(Rat.intCast_add ..).symm,?_⟩
 rw [Nat.pow_succ]
 omega
theorem uI {n:Nat} {N φ κ:Nat->Nat->Rat} {ρ γ:Nat->Nat} {s x i j:Nat} {P:Rat} (h:∀ c,c < n->P * vec n N φ i c=rsd N ρ γ s x c):P * dbl n N φ κ i j=det s (λi j=>N (ρ i) (γ j)) * vec n (trN N) κ j x + aA (λt=>brc N ρ γ s x t * vec n (trN N) κ j (ρ t)) s:=by
 unfold dbl
 rw [aV]
 have e1:aA (λc=>P * (vec n N φ i c * κ j c)) n=aA (λc=>det s (λi j=>N (ρ i) (γ j)) * (κ j c * N x c) + aA (λt=>brc N ρ γ s x t * (κ j c * N (ρ t) c)) s) n:=ar λc hc=>by
   rw [<- Rat.mul_assoc,h c hc]
   unfold rsd
   rw [Rat.add_mul,fo]
   congr 1
   · grind
   · exact ar λt _=>by grind
 rw [e1,cv,<- aV,fy]
 congr 1
 refine ar λt _=>?_
 rw [<- aV]
 rfl
theorem sC {n β σ:Nat} {N:Nat->Nat->Rat} {sc:Nat->Rat} (h7:n<=7) (hN:∀ i,i < n->∀ j,j < n->ZB β (N i j)) (hs:∀ r,r < n->∃ z:Int,(z:Rat)=sc r/\z.natAbs<=2 ^ σ) {g:Nat->Nat->Rat} (h:Ok0 n N sc (λ_=>1) g):Sz n (2 * (n * (β + 3)) + σ + 5) g:=λi hi j hj=>by
 obtain ⟨φ,o,l,b,κ,o',l',b',G⟩:=h
 have zero:Sq (2 * (n * (β + 3)) + σ + 5) 0:=by
   have p:2 ^ 1<=2 ^ (2 * (n * (β + 3)) + σ + 5):=Nat.pow_le_pow_right (by decide) (by omega)
   refine ⟨?_,?_⟩
   · show (0:Int).natAbs < _
     exact Nat.two_pow_pos _
   · show (1:Int).natAbs < _
     show 1 < _
     omega
 have l0:sc (o i) * 1 * g i j=dbl n N φ κ i j:=G.lk i hi j hj
 by_cases z:g i j=0
 · rw [z]; exact zero
 have ai:=G.alR hi hj z
 have aj:=G.alC hi hj z
 have on:=G.R.on i hi
 have on':=G.C.on j hj
 obtain ⟨s,ρ,γ,q1,q2,q3,q4,q5⟩:=G.R.rep hi ai
 obtain ⟨s',ρ',γ',r1,r2,r3,r4,r5⟩:=G.C.rep hj aj
 have hN':∀ i,i < n->∀ j,j < n->ZB β (trN N i j):=λi hi j hj=>hN j hj i hi
 have zP:=zB hN q2 q3 (by omega) h7
 have zQ:=zB hN' r2 r3 (by omega) h7
 have zr:∀ r,r < n->ZB (n * (β + 3)) (rsd (trN N) ρ' γ' s' (o' j) r):=λr hr=>xA hN' r2 r3 on' (by omega) h7 hr
 have main:det s' (λx y=>trN N (ρ' x) (γ' y)) * (det s (λx y=>N (ρ x) (γ y)) * dbl n N φ κ i j)=det s (λx y=>N (ρ x) (γ y)) * rsd (trN N) ρ' γ' s' (o' j) (o i) + aA (λt=>brc N ρ γ s (o i) t * rsd (trN N) ρ' γ' s' (o' j) (ρ t)) s:=by
   rw [uI q5,Rat.mul_add,aV]
   congr 1
   · rw [<- r5 _ on]; grind
   · refine ar λt ht=>?_
     rw [<- r5 _ (q2 t ht)]; grind
 have zW:ZB (n * (β + 3) + n * (β + 3) + 3 + 1) (det s' (λx y=>trN N (ρ' x) (γ' y)) * (det s (λx y=>N (ρ x) (γ y)) * dbl n N φ κ i j)):=by
   rw [main]
   refine ZB.AU ((zP.mul (zr _ on)).mono (by omega)) ?_
   obtain ⟨w,e,hw⟩:=ZB.sum (n:=s) (b:=n * (β + 3) + n * (β + 3)) λt ht=>(xi hN q2 q3 on (by omega) h7 ht).mul (zr _ (q2 t ht))
   refine ⟨w,e,Nat.le_trans hw ?_⟩
   rw [show (2:Nat) ^ (n * (β + 3) + n * (β + 3) + 3)=2 ^ (n * (β + 3) + n * (β + 3)) * 2 ^ 3 from Nat.pow_add ..,Nat.mul_comm]
   exact Nat.mul_le_mul_left _ (by omega)
 obtain ⟨w,ew,hw⟩:=zW
 obtain ⟨p,ep,hp⟩:=zP
 obtain ⟨q,eq,hq⟩:=zQ
 obtain ⟨t,et,ht⟩:=hs (o i) on
 rw [ep] at q4
 rw [eq] at r4
 have spos:=G.pos (o i)
 rw [<- et] at spos
 have t0:0 < t:=by
   have:((0:Int):Rat) < (t:Rat):=spos
   exact Rat.intCast_lt_intCast.mp this
 have p0:p ≠ 0:=λz=>q4 (by rw [z]; rfl)
 have q0:q ≠ 0:=λz=>r4 (by rw [z]; rfl)
 rw [ep,eq,<- l0,<- et] at ew
 have e:((w:Int):Rat)=g i j * ((q * (p * t):Int):Rat):=by
   rw [<- ew,Rat.intCast_mul,Rat.intCast_mul]
   grind
 have hb:(q * (p * t)).natAbs<=2 ^ (n * (β + 3) + (n * (β + 3) + σ)):=by
   rw [Int.natAbs_mul,Int.natAbs_mul,Nat.pow_add,Nat.pow_add (m:=n * (β + 3))]
   exact Nat.mul_le_mul hq (Nat.mul_le_mul hp ht)
 have bdw:Bd (2 * (n * (β + 3)) + σ + 5) w:=Nat.lt_of_le_of_lt hw (Nat.pow_lt_pow_right (by decide) (by omega))
 have bdb:Bd (2 * (n * (β + 3)) + σ + 5) (q * (p * t)):=Nat.lt_of_le_of_lt hb (Nat.pow_lt_pow_right (by decide) (by omega))
 have nz:q * (p * t) ≠ 0:=Int.mul_ne_zero q0 (Int.mul_ne_zero p0 (by omega))
 by_cases sg:0 < q * (p * t)
 · exact Sq.bI sg e bdw bdb
 · refine Sq.bI (t:=-w) (b:=-(q * (p * t))) (by omega) ?_ ?_ ?_
   · rw [Rat.intCast_neg,Rat.intCast_neg,e]; grind
   · show (-w).natAbs < _
     rw [Int.natAbs_neg]; exact bdw
   · show (-(q * (p * t))).natAbs < _
     rw [Int.natAbs_neg]; exact bdb
section
variable {P:Program} {w:World} {K:PySem.W.Frag} {mg:Str->Option Value} {base:Heap} {k:Nat} {f:Addr} {fd:FuncData} {qual:Str}
end
end K31
namespace Hy
open PySem PySem.Spec PyProof.Rows L2
open Ev (D Den av aq)
section
variable {X:Cx} {τ:List Sl} {e o:Expr} {pos:Pos} {N:Po} {rest:List Stmt} {s:Sl} {c:Nd}
variable {a b:Expr} {x:D} {k:Nat} {ds:List D}
end
end Hy
namespace Hy
open PySem PySem.Spec PyProof.Rows L2
open Ev (D Den av aq aX aP)
section
variable {X:Cx} {τ τ1 τ2:List Sl} {x y z:D} {a b e o ix:Expr} {pos p q:Pos} {l:Nat} {N:Po} {st:Stmt} {body rest:List Stmt} {i j k:Nat} {t c:Nd} {pt:List Nat} {xs:List Nd} {m:Nat} {ds:List D}
end
noncomputable def spG (K:PySem.W.Frag) (Φ:List D->List D->List D->Sl->Prop):Sp:=λvs H Q _=>∃ (M:Addr->Prop) (a:Addr) (ws us:List V) (xs ds xs':List D) (s:Sl),vs=.ref a :: us/\M a/\(∀ b,M b->∃ o,H b=some o)/\H a=some (.lst ws)/\av K (hd H M) ws xs/\av K (hd H M) us ds/\Φ xs ds xs' s /\
 ∀ v H' bs ws',But a H H'->H' a=some (.lst ws')->av K (hd H' M) ws' xs'->Fr H H' bs->cb K (hd H' λb=>M b\/b ∈ bs) H' (some v) bs s->Q v H'
noncomputable def dSA (K:PySem.W.Frag) (τ:List Sl) (i:Nat) (τe τc:List Sl):TS:=λD σ H=>∃ A H₀ B,Sta K A H₀ τ B σ H/\(∀ B' σ' H',Sta K A H₀ τe B' σ' H'->σ'[i]?=σ[i]?->D.nx σ' H')/\∀ B' σ' H',Sta K A H₀ τc B' σ' H'->σ'[i]?=σ[i]?->D.ct σ' H'
noncomputable def dSR (K:PySem.W.Frag) (τ:List Sl) (xs':List D) (s:Sl):TS:=λD σ H=>∃ A H₀ B a,Sta K A H₀ τ B σ H/\(σ[0]?).join=some (.ref a)/\∀ v H2 bs ws',ao H₀ H2->H2 a=some (.lst ws')->av K (hd H2 λb=>(A b\/b=a)\/b ∈ bs) ws' xs'->a ∉ bs->Fr H₀ H2 bs->cb K (hd H2 λb=>(A b\/b=a)\/b ∈ bs) H2 (some v) bs s->D.rt v H2
section
variable {X:Cx} {τ τ1 τ2 τc:List Sl} {x y z:D} {a b c e o ix:Expr} {es:List Expr} {pos p q pr:Pos} {l k:Nat} {s:Sl} {N:Po} {st:Stmt} {body els rest:List Stmt} {i j m:Nat} {xs ys ds:List D}
theorem p6:PSs X [] (dSA X.K τ i τ τc):=hZ iW λ_ σ H ⟨_,_,B,S,fn,_⟩=>fn B σ H S rfl
theorem jb (h1:PS X st (dSA X.K τ i τ1 τc)) (h2:PSs X rest (dSA X.K τ1 i τ2 τc)):PSs X (st :: rest) (dSA X.K τ i τ2 τc):=
 hZ (dD h1 h2) λ_ _ _ ⟨A,H₀,B,S,fn,fc⟩=>⟨A,H₀,B,S,λB' _ _ S' e=>⟨A,H₀,B',S',λB2 σ2 H2 S2 e2=>fn B2 σ2 H2 S2 (e2.trans e),λB2 σ2 H2 S2 e2=>fc B2 σ2 H2 S2 (e2.trans e)⟩,fc⟩
theorem wa (r:Nat) {n:Str} (hN:X.N.Nodup) (he:PE X e (dE X.K true τ s)) (hri:r ≠ i:=by decide) (hi:X.N[r]?=some n:=by rfl) (hx:Loc X.env.scope n:=by first | exact .inl rfl | exact .inr rfl) (hs:swapsWith e (some (.Name n p)) pos.line X.env=pure false:=by rfl)
   (hf:X.fn n=true\/X.env.scope.names.lookup n=some .local:=by first | exact .inl rfl | exact .inr rfl | assumption):PS X (.Assign [.Name n p] e pos) (dSA X.K τ i (τ.set r s) τc):=
 psW (rA hN hi hx he hs hf) λD σ H ⟨A,H₀,B,S,fn,_⟩=>⟨A,H₀,B,S,λw H' bs e hf h=>fn _ _ _ (S.set e hf h) (List.getElem?_set_ne hri)⟩
theorem y9 (hc:PT X c (dT X.K τ false)):PS X (.If c body [] pos) (dSA X.K τ i τ τc):=
 psW (kB hc bZ iW) λ_ σ _ ⟨A,H₀,B,S,fn,_⟩=>⟨A,H₀,B,S,λH' e=>l6 (fn B σ H' (S.mono e) rfl)⟩
theorem zD (hc:PT X c (dT X.K τ true)) (h:PSs X body (dSA X.K τ i τ1 τc)):PS X (.If c body els pos) (dSA X.K τ i τ1 τc):=
 psW (kB hc h bZ) λ_ σ _ ⟨A,H₀,B,S,fn,fc⟩=>⟨A,H₀,B,S,λH' e=>mw ⟨A,H₀,B,S.mono e,fn,fc⟩⟩
theorem zo (hc:PT X c (dT X.K τ false)) (h:PSs X els (dSA X.K τ i τ1 τc)):PS X (.If c body els pos) (dSA X.K τ i τ1 τc):=
 psW (kB hc bZ h) λ_ σ _ ⟨A,H₀,B,S,fn,fc⟩=>⟨A,H₀,B,S,λH' e=>l6 ⟨A,H₀,B,S.mono e,fn,fc⟩⟩
theorem Aq (r:Nat) {n:Str} {it:Expr} {g:Nat->D} {tp:Pos} (T:Nat->List Sl) (Bq:Bk X l) (hN:X.N.Nodup) (hi:PI X (.Name n tp) it (dI X.K (T 0) ys)) (hx:∀ a (h:a < ys.length),ys[a]=g a)
   (hb:∀ a,a < ys.length->PSs X body (dSA X.K ((T a).set r (.d (g a))) i (T (a + 1)) (T (a + 1)))) (hri:r ≠ i:=by decide)
   (hs:∀ x,foldedSetIterable it X.env x=pure x:=by intro _; rfl) (hi':X.N[r]?=some n:=by rfl) (hl:Loc X.env.scope n:=by first | exact .inl rfl | exact .inr rfl)
   (hf:X.fn n=true\/X.env.scope.names.lookup n=some .local:=by first | exact .inl rfl | exact .inr rfl | assumption):PS X (.For (.Name n tp) it body [] pos) (dSA X.K (T 0) i (T ys.length) τc):=by
 have hb':PSs X body λD σ H=>∃ a,a < ys.length/\dSA X.K ((T a).set r (.d (g a))) i (T (a + 1)) (T (a + 1)) D σ H:=λpins s σ H D I ⟨a,h,q⟩=>hb a h pins s σ H D I q
 refine psW (sH Bq.po hi (fH (i:=r) hN hi' hl hf) hb' hs) λD σ H ⟨A,H₀,B,S,fin,_⟩=>⟨A,H₀,B,S,λJ H1 e1 yl=>?_⟩
 obtain ⟨s0,S1⟩:=(S.mono e1).base
 have sub:∀ {H'},ao (hd H1 λb=>∃ i,b ∈ B i) H'->ao (hd H1 (own A B)) H':=λe=>(aC (ao.refl _) λ_ z=>.inr z).trans e
 refine ⟨λa m σ' H'=>m=ys.length - a/\a<=ys.length/\∃ B',Sta X.K A (hd H1 λb=>∃ i,b ∈ B i) (T a) B' σ' H'/\σ'[i]?=σ[i]?,⟨ys.length,rfl,Nat.zero_le _,B,S1,rfl⟩,?_⟩
 rintro a m σ' H' ⟨rfl,ha,B',S',q'⟩
 obtain ⟨y1,y2⟩:=yl H' (sub S'.same)
 by_cases hlt:a < ys.length
 · obtain ⟨gg,y⟩:=y2 a hlt
   refine .inr ⟨gg,λσ2 H2=>∃ B2,Sta X.K A (hd H1 λb=>∃ i,b ∈ B i) (T (a + 1)) B2 σ2 H2/\σ2[i]?=σ[i]?,λσ2 H2 q=>⟨ys.length - (a + 1),by omega,rfl,hlt,q⟩,λx H2 hy=>?_⟩
   obtain ⟨e2,dx⟩:=y x H2 hy
   have S2:=S'.mono e2
   have dd:=dx (own A B') S'.dm (by
     intro b o z
     obtain ⟨z1,z2⟩:=aE.mp z
     have z3:hd H1 (λb=>∃ i,b ∈ B i) b=some o:=aE.mpr ⟨λy=>z1 (.inr y),z2⟩
     refine aE.mpr ⟨λy=>?_,S'.same _ _ z3⟩
     rcases y with y | ⟨l,y⟩
     · exact z1 (.inl y)
     · rw [S'.fr l b y] at z3; cases z3)
   rw [hx a hlt] at dd
   have S3:=S2.set (i:=r) (ao.refl _) (bs:=[]) (λ_ z=>nomatch z) (il dd)
   have ei:(σ'.set r (some x))[i]?=σ'[i]?:=List.getElem?_set_ne hri
   refine ⟨a,hlt,A,_,_,S3,λB3 σ3 H3 S4 q4=>⟨B3,S4,?_⟩,λB3 σ3 H3 S4 q4=>⟨B3,S4,?_⟩⟩ <;> rw [q4,ei,q']
 · have e:a=ys.length:=by omega
   subst e
   exact .inl ⟨y1 _ (Nat.le_refl _),fin B' σ' H' (S'.back s0 S.ad) q'⟩
theorem g9 (h1:PS X st (dSA X.K τ 0 τ1 [])) (h2:PSs X rest (dSR X.K τ1 xs s)):PSs X (st :: rest) (dSR X.K τ xs s):=
 hZ (dD h1 h2) λ_ σ _ ⟨A,H₀,B,a,S,ea,fin⟩=>⟨A,H₀,B,S,λB' _ _ S' e=>⟨A,H₀,B',a,S',by rw [e]; exact ea,fin⟩,λ_ σ' _ S' e=>by
   have:σ'=[]:=List.eq_nil_of_length_eq_zero S'.len
   rw [this] at e
   rw [<- e] at ea
   cases ea⟩
theorem rM {K:PySem.W.Frag} {A:Addr->Prop} {H₀ H H':Hp} {B:Nat->List Addr} {σ:L2.St} {a:Addr} {ws:List V} {bs:List Addr} (S:Sta K A H₀ τ B σ H) (hB:B 0=[a]) (e:ao H H') (f:∀ b ∈ bs,H b=none\/∃ i,b ∈ B i) (d:av K (hd H (own A B)) ws xs):av K (hd H' λb=>(A b\/b=a)\/b ∈ bs) ws xs:=d.mono λb o z=>by
 obtain ⟨z1,z2⟩:=aE.mp z
 refine aE.mpr ⟨λy=>?_,e _ _ z2⟩
 rcases y with (y | y) | y
 · exact z1 (.inl y)
 · exact z1 (.inr ⟨0,by rw [hB,y]; exact List.mem_singleton.mpr rfl⟩)
 · rcases f b y with y | y
   · rw [y] at z2; cases z2
   · exact z1 (.inr y)
theorem uF (he:PE X e (dE X.K true τ s)) (h0:τ[0]?=some (.o xs):=by rfl):PSs X (.Return (some e) pos :: rest) (dSR X.K τ xs s):=
 hZ (dD (lE he) bZ) λD σ H ⟨A,H₀,B,a,S,ea,fin⟩=>⟨A,H₀,B,S,λv H' bs e hf q=>by
   obtain ⟨a',ws,hB,e1,e2,d⟩:=S.sl 0 _ h0
   rw [ea] at e1
   cases e1
   refine fin v H' bs ws (S.same.trans e) (e _ _ e2) (rM S hB e (λb hb=>.inl (hf b hb).1) d) (λz=>?_) (λb hb=>⟨S.same.free (hf b hb).1,(hf b hb).2⟩) (q.mono (aC (ao.refl _) λb z=>?_) (ao.refl _))
   · have:=(hf a z).1
     rw [e2] at this
     cases this
   · rcases z with (z | z) | z
     · exact .inl (.inl z)
     · exact .inl (.inr ⟨0,by rw [hB,z]; exact List.mem_singleton.mpr rfl⟩)
     · exact .inr z⟩
theorem vR (i:Nat) {n:Str} (hi:τ[i]?=some s:=by rfl) (hi0:i ≠ 0:=by decide) (h0:τ[0]?=some (.o xs):=by rfl) (hu:s ≠ .un:=by exact nofun) (hN:X.N[i]?=some n:=by rfl) (hv:Vis X.env.scope n:=by first | exact Or.inl rfl | exact Or.inr (Or.inl rfl) | exact Or.inr (Or.inr rfl))
   (hd1:(n == ("__debug__" : Str))=false:=by decide) (hcd:(n == ("__classdict__" : Str))=false:=by decide):PSs X (.Return (some (.Name n p)) pos :: rest) (dSR X.K τ xs s):=
 hZ (dD (lE (bD hN hv hd1 hcd)) bZ) λD σ H ⟨A,H₀,B,a,S,ea,fin⟩=>by
   obtain ⟨a',ws,hB,e1,e2,d⟩:=S.sl 0 _ h0
   rw [ea] at e1
   cases e1
   have q:=S.sl i s hi
   obtain ⟨u,e⟩:∃ u,(σ[i]?).join=some u:=by
     cases s with
     | un=>exact absurd rfl hu
     | d x=>obtain ⟨_,u,e,_⟩:=q; exact ⟨u,e⟩
     | o xs=>obtain ⟨_,_,_,e,_⟩:=q; exact ⟨_,e⟩
     | n t=>obtain ⟨_,u,e,_⟩:=q; exact ⟨u,e⟩
     | x E=>obtain ⟨_,_,_,e,_⟩:=q; exact ⟨_,e⟩
   rw [e] at q
   refine ⟨u,slot_of e,fin u H (B i) ws S.same e2 (rM S hB (ao.refl _) (λb hb=>.inr ⟨i,hb⟩) d) (λz=>hi0 (S.uq i 0 a z (by rw [hB]; exact List.mem_singleton.mpr rfl))) (λb hb=>⟨S.fr i b hb,S.bd i b hb⟩) (q.mono (aC (ao.refl _) λb z=>?_) (ao.refl _))⟩
   rcases z with (z | z) | z
   · exact .inl z
   · exact .inr ⟨0,by rw [hB,z]; exact List.mem_singleton.mpr rfl⟩
   · exact .inr ⟨i,z⟩
end
section
variable {P:Program} {w:World} {K:PySem.W.Frag} {mg:Str->Option Value} {base:Heap}
theorem fnG {x qual:Str} {st:Stmt} {f:Addr} {fd:FuncData} {N ps:List Str} {k:Nat} {Φ:List D->List D->List D->Sl->Prop} (F:Fun K x qual st f fd) (S:aG N ps (au st)) (hb:∀ x ∈ aB,mg x=none) (len:∀ xs ds xs' r,Φ xs ds xs' r->ds.length + 1=ps.length)
   (body:∀ xs ds xs' r,Φ xs ds xs' r->∀ cdv A outer s H E0,Bk (Xc P w K mg base N qual st f cdv A outer s H E0) k->PSs (Xc P w K mg base N qual st f cdv A outer s H E0) (cq st) (dSR K (.o xs :: (ds.map .d++List.replicate (N.length - (ds.length + 1)) .un)) xs' r)) :
   a6 P w K mg base CX0 (k + 1) f fd ps (spG K Φ):=by
 refine F.ok S (λvs H Q E ⟨M,a,ws,us,xs,ds,xs',r,hvs,_,_,_,_,dd,h,_⟩=>by rw [hvs,List.length_cons,dd.length]; exact len _ ds _ r h) λcdv A outer s H vs Q E hr ⟨M,a,ws,us,xs,ds,xs',r,hvs,ma,ha,hd1,dw,dd,h,q⟩=>?_
 subst hvs
 have ow:∀ b,own (λb=>M b/\b ≠ a) (λi=>if i=0 then [a] else []) b ↔ M b:=λb=>by
   refine ⟨λz=>z.elim (·.1) λ⟨i,z⟩=>?_,λz=>?_⟩
   · by_cases e:i=0
     · simp only [if_pos e] at z; rw [List.mem_singleton.mp z]; exact ma
     · simp only [if_neg e] at z; cases z
   · by_cases e:b=a
     · exact .inr ⟨0,by simp [e]⟩
     · exact .inl ⟨z,e⟩
 have hB:∀ i b,b ∈ (if i=0 then [a] else []:List Addr)->i=0/\b=a:=λi b z=>by
   by_cases e:i=0
   · rw [if_pos e] at z; exact ⟨e,List.mem_singleton.mp z⟩
   · rw [if_neg e] at z; cases z
 have vw:ao (Hy.hd H M) (Hy.hd H (own (λb=>M b/\b ≠ a) λi=>if i=0 then [a] else [])):=aC (ao.refl _) λb z=>(ow b).mp z
 refine ⟨_,body xs ds xs' r h cdv A outer s H E ⟨hr,rfl,hb,PassesOwn.never⟩,λb=>M b/\b ≠ a,Hy.hd H (·=a),λi=>if i=0 then [a] else [],a,⟨aQ,?_,λi s hi=>?_,λi b z=>?_,λi j b z1 z2=>((hB i b z1).1).trans ((hB j b z2).1).symm,λb z=>?_,λi b z=>⟨.lst ws,by rw [(hB i b z).2]; exact hd1⟩⟩,?_,λv H2 bs ws' e h2 d2 na fr z=>?_⟩
 · unfold L2.start
   simp [dd.length]
 · have hl:=dd.length
   unfold L2.start
   match i,hi with
   | 0,hi=>
     cases hi
     exact ⟨a,ws,rfl,rfl,hd1,dw.mono vw⟩
   | i + 1,hi=>
     rw [List.getElem?_cons_succ] at hi
     show cb K _ H ((((us.map some)++_)[i]?).join) _ s
     by_cases hlt:i < ds.length
     · rw [List.getElem?_append_left (by simpa using hlt),List.getElem?_map,List.getElem?_eq_getElem hlt] at hi
       cases hi
       obtain ⟨v,e,dv⟩:=dd.get (List.getElem?_eq_getElem hlt)
       refine ⟨rfl,v,?_,dv.mono vw⟩
       rw [List.getElem?_append_left (by simpa [hl] using hlt),List.getElem?_map,e]
       rfl
     · rw [List.getElem?_append_right (by simpa using hlt),List.getElem?_replicate] at hi
       split at hi
       · cases hi; rfl
       · cases hi
 · rw [(hB i b z).2]
   unfold Hy.hd
   rw [if_pos rfl]
 · obtain ⟨o,y⟩:=ha b z.1
   exact ⟨o,aE.mpr ⟨z.2,y⟩⟩
 · unfold L2.start
   rfl
 · have mm:∀ b,((M b/\b ≠ a)\/b=a)\/b ∈ bs ↔ (M b\/b ∈ bs):=λb=>by
     constructor
     · rintro ((⟨y,_⟩ | y) | y)
       · exact .inl y
       · rw [y]; exact .inl ma
       · exact .inr y
     · rintro (y | y)
       · by_cases e:b=a
         · exact .inl (.inr e)
         · exact .inl (.inl ⟨y,e⟩)
       · exact .inr y
   refine q v H2 bs ws' (λb o ne y=>e b o (aE.mpr ⟨ne,y⟩)) h2 (d2.mono (aC (ao.refl _) λb y=>(mm b).mpr (.inl y))) (λb hb=>⟨?_,(fr b hb).2⟩) (z.mono (aC (ao.refl _) λb y=>(mm b).mpr y) (ao.refl _))
   have y:=(fr b hb).1
   unfold Hy.hd at y
   rw [if_neg (show ¬ b=a from λe=>na (e ▸ hb))] at y
   exact y
end
section
variable {K:PySem.W.Frag} {A:Addr->Prop} {H₀ H H':Hp} {τ:List Sl} {B:Nat->List Addr} {σ:L2.St}
theorem Sta.Bs (S:Sta K A H₀ τ B σ H) {i:Nat} {a:Addr} {xs xs':List D} {ws':List V} (hi:τ[i]?=some (.o xs)) (hB:B i=[a]) (e:But a H H') (ho:H' a=some (.lst ws')) (d:av K (hd H' (own A B)) ws' xs'):Sta K A H₀ (τ.set i (.o xs')) B σ H':=by
 have hid:Hid (own A B) H a:=S.hid hB
 have sm:ao (hd H (own A B)) (hd H' (own A B)):=e.hd hid.1
 have f0:H₀ a=none:=S.fr i a (by rw [hB]; exact List.mem_singleton.mpr rfl)
 have hs:ao H₀ H':=λb o z=>e b o (λq=>by rw [q,f0] at z; cases z) (S.same b o z)
 refine ⟨hs,by rw [List.length_set,S.len],λj t hj=>?_,S.fr,S.uq,S.ad,λj b hb=>(hid.but e ⟨_,ho⟩).2 b (.inr ⟨j,hb⟩)⟩
 by_cases ej:j=i
 · subst ej
   have hl:=(List.getElem?_eq_some_iff.mp hi).1
   rw [List.getElem?_set_self hl] at hj
   cases hj
   obtain ⟨a',vs,e1,e2,_,_⟩:=S.sl j _ hi
   rw [hB] at e1
   cases e1
   exact ⟨a,ws',hB,e2,ho,d⟩
 · rw [List.getElem?_set_ne (λz=>ej z.symm)] at hj
   have off:∀ b ∈ B j,b ≠ a:=λb hb e=>ej (S.uq j i a (e ▸ hb) (by rw [hB]; exact List.mem_singleton.mpr rfl))
   have ne:∀ b ∈ B j,H' b=H b:=λb hb=>by
     obtain ⟨o,q⟩:=S.bd j b hb
     rw [q]
     exact e b o (off b hb) q
   exact (S.sl j t hj).frame sm ne
end
noncomputable def dEO (K:PySem.W.Frag) (τ:List Sl) (j:Nat) (xs':List D) (s:Sl):TE:=λσ H Q=>∃ A H₀ B,Sta K A H₀ τ B σ H/\∀ v H' bs,Sta K A H₀ (τ.set j (.o xs')) B σ H'->cb K (hd H' λb=>own A B b\/b ∈ bs) H' (some v) bs s->Q v H'
section
variable {X:Cx} {τ τ1 τ2 τc:List Sl} {x y z:D} {a b c e o ix:Expr} {es:List Expr} {pos p q pr:Pos} {l k:Nat} {s:Sl} {N:Po} {rest:List Stmt} {i j m:Nat} {xs xs' ys zs ds:List D}
theorem gz (j:Nat) {n nk:Str} {Φ:List D->List D->List D->Sl->Prop} (Bb:Bk X k) (cl:nN X.prog X.w X.K X.mg X.base k n (spG X.K Φ)) (hΦ:Φ xs ds xs' s) (ha:PA X es (dA X.K true τ ds)) (hi:τ[j]?=some (.o xs):=by rfl) (hN:X.N[j]?=some nk:=by rfl)
   (hv:Vis X.env.scope nk:=by first | exact Or.inl rfl | exact Or.inr (Or.inl rfl) | exact Or.inr (Or.inr rfl)) (hd1:(nk == ("__debug__" : Str))=false:=by decide) (hcd:(nk == ("__classdict__" : Str))=false:=by decide)
   (hg:Gl X n:=by rfl) (hdb:(n == ("__debug__" : Str))=false:=by decide) (he:starEach (.Name nk q :: es) X.env=(false,eval (.Name nk q) X.env) :: starEach es X.env:=by rfl) (hpl:(backTo pos (starEach es X.env)).any (·.1)=false:=by rfl) :
   PE X (.Call (.Name n p) (.Name nk q :: es) [] pos) (dEO X.K τ j xs' s):=by
 obtain ⟨f,fd,ps,F,hm,hk,hb⟩:=cl
 refine peW (pe F Bb.room hg hm hk hb .nil wA (bK (bD (i:=j) hN hv hd1 hcd) ha he) hdb he hpl) λσ H Q ⟨A,H₀,B,S,kk⟩=>?_
 obtain ⟨a,vs,hB,e1,e2,d⟩:=S.sl j _ hi
 refine ⟨_,slot_of e1,eI S λus H1 f1 d1=>?_⟩
 have S1:=S.mono f1
 obtain ⟨a',vs1,hB1,g1,g2,dd⟩:=S1.sl j _ hi
 rw [e1] at g1
 cases g1
 show spG X.K Φ (_++[]) _ _ _
 rw [List.append_nil]
 exact ⟨own A B,a,vs1,us,xs,ds,xs',s,rfl,.inr ⟨j,by rw [hB]; exact List.mem_singleton.mpr rfl⟩,S1.dm,g2,dd,d1,hΦ,λv H' bs ws' bt h' d' _ z=>kk v H' bs (S1.Bs hi hB bt h' d') z⟩
theorem oJ (i j:Nat) {n:Str} {ap cp:Pos} (he:PE X e (dEO X.K τ j xs' (.o ys))) (hl:zs.length + ys.length < 1000000) (hr:PSs X rest (dS X.K ((τ.set j (.o xs')).set i (.o (zs++ys))) N)) (hij:j ≠ i:=by decide) (hi:τ[i]?=some (.o zs):=by rfl) (hN:X.N[i]?=some n:=by rfl)
   (hv:Vis X.env.scope n:=by first | exact Or.inl rfl | exact Or.inr (Or.inl rfl) | exact Or.inr (Or.inr rfl)) (hd:(n == ("__debug__" : Str))=false:=by decide) (hcd:(n == ("__classdict__" : Str))=false:=by decide)
   (hfew:((backTo cp (starEach [e] X.env)).all (λx=>!x.1) && (backToKw cp (keywordEach [] X.env)).all (λx=>x.1.isSome) && decide (([e]:List Expr).length + ([]:List Keyword).length + (if ([]:List Keyword).isEmpty then 0 else 1) < 30))=true:=by rfl)
   (hline:(ap.endLine == cp.line)=true:=by rfl) (hst:starEach [e] X.env=(false,eval e X.env) :: starEach [] X.env:=by rfl) (hpl:(backTo cp (starEach [] X.env)).any (·.1)=false:=by rfl)
   (hs:swapsWith (.Call (.Attribute (.Name n p) "extend" ap) [e] [] cp) none pos.line X.env=pure false:=by rfl) (hbase:attributeBase (.Name n p) "extend" X.env (eval (.Name n p) X.env)=eval (.Name n p) X.env:=by rfl) :
   PSs X (.Expr (.Call (.Attribute (.Name n p) "extend" ap) [e] [] cp) pos :: rest) (dS X.K τ N):=
 bH (M:=(·=(τ.set j (.o xs')).set i (.o (zs++ys)))) (psW (cK (iG PySem.F.plainAttrs_list PySem.F.slot_list_extend PySem.F.type_list_extend iq (bD hN hv hd hcd) (bK he cQ hst) hbase hfew hline hst hpl) hs) λD σ H ⟨A,H₀,B,S,Me⟩=>by
   obtain ⟨l,vs,hb,e1,e2,d⟩:=S.sl i _ hi
   refine ⟨_,slot_of e1,.inl ⟨rfl,_,SqL.of e2⟩,A,H₀,B,S,λv H1 bs S2 ⟨l2,ws,eb,ev,h2,d2⟩=>?_⟩
   cases ev
   have hi2:(τ.set j (.o xs'))[i]?=some (.o zs):=by rw [List.getElem?_set_ne hij]; exact hi
   obtain ⟨l',vs',hb',e1',e2',d'⟩:=S2.sl i _ hi2
   rw [e1] at e1'
   cases e1'
   have lim:1000000<=sizeLine:=by decide
   refine ⟨l,l2,vs',ws,rfl,rfl,e2',h2,by rw [d'.length,d2.length]; omega,?_⟩
   exact Me.nx _ _ _ _ rfl (S2.put hi2 hb' (d'.append (d2.mono (aC (ao.refl _) λ_ z=>.inl z))))) λ_ e=>e ▸ hr
theorem x4 (r:Nat) {n:Str} {ap cp:Pos} (he:PE X e (dEO X.K τ i xs' (.o ys))) (hl:zs.length + ys.length < 1000000) (hij:i ≠ r:=by decide) (hi:τ[r]?=some (.o zs):=by rfl) (hN:X.N[r]?=some n:=by rfl)
   (hv:Vis X.env.scope n:=by first | exact Or.inl rfl | exact Or.inr (Or.inl rfl) | exact Or.inr (Or.inr rfl)) (hd:(n == ("__debug__" : Str))=false:=by decide) (hcd:(n == ("__classdict__" : Str))=false:=by decide)
   (hfew:((backTo cp (starEach [e] X.env)).all (λx=>!x.1) && (backToKw cp (keywordEach [] X.env)).all (λx=>x.1.isSome) && decide (([e]:List Expr).length + ([]:List Keyword).length + (if ([]:List Keyword).isEmpty then 0 else 1) < 30))=true:=by rfl)
   (hline:(ap.endLine == cp.line)=true:=by rfl) (hst:starEach [e] X.env=(false,eval e X.env) :: starEach [] X.env:=by rfl) (hpl:(backTo cp (starEach [] X.env)).any (·.1)=false:=by rfl)
   (hs:swapsWith (.Call (.Attribute (.Name n p) "extend" ap) [e] [] cp) none pos.line X.env=pure false:=by rfl) (hbase:attributeBase (.Name n p) "extend" X.env (eval (.Name n p) X.env)=eval (.Name n p) X.env:=by rfl) :
   PS X (.Expr (.Call (.Attribute (.Name n p) "extend" ap) [e] [] cp) pos) (dSA X.K τ i ((τ.set i (.o xs')).set r (.o (zs++ys))) τc):=
 psW (cK (iG PySem.F.plainAttrs_list PySem.F.slot_list_extend PySem.F.type_list_extend iq (bD hN hv hd hcd) (bK he cQ hst) hbase hfew hline hst hpl) hs) λD σ H ⟨A,H₀,B,S,fn,_⟩=>by
   obtain ⟨l,vs,hb,e1,e2,d⟩:=S.sl r _ hi
   refine ⟨_,slot_of e1,.inl ⟨rfl,_,SqL.of e2⟩,A,H₀,B,S,λv H1 bs S2 ⟨l2,ws,eb,ev,h2,d2⟩=>?_⟩
   cases ev
   have hi2:(τ.set i (.o xs'))[r]?=some (.o zs):=by rw [List.getElem?_set_ne hij]; exact hi
   obtain ⟨l',vs',hb',e1',e2',d'⟩:=S2.sl r _ hi2
   rw [e1] at e1'
   cases e1'
   have lim:1000000<=sizeLine:=by decide
   refine ⟨l,l2,vs',ws,rfl,rfl,e2',h2,by rw [d'.length,d2.length]; omega,?_⟩
   exact fn _ _ _ (S2.put hi2 hb' (d'.append (d2.mono (aC (ao.refl _) λ_ z=>.inl z)))) rfl
theorem yI (r:Nat) {n:Str} {ap cp:Pos} (he:PE X e (dEO X.K τ i xs' (.d x))) (hl:zs.length < 1000000) (hij:i ≠ r:=by decide) (hi:τ[r]?=some (.o zs):=by rfl) (hN:X.N[r]?=some n:=by rfl)
   (hv:Vis X.env.scope n:=by first | exact Or.inl rfl | exact Or.inr (Or.inl rfl) | exact Or.inr (Or.inr rfl)) (hd:(n == ("__debug__" : Str))=false:=by decide) (hcd:(n == ("__classdict__" : Str))=false:=by decide)
   (hfew:((backTo cp (starEach [e] X.env)).all (λx=>!x.1) && (backToKw cp (keywordEach [] X.env)).all (λx=>x.1.isSome) && decide (([e]:List Expr).length + ([]:List Keyword).length + (if ([]:List Keyword).isEmpty then 0 else 1) < 30))=true:=by rfl)
   (hline:(ap.endLine == cp.line)=true:=by rfl) (hst:starEach [e] X.env=(false,eval e X.env) :: starEach [] X.env:=by rfl) (hpl:(backTo cp (starEach [] X.env)).any (·.1)=false:=by rfl)
   (hs:swapsWith (.Call (.Attribute (.Name n p) "append" ap) [e] [] cp) none pos.line X.env=pure false:=by rfl) (hbase:attributeBase (.Name n p) "append" X.env (eval (.Name n p) X.env)=eval (.Name n p) X.env:=by rfl) :
   PS X (.Expr (.Call (.Attribute (.Name n p) "append" ap) [e] [] cp) pos) (dSA X.K τ i ((τ.set i (.o xs')).set r (.o (zs++[x]))) τc):=
 psW (cK (iG PySem.F.plainAttrs_list PySem.F.slot_list_append PySem.F.type_list_append dN (bD hN hv hd hcd) (bK he cQ hst) hbase hfew hline hst hpl) hs) λD σ H ⟨A,H₀,B,S,fn,_⟩=>by
   obtain ⟨l,vs,hb,e1,e2,d⟩:=S.sl r _ hi
   refine ⟨_,slot_of e1,.inl ⟨rfl,_,SqL.of e2⟩,A,H₀,B,S,λv H1 bs S2 ⟨_,u,eu,d2⟩=>?_⟩
   cases eu
   have hi2:(τ.set i (.o xs'))[r]?=some (.o zs):=by rw [List.getElem?_set_ne hij]; exact hi
   obtain ⟨l',vs',hb',e1',e2',d'⟩:=S2.sl r _ hi2
   rw [e1] at e1'
   cases e1'
   refine ⟨l,vs',v,rfl,rfl,e2',by rw [d'.length]; exact Nat.lt_trans hl (by decide),?_⟩
   exact fn _ _ _ (S2.put hi2 hb' (d'.append (.cons (d2.mono (aC (ao.refl _) λ_ z=>.inl z)) .nil))) rfl
theorem zY {n:Str} {m:Int} {j:Nat} {ix:Expr} {sp:Pos} (hx:PE X ix (dE X.K false τ (.d (.int m)))) (he:PE X e (dE X.K true τ (.d x))) (hj:ixN xs.length m=some j) (hi:τ[i]?=some (.o xs):=by rfl) (hN:X.N[i]?=some n:=by rfl)
   (hv:Vis X.env.scope n:=by first | exact Or.inl rfl | exact Or.inr (Or.inl rfl) | exact Or.inr (Or.inr rfl)) (hd:(n == ("__debug__" : Str))=false:=by decide) (hcd:(n == ("__classdict__" : Str))=false:=by decide)
   (hs:swapsWithSole [.Subscript (.Name n p) ix sp] e pos.line X.env=pure false:=by rfl) (hw:swappedStores [.Subscript (.Name n p) ix sp] e X.env=pure none:=by rfl) (h1:(assignEach [.Subscript (.Name n p) ix sp] X.env).map (·.2)=[assign (.Subscript (.Name n p) ix sp) X.env]:=by rfl)
   (ha:∀ v,assign (.Subscript (.Name n p) ix sp) X.env v=(do
     let ov <- holding [v] (eval (.Name n p) X.env)
     let iv <- holding [v,ov] (eval ix X.env)
     standAt sp
     holding [v,ov,iv] (setItem ov iv v)
     release [v,ov,iv] []):=by intro _; rfl) :
   PS X (.Assign [.Subscript (.Name n p) ix sp] e pos) (dSA X.K τ i (τ.set i (.o (xs.set j x))) τc):=
 psW (oo he (tJ (bD hN hv hd hcd) hx set_list ha) hs hw h1) λD σ H ⟨A,H₀,B,S,fn,_⟩=>aY S λv H1 e1 d1=>by
   obtain ⟨l,vs,hb,f1,f2,d⟩:=(S.mono e1).sl i _ hi
   refine ⟨_,slot_of f1,aY (S.mono e1) λw H2 e2 d2=>?_⟩
   cases d2
   refine ⟨l,vs,m,j,rfl,rfl,e2 _ _ f2,by rw [d.length]; exact hj,?_⟩
   exact fn _ _ _ (((S.mono e1).mono e2).put hi hb (lQ j (d.mono (aC e2 λ_ z=>z)) (d1.mono (aC e2 λ_ z=>z)))) rfl
theorem Ak {n:Str} {xs:List D} {ap cp ap2 cp2:Pos} {k j:Nat} (x:D) (ha:PE X a (dE X.K false τ (.d (.int (k:Nat))))) (hb:PE X b (dE X.K false τ (.d (.int (j:Nat))))) (hj:xs[j]?=some x) (hk:k < xs.length) (hl:xs.length < 1000000) (hi:τ[i]?=some (.o xs):=by rfl) (hN:X.N[i]?=some n:=by rfl)
   (hv:Vis X.env.scope n:=by first | exact Or.inl rfl | exact Or.inr (Or.inl rfl) | exact Or.inr (Or.inr rfl)) (hd:(n == ("__debug__" : Str))=false:=by decide) (hcd:(n == ("__classdict__" : Str))=false:=by decide)
   (hfew:((backTo cp (starEach [a,.Call (.Attribute (.Name n q) "pop" ap2) [b] [] cp2] X.env)).all (λx=>!x.1) && (backToKw cp (keywordEach [] X.env)).all (λx=>x.1.isSome) && decide (([a,.Call (.Attribute (.Name n q) "pop" ap2) [b] [] cp2]:List Expr).length + ([]:List Keyword).length + (if ([]:List Keyword).isEmpty then 0 else 1) < 30))=true:=by rfl)
   (hline:(ap.endLine == cp.line)=true:=by rfl) (hst:starEach [a,.Call (.Attribute (.Name n q) "pop" ap2) [b] [] cp2] X.env=(false,eval a X.env) :: starEach [.Call (.Attribute (.Name n q) "pop" ap2) [b] [] cp2] X.env:=by rfl)
   (hst2:starEach [.Call (.Attribute (.Name n q) "pop" ap2) [b] [] cp2] X.env=(false,eval (.Call (.Attribute (.Name n q) "pop" ap2) [b] [] cp2) X.env) :: starEach [] X.env:=by rfl) (hpl:(backTo cp (starEach [.Call (.Attribute (.Name n q) "pop" ap2) [b] [] cp2] X.env)).any (·.1)=false:=by rfl)
   (hs:swapsWith (.Call (.Attribute (.Name n p) "insert" ap) [a,.Call (.Attribute (.Name n q) "pop" ap2) [b] [] cp2] [] cp) none pos.line X.env=pure false:=by rfl) (hbase:attributeBase (.Name n p) "insert" X.env (eval (.Name n p) X.env)=eval (.Name n p) X.env:=by rfl)
   (hfew2:((backTo cp2 (starEach [b] X.env)).all (λx=>!x.1) && (backToKw cp2 (keywordEach [] X.env)).all (λx=>x.1.isSome) && decide (([b]:List Expr).length + ([]:List Keyword).length + (if ([]:List Keyword).isEmpty then 0 else 1) < 30))=true:=by rfl) (hline2:(ap2.endLine == cp2.line)=true:=by rfl)
   (hst3:starEach [b] X.env=(false,eval b X.env) :: starEach [] X.env:=by rfl) (hpl2:(backTo cp2 (starEach [] X.env)).any (·.1)=false:=by rfl) (hbase2:attributeBase (.Name n q) "pop" X.env (eval (.Name n q) X.env)=eval (.Name n q) X.env:=by rfl) :
   PS X (.Expr (.Call (.Attribute (.Name n p) "insert" ap) [a,.Call (.Attribute (.Name n q) "pop" ap2) [b] [] cp2] [] cp) pos) (dSA X.K τ i (τ.set i (.o ((xs.eraseIdx j).insertIdx k x))) τc):=
 psW (cK (iG PySem.F.plainAttrs_list PySem.F.slot_list_insert PySem.F.type_list_insert qQ (bD hN hv hd hcd)
     (bK ha (bK (iG PySem.F.plainAttrs_list PySem.F.slot_list_pop PySem.F.type_list_pop sS (bD hN hv hd hcd) (bK hb cQ hst3) hbase2 hfew2 hline2 hst3 hpl2) cQ hst2) hst) hbase hfew hline hst hpl) hs) λDn σ H ⟨A,H₀,B,S,fn,_⟩=>by
   obtain ⟨l,vs,hbb,e1,e2,d⟩:=S.sl i _ hi
   have hjl:j < xs.length:=(List.getElem?_eq_some_iff.mp hj).1
   refine ⟨_,slot_of e1,.inl ⟨rfl,_,SqL.of e2⟩,aY S λw1 H1 f1 g1=>?_⟩
   cases g1
   have S1:=S.mono f1
   refine ⟨_,slot_of e1,.inl ⟨rfl,_,SqL.of (f1 _ _ e2)⟩,aY S1 λw2 H2 f2 g2=>?_⟩
   cases g2
   have S2:=S1.mono f2
   obtain ⟨l',vs',hb',e1',e2',d'⟩:=S2.sl i _ hi
   rw [e1] at e1'
   cases e1'
   have hln:=d'.length
   obtain ⟨v,hv1,dv⟩:=d'.get hj
   refine ⟨l,vs',(j:Int),j,v,rfl,rfl,e2',by omega,by omega,PySem.StrLaws.seqIndex_nonneg (by omega) (by omega),hv1,?_⟩
   have hel:(vs'.eraseIdx j).length=xs.length - 1:=by rw [List.length_eraseIdx_of_lt (by omega),hln]
   refine ⟨l,vs'.eraseIdx j,(k:Int),v,rfl,rfl,aT,by omega,by rw [Int.toNat_natCast]; omega,by rw [hel]; have:sizeLine > 1000000:=(by decide); omega,?_⟩
   rw [Int.toNat_natCast]
   have eu:upd (upd H2 l (.lst (vs'.eraseIdx j))) l (.lst ((vs'.eraseIdx j).insertIdx k v))=upd H2 l (.lst ((vs'.eraseIdx j).insertIdx k v)):=by
     funext z
     unfold upd
     split <;> rfl
   rw [eu]
   exact fn _ _ _ (S2.put hi hb' (pC dv k (kE j d'))) rfl
end
end Hy
namespace K31
open PySem PySem.Spec PyProof.Rows L2 Hy
open Ev (D Den av aI aN)
noncomputable def gk (xs ds xs':List D) (r:Sl):Prop:=∃ (n i kk M:Nat) (g:Nat->Nat->Rat),xs=(mkT n n g).map rwQ/\ds=[.int ((i + 1:Nat):Int),.int (kk:Nat)]/\i + 1 < n/\kk < n/\n<=7/\g i kk ≠ 0/\Sz n M g/\4 * M<=900000/\xs'=(mkT n n (tkF g i kk)).map rwQ/\r=.d (stD ("up",i,g (i + 1) kk / g i kk))
theorem ze {n i kk:Nat} {g:Nat->Nat->Rat} (hi:i + 1 < n):((mkT n n g).map rwQ).set (i + 1) (rwQ ((List.range n).map λb=>g (i + 1) b - g (i + 1) kk / g i kk * g i b))=(mkT n n (tkF g i kk)).map rwQ:=by
 refine List.ext_getElem (by simp [mkT]) λx h1 h2=>?_
 rw [List.getElem_set]
 by_cases e:i + 1=x
 · subst e
   have:tkF g i kk (i + 1)=λb=>g (i + 1) b - g (i + 1) kk / g i kk * g i b:=by
     funext b
     unfold tkF
     rw [if_pos rfl]
   rw [if_pos rfl]
   simp [mkT,this]
 · have:tkF g i kk x=g x:=by
     funext b
     unfold tkF
     rw [if_neg (Ne.symm e)]
   rw [if_neg e]
   simp [mkT,this]
section
variable {P:Program} {w:World} {K:PySem.W.Frag} {mg:Str->Option Value} {base:Heap} {k:Nat} {f:Addr} {fd:FuncData} {qual:Str}
set_option maxHeartbeats 1000000 in
theorem mz (F:Fun K "take_off" qual (top 40) f fd) (hb:∀ x ∈ aB,mg x=none) (c_quotient_of:Cal P w K mg base k "quotient_of" df) (c_rest_of:Cal P w K mg base k "rest_of" iE) (c_product_of:Cal P w K mg base k "product_of" cG):a6 P w K mg base CX0 (k + 1) f fd ["grid","i","k"] (spG K gk):=by
 refine fnG F iH hb (by rintro _ _ _ _ ⟨_,_,_,_,_,_,rfl,_⟩; rfl) ?_
 rintro _ _ _ _ ⟨n,i,kk,M,g,rfl,rfl,hi,hk,h7,nz,sz,hM,rfl,rfl⟩ cdv A outer s H E b
 have nd:=iH.nd
 have ei:((i + 1:Nat):Int) - 1=(i:Nat):=by omega
 have s1:=sz (i + 1) hi kk hk
 have s2:=sz i (by omega) kk hk
 have sw:=s1.div s2 nz
 refine g9 (wa 3 nd (x_call b c_quotient_of (ae (aL (du (xs:=(mkT n n g).map rwQ) 0 (aa 1) (gM hi)) (aa 2) (bb (gw hk))) (ae (aL (du (xs:=(mkT n n g).map rwQ) 0 (aJ (aa 1) af cE) (by rw [ei]; exact gM (i:=i) (by omega))) (aa 2) (bb (gw hk))) ag)) ⟨M,M,g (i + 1) kk,g i kk,rfl,nz,s1,s2,by omega,rfl⟩)) ?_
 refine g9 (zY (i:=0) (xs:=(mkT n n g).map rwQ) (m:=((i + 1:Nat):Int)) (j:=i + 1) (x:=rwQ ((List.range n).map λb=>g (i + 1) b - g (i + 1) kk / g i kk * g i b)) (aa 1) (bJ (eP (va 0 1 (f:=λb=>frD (g (i + 1) b - g (i + 1) kk / g i kk * g i b)) b (pO b (du (xs:=(mkT n n g).map rwQ) 0 (aa 1) (gM hi)) (du (xs:=(mkT n n g).map rwQ) 0 (aJ (aa 1) af cE) (by rw [ei]; exact gM (i:=i) (by omega)))) Bi (by rw [bO,List.length_map,List.length_map,List.length_map,List.length_range]; omega) λj hj s0 H0 fp=>?_)) ?_) (by rw [dh]; exact oX hi)) ?_
 · rw [bO,List.length_map,List.length_map,List.length_map,List.length_map,List.length_range] at hj
   have hj:j < n:=by omega
   have e1:((List.range n).map (g (i + 1))).getD j 0=g (i + 1) j:=by simp [hj]
   have e2:((List.range n).map (g i)).getD j 0=g i j:=by simp [hj]
   rw [e1,e2]
   have s3:=sz (i + 1) hi j hj
   have s4:=sz i (by omega) j hj
   exact x_call (b.comp s0 H0 _ fp) c_rest_of (ae (aa 0) (ae (x_call (b.comp s0 H0 _ fp) c_product_of (ae (aa 2) (ae (aa 1) ag)) ⟨M + M,M,_,_,rfl,sw,s4,by omega,rfl⟩) ag)) ⟨M,M + M + M,_,_,rfl,s3,sw.mul s4,by omega,rfl⟩
 · refine congrArg (λl=>some (D.lst l)) ?_
   rw [bO,List.length_map,List.length_map,List.length_map,List.length_map,List.length_range,Nat.min_self,List.map_map]
   rfl
 rw [show stD ("up",i,g (i + 1) kk / g i kk)=D.tup [.str "up",.int (((i + 1:Nat):Int) - 1),frD (g (i + 1) kk / g i kk)] by unfold stD; rw [ei]]
 refine uF (bQ (ae bL (ae (aJ (aa 1) af cE) (ae (aa 3) ag)))) ?_
 exact congrArg (λl=>some (Sl.o l)) (ze hi)
end
noncomputable def Mk1 (K:PySem.W.Frag) (mg:Str->Option Value) (n:Str) (i j:Int):Prop:=∃ a,mg n=some (.ref a)/\∀ H,SqT K H a [.int i,.int j]
theorem m8 {X:Cx} {C:Bool} {τ:List Sl} {pos:Pos} {n:Str} {i j:Int} (h:Mk1 X.K X.mg n i j) (hg:Gl X n:=by rfl) (hd:(n == ("__debug__" : Str))=false:=by decide):PE X (.Name n pos) (dE X.K C τ (.d (.tup [.int i,.int j]))):=by
 obtain ⟨a,hm,hb⟩:=h
 exact kK (qd (v:=.ref a) hg hm rfl hd) λH=>.tup (hb H) (.cons .int (.cons .int .nil))
noncomputable def gd (xs ds xs':List D) (r:Sl):Prop:=∃ (n i:Nat) (g:Nat->Nat->Rat),xs=(mkT n n g).map rwQ/\ds=[.int ((i + 1:Nat):Int)]/\i + 1 < n/\n<=7/\xs'=(mkT n n (lfF g i)).map rwQ/\r=.o [stD ("weigh",i,0),stD ("up",i,1)]
theorem zI {n i:Nat} {g:Nat->Nat->Rat} (hi:i + 1 < n):(((mkT n n g).map rwQ).eraseIdx (i + 1)).insertIdx i (rwQ ((List.range n).map (g (i + 1))))=(mkT n n (lfF g i)).map rwQ:=by
 have l1:(((mkT n n g).map rwQ).eraseIdx (i + 1)).length=n - 1:=by rw [List.length_eraseIdx_of_lt (by rw [dh]; exact hi),dh]
 refine List.ext_getElem ?_ λx h1 h2=>?_
 · rw [List.length_insertIdx,l1,dh,if_pos (by omega)]; omega
 · have hx:x < n:=by rw [dh] at h2; exact h2
   have gg:∀ y (h:y < ((mkT n n g).map rwQ).length),((mkT n n g).map rwQ)[y]=rwQ ((List.range n).map (g y)):=λy h=>by simp [mkT]
   have r2:((mkT n n (lfF g i)).map rwQ)[x]=rwQ ((List.range n).map (g (swp i x))):=by
     simp [mkT]
     rfl
   rw [r2,List.getElem_insertIdx]
   split
   · rename_i q
     rw [List.getElem_eraseIdx,dif_pos (by omega),gg,dU (by omega) (by omega)]
   · split
     · rename_i q
       rw [q,lN]
     · rename_i q1 q2
       rw [List.getElem_eraseIdx]
       by_cases e:x=i + 1
       · rw [dif_pos (by omega),gg,e,ie]
         rfl
       · rw [dif_neg (by omega),gg,dU (by omega) e,show x - 1 + 1=x by omega]
section
variable {P:Program} {w:World} {K:PySem.W.Frag} {mg:Str->Option Value} {base:Heap} {k:Nat} {f:Addr} {fd:FuncData} {qual:Str}
theorem l5 (F:Fun K "lift_row" qual (top 39) f fd) (hb:∀ x ∈ aB,mg x=none) (y_NOUGHT:Mk1 K mg "NOUGHT" 0 1) (y_ONE:Mk1 K mg "ONE" 1 1):a6 P w K mg base CX0 (k + 1) f fd ["grid","i"] (spG K gd):=by
 refine fnG F iN hb (by rintro _ _ _ _ ⟨_,_,_,_,rfl,_⟩; rfl) ?_
 rintro _ _ _ _ ⟨n,i,g,rfl,rfl,hi,h7,rfl,rfl⟩ cdv A outer s H E b
 have nd:=iN.nd
 have ei:((i + 1:Nat):Int) - 1=(i:Nat):=by omega
 have g0:((mkT n n g).map rwQ)[i + 1]?=some (rwQ ((List.range n).map (g (i + 1)))):=by
   rw [List.getElem?_eq_getElem (by rw [dh]; exact hi)]
   simp [mkT]
 refine g9 (Ak (i:=0) (xs:=(mkT n n g).map rwQ) (k:=i) (j:=i + 1) (rwQ ((List.range n).map (g (i + 1)))) (by rw [<- ei]; exact aJ (aa 1) af cE) (aa 1) g0 (by rw [dh]; omega) (by rw [dh]; omega)) ?_
 rw [show stD ("weigh",i,0)=D.tup [.str "weigh",.int (((i + 1:Nat):Int) - 1),.tup [.int 0,.int 1]] by unfold stD; rw [ei]; rfl,show stD ("up",i,1)=D.tup [.str "up",.int (((i + 1:Nat):Int) - 1),.tup [.int 1,.int 1]] by unfold stD; rw [ei]; rfl]
 refine uF (cD (ae (bQ (ae bL (ae (aJ (aa 1) af cE) (ae (m8 y_NOUGHT) ag)))) (ae (bQ (ae bL (ae (aJ (aa 1) af cE) (ae (m8 y_ONE) ag)))) ag))) ?_
 exact congrArg (λl=>some (Sl.o l)) (zI hi)
end
end K31
namespace Ev
open PySem PySem.Spec PyProof.Rows L2
open PySem.Builtin.Range (rangeSize)
noncomputable def Itg (m:Int) (n:Nat):L2.It:=⟨λi _=>i < n,λi H x H'=>H'=H/\x=.int (m - (i:Nat)),λi _=>n<=i⟩
theorem xW {P:Program} {w:World} {K:PySem.W.Frag} {tg:Expr} (it:Addr) (m:Int) (n:Nat):Turn P w K false tg (Itg m n) [it] it (λi h=>i<=n/\IsRangeIter h it (m + (i:Nat) * (-1)) ((n:Int) - (i:Nat)) (-1)) where
 mem:=by simp
 obj:=λi h st b hb=>by
   have e:b=it:=by simpa using hb
   subst e
   exact ⟨_,st.2,λv z=>by
     have z':Data.fields _=Data.cell v:=z
     cases z'⟩
 keep:=λi h h' st k=>⟨st.1,k it (by simp) _ st.2⟩
 item:=by
   intro X hP hw hK hc i pins s σ H E I hf st hg
   subst hP hw hK
   obtain ⟨f0,f1,f2,f3,f4,f5⟩:=hf it (by simp)
   have W:=Walks.range (prog:=X.prog) (w:=X.w) (I.ok.hd hc.calm) it m (-1) n
   refine W.item i s _ _ hg st.2 λv h' tk hv st' kk=>?_
   obtain ⟨t,rfl⟩:=hv
   have I1:Inv X pins σ H { s with heap:=h',toks:=tk }:=I.turned (λb o hb e=>kk b o (by simpa using hb) e) f0 f1 f3 f4 f5
   refine ⟨_,rfl,kA (s:={ s with heap:=h',toks:=tk }) (n:="range_iterator") st' rfl rfl (by decide) ⟨.int (m - (i:Nat)),H,I1,⟨t,?_⟩,⟨rfl,rfl⟩,⟨hg,st'⟩,λb hb=>(hf b hb).1⟩⟩
   rw [Int.mul_neg,Int.mul_one,<- Int.sub_eq_add_neg]
 done:=by
   intro X hP hw hK hc i pins s σ H E I hf st hg
   subst hP hw hK
   obtain ⟨f0,f1,f2,f3,f4,f5⟩:=hf it (by simp)
   have hg:n<=i:=hg
   obtain rfl:i=n:=Nat.le_antisymm st.1 hg
   have W:=Walks.range (prog:=X.prog) (w:=X.w) (I.ok.hd hc.calm) it m (-1) i
   exact W.done s _ _ st.2 λh' tk kk=>⟨rfl,I.turned (λb o hb e=>kk b o (by simpa using hb) e) f0 f1 f3 f4 f5⟩
 self:=λ_ _ _ _ _ st h=>wpAny_pyIter_rangeiter st.2 h
theorem qe {m j:Int} {n:Nat} (h:m - j=n):rangeSize m j (-1)=n:=by
 unfold rangeSize
 rw [if_neg (by omega),Int.neg_neg,Int.ediv_one]
 split <;> omega
theorem tR {m j:Int} {n:Nat} (h:m - j=n) (h1:-(2 ^ 60)<=m/\m < 2 ^ 60/\-(2 ^ 60)<=j/\j < 2 ^ 60):Builtin.Range.small m j (-1)=true:=by
 unfold Builtin.Range.small
 rw [qe h]
 simp only [Builtin.Range.rangeFitsLong,Bool.and_eq_true,Bool.or_eq_true,decide_eq_true_eq,beq_iff_eq]
 simp
 omega
section
variable {X:Cx} {tg:Expr}
noncomputable def y8 (ta:TA):TI:=λσ H R=>ta σ H λvs H1=>∃ (i j:Int) (n:Nat),vs=[.int i,.int j,.int (-1)]/\(-(2 ^ 30)<=i/\i < 2 ^ 30/\-(2 ^ 30)<=j/\j < 2 ^ 30)/\i - j=n/\R (Itg i n) H1
theorem kJ {a b c:Expr} {ta:TA} {p pos:Pos} (hc:X.calm=true) (hg:Gl X "range") (hm:X.mg "range" = none) (ha:PA X [a,b,c] ta) (hs:starEach [a,b,c] X.env=(false,eval a X.env) :: starEach [b,c] X.env:=by rfl) (hs2:starEach [b,c] X.env=(false,eval b X.env) :: starEach [c] X.env:=by rfl) (hs3:starEach [c] X.env=[(false,eval c X.env)]:=by rfl) :
   PI X tg (.Call (.Name "range" p) [a,b,c] [] pos) (y8 ta):=by
 intro pins s σ H R I h
 refine Call_ (ee I hg hm boot_range (PyProof.Rows.callWith_type1 (thn (ha pos pins s σ H _ I h) λus s1 ⟨vs,H1,I1,r1,q1⟩=>?_) hs (by rw [hs2,hs3]; rfl)))
 obtain ⟨i,j,n,e,⟨q1,q2,q3,q4⟩,en,q⟩:=q1
 subst e
 cases r1 with
 | cons r rr=>
   cases rr with
   | cons r' rr=>
     cases rr with
     | cons r'' rr=>
       cases rr
       obtain ⟨t,rfl⟩:=r
       obtain ⟨t',rfl⟩:=r'
       obtain ⟨t'',rfl⟩:=r''
       refine call_range_3 (by decide) ?_ (Or.inl (PyProof.noPylong_small (by omega)))
       refine wpAny_pyIter_range (IsRange.new ..) (tR en ⟨by omega,by omega,by omega,by omega⟩) ?_
       have I2:Inv X pins σ H1 { s1 with heap:=s1.heap.push { cls:=.type "range",data:=.fields #[.int i t,.int j t',.int (-1) t''] },toks:=s1.toks }:=I1.kept λb o e=>Heap.get?_push_of_some _ e
       refine ⟨false,(s1.heap.push { cls:=.type "range",data:=.fields #[.int i t,.int j t',.int (-1) t''] }).objs.size,[(s1.heap.push { cls:=.type "range",data:=.fields #[.int i t,.int j t',.int (-1) t''] }).objs.size],_,_,H1,rfl,
         I2.kept (t':=s1.toks) λb o e=>Heap.get?_push_of_some _ e,.inl hc,xW _ i n,⟨Nat.zero_le _,?_⟩,λb hb=>?_,q⟩
       · have e1:i + ((0:Nat):Int) * (-1)=i:=by simp
         have e2:((n:Nat):Int) - ((0:Nat):Int)=Builtin.Range.rangeSize i j (-1):=by rw [qe en]; simp
         rw [e1,e2]
         exact Heap.get?_push_size _ rfl
       · have e:b=(s1.heap.push { cls:=.type "range",data:=.fields #[.int i t,.int j t',.int (-1) t''] }).objs.size:=by simpa using hb
         subst e
         exact I2.jV (Nat.le_refl _) (I2.hok.fresh (Nat.le_refl _))
end
end Ev
namespace Hy
open PySem PySem.Spec PyProof.Rows L2
open Ev (D Den av aq aX aP Itg kJ)
noncomputable def m4 (m:Int) (n:Nat):List D:=(List.range n).map λk=>D.int (m - (k:Nat))
theorem dJ (m:Int) (n:Nat):(m4 m n).length=n:=by simp [m4]
theorem pQ (m:Int) (n i:Nat) (h:i < (m4 m n).length):(m4 m n)[i]=.int (m - (i:Nat)):=by simp [m4]
theorem v8 {K:PySem.W.Frag} {G:Hp} (m:Int) (n:Nat):Yl K (Itg m n) (m4 m n) G:=by
 intro H sg
 refine ⟨λi hi=>by rw [dJ] at hi; exact hi,λi hi=>?_⟩
 have hi':i < n:=by rw [dJ] at hi; exact hi
 refine ⟨hi',λx H' ⟨e1,e2⟩=>?_⟩
 subst e1 e2
 refine ⟨ao.refl _,λM _ sv=>?_⟩
 rw [pQ]
 exact .int
theorem yG {X:Cx} {k:Nat} {τ:List Sl} {a b c tg:Expr} {p pos:Pos} {m j:Int} (n:Nat) (B:Bk X k) (h:PE X a (dE X.K false τ (.d (.int m)))) (h':PE X b (dE X.K false τ (.d (.int j)))) (h'':PE X c (dE X.K false τ (.d (.int (-1))))) (h1:-(2 ^ 30)<=m/\m < 2 ^ 30/\-(2 ^ 30)<=j/\j < 2 ^ 30) (hn:m - j=n) (hg:Gl X "range":=by rfl)
   (hs:starEach [a,b,c] X.env=(false,eval a X.env) :: starEach [b,c] X.env:=by rfl) (hs2:starEach [b,c] X.env=(false,eval b X.env) :: starEach [c] X.env:=by rfl) (hs3:starEach [c] X.env=[(false,eval c X.env)]:=by rfl):PI X tg (.Call (.Name "range" p) [a,b,c] [] pos) (dI X.K τ (m4 m n)):=
 piW (kJ B.calm hg (B.blt _ (by decide)) (ae h (ae h' (ae h'' ag hs3) hs2) hs) hs hs2 hs3) λσ H R ⟨A,H₀,B,S,k⟩=>eI S λvs H1 e1 d1=>by
   cases d1 with
   | cons d r=>
     cases r with
     | cons d' r=>
       cases r with
       | cons d'' r=>
         cases r
         cases d
         cases d'
         cases d''
         exact ⟨m,j,n,rfl,h1,hn,k _ H1 e1 (v8 m n)⟩
end Hy
namespace K31
open PySem PySem.Spec PyProof.Rows L2 Hy
open Ev (D Den av aI aN)
noncomputable def gA (k N:Nat) (g:Nat->Nat->Rat):Nat->Nat->Nat->Rat
 | 0=>g
 | a + 1=>cw k (k + (N - (a + 1))) (gA k N g a)
noncomputable def sA (k N:Nat) (g:Nat->Nat->Rat):Nat->List Stp
 | 0=>[]
 | a + 1=>sA k N g a++dt k (k + (N - (a + 1))) (gA k N g a)
theorem oE {n M k N:Nat} {g:Nat->Nat->Rat}:∀ a,a<=N->clG k N g=clG k (N - a) (gA k N g a)/\clS k N g=sA k N g a++clS k (N - a) (gA k N g a)/\(SzP n M k N g->SzP n M k (N - a) (gA k N g a))
 | 0,_=>⟨rfl,rfl,λh=>h⟩
 | a + 1,h=>by
   obtain ⟨e1,e2,e3⟩:=oE (n:=n) (M:=M) (k:=k) (N:=N) (g:=g) a (by omega)
   have e:N - a=N - (a + 1) + 1:=by omega
   rw [e] at e1 e2 e3
   refine ⟨e1,?_,λh=>(e3 h).2⟩
   rw [e2]
   show _=(sA k N g a++dt k (k + (N - (a + 1))) (gA k N g a))++_
   rw [List.append_assoc]
   rfl
theorem ua {k N:Nat} {g:Nat->Nat->Rat}:∀ a,(sA k N g a).length<=2 * a
 | 0=>Nat.le_refl _
 | a + 1=>by
   have h1:=ua (k:=k) (N:=N) (g:=g) a
   have h2:=mv k (k + (N - (a + 1))) (gA k N g a)
   show (sA k N g a++_).length<=_
   rw [List.length_append]
   omega
theorem xv {n M k:Nat} {g:Nat->Nat->Rat}:∀ d,SzP n M k d g->Sz n M g
 | 0,h=>h
 | _ + 1,h=>h.1
theorem tZ (q:Rat):Ev.cF (frD q):=⟨by simp [Ev.cln,Ev.dr,frD],by simp [Ev.dep,Ev.eQ,frD]⟩
theorem yS (q:Rat):Ev.eqD (frD q) (frD 0)=decide (q=0):=by
 by_cases h:q=0
 · subst h
   decide
 · rw [decide_eq_false h]
   have:q.num ≠ 0:=λz=>h (Rat.num_eq_zero.mp z)
   unfold frD
   rw [Ev.eqD,Ev.iU,Ev.eqD,show (0:Rat).num=0 from rfl,beq_eq_false_iff_ne.mpr this]
   rfl
theorem vJ {X:Cx} {k:Nat} {τ:List Sl} {e:Expr} {q:Rat} {p pos:Pos} {c:Bool} (b:Bk X k) (y:Mk1 X.K X.mg "NOUGHT" 0 1) (hc:decide (q=0)=c) (h:PE X e (dE X.K false τ (.d (frD q)))) (hg:Gl X "NOUGHT":=by rfl):PT X (.Compare e [.Eq] [.Name "NOUGHT" p] pos) (dT X.K τ c):=by
 have z:PT X (.Compare e [.Eq] [.Name "NOUGHT" p] pos) (dT X.K τ _):=bg h (m8 y hg) (wb (x:=frD q) (y:=frD 0) b (tZ q) (tZ 0))
 rw [yS,hc] at z
 exact z
theorem xH {X:Cx} {i:Nat} {τ τ2:List Sl} {c:Expr} {p1 pos:Pos} {rest:List Stmt} (hc:PT X c (dT X.K τ true)):PSs X (.If c [.Continue p1] [] pos :: rest) (dSA X.K τ i τ2 τ):=
 hZ (dD (kB hc (vY l4) iW) bZ) λ_ σ _ ⟨A,H₀,B,S,_,fc⟩=>⟨A,H₀,B,S,λH' e=>mw (fc B σ H' (S.mono e) rfl)⟩
noncomputable def cO (xs ds xs':List D) (r:Sl):Prop:=∃ (n M kk:Nat) (g:Nat->Nat->Rat),xs=(mkT n n g).map rwQ/\ds=[.int (kk:Nat)]/\kk < n/\n<=7/\SzP n M kk (n - 1 - kk) g/\4 * M<=900000/\xs'=(mkT n n (clG kk (n - 1 - kk) g)).map rwQ/\r=.o ((clS kk (n - 1 - kk) g).map stD)
section
variable {P:Program} {w:World} {K:PySem.W.Frag} {mg:Str->Option Value} {base:Heap} {k:Nat} {f:Addr} {fd:FuncData} {qual:Str}
set_option maxHeartbeats 1000000 in
theorem iR (F:Fun K "clear_column" qual (top 38) f fd) (hb:∀ x ∈ aB,mg x=none) (y_NOUGHT:Mk1 K mg "NOUGHT" 0 1) (c_lift_row:nN P w K mg base k "lift_row" (spG K gd)) (c_take_off:nN P w K mg base k "take_off" (spG K gk)):a6 P w K mg base CX0 (k + 1) f fd ["grid","k"] (spG K cO):=by
 refine fnG F eJ hb (by rintro _ _ _ _ ⟨_,_,_,_,_,rfl,_⟩; rfl) ?_
 rintro _ _ _ _ ⟨n,M,kk,g,rfl,rfl,hk,h7,sz,hM,rfl,rfl⟩ cdv A outer s H E b
 have nd:=eJ.nd
 generalize eN:n - 1 - kk=N at *
 obtain ⟨eG,eS,_⟩:=oE (n:=n) (M:=M) (k:=kk) (N:=N) (g:=g) N (Nat.le_refl _)
 rw [Nat.sub_self] at eG eS
 have eS:clS kk N g=sA kk N g N:=by rw [eS]; exact List.append_nil _
 have eG:clG kk N g=gA kk N g N:=eG
 refine g9 (wa 2 nd (cD ag)) ?_
 refine g9 (Aq (ys:=m4 ((n:Nat) - 1:Int) N) (g:=λa=>.int ((kk + (N - (a + 1)) + 1:Nat):Int)) 3 (λa=>[.o ((mkT n n (gA kk N g a)).map rwQ),.d (.int (kk:Nat)),.o ((sA kk N g a).map stD),match a with | 0=>.un | a + 1=>.d (.int ((kk + (N - (a + 1)) + 1:Nat):Int))]) b nd
   (yG N b (aJ (Bj (bx b (ae (sG 0) ag) (iy dh))) af cE) (aa 1) (kx af) ⟨by omega,by omega,by omega,by omega⟩ (by omega)) (λa h=>?_) λa ha=>?_) ?_
 · rw [dJ] at h
   rw [pQ]
   congr 1
   omega
 · rw [dJ] at ha
   obtain ⟨_,_,e3⟩:=oE (n:=n) (M:=M) (k:=kk) (N:=N) (g:=g) a (by omega)
   have sa:=xv _ (e3 sz)
   have hl:=ua (k:=kk) (N:=N) (g:=g) a
   have hl':((sA kk N g a).map stD).length<=2 * a:=by rw [List.length_map]; exact hl
   have e1:gA kk N g (a + 1)=cw kk (kk + (N - (a + 1))) (gA kk N g a):=rfl
   have e2:sA kk N g (a + 1)=sA kk N g a++dt kk (kk + (N - (a + 1))) (gA kk N g a):=rfl
   show PSs _ _ (dSA _ [.o ((mkT n n (gA kk N g a)).map rwQ),.d (.int (kk:Nat)),.o ((sA kk N g a).map stD),.d (.int ((kk + (N - (a + 1)) + 1:Nat):Int))] 0 [.o ((mkT n n (gA kk N g (a + 1))).map rwQ),.d (.int (kk:Nat)),.o ((sA kk N g (a + 1)).map stD),.d (.int ((kk + (N - (a + 1)) + 1:Nat):Int))] [.o ((mkT n n (gA kk N g (a + 1))).map rwQ),.d (.int (kk:Nat)),.o ((sA kk N g (a + 1)).map stD),.d (.int ((kk + (N - (a + 1)) + 1:Nat):Int))])
   rw [e1,e2]
   generalize gA kk N g a=G at *
   generalize sA kk N g a=L at *
   have hi:kk + (N - (a + 1)) + 1 < n:=by omega
   generalize kk + (N - (a + 1))=i at *
   have ei:((i + 1:Nat):Int) - 1=(i:Nat):=by omega
   by_cases h1:G (i + 1) kk=0
   · have o1:cw kk i G=G:=if_pos h1
     have o2:dt kk i G=[]:=if_pos h1
     rw [o1,o2,List.append_nil]
     exact xH (vJ b y_NOUGHT (decide_eq_true h1) (aL (du (xs:=(mkT n n G).map rwQ) 0 (aa 3) (gM hi)) (aa 1) (bb (gw hk))))
   refine jb (y9 (vJ b y_NOUGHT (decide_eq_false h1) (aL (du (xs:=(mkT n n G).map rwQ) 0 (aa 3) (gM hi)) (aa 1) (bb (gw hk))))) ?_
   by_cases h2:G i kk=0
   · have o1:cw kk i G=lfF G i:=by unfold cw; rw [if_neg h1,if_pos h2]
     have o2:dt kk i G=[(("weigh" : Str),i,(0:Rat)),(("up" : Str),i,(1:Rat))]:=by unfold dt; rw [if_neg h1,if_pos h2]
     rw [o1,o2,List.map_append]
     refine jb (zD (vJ b y_NOUGHT (decide_eq_true h2) (aL (du (xs:=(mkT n n G).map rwQ) 0 (aJ (aa 3) af cE) (by rw [ei]; exact gM (i:=i) (by omega))) (aa 1) (bb (gw hk)))) (jb (x4 2 (gz 0 b c_lift_row ⟨n,i,G,rfl,rfl,hi,h7,rfl,rfl⟩ (ae (aa 3) ag)) (by show (L.map stD).length + 2 < 1000000; omega)) p6)) p6
   · have o1:cw kk i G=tkF G i kk:=by unfold cw; rw [if_neg h1,if_neg h2]
     have o2:dt kk i G=[(("up" : Str),i,G (i + 1) kk / G i kk)]:=by unfold dt; rw [if_neg h1,if_neg h2]
     rw [o1,o2,List.map_append]
     refine jb (zo (vJ b y_NOUGHT (decide_eq_false h2) (aL (du (xs:=(mkT n n G).map rwQ) 0 (aJ (aa 3) af cE) (by rw [ei]; exact gM (i:=i) (by omega))) (aa 1) (bb (gw hk)))) (jb (yI 2 (gz 0 b c_take_off ⟨n,i,kk,M,G,rfl,rfl,hi,hk,h7,h2,sa,hM,rfl,rfl⟩ (ae (aa 3) (ae (aa 1) ag))) (by omega)) p6)) p6
 · exact vR 2 (by rw [dJ,eS]; rfl) (by decide) (by rw [dJ,eG]; rfl) nofun
end
noncomputable def dn (ds:List D) (r:Sl):Prop:=∃ st:Stp,ds=[stD st]/\r=.d (stD (trn st))
noncomputable def qM (M:List (List Rat)) (i j:Nat):Rat:=(M.getD i []).getD j 0
noncomputable def uA (t:List (List Rat)) (j:Nat):List Rat:=t.map λr=>r.getD j 0
noncomputable def eW (ds:List D) (r:Sl):Prop:=∃ (R C:Nat) (t:List (List Rat)) (j:Nat),ds=[tbQ t,.int (j:Nat)]/\Tq R C t/\j < C/\r=.o ((uA t j).map frD)
noncomputable def o8 (t:List (List Rat)) (C:Nat):List (List Rat):=(List.range C).map (uA t)
noncomputable def dW (ds:List D) (r:Sl):Prop:=∃ (R C:Nat) (t:List (List Rat)),ds=[tbQ t]/\Tq R C t/\r=.o ((o8 t C).map rwQ)
section
variable {P:Program} {w:World} {K:PySem.W.Frag} {mg:Str->Option Value} {base:Heap} {k:Nat} {f:Addr} {fd:FuncData} {qual:Str}
theorem jH (F:Fun K "turned_step" qual (top 33) f fd) (hb:∀ x ∈ aB,mg x=none):a6 P w K mg base CX0 (k + 1) f fd ["step"] (spD K dn):=by
 refine fnD F jy hb (by rintro _ _ ⟨_,rfl,_⟩; rfl) ?_
 rintro _ _ ⟨⟨u,i,q⟩,rfl,rfl⟩ cdv A outer s H E b
 refine fT (bg (aL (aa 0) af (aM (aF (i:=0) rfl))) bL pd) (λh=>?_) λh=>?_
 · refine aW (aa 0) ?_
   unfold trn
   rw [if_pos (of_decide_eq_true h)]
 · refine aW (s:=.d (stD (if u = "down" then "up" else "down",i,q))) (bJ (x:=stD (if u = "down" then "up" else "down",i,q)) (s:=.d (stD (if u = "down" then "up" else "down",i,q))) (bQ (ae (ue (p:=decide (u=("down" : Str))) (bg (aL (aa 0) af (aM (aF (i:=0) rfl))) bL pd) (λh=>by rw [if_pos (of_decide_eq_true h)]; exact bL) (λh=>by rw [if_neg (of_decide_eq_false h)]; exact bL)) (ae (aL (aa 0) af (aM (aF (i:=1) rfl))) (ae (aL (aa 0) af (aM (aF (i:=2) rfl))) ag))))) ?_
   unfold trn
   rw [if_neg (of_decide_eq_false h)]
theorem lY (F:Fun K "column_of" qual (top 23) f fd) (hb:∀ x ∈ aB,mg x=none):a6 P w K mg base CX0 (k + 1) f fd ["table","j"] (spD K eW):=by
 refine fnD F lM hb (by rintro _ _ ⟨_,_,_,_,rfl,_⟩; rfl) ?_
 rintro _ _ ⟨R,C,t,j,rfl,h,hj,rfl⟩ cdv A outer s H E b
 have r7:=h.r7
 refine aW (eP (cmp 0 (g:=λi=>rwQ (t.getD i [])) (f:=λi=>frD ((t.getD i []).getD j 0)) b (bU (aa 0)) (fS (f:=rwQ) (xs:=t) []) (by rw [List.length_map,h.len]; omega) λi hi s0 H0 fp=>(aL (aa 0) (aa 1) (bb (gh (f:=frD) (xs:=t.getD i []) 0 (i:=j) ?_))))) ?_
 · rw [h.at_ (by rw [List.length_map,h.len] at hi; exact hi)]; exact hj
 · refine congrArg Sl.o ((gK (λr:List Rat=>frD (r.getD j 0)) t [] (List.length_map ..)).trans ?_)
   unfold uA
   rw [List.map_map]
   rfl
theorem jW (F:Fun K "columns_of" qual (top 22) f fd) (hb:∀ x ∈ aB,mg x=none) (c_column_of:Cal P w K mg base k "column_of" eW):a6 P w K mg base CX0 (k + 1) f fd ["table"] (spD K dW):=by
 refine fnD F j5 hb (by rintro _ _ ⟨_,_,_,rfl,_⟩; rfl) ?_
 rintro _ _ ⟨R,C,t,rfl,h,rfl⟩ cdv A outer s H E b
 have r1:=h.r1
 have c7:=h.c7
 have e0:atI (t.map rwQ) 0=some (rwQ (t.getD 0 [])):=gh [] (i:=0) (by rw [h.len]; omega)
 refine aW (eP (cmp 0 (f:=λj=>rwQ (uA t j)) b (fR (n:=(C:Nat)) b (bx b (ae (aL (aa 0) af (bb e0)) ag) (tS (n:=C) (by rw [List.length_map]; exact h.at_ (by omega)))) (by omega) (by omega)) fW (by rw [aS]; omega) λj hj s0 H0 fp=>bJ (x_call (b.comp s0 H0 _ fp) c_column_of (ae (aa 1) (ae (aa 0) ag)) ⟨R,C,t,j,rfl,h,by rw [aS] at hj; omega,rfl⟩))) ?_
 unfold o8
 rw [aS,Int.toNat_natCast,List.map_map]
 rfl
end
theorem pL {n:Nat} {G:Nat->Nat->Rat}:o8 (mkT n n G) n=mkT n n (trF G):=by
 unfold o8 mkT uA
 refine List.map_congr_left λj hj=>?_
 have hj:=List.mem_range.mp hj
 rw [List.map_map]
 refine List.map_congr_left λi _=>?_
 show ((List.range n).map (G i)).getD j 0=trF G j i
 simp [hj]
 rfl
noncomputable def SzA (n M:Nat) (A:Nat->Nat->Rat):Prop:=∀ k,k < n->SzP n M k (n - 1 - k) (apF n A k).1/\SzP n M k (n - 1 - k) (trF (st1 n k (apF n A k).1))/\SzP n M k (n - 1 - k) (st2 n k (apF n A k).1)
noncomputable def gy (ds:List D) (r:Sl):Prop:=∃ (n M:Nat) (A:Nat->Nat->Rat),ds=[tbQ (mkT n n A)]/\1<=n/\n<=7/\SzA n M A/\4 * M<=900000/\r=.o ((apS n A).map stD)
theorem wI {n k:Nat} {A:Nat->Nat->Rat} (h7:n<=7) (hk:k<=n):((apF n A k).2.1.map stD).length<=196/\((apF n A k).2.2.map stD).length<=98:=by
 have h:=oD n A k hk
 have:n * k<=7 * 7:=Nat.mul_le_mul h7 (by omega)
 rw [List.length_map,List.length_map]
 omega
theorem rF {n k:Nat} {g:Nat->Nat->Rat} (h7:n<=7):((clS k (n - 1 - k) g).map stD).length<=14:=by
 have:=gJ (k:=k) (n - 1 - k) g
 rw [List.length_map]
 omega
theorem Ab {xs:List Stp} (i:Nat) (h:i < (xs.map stD).reverse.length):(xs.map stD).reverse[i]=stD (xs.reverse.getD i ("weigh",0,0)):=by
 have h':i < xs.length:=by simpa using h
 simp [h']
section
variable {P:Program} {w:World} {K:PySem.W.Frag} {mg:Str->Option Value} {base:Heap} {k:Nat} {f:Addr} {fd:FuncData} {qual:Str}
set_option maxHeartbeats 1000000 in
theorem mJ (F:Fun K "steps_of" qual (top 37) f fd) (hb:∀ x ∈ aB,mg x=none) (c_clear_column:nN P w K mg base k "clear_column" (spG K cO)) (c_columns_of:Cal P w K mg base k "columns_of" dW) (c_turned_step:Cal P w K mg base k "turned_step" dn):a6 P w K mg base CX0 (k + 1) f fd ["table"] (spD K gy):=by
 refine fnD F iL hb (by rintro _ _ ⟨_,_,_,rfl,_⟩; rfl) ?_
 rintro _ _ ⟨n,M,A0,rfl,h1,h7,sz,hM,rfl⟩ cdv A outer s H E b
 have nd:=iL.nd
 refine aO 1 nd (qz b (ae (aa 0) ag) rW) ?_
 refine aO 2 nd (bx b (ae (aa 0) ag) (iy dh)) ?_
 refine aO 3 nd (cD ag) ?_
 refine aO 4 nd (cD ag) ?_
 refine dM 5 (λa τ=>∃ s5,τ=[.d (tbQ (mkT n n A0)),.o ((mkT n n (apF n A0 a).1).map rwQ),.d (.int (n:Nat)),.o ((apF n A0 a).2.1.map stD),.o ((apF n A0 a).2.2.map stD),s5,.un]) b nd (fR b (aa 2) (by omega) (by omega)) fW ⟨.un,rfl⟩ (λkk hk τ h=>?_) λτ h=>?_
 · obtain ⟨s5,rfl⟩:=h
   have hk:kk < n:=by rw [aS] at hk; omega
   obtain ⟨z1,z2,z3⟩:=sz kk hk
   obtain ⟨l1,l2⟩:=wI (A:=A0) h7 (Nat.le_of_lt hk)
   have e:apF n A0 (kk + 1)=(st3 n kk (apF n A0 kk).1,(apF n A0 kk).2.1++stA n kk (apF n A0 kk).1,(apF n A0 kk).2.2++stB n kk (apF n A0 kk).1):=rfl
   generalize apF n A0 kk=r at *
   obtain ⟨g,ah,be⟩:=r
   have l1:(ah.map stD).length<=196:=l1
   have l2:(be.map stD).length<=98:=l2
   have z1:SzP n M kk (n - 1 - kk) g:=z1
   have z2:SzP n M kk (n - 1 - kk) (trF (st1 n kk g)):=z2
   have z3:SzP n M kk (n - 1 - kk) (st2 n kk g):=z3
   have m1:=rF (k:=kk) (g:=g) h7
   have m2:=rF (k:=kk) (g:=trF (st1 n kk g)) h7
   have m3:=rF (k:=kk) (g:=st2 n kk g) h7
   refine oJ (zs:=ah.map stD) (ys:=(clS kk (n - 1 - kk) g).map stD) 3 1 (gz 1 b c_clear_column ⟨n,M,kk,g,rfl,rfl,hk,h7,z1,hM,rfl,rfl⟩ (ae (aa 5) ag)) (by omega) ?_
   refine iD 1 (aO (s:=.o ((mkT n n (trF (st1 n kk g))).map rwQ)) 1 nd (x_call b c_columns_of (ae (aa 1) ag) ⟨n,n,mkT n n (st1 n kk g),rfl,lK h1 h7 h1 h7,by rw [pL]⟩) ?_)
   refine oJ (zs:=be.map stD) (ys:=(clS kk (n - 1 - kk) (trF (st1 n kk g))).map stD) 4 1 (gz 1 b c_clear_column ⟨n,M,kk,trF (st1 n kk g),rfl,rfl,hk,h7,z2,hM,rfl,rfl⟩ (ae (aa 5) ag)) (by omega) ?_
   refine iD 1 (aO (s:=.o ((mkT n n (st2 n kk g)).map rwQ)) 1 nd (x_call b c_columns_of (ae (aa 1) ag) ⟨n,n,mkT n n (clG kk (n - 1 - kk) (trF (st1 n kk g))),rfl,lK h1 h7 h1 h7,by rw [pL]; rfl⟩) ?_)
   refine oJ (zs:=ah.map stD++(clS kk (n - 1 - kk) g).map stD) (ys:=(clS kk (n - 1 - kk) (st2 n kk g)).map stD) 3 1 (gz 1 b c_clear_column ⟨n,M,kk,st2 n kk g,rfl,rfl,hk,h7,z3,hM,rfl,rfl⟩ (ae (aa 5) ag)) (by rw [List.length_append]; omega) ?_
   refine ba ⟨.d (.int (kk:Nat)),?_⟩
   rw [e]
   unfold stA stB
   simp only [List.map_append,List.append_assoc]
   rfl
 · rw [aS] at h
   obtain ⟨s5,rfl⟩:=h
   obtain ⟨l1,l2⟩:=wI (A:=A0) h7 (Nat.le_refl n)
   rw [show ((n:Nat):Int).toNat=n from Int.toNat_natCast n]
   have ec:((crS n (apF n A0 n).1).map stD)=(List.range (fY 0 ((n:Nat):Int).toNat).length).map λi=>stD ("weigh",i,(apF n A0 n).1 i i):=by
     unfold crS
     rw [List.map_map,aS,Int.toNat_natCast]
     rfl
   refine iD 1 (lO 6 (s:=.o ((List.range (fY 0 ((n:Nat):Int).toNat).length).map λi=>stD ("weigh",i,(apF n A0 n).1 i i))) nd (cmp 0 (f:=λi=>stD ("weigh",i,(apF n A0 n).1 i i)) b (fR (n:=(n:Nat)) b (aa 2) (by omega) (by omega)) fW (by rw [aS]; omega) λi hi s0 H0 fp=>?_) (.inl rfl) (iD 3 (iD 4 (iD 6 ?_))))
   · rw [aS] at hi
     have hi:i < n:=by omega
     exact bQ (ae bL (ae (aa 0) (ae (aL (aL (aa 1) (aa 0) (bb (gM hi))) (aa 0) (bb (gw hi))) ag)))
   rw [<- ec]
   have eb:((List.range ((apF n A0 n).2.2.map stD).reverse.length).map λi=>stD (trn ((apF n A0 n).2.2.reverse.getD i ("weigh",0,0))))=((apF n A0 n).2.2.reverse.map trn).map stD:=by
     rw [List.length_reverse,List.length_map,<- List.length_reverse,gK (λst:Stp=>stD (trn st)) _ _ rfl,List.map_map]
     rfl
   refine aW (mK (bJ (mK (aa 3) (aa 6) ?_)) (bJ (eP (cmp 0 (g:=λi=>stD ((apF n A0 n).2.2.reverse.getD i ("weigh",0,0))) (f:=λi=>stD (trn ((apF n A0 n).2.2.reverse.getD i ("weigh",0,0)))) b (wD b (aa 4)) Ab (by rw [List.length_reverse]; omega) λi hi s0 H0 fp=>x_call (b.comp s0 H0 _ fp) c_turned_step (ae (aa 0) ag) ⟨_,rfl,rfl⟩))) ?_) ?_
   any_goals first | (simp only [crS,List.length_append,List.length_map,List.length_range,List.length_reverse] at l1 l2 ⊢; omega)
   rw [eb]
   unfold apS
   rw [List.map_append,List.map_append,List.append_assoc]
end
noncomputable def bS (m n:Nat) (A:Nat->Nat->Rat):Nat->Nat->Rat:=λi j=>if i < m/\j < n then A i j else 0
noncomputable def hV (ds:List D) (r:Sl):Prop:=∃ (m n s:Nat) (A:Nat->Nat->Rat),ds=[tbQ (mkT m n A),.int (s:Nat)]/\m<=s/\n<=s/\s<=7/\r=.o ((mkT s s (bS m n A)).map rwQ)
theorem uR {m n s i:Nat} {A:Nat->Nat->Rat} (hi:i < m) (hn:n<=s):((List.range s).map (bS m n A i)).map frD=(((List.range n).map (A i)).map frD)++(List.replicate (s - n) [D.tup [.int 0,.int 1]]).flatten:=by
 rw [List.flatten_replicate_singleton]
 refine List.ext_getElem (by simp; omega) λj h1 h2=>?_
 have hj:j < s:=by simpa using h1
 rw [List.getElem_append]
 by_cases z:j < n
 · rw [dif_pos (by simpa using z)]
   simp [bS,hi,z]
 · rw [dif_neg (by simpa using z)]
   simp [bS,z]
   rfl
theorem vW {m n s i:Nat} {A:Nat->Nat->Rat} (hi:m<=i):((List.range s).map (bS m n A i)).map frD=(List.replicate s [D.tup [.int 0,.int 1]]).flatten:=by
 rw [List.flatten_replicate_singleton]
 refine List.ext_getElem (by simp) λj h1 h2=>?_
 simp [bS,Nat.not_lt.mpr hi]
 rfl
theorem u3 {m n s:Nat} {A:Nat->Nat->Rat} (hm:m<=s):((List.range m).map λi=>rwQ ((List.range s).map (bS m n A i)))++((List.range (s - m)).map λi=>rwQ ((List.range s).map (bS m n A (m + i))))=(mkT s s (bS m n A)).map rwQ:=by
 refine List.ext_getElem (by simp [mkT]; omega) λi h1 h2=>?_
 have hi:i < s:=by simpa [mkT] using h2
 rw [List.getElem_append]
 by_cases z:i < m
 · rw [dif_pos (by simpa using z)]
   simp [mkT]
 · rw [dif_neg (by simpa using z)]
   simp [mkT]
   rw [show m + (i - m)=i by omega]
section
variable {P:Program} {w:World} {K:PySem.W.Frag} {mg:Str->Option Value} {base:Heap} {k:Nat} {f:Addr} {fd:FuncData} {qual:Str}
theorem oK (F:Fun K "squared" qual (top 36) f fd) (hb:∀ x ∈ aB,mg x=none) (y_NOUGHT:Mk1 K mg "NOUGHT" 0 1):a6 P w K mg base CX0 (k + 1) f fd ["table","size"] (spD K hV):=by
 refine fnD F jJ hb (by rintro _ _ ⟨_,_,_,_,rfl,_⟩; rfl) ?_
 rintro _ _ ⟨m,n,s,A,rfl,hm,hn,h7,rfl⟩ cdv A' outer s' H E b
 have nd:=jJ.nd
 have lm:((mkT m n A).map rwQ).length=m:=by rw [List.length_map,cI]
 refine lO 2 nd (cmp 0 (g:=λi=>rwQ ((mkT m n A).getD i [])) (f:=λi=>rwQ ((List.range s).map (bS m n A i))) b (bU (aa 0)) (fS (f:=rwQ) (xs:=mkT m n A) []) (by rw [lm]; omega) λi hi s0 H0 fp=>?_) (.inl rfl) ?_
 · have hi:i < m:=by rw [lm] at hi; exact hi
   rw [gO hi]
   show PE _ _ (dE _ true _ (.d (.lst (((List.range s).map (bS m n A i)).map frD))))
   rw [uR hi hn]
   refine bJ (mK (aa 0) (bJ (si (bJ (cD (ae (m8 y_NOUGHT) ag))) (aJ (aa 1) (bx (b.comp s0 H0 _ fp) (ae (aa 0) ag) (iy (n:=n) (by simp))) cE) (by omega) (by omega) (by simp; omega))) (by simp; omega)) ?_
   rw [show ((s:Int) - (n:Int)).toNat=s - n by omega]
   rfl
 rw [lm]
 refine iD 2 ?_
 refine aW (mK (aa 2) (bJ (eP (cmp 0 (f:=λi=>rwQ ((List.range s).map (bS m n A (m + i)))) b (fR b (aJ (aa 1) (bx b (ae (aa 0) ag) (iy lm)) cE) (by omega) (by omega)) fW (by rw [aS]; omega) λi hi s0 H0 fp=>?_))) (by rw [aS]; simp; omega)) ?_
 · show PE _ _ (dE _ true _ (.d (.lst (((List.range s).map (bS m n A (m + i))).map frD))))
   rw [vW (by omega)]
   refine bJ (si (bJ (cD (ae (m8 y_NOUGHT) ag))) (aa 1) (by omega) (by omega) (by simp; omega)) ?_
   rfl
 · rw [aS,show ((s:Int) - (m:Int)).toNat=s - m by omega]
   exact congrArg Sl.o (u3 hm)
end
noncomputable def dtR (r:List Int):D:=.lst (r.map .int)
noncomputable def dtM (Ms:List (List Int)) (i j:Nat):Rat:=(((Ms.getD i []).getD j 0:Int):Rat)
theorem atR {row:List Int} {j:Nat} (h:j < row.length):atI (row.map D.int) (j:Int)=some (.int (row.getD j 0)):=cy (i:=(j:Int)) (by omega) (by omega)
section
variable {P:Program} {w:World} {K:PySem.W.Frag} {mg:Str->Option Value} {base:Heap} {k:Nat} {f:Addr} {fd:FuncData} {qual:Str}
end
noncomputable def scS (s:Int) (q:Rat):Int:=s / (Int.gcd s (q.den:Nat):Int) * (q.den:Nat)
noncomputable def scL (r:List Rat):Int:=r.foldl scS 1
theorem xV {s:Int} (hs:0 < s) (q:Rat):0 < scS s q/\s ∣ scS s q/\((q.den:Nat):Int) ∣ scS s q:=by
 have hq:=den_pos q
 have g0:0 < (Int.gcd s (q.den:Nat):Int):=by
   have:=dZ (i:=s) (j:=(q.den:Nat)) (by omega)
   have:=Int.natCast_nonneg (Int.gcd s (q.den:Nat))
   omega
 have d1:(Int.gcd s (q.den:Nat):Int) ∣ s:=Int.gcd_dvd_left ..
 have d2:(Int.gcd s (q.den:Nat):Int) ∣ ((q.den:Nat):Int):=Int.gcd_dvd_right ..
 have p1:0 < s / (Int.gcd s (q.den:Nat):Int):=Int.ediv_pos_of_pos_of_dvd hs (by omega) d1
 refine ⟨Int.mul_pos p1 hq,?_,Int.dvd_mul_left ..⟩
 obtain ⟨k,hk⟩:=d2
 refine ⟨k,?_⟩
 unfold scS
 conv=>lhs; rhs; rw [hk]
 rw [<- Int.mul_assoc,Int.ediv_mul_cancel d1]
theorem uH (r:List Rat) (q:Rat):scL (r++[q])=scS (scL r) q:=by unfold scL; rw [List.foldl_append]; rfl
theorem ou:∀ (r:List Rat) (s:Int),0 < s->0 < r.foldl scS s/\s ∣ r.foldl scS s/\∀ q ∈ r,((q.den:Nat):Int) ∣ r.foldl scS s
 | [],s,h=>⟨h,Int.dvd_refl _,λ_ z=>nomatch z⟩
 | q :: r,s,h=>by
   obtain ⟨a1,a2,a3⟩:=xV h q
   obtain ⟨b1,b2,b3⟩:=ou r _ a1
   exact ⟨b1,Int.dvd_trans a2 b2,λx hx=>(List.mem_cons.mp hx).elim (λe=>by rw [e]; exact Int.dvd_trans a3 b2) (b3 x)⟩
theorem k9 (r:List Rat):0 < scL r/\∀ q ∈ r,((q.den:Nat):Int) ∣ scL r:=⟨(ou r 1 (by decide)).1,(ou r 1 (by decide)).2.2⟩
theorem t9 {d:Nat}:∀ (r:List Rat) (s:Int) (n:Nat),Bd n s->(∀ q ∈ r,Bd d (q.den:Nat))->Bd (n + r.length * d) (r.foldl scS s)
 | [],s,n,h,_=>by simpa using h
 | q :: r,s,n,h,hd=>by
   have h1:Bd (n + d) (scS s q):=(h.ediv _).mul (hd q (List.mem_cons_self ..))
   have:=t9 r _ _ h1 λx hx=>hd x (List.mem_cons_of_mem _ hx)
   rw [List.length_cons,Nat.succ_mul]
   rwa [show n + d + r.length * d=n + (r.length * d + d) by omega] at this
theorem og {d:Nat} {r:List Rat} (h:∀ q ∈ r,Bd d (q.den:Nat)):Bd (1 + r.length * d) (scL r):=t9 r 1 1 (by unfold Bd; decide) h
noncomputable def fZ (ds:List D) (r:Sl):Prop:=∃ (q:List Rat) (d:Nat),ds=[rwQ q]/\q.length<=1000/\(∀ x ∈ q,Bd d (x.den:Nat))/\1 + q.length * d<=8999/\d<=8999/\r=.d (.int (scL q))
noncomputable def whR (r:List Rat) (s:Int):List Int:=r.map λq=>q.num * (s / (q.den:Nat))
theorem A3 {q:Rat} {s:Int} (h:((q.den:Nat):Int) ∣ s):((q.num * (s / (q.den:Nat)):Int):Rat)=q * (s:Rat):=by
 obtain ⟨k,rfl⟩:=h
 have:=den_pos q
 rw [Int.mul_ediv_cancel_left _ (by omega),Rat.intCast_mul,Rat.intCast_mul,<- Rat.mul_assoc,cH]
theorem Ar {d v n:Nat} {q:Rat} {s:Int} (hq:Qs d v q) (h:((q.den:Nat):Int) ∣ s) (hs:Bd n s):Bd (v + n) (q.num * (s / (q.den:Nat))):=by
 obtain ⟨k,rfl⟩:=h
 have hd:=den_pos q
 rw [Int.mul_ediv_cancel_left _ (by omega)]
 unfold Bd at hs ⊢
 rw [Int.natAbs_mul,Nat.pow_add]
 rw [Int.natAbs_mul,Int.natAbs_natCast] at hs
 have h1:q.num.natAbs * k.natAbs<=2 ^ v * q.den * k.natAbs:=Nat.mul_le_mul_right _ hq.val
 rw [Nat.mul_assoc] at h1
 exact Nat.lt_of_le_of_lt h1 (Nat.mul_lt_mul_of_pos_left hs (Nat.two_pow_pos v))
noncomputable def e7 (ds:List D) (r:Sl):Prop:=∃ (q:List Rat) (s:Int) (n:Nat),ds=[rwQ q,.int s]/\q.length<=1000/\(∀ x ∈ q,Sq n x)/\n<=8999/\Bd 8999 s/\r=.o ((whR q s).map .int)
noncomputable def whM (M:List (List Rat)) (ss:List Int):List (List Int):=(List.range M.length).map λi=>whR (M.getD i []) (ss.getD i 0)
theorem w6 {α β:Type} {f:α->D} {g:β->D} {xs:List α} {ys:List β} (d:α) (e:β) (i:Nat) (h:i < (fN (xs.map f) (ys.map g)).length):(fN (xs.map f) (ys.map g))[i]=.tup [f (xs.getD i d),g (ys.getD i e)]:=by
 rw [bO,List.length_map,List.length_map] at h
 have h1:i < xs.length:=by omega
 have h2:i < ys.length:=by omega
 simp [fN,h1,h2]
noncomputable def er (ds:List D) (r:Sl):Prop:=∃ (M:List (List Rat)) (ss:List Int) (n:Nat),ds=[tbQ M,.lst (ss.map .int)]/\M.length=ss.length/\M.length<=1000/\(∀ r ∈ M,r.length<=1000/\∀ x ∈ r,Sq n x)/\n<=8999/\(∀ s ∈ ss,Bd 8999 s)/\r=.o ((whM M ss).map dtR)
noncomputable def tpD (c:List Int):D:=.tup (c.map .int)
noncomputable def lC (cs:List (List Int)):D:=.lst (cs.map tpD)
noncomputable def eZ (c:List Int):Int:=c.getD (c.length - 1) 0
noncomputable def lea (t:Nat) (c:List Int):Int:=if 0 < t then eZ c + 1 else 0
noncomputable def onC (n t:Nat) (c:List Int):List (List Int):=(List.range ((n:Int) - lea t c).toNat).map λk=>c++[lea t c + (k:Nat)]
noncomputable def chs (n:Nat):Nat->List (List Int)
 | 0=>[[]]
 | t + 1=>(chs n t).flatMap (onC n t)
structure Chs (n t:Nat) (c:List Int):Prop where
 len:c.length=t
 at_:∀ i,i < t->0<=c.getD i 0/\c.getD i 0 < n
theorem sR {c:List Int} {x:Int} {i:Nat}:(c++[x]).getD i 0=if i < c.length then c.getD i 0 else if i=c.length then x else 0:=by
 by_cases h:i < c.length
 · rw [if_pos h]; simp [List.getD,List.getElem?_append_left h]
 · rw [if_neg h]
   by_cases e:i=c.length
   · subst e; simp
   · rw [if_neg e]
     simp [List.getD]
     rw [List.getElem?_eq_none (by simp; omega)]
     rfl
theorem nA {n t:Nat} {c:List Int} (h:Chs n t c):0<=lea t c/\lea t c<=n:=by
 unfold lea
 by_cases ht:0 < t
 · have:=h.at_ (t - 1) (by omega)
   rw [if_pos ht,eZ,h.len]
   omega
 · rw [if_neg ht]; omega
theorem dg (n:Nat):∀ t,∀ c ∈ chs n t,Chs n t c
 | 0,c,h=>by
   rw [chs,List.mem_singleton] at h
   subst h
   exact ⟨rfl,λi hi=>absurd hi (by omega)⟩
 | t + 1,c,h=>by
   rw [chs,List.mem_flatMap] at h
   obtain ⟨d,hd,hc⟩:=h
   have ih:=dg n t d hd
   have hl:=nA ih
   unfold onC at hc
   obtain ⟨k,hk,rfl⟩:=List.mem_map.mp hc
   rw [List.mem_range] at hk
   refine ⟨by rw [List.length_append,ih.len]; rfl,λi hi=>?_⟩
   rw [sR,ih.len]
   by_cases e:i < t
   · rw [if_pos e]; exact ih.at_ i e
   · rw [if_neg e,if_pos (by omega)]; omega
theorem kN {n t:Nat} {c:List Int} (h:Chs n t c):(onC n t c).length<=n:=by
 have:=nA h
 simp [onC]
 omega
theorem fb {α β:Type} (f:α->List β) (m:Nat):∀ xs:List α,(∀ x ∈ xs,(f x).length<=m)->(xs.flatMap f).length<=xs.length * m
 | [],_=>by simp
 | x :: xs,h=>by
   rw [List.flatMap_cons,List.length_append,List.length_cons,Nat.succ_mul]
   have:=h x (List.mem_cons_self ..)
   have:=fb f m xs λy hy=>h y (List.mem_cons_of_mem _ hy)
   omega
theorem p7 {n:Nat} (hn:n<=7):∀ t,(chs n t).length<=7 ^ t
 | 0=>by simp [chs]
 | t + 1=>by
   rw [chs]
   have:=fb (onC n t) 7 (chs n t) λc hc=>Nat.le_trans (kN (dg n t c hc)) hn
   have:=p7 hn t
   rw [Nat.pow_succ]
   omega
noncomputable def d8 (ds:List D) (r:Sl):Prop:=∃ n t:Nat,ds=[.int n,.int t]/\n<=7/\t<=7/\r=.d (lC (chs n t))
theorem vb {cs:List (List Int)} (i:Nat) (h:i < (cs.map tpD).length):(cs.map tpD)[i]=tpD (cs.getD i []):=by
 have:i < cs.length:=by simpa using h
 simp [this]
theorem dX {α:Type} {xs:List α} {i:Nat} {d:α} (h:i < xs.length):xs.getD i d ∈ xs:=by simp [h]
theorem pZ {c:List Int} (h:c ≠ []):atI (c.map D.int) (-1)=some (.int (eZ c)):=by
 have hl:0 < c.length:=List.length_pos_iff.mpr h
 unfold atI ixN eZ
 rw [if_neg (by decide),if_pos (by rw [List.length_map]; omega),List.length_map]
 simp only [Option.bind_some]
 have e:(-1 + (c.length:Int)).toNat=c.length - 1:=by omega
 rw [e]
 simp [(by omega:c.length - 1 < c.length)]
section
variable {P:Program} {w:World} {K:PySem.W.Frag} {mg:Str->Option Value} {base:Heap} {k:Nat} {f:Addr} {fd:FuncData} {qual:Str}
theorem mD (F:Fun K "scale_of" qual (top 25) f fd) (hb:∀ x ∈ aB,mg x=none) (c_common_divisor:Cal P w K mg base k "common_divisor" a9):a6 P w K mg base CX0 (k + 1) f fd ["row"] (spD K fZ):=by
 refine fnD F iI hb (by rintro _ _ ⟨_,_,rfl,_⟩; rfl) ?_
 rintro _ _ ⟨q,d,rfl,hl,hd,hb1,hd1,rfl⟩ cdv A outer s H E b
 have nd:=iI.nd
 refine aO 1 nd af ?_
 refine dM 2 (g:=λi=>frD (q.getD i 0)) (λi τ=>i<=q.length/\∃ s2,τ=[.d (rwQ q),.d (.int (scL (q.take i))),s2]) b nd (bU (aa 0)) (fS (f:=frD) (xs:=q) 0) ⟨Nat.zero_le _,.un,rfl⟩ (λi hi τ h=>?_) λτ h=>?_
 · obtain ⟨_,s2,rfl⟩:=h
   have hi:i < q.length:=by simpa using hi
   have mm:=eF (d:=(0:Rat)) hi
   have hs:=(k9 (q.take i)).1
   have bs:Bd (1 + q.length * d) (scL (q.take i)):=(og λx hx=>hd x (List.mem_of_mem_take hx)).mono (by
     have:(q.take i).length * d<=q.length * d:=Nat.mul_le_mul_right _ (by rw [List.length_take]; omega)
     omega)
   have et:q.take (i + 1)=q.take i++[q.getD i 0]:=by rw [List.take_succ,List.getElem?_eq_getElem hi]; simp [hi]
   rw [et,uH]
   generalize scL (q.take i)=sc at hs bs ⊢
   generalize q.getD i 0=x at mm ⊢
   have hx:=den_pos x
   have dv:aN (Int.gcd sc (x.den:Nat):Int):=((hd x mm).gcd (by omega)).aN (dZ (by omega)) (by omega)
   refine aO 1 nd (aJ (aJ (aa 1) (x_call b c_common_divisor (ae (aa 1) (ae (aL (aa 2) af (aM (aF (i:=1) rfl))) ag)) ⟨_,_,rfl,rfl⟩) (ft dv)) (aL (aa 2) af (aM (aF (i:=1) rfl))) (bA ?_)) (ba ⟨hi,.d (frD x),?_⟩)
   · rw [a8]; exact (bs.ediv _).aI (hd x mm) (by omega) (by omega)
   · rw [a8]; rfl
 · obtain ⟨_,s2,rfl⟩:=h
   rw [List.length_map,List.take_length]
   exact aW (aa 1) rfl
theorem kS (F:Fun K "whole_row" qual (top 26) f fd) (hb:∀ x ∈ aB,mg x=none):a6 P w K mg base CX0 (k + 1) f fd ["row","scale"] (spD K e7):=by
 refine fnD F lB hb (by rintro _ _ ⟨_,_,_,rfl,_⟩; rfl) ?_
 rintro _ _ ⟨q,s0,n,rfl,hl,hq,hn,hs,rfl⟩ cdv A outer s H E b
 refine aW (eP (cmp 0 (f:=λi=>.int ((q.getD i 0).num * (s0.fdiv ((q.getD i 0).den:Nat)))) b (bU (aa 0)) (fS (f:=frD) (xs:=q) 0) (by rw [List.length_map]; omega) λi hi s1 H0 fp=>?_)) ?_
 · have sq:=hq _ (eF (d:=(0:Rat)) (by simpa using hi))
   generalize q.getD i 0=x at sq ⊢
   have hx:=den_pos x
   have e:s0.fdiv (x.den:Nat)=s0 / (x.den:Nat):=Int.fdiv_eq_ediv_of_nonneg _ (by omega)
   exact aJ (aL (aa 0) af (aM (aF (i:=0) rfl))) (aJ (aa 1) (aL (aa 0) af (aM (aF (i:=1) rfl))) (ft (sq.den.aN (by omega) (by omega)))) (bA (by rw [e]; exact sq.num.aI (hs.ediv _) (by omega) (by omega)))
 · refine congrArg Sl.o ((gK (λx:Rat=>D.int (x.num * (s0.fdiv (x.den:Nat)))) q 0 (List.length_map ..)).trans ?_)
   unfold whR
   rw [List.map_map]
   refine List.map_congr_left λx _=>?_
   simp only [Function.comp]
   rw [Int.fdiv_eq_ediv_of_nonneg _ (by have:=den_pos x; omega)]
theorem jT (F:Fun K "whole_rows" qual (top 27) f fd) (hb:∀ x ∈ aB,mg x=none) (c_whole_row:Cal P w K mg base k "whole_row" e7):a6 P w K mg base CX0 (k + 1) f fd ["table","scales"] (spD K er):=by
 refine fnD F j7 hb (by rintro _ _ ⟨_,_,_,rfl,_⟩; rfl) ?_
 rintro _ _ ⟨M,ss,n,rfl,hl,h1,hM,hn,hs,rfl⟩ cdv A outer s H E b
 have zl:(fN (M.map rwQ) (ss.map D.int)).length=M.length:=by rw [bO,List.length_map,List.length_map]; omega
 refine aW (eP (va 0 1 (g:=λi=>rwQ (M.getD i [])) (g':=λi=>.int (ss.getD i 0)) (f:=λi=>dtR (whR (M.getD i []) (ss.getD i 0))) b (pO b (aa 0) (aa 1)) (w6 [] 0) (by rw [zl]; omega) λi hi s0 H0 fp=>?_)) ?_
 · rw [zl] at hi
   obtain ⟨g1,g2⟩:=hM _ (eF (d:=[]) hi)
   exact bJ (x_call (b.comp s0 H0 _ fp) c_whole_row (ae (aa 0) (ae (aa 1) ag)) ⟨_,_,n,rfl,g1,g2,hn,hs _ (eF (by omega)),rfl⟩)
 · unfold whM
   rw [zl,List.map_map]
   rfl
theorem jZ (F:Fun K "choices_of" qual (top 21) f fd) (hb:∀ x ∈ aB,mg x=none):a6 P w K mg base CX0 (k + 1) f fd ["many","size"] (spD K d8):=by
 refine fnD F fV hb (by rintro _ _ ⟨_,_,rfl,_⟩; rfl) ?_
 rintro _ _ ⟨n,t,rfl,hn,ht,rfl⟩ cdv A outer s H E b
 have nd:=fV.nd
 refine aO 2 nd (bJ (cD (ae (bQ ag) ag))) ?_
 refine dM 3 (λi τ=>∃ s3 s4 s5 s6,τ=[.d (.int n),.d (.int t),.d (lC (chs n i)),s3,s4,s5,s6]) b nd (fR b (aa 1) (by omega) (by omega)) fW ⟨.un,.un,.un,.un,rfl⟩ (λi hi τ h=>?_) λτ h=>?_
 · obtain ⟨s3,s4,s5,s6,rfl⟩:=h
   have hi:i < t:=by rw [aS] at hi; omega
   have l1:=p7 hn i
   have l2:7 ^ i<=7 ^ 6:=Nat.pow_le_pow_right (by decide) (by omega)
   refine aO 4 nd (cD ag) ?_
   refine dM 5 (g:=λl=>tpD ((chs n i).getD l [])) (λl τ=>∃ s5 s6,τ=[.d (.int n),.d (.int t),.d (lC (chs n i)),.d (.int (i:Nat)),.o ((((chs n i).take l).flatMap (onC n i)).map tpD),s5,s6]) b nd (bU (aa 2)) vb ⟨s5,s6,rfl⟩ (λl hl τ h=>?_) λτ h=>?_
   · obtain ⟨s5,s6,rfl⟩:=h
     have hl:l < (chs n i).length:=by simpa using hl
     have ok:=dg n i _ (dX (d:=[]) hl)
     have hle:=nA ok
     have len1:=fb (onC n i) 7 ((chs n i).take l) λc hc=>Nat.le_trans (kN (dg n i c (List.mem_of_mem_take hc))) hn
     rw [List.length_take] at len1
     have len2:=kN ok
     refine aO 6 nd (ue (s:=.d (.int (lea i ((chs n i).getD l [])))) (bg (aa 3) af tj) (λh=>?_) λh=>?_) ?_
     · have h:=of_decide_eq_true h
       have h0:0 < i:=by omega
       rw [show lea i ((chs n i).getD l [])=eZ ((chs n i).getD l []) + 1 from if_pos h0]
       exact aJ (aL (aa 5) (kx af) (aM (pZ λz=>by have:=ok.len; rw [z] at this; simp at this; omega))) af bC
     · have h:=of_decide_eq_false h
       rw [show lea i ((chs n i).getD l [])=0 from if_neg (by omega)]
       exact af
     refine zL 4 (eP (cmp 0 (f:=λk=>tpD (((chs n i).getD l [])++[lea i ((chs n i).getD l []) + (k:Nat)])) b (rR b (aa 6) (aa 0) ⟨by omega,by omega,by omega,by omega⟩) (λk hk=>i4 _ _ k hk) (by rw [aS]; omega) λk hk s0 H0 fp=>?_)) ?_ (ba ⟨.d (tpD ((chs n i).getD l [])),.d (.int (lea i ((chs n i).getD l []))),?_⟩)
     · have e:tpD (((chs n i).getD l [])++[lea i ((chs n i).getD l []) + (k:Nat)])=.tup ((((chs n i).getD l []).map D.int)++[.int (lea i ((chs n i).getD l []) + (k:Nat))]):=by unfold tpD; rw [List.map_append]; rfl
       rw [e]
       exact aJ (aa 1) (bQ (ae (aa 0) ag)) (sf (by rw [List.length_map,ok.len]; show _ + 1 < _; omega))
     · rw [List.length_map,List.length_map,List.length_range,aS]; omega
     · rw [take_snoc [] hl,List.flatMap_append,List.map_append,aS]
       show [_,_,_,_,Sl.o (_++(List.range ((n:Int) - lea i ((chs n i).getD l [])).toNat).map _),_,_]=_
       simp [onC]
   · obtain ⟨s5,s6,rfl⟩:=h
     refine iD 4 (aO 2 nd (aa 4) (ba ⟨.d (.int (i:Nat)),.d (lC (chs n (i + 1))),s5,s6,?_⟩))
     rw [List.length_map,List.take_of_length_le (Nat.le_refl _)]
     rfl
 · obtain ⟨s3,s4,s5,s6,rfl⟩:=h
   refine aW (aa 2) ?_
   rw [aS,Int.toNat_natCast]
end
noncomputable abbrev kT:Ev.KD (List Int):=Ev.yg Ev.Ag
noncomputable abbrev kTT:Ev.KD (List Int × List Int):=Ev.yw kT kT
theorem hdT:kT.dep<=7:=by show 1<=7; decide
theorem j4:kTT.dep<=7:=by show 2<=7; decide
theorem eU {F:PySem.W.Frag} (c:List Int) (H:Hp) (v:V) (h:Den F H v (kT.toD c)):∃ b,v=.ref b:=by
 generalize e:kT.toD c=x at h
 cases h with
 | tup=>exact ⟨_,rfl⟩
 | _=>cases e
theorem qi {F:PySem.W.Frag} (c:List Int × List Int) (H:Hp) (v:V) (h:Den F H v (kTT.toD c)):∃ b,v=.ref b:=by
 generalize e:kTT.toD c=x at h
 cases h with
 | tup=>exact ⟨_,rfl⟩
 | _=>cases e
section
variable {κ:Type} [DecidableEq κ]
theorem iA (p:κ × D) (m:List (κ × D)) (k:κ):getM (p :: m) k=if p.1=k then some p.2 else getM m k:=by
 unfold getM
 rw [List.find?_cons]
 by_cases e:p.1=k
 · simp [e]
 · simp [e]
theorem kn (k k':κ) (x:D):∀ m:List (κ × D),getM (m.map λy=>if y.1=k then (y.1,x) else y) k'=if k=k'/\(getM m k).isSome then some x else getM m k'
 | []=>by simp [getM]
 | p :: m=>by
   rw [List.map_cons,iA,kn k k' x m,iA,iA]
   by_cases e:p.1=k
   · rw [if_pos e,if_pos e]
     by_cases e':k=k'
     · simp [e,e']
     · simp [e,e']
   · rw [if_neg e,if_neg e]
     by_cases e':p.1=k'
     · simp [e',show ¬ k=k' from λz=>e (e'.trans z.symm)]
     · simp [e']
theorem mO (m:List (κ × D)) (k k':κ) (x:D):getM (eM m k x) k'=if k=k' then some x else getM m k':=by
 unfold eM
 by_cases h:(getM m k).isSome
 · rw [if_pos h,kn]
   simp [h]
 · rw [if_neg h]
   have h:getM m k=none:=by simpa using h
   unfold getM at *
   rw [List.find?_append]
   by_cases e:k=k'
   · subst e
     have h:m.find? (λx=>decide (x.1=k))=none:=by simpa using h
     rw [h]
     simp
   · simp [e]
noncomputable def mkM (v:κ->D) (ks:List κ):List (κ × D):=ks.foldl (λm k=>eM m k (v k)) []
theorem jx (v:κ->D) (ks:List κ) (k:κ):mkM v (ks++[k])=eM (mkM v ks) k (v k):=by unfold mkM; rw [List.foldl_append]; rfl
theorem ky (v:κ->D) (k:κ):∀ (ks:List κ) (m:List (κ × D)),getM (ks.foldl (λm k=>eM m k (v k)) m) k=if k ∈ ks then some (v k) else getM m k
 | [],m=>by simp
 | k0 :: ks,m=>by
   rw [List.foldl_cons,ky v k ks,mO]
   by_cases h:k ∈ ks
   · simp [h]
   · by_cases e:k0=k
     · simp [e]
     · simp [h,e,show ¬ k=k0 from λz=>e z.symm]
theorem gH {v:κ->D} {ks:List κ} {k:κ} (h:k ∈ ks):getM (mkM v ks) k=some (v k):=by unfold mkM; rw [ky,if_pos h]
theorem rK (m:List (κ × D)) (k:κ) (x:D):(eM m k x).length<=m.length + 1:=by
 unfold eM
 split <;> simp
theorem km (v:κ->D):∀ (ks:List κ) (m:List (κ × D)),(ks.foldl (λm k=>eM m k (v k)) m).length<=m.length + ks.length
 | [],m=>by simp
 | k :: ks,m=>by
   rw [List.foldl_cons]
   have:=km v ks (eM m k (v k))
   have:=rK m k (v k)
   rw [List.length_cons]
   omega
theorem k6 (v:κ->D) (ks:List κ):(mkM v ks).length<=ks.length:=by unfold mkM; simpa using km v ks []
theorem t6 {m:List (κ × D)} {k:κ} {x:D} {p:κ × D} (h:p ∈ eM m k x):p=(k,x)\/p ∈ m:=by
 unfold eM at h
 split at h
 · obtain ⟨q,hq,e⟩:=List.mem_map.mp h
   by_cases z:q.1=k
   · rw [if_pos z] at e; exact .inl (by rw [<- e,z])
   · rw [if_neg z] at e; exact .inr (e ▸ hq)
 · rcases List.mem_append.mp h with h | h
   · exact .inr h
   · exact .inl (List.mem_singleton.mp h)
theorem kI (v:κ->D) {p:κ × D}:∀ (ks:List κ) (m:List (κ × D)),p ∈ ks.foldl (λm k=>eM m k (v k)) m->(p.1 ∈ ks/\p.2=v p.1)\/p ∈ m
 | [],m,h=>.inr h
 | k :: ks,m,h=>by
   rw [List.foldl_cons] at h
   rcases kI v ks _ h with ⟨h1,h2⟩ | h
   · exact .inl ⟨List.mem_cons_of_mem _ h1,h2⟩
   · rcases t6 h with e | h
     · exact .inl (by rw [e]; exact ⟨List.mem_cons_self ..,rfl⟩)
     · exact .inr h
theorem qc {v:κ->D} {ks:List κ} {p:κ × D} (h:p ∈ mkM v ks):p.1 ∈ ks/\p.2=v p.1:=(kI v ks [] h).elim id λz=>nomatch z
theorem sX {m:List (κ × D)} {k:κ} {x:D} (h:getM m k=some x):(k,x) ∈ m:=by
 unfold getM at h
 obtain ⟨p,h1,h2⟩:=Option.map_eq_some_iff.mp h
 have e:p.1=k:=by have:=List.find?_some h1; simpa using this
 rw [<- h2,<- e]
 exact List.mem_of_find?_eq_some h1
end
noncomputable def ers (c:List Int) (k:Nat):List Int:=c.take k++c.drop (k + 1)
noncomputable def alP (f:List Int->Int) (row c:List Int) (k:Nat):Int:=row.getD (c.getD k 0).toNat 0 * f (ers c k)
noncomputable def alS (f:List Int->Int) (row c:List Int):Nat->Int
 | 0=>0
 | k + 1=>if Int.fmod ((c.length:Int) - (k:Nat)) 2=0 then alS f row c k - alP f row c k else alS f row c k + alP f row c k
noncomputable def alR (f:List Int->Int) (row c:List Int):Int:=alS f row c c.length
theorem AF (c:List Int) (k:Nat):kT.toD (ers c k)=.tup (Hy.cutD (c.map D.int) none (some (k:Int))++Hy.cutD (c.map D.int) (some ((k:Int) + 1)) none):=by
 rw [show ((k:Int) + 1)=((k + 1:Nat):Int) from rfl,sW]
 have e:Hy.cutD (c.map D.int) (some ((k + 1:Nat):Int)) none=(c.map D.int).drop (k + 1):=by
   unfold Hy.cutD
   rw [HT.fK,HT.jD]
   rcases Nat.le_total (k + 1) (c.map D.int).length with h | h
   · rw [Nat.min_eq_left h,List.take_of_length_le (by rw [List.length_drop]; exact Nat.le_refl _)]
   · rw [Nat.min_eq_right h,List.drop_of_length_le (Nat.le_refl _),List.drop_of_length_le h,List.take_nil]
 rw [e]
 show D.tup ((ers c k).map D.int)=_
 unfold ers
 rw [List.map_append,List.map_take,List.map_drop]
noncomputable def ck (P:Program) (w:World) (ds:List D) (r:Sl):Prop:=∃ (m:List (List Int × D)) (f:List Int->Int) (row c:List Int) (n p:Nat),ds=[bxD kT hdT P w m,dtR row,tpD c]/\c.length<=7/\(∀ k,k < c.length->0<=c.getD k 0/\c.getD k 0 < row.length)/\(∀ k,k < c.length->getM m (ers c k)=some (.int (f (ers c k)))/\Bd p (f (ers c k)))/\(∀ x ∈ row,Bd n x)/\n<=10000/\p<=10000/\r=.d (.int (alR f row c))
section
variable {P:Program} {w:World} {K:PySem.W.Frag} {mg:Str->Option Value} {base:Heap} {k:Nat} {f:Addr} {fd:FuncData} {qual:Str}
theorem gG (F:Fun K "along_last_row" qual (top 31) f fd) (hb:∀ x ∈ aB,mg x=none):a6 P w K mg base CX0 (k + 1) f fd ["known","row","columns"] (spD K (ck P w)):=by
 refine fnD F cX hb (by rintro _ _ ⟨_,_,_,_,_,_,rfl,_⟩; rfl) ?_
 rintro _ _ ⟨m,g,row,c,n,p,rfl,h7,hc,hg,hr,hn,hp,rfl⟩ cdv A outer s H E b
 have nd:=cX.nd
 have hu:(Xc P w K mg base ["known","row","columns","total","k","part"] qual (top 31) f cdv A outer s H E).A.units + 16 < cLine:=Nat.lt_of_le_of_lt (Nat.add_le_add_left (by decide:16<=64) _) b.room.units
 have lc:(c.map D.int).length=c.length:=List.length_map ..
 refine aO 3 nd af ?_
 refine dM 4 (λi τ=>i<=c.length/\∃ s4 s5,τ=[.d (bxD kT hdT P w m),.d (dtR row),.d (tpD c),.d (.int (alS g row c i)),s4,s5]) b nd (fR b (bx b (ae (aa 2) ag) gc) (by omega) (by omega)) fW ⟨Nat.zero_le _,.un,.un,rfl⟩ (λi hi τ h=>?_) λτ h=>?_
 · obtain ⟨_,s4,s5,rfl⟩:=h
   have hi:i < c.length:=by rw [aS,lc] at hi; omega
   obtain ⟨c1,c2⟩:=hc i hi
   obtain ⟨g1,g2⟩:=hg i hi
   have ht:(c.getD i 0).toNat < row.length:=by omega
   refine aO 5 nd (aJ (aL (aa 1) (aL (aa 2) (aa 4) (aM (atR hi))) (bb (cy c1 ht))) (nH (a:=kT) (hd:=hdT) (m:=m) (key:=ers c i) hu (aa 0) (by
     rw [AF]
     exact aJ (pW (aa 2) jc (fg (aa 4)) (by rw [HT.fK,lc]; omega)) (pW (aa 2) (fg (aJ (aa 4) af bC)) jc (by rw [show ((i:Int) + 1)=((i + 1:Nat):Int) from rfl,HT.fK,lc]; omega)) (sf (by
       have l1:∀ l u,(Hy.cutD (c.map D.int) l u).length<=7:=λl u=>by unfold Hy.cutD; rw [List.length_take,List.length_drop,lc]; omega
       have:=l1 none (some (i:Int))
       have:=l1 (some ((i:Int) + 1)) none
       omega))) g1 (eU _) so) (bA ((hr _ (dX ht)).aI g2 (by omega) (by omega)))) ?_
   refine aO 3 nd (ue (s:=.d (.int (alS g row c (i + 1)))) (bg (aJ (aJ (bx b (ae (aa 2) ag) gc) (aa 4) cE) af (cg (by decide))) af lW) (λh=>?_) λh=>?_) (ba ⟨hi,_,_,rfl⟩)
   · have h:=of_decide_eq_true h
     rw [lc] at h
     rw [alS,if_pos h]
     exact aJ (aa 3) (aa 5) cE
   · have h:=of_decide_eq_false h
     rw [lc] at h
     rw [alS,if_neg h]
     exact aJ (aa 3) (aa 5) bC
 · obtain ⟨_,s4,s5,rfl⟩:=h
   refine aW (aa 3) ?_
   rw [aS,lc,Int.toNat_natCast]
   rfl
end
noncomputable def orM (f:List Int->Int) (row:List Int) (cs:List (List Int)):List (List Int × D):=mkM (λc=>D.int (alR f row c)) cs
noncomputable def cU (P:Program) (w:World) (ds:List D) (r:Sl):Prop:=∃ (m:List (List Int × D)) (f:List Int->Int) (row:List Int) (cs:List (List Int)) (n p:Nat),ds=[bxD kT hdT P w m,dtR row,lC cs]/\cs.length<=100000/\(∀ c ∈ cs,c.length<=7/\(∀ k,k < c.length->0<=c.getD k 0/\c.getD k 0 < row.length)/\(∀ k,k < c.length->getM m (ers c k)=some (.int (f (ers c k)))/\Bd p (f (ers c k))))/\(∀ x ∈ row,Bd n x)/\n<=10000/\p<=10000/\r=.d (bxD kT hdT P w (orM f row cs))
section
variable {P:Program} {w:World} {K:PySem.W.Frag} {mg:Str->Option Value} {base:Heap} {k:Nat} {f:Addr} {fd:FuncData} {qual:Str}
theorem iQ (F:Fun K "one_row_more" qual (top 30) f fd) (hb:∀ x ∈ aB,mg x=none) (c_along_last_row:Cal P w K mg base k "along_last_row" (ck P w)):a6 P w K mg base CX0 (k + 1) f fd ["known","row","column_choices"] (spD K (cU P w)):=by
 refine fnD F eD hb (by rintro _ _ ⟨_,_,_,_,_,_,rfl,_⟩; rfl) ?_
 rintro _ _ ⟨m,g,row,cs,n,p,rfl,h1,hc,hr,hn,hp,rfl⟩ cdv A outer s H E b
 have nd:=eD.nd
 have hu:(Xc P w K mg base ["known","row","column_choices","found","columns"] qual (top 30) f cdv A outer s H E).A.units + 16 < cLine:=Nat.lt_of_le_of_lt (Nat.add_le_add_left (by decide:16<=64) _) b.room.units
 refine aO 3 nd (oB (a:=kT) (hd:=hdT)) ?_
 refine dM 4 (g:=λi=>tpD (cs.getD i [])) (λi τ=>∃ s4,τ=[.d (bxD kT hdT P w m),.d (dtR row),.d (lC cs),.x (exK kT hdT P w (orM g row (cs.take i))),s4]) b nd (bU (aa 2)) vb ⟨.un,rfl⟩ (λi hi τ h=>?_) λτ h=>?_
 · obtain ⟨s4,rfl⟩:=h
   have hi:i < cs.length:=by simpa using hi
   obtain ⟨c1,c2,c3⟩:=hc _ (dX (d:=[]) hi)
   have ln:=k6 (λc=>D.int (alR g row c)) (cs.take i)
   rw [List.length_take] at ln
   refine ny 3 (a:=kT) (hd:=hdT) (key:=cs.getD i []) (x:=.int (alR g row (cs.getD i []))) hu rfl (aa 4) (x_call b c_along_last_row (ae (aa 0) (ae (aa 1) (ae (aa 4) ag))) ⟨m,g,row,_,n,p,rfl,c1,c2,c3,hr,hn,hp,rfl⟩) (Nat.le_trans ln (by unfold sizeLine; omega)) (eU _) (ba ⟨.d (tpD (cs.getD i [])),?_⟩)
   rw [take_snoc [] hi]
   unfold orM
   rw [jx]
   rfl
 · obtain ⟨s4,rfl⟩:=h
   refine wx 3 (a:=kT) (hd:=hdT) (aW (aa 3) ?_)
   rw [List.length_map,List.take_of_length_le (Nat.le_refl _)]
   rfl
end
theorem yP:∀ n,n < 8->∀ t,t < 7->((chs n (t + 1)).all λc=>(chs n t).contains (c.take t) && (List.range (t + 1)).all λk=>(chs n t).contains (ers c k))=true:=by decide +kernel
theorem lV:∀ n,n < 8->∀ t,t < 8->(chs n t).length<=35:=by decide +kernel
theorem lI {n t:Nat} {c:List Int} (hn:n<=7) (ht:t < 7) (h:c ∈ chs n (t + 1)):c.take t ∈ chs n t/\∀ k,k < t + 1->ers c k ∈ chs n t:=by
 have:=List.all_eq_true.mp (yP n (by omega) t ht) c h
 rw [Bool.and_eq_true] at this
 obtain ⟨h1,h2⟩:=this
 refine ⟨by simpa using h1,λk hk=>?_⟩
 have:=List.all_eq_true.mp h2 k (List.mem_range.mpr hk)
 simpa using this
noncomputable def dtm (R:List (List Int)):Nat->List Int->List Int->Int
 | 0,_,_=>1
 | t + 1,ls,c=>alR (dtm R t (ls.take t)) (R.getD (eZ ls).toNat []) c
structure Rw (m n b:Nat) (R:List (List Int)):Prop where
 len:R.length=m
 row:∀ r ∈ R,r.length=n/\∀ x ∈ r,Bd b x
 m1:1<=m/\m<=7
 n1:1<=n/\n<=7
 b1:b<=1400
theorem ud {f:List Int->Int} {row c:List Int} {N:Nat}:∀ k,(∀ i,i < k->(alP f row c i).natAbs<=N)->(alS f row c k).natAbs<=k * N
 | 0,_=>by simp [alS]
 | k + 1,h=>by
   have ih:=ud k λi hi=>h i (by omega)
   have h1:=h k (by omega)
   rw [alS,Nat.succ_mul]
   split <;> omega
theorem ye {f:List Int->Int} {row c:List Int} {n p:Nat} (h7:c.length<=7) (hr:∀ x ∈ row,Bd n x) (hf:∀ k,k < c.length->Bd p (f (ers c k))):Bd (n + p + 3) (alR f row c):=by
 have h:=ud (f:=f) (row:=row) (c:=c) (N:=2 ^ (n + p)) c.length λi hi=>by
   have h1:Bd n (row.getD (c.getD i 0).toNat 0):=by
     by_cases h:(c.getD i 0).toNat < row.length
     · exact hr _ (dX h)
     · rw [getD_none (by omega)]
       exact Nat.two_pow_pos n
   exact Nat.le_of_lt (h1.mul (hf i hi))
 unfold Bd alR
 have e:2 ^ (n + p + 3)=8 * 2 ^ (n + p):=by rw [Nat.pow_add]; omega
 have p0:=Nat.two_pow_pos (n + p)
 have:c.length * 2 ^ (n + p)<=7 * 2 ^ (n + p):=Nat.mul_le_mul_right _ h7
 omega
theorem sP {m n b:Nat} {R:List (List Int)} (h:Rw m n b R):∀ t,t<=7->∀ ls c,c ∈ chs n t->Bd (1 + t * (b + 3)) (dtm R t ls c)
 | 0,_,_,_,_=>by unfold Bd dtm; rw [Nat.zero_mul]; decide
 | t + 1,ht,ls,c,hc=>by
   have l:=(dg n _ c hc).len
   have:=ye (f:=dtm R t (ls.take t)) (row:=R.getD (eZ ls).toNat []) (c:=c) (n:=b) (p:=1 + t * (b + 3)) (by omega) (λx hx=>by
     by_cases hl:(eZ ls).toNat < R.length
     · exact (h.row _ (dX hl)).2 x hx
     · rw [getD_none (by omega)] at hx
       cases hx) λk hk=>sP h t (by omega) _ _ ((lI h.n1.2 (by omega) hc).2 k (by omega))
   rw [dtm]
   refine this.mono ?_
   rw [Nat.succ_mul]
   omega
noncomputable def j3 (P:Program) (w:World) (R:List (List Int)) (n t:Nat) (ls:List Int):D:=bxD kT hdT P w (mkM (λc=>D.int (dtm R t ls c)) (chs n t))
noncomputable def knM (P:Program) (w:World) (R:List (List Int)) (m n t:Nat):List (List Int × D):=mkM (j3 P w R n t) (chs m t)
noncomputable def ky1 (n t:Nat) (ls:List Int):List (List Int × List Int):=(chs n t).map λc=>(ls,c)
noncomputable def kys (m n i:Nat):List (List Int × List Int):=(List.range i).flatMap λt=>(chs m (t + 1)).flatMap (ky1 n (t + 1))
noncomputable def vD (R:List (List Int)) (p:List Int × List Int):Int:=dtm R p.1.length p.1 p.2
noncomputable def fdM (R:List (List Int)) (ks:List (List Int × List Int)):List ((List Int × List Int) × D):=mkM (λp=>D.int (vD R p)) ks
theorem tm {n t:Nat} (hn:n<=7) (ht:t<=7):∀ ls:List (List Int),ls.length<=35->(ls.flatMap (ky1 n t)).length<=1225:=λls hl=>by
 have:=fb (ky1 n t) 35 ls λx _=>by unfold ky1; rw [List.length_map]; exact lV n (by omega) t (by omega)
 omega
theorem kys_len {m n i:Nat} (hm:m<=7) (hn:n<=7) (hi:i<=7):(kys m n i).length<=8575:=by
 have:=fb (λt=>(chs m (t + 1)).flatMap (ky1 n (t + 1))) 1225 (List.range i) λt ht=>tm hn (by have:=List.mem_range.mp ht; omega) _ (lV m (by omega) _ (by have:=List.mem_range.mp ht; omega))
 rw [List.length_range] at this
 unfold kys
 omega
noncomputable def bX (P:Program) (w:World) (ds:List D) (r:Sl):Prop:=∃ (R:List (List Int)) (m n b:Nat),ds=[.lst (R.map dtR)]/\Rw m n b R/\r=.d (.box (bxW kTT j4 P w (fdM R (kys m n (min m n)))))
theorem uD {R:List (List Int)} {i:Int} (h0:0<=i) (h:i.toNat < R.length):atI (R.map dtR) i=some (dtR (R.getD i.toNat [])):=by
 obtain ⟨n,rfl⟩:=Int.eq_ofNat_of_zero_le h0
 exact aF (by
   have h:n < R.length:=h
   simp [h])
theorem xT (c:List Int) (t:Nat) (h:c.length=t + 1):D.tup (Hy.cutD (c.map D.int) none (some (-1)))=kT.toD (c.take t):=by
 unfold Hy.cutD
 have e:HT.sIx (c.map D.int).length (c.map D.int).length (some (-1))=t:=by
   unfold HT.sIx
   simp only []
   rw [if_pos (by decide),List.length_map,h]
   omega
 rw [e,HT.jD,List.drop_zero,Nat.sub_zero,<- List.map_take]
 rfl
theorem kn0 (P:Program) (w:World) (R:List (List Int)) (m n:Nat):knM P w R m n 0=[([],bxD kT hdT P w [([],.int 1)])]:=rfl
section
variable {P:Program} {w:World} {K:PySem.W.Frag} {mg:Str->Option Value} {base:Heap} {k:Nat} {f:Addr} {fd:FuncData} {qual:Str}
set_option maxHeartbeats 1000000 in
theorem fM (F:Fun K "all_determinants" qual (top 29) f fd) (hb:∀ x ∈ aB,mg x=none) (c_choices_of:Cal P w K mg base k "choices_of" d8) (c_one_row_more:Cal P w K mg base k "one_row_more" (cU P w)):a6 P w K mg base CX0 (k + 1) f fd ["rows"] (spD K (bX P w)):=by
 refine fnD F cB hb (by rintro _ _ ⟨_,_,_,_,rfl,_⟩; rfl) ?_
 rintro _ _ ⟨R,m,n,b0,rfl,ok,rfl⟩ cdv A outer s H E b
 have nd:=cB.nd
 have hu:(Xc P w K mg base ["rows","found","known","size","fresh","column_choices","some","columns"] qual (top 29) f cdv A outer s H E).A.units + 16 < cLine:=Nat.lt_of_le_of_lt (Nat.add_le_add_left (by decide:16<=64) _) b.room.units
 obtain ⟨⟨m1,m7⟩,n1,n7⟩:=And.intro ok.m1 ok.n1
 have lR:(R.map dtR).length=m:=by rw [List.length_map,ok.len]
 have r0:(R.getD 0 []).length=n:=(ok.row _ (dX (by rw [ok.len]; omega))).1
 have lr0:((R.getD 0 []).map D.int).length=n:=by rw [List.length_map,r0]
 have a0:atI (R.map dtR) 0=some (dtR (R.getD 0 [])):=uD (i:=0) (by decide) (by rw [ok.len]; show 0 < m; omega)
 have hmin:(if ((((R.getD 0 []).map D.int).length:Nat):Int) < ((R.map dtR).length:Nat) then ((((R.getD 0 []).map D.int).length:Nat):Int) else ((R.map dtR).length:Nat))=((min m n:Nat):Int):=by
   rw [lR,lr0]
   split <;> omega
 refine aO 1 nd (oB (a:=kTT) (hd:=j4)) ?_
 generalize e:Expr.Dict [some (Expr.Tuple [] 0 _)] _ _=ex
 refine aO 2 nd (s:=.d (bxD kT hdT P w [([],bxD kT hdT P w [([],.int 1)])])) ?_ ?_ (hs:=by subst e; rfl)
 · subst e
   generalize e:Expr.Dict [some (Expr.Tuple [] 0 _)] [Expr.Constant _ _ _] _=ex
   refine wO (a:=kT) (hd:=hdT) (sY (a:=kT) (hd:=hdT) (key:=[]) (x:=bxD kT hdT P w [([],.int 1)]) hu ?_ ?_ (eU []))
   · show PE _ _ (dE _ _ _ (.d (.tup [])))
     exact bQ ag
   · subst e
     refine wO (a:=kT) (hd:=hdT) (m:=[([],.int 1)]) (sY (a:=kT) (hd:=hdT) (key:=[]) (x:=.int 1) hu ?_ af (eU []))
     show PE _ _ (dE _ _ _ (.d (.tup [])))
     exact bQ ag
 refine dM 3 (g:=λi=>.int (1 + (i:Nat))) (λi τ=>i<=min m n/\∃ s3 s4 s5 s6 s7,τ=[.d (.lst (R.map dtR)),.x (exK kTT j4 P w (fdM R (kys m n i))),.d (bxD kT hdT P w (knM P w R m n i)),s3,s4,s5,s6,s7]) b nd (rR b af (aJ (bx b (ae (bx b (ae (aa 0) ag) iM) (ae (bx b (ae (aL (aa 0) af (bb a0)) ag) iM) ag)) (zO b.calm)) af bC) (by rw [hmin]; omega)) (λk hk=>i4 _ _ k hk) ⟨Nat.zero_le _,.un,.un,.un,.un,.un,by rw [kn0]; rfl⟩ (λi hi τ h=>?_) λτ h=>?_
 · obtain ⟨_,s3,s4,s5,s6,s7,rfl⟩:=h
   have hi:i < min m n:=by rw [aS,hmin] at hi; omega
   have e1:(1 + (i:Nat):Int)=((i + 1:Nat):Int):=by omega
   rw [e1]
   refine aO 4 nd (oB (a:=kT) (hd:=hdT)) ?_
   refine aO 5 nd (x_call b c_choices_of (ae (bx b (ae (aL (aa 0) af (bb a0)) ag) iM) (ae (aa 3) ag)) ⟨n,i + 1,by rw [lr0],n7,by omega,rfl⟩) ?_
   refine dM 6 (g:=λl=>tpD ((chs m (i + 1)).getD l [])) (λl τ=>∃ s6 s7,τ=[.d (.lst (R.map dtR)),.x (exK kTT j4 P w (fdM R (kys m n i++((chs m (i + 1)).take l).flatMap (ky1 n (i + 1))))),.d (bxD kT hdT P w (knM P w R m n i)),.d (.int ((i + 1:Nat):Int)),.x (exK kT hdT P w (mkM (j3 P w R n (i + 1)) ((chs m (i + 1)).take l))),.d (lC (chs n (i + 1))),s6,s7]) b nd (bU (x_call b c_choices_of (ae (bx b (ae (aa 0) ag) iM) (ae (aa 3) ag)) ⟨m,i + 1,by rw [lR],m7,by omega,rfl⟩)) vb ⟨s6,s7,by simp [mkM]; rfl⟩ (λl hl τ h=>?_) λτ h=>?_
   · obtain ⟨s6,s7,rfl⟩:=h
     have hl:l < (chs m (i + 1)).length:=by simpa using hl
     have hs:=dX (d:=[]) hl
     generalize hls:(chs m (i + 1)).getD l []=ls at hs
     have okl:=dg m _ ls hs
     have l35:=lV m (by omega) (i + 1) (by omega)
     have n35:=lV n (by omega) (i + 1) (by omega)
     have lf:=k6 (j3 P w R n (i + 1)) ((chs m (i + 1)).take l)
     rw [List.length_take] at lf
     have ne:ls ≠ []:=λz=>by have:=okl.len; rw [z] at this; cases this
     have last:0<=eZ ls/\eZ ls < m:=by
       have:=okl.at_ i (by omega)
       unfold eZ
       rw [okl.len]
       exact this
     have hlr:(eZ ls).toNat < R.length:=by rw [ok.len]; omega
     have hrow:=ok.row _ (dX (d:=[]) hlr)
     have pre:=(lI m7 (by omega) hs).1
     have key:kT.toD (ls.take i)=D.tup (Hy.cutD (ls.map D.int) none (some (-1))):=(xT ls i okl.len).symm
     refine ny 4 (a:=kT) (hd:=hdT) (key:=ls) (x:=j3 P w R n (i + 1) ls) hu rfl (aa 6) (x_call b c_one_row_more (ae (nH (a:=kT) (hd:=hdT) (m:=knM P w R m n i) (key:=ls.take i) (x:=j3 P w R n i (ls.take i)) hu (aa 2) (by
       rw [key]
       refine pW (aa 6) jc (fg (kx af)) ?_
       rintro ⟨_,z⟩
       have e:HT.sIx (ls.map D.int).length (ls.map D.int).length (some (-1))=i:=by
         unfold HT.sIx
         simp only []
         rw [if_pos (by decide),List.length_map,okl.len]
         omega
       rw [e,List.length_map,okl.len] at z
       omega) (gH pre) (eU _) λ_ _=>rfl) (ae (aL (aa 0) (aL (aa 6) (kx af) (aM (pZ ne))) (bb (uD last.1 hlr))) (ae (aa 5) ag))) ⟨_,dtm R i (ls.take i),_,_,b0,1 + i * (b0 + 3),rfl,by omega,λc hc=>?_,hrow.2,by have:=ok.b1; omega,?_,rfl⟩) (Nat.le_trans lf (by unfold sizeLine; omega)) (eU _) ?_
     · have okc:=dg n _ c hc
       refine ⟨by rw [okc.len]; omega,λk hk=>?_,λk hk=>?_⟩
       · rw [hrow.1]
         exact okc.at_ k (by rw [okc.len] at hk; exact hk)
       · have hk:k < i + 1:=by rw [okc.len] at hk; exact hk
         have:=(lI n7 (by omega) hc).2 k hk
         exact ⟨gH this,sP ok i (by omega) _ _ this⟩
     · have:=ok.b1
       have:i * (b0 + 3)<=6 * (b0 + 3):=Nat.mul_le_mul_right _ (by omega)
       omega
     have kl:=kys_len (i:=i) m7 n7 (by omega)
     have kk:=tm (t:=i + 1) n7 (by omega) ((chs m (i + 1)).take l) (by rw [List.length_take]; omega)
     refine dM 7 (g:=λj=>tpD ((chs n (i + 1)).getD j [])) (λj τ=>∃ s7,τ=[.d (.lst (R.map dtR)),.x (exK kTT j4 P w (fdM R (kys m n i++((chs m (i + 1)).take l).flatMap (ky1 n (i + 1))++((chs n (i + 1)).take j).map λc=>(ls,c)))),.d (bxD kT hdT P w (knM P w R m n i)),.d (.int ((i + 1:Nat):Int)),.x (exK kT hdT P w (eM (mkM (j3 P w R n (i + 1)) ((chs m (i + 1)).take l)) ls (j3 P w R n (i + 1) ls))),.d (lC (chs n (i + 1))),.d (tpD ls),s7]) b nd (bU (aa 5)) vb ⟨s7,by simp; rfl⟩ (λj hj τ h=>?_) λτ h=>?_
     · obtain ⟨s7,rfl⟩:=h
       have hj:j < (chs n (i + 1)).length:=by simpa using hj
       have hc:=dX (d:=[]) hj
       generalize hcs:(chs n (i + 1)).getD j []=c at hc
       have gF:getM (eM (mkM (j3 P w R n (i + 1)) ((chs m (i + 1)).take l)) ls (j3 P w R n (i + 1) ls)) ls=some (j3 P w R n (i + 1) ls):=by rw [mO,if_pos rfl]
       refine ny 1 (a:=kTT) (hd:=j4) (key:=(ls,c)) (x:=.int (vD R (ls,c))) hu rfl (bQ (ae (aa 6) (ae (aa 7) ag))) (nH (a:=kT) (hd:=hdT) (key:=c) hu (ym 4 (a:=kT) (hd:=hdT) (key:=ls) hu rfl (aa 6) gF (eU _) lb) (aa 7) ?_ (eU _) lb) ?_ (qi _) (ba ⟨.d (tpD c),?_⟩)
       · rw [gH hc]
         show _=some (D.int (dtm R ls.length ls c))
         rw [okl.len]
       · refine Nat.le_trans (k6 _ _) ?_
         rw [List.length_append,List.length_append,List.length_map,List.length_take]
         unfold sizeLine
         omega
       · rw [take_snoc [] hj,hcs,List.map_append,<- List.append_assoc]
         unfold fdM
         rw [List.map_singleton,jx]
         rfl
     · obtain ⟨s7,rfl⟩:=h
       refine ba ⟨.d (tpD ls),s7,?_⟩
       rw [take_snoc [] hl,hls,jx,List.flatMap_append,List.length_map,List.take_of_length_le (Nat.le_refl _),List.append_assoc]
       simp [ky1]
   · obtain ⟨s6,s7,rfl⟩:=h
     refine wx 4 (a:=kT) (hd:=hdT) (aO 2 nd (aa 4) (ba ⟨hi,.d (.int ((i + 1:Nat):Int)),.d (bxD kT hdT P w (knM P w R m n (i + 1))),.d (lC (chs n (i + 1))),s6,s7,?_⟩))
     rw [List.length_map,List.take_of_length_le (Nat.le_refl _)]
     have e:kys m n (i + 1)=kys m n i++(chs m (i + 1)).flatMap (ky1 n (i + 1)):=by unfold kys; rw [List.range_succ,List.flatMap_append]; simp
     rw [e]
     rfl
 · obtain ⟨_,s3,s4,s5,s6,s7,rfl⟩:=h
   refine y4 1 (a:=kTT) (hd:=j4) (aW (aa 1) ?_)
   rw [aS,hmin]
   show Sl.d (.box (bxW kTT j4 P w (fdM R (kys m n ((((min m n:Nat):Int) + 1) - 1).toNat))))=_
   rw [Int.add_sub_cancel,Int.toNat_natCast]
end
theorem Qs.sq {d v:Nat} {q:Rat} (h:Qs d v q):Sq (v + d) q:=by
 refine ⟨?_,h.den.mono (by omega)⟩
 have h1:=h.den
 unfold Bd at h1 ⊢
 rw [Int.natAbs_natCast] at h1
 rw [Nat.pow_add]
 exact Nat.lt_of_le_of_lt h.val (Nat.mul_lt_mul_of_pos_left h1 (Nat.two_pow_pos v))
noncomputable def rwN (r:List Int):Nd:=.l ((r.map D.int).map .d)
theorem rw_ok {m n d v:Nat} {M:List (List Rat)} (t:Tq m n M) (hq:∀ r ∈ M,∀ x ∈ r,Qs d v x) (hb:v + (1 + n * d)<=1400):Rw m n (v + (1 + n * d)) (whM M (M.map scL)):=by
 refine ⟨by unfold whM; simp [t.len],λr hr=>?_,⟨t.r1,t.r7⟩,⟨t.c1,t.c7⟩,hb⟩
 unfold whM at hr
 obtain ⟨i,hi,rfl⟩:=List.mem_map.mp hr
 rw [List.mem_range] at hi
 have mi:M.getD i [] ∈ M:=eF hi
 refine ⟨by unfold whR; rw [List.length_map]; exact t.row _ mi,λx hx=>?_⟩
 unfold whR at hx
 obtain ⟨q,hq',rfl⟩:=List.mem_map.mp hx
 have e:(M.map scL).getD i 0=scL (M.getD i []):=by simp [hi]
 rw [e]
 have:=og (d:=d) (r:=M.getD i []) λx hx=>(hq _ mi x hx).den
 rw [t.row _ mi] at this
 exact Ar (hq _ mi q hq') ((k9 _).2 q hq') this
noncomputable def fuO (R:List (List Int)) (m n:Nat) (t:Int):Option (List Int × List Int):=(((fdM R (kys m n (min m n))).map (·.1)).find? λp=>decide (vD R p < t))
noncomputable def fuD:Option (List Int × List Int)->D
 | none=>.non
 | some p=>.tup [.lst (p.1.map .int),.lst (p.2.map .int)]
theorem pj {R:List (List Int)} {m n:Nat} {t:Int}:fuO R m n t=none ↔ ∀ p ∈ kys m n (min m n),t<=vD R p:=by
 unfold fuO
 rw [List.find?_eq_none]
 constructor
 · intro h p hp
   have:=h p (List.mem_map.mpr ⟨_,sX (gH (v:=λp=>D.int (vD R p)) hp),rfl⟩)
   have:=of_decide_eq_false (by simpa using this:decide (vD R p < t)=false)
   omega
 · intro h p hp
   obtain ⟨q,hq,rfl⟩:=List.mem_map.mp hp
   have:=h _ (qc hq).1
   simp
   omega
noncomputable def fuS:Option (List Int × List Int)->Sl
 | none=>.d .non
 | some p=>.n (.t [rwN p.1,rwN p.2])
noncomputable def de (ds:List D) (r:Sl):Prop:=∃ (m n d v:Nat) (M:List (List Rat)) (t:Int),ds=[tbQ M,.int t]/\Tq m n M/\(∀ r ∈ M,∀ x ∈ r,Qs d v x)/\v + (1 + n * d)<=1400/\r=fuS (fuO (whM M (M.map scL)) m n t)
section
variable {P:Program} {w:World} {K:PySem.W.Frag} {mg:Str->Option Value} {base:Heap} {k:Nat} {f:Addr} {fd:FuncData} {qual:Str}
set_option maxHeartbeats 1000000 in
theorem jw (F:Fun K "first_under" qual (top 28) f fd) (hb:∀ x ∈ aB,mg x=none) (c_all_determinants:Cal P w K mg base k "all_determinants" (bX P w)) (c_whole_rows:Cal P w K mg base k "whole_rows" er) (c_scale_of:Cal P w K mg base k "scale_of" fZ):a6 P w K mg base CX0 (k + 1) f fd ["table","bound"] (spD K de):=by
 refine fnD F fu hb (by rintro _ _ ⟨_,_,_,_,_,_,rfl,_⟩; rfl) ?_
 rintro _ _ ⟨m,n,d,v,M,t,rfl,tq,hq,hz,rfl⟩ cdv A outer s H E b
 have nd:=fu.nd
 have hu:(Xc P w K mg base ["table","bound","found","choices"] qual (top 28) f cdv A outer s H E).A.units + 16 < cLine:=Nat.lt_of_le_of_lt (Nat.add_le_add_left (by decide:16<=64) _) b.room.units
 have r7:=tq.r7
 have c7:=tq.c7
 have nd1:d<=n * d:=Nat.le_mul_of_pos_left d tq.c1
 have ok:=rw_ok tq hq hz
 generalize hRR:whM M (M.map scL)=R at ok
 have es:(D.lst ((M.map scL).map .int))=.lst ((List.range (M.map rwQ).length).map λi=>D.int (scL (M.getD i []))):=by
   exact congrArg D.lst (((gK (λr:List Rat=>D.int (scL r)) M [] (List.length_map ..)).trans (by rw [List.map_map]; rfl)).symm)
 refine aO 2 nd (x_call b c_all_determinants (ae (bJ (x_call b c_whole_rows (ae (aa 0) (ae (bJ (eP (cmp 0 (g:=λi=>rwQ (M.getD i [])) (f:=λi=>.int (scL (M.getD i []))) b (bU (aa 0)) (fS (f:=rwQ) (xs:=M) []) (by rw [List.length_map,tq.len]; omega) λi hi s0 H0 fp=>(x_call (b.comp s0 H0 _ fp) c_scale_of (ae (aa 0) ag) ⟨_,d,rfl,?_,?_,?_,?_,rfl⟩)))) ag)) ⟨M,M.map scL,v + d,by rw [es],by rw [List.length_map],by rw [tq.len]; omega,λr hr=>⟨by rw [tq.row r hr]; omega,λx hx=>(hq r hr x hx).sq⟩,by omega,?_,rfl⟩)) ag) ⟨R,m,n,_,by rw [hRR],ok,rfl⟩) ?_
 · rw [tq.row _ (eF (by simpa using hi))]; omega
 · exact λx hx=>(hq _ (eF (by simpa using hi)) x hx).den
 · rw [tq.row _ (eF (by simpa using hi))]; omega
 · omega
 · intro s hs
   obtain ⟨r,hr,rfl⟩:=List.mem_map.mp hs
   have:=og (d:=d) (r:=r) λx hx=>(hq _ hr x hx).den
   rw [tq.row r hr] at this
   exact this.mono (by omega)
 have hall:∀ p ∈ (fdM R (kys m n (min m n))).map (·.1),getM (fdM R (kys m n (min m n))) p=some (.int (vD R p)):=λp hp=>by
   obtain ⟨q,hq,rfl⟩:=List.mem_map.mp hp
   exact gH (qc hq).1
 unfold fuO
 generalize hks:(fdM R (kys m n (min m n))).map (·.1)=ks at hall
 have em:(fdM R (kys m n (min m n))).map (λp=>kTT.toD p.1)=ks.map kTT.toD:=by rw [<- hks,List.map_map]; rfl
 refine dM 3 (g:=λi=>kTT.toD (ks.getD i ([],[]))) (λi τ=>(ks.take i).find? (λp=>decide (vD R p < t))=none/\∃ s3,τ=[.d (tbQ M),.d (.int t),.d (.box (bxW kTT j4 P w (fdM R (kys m n (min m n))))),s3]) b nd (em ▸ vC (aa 2)) (fS (f:=kTT.toD) (xs:=ks) ([],[])) ⟨rfl,.un,rfl⟩ (λi hi τ h=>?_) λτ h=>?_
 · obtain ⟨h0,s3,rfl⟩:=h
   have hi:i < ks.length:=by simpa using hi
   have mi:ks.getD i ([],[]) ∈ ks:=eF hi
   have g:=hall _ mi
   have es:ks.take (i + 1)=ks.take i++[ks.getD i ([],[])]:=take_snoc _ hi
   generalize hp:ks.getD i ([],[])=p at g es
   refine fT (bg (yO (a:=kTT) (hd:=j4) (key:=p) hu (aa 2) (aa 3) g (qi _) lb) (aa 1) vz) (λh=>?_) λh=>?_
   · have e:ks.find? (λp=>decide (vD R p < t))=some p:=by
       have e1:ks=ks.take i++p :: ks.drop (i + 1):=by
         have:=List.take_append_drop (i + 1) ks
         rw [es,List.append_assoc] at this
         exact this.symm
       rw [e1,List.find?_append,h0,List.find?_cons,h]
       rfl
     rw [e]
     exact aW (oq (eY (qz b (ae (aL (aa 3) af (aM rfl)) ag) qk) rfl (eY (qz b (ae (aL (aa 3) af (aM rfl)) ag) qk) rfl rH))) rfl
   · refine ba ⟨?_,_,rfl⟩
     rw [es,List.find?_append,h0,List.find?_cons,h]
     rfl
 · obtain ⟨h0,s3,rfl⟩:=h
   rw [List.length_map,List.take_of_length_le (Nat.le_refl _)] at h0
   rw [h0]
   exact aW wF rfl
end
noncomputable def lnR (R:List (List Int)) (ls:List Int):List (List Int):=ls.map λi=>R.getD i.toNat []
theorem pF {f:List Int->Int} {row c:List Int} {g:Nat->Rat} {m:Nat} (hl:c.length=m + 1) (hg:∀ k,k < m + 1->((alP f row c k:Int):Rat)=g k):∀ k,k<=m + 1->((alS f row c k:Int):Rat)=aA (λk=>sgn (m - k) * g k) k
 | 0,_=>rfl
 | k + 1,h=>by
   have ih:=pF hl hg k (by omega)
   rw [alS,aA,<- ih,<- hg k (by omega),hl]
   unfold sgn
   rw [Int.fmod_eq_emod_of_nonneg _ (by decide)]
   by_cases z:(m - k) % 2=0
   · rw [if_pos z,if_neg (by omega),Rat.intCast_add,Rat.one_mul]
   · rw [if_neg z,if_pos (by omega),Rat.intCast_sub,Rat.sub_eq_add_neg,Rat.neg_mul,Rat.one_mul]
theorem nX {M M':Nat->Nat->Rat} {L:List Nat} (h:∀ r,r < L.length->∀ j,M r j=M' r j):gC M L=gC M' L:=by
 unfold gC
 exact aD λr hr q _=>h r hr _
theorem tU (R:List (List Int)) (ls:List Int) (t r j:Nat) (h:r < t):dtM (lnR R (ls.take t)) r j=dtM (lnR R ls) r j:=by
 have e:(lnR R (ls.take t)).getD r []=(lnR R ls).getD r []:=by
   unfold lnR
   rw [List.map_take,List.getD_eq_getElem?_getD,List.getD_eq_getElem?_getD,List.getElem?_take_of_lt h]
 unfold dtM
 rw [e]
theorem pH (c:List Int) (k:Nat):(ers c k).map Int.toNat=(c.map Int.toNat).eraseIdx k:=by
 unfold ers
 rw [List.eraseIdx_eq_take_drop_succ,List.map_append,List.map_take,List.map_drop]
theorem oZ (R:List (List Int)):∀ (t:Nat) (ls c:List Int),ls.length=t->c.length=t->((dtm R t ls c:Int):Rat)=gC (dtM (lnR R ls)) (c.map Int.toNat)
 | 0,ls,c,_,hc=>by
   cases List.length_eq_zero_iff.mp hc
   rfl
 | t + 1,ls,c,hl,hc=>by
   have hL:(c.map Int.toNat).length=t + 1:=by rw [List.length_map,hc]
   rw [oG hL,dtm]
   unfold alR
   rw [hc]
   have:=pF (f:=dtm R t (ls.take t)) (row:=R.getD (eZ ls).toNat []) (c:=c) (g:=λk=>dtM (lnR R ls) t ((c.map Int.toNat).getD k 0) * gC (dtM (lnR R ls)) ((c.map Int.toNat).eraseIdx k)) hc (λk hk=>by
     unfold alP
     have e1:(c.map Int.toNat).getD k 0=(c.getD k 0).toNat:=by simp [show k < c.length by omega]
     have e2:(lnR R ls).getD t []=R.getD (eZ ls).toNat []:=by
       unfold lnR eZ
       rw [hl]
       simp [show t < ls.length by omega]
     have l2:(ers c k).length=t:=by
       have:=congrArg List.length (pH c k)
       rw [List.length_map,List.length_eraseIdx_of_lt (by omega),hL] at this
       exact this
     rw [Rat.intCast_mul,oZ R t (ls.take t) (ers c k) (by rw [List.length_take,hl]; omega) l2,pH]
     rw [e1]
     have e3:dtM (lnR R ls) t (c.getD k 0).toNat=(((R.getD (eZ ls).toNat []).getD (c.getD k 0).toNat 0:Int):Rat):=by unfold dtM; rw [e2]
     rw [e3]
     refine congrArg _ (nX λr hr j=>tU R ls t r j ?_)
     rw [List.length_eraseIdx_of_lt (by omega),hL] at hr
     omega) (t + 1) (Nat.le_refl _)
   rw [this]
   refine ar λk hk=>?_
   rw [Rat.mul_assoc]
theorem AH:∀ n,n < 8->∀ t,t < 8->((chs n t).all λc=>(List.range (t - 1)).all λi=>decide (c.getD i 0 < c.getD (i + 1) 0))=true:=by decide +kernel
theorem y6 {R:List (List Int)} {ls c:List Int} {t:Nat} (hl:ls.length=t) (hc:c.length=t):((vD R (ls,c):Int):Rat)=mi (dtM R) t (λr=>(ls.getD r 0).toNat) (λj=>(c.getD j 0).toNat):=by
 unfold vD
 show ((dtm R ls.length ls c:Int):Rat)=_
 rw [oZ R ls.length ls c rfl (by omega)]
 unfold gC mi
 rw [List.length_map,hc]
 refine aD λi hi j hj=>?_
 unfold dtM lnR
 have e1:(ls.map λi=>R.getD i.toNat []).getD i []=R.getD (ls.getD i 0).toNat []:=by simp [show i < ls.length by omega]
 have e2:(c.map Int.toNat).getD j 0=(c.getD j 0).toNat:=by simp [show j < c.length by omega]
 rw [e1,e2]
theorem oU {n t:Nat} (hn:n<=7) (ht:t<=7) {c:List Int} (h:c ∈ chs n t):Inc t λi=>(c.getD i 0).toNat:=λi hi=>by
 have u:=List.all_eq_true.mp (List.all_eq_true.mp (AH n (by omega) t (by omega)) c h) i (List.mem_range.mpr (by omega))
 have u:=of_decide_eq_true u
 have:=((dg n t c h).at_ i (by omega)).1
 show (c.getD i 0).toNat < (c.getD (i + 1) 0).toNat
 omega
theorem pA {m n k:Nat} {ls c:List Int}:(ls,c) ∈ kys m n k ↔ ∃ s,s < k/\ls ∈ chs m (s + 1)/\c ∈ chs n (s + 1):=by
 unfold kys ky1
 constructor
 · intro h
   obtain ⟨s,hs,h⟩:=List.mem_flatMap.mp h
   obtain ⟨l,hl,h⟩:=List.mem_flatMap.mp h
   obtain ⟨d,hd,e⟩:=List.mem_map.mp h
   cases e
   exact ⟨s,List.mem_range.mp hs,hl,hd⟩
 · rintro ⟨s,hs,h1,h2⟩
   exact List.mem_flatMap.mpr ⟨s,List.mem_range.mpr hs,List.mem_flatMap.mpr ⟨ls,h1,List.mem_map.mpr ⟨c,h2,rfl⟩⟩⟩
theorem xG {M:List (List Rat)} {ss:List Int} {i j:Nat} (hi:i < M.length) (hj:j < (M.getD i []).length):((whM M ss).getD i []).getD j 0=((M.getD i []).getD j 0).num * (ss.getD i 0 / (((M.getD i []).getD j 0).den:Nat)):=by
 have e:(whM M ss).getD i []=whR (M.getD i []) (ss.getD i 0):=by unfold whM; simp [hi]
 rw [e]
 unfold whR
 rw [List.getD_eq_getElem?_getD,List.getElem?_map,List.getElem?_eq_getElem hj,List.getD_eq_getElem?_getD (l:=M.getD i []),List.getElem?_eq_getElem hj]
 rfl
structure Rs (T m:Nat) (p:List Int):Prop where
 len:p.length=m
 up:∀ a,a + 1 < m->p.getD a 0 < p.getD (a + 1) 0
 bd:∀ a,a < m->0<=p.getD a 0/\p.getD a 0 < T
theorem u0 {c:List Int} {x:Int} {i:Nat} (h:i < c.length):(c++[x]).getD i 0=c.getD i 0:=by simp [List.getD,List.getElem?_append_left h]
theorem qg (T:Nat):∀ (m:Nat) (p:List Int),Rs T m p->p ∈ chs T m
 | 0,p,h=>by
   rw [chs,List.mem_singleton]
   exact List.length_eq_zero_iff.mp h.len
 | m + 1,p,h=>by
   have hp:p=p.dropLast++[p.getD m 0]:=by
     have hne:p ≠ []:=λz=>by rw [z] at h; exact absurd h.len (by simp)
     have:p.getLast hne=p.getD m 0:=by
       rw [List.getLast_eq_getElem,List.getD_eq_getElem?_getD]
       simp [h.len]
     rw [<- this,List.dropLast_concat_getLast]
   have hl:p.dropLast.length=m:=by rw [List.length_dropLast,h.len]; rfl
   have hg:∀ a,a < m->p.dropLast.getD a 0=p.getD a 0:=λa ha=>by
     conv=>rhs; rw [hp]
     rw [u0 (by omega)]
   have hd:Rs T m p.dropLast:=⟨hl,λa ha=>by rw [hg a (by omega),hg (a + 1) ha]; exact h.up a (by omega),λa ha=>by rw [hg a ha]; exact h.bd a (by omega)⟩
   rw [chs,List.mem_flatMap]
   refine ⟨_,qg T m _ hd,?_⟩
   unfold onC
   have hb:=h.bd m (by omega)
   have hle:lea m p.dropLast<=p.getD m 0:=by
     unfold lea
     by_cases z:0 < m
     · rw [if_pos z,eZ,hl,hg (m - 1) (by omega)]
       have:=h.up (m - 1) (by omega)
       rw [show m - 1 + 1=m by omega] at this
       omega
     · rw [if_neg z]; exact hb.1
   refine List.mem_map.mpr ⟨(p.getD m 0 - lea m p.dropLast).toNat,List.mem_range.mpr (by omega),?_⟩
   rw [Int.toNat_of_nonneg (by omega)]
   conv=>rhs; rw [hp]
   congr 2
   omega
theorem lD {s:Nat->Rat} (h:∀ i,0 < s i):∀ k,0 < iF s k
 | 0=>by show (0:Rat) < 1; decide
 | k + 1=>by
   rw [iF]
   exact Rat.mul_pos (lD h k) (h k)
theorem zh {M:List (List Rat)} {k:Nat} (h:k < M.length):(M.map scL).getD k 0=scL (M.getD k []):=by simp [h]
theorem zw {m n s:Nat} {M:List (List Rat)} {ls cc:List Int} (t:Tq m n M) (l1:ls.length=s) (l2:cc.length=s) (b1:∀ i,i < s->(ls.getD i 0).toNat < m) (b2:∀ i,i < s->(cc.getD i 0).toNat < n) :
   ((vD (whM M (M.map scL)) (ls,cc):Int):Rat)=iF (λr=>((scL (M.getD (ls.getD r 0).toNat []):Int):Rat)) s * mi (qM M) s (λr=>(ls.getD r 0).toNat) λj=>(cc.getD j 0).toNat:=by
 rw [y6 (R:=whM M (M.map scL)) l1 l2]
 unfold mi
 rw [<- ku (n:=s) _ (λr c=>qM M (ls.getD r 0).toNat (cc.getD c 0).toNat) s (Nat.le_refl _)]
 refine aD λi hi j hj=>?_
 rw [if_pos hi]
 have hi':(ls.getD i 0).toNat < M.length:=by rw [t.len]; exact b1 i hi
 have hj':(cc.getD j 0).toNat < (M.getD (ls.getD i 0).toNat []).length:=by rw [t.at_ (b1 i hi)]; exact b2 j hj
 have sc:(M.map scL).getD (ls.getD i 0).toNat 0=scL (M.getD (ls.getD i 0).toNat []):=zh hi'
 unfold dtM
 rw [xG hi' hj',sc,A3 ((k9 _).2 _ (eF hj')),Rat.mul_comm]
 rfl
theorem wN {M:List (List Rat)} {f:Nat->Nat}:∀ i,(0:Rat) < ((scL (M.getD (f i) []):Int):Rat):=λi=>Rat.intCast_pos.mpr (k9 _).1
theorem xt {m n:Nat} {M:List (List Rat)} (t:Tq m n M) (h:Tnn m n (qM M)):fuO (whM M (M.map scL)) m n 0=none:=by
 refine pj.mpr λp hp=>?_
 obtain ⟨ls,cc⟩:=p
 obtain ⟨s,hs,h1,h2⟩:=pA.mp hp
 have m7:=t.r7
 have n7:=t.c7
 have o1:=dg m (s + 1) ls h1
 have o2:=dg n (s + 1) cc h2
 have b1:∀ i,i < s + 1->(ls.getD i 0).toNat < m:=λi hi=>by have:=o1.at_ i hi; omega
 have b2:∀ i,i < s + 1->(cc.getD i 0).toNat < n:=λi hi=>by have:=o2.at_ i hi; omega
 refine Rat.intCast_nonneg.mp ?_
 rw [zw t o1.len o2.len b1 b2]
 exact Rat.mul_nonneg (Rat.le_of_lt (lD wN _)) (h (s + 1) _ _ (oU m7 (by omega) h1) b1 (oU n7 (by omega) h2) b2)
theorem inc_le {k:Nat} {ρ:Nat->Nat} (h:Inc k ρ):∀ i,i < k->i<=ρ i
 | 0,_=>Nat.zero_le _
 | i + 1,hi=>by
   have:=inc_le h i (by omega)
   have:=h i hi
   omega
theorem pS {m k:Nat} {ρ:Nat->Nat} (h:Inc k ρ) (b:∀ i,i < k->ρ i < m):((List.range k).map λi=>((ρ i:Nat):Int)) ∈ chs m k:=by
 have at_:∀ i,i < k->((List.range k).map λi=>((ρ i:Nat):Int)).getD i 0=(ρ i:Nat):=λi hi=>by simp [hi]
 refine qg m k _ ⟨by simp,λa ha=>?_,λa ha=>?_⟩
 · rw [at_ a (by omega),at_ (a + 1) ha]
   have:=h a ha
   omega
 · rw [at_ a ha]
   have:=b a ha
   omega
theorem yi {m n:Nat} {M:List (List Rat)} (t:Tq m n M) (h:fuO (whM M (M.map scL)) m n 0=none):Tnn m n (qM M):=by
 intro k ρ γ h1 b1 h2 b2
 cases k with
 | zero=>show (0:Rat)<=1; decide
 | succ s=>
   have hm:=inc_le h1 s (by omega)
   have hn:=inc_le h2 s (by omega)
   have hm':=b1 s (by omega)
   have hn':=b2 s (by omega)
   have key:=pj.mp h (_,_) (pA.mpr ⟨s,by omega,pS h1 b1,pS h2 b2⟩)
   have a1:∀ i,i < s + 1->(((List.range (s + 1)).map λi=>((ρ i:Nat):Int)).getD i 0).toNat=ρ i:=λi hi=>by simp [hi]
   have a2:∀ i,i < s + 1->(((List.range (s + 1)).map λi=>((γ i:Nat):Int)).getD i 0).toNat=γ i:=λi hi=>by simp [hi]
   have e:=zw (s:=s + 1) (ls:=(List.range (s + 1)).map λi=>((ρ i:Nat):Int)) (cc:=(List.range (s + 1)).map λi=>((γ i:Nat):Int)) t (by simp) (by simp) (λi hi=>by rw [a1 i hi]; exact b1 i hi) (λi hi=>by rw [a2 i hi]; exact b2 i hi)
   have key:=Rat.intCast_nonneg.mpr key
   rw [e] at key
   have em:mi (qM M) (s + 1) (λr=>(((List.range (s + 1)).map λi=>((ρ i:Nat):Int)).getD r 0).toNat) (λj=>(((List.range (s + 1)).map λi=>((γ i:Nat):Int)).getD j 0).toNat)=mi (qM M) (s + 1) ρ γ:=aD λi hi j hj=>(congrArg (λx=>qM M x _) (a1 i hi)).trans (congrArg (qM M (ρ i)) (a2 j hj))
   rw [em] at key
   refine Rat.not_lt.mp λneg=>?_
   have p:=lD (wN (M:=M) (f:=λr=>(((List.range (s + 1)).map λi=>((ρ i:Nat):Int)).getD r 0).toNat)) (s + 1)
   have:=Rat.mul_pos p (show (0:Rat) < - mi (qM M) (s + 1) ρ γ by grind)
   grind
section
variable {P:Program} {w:World} {K:PySem.W.Frag} {mg:Str->Option Value} {base:Heap} {k:Nat} {f:Addr} {fd:FuncData} {qual:Str}
end
theorem tw {k p:Nat} {M:Nat->Nat->Rat} (hp:p < k) (h:∀ c,c < k->M p c=0):det k M=0:=by
 rw [<- (bN k).tP M hp]
 refine aD λi hi j hj=>?_
 unfold aw
 split
 · rename_i z; rw [z]; exact h j hj
 · rfl
theorem yx {k:Nat} {ρ:Nat->Nat} (h:Inc k ρ) {i j:Nat} (hij:i < j):j < k->ρ i < ρ j:=by
 induction j with
 | zero=>omega
 | succ j ih=>
   intro hj
   have:=h j hj
   rcases Nat.lt_or_ge i j with z | z
   · have:=ih z (by omega); omega
   · obtain rfl:i=j:=by omega
     exact this
theorem mN {m n s:Nat} {A:Nat->Nat->Rat} (H:Tnn m n A):Tnn s n λi j=>if i < m then A i j else 0:=λk ρ γ h1 h2 h3 h4=>by
 cases k with
 | zero=>show (0:Rat)<=1; decide
 | succ k=>
   by_cases z:ρ k < m
   · have lt:∀ i,i < k + 1->ρ i < m:=λi hi=>by
       rcases Nat.lt_or_ge i k with y | y
       · have:=yx h1 y (by omega); omega
       · obtain rfl:i=k:=by omega
         exact z
     have e:mi (λi j=>if i < m then A i j else 0) (k + 1) ρ γ=mi A (k + 1) ρ γ:=aD λi hi j hj=>if_pos (lt i hi)
     rw [e]
     exact H (k + 1) ρ γ h1 lt h3 h4
   · have e:mi (λi j=>if i < m then A i j else 0) (k + 1) ρ γ=0:=tw (p:=k) (by omega) λc _=>if_neg z
     rw [e]
     exact Rat.le_refl
theorem pJ {m n s:Nat} {A:Nat->Nat->Rat} (H:Tnn m n A):Tnn s s (bS m n A):=
 (mN (m:=n) (s:=s) (mN (m:=m) (s:=s) H).tr).tr.congr λi _ j _=>by
   unfold bS
   by_cases h1:i < m <;> by_cases h2:j < n <;> simp [h1,h2]
noncomputable def Cm (β σ m n:Nat) (A:Nat->Nat->Rat):Prop:=∃ P:Int,0 < P/\P.natAbs<=2 ^ σ/\∀ i,i < m->∀ j,j < n->ZB β ((P:Rat) * A i j)
noncomputable def mB (s β σ:Nat):Nat:=2 * (s * (β + 3)) + σ + 5
theorem AW (b:Nat):ZB b 0:=⟨0,rfl,Nat.zero_le _⟩
theorem Cm.pad {β σ m n s:Nat} {A:Nat->Nat->Rat} (h:Cm β σ m n A):Cm β σ s s (bS m n A):=by
 obtain ⟨P,p0,p1,p2⟩:=h
 refine ⟨P,p0,p1,λi _ j _=>?_⟩
 unfold bS
 split
 · rename_i z; exact p2 i z.1 j z.2
 · rw [Rat.mul_zero]; exact AW β
theorem sQ {β σ s:Nat} {A:Nat->Nat->Rat} (h7:s<=7) (H:Tnn s s A) (h:Cm β σ s s A):SzA s (mB s β σ) A:=by
 obtain ⟨P,p0,p1,p2⟩:=h
 have F:FS s 0 (λi j=>(P:Rat) * 1 * A i j) (λ_=>(P:Rat)) (λ_=>1) A:=FS.start (λ_ _ _ _=>rfl) (λ_=>Rat.intCast_pos.mpr p0) (λ_=>by decide)
 intro k hk
 exact ((tE H F k (by omega)).wG (oY H k (by omega)).bl hk).2 _ λg hg=>sC h7 (λi hi j hj=>by rw [Rat.mul_one]; exact p2 i hi j hj) (λ_ _=>⟨P,rfl,p1⟩) hg
theorem As (o:Option (List Int × List Int)):fzD (fuS o)=some (fuD o):=by
 cases o with
 | none=>rfl
 | some p=>
   show some (ndD (.t [rwN p.1,rwN p.2]))=_
   unfold rwN fuD
   simp only [ndD,m6,wJ]
theorem u6 {X:Cx} {o:Option (List Int × List Int)}:cA X (compareOp .IsNot) (fuD o) .non (.bl o.isSome):=⟨_,vf,λ_ v w H Q _ d1 d2 k=>by
 cases d2
 cases o with
 | none=>cases d1; exact ⟨rfl,by rw [decide_eq_true rfl]; exact k _ H (ao.refl _) .bl⟩
 | some i=>cases d1; exact ⟨rfl,by rw [decide_eq_false (by intro z; cases z)]; exact k _ H (ao.refl _) .bl⟩⟩
noncomputable def lcN (T R C:Nat) (ss:List Stp):Nd:=.t [.d (.int T),.d (.int R),.d (.int C),.l ((ss.map stD).map .d)]
noncomputable def sz2 (m n:Nat):Nat:=if n > m then n else m
noncomputable def tkS (m n:Nat) (A:Nat->Nat->Rat):Option (List Int × List Int)->Sl
 | none=>.n (.t [.d (.str "ladder"),lcN (sz2 m n) m n (apS (sz2 m n) (bS m n A))])
 | some p=>.d (.tup [.str "below",.lst (p.1.map .int),.lst (p.2.map .int)])
noncomputable def cn (ds:List D) (r:Sl):Prop:=∃ (m n d v β σ:Nat) (A:Nat->Nat->Rat),ds=[tbQ (mkT m n A)]/\1<=m/\m<=7/\1<=n/\n<=7/\(∀ r ∈ mkT m n A,∀ x ∈ r,Qs d v x)/\v + (1 + n * d)<=1400/\Cm β σ m n A/\4 * mB 7 β σ<=900000/\r=tkS m n A (fuO (whM (mkT m n A) ((mkT m n A).map scL)) m n 0)
section
variable {P:Program} {w:World} {K:PySem.W.Frag} {mg:Str->Option Value} {base:Heap} {k:Nat} {f:Addr} {fd:FuncData} {qual:Str}
set_option maxHeartbeats 1000000 in
theorem jB (F:Fun K "taken_apart" qual (top 35) f fd) (hb:∀ x ∈ aB,mg x=none) (c_look_table:Cal P w K mg base k "look_table" eC) (c_first_under:Cal P w K mg base k "first_under" de) (c_steps_of:Cal P w K mg base k "steps_of" gy) (c_squared:Cal P w K mg base k "squared" hV):a6 P w K mg base CX0 (k + 1) f fd ["table"] (spD K cn):=by
 refine fnD F fv hb (by rintro _ _ ⟨_,_,_,_,_,_,_,rfl,_⟩; rfl) ?_
 rintro _ _ ⟨m,n,d,v,β,σ,A,rfl,m1,m7,n1,n7,hq,hz,cm,hB,rfl⟩ cdv A' outer s H E b
 have nd:=fv.nd
 have t:Tq m n (mkT m n A):=lK m1 m7 n1 n7
 refine yL (x_call b c_look_table (ae (aa 0) ag) ⟨_,_,_,rfl,t,rfl⟩) ?_
 refine aO 1 nd (x_call b c_first_under (ae (aa 0) (ae af ag)) ⟨m,n,d,v,mkT m n A,0,rfl,t,hq,hz,rfl⟩) ?_
 refine iD 1 (x:=fuD (fuO (whM (mkT m n A) ((mkT m n A).map scL)) m n 0)) ?_ rfl (As _)
 generalize ho:fuO (whM (mkT m n A) ((mkT m n A).map scL)) m n 0=o
 refine fT (bg (aa 1) wF u6) (λh=>?_) λh=>?_
 · obtain ⟨p,rfl⟩:=Option.isSome_iff_exists.mp h
   exact aW (bQ (ae bL (ae (aL (aa 1) af (aM (aF (i:=0) rfl))) (ae (aL (aa 1) af (aM (aF (i:=1) rfl))) ag)))) rfl
 obtain rfl:o=none:=by cases o with | none=>rfl | some p=>cases h
 have H0:Tnn m n A:=(yi t ho).congr λi hi j hj=>uJ hi hj
 have sm:m<=sz2 m n/\n<=sz2 m n/\sz2 m n<=7/\1<=sz2 m n:=by unfold sz2; split <;> omega
 have es:(if (n:Int) > (m:Int) then (n:Int) else (m:Int))=((sz2 m n:Nat):Int):=by unfold sz2; split <;> split <;> omega
 have lm:((mkT m n A).map rwQ).length=m:=by rw [List.length_map,cI]
 have ln:(((List.range n).map (A 0)).map frD).length=n:=by simp
 have r0:atI ((mkT m n A).map rwQ) 0=some (rwQ ((List.range n).map (A 0))):=by
   have:=gh (f:=rwQ) (xs:=mkT m n A) [] (i:=0) (by rw [cI]; exact m1)
   rw [gO m1] at this
   exact this
 have hM:mB (sz2 m n) β σ<=mB 7 β σ:=by
   unfold mB
   have:=Nat.mul_le_mul_right (β + 3) sm.2.2.1
   omega
 refine aO 2 nd (bx b (ae (bx b (ae (aa 0) ag) (iy lm)) (ae (bx b (ae (aL (aa 0) af (bb r0)) ag) (iy ln)) ag)) (rq b.calm)) ?_
 rw [es]
 generalize hs:sz2 m n=s2 at *
 refine aW (oq (eY bL rfl (eY (oq (eY (aa 2) rfl (eY (bx b (ae (aa 0) ag) (iy lm)) rfl (eY (bx b (ae (aL (aa 0) af (bb r0)) ag) (iy ln)) rfl (eY (s:=.o ((apS s2 (bS m n A)).map stD)) (x_call b c_steps_of (ae (bJ (x_call b c_squared (ae (aa 0) (ae (aa 2) ag)) ⟨m,n,s2,A,rfl,sm.1,sm.2.1,sm.2.2.1,rfl⟩)) ag) ⟨s2,mB s2 β σ,bS m n A,rfl,sm.2.2.2,sm.2.2.1,sQ sm.2.2.1 (pJ H0) cm.pad,by omega,rfl⟩) rfl rH))))) rfl rH))) ?_
 show _=Sl.n _
 rw [hs]
 rfl
end
noncomputable def cZ (ds:List D) (r:Sl):Prop:=∃ a b:Int,ds=[.int a,.int b]/\r=.d (.int (Int.gcd a b:Int))
noncomputable def ff (ds:List D) (r:Sl):Prop:=∃ (t b:Int) (q:Rat),ds=[.int t,.int b]/\0 < b/\(t:Rat)=q * (b:Rat)/\r=.d (frD q)
noncomputable def jr (ds:List D) (r:Sl):Prop:=∃ (ns:List Int) (k:Nat),ds=[.lst (ns.map .int),.int k]/\r=.d (.int (ns.getD k 0))
noncomputable def i5 (ds:List D) (r:Sl):Prop:=∃ n:Nat,ds=[.int n]/\n<=1000/\r=.d (.int (10 ^ n))
noncomputable def whw (x:D):Bool:=jX .int x && !jX .bool x
noncomputable def fI (ds:List D) (r:Sl):Prop:=∃ x,ds=[x]/\r=.d (.bl (whw x))
noncomputable def iC (ds:List D) (r:Sl):Prop:=∃ (m n:Nat) (p q:Rat),ds=[frD p,frD q]/\Sq m p/\Sq n q/\(m<=1000000/\n<=1000000)/\r=.d (frD (p * q))
noncomputable def jn (ds:List D) (r:Sl):Prop:=∃ (m n:Nat) (p q:Rat),ds=[frD p,frD q]/\Sq m p/\Sq n q/\(m<=1000000/\n<=1000000)/\r=.d (frD (p + q))
section
variable {P:Program} {w:World} {K:PySem.W.Frag} {mg:Str->Option Value} {base:Heap} {k:Nat} {f:Addr} {fd:FuncData} {qual:Str}
theorem k7 (F:Fun K "_law_divisor" qual (top 45) f fd) (hb:∀ x ∈ aB,mg x=none):a6 P w K mg base CX0 (k + 1) f fd ["_law_one","_law_other"] (spD K cZ):=by
 refine fnD F gZ hb (by rintro _ _ ⟨_,_,rfl,_⟩; rfl) ?_
 rintro _ _ ⟨x,y,rfl,rfl⟩ cdv A outer s H E b
 have nd:=gZ.nd
 refine aO 0 nd (bx b (ae (aa 0) ag) mE) (aO 1 nd (bx b (ae (aa 1) ag) mE) ?_)
 rw [gX,gX]
 refine px (λn t τ=>∃ (g:Nat) (s2:Sl),Nat.gcd g n=Int.gcd x y/\t=(decide ((0:Int) < n))/\τ=[.d (.int g),.d (.int n),s2]) b ⟨_,_,_,_,rfl,rfl,rfl⟩ (λn t τ h=>?_) (λn τ h=>?_) λn τ h=>?_
 · obtain ⟨g,s2,_,rfl,rfl⟩:=h
   exact bg (aa 1) af tj
 · obtain ⟨g,s2,hg,ht,rfl⟩:=h
   have hl:n ≠ 0:=λz=>by simp [z] at ht
   have e:(g:Int).fmod n=((g % n:Nat):Int):=by rw [Int.fmod_eq_emod_of_nonneg _ (by omega)]; rfl
   refine aO 2 nd (aJ (aa 0) (aa 1) (cg (by omega))) ?_
   rw [e]
   refine aO 0 nd (aa 1) (aO 1 nd (aa 2) (ba ⟨g % n,_,Nat.mod_lt g (Nat.pos_of_ne_zero hl),n,_,?_,rfl,rfl⟩))
   rw [<- hg,Nat.gcd_comm n,<- Nat.gcd_rec,Nat.gcd_comm]
 · obtain ⟨g,s2,hg,ht,rfl⟩:=h
   have hl:n=0:=by have:=of_decide_eq_false ht.symm; omega
   refine aW (aa 0) ?_
   rw [<- hg,hl,Nat.gcd_zero_right]
theorem qW (F:Fun K "_law_made" qual (top 46) f fd) (hb:∀ x ∈ aB,mg x=none) (pyl:Pyl P base) (hk:33<=k) (c_l_divisor:Cal P w K mg base k "_law_divisor" cZ):a6 P w K mg base CX0 (k + 1) f fd ["_law_top","_law_bottom"] (spD K ff):=by
 refine fnD F kC hb (by rintro _ _ ⟨_,_,_,rfl,_⟩; rfl) ?_
 rintro _ _ ⟨t,c,q,rfl,h0,hq,rfl⟩ cdv A outer s H E b
 have nd:=kC.nd
 have dv:(Int.gcd t c:Int) ≠ 0:=dZ (by omega)
 obtain ⟨e1,e2⟩:=bI h0 hq
 refine aO 2 nd (x_call b c_l_divisor (ae (aa 0) (ae (aa 1) ag)) ⟨_,_,rfl,rfl⟩) (aW (bQ (ae (aJ (aa 0) (aa 2) (bR pyl b hk dv)) (ae (aJ (aa 1) (aa 2) (bR pyl b hk dv)) ag))) ?_)
 rw [a8,a8,<- e1,<- e2]
 rfl
theorem qK (F:Fun K "_law_cell" qual (top 43) f fd) (hb:∀ x ∈ aB,mg x=none):a6 P w K mg base CX0 (k + 1) f fd ["_law_script","_law_k"] (spD K jr):=by
 refine fnD F qE hb (by rintro _ _ ⟨_,_,rfl,_⟩; rfl) ?_
 rintro _ _ ⟨ns,n,rfl,rfl⟩ cdv A outer s H E b
 refine fT (bg (aa 1) (bx b (ae (aa 0) ag) iM) vz) (λh=>?_) λh=>?_
 · have h:=of_decide_eq_true h
   rw [List.length_map] at h
   exact aW (aL (aa 0) (aa 1) (bb (cy (by omega) (by omega)))) rfl
 · have h:=of_decide_eq_false h
   rw [List.length_map] at h
   refine aW af ?_
   show Sl.d (.int 0)=_
   rw [getD_none (by omega)]
theorem uw (F:Fun K "_law_ten" qual (top 42) f fd) (hb:∀ x ∈ aB,mg x=none):a6 P w K mg base CX0 (k + 1) f fd ["_law_many"] (spD K i5):=by
 refine fnD F mR hb (by rintro _ _ ⟨_,rfl,_⟩; rfl) ?_
 rintro _ _ ⟨n,rfl,hn,rfl⟩ cdv A outer s H E b
 have nd:=mR.nd
 refine aO 1 nd af ?_
 refine dM 2 (λi τ=>∃ s2,τ=[.d (.int n),.d (.int (10 ^ i)),s2]) b nd (fR b (aa 0) (by omega) (by omega)) fW ⟨_,rfl⟩ (λi hi τ h=>?_) λτ h=>?_
 · obtain ⟨s2,rfl⟩:=h
   refine aO 1 nd (aJ af (aa 1) (bA (mkL (by decide)))) (ba ⟨.d (.int (i:Nat)),?_⟩)
   rw [Int.pow_succ,Int.mul_comm]
   rfl
 · obtain ⟨s2,rfl⟩:=h
   refine aW (aa 1) ?_
   rw [aS,Int.toNat_natCast]
theorem oj (F:Fun K "_law_whole" qual (top 47) f fd) (hb:∀ x ∈ aB,mg x=none):a6 P w K mg base CX0 (k + 1) f fd ["_law_thing"] (spD K fI):=by
 refine fnD F nM hb (by rintro _ _ ⟨_,rfl,_⟩; rfl) ?_
 rintro _ _ ⟨x,rfl,rfl⟩ cdv A outer s H E b
 exact aW (i7 (eK .int b (aa 0)) λh=>(kH (wL (eK .bool b (aa 0))))) rfl
theorem oH (F:Fun K "_law_times" qual (top 51) f fd) (hb:∀ x ∈ aB,mg x=none) (c_l_made:Cal P w K mg base k "_law_made" ff):a6 P w K mg base CX0 (k + 1) f fd ["_law_one","_law_other"] (spD K iC):=by
 refine fnD F nP hb (by rintro _ _ ⟨_,_,_,_,rfl,_⟩; rfl) ?_
 rintro _ _ ⟨m,n,p,q,rfl,h1,h2,⟨hm,hn⟩,rfl⟩ cdv A outer s H E b
 exact aW (x_call b c_l_made (ae (aJ (aL (aa 0) af (aM (aF (i:=0) rfl))) (aL (aa 1) af (aM (aF (i:=0) rfl))) (bA (h1.num.aI h2.num hm hn))) (ae (aJ (aL (aa 0) af (aM (aF (i:=1) rfl))) (aL (aa 1) af (aM (aF (i:=1) rfl))) (bA (h1.den.aI h2.den hm hn))) ag)) ⟨_,_,_,rfl,lA (den_pos p) (den_pos q),mC p q,rfl⟩) rfl
theorem qN (F:Fun K "_law_plus" qual (top 50) f fd) (hb:∀ x ∈ aB,mg x=none) (c_l_made:Cal P w K mg base k "_law_made" ff):a6 P w K mg base CX0 (k + 1) f fd ["_law_one","_law_other"] (spD K jn):=by
 refine fnD F qB hb (by rintro _ _ ⟨_,_,_,_,rfl,_⟩; rfl) ?_
 rintro _ _ ⟨m,n,p,q,rfl,h1,h2,⟨hm,hn⟩,rfl⟩ cdv A outer s H E b
 exact aW (x_call b c_l_made (ae (aJ (aJ (aL (aa 0) af (aM (aF (i:=0) rfl))) (aL (aa 1) af (aM (aF (i:=1) rfl))) (bA (h1.num.aI h2.den hm hn))) (aJ (aL (aa 1) af (aM (aF (i:=0) rfl))) (aL (aa 0) af (aM (aF (i:=1) rfl))) (bA (h2.num.aI h1.den hn hm))) bC) (ae (aJ (aL (aa 0) af (aM (aF (i:=1) rfl))) (aL (aa 1) af (aM (aF (i:=1) rfl))) (bA (h1.den.aI h2.den hm hn))) ag)) ⟨_,_,_,rfl,lA (den_pos p) (den_pos q),sF p q,rfl⟩) rfl
end
noncomputable def jM (T R C:Nat) (ss:List Stp):D:=.tup [.int T,.int R,.int C,.lst (ss.map stD)]
structure okL (T R C:Nat) (ss:List Stp):Prop where
 t1:1<=T
 t7:T<=7
 r1:1<=R
 rT:R<=T
 c1:1<=C
 cT:C<=T
 len:ss.length<=400
 st:∀ i,i < ss.length->okS T (ss.getD i ("weigh",0,0))
theorem BA {ss:List Stp} (i:Nat) (h:i < (ss.map stD).length):(ss.map stD)[i]=stD (ss.getD i ("weigh",0,0)):=by
 have:i < ss.length:=by simpa using h
 simp [this]
noncomputable def wgT (p:Int) (g:Nat):Int:=if 0 < g then p.fmod (10 ^ g) else p.fmod 7
noncomputable def wgB (p:Int) (g:Nat):Int:=if 0 < g then 1 + (p.fdiv (10 ^ g)).fmod (10 ^ g - 1) else 1 + (p.fdiv 7).fmod 4
noncomputable def wgt (p:Int) (g:Nat):Rat:=(wgT p g:Rat) / (wgB p g:Rat)
noncomputable def gn (ds:List D) (r:Sl):Prop:=∃ (p:Int) (g:Nat),ds=[.int p,.int g]/\g<=40/\r=.d (frD (wgt p g))
theorem fm {a b:Int} (h:0 < b):0<=a.fmod b/\a.fmod b < b:=⟨Int.fmod_nonneg_of_pos a h,Int.fmod_lt_of_pos a h⟩
theorem tH {g:Nat} (h:g<=40):(10:Int) ^ g < 2 ^ 140:=by
 have h1:(10:Nat) ^ g<=10 ^ 40:=Nat.pow_le_pow_right (by decide) h
 have h2:(10:Nat) ^ 40 < 2 ^ 140:=by decide
 have:((10 ^ g:Nat):Int) < ((2 ^ 140:Nat):Int):=Int.ofNat_lt.mpr (Nat.lt_of_le_of_lt h1 h2)
 simpa using this
theorem pV {g:Nat} (h:0 < g):(10:Int)<=10 ^ g:=by
 have h1:(10:Nat) ^ 1<=10 ^ g:=Nat.pow_le_pow_right (by decide) h
 have:((10 ^ 1:Nat):Int)<=((10 ^ g:Nat):Int):=Int.ofNat_le.mpr h1
 simpa using this
theorem mV {x:Int} (h0:0<=x) (h:x < 2 ^ 140):Bd 140 x:=by
 unfold Bd
 have:(x.natAbs:Int) < ((2 ^ 140:Nat):Int):=by rw [Int.natAbs_of_nonneg h0]; simpa using h
 exact Int.ofNat_lt.mp this
theorem mP (p:Int) {g:Nat} (h:g<=40):0<=wgT p g/\Bd 140 (wgT p g)/\0 < wgB p g/\Bd 140 (wgB p g):=by
 unfold wgT wgB
 by_cases h0:0 < g
 · have h1:=tH h
   have h2:=pV h0
   have f1:=fm (a:=p) (b:=10 ^ g) (by omega)
   have f2:=fm (a:=p.fdiv (10 ^ g)) (b:=10 ^ g - 1) (by omega)
   rw [if_pos h0,if_pos h0]
   exact ⟨f1.1,mV f1.1 (by omega),by omega,mV (by omega) (by omega)⟩
 · have f1:=fm (a:=p) (b:=7) (by decide)
   have f2:=fm (a:=p.fdiv 7) (b:=4) (by decide)
   rw [if_neg h0,if_neg h0]
   exact ⟨f1.1,mV f1.1 (by omega),by omega,mV (by omega) (by omega)⟩
theorem gU (p:Int) {g:Nat} (h:g<=40):(wgT p g:Rat)=wgt p g * (wgB p g:Rat):=(Rat.div_mul_cancel (xM (mP p h).2.2.1)).symm
theorem nQ (p:Int) {g:Nat} (h:g<=40):0<=(wgt p g).num/\Sq 140 (wgt p g):=by
 obtain ⟨h1,h2,h3,h4⟩:=mP p h
 refine ⟨?_,Sq.bI h3 (gU p h) h2 h4⟩
 rw [(bI h3 (gU p h)).1]
 exact Int.ediv_nonneg h1 (Int.natCast_nonneg _)
noncomputable def szP (m:Nat) (c:Int):List Int:=nums c [8,4,7,7,7,(m:Int) + 1]
noncomputable def szT (m:Nat) (c:Int):Int:=if (szP m c).getD 0 0=1 then 1 + (szP m c).getD 2 0 else 1 + (szP m c).getD 1 0
noncomputable def szR (m:Nat) (c:Int):Int:=1 + ((szP m c).getD 3 0).fmod (szT m c)
noncomputable def szC (m:Nat) (c:Int):Int:=1 + ((szP m c).getD 4 0).fmod (szT m c)
theorem uu (m:Nat) (c:Int):1<=szT m c/\szT m c<=7/\1<=szR m c/\szR m c<=szT m c/\1<=szC m c/\szC m c<=szT m c/\0<=(szP m c).getD 5 0/\(szP m c).getD 5 0<=m:=by
 have hp:∀ b ∈ ([8,4,7,7,7,(m:Int) + 1]:List Int),0 < b:=by intro b hb; simp at hb; omega
 have h1:=iV (c:=c) hp (i:=1) (by simp)
 have h2:=iV (c:=c) hp (i:=2) (by simp)
 have h5:=iV (c:=c) hp (i:=5) (by simp)
 have e1:([8,4,7,7,7,(m:Int) + 1]:List Int).getD 1 0=4:=rfl
 have e2:([8,4,7,7,7,(m:Int) + 1]:List Int).getD 2 0=7:=rfl
 have e5:([8,4,7,7,7,(m:Int) + 1]:List Int).getD 5 0=(m:Int) + 1:=rfl
 rw [e1] at h1
 rw [e2] at h2
 rw [e5] at h5
 have hT:1<=szT m c/\szT m c<=7:=by
   unfold szT szP
   split <;> omega
 have hR:=fm (a:=(szP m c).getD 3 0) (b:=szT m c) (by omega)
 have hC:=fm (a:=(szP m c).getD 4 0) (b:=szT m c) (by omega)
 have h5':0<=(szP m c).getD 5 0/\(szP m c).getD 5 0 < (m:Int) + 1:=h5
 unfold szR szC
 omega
noncomputable def hU (ds:List D) (r:Sl):Prop:=∃ (m:Nat) (c:Int),ds=[.int c,.int m]/\m<=100/\r=.d (.tup [.int (szT m c),.int (szR m c),.int (szC m c),.int ((szP m c).getD 5 0)])
noncomputable def wrd (i:Int):Str:=if i=0 then "down" else if i=1 then "up" else "weigh"
theorem yR {i:Int} (h0:0<=i) (h:i < 3):atI [D.str "down",D.str "up",D.str "weigh"] i=some (.str (wrd i)):=by
 obtain ⟨n,rfl⟩:=Int.eq_ofNat_of_zero_le h0
 rcases (by omega:n=0\/n=1\/n=2) with rfl | rfl | rfl <;> rfl
theorem iY {α:Type} (a b c:α):∀ n,(List.replicate n [a,b,c]).flatten.length=3 * n
 | 0=>rfl
 | n + 1=>by rw [List.replicate_succ,List.flatten_cons,List.length_append,iY a b c n]; simp; omega
theorem qt {a b c:Int} {n:Nat} {x:Int} (h:x ∈ (List.replicate n [a,b,c]).flatten):x=a\/x=b\/x=c:=by
 obtain ⟨l,h1,h2⟩:=List.mem_flatten.mp h
 rw [(List.mem_replicate.mp h1).2] at h2
 simpa using h2
theorem rG {a b c:Int}:∀ (n k:Nat),k < n->(List.replicate n [a,b,c]).flatten.getD (3 * k) 0=a/\(List.replicate n [a,b,c]).flatten.getD (3 * k + 1) 0=b/\(List.replicate n [a,b,c]).flatten.getD (3 * k + 2) 0=c
 | n + 1,0,_=>by rw [List.replicate_succ,List.flatten_cons]; exact ⟨rfl,rfl,rfl⟩
 | n + 1,k + 1,h=>by
   have:=rG (a:=a) (b:=b) (c:=c) n k (by omega)
   rw [List.replicate_succ,List.flatten_cons]
   exact this
theorem uV (a b c:Int) (n:Nat):(List.replicate n [D.int a,D.int b,D.int c]).flatten=((List.replicate n [a,b,c]).flatten).map .int:=by
 rw [List.map_flatten,List.map_replicate]; rfl
noncomputable def adB (g:Nat):Int:=10 ^ (2 * (if (g:Int) > 1 then (g:Int) else 1).toNat) * 28
noncomputable def adP (c:Int) (n g:Nat):List Int:=nums c (List.replicate n [3,7,adB g]).flatten
noncomputable def adW (ps:List Int) (T k:Nat):Str:=if wrd (ps.getD (3 * k) 0) ≠ "weigh" /\ T=1 then "weigh" else wrd (ps.getD (3 * k) 0)
noncomputable def adA (ps:List Int) (T k:Nat):Int:=if adW ps T k = "weigh" then (ps.getD (3 * k + 1) 0).fmod T else (ps.getD (3 * k + 1) 0).fmod ((T:Int) - 1)
noncomputable def adS (ps:List Int) (T g k:Nat):Stp:=(adW ps T k,(adA ps T k).toNat,wgt (ps.getD (3 * k + 2) 0) g)
theorem wj {g:Nat} (h:g<=40):0 < adB g/\aN (adB g):=by
 unfold adB
 have hk:(2 * (if (g:Int) > 1 then (g:Int) else 1).toNat)<=80:=by split <;> omega
 generalize (2 * (if (g:Int) > 1 then (g:Int) else 1).toNat)=k at hk
 have h1:(10:Nat) ^ k<=10 ^ 80:=Nat.pow_le_pow_right (by decide) hk
 have h2:0 < (10:Nat) ^ k:=Nat.pow_pos (by decide)
 have e:(10:Int) ^ k * 28=((10 ^ k * 28:Nat):Int):=by simp
 rw [e]
 have h3:Bd 300 ((10 ^ k * 28:Nat):Int):=by
   unfold Bd
   rw [Int.natAbs_natCast]
   exact Nat.lt_of_le_of_lt (Nat.mul_le_mul_right 28 h1) (by decide)
 exact ⟨by omega,h3.aN (by omega) (by decide)⟩
theorem AA {c:Int} {n g k:Nat} (h:g<=40) (hk:k < n):0<=(adP c n g).getD (3 * k) 0/\(adP c n g).getD (3 * k) 0 < 3:=by
 have hp:∀ b ∈ (List.replicate n [3,7,adB g]).flatten,0 < b:=λb hb=>by
   have:=wj h
   rcases qt hb with rfl | rfl | rfl <;> omega
 have:=iV (c:=c) hp (i:=3 * k) (by rw [iY]; omega)
 rw [(rG n k hk).1] at this
 exact this
theorem uB {ps:List Int} {T k:Nat} (hT:1<=T):0<=adA ps T k/\(adW ps T k = "weigh" -> adA ps T k < T)/\(adW ps T k ≠ "weigh" -> 2<=T/\adA ps T k + 1 < T):=by
 unfold adA
 split
 · rename_i h
   have:=fm (a:=ps.getD (3 * k + 1) 0) (b:=T) (by omega)
   exact ⟨this.1,λ_=>this.2,λz=>absurd h z⟩
 · rename_i h
   have hT1:T ≠ 1:=λz=>h (by
     unfold adW
     split
     · rfl
     · rename_i y
       exact Decidable.byContradiction λx=>y ⟨x,z⟩)
   have:=fm (a:=ps.getD (3 * k + 1) 0) (b:=(T:Int) - 1) (by omega)
   exact ⟨this.1,λz=>absurd z h,λ_=>by omega⟩
theorem xy (i:Int):wrd i = "weigh" \/ wrd i = "down" \/ wrd i = "up":=by
 unfold wrd
 split
 · exact .inr (.inl rfl)
 · split
   · exact .inr (.inr rfl)
   · exact .inl rfl
theorem nY {ps:List Int} {T g k:Nat} (hT:1<=T) (hg:g<=40):okS T (adS ps T g k)/\Sq 140 (adS ps T g k).2.2:=by
 obtain ⟨h1,h2,h3⟩:=uB (ps:=ps) (k:=k) hT
 have hw:=nQ (ps.getD (3 * k + 2) 0) hg
 refine ⟨⟨hw.1,?_⟩,hw.2⟩
 by_cases e:adW ps T k = "weigh"
 · exact .inl ⟨e,by have:=h2 e; show (adA ps T k).toNat < T; omega⟩
 · refine .inr ⟨?_,by have:=h3 e; show (adA ps T k).toNat + 1 < T; omega⟩
   show adW ps T k = "down" \/ adW ps T k = "up"
   unfold adW at e ⊢
   split at e
   · exact absurd rfl e
   · rename_i y
     rw [if_neg y]
     exact (xy _).resolve_left e
noncomputable def eg (ds:List D) (r:Sl):Prop:=∃ (c:Int) (T R C n g:Nat),ds=[.int c,.int T,.int R,.int C,.int n,.int g]/\1<=T/\n<=30/\g<=40/\r=.d (jM T R C ((List.range n).map (adS (adP c n g) T g)))
theorem cV {α:Type} (f:Nat->α) {n i:Nat} (h:i < n) (d:α):((List.range n).map f).getD i d=f i:=by simp [h]
noncomputable def drT (m:Nat) (c:Int):Nat:=(szT m c).toNat
noncomputable def drR (m:Nat) (c:Int):Nat:=(szR m c).toNat
noncomputable def drC (m:Nat) (c:Int):Nat:=(szC m c).toNat
noncomputable def drS (m:Nat) (c o:Int) (g:Nat):List Stp:=(List.range ((szP m c).getD 5 0).toNat).map (adS (adP o ((szP m c).getD 5 0).toNat g) (drT m c) g)
noncomputable def iw (ds:List D) (r:Sl):Prop:=∃ (m:Nat) (c o:Int) (g:Nat),ds=[.int c,.int o,.int m,.int g]/\g<=40/\m<=30/\r=.d (jM (drT m c) (drR m c) (drC m c) (drS m c o g))
theorem Az {m:Nat} (c o:Int) {g:Nat} (hg:g<=40) (hm:m<=30):okL (drT m c) (drR m c) (drC m c) (drS m c o g)/\(∀ i,i < (drS m c o g).length->Sq 140 ((drS m c o g).getD i ("weigh",0,0)).2.2)/\(drS m c o g).length<=m:=by
 obtain ⟨h1,h2,h3,h4,h5,h6,h7,h8⟩:=uu m c
 have hl:(drS m c o g).length=((szP m c).getD 5 0).toNat:=by simp [drS]
 have ha:∀ i,i < (drS m c o g).length->(drS m c o g).getD i ("weigh",0,0)=adS (adP o ((szP m c).getD 5 0).toNat g) (drT m c) g i:=λi hi=>by
   rw [hl] at hi
   exact cV _ hi _
 have hT:1<=drT m c:=by unfold drT; omega
 refine ⟨⟨hT,?_,?_,?_,?_,?_,?_,λi hi=>?_⟩,λi hi=>?_,by omega⟩
 · unfold drT; omega
 · unfold drR; omega
 · unfold drT drR; omega
 · unfold drC; omega
 · unfold drT drC; omega
 · omega
 · rw [ha i hi]; exact (nY hT hg).1
 · rw [ha i hi]; exact (nY hT hg).2
section
variable {P:Program} {w:World} {K:PySem.W.Frag} {mg:Str->Option Value} {base:Heap} {k:Nat} {f:Addr} {fd:FuncData} {qual:Str}
theorem mZ (F:Fun K "_law_weight" qual (top 48) f fd) (hb:∀ x ∈ aB,mg x=none) (c_l_made:Cal P w K mg base k "_law_made" ff) (c_l_ten:Cal P w K mg base k "_law_ten" i5):a6 P w K mg base CX0 (k + 1) f fd ["_law_part","_law_figures"] (spD K gn):=by
 refine fnD F iO hb (by rintro _ _ ⟨_,_,rfl,_⟩; rfl) ?_
 rintro _ _ ⟨p,g,rfl,hg,rfl⟩ cdv A outer s H E b
 have nd:=iO.nd
 obtain ⟨h1,h2,h3,h4⟩:=mP p hg
 have hm:=gU p hg
 refine fT (bg (aa 1) af tj) (λh=>?_) λh=>?_
 · have h0:0 < g:=by have:=of_decide_eq_true h; omega
   have t2:=pV h0
   have eT:wgT p g=p.fmod (10 ^ g):=if_pos h0
   have eB:wgB p g=1 + (p.fdiv (10 ^ g)).fmod (10 ^ g - 1):=if_pos h0
   have dv:aN ((10:Int) ^ g):=(mV (by omega) (tH hg)).aN (by omega) (by decide)
   refine aO 2 nd (x_call b c_l_ten (ae (aa 1) ag) ⟨g,rfl,by omega,rfl⟩) ?_
   exact aW (x_call b c_l_made (ae (aJ (aa 0) (aa 2) (cg (by omega))) (ae (aJ af (aJ (aJ (aa 0) (aa 2) (ft dv)) (aJ (aa 2) af cE) (cg (by omega))) bC) ag)) ⟨wgT p g,wgB p g,wgt p g,by rw [eT,eB],h3,hm,rfl⟩) rfl
 · have h0:g=0:=by have:=of_decide_eq_false h; omega
   subst h0
   exact aW (x_call b c_l_made (ae (aJ (aa 0) af (cg (by decide))) (ae (aJ af (aJ (aJ (aa 0) af (ft (mkD (by decide) (by decide)))) af (cg (by decide))) bC) ag)) ⟨wgT p 0,wgB p 0,wgt p 0,rfl,h3,hm,rfl⟩) rfl
theorem nF (F:Fun K "_law_sizes" qual (top 53) f fd) (hb:∀ x ∈ aB,mg x=none) (c_l_numbers:Cal P w K mg base k "_law_numbers" c8):a6 P w K mg base CX0 (k + 1) f fd ["_law_cell_here","_law_most"] (spD K hU):=by
 refine fnD F i9 hb (by rintro _ _ ⟨_,_,rfl,_⟩; rfl) ?_
 rintro _ _ ⟨m,c,rfl,hm,rfl⟩ cdv A outer s H E b
 have nd:=i9.nd
 have hok:=uu m c
 have hl:(szP m c).length=6:=mI ..
 refine aO 2 nd (x_call b c_l_numbers (ae (aa 0) (ae (bJ (cD (ae af (ae af (ae af (ae af (ae af (ae (aJ (aa 1) af bC) ag)))))))) ag)) ⟨c,[8,4,7,7,7,(m:Int) + 1],rfl,by simp,λb hb=>w8 (by simp at hb; omega) (by simp at hb; omega),rfl⟩) (iD 2 ?_)
 refine aO 3 nd (aJ af (aL (aa 2) af (bb (cy (ns:=szP m c) (i:=1) (by decide) (by rw [hl]; decide)))) bC) ?_
 refine lx (M:=λτ=>τ=[.d (.int c),.d (.int m),.d (.lst ((szP m c).map .int)),.d (.int (szT m c))]) (bg (aL (aa 2) af (bb (cy (ns:=szP m c) (i:=0) (by decide) (by rw [hl]; decide)))) af lW) (λh=>?_) (λh=>?_) ?_
 · refine aO 3 nd (aJ af (aL (aa 2) af (bb (cy (ns:=szP m c) (i:=2) (by decide) (by rw [hl]; decide)))) bC) (ba ?_)
   unfold szT
   rw [if_pos (show (szP m c).getD 0 0=1 from of_decide_eq_true h)]
   rfl
 · refine ba ?_
   unfold szT
   rw [if_neg (show ¬ (szP m c).getD 0 0=1 from of_decide_eq_false h)]
   rfl
 · rintro _ rfl
   exact aW (bQ (ae (aa 3) (ae (aJ af (aJ (aL (aa 2) af (bb (cy (ns:=szP m c) (i:=3) (by decide) (by rw [hl]; decide)))) (aa 3) (cg (by omega))) bC) (ae (aJ af (aJ (aL (aa 2) af (bb (cy (ns:=szP m c) (i:=4) (by decide) (by rw [hl]; decide)))) (aa 3) (cg (by omega))) bC) (ae (aL (aa 2) af (bb (cy (ns:=szP m c) (i:=5) (by decide) (by rw [hl]; decide)))) ag))))) rfl
theorem mQ (F:Fun K "_law_ladder" qual (top 49) f fd) (hb:∀ x ∈ aB,mg x=none) (c_l_numbers:Cal P w K mg base k "_law_numbers" c8) (c_l_weight:Cal P w K mg base k "_law_weight" gn) (c_l_ten:Cal P w K mg base k "_law_ten" i5):a6 P w K mg base CX0 (k + 1) f fd ["_law_cell_here","_law_tracks","_law_rows","_law_columns","_law_many","_law_figures"] (spD K eg):=by
 refine fnD F iP hb (by rintro _ _ ⟨_,_,_,_,_,_,rfl,_⟩; rfl) ?_
 rintro _ _ ⟨c,T,R,C,n,g,rfl,hT,hn,hg,rfl⟩ cdv A outer s H E b
 have nd:=iP.nd
 have hmx:0<=(if (g:Int) > 1 then (g:Int) else 1)/\(if (g:Int) > 1 then (g:Int) else 1)<=40:=by split <;> omega
 have hB:=wj hg
 have hlen:(adP c n g).length=3 * n:=by unfold adP; rw [mI,iY]
 refine aO 6 nd (x_call b c_l_numbers (ae (aa 0) (ae (bJ (si (bJ (cD (ae af (ae af (ae (aJ (x_call b c_l_ten (ae (aJ af (bx b (ae af (ae (aa 5) ag)) (rq b.calm)) (bA (mkL (by decide)))) ag) ⟨2 * (if (g:Int) > 1 then (g:Int) else 1).toNat,?_,by omega,rfl⟩) af (bA (mkR (by decide)))) ag))))) (aa 4) (by omega) (by omega) ?_)) ag)) ⟨c,(List.replicate n [3,7,adB g]).flatten,?_,?_,?_,rfl⟩) ?_
 · congr 2; omega
 · simp; omega
 · rw [Int.toNat_natCast,<- uV]; rfl
 · rw [iY]; omega
 · intro x hx
   rcases qt hx with rfl | rfl | rfl
   · exact w8 (by decide) (by decide)
   · exact w8 (by decide) (by decide)
   · exact hB
 refine iD 6 ?_
 refine aO 7 nd (cD ag) ?_
 refine dM 8 (λi τ=>∃ s8 s9 s10,τ=[.d (.int c),.d (.int T),.d (.int R),.d (.int C),.d (.int n),.d (.int g),.d (.lst ((adP c n g).map .int)),.o (((List.range i).map (adS (adP c n g) T g)).map stD),s8,s9,s10]) b nd (fR b (aa 4) (by omega) (by omega)) fW ⟨_,_,_,rfl⟩ (λi hi τ h=>?_) λτ h=>?_
 · obtain ⟨s8,s9,s10,rfl⟩:=h
   have hi:i < n:=by rw [aS] at hi; omega
   have lt3:=AA (c:=c) hg hi
   have e0:(3 * (i:Int)).toNat=3 * i:=by omega
   have e1:(3 * (i:Int) + 1).toNat=3 * i + 1:=by omega
   have e2:(3 * (i:Int) + 2).toNat=3 * i + 2:=by omega
   have k0:atI ((adP c n g).map D.int) (3 * (i:Int))=some (.int ((adP c n g).getD (3 * i) 0)):=by rw [<- e0]; exact cy (by omega) (by omega)
   have k1:atI ((adP c n g).map D.int) (3 * (i:Int) + 1)=some (.int ((adP c n g).getD (3 * i + 1) 0)):=by rw [<- e1]; exact cy (by omega) (by omega)
   have k2:atI ((adP c n g).map D.int) (3 * (i:Int) + 2)=some (.int ((adP c n g).getD (3 * i + 2) 0)):=by rw [<- e2]; exact cy (by omega) (by omega)
   obtain ⟨a1,a2,a3⟩:=uB (ps:=adP c n g) (k:=i) hT
   refine aO 9 nd (aL (bJ (cD (ae bL (ae bL (ae bL ag))))) (aL (aa 6) (aJ af (aa 8) (bA (mkL (by decide)))) (bb k0)) (bb (yR lt3.1 lt3.2))) ?_
   refine aO 10 nd (aJ (aL (aa 6) (aJ (aJ af (aa 8) (bA (mkL (by decide)))) af bC) (bb k1)) (aa 1) (cg (by omega))) ?_
   refine lx (M:=λτ=>τ=[.d (.int c),.d (.int T),.d (.int R),.d (.int C),.d (.int n),.d (.int g),.d (.lst ((adP c n g).map .int)),.o (((List.range i).map (adS (adP c n g) T g)).map stD),.d (.int i),.d (.str (adW (adP c n g) T i)),.d (.int (((adP c n g).getD (3 * i + 1) 0).fmod T))]) (PW.pt (Aw (bg (aa 9) bL oN) λh=>(xw (bg (aa 1) af lW)))) (λh=>?_) (λh=>?_) ?_
   · refine aO 9 nd bL (ba ?_)
     have:wrd ((adP c n g).getD (3 * i) 0) ≠ "weigh" /\ T=1:=by
       simp only [Bool.and_eq_true,Bool.not_eq_true',decide_eq_true_eq,decide_eq_false_iff_not] at h
       exact ⟨h.1,by omega⟩
     unfold adW
     rw [if_pos this]
     rfl
   · refine ba ?_
     have:¬ (wrd ((adP c n g).getD (3 * i) 0) ≠ "weigh" /\ T=1):=λ⟨z1,z2⟩=>by
       rw [decide_eq_false z1,decide_eq_true (show (T:Int)=1 by omega)] at h
       cases h
     unfold adW
     rw [if_neg this]
     rfl
   · rintro _ rfl
     refine lx (M:=λτ=>τ=[.d (.int c),.d (.int T),.d (.int R),.d (.int C),.d (.int n),.d (.int g),.d (.lst ((adP c n g).map .int)),.o (((List.range i).map (adS (adP c n g) T g)).map stD),.d (.int i),.d (.str (adW (adP c n g) T i)),.d (.int (adA (adP c n g) T i))]) (bg (aa 9) bL oN) (λh=>?_) (λh=>?_) ?_
     · have h:adW (adP c n g) T i ≠ "weigh":=by simpa using h
       have:=a3 h
       refine aO 10 nd (aJ (aL (aa 6) (aJ (aJ af (aa 8) (bA (mkL (by decide)))) af bC) (bb k1)) (aJ (aa 1) af cE) (cg (by omega))) (ba ?_)
       unfold adA
       rw [if_neg h]
       rfl
     · have h:adW (adP c n g) T i = "weigh":=by simpa using h
       refine ba ?_
       unfold adA
       rw [if_pos h]
     · rintro _ rfl
       refine uK 7 (bQ (ae (aa 9) (ae (aa 10) (ae (x_call b c_l_weight (ae (aL (aa 6) (aJ (aJ af (aa 8) (bA (mkL (by decide)))) af bC) (bb k2)) (ae (aa 5) ag)) ⟨_,g,rfl,hg,rfl⟩) ag)))) ?_ (ba ⟨.d (.int i),.d (.str (adW (adP c n g) T i)),.d (.int (adA (adP c n g) T i)),?_⟩)
       · rw [List.length_map,List.length_map,List.length_range]; omega
       · rw [List.range_succ,List.map_append,List.map_append]
         have:((adA (adP c n g) T i).toNat:Int)=adA (adP c n g) T i:=Int.toNat_of_nonneg a1
         show _=[_,_,_,_,_,_,_,Sl.o (_++[D.tup [.str _,.int ((adA (adP c n g) T i).toNat:Int),frD _]]),_,_,_]
         rw [this]
         rfl
 · obtain ⟨s8,s9,s10,rfl⟩:=h
   rw [aS,Int.toNat_natCast]
   exact aW (bQ (ae (aa 1) (ae (aa 2) (ae (aa 3) (ae (sG 7) ag))))) rfl
theorem nL (F:Fun K "_law_drawn" qual (top 54) f fd) (hb:∀ x ∈ aB,mg x=none) (c_l_sizes:Cal P w K mg base k "_law_sizes" hU) (c_l_ladder:Cal P w K mg base k "_law_ladder" eg):a6 P w K mg base CX0 (k + 1) f fd ["_law_one","_law_other","_law_most","_law_figures"] (spD K iw):=by
 refine fnD F jN hb (by rintro _ _ ⟨_,_,_,_,rfl,_⟩; rfl) ?_
 rintro _ _ ⟨m,c,o,g,rfl,hg,hm,rfl⟩ cdv A outer s H E b
 have nd:=jN.nd
 obtain ⟨h1,h2,h3,h4,h5,h6,h7,h8⟩:=uu m c
 refine aO 4 nd (x_call b c_l_sizes (ae (aa 0) (ae (aa 2) ag)) ⟨m,c,rfl,by omega,rfl⟩) ?_
 refine aW (x_call b c_l_ladder (ae (aa 1) (ae (aL (aa 4) af (aM (aF (i:=0) rfl))) (ae (aL (aa 4) af (aM (aF (i:=1) rfl))) (ae (aL (aa 4) af (aM (aF (i:=2) rfl))) (ae (aL (aa 4) af (aM (aF (i:=3) rfl))) (ae (aa 3) ag)))))) ⟨o,drT m c,drR m c,drC m c,((szP m c).getD 5 0).toNat,g,?_,?_,?_,hg,rfl⟩) rfl
 · unfold drT drR drC
   rw [Int.toNat_of_nonneg (by omega),Int.toNat_of_nonneg (by omega),Int.toNat_of_nonneg (by omega),Int.toNat_of_nonneg (by omega)]
 · unfold drT; omega
 · omega
end
theorem zS {T:Nat} {st:Stp} (h:okS T st) (h0:st.1 ≠ "weigh"):rgS st < T/\rgE st < T/\rgS st ≠ rgE st:=by
 obtain ⟨_,h | h⟩:=h
 · exact absurd h.1 h0
 · have:=h.2
   unfold rgS rgE
   split <;> omega
theorem Bn {a b:Int} (h:0 < a * b) (ha:0 < a):0 < b:=by
 rcases Int.lt_or_le 0 b with z | z
 · exact z
 · have:=Int.mul_le_mul_of_nonneg_left z (Int.le_of_lt ha)
   rw [Int.mul_zero] at this
   omega
noncomputable def Zq (P:Int) (n:Nat) (v:Rat):Prop:=∃ z:Int,0<=z/\z<=2 ^ n/\(z:Rat)=v * (P:Rat)
structure Wq (e:Nat) (q:Rat):Prop where
 n0:0<=q.num
 sq:Sq e q
theorem p2 (m n:Nat):(2:Int) ^ (m + n)=2 ^ m * 2 ^ n:=Int.pow_add ..
theorem p0 (n:Nat):(0:Int)<=2 ^ n:=by
 have e:((2 ^ n:Nat):Int)=(2:Int) ^ n:=Int.natCast_pow ..
 rw [<- e]
 exact Int.natCast_nonneg _
theorem bd2 {n:Nat} {i:Int} (h:Bd n i):i<=2 ^ n:=by
 have h:i.natAbs < 2 ^ n:=h
 have e:((2 ^ n:Nat):Int)=(2:Int) ^ n:=Int.natCast_pow ..
 omega
theorem Zq.mul {P:Int} {n e:Nat} {v q:Rat} (h:Zq P n v) (g:Wq e q):Zq (P * ((q.den:Nat):Int)) (n + e) (q * v):=by
 obtain ⟨z,h0,h1,h2⟩:=h
 refine ⟨z * q.num,Int.mul_nonneg h0 g.n0,?_,?_⟩
 · rw [p2]; exact Int.mul_le_mul h1 (bd2 g.sq.num) g.n0 (p0 n)
 · have:=cH q
   rw [Rat.intCast_mul,Rat.intCast_mul]; grind
theorem Zq.up {P:Int} {n e:Nat} {v q:Rat} (h:Zq P n v) (g:Wq e q):Zq (P * ((q.den:Nat):Int)) (n + e) v:=by
 obtain ⟨z,h0,h1,h2⟩:=h
 have:=den_pos q
 refine ⟨z * ((q.den:Nat):Int),Int.mul_nonneg h0 (by omega),?_,?_⟩
 · rw [p2]; exact Int.mul_le_mul h1 (bd2 g.sq.den) (by omega) (p0 n)
 · rw [Rat.intCast_mul,Rat.intCast_mul]; grind
theorem Zq.add {P:Int} {n:Nat} {v w:Rat} (h:Zq P n v) (g:Zq P n w):Zq P (n + 1) (v + w):=by
 obtain ⟨z,h0,h1,h2⟩:=h
 obtain ⟨y,g0,g1,g2⟩:=g
 refine ⟨z + y,by omega,by rw [p2]; omega,?_⟩
 rw [Rat.intCast_add]; grind
theorem Zq.mono {P:Int} {m n:Nat} {v:Rat} (h:Zq P m v) (g:m<=n):Zq P n v:=by
 obtain ⟨z,h0,h1,h2⟩:=h
 refine ⟨z,h0,Int.le_trans h1 ?_,h2⟩
 exact_mod_cast Nat.pow_le_pow_right (n:=2) (by decide) g
theorem tQ {n:Nat} {i:Int} (h0:0<=i) (h:i<=2 ^ n):Bd (n + 1) i:=by
 unfold Bd
 have e:((2 ^ n:Nat):Int)=(2:Int) ^ n:=Int.natCast_pow ..
 have:=Nat.pow_succ (n:=2) (m:=n)
 have:=Nat.two_pow_pos n
 omega
theorem Zq.sq {P:Int} {m n:Nat} {v:Rat} (h:Zq P n v) (hP:0 < P) (g:P<=2 ^ m) (hm:m<=n):Sq (n + 1) v:=by
 obtain ⟨z,h0,h1,h2⟩:=h
 exact Sq.bI hP h2 (tQ h0 h1) ((tQ (by omega) g).mono (by omega))
noncomputable def cx (C T:Nat) (L:Nat->Nat->Rat):List D:=(List.range T).map λk=>.lst (((List.range C).map (L k)).map frD)
theorem lq {C T n:Nat} {L:Nat->Nat->Rat} {r:Nat->Rat} (h:n < T):(cx C T L).set n (.lst (((List.range C).map r).map frD))=cx C T (eL L n r):=by
 refine List.ext_getElem (by simp [cx]) λk h1 h2=>?_
 have hk:k < T:=by simpa [cx] using h2
 rw [List.getElem_set]
 unfold cx eL
 by_cases e:n=k
 · subst e; simp
 · rw [if_neg e]; simp [Ne.symm e]
theorem jt {C T n:Nat} {L:Nat->Nat->Rat} (h:n < T):atI (cx C T L) (n:Int)=some (.lst (((List.range C).map (L n)).map frD)):=aF (by simp [cx,h])
theorem vH {C T R:Nat} {L:Nat->Nat->Rat} (h:R<=T):cutD (cx C T L) none (some (R:Int))=cx C R L:=by
 rw [sW]
 unfold cx
 rw [<- List.map_take,List.take_range,Nat.min_eq_left h]
section
variable {P:Program} {w:World} {K:PySem.W.Frag} {mg:Str->Option Value} {base:Heap} {k:Nat} {f:Addr} {fd:FuncData} {qual:Str}
end
theorem wU {t u:List Rat} (i:Nat) (h:i < (fN (t.map frD) (u.map frD)).length):(fN (t.map frD) (u.map frD))[i]=.tup [frD (t.getD i 0),frD (u.getD i 0)]:=by
 rw [kO]
 rw [bO,List.length_map,List.length_map] at h
 simp [show i < t.length by omega,show i < u.length by omega]
structure BkJ (T C S t:Nat) (P:Int) (L:Nat->Nat->Rat):Prop where
 pos:0 < P
 le:P<=2 ^ S
 zq:∀ k,k < T->∀ j,j < C->Zq P (S + t) (L k j)
theorem BkJ.start {T C:Nat}:BkJ T C 0 0 1 V0:=⟨by decide,by simp,λk hk j hj=>by
 unfold V0
 split
 · exact ⟨1,by decide,by simp,(Rat.one_mul _).symm⟩
 · exact ⟨0,by decide,by simp,(Rat.zero_mul _).symm⟩⟩
theorem BkJ.put {e T C S t n:Nat} {P:Int} {L:Nat->Nat->Rat} {q:Rat} (h:BkJ T C S t P L) (g:Wq e q) {r:Nat->Rat} (hz:∀ j,j < C->Zq (P * ((q.den:Nat):Int)) (S + e + (t + 1)) (r j)):BkJ T C (S + e) (t + 1) (P * ((q.den:Nat):Int)) (eL L n r):=by
 refine ⟨Int.mul_pos h.pos (den_pos q),?_,λk hk j hj=>?_⟩
 · rw [p2]
   exact Int.mul_le_mul h.le (bd2 g.sq.den) (by have:=den_pos q; omega) (p0 _)
 · unfold eL
   split
   · exact hz j hj
   · exact ((h.zq k hk j hj).up g).mono (by omega)
theorem BkJ.sq {T C S t:Nat} {P:Int} {L:Nat->Nat->Rat} (h:BkJ T C S t P L) {k j:Nat} (hk:k < T) (hj:j < C):Sq (S + t + 1) (L k j):=(h.zq k hk j hj).sq h.pos h.le (by omega)
theorem BkJ.step {e T C S t:Nat} {P:Int} {L:Nat->Nat->Rat} {st:Stp} (h:BkJ T C S t P L) (g:Wq e st.2.2) (ok:okS T st):BkJ T C (S + e) (t + 1) (P * ((st.2.2.den:Nat):Int)) (bkV L st):=by
 unfold bkV
 by_cases e0:st.1 = "weigh"
 · rw [if_pos e0]
   have hn:st.2.1 < T:=by
     rcases ok.2 with z | z
     · exact z.2
     · have:=z.2; omega
   exact h.put g λj hj=>((h.zq _ hn j hj).mul g).mono (by omega)
 · rw [if_neg e0]
   obtain ⟨h1,h2,h3⟩:=zS ok e0
   exact h.put g λj hj=>(((h.zq _ h1 j hj).up g).add ((h.zq _ h2 j hj).mul ⟨g.n0,g.sq⟩ |>.mono (by omega))).mono (by omega)
noncomputable def bw (E:Stp->Nat) (ss:List Stp):Nat:=(ss.map E).sum
theorem qP (E:Stp->Nat) (ss:List Stp) (i:Nat):bw E (ss.take i)<=bw E ss:=by
 conv=>rhs; rw [<- List.take_append_drop i ss]
 unfold bw
 rw [List.map_append,List.sum_append]
 omega
theorem ja (E:Stp->Nat) (ss:List Stp):bw E ss.reverse=bw E ss:=by
 unfold bw
 rw [List.map_reverse,List.sum_reverse]
theorem cu (E:Stp->Nat) (xs ys:List Stp):bw E (xs++ys)=bw E xs + bw E ys:=by
 unfold bw
 rw [List.map_append,List.sum_append]
theorem A7 {r:List Rat} (i:Nat) (h:i < (r.map frD).length):(r.map frD)[i]=frD (r.getD i 0):=by
 have:i < r.length:=by simpa using h
 simp [this]
theorem fB {C:Nat} {r u:Nat->Rat}:(fN (((List.range C).map r).map frD) (((List.range C).map u).map frD)).length=C:=by rw [bO]; simp
theorem nU {C m:Nat} (hm:m=C) (r:Nat->Rat):((List.range m).map λj=>frD (r j))=((List.range C).map r).map frD:=by
 subst hm
 rw [List.map_map]
 rfl
theorem AO {ss:List Stp} (i:Nat) (h:i < (ss.map stD).reverse.length):(ss.map stD).reverse[i]=stD (ss.reverse.getD i ("weigh",0,0)):=by
 have:i < ss.length:=by simpa using h
 simp [this]
noncomputable def bM (ds:List D) (r:Sl):Prop:=∃ (E:Stp->Nat) (T R C:Nat) (ss:List Stp),ds=[jM T R C ss]/\okL T R C ss/\(∀ st ∈ ss,Wq (E st) st.2.2)/\bw E ss + ss.length<=990000/\r=.o (cx C R (bwd ss))
section
variable {P:Program} {w:World} {K:PySem.W.Frag} {mg:Str->Option Value} {base:Heap} {k:Nat} {f:Addr} {fd:FuncData} {qual:Str}
set_option maxHeartbeats 1000000 in
theorem gj (F:Fun K "_law_ladders_table" qual (top 52) f fd) (hb:∀ x ∈ aB,mg x=none) (c_l_times:Cal P w K mg base k "_law_times" iC) (c_l_plus:Cal P w K mg base k "_law_plus" jn):a6 P w K mg base CX0 (k + 1) f fd ["_law_ladder_here"] (spD K bM):=by
 refine fnD F cS hb (by rintro _ _ ⟨_,_,_,_,_,rfl,_⟩; rfl) ?_
 rintro _ _ ⟨EE,T,R,C,ss,rfl,h00,hw,hn,rfl⟩ cdv A outer s H E b
 have nd:=cS.nd
 have hT:=h00.t7
 have hRT:=h00.rT
 have hCT:=h00.cT
 refine xX (aa 0) (wM b.calm (dR 1 nd (dR 2 nd (dR 3 nd (dR 4 nd t8))))) ?_
 refine lO 5 nd (cmp 0 (f:=λk=>.lst ((List.range (fY 0 (C:Int).toNat).length).map λj=>frD (V0 k j))) b (fR b (aa 1) (by omega) (by omega)) fW (by rw [aS]; omega) λk hk s0 H0 fp=>bJ (eP (cmp 0 (f:=λj=>frD (V0 k j)) (b.comp s0 H0 _ fp) (fR (b.comp s0 H0 _ fp) (aa 1) (by omega) (by omega)) fW (by rw [aS]; omega) λj hj s1 H1 fq=>?_))) (.inl rfl) ?_
 · have ev:frD (V0 k j)=.tup [.int (if decide ((j:Int)=(k:Int)) then 1 else 0),.int 1]:=by
     unfold V0
     by_cases z:j=k
     · rw [if_pos z,decide_eq_true (by omega)]; rfl
     · rw [if_neg z,decide_eq_false (by omega)]; rfl
   rw [ev]
   exact bQ (ae (qz ((b.comp s0 H0 _ fp).comp s1 H1 _ fq) (ae (gP (aa 0) (aa 1) lW) ag) wk) (ae af ag))
 have el:((List.range (fY 0 (T:Int).toNat).length).map λk=>D.lst ((List.range (fY 0 (C:Int).toNat).length).map λj=>frD (V0 k j)))=cx C T V0:=by
   rw [aS,aS,Int.toNat_natCast,Int.toNat_natCast]
   unfold cx
   exact List.map_congr_left λk _=>by rw [List.map_map]; rfl
 rw [el]
 have rl:(ss.map stD).reverse.length=ss.length:=by simp
 refine xm (λi τ=>∃ P s6 s7 s8,BkJ T C (bw EE (ss.reverse.take i)) i P ((ss.reverse.take i).foldl bkV V0)/\τ=[.d (jM T R C ss),.d (.int T),.d (.int R),.d (.int C),.d (.lst (ss.map stD)),.o (cx C T ((ss.reverse.take i).foldl bkV V0)),s6,s7,s8])
   (λi τ=>((τ.set 6 (.d (.str (ss.reverse.getD i ("weigh",0,0)).1))).set 7 (.d (.int ((ss.reverse.getD i ("weigh",0,0)).2.1:Nat)))).set 8 (.d (frD (ss.reverse.getD i ("weigh",0,0)).2.2))) b (wD b (aa 4)) (λi hi τ _=>by rw [AO i hi]; exact wM b.calm (dR 6 nd (dR 7 nd (dR 8 nd t8)))) ⟨1,.un,.un,.un,BkJ.start,rfl⟩ (λi hi τ h=>?_) λτ h=>?_
 · obtain ⟨P,s6,s7,s8,I,rfl⟩:=h
   have hi:i < ss.length:=by rw [rl] at hi; exact hi
   have ei:ss.reverse.getD i ("weigh",0,0)=ss.getD (ss.length - 1 - i) ("weigh",0,0):=by simp [List.getD,List.getElem?_reverse hi]
   have g:Wq (EE (ss.reverse.getD i ("weigh",0,0))) (ss.reverse.getD i ("weigh",0,0)).2.2:=by rw [ei]; exact hw _ (by simp [show ss.length - 1 - i < ss.length by omega])
   have ok:okS T (ss.reverse.getD i ("weigh",0,0)):=by rw [ei]; exact h00.st _ (by omega)
   have nx:∀ V,(ss.reverse.take (i + 1)).foldl bkV V=bkV ((ss.reverse.take i).foldl bkV V) (ss.reverse.getD i ("weigh",0,0)):=λV=>by rw [take_snoc (("weigh",0,0):Stp) (show i < ss.reverse.length by simpa using hi),List.foldl_append]; rfl
   have ns:bw EE (ss.reverse.take (i + 1))=bw EE (ss.reverse.take i) + EE (ss.reverse.getD i ("weigh",0,0)):=by
     rw [take_snoc (("weigh",0,0):Stp) (show i < ss.reverse.length by simpa using hi),cu]
     simp [bw]
   have lim:bw EE (ss.reverse.take (i + 1))<=bw EE ss:=by
     have:=qP EE ss.reverse (i + 1)
     rwa [ja] at this
   rw [ns] at lim
   rw [nx,ns]
   have I2:=I.step g ok
   have sqL:∀ k,k < T->∀ j,j < C->Sq (bw EE (ss.reverse.take i) + i + 1) ((ss.reverse.take i).foldl bkV V0 k j):=λk hk j hj=>I.sq hk hj
   generalize bw EE (ss.reverse.take i)=S at *
   generalize (ss.reverse.take i).foldl bkV V0=V at *
   generalize ss.reverse.getD i ("weigh",0,0)=st at *
   generalize EE st=e at *
   obtain ⟨u,n,q⟩:=st
   have sq:Sq e q:=g.sq
   have ll:(cx C T V).length=T:=by simp [cx]
   have sqm:∀ k,k < T->∀ j,j < C->Sq (e + (S + i + 1)) (q * V k j):=λk hk j hj=>sq.mul (sqL k hk j hj)
   refine lx (M:=λτ=>∃ P s6 s7 s8,BkJ T C (S + e) (i + 1) P (bkV V (u,n,q))/\τ=[.d (jM T R C ss),.d (.int T),.d (.int R),.d (.int C),.d (.lst (ss.map stD)),.o (cx C T (bkV V (u,n,q))),s6,s7,s8]) (bg (aa 6) bL pd) (λh=>?_) (λh=>?_) λτ h=>ba h
   · obtain rfl:=of_decide_eq_true h
     have hnT:n < T:=by
       rcases ok.2 with z | z
       · exact z.2
       · have:=z.2; simp only at this; omega
     refine rZ 5 (xs:=cx C T V) (j:=n) (aa 7) (bJ (eP (cmp 0 (f:=λj=>frD (q * V n j)) b (bU (du 5 (aa 7) (jt hnT))) A7 (by simp; omega) λj hj s0 H0 fp=>?_))) (by rw [ll]; exact oX hnT) (ba ⟨_,.d (.str "weigh"),.d (.int n),.d (frD q),I2,?_⟩)
     · have hj:j < C:=by simpa using hj
       rw [cV _ hj]
       exact x_call (b.comp s0 H0 _ fp) c_l_times (ae (aa 1) (ae (aa 0) ag)) ⟨e,S + i + 1,q,V n j,rfl,sq,sqL n hnT j hj,⟨by omega,by omega⟩,rfl⟩
     · rw [nU (C:=C) (by simp) λj=>q * V n j]
       show [_,_,_,_,_,Sl.o ((cx C T V).set n _),_,_,_]=_
       rw [lq hnT]
       rfl
   · have h0:u ≠ "weigh":=of_decide_eq_false h
     have hnT:n + 1 < T:=by
       rcases ok.2 with z | z
       · exact absurd z.1 h0
       · exact z.2
     have hnT':n < T:=by omega
     refine lx (M:=λτ=>∃ P s6 s7 s8,BkJ T C (S + e) (i + 1) P (bkV V (u,n,q))/\τ=[.d (jM T R C ss),.d (.int T),.d (.int R),.d (.int C),.d (.lst (ss.map stD)),.o (cx C T (bkV V (u,n,q))),s6,s7,s8]) (bg (aa 6) bL pd) (λh=>?_) (λh=>?_) λτ h=>ba h
     · obtain rfl:=of_decide_eq_true h
       have eb:bkV V ("down",n,q)=eL V n λj=>V n j + q * V (n + 1) j:=by
         unfold bkV
         rw [if_neg h0]
         rfl
       refine rZ 5 (xs:=cx C T V) (j:=n) (aa 7) (bJ (eP (va 0 1 (f:=λj=>frD (V n j + q * V (n + 1) j)) b (pO b (du 5 (aa 7) (jt hnT')) (du 5 (aJ (aa 7) af bC) (jt hnT))) wU (by rw [fB]; omega) λj hj s0 H0 fp=>?_))) (by rw [ll]; exact oX hnT') (ba ⟨_,.d (.str "down"),.d (.int n),.d (frD q),I2,?_⟩)
       · have hj:j < C:=by rw [fB] at hj; exact hj
         rw [cV _ hj,cV _ hj]
         exact x_call (b.comp s0 H0 _ fp) c_l_plus (ae (aa 0) (ae (x_call (b.comp s0 H0 _ fp) c_l_times (ae (aa 2) (ae (aa 1) ag)) ⟨e,S + i + 1,q,V (n + 1) j,rfl,sq,sqL _ hnT j hj,⟨by omega,by omega⟩,rfl⟩) ag)) ⟨S + i + 1,e + (S + i + 1),V n j,q * V (n + 1) j,rfl,sqL _ hnT' j hj,sqm _ hnT j hj,⟨by omega,by omega⟩,rfl⟩
       · rw [nU fB λj=>V n j + q * V (n + 1) j,eb]
         show [_,_,_,_,_,Sl.o ((cx C T V).set n _),_,_,_]=_
         rw [lq hnT']
     · have h1:u ≠ "down":=of_decide_eq_false h
       have eb:bkV V (u,n,q)=eL V (n + 1) λj=>V (n + 1) j + q * V n j:=by
         unfold bkV rgS rgE
         rw [if_neg h0,if_neg h1,if_neg h1]
       refine rZ 5 (xs:=cx C T V) (j:=n + 1) (aJ (aa 7) af bC) (bJ (eP (va 0 1 (f:=λj=>frD (V (n + 1) j + q * V n j)) b (pO b (du 5 (aa 7) (jt hnT')) (du 5 (aJ (aa 7) af bC) (jt hnT))) wU (by rw [fB]; omega) λj hj s0 H0 fp=>?_))) (by rw [ll]; exact oX hnT) (ba ⟨_,.d (.str u),.d (.int n),.d (frD q),I2,?_⟩)
       · have hj:j < C:=by rw [fB] at hj; exact hj
         rw [cV _ hj,cV _ hj]
         exact x_call (b.comp s0 H0 _ fp) c_l_plus (ae (aa 1) (ae (x_call (b.comp s0 H0 _ fp) c_l_times (ae (aa 2) (ae (aa 0) ag)) ⟨e,S + i + 1,q,V n j,rfl,sq,sqL _ hnT' j hj,⟨by omega,by omega⟩,rfl⟩) ag)) ⟨S + i + 1,e + (S + i + 1),V (n + 1) j,q * V n j,rfl,sqL _ hnT j hj,sqm _ hnT' j hj,⟨by omega,by omega⟩,rfl⟩
       · rw [nU fB λj=>V (n + 1) j + q * V n j,eb]
         show [_,_,_,_,_,Sl.o ((cx C T V).set (n + 1) _),_,_,_]=_
         rw [lq hnT]
 · obtain ⟨P,s6,s7,s8,I,rfl⟩:=h
   rw [rl,List.take_of_length_le (by simp)]
   refine iD 5 (aW (AM (aa 5) jc (fg (aa 2))) ?_)
   rw [vH hRT]
   rfl
end
noncomputable def eB (M:Nat) (st:Stp):Nat:=if st.2.2=0\/st.2.2=1 then 1 else 2 * M
theorem wV {M:Nat} (h:1<=M) (st:Stp):eB M st<=2 * M:=by
 unfold eB
 split <;> omega
theorem AE {m:Nat} (h:1<=m):Sq m 0:=⟨Nat.two_pow_pos m,by
 show (1:Int).natAbs < 2 ^ m
 have:=Nat.pow_le_pow_right (n:=2) (by decide) h
 show 1 < 2 ^ m
 omega⟩
theorem AG {m:Nat} (h:1<=m):Sq m 1:=by
 have:=Nat.pow_le_pow_right (n:=2) (by decide) h
 exact ⟨by show 1 < 2 ^ m; omega,by show 1 < 2 ^ m; omega⟩
theorem zV {M:Nat} {st:Stp} (h0:0<=st.2.2.num) (h:Sq (2 * M) st.2.2):Wq (eB M st) st.2.2:=by
 refine ⟨h0,?_⟩
 unfold eB
 split
 · rename_i z
   rcases z with z | z
   · rw [z]; exact AE (Nat.le_refl 1)
   · rw [z]; exact AG (Nat.le_refl 1)
 · exact h
theorem wZ {n M k i:Nat} {g:Nat->Nat->Rat} (h1:1<=M) (hk:k < n) (hi:i + 1 < n) (sz:Sz n M g):(∀ st ∈ dt k i g,Sq (2 * M) st.2.2)/\bw (eB M) (dt k i g)<=2 * M + 2:=by
 unfold dt
 split
 · exact ⟨λ_ z=>(nomatch z),Nat.zero_le _⟩
 · split
   · refine ⟨λst hs=>?_,?_⟩
     · rcases List.mem_cons.mp hs with rfl | hs
       · exact AE (by omega)
       · rw [List.mem_singleton] at hs
         subst hs
         exact AG (by omega)
     · have e1:eB M ("weigh",i,0)=1:=if_pos (.inl rfl)
       have e2:eB M ("up",i,1)=1:=if_pos (.inr rfl)
       show eB M ("weigh",i,0) + (eB M ("up",i,1) + 0)<=_
       omega
   · rename_i z1 z2
     refine ⟨λst hs=>?_,?_⟩
     · rw [List.mem_singleton] at hs
       subst hs
       have:=(sz (i + 1) hi k hk).div (sz i (by omega) k hk) z2
       rwa [<- Nat.two_mul] at this
     · have:=wV h1 ("up",i,g (i + 1) k / g i k)
       show eB M ("up",i,g (i + 1) k / g i k) + 0<=_
       omega
theorem pz {n M k:Nat} (h1:1<=M):∀ (d:Nat) (g:Nat->Nat->Rat),k + d < n->SzP n M k d g->(∀ st ∈ clS k d g,Sq (2 * M) st.2.2)/\bw (eB M) (clS k d g)<=d * (2 * M + 2)
 | 0,_,_,_=>⟨λ_ z=>(nomatch z),Nat.zero_le _⟩
 | d + 1,g,hd,sz=>by
   obtain ⟨a1,a2⟩:=wZ (i:=k + d) h1 (by omega:k < n) (by omega) sz.1
   obtain ⟨b1,b2⟩:=pz h1 d _ (by omega) sz.2
   refine ⟨λst hs=>?_,?_⟩
   · rcases List.mem_append.mp (show st ∈ dt k (k + d) g++clS k d (cw k (k + d) g) from hs) with h | h
     · exact a1 st h
     · exact b1 st h
   · show bw (eB M) (dt k (k + d) g++clS k d (cw k (k + d) g))<=_
     rw [cu,Nat.succ_mul]
     omega
theorem wC {n M:Nat} {A:Nat->Nat->Rat} (h1:1<=M) (sz:SzA n M A):∀ k,k<=n->(∀ st ∈ (apF n A k).2.1,Sq (2 * M) st.2.2)/\(∀ st ∈ (apF n A k).2.2,Sq (2 * M) st.2.2)/\bw (eB M) (apF n A k).2.1<=k * (2 * (n * (2 * M + 2)))/\bw (eB M) (apF n A k).2.2<=k * (n * (2 * M + 2))
 | 0,_=>⟨λ_ z=>(nomatch z),λ_ z=>(nomatch z),Nat.zero_le _,Nat.zero_le _⟩
 | k + 1,hk=>by
   obtain ⟨a1,a2,a3,a4⟩:=wC h1 sz k (by omega)
   obtain ⟨z1,z2,z3⟩:=sz k (by omega)
   have le:(n - 1 - k) * (2 * M + 2)<=n * (2 * M + 2):=Nat.mul_le_mul_right _ (by omega)
   obtain ⟨c1,d1⟩:=pz h1 (n - 1 - k) _ (by omega) z1
   obtain ⟨c2,d2⟩:=pz h1 (n - 1 - k) _ (by omega) z2
   obtain ⟨c3,d3⟩:=pz h1 (n - 1 - k) _ (by omega) z3
   have e:apF n A (k + 1)=(st3 n k (apF n A k).1,(apF n A k).2.1++stA n k (apF n A k).1,(apF n A k).2.2++stB n k (apF n A k).1):=rfl
   rw [e]
   refine ⟨λst hs=>?_,λst hs=>?_,?_,?_⟩
   · rcases List.mem_append.mp hs with h | h
     · exact a1 st h
     · rcases List.mem_append.mp (show st ∈ clS k (n - 1 - k) (apF n A k).1++clS k (n - 1 - k) (st2 n k (apF n A k).1) from h) with h | h
       · exact c1 st h
       · exact c3 st h
   · rcases List.mem_append.mp hs with h | h
     · exact a2 st h
     · exact c2 st h
   · show bw (eB M) ((apF n A k).2.1++(clS k (n - 1 - k) (apF n A k).1++clS k (n - 1 - k) (st2 n k (apF n A k).1)))<=_
     rw [cu,cu,Nat.succ_mul]
     omega
   · show bw (eB M) ((apF n A k).2.2++clS k (n - 1 - k) (trF (st1 n k (apF n A k).1)))<=_
     rw [cu,Nat.succ_mul]
     omega
theorem we {n M:Nat} (h1:1<=M) {g:Nat->Nat->Rat}:∀ k,bw (eB M) ((List.range k).map λi=>("weigh",i,g i i))<=k * (2 * M)
 | 0=>Nat.zero_le _
 | k + 1=>by
   rw [List.range_succ,List.map_append,cu,Nat.succ_mul]
   have:=we (n:=n) h1 (g:=g) k
   have:=wV h1 ("weigh",k,g k k)
   show _ + (eB M ("weigh",k,g k k) + 0)<=_
   omega
theorem wd (s:Stp):(trn s).2.2=s.2.2:=by
 unfold trn
 split <;> rfl
theorem ui {M:Nat} (ss:List Stp):bw (eB M) (ss.reverse.map trn)=bw (eB M) ss:=by
 rw [<- ja (eB M) ss]
 unfold bw
 rw [List.map_map]
 congr 1
 refine List.map_congr_left λs _=>?_
 show eB M (trn s)=eB M s
 unfold eB
 rw [wd]
theorem Av {n M:Nat} {A:Nat->Nat->Rat} (h1:1<=M) (sz:SzA n M A) (last:Sz n M (apF n A n).1):(∀ st ∈ apS n A,Sq (2 * M) st.2.2)/\bw (eB M) (apS n A)<=(3 * (n * n) + n) * (2 * M + 2):=by
 obtain ⟨a1,a2,a3,a4⟩:=wC h1 sz n (Nat.le_refl n)
 have c:=we (n:=n) h1 (g:=(apF n A n).1) n
 refine ⟨λst hs=>?_,?_⟩
 · unfold apS at hs
   rcases List.mem_append.mp hs with h | h
   · exact a1 st h
   · rcases List.mem_append.mp h with h | h
     · unfold crS at h
       obtain ⟨k,hk,rfl⟩:=List.mem_map.mp h
       have hk:=List.mem_range.mp hk
       exact (last k hk k hk).mono (by omega)
     · obtain ⟨s,ms,rfl⟩:=List.mem_map.mp h
       rw [wd]
       exact a2 s (List.mem_reverse.mp ms)
 · unfold apS
   rw [cu,cu,ui]
   have c':bw (eB M) (crS n (apF n A n).1)<=n * (2 * M):=c
   have e1:n * (2 * (n * (2 * M + 2)))=2 * (n * n * (2 * M + 2)):=by
     rw [Nat.mul_left_comm,Nat.mul_assoc n n]
   have e2:n * (n * (2 * M + 2))=n * n * (2 * M + 2):=(Nat.mul_assoc n n _).symm
   have e3:(3 * (n * n) + n) * (2 * M + 2)=3 * (n * n * (2 * M + 2)) + n * (2 * M + 2):=by rw [Nat.add_mul,Nat.mul_assoc 3]
   have e4:n * (2 * M)<=n * (2 * M + 2):=Nat.mul_le_mul_left _ (by omega)
   rw [e3]
   rw [e1] at a3
   rw [e2] at a4
   omega
section
variable {P:Program} {w:World} {K:PySem.W.Frag} {mg:Str->Option Value} {base:Heap} {k:Nat} {f:Addr} {fd:FuncData} {qual:Str}
end
noncomputable def fj (ds:List D) (r:Sl):Prop:=∃ (T:Nat) (s:Stp),ds=[stD s,.int T]/\okS T s/\r=.d (.bl true)
section
variable {P:Program} {w:World} {K:PySem.W.Frag} {mg:Str->Option Value} {base:Heap} {k:Nat} {f:Addr} {fd:FuncData} {qual:Str}
set_option maxHeartbeats 1000000 in
theorem kZ (F:Fun K "_law_is_step" qual (top 55) f fd) (hb:∀ x ∈ aB,mg x=none) (c_l_whole:Cal P w K mg base k "_law_whole" fI) (c_l_divisor:Cal P w K mg base k "_law_divisor" cZ):a6 P w K mg base CX0 (k + 1) f fd ["_law_step","_law_tracks"] (spD K fj):=by
 refine fnD F gR hb (by rintro _ _ ⟨_,_,rfl,_⟩; rfl) ?_
 rintro _ _ ⟨T,⟨u,n,q⟩,rfl,⟨h0,h1⟩,rfl⟩ cdv A outer s H E b
 have nd:=gR.nd
 have h0:0<=q.num:=h0
 have dp:=den_pos q
 have g1:Int.gcd q.num (q.den:Nat)=1:=by have:=q.reduced; rwa [Int.gcd,Int.natAbs_natCast]
 have hu:(u = "weigh" /\ n < T)\/(u = "down" /\ n + 1 < T)\/(u = "up" /\ n + 1 < T):=by
   rcases h1 with h | ⟨h | h,h2⟩
   · exact .inl h
   · exact .inr (.inl ⟨h,h2⟩)
   · exact .inr (.inr ⟨h,h2⟩)
 have eu:Ev.cF (.str u)/\(!([D.str "down",.str "up",.str "weigh"].any λz=>Ev.eqD z (.str u)))=false:=by
   rcases hu with ⟨rfl,_⟩ | ⟨rfl,_⟩ | ⟨rfl,_⟩ <;> exact ⟨by decide +kernel,by simp [Ev.eqD]⟩
 have el:(decide ((0:Int)<=(n:Nat)) && decide (((n:Nat):Int) < (T:Int) - (if (!decide (u=("weigh" : Str)))=true then 1 else 0)))=true:=by
   rw [decide_eq_true (by omega),Bool.true_and]
   refine decide_eq_true ?_
   rcases hu with ⟨rfl,h⟩ | ⟨rfl,h⟩ | ⟨rfl,h⟩
   · rw [decide_eq_true rfl]; show (n:Int) < (T:Int) - 0; omega
   · rw [decide_eq_false (by decide)]; show (n:Int) < (T:Int) - 1; omega
   · rw [decide_eq_false (by decide)]; show (n:Int) < (T:Int) - 1; omega
 refine dC (PW.pt (fP (b5 (b7 (eK .tuple b (aa 0)))) λh=>(fP (bg (bx b (ae (aa 0) ag) gc) af qZ) λh=>(fX (bg (aL (aa 0) af (aM (aF (i:=0) rfl))) (bJ (cD (ae bL (ae bL (ae bL ag))))) (yX b eu.1 (by intro z hz; simp only [List.mem_cons,List.not_mem_nil,or_false] at hz; rcases hz with rfl | rfl | rfl <;> decide +kernel))))))) (by rw [eu.2]; rfl) ?_
 refine dC (PW.pt (fP (b5 (b7 (x_call b c_l_whole (ae (aL (aa 0) af (aM (aF (i:=1) rfl))) ag) ⟨_,rfl,rfl⟩))) λh=>(fX (b5 ((pM af (aL (aa 0) af (aM (aF (i:=1) rfl))) (aJ (aa 1) (qz b (ae (gP (aL (aa 0) af (aM (aF (i:=0) rfl))) bL oN) ag) wk) cE) yq vz).2 rfl))))) (by rw [el]; rfl) ?_
 refine aO 2 nd (aL (aa 0) af (aM (aF (i:=2) rfl))) ?_
 refine dC (PW.pt (fP (b5 (b7 (eK .tuple b (aa 2)))) λh=>(fP (bg (bx b (ae (aa 2) ag) gc) af qZ) λh=>(fP (b5 (b7 (x_call b c_l_whole (ae (aL (aa 2) af (aM (aF (i:=0) rfl))) ag) ⟨_,rfl,rfl⟩))) λh=>(fX (b5 (b7 (x_call b c_l_whole (ae (aL (aa 2) af (aM (aF (i:=1) rfl))) ag) ⟨_,rfl,rfl⟩)))))))) rfl ?_
 refine aW (i7 (gP (aL (aa 2) af (aM (aF (i:=0) rfl))) af yE) λh=>(i7 (gP (aL (aa 2) af (aM (aF (i:=1) rfl))) af tj) λh=>(kH (gP (x_call b c_l_divisor (ae (aL (aa 2) af (aM (aF (i:=0) rfl))) (ae (aL (aa 2) af (aM (aF (i:=1) rfl))) ag)) ⟨_,_,rfl,rfl⟩) af lW)))) ?_
 rw [g1,decide_eq_true h0,decide_eq_true (show (0:Int) < (q.den:Nat) from dp)]
 rfl
end
mutual
theorem gE:∀ x:D,Ev.eqD x x=true
 | .non=>by rw [Ev.eqD]
 | .bl a=>by simp [Ev.eqD]
 | .int a=>by simp [Ev.eqD]
 | .str a=>by simp [Ev.eqD]
 | .tup xs=>by rw [Ev.eqD]; exact iz xs
 | .lst xs=>by rw [Ev.eqD]; exact iz xs
 | .box x=>by rw [Ev.eqD]
theorem iz:∀ xs:List D,Ev.iU xs xs=true
 | []=>by rw [Ev.iU]
 | x :: xs=>by rw [Ev.iU,gE x,iz xs]; rfl
end
theorem pN:∀ r:List Rat,Ev.dr (r.map frD)=true/\Ev.eQ (r.map frD)<=1
 | []=>by simp [Ev.dr,Ev.eQ]
 | x :: r=>by
   obtain ⟨h1,h2⟩:=pN r
   rw [List.map_cons,Ev.dr,Ev.eQ,h1,frD]
   refine ⟨by simp [Ev.cln,Ev.dr],?_⟩
   have:Ev.dep (.tup [.int x.num,.int (x.den:Nat)])=1:=by simp [Ev.dep,Ev.eQ]
   rw [this]
   omega
theorem qr:∀ m:List (List Rat),Ev.dr (m.map rwQ)=true/\Ev.eQ (m.map rwQ)<=2
 | []=>by simp [Ev.dr,Ev.eQ]
 | r :: m=>by
   obtain ⟨h1,h2⟩:=qr m
   obtain ⟨h3,h4⟩:=pN r
   rw [List.map_cons,Ev.dr,Ev.eQ,h1,show rwQ r=.lst (r.map frD) from rfl,Ev.cln,Ev.dep,h3]
   exact ⟨rfl,by omega⟩
theorem ly (m:List (List Rat)):Ev.cF (tbQ m):=by
 obtain ⟨h1,h2⟩:=qr m
 unfold tbQ Ev.cF
 rw [Ev.cln,Ev.dep,h1]
 exact ⟨rfl,by omega⟩
noncomputable def mkD (T R C:Nat) (ss:List Stp):D:=.tup [.str "ladder",jM T R C ss]
noncomputable def fJ (ds:List D) (r:Sl):Prop:=∃ (E:Stp->Nat) (T R C:Nat) (ss:List Stp) (A:Nat->Nat->Rat),ds=[mkD T R C ss,tbQ (mkT R C A)]/\okL T R C ss/\T=sz2 R C/\(∀ st ∈ ss,Wq (E st) st.2.2)/\bw E ss + ss.length<=990000/\(∀ i,i < R->∀ j,j < C->bwd ss i j=A i j)/\r=.d (.bl true)
theorem oW (R C:Nat) (L:Nat->Nat->Rat):D.lst (cx C R L)=tbQ (mkT R C L):=by
 unfold cx tbQ mkT
 rw [List.map_map]
 rfl
theorem wt (a b c:Int):Ev.cF (.tup [.int a,.int b,.int c]):=⟨by simp [Ev.cln,Ev.dr],by simp [Ev.dep,Ev.eQ]⟩
section
variable {P:Program} {w:World} {K:PySem.W.Frag} {mg:Str->Option Value} {base:Heap} {k:Nat} {f:Addr} {fd:FuncData} {qual:Str}
set_option maxHeartbeats 1000000 in
theorem nr (F:Fun K "_law_makes" qual (top 56) f fd) (hb:∀ x ∈ aB,mg x=none) (c_l_ladders_table:Cal P w K mg base k "_law_ladders_table" bM) (c_l_is_step:Cal P w K mg base k "_law_is_step" fj) (c_l_whole:Cal P w K mg base k "_law_whole" fI):a6 P w K mg base CX0 (k + 1) f fd ["_law_found","_law_table"] (spD K fJ):=by
 refine fnD F jF hb (by rintro _ _ ⟨_,_,_,_,_,_,rfl,_⟩; rfl) ?_
 rintro _ _ ⟨EE,T,R,C,ss,A,rfl,ok,hT,hw,hn,he,rfl⟩ cdv A' outer s H E b
 have nd:=jF.nd
 have r1:=ok.r1
 have c1:=ok.c1
 have hl:=ok.len
 have lm:((mkT R C A).map rwQ).length=R:=by rw [List.length_map,cI]
 have ln:(((List.range C).map (A 0)).map frD).length=C:=by simp
 have r0:atI ((mkT R C A).map rwQ) 0=some (rwQ ((List.range C).map (A 0))):=by
   have:=gh (f:=rwQ) (xs:=mkT R C A) [] (i:=0) (by rw [cI]; exact r1)
   rw [gO r1] at this
   exact this
 have es:(if (C:Int) > (R:Int) then (C:Int) else (R:Int))=(T:Nat):=by rw [hT]; unfold sz2; split <;> split <;> omega
 have ix1:∀ X:Cx,vN X (mkD T R C ss) (.int 1) (jM T R C ss):=λX=>aM (aF (i:=1) rfl)
 refine dC (PW.pt (fP (b5 (b7 (eK .tuple b (aa 0)))) λh=>(fP (bg (bx b (ae (aa 0) ag) gc) af qZ) λh=>(fP (bg (aL (aa 0) af (aM (aF (i:=0) rfl))) bL oN) λh=>(fX (b5 (b7 (eK .tuple b (aL (aa 0) af (ix1 _)))))))))) rfl ?_
 have e3:cutD [D.int T,.int R,.int C,.lst (ss.map stD)] none (some 3)=[.int T,.int R,.int C]:=rfl
 have sl3:∀ {X:Cx} {τ:List Sl} {e:Expr} {l2:Expr} {C':Bool} {p2 pos:Pos},PE X e (dE X.K C' τ (.d (jM T R C ss)))->PO X (some l2) (dO X.K τ (some 3))->PE X (.Subscript e (.Slice none (some l2) none p2) pos) (dE X.K C' τ (.d (.tup [.int T,.int R,.int C]))):=λ{X τ e l2 C' p2 pos} h u=>by
   have:=pW (pos:=pos) (p2:=p2) h jc u (λz=>by have:=z.2; simp [HT.sIx] at this)
   rw [e3] at this
   exact this
 refine dC (PW.pt (fP (bg (bx b (ae (aL (aa 0) af (ix1 _)) ag) gc) af qZ) λh=>(fX (b5 (b7 (bx b (ae (bJ (eP (cmp 0 (g:=λi=>.int ((([(T:Int),(R:Int),(C:Int)]).getD i 0))) (f:=λi=>.bl true) b (AB (sl3 (aL (aa 0) af (ix1 _)) (fg af))) (λi h=>by match i,h with | 0,_=>rfl | 1,_=>rfl | 2,_=>rfl) (by simp) λi hi s0 H0 fp=>(x_call (b.comp s0 H0 _ fp) c_l_whole (ae (aa 0) ag) ⟨_,rfl,rfl⟩)))) ag) (me b.calm [true,true,true] rfl))))))) rfl ?_
 refine dC (bg (sl3 (aL (aa 0) af (ix1 _)) (fg af)) (bQ (ae (bx b (ae (bx b (ae (aa 1) ag) (iy lm)) (ae (bx b (ae (aL (aa 1) af (bb r0)) ag) (iy ln)) ag)) (rq b.calm)) (ae (bx b (ae (aa 1) ag) (iy lm)) (ae (bx b (ae (aL (aa 1) af (bb r0)) ag) (iy ln)) ag)))) (wm b (wt _ _ _) (wt _ _ _))) (by rw [es,gE]; rfl) ?_
 refine aO 2 nd (aL (aL (aa 0) af (ix1 _)) af (aM (aF (i:=3) rfl))) ?_
 refine dC (PW.pt (fP (b5 (b7 (eK .list b (aa 2)))) λh=>(fX (bg (bx b (ae (aa 2) ag) (iy (n:=ss.length) (by rw [List.length_map]))) af tj)))) (by rw [decide_eq_false (by omega)]; rfl) ?_
 refine dC (b5 (b7 (bx b (ae (bJ (eP (cmp 0 (g:=λi=>stD (ss.getD i ("weigh",0,0))) (f:=λi=>.bl true) b (bU (aa 2)) BA (by rw [List.length_map]; omega) λi hi s0 H0 fp=>(x_call (b.comp s0 H0 _ fp) c_l_is_step (ae (aa 0) (ae (aL (aL (aa 1) af (ix1 _)) af (aM (aF (i:=0) rfl))) ag)) ⟨T,_,rfl,ok.st i (by simpa using hi),rfl⟩)))) ag) (me b.calm (List.replicate ss.length true) (by rw [List.map_replicate,List.length_map]; exact (List.map_const' ..).trans (by rw [List.length_range])))))) (by simp) ?_
 refine aW (gP (bJ (x_call b c_l_ladders_table (ae (aL (aa 0) af (ix1 _)) ag) ⟨EE,T,R,C,ss,rfl,ok,hw,hn,rfl⟩) (by exact congrArg some (oW R C (bwd ss)))) (aa 1) (wb b (ly _) (ly _))) ?_
 rw [qR he,gE]
end
theorem yz {T C:Nat} {L:Nat->Nat->Rat} {st:Stp} (H:Tnn T C L) (h:okS T st):Tnn T C (bkV L st):=by
 have w0:(0:Rat)<=st.2.2:=Rat.num_nonneg.mp h.1
 unfold bkV
 by_cases e:st.1 = "weigh"
 · rw [if_pos e]
   refine (H.tr.col (h:=st.2.1) (t:=0) (a:=st.2.2) (b:=0) w0 Rat.le_refl (.inl rfl)).tr.congr λi _ j _=>?_
   unfold eL
   by_cases z:i=st.2.1
   · rw [if_pos z,if_pos z]; grind
   · rw [if_neg z,if_neg z]
 · rw [if_neg e]
   obtain ⟨h1,h2,_⟩:=zS h e
   have nb:rgE st=rgS st + 1\/rgS st=rgE st + 1:=by
     unfold rgS rgE
     split <;> omega
   refine (H.tr.col (h:=rgS st) (t:=rgE st) (a:=1) (b:=st.2.2) (by decide) w0 (.inr ⟨h2,nb⟩)).tr.congr λi _ j _=>?_
   unfold eL
   by_cases z:i=rgS st
   · rw [if_pos z,if_pos z]; grind
   · rw [if_neg z,if_neg z]
theorem pX {T C:Nat}:∀ (xs:List Stp) (L:Nat->Nat->Rat),Tnn T C L->(∀ st ∈ xs,okS T st)->Tnn T C (xs.foldl bkV L)
 | [],_,H,_=>H
 | st :: xs,L,H,h=>pX xs _ (yz H (h st (List.mem_cons_self ..))) λs m=>h s (List.mem_cons_of_mem _ m)
theorem vI {T C:Nat} {ss:List Stp} (h:∀ st ∈ ss,okS T st):Tnn T C (bwd ss):=
 pX _ _ ((xo T C).congr λi _ j _=>by
   unfold V0
   by_cases z:i=j
   · rw [if_pos z,if_pos z.symm]
   · rw [if_neg z,if_neg (Ne.symm z)]) λst m=>h st (List.mem_reverse.mp m)
theorem sI {T C:Nat} {E:Stp->Nat}:∀ (xs:List Stp) (S t:Nat) (P:Int) (L:Nat->Nat->Rat),BkJ T C S t P L->(∀ st ∈ xs,okS T st/\Wq (E st) st.2.2)->∃ P',BkJ T C (S + bw E xs) (t + xs.length) P' (xs.foldl bkV L)
 | [],_,_,P,_,I,_=>⟨P,I⟩
 | st :: xs,S,t,P,L,I,h=>by
   obtain ⟨a,b⟩:=h st (List.mem_cons_self ..)
   obtain ⟨P',J⟩:=sI xs _ _ _ _ (I.step b a) λs m=>h s (List.mem_cons_of_mem _ m)
   refine ⟨P',?_⟩
   have e1:S + bw E (st :: xs)=S + E st + bw E xs:=by
     show S + (E st + bw E xs)=_
     omega
   have e2:t + (st :: xs).length=t + 1 + xs.length:=by rw [List.length_cons]; omega
   rw [e1,e2]
   exact J
theorem yK {T C:Nat} {E:Stp->Nat} {ss:List Stp} (h:∀ st ∈ ss,okS T st/\Wq (E st) st.2.2):∃ P,BkJ T C (bw E ss) ss.length P (bwd ss):=by
 obtain ⟨P,J⟩:=sI (E:=E) ss.reverse 0 0 1 V0 (BkJ.start (T:=T) (C:=C)) λs m=>h s (List.mem_reverse.mp m)
 rw [ja,List.length_reverse,Nat.zero_add,Nat.zero_add] at J
 exact ⟨P,J⟩
theorem lz {z:Int} {n:Nat} (h0:0<=z) (h:z<=2 ^ n):z.natAbs<=2 ^ n:=by
 have e:((2 ^ n:Nat):Int)=(2:Int) ^ n:=Int.natCast_pow ..
 omega
theorem BkJ.cm {T C S t R:Nat} {P:Int} {L:Nat->Nat->Rat} (I:BkJ T C S t P L) (hR:R<=T):Cm (S + t) S R C L:=
 ⟨P,I.pos,lz (by have:=I.pos; omega) I.le,λi hi j hj=>by
   obtain ⟨z,z0,z1,z2⟩:=I.zq i (by omega) j hj
   exact ⟨z,by rw [z2,Rat.mul_comm],lz z0 z1⟩⟩
theorem BkJ.qs {T C S t i j:Nat} {P:Int} {L:Nat->Nat->Rat} (I:BkJ T C S t P L) (hi:i < T) (hj:j < C):Qs (S + 1) (S + t) (L i j):=by
 obtain ⟨z,z0,z1,z2⟩:=I.zq i hi j hj
 obtain ⟨e1,e2⟩:=bI I.pos z2
 refine ⟨?_,?_⟩
 · rw [e2]; exact (tQ (by have:=I.pos; omega) I.le).ediv _
 · have g1:(1:Int)<=(Int.gcd z P:Int):=by have:=dZ (i:=z) (j:=P) (by have:=I.pos; omega); omega
   have n0:0<=(L i j).num:=by rw [e1]; exact Int.ediv_nonneg z0 (by omega)
   have h1:(L i j).num<=z:=by rw [e1]; exact Int.ediv_le_self _ z0
   have h2:=lz z0 z1
   have d1:1<=(L i j).den:=(L i j).den_pos
   have:(L i j).num.natAbs<=2 ^ (S + t):=by omega
   exact Nat.le_trans this (Nat.le_mul_of_pos_right _ d1)
theorem Cm.mono {β σ β' σ' m n:Nat} {A:Nat->Nat->Rat} (h:Cm β σ m n A) (h1:β<=β') (h2:σ<=σ'):Cm β' σ' m n A:=by
 obtain ⟨P,p0,p1,p2⟩:=h
 exact ⟨P,p0,Nat.le_trans p1 (Nat.pow_le_pow_right (by decide) h2),λi hi j hj=>(p2 i hi j hj).mono h1⟩
theorem AI {s s' β σ:Nat} (h:s<=s'):mB s β σ<=mB s' β σ:=by
 unfold mB
 have:=Nat.mul_le_mul_right (β + 3) h
 omega
noncomputable def qF (s β σ:Nat):Nat:=(3 * (s * s) + s) * (2 * mB s β σ + 2) + 400
theorem vj {s s' β σ:Nat} (h:s<=s'):qF s β σ<=qF s' β σ:=by
 have h1:=AI (β:=β) (σ:=σ) h
 have h2:s * s<=s' * s':=Nat.mul_le_mul h h
 have h3:(3 * (s * s) + s) * (2 * mB s β σ + 2)<=(3 * (s' * s') + s') * (2 * mB s' β σ + 2):=Nat.mul_le_mul (by omega) (by omega)
 unfold qF
 omega
theorem u9 {R C β σ:Nat} {A:Nat->Nat->Rat} (r1:1<=R) (c1:1<=C) (s7:sz2 R C<=7) (H:Tnn R C A) (cm:Cm β σ R C A) (lim:qF (sz2 R C) β σ<=990000) :
   okL (sz2 R C) R C (apS (sz2 R C) (bS R C A))/\(∀ st ∈ apS (sz2 R C) (bS R C A),Wq (eB (mB (sz2 R C) β σ) st) st.2.2)/\bw (eB (mB (sz2 R C) β σ)) (apS (sz2 R C) (bS R C A)) + (apS (sz2 R C) (bS R C A)).length<=990000/\∀ i,i < R->∀ j,j < C->bwd (apS (sz2 R C) (bS R C A)) i j=A i j:=by
 have sm:R<=sz2 R C/\C<=sz2 R C/\1<=sz2 R C:=by unfold sz2; split <;> omega
 unfold qF at lim
 generalize sz2 R C=s at *
 have Hs:Tnn s s (bS R C A):=pJ H
 have cs:Cm β σ s s (bS R C A):=cm.pad
 have sz:=sQ s7 Hs cs
 obtain ⟨mk,ok⟩:=sE Hs
 have len:=vx s7 (bS R C A)
 have M1:1<=mB s β σ:=by unfold mB; omega
 have last:Sz s (mB s β σ) (apF s (bS R C A) s).1:=by
   obtain ⟨P,p0,p1,p2⟩:=cs
   have F:FS s 0 (λi j=>(P:Rat) * 1 * bS R C A i j) (λ_=>(P:Rat)) (λ_=>1) (bS R C A):=FS.start (λ_ _ _ _=>rfl) (λ_=>Rat.intCast_pos.mpr p0) (λ_=>by decide)
   obtain ⟨φ,o,l,b,κ,o',l',b',G,_,_⟩:=tE Hs F s (Nat.le_refl s)
   exact sC s7 (λi hi j hj=>by rw [Rat.mul_one]; exact p2 i hi j hj) (λ_ _=>⟨P,rfl,p1⟩) ⟨φ,o,l,b,κ,o',l',b',G⟩
 obtain ⟨z1,z2⟩:=Av M1 sz last
 refine ⟨⟨sm.2.2,s7,r1,sm.1,c1,sm.2.1,len,λi hi=>ok _ (eF hi)⟩,λst hs=>zV (ok st hs).1 (z1 st hs),by omega,λi hi j hj=>?_⟩
 rw [mk i (by omega) j (by omega)]
 exact if_pos ⟨hi,hj⟩
section
variable {P:Program} {w:World} {K:PySem.W.Frag} {mg:Str->Option Value} {base:Heap} {k:Nat} {f:Addr} {fd:FuncData} {qual:Str}
end
end K31
namespace Hy
open PySem PySem.Spec PyProof.Rows L2
open Ev (D Den av aq)
section
variable {X:Cx} {τ:List Sl} {o:Expr} {i:Nat} {N:Po} {rest:List Stmt} {pos:Pos} {t:Nd} {pt:List Nat} {xs:List D}
theorem yu {ap cp:Pos} (ho:PE X o (dP X.K τ i pt)) (hi:τ[i]?=some (.n t)) (hp:iT pt t=some (.l (xs.map .d))) (hr:PSs X rest (dS X.K (τ.set i (.n (eV pt t (.l (xs.reverse.map .d))))) N))
   (hline:(ap.endLine == cp.line)=true:=by rfl) (hs:swapsWith (.Call (.Attribute o "reverse" ap) [] [] cp) none pos.line X.env=pure false:=by rfl) (hbase:attributeBase o "reverse" X.env (eval o X.env)=eval o X.env:=by rfl) :
   PSs X (.Expr (.Call (.Attribute o "reverse" ap) [] [] cp) pos :: rest) (dS X.K τ N):=
 bH (M:=(·=τ.set i (.n (eV pt t (.l (xs.reverse.map .d)))))) (psW (cK (xD PySem.F.plainAttrs_list PySem.F.slot_list_reverse PySem.F.type_list_reverse oF ho hbase hline) hs) λD σ H ⟨A,H₀,B,S,Me⟩=>by
   refine ⟨A,H₀,B,S,λu v H1 eu e1 pv=>?_⟩
   have S1:=S.mono e1
   obtain ⟨u',l,vs,bs0,eu',pv',hH,r0,nd0,hal,hown,put⟩:=S1.putN hi hp
   rw [eu] at eu'
   cases eu'
   obtain rfl:=pv.det pv'
   obtain ⟨r1,rfl⟩:=jf r0
   have sm:ao (hd H1 (own A B)) (hd (upd H1 l (.lst vs.reverse)) λb=>own A B b\/b ∈ []):=λb o z=>by
     obtain ⟨z1,z2⟩:=aE.mp z
     have ne:b ≠ l:=λy=>z1 (y ▸ hal)
     exact aE.mpr ⟨λw=>w.elim z1 (λw=>nomatch w),by rw [aK ne]; exact z2⟩
   obtain ⟨B',S'⟩:=put (H1:=H1) (vs':=vs.reverse) (bs1:=[]) (xs':=xs.reverse.map .d) (ao.refl _) List.nodup_nil (λ_ z=>nomatch z) (ot (pg (r1.mono sm)))
   exact ⟨.inl ⟨rfl,_,SqL.of hH⟩,l,vs,rfl,rfl,hH,Me.nx _ B' _ _ rfl S'⟩) λ_ e=>e ▸ hr
end
end Hy
namespace K31
open PySem PySem.Spec PyProof.Rows L2 Hy
open Ev (D Den av aI aN)
theorem Qs.mono {d v d' v':Nat} {q:Rat} (h:Qs d v q) (hd:d<=d') (hv:v<=v'):Qs d' v' q:=⟨h.den.mono hd,Nat.le_trans h.val (Nat.mul_le_mul_right _ (Nat.pow_le_pow_right (by decide) hv))⟩
theorem w9 (p:Int):Wq 3 (wgt p 0):=by
 obtain ⟨h1,h2,h3,h4⟩:=mP p (g:=0) (by decide)
 have f1:=fm (a:=p) (b:=7) (by decide)
 have f2:=fm (a:=p.fdiv 7) (b:=4) (by decide)
 have e1:wgT p 0=p.fmod 7:=rfl
 have e2:wgB p 0=1 + (p.fdiv 7).fmod 4:=rfl
 exact ⟨(nQ p (by decide)).1,Sq.bI h3 (gU p (by decide)) (by unfold Bd; omega) (by unfold Bd; omega)⟩
theorem yD (p:Int):Wq 17 (wgt p 5):=by
 obtain ⟨h1,h2,h3,h4⟩:=mP p (g:=5) (by decide)
 have e1:wgT p 5=p.fmod 100000:=rfl
 have e2:wgB p 5=1 + (p.fdiv 100000).fmod 99999:=rfl
 have f1:=fm (a:=p) (b:=100000) (by decide)
 have f2:=fm (a:=p.fdiv 100000) (b:=99999) (by decide)
 exact ⟨(nQ p (by decide)).1,Sq.bI h3 (gU p (by decide)) (by unfold Bd; omega) (by unfold Bd; omega)⟩
theorem cP {e:Nat}:∀ ss:List Stp,bw (λ_=>e) ss=e * ss.length
 | []=>rfl
 | s :: ss=>by
   have:=cP (e:=e) ss
   show e + bw (λ_=>e) ss=_
   rw [this,List.length_cons,Nat.mul_succ]
   omega
theorem Aa {m:Nat} (c o:Int):∀ st ∈ drS m c o 0,Wq 3 st.2.2:=λst hs=>by
 unfold drS at hs
 obtain ⟨k,_,rfl⟩:=List.mem_map.mp hs
 exact w9 _
structure Ld (S t T R C:Nat) (ss:List Stp):Prop where
 ok:okL T R C ss
 w:∃ E:Stp->Nat,(∀ st ∈ ss,Wq (E st) st.2.2)/\bw E ss<=S/\bw E ss + ss.length<=t
theorem okL.mem {T R C:Nat} {ss:List Stp} (h:okL T R C ss):∀ s ∈ ss,okS T s:=λs hs=>by
 obtain ⟨i,hi,rfl⟩:=List.getElem_of_mem hs
 have:=h.st i hi
 simpa [hi] using this
theorem Ld.tab {S t T R C:Nat} {ss:List Stp} (h:Ld S t T R C ss):Tq R C (mkT R C (bwd ss))/\(∀ r ∈ mkT R C (bwd ss),∀ x ∈ r,Qs (S + 1) t x)/\Cm t S R C (bwd ss)/\Tnn R C (bwd ss):=by
 obtain ⟨ok,E,hw,hs,ht⟩:=h
 have r1:=ok.r1
 have c1:=ok.c1
 have rT:=ok.rT
 have cT:=ok.cT
 have t7:=ok.t7
 obtain ⟨P,I⟩:=yK (T:=T) (C:=C) λst m=>⟨ok.mem st m,hw st m⟩
 refine ⟨lK r1 (by omega) c1 (by omega),λr hr x hx=>?_,(I.cm rT).mono ht hs,(vI ok.mem).le rT (Nat.le_refl C)⟩
 unfold mkT at hr
 obtain ⟨i,hi,rfl⟩:=List.mem_map.mp hr
 obtain ⟨j,hj,rfl⟩:=List.mem_map.mp hx
 exact (I.qs (by have:=List.mem_range.mp hi; omega) (List.mem_range.mp hj)).mono (by omega) ht
theorem wK (T R C:Nat) (ss:List Stp):ndD (.t [.d (.str "ladder"),lcN T R C ss])=mkD T R C ss:=by
 unfold lcN mkD jM
 simp only [ndD,m6,wJ]
theorem zt {m:Nat} (c o:Int) (hm:m<=30):Ld (3 * m) (4 * m) (drT m c) (drR m c) (drC m c) (drS m c o 0):=by
 obtain ⟨ok,_,hl⟩:=Az (m:=m) c o (g:=0) (by decide) hm
 have:=Nat.mul_le_mul_left 3 hl
 exact ⟨ok,λ_=>3,Aa c o,by rw [cP]; exact this,by rw [cP]; omega⟩
theorem AZ (c:Int) {C:Nat} (h1:1<=C) (h3:C<=3):Ld 136 144 3 3 C ((List.range 8).map (adS (adP c 8 5) 3 5)):=by
 refine ⟨⟨by decide,by decide,by decide,by decide,h1,h3,by simp,λi hi=>?_⟩,λ_=>17,λst hs=>?_,by rw [cP]; simp,by rw [cP]; simp⟩
 · have hi:i < 8:=by simpa using hi
   rw [cV _ hi]
   exact (nY (by decide) (by decide)).1
 · obtain ⟨k,_,rfl⟩:=List.mem_map.mp hs
   exact yD _
theorem By (x:Int):∃ m:Nat,(m=16\/m=24)/\atI [D.int 16,.int 16,.int 16,.int 16,.int 16,.int 16,.int 16,.int 24] (x.fmod 8)=some (.int (m:Nat)):=by
 have h:=fm (a:=x) (b:=8) (by decide)
 obtain ⟨n,hn⟩:=Int.eq_ofNat_of_zero_le h.1
 rw [hn]
 have hn8:n < 8:=by omega
 clear h hn
 rcases (by omega:n=0\/n=1\/n=2\/n=3\/n=4\/n=5\/n=6\/n=7) with rfl | rfl | rfl | rfl | rfl | rfl | rfl | rfl
 · exact ⟨16,.inl rfl,rfl⟩
 · exact ⟨16,.inl rfl,rfl⟩
 · exact ⟨16,.inl rfl,rfl⟩
 · exact ⟨16,.inl rfl,rfl⟩
 · exact ⟨16,.inl rfl,rfl⟩
 · exact ⟨16,.inl rfl,rfl⟩
 · exact ⟨16,.inl rfl,rfl⟩
 · exact ⟨24,.inr rfl,rfl⟩
theorem Ld.mono {S t S' t' T R C:Nat} {ss:List Stp} (h:Ld S t T R C ss) (h1:S<=S') (h2:t<=t'):Ld S' t' T R C ss:=by
 obtain ⟨ok,E,hw,a,b⟩:=h
 exact ⟨ok,E,hw,by omega,by omega⟩
noncomputable def pB (ds:List D) (r:Sl):Prop:=∃ ns:List Int,ns.length<=63/\ds=[.lst (ns.map .int)]/\r=.d (.bl true)
section
variable {P:Program} {w:World} {K:PySem.W.Frag} {mg:Str->Option Value} {base:Heap} {k:Nat} {f:Addr} {fd:FuncData} {qual:Str}
set_option maxHeartbeats 4000000 in
theorem yM (F:Fun K "law" qual (top 57) f fd) (hb:∀ x ∈ aB,mg x=none) (c_l_drawn:Cal P w K mg base k "_law_drawn" iw) (c_l_ladders_table:Cal P w K mg base k "_law_ladders_table" bM) (c_taken_apart:Cal P w K mg base k "taken_apart" cn) (c_l_ladder:Cal P w K mg base k "_law_ladder" eg) (c_l_makes:Cal P w K mg base k "_law_makes" fJ) (c_l_cell:Cal P w K mg base k "_law_cell" jr):a6 P w K mg base CX0 (k + 1) f fd ["_law_script"] (spD K pB):=by
 refine fnD F um hb (by rintro _ _ ⟨_,_,rfl,_⟩; rfl) ?_
 rintro _ _ ⟨ns,hn,rfl,rfl⟩ cdv A' outer s H E b
 have nd:=um.nd
 have ex:∃ ms:List Int,ms.length<=64/\[D.int (ns.getD 1 0)]++Hy.cutD (ns.map D.int) (some 2) (some 4)=ms.map D.int:=by
   refine ⟨ns.getD 1 0 :: ((ns.take 4).drop 2),by simp; omega,?_⟩
   rw [show (2:Int)=((2:Nat):Int) from rfl,show (4:Int)=((4:Nat):Int) from rfl,Hy.uO,<- List.map_take,<- List.map_drop]
   rfl
 obtain ⟨ms,hms,ems⟩:=ex
 have lms:[D.int (ns.getD 1 0)].length + (Hy.cutD (ns.map D.int) (some 2) (some 4)).length < 1000000:=by
   have:=congrArg List.length ems
   rw [List.length_append,List.length_map] at this
   omega
 refine rX 1 2 (g:=λi=>.int (i:Nat)) (g':=λi=>.int (ms.getD i 0)) (λi τ=>∃ s1 s2 s3 s4 s5 s6,τ=[.d (.lst (ns.map .int)),s1,s2,s3,s4,s5,s6]) b nd (wQ (xs:=ms.map D.int) b (by rw [<- ems]; exact bJ (mK (bJ (cD (ae (x_call b c_l_cell (ae (aa 0) (ae af ag)) ⟨ns,1,rfl,rfl⟩) ag))) (bJ (AM (aa 0) (fg af) (fg af))) lms))) wz ⟨_,_,_,_,_,_,rfl⟩ (λi hi τ h=>?_) λτ h=>?_
 · obtain ⟨s1,s2,s3,s4,s5,s6,rfl⟩:=h
   obtain ⟨m,hm,em⟩:=By ((ms.getD i 0).fdiv 4)
   refine aO 3 nd (x_call b c_l_drawn (ae (aJ (x_call b c_l_cell (ae (aa 0) (ae af ag)) ⟨ns,0,rfl,rfl⟩) (aJ af (aa 1) (bA (mkL (by decide)))) bC) (ae (aa 2) (ae (aL (bJ (cD (ae af (ae af (ae af (ae af (ae af (ae af (ae af (ae af ag)))))))))) (aJ (aJ (aa 2) af (ft (Hy.mkD (by decide) (by decide)))) af (cg (by decide))) (bb em)) (ae af ag)))) ⟨m,_,_,0,rfl,by decide,by omega,rfl⟩) ?_
   generalize ns.getD 0 0 + 17 * (i:Int)=c
   have l0:Ld 136 144 (drT m c) (drR m c) (drC m c) (drS m c (ms.getD i 0) 0):=(zt c (ms.getD i 0) (by omega)).mono (by omega) (by omega)
   generalize ms.getD i 0=o at l0 ⊢
   refine lx (M:=λτ=>∃ T R C ss,Ld 136 144 T R C ss/\τ=[.d (.lst (ns.map .int)),.d (.int (i:Nat)),.d (.int o),.d (jM T R C ss),s4,s5,s6]) (bg (aJ (aa 2) af (cg (by decide))) af lW) (λh=>?_) (λh=>ba ⟨_,_,_,_,l0,rfl⟩) λτ h=>?_
   · have f2:=fm (a:=o.fdiv 4) (b:=2) (by decide)
     obtain ⟨C,hC⟩:=Int.eq_ofNat_of_zero_le (show 0<=2 + (o.fdiv 4).fmod 2 by omega)
     refine aO 3 nd (x_call b c_l_ladder (ae (aa 2) (ae af (ae af (ae (aJ af (aJ (aJ (aa 2) af (ft (Hy.mkD (by decide) (by decide)))) af (cg (by decide))) bC) (ae af (ae af ag)))))) ⟨o,3,3,C,8,5,by rw [hC]; rfl,by decide,by decide,by decide,rfl⟩) (ba ⟨_,_,_,_,AZ o (by omega) (by omega),rfl⟩)
   obtain ⟨T,R,C,ss,ld,rfl⟩:=h
   obtain ⟨tq,hq,cm,tn⟩:=ld.tab
   obtain ⟨ok,E',hw,hs,ht⟩:=ld
   have r1:=ok.r1
   have c1:=ok.c1
   have rT:=ok.rT
   have cT:=ok.cT
   have t7:=ok.t7
   have s7:sz2 R C<=7:=by unfold sz2; split <;> omega
   refine aO 4 nd (x_call b c_l_ladders_table (ae (aa 3) ag) ⟨E',T,R,C,ss,rfl,ok,hw,by omega,rfl⟩) ?_
   refine iD 4 (x:=tbQ (mkT R C (bwd ss))) ?_ rfl (congrArg some (oW R C (bwd ss)))
   generalize bwd ss=A at tq hq cm tn ⊢
   have lim:qF (sz2 R C) 144 136<=990000:=Nat.le_trans (vj s7) (by decide)
   obtain ⟨k1,k2,k3,k4⟩:=u9 r1 c1 s7 tn cm lim
   have hf:fuO (whM (mkT R C A) ((mkT R C A).map scL)) R C 0=none:=xt tq (tn.congr λi hi j hj=>(uJ hi hj).symm)
   have nd7:C * 137<=7 * 137:=Nat.mul_le_mul_right _ (by omega)
   have FT:cn [tbQ (mkT R C A)] (tkS R C A none):=⟨R,C,137,144,144,136,A,rfl,r1,by omega,c1,by omega,hq,by omega,cm,by decide,by rw [hf]⟩
   have FM:fJ [mkD (sz2 R C) R C (apS (sz2 R C) (bS R C A)),tbQ (mkT R C A)] (.d (.bl true)):=⟨_,_,R,C,_,A,rfl,k1,rfl,k2,k3,k4,rfl⟩
   have len:=k1.len
   have FM0:=FM
   have lR:((mkT R C A).map rwQ).length=R:=by rw [List.length_map,cI]
   refine lO 5 nd (cmp 0 (g:=λi=>rwQ ((mkT R C A).getD i [])) (f:=λi=>rwQ ((mkT R C A).getD i [])) b (bU (aa 4)) (fS (f:=rwQ) (xs:=mkT R C A) []) (by rw [lR]; omega) λi hi s0 H0 fp=>bJ (qz (b.comp s0 H0 _ fp) (ae (aa 0) ag) rW)) (.inr rfl) ?_
   rw [gK (rwQ) (mkT R C A) [] (List.length_map ..)]
   show PSs _ _ (dS K [_,_,_,_,_,.d (tbQ (mkT R C A)),_] _)
   refine aO 6 nd (x_call b c_taken_apart (ae (aa 5) ag) FT) ?_
   unfold tkS
   generalize apS (sz2 R C) (bS R C A)=us at FM len ⊢
   have ef:=wK (sz2 R C) R C us
   refine dC (PW.pt (fP (b5 (b7 (x_call b c_l_makes (ae (by rw [<- ef]; exact za (nE 6) rfl rfl) (ae (aa 4) ag)) FM))) λh=>(fX (bg (aa 5) (aa 4) (wm b (ly _) (ly _)))))) (by rw [gE]; rfl) ?_
   refine yY (t:=.t [.d (.str "ladder"),lcN (sz2 R C) R C us]) (xs:=(us.map stD).map .d) (lH (lH (nE 6) af rfl rfl rfl) af rfl rfl rfl) (bQ (ae bL (ae af (ae (bQ (ae af (ae af ag))) ag)))) rfl rfl rfl (by rw [List.length_map,List.length_map]; omega) ?_
   have e2:(us.map stD).map Nd.d++[.d (D.tup [.str "weigh",.int 0,.tup [.int 0,.int 1]])]=(us.map stD++[D.tup [.str "weigh",.int 0,.tup [.int 0,.int 1]]]).map .d:=by rw [List.map_append]; rfl
   rw [e2]
   refine yu (t:=.t [.d (.str "ladder"),.t [.d (.int (sz2 R C:Nat)),.d (.int (R:Nat)),.d (.int (C:Nat)),.l ((us.map stD++[D.tup [.str "weigh",.int 0,.tup [.int 0,.int 1]]]).map .d)]]) (lH (lH (nE 6) af rfl rfl rfl) af rfl rfl rfl) rfl rfl ?_
   refine dC (b5 (b7 (x_call b c_l_makes (ae (bJ (x_call b c_taken_apart (ae (aa 4) ag) FT) (congrArg some (wK _ _ _ _))) (ae (aa 4) ag)) FM0))) rfl ?_
   exact ba ⟨_,_,_,_,_,_,rfl⟩
 · obtain ⟨s1,s2,s3,s4,s5,s6,rfl⟩:=h
   exact aW vc rfl
end
end K31
namespace Hy
open PySem PySem.Spec PyProof.Rows L2
open Ev (D Den av)
noncomputable def Dfn (K:PySem.W.Frag) (x:Str) (st:Stmt) (f:Addr):Prop:=PySem.W.nsIn K mainGlobals x=some (some (.ref f))/\(∃ oc od kV dc pm an cd ct sl,K.lookup f=some ⟨oc,od,.func (PySem.W.fnOf x x (d9 st) (cq st) (au st) .none kV dc pm an cd ct),sl⟩/\PySem.W.codeIn K cd x=true)/\PySem.W.keepIn K (.ref f)=true
noncomputable def BdA (x:Str) (st:Stmt) (ps:List Str):Prop:=∀ (kV dc pm:Value) (an:Option Addr) (cd ct:Value) (us:List Value),us.length=ps.length->bindArgs (PySem.W.fnOf x x (d9 st) (cq st) (au st) .none kV dc pm an cd ct) ⟨us,[]⟩=pure (ps.zip us)
noncomputable def nsL (K:PySem.W.Frag):List Str->Prop
 | []=>True
 | x :: r=>PySem.W.nsIn K mainGlobals x=some none/\nsL K r
section
variable {P:Program} {w:World} {K:PySem.W.Frag} {h:Heap} {mg:Str->Option Value} {base:Heap} {x:Str} {st:Stmt} {f:Addr} {ps:List Str} {k:Nat} {Φ:List D->Sl->Prop}
theorem Dfn.of {oc:Value} {od an:Option Addr} {kV dc pm cd ct:Value} {sl:Array (Option Value)} (a:PySem.W.nsIn K mainGlobals x=some (some (.ref f))) (l:K.lookup f=some ⟨oc,od,.func (PySem.W.fnOf x x (d9 st) (cq st) (au st) .none kV dc pm an cd ct),sl⟩) (c:PySem.W.codeIn K cd x=true) (k:PySem.W.keepIn K (.ref f)=true):Dfn K x st f:=⟨a,⟨_,_,_,_,_,_,_,_,_,l,c⟩,k⟩
theorem nsL.none (X:K.In h) (G:h.Ns mainGlobals mg):∀ {l:List Str},nsL K l->∀ x ∈ l,mg x=none
 | _ :: _,z,x,m=>by
   rcases List.mem_cons.mp m with rfl | m
   · exact PySem.W.mg_none_of X G z.1
   · exact nsL.none X G z.2 x m
theorem Dfn.fn (d:Dfn K x st f) (X:K.In h) (G:h.Ns mainGlobals mg) (b:BdA x st ps):∃ fd,Fun K x x st f fd/\mg x=some (.ref f)/\PySem.W.keepIn K (.ref f)=true/\Binds K fd ps []:=by
 obtain ⟨a,⟨oc,od,kV,dc,pm,an,cd,ct,sl,l,c'⟩,q⟩:=d
 have F:=sU l c' q
 exact ⟨_,F,PySem.W.mg_of X G a,q,F.binds (b kV dc pm an cd ct)⟩
theorem Dfn.cal (d:Dfn K x st f) (X:K.In h) (G:h.Ns mainGlobals mg) (b:BdA x st ps) (o:∀ fd,Fun K x x st f fd->a6 P w K mg base CX0 k f fd ps (spD K Φ)):Cal P w K mg base k x Φ:=by
 obtain ⟨fd,F,h1,h2,h3⟩:=d.fn X G b
 exact ⟨f,fd,ps,o fd F,h1,h2,h3⟩
end
theorem bd1 {Q:List Value->Prop} (h:∀ a,Q [a]):∀ us:List Value,us.length=1->Q us:=λus e=>match us,e with | [a],_=>h a
theorem bd2 {Q:List Value->Prop} (h:∀ a b,Q [a,b]):∀ us:List Value,us.length=2->Q us:=λus e=>match us,e with | [a,b],_=>h a b
theorem bd3 {Q:List Value->Prop} (h:∀ a b c,Q [a,b,c]):∀ us:List Value,us.length=3->Q us:=λus e=>match us,e with | [a,b,c],_=>h a b c
theorem bd4 {Q:List Value->Prop} (h:∀ a b c d,Q [a,b,c,d]):∀ us:List Value,us.length=4->Q us:=λus e=>match us,e with | [a,b,c,d],_=>h a b c d
theorem bd6 {Q:List Value->Prop} (h:∀ a b c d e f,Q [a,b,c,d,e,f]):∀ us:List Value,us.length=6->Q us:=λus e=>match us,e with | [a,b,c,d,f,g],_=>h a b c d f g
section
variable {P:Program} {w:World} {K:PySem.W.Frag} {h:Heap} {mg:Str->Option Value} {base:Heap} {x:Str} {st:Stmt} {f:Addr} {ps:List Str} {k:Nat} {Φ:List D->Sl->Prop} {i:Int}
end
end Hy
namespace L2
open PySem PySem.Spec PyProof.Rows
theorem qJ {P:Program} {w:World} {K:PySem.W.Frag} {mg mb:Str->Option Value} {CX:CXT} {k:Nat} {fa a:Addr} {fd:FuncData} {x:Str} {sp:Sp} {s₁:Shared} {vs:List Value} {ns:List Int}
   (KX:K.In s₁.heap) (hns:s₁.heap.Ns mainGlobals mg) (hb:s₁.heap.Ns builtinsNs mb) (hbb:∀ x:Str,x ≠ "__name__" -> mb x=bootBuiltins x) (hlim:s₁.heap.NoLimit) (hg:s₁.gens=#[])
   (ha:s₁.heap.get? a=some { cls:=.type "list",data:=.seq vs.toArray }) (hi:IntsAre vs ns) (hl:ns.length<=sizeLine) (hr:eO k callerA)
   (hsr:s₁.heap.NoSeer) (F:∀ base:Heap,K.In base->base.Ns mainGlobals mg->base.NoSeer->a6 P w K mg base CX k fa fd [x] sp) (hbind:∀ (s:Shared) (u:Value),BindsTo s fd ⟨[u],[]⟩ [(x,u)])
   (hsp:∀ H:Hp,xj H->SqL K H a (ns.map V.int)->sp [.ref a] H (λv _=>v=.bl true) λ_ _ _=>False)
   (hCX:∀ H e s',CX [] H s₁ (λ_ _ _=>False) e s'->False) :
   codeAny (model P w) callerA (.call (.ref fa) ⟨[.ref a],[]⟩) (λr s'=>r=.ok (.ret (.bool true))/\OldK s₁.heap s'.heap/\s'.os=s₁.os/\AllBare s'.gens) s₁:=by
 have rv:=kr hi
 have lenV:=hi.length
 have core:∀ H:Hp,xj H->SqL K H a (ns.map V.int)->HOk P w H s₁.heap->(∀ b,H b ≠ none->b=a)->(H a ≠ none->K.lookup a=none) ->
     codeAny (model P w) callerA (.call (.ref fa) ⟨[.ref a],[]⟩) (λr s'=>r=.ok (.ret (.bool true))/\OldK s₁.heap s'.heap/\s'.os=s₁.os/\AllBare s'.gens) s₁:=by
   intro H hO hS hok hA hK
   have base_of:∀ {b:Addr} {o:Obj},s₁.heap.get? b=some o->H b=none->(j6 s₁.heap H).get? b=some o:=λe n=>tX e n
   have noA:∀ {b:Addr} {o:Obj} {es:Array DictEntry} {ep:Nat},s₁.heap.get? b=some o->o.data=.dict es ep->H b=none:=λ{b o es ep} e d=>by
     cases q:H b with
     | none=>rfl
     | some u=>
       have e':b=a:=hA b (by rw [q]; simp)
       subst e'
       rw [ha] at e; cases e
       have d':Data.seq vs.toArray _=Data.dict es ep:=d
       cases d'
   have nsK:∀ {b:Addr} {m:Str->Option Value},s₁.heap.Ns b m->(j6 s₁.heap H).Ns b m:=λ{b m} ⟨o,es,ep,e,d,r⟩=>⟨o,es,ep,base_of e (noA e d),d,r⟩
   have hKb:K.In (j6 s₁.heap H):=λb o e=>base_of (KX b o e) (by
     cases q:H b with
     | none=>rfl
     | some u=>
       have e':b=a:=hA b (by rw [q]; simp)
       subst e'
       rw [hK (by rw [q]; simp)] at e; cases e)
   have hSr:(j6 s₁.heap H).NoSeer:={
     statics:=let ⟨mc,a,c⟩:=hsr.statics; ⟨mc,nsK a,c⟩
     mods:=let ⟨mc,a,c⟩:=hsr.mods; ⟨mc,nsK a,c⟩
     imp:=let ⟨mc,a,c⟩:=hsr.imp; ⟨mc,nsK a,c⟩
     main:=let ⟨mg,bm,ob,g0,g1,g2,g3,g4⟩:=hsr.main; ⟨mg,bm,ob,nsK g0,g1,base_of g2 (by
       cases q:H bm with
       | none=>rfl
       | some u=>
         have e':bm=a:=hA bm (by rw [q]; simp)
         subst e'
         rw [ha] at g2; cases g2
         exact absurd (show Value.type "list" = Value.type "module" from g3) (by simp)),g3,g4⟩ }
   have hM:Mod K mg (j6 s₁.heap H):=⟨hKb,nsK hns,⟨mb,nsK hb,hbb⟩,let ⟨mc,h1,h2⟩:=hlim; ⟨mc,nsK h1,h2⟩⟩
   have e0:vt P w K mg (j6 s₁.heap H) callerA [] s₁ H:=⟨rfl,hM,λb o e=>vX e,Nat.le_of_eq (qU _ _),trivial,λb hb=>absurd (show b ∈ ([]:List Addr) from hb) (by simp),hok,.of_eq hg⟩
   refine codeAny_mono ((F _ hKb (nsK hns) hSr).run callerA [] s₁ H ⟨[.ref a],[]⟩ [.ref a] [.ref a] _ _ hr e0 (hbind s₁ (.ref a)) (.cons rfl .nil) (hsp H hO hS)) λr s' h=>?_
   cases r with
   | error e=>exact (hCX H e s' h).elim
   | ok fl=>
     cases fl with
     | next=>exact False.elim h
     | brk=>exact False.elim h
     | cont=>exact False.elim h
     | ret u=>
       obtain ⟨v,H',os,bare,un,hok',r',q⟩:=h
       have q':v=.bl true:=q
       subst q'
       obtain rfl:u=Value.bool true:=r'
       refine ⟨rfl,OldK.of_keep λb o e=>?_,os,bare⟩
       cases q:H b with
       | none=>exact un.keep b o e q (by intro z; exact absurd (show b ∈ ([]:List Addr) from z) (by simp)) (by simp)
       | some u=>
         rcases hO b with z | ⟨ob,xs,z⟩
         · rw [q] at z; cases z
         · have z2:=un.frzs b ob _ z
           obtain ⟨e1,_⟩:=hok b _ z
           obtain ⟨e2,_⟩:=hok' b _ z2
           rw [e] at e1; cases e1
           exact e2
 cases hk:K.lookup a with
 | some o=>
   have e:=KX a o hk
   rw [ha] at e
   cases e
   refine core (λ_=>none) (λ_=>.inl rfl) (.inr ⟨_,vs.toArray,_,hk,rfl,rfl,rfl,by rw [List.size_toArray,lenV]; exact hl,by simpa using rv⟩) (λb u z=>by have z':(none:Option HO)=some u:=z; cases z') (λb z=>absurd rfl z) λz=>absurd rfl z
 | none=>
   refine core (λb=>if b=a then some (.frz { cls:=.type "list",data:=.seq vs.toArray } (.lst (ns.map V.int))) else none) (λb=>?_) (.inl (.inr ⟨{ cls:=.type "list",data:=.seq vs.toArray },if_pos rfl⟩)) (λb u z=>?_) (λb z=>?_) λ_=>hk
   · by_cases hb:b=a
     · exact .inr ⟨_,_,if_pos hb⟩
     · exact .inl (if_neg hb)
   · by_cases hb:b=a
     · have z':=(if_pos hb).symm.trans z
       cases z'
       subst hb
       exact ⟨ha,by rw [List.length_map]; exact hl,vs,_,rv,ha⟩
     · have z':=(if_neg hb).symm.trans z
       cases z'
   · by_cases hb:b=a
     · exact hb
     · exact absurd (if_neg hb) z
theorem sV {l:PySem.W.OpenLaw} {n k:Nat} {q:Program} {loose:List Str} {XP:(Str->Option Value)->Heap->Prop} {YP:World->Heap->Prop} {d:DefRec} {K:Params->PySem.W.Frag} {CX:World->CXT} {sp:World->Sp} {x:Str}
   (hn:l.most=some n) (hn2:n<=sizeLine) (hdf:d.params.defaults=[]) (hr:eO k callerA)
   (hY:∀ (w:World) (h:Heap),YP w h->(K w.params).In h)
   (F:∀ (w:World) (mg:Str->Option Value) (fa:Addr) (h:Heap),(K w.params).In h->h.Ns mainGlobals mg->mg d.name=some (.ref fa) ->
     ∃ fd:FuncData,(∀ (s:Shared) (u:Value),BindsTo s fd ⟨[u],[]⟩ [(x,u)]) /\
       ∀ base:Heap,(K w.params).In base->base.Ns mainGlobals mg->base.NoSeer->a6 l.prog w (K w.params) mg base (CX w) k fa fd [x] (sp w))
   (hI:importsNone q=true) (hsp:∀ (w:World) (H:Hp) (a:Addr) (ns:List Int),ns.length<=n->xj H->SqL (K w.params) H a (ns.map V.int)->sp w [.ref a] H (λv _=>v=.bl true) λ_ _ _=>False)
   (hCX:∀ (w:World) (H:Hp) (s:Shared) (e:Value) (s':Shared),CX w [] H s (λ_ _ _=>False) e s'->False) :
   PySem.W.WalkO q loose XP YP l.row.toRowW d [] (λf vs=>PySem.call f vs):=by
 refine Att.mU hn hdf λw s₀ s₁ mg mb fa o pm cd doc a vs ns G Y ho hd hcd hmg hobj hints hlen hg=>?_
 have KX:=hY w _ Y
 obtain ⟨fd,hb,hF⟩:=F w mg fa _ KX G.T.g hmg
 exact qJ KX G.T.g G.T.b G.T.builtins G.T.nolimit hg hobj hints (Nat.le_trans hlen hn2) hr (G.T.seer hI) hF hb (λH hO hS=>hsp w H a ns hlen hO hS) λH e s'=>hCX w H s₁ e s'
end L2
namespace K31
open PySem PySem.Spec PyProof.Rows L2 Hy
set_option maxHeartbeats 0 in
theorem all_mk {l:PySem.W.OpenLaw} {w:World} {K:PySem.W.Frag} {h:Heap} {mg:Str->Option Value} {fa f0 f1 f2 f3 f4 f5 f6 f7 f8 f9 f10 f11 f12 f13 f14 f15 f16 f17 f18 f19 f20 f21 f22 f23 f24 f25 f26 f27 f28 f29 f30 f31 f32 f33 f34 f35 f36 f37 f38 f39 f40 f41 f42 f43 f44:Addr} {t0:Tok} {ab ac:Addr} {tb1 tb2 tc1 tc2:Tok} {nb nc:Nat} {db dc:Option Addr} {sb sc:Array (Option Value)} (X:K.In h) (G:h.Ns mainGlobals mg) (hfa:mg "law" = some (.ref fa))
   (h0:Dfn K "_law_numbers" (top 44) f0) (h1:Dfn K "_law_sizes" (top 53) f1) (h2:Dfn K "_law_divisor" (top 45) f2) (h3:Dfn K "_law_made" (top 46) f3) (h4:Dfn K "_law_ten" (top 42) f4) (h5:Dfn K "_law_weight" (top 48) f5) (h6:Dfn K "_law_ladder" (top 49) f6) (h7:Dfn K "_law_drawn" (top 54) f7) (h8:Dfn K "_law_times" (top 51) f8) (h9:Dfn K "_law_plus" (top 50) f9) (h10:Dfn K "_law_ladders_table" (top 52) f10) (h11:Dfn K "is_short_list" (top 17) f11) (h12:Dfn K "is_whole" (top 7) f12) (h13:Dfn K "common_divisor" (top 9) f13) (h14:Dfn K "is_fraction" (top 8) f14) (h15:Dfn K "is_row" (top 18) f15) (h16:Dfn K "is_table" (top 19) f16) (h17:Dfn K "look_table" (top 20) f17) (h18:Dfn K "choices_of" (top 21) f18) (h19:Dfn K "along_last_row" (top 31) f19) (h20:Dfn K "one_row_more" (top 30) f20) (h21:Dfn K "all_determinants" (top 29) f21) (h22:Dfn K "whole_row" (top 26) f22) (h23:Dfn K "whole_rows" (top 27) f23) (h24:Dfn K "scale_of" (top 25) f24) (h25:Dfn K "first_under" (top 28) f25) (h26:Dfn K "column_of" (top 23) f26) (h27:Dfn K "columns_of" (top 22) f27) (h28:Dfn K "lift_row" (top 39) f28) (h29:Dfn K "product_of" (top 13) f29) (h30:Dfn K "in_lowest_terms" (top 10) f30) (h31:Dfn K "quotient_of" (top 14) f31) (h32:Dfn K "sum_of" (top 11) f32) (h33:Dfn K "rest_of" (top 12) f33) (h34:Dfn K "take_off" (top 40) f34) (h35:Dfn K "clear_column" (top 38) f35) (h36:Dfn K "turned_step" (top 33) f36) (h37:Dfn K "steps_of" (top 37) f37) (h38:Dfn K "squared" (top 36) f38) (h39:Dfn K "taken_apart" (top 35) f39) (h40:Dfn K "_law_whole" (top 47) f40) (h41:Dfn K "_law_is_step" (top 55) f41) (h42:Dfn K "_law_makes" (top 56) f42) (h43:Dfn K "_law_cell" (top 43) f43) (h44:Dfn K "law" (top 57) f44) (hz:nsL K aB) (z0:PySem.W.nsIn K mainGlobals "MOST" = some (some (.int 7 t0))) (zb:PySem.W.nsIn K mainGlobals "NOUGHT" = some (some (.ref ab))) (zl:K.lookup ab=some ⟨.type "tuple",db,.seq #[.int 0 tb1,.int 1 tb2] nb,sb⟩) (zc:PySem.W.nsIn K mainGlobals "ONE" = some (some (.ref ac))) (zm:K.lookup ac=some ⟨.type "tuple",dc,.seq #[.int 1 tc1,.int 1 tc2] nc,sc⟩) (htr:l.prog.given.tree=none) :
   ∃ fd:FuncData,(∀ (s:Shared) (v:Value),BindsTo s fd ⟨[v],[]⟩ [("_law_script",v)])/\∀ base:Heap,K.In base->base.Ns mainGlobals mg->base.NoSeer->a6 l.prog w K mg base CX0 48 fa fd ["_law_script"] (spD K pB):=by
 have hb:=hz.none X G
 have y_MOST:∃ t,mg "MOST" = some (.int 7 t):=⟨_,PySem.W.mg_of X G z0⟩
 have y_NOUGHT:Mk1 K mg "NOUGHT" 0 1:=⟨ab,PySem.W.mg_of X G zb,λH=>.inr ⟨_,_,_,zl,rfl,rfl,(by show 2<=sizeLine; decide),.cons ⟨_,rfl⟩ (.cons ⟨_,rfl⟩ .nil)⟩⟩
 have y_ONE:Mk1 K mg "ONE" 1 1:=⟨ac,PySem.W.mg_of X G zc,λH=>.inr ⟨_,_,_,zm,rfl,rfl,(by show 2<=sizeLine; decide),.cons ⟨_,rfl⟩ (.cons ⟨_,rfl⟩ .nil)⟩⟩
 obtain ⟨a,⟨oc,od,kV,dc,pm,an,cd,ct,sl,l0,c⟩,r⟩:=h44
 cases hfa.symm.trans (PySem.W.mg_of X G a)
 refine ⟨PySem.W.fnOf "law" "law" (d9 (top 57)) (cq (top 57)) (au (top 57)) .none kV dc pm an cd ct,λs v=>.of_eq rfl,λbase _ _ sr=>?_⟩
 have pyl:Pyl l.prog base:=⟨sr,htr⟩
 have c_l_numbers:Cal l.prog w K mg base 41 "_law_numbers" c8:=h0.cal (ps:=["_law_cell_here","_law_bases"]) X G (λ_ _ _ _ _ _=>Hy.bd2 λ_ _=>rfl) λ_ F=>lG (k:=40) F hb
 have c_l_sizes:Cal l.prog w K mg base 42 "_law_sizes" hU:=h1.cal (ps:=["_law_cell_here","_law_most"]) X G (λ_ _ _ _ _ _=>Hy.bd2 λ_ _=>rfl) λ_ F=>nF (k:=41) F hb c_l_numbers
 have c_l_divisor:Cal l.prog w K mg base 41 "_law_divisor" cZ:=h2.cal (ps:=["_law_one","_law_other"]) X G (λ_ _ _ _ _ _=>Hy.bd2 λ_ _=>rfl) λ_ F=>k7 (k:=40) F hb
 have c_l_made:Cal l.prog w K mg base 42 "_law_made" ff:=h3.cal (ps:=["_law_top","_law_bottom"]) X G (λ_ _ _ _ _ _=>Hy.bd2 λ_ _=>rfl) λ_ F=>qW (k:=41) F hb pyl (by decide) c_l_divisor
 have c_l_ten:Cal l.prog w K mg base 41 "_law_ten" i5:=h4.cal (ps:=["_law_many"]) X G (λ_ _ _ _ _ _=>Hy.bd1 λ_=>rfl) λ_ F=>uw (k:=40) F hb
 have c_l_weight:Cal l.prog w K mg base 43 "_law_weight" gn:=h5.cal (ps:=["_law_part","_law_figures"]) X G (λ_ _ _ _ _ _=>Hy.bd2 λ_ _=>rfl) λ_ F=>mZ (k:=42) F hb c_l_made (c_l_ten.mono (by decide))
 have c_l_ladder:Cal l.prog w K mg base 44 "_law_ladder" eg:=h6.cal (ps:=["_law_cell_here","_law_tracks","_law_rows","_law_columns","_law_many","_law_figures"]) X G (λ_ _ _ _ _ _=>Hy.bd6 λ_ _ _ _ _ _=>rfl) λ_ F=>mQ (k:=43) F hb (c_l_numbers.mono (by decide)) c_l_weight (c_l_ten.mono (by decide))
 have c_l_drawn:Cal l.prog w K mg base 45 "_law_drawn" iw:=h7.cal (ps:=["_law_one","_law_other","_law_most","_law_figures"]) X G (λ_ _ _ _ _ _=>Hy.bd4 λ_ _ _ _=>rfl) λ_ F=>nL (k:=44) F hb (c_l_sizes.mono (by decide)) c_l_ladder
 have c_l_times:Cal l.prog w K mg base 43 "_law_times" iC:=h8.cal (ps:=["_law_one","_law_other"]) X G (λ_ _ _ _ _ _=>Hy.bd2 λ_ _=>rfl) λ_ F=>oH (k:=42) F hb c_l_made
 have c_l_plus:Cal l.prog w K mg base 43 "_law_plus" jn:=h9.cal (ps:=["_law_one","_law_other"]) X G (λ_ _ _ _ _ _=>Hy.bd2 λ_ _=>rfl) λ_ F=>qN (k:=42) F hb c_l_made
 have c_l_ladders_table:Cal l.prog w K mg base 44 "_law_ladders_table" bM:=h10.cal (ps:=["_law_ladder_here"]) X G (λ_ _ _ _ _ _=>Hy.bd1 λ_=>rfl) λ_ F=>gj (k:=43) F hb c_l_times c_l_plus
 have c_is_short_list:Cal l.prog w K mg base 41 "is_short_list" bW:=h11.cal (ps:=["thing"]) X G (λ_ _ _ _ _ _=>Hy.bd1 λ_=>rfl) λ_ F=>ir (k:=40) F hb y_MOST
 have c_is_whole:Cal l.prog w K mg base 41 "is_whole" gq:=h12.cal (ps:=["thing"]) X G (λ_ _ _ _ _ _=>Hy.bd1 λ_=>rfl) λ_ F=>m9 (k:=40) F hb
 have c_common_divisor:Cal l.prog w K mg base 41 "common_divisor" a9:=h13.cal (ps:=["one","other"]) X G (λ_ _ _ _ _ _=>Hy.bd2 λ_ _=>rfl) λ_ F=>gD (k:=40) F hb
 have c_is_fraction:Cal l.prog w K mg base 42 "is_fraction" dk:=h14.cal (ps:=["thing"]) X G (λ_ _ _ _ _ _=>Hy.bd1 λ_=>rfl) λ_ F=>jo (k:=41) F hb c_is_whole c_common_divisor
 have c_is_row:Cal l.prog w K mg base 43 "is_row" jm:=h15.cal (ps:=["thing"]) X G (λ_ _ _ _ _ _=>Hy.bd1 λ_=>rfl) λ_ F=>qL (k:=42) F hb (c_is_short_list.mono (by decide)) c_is_fraction
 have c_is_table:Cal l.prog w K mg base 44 "is_table" gf:=h16.cal (ps:=["thing"]) X G (λ_ _ _ _ _ _=>Hy.bd1 λ_=>rfl) λ_ F=>m5 (k:=43) F hb (c_is_short_list.mono (by decide)) c_is_row
 have c_look_table:Cal l.prog w K mg base 45 "look_table" eC:=h17.cal (ps:=["thing"]) X G (λ_ _ _ _ _ _=>Hy.bd1 λ_=>rfl) λ_ F=>jS (k:=44) F hb c_is_table
 have c_choices_of:Cal l.prog w K mg base 41 "choices_of" d8:=h18.cal (ps:=["many","size"]) X G (λ_ _ _ _ _ _=>Hy.bd2 λ_ _=>rfl) λ_ F=>jZ (k:=40) F hb
 have c_along_last_row:Cal l.prog w K mg base 41 "along_last_row" (ck l.prog w):=h19.cal (ps:=["known","row","columns"]) X G (λ_ _ _ _ _ _=>Hy.bd3 λ_ _ _=>rfl) λ_ F=>gG (k:=40) F hb
 have c_one_row_more:Cal l.prog w K mg base 42 "one_row_more" (cU l.prog w):=h20.cal (ps:=["known","row","column_choices"]) X G (λ_ _ _ _ _ _=>Hy.bd3 λ_ _ _=>rfl) λ_ F=>iQ (k:=41) F hb c_along_last_row
 have c_all_determinants:Cal l.prog w K mg base 43 "all_determinants" (bX l.prog w):=h21.cal (ps:=["rows"]) X G (λ_ _ _ _ _ _=>Hy.bd1 λ_=>rfl) λ_ F=>fM (k:=42) F hb (c_choices_of.mono (by decide)) c_one_row_more
 have c_whole_row:Cal l.prog w K mg base 41 "whole_row" e7:=h22.cal (ps:=["row","scale"]) X G (λ_ _ _ _ _ _=>Hy.bd2 λ_ _=>rfl) λ_ F=>kS (k:=40) F hb
 have c_whole_rows:Cal l.prog w K mg base 42 "whole_rows" er:=h23.cal (ps:=["table","scales"]) X G (λ_ _ _ _ _ _=>Hy.bd2 λ_ _=>rfl) λ_ F=>jT (k:=41) F hb c_whole_row
 have c_scale_of:Cal l.prog w K mg base 42 "scale_of" fZ:=h24.cal (ps:=["row"]) X G (λ_ _ _ _ _ _=>Hy.bd1 λ_=>rfl) λ_ F=>mD (k:=41) F hb c_common_divisor
 have c_first_under:Cal l.prog w K mg base 44 "first_under" de:=h25.cal (ps:=["table","bound"]) X G (λ_ _ _ _ _ _=>Hy.bd2 λ_ _=>rfl) λ_ F=>jw (k:=43) F hb c_all_determinants (c_whole_rows.mono (by decide)) (c_scale_of.mono (by decide))
 have c_column_of:Cal l.prog w K mg base 41 "column_of" eW:=h26.cal (ps:=["table","j"]) X G (λ_ _ _ _ _ _=>Hy.bd2 λ_ _=>rfl) λ_ F=>lY (k:=40) F hb
 have c_columns_of:Cal l.prog w K mg base 42 "columns_of" dW:=h27.cal (ps:=["table"]) X G (λ_ _ _ _ _ _=>Hy.bd1 λ_=>rfl) λ_ F=>jW (k:=41) F hb c_column_of
 have c_product_of:Cal l.prog w K mg base 42 "product_of" cG:=h29.cal (ps:=["one","other"]) X G (λ_ _ _ _ _ _=>Hy.bd2 λ_ _=>rfl) λ_ F=>j8 (k:=41) F hb pyl (by decide) c_common_divisor
 have c_in_lowest_terms:Cal l.prog w K mg base 42 "in_lowest_terms" b8:=h30.cal (ps:=["top","bottom"]) X G (λ_ _ _ _ _ _=>Hy.bd2 λ_ _=>rfl) λ_ F=>gi (k:=41) F hb pyl (by decide) c_common_divisor
 have c_quotient_of:Cal l.prog w K mg base 43 "quotient_of" df:=h31.cal (ps:=["one","other"]) X G (λ_ _ _ _ _ _=>Hy.bd2 λ_ _=>rfl) λ_ F=>jh (k:=42) F hb c_product_of c_in_lowest_terms
 have c_sum_of:Cal l.prog w K mg base 42 "sum_of" jz:=h32.cal (ps:=["one","other"]) X G (λ_ _ _ _ _ _=>Hy.bd2 λ_ _=>rfl) λ_ F=>qT (k:=41) F hb pyl (by decide) c_common_divisor
 have c_rest_of:Cal l.prog w K mg base 43 "rest_of" iE:=h33.cal (ps:=["one","other"]) X G (λ_ _ _ _ _ _=>Hy.bd2 λ_ _=>rfl) λ_ F=>nv (k:=42) F hb c_sum_of
 obtain ⟨fdl,Fl,ml,kl,bl⟩:=h28.fn (ps:=["grid","i"]) X G (λ_ _ _ _ _ _=>Hy.bd2 λ_ _=>rfl)
 have c_lift_row:nN l.prog w K mg base 44 "lift_row" (spG K gd):=⟨_,_,_,l5 (k:=43) Fl hb y_NOUGHT y_ONE,ml,kl,bl⟩
 obtain ⟨fdt,Ft,mt,kt,bt⟩:=h34.fn (ps:=["grid","i","k"]) X G (λ_ _ _ _ _ _=>Hy.bd3 λ_ _ _=>rfl)
 have c_take_off:nN l.prog w K mg base 44 "take_off" (spG K gk):=⟨_,_,_,mz (k:=43) Ft hb c_quotient_of c_rest_of (c_product_of.mono (by decide)),mt,kt,bt⟩
 obtain ⟨fdc,Fc,mc,kc,bc⟩:=h35.fn (ps:=["grid","k"]) X G (λ_ _ _ _ _ _=>Hy.bd2 λ_ _=>rfl)
 have c_clear_column:nN l.prog w K mg base 45 "clear_column" (spG K cO):=⟨_,_,_,iR (k:=44) Fc hb y_NOUGHT c_lift_row c_take_off,mc,kc,bc⟩
 have c_turned_step:Cal l.prog w K mg base 41 "turned_step" dn:=h36.cal (ps:=["step"]) X G (λ_ _ _ _ _ _=>Hy.bd1 λ_=>rfl) λ_ F=>jH (k:=40) F hb
 have c_steps_of:Cal l.prog w K mg base 46 "steps_of" gy:=h37.cal (ps:=["table"]) X G (λ_ _ _ _ _ _=>Hy.bd1 λ_=>rfl) λ_ F=>mJ (k:=45) F hb c_clear_column (c_columns_of.mono (by decide)) (c_turned_step.mono (by decide))
 have c_squared:Cal l.prog w K mg base 41 "squared" hV:=h38.cal (ps:=["table","size"]) X G (λ_ _ _ _ _ _=>Hy.bd2 λ_ _=>rfl) λ_ F=>oK (k:=40) F hb y_NOUGHT
 have c_taken_apart:Cal l.prog w K mg base 47 "taken_apart" cn:=h39.cal (ps:=["table"]) X G (λ_ _ _ _ _ _=>Hy.bd1 λ_=>rfl) λ_ F=>jB (k:=46) F hb (c_look_table.mono (by decide)) (c_first_under.mono (by decide)) c_steps_of (c_squared.mono (by decide))
 have c_l_whole:Cal l.prog w K mg base 41 "_law_whole" fI:=h40.cal (ps:=["_law_thing"]) X G (λ_ _ _ _ _ _=>Hy.bd1 λ_=>rfl) λ_ F=>oj (k:=40) F hb
 have c_l_is_step:Cal l.prog w K mg base 42 "_law_is_step" fj:=h41.cal (ps:=["_law_step","_law_tracks"]) X G (λ_ _ _ _ _ _=>Hy.bd2 λ_ _=>rfl) λ_ F=>kZ (k:=41) F hb c_l_whole c_l_divisor
 have c_l_makes:Cal l.prog w K mg base 45 "_law_makes" fJ:=h42.cal (ps:=["_law_found","_law_table"]) X G (λ_ _ _ _ _ _=>Hy.bd2 λ_ _=>rfl) λ_ F=>nr (k:=44) F hb c_l_ladders_table (c_l_is_step.mono (by decide)) (c_l_whole.mono (by decide))
 have c_l_cell:Cal l.prog w K mg base 41 "_law_cell" jr:=h43.cal (ps:=["_law_script","_law_k"]) X G (λ_ _ _ _ _ _=>Hy.bd2 λ_ _=>rfl) λ_ F=>qK (k:=40) F hb
 exact yM (k:=47) (sU l0 c r) hb (c_l_drawn.mono (by decide)) (c_l_ladders_table.mono (by decide)) c_taken_apart (c_l_ladder.mono (by decide)) (c_l_makes.mono (by decide)) (c_l_cell.mono (by decide))
theorem walk {l:PySem.W.OpenLaw} {q:Program} {loose:List Str} {XP:(Str->Option Value)->Heap->Prop} {YP:World->Heap->Prop} {d:DefRec} {K:Params->PySem.W.Frag} (hn:l.most=some 63) (hdf:d.params.defaults=[]) (hI:importsNone q=true)
   (hY:∀ (w:World) (h:Heap),YP w h->(K w.params).In h)
   (F:∀ (w:World) (mg:Str->Option Value) (fa:Addr) (h:Heap),(K w.params).In h->h.Ns mainGlobals mg->mg d.name=some (.ref fa) ->
     ∃ fd:FuncData,(∀ (s:Shared) (u:Value),BindsTo s fd ⟨[u],[]⟩ [("_law_script",u)])/\∀ base:Heap,(K w.params).In base->base.Ns mainGlobals mg->base.NoSeer->a6 l.prog w (K w.params) mg base CX0 48 fa fd ["_law_script"] (spD (K w.params) pB)) :
   PySem.W.WalkO q loose XP YP l.row.toRowW d [] (λf vs=>PySem.call f vs):=
 L2.sV (n:=63) (k:=48) (x:="_law_script") (CX:=λ_=>CX0) (sp:=λw=>spD (K w.params) pB) hn (by decide) hdf ⟨rfl,by decide,by decide⟩ hY F hI
   (λw H a ns hl _ hS=>vP (λns h=>⟨ns,h,rfl,rfl⟩) H a ns hl hS) λ_ _ _ _ _ z=>z
end K31
open PySem PySem.W PyProof.Rows
namespace PySem.W.Fast
theorem tw14076747826700912721:True:=⟨⟩
theorem tw5787464033468689182:True:=⟨⟩
theorem tw14147831052700284409:True:=⟨⟩
theorem tw10733446189412889947:True:=⟨⟩
theorem tw17681384236689018595:True:=⟨⟩
theorem tw116800210128258991:True:=⟨⟩
theorem tw15653397571618724341:True:=⟨⟩
theorem tw16079455287812542502:True:=⟨⟩
theorem tw13209792588579171830:True:=⟨⟩
theorem tw12075564733052034577:True:=⟨⟩
theorem tw3496599445879080712:True:=⟨⟩
theorem tw3840769441553513730:True:=⟨⟩
theorem tw607257915527475852:True:=⟨⟩
theorem tw7118834744869457841:True:=⟨⟩
theorem tw449605176251055489:True:=⟨⟩
theorem tw3715652995587179634:True:=⟨⟩
theorem tw11178620838765897162:True:=⟨⟩
theorem tw4177453074312203203:True:=⟨⟩
theorem tw4988063348300209446:True:=⟨⟩
theorem tw3609664597742420273:True:=⟨⟩
theorem tw3450132703115625059:True:=⟨⟩
theorem tw15470827230499424063:True:=⟨⟩
theorem tw1667117084794144828:True:=⟨⟩
theorem tw18417407316776471087:True:=⟨⟩
theorem tw3344655314065443273:True:=⟨⟩
theorem tw1773739291229117640:True:=⟨⟩
theorem tw6746295721700313296:True:=⟨⟩
theorem tw15165417417595054505:True:=⟨⟩
theorem tw5967849385296299227:True:=⟨⟩
theorem tw10871375212878455535:True:=⟨⟩
theorem tw16112546983164317648:True:=⟨⟩
theorem tw9157098197257657966:True:=⟨⟩
theorem tw6951681000282097579:True:=⟨⟩
theorem tw6950677448698292713:True:=⟨⟩
theorem tw2565611590745133141:True:=⟨⟩
theorem tw927080839554379281:True:=⟨⟩
theorem tw16757072215431033480:True:=⟨⟩
theorem tw6144559537057219563:True:=⟨⟩
theorem tw12523682177907260365:True:=⟨⟩
theorem tw11074187327159252584:True:=⟨⟩
theorem tw5831253849719683838:True:=⟨⟩
theorem tw17673473442079347653:True:=⟨⟩
theorem tw1590404651010065361:True:=⟨⟩
theorem tw18236027574432654627:True:=⟨⟩
theorem tw4335114868699549028:True:=⟨⟩
theorem tw274738389342117176:True:=⟨⟩
theorem tw1138884704370407999:True:=⟨⟩
theorem tw4620159894312047169:True:=⟨⟩
theorem tw304018941987602840:True:=⟨⟩
theorem tw1675314546322177706:True:=⟨⟩
theorem tw12252831580502538160:True:=⟨⟩
theorem tw16994227903196144580:True:=⟨⟩
theorem tw15661534745843420604:True:=⟨⟩
end PySem.W.Fast
set_option maxRecDepth 100000 in
set_option maxHeartbeats 0 in
theorem PySem.Challenge.cw_signsmooth_k31_whole_ladders_again_holds : PySem.Challenge.rw_signsmooth_k31_whole_ladders_again.Holds := by
 w_on; o_law; k_head; (case hw=>w_witness2)
 k_fill
 refine K31.walk (l:=PySem.Challenge.rw_signsmooth_k31_whole_ladders_again) rfl rfl (by decide +kernel) (λw h Y=>PySem.W.kIn_of Y) ?F
 case F=>
   intro w mg fa h KX G hmg
   refine' K31.all_mk KX G hmg (.of ?_ ?_ ?_ ?_) (.of ?_ ?_ ?_ ?_) (.of ?_ ?_ ?_ ?_) (.of ?_ ?_ ?_ ?_) (.of ?_ ?_ ?_ ?_) (.of ?_ ?_ ?_ ?_) (.of ?_ ?_ ?_ ?_) (.of ?_ ?_ ?_ ?_) (.of ?_ ?_ ?_ ?_) (.of ?_ ?_ ?_ ?_) (.of ?_ ?_ ?_ ?_) (.of ?_ ?_ ?_ ?_) (.of ?_ ?_ ?_ ?_) (.of ?_ ?_ ?_ ?_) (.of ?_ ?_ ?_ ?_) (.of ?_ ?_ ?_ ?_) (.of ?_ ?_ ?_ ?_) (.of ?_ ?_ ?_ ?_) (.of ?_ ?_ ?_ ?_) (.of ?_ ?_ ?_ ?_) (.of ?_ ?_ ?_ ?_) (.of ?_ ?_ ?_ ?_) (.of ?_ ?_ ?_ ?_) (.of ?_ ?_ ?_ ?_) (.of ?_ ?_ ?_ ?_) (.of ?_ ?_ ?_ ?_) (.of ?_ ?_ ?_ ?_) (.of ?_ ?_ ?_ ?_) (.of ?_ ?_ ?_ ?_) (.of ?_ ?_ ?_ ?_) (.of ?_ ?_ ?_ ?_) (.of ?_ ?_ ?_ ?_) (.of ?_ ?_ ?_ ?_) (.of ?_ ?_ ?_ ?_) (.of ?_ ?_ ?_ ?_) (.of ?_ ?_ ?_ ?_) (.of ?_ ?_ ?_ ?_) (.of ?_ ?_ ?_ ?_) (.of ?_ ?_ ?_ ?_) (.of ?_ ?_ ?_ ?_) (.of ?_ ?_ ?_ ?_) (.of ?_ ?_ ?_ ?_) (.of ?_ ?_ ?_ ?_) (.of ?_ ?_ ?_ ?_) (.of ?_ ?_ ?_ ?_) ⟨?_,?_,?_,?_,?_,?_,?_,?_,?_,?_,?_,?_,?_,?_,?_,?_,?_,?_,trivial⟩ ?_ ?_ ?_ ?_ ?_ rfl
   all_goals try k_is
#print axioms PySem.Challenge.cw_signsmooth_k31_whole_ladders_again_holds
