import PyProof.Rows.All
import Wide.All
import OpenK.AllK
import Wide.FinOn
import Lean
import PyProof.EqAt
import PyProof.EqKinds
import PyProof.TupleCall
import PyProof.DictKeyH
import PyProof.DictFindH
import PySem.Challenge.RW_signsmooth_k25_families_listed
set_option genSizeOf false
set_option bootstrap.genMatcherCode false
set_option Elab.async false
set_option linter.all false
set_option maxRecDepth 100000
set_option exponentiation.threshold 4000
namespace Hx
open PySem PySem.Spec PyProof.Rows
theorem jm:entryFor table "proto.unchain" = some Builtin.«proto.unchain»:=entryFor_of_tree (by kernel_rfl)
section
variable {prog:Program} {w:World} {A:Around} {E:Value->Shared->Prop} {s:Shared}
theorem mK {α:Type} {a h:Addr} {oa oh:Obj} {us vs:Array Value} {Q:α->Shared->Prop} (hh:A.handled=some (.ref h)) (hne:h ≠ a) (ha:s.heap.get? a=some oa) (hda:oa.data=.fields us) (hsz:2 < us.size)
   (ho:s.heap.get? h=some oh) (hd:oh.data=.fields vs) (h2:vs[2]?=some .none)
   (q:E (.ref a) { s with heap:=s.heap.update a (Obj.mapFields (·.setIfInBounds 2 (.ref h))) }):wpAny (model prog w) A (raiseNew (.ref a):Sem α) Q E s:=by
 unfold raiseNew; refine wpAny_bind (wpAny_handled ?_); rw [hh]
 dsimp only
 rw [if_pos (show (Value.ref h != Value.ref a)=true by simp [hne])]
 refine wpAny_bind (wpAny_holding (wpAny_runValue (codeAny_builtin jm ?_)))
 unfold Builtin.«proto.unchain»
 dsimp only
 refine wpAny_bind (wpAny_field ho hd h2 ?_)
 rw [if_pos (show (Value.none == Value.none)=true by decide)]
 refine wpAny_pure ?_
 show wpAny _ A (do let _ <- updateField a 2 (.ref h); throw (Value.ref a)) _ _ _
 unfold updateField
 refine wpAny_bind (wpAny_bind (wpAny_load ha ?_))
 rw [hda]
 dsimp only
 rw [if_pos hsz]
 exact wpAny_update ha (wpAny_throw q)
theorem n9 {r h:Addr} {v left step:Int} {oh:Obj} {vs:Array Value} {Q:Option Value->Shared->Prop} (hh:A.handled=some (.ref h)) (ho:s.heap.get? h=some oh) (hd:oh.data=.fields vs) (h2:vs[2]?=some .none)
   (hr:IsRangeIter s.heap r v left step) (hl:left<=0) (k:∀ h',Heap.ExtBut r s.heap h'->Q none { s with heap:=h' }):wpAny (model prog w) A (pyNext (.ref r)) Q E s:=by
 have ty:s.TypeIs (.ref r) "range_iterator":=⟨_,hr,rfl⟩
 have hlt:=Heap.lt_size ho
 have fl:∀ {α:Type} {B:Around} {F:Value->Shared->Prop} {R:α->Shared->Prop} (i:Nat) (y:Int) {f:Value->Sem α},(#[rawInt v,rawInt left,rawInt step]:Array Value)[i]?=some (rawInt y)->wpAny (model prog w) B (f (rawInt y)) R F s->wpAny (model prog w) B (field (.ref r) i >>= f) R F s:=by
   intro α B F R i y f e q
   exact wpAny_bind (wpAny_field hr rfl e q)
 unfold pyNext
 refine wpAny_bind (wpAny_attempt (wpAny_callSpecial?_slot (name:=Str.ofString "__next__") ty F.slot_range_iterator_next (wpAny_call_entry F.slot_range_iterator_next ty F.entry_range_iterator_next (fl 0 v rfl (fl 1 left rfl (fl 2 step rfl ?_))) (F.args_range_iterator_next_1 _))))
 show wpAny (model prog w) A.in1 (if left<=0 then _ else _) _ _ s
 rw [if_pos hl]
 refine wpAny_bind (wpAny_rule (wpAny_bind ?_))
 show wpAny _ _ (do let e <- newExc (.type "StopIteration") []; _) _ _ _
 refine wpAny_bind ?_
 simp only [newExc,newTuple]
 refine wpAny_bind (wpAny_newObj_type (wpAny_bind (m:=firstArgMember _ _) (wpAny_of_eq (a:=.none) (by first | rfl | (simp only [firstArgMember]; rfl)) (wpAny_newObj_type ?_ (by size_fits)))) (by size_fits))
 have hg:((s.heap.push { cls:=.type "tuple",data:=.seq ([]:List Value).toArray }).push { cls:=.type "StopIteration",data:=.fields (#[Value.ref s.heap.objs.size,.none,.none,.none,.bool false,.none]++ownMembersOf (.type "StopIteration") []) }).get? (s.heap.push { cls:=.type "tuple",data:=.seq ([]:List Value).toArray }).objs.size
     = some { cls:=.type "StopIteration",data:=.fields (#[Value.ref s.heap.objs.size,.none,.none,.none,.bool false,.none]++ownMembersOf (.type "StopIteration") []) }:=Heap.get?_push_size _ rfl
 refine mK (h:=h) (A:=A.in1) hh ?_ hg rfl (by rw [Array.size_append]; exact Nat.lt_of_lt_of_le (by decide:2 < 6) (Nat.le_add_right _ _)) (Heap.get?_push_of_some _ (Heap.get?_push_of_some _ ho)) hd h2 ?_
 · intro z
   rw [Heap.size_push] at z
   exact absurd hlt (by rw [z]; exact Nat.not_lt.mpr (Nat.le_succ _))
 have hu:=Heap.get?_update_self (Obj.mapFields (·.setIfInBounds 2 (.ref h))) hg rfl
 refine wpAny_bind (wpAny_isInstance (T:="StopIteration") (b:=true) ⟨_,hu,rfl⟩ isSubtype_stop ?_)
 refine wpAny_pure (k _ λb o hb e=>?_)
 have bl:=Heap.lt_size e
 rw [Heap.get?_update_other _ _ (by intro z; rw [Heap.size_push] at z; exact absurd bl (by rw [<- z]; exact Nat.not_lt.mpr (Nat.le_succ _)))]
 exact Heap.get?_push_of_some _ (Heap.get?_push_of_some _ e)
end
end Hx
set_option linter.all false
set_option maxRecDepth 100000
namespace L2
open PySem PySem.Spec PyProof.Rows
noncomputable abbrev Key:=Sum Int Str
noncomputable def vn:Key->Value->Bool
 | .inl k,v=>Value.isInt k v
 | .inr x,v=>Value.isStrOf x v
noncomputable def y3 (w:World):Key->Int
 | .inl k=>hashInt k
 | .inr x=>hashStr w x
theorem aY:∀ {k:Key} {v:Value},vn k v=true->(∃ i t,k=Sum.inl i/\v=Value.int i t)\/(∃ x t,k=Sum.inr x/\v=Value.str x t)
 | .inl i,v,h=>by
   obtain ⟨t,e⟩:=Value.isInt_shape (k:=i) (v:=v) h
   exact .inl ⟨i,t,rfl,e⟩
 | .inr x,v,h=>by
   obtain ⟨t,e⟩:=Value.isStrOf_shape (x:=x) (v:=v) h
   exact .inr ⟨x,t,rfl,e⟩
theorem xk (a b:Int):decide ((Sum.inl a:Key)=Sum.inl b)=(a == b):=by
 by_cases e:a=b
 · subst e; simp
 · have h:¬ (Sum.inl a:Key)=Sum.inl b:=λq=>e (Sum.inl.inj q)
   rw [decide_eq_false h]
   exact (beq_eq_false_iff_ne.mpr e).symm
theorem vU (a b:Str):decide ((Sum.inr a:Key)=Sum.inr b)=decide (a=b):=by
 by_cases e:a=b
 · subst e; simp
 · have h:¬ (Sum.inr a:Key)=Sum.inr b:=λq=>e (Sum.inr.inj q)
   rw [decide_eq_false h,decide_eq_false e]
theorem wa (a:Int) (b:Str):decide ((Sum.inl a:Key)=Sum.inr b)=false:=decide_eq_false (λq=>nomatch q)
theorem vV (a:Str) (b:Int):decide ((Sum.inr a:Key)=Sum.inl b)=false:=decide_eq_false (λq=>nomatch q)
noncomputable def oK (prog:Program) (w:World):PySem.KeyKind prog w Key where
 is:=vn
 hash:=y3 w
 inj:=λv a b ha hb=>by
   rcases aY ha with ⟨i,t,rfl,rfl⟩ | ⟨x,t,rfl,rfl⟩
   · rcases aY hb with ⟨j,u,rfl,e⟩ | ⟨y,u,rfl,e⟩
     · injection e with e1 _; rw [e1]
     · exact nomatch e
   · rcases aY hb with ⟨j,u,rfl,e⟩ | ⟨y,u,rfl,e⟩
     · exact nomatch e
     · injection e with e1 _; rw [e1]
 byValue:=λk v h=>by
   rcases aY h with ⟨i,t,rfl,rfl⟩ | ⟨x,t,rfl,rfl⟩ <;> rfl
 pyHash:=λhv h=>by
   rcases aY hv with ⟨i,t,rfl,rfl⟩ | ⟨x,t,rfl,rfl⟩
   · exact wpAny_pyHash_int h
   · exact wpAny_pyHash_str h
 eqBool:=λhu hv h=>by
   rcases aY hu with ⟨i,t,rfl,rfl⟩ | ⟨x,t,rfl,rfl⟩
   · rcases aY hv with ⟨j,u,rfl,rfl⟩ | ⟨y,u,rfl,rfl⟩
     · rw [xk] at h; exact wpAny_eqBool_int h
     · rw [wa] at h; exact SeqAt.EqAt.int_str i t y u _ _ _ _ h
   · rcases aY hv with ⟨j,u,rfl,rfl⟩ | ⟨y,u,rfl,rfl⟩
     · rw [vV] at h; exact SeqAt.EqAt.str_int x t j u _ _ _ _ h
     · rw [vU] at h; exact wpAny_eqBool_str h
 «strs»:=λk x t v h=>by
   rcases aY h with ⟨i,u,rfl,e⟩ | ⟨y,u,rfl,e⟩
   · exact nomatch e
   · injection e with e1 _
     subst e1
     cases v <;> rfl
inductive V where
 | non | bl (b:Bool) | int (i:Int) | str (x:Str) | byt (b:Array UInt8) | flt (b:UInt64) | ref (a:Addr) | ty (n:String)
 deriving DecidableEq
noncomputable def RelV:V->Value->Prop
 | .non,u=>u=Value.none
 | .bl b,u=>u=Value.bool b
 | .int i,u=>∃ t,u=Value.int i t
 | .str x,u=>∃ t,u=Value.str x t
 | .byt b,u=>∃ t,u=Value.bytes b t
 | .flt b,u=>∃ t,u=Value.float b t
 | .ref a,u=>u=Value.ref a
 | .ty n,u=>u=Value.type n
noncomputable abbrev Vals:List V->List Value->Prop:=Paired RelV
theorem Vals.length {xs:List V} {us:List Value} (r:Vals xs us):xs.length=us.length:=Paired.length r
theorem Vals.get:∀ {xs:List V} {us:List Value} {i:Nat} {x:V},Vals xs us->xs[i]?=some x->∃ u,us[i]?=some u/\RelV x u
 | _,_,_,_,.nil,e=>by simp at e
 | _,_,0,_,.cons r _,e=>by simp at e; subst e; exact ⟨_,rfl,r⟩
 | _,_,i + 1,x,.cons _ t,e=>by
   obtain ⟨u,h1,h2⟩:=Vals.get (i:=i) (x:=x) t (by simpa using e)
   exact ⟨u,by simpa using h1,h2⟩
theorem Vals.set {x:V} {u:Value} (r:RelV x u):∀ {xs:List V} {us:List Value} (i:Nat),Vals xs us->Vals (xs.set i x) (us.set i u)
 | _,_,_,.nil=>.nil
 | _,_,0,.cons _ t=>.cons r t
 | _,_,i + 1,.cons q t=>.cons q (Vals.set r i t)
theorem Vals.append:∀ {xs ys:List V} {us ws:List Value},Vals xs us->Vals ys ws->Vals (xs++ys) (us++ws)
 | _,_,_,_,.nil,s=>s
 | _,_,_,_,.cons r t,s=>.cons r (Vals.append t s)
theorem Vals.take:∀ {xs:List V} {us:List Value} (n:Nat),Vals xs us->Vals (xs.take n) (us.take n)
 | _,_,0,_=>.nil
 | _,_,_ + 1,.nil=>.nil
 | _,_,n + 1,.cons r t=>.cons r (Vals.take n t)
theorem Vals.drop:∀ {xs:List V} {us:List Value} (n:Nat),Vals xs us->Vals (xs.drop n) (us.drop n)
 | _,_,0,r=>r
 | _,_,_ + 1,.nil=>.nil
 | _,_,n + 1,.cons _ t=>Vals.drop n t
noncomputable def m4:Option V->Option Value->Prop
 | some v,some u=>RelV v u
 | none,none=>True
 | _,_=>False
noncomputable def KV {κ:Type}:List (κ × V)->List (κ × Value)->Prop:=Paired λ(p:κ × V) (q:κ × Value)=>p.1=q.1/\RelV p.2 q.2
noncomputable def kV:Key->V
 | .inl i=>.int i
 | .inr x=>.str x
inductive HO where
 | lst (xs:List V)
 | tup (xs:List V)
 | dK (kvs:List (Key × V)) | dT (kvs:List (List Key × V))
 | set (S:Int->Bool) (n:Nat)
 | ins (C dx:Addr) (fs:List (Str × V))
 | own (x:Addr)
 | xd (fs:List (Str × V))
 | met (f x:Addr)
 | rng (lo hi:Int)
 | frz (o:Obj) (u:HO)
 | tbl (ps:Array Value)
 | ext (φ:Heap->Prop)
noncomputable abbrev Hp:=Addr->Option HO
noncomputable def upd (H:Hp) (a:Addr) (o:HO):Hp:=λb=>if b=a then some o else H b
theorem aw {H:Hp} {a:Addr} {o:HO}:upd H a o a=some o:=by unfold upd; rw [if_pos rfl]
theorem ao {H:Hp} {a b:Addr} {o:HO} (h:b ≠ a):upd H a o b=H b:=by unfold upd; rw [if_neg h]
theorem aF {H:Hp} {a b:Addr} {o:HO} (h:H a=some o) (h':H b=none):a ≠ b:=by
 intro e; subst e; rw [h] at h'; cases h'
section
variable (P:Program) (w:World)
noncomputable def ba (H:Hp) (h:Heap) (a:Addr):HO->Prop
 | .lst xs=>xs.length<=sizeLine/\∃ (its:List Value) (n:Nat),Vals xs its/\h.get? a=some { cls:=.type "list",data:=.seq its.toArray n }
 | .tup xs=>xs.length<=sizeLine/\∃ its:List Value,Vals xs its/\IsTup h a its.toArray
 | .dK kvs=>kvs.length<=sizeLine/\(a == sysModules)=false/\∃ vs,KV kvs vs/\h.DictOf (oK P w) a vs
 | .dT kvs=>kvs.length<=sizeLine/\(a == sysModules)=false/\∃ xs:List (List Key × Addr × Value),
     Paired (λ(p:List Key × V) (q:List Key × Addr × Value)=>p.1=q.1/\H q.2.1=some (.tup (p.1.map kV))/\RelV p.2 q.2.2) kvs xs /\
     ∃ o es ep,h.get? a=some o/\o.ExactDict/\o.data=.dict es ep/\es.toList=xs.map (entryOfKey (tupleKind (oK P w)))/\(xs.map (·.1)).Nodup
 | .set S n=>h.SetOf (intKind P w) a S n
 | .ins C dx fs=>H dx=some (.own a)/\fs.length<=1000/\dx ≠ a/\h.get? a=some (PySem.W.instObj C dx) /\
     ∃ mA,h.Ns1 dx mA/\(∀ f,m4 (fs.lookup f) (mA f))/\PySem.Within mA (fs.map (·.1))
 | .own _=>∃ o,h.get? a=some o
 | .xd fs=>∃ mA,h.Ns1 a mA/\∀ f,m4 (fs.lookup f) (mA f)
 | .rng lo hi=>∃ t u v,h.get? a=some { cls:=.type "range",data:=.fields #[.int lo t,.int hi u,.int 1 v] }
 | .frz o u=>h.get? a=some o/\ba H h a u
 | .tbl ps=>h.get? a=some { cls:=.none,data:=.fields ps }
 | .met f x=>h.get? a=some (PySem.W.methodObj (.ref f) (.ref x))
 | .ext φ=>φ h/\(∃ o,h.get? a=some o)/\∀ h1 h2:Heap,φ h1->(∀ o,h1.get? a=some o->h2.get? a=some o)->φ h2
noncomputable def HOk (H:Hp) (h:Heap):Prop:=∀ a o,H a=some o->ba P w H h a o
end
section
variable {P:Program} {w:World} {H H':Hp} {h h':Heap} {a:Addr} {o:HO}
theorem ba.lt (x:ba P w H h a o):a < h.objs.size:=by
 cases o with
 | lst xs=>obtain ⟨_,_,_,_,e⟩:=x; exact Heap.lt_size e
 | tup xs=>obtain ⟨_,_,_,p⟩:=x; exact p.lt
 | dK kvs=>obtain ⟨_,_,_,_,o,_,_,e,_⟩:=x; exact Heap.lt_size e
 | dT kvs=>obtain ⟨_,_,_,_,o,_,_,e,_⟩:=x; exact Heap.lt_size e
 | set S n=>obtain ⟨o,_,_,_,e,_⟩:=x; exact Heap.lt_size e
 | ins C dx fs=>obtain ⟨_,_,_,e,_⟩:=x; exact Heap.lt_size e
 | own y=>obtain ⟨_,e⟩:=x; exact Heap.lt_size e
 | xd fs=>obtain ⟨_,⟨_,_,_,e,_⟩,_⟩:=x; exact Heap.lt_size e
 | rng lo hi=>obtain ⟨_,_,_,e⟩:=x; exact Heap.lt_size e
 | frz ob u=>obtain ⟨e,_⟩:=x; exact Heap.lt_size e
 | tbl ps=>exact Heap.lt_size (show h.get? a=some _ from x)
 | met f y=>exact Heap.lt_size (show h.get? a=some _ from x)
 | ext φ=>obtain ⟨_,⟨_,e⟩,_⟩:=x; exact Heap.lt_size e
theorem Paired.wq {α β:Type} {F G:α->β->Prop}:∀ {l₁:List α} {l₂:List β},Paired F l₁ l₂->(∀ a b,F a b->G a b)->Paired G l₁ l₂
 | _,_,.nil,_=>.nil
 | _,_,.cons r t,f=>.cons (f _ _ r) (Paired.wq t f)
theorem ba.iR (x:ba P w H h a o) (k:∀ b u,(b=a\/H b=some (.own a))->h.get? b=some u->h'.get? b=some u)
   (ho:∀ b,H b=some (.own a)->H' b=some (.own a)) (ht:∀ b xs,H b=some (.tup xs)->H' b=some (.tup xs)):ba P w H' h' a o:=by
 induction o with
 | lst xs=>obtain ⟨z,its,n,r,e⟩:=x; exact ⟨z,its,n,r,k _ _ (.inl rfl) e⟩
 | tup xs=>obtain ⟨z,its,r,ob,e,c⟩:=x; exact ⟨z,its,r,ob,k _ _ (.inl rfl) e,c⟩
 | dK kvs=>obtain ⟨z,y,vs,r,ob,es,ep,e,c⟩:=x; exact ⟨z,y,vs,r,ob,es,ep,k _ _ (.inl rfl) e,c⟩
 | dT kvs=>
   obtain ⟨z,y,xs,r,ob,es,ep,e,c⟩:=x
   exact ⟨z,y,xs,Paired.wq r λp q z=>⟨z.1,ht _ _ z.2.1,z.2.2⟩,ob,es,ep,k _ _ (.inl rfl) e,c⟩
 | set S n=>obtain ⟨ob,es,ep,t,e,c⟩:=x; exact ⟨ob,es,ep,t,k _ _ (.inl rfl) e,c⟩
 | ins C dx fs=>
   obtain ⟨d,z,ne,e,mA,⟨od,es,ep,e2,c⟩,r⟩:=x
   exact ⟨ho _ d,z,ne,k _ _ (.inl rfl) e,mA,⟨od,es,ep,k _ _ (.inr d) e2,c⟩,r⟩
 | own y=>obtain ⟨ob,e⟩:=x; exact ⟨ob,k _ _ (.inl rfl) e⟩
 | xd fs=>obtain ⟨mA,⟨od,es,ep,e,c⟩,r⟩:=x; exact ⟨mA,⟨od,es,ep,k _ _ (.inl rfl) e,c⟩,r⟩
 | rng lo hi=>obtain ⟨t,u,v,e⟩:=x; exact ⟨t,u,v,k _ _ (.inl rfl) e⟩
 | frz ob u ih=>obtain ⟨e,q⟩:=x; exact ⟨k _ _ (.inl rfl) e,ih q⟩
 | tbl ps=>
   have e:h.get? a=some { cls:=.none,data:=.fields ps }:=x
   show h'.get? a=some { cls:=.none,data:=.fields ps }
   exact k a _ (.inl rfl) e
 | met f y=>
   have e:h.get? a=some (PySem.W.methodObj (.ref f) (.ref y)):=x
   show h'.get? a=some (PySem.W.methodObj (.ref f) (.ref y))
   exact k a _ (.inl rfl) e
 | ext φ=>obtain ⟨p,⟨o,e⟩,st⟩:=x; exact ⟨st _ _ p λo q=>k _ _ (.inl rfl) q,⟨o,k _ _ (.inl rfl) e⟩,st⟩
theorem HOk.lt (x:HOk P w H h) (e:H a=some o):a < h.objs.size:=(x a o e).lt
theorem HOk.fresh (x:HOk P w H h) (e:h.objs.size<=a):H a=none:=by
 cases q:H a with
 | none=>rfl
 | some u=>exact absurd (Nat.lt_of_lt_of_le (x.lt q) e) (Nat.lt_irrefl _)
theorem HOk.kept (x:HOk P w H h) (k:∀ b u,h.get? b=some u->h'.get? b=some u):HOk P w H h':=λa o e=>
 (x a o e).iR (λb u _ q=>k b u q) (λ_ q=>q) λ_ _ q=>q
theorem HOk.laid (x:HOk P w H h) (k:∀ b u,h.get? b=some u->h'.get? b=some u) (hp:h.objs.size<=a) (new:ba P w (upd H a o) h' a o):HOk P w (upd H a o) h':=λb u e=>by
 have hn:=x.fresh hp
 by_cases hb:b=a
 · subst hb; rw [aw] at e; cases e; exact new
 · rw [ao hb] at e
   exact (x b u e).iR (λc v _ q=>k c v q) (λc q=>by rw [ao (aF q hn)]; exact q) λc xs q=>by rw [ao (aF q hn)]; exact q
end
noncomputable def Rd (H:Hp) (a:Addr) (u:HO):Prop:=H a=some u\/∃ o,H a=some (.frz o u)
theorem Rd.ok {P:Program} {w:World} {H:Hp} {h:Heap} {a:Addr} {u:HO} (r:Rd H a u) (x:HOk P w H h):ba P w H h a u:=by
 rcases r with r | ⟨o,r⟩
 · exact x a u r
 · obtain ⟨_,q⟩:=x a _ r
   exact q
noncomputable def Mut:Option HO->Prop
 | some (.lst _)=>True
 | some (.dK _)=>True
 | some (.dT _)=>True
 | some (.set _ _)=>True
 | some (.ins _ _ _)=>True
 | some (.ext _)=>True
 | _=>False
section
variable {P:Program} {w:World} {H:Hp} {h h':Heap} {x e:Addr} {o':HO}
theorem HOk.write (ok:HOk P w H h) (mu:Mut (H x)) (he:e=x\/H e=some (.own x)) (k:∀ b u,b ≠ e->h.get? b=some u->h'.get? b=some u) (heo:∃ u,h'.get? e=some u)
   (new:ba P w (upd H x o') h' x o'):HOk P w (upd H x o') h':=λb u q=>by
 have nown:∀ c y,H c=some (.own y)->c ≠ x:=λc y r z=>by subst z; rw [r] at mu; exact mu
 have ntup:∀ c xs,H c=some (.tup xs)->c ≠ x:=λc xs r z=>by subst z; rw [r] at mu; exact mu
 by_cases hb:b=x
 · subst hb; rw [aw] at q; cases q; exact new
 · rw [ao hb] at q
   by_cases hbe:b=e
   · have q':H b=some (.own x):=by
       rcases he with z | z
       · exact absurd (hbe.trans z) hb
       · rw [hbe]; exact z
     rw [q] at q'; cases q'
     obtain ⟨v,hv⟩:=heo
     exact ⟨v,by rw [hbe]; exact hv⟩
   · refine (ok b u q).iR (λc v hc r=>k c v ?_ r) (λc r=>by rw [ao (nown c b r)]; exact r) λc xs r=>by rw [ao (ntup c xs r)]; exact r
     rcases hc with rfl | hc
     · exact hbe
     · rintro rfl
       rcases he with z | z
       · exact nown c b hc z
       · rw [hc] at z; cases z; exact hb rfl
end
structure Un (fs ex:List Addr) (H H':Hp) (h h':Heap):Prop where
 keep:∀ b o,h.get? b=some o->H b=none->b ∉ fs->b ∉ ex->h'.get? b=some o
 slot:∀ b o,h.get? b=some o->H b=none->b ∈ fs->b ∉ ex->∃ sl,h'.get? b=some { o with slots:=sl }
 free:∀ b o,h.get? b=some o->H b=none->b ∉ ex->H' b=none
 there:∀ b o,h.get? b=some o->b ∉ ex->∃ o',h'.get? b=some o'
 tups:∀ b xs,H b=some (.tup xs)->H' b=some (.tup xs)
 frzs:∀ b o u,H b=some (.frz o u)->H' b=some (.frz o u)
 tbls:∀ b ps,H b=some (.tbl ps)->∃ more,H' b=some (.tbl (ps++more))
section
variable {fs fs' ex ex':List Addr} {H H1 H2:Hp} {h h1 h2 h':Heap} {a x e:Addr} {o:HO}
theorem Un.any (u:Un fs ex H H1 h h1) {b:Addr} {ob:Obj} (q:h.get? b=some ob) (n:H b=none) (hx:b ∉ ex):∃ sl,h1.get? b=some { ob with slots:=sl }:=by
 by_cases hb:b ∈ fs
 · exact u.slot b ob q n hb hx
 · exact ⟨ob.slots,u.keep b ob q n hb hx⟩
theorem Un.trans (a:Un fs ex H H1 h h1) (b:Un fs ex H1 H2 h1 h2):Un fs ex H H2 h h2 where
 keep:=λc ob q n hc hx=>b.keep c ob (a.keep c ob q n hc hx) (a.free c ob q n hx) hc hx
 slot:=λc ob q n hc hx=>by
   obtain ⟨sl,e1⟩:=a.slot c ob q n hc hx
   obtain ⟨sl',e2⟩:=b.slot c _ e1 (a.free c ob q n hx) hc hx
   exact ⟨sl',e2⟩
 free:=λc ob q n hx=>by
   obtain ⟨o',e1⟩:=a.there c ob q hx
   exact b.free c o' e1 (a.free c ob q n hx) hx
 there:=λc ob q hx=>by
   obtain ⟨o',e1⟩:=a.there c ob q hx
   exact b.there c o' e1 hx
 tups:=λc xs q=>b.tups c xs (a.tups c xs q)
 frzs:=λc ob xs q=>b.frzs c ob xs (a.frzs c ob xs q)
 tbls:=λc ps q=>by
   obtain ⟨m1,e1⟩:=a.tbls c ps q
   obtain ⟨m2,e2⟩:=b.tbls c _ e1
   exact ⟨m1++m2,by rw [e2,Array.append_assoc]⟩
theorem Un.kept (k:∀ b u,h.get? b=some u->h'.get? b=some u):Un fs ex H H h h':=
 ⟨λb ob q _ _ _=>k b ob q,λb ob q _ _ _=>⟨ob.slots,k b ob q⟩,λ_ _ _ n _=>n,λb ob q _=>⟨ob,k b ob q⟩,λ_ _ q=>q,λ_ _ _ q=>q,λ_ ps q=>⟨#[],by rw [q]; simp⟩⟩
theorem Un.refl:Un fs ex H H h h:=Un.kept λ_ _ q=>q
theorem Un.laid (k:∀ b u,h.get? b=some u->h'.get? b=some u) (hp:h.objs.size<=a) (hn:H a=none):Un fs ex H (upd H a o) h h' where
 keep:=λb u q _ _ _=>k b u q
 slot:=λb u q _ _ _=>⟨u.slots,k b u q⟩
 free:=λb u q n _=>by rw [ao (Nat.ne_of_lt (Nat.lt_of_lt_of_le (Heap.lt_size q) hp))]; exact n
 there:=λb u q _=>⟨u,k b u q⟩
 tups:=λb xs q=>by rw [ao (aF q hn)]; exact q
 frzs:=λb u xs q=>by rw [ao (aF q hn)]; exact q
 tbls:=λb ps q=>⟨#[],by rw [ao (aF q hn),q]; simp⟩
theorem Un.write (mu:Mut (H x)) (he:e=x\/H e=some (.own x)) (k:∀ b u,b ≠ e->h.get? b=some u->h'.get? b=some u) (heo:∃ u,h'.get? e=some u):Un fs ex H (upd H x o) h h':=by
 have hx:∀ b,H b=none->b ≠ x:=λb n z=>by subst z; rw [n] at mu; exact mu
 have hb:∀ b,H b=none->b ≠ e:=λb n z=>by
   subst z
   rcases he with r | r
   · exact hx b n r
   · rw [n] at r; cases r
 have hm:∀ b u,H b=some u->¬ Mut (some u)->b ≠ x:=λb u q nm z=>by subst z; rw [q] at mu; exact nm mu
 refine ⟨λb u q n _ _=>k b u (hb b n) q,λb u q n _ _=>⟨u.slots,k b u (hb b n) q⟩,λb u q n _=>by rw [ao (hx b n)]; exact n,λb u q _=>?_,
   λb xs q=>by rw [ao (hm b _ q λz=>z)]; exact q,λb u xs q=>by rw [ao (hm b _ q λz=>z)]; exact q,λb ps q=>⟨#[],by rw [ao (hm b _ q λz=>z),q]; simp⟩⟩
 by_cases hbe:b=e
 · subst hbe; exact heo
 · exact ⟨u,k b u hbe q⟩
theorem Un.mono (u:Un fs ex H H1 h h1) (hs:∀ b ∈ fs,b ∈ fs') (hx:∀ b ∈ ex,b ∈ ex'):Un fs' ex' H H1 h h1:=
 ⟨λb ob q n hb he=>u.keep b ob q n (λz=>hb (hs b z)) λz=>he (hx b z),λ_ _ q n _ he=>u.any q n λz=>he (hx _ z),λb ob q n he=>u.free b ob q n λz=>he (hx b z),λb ob q he=>u.there b ob q λz=>he (hx b z),u.tups,u.frzs,u.tbls⟩
end
noncomputable def trk (h:Heap) (H:Hp):List Addr:=(List.range h.objs.size).filter λa=>(H a).isSome
noncomputable def j9 (h:Heap) (H:Hp):Heap:=PySem.W.hideAll h (trk h H)
theorem qA (h:Heap) (H:Hp):(j9 h H).objs.size=h.objs.size:=PySem.W.hideAll_size _ _
theorem sG {h:Heap} {H:Hp} {b:Addr} {o:Obj} (e:h.get? b=some o) (n:H b=none):(j9 h H).get? b=some o:=
 PySem.W.hideAll_get _ e λhm=>by
   have q:(H b).isSome=true:=(List.mem_filter.mp hm).2
   rw [n] at q; simp at q
theorem uh {h:Heap} {H:Hp} {b:Addr} {o:Obj} (e:(j9 h H).get? b=some o):h.get? b=some o/\H b=none:=by
 have e':h.get? b=some o:=PySem.W.of_hideAll (trk h H) e
 refine ⟨e',?_⟩
 cases q:H b with
 | none=>rfl
 | some x=>
   have hm:b ∈ trk h H:=List.mem_filter.mpr ⟨List.mem_range.mpr (Heap.lt_size e'),by simp [q]⟩
   have z:(j9 h H).get? b=none:=PySem.W.hideAll_none (trk h H) hm
   rw [z] at e; cases e
noncomputable def uK (g h:Heap) (L:Addr):List (Addr × Obj):=(List.range h.objs.size).filterMap λa=>if a=L\/(g.get? a).isSome=true then none else (h.get? a).map λo=>(a,o)
noncomputable def rest (g h:Heap) (L d:Addr):List (Addr × Obj):=(uK g h L).filter λp=>decide (p.1 ≠ d)
structure Mod (K:PySem.W.Frag) (mg:Str->Option Value) (base:Heap):Prop where
 kin:K.In base
 glob:base.Ns mainGlobals mg
 blt:∃ mb,base.Ns builtinsNs mb/\∀ x:Str,x ≠ "__name__" -> mb x=bootBuiltins x
 nolimit:base.NoLimit
structure Cx where
 prog:Program
 w:World
 K:PySem.W.Frag
 mg:Str->Option Value
 base:Heap
 A:Around
 N:List Str
 s₀:Shared
 H₀:Hp
 env:Env
 outer:List Env
 stack:List Env
 ex:List Addr
 fn:Str->Bool
 calm:Bool
 pn:List (Addr × Obj)
 xe:Value->Shared->Prop
noncomputable def frs (l:List Env):List Addr:=l.filterMap (·.frame)
noncomputable abbrev Cx.fs (X:Cx):List Addr:=frs X.outer
noncomputable def Vis (sc:Scope) (x:Str):Prop:=sc.names.lookup x=some .local\/sc.names.lookup x=some .cell\/sc.names.lookup x=some .free
noncomputable def Loc (sc:Scope) (x:Str):Prop:=sc.names.lookup x=some .local\/sc.names.lookup x=some .cell
noncomputable def Look (env:Env) (h:Heap) (m:Str->Option Value) (x:Str) (u:Value):Prop:=
 (env.kindOf x=some .local/\m x=some u)\/((env.kindOf x=some .cell\/env.kindOf x=some .free)/\∃ c,env.cells.lookup x=some c/\h.IsCell c (some u))
structure Cx.Ok (X:Cx):Prop where
 mod:Mod X.K X.mg X.base
 kind:X.env.scope.kind=.function
 glob:X.env.globals=mainGlobals
 blt:X.env.builtins=builtinsNs
 above:X.s₀.heap.objs.size<=X.env.locals
 inj:∀ x y c,X.env.cells.lookup x=some c->X.env.cells.lookup y=some c->x=y
 has:∀ x,(X.env.kindOf x=some .cell\/X.env.kindOf x=some .free)->∃ c,X.env.cells.lookup x=some c
 cab:∀ x c,X.fn x=true->X.env.cells.lookup x=some c->X.s₀.heap.objs.size<=c
 hd:X.calm=true->X.A.handled=none
 frames:X.A.frames=some X.stack
 stk:X.stack=X.outer\/(X.stack=X.env :: X.outer/\X.env.frame=some X.env.locals)
 exf:∀ b ∈ X.ex,b ≠ X.env.locals/\∀ x c,X.env.cells.lookup x=some c->c ≠ b
 bs:∀ b o,X.base.get? b=some o->X.s₀.heap.get? b=some o/\X.H₀ b=none
 bsz:X.base.objs.size<=X.s₀.heap.objs.size
 noex:∀ b o,X.base.get? b=some o->b ∉ X.ex
 exfs:∀ b ∈ X.ex,b ∉ X.fs
 hJ:X.s₀.heap.FunFrames X.base X.outer
 frf:∀ b ∈ X.fs,X.H₀ b=none
structure Inv (X:Cx) (pins:List (Addr × Obj)) (σ:List (Option V)) (H:Hp) (s:Shared):Prop where
 ok:X.Ok
 os:s.os=X.s₀.os
 bare:AllBare s.gens
 base:Un X.fs X.ex X.H₀ H X.s₀.heap s.heap
 loc:∃ m,s.heap.Ns X.env.locals m/\∀ (i:Nat) (x:Str) (v:V),X.N[i]?=some x->σ[i]?=some (some v)->Vis X.env.scope x->∃ u,RelV v u/\Look X.env s.heap m x u
 cell:∀ x c,X.env.cells.lookup x=some c->∃ v,s.heap.IsCell c v
 free:H X.env.locals=none
 freeC:∀ x c,X.env.cells.lookup x=some c->H c=none
 pin:∀ p ∈ X.pn++pins,s.heap.get? p.1=some p.2/\H p.1=none/\p.1 ≠ X.env.locals/\p.1 ∉ X.fs/\∀ v,p.2.data ≠ .cell v
 hok:HOk X.prog X.w H s.heap
 len:σ.length=X.N.length
section
variable {X:Cx} {pins:List (Addr × Obj)} {σ:List (Option V)} {H H':Hp} {s:Shared} {h':Heap}
theorem Cx.Ok.zi (ok:X.Ok) {b:Addr} {o:Obj} (e:X.base.get? b=some o):b ∉ X.fs:=λhb=>by
 have:=(ok.hJ.mem hb).1
 rw [e] at this; cases this
theorem Inv.bs (I:Inv X pins σ H s):∀ b o,X.base.get? b=some o->s.heap.get? b=some o/\H b=none:=λb o e=>
 ⟨I.base.keep b o (I.ok.bs b o e).1 (I.ok.bs b o e).2 (I.ok.zi e) (I.ok.noex b o e),I.base.free b o (I.ok.bs b o e).1 (I.ok.bs b o e).2 (I.ok.noex b o e)⟩
theorem Inv.bk (I:Inv X pins σ H s):∀ b o,X.base.get? b=some o->s.heap.get? b=some o:=λb o e=>(I.bs b o e).1
theorem Inv.mod (I:Inv X pins σ H s):Mod X.K X.mg X.base:=I.ok.mod
theorem Inv.kIn (I:Inv X pins σ H s):X.K.In s.heap:=I.ok.mod.kin.keeps I.bk
theorem Inv.lt (I:Inv X pins σ H s):X.env.locals < s.heap.objs.size:=let ⟨_,hn,_⟩:=I.loc; hn.lt
theorem Inv.sz (I:Inv X pins σ H s):X.s₀.heap.objs.size<=s.heap.objs.size:=Nat.le_trans I.ok.above (Nat.le_of_lt I.lt)
theorem Inv.zq (I:Inv X pins σ H s) {a:Addr} (h:s.heap.objs.size<=a):a ∉ X.fs:=λhb=>by
 obtain ⟨_,o,ho,_⟩:=I.ok.hJ.mem hb
 exact absurd (Nat.lt_of_lt_of_le (Heap.lt_size ho) (Nat.le_trans I.sz h)) (Nat.lt_irrefl _)
theorem Inv.cne (I:Inv X pins σ H s):∀ x c,X.env.cells.lookup x=some c->c ≠ X.env.locals:=λx c e z=>by
 obtain ⟨v,o,ho,hd⟩:=I.cell x c e
 obtain ⟨m,⟨o',es,ep,ho',hd',_⟩,_⟩:=I.loc
 rw [z,ho'] at ho; cases ho; rw [hd'] at hd; cases hd
theorem Inv.hJ (I:Inv X pins σ H s):s.heap.FunFrames X.base X.outer:=by
 have all:∀ (l:List Env),(∀ b ∈ frs l,b ∈ X.fs)->X.s₀.heap.FunFrames X.base l->s.heap.FunFrames X.base l:=by
   intro l
   induction l with
   | nil=>intro _ _; trivial
   | cons env r ih=>
     intro hs hl
     obtain ⟨hk,⟨L,o,hf,hn,ho,hd⟩,hr⟩:=hl
     have hL:L ∈ X.fs:=hs L (by unfold frs; rw [List.filterMap_cons,hf]; exact List.mem_cons_self)
     obtain ⟨sl,e⟩:=I.base.slot L o ho (I.ok.frf L hL) hL λz=>I.ok.exfs L z hL
     exact ⟨hk,⟨L,_,hf,hn,e,hd⟩,ih (λb hb=>hs b (by unfold frs; rw [List.filterMap_cons,hf]; exact List.mem_cons_of_mem _ hb)) hr⟩
 exact all X.outer (λ_ hb=>hb) I.ok.hJ
theorem Inv.stack (I:Inv X pins σ H s):s.heap.FunFrames X.base X.stack:=by
 rcases I.ok.stk with e | ⟨e,hf⟩
 · rw [e]; exact I.hJ
 · rw [e]
   obtain ⟨m,hn,_⟩:=I.loc
   refine .cons (by rw [I.ok.kind]; decide) hf hn ?_ I.hJ
   exact Heap.get?_none_of_le (Nat.le_trans I.ok.bsz I.ok.above)
theorem Inv.nQ (I:Inv X pins σ H s):∀ b ∈ frs X.stack,b ∈ X.env.locals :: X.fs:=λb hb=>by
 rcases I.ok.stk with e | ⟨e,hf⟩
 · rw [e] at hb; exact List.mem_cons_of_mem _ hb
 · rw [e] at hb
   unfold frs at hb
   rw [List.filterMap_cons,hf] at hb
   exact hb
theorem Inv.pk (I:Inv X pins σ H s):∀ b ∈ frs X.stack,H b=none:=λb hb=>by
 rcases List.mem_cons.mp (I.nQ b hb) with e | hb
 · rw [e]; exact I.free
 · obtain ⟨_,o,ho,_⟩:=I.ok.hJ.mem hb
   exact I.base.free b o ho (I.ok.frf b hb) λz=>I.ok.exfs b z hb
theorem Inv.step {g':Array GenState} {t':Nat} {d':Drawn} {ch:List Addr} (I:Inv X pins σ H s)
   (hch:∀ b ∈ ch,(b ∈ X.ex\/X.s₀.heap.objs.size<=b)/\b ≠ X.env.locals/\(∀ x c,X.env.cells.lookup x=some c->c ≠ b)/\∀ p ∈ X.pn++pins,p.1 ≠ b)
   (keep:∀ b o,b ≠ X.env.locals->b ∉ X.fs->b ∉ ch->s.heap.get? b=some o->H b=none->h'.get? b=some o)
   (slot:∀ b o,b ≠ X.env.locals->b ∈ X.fs->b ∉ ch->s.heap.get? b=some o->H b=none->∃ sl,h'.get? b=some { o with slots:=sl }) (free:∀ b o,b ∉ ch->s.heap.get? b=some o->H b=none->H' b=none)
   (there:∀ b o,b ∉ ch->s.heap.get? b=some o->∃ o',h'.get? b=some o')
   (tups:∀ b xs,H b=some (.tup xs)->H' b=some (.tup xs)) (frzs:∀ b o u,H b=some (.frz o u)->H' b=some (.frz o u)) (tbls:∀ b ps,H b=some (.tbl ps)->∃ more,H' b=some (.tbl (ps++more)))
   (ns:∀ m,s.heap.Ns X.env.locals m->h'.Ns X.env.locals m) (hok:HOk X.prog X.w H' h') (hg:AllBare g') :
   Inv X pins σ H' { s with heap:=h',gens:=g',drawn:=d',toks:=t' }:=by
 have neL:∀ b o,X.s₀.heap.get? b=some o->b ≠ X.env.locals:=λb o e=>Nat.ne_of_lt (Nat.lt_of_lt_of_le (Heap.lt_size e) I.ok.above)
 have neC:∀ b o,X.s₀.heap.get? b=some o->b ∉ X.ex->b ∉ ch:=λb o e hx hb=>by
   rcases (hch b hb).1 with z | z
   · exact hx z
   · exact absurd (Nat.lt_of_lt_of_le (Heap.lt_size e) z) (Nat.lt_irrefl _)
 have cellK:∀ x c,X.env.cells.lookup x=some c->∀ v,s.heap.IsCell c v->h'.IsCell c v:=λx c e v ⟨o,ho,hd⟩=>by
   have nch:c ∉ ch:=λz=>(hch c z).2.2.1 x c e rfl
   by_cases hc:c ∈ X.fs
   · obtain ⟨sl,q⟩:=slot c o (I.cne x c e) hc nch ho (I.freeC x c e)
     exact ⟨_,q,hd⟩
   · exact ⟨o,keep c o (I.cne x c e) hc nch ho (I.freeC x c e),hd⟩
 refine ⟨I.ok,I.os,hg,⟨λb o e n hb hx=>?_,λb o e n hb hx=>?_,λb o e n hx=>?_,λb o e hx=>?_,λb xs e=>tups b xs (I.base.tups b xs e),λb o xs e=>frzs b o xs (I.base.frzs b o xs e),λb ps e=>?_⟩,?_,λx c e=>?_,?_,λx c e=>?_,λp hp=>?_,hok,I.len⟩
 · exact keep b o (neL b o e) hb (neC b o e hx) (I.base.keep b o e n hb hx) (I.base.free b o e n hx)
 · obtain ⟨sl,e1⟩:=I.base.slot b o e n hb hx
   obtain ⟨sl',e2⟩:=slot b _ (neL b o e) hb (neC b o e hx) e1 (I.base.free b o e n hx)
   exact ⟨sl',e2⟩
 · obtain ⟨o',e1⟩:=I.base.there b o e hx
   exact free b o' (neC b o e hx) e1 (I.base.free b o e n hx)
 · obtain ⟨o',e1⟩:=I.base.there b o e hx
   exact there b o' (neC b o e hx) e1
 · obtain ⟨m1,e1⟩:=I.base.tbls b ps e
   obtain ⟨m2,e2⟩:=tbls b _ e1
   exact ⟨m1++m2,by rw [e2,Array.append_assoc]⟩
 · obtain ⟨m,hn,hl⟩:=I.loc
   refine ⟨m,ns m hn,λi x v e1 e2 e3=>?_⟩
   obtain ⟨u,r,l⟩:=hl i x v e1 e2 e3
   refine ⟨u,r,?_⟩
   rcases l with l | ⟨k,c,e,z⟩
   · exact .inl l
   · exact .inr ⟨k,c,e,cellK x c e _ z⟩
 · obtain ⟨v,z⟩:=I.cell x c e
   exact ⟨v,cellK x c e v z⟩
 · obtain ⟨m,⟨o,_,_,ho,_⟩,_⟩:=I.loc
   exact free _ o (λz=>(hch _ z).2.1 rfl) ho I.free
 · obtain ⟨v,o,ho,hd⟩:=I.cell x c e
   exact free c o (λz=>(hch c z).2.2.1 x c e rfl) ho (I.freeC x c e)
 · obtain ⟨e,n,ne,nf,d⟩:=I.pin p hp
   have nch:p.1 ∉ ch:=λz=>(hch p.1 z).2.2.2 p hp rfl
   exact ⟨keep p.1 p.2 ne nf nch e n,free p.1 p.2 nch e n,ne,nf,d⟩
theorem Inv.un {t':Nat} (I:Inv X pins σ H s) (u:Un X.fs [] H H' s.heap h') (hok:HOk X.prog X.w H' h'):Inv X pins σ H' { s with heap:=h',toks:=t' }:=by
 obtain ⟨m,⟨o,es,ep,ho,r⟩,_⟩:=id I.loc
 obtain ⟨sl,hL⟩:=u.any ho I.free (by simp)
 exact I.step (g':=s.gens) (d':=s.drawn) (ch:=[]) (λ_ z=>nomatch z) (λb o _ hb _ e n=>u.keep b o e n hb (by simp)) (λb o _ hb _ e n=>u.slot b o e n hb (by simp)) (λb o _ e n=>u.free b o e n (by simp)) (λb o _ e=>u.there b o e (by simp)) u.tups u.frzs u.tbls (λm' hm=>by
   obtain ⟨o',es',ep',ho',r'⟩:=hm
   rw [ho] at ho'; cases ho'
   exact ⟨_,es',ep',hL,r'⟩) hok I.bare
theorem Inv.call {g':Array GenState} {t':Nat} {d':Drawn} {ch:List Addr} (I:Inv X pins σ H s) (u:Un (frs X.stack) ch H H' s.heap h') (hok:HOk X.prog X.w H' h') (hg:AllBare g')
   (hch:∀ b ∈ ch,(b ∈ X.ex\/X.s₀.heap.objs.size<=b)/\b ≠ X.env.locals/\(∀ x c,X.env.cells.lookup x=some c->c ≠ b)/\∀ p ∈ X.pn++pins,p.1 ≠ b) :
   Inv X pins σ H' { s with heap:=h',gens:=g',drawn:=d',toks:=t' }:=by
 obtain ⟨m,⟨o,es,ep,ho,r⟩,_⟩:=id I.loc
 obtain ⟨sl,hL⟩:=u.any ho I.free λz=>(hch _ z).2.1 rfl
 exact I.step (ch:=ch) hch (λb o hL hb hc e n=>u.keep b o e n (λz=>(List.mem_cons.mp (I.nQ b z)).elim hL hb) hc) (λb o _ _ hc e n=>u.any e n hc) (λb o hc e n=>u.free b o e n hc) (λb o hc e=>u.there b o e hc) u.tups u.frzs u.tbls (λm' hm=>by
   obtain ⟨o',es',ep',ho',r'⟩:=hm
   rw [ho] at ho'; cases ho'
   exact ⟨_,es',ep',hL,r'⟩) hok hg
theorem Inv.turned {t':Nat} {it:Addr} (I:Inv X pins σ H s) (k:∀ b o,b ≠ it->s.heap.get? b=some o->h'.get? b=some o) (hn:H it=none) (hL:it ≠ X.env.locals)
   (h1:it ∈ X.ex\/X.s₀.heap.objs.size<=it) (h2:∀ x c,X.env.cells.lookup x=some c->c ≠ it) (h3:∀ p ∈ X.pn++pins,p.1 ≠ it):Inv X pins σ H { s with heap:=h',toks:=t' }:=by
 have nit:∀ b u,H b=some u->b ≠ it:=λb u e z=>by rw [z,hn] at e; cases e
 refine I.step (g':=s.gens) (d':=s.drawn) (ch:=[it]) (λb hb=>?_) (λb o _ _ hc e _=>k b o (λz=>hc (by simp [z])) e) (λb o _ _ hc e _=>⟨o.slots,k b o (λz=>hc (by simp [z])) e⟩) (λ_ _ _ _ n=>n)
   (λb o hc e=>⟨o,k b o (λz=>hc (by simp [z])) e⟩) (λ_ _ e=>e) (λ_ _ _ e=>e) (λb ps e=>⟨#[],by rw [e]; simp⟩) (λm hm=>?_) (λb u e=>?_) I.bare
 · have e:b=it:=by simpa using hb
   subst e
   exact ⟨h1,hL,h2,h3⟩
 · obtain ⟨o,es,ep,ho,r⟩:=hm
   exact ⟨o,es,ep,k _ o (Ne.symm hL) ho,r⟩
 · refine (I.hok b u e).iR (λc v hc q=>k c v ?_ q) (λ_ q=>q) λ_ _ q=>q
   rcases hc with z | z
   · rw [z]; exact nit b u e
   · exact nit c _ z
theorem Inv.tok (I:Inv X pins σ H s) (t:Nat):Inv X pins σ H { s with toks:=t }:=I.un (h':=s.heap) (t':=t) Un.refl I.hok
theorem Inv.kept {t':Nat} (I:Inv X pins σ H s) (k:∀ b u,s.heap.get? b=some u->h'.get? b=some u):Inv X pins σ H { s with heap:=h',toks:=t' }:=I.un (Un.kept k) (I.hok.kept k)
theorem Inv.laid {a:Addr} {o:HO} {t':Nat} (I:Inv X pins σ H s) (k:∀ b u,s.heap.get? b=some u->h'.get? b=some u) (hp:s.heap.objs.size<=a) (new:ba X.prog X.w (upd H a o) h' a o) :
   Inv X pins σ (upd H a o) { s with heap:=h',toks:=t' }:=I.un (Un.laid k hp (I.hok.fresh hp)) (I.hok.laid k hp new)
theorem Inv.write {x e:Addr} {o:HO} {t':Nat} (I:Inv X pins σ H s) (mu:Mut (H x)) (he:e=x\/H e=some (.own x)) (k:∀ b u,b ≠ e->s.heap.get? b=some u->h'.get? b=some u) (heo:∃ u,h'.get? e=some u)
   (new:ba X.prog X.w (upd H x o) h' x o):Inv X pins σ (upd H x o) { s with heap:=h',toks:=t' }:=I.un (Un.write mu he k heo) (I.hok.write mu he k heo new)
theorem Inv.pf {pins':List (Addr × Obj)} (I:Inv X pins σ H s) (h:∀ p ∈ pins',s.heap.get? p.1=some p.2/\H p.1=none/\p.1 ≠ X.env.locals/\p.1 ∉ X.fs/\∀ v,p.2.data ≠ .cell v):Inv X pins' σ H s:=
 ⟨I.ok,I.os,I.bare,I.base,I.loc,I.cell,I.free,I.freeC,λp hp=>(List.mem_append.mp hp).elim (λz=>I.pin p (List.mem_append_left _ z)) (h p),I.hok,I.len⟩
theorem lD {N:List Str} (hN:N.Nodup) {i j:Nat} {x:Str} (a:N[i]?=some x) (b:N[j]?=some x):i=j:=by
 obtain ⟨h1,e1⟩:=List.getElem?_eq_some_iff.mp a
 obtain ⟨h2,e2⟩:=List.getElem?_eq_some_iff.mp b
 exact (List.getElem_inj hN).mp (e1.trans e2.symm)
theorem qc {M:Model} {A:Around} {E:Value->Shared->Prop} {i:Nat} {x:Str} {v:V} {u:Value} {Q:Unit->Shared->Prop} (I:Inv X pins σ H s) (hN:X.N.Nodup) (hi:X.N[i]?=some x) (hx:Loc X.env.scope x) (r:RelV v u)
   (h:∀ s',Inv X pins (σ.set i (some v)) H s'->(∃ a,Heap.SameBut a s.heap s'.heap/\(a=X.env.locals\/X.env.cells.lookup x=some a))->Q () s') (hf:X.fn x=true\/X.env.scope.names.lookup x=some .local:=by first | exact .inl rfl | exact .inr rfl | assumption):wpAny M A (storeName X.env x u) Q E s:=by
 obtain ⟨m,hn,hl⟩:=id I.loc
 have hcls:(X.env.scope.kind == .class || (X.env.scope.kind == .module && X.env.locals != X.env.globals))=false:=by rw [I.ok.kind]; rfl
 have hiσ:i < σ.length:=by rw [I.len]; exact (List.getElem?_eq_some_iff.mp hi).1
 have cne:=I.cne
 have tracked:∀ {a:Addr} {h':Heap},(∃ o,s.heap.get? a=some o/\H a=none)->Heap.SameBut a s.heap h'->HOk X.prog X.w H h':=λ{a h'} ha hs b ob e=>by
   obtain ⟨_,_,hfree⟩:=ha
   refine (I.hok b ob e).iR (λc w' hc q=>(hs.2 c ?_).trans q) (λ_ q=>q) λ_ _ q=>q
   rintro rfl
   rcases hc with rfl | hc
   · rw [hfree] at e; cases e
   · rw [hfree] at hc; cases hc
 rcases hx with hk | hk
 · refine wpAny_storeName_local hk hn (λh' hn' hs=>?_) hcls
   obtain ⟨oL,_,_,hoL,_⟩:=id hn
   refine h _ ⟨I.ok,I.os,I.bare,⟨λb o e n hb hx=>?_,λb o e n hb hx=>?_,I.base.free,λb o e hx=>?_,I.base.tups,I.base.frzs,I.base.tbls⟩,⟨_,hn',λj y v' e1 e2 e3=>?_⟩,λy c e=>?_,I.free,I.freeC,λp hp=>?_,tracked ⟨oL,hoL,I.free⟩ hs,by simpa using I.len⟩ ⟨_,hs,.inl rfl⟩
   · exact (hs.2 b (Nat.ne_of_lt (Nat.lt_of_lt_of_le (Heap.lt_size e) I.ok.above))).trans (I.base.keep b o e n hb hx)
   · obtain ⟨sl,e1⟩:=I.base.slot b o e n hb hx
     exact ⟨sl,(hs.2 b (Nat.ne_of_lt (Nat.lt_of_lt_of_le (Heap.lt_size e) I.ok.above))).trans e1⟩
   · obtain ⟨o',e1⟩:=I.base.there b o e hx
     exact ⟨o',(hs.2 b (Nat.ne_of_lt (Nat.lt_of_lt_of_le (Heap.lt_size e) I.ok.above))).trans e1⟩
   · by_cases hj:j=i
     · subst hj
       rw [hi] at e1; cases e1
       rw [List.getElem?_set_self hiσ] at e2
       cases e2
       exact ⟨u,r,.inl ⟨hk,by simp⟩⟩
     · rw [List.getElem?_set_ne (Ne.symm hj)] at e2
       obtain ⟨u',r',q⟩:=hl j y v' e1 e2 e3
       refine ⟨u',r',?_⟩
       rcases q with ⟨k,e⟩ | ⟨k,c,e,z⟩
       · refine .inl ⟨k,?_⟩
         have:y ≠ x:=λe=>hj (lD hN e1 (e ▸ hi))
         simp [this,e]
       · exact .inr ⟨k,c,e,z.sameBut hs (cne y c e)⟩
   · obtain ⟨w',z⟩:=I.cell y c e
     exact ⟨w',z.sameBut hs (cne y c e)⟩
   · obtain ⟨e,n,ne,nf,d⟩:=I.pin p hp
     exact ⟨(hs.2 p.1 ne).trans e,n,ne,nf,d⟩
 · have hfn:X.fn x=true:=by
     rcases hf with z | z
     · exact z
     · rw [z] at hk; cases hk
   obtain ⟨c,hc⟩:=I.ok.has x (.inl hk)
   obtain ⟨w',z⟩:=I.cell x c hc
   refine wpAny_storeName_cell I.ok.kind hk hc z (λh' hc' hs=>?_)
   obtain ⟨oc,hoc,hocd⟩:=id z
   refine h { s with heap:=h' } ⟨I.ok,I.os,I.bare,⟨λb o e n hb hx=>?_,λb o e n hb hx=>?_,I.base.free,λb o e hx=>?_,I.base.tups,I.base.frzs,I.base.tbls⟩,⟨m,hn.sameBut hs (Ne.symm (cne x c hc)),λj y v' e1 e2 e3=>?_⟩,λy c' e=>?_,I.free,I.freeC,λp hp=>?_,tracked ⟨oc,hoc,I.freeC x c hc⟩ hs,by simpa using I.len⟩ ⟨c,hs,.inr hc⟩
   · exact (hs.2 b (Nat.ne_of_lt (Nat.lt_of_lt_of_le (Heap.lt_size e) (I.ok.cab x c hfn hc)))).trans (I.base.keep b o e n hb hx)
   · obtain ⟨sl,e1⟩:=I.base.slot b o e n hb hx
     exact ⟨sl,(hs.2 b (Nat.ne_of_lt (Nat.lt_of_lt_of_le (Heap.lt_size e) (I.ok.cab x c hfn hc)))).trans e1⟩
   · obtain ⟨o',e1⟩:=I.base.there b o e hx
     exact ⟨o',(hs.2 b (Nat.ne_of_lt (Nat.lt_of_lt_of_le (Heap.lt_size e) (I.ok.cab x c hfn hc)))).trans e1⟩
   · by_cases hj:j=i
     · subst hj
       rw [hi] at e1; cases e1
       rw [List.getElem?_set_self hiσ] at e2
       cases e2
       exact ⟨u,r,.inr ⟨.inl hk,c,hc,hc'⟩⟩
     · rw [List.getElem?_set_ne (Ne.symm hj)] at e2
       obtain ⟨u',r',q⟩:=hl j y v' e1 e2 e3
       refine ⟨u',r',?_⟩
       rcases q with q | ⟨k,c',e,z'⟩
       · exact .inl q
       · refine .inr ⟨k,c',e,z'.sameBut hs ?_⟩
         rintro rfl
         exact hj (lD hN e1 (I.ok.inj _ _ _ e hc ▸ hi))
   · by_cases hcc:c'=c
     · subst hcc; exact ⟨_,hc'⟩
     · obtain ⟨w2,z2⟩:=I.cell y c' e
       exact ⟨w2,z2.sameBut hs hcc⟩
   · obtain ⟨e,n,ne,nf,d⟩:=I.pin p hp
     refine ⟨(hs.2 p.1 ?_).trans e,n,ne,nf,d⟩
     intro q
     rw [q,hoc] at e
     have q':oc=p.2:=Option.some.inj e
     exact d w' (by rw [<- q']; exact hocd)
theorem lG {M:Model} {A:Around} {E:Value->Shared->Prop} {i:Nat} {x:Str} {v:V} {u:Value} {Q:Unit->Shared->Prop} (I:Inv X pins σ H s) (hN:X.N.Nodup) (hi:X.N[i]?=some x) (hx:Loc X.env.scope x) (r:RelV v u)
   (h:∀ s',Inv X pins (σ.set i (some v)) H s'->Q () s') (hf:X.fn x=true\/X.env.scope.names.lookup x=some .local:=by first | exact .inl rfl | exact .inr rfl | assumption):wpAny M A (storeName X.env x u) Q E s:=
 qc I hN hi hx r (λs' I' _=>h s' I') hf
theorem Inv.xY {s':Shared} {ch:List Addr} (I:Inv X pins σ H s) (ho:s'.os=s.os) (u:Un (frs X.stack) ch H H' s.heap s'.heap) (hok:HOk X.prog X.w H' s'.heap) (hg:AllBare s'.gens)
   (hch:∀ b ∈ ch,(b ∈ X.ex\/X.s₀.heap.objs.size<=b)/\b ≠ X.env.locals/\(∀ x c,X.env.cells.lookup x=some c->c ≠ b)/\∀ p ∈ X.pn++pins,p.1 ≠ b):Inv X pins σ H' s':=by
 obtain ⟨h',g',d',t',o'⟩:=s'
 have e:o'=s.os:=ho
 subst e
 exact I.call (g':=g') (t':=t') (d':=d') u hok hg hch
end
noncomputable abbrev XK:=Value->Option Addr->Hp->Prop
noncomputable abbrev St:=List (Option V)
noncomputable abbrev VK:=V->Hp->Prop
noncomputable abbrev TE:=St->Hp->VK->Prop
noncomputable abbrev TT:=St->Hp->(Bool->Hp->Prop)->Prop
noncomputable abbrev TA:=St->Hp->(List V->Hp->Prop)->Prop
structure Ends where
 nx:St->Hp->Prop
 rt:VK
 bk:St->Hp->Prop:=λ_ _=>False
 ct:St->Hp->Prop:=λ_ _=>False
noncomputable abbrev TS:=Ends->St->Hp->Prop
noncomputable def EP (X:Cx) (pins:List (Addr × Obj)) (σ:St) (Q:VK) (u:Value) (s':Shared):Prop:=∃ v H',Inv X pins σ H' s'/\RelV v u/\Q v H'
noncomputable def TP (X:Cx) (pins:List (Addr × Obj)) (σ:St) (Q:Bool->Hp->Prop) (b:Bool) (s':Shared):Prop:=∃ H',Inv X pins σ H' s'/\Q b H'
noncomputable def AP (X:Cx) (pins:List (Addr × Obj)) (σ:St) (Q:List V->Hp->Prop) (us:List Value) (s':Shared):Prop:=∃ vs H',Inv X pins σ H' s'/\Vals vs us/\Q vs H'
noncomputable def SP (X:Cx) (pins:List (Addr × Obj)) (D:Ends) (f:Flow) (s':Shared):Prop:=
 match f with
 | .next=>∃ σ' H',Inv X pins σ' H' s'/\D.nx σ' H'
 | .brk=>∃ σ' H',Inv X pins σ' H' s'/\D.bk σ' H'
 | .cont=>∃ σ' H',Inv X pins σ' H' s'/\D.ct σ' H'
 | .ret u=>∃ v σ' H',Inv X pins σ' H' s'/\RelV v u/\D.rt v H'
noncomputable def PE (X:Cx) (e:Expr) (t:TE):Prop:=
 ∀ (pins:List (Addr × Obj)) (s:Shared) (σ:St) (H:Hp) (Q:VK),Inv X pins σ H s->t σ H Q->wpAny (model X.prog X.w) X.A (eval e X.env) (EP X pins σ Q) X.xe s
noncomputable def PT (X:Cx) (e:Expr) (t:TT):Prop:=
 ∀ (pins:List (Addr × Obj)) (s:Shared) (σ:St) (H:Hp) (Q:Bool->Hp->Prop),Inv X pins σ H s->t σ H Q->wpAny (model X.prog X.w) X.A (isTrue e X.env (eval e X.env)) (TP X pins σ Q) X.xe s
noncomputable def PW (X:Cx) (e:Expr) (t:TT):Prop:=
 ∀ (whole:Sem Value) (pins:List (Addr × Obj)) (s:Shared) (σ:St) (H:Hp) (Q:Bool->Hp->Prop),Inv X pins σ H s->t σ H Q->wpAny (model X.prog X.w) X.A (isTrue e X.env whole) (TP X pins σ Q) X.xe s
theorem PW.pt {X:Cx} {e:Expr} {t:TT} (h:PW X e t):PT X e t:=h _
noncomputable def PA (X:Cx) (es:List Expr) (t:TA):Prop:=
 ∀ (pos:Pos) (pins:List (Addr × Obj)) (s:Shared) (σ:St) (H:Hp) (Q:List V->Hp->Prop),Inv X pins σ H s->t σ H Q->wpAny (model X.prog X.w) X.A (spliced (backTo pos (starEach es X.env))) (AP X pins σ Q) X.xe s
noncomputable def PS (X:Cx) (st:Stmt) (t:TS):Prop:=
 ∀ (pins:List (Addr × Obj)) (s:Shared) (σ:St) (H:Hp) (D:Ends),Inv X pins σ H s->t D σ H->wpAny (model X.prog X.w) X.A (exec st X.env) (SP X pins D) X.xe s
noncomputable def PSs (X:Cx) (st:List Stmt) (t:TS):Prop:=
 ∀ (pins:List (Addr × Obj)) (s:Shared) (σ:St) (H:Hp) (D:Ends),Inv X pins σ H s->t D σ H->wpAny (model X.prog X.w) X.A (execs st X.env) (SP X pins D) X.xe s
theorem thn {α:Type} {t:Sem α} {Q Q':α->Shared->Prop} {M:Model} {A:Around} {E:Value->Shared->Prop} {s:Shared} (h:wpAny M A t Q E s) (hQ:∀ a s,Q a s->Q' a s):wpAny M A t Q' E s:=wpAny_mono h hQ λ_ _ x=>x
section
variable {X:Cx}
theorem bin {a b:Expr} {ta tb:TE} (ha:PE X a ta) (hb:PE X b tb) {pins:List (Addr × Obj)} {s:Shared} {σ:St} {H:Hp} {R:V->V->Hp->Prop} (I:Inv X pins σ H s) (h:ta σ H λx H1=>tb σ H1 λy H2=>R x y H2)
   {α:Type} {Q:α->Shared->Prop} {f:Value->Value->Sem α}
   (hf:∀ v u s2 x y H2,Inv X pins σ H2 s2->RelV x v->RelV y u->R x y H2->wpAny (model X.prog X.w) X.A (f v u) Q X.xe s2) :
   wpAny (model X.prog X.w) X.A (eval a X.env) (λv s₁=>wpAny (model X.prog X.w) X.A (eval b X.env) (λu s₂=>wpAny (model X.prog X.w) X.A (f v u) Q X.xe s₂) X.xe s₁) X.xe s:=by
 refine thn (ha pins s σ H _ I h) λv s1 ⟨x,H1,I1,r1,q1⟩=>?_
 refine thn (hb pins s1 σ H1 _ I1 q1) λu s2 ⟨y,H2,I2,r2,q2⟩=>?_
 exact hf v u s2 x y H2 I2 r1 r2 q2
noncomputable def uH (i:Nat):TE:=λσ H Q=>∃ v,σ[i]?=some (some v)/\Q v H
noncomputable def tC (v:V):TE:=λ_ H Q=>Q v H
theorem bw {i:Nat} {x:Str} {pos:Pos} (hN:X.N[i]?=some x) (hv:Vis X.env.scope x) (hd:(x == ("__debug__" : Str))=false:=by decide) (hcd:(x == ("__classdict__" : Str))=false:=by decide):PE X (.Name x pos) (uH i):=by
 intro pins s σ H Q I h
 obtain ⟨v,e,h⟩:=h
 obtain ⟨m,hn,hl⟩:=I.loc
 obtain ⟨u,r,l⟩:=hl i x v hN e hv
 have fin:EP X pins σ Q u s:=⟨v,H,I,r,h⟩
 rcases l with ⟨hk,hm⟩ | ⟨hk,c,hc,hcell⟩
 · exact wpAny_Name (wpAny_loadName_local I.ok.kind hk hn hm fin) hd
 · rcases hk with hk | hk
   · exact wpAny_Name (wpAny_loadName_cell I.ok.kind hk hc hcell fin) hd
   · exact wpAny_Name (wpAny_loadName_free I.ok.kind hk hc hcell fin hcd) hd
theorem xr {i j pos}:PE X (.Constant (.int i) j pos) (tC (.int i)):=λ_ _ _ H _ I h=>wpAny_Constant_int ⟨.int i,H,I.tok _,⟨_,rfl⟩,h⟩
theorem yM {b j pos}:PE X (.Constant (.bool b) j pos) (tC (.bl b)):=λ_ _ _ H _ I h=>Constant_bool ⟨.bl b,H,I,rfl,h⟩
theorem xn {x j pos}:PE X (.Constant (.str x) j pos) (tC (.str x)):=λ_ _ _ H _ I h=>Calls.Constant_str ⟨.str x,H,I.tok _,⟨_,rfl⟩,h⟩
noncomputable def Gl (X:Cx) (x:Str):Prop:=X.env.kindOf x=some .globalImplicit
theorem oM {E:Value->Shared->Prop} {pins:List (Addr × Obj)} {s:Shared} {σ:St} {H:Hp} {x:Str} {u:Value} {pos:Pos} {Q:Value->Shared->Prop} (I:Inv X pins σ H s) (hg:Gl X x) (hm:X.mg x=some u) (h:Q u s)
   (hd:(x == ("__debug__" : Str))=false:=by decide):wpAny (model X.prog X.w) X.A (eval (.Name x pos) X.env) Q E s:=
 Calls.Name_function_global I.ok.kind hg (Calls.loadGlobal_global (by rw [I.ok.glob]; exact I.mod.glob.keeps I.bk) hm h) hd
theorem cH {E:Value->Shared->Prop} {pins:List (Addr × Obj)} {s:Shared} {σ:St} {H:Hp} {x:Str} {u:Value} {pos:Pos} {Q:Value->Shared->Prop} (I:Inv X pins σ H s) (hg:Gl X x) (hm:X.mg x=none) (hv:bootBuiltins x=some u) (h:Q u s)
   (hn:x ≠ "__name__":=by decide) (hd:(x == ("__debug__" : Str))=false:=by decide):wpAny (model X.prog X.w) X.A (eval (.Name x pos) X.env) Q E s:=by
 obtain ⟨mb,h1,h2⟩:=I.mod.blt
 exact Calls.Name_function_global I.ok.kind hg (Calls.loadGlobal_builtin (by rw [I.ok.glob]; exact I.mod.glob.keeps I.bk) hm (by rw [I.ok.blt]; exact h1.keeps I.bk) ((h2 x hn).trans hv) h) hd
theorem uV {x:Str} {v:V} {u:Value} {pos:Pos} (hg:Gl X x) (hm:X.mg x=some u) (r:RelV v u) (hd:(x == ("__debug__" : Str))=false:=by decide):PE X (.Name x pos) (tC v):=
 λ_ _ _ H _ I h=>oM I hg hm ⟨v,H,I,r,h⟩ hd
theorem uZ {x:Str} {v:V} {u:Value} {pos:Pos} (hg:Gl X x) (hm:X.mg x=none) (hv:bootBuiltins x=some u) (r:RelV v u) (hn:x ≠ "__name__":=by decide) (hd:(x == ("__debug__" : Str))=false:=by decide):PE X (.Name x pos) (tC v):=
 λ_ _ _ H _ I h=>cH I hg hm hv ⟨v,H,I,r,h⟩ hn hd
variable {a b:Expr} {ta tb:TE} {pos:Pos}
noncomputable def PC (X:Cx) (op:CmpOp) (a b:Expr) (t:TE):Prop:=
 ∀ (pins:List (Addr × Obj)) (s:Shared) (σ:St) (H:Hp) (Q:VK),Inv X pins σ H s->t σ H Q ->
   wpAny (model X.prog X.w) X.A (eval a X.env) (λv s₁=>wpAny (model X.prog X.w) X.A (eval b X.env) (λu s₂=>wpAny (model X.prog X.w) X.A (compareOp op v u) (EP X pins σ Q) X.xe s₂) X.xe s₁) X.xe s
theorem qZ (b:Expr) {op:CmpOp} (h:op ≠ .In) (h2:op ≠ .NotIn):behindInMarks op b=false:=by
 have e1:(op == CmpOp.In)=false:=by cases op <;> first | rfl | exact absurd rfl h
 have e2:(op == CmpOp.NotIn)=false:=by cases op <;> first | rfl | exact absurd rfl h2
 cases b <;> simp [behindInMarks,e1,e2]
noncomputable def tB (t:TE):TT:=λσ H Q=>t σ H λx H1=>∃ c,x=.bl c/\Q c H1
theorem zy {op:CmpOp} {t:TE} (h:PC X op a b t) (h1:behindInMarks op b=false:=by first | exact qZ _ (by decide) (by decide) | rfl):PT X (.Compare a [op] [b] pos) (tB t):=by
 intro pins s σ H Q I hw
 refine wpAny_isTrue_Compare1 (thn (h pins s σ H _ I hw) λv s1 h1=>thn h1 λu s2 h2=>thn h2 λc s3 ⟨x,H1,I1,r1,q1⟩=>?_) h1
 obtain ⟨d,rfl,q⟩:=q1
 cases r1
 exact wpAny_truthy_bool ⟨H1,I1,q⟩
theorem rb {e:Expr} {t:TE} (h:PE X e t) (he:∀ whole,isTrue e X.env whole=(do let v <- whole; standAt e.pos; holding [v] (truthy v)):=by intro _; rfl):PT X e (tB t):=by
 intro pins s σ H Q I hw
 refine isTrue_plain (thn (h pins s σ H _ I hw) λv s1 ⟨x,H1,I1,r1,q1⟩=>?_) (he _)
 obtain ⟨d,rfl,q⟩:=q1
 cases r1
 exact wpAny_truthy_bool ⟨H1,I1,q⟩
variable {tA tB':TT} {rest:List Expr}
noncomputable def y9 (t u:TT):TT:=λσ H Q=>t σ H λc H1=>if c=true then u σ H1 Q else Q false H1
noncomputable def tOr (t u:TT):TT:=λσ H Q=>t σ H λc H1=>if c=true then Q true H1 else u σ H1 Q
noncomputable def zt (t:TT):TT:=λσ H Q=>t σ H λc H1=>Q (!c) H1
theorem pw_and1 (ha:PT X a tA):PW X (.BoolOp .And [a] pos) tA:=by
 intro wh pins s σ H Q I h
 refine isTrue_and (thn (ha pins s σ H Q I h) λc s1 e=>?_)
 cases c with
 | true=>exact isTrue_and_nil e
 | false=>exact e
theorem pw_or1 (ha:PT X a tA):PW X (.BoolOp .Or [a] pos) tA:=by
 intro wh pins s σ H Q I h
 refine isTrue_or (thn (ha pins s σ H Q I h) λc s1 e=>?_)
 cases c with
 | false=>exact isTrue_or_nil e
 | true=>exact e
theorem pw_and (ha:PT X a tA) (hb:PW X (.BoolOp .And (b :: rest) pos) tB'):PW X (.BoolOp .And (a :: b :: rest) pos) (y9 tA tB'):=by
 intro wh pins s σ H Q I h
 refine isTrue_and (thn (ha pins s σ H _ I h) λc s1 ⟨H1,I1,q1⟩=>?_)
 cases c with
 | true=>exact hb wh pins s1 σ H1 Q I1 q1
 | false=>exact ⟨H1,I1,q1⟩
theorem pw_or (ha:PT X a tA) (hb:PW X (.BoolOp .Or (b :: rest) pos) tB'):PW X (.BoolOp .Or (a :: b :: rest) pos) (tOr tA tB'):=by
 intro wh pins s σ H Q I h
 refine isTrue_or (thn (ha pins s σ H _ I h) λc s1 ⟨H1,I1,q1⟩=>?_)
 cases c with
 | true=>exact ⟨H1,I1,q1⟩
 | false=>exact hb wh pins s1 σ H1 Q I1 q1
theorem sI (ha:PT X a tA):PT X (.UnaryOp .Not a pos) (zt tA):=by
 intro pins s σ H Q I h
 exact isTrue_not (ha pins s σ H (λc H1=>Q (!c) H1) I h)
noncomputable def yy (ta tb:TE):TE:=λσ H Q=>ta σ H λx H1=>∃ c,x=.bl c/\if c=true then tb σ H1 Q else Q (.bl false) H1
noncomputable def y8 (ta tb:TE):TE:=λσ H Q=>ta σ H λx H1=>∃ c,x=.bl c/\if c=true then Q (.bl true) H1 else tb σ H1 Q
noncomputable def yI (ta:TE):TE:=λσ H Q=>ta σ H λx H1=>∃ c,x=.bl c/\Q (.bl (!c)) H1
theorem wC {op} {t:TE} (h:PE X a t):PE X (.BoolOp op [a] pos) t:=λpins s σ H Q I hw=>BoolOp_one (h pins s σ H Q I hw)
theorem tM (ha:PE X a ta) (hb:PE X (.BoolOp .And (b :: rest) pos) tb):PE X (.BoolOp .And (a :: b :: rest) pos) (yy ta tb):=by
 intro pins s σ H Q I h
 refine BoolOp_and (thn (ha pins s σ H _ I h) λv s1 ⟨x,H1,I1,r1,q1⟩=>?_)
 obtain ⟨c,rfl,q1⟩:=q1
 cases r1
 refine wpAny_truthy_bool ?_
 cases c with
 | true=>exact hb pins s1 σ H1 Q I1 q1
 | false=>exact ⟨.bl false,H1,I1,rfl,q1⟩
theorem vj (ha:PE X a ta) (hb:PE X (.BoolOp .Or (b :: rest) pos) tb):PE X (.BoolOp .Or (a :: b :: rest) pos) (y8 ta tb):=by
 intro pins s σ H Q I h
 refine BoolOp_or (thn (ha pins s σ H _ I h) λv s1 ⟨x,H1,I1,r1,q1⟩=>?_)
 obtain ⟨c,rfl,q1⟩:=q1
 cases r1
 refine wpAny_truthy_bool ?_
 cases c with
 | false=>exact hb pins s1 σ H1 Q I1 q1
 | true=>exact ⟨.bl true,H1,I1,rfl,q1⟩
theorem xC (ha:PE X a ta):PE X (.UnaryOp .Not a pos) (yI ta):=by
 intro pins s σ H Q I h
 refine UnaryOp_ (thn (ha pins s σ H _ I h) λv s1 ⟨x,H1,I1,r1,q1⟩=>?_)
 obtain ⟨c,rfl,q1⟩:=q1
 cases r1
 exact not_of (wpAny_truthy_bool ⟨.bl (!c),H1,I1,rfl,q1⟩)
noncomputable def tIf (t:TT) (ta tb:TE):TE:=λσ H Q=>t σ H λc H1=>if c=true then ta σ H1 Q else tb σ H1 Q
theorem lL {c:Expr} (hc:PT X c tA) (ha:PE X a ta) (hb:PE X b tb):PE X (.IfExp c a b pos) (tIf tA ta tb):=by
 intro pins s σ H Q I h
 refine wpAny_IfExp (thn (hc pins s σ H _ I h) λd s1 ⟨H1,I1,q1⟩=>?_)
 cases d with
 | true=>exact ha pins s1 σ H1 Q I1 q1
 | false=>exact hb pins s1 σ H1 Q I1 q1
end
noncomputable def SqL (K:PySem.W.Frag) (H:Hp) (a:Addr) (xs:List V):Prop:=
 Rd H a (.lst xs) \/
   ∃ (o:Obj) (its:Array Value) (n:Nat),K.lookup a=some o/\o.cls=.type "list" /\ o.dict=none/\o.data=.seq its n/\its.size<=sizeLine/\Vals xs its.toList
noncomputable def SqT (K:PySem.W.Frag) (H:Hp) (a:Addr) (xs:List V):Prop:=
 Rd H a (.tup xs) \/
   ∃ (o:Obj) (its:Array Value) (n:Nat),K.lookup a=some o/\o.cls=.type "tuple" /\ o.data=.seq its n/\its.size<=sizeLine/\Vals xs its.toList
noncomputable def zp:Value->Option V
 | .none=>some .non
 | .bool b=>some (.bl b)
 | .int i _=>some (.int i)
 | .str x _=>some (.str x)
 | .bytes b _=>some (.byt b)
 | .float b _=>some (.flt b)
 | .ref a=>some (.ref a)
 | .type n=>some (.ty n)
 | _=>none
theorem RelV.abs {x:V} {u:Value} (r:RelV x u):zp u=some x:=by
 cases x with
 | non=>cases r; rfl
 | bl _=>cases r; rfl
 | int _=>obtain ⟨t,rfl⟩:=r; rfl
 | str _=>obtain ⟨t,rfl⟩:=r; rfl
 | byt _=>obtain ⟨t,rfl⟩:=r; rfl
 | flt _=>obtain ⟨t,rfl⟩:=r; rfl
 | ref _=>cases r; rfl
 | ty _=>cases r; rfl
theorem RelV.inj {x y:V} {u:Value} (r:RelV x u) (q:RelV y u):x=y:=Option.some.inj (r.abs.symm.trans q.abs)
theorem Vals.inj:∀ {xs ys:List V} {us:List Value},Vals xs us->Vals ys us->xs=ys
 | _,_,_,.nil,.nil=>rfl
 | _,_,_,.cons r t,.cons r' t'=>by rw [r.inj r',Vals.inj t t']
section
variable {X:Cx} {pins:List (Addr × Obj)} {σ:St} {H:Hp} {s:Shared} {a:Addr} {xs ys:List V}
theorem SqL.of {K:PySem.W.Frag} (h:H a=some (.lst xs)):SqL K H a xs:=.inl (.inl h)
theorem SqT.of {K:PySem.W.Frag} (h:H a=some (.tup xs)):SqT K H a xs:=.inl (.inl h)
theorem Inv.list (I:Inv X pins σ H s) (h:SqL X.K H a xs):∃ its:List Value,Vals xs its/\PlainL s.heap a its.toArray/\xs.length<=sizeLine:=by
 rcases h with h | ⟨o,its,n,hk,hc,hd,hs,hz,r⟩
 · obtain ⟨z,its,n,r,e⟩:=h.ok I.hok
   exact ⟨its,r,⟨_,n,e,rfl,rfl,rfl⟩,z⟩
 · refine ⟨its.toList,r,⟨o,n,I.kIn a o hk,hc,hd,by simpa using hs⟩,?_⟩
   have e:=r.length
   simp only [Array.length_toList] at e
   omega
theorem Inv.tuple (I:Inv X pins σ H s) (h:SqT X.K H a xs):∃ its:List Value,Vals xs its/\IsTup s.heap a its.toArray/\xs.length<=sizeLine:=by
 rcases h with h | ⟨o,its,n,hk,hc,hs,hz,r⟩
 · obtain ⟨z,its,r,p⟩:=h.ok I.hok
   exact ⟨its,r,p,z⟩
 · refine ⟨its.toList,r,⟨o,I.kIn a o hk,hc,n,by simpa using hs⟩,?_⟩
   have e:=r.length
   simp only [Array.length_toList] at e
   omega
theorem Inv.cP (I:Inv X pins σ H s) (h:SqL X.K H a xs) (h':SqL X.K H a ys):xs=ys:=by
 obtain ⟨its,r,⟨o,n,e,_,_,d⟩,_⟩:=I.list h
 obtain ⟨its',r',⟨o',n',e',_,_,d'⟩,_⟩:=I.list h'
 rw [e] at e'; cases e'
 rw [d] at d'
 injection d' with d1 _
 have:its=its':=by simpa using congrArg Array.toList d1
 subst this
 exact r.inj r'
theorem Inv.qy (I:Inv X pins σ H s) (h:SqT X.K H a xs) (h':SqT X.K H a ys):xs=ys:=by
 obtain ⟨its,r,⟨o,e,_,n,d⟩,_⟩:=I.tuple h
 obtain ⟨its',r',⟨o',e',_,n',d'⟩,_⟩:=I.tuple h'
 rw [e] at e'; cases e'
 rw [d] at d'
 injection d' with d1 _
 have:its=its':=by simpa using congrArg Array.toList d1
 subst this
 exact r.inj r'
end
noncomputable abbrev Cx.jv (X:Cx) (E:Value->Shared->Prop):Cx:={ X with xe:=E }
noncomputable abbrev Cx.nox (X:Cx):Cx:=X.jv λ_ _=>False
theorem Cx.Ok.jv {X:Cx} (ok:X.Ok) (E:Value->Shared->Prop):(X.jv E).Ok:=
 ⟨ok.mod,ok.kind,ok.glob,ok.blt,ok.above,ok.inj,ok.has,ok.cab,ok.hd,ok.frames,ok.stk,ok.exf,ok.bs,ok.bsz,ok.noex,ok.exfs,ok.hJ,ok.frf⟩
theorem Cx.Ok.dZ {X:Cx} {E:Value->Shared->Prop} (ok:(X.jv E).Ok):X.Ok:=
 ⟨ok.mod,ok.kind,ok.glob,ok.blt,ok.above,ok.inj,ok.has,ok.cab,ok.hd,ok.frames,ok.stk,ok.exf,ok.bs,ok.bsz,ok.noex,ok.exfs,ok.hJ,ok.frf⟩
section
variable {X:Cx} {pins:List (Addr × Obj)} {σ:St} {H:Hp} {s:Shared} {E:Value->Shared->Prop}
theorem Inv.jv (I:Inv X pins σ H s) (E:Value->Shared->Prop):Inv (X.jv E) pins σ H s:=⟨I.ok.jv E,I.os,I.bare,I.base,I.loc,I.cell,I.free,I.freeC,I.pin,I.hok,I.len⟩
theorem Inv.dZ (I:Inv (X.jv E) pins σ H s):Inv X pins σ H s:=⟨I.ok.dZ,I.os,I.bare,I.base,I.loc,I.cell,I.free,I.freeC,I.pin,I.hok,I.len⟩
theorem SP.dZ {D:Ends} {f:Flow} {s':Shared} (h:SP (X.jv E) pins D f s'):SP X pins D f s':=by
 cases f with
 | next=>obtain ⟨σ',H',I,q⟩:=h; exact ⟨σ',H',I.dZ,q⟩
 | brk=>obtain ⟨σ',H',I,q⟩:=h; exact ⟨σ',H',I.dZ,q⟩
 | cont=>obtain ⟨σ',H',I,q⟩:=h; exact ⟨σ',H',I.dZ,q⟩
 | ret u=>obtain ⟨v,σ',H',I,r,q⟩:=h; exact ⟨v,σ',H',I.dZ,r,q⟩
theorem PSs.nox {st:List Stmt} {t:TS} (h:PSs X.nox st t):PSs X st t:=λpins s σ H D I hw=>
 wpAny_mono (h pins s σ H D (I.jv _) hw) (λ_ _ q=>q.dZ) λ_ _ z=>False.elim z
end
section
variable {X:Cx} {st:Stmt} {rest:List Stmt} {t u:TS} {e:Expr} {te:TE} {pos:Pos}
noncomputable def yL:TS:=λD σ H=>D.nx σ H
noncomputable def zr (t u:TS):TS:=λD σ H=>t { D with nx:=u D } σ H
theorem ku:PSs X [] yL:=λ_ _ σ H _ I h=>wpAny_execs_nil ⟨σ,H,I,h⟩
theorem mW (h1:PS X st t) (h2:PSs X rest u):PSs X (st :: rest) (zr t u):=by
 intro pins s σ H D I h
 refine wpAny_execs_cons (thn (h1 pins s σ H { D with nx:=u D } I h) λf s1 q=>?_)
 cases f with
 | next=>
   obtain ⟨σ',H',I',q⟩:=q
   exact h2 pins s1 σ' H' D I' q
 | ret v=>exact q
 | brk=>exact q
 | cont=>exact q
theorem Inv.quiet {pins:List (Addr × Obj)} {σ:St} {H:Hp} {s:Shared} (I:Inv X pins σ H s):interactive X.env=false:=by simp [interactive,I.ok.kind]
noncomputable def yk (te:TE):TS:=λD σ H=>te σ H λ_ H1=>D.nx σ H1
theorem eA (he:PE X e te) (hs:swapsWith e none pos.line X.env=pure false:=by rfl):PS X (.Expr e pos) (yk te):=by
 intro pins s σ H D I h
 exact wpAny_Expr_any (thn (he pins s σ H _ I h) λv s1 ⟨x,H1,I1,r1,q1⟩=>⟨σ,H1,I1,q1⟩) I.quiet hs
noncomputable def y4 (te:TE):TS:=λD σ H=>te σ H D.rt
theorem nL (he:PE X e te):PS X (.Return (some e) pos) (y4 te):=by
 intro pins s σ H D I h
 exact wpAny_Return_some (thn (he pins s σ H _ I h) λv s1 ⟨x,H1,I1,r1,q1⟩=>⟨x,σ,H1,I1,r1,q1⟩)
noncomputable def zA (c:TT) (t u:TS):TS:=λD σ H=>c σ H λb H1=>if b=true then t D σ H1 else u D σ H1
theorem q0 {c:Expr} {a b:List Stmt} {tc:TT} (hc:PT X c tc) (ha:PSs X a t) (hb:PSs X b u):PS X (.If c a b pos) (zA tc t u):=by
 intro pins s σ H D I h
 refine wpAny_If (thn (hc pins s σ H _ I h) λd s1 ⟨H1,I1,q1⟩=>?_)
 cases d with
 | true=>exact ha pins s1 σ H1 D I1 q1
 | false=>exact hb pins s1 σ H1 D I1 q1
noncomputable def xA:TS:=λ_ _ _=>False
theorem fZ {sts:List Stmt}:PSs X sts xA:=λ_ _ _ _ _ _ h=>h.elim
end
noncomputable abbrev TG:=V->St->Hp->(St->Hp->Prop)->Prop
noncomputable abbrev TGs:=List V->St->Hp->(St->Hp->Prop)->Prop
noncomputable def PG (X:Cx) (target:Expr) (t:TG):Prop:=
 ∀ (pins:List (Addr × Obj)) (s:Shared) (σ:St) (H:Hp) (v:V) (u:Value) (Q:St->Hp->Prop),Inv X pins σ H s->RelV v u->t v σ H Q ->
   wpAny (model X.prog X.w) X.A (assign target X.env u) (λ_ s'=>∃ σ' H',Inv X pins σ' H' s'/\Q σ' H') X.xe s
noncomputable def PGs (X:Cx) (ts:List Expr) (t:TGs):Prop:=
 ∀ (pins:List (Addr × Obj)) (s:Shared) (σ:St) (H:Hp) (vs:List V) (us:List Value) (Q:St->Hp->Prop),Inv X pins σ H s->Vals vs us->t vs σ H Q ->
   wpAny (model X.prog X.w) X.A (assignInOrder ((assignEach ts X.env).map (·.2)) us) (λ_ s'=>∃ σ' H',Inv X pins σ' H' s'/\Q σ' H') X.xe s
section
variable {X:Cx} {pos:Pos}
noncomputable def tI (i:Nat):TG:=λv σ H Q=>Q (σ.set i (some v)) H
theorem eI {i:Nat} {x:Str} (hN:X.N.Nodup) (hi:X.N[i]?=some x) (hx:Loc X.env.scope x) (hf:X.fn x=true\/X.env.scope.names.lookup x=some .local:=by first | exact .inl rfl | exact .inr rfl | assumption):PG X (.Name x pos) (tI i):=by
 intro pins s σ H v u Q I r h
 exact wpAny_assign_Name (lG I hN hi hx r (λs' I'=>⟨_,H,I',h⟩) hf)
noncomputable def za:TGs:=λvs σ H Q=>vs=[]/\Q σ H
noncomputable def yu (t:TG) (u:TGs):TGs:=λvs σ H Q=>∃ v r,vs=v :: r/\t v σ H λσ' H'=>u r σ' H' Q
theorem o8:PGs X [] za:=by
 intro pins s σ H vs us Q I r h
 obtain ⟨e,h⟩:=h
 subst e
 cases r
 exact assignInOrder_nil ⟨σ,H,I,h⟩
theorem iD {e:Expr} {es:List Expr} {t:TG} {u:TGs} (h1:PG X e t) (h2:PGs X es u)
   (hs:(assignEach (e :: es) X.env).map (·.2)=assign e X.env :: (assignEach es X.env).map (·.2):=by rfl):PGs X (e :: es) (yu t u):=by
 intro pins s σ H vs us Q I r h
 obtain ⟨v,vr,e1,h⟩:=h
 subst e1
 cases r with
 | cons r rr=>
   rw [hs]
   refine assignInOrder_cons (thn (h1 pins s σ H _ _ _ I r h) λ_ s1 ⟨σ1,H1,I1,q1⟩=>?_)
   exact h2 pins s1 σ1 H1 _ _ Q I1 rr q1
noncomputable def zo (K:PySem.W.Frag) (n:Nat) (t:TGs):TG:=λv σ H Q=>∃ a xs,v=.ref a/\SqT K H a xs/\xs.length=n/\t xs σ H Q
theorem r9 {es:List Expr} {k:Nat} {t:TGs} {n:Nat} (hc:X.calm=true) (h:PGs X es t)
   (hn:(assignEach es X.env).length=n:=by rfl) (hst:(assignEach es X.env).findIdx? (·.1)=none:=by rfl):PG X (.Tuple es k pos) (zo X.K n t):=by
 intro pins s σ H v u Q I r hw
 obtain ⟨a,xs,e1,hq,hl,hw⟩:=hw
 subst e1
 cases r
 obtain ⟨its,rv,ht,hz⟩:=I.tuple hq
 refine assign_Tuple_tuple (I.ok.hd hc) ht (by simp [hn,<- hl,rv.length]) hst λh' hx=>?_
 have I1:Inv X pins σ H { s with heap:=h' }:=I.kept (t':=s.toks) λb o e=>hx b o (Nat.ne_of_lt (Heap.lt_size e)) e
 exact h pins _ σ H xs _ Q I1 (by simpa using rv) hw
noncomputable def x5 (te:TE) (g:TG):TS:=λD σ H=>te σ H λx H1=>g x σ H1 D.nx
theorem w9 {tg e:Expr} {te:TE} {g:TG} (he:PE X e te) (hg:PG X tg g) (hs:swapsWithSole [tg] e pos.line X.env=pure false:=by rfl) (hw:swappedStores [tg] e X.env=pure none:=by rfl)
   (h1:(assignEach [tg] X.env).map (·.2)=[assign tg X.env]:=by rfl):PS X (.Assign [tg] e pos) (x5 te g):=by
 intro pins s σ H D I h
 refine wpAny_Assign_stores (thn (he pins s σ H _ I h) λv s1 ⟨x,H1,I1,r1,q1⟩=>?_) hs hw
 rw [h1]
 exact thn (hg pins s1 σ H1 x v _ I1 r1 q1) λ_ s2 q=>q
theorem wx {i:Nat} {x:Str} {e:Expr} {te:TE} {pos':Pos} (hN:X.N.Nodup) (hi:X.N[i]?=some x) (hx:Loc X.env.scope x) (he:PE X e te) (hs:swapsWith e (some (.Name x pos')) pos.line X.env=pure false:=by rfl) (hf:X.fn x=true\/X.env.scope.names.lookup x=some .local:=by first | exact .inl rfl | exact .inr rfl | assumption) :
   PS X (.Assign [.Name x pos'] e pos) (x5 te (tI i)):=by
 intro pins s σ H D I h
 refine wpAny_Assign_Name (thn (he pins s σ H _ I h) λv s1 ⟨y,H1,I1,r1,q1⟩=>?_) hs
 exact lG I1 hN hi hx r1 (λs2 I2=>⟨_,H1,I2,q1⟩) hf
end
section
variable {X:Cx} {pos:Pos}
noncomputable def wd (c:TT) (tb:TS):TS:=λD σ H=>∃ W:Nat->St->Hp->Prop,(∃ m,W m σ H)/\∀ m σ H,W m σ H ->
 c σ H λb H1=>if b=true then ∃ N:St->Hp->Prop,(∀ σ' H',N σ' H'->∃ m',m' < m/\W m' σ' H')/\tb { D with nx:=N,ct:=N,bk:=D.nx } σ H1 else D.nx σ H1
theorem rC {c:Expr} {body:List Stmt} {tc:TT} {tb:TS} (hp:PassesOwn (model X.prog X.w) X.A X.env X.xe) (hc:PT X c tc) (hb:PSs X body tb):PS X (.While c body [] pos) (wd tc tb):=by
 intro pins s σ H D I h
 obtain ⟨W,⟨m0,w0⟩,turn⟩:=h
 refine wpAny_While (codeAny_whileLoop (λn s'=>∃ σ' H',Inv X pins σ' H' s'/\W n σ' H') ?_ m0 ⟨σ,H,I,w0⟩)
 rintro n s1 ⟨σ1,H1,I1,w1⟩
 refine wpAny_passesOwn hp (thn (hc pins s1 σ1 H1 _ I1 (turn n σ1 H1 w1)) λb s2 ⟨H2,I2,q2⟩=>?_)
 cases b with
 | true=>
   obtain ⟨N,hN,q2⟩:=q2
   rw [if_pos rfl]
   refine wpAny_passesOwn hp (thn (hb pins s2 σ1 H2 _ I2 q2) λf s3 q3=>?_)
   cases f with
   | next=>
     obtain ⟨σ3,H3,I3,n3⟩:=q3
     obtain ⟨m',hm,w3⟩:=hN σ3 H3 n3
     exact ⟨m',hm,σ3,H3,I3,w3⟩
   | cont=>
     obtain ⟨σ3,H3,I3,n3⟩:=q3
     obtain ⟨m',hm,w3⟩:=hN σ3 H3 n3
     exact ⟨m',hm,σ3,H3,I3,w3⟩
   | brk=>exact q3
   | ret v=>exact q3
 | false=>
   rw [if_neg Bool.false_ne_true]
   exact wpAny_execs_nil ⟨σ1,H2,I2,q2⟩
end
structure It where
 go:Nat->Hp->Prop
 yld:Nat->Hp->V->Hp->Prop
 stop:Nat->Hp->Prop
noncomputable def mN (X:Cx) (pins:List (Addr × Obj)) (H:Hp) (b:Addr):Prop:=
 H b=none/\b ≠ X.env.locals/\b ∉ X.fs/\(b ∈ X.ex\/X.s₀.heap.objs.size<=b)/\(∀ x c,X.env.cells.lookup x=some c->c ≠ b)/\∀ p ∈ X.pn++pins,p.1 ≠ b
theorem Inv.nB {X:Cx} {pins:List (Addr × Obj)} {σ:St} {H H':Hp} {s:Shared} {b:Addr} (I:Inv X pins σ H s) (hb:s.heap.objs.size<=b) (hn:H' b=none):mN X pins H' b:=by
 refine ⟨hn,Nat.ne_of_gt (Nat.lt_of_lt_of_le I.lt hb),I.zq hb,.inr (Nat.le_trans I.sz hb),λx c e z=>?_,λp hp z=>?_⟩
 · obtain ⟨v,q⟩:=I.cell x c e
   exact absurd (Nat.lt_of_lt_of_le q.lt (by rw [z]; exact hb)) (Nat.lt_irrefl _)
 · exact absurd (Nat.lt_of_lt_of_le (Heap.lt_size (I.pin p hp).1) (by rw [z]; exact hb)) (Nat.lt_irrefl _)
noncomputable def zD (X:Cx):Prop:=∃ h o u vs,X.A.handled=some (.ref h)/\X.H₀ h=some (.frz o u)/\o.data=.fields vs/\vs[2]?=some .none
noncomputable def Ck (kd:Bool) (X:Cx):Prop:=X.calm=true\/(kd=true/\zD X)
theorem Ck.calm {X:Cx} (h:Ck false X):X.calm=true:=h.resolve_right λz=>nomatch z.1
structure Turn (P:Program) (w:World) (K:PySem.W.Frag) (kd:Bool) (tg:Expr) (J:It) (fp:List Addr) (it:Addr) (tn:Nat->Heap->Prop):Prop where
 mem:it ∈ fp
 obj:∀ i h,tn i h->∀ b ∈ fp,∃ o,h.get? b=some o/\∀ v,o.data ≠ .cell v
 keep:∀ i h h',tn i h->(∀ b ∈ fp,∀ o,h.get? b=some o->h'.get? b=some o)->tn i h'
 item:∀ (X:Cx),X.prog=P->X.w=w->X.K=K->Ck kd X->∀ (i:Nat) (pins:List (Addr × Obj)) (s:Shared) (σ:St) (H:Hp) (E:Value->Shared->Prop),Inv X pins σ H s->(∀ b ∈ fp,mN X pins H b)->tn i s.heap->J.go i H ->
   wpAny (model P w) X.A (pyNext (.ref it)) (λr s1=>∃ u,r=some u /\
     wpAny (model P w) X.A (letOwnedTupleGo tg (.ref it) u) (λ_ s2=>∃ x H',Inv X pins σ H' s2/\RelV x u/\J.yld i H x H'/\tn (i + 1) s2.heap/\∀ b ∈ fp,H' b=none) E s1) E s
 done:∀ (X:Cx),X.prog=P->X.w=w->X.K=K->Ck kd X->∀ (i:Nat) (pins:List (Addr × Obj)) (s:Shared) (σ:St) (H:Hp) (E:Value->Shared->Prop),Inv X pins σ H s->(∀ b ∈ fp,mN X pins H b)->tn i s.heap->J.stop i H ->
   wpAny (model P w) X.A (pyNext (.ref it)) (λr s1=>r=none/\Inv X pins σ H s1) E s
 self:∀ (A:Around) (i:Nat) (s:Shared) (Q:Value->Shared->Prop) (E:Value->Shared->Prop),tn i s.heap->Q (.ref it) s->wpAny (model P w) A (pyIter (.ref it)) Q E s
noncomputable abbrev TI:=St->Hp->(It->Hp->Prop)->Prop
noncomputable def PIE (X:Cx) (pins:List (Addr × Obj)) (σ:St) (tg:Expr) (R:It->Hp->Prop) (itv:Value) (s2:Shared):Prop:=
 ∃ (kd:Bool) (it:Addr) (fp:List Addr) (tn:Nat->Heap->Prop) (J:It) (H':Hp),itv=.ref it/\Inv X pins σ H' s2/\Ck kd X/\Turn X.prog X.w X.K kd tg J fp it tn/\tn 0 s2.heap/\(∀ b ∈ fp,mN X pins H' b)/\R J H'
noncomputable def PI (X:Cx) (tg iter:Expr) (wi:TI):Prop:=
 ∀ (pins:List (Addr × Obj)) (s:Shared) (σ:St) (H:Hp) (R:It->Hp->Prop),Inv X pins σ H s->wi σ H R ->
   wpAny (model X.prog X.w) X.A (eval iter X.env) (λv s1=>wpAny (model X.prog X.w) X.A (pyIter v) (PIE X pins σ tg R) X.xe s1) X.xe s
theorem p6 {M:Model} {A:Around} {E:Value->Shared->Prop} {s:Shared} {tg:Expr} {it:Addr} {u:Value} {o:Obj} {n:String} {vs:Array Value} {Q:Unit->Shared->Prop} (ho:s.heap.get? it=some o) (hc:o.cls=.type n) (hd:o.data=.fields vs)
   (hn:["enumerate","zip","dict_itemiterator","dict_reverseitemiterator","odict_iterator","itertools.zip_longest","itertools.pairwise"].contains n=false) (hQ:Q () s):wpAny M A (letOwnedTupleGo tg (.ref it) u) Q E s:=by
 unfold letOwnedTupleGo
 cases tg <;> first
   | exact wpAny_pure hQ
   | (cases u <;> first
       | exact wpAny_pure hQ
       | (refine wpAny_bind (wpAny_load ho ?_)
          rw [hc,hd]
          show wpAny M A (if (["enumerate","zip","dict_itemiterator","dict_reverseitemiterator","odict_iterator","itertools.zip_longest","itertools.pairwise"].contains n && vs[0]? == some (rawInt _))=true then _ else _) Q E s
          rw [if_neg (by intro h; rw [hn,Bool.false_and] at h; cases h)]
          exact wpAny_pure hQ))
noncomputable def Itl (K:PySem.W.Frag) (a:Addr):It:=
 ⟨λi H=>∃ xs x,SqL K H a xs/\xs[i]?=some x,λi H x H'=>H'=H/\∀ xs,SqL K H a xs->xs[i]?=some x,λi H=>∃ xs,SqL K H a xs/\xs.length<=i⟩
noncomputable def Itt (K:PySem.W.Frag) (a:Addr):It:=
 ⟨λi H=>∃ xs x,SqT K H a xs/\xs[i]?=some x,λi H x H'=>H'=H/\∀ xs,SqT K H a xs->xs[i]?=some x,λi H=>∃ xs,SqT K H a xs/\xs.length<=i⟩
noncomputable def Itr (lo:Int) (n:Nat):It:=⟨λi _=>i < n,λi H x H'=>H'=H/\x=.int (lo + i),λi _=>n<=i⟩
theorem qt {P:Program} {w:World} {K:PySem.W.Frag} {tg:Expr} (a it:Addr):Turn P w K false tg (Itl K a) [it] it (λi h=>h.IsListIter it a i) where
 mem:=by simp
 obj:=λi h st b hb=>by
   have e:b=it:=by simpa using hb
   subst e
   obtain ⟨o,e,c,d⟩:=st
   exact ⟨o,e,λv z=>by rw [d] at z; cases z⟩
 keep:=λi h h' st k=>st.at λo e=>k it (by simp) o e
 item:=by
   intro X hP hw hK hc i pins s σ H E I hf st hg
   subst hP hw hK
   obtain ⟨xs,x,hq,hx⟩:=hg
   obtain ⟨its,rv,p,hz⟩:=I.list hq
   obtain ⟨u,hu,ru⟩:=rv.get hx
   obtain ⟨f0,f1,f2,f3,f4,f5⟩:=hf it (by simp)
   refine wpAny_pyNext_list_item st p.isList (x:=u) (by simpa using hu) λh' st' sb=>?_
   have I1:Inv X pins σ H { s with heap:=h' }:=I.turned (t':=s.toks) (λb o hb e=>(sb.2 b hb).trans e) f0 f1 f3 f4 f5
   obtain ⟨o,e,c,d⟩:=id st'
   exact ⟨u,rfl,p6 (s:={ s with heap:=h' }) e c d (by decide) ⟨x,H,I1,ru,⟨rfl,λys hy=>by rw [I.cP hy hq]; exact hx⟩,st',λb hb=>(hf b hb).1⟩⟩
 done:=by
   intro X hP hw hK hc i pins s σ H E I hf st hg
   subst hP hw hK
   obtain ⟨xs,hq,hx⟩:=hg
   obtain ⟨its,rv,p,hz⟩:=I.list hq
   obtain ⟨f0,f1,f2,f3,f4,f5⟩:=hf it (by simp)
   have hl:=rv.length
   exact wpAny_pyNext_list_end (I.ok.hd hc.calm) st p.isList (by simp; omega) λh' eb=>⟨rfl,I.turned (t':=s.toks) (λb o hb e=>eb b o hb e) f0 f1 f3 f4 f5⟩
 self:=λ_ _ _ _ _ st h=>wpAny_pyIter_listiter st h
theorem nN {P:Program} {w:World} {K:PySem.W.Frag} {tg:Expr} (a it:Addr):Turn P w K false tg (Itt K a) [it] it (λi h=>h.IsTupleIter it a i) where
 mem:=by simp
 obj:=λi h st b hb=>by
   have e:b=it:=by simpa using hb
   subst e
   obtain ⟨o,e,c,d⟩:=st
   exact ⟨o,e,λv z=>by rw [d] at z; cases z⟩
 keep:=λi h h' st k=>st.at λo e=>k it (by simp) o e
 item:=by
   intro X hP hw hK hc i pins s σ H E I hf st hg
   subst hP hw hK
   obtain ⟨xs,x,hq,hx⟩:=hg
   obtain ⟨its,rv,p,hz⟩:=I.tuple hq
   obtain ⟨u,hu,ru⟩:=rv.get hx
   obtain ⟨f0,f1,f2,f3,f4,f5⟩:=hf it (by simp)
   refine wpAny_pyNext_tuple_item st (show s.heap.IsTuple a its.toArray from p) (x:=u) (by simpa using hu) λh' st' sb=>?_
   have I1:Inv X pins σ H { s with heap:=h' }:=I.turned (t':=s.toks) (λb o hb e=>(sb.2 b hb).trans e) f0 f1 f3 f4 f5
   obtain ⟨o,e,c,d⟩:=id st'
   exact ⟨u,rfl,p6 (s:={ s with heap:=h' }) e c d (by decide) ⟨x,H,I1,ru,⟨rfl,λys hy=>by rw [I.qy hy hq]; exact hx⟩,st',λb hb=>(hf b hb).1⟩⟩
 done:=by
   intro X hP hw hK hc i pins s σ H E I hf st hg
   subst hP hw hK
   obtain ⟨xs,hq,hx⟩:=hg
   obtain ⟨its,rv,p,hz⟩:=I.tuple hq
   obtain ⟨f0,f1,f2,f3,f4,f5⟩:=hf it (by simp)
   have hl:=rv.length
   exact wpAny_pyNext_tuple_end (I.ok.hd hc.calm) st (show s.heap.IsTuple a its.toArray from p) (by simp; omega) λh' eb=>⟨rfl,I.turned (t':=s.toks) (λb o hb e=>eb b o hb e) f0 f1 f3 f4 f5⟩
 self:=λ_ _ _ _ _ st h=>wpAny_pyIter_tupleiter st h
theorem nS {P:Program} {w:World} {K:PySem.W.Frag} {tg:Expr} (it:Addr) (lo:Int) (n:Nat):Turn P w K true tg (Itr lo n) [it] it (λi h=>IsRangeIter h it (lo + (i:Nat) * 1) ((n:Int) - (i:Nat)) 1) where
 mem:=by simp
 obj:=λi h st b hb=>by
   have e:b=it:=by simpa using hb
   subst e
   exact ⟨_,st,λv z=>by
     have z':Data.fields _=Data.cell v:=z
     cases z'⟩
 keep:=λi h h' st k=>k it (by simp) _ st
 item:=by
   intro X hP hw hK hc i pins s σ H E I hf st hg
   subst hP hw hK
   obtain ⟨f0,f1,f2,f3,f4,f5⟩:=hf it (by simp)
   refine wpAny_pyNext_range_item st (by have:i < n:=hg; omega) λh' st0 sb=>?_
   have st':IsRangeIter h' it (lo + ((i + 1:Nat):Int) * 1) ((n:Int) - ((i + 1:Nat):Int)) 1:=by
     have e1:lo + ((i + 1:Nat):Int) * 1=lo + (i:Nat) * 1 + 1:=by omega
     have e2:(n:Int) - ((i + 1:Nat):Int)=(n:Int) - (i:Nat) - 1:=by omega
     rw [e1,e2]; exact st0
   have I1:Inv X pins σ H { s with heap:=h',toks:=s.toks + 1 }:=I.turned (λb o hb e=>(sb.2 b hb).trans e) f0 f1 f3 f4 f5
   refine ⟨_,rfl,p6 (s:={ s with heap:=h',toks:=s.toks + 1 }) (n:="range_iterator") st' rfl rfl (by decide) ⟨.int (lo + i),H,I1,⟨s.toks,?_⟩,⟨rfl,rfl⟩,st',λb hb=>(hf b hb).1⟩⟩
   rw [Int.mul_one]
 done:=by
   intro X hP hw hK hc i pins s σ H E I hf st hg
   subst hP hw hK
   obtain ⟨f0,f1,f2,f3,f4,f5⟩:=hf it (by simp)
   rcases hc with hc | ⟨_,q,o,u,vs,e1,e2,e3,e4⟩
   · exact wpAny_pyNext_range_end (I.ok.hd hc) st (by have:n<=i:=hg; omega) λh' eb=>⟨rfl,I.turned (t':=s.toks) (λb o hb e=>eb b o hb e) f0 f1 f3 f4 f5⟩
   · have e5:=I.hok q _ (I.base.frzs q o u e2)
     exact Hx.n9 e1 e5.1 e3 e4 st (by have:n<=i:=hg; omega) λh' eb=>⟨rfl,I.turned (t':=s.toks) (λb o hb e=>eb b o hb e) f0 f1 f3 f4 f5⟩
 self:=λ_ _ _ _ _ st h=>wpAny_pyIter_rangeiter st h
section
variable {X:Cx} {tg:Expr}
noncomputable def yS (K:PySem.W.Frag) (tl:TE):TI:=λσ H R=>tl σ H λx H1=>∃ a,x=.ref a/\(∃ xs,SqL K H1 a xs)/\R (Itl K a) H1
noncomputable def zx (K:PySem.W.Frag) (tl:TE):TI:=λσ H R=>tl σ H λx H1=>∃ a,x=.ref a/\(∃ xs,SqT K H1 a xs)/\R (Itt K a) H1
theorem pV {l:Expr} {tl:TE} (hc:X.calm=true) (hl:PE X l tl):PI X tg l (yS X.K tl):=by
 intro pins s σ H R I h
 refine thn (hl pins s σ H _ I h) λv s1 ⟨x,H1,I1,r1,q1⟩=>?_
 obtain ⟨a,e,⟨xs,hq⟩,q⟩:=q1
 subst e
 cases r1
 obtain ⟨its,rv,p,hz⟩:=I1.list hq
 refine wpAny_pyIter_list p.isList ?_
 refine ⟨false,s1.heap.objs.size,[s1.heap.objs.size],_,_,H1,rfl,I1.kept (t':=s1.toks) λb o e=>Heap.get?_push_of_some _ e,.inl hc,qt a _,⟨_,Heap.get?_push_size _ rfl,rfl,rfl⟩,λb hb=>?_,q⟩
 have e:b=s1.heap.objs.size:=by simpa using hb
 subst e
 exact I1.nB (Nat.le_refl _) (I1.hok.fresh (Nat.le_refl _))
theorem wg {l:Expr} {tl:TE} (hc:X.calm=true) (hl:PE X l tl):PI X tg l (zx X.K tl):=by
 intro pins s σ H R I h
 refine thn (hl pins s σ H _ I h) λv s1 ⟨x,H1,I1,r1,q1⟩=>?_
 obtain ⟨a,e,⟨xs,hq⟩,q⟩:=q1
 subst e
 cases r1
 obtain ⟨its,rv,p,hz⟩:=I1.tuple hq
 refine wpAny_pyIter_tuple (show s1.heap.IsTuple a its.toArray from p) ?_
 refine ⟨false,s1.heap.objs.size,[s1.heap.objs.size],_,_,H1,rfl,I1.kept (t':=s1.toks) λb o e=>Heap.get?_push_of_some _ e,.inl hc,nN a _,⟨_,Heap.get?_push_size _ rfl,rfl,rfl⟩,λb hb=>?_,q⟩
 have e:b=s1.heap.objs.size:=by simpa using hb
 subst e
 exact I1.nB (Nat.le_refl _) (I1.hok.fresh (Nat.le_refl _))
theorem l4 {pins:List (Addr × Obj)} {σ:St} {H:Hp} {s:Shared} {R:It->Hp->Prop} {E:Value->Shared->Prop} {lo hi:Int} {t u v:Tok} {tk:Nat} (hc:Ck true X) (I:Inv X pins σ H s) (h1:-(2 ^ 62)<=lo) (h2:lo < 2 ^ 62) (h3:-(2 ^ 62)<=hi) (h4:hi < 2 ^ 62)
   (q:R (Itr lo (hi - lo).toNat) H):wpAny (model X.prog X.w) X.A (pyIter (.ref s.heap.objs.size)) (PIE X pins σ tg R) E { s with heap:=s.heap.push { cls:=.type "range",data:=.fields #[.int lo t,.int hi u,.int 1 v] },toks:=tk }:=by
 refine wpAny_pyIter_range (IsRange.new ..) (small_one h1 h2 h3 h4) ?_
 have I1:Inv X pins σ H { s with heap:=s.heap.push { cls:=.type "range",data:=.fields #[.int lo t,.int hi u,.int 1 v] },toks:=tk }:=I.kept λb o e=>Heap.get?_push_of_some _ e
 refine ⟨true,(s.heap.push { cls:=.type "range",data:=.fields #[.int lo t,.int hi u,.int 1 v] }).objs.size,[(s.heap.push { cls:=.type "range",data:=.fields #[.int lo t,.int hi u,.int 1 v] }).objs.size],_,_,H,rfl,
   I1.kept (t':=tk) λb o e=>Heap.get?_push_of_some _ e,hc,nS _ lo (hi - lo).toNat,?_,λb hb=>?_,q⟩
 · have e1:lo + ((0:Nat):Int) * 1=lo:=by simp
   have e2:(((hi - lo).toNat:Nat):Int) - ((0:Nat):Int)=Builtin.Range.rangeSize lo hi 1:=by rw [rangeSize_one]; split <;> omega
   show IsRangeIter _ _ (lo + ((0:Nat):Int) * 1) ((((hi - lo).toNat:Nat):Int) - ((0:Nat):Int)) 1
   rw [e1,e2]
   exact Heap.get?_push_size _ rfl
 · have e:b=(s.heap.push { cls:=.type "range",data:=.fields #[.int lo t,.int hi u,.int 1 v] }).objs.size:=by simpa using hb
   subst e
   exact I1.nB (Nat.le_refl _) (I1.hok.fresh (Nat.le_refl _))
noncomputable def yd (ta:TA):TI:=λσ H R=>ta σ H λvs H1=>∃ j:Int,vs=[.int j]/\-(2 ^ 62)<=j/\j < 2 ^ 62/\R (Itr 0 j.toNat) H1
noncomputable def yJ (ta:TA):TI:=λσ H R=>ta σ H λvs H1=>∃ i j:Int,vs=[.int i,.int j]/\(-(2 ^ 62)<=i/\i < 2 ^ 62/\-(2 ^ 62)<=j/\j < 2 ^ 62)/\R (Itr i (j - i).toNat) H1
theorem qp {a:Expr} {ta:TA} {p pos:Pos} (hc:Ck true X) (hg:Gl X "range") (hm:X.mg "range" = none) (ha:PA X [a] ta) (hs:starEach [a] X.env=[(false,eval a X.env)]:=by rfl):PI X tg (.Call (.Name "range" p) [a] [] pos) (yd ta):=by
 intro pins s σ H R I h
 refine Call_ (cH I hg hm boot_range (PyProof.Rows.callWith_type1 (thn (ha pos pins s σ H _ I h) λus s1 ⟨vs,H1,I1,r1,q1⟩=>?_) hs rfl))
 obtain ⟨j,e,q1,q2,q⟩:=q1
 subst e
 cases r1 with
 | cons r rr=>
   cases rr
   obtain ⟨t,rfl⟩:=r
   exact call_range_1 (l4 hc I1 (by omega) (by omega) q1 q2 (by simpa using q))
theorem qK {a b:Expr} {ta:TA} {p pos:Pos} (hc:Ck true X) (hg:Gl X "range") (hm:X.mg "range" = none) (ha:PA X [a,b] ta) (hs:starEach [a,b] X.env=[(false,eval a X.env),(false,eval b X.env)]:=by rfl) (hs2:starEach [b] X.env=[(false,eval b X.env)]:=by rfl) :
   PI X tg (.Call (.Name "range" p) [a,b] [] pos) (yJ ta):=by
 intro pins s σ H R I h
 refine Call_ (cH I hg hm boot_range (PyProof.Rows.callWith_type1 (thn (ha pos pins s σ H _ I h) λus s1 ⟨vs,H1,I1,r1,q1⟩=>?_) (by rw [hs,hs2]) (by rw [hs2]; rfl)))
 obtain ⟨i,j,e,⟨q1,q2,q3,q4⟩,q⟩:=q1
 subst e
 cases r1 with
 | cons r rr=>
   cases rr with
   | cons r' rr=>
     cases rr
     obtain ⟨t,rfl⟩:=r
     obtain ⟨t',rfl⟩:=r'
     exact call_range_2 (l4 hc I1 q1 q2 q3 q4 q)
noncomputable def zk (wi:TI) (g:TG) (tb:TS):TS:=λD σ H=>wi σ H λJ H1=>∃ W:Nat->Nat->St->Hp->Prop,(∃ m,W 0 m σ H1)/\∀ i m σ H,W i m σ H ->
 (J.stop i H/\D.nx σ H)\/(J.go i H/\∃ N:St->Hp->Prop,(∀ σ' H',N σ' H'->∃ m',m' < m/\W (i + 1) m' σ' H')/\∀ x H',J.yld i H x H'->g x σ H' λσ2 H2=>tb { D with nx:=N,ct:=N,bk:=D.nx } σ2 H2)
noncomputable def iN (fp:List Addr) (h:Heap):List (Addr × Obj):=fp.filterMap λb=>(h.get? b).map λo=>(b,o)
theorem dk {fp:List Addr} {h:Heap} {b:Addr} {o:Obj} (hb:b ∈ fp) (e:h.get? b=some o):(b,o) ∈ iN fp h:=List.mem_filterMap.mpr ⟨b,hb,by rw [e]; rfl⟩
theorem qO {fp:List Addr} {h:Heap} {p:Addr × Obj} (hp:p ∈ iN fp h):p.1 ∈ fp/\h.get? p.1=some p.2:=by
 obtain ⟨b,hb,e⟩:=List.mem_filterMap.mp hp
 cases q:h.get? b with
 | none=>rw [q] at e; cases e
 | some o=>
   rw [q] at e
   have e':(b,o)=p:=Option.some.inj e
   subst e'
   exact ⟨hb,q⟩
theorem Inv.pinned {pins:List (Addr × Obj)} {σ:St} {H:Hp} {s:Shared} {fp:List Addr} (I:Inv X pins σ H s) (hf:∀ b ∈ fp,mN X pins H b) (ho:∀ b ∈ fp,∃ o,s.heap.get? b=some o/\∀ v,o.data ≠ .cell v):Inv X (pins++iN fp s.heap) σ H s:=
 I.pf λp hp=>(List.mem_append.mp hp).elim (λz=>I.pin p (List.mem_append_right _ z)) λz=>by
   obtain ⟨hb,e⟩:=qO z
   obtain ⟨f0,f1,f2,_⟩:=hf p.1 hb
   obtain ⟨o,e',d⟩:=ho p.1 hb
   rw [e] at e'; cases e'
   exact ⟨e,f0,f1,f2,d⟩
theorem Inv.fO {pins pl:List (Addr × Obj)} {σ:St} {H:Hp} {s:Shared} (I:Inv X (pins++pl) σ H s):Inv X pins σ H s:=I.pf λp hp=>I.pin p (List.mem_append_right _ (List.mem_append_left _ hp))
theorem sk {iter:Expr} {body:List Stmt} {wi:TI} {g:TG} {tb:TS} {pos:Pos} (hp:PassesOwn (model X.prog X.w) X.A X.env X.xe) (hi:PI X tg iter wi) (hg:PG X tg g) (hb:PSs X body tb)
   (hs:∀ x,foldedSetIterable iter X.env x=pure x:=by intro _; rfl):PS X (.For tg iter body [] pos) (zk wi g tb):=by
 intro pins s σ H D I h
 refine wpAny_For (thn (hi pins s σ H _ I h) λv s1 h1=>thn h1 λitv s2 h2=>?_) hs
 obtain ⟨kd,it,fp,tn,J,H2,e,I2,hc,T,st2,f2,W,⟨m0,w0⟩,turn⟩:=h2
 subst e
 have stat:∀ {H':Hp},(∀ b ∈ fp,H' b=none)->∀ b ∈ fp,mN X pins H' b:=λhn b hb=>⟨hn b hb,(f2 b hb).2⟩
 refine codeAny_forLoop_any (λn s'=>∃ i σ' H',Inv X pins σ' H' s'/\tn i s'.heap/\(∀ b ∈ fp,H' b=none)/\W i n σ' H') ?_ m0 ⟨0,σ,H2,I2,st2,λb hb=>(f2 b hb).1,w0⟩
 rintro n s3 ⟨i,σ3,H3,I3,st3,fr3,w3⟩
 rcases turn i n σ3 H3 w3 with ⟨stop,qn⟩ | ⟨go,N,hN,step⟩
 · refine wpAny_passesOwn hp (thn (T.done X rfl rfl rfl hc i pins s3 σ3 H3 X.xe I3 (stat fr3) st3 stop) λr s4 ⟨hr,I4⟩=>?_)
   subst hr
   exact wpAny_execs_nil ⟨σ3,H3,I4,qn⟩
 · refine wpAny_passesOwn hp (thn (T.item X rfl rfl rfl hc i pins s3 σ3 H3 X.xe I3 (stat fr3) st3 go) λr s4 ⟨u,hr,h4⟩=>?_)
   subst hr
   refine wpAny_passesOwn hp (thn h4 λ_ s5 ⟨x,H5,I5,r5,y5,st5,fr5⟩=>?_)
   have I5':=I5.pinned (stat fr5) (T.obj _ _ st5)
   refine wpAny_passesOwn hp (thn (hg _ s5 σ3 H5 x u _ I5' r5 (step x H5 y5)) λ_ s6 ⟨σ6,H6,I6,q6⟩=>?_)
   refine wpAny_passesOwn hp (thn (hb _ s6 σ6 H6 _ I6 q6) λf s7 q7=>?_)
   have again:∀ {σ7:St} {H7:Hp},Inv X (pins++iN fp s5.heap) σ7 H7 s7->N σ7 H7->∃ m,m < n/\∃ i σ' H',Inv X pins σ' H' s7/\tn i s7.heap/\(∀ b ∈ fp,H' b=none)/\W i m σ' H':=λ{σ7 H7} I7 n7=>by
     obtain ⟨m',hm,w7⟩:=hN σ7 H7 n7
     refine ⟨m',hm,i + 1,σ7,H7,I7.fO,T.keep _ _ _ st5 λb hb o e=>(I7.pin (b,o) (List.mem_append_right _ (List.mem_append_right _ (dk hb e)))).1,λb hb=>?_,w7⟩
     obtain ⟨o,e,d⟩:=T.obj _ _ st5 b hb
     exact (I7.pin (b,o) (List.mem_append_right _ (List.mem_append_right _ (dk hb e)))).2.1
   cases f with
   | next=>obtain ⟨σ7,H7,I7,n7⟩:=q7; exact again I7 n7
   | cont=>obtain ⟨σ7,H7,I7,n7⟩:=q7; exact again I7 n7
   | brk=>obtain ⟨σ7,H7,I7,q7⟩:=q7; exact ⟨σ7,H7,I7.fO,q7⟩
   | ret v=>obtain ⟨x7,σ7,H7,I7,r7,q7⟩:=q7; exact ⟨x7,σ7,H7,I7.fO,r7,q7⟩
end
noncomputable abbrev R2:=V->V->Hp->VK->Prop
noncomputable def OpR (X:Cx) (f:Value->Value->Sem Value) (r:R2):Prop:=
 ∀ (pins:List (Addr × Obj)) (s:Shared) (σ:St) (H:Hp) (x y:V) (v u:Value) (Q:VK),Inv X pins σ H s->RelV x v->RelV y u->r x y H Q ->
   wpAny (model X.prog X.w) X.A (f v u) (EP X pins σ Q) X.xe s
noncomputable def UnR (X:Cx) (f:Value->Sem Value) (r:V->Hp->VK->Prop):Prop:=
 ∀ (pins:List (Addr × Obj)) (s:Shared) (σ:St) (H:Hp) (x:V) (v:Value) (Q:VK),Inv X pins σ H s->RelV x v->r x H Q ->
   wpAny (model X.prog X.w) X.A (f v) (EP X pins σ Q) X.xe s
noncomputable def bP (X:Cx) (f:Value) (r:List V->Hp->VK->Prop):Prop:=
 ∀ (pins:List (Addr × Obj)) (s:Shared) (σ:St) (H:Hp) (xs:List V) (us:List Value) (Q:VK),Inv X pins σ H s->Vals xs us->r xs H Q ->
   wpAny (model X.prog X.w) X.A (call f us) (EP X pins σ Q) X.xe s
noncomputable def tOp (r:R2) (ta tb:TE):TE:=λσ H Q=>ta σ H λx H1=>tb σ H1 λy H2=>r x y H2 Q
noncomputable def tUn (r:V->Hp->VK->Prop) (ta:TE):TE:=λσ H Q=>ta σ H λx H1=>r x H1 Q
noncomputable def rI (C:Int->Int->Prop) (g:Int->Int->V):R2:=λx y H Q=>∃ i j,x=.int i/\y=.int j/\C i j/\Q (g i j) H
noncomputable def rI0 (g:Int->Int->V):R2:=λx y H Q=>∃ i j,x=.int i/\y=.int j/\Q (g i j) H
noncomputable def rU (g:Int->V):V->Hp->VK->Prop:=λx H Q=>∃ i,x=.int i/\Q (g i) H
section
variable {X:Cx} {a b c:Expr} {ta tb tc:TE} {pos:Pos}
theorem wB (ha:PE X a ta) (hb:PE X b tb) {pins:List (Addr × Obj)} {s:Shared} {σ:St} {H:Hp} {R:V->V->Hp->Prop} (I:Inv X pins σ H s)
   (h:ta σ H λx H1=>tb σ H1 λy H2=>R x y H2) {Q:Value->Shared->Prop} {f:Value->Value->Sem Value}
   (hf:∀ v u s2 x y H2,Inv X pins σ H2 s2->RelV x v->RelV y u->R x y H2->wpAny (model X.prog X.w) X.A (f v u) Q X.xe s2) :
   wpAny (model X.prog X.w) X.A (eval a X.env) (λv s₁=>wpAny (model X.prog X.w) X.A (eval b X.env) (λu s₂=>wpAny (model X.prog X.w) X.A (f v u) Q X.xe s₂) X.xe s₁) X.xe s:=by
 refine thn (ha pins s σ H _ I h) λv s1 ⟨x,H1,I1,r1,q1⟩=>?_
 refine thn (hb pins s1 σ H1 _ I1 q1) λu s2 ⟨y,H2,I2,r2,q2⟩=>?_
 exact hf v u s2 x y H2 I2 r1 r2 q2
theorem tH {op:Operator} {r:R2} (ho:OpR X (binaryOp op) r) (ha:PE X a ta) (hb:PE X b tb):PE X (.BinOp a op b pos) (tOp r ta tb):=by
 intro pins s σ H Q I h
 exact wpAny_BinOp (wB ha hb I h λv u s2 x y H2 I2 rx ry q=>ho pins s2 σ H2 x y v u Q I2 rx ry q)
theorem yY {op:UnaryOp} {r:V->Hp->VK->Prop} (ho:UnR X (unaryOp op) r) (ha:PE X a ta):PE X (.UnaryOp op a pos) (tUn r ta):=by
 intro pins s σ H Q I h
 exact UnaryOp_ (thn (ha pins s σ H _ I h) λv s1 ⟨x,H1,I1,r1,q1⟩=>ho pins s1 σ H1 x v Q I1 r1 q1)
theorem opI {f:Value->Value->Sem Value} {C:Int->Int->Prop} {g:Int->Int->Int}
   (rule:∀ (i j:Int) (t u:Tok) (s:Shared) (Q:Value->Shared->Prop) (E:Value->Shared->Prop),C i j->Q (.int (g i j) s.toks) { s with toks:=s.toks + 1 }->wpAny (model X.prog X.w) X.A (f (.int i t) (.int j u)) Q E s) :
   OpR X f (rI C λi j=>.int (g i j)):=by
 intro pins s σ H x y v u Q I rx ry h
 obtain ⟨i,j,rfl,rfl,hc,q⟩:=h
 obtain ⟨t,rfl⟩:=rx
 obtain ⟨t',rfl⟩:=ry
 exact rule i j t t' s _ _ hc ⟨.int (g i j),H,I.tok _,⟨_,rfl⟩,q⟩
theorem yn {f:Value->Value->Sem Value} {g:Int->Int->Int}
   (rule:∀ (i j:Int) (t u:Tok) (s:Shared) (Q:Value->Shared->Prop) (E:Value->Shared->Prop),Q (.int (g i j) s.toks) { s with toks:=s.toks + 1 }->wpAny (model X.prog X.w) X.A (f (.int i t) (.int j u)) Q E s) :
   OpR X f (rI0 λi j=>.int (g i j)):=by
 intro pins s σ H x y v u Q I rx ry h
 obtain ⟨i,j,rfl,rfl,q⟩:=h
 obtain ⟨t,rfl⟩:=rx
 obtain ⟨t',rfl⟩:=ry
 exact rule i j t t' s _ _ ⟨.int (g i j),H,I.tok _,⟨_,rfl⟩,q⟩
theorem uC {f:Value->Value->Sem Value} {g:Int->Int->Bool}
   (rule:∀ (i j:Int) (t u:Tok) (s:Shared) (Q:Value->Shared->Prop) (E:Value->Shared->Prop),Q (.bool (g i j)) s->wpAny (model X.prog X.w) X.A (f (.int i t) (.int j u)) Q E s) :
   OpR X f (rI0 λi j=>.bl (g i j)):=by
 intro pins s σ H x y v u Q I rx ry h
 obtain ⟨i,j,rfl,rfl,q⟩:=h
 obtain ⟨t,rfl⟩:=rx
 obtain ⟨t',rfl⟩:=ry
 exact rule i j t t' s _ _ ⟨.bl (g i j),H,I,rfl,q⟩
noncomputable def x4 (i j:Int):Prop:=0<=j/\j<=1000000/\i.natAbs < 2 ^ 64
theorem vN:OpR X (binaryOp .Add) (rI0 λi j=>.int (i + j)):=yn λ_ _ _ _ _ _ _ q=>add_int q
theorem vS:OpR X (binaryOp .Sub) (rI0 λi j=>.int (i - j)):=yn λ_ _ _ _ _ _ _ q=>sub_int q
theorem uI:OpR X (binaryOp .Mod) (rI (λ_ j=>j ≠ 0) λi j=>.int (i.fmod j)):=opI λ_ _ _ _ _ _ _ hc q=>mod_int' hc q
theorem xH:OpR X (binaryOp .Pow) (rI x4 λi j=>.int (i ^ j.toNat)):=opI λ_ _ _ _ _ _ _ hc q=>pow_int_small hc.1 hc.2.1 hc.2.2 q
theorem unI {f:Value->Sem Value} {g:Int->Int}
   (rule:∀ (i:Int) (t:Tok) (s:Shared) (Q:Value->Shared->Prop) (E:Value->Shared->Prop),Q (.int (g i) s.toks) { s with toks:=s.toks + 1 }->wpAny (model X.prog X.w) X.A (f (.int i t)) Q E s) :
   UnR X f (rU λi=>.int (g i)):=by
 intro pins s σ H x v Q I rx h
 obtain ⟨i,rfl,q⟩:=h
 obtain ⟨t,rfl⟩:=rx
 exact rule i t s _ _ ⟨.int (g i),H,I.tok _,⟨_,rfl⟩,q⟩
theorem wM:UnR X (unaryOp .USub) (rU λi=>.int (-i)):=unI λ_ _ _ _ _ q=>neg_int q
end
noncomputable def yC:V->V->Bool
 | .non,.non=>true | .non,.int _=>true | .int _,.non=>true | .non,.bl _=>true | .bl _,.non=>true | .non,.str _=>true | .str _,.non=>true
 | .int _,.int _=>true | .bl _,.bl _=>true | .str _,.str _=>true | .byt _,.byt _=>true
 | .int _,.str _=>true | .str _,.int _=>true | .bl _,.str _=>true | .str _,.bl _=>true
 | _,_=>false
noncomputable def rEq:R2:=λx y H Q=>yC x y=true/\Q (.bl (decide (x=y))) H
noncomputable def rNe:R2:=λx y H Q=>yC x y=true/\Q (.bl (!decide (x=y))) H
theorem pB {i j:Int}:decide (V.int i=V.int j)=(i == j):=by
 rw [Bool.eq_iff_iff]
 simp
theorem q9 {i j:Bool}:decide (V.bl i=V.bl j)=(i == j):=by
 rw [Bool.eq_iff_iff]
 simp
theorem oB {i j:Str}:decide (V.str i=V.str j)=(i == j):=by
 rw [Bool.eq_iff_iff]
 simp
theorem pz {i j:Array UInt8}:decide (V.byt i=V.byt j)=(i.toList == j.toList):=by
 rw [Bool.eq_iff_iff]
 cases i
 cases j
 simp
section
variable {X:Cx} {a b c:Expr} {ta tb tc:TE} {pos:Pos}
theorem aM {pins:List (Addr × Obj)} {σ:St} {H:Hp} {s:Shared} {Q:VK} {k k':Bool} (I:Inv X pins σ H s) (q:Q (.bl k) H) (e:k=k'):EP X pins σ Q (.bool k') s:=by
 subst e
 exact ⟨.bl k,H,I,rfl,q⟩
theorem vM:OpR X (compareOp .Eq) rEq:=by
 intro pins s σ H x y v u Q I rx ry h
 obtain ⟨hs,q⟩:=h
 cases x with
 | non=>
   cases rx
   cases y with
   | non=>cases ry; exact PySem.EqNone.eq_none_none (aM I q (by simp))
   | bl j=>cases ry; exact PySem.EqNone.eq_none_bool (aM I q (by simp))
   | int j=>obtain ⟨t',rfl⟩:=ry; exact PySem.EqNone.eq_none_int (aM I q (by simp))
   | str j=>obtain ⟨t',rfl⟩:=ry; exact PySem.EqNone.eq_none_str (aM I q (by simp))
   | _=>exact absurd (show false=true from hs) Bool.false_ne_true
 | bl i=>
   cases rx
   cases y with
   | non=>cases ry; exact PySem.EqNone.eq_bool_none (aM I q (by simp))
   | bl j=>cases ry; exact eq_bool (aM I q q9)
   | str j=>obtain ⟨t',rfl⟩:=ry; exact PySem.EqMixed.eq_bool_str (aM I q (by simp))
   | _=>exact absurd (show false=true from hs) Bool.false_ne_true
 | int i=>
   obtain ⟨t,rfl⟩:=rx
   cases y with
   | non=>cases ry; exact PySem.EqNone.eq_int_none (aM I q (by simp))
   | int j=>obtain ⟨t',rfl⟩:=ry; exact eq_int (aM I q pB)
   | str j=>obtain ⟨t',rfl⟩:=ry; exact PySem.EqMixed.eq_int_str (aM I q (by simp))
   | _=>exact absurd (show false=true from hs) Bool.false_ne_true
 | str i=>
   obtain ⟨t,rfl⟩:=rx
   cases y with
   | non=>cases ry; exact PySem.EqNone.eq_str_none (aM I q (by simp))
   | bl j=>cases ry; exact PySem.EqMixed.eq_str_bool (aM I q (by simp))
   | int j=>obtain ⟨t',rfl⟩:=ry; exact PySem.EqMixed.eq_str_int (aM I q (by simp))
   | str j=>obtain ⟨t',rfl⟩:=ry; exact eq_str (aM I q oB)
   | _=>exact absurd (show false=true from hs) Bool.false_ne_true
 | byt i=>
   obtain ⟨t,rfl⟩:=rx
   cases y with
   | byt j=>obtain ⟨t',rfl⟩:=ry; exact PySem.W.eq_bytes (aM I q pz)
   | _=>exact absurd (show false=true from hs) Bool.false_ne_true
 | _=>cases y <;> exact absurd (show false=true from hs) Bool.false_ne_true
theorem vy:OpR X (compareOp .NotEq) rNe:=by
 intro pins s σ H x y v u Q I rx ry h
 obtain ⟨hs,q⟩:=h
 cases x with
 | non=>
   cases rx
   cases y with
   | non=>cases ry; exact PySem.EqNone.ne_none_none (aM I q (by simp))
   | bl j=>cases ry; exact PySem.EqNone.ne_none_bool (aM I q (by simp))
   | int j=>obtain ⟨t',rfl⟩:=ry; exact PySem.EqNone.ne_none_int (aM I q (by simp))
   | str j=>obtain ⟨t',rfl⟩:=ry; exact PySem.EqNone.ne_none_str (aM I q (by simp))
   | _=>exact absurd (show false=true from hs) Bool.false_ne_true
 | bl i=>
   cases rx
   cases y with
   | non=>cases ry; exact PySem.EqNone.ne_bool_none (aM I q (by simp))
   | bl j=>cases ry; exact ne_bool (aM I q (congrArg not q9))
   | str j=>obtain ⟨t',rfl⟩:=ry; exact PySem.EqMixed.ne_bool_str (aM I q (by simp))
   | _=>exact absurd (show false=true from hs) Bool.false_ne_true
 | int i=>
   obtain ⟨t,rfl⟩:=rx
   cases y with
   | non=>cases ry; exact PySem.EqNone.ne_int_none (aM I q (by simp))
   | int j=>obtain ⟨t',rfl⟩:=ry; exact ne_int (aM I q (congrArg not pB))
   | str j=>obtain ⟨t',rfl⟩:=ry; exact PySem.EqMixed.ne_int_str (aM I q (by simp))
   | _=>exact absurd (show false=true from hs) Bool.false_ne_true
 | str i=>
   obtain ⟨t,rfl⟩:=rx
   cases y with
   | non=>cases ry; exact PySem.EqNone.ne_str_none (aM I q (by simp))
   | bl j=>cases ry; exact PySem.EqMixed.ne_str_bool (aM I q (by simp))
   | int j=>obtain ⟨t',rfl⟩:=ry; exact PySem.EqMixed.ne_str_int (aM I q (by simp))
   | str j=>obtain ⟨t',rfl⟩:=ry; exact ne_str (aM I q (congrArg not oB))
   | _=>exact absurd (show false=true from hs) Bool.false_ne_true
 | byt i=>
   obtain ⟨t,rfl⟩:=rx
   cases y with
   | byt j=>obtain ⟨t',rfl⟩:=ry; exact PySem.W.ne_bytes (aM I q (congrArg not pz))
   | _=>exact absurd (show false=true from hs) Bool.false_ne_true
 | _=>cases y <;> exact absurd (show false=true from hs) Bool.false_ne_true
theorem yF:OpR X (compareOp .Lt) (rI0 λi j=>.bl (decide (i < j))):=uC λ_ _ _ _ _ _ _ q=>lt_int q
theorem yW:OpR X (compareOp .LtE) (rI0 λi j=>.bl (decide (i<=j))):=uC λ_ _ _ _ _ _ _ q=>le_int q
theorem yf:OpR X (compareOp .Gt) (rI0 λi j=>.bl (decide (j < i))):=uC λ_ _ _ _ _ _ _ q=>gt_int q
theorem yX:OpR X (compareOp .GtE) (rI0 λi j=>.bl (decide (j<=i))):=uC λ_ _ _ _ _ _ _ q=>ge_int q
theorem rN (b:Expr) {op:CmpOp} (h:op ≠ .In:=by decide) (h2:op ≠ .NotIn:=by decide):behindInMarks op b=false:=by
 have e1:(op == CmpOp.In)=false:=by cases op <;> first | rfl | exact absurd rfl h
 have e2:(op == CmpOp.NotIn)=false:=by cases op <;> first | rfl | exact absurd rfl h2
 cases b <;> simp [behindInMarks,e1,e2]
theorem ua {op:CmpOp} {r:R2} (ho:OpR X (compareOp op) r) (ha:PE X a ta) (hb:PE X b tb) (hm:behindInMarks op b=false):PE X (.Compare a [op] [b] pos) (tOp r ta tb):=by
 intro pins s σ H Q I h
 exact wpAny_Compare1 (wB ha hb I h λv u s2 x y H2 I2 rx ry q=>ho pins s2 σ H2 x y v u Q I2 rx ry q) hm
noncomputable def vJ (t:TE):TT:=λσ H Q=>t σ H λx H'=>∃ k,x=.bl k/\Q k H'
theorem uG {op:CmpOp} {r:R2} (ho:OpR X (compareOp op) r) (ha:PE X a ta) (hb:PE X b tb) (hm:behindInMarks op b=false):PT X (.Compare a [op] [b] pos) (vJ (tOp r ta tb)):=by
 intro pins s σ H Q I h
 refine wpAny_isTrue_Compare1 (thn (ha pins s σ H _ I h) λv s1 ⟨x,H1,I1,r1,q1⟩=>thn (hb pins s1 σ H1 _ I1 q1) λu s2 ⟨y,H2,I2,r2,q2⟩=>
   thn (ho pins s2 σ H2 x y v u _ I2 r1 r2 q2) λc s3 ⟨z,H3,I3,r3,k,e,q3⟩=>?_) hm
 subst e
 cases r3
 exact wpAny_truthy_bool ⟨H3,I3,q3⟩
noncomputable def nH (r r':R2) (ta tb tc:TE):TE:=λσ H Q=>ta σ H λx H1=>tb σ H1 λy H2=>r x y H2 λz H3=>∃ k,z=.bl k /\
 (if k=true then tc σ H3 λw' H4=>r' y w' H4 Q else Q (.bl false) H3)
theorem tq {op op':CmpOp} {r r':R2} (ho:OpR X (compareOp op) r) (ho':OpR X (compareOp op') r') (ha:PE X a ta) (hb:PE X b tb) (hc:PE X c tc)
   (hm:lastMarks [op,op'] [b,c]=false:=by with_unfolding_all rfl):PE X (.Compare a [op,op'] [b,c] pos) (nH r r' ta tb tc):=by
 intro pins s σ H Q I h
 refine Compare_chain (thn (ha pins s σ H _ I h) λv s1 ⟨x,H1,I1,r1,q1⟩=>chain_link (thn (hb pins s1 σ H1 _ I1 q1) λu s2 ⟨y,H2,I2,r2,q2⟩=>
   thn (ho pins s2 σ H2 x y v u _ I2 r1 r2 q2) λd s3 ⟨z,H3,I3,r3,k,e,q3⟩=>?_)) hm
 subst e
 cases r3
 refine wpAny_truthy_bool ?_
 cases k with
 | false=>exact ite_ff ⟨.bl false,H3,I3,rfl,q3⟩
 | true=>exact ite_tt (chain_last (thn (hc pins s3 σ H3 _ I3 q3) λw' s4 ⟨z',H4,I4,r4,q4⟩=>ho' pins s4 σ H4 y z' u w' Q I4 r2 r4 q4))
theorem rR {op op':CmpOp} {r r':R2} (ho:OpR X (compareOp op) r) (ho':OpR X (compareOp op') r') (ha:PE X a ta) (hb:PE X b tb) (hc:PE X c tc)
   (hm:lastMarks [op,op'] [b,c]=false:=by with_unfolding_all rfl):PT X (.Compare a [op,op'] [b,c] pos) (vJ (nH r r' ta tb tc)):=by
 intro pins s σ H Q I h
 refine isTrue_chain (thn (ha pins s σ H _ I h) λv s1 ⟨x,H1,I1,r1,q1⟩=>test_link (thn (hb pins s1 σ H1 _ I1 q1) λu s2 ⟨y,H2,I2,r2,q2⟩=>
   thn (ho pins s2 σ H2 x y v u _ I2 r1 r2 q2) λd s3 ⟨z,H3,I3,r3,k,e,q3⟩=>?_)) hm
 subst e
 cases r3
 refine wpAny_truthy_bool ?_
 cases k with
 | false=>
   obtain ⟨k',e',q'⟩:=q3
   cases e'
   exact ite_ff ⟨H3,I3,q'⟩
 | true=>
   refine ite_tt (test_last (thn (hc pins s3 σ H3 _ I3 q3) λw' s4 ⟨z',H4,I4,r4,q4⟩=>thn (ho' pins s4 σ H4 y z' u w' _ I4 r2 r4 q4) λd' s5 ⟨z2,H5,I5,r5,k2,e2,q5⟩=>?_))
   subst e2
   cases r5
   exact wpAny_truthy_bool ⟨H5,I5,q5⟩
theorem nF:(sizeLine:Nat) < 2 ^ 63:=by rw [sizeLine_eq]; decide
theorem vals1 {x:V} {us:List Value} (r:Vals [x] us):∃ u,us=[u]/\RelV x u:=by
 cases r with
 | cons r1 r2=>cases r2; exact ⟨_,rfl,r1⟩
theorem vals2 {x y:V} {us:List Value} (r:Vals [x,y] us):∃ u w',us=[u,w']/\RelV x u/\RelV y w':=by
 cases r with
 | cons r1 r2=>
   cases r2 with
   | cons r3 r4=>cases r4; exact ⟨_,_,rfl,r1,r3⟩
theorem t8:bP X (.builtin "abs") (λxs H Q=>∃ i,xs=[.int i]/\Q (.int (if i < 0 then -i else i)) H):=by
 intro pins s σ H xs us Q I r h
 obtain ⟨i,rfl,q⟩:=h
 obtain ⟨u,rfl,t,rfl⟩:=vals1 r
 exact call_abs_int λu tk=>⟨.int (if i < 0 then -i else i),H,I.tok _,⟨_,rfl⟩,q⟩
theorem qE (hc:X.calm=true):bP X (.builtin "max") (λxs H Q=>∃ i j,xs=[.int i,.int j]/\Q (.int (if j > i then j else i)) H):=by
 intro pins s σ H xs us Q I r h
 obtain ⟨i,j,rfl,q⟩:=h
 obtain ⟨u,w',rfl,⟨t,rfl⟩,⟨t',rfl⟩⟩:=vals2 r
 refine max_two_ints (I.ok.hd hc) λh' tk k=>⟨_,H,I.kept k,?_,q⟩
 by_cases hj:j > i
 · rw [if_pos hj,if_pos hj]; exact ⟨_,rfl⟩
 · rw [if_neg hj,if_neg hj]; exact ⟨_,rfl⟩
theorem qw (hc:X.calm=true):bP X (.builtin "min") (λxs H Q=>∃ i j,xs=[.int i,.int j]/\Q (.int (if j < i then j else i)) H):=by
 intro pins s σ H xs us Q I r h
 obtain ⟨i,j,rfl,q⟩:=h
 obtain ⟨u,w',rfl,⟨t,rfl⟩,⟨t',rfl⟩⟩:=vals2 r
 refine min_two_ints (I.ok.hd hc) λh' tk k=>⟨_,H,I.kept k,?_,q⟩
 by_cases hj:j < i
 · rw [if_pos hj,if_pos hj]; exact ⟨_,rfl⟩
 · rw [if_neg hj,if_neg hj]; exact ⟨_,rfl⟩
theorem qo:bP X (.type "int") (λxs H Q=>(∃ i,xs=[.int i]/\Q (.int i) H)\/∃ k,xs=[.bl k]/\Q (.int (if k then 1 else 0)) H):=by
 intro pins s σ H xs us Q I r h
 rcases h with ⟨i,rfl,q⟩ | ⟨k,rfl,q⟩
 · obtain ⟨u,rfl,t,rfl⟩:=vals1 r
   exact call_int_int ⟨.int i,H,I,⟨_,rfl⟩,q⟩
 · obtain ⟨u,rfl,r1⟩:=vals1 r
   cases r1
   exact call_int_bool ⟨.int (if k then 1 else 0),H,I.tok _,⟨_,rfl⟩,q⟩
end
section
variable {prog:Program} {w:World} {A:Around} {E:Value->Shared->Prop} {s:Shared} {K:PySem.W.Frag} {x dx C f:Addr} {mA:Str->Option Value} {name:Str} {v:Value}
end
theorem m4.some_of {v:V} {o:Option Value} (r:m4 (some v) o):∃ u,o=some u/\RelV v u:=by
 cases o with
 | none=>exact (show False from r).elim
 | some u=>exact ⟨u,rfl,r⟩
section
variable {P:Program} {w:World} {H H':Hp} {h h':Heap} {a C dx:Addr} {fs fs':List (Str × V)}
end
section
variable {X:Cx} {pins:List (Addr × Obj)} {σ:St} {H:Hp} {s:Shared} {a C dx:Addr} {fs:List (Str × V)} {f:Str} {v:V} {A:Around} {E:Value->Shared->Prop}
end
section
variable {X:Cx} {o e value:Expr} {f:Str} {pos pos' tpos:Pos} {ta tv:TE}
end
section
variable {X:Cx} {pins:List (Addr × Obj)} {σ:St} {H:Hp} {s:Shared} {A:Around} {E:Value->Shared->Prop} {Q:Value->Shared->Prop} {c:Value} {b:Bool}
end
structure dB (k:Nat) (A:Around):Prop where
 hd:A.handled=none
 dp:A.depth + 3 * k + 5 < recursionLimit
 un:A.units + 16 * k + 200 < cLine
theorem dB.mono {j k:Nat} {A:Around} (r:dB k A) (h:j<=k):dB j A:=⟨r.hd,by have:=r.dp; omega,by have:=r.un; omega⟩
theorem dB.deeper {k:Nat} {A:Around} (r:dB (k + 1) A) (env:Env):dB k (A.deeper env):=
 ⟨r.hd,by have:=r.dp; show A.depth + 1 + 3 * k + 5 < _; omega,by have:=r.un; show A.units + 3 + 16 * k + 200 < _; omega⟩
theorem dB.depth {k:Nat} {A:Around} (r:dB k A):A.depth < recursionLimit:=by have:=r.dp; omega
theorem dB.units {k:Nat} {A:Around} (r:dB k A):A.units + 64 < cLine:=by have:=r.un; omega
noncomputable def yb:TA:=λ_ H Q=>Q [] H
noncomputable def vg (ta:TE) (tr:TA):TA:=λσ H Q=>ta σ H λx H1=>tr σ H1 λxs H2=>Q (x :: xs) H2
section
variable {X:Cx} {e:Expr} {es:List Expr} {te:TE} {t:TA} {pos:Pos}
theorem cu:PA X [] yb:=λ_ _ _ _ H Q I h=>Calls.spliced_nil ⟨[],H,I,.nil,h⟩
theorem br (ha:PE X e te) (hr:PA X es t) (hs:starEach (e :: es) X.env=(false,eval e X.env) :: starEach es X.env:=by rfl):PA X (e :: es) (vg te t):=by
 intro pos pins s σ H Q I h
 rw [hs]
 show wpAny _ _ (spliced ((false,eval e X.env) :: backTo pos (starEach es X.env))) _ _ s
 refine Calls.spliced_cons (thn (ha pins s σ H _ I h) λu s1 ⟨x,H1,I1,r1,q1⟩=>?_)
 exact thn (hr pos pins s1 σ H1 _ I1 q1) λus s2 ⟨xs,H2,I2,r2,q2⟩=>⟨x :: xs,H2,I2,.cons r1 r2,q2⟩
noncomputable def y0 (t:TA):TE:=λσ H Q=>t σ H λxs H1=>xs.length<=sizeLine/\∀ p,H1 p=none->Q (.ref p) (upd H1 p (.tup xs))
noncomputable def zv (t:TA):TE:=λσ H Q=>t σ H λxs H1=>xs.length<=sizeLine/\∀ p,H1 p=none->Q (.ref p) (upd H1 p (.lst xs))
theorem rd {x1} (h:PA X es t):PE X (.Tuple es x1 pos) (y0 t):=by
 intro pins s σ H Q I hq
 refine wpAny_Tuple_spliced (thn (h pos pins s σ H _ I hq) λus s1 ⟨xs,H1,I1,r,z,q⟩=>⟨by rw [<- r.length]; exact z,?_⟩)
 have hf:H1 s1.heap.objs.size=none:=I1.hok.fresh (Nat.le_refl _)
 refine ⟨.ref s1.heap.objs.size,upd H1 s1.heap.objs.size (.tup xs),I1.laid (t':=s1.toks) (λb u e=>Heap.get?_push_of_some _ e) (Nat.le_refl _) ?_,rfl,q _ hf⟩
 exact ⟨z,us,r,⟨_,Heap.get?_push_size _ rfl,rfl,_,rfl⟩⟩
theorem xw (h:PA X es t):PE X (.List es pos) (zv t):=by
 intro pins s σ H Q I hq
 refine wpAny_List_spliced (thn (h pos pins s σ H _ I hq) λus s1 ⟨xs,H1,I1,r,z,q⟩=>⟨by rw [<- r.length]; exact z,?_⟩)
 have hf:H1 s1.heap.objs.size=none:=I1.hok.fresh (Nat.le_refl _)
 refine ⟨.ref s1.heap.objs.size,upd H1 s1.heap.objs.size (.lst xs),I1.laid (t':=s1.toks) (λb u e=>Heap.get?_push_of_some _ e) (Nat.le_refl _) ?_,rfl,q _ hf⟩
 exact ⟨z,us,0,r,Heap.get?_push_size _ rfl⟩
end
noncomputable abbrev Sp:=List V->Hp->VK->XK->Prop
noncomputable abbrev CXT:=List Env->Hp->Shared->XK->Value->Shared->Prop
structure tP (P:Program) (w:World) (K:PySem.W.Frag) (mg:Str->Option Value) (base:Heap) (A:Around) (outer:List Env) (s:Shared) (H:Hp):Prop where
 frames:A.frames=some outer
 mod:Mod K mg base
 bs:∀ b o,base.get? b=some o->s.heap.get? b=some o/\H b=none
 bsz:base.objs.size<=s.heap.objs.size
 hJ:s.heap.FunFrames base outer
 frf:∀ b ∈ frs outer,H b=none
 hok:HOk P w H s.heap
 bare:AllBare s.gens
noncomputable def CE (outer:List Env) (P:Program) (w:World) (H:Hp) (s:Shared) (Q:VK) (u:Value) (s':Shared):Prop:=
 ∃ v H',s'.os=s.os/\AllBare s'.gens/\Un (frs outer) [] H H' s.heap s'.heap/\HOk P w H' s'.heap/\RelV v u/\Q v H'
noncomputable def CR (CX:CXT) (outer:List Env) (P:Program) (w:World) (H:Hp) (s:Shared) (Q:VK) (E:XK) (r:Result) (s':Shared):Prop:=
 match r with
 | .ok (.ret u)=>CE outer P w H s Q u s'
 | .ok _=>False
 | .error e=>CX outer H s E e s'
structure aQ (P:Program) (w:World) (K:PySem.W.Frag) (mg:Str->Option Value) (base:Heap) (CX:CXT) (k:Nat) (f:Addr) (fd:FuncData) (ps:List Str) (sp:Sp):Prop where
 len:∀ vs H Q E,sp vs H Q E->vs.length=ps.length
 run:∀ (A:Around) (outer:List Env) (s:Shared) (H:Hp) (args:Args) (us:List Value) (vs:List V) (Q:VK) (E:XK),dB k A->tP P w K mg base A outer s H->BindsTo s fd args (ps.zip us)->Vals vs us->sp vs H Q E ->
   codeAny (model P w) A (.call (.ref f) args) (CR CX outer P w H s Q E) s
theorem aQ.mono {P:Program} {w:World} {K:PySem.W.Frag} {mg:Str->Option Value} {base:Heap} {CX:CXT} {j k:Nat} {f:Addr} {fd:FuncData} {ps:List Str} {sp:Sp} (F:aQ P w K mg base CX j f fd ps sp) (h:j<=k) :
   aQ P w K mg base CX k f fd ps sp:=⟨F.len,λA outer s H args us vs Q E hr=>F.run A outer s H args us vs Q E (hr.mono h)⟩
section
variable {X:Cx} {pins:List (Addr × Obj)} {σ:St} {H:Hp} {s s':Shared}
theorem Inv.zB (I:Inv X pins σ H s):tP X.prog X.w X.K X.mg X.base X.A X.stack s H:=
 ⟨I.ok.frames,I.ok.mod,I.bs,Nat.le_trans I.ok.bsz I.sz,I.stack,I.pk,I.hok,I.bare⟩
theorem Inv.after {Q:VK} {u:Value} (I:Inv X pins σ H s) (h:CE X.stack X.prog X.w H s Q u s'):EP X pins σ Q u s':=by
 obtain ⟨v,H',os,bare,un,hok,r,q⟩:=h
 obtain ⟨hh,g,d,t,os'⟩:=s'
 obtain rfl:os'=s.os:=os
 exact ⟨v,H',I.call (h':=hh) (g':=g) (d':=d) (t':=t) (ch:=[]) un hok bare (λb z=>absurd z (by simp)),r,q⟩
end
noncomputable def xK (sp:Sp) (dvs:List V) (E:XK) (t:TA):TE:=λσ H Q=>t σ H λvs H1=>sp (vs++dvs) H1 Q E
noncomputable def Binds (K:PySem.W.Frag) (fd:FuncData) (ps:List Str) (ds:List Value):Prop:=
 ∀ (s:Shared) (us:List Value),K.In s.heap->(us++ds).length=ps.length->BindsTo s fd ⟨us,[]⟩ (ps.zip (us++ds))
theorem Binds.all {K:PySem.W.Frag} {fd:FuncData} {ps:List Str} (h:∀ us:List Value,us.length=ps.length->bindArgs fd ⟨us,[]⟩=pure (ps.zip us)):Binds K fd ps []:=λs us _ hl=>by
 rw [List.append_nil] at hl ⊢
 exact .of_eq (h us hl)
noncomputable def Passes (CX:CXT) (X:Cx) (E:XK):Prop:=∀ (pins:List (Addr × Obj)) (σ:St) (H:Hp) (s:Shared) (e:Value) (s':Shared),Inv X pins σ H s->CX X.stack H s E e s'->X.xe e s'
section
variable {X:Cx} {CX:CXT} {k:Nat} {f C:Addr} {fd:FuncData} {ps:List Str} {sp:Sp} {dvs:List V} {ds:List Value} {E:XK} {x m:Str} {p pos apos:Pos} {e o:Expr} {es:List Expr} {ta:TE} {t:TA}
theorem wb {pins:List (Addr × Obj)} {σ:St} {H:Hp} {s:Shared} {Q:VK} {us:List Value} {vs:List V} (F:aQ X.prog X.w X.K X.mg X.base CX k f fd ps sp) (hr:dB k X.A) (hb:Binds X.K fd ps ds) (hd:Vals dvs ds) (hx:Passes CX X E)
   (I:Inv X pins σ H s) (r:Vals vs us) (h:sp (vs++dvs) H Q E):wpAny (model X.prog X.w) X.A (call (.ref f) us) (EP X pins σ Q) X.xe s:=by
 have r2:Vals (vs++dvs) (us++ds):=r.append hd
 have hl:(us++ds).length=ps.length:=by rw [<- r2.length]; exact F.len _ _ _ _ h
 refine wpAny_call (codeAny_mono (F.run X.A X.stack s H ⟨us,[]⟩ (us++ds) (vs++dvs) Q E hr I.zB (hb s us I.kIn hl) r2 h) λr s' hq=>?_)
 cases r with
 | error e=>exact hx pins σ H s e s' I hq
 | ok fl=>
   cases fl with
   | ret u=>exact I.after hq
   | next=>exact False.elim hq
   | brk=>exact False.elim hq
   | cont=>exact False.elim hq
theorem oJ (F:aQ X.prog X.w X.K X.mg X.base CX k f fd ps sp) (hr:dB k X.A) (hg:Gl X x) (hm:X.mg x=some (.ref f)) (hk:PySem.W.keepIn X.K (.ref f)=true) (hb:Binds X.K fd ps ds) (hd:Vals dvs ds) (hx:Passes CX X E)
   (ha:PA X (e :: es) t) (hdb:(x == ("__debug__" : Str))=false:=by decide) (he:starEach (e :: es) X.env=(false,eval e X.env) :: starEach es X.env:=by rfl) (hpl:(backTo pos (starEach es X.env)).any (·.1)=false:=by rfl) :
   PE X (.Call (.Name x p) (e :: es) [] pos) (xK sp dvs E t):=by
 intro pins s σ H Q I h
 refine wpAny_Call_Name_kw (oM I hg hm ?_ hdb)
 refine PySem.W.callWith_K (h₀:=X.base) I.ok.mod.kin hk (thn (ha pos pins s σ H _ I h) λus s1 ⟨vs,H1,I1,r,q⟩=>⟨I1.kIn,?_⟩) he hpl
 exact wb F hr hb hd hx I1 r q
end
section
variable {X:Cx} {CX:CXT} {k:Nat} {f C:Addr} {fd:FuncData} {ps ks:List Str} {sp:Sp} {E:XK} {x m:Str} {p pos apos kpos:Pos} {e o:Expr} {es:List Expr} {kws:List Keyword} {te ta:TE} {t tk:TA} {nm:Option Str}
variable {g:List Value->List Value->List Value} {gV:List V->List V->List V}
end
structure av (N P:List Str) (sc:Scope):Prop where
 kind:sc.kind=.function
 co:sc.isCoroutine=false
 gen:sc.isGenerator=false
 nd:N.Nodup
 pre:N.take P.length=P
 par:∀ x ∈ P,sc.names.lookup x=some .local\/sc.names.lookup x=some .cell
 nofree:∀ y ∈ sc.names,y.2 ≠ .free
theorem jB {kindOf:Str->Option NameKind} {x:Str}:∀ {binds:List (Str × Value)} {m:Str->Option Value},(∀ v,(x,v) ∉ binds)->bindL kindOf binds m x=m x
 | [],_,_=>rfl
 | (n,v) :: r,m,h=>by
   unfold bindL
   rw [jB λw hw=>h w (List.mem_cons_of_mem _ hw)]
   split
   · have:x ≠ n:=by rintro rfl; exact h v List.mem_cons_self
     simp [this]
   · rfl
theorem jI {kindOf:Str->Option NameKind} {x:Str}:∀ {binds:List (Str × Value)} {m:Str->Option Value},(∀ v,(x,v) ∉ binds)->bindC kindOf binds m x=m x
 | [],_,_=>rfl
 | (n,v) :: r,m,h=>by
   unfold bindC
   rw [jI λw hw=>h w (List.mem_cons_of_mem _ hw)]
   split
   · rfl
   · have:x ≠ n:=by rintro rfl; exact h v List.mem_cons_self
     simp [this]
theorem jE {kindOf:Str->Option NameKind} {x:Str} {v:Value}:∀ {P:List Str} {vs:List Value} {i:Nat} {m:Str->Option Value},P.Nodup->P[i]?=some x->vs[i]?=some v->kindOf x=some .local ->
   bindL kindOf (P.zip vs) m x=some v
 | [],_,_,_,_,h,_,_=>by simp at h
 | _ :: _,[],_,_,_,_,h,_=>by simp at h
 | p :: P,w :: vs,0,m,nd,h1,h2,hk=>by
   simp at h1 h2; subst h1; subst h2
   show bindL kindOf ((p,w) :: P.zip vs) m p=_
   unfold bindL
   rw [jB λv hv=>(List.nodup_cons.mp nd).1 (List.of_mem_zip hv).1,if_pos hk]
   simp
 | p :: P,w :: vs,i + 1,m,nd,h1,h2,hk=>by
   show bindL kindOf ((p,w) :: P.zip vs) m x=_
   unfold bindL
   exact jE (i:=i) (List.nodup_cons.mp nd).2 (by simpa using h1) (by simpa using h2) hk
theorem jR {kindOf:Str->Option NameKind} {x:Str} {v:Value}:∀ {P:List Str} {vs:List Value} {i:Nat} {m:Str->Option Value},P.Nodup->P[i]?=some x->vs[i]?=some v->kindOf x ≠ some .local ->
   bindC kindOf (P.zip vs) m x=some v
 | [],_,_,_,_,h,_,_=>by simp at h
 | _ :: _,[],_,_,_,_,h,_=>by simp at h
 | p :: P,w :: vs,0,m,nd,h1,h2,hk=>by
   simp at h1 h2; subst h1; subst h2
   show bindC kindOf ((p,w) :: P.zip vs) m p=_
   unfold bindC
   rw [jI λv hv=>(List.nodup_cons.mp nd).1 (List.of_mem_zip hv).1,if_neg hk]
   simp
 | p :: P,w :: vs,i + 1,m,nd,h1,h2,hk=>by
   show bindC kindOf ((p,w) :: P.zip vs) m x=_
   unfold bindC
   exact jR (i:=i) (List.nodup_cons.mp nd).2 (by simpa using h1) (by simpa using h2) hk
noncomputable def start (N:List Str) (vs:List V):St:=vs.map some++List.replicate (N.length - vs.length) none
noncomputable def nM (CX:CXT) (P:Program) (w:World) (K:PySem.W.Frag) (mg:Str->Option Value) (base:Heap) (N:List Str) (qual:Str) (scope:Scope) (f:Addr) (cd:Value) (A:Around) (outer:List Env) (s:Shared) (H:Hp) (E:XK):Cx where
 prog:=P
 w:=w
 K:=K
 mg:=mg
 base:=base
 A:=A.deeper (envOfC qual scope s.heap.objs.size f cd)
 N:=N
 s₀:=s
 H₀:=H
 env:=envOfC qual scope s.heap.objs.size f cd
 outer:=outer
 stack:=envOfC qual scope s.heap.objs.size f cd :: outer
 ex:=[]
 calm:=true
 fn:=λ_=>true
 pn:=[]
 xe:=λe s'=>wpAny (model P w) (A.deeper (envOfC qual scope s.heap.objs.size f cd)) (leaving (envOfC qual scope s.heap.objs.size f cd) e) (λ_ s''=>CX outer H s E e s'') (λe' s''=>CX outer H s E e' s'') s'
theorem mC {sc:Scope} {n:Nat} {x:Str} (h:sc.names.lookup x=some .cell):∃ c,(cellsFrom n sc.names []).lookup x=some c:=by
 have q:=PySem.W.cellsFrom_some sc.names n [] (.inl h)
 exact Option.isSome_iff_exists.mp q
theorem qk {CX:CXT} {P:Program} {w:World} {K:PySem.W.Frag} {mg:Str->Option Value} {base:Heap} {N ps:List Str} {qual:Str} {scope:Scope} {f:Addr} {cd:Value} {A:Around} {outer:List Env} {s s1:Shared} {H:Hp} {E:XK} {us:List Value} {vs:List V}
   (S:av N ps scope) {cm:Bool} (hd:cm=true->A.handled=none) (e0:tP P w K mg base A outer s H) (hl:vs.length=ps.length) (r:Vals vs us)
   (x:InCallC s s.heap.objs.size (bindL (envOfC qual scope s.heap.objs.size f cd).kindOf (ps.zip us) λ_=>none) (cellsFrom (s.heap.objs.size + 1) scope.names []) (bindC (envOfC qual scope s.heap.objs.size f cd).kindOf (ps.zip us) λ_=>none) s1) :
   Inv { nM CX P w K mg base N qual scope f cd A outer s H E with calm:=cm } [] (start N vs) H s1:=by
 have hpl:ps.length<=N.length:=by have:=congrArg List.length S.pre; rw [List.length_take] at this; omega
 obtain ⟨h1,tk,rfl,hk⟩:=x.done
 have noA:∀ b:Addr,b ∉ (nM CX P w K mg base N qual scope f cd A outer s H E).ex:=λb z=>absurd (show b ∈ ([]:List Addr) from z) (by simp)
 refine ⟨⟨e0.mod,S.kind,rfl,rfl,Nat.le_refl _,λy z c h1 h2=>?_,λy hy=>?_,λy c _ h=>?_,hd,Around.frames_deeper e0.frames,.inr ⟨rfl,rfl⟩,λb z=>absurd z (noA b),e0.bs,e0.bsz,λb _ _=>noA b,λb z=>absurd z (noA b),e0.hJ,e0.frf⟩,
   rfl,e0.bare,Un.kept hk,⟨_,x.toInCall.ns,λi y v h1 h2 h3=>?_⟩,λy c h=>⟨_,x.cell y c h⟩,e0.hok.fresh (Nat.le_refl _),λy c h=>?_,λp hp=>absurd (show p ∈ ([]:List (Addr × Obj)) from hp) (by simp),e0.hok.kept hk,?_⟩
 · exact name_of_addr x.apart (PySem.mem_of_lookup h1) (PySem.mem_of_lookup h2)
 · have hy:scope.names.lookup y=some .cell\/scope.names.lookup y=some .free:=hy
   rcases hy with hy | hy
   · exact mC hy
   · exact absurd rfl (S.nofree _ (PySem.mem_of_lookup hy))
 · exact Nat.le_of_lt (x.above y c (PySem.mem_of_lookup h))
 · have hi:i < vs.length:=by
     unfold start at h2
     by_cases hi:i < vs.length
     · exact hi
     · rw [List.getElem?_append_right (by simpa using hi)] at h2
       rw [List.getElem?_replicate] at h2
       split at h2 <;> cases h2
   have ha:vs[i]?=some v:=by
     unfold start at h2
     rw [List.getElem?_append_left (by simpa using hi),List.getElem?_map] at h2
     cases e:vs[i]? with
     | none=>rw [e] at h2; cases h2
     | some a=>rw [e] at h2; cases h2; rfl
   obtain ⟨u,hu,rv⟩:=r.get ha
   have hp:ps[i]?=some y:=by
     rw [<- S.pre,List.getElem?_take_of_lt (by omega)]; exact h1
   have ndP:ps.Nodup:=by rw [<- S.pre]; exact S.nd.sublist (List.take_sublist _ _)
   refine ⟨u,rv,?_⟩
   rcases S.par y (List.mem_of_getElem? hp) with k | k
   · exact .inl ⟨k,jE ndP hp hu k⟩
   · obtain ⟨c,e⟩:=mC (n:=s.heap.objs.size + 1) k
     refine .inr ⟨.inl k,c,e,?_⟩
     have q:=x.cell y c e
     rw [jR ndP hp hu (by show scope.names.lookup y ≠ _; rw [k]; decide)] at q
     exact q
 · exact e0.hok.fresh (Nat.le_of_lt (x.above y c (PySem.mem_of_lookup h)))
 · unfold start
   show _=N.length
   rw [List.length_append,List.length_map,List.length_replicate]
   omega
theorem ym {CX:CXT} {P:Program} {w:World} {K:PySem.W.Frag} {mg:Str->Option Value} {base:Heap} {k:Nat} {f:Addr} {name qual:Str} {params:Arguments} {body:List Stmt} {scope:Scope} {dV kV doc pm cdv ct oc:Value} {an od:Option Addr}
   {osl:Array (Option Value)} {N ps:List Str} {sp:Sp} (lk:K.lookup f=some ⟨oc,od,.func (PySem.W.fnOf name qual params body scope dV kV doc pm an cdv ct),osl⟩) (hcd:PySem.W.codeIn K cdv qual=true) (S:av N ps scope)
   (len:∀ vs H Q E,sp vs H Q E->vs.length=ps.length)
   (hbody:∀ (A:Around) (outer:List Env) (s:Shared) (H:Hp) (vs:List V) (Q:VK) (E:XK),dB k (A.deeper (envOfC qual scope s.heap.objs.size f cdv))->sp vs H Q E ->
     ∃ t,PSs (nM CX P w K mg base N qual scope f cdv A outer s H E) body t/\t { nx:=λ_ H'=>Q .non H',rt:=Q } (start N vs) H) :
   aQ P w K mg base CX (k + 1) f (PySem.W.fnOf name qual params body scope dV kV doc pm an cdv ct) ps sp:=by
 refine ⟨len,λA outer s H args us vs Q E hr e0 hb r hsp=>?_⟩
 have hl:=len _ _ _ _ hsp
 have KX:K.In s.heap:=e0.mod.kin.keeps λb o e=>(e0.bs b o e).1
 have lim:s.heap.NoLimit:=e0.mod.nolimit.keeps λb o e=>(e0.bs b o e).1
 have hkind:∀ y ∈ ps.zip us,scope.names.lookup y.1=some .local\/(scope.names.lookup y.1=some .cell/\((cellsFrom (s.heap.objs.size + 1) scope.names []).lookup y.1).isSome=true):=λ⟨n,v⟩ hy=>by
   rcases S.par n (List.of_mem_zip hy).1 with q | q
   · exact .inl q
   · exact .inr ⟨q,PySem.W.cellsFrom_some _ _ _ (.inl q)⟩
 refine codeAny_call_function hr.depth (KX _ _ lk) rfl S.co S.gen rfl (PySem.W.codeRec_of KX hcd) (hb _ _ _ _ ?_)
 refine wpAny_newFunctionEnv_cells S.kind hkind λenv he s1 x=>?_
 subst he
 refine ⟨lim.keeps x.toInCall.keep,codeAny_func ?_⟩
 obtain ⟨t,ht,hq⟩:=hbody A outer s H vs Q E (hr.deeper _) hsp
 have I:Inv (nM CX P w K mg base N qual scope f cdv A outer s H E) [] (start N vs) H s1:=qk (cm:=true) S (λ_=>hr.hd) e0 hl r x
 refine wpAny_mono (ht [] s1 (start N vs) H _ I hq) (λfl s' hs=>?_) λe s' hs=>hs
 have fin:∀ {σ':St} {H':Hp} {v:V} {u:Value},Inv (nM CX P w K mg base N qual scope f cdv A outer s H E) [] σ' H' s'->RelV v u->Q v H'->CE outer P w H s Q u s':=
   λ{σ' H' v u} J rv q=>⟨v,H',J.os,J.bare,J.base,J.hok,rv,q⟩
 cases fl with
 | ret u=>
   obtain ⟨v,σ',H',J,rv,q⟩:=hs
   exact fin J rv q
 | next=>
   obtain ⟨σ',H',J,q⟩:=hs
   exact fin (v:=V.non) (u:=Value.none) J rfl q
 | brk=>
   obtain ⟨_,_,_,q⟩:=hs
   exact False.elim q
 | cont=>
   obtain ⟨_,_,_,q⟩:=hs
   exact False.elim q
section
variable {X:Cx} {x:Str} {p pos:Pos} {e:Expr} {es:List Expr} {t:TA} {id T:String} {r:List V->Hp->VK->Prop}
noncomputable def tCB (r:List V->Hp->VK->Prop) (t:TA):TE:=λσ H Q=>t σ H λvs H1=>r vs H1 Q
theorem fB (hc:bP X (.builtin id) r) (hg:Gl X x) (hm:X.mg x=none) (hv:bootBuiltins x=some (.builtin id)) (ha:PA X (e :: es) t) (hn:x ≠ "__name__":=by decide) (hdb:(x == ("__debug__" : Str))=false:=by decide)
   (he:starEach (e :: es) X.env=(false,eval e X.env) :: starEach es X.env:=by rfl) (hpl:(backTo pos (starEach es X.env)).any (·.1)=false:=by rfl):PE X (.Call (.Name x p) (e :: es) [] pos) (tCB r t):=by
 intro pins s σ H Q I h
 refine wpAny_Call_Name_kw (cH I hg hm hv ?_ hn hdb)
 exact PyProof.Rows.callWith_builtin1 (thn (ha pos pins s σ H _ I h) λus s1 ⟨vs,H1,I1,r1,q1⟩=>hc pins s1 σ H1 vs us Q I1 r1 q1) he hpl
theorem qB (hc:bP X (.type T) r) (hg:Gl X x) (hm:X.mg x=none) (hv:bootBuiltins x=some (.type T)) (ha:PA X (e :: es) t) (hn:x ≠ "__name__":=by decide) (hdb:(x == ("__debug__" : Str))=false:=by decide)
   (he:starEach (e :: es) X.env=(false,eval e X.env) :: starEach es X.env:=by rfl) (hpl:(backTo pos (starEach es X.env)).any (·.1)=false:=by rfl):PE X (.Call (.Name x p) (e :: es) [] pos) (tCB r t):=by
 intro pins s σ H Q I h
 refine wpAny_Call_Name_kw (cH I hg hm hv ?_ hn hdb)
 exact PyProof.Rows.callWith_type1 (thn (ha pos pins s σ H _ I h) λus s1 ⟨vs,H1,I1,r1,q1⟩=>hc pins s1 σ H1 vs us Q I1 r1 q1) he hpl
end
end L2
namespace HT
open PySem PyProof.Rows
noncomputable def lexLt:List Int->List Int->Bool
 | [],[]=>false
 | [],_ :: _=>true
 | _ :: _,[]=>false
 | x :: xs,y :: ys=>if x=y then lexLt xs ys else decide (x < y)
theorem oy (x y:Int) (xs ys:List Int):lexLt (x :: xs) (y :: ys)=if x=y then lexLt xs ys else decide (x < y):=rfl
theorem js:lexLt [] []=false:=rfl
theorem hG (y:Int) (ys:List Int):lexLt [] (y :: ys)=true:=rfl
theorem iS (x:Int) (xs:List Int):lexLt (x :: xs) []=false:=rfl
theorem tL (A:Around) (s:Shared) (a:Int) (t:Tok) (c:Int) (u:Tok):∃ e,SeqAt.EqAt A s (.int a t) (.int c u) e/\(e=true ↔ a=c):=
 ⟨(a == c),SeqAt.EqAt.int_int a t c u,by simp⟩
theorem qW (A:Around) (s:Shared) (a:Int) (t:Tok) (c:Int) (u:Tok) (prog:Program) (w:World) (E:Value->Shared->Prop) (Q:Value->Shared->Prop) (h:Q (.bool (decide (a < c))) s) :
   wpAny (model prog w) A (richCompare .Lt (.int a t) (.int c u)) Q E s:=
 (PyProof.Rows.lt_int h:wpAny (model prog w) A (compareOp .Lt (.int a t) (.int c u)) Q E s)
section
open PySem.SeqAt
open PySem.AutoSeq1 (wpAny_loadPart')
open PySem.MeetsSeq PySem.MeetsSeq2 PySem.MeetsSeq3
end
section
variable {prog:Program} {w:World} {A:Around} {E:Value->Shared->Prop} {s:Shared}
theorem uy {t b:Addr} {vs ws:List Value} {Q:Value->Shared->Prop} (ht:IsTup s.heap t vs.toArray) (hb:IsTup s.heap b ws.toArray) (hv:vs ≠ [])
   (h1:ws=[]->Q (.ref t) s) (h2:ws ≠ []->Q (.ref s.heap.objs.size) { s with heap:=s.heap.push { cls:=.type "tuple",data:=.seq (vs++ws).toArray } })
   (hsz:vs.length + ws.length<=sizeLine):wpAny (model prog w) A (binaryOp .Add (.ref t) (.ref b)) Q E s:=by
 obtain ⟨⟨cls,dd,data,sl⟩,ho,hc,n,hd⟩:=id ht
 obtain ⟨⟨cls2,dd2,data2,sl2⟩,ho2,hc2,n2,hd2⟩:=id hb
 simp only at hc hd hc2 hd2
 subst hc hd hc2 hd2
 have e:vs.toArray++ws.toArray=(vs++ws).toArray:=by simp
 by_cases hw:ws=[]
 · exact concat_meets ⟨_,ho,rfl⟩ ⟨_,ho2,rfl⟩ noFill_tuple_add seq_tuple_add PySem.F.slot_tuple_add PySem.F.entry_tuple_add (PySem.F.args_tuple_add_2 _ _)
     (tuple_addW1 t b vs.toArray ws.toArray n n2 dd dd2 sl sl2 (by simpa using hv) (by simp [hw])) ⟨ho,ho2,h1 hw⟩
 · refine concat_meets ⟨_,ho,rfl⟩ ⟨_,ho2,rfl⟩ noFill_tuple_add seq_tuple_add PySem.F.slot_tuple_add PySem.F.entry_tuple_add (PySem.F.args_tuple_add_2 _ _)
     (tuple_addW2 t b vs.toArray ws.toArray n n2 dd dd2 sl sl2 (by simpa using hv) (by simpa using hw) (by rw [List.size_toArray,List.size_toArray]; exact hsz)) ⟨ho,ho2,?_⟩
   rw [e]
   exact h2 hw
noncomputable def sIx (n d:Nat):Option Int->Nat
 | none=>d
 | some v=>if v < 0 then (v + (n:Int)).toNat else min v.toNat n
theorem oR (n d k:Nat):sIx n d (some (k:Int))=min k n:=by
 show (if (k:Int) < 0 then ((k:Int) + (n:Int)).toNat else min (k:Int).toNat n)=min k n
 rw [if_neg (by omega),Int.toNat_natCast]
end
end HT
namespace L2
open PySem PySem.Spec PyProof.Rows
noncomputable abbrev TO:=St->Hp->(Option Int->Hp->Prop)->Prop
noncomputable def PO (X:Cx) (e:Option Expr) (t:TO):Prop:=
 ∀ (pins:List (Addr × Obj)) (s:Shared) (σ:St) (H:Hp) (Q:Option Int->Hp->Prop),Inv X pins σ H s->t σ H Q ->
   wpAny (model X.prog X.w) X.A (evalPart e X.env) (λu s'=>∃ o H',Inv X pins σ H' s'/\IsPart u o/\Q o H') X.xe s
noncomputable def yN (t:TE):TO:=λσ H Q=>t σ H λx H1=>∃ i,x=.int i/\Q (some i) H1
section
variable {X:Cx} {e:Expr} {te:TE} {lo hi:Option Expr} {tl th:TO} {pos p2:Pos}
theorem uk (h:PE X e te):PO X (some e) (yN te):=by
 intro pins s σ H Q I hw
 rw [evalPart_some]
 refine thn (h pins s σ H _ I hw) λu s1 ⟨x,H1,I1,r1,q1⟩=>?_
 obtain ⟨i,rfl,q⟩:=q1
 obtain ⟨t,rfl⟩:=r1
 exact ⟨some i,H1,I1,.int i t,q⟩
noncomputable def SlR (X:Cx) (r:V->Option Int->Option Int->Hp->VK->Prop):Prop:=
 ∀ (pins:List (Addr × Obj)) (s:Shared) (σ:St) (H:Hp) (x:V) (v vl vu:Value) (lo hi:Option Int) (sl:Addr) (Q:VK),Inv X pins σ H s->RelV x v->s.heap.IsSliceOf sl vl vu .none->IsPart vl lo->IsPart vu hi->r x lo hi H Q ->
   ∃ T id,typeLookup (.type T) "__getitem__" = pure (some (.builtin id))/\s.TypeIs v T/\wpAny (model X.prog X.w) X.A (getItem v (.ref sl)) (EP X pins σ Q) X.xe s
noncomputable def tSl (r:V->Option Int->Option Int->Hp->VK->Prop) (te:TE) (tl th:TO):TE:=λσ H Q=>te σ H λx H1=>tl σ H1 λl H2=>th σ H2 λu H3=>r x l u H3 Q
theorem tu {r:V->Option Int->Option Int->Hp->VK->Prop} (hr:SlR X r) (he:PE X e te) (hl:PO X lo tl) (hu:PO X hi th):PE X (.Subscript e (.Slice lo hi none p2) pos) (tSl r te tl th):=by
 intro pins s σ H Q I h
 refine Subscript_ (thn (he pins s σ H _ I h) λv s1 ⟨x,H1,I1,r1,q1⟩=>?_)
 refine wpAny_Slice (thn (hl pins s1 σ H1 _ I1 q1) λvl s2 ⟨l,H2,I2,pl,q2⟩=>thn (hu pins s2 σ H2 _ I2 q2) λvu s3 ⟨u,H3,I3,pu,q3⟩=>?_)
 rw [evalPart_none]
 refine wpAny_pure ?_
 have I4:Inv X pins σ H3 { s3 with heap:=s3.heap.push { cls:=.type "slice",data:=.fields #[vl,vu,.none] } }:=I3.kept (t':=s3.toks) λb ob q=>Heap.get?_push_of_some _ q
 obtain ⟨T,id,hT,ht,hg⟩:=hr pins { s3 with heap:=s3.heap.push { cls:=.type "slice",data:=.fields #[vl,vu,.none] } } σ H3 x v vl vu l u s3.heap.objs.size Q I4 r1 (Heap.IsSliceOf.new ..) pl pu q3
 show wpAny (model X.prog X.w) X.A (subscriptTail e (.Slice lo hi none p2) v (.ref s3.heap.objs.size)) (EP X pins σ Q) X.xe { s3 with heap:=s3.heap.push { cls:=.type "slice",data:=.fields #[vl,vu,.none] } }
 exact tail_any (ops:=[.ref s3.heap.objs.size,v]) ht hT hg (by with_unfolding_all rfl)
noncomputable def qC (xs:List V) (lo hi:Option Int):List V:=(xs.drop (HT.sIx xs.length 0 lo)).take (HT.sIx xs.length xs.length hi - HT.sIx xs.length 0 lo)
theorem mF (xs:List V) (lo hi:Option Int):(qC xs lo hi).length<=xs.length:=by
 unfold qC
 rw [List.length_take,List.length_drop]
 omega
noncomputable def yj (K:PySem.W.Frag):R2:=λx y H Q=>∃ a b xs ys,x=.ref a/\y=.ref b/\SqT K H a xs/\SqT K H b ys/\xs ≠ []/\xs.length + ys.length<=sizeLine /\
 (ys=[]->Q (.ref a) H)/\(ys ≠ []->∀ p,H p=none->Q (.ref p) (upd H p (.tup (xs++ys))))
theorem Vals.kU {xs:List V} {us:List Value} (r:Vals xs us):us=[] ↔ xs=[]:=by
 cases r with
 | nil=>simp
 | cons _ _=>simp
theorem u4:OpR X (binaryOp .Add) (yj X.K):=by
 intro pins s σ H x y v u Q I rx ry h
 obtain ⟨a,b,xs,ys,rfl,rfl,ha,hb,hx,hz,q1,q2⟩:=h
 cases rx
 cases ry
 obtain ⟨its,r1,p1,_⟩:=I.tuple ha
 obtain ⟨its2,r2,p2,_⟩:=I.tuple hb
 refine HT.uy p1 p2 (λz=>hx (r1.kU.mp z)) (λz=>⟨.ref a,H,I,rfl,q1 (r2.kU.mp z)⟩) (λz=>?_) (by rw [<- r1.length,<- r2.length]; exact hz)
 refine ⟨.ref s.heap.objs.size,_,I.laid (t':=s.toks) (o:=.tup (xs++ys)) (λb ob q=>Heap.get?_push_of_some _ q) (Nat.le_refl _) ?_,rfl,q2 (λw=>z (r2.kU.mpr w)) _ (I.hok.fresh (Nat.le_refl _))⟩
 exact ⟨by rw [List.length_append]; exact hz,_,r1.append r2,IsTup.new _ _⟩
end
noncomputable def ixN (n:Nat) (i:Int):Option Nat:=if 0<=i then (if i < n then some i.toNat else none) else if -(n:Int)<=i then some (i + n).toNat else none
noncomputable def atI {α:Type} (xs:List α) (i:Int):Option α:=(ixN xs.length i).bind λj=>xs[j]?
theorem u0 {n:Nat} {i:Int} {j:Nat} (h:ixN n i=some j):seqIndex? i n=some j/\j < n/\-(n:Int)<=i/\i < n:=by
 unfold ixN at h
 by_cases h0:0<=i
 · rw [if_pos h0] at h
   by_cases h1:i < n
   · rw [if_pos h1] at h
     have e:i.toNat=j:=Option.some.inj h
     exact ⟨by rw [seqIndex_of h0 h1,e],by omega,by omega,h1⟩
   · rw [if_neg h1] at h; cases h
 · rw [if_neg h0] at h
   by_cases h1:-(n:Int)<=i
   · rw [if_pos h1] at h
     have e:(i + n).toNat=j:=Option.some.inj h
     exact ⟨by rw [seqIndex_neg (by omega) h1,e],by omega,h1,by omega⟩
   · rw [if_neg h1] at h; cases h
theorem pd {α:Type} {xs:List α} {i:Int} {v:α} (h:atI xs i=some v):∃ j,seqIndex? i xs.length=some j/\xs[j]?=some v/\j < xs.length/\-(xs.length:Int)<=i/\i < xs.length:=by
 unfold atI at h
 cases e:ixN xs.length i with
 | none=>rw [e] at h; cases h
 | some j=>
   rw [e] at h
   obtain ⟨h1,h2,h3,h4⟩:=u0 e
   exact ⟨j,h1,h,h2,h3,h4⟩
noncomputable def g0 (b:Expr):Prop:=∀ o i,subscripted b false o i=operate [o,i] (getItem o i)
noncomputable def IxR (X:Cx) (r:R2):Prop:=
 ∀ (value slice:Expr) (pins:List (Addr × Obj)) (s:Shared) (σ:St) (H:Hp) (x y:V) (v u:Value) (Q:VK),Inv X pins σ H s->RelV x v->RelV y u->r x y H Q ->
   subscripted slice false v u=operate [v,u] (getItem v u)->wpAny (model X.prog X.w) X.A (subscriptTail value slice v u) (EP X pins σ Q) X.xe s
noncomputable def MtR (X:Cx) (id:String) (r:V->List V->Hp->VK->Prop):Prop:=
 ∀ (pins:List (Addr × Obj)) (s:Shared) (σ:St) (H:Hp) (x:V) (xs:List V) (v:Value) (us:List Value) (Q:VK),Inv X pins σ H s->RelV x v->Vals xs us->r x xs H Q ->
   wpAny (model X.prog X.w) X.A (call (.builtin id) (v :: us)) (EP X pins σ Q) X.xe s
section
variable {X:Cx} {a b:Expr} {ta tb:TE} {pos:Pos}
theorem r6 {r:R2} (hr:IxR X r) (ha:PE X a ta) (hb:PE X b tb) (hs:g0 b):PE X (.Subscript a b pos) (tOp r ta tb):=by
 intro pins s σ H Q I h
 exact Subscript_ (wB ha hb I h λv u s2 x y H2 I2 rx ry q=>hr a b pins s2 σ H2 x y v u Q I2 rx ry q (hs _ _))
noncomputable def y7 (K:PySem.W.Frag):R2:=λx y H Q=>∃ p xs i v,x=.ref p/\y=.int i/\SqL K H p xs/\atI xs i=some v/\Q v H
noncomputable def zC (K:PySem.W.Frag):R2:=λx y H Q=>∃ p xs i v,x=.ref p/\y=.int i/\SqT K H p xs/\atI xs i=some v/\Q v H
theorem kc:IxR X (y7 X.K):=by
 intro value slice pins s σ H x y v u Q I rx ry h hs
 obtain ⟨p,xs,i,z,rfl,rfl,hq,he,q⟩:=h
 cases rx
 obtain ⟨t,rfl⟩:=ry
 obtain ⟨its,r,pl,hz⟩:=I.list hq
 obtain ⟨j,h1,h2,h3,h4,h5⟩:=pd he
 obtain ⟨w,ew,rw'⟩:=r.get h2
 have hl:=r.length
 have hn:=nF
 have fin:EP X pins σ Q w s:=⟨z,H,I,rw',q⟩
 by_cases h0:0<=i
 · have hj:i.toNat=j:=by
     rw [seqIndex_of h0 h5] at h1
     exact Option.some.inj h1
   exact item_listR pl.isList h0 (by omega) (by rw [hj]; simpa using ew) fin hs
 · have hj:(i + (its.toArray.size:Int)).toNat=j:=by
     rw [seqIndex_neg (by omega) h4] at h1
     rw [List.size_toArray,<- hl]
     exact Option.some.inj h1
   exact subscriptTail_builtinR (x:=w) pl.isList.typeIs slot_list_getitem.lookup
     (wpAny_getItem_list_neg (Q:=λr s'=>r=w/\EP X pins σ Q r s') pl.isList (by omega) (by rw [List.size_toArray] <;> omega) (by omega) (by rw [hj]; simpa using ew) ⟨rfl,fin⟩) hs
theorem wN:IxR X (zC X.K):=by
 intro value slice pins s σ H x y v u Q I rx ry h hs
 obtain ⟨p,xs,i,z,rfl,rfl,hq,he,q⟩:=h
 cases rx
 obtain ⟨t,rfl⟩:=ry
 obtain ⟨its,r,pl,hz⟩:=I.tuple hq
 obtain ⟨j,h1,h2,h3,h4,h5⟩:=pd he
 obtain ⟨w,ew,rw'⟩:=r.get h2
 have hl:=r.length
 have hn:=nF
 have fin:EP X pins σ Q w s:=⟨z,H,I,rw',q⟩
 exact subscriptTail_builtinR (x:=w) pl.typeIs slot_tuple_getitem.lookup
   (getItem_tuple (j:=j) (Q:=λr s'=>r=w/\EP X pins σ Q r s') pl (by omega) (by omega) (by rw [List.size_toArray,<- hl]; exact h1) (by simpa using ew) ⟨rfl,fin⟩) hs
theorem Inv.lst {pins:List (Addr × Obj)} {σ:St} {H:Hp} {s:Shared} {p:Addr} {xs:List V} (I:Inv X pins σ H s) (h:H p=some (.lst xs)) :
   ∃ (its:List Value) (n:Nat),Vals xs its/\s.heap.get? p=some { cls:=.type "list",data:=.seq its.toArray n }/\xs.length<=sizeLine:=by
 obtain ⟨z,its,n,r,e⟩:=I.hok p _ h
 exact ⟨its,n,r,e,z⟩
theorem kj (lo hi:Option Int) (n:Nat):(sliceBounds lo hi none n).1=((HT.sIx n 0 lo:Nat):Int)/\(sliceBounds lo hi none n).2.1=((HT.sIx n n hi:Nat):Int)/\(sliceBounds lo hi none n).2.2=1:=by
 refine ⟨?_,?_,rfl⟩
 · cases lo with
   | none=>simp [sliceBounds,HT.sIx]
   | some i=>
     simp only [sliceBounds,HT.sIx,Option.getD_none,show (1:Int) > 0 by decide,if_true]
     by_cases h:i < 0
     · simp only [h,if_true] <;> omega
     · simp only [h,if_false] <;> omega
 · cases hi with
   | none=>simp [sliceBounds,HT.sIx]
   | some i=>
     simp only [sliceBounds,HT.sIx,Option.getD_none,show (1:Int) > 0 by decide,if_true]
     by_cases h:i < 0
     · simp only [h,if_true] <;> omega
     · simp only [h,if_false] <;> omega
theorem jt (its:List Value) (lo hi:Option Int):slicePick its.toArray lo hi none=((its.drop (HT.sIx its.length 0 lo)).take (HT.sIx its.length its.length hi - HT.sIx its.length 0 lo)).toArray:=by
 obtain ⟨h1,h2,h3⟩:=kj lo hi its.toArray.size
 unfold slicePick
 rw [h1,h2,h3]
 simp only [sliceRange_one,pick_run,List.size_toArray] <;> rfl
noncomputable def zG (K:PySem.W.Frag):V->Option Int->Option Int->Hp->VK->Prop:=λx lo hi H Q=>∃ a xs,x=.ref a/\SqL K H a xs/\∀ p,H p=none->Q (.ref p) (upd H p (.lst (qC xs lo hi)))
theorem uQ:SlR X (zG X.K):=by
 intro pins s σ H x v vl vu lo hi sl Q I rx hs pl pu h
 obtain ⟨a,xs,rfl,hx,q⟩:=h
 cases rx
 obtain ⟨its,r,ht,hz⟩:=I.list hx
 have hlen:=r.length
 refine ⟨"list",_,slot_list_getitem.lookup,ht.isList.typeIs,?_⟩
 refine wpAny_getItem_list_slice ht.isList hs pl pu .none (by simp) ?_ (by rw [List.size_toArray] <;> omega)
 rw [jt,<- hlen]
 refine ⟨.ref s.heap.objs.size,_,I.laid (t':=s.toks) (o:=.lst (qC xs lo hi)) (λb ob q=>Heap.get?_push_of_some _ q) (Nat.le_refl _) ?_,rfl,q _ (I.hok.fresh (Nat.le_refl _))⟩
 exact ⟨Nat.le_trans (mF xs lo hi) hz,_,0,(r.drop (HT.sIx xs.length 0 lo)).take (HT.sIx xs.length xs.length hi - HT.sIx xs.length 0 lo),Heap.get?_push_size _ rfl⟩
noncomputable def gI:V->Bool
 | .non=>true
 | .bl _=>true
 | .int _=>true
 | .str _=>true
 | _=>false
noncomputable def eqV:V->V->Bool
 | .non,.non=>true
 | .bl a,.bl b=>a == b
 | .bl a,.int b=>(if a then 1 else 0) == b
 | .int a,.bl b=>a == (if b then 1 else 0)
 | .int a,.int b=>a == b
 | .str a,.str b=>a == b
 | _,_=>false
theorem xp {A:Around} {s:Shared} {y x:V} {u v:Value} (ry:RelV y u) (rx:RelV x v) (fy:gI y=true) (fx:gI x=true):SeqAt.EqAt A s u v (eqV y x):=by
 cases y with
 | non=>
   cases ry
   cases x with
   | non=>cases rx; exact SeqAt.EqAt.same _
   | bl b=>cases rx; exact SeqAt.EqAt.none_bool b
   | int b=>obtain ⟨t,rfl⟩:=rx; exact SeqAt.EqAt.none_int b t
   | str b=>obtain ⟨t,rfl⟩:=rx; exact SeqAt.EqAt.none_str b t
   | _=>exact absurd (show false=true from fx) Bool.false_ne_true
 | bl a=>
   cases ry
   cases x with
   | non=>cases rx; exact SeqAt.EqAt.bool_none a
   | bl b=>cases rx; exact SeqAt.EqAt.bool_bool a b
   | int b=>obtain ⟨t,rfl⟩:=rx; exact SeqAt.EqAt.bool_int a b t
   | str b=>obtain ⟨t,rfl⟩:=rx; exact SeqAt.EqAt.bool_str a b t
   | _=>exact absurd (show false=true from fx) Bool.false_ne_true
 | int a=>
   obtain ⟨t',rfl⟩:=ry
   cases x with
   | non=>cases rx; exact SeqAt.EqAt.int_none a t'
   | bl b=>cases rx; exact SeqAt.EqAt.int_bool a t' b
   | int b=>obtain ⟨t,rfl⟩:=rx; exact SeqAt.EqAt.int_int a t' b t
   | str b=>obtain ⟨t,rfl⟩:=rx; exact SeqAt.EqAt.int_str a t' b t
   | _=>exact absurd (show false=true from fx) Bool.false_ne_true
 | str a=>
   obtain ⟨t',rfl⟩:=ry
   cases x with
   | non=>cases rx; exact SeqAt.EqAt.str_none a t'
   | bl b=>cases rx; exact SeqAt.EqAt.str_bool a t' b
   | int b=>obtain ⟨t,rfl⟩:=rx; exact SeqAt.EqAt.str_int a t' b t
   | str b=>obtain ⟨t,rfl⟩:=rx; exact SeqAt.EqAt.str_str a t' b t
   | _=>exact absurd (show false=true from fx) Bool.false_ne_true
 | _=>exact absurd (show false=true from fy) Bool.false_ne_true
noncomputable def eqU (x:V) (u:Value):Bool:=match u with
 | .none=>eqV .non x
 | .bool b=>eqV (.bl b) x
 | .int i _=>eqV (.int i) x
 | .str z _=>eqV (.str z) x
 | _=>false
theorem sO {x y:V} {u:Value} (r:RelV y u) (f:gI y=true):eqU x u=eqV y x:=by
 cases y with
 | non=>cases r; rfl
 | bl b=>cases r; rfl
 | int i=>obtain ⟨t,rfl⟩:=r; rfl
 | str z=>obtain ⟨t,rfl⟩:=r; rfl
 | _=>exact absurd (show false=true from f) Bool.false_ne_true
theorem fA {x:V}:∀ {xs:List V} {us:List Value},Vals xs us->xs.all gI=true->us.any (eqU x)=xs.any λy=>eqV y x
 | _,_,.nil,_=>rfl
 | y :: xs,u :: us,.cons r t,f=>by
   rw [List.all_cons,Bool.and_eq_true] at f
   rw [List.any_cons,List.any_cons,sO r f.1,fA t f.2]
theorem dY {A:Around} {s:Shared} {x:V} {v:Value} (rx:RelV x v) (fx:gI x=true):∀ {xs:List V} {us:List Value},Vals xs us->xs.all gI=true->∀ u ∈ us,SeqAt.EqAt A s u v (eqU x u)
 | _,_,.nil,_=>λu hu=>by cases hu
 | y :: xs,u :: us,.cons r t,f=>λu' hu=>by
   rw [List.all_cons,Bool.and_eq_true] at f
   rcases List.mem_cons.mp hu with rfl | hu
   · rw [sO r f.1]; exact xp r rx f.1 fx
   · exact dY rx fx t f.2 u' hu
noncomputable def inV (x:V) (xs:List V):Bool:=xs.any λy=>eqV y x
noncomputable def rIn (K:PySem.W.Frag) (neg:Bool):R2:=λx y H Q=>∃ p xs,y=.ref p/\(SqL K H p xs\/SqT K H p xs)/\gI x=true/\xs.all gI=true/\Q (.bl (if neg then !inV x xs else inV x xs)) H
theorem fV:OpR X (compareOp .In) (rIn X.K false):=by
 intro pins s σ H x y v u Q I rx ry h
 obtain ⟨p,xs,rfl,hq,fx,fs,q⟩:=h
 cases ry
 rcases hq with hq | hq
 · obtain ⟨its,r,pl,hz⟩:=I.list hq
   refine SeqAt.in_listAt (eqU x) pl.isList (λw hw=>dY rx fx r fs w (by simpa using hw)) ⟨.bl _,H,I,rfl,?_⟩
   rw [show its.toArray.any (eqU x)=its.any (eqU x) by simp,fA r fs]
   exact q
 · obtain ⟨its,r,pl,hz⟩:=I.tuple hq
   refine SeqAt.in_tupleAt (eqU x) pl (λw hw=>dY rx fx r fs w (by simpa using hw)) ⟨.bl _,H,I,rfl,?_⟩
   rw [show its.toArray.any (eqU x)=its.any (eqU x) by simp,fA r fs]
   exact q
theorem kW:OpR X (compareOp .NotIn) (rIn X.K true):=by
 intro pins s σ H x y v u Q I rx ry h
 obtain ⟨p,xs,rfl,hq,fx,fs,q⟩:=h
 cases ry
 rcases hq with hq | hq
 · obtain ⟨its,r,pl,hz⟩:=I.list hq
   refine SeqAt.notIn_listAt (eqU x) pl.isList (λw hw=>dY rx fx r fs w (by simpa using hw)) ⟨.bl _,H,I,rfl,?_⟩
   rw [show its.toArray.any (eqU x)=its.any (eqU x) by simp,fA r fs]
   exact q
 · obtain ⟨its,r,pl,hz⟩:=I.tuple hq
   refine SeqAt.notIn_tupleAt (eqU x) pl (λw hw=>dY rx fx r fs w (by simpa using hw)) ⟨.bl _,H,I,rfl,?_⟩
   rw [show its.toArray.any (eqU x)=its.any (eqU x) by simp,fA r fs]
   exact q
theorem fS:bP X (.builtin "len") (λxs H Q=>∃ p ys,xs=[.ref p]/\(SqL X.K H p ys\/SqT X.K H p ys)/\Q (.int ys.length) H):=by
 intro pins s σ H xs us Q I r h
 obtain ⟨p,ys,rfl,hq,q⟩:=h
 obtain ⟨u,rfl,rx⟩:=vals1 r
 cases rx
 have hn:=nF
 rcases hq with hq | hq
 · obtain ⟨its,r',pl,hz⟩:=I.list hq
   have hlen:=r'.length
   exact Calls.call_len_list pl.isList (by simp only [List.size_toArray] <;> omega) ⟨.int ys.length,H,I.tok _,⟨s.toks + 1,by rw [List.size_toArray,hlen]⟩,q⟩
 · obtain ⟨its,r',pl,hz⟩:=I.tuple hq
   have hlen:=r'.length
   exact len_tuple pl (by simp only [List.size_toArray] <;> omega) ⟨.int ys.length,H,I.tok _,⟨s.toks + 1,by rw [List.size_toArray,hlen]⟩,q⟩
theorem k7:bP X (.type "list") (λxs H Q=>∃ p ys,xs=[.ref p]/\(SqL X.K H p ys\/SqT X.K H p ys)/\∀ l,H l=none->Q (.ref l) (upd H l (.lst ys))):=by
 intro pins s σ H xs us Q I r h
 obtain ⟨p,ys,rfl,hq,q⟩:=h
 obtain ⟨u,rfl,rx⟩:=vals1 r
 cases rx
 have fin:∀ (its:List Value),Vals ys its->ys.length<=sizeLine->∀ (h':Heap) (c':Nat),(∀ b o',s.heap.get? b=some o'->h'.get? b=some o') ->
     h'.get? s.heap.objs.size=some { cls:=.type "list",dict:=none,data:=.seq its.toArray c',slots:=#[] }->EP X pins σ Q (.ref s.heap.objs.size) { s with heap:=h' }:=λits r' hz h' c' kp e=>
   ⟨.ref s.heap.objs.size,_,I.laid (t':=s.toks) kp (Nat.le_refl _) (show ba X.prog X.w _ h' _ (.lst ys) from ⟨hz,its,c',r',e⟩),rfl,q _ (I.hok.fresh (Nat.le_refl _))⟩
 rcases hq with hq | hq
 · obtain ⟨its,r',pl,hz⟩:=I.list hq
   have hlen:=r'.length
   obtain ⟨o,ho,hc,n,hd⟩:=pl.isList
   exact call_list_seq p (.inl rfl) ho hc hd (λh' c' kp e=>fin its r' hz h' c' kp e) (by simp only [List.size_toArray] <;> omega)
 · obtain ⟨its,r',pl,hz⟩:=I.tuple hq
   have hlen:=r'.length
   obtain ⟨o,ho,hc,n,hd⟩:=pl
   exact call_list_seq p (.inr rfl) ho hc hd (λh' c' kp e=>fin its r' hz h' c' kp e) (by simp only [List.size_toArray] <;> omega)
theorem ju:bP X (.type "tuple") (λxs H Q=>∃ p ys,xs=[.ref p]/\((SqL X.K H p ys/\∀ l,H l=none->Q (.ref l) (upd H l (.tup ys)))\/(SqT X.K H p ys/\Q (.ref p) H))):=by
 intro pins s σ H xs us Q I r h
 obtain ⟨p,ys,rfl,h⟩:=h
 obtain ⟨u,rfl,rx⟩:=vals1 r
 cases rx
 rcases h with ⟨hq,q⟩ | ⟨hq,q⟩
 · obtain ⟨its,r',pl,hz⟩:=I.list hq
   have hlen:=r'.length
   refine call_tuple_list pl.isList (λh' kp=>?_) (by simp only [List.size_toArray] <;> omega)
   have I1:Inv X pins σ H { s with heap:=h' }:=I.kept (t':=s.toks) kp
   have I2:Inv X pins σ (upd H h'.objs.size (.tup ys)) { s with heap:=h'.push { cls:=.type "tuple",data:=.seq its.toArray } }:=
     I1.laid (t':=s.toks) (λb o e=>Heap.get?_push_of_some _ e) (Nat.le_refl _) (show ba X.prog X.w _ _ _ (.tup ys) from ⟨hz,its,r',IsTup.new _ _⟩)
   exact ⟨.ref h'.objs.size,_,I2,rfl,q _ (I1.hok.fresh (Nat.le_refl _))⟩
 · obtain ⟨its,r',pl,hz⟩:=I.tuple hq
   exact call_tuple_same pl ⟨.ref p,H,I,rfl,q⟩
noncomputable def tyV (K:PySem.W.Frag) (T:String) (x:V) (H:Hp):Prop:=match x with
 | .str _=>T = "str"
 | .int _=>T = "int"
 | .ref p=>(T = "list" /\ ∃ xs,SqL K H p xs)\/(T = "tuple" /\ ∃ o,K.lookup p=some o/\o.cls=.type "tuple" /\ o.dict=none) \/
     (T = "dict" /\ ((∃ kvs,H p=some (.dK kvs))\/∃ kvs,H p=some (.dT kvs)))\/(T = "set" /\ ∃ S n,H p=some (.set S n))
 | _=>False
theorem qV {pins:List (Addr × Obj)} {σ:St} {H:Hp} {s:Shared} {T:String} {x:V} {v:Value} (I:Inv X pins σ H s) (r:RelV x v) (ty:tyV X.K T x H) :
   s.TypeIs v T/\∀ a,v=.ref a->∃ ob,s.heap.get? a=some ob/\ob.dict=none:=by
 cases x with
 | str z=>
   obtain ⟨t,rfl⟩:=r
   cases (show T = "str" from ty)
   exact ⟨typeIs_str s z t,λ_ e=>nomatch e⟩
 | int i=>
   obtain ⟨t,rfl⟩:=r
   cases (show T = "int" from ty)
   exact ⟨typeIs_int s i t,λ_ e=>nomatch e⟩
 | ref p=>
   cases r
   rcases ty with ⟨rfl,xs,hq⟩ | ⟨rfl,o,hk,hc,hd⟩ | ⟨rfl,hk⟩ | ⟨rfl,S,n,hk⟩
   · obtain ⟨its,_,pl,_⟩:=I.list hq
     refine ⟨pl.isList.typeIs,λa e=>?_⟩
     cases e
     obtain ⟨o,n,e,c,hd,_⟩:=pl
     exact ⟨o,e,hd⟩
   · refine ⟨⟨o,I.kIn p o hk,hc⟩,λa e=>?_⟩
     cases e
     exact ⟨o,I.kIn _ o hk,hd⟩
   · have z:∃ o,s.heap.get? p=some o/\o.ExactDict:=by
       rcases hk with ⟨kvs,hk⟩ | ⟨kvs,hk⟩
       · obtain ⟨_,_,_,_,o,_,_,e,ex,_⟩:=I.hok p _ hk
         exact ⟨o,e,ex⟩
       · obtain ⟨_,_,_,_,o,_,_,e,ex,_⟩:=I.hok p _ hk
         exact ⟨o,e,ex⟩
     obtain ⟨o,e,ex⟩:=z
     refine ⟨⟨o,e,ex.1⟩,λa e2=>?_⟩
     cases e2
     exact ⟨o,e,ex.2.1⟩
   · obtain ⟨o,_,_,_,e,ex,_⟩:=I.hok p _ hk
     refine ⟨⟨o,e,ex.1⟩,λa e2=>?_⟩
     cases e2
     exact ⟨o,e,ex.2.1⟩
 | _=>exact False.elim ty
noncomputable def yZ (K:PySem.W.Frag) (T:String) (r:V->List V->Hp->VK->Prop) (to:TE):TE:=λσ H Q=>to σ H λx H1=>tyV K T x H1/\r x [] H1 Q
noncomputable def tBM (K:PySem.W.Frag) (T:String) (r:V->List V->Hp->VK->Prop) (to:TE) (t:TA):TE:=λσ H Q=>to σ H λx H1=>tyV K T x H1/\t σ H1 λxs H2=>r x xs H2 Q
variable {o e:Expr} {es:List Expr} {to:TE} {t:TA} {name:Str} {apos cpos:Pos} {T id:String} {r:V->List V->Hp->VK->Prop}
theorem vT (pa:PlainAttrs T) (slot:Slot T name id) (hty:typeOf (.builtin id)=pure (.type "method_descriptor")) (hm:MtR X id r) (ho:PE X o to)
   (hbase:attributeBase o name X.env (eval o X.env)=eval o X.env:=by rfl) (hline:(apos.endLine == cpos.line)=true:=by rfl):PE X (.Call (.Attribute o name apos) [] [] cpos) (yZ X.K T r to):=by
 intro pins s σ H Q I h
 refine wpAny_Call_method0_late hbase hline (thn (ho pins s σ H _ I h) λv s1 ⟨x,H1,I1,r1,ty,q1⟩=>?_)
 obtain ⟨h1,h2⟩:=qV I1 r1 ty
 exact ⟨T,id,pa,slot,hty,h1,h2,Calls.callWith_builtin rfl (PySem.evalArgs_none (hm pins s1 σ H1 x [] v [] Q I1 r1 .nil q1))⟩
theorem l6 (pa:PlainAttrs T) (slot:Slot T name id) (hty:typeOf (.builtin id)=pure (.type "method_descriptor")) (hm:MtR X id r) (ho:PE X o to) (ha:PA X (e :: es) t)
   (hbase:attributeBase o name X.env (eval o X.env)=eval o X.env:=by rfl)
   (hfew:((backTo cpos (starEach (e :: es) X.env)).all (λx=>!x.1) && (backToKw cpos (keywordEach [] X.env)).all (λx=>x.1.isSome)
     && decide ((e :: es).length + ([]:List Keyword).length + (if ([]:List Keyword).isEmpty then 0 else 1) < 30))=true:=by rfl)
   (hline:(apos.endLine == cpos.line)=true:=by rfl) (hs:starEach (e :: es) X.env=(false,eval e X.env) :: starEach es X.env:=by rfl) (hplain:(backTo cpos (starEach es X.env)).any (·.1)=false:=by rfl) :
   PE X (.Call (.Attribute o name apos) (e :: es) [] cpos) (tBM X.K T r to t):=by
 intro pins s σ H Q I h
 refine wpAny_Call_method_late hbase hfew hline rfl (thn (ho pins s σ H _ I h) λv s1 ⟨x,H1,I1,r1,ty,q1⟩=>?_)
 obtain ⟨h1,h2⟩:=qV I1 r1 ty
 refine ⟨T,id,pa,slot,hty,h1,h2,?_⟩
 have hA:=ha cpos pins s1 σ H1 _ I1 q1
 rw [hs] at hA ⊢
 refine Calls.callWith_builtin (by show (false || (backTo cpos (starEach es X.env)).any (·.1))=false; rw [hplain] <;> rfl) (Calls.evalArgs_plain ?_)
 exact thn hA λus s2 ⟨vs,H2,I2,r2,q2⟩=>hm pins s2 σ H2 x vs v us Q I2 r1 r2 q2
end
noncomputable def MtM (X:Cx) (id:String) (r:V->List V->Hp->VK->Prop):Prop:=
 ∀ (pins:List (Addr × Obj)) (s:Shared) (σ:St) (H:Hp) (x:V) (xs:List V) (v:Value) (us:List Value) (Q:VK),Inv X pins σ H s->RelV x v->Vals xs us->r x xs H Q ->
   wpAny (model X.prog X.w) X.A (call (.builtin id) (v :: us)) (EP X pins σ Q) X.xe s
theorem Vals.one:∀ {x:V} {us:List Value},Vals [x] us->∃ u,us=[u]/\RelV x u
 | _,_,.cons r .nil=>⟨_,rfl,r⟩
theorem Vals.zero:∀ {us:List Value},Vals [] us->us=[]
 | _,.nil=>rfl
theorem Vals.eraseIdx:∀ {xs:List V} {us:List Value} (i:Nat),Vals xs us->Vals (xs.eraseIdx i) (us.eraseIdx i)
 | _,_,_,.nil=>.nil
 | _,_,0,.cons _ t=>t
 | _,_,i + 1,.cons r t=>.cons r (Vals.eraseIdx i t)
theorem Vals.reverse {xs:List V} {us:List Value} (h:Vals xs us):Vals xs.reverse us.reverse:=by
 induction h with
 | nil=>exact .nil
 | cons r t ih=>rw [List.reverse_cons,List.reverse_cons]; exact Vals.append ih (.cons r .nil)
theorem Vals.rep {xs:List V} {us:List Value} (h:Vals xs us):∀ k:Nat,Vals (List.replicate k xs).flatten (List.replicate k us).flatten
 | 0=>.nil
 | k + 1=>by
   rw [List.replicate_succ,List.replicate_succ,List.flatten_cons,List.flatten_cons]
   exact Vals.append h (Vals.rep h k)
theorem gf {α:Type}:∀ (l:List α) (i:Nat),(l.eraseIdx i).length<=l.length
 | [],_=>Nat.le_refl _
 | _ :: _,0=>Nat.le_succ _
 | _ :: r,i + 1=>Nat.succ_le_succ (gf r i)
theorem foldl_rep (its:List Value):∀ (k:Nat) (acc:List Value),
   List.foldl (λx1 x2=>x1++x2) acc.toArray (List.replicate k its.toArray)=(acc++(List.replicate k its).flatten).toArray
 | 0,acc=>by simp
 | k + 1,acc=>by
   have e:acc.toArray++its.toArray=(acc++its).toArray:=by simp
   have e2:(acc++its)++(List.replicate k its).flatten=acc++(List.replicate (k + 1) its).flatten:=by
     rw [List.replicate_succ,List.flatten_cons,List.append_assoc]
   rw [<- e2,<- foldl_rep its k (acc++its),<- e,List.replicate_succ,List.foldl_cons]
section
variable {X:Cx} {pins:List (Addr × Obj)} {σ:St} {H:Hp} {s:Shared} {l b:Addr} {xs ys zs:List V}
theorem Inv.uz {its its':List Value} {n:Nat} {f:Array Value->Array Value} {t':Nat} (I:Inv X pins σ H s) (hH:H l=some (.lst xs))
   (e:s.heap.get? l=some { cls:=.type "list",data:=.seq its.toArray n }) (hf:f its.toArray=its'.toArray) (hv:Vals ys its') (hz:ys.length<=sizeLine) :
   Inv X pins σ (upd H l (.lst ys)) { s with heap:=s.heap.update l (Obj.mapSeq f),toks:=t' }:=by
 have q:=PySem.IsL.update e f
 rw [hf] at q
 refine I.write (x:=l) (e:=l) (by rw [hH]; exact trivial) (.inl rfl) (λb' u hb hu=>(Heap.get?_update_other s.heap (Obj.mapSeq f) (Ne.symm hb)).trans hu) ⟨_,q⟩ ?_
 exact ⟨hz,its',_,hv,q⟩
theorem Inv.yo {its:List Value} {t':Nat} (I:Inv X pins σ H s) (hv:Vals ys its) (hz:ys.length<=sizeLine) :
   Inv X pins σ (upd H s.heap.objs.size (.lst ys)) { s with heap:=s.heap.push { cls:=.type "list",data:=.seq its.toArray },toks:=t' }:=
 I.laid (λ_ _ q=>Heap.get?_push_of_some _ q) (Nat.le_refl _) ⟨hz,its,0,hv,Heap.get?_push_size _ rfl⟩
theorem Inv.fresh (I:Inv X pins σ H s):H s.heap.objs.size=none:=I.hok.fresh (Nat.le_refl _)
theorem Inv.rZ (I:Inv X pins σ H s) (hH:H l=some (.lst xs)):xs.length<=sizeLine/\∃ (its:List Value) (n:Nat),Vals xs its/\xs.length=its.length/\s.heap.get? l=some { cls:=.type "list",data:=.seq its.toArray n }:=by
 obtain ⟨z,its,n,r,e⟩:=I.hok l _ hH
 exact ⟨z,its,n,r,r.length,e⟩
theorem mh {n:Nat} (h:n<=sizeLine):Builtin.List.listTooLong n=false:=by
 unfold Builtin.List.listTooLong
 exact decide_eq_false (by omega)
end
section
variable {X:Cx}
noncomputable def uo:V->List V->Hp->VK->Prop:=λx vs H Q=>∃ l xs y,x=.ref l/\vs=[y]/\H l=some (.lst xs)/\xs.length < sizeLine/\Q .non (upd H l (.lst (xs++[y])))
theorem ez:MtM X "list.append" uo:=by
 intro pins s σ H x vs v us Q I rx rv h
 obtain ⟨l,xs,y,rfl,rfl,hH,hz,q⟩:=h
 cases rx
 obtain ⟨u,rfl,ru⟩:=rv.one
 obtain ⟨z,its,n,r,hl,e⟩:=I.rZ hH
 refine call_meets F.slot_list_append ⟨_,e,rfl⟩ F.entry_list_append (F.args_list_append_2 _ _) (PySem.list_append l its.toArray n u (by rw [List.size_toArray]; omega)) ⟨e,?_⟩
 refine ⟨.non,_,I.uz (its':=its++[u]) hH e (by simp) (r.append (.cons ru .nil)) ?_,rfl,q⟩
 rw [List.length_append,List.length_singleton]
 omega
noncomputable def ue:V->List V->Hp->VK->Prop:=λx vs H Q=>∃ l b xs zs,x=.ref l/\vs=[.ref b]/\H l=some (.lst xs)/\H b=some (.lst zs)/\xs.length + zs.length<=sizeLine/\Q .non (upd H l (.lst (xs++zs)))
theorem qI:MtM X "list.extend" ue:=by
 intro pins s σ H x vs v us Q I rx rv h
 obtain ⟨l,b,xs,zs,rfl,rfl,hH,hB,hz,q⟩:=h
 cases rx
 obtain ⟨u,rfl,ru⟩:=rv.one
 cases ru
 obtain ⟨z,its,n,r,hl,e⟩:=I.rZ hH
 obtain ⟨z2,its2,n2,r2,hl2,e2⟩:=I.rZ hB
 have hsz:its.toArray.size + its2.toArray.size<=sizeLine:=by rw [List.size_toArray,List.size_toArray]; omega
 have hlong:¬ (!its.toArray.isEmpty && Builtin.List.listTooLong (its.toArray.size + its2.toArray.size))=true:=by
   rw [mh hsz,Bool.and_false]
   exact Bool.false_ne_true
 refine call_meets F.slot_list_extend ⟨_,e,rfl⟩ F.entry_list_extend (F.args_list_extend_2 _ _)
   (AutoSeq1.list_extend_list_list_0 l its.toArray n b its2.toArray n2 hlong (by rw [List.size_toArray]; omega) (by omega)) ⟨e,e2,?_⟩
 refine ⟨.non,_,I.uz (its':=its++its2) hH e (by simp) (r.append r2) ?_,rfl,q⟩
 rw [List.length_append]
 omega
noncomputable def rE:V->List V->Hp->VK->Prop:=λx vs H Q=>∃ l xs i k y,x=.ref l/\vs=[.int i]/\H l=some (.lst xs)/\-(2 ^ 63)<=i/\i < 2 ^ 63/\seqIndex? i xs.length=some k/\xs[k]?=some y/\Q y (upd H l (.lst (xs.eraseIdx k)))
theorem rh:MtM X "list.pop" rE:=by
 intro pins s σ H x vs v us Q I rx rv h
 obtain ⟨l,xs,i,k,y,rfl,rfl,hH,h1,h2,hk,hy,q⟩:=h
 cases rx
 obtain ⟨u,rfl,ru⟩:=rv.one
 obtain ⟨t,rfl⟩:=ru
 obtain ⟨z,its,n,r,hl,e⟩:=I.rZ hH
 obtain ⟨w,hw,rw'⟩:=r.get hy
 refine call_meets F.slot_list_pop ⟨_,e,rfl⟩ F.entry_list_pop (F.args_list_pop_2 _ _)
   (MeetsSeq.list_pop_at l its.toArray n i t k w (fitsIndex_both h1 h2) (by rw [List.size_toArray,<- hl]; exact hk) (by rw [<- Array.getElem?_toList]; exact hw) (by rw [List.size_toArray]; omega)) ⟨e,?_⟩
 refine ⟨y,_,I.uz (its':=its.eraseIdx k) hH e ?_ (r.eraseIdx k) ?_,rw',q⟩
 · show its.toArray.eraseIdxIfInBounds k=(its.eraseIdx k).toArray
   rw [List.eraseIdxIfInBounds_toArray]
 · have:=gf xs k
   omega
noncomputable def qX:V->List V->Hp->VK->Prop:=λx vs H Q=>∃ l xs,x=.ref l/\vs=[]/\H l=some (.lst xs)/\Q .non (upd H l (.lst xs.reverse))
theorem n8:MtM X "list.reverse" qX:=by
 intro pins s σ H x vs v us Q I rx rv h
 obtain ⟨l,xs,rfl,rfl,hH,q⟩:=h
 cases rx
 have hus:=rv.zero
 subst hus
 obtain ⟨z,its,n,r,hl,e⟩:=I.rZ hH
 refine call_meets F.slot_list_reverse ⟨_,e,rfl⟩ F.entry_list_reverse (F.args_list_reverse_1 _) (AutoSeq1.list_reverse_list_0 l its.toArray n (by rw [List.size_toArray]; omega)) ⟨e,?_⟩
 refine ⟨.non,_,I.uz (its':=its.reverse) hH e (by simp) r.reverse ?_,rfl,q⟩
 rw [List.length_reverse]
 omega
theorem len_rep {α:Type} (xs:List α) (k:Nat):(List.replicate k xs).flatten.length=k * xs.length:=by
 induction k with
 | zero=>simp
 | succ k ih=>rw [List.replicate_succ,List.flatten_cons,List.length_append,ih,Nat.succ_mul,Nat.add_comm]
end
section
variable {prog:Program} {w:World} {A:Around} {E:Value->Shared->Prop} {s:Shared}
end
section
variable {X:Cx}
end
end L2
namespace Att
open PySem PySem.W PySem.Calls PyProof.Rows
theorem gR {P:Params} {h:Heap}:∀ (ns:List Int) (vs:List Value),WellAll P h vs (ns.map WData.int)->IntsAre vs ns:=by
 intro ns
 induction ns with
 | nil=>
   intro vs w
   rw [List.map_nil] at w
   cases w
   exact .nil
 | cons n ns ih=>
   intro vs w
   rw [List.map_cons] at w
   cases w with
   | cons a b=>
     cases a
     exact .cons _ _ (ih _ b)
theorem qM {l:OpenLaw} {n:Nat} (hn:l.most=some n) {P:Params} {h:Heap} {args:List WData} {vals:List Value}
   (hpre:l.row.toRowW.claim.pre args=true) (hwl:WellAll P h vals args) :
   ∃ a vs ns,vals=[Value.ref a]/\args=[WData.list (ns.map WData.int)]/\h.get? a=some { cls:=.type "list",data:=.seq vs.toArray }/\IntsAre vs ns/\ns.length<=n:=by
 have hsh:WShape.hasAll [] args [.list .int]=true:=(pre_splitW hpre).1
 have hc:l.pre.holds [] { args:=args }=true:=(pre_splitW hpre).2
 obtain ⟨d,r,rfl,h1,h2⟩:=hasAllW_cons hsh
 obtain rfl:=hasAllW_nil h2
 obtain ⟨xs,rfl,h3⟩:=hasW_list h1
 obtain ⟨ns,rfl⟩:=items_int h3
 have hlen:ns.length<=n:=by
   unfold OpenLaw.pre at hc
   have h4:(WTm.not (.lt (.lit (.int (n:Int))) (.len (.arg 0)))).holds [] { args:=[.list (ns.map .int)] }=true:=by
     have h4:=(holds_andW hc).1
     rw [hn] at h4
     exact h4
   have h5:=condW_of h4 (w_not (w_lt w_lit (w_len_list (w_arg rfl))))
   rw [List.length_map] at h5
   refine Nat.le_of_not_lt λq=>?_
   have q':(n:Int) < ((ns.length:Nat):Int):=by omega
   first
     | (rw [decide_eq_true q'] at h5; exact absurd h5 (by decide))
     | (simp at h5; omega)
 cases hwl with
 | cons w1 w2=>
   cases w2
   cases w1 with
   | list ho hall=>exact ⟨_,_,ns,rfl,rfl,ho,gR ns _ hall,hlen⟩
theorem qQ (l:OpenLaw) (args:List WData):l.row.toRowW.claim.post args (.bool true) args=true:=
 postW_of (r:=l.row.toRowW) (X:=(true == true))
   (show WShape.has [] (.bool true) .bool=true by first | rfl | decide | simp [WShape.has,WShape.arms,WShape.armsAll])
   (show (WTm.eq .res (.lit (.bool true))).value [] { args:=args,res:=some (.bool true),after:=args }=some (.bool (true == true)) from w_eq_bool (w_res rfl) w_lit) rfl
theorem mR {l:OpenLaw} {n:Nat} {q:Program} {loose:List Str} {XP:(Str->Option Value)->Heap->Prop} {YP:World->Heap->Prop} {d:DefRec}
   (hn:l.most=some n) (hdf:d.params.defaults=[])
   (call:∀ (w:World) (s₀ s₁:Shared) (mg mb:Str->Option Value) (fa:Addr) (o:Obj) (pm cd doc:Value) (a:Addr) (vs:List Value) (ns:List Int),
     Ground q loose [] XP w s₀ mg mb s₁.heap->YP w s₁.heap ->
     s₁.heap.get? fa=some o->o.data=.func (docDef d.name d.params d.body d.scope pm cd doc)->s₁.heap.CodeRec cd d.name->mg d.name=some (.ref fa) ->
     s₁.heap.get? a=some { cls:=.type "list",data:=.seq vs.toArray }->IntsAre vs ns->ns.length<=n->s₁.gens=#[] ->
     codeAny (model l.prog w) callerA (.call (.ref fa) ⟨[.ref a],[]⟩) (λr s'=>r=.ok (.ret (.bool true))/\OldK s₁.heap s'.heap/\s'.os=s₁.os/\AllBare s'.gens) s₁) :
   WalkO q loose XP YP l.row.toRowW d [] (λf vs=>PySem.call f vs):=by
 intro w s₀ s₁ mg mb G Y fa o pm cd doc dV kV ho hd hcd hD hmg hg args vals as hpre hlay hrd hwl hlo
 obtain rfl:dV=.none:=Dflts.none hD hdf
 obtain rfl:kV=.none:=Dflts.noKw hD
 obtain ⟨a,vs,ns,rfl,rfl,hobj,hints,hlen⟩:=qM hn hpre hwl
 refine enter_call (codeAny_mono (call w s₀ s₁ mg mb fa o pm cd doc a vs ns G Y ho (fd_plain hd) hcd hmg hobj hints hlen hg) λr s' hq=>?_)
 obtain ⟨rfl,h2,h3,h4⟩:=hq
 exact ⟨.inl ⟨.bool true,.bool true,[],rfl,λ_=>rfl,.bool true,qQ l _,λ_=>⟨List.Pairwise.nil,λ_ hm=>(nomatch hm)⟩⟩,h2,h3,h4⟩
section
variable {prog:Program} {w:World} {A:Around} {E:Value->Shared->Prop} {s:Shared} {K:Frag}
end
end Att
namespace L2
open PySem PySem.Spec PyProof.Rows
theorem cQ:∀ {vs:List Value} {ns:List Int},IntsAre vs ns->Vals (ns.map V.int) vs
 | _,_,.nil=>.nil
 | _,_,.cons n t h=>.cons ⟨t,rfl⟩ (cQ h)
noncomputable def wA (H:Hp):Prop:=∀ b,H b=none\/∃ o xs,H b=some (.frz o (.lst xs))
theorem sX {P:Program} {w:World} {K:PySem.W.Frag} {mg mb:Str->Option Value} {CX:CXT} {k:Nat} {fa a:Addr} {fd:FuncData} {x:Str} {sp:Sp} {s₁:Shared} {vs:List Value} {ns:List Int}
   (KX:K.In s₁.heap) (hns:s₁.heap.Ns mainGlobals mg) (hb:s₁.heap.Ns builtinsNs mb) (hbb:∀ x:Str,x ≠ "__name__" -> mb x=bootBuiltins x) (hlim:s₁.heap.NoLimit) (hg:s₁.gens=#[])
   (ha:s₁.heap.get? a=some { cls:=.type "list",data:=.seq vs.toArray }) (hi:IntsAre vs ns) (hl:ns.length<=sizeLine) (hr:dB k callerA)
   (F:∀ base:Heap,K.In base->base.Ns mainGlobals mg->aQ P w K mg base CX k fa fd [x] sp) (hbind:∀ (s:Shared) (u:Value),BindsTo s fd ⟨[u],[]⟩ [(x,u)])
   (hsp:∀ H:Hp,wA H->SqL K H a (ns.map V.int)->sp [.ref a] H (λv _=>v=.bl true) λ_ _ _=>False)
   (hCX:∀ H e s',CX [] H s₁ (λ_ _ _=>False) e s'->False) :
   codeAny (model P w) callerA (.call (.ref fa) ⟨[.ref a],[]⟩) (λr s'=>r=.ok (.ret (.bool true))/\OldK s₁.heap s'.heap/\s'.os=s₁.os/\AllBare s'.gens) s₁:=by
 have rv:=cQ hi
 have lenV:=hi.length
 have core:∀ H:Hp,wA H->SqL K H a (ns.map V.int)->HOk P w H s₁.heap->(∀ b,H b ≠ none->b=a)->(H a ≠ none->K.lookup a=none) ->
     codeAny (model P w) callerA (.call (.ref fa) ⟨[.ref a],[]⟩) (λr s'=>r=.ok (.ret (.bool true))/\OldK s₁.heap s'.heap/\s'.os=s₁.os/\AllBare s'.gens) s₁:=by
   intro H hO hS hok hA hK
   have base_of:∀ {b:Addr} {o:Obj},s₁.heap.get? b=some o->H b=none->(j9 s₁.heap H).get? b=some o:=λe n=>sG e n
   have noA:∀ {b:Addr} {o:Obj} {es:Array DictEntry} {ep:Nat},s₁.heap.get? b=some o->o.data=.dict es ep->H b=none:=λ{b o es ep} e d=>by
     cases q:H b with
     | none=>rfl
     | some u=>
       have e':b=a:=hA b (by rw [q]; simp)
       subst e'
       rw [ha] at e; cases e
       have d':Data.seq vs.toArray _=Data.dict es ep:=d
       cases d'
   have nsK:∀ {b:Addr} {m:Str->Option Value},s₁.heap.Ns b m->(j9 s₁.heap H).Ns b m:=λ{b m} ⟨o,es,ep,e,d,r⟩=>⟨o,es,ep,base_of e (noA e d),d,r⟩
   have hKb:K.In (j9 s₁.heap H):=λb o e=>base_of (KX b o e) (by
     cases q:H b with
     | none=>rfl
     | some u=>
       have e':b=a:=hA b (by rw [q]; simp)
       subst e'
       rw [hK (by rw [q]; simp)] at e; cases e)
   have hM:Mod K mg (j9 s₁.heap H):=⟨hKb,nsK hns,⟨mb,nsK hb,hbb⟩,let ⟨mc,h1,h2⟩:=hlim; ⟨mc,nsK h1,h2⟩⟩
   have e0:tP P w K mg (j9 s₁.heap H) callerA [] s₁ H:=⟨rfl,hM,λb o e=>uh e,Nat.le_of_eq (qA _ _),trivial,λb hb=>absurd (show b ∈ ([]:List Addr) from hb) (by simp),hok,.of_eq hg⟩
   refine codeAny_mono ((F _ hKb (nsK hns)).run callerA [] s₁ H ⟨[.ref a],[]⟩ [.ref a] [.ref a] _ _ hr e0 (hbind s₁ (.ref a)) (.cons rfl .nil) (hsp H hO hS)) λr s' h=>?_
   cases r with
   | error e=>exact (hCX H e s' h).elim
   | ok fl=>
     cases fl with
     | next=>exact False.elim h
     | brk=>exact False.elim h
     | cont=>exact False.elim h
     | ret u=>
       obtain ⟨v,H',os,bare,un,hok',r',q⟩:=h
       have q':v=.bl true:=q
       subst q'
       obtain rfl:u=Value.bool true:=r'
       refine ⟨rfl,OldK.of_keep λb o e=>?_,os,bare⟩
       cases q:H b with
       | none=>exact un.keep b o e q (by intro z; exact absurd (show b ∈ ([]:List Addr) from z) (by simp)) (by simp)
       | some u=>
         rcases hO b with z | ⟨ob,xs,z⟩
         · rw [q] at z; cases z
         · have z2:=un.frzs b ob _ z
           obtain ⟨e1,_⟩:=hok b _ z
           obtain ⟨e2,_⟩:=hok' b _ z2
           rw [e] at e1; cases e1
           exact e2
 cases hk:K.lookup a with
 | some o=>
   have e:=KX a o hk
   rw [ha] at e
   cases e
   refine core (λ_=>none) (λ_=>.inl rfl) (.inr ⟨_,vs.toArray,_,hk,rfl,rfl,rfl,by rw [List.size_toArray,lenV]; exact hl,by simpa using rv⟩) (λb u z=>by have z':(none:Option HO)=some u:=z; cases z') (λb z=>absurd rfl z) λz=>absurd rfl z
 | none=>
   refine core (λb=>if b=a then some (.frz { cls:=.type "list",data:=.seq vs.toArray } (.lst (ns.map V.int))) else none) (λb=>?_) (.inl (.inr ⟨{ cls:=.type "list",data:=.seq vs.toArray },if_pos rfl⟩)) (λb u z=>?_) (λb z=>?_) λ_=>hk
   · by_cases hb:b=a
     · exact .inr ⟨_,_,if_pos hb⟩
     · exact .inl (if_neg hb)
   · by_cases hb:b=a
     · have z':=(if_pos hb).symm.trans z
       cases z'
       subst hb
       exact ⟨ha,by rw [List.length_map]; exact hl,vs,_,rv,ha⟩
     · have z':=(if_neg hb).symm.trans z
       cases z'
   · by_cases hb:b=a
     · exact hb
     · exact absurd (if_neg hb) z
theorem uJ {l:PySem.W.OpenLaw} {n k:Nat} {q:Program} {loose:List Str} {XP:(Str->Option Value)->Heap->Prop} {YP:World->Heap->Prop} {d:DefRec} {K:Params->PySem.W.Frag} {CX:World->CXT} {sp:World->Sp} {x:Str}
   (hn:l.most=some n) (hn2:n<=sizeLine) (hdf:d.params.defaults=[]) (hr:dB k callerA)
   (hY:∀ (w:World) (h:Heap),YP w h->(K w.params).In h)
   (F:∀ (w:World) (mg:Str->Option Value) (fa:Addr) (h:Heap),(K w.params).In h->h.Ns mainGlobals mg->mg d.name=some (.ref fa) ->
     ∃ fd:FuncData,(∀ (s:Shared) (u:Value),BindsTo s fd ⟨[u],[]⟩ [(x,u)]) /\
       ∀ base:Heap,(K w.params).In base->base.Ns mainGlobals mg->aQ l.prog w (K w.params) mg base (CX w) k fa fd [x] (sp w))
   (hsp:∀ (w:World) (H:Hp) (a:Addr) (ns:List Int),ns.length<=n->wA H->SqL (K w.params) H a (ns.map V.int)->sp w [.ref a] H (λv _=>v=.bl true) λ_ _ _=>False)
   (hCX:∀ (w:World) (H:Hp) (s:Shared) (e:Value) (s':Shared),CX w [] H s (λ_ _ _=>False) e s'->False) :
   PySem.W.WalkO q loose XP YP l.row.toRowW d [] (λf vs=>PySem.call f vs):=by
 refine Att.mR hn hdf λw s₀ s₁ mg mb fa o pm cd doc a vs ns G Y ho hd hcd hmg hobj hints hlen hg=>?_
 have KX:=hY w _ Y
 obtain ⟨fd,hb,hF⟩:=F w mg fa _ KX G.T.g hmg
 exact sX KX G.T.g G.T.b G.T.builtins G.T.nolimit hg hobj hints (Nat.le_trans hlen hn2) hr hF hb (λH hO hS=>hsp w H a ns hlen hO hS) λH e s'=>hCX w H s₁ e s'
noncomputable def dh (s:Stmt):Arguments:=match s with
 | .FunctionDef _ a _ _ _ _ _ _ _ _=>a
 | _=>{ posonlyargs:=[],args:=[],vararg:=none,kwonlyargs:=[],kw_defaults:=[],kwarg:=none,defaults:=[] }
noncomputable def bS (s:Stmt):List Stmt:=match s with
 | .FunctionDef _ _ b _ _ _ _ _ _ _=>b
 | _=>[]
noncomputable def aj (s:Stmt):Scope:=match s with
 | .FunctionDef _ _ _ _ _ _ sc _ _ _=>sc
 | _=>{ kind:=.function,names:=[],isGenerator:=false,isCoroutine:=false }
noncomputable abbrev CX0:CXT:=λ_ _ _ _ _ _=>False
noncomputable abbrev E0:XK:=λ_ _ _=>False
theorem vk {X:Cx}:Passes CX0 X E0:=λ_ _ _ _ _ _ _ h=>h.elim
structure Fun (K:PySem.W.Frag) (x qual:Str) (st:Stmt) (f:Addr) (fd:FuncData):Prop where
 ex:∃ (oc:Value) (od:Option Addr) (dV kV doc pm:Value) (an:Option Addr) (cdv ct:Value) (osl:Array (Option Value)),
   fd=PySem.W.fnOf x qual (dh st) (bS st) (aj st) dV kV doc pm an cdv ct/\K.lookup f=some ⟨oc,od,.func fd,osl⟩/\PySem.W.codeIn K cdv qual=true
 kp:PySem.W.keepIn K (.ref f)=true
section
variable {P:Program} {w:World} {K:PySem.W.Frag} {mg:Str->Option Value} {base:Heap}
theorem Fun.ok {x qual:Str} {st:Stmt} {f:Addr} {fd:FuncData} {N ps:List Str} {k:Nat} {sp:Sp} (F:Fun K x qual st f fd) (S:av N ps (aj st)) (len:∀ vs H Q E,sp vs H Q E->vs.length=ps.length)
   (hbody:∀ (cdv:Value) (A:Around) (outer:List Env) (s:Shared) (H:Hp) (vs:List V) (Q:VK) (E:XK),dB k (A.deeper (envOfC qual (aj st) s.heap.objs.size f cdv))->sp vs H Q E ->
     ∃ t,PSs (nM CX0 P w K mg base N qual (aj st) f cdv A outer s H E).nox (bS st) t/\t { nx:=λ_ H'=>Q .non H',rt:=Q } (start N vs) H):aQ P w K mg base CX0 (k + 1) f fd ps sp:=by
 obtain ⟨oc,od,dV,kV,doc,pm,an,cdv,ct,osl,rfl,lk,hcd⟩:=F.ex
 refine ym lk hcd S len λA outer s H vs Q E hr hsp=>?_
 obtain ⟨t,h,q⟩:=hbody cdv A outer s H vs Q E hr hsp
 exact ⟨t,h.nox,q⟩
theorem Fun.binds {x qual:Str} {st:Stmt} {f:Addr} {fd:FuncData} {ps:List Str} (_:Fun K x qual st f fd) (h:∀ us:List Value,us.length=ps.length->bindArgs fd ⟨us,[]⟩=pure (ps.zip us)):Binds K fd ps []:=.all h
theorem ti {x qual:Str} {st:Stmt} {f:Addr} {oc:Value} {od an:Option Addr} {osl:Array (Option Value)} {dV kV doc pm cdv ct:Value} (l:K.lookup f=some ⟨oc,od,.func (PySem.W.fnOf x qual (dh st) (bS st) (aj st) dV kV doc pm an cdv ct),osl⟩)
   (c:PySem.W.codeIn K cdv qual=true) (k:PySem.W.keepIn K (.ref f)=true):Fun K x qual st f (PySem.W.fnOf x qual (dh st) (bS st) (aj st) dV kV doc pm an cdv ct):=⟨⟨oc,od,dV,kV,doc,pm,an,cdv,ct,osl,rfl,l,c⟩,k⟩
end
theorem gi {n:Nat} (h:n<=1000):n < sizeLine:=Nat.lt_of_le_of_lt h (by decide)
section
variable {X:Cx}
theorem pv (i:Nat) {x:Str} {pos:Pos} (hN:X.N[i]?=some x:=by rfl) (hv:Vis X.env.scope x:=by first | exact Or.inl rfl | exact Or.inr (Or.inl rfl) | exact Or.inr (Or.inr rfl)) (hd:(x == ("__debug__" : Str))=false:=by decide)
   (hcd:(x == ("__classdict__" : Str))=false:=by decide):PE X (.Name x pos) (uH i):=bw hN hv hd hcd
end
theorem nq {A B:Prop} (h:B):if false=true then A else B:=by
 rw [if_neg Bool.false_ne_true]
 exact h
theorem nP {A B:Prop} (h:A):if true=true then A else B:=by
 rw [if_pos rfl]
 exact h
noncomputable def ah (H H':Hp):Prop:=∀ b o,H b=some o->H' b=some o
theorem ah.refl (H:Hp):ah H H:=λ_ _ h=>h
theorem ah.trans {H H1 H2:Hp} (a:ah H H1) (b:ah H1 H2):ah H H2:=λc o h=>b c o (a c o h)
theorem ah.free {H H':Hp} (e:ah H H') {l:Addr} (h:H' l=Option.none):H l=Option.none:=by
 cases q:H l with
 | none=>rfl
 | some o=>
   rw [e l o q] at h
   cases h
theorem ah.seq {K:PySem.W.Frag} {H H':Hp} {a:Addr} {xs:List V} (e:ah H H') (h:SqL K H a xs):SqL K H' a xs:=by
 rcases h with (h | ⟨o,h⟩) | h
 · exact .inl (.inl (e _ _ h))
 · exact .inl (.inr ⟨o,e _ _ h⟩)
 · exact .inr h
end L2
set_option linter.all false
set_option maxRecDepth 100000
namespace Hx
open PySem PySem.Spec PyProof.Rows
noncomputable def Fly (old:Addr->Prop) (e C:Addr) (fl:Value) (h:Heap):Prop:=
 ∃ oe vs T oT ts,(¬ old e/\∀ b,old b->∃ u,h.get? b=some u)/\h.get? e=some oe/\(oe.cls=.ref C/\oe.dict=none)/\oe.data=.fields vs/\vs[2]?=some .none/\vs[1]?=some (.ref T)/\¬ old T/\T ≠ e/\h.get? T=some oT/\oT.data=.fields ts/\ts[3]?=some fl
structure Kp (old:Addr->Prop) (fs:List Addr) (h h':Heap):Prop where
 keep:∀ b o,old b->b ∉ fs->h.get? b=some o->h'.get? b=some o
 slot:∀ b o,old b->h.get? b=some o->∃ sl,h'.get? b=some { o with slots:=sl }
theorem Kp.trans {old:Addr->Prop} {fs:List Addr} {h h1 h2:Heap} (a:Kp old fs h h1) (b:Kp old fs h1 h2):Kp old fs h h2:=
 ⟨λx o q n e=>b.keep x o q n (a.keep x o q n e),λx o q e=>let ⟨_,e1⟩:=a.slot x o q e; let ⟨sl,e2⟩:=b.slot x _ q e1; ⟨sl,e2⟩⟩
section
variable {M:Model} {A:Around} {E:Value->Shared->Prop} {s:Shared}
end
end Hx
namespace Hx
open PySem PySem.Spec PySem.Calls PyProof.Rows PySem.W
section
variable {prog:Program} {w:World} {A:Around} {E:Value->Shared->Prop} {s:Shared} {K:Frag} {x D:Addr} {ox:Obj}
end
end Hx
namespace Hx
open PySem PySem.Spec PySem.Calls PyProof.Rows PySem.W L2
section
variable {X:Cx} {x:Str} {C S:Addr} {np cpos pos:Pos} {e:Expr} {es:List Expr} {t:TA}
end
section
variable {fs fs' ch:List Addr} {H H1:Hp} {h h1 h2:Heap} {old:Addr->Prop} {P:Program} {w:World} {a:Addr}
end
theorem there {P:Program} {w:World} {H:Hp} {h:Heap} {a:Addr} {o:HO} (x:ba P w H h a o):∃ u,h.get? a=some u:=by
 cases o with
 | lst xs=>obtain ⟨_,_,_,_,e⟩:=x; exact ⟨_,e⟩
 | tup xs=>obtain ⟨_,_,_,o,e,_⟩:=x; exact ⟨_,e⟩
 | dK kvs=>obtain ⟨_,_,_,_,o,_,_,e,_⟩:=x; exact ⟨_,e⟩
 | dT kvs=>obtain ⟨_,_,_,_,o,_,_,e,_⟩:=x; exact ⟨_,e⟩
 | set S n=>obtain ⟨o,_,_,_,e,_⟩:=x; exact ⟨_,e⟩
 | ins C dx fs=>obtain ⟨_,_,_,e,_⟩:=x; exact ⟨_,e⟩
 | own y=>exact x
 | xd fs=>obtain ⟨_,⟨o,_,_,e,_⟩,_⟩:=x; exact ⟨_,e⟩
 | met f y=>exact ⟨_,x⟩
 | rng lo hi=>obtain ⟨_,_,_,e⟩:=x; exact ⟨_,e⟩
 | frz o u=>exact ⟨_,x.1⟩
 | tbl ps=>exact ⟨_,x⟩
 | ext φ=>exact x.2.1
noncomputable def CXe (P:Program) (w:World) (cl:Nat->Addr):CXT:=λouter H s E e s'=>∃ a c H',∃ old:Addr->Prop,e=.ref a/\s'.os=s.os/\AllBare s'.gens/\Un (frs outer) [] H H' s.heap s'.heap/\HOk P w H' s'.heap/\Fly old a (cl c) .none s'.heap /\
 (∀ b o,s.heap.get? b=some o->old b)/\(∀ b o,H' b=some o->old b)/\E (.ref (cl c)) none H'
section
variable {P:Program} {w:World} {K:Frag} {mg:Str->Option Value} {base:Heap} {N:List Str} {qual:Str} {scope:Scope} {f:Addr} {cd:Value} {A:Around} {outer:List Env} {s0:Shared} {H0:Hp} {E:XK} {cl:Nat->Addr}
end
section
variable {X:Cx} {pins:List (Addr × Obj)} {σ:L2.St} {H:Hp} {s:Shared} {a:Addr}
noncomputable abbrev XP (X:Cx) (pins:List (Addr × Obj)) (E:Value->Shared->Prop):Cx:={ X with pn:=X.pn++pins,xe:=E }
end
noncomputable def ze (o:Obj) (C:Addr):Prop:=(o.cls=.ref C/\o.dict=none)/\∃ vs,o.data=.fields vs/\vs[2]?=some .none
noncomputable abbrev zu (o:Obj):HO:=.frz o (.ext λ_=>True)
section
variable {X:Cx} {cl:Nat->Addr} {ks:List Nat} {n sm:Str} {i:Nat} {S:Addr} {ret:Expr} {psm pr ph pos:Pos} {body:List Stmt} {tb:(Nat->Hp->Prop)->TS} {tr:Addr->Obj->TE}
end
end Hx
namespace Ev
open PySem PySem.Spec PyProof.Rows L2
structure Bx where
 p:PySem.W.Frag->Hp->Addr->Prop
 mono:∀ {K:PySem.W.Frag} {H H':Hp} {a:Addr},ah H H'->p K H a->p K H' a
 isd:∀ {K:PySem.W.Frag} {H:Hp} {a:Addr},p K H a->∃ o:HO,H a=some o/\∀ (P:Program) (w:World) (H':Hp) (h:Heap),ba P w H' h a o->∃ ob,h.get? a=some ob/\ob.cls=.type "dict"
inductive D where
 | non | bl (b:Bool) | int (i:Int) | str (x:Str) | tup (xs:List D) | lst (xs:List D) | box (x:Bx)
noncomputable instance:Inhabited D:=⟨.non⟩
mutual
inductive Den (K:PySem.W.Frag) (H:Hp):V->D->Prop where
 | non:Den K H .non .non
 | bl {b:Bool}:Den K H (.bl b) (.bl b)
 | int {i:Int}:Den K H (.int i) (.int i)
 | str {x:Str}:Den K H (.str x) (.str x)
 | tup {a:Addr} {vs:List V} {ds:List D} (h:SqT K H a vs) (r:ar K H vs ds):Den K H (.ref a) (.tup ds)
 | lst {a:Addr} {vs:List V} {ds:List D} (h:SqL K H a vs) (r:ar K H vs ds):Den K H (.ref a) (.lst ds)
 | box {a:Addr} {x:Bx} (h:x.p K H a):Den K H (.ref a) (.box x)
inductive ar (K:PySem.W.Frag) (H:Hp):List V->List D->Prop where
 | nil:ar K H [] []
 | cons {v:V} {d:D} {vs:List V} {ds:List D} (h:Den K H v d) (r:ar K H vs ds):ar K H (v :: vs) (d :: ds)
end
section
variable {K:PySem.W.Frag} {H H':Hp}
theorem aO (e:ah H H') {a:Addr} {xs:List V} (h:SqT K H a xs):SqT K H' a xs:=by
 rcases h with (h | ⟨o,h⟩) | h
 · exact .inl (.inl (e _ _ h))
 · exact .inl (.inr ⟨o,e _ _ h⟩)
 · exact .inr h
theorem aA (e:ah H H') {a:Addr} {xs:List V} (h:SqL K H a xs):SqL K H' a xs:=e.seq h
mutual
theorem Den.mono (e:ah H H'):∀ {v:V} {d:D},Den K H v d->Den K H' v d
 | _,_,.non=>.non
 | _,_,.bl=>.bl
 | _,_,.int=>.int
 | _,_,.str=>.str
 | _,_,.tup h r=>.tup (aO e h) (ar.mono e r)
 | _,_,.lst h r=>.lst (aA e h) (ar.mono e r)
 | _,_,.box (x:=x) h=>.box (x.mono e h)
theorem ar.mono (e:ah H H'):∀ {vs:List V} {ds:List D},ar K H vs ds->ar K H' vs ds
 | _,_,.nil=>.nil
 | _,_,.cons h r=>.cons (Den.mono e h) (ar.mono e r)
end
theorem ar.length:∀ {vs:List V} {ds:List D},ar K H vs ds->vs.length=ds.length
 | _,_,.nil=>rfl
 | _,_,.cons _ r=>congrArg (· + 1) r.length
theorem ar.get:∀ {vs:List V} {ds:List D} {i:Nat} {d:D},ar K H vs ds->ds[i]?=some d->∃ v,vs[i]?=some v/\Den K H v d
 | _,_,_,_,.nil,e=>by simp at e
 | _,_,0,_,.cons h _,e=>by simp at e; subst e; exact ⟨_,rfl,h⟩
 | _,_,i + 1,d,.cons _ r,e=>by
   obtain ⟨v,h1,h2⟩:=ar.get (i:=i) (d:=d) r (by simpa using e)
   exact ⟨v,by simpa using h1,h2⟩
theorem ar.append:∀ {xs ys:List V} {ds es:List D},ar K H xs ds->ar K H ys es->ar K H (xs++ys) (ds++es)
 | _,_,_,_,.nil,s=>s
 | _,_,_,_,.cons h r,s=>.cons h (ar.append r s)
theorem ar.take:∀ {xs:List V} {ds:List D} (n:Nat),ar K H xs ds->ar K H (xs.take n) (ds.take n)
 | _,_,0,_=>.nil
 | _,_,_ + 1,.nil=>.nil
 | _,_,n + 1,.cons h r=>.cons h (ar.take n r)
theorem ar.drop:∀ {xs:List V} {ds:List D} (n:Nat),ar K H xs ds->ar K H (xs.drop n) (ds.drop n)
 | _,_,0,r=>r
 | _,_,_ + 1,.nil=>.nil
 | _,_,n + 1,.cons _ r=>ar.drop n r
end
noncomputable def aU (i j:Int):Prop:=i.natAbs.log2 < 64\/j.natAbs.log2 < 64\/(i.natAbs.log2 < 1000000/\j.natAbs.log2 < 1000000)
noncomputable def aP (j:Int):Prop:=j ≠ 0/\j.natAbs.log2 < 9000
theorem aq {H:Hp} {p:Addr} (h:H p=none) (o:HO):ah H (upd H p o):=λb u q=>by rw [ao (aF q h)]; exact q
noncomputable def Ite (K:PySem.W.Frag) (a:Addr):L2.It:=
 ⟨λi H=>∃ xs x,SqL K H a xs/\xs[i]?=some x,λi H v H'=>∃ p x,H p=none/\v=.ref p/\H'=upd H p (.tup [.int (i:Nat),x])/\∀ xs,SqL K H a xs->xs[i]?=some x,λi H=>∃ xs,SqL K H a xs/\xs.length<=i⟩
theorem qT {P:Program} {w:World} {K:PySem.W.Frag} {ts:List Expr} {q:Nat} {tp:Pos} (a e it:Addr) (hne:e ≠ it) :
   Turn P w K false (.Tuple ts q tp) (Ite K a) [e,it] e (λi h=>(∃ old,IsEnum h e it (i:Nat) old)/\h.IsListIter it a i) where
 mem:=by simp
 obj:=λi h st b hb=>by
   obtain ⟨⟨old,h1⟩,o,h2,h3,h4⟩:=st
   rcases List.mem_cons.mp hb with rfl | hb
   · exact ⟨_,h1,λv z=>nomatch z⟩
   · have z:b=it:=by simpa using hb
     subst z
     exact ⟨o,h2,λv z=>by rw [h4] at z; cases z⟩
 keep:=λi h h' st k=>by
   obtain ⟨⟨old,h1⟩,o,h2,h3,h4⟩:=st
   exact ⟨⟨old,k e (by simp) _ h1⟩,o,k it (by simp) o h2,h3,h4⟩
 item:=by
   intro X hP hw hK hc i pins s σ H E I hf st hg
   subst hP hw hK
   obtain ⟨xs,x,hq,hx⟩:=hg
   obtain ⟨its,rv,p,hz⟩:=I.list hq
   obtain ⟨u,hu,ru⟩:=rv.get hx
   obtain ⟨⟨old,h1⟩,h2⟩:=st
   have fe:=hf e (by simp)
   have fi:=hf it (by simp)
   refine wpAny_pyNext_enum_item h1 h2 p.isList (x:=u) (by simpa using hu) hne λh' g1 g2 g3 g4 g5=>⟨_,rfl,?_⟩
   refine wpAny_letOwnedTupleGo_enum (s:={ s with heap:=h',toks:=s.toks + 1 }) g1 λh2' k1 k2=>?_
   have hn:H s.heap.objs.size=none:=I.hok.fresh (Nat.le_refl _)
   have le1:e < s.heap.objs.size:=Heap.lt_size h1
   have le2:it < s.heap.objs.size:=by obtain ⟨o,z,_⟩:=h2; exact Heap.lt_size z
   have kp:∀ b o,b ≠ e->b ≠ it->s.heap.get? b=some o->h2'.get? b=some o:=λb o b1 b2 z=>(k2.2 b b1).trans (g5 b o b1 b2 z)
   have nt:h2'.get? s.heap.objs.size=some { cls:=.type "tuple",data:=.seq #[.int (i:Nat) s.toks,u] }:=(k2.2 _ (Nat.ne_of_gt le1)).trans g3
   have ne1:∀ b v,H b=some v->b ≠ e:=λb v z q=>by rw [q,fe.1] at z; cases z
   have ne2:∀ b v,H b=some v->b ≠ it:=λb v z q=>by rw [q,fi.1] at z; cases z
   have hok0:HOk X.prog X.w H h2':=λb v z=>(I.hok b v z).iR (λc v' hc' q=>kp c v' (by
       rcases hc' with hc' | hc'
       · rw [hc']; exact ne1 b v z
       · exact ne1 c _ hc') (by
       rcases hc' with hc' | hc'
       · rw [hc']; exact ne2 b v z
       · exact ne2 c _ hc') q) (λ_ q=>q) λ_ _ q=>q
   have hok1:HOk X.prog X.w (upd H s.heap.objs.size (.tup [.int (i:Nat),x])) h2':=λb v z=>by
     by_cases hb:b=s.heap.objs.size
     · subst hb
       rw [aw] at z; cases z
       exact ⟨(by show 2<=sizeLine; decide),[.int (i:Nat) s.toks,u],.cons ⟨_,rfl⟩ (.cons ru .nil),_,nt,rfl,_,rfl⟩
     · rw [ao hb] at z
       exact (hok0 b v z).iR (λc v' _ q=>q) (λc q=>by rw [ao (aF q hn)]; exact q) λc ys q=>by rw [ao (aF q hn)]; exact q
   have I1:Inv X pins σ (upd H s.heap.objs.size (.tup [.int (i:Nat),x])) { s with heap:=h2',toks:=s.toks + 1 }:=by
     refine I.step (g':=s.gens) (d':=s.drawn) (ch:=[e,it]) (λb hb=>?_) (λb o _ _ hc' z _=>kp b o (λq=>hc' (by simp [q])) (λq=>hc' (by simp [q])) z)
       (λb o _ _ hc' z _=>⟨o.slots,kp b o (λq=>hc' (by simp [q])) (λq=>hc' (by simp [q])) z⟩)
       (λb o hc' z n=>by rw [ao (Nat.ne_of_lt (Heap.lt_size z))]; exact n) (λb o hc' z=>⟨o,kp b o (λq=>hc' (by simp [q])) (λq=>hc' (by simp [q])) z⟩)
       (λb ys z=>by rw [ao (aF z hn)]; exact z) (λb o u z=>by rw [ao (aF z hn)]; exact z) (λb ps z=>⟨#[],by rw [ao (aF z hn),z]; simp⟩) (λm hm=>?_) hok1 I.bare
     · rcases List.mem_cons.mp hb with rfl | hb
       · exact ⟨fe.2.2.2.1,fe.2.1,fe.2.2.2.2.1,fe.2.2.2.2.2⟩
       · have z:b=it:=by simpa using hb
         subst z
         exact ⟨fi.2.2.2.1,fi.2.1,fi.2.2.2.2.1,fi.2.2.2.2.2⟩
     · obtain ⟨o,es,ep,ho,r⟩:=hm
       exact ⟨o,es,ep,kp _ o (Ne.symm fe.2.1) (Ne.symm fi.2.1) ho,r⟩
   refine ⟨.ref s.heap.objs.size,_,I1,rfl,⟨s.heap.objs.size,x,hn,rfl,rfl,λys hy=>by rw [I.cP hy hq]; exact hx⟩,⟨⟨_,k1⟩,?_⟩,λb hb=>?_⟩
   · obtain ⟨o,z1,z2,z3⟩:=g2
     exact ⟨o,(k2.2 it (Ne.symm hne)).trans z1,z2,z3⟩
   · rcases List.mem_cons.mp hb with rfl | hb
     · rw [ao (Nat.ne_of_lt le1)]; exact fe.1
     · have z:b=it:=by simpa using hb
       subst z
       rw [ao (Nat.ne_of_lt le2)]; exact fi.1
 done:=by
   intro X hP hw hK hc i pins s σ H E I hf st hg
   subst hP hw hK
   obtain ⟨xs,hq,hx⟩:=hg
   obtain ⟨its,rv,p,hz⟩:=I.list hq
   obtain ⟨⟨old,h1⟩,h2⟩:=st
   obtain ⟨f0,f1,f2,f3,f4,f5⟩:=hf it (by simp)
   have hl:=rv.length
   exact wpAny_pyNext_enum_end (I.ok.hd hc.calm) h1 h2 p.isList (by simp; omega) λh' eb=>⟨rfl,I.turned (t':=s.toks) (λb o hb z=>eb b o hb z) f0 f1 f3 f4 f5⟩
 self:=λ_ _ _ _ _ st h=>by
   obtain ⟨⟨old,h1⟩,_⟩:=st
   exact wpAny_pyIter_enum h1 h
section
variable {X:Cx}
noncomputable def yz (K:PySem.W.Frag) (ta:TA):TI:=λσ H R=>ta σ H λvs H1=>∃ a,vs=[.ref a]/\(∃ xs,SqL K H1 a xs)/\R (Ite K a) H1
theorem qP:bootBuiltins "enumerate" = some (.type "enumerate"):=by decide +kernel
theorem p8 {ts:List Expr} {q:Nat} {tp:Pos} {a:Expr} {ta:TA} {p pos:Pos} (hc:X.calm=true) (hg:Gl X "enumerate") (hm:X.mg "enumerate" = none) (ha:PA X [a] ta) (hs:starEach [a] X.env=[(false,eval a X.env)]) :
   PI X (.Tuple ts q tp) (.Call (.Name "enumerate" p) [a] [] pos) (yz X.K ta):=by
 intro pins s σ H R I h
 refine Call_ (cH I hg hm qP (PyProof.Rows.callWith_type1 (thn (ha pos pins s σ H _ I h) λus s1 ⟨vs,H1,I1,r1,q1⟩=>?_) hs rfl))
 obtain ⟨l,e,⟨xs,hq⟩,q⟩:=q1
 subst e
 obtain ⟨u,rfl,ru⟩:=vals1 r1
 cases ru
 obtain ⟨its,rv,pl,hz⟩:=I1.list hq
 refine call_enumerate_list pl.isList λh' g1 g2 g3 g4=>?_
 refine wpAny_pyIter_enum (s:={ s1 with heap:=h' }) g1 ?_
 have I2:Inv X pins σ H1 { s1 with heap:=h' }:=I1.kept (t':=s1.toks) g4
 have n1:H1 (s1.heap.objs.size + 1)=none:=I1.hok.fresh (by omega)
 have n2:H1 s1.heap.objs.size=none:=I1.hok.fresh (Nat.le_refl _)
 refine ⟨false,s1.heap.objs.size + 1,[s1.heap.objs.size + 1,s1.heap.objs.size],_,_,H1,rfl,I2,.inl hc,qT l (s1.heap.objs.size + 1) s1.heap.objs.size (Nat.succ_ne_self _),⟨⟨_,g1⟩,g2⟩,λb hb=>?_,q⟩
 rcases List.mem_cons.mp hb with rfl | hb
 · exact I1.nB (by omega) n1
 · have z:b=s1.heap.objs.size:=by simpa using hb
   subst z
   exact I1.nB (Nat.le_refl _) n2
end
noncomputable def Itz (K:PySem.W.Frag) (a b:Addr):L2.It:=
 ⟨λi H=>∃ xs ys x y,SqL K H a xs/\SqL K H b ys/\xs[i]?=some x/\ys[i]?=some y,
  λi H v H'=>∃ p x y,H p=none/\v=.ref p/\H'=upd H p (.tup [x,y])/\(∀ xs,SqL K H a xs->xs[i]?=some x)/\∀ ys,SqL K H b ys->ys[i]?=some y,
  λi H=>∃ xs ys,SqL K H a xs/\SqL K H b ys/\(xs.length<=i\/ys.length<=i)⟩
noncomputable def zSt (a b z TI TO i1 i2:Addr) (i:Nat) (h:Heap):Prop:=
 IsZip h z TI TO .none/\IsPair h TI (.ref i1) (.ref i2)/\(∃ u v,IsPair h TO u v)/\h.IsListIter i1 a i/\h.IsListIter i2 b i
theorem jw {h:Heap} {a b z TI TO i1 i2:Addr} {i:Nat} {xs ys:Array Value} (n:TI ≠ TO) (m:i1 ≠ i2) (s:zSt a b z TI TO i1 i2 i h) (l1:h.IsList a xs) (l2:h.IsList b ys):ZipApart z TI TO i1 i2 a b:=by
 obtain ⟨h1,h2,⟨u,v,h3⟩,⟨o4,h4,c4,d4⟩,⟨o5,h5,c5,d5⟩⟩:=s
 obtain ⟨o6,h6,c6,n6,d6⟩:=l1
 obtain ⟨o7,h7,c7,n7,d7⟩:=l2
 have kk:∀ {x y:Addr} {o p:Obj},h.get? x=some o->h.get? y=some p->o.cls ≠ p.cls->x ≠ y:=λe1 e2 c q=>by subst q; rw [e1] at e2; cases e2; exact c rfl
 have cz:∀ {s t:String},s ≠ t->Value.type s ≠ Value.type t:=λn q=>n (by cases q; rfl)
 refine ⟨kk h2 h1 (cz (by decide)),kk h3 h1 (cz (by decide)),kk h4 h1 ?_,kk h5 h1 ?_,n,kk h2 h4 ?_,kk h2 h5 ?_,kk h3 h4 ?_,kk h3 h5 ?_,m,kk h6 h1 ?_,kk h6 h3 ?_,kk h6 h4 ?_,kk h6 h5 ?_,kk h7 h1 ?_,kk h7 h3 ?_,kk h7 h4 ?_,kk h7 h5 ?_⟩
 all_goals first | (rw [c4]; exact cz (by decide)) | (rw [c5]; exact cz (by decide)) | (rw [c6]; exact cz (by decide)) | (rw [c7]; exact cz (by decide)) | (rw [c6,c4]; exact cz (by decide)) | (rw [c6,c5]; exact cz (by decide)) | (rw [c7,c4]; exact cz (by decide)) | (rw [c7,c5]; exact cz (by decide))
theorem sY {P:Program} {w:World} {K:PySem.W.Frag} {ts:List Expr} {q:Nat} {tp:Pos} (a b z TI TO i1 i2:Addr) (nT:TI ≠ TO) (nI:i1 ≠ i2) :
   Turn P w K false (.Tuple ts q tp) (Itz K a b) [z,TI,TO,i1,i2] z (zSt a b z TI TO i1 i2) where
 mem:=by simp
 obj:=λi h st c hb=>by
   obtain ⟨h1,h2,⟨u,v,h3⟩,⟨o4,h4,c4,d4⟩,⟨o5,h5,c5,d5⟩⟩:=st
   simp only [List.mem_cons,List.not_mem_nil,or_false] at hb
   rcases hb with rfl | rfl | rfl | rfl | rfl
   · exact ⟨_,h1,λv z=>nomatch z⟩
   · exact ⟨_,h2,λv z=>nomatch z⟩
   · exact ⟨_,h3,λv z=>nomatch z⟩
   · exact ⟨_,h4,λv z=>by rw [d4] at z; cases z⟩
   · exact ⟨_,h5,λv z=>by rw [d5] at z; cases z⟩
 keep:=λi h h' st k=>by
   obtain ⟨h1,h2,⟨u,v,h3⟩,⟨o4,h4,c4,d4⟩,⟨o5,h5,c5,d5⟩⟩:=st
   exact ⟨k z (by simp) _ h1,k TI (by simp) _ h2,⟨u,v,k TO (by simp) _ h3⟩,⟨o4,k i1 (by simp) _ h4,c4,d4⟩,⟨o5,k i2 (by simp) _ h5,c5,d5⟩⟩
 item:=by
   intro X hP hw hK hc i pins s σ H E I hf st hg
   subst hP hw hK
   obtain ⟨xs,ys,x,y,hq1,hq2,hx,hy⟩:=hg
   obtain ⟨its1,rv1,p1,hz1⟩:=I.list hq1
   obtain ⟨its2,rv2,p2,hz2⟩:=I.list hq2
   obtain ⟨u1,hu1,ru1⟩:=rv1.get hx
   obtain ⟨u2,hu2,ru2⟩:=rv2.get hy
   have D:=jw nT nI st p1.isList p2.isList
   obtain ⟨h1,h2,⟨u,v,h3⟩,h4,h5⟩:=st
   refine wpAny_pyNext_zip_item D h1 h2 h3 h4 h5 p1.isList p2.isList (x:=u1) (y:=u2) (by simpa using hu1) (by simpa using hu2) λh' g1 g2 g3 g4 g5 g6 g7=>⟨_,rfl,?_⟩
   refine wpAny_letOwnedTupleGo_zip (s:={ s with heap:=h' }) g1 λh2' k1 k2=>?_
   have hn:H s.heap.objs.size=none:=I.hok.fresh (Nat.le_refl _)
   have le1:z < s.heap.objs.size:=Heap.lt_size h1
   have lt2:TI < s.heap.objs.size:=Heap.lt_size h2
   have lt3:TO < s.heap.objs.size:=Heap.lt_size h3
   have lt4:i1 < s.heap.objs.size:=by obtain ⟨o,z,_⟩:=h4; exact Heap.lt_size z
   have lt5:i2 < s.heap.objs.size:=by obtain ⟨o,z,_⟩:=h5; exact Heap.lt_size z
   have kp:∀ c o,c ≠ z->c ≠ TO->c ≠ i1->c ≠ i2->s.heap.get? c=some o->h2'.get? c=some o:=λc o b1 b2 b3 b4 e=>(k2.2 c b1).trans (g7 c o b1 b2 b3 b4 e)
   have nt:IsPair h2' s.heap.objs.size u1 u2:=(k2.2 _ (Nat.ne_of_gt le1)).trans g5
   have ne:∀ c,c ∈ [z,TI,TO,i1,i2]->∀ d v,H d=some v->d ≠ c:=λc hc d v e q=>by
     have:=(hf c hc).1
     rw [q,this] at e; cases e
   have hok0:HOk X.prog X.w H h2':=λd v e=>(I.hok d v e).iR (λc v' hc' q=>kp c v'
       (by rcases hc' with hc' | hc'
           · rw [hc']; exact ne z (by simp) d v e
           · exact ne z (by simp) c _ hc')
       (by rcases hc' with hc' | hc'
           · rw [hc']; exact ne TO (by simp) d v e
           · exact ne TO (by simp) c _ hc')
       (by rcases hc' with hc' | hc'
           · rw [hc']; exact ne i1 (by simp) d v e
           · exact ne i1 (by simp) c _ hc')
       (by rcases hc' with hc' | hc'
           · rw [hc']; exact ne i2 (by simp) d v e
           · exact ne i2 (by simp) c _ hc') q) (λ_ q=>q) λ_ _ q=>q
   have hok1:HOk X.prog X.w (upd H s.heap.objs.size (.tup [x,y])) h2':=λd v e=>by
     by_cases hb:d=s.heap.objs.size
     · subst hb
       rw [aw] at e; cases e
       exact ⟨(by show 2<=sizeLine; decide),[u1,u2],.cons ru1 (.cons ru2 .nil),_,nt,rfl,_,rfl⟩
     · rw [ao hb] at e
       exact (hok0 d v e).iR (λc v' _ q=>q) (λc q=>by rw [ao (aF q hn)]; exact q) λc ys q=>by rw [ao (aF q hn)]; exact q
   have I1:Inv X pins σ (upd H s.heap.objs.size (.tup [x,y])) { s with heap:=h2' }:=by
     refine I.step (t':=s.toks) (g':=s.gens) (d':=s.drawn) (ch:=[z,TO,i1,i2]) (λc hb=>?_) (λc o _ _ hc' e _=>kp c o (λq=>hc' (by simp [q])) (λq=>hc' (by simp [q])) (λq=>hc' (by simp [q])) (λq=>hc' (by simp [q])) e)
       (λc o _ _ hc' e _=>⟨o.slots,kp c o (λq=>hc' (by simp [q])) (λq=>hc' (by simp [q])) (λq=>hc' (by simp [q])) (λq=>hc' (by simp [q])) e⟩)
       (λc o hc' e n=>by rw [ao (Nat.ne_of_lt (Heap.lt_size e))]; exact n) (λc o hc' e=>⟨o,kp c o (λq=>hc' (by simp [q])) (λq=>hc' (by simp [q])) (λq=>hc' (by simp [q])) (λq=>hc' (by simp [q])) e⟩)
       (λc ys e=>by rw [ao (aF e hn)]; exact e) (λc o u e=>by rw [ao (aF e hn)]; exact e) (λc ps e=>⟨#[],by rw [ao (aF e hn),e]; simp⟩) (λm hm=>?_) hok1 I.bare
     · have hb':c ∈ [z,TI,TO,i1,i2]:=by
         simp only [List.mem_cons,List.not_mem_nil,or_false] at hb ⊢
         rcases hb with h | h | h | h <;> simp [h]
       have fe:=hf c hb'
       exact ⟨fe.2.2.2.1,fe.2.1,fe.2.2.2.2.1,fe.2.2.2.2.2⟩
     · obtain ⟨o,es,ep,ho,r⟩:=hm
       exact ⟨o,es,ep,kp _ o (Ne.symm (hf z (by simp)).2.1) (Ne.symm (hf TO (by simp)).2.1) (Ne.symm (hf i1 (by simp)).2.1) (Ne.symm (hf i2 (by simp)).2.1) ho,r⟩
   refine ⟨.ref s.heap.objs.size,_,I1,rfl,⟨s.heap.objs.size,x,y,hn,rfl,rfl,λzs hy'=>by rw [I.cP hy' hq1]; exact hx,λzs hy'=>by rw [I.cP hy' hq2]; exact hy⟩,⟨k1,?_,⟨u1,u2,(k2.2 TO D.TOz).trans g2⟩,?_,?_⟩,λc hb=>?_⟩
   · exact kp TI _ D.TIz D.TITO D.TIi1 D.TIi2 h2
   · obtain ⟨o,z1,z2,z3⟩:=g3
     exact ⟨o,(k2.2 i1 D.i1z).trans z1,z2,z3⟩
   · obtain ⟨o,z1,z2,z3⟩:=g4
     exact ⟨o,(k2.2 i2 D.i2z).trans z1,z2,z3⟩
   · have fc:=(hf c hb).1
     have lt:c < s.heap.objs.size:=by
       simp only [List.mem_cons,List.not_mem_nil,or_false] at hb
       rcases hb with rfl | rfl | rfl | rfl | rfl <;> assumption
     rw [ao (Nat.ne_of_lt lt)]
     exact fc
 done:=by
   intro X hP hw hK hc i pins s σ H E I hf st hg
   subst hP hw hK
   obtain ⟨xs,ys,hq1,hq2,hx⟩:=hg
   obtain ⟨its1,rv1,p1,hz1⟩:=I.list hq1
   obtain ⟨its2,rv2,p2,hz2⟩:=I.list hq2
   have D:=jw nT nI st p1.isList p2.isList
   obtain ⟨h1,h2,⟨u,v,h3⟩,h4,h5⟩:=st
   have hl1:=rv1.length
   have hl2:=rv2.length
   refine wpAny_pyNext_zip_end (I.ok.hd hc.calm) D h1 h2 h3 h4 h5 p1.isList p2.isList (by
     rcases hx with hx | hx
     · left; simp; omega
     · right; simp; omega) λh' eb=>⟨rfl,?_⟩
   have ne:∀ c,c ∈ [z,TI,TO,i1,i2]->∀ d v,H d=some v->d ≠ c:=λc hc d v e q=>by
     have:=(hf c hc).1
     rw [q,this] at e; cases e
   have hok0:HOk X.prog X.w H h':=λd v e=>(I.hok d v e).iR (λc v' hc' q=>eb c v'
       (by rcases hc' with hc' | hc'
           · rw [hc']; exact ne z (by simp) d v e
           · exact ne z (by simp) c _ hc')
       (by rcases hc' with hc' | hc'
           · rw [hc']; exact ne TO (by simp) d v e
           · exact ne TO (by simp) c _ hc')
       (by rcases hc' with hc' | hc'
           · rw [hc']; exact ne i1 (by simp) d v e
           · exact ne i1 (by simp) c _ hc')
       (by rcases hc' with hc' | hc'
           · rw [hc']; exact ne i2 (by simp) d v e
           · exact ne i2 (by simp) c _ hc') q) (λ_ q=>q) λ_ _ q=>q
   refine I.step (t':=s.toks) (g':=s.gens) (d':=s.drawn) (ch:=[z,TO,i1,i2]) (λc hb=>?_) (λc o _ _ hc' e _=>eb c o (λq=>hc' (by simp [q])) (λq=>hc' (by simp [q])) (λq=>hc' (by simp [q])) (λq=>hc' (by simp [q])) e)
       (λc o _ _ hc' e _=>⟨o.slots,eb c o (λq=>hc' (by simp [q])) (λq=>hc' (by simp [q])) (λq=>hc' (by simp [q])) (λq=>hc' (by simp [q])) e⟩)
       (λc o hc' e n=>n) (λc o hc' e=>⟨o,eb c o (λq=>hc' (by simp [q])) (λq=>hc' (by simp [q])) (λq=>hc' (by simp [q])) (λq=>hc' (by simp [q])) e⟩)
       (λc ys e=>e) (λc o u e=>e) (λc ps e=>⟨#[],by rw [e]; simp⟩) (λm hm=>?_) hok0 I.bare
   · have hb':c ∈ [z,TI,TO,i1,i2]:=by
       simp only [List.mem_cons,List.not_mem_nil,or_false] at hb ⊢
       rcases hb with h | h | h | h <;> simp [h]
     have fe:=hf c hb'
     exact ⟨fe.2.2.2.1,fe.2.1,fe.2.2.2.2.1,fe.2.2.2.2.2⟩
   · obtain ⟨o,es,ep,ho,r⟩:=hm
     exact ⟨o,es,ep,eb _ o (Ne.symm (hf z (by simp)).2.1) (Ne.symm (hf TO (by simp)).2.1) (Ne.symm (hf i1 (by simp)).2.1) (Ne.symm (hf i2 (by simp)).2.1) ho,r⟩
 self:=λ_ _ _ _ _ st h=>wpAny_pyIter_zip st.1 h
section
variable {X:Cx}
noncomputable def xo (K:PySem.W.Frag) (ta:TA):TI:=λσ H R=>ta σ H λvs H1=>∃ a b,vs=[.ref a,.ref b]/\(∃ xs,SqL K H1 a xs)/\(∃ ys,SqL K H1 b ys)/\R (Itz K a b) H1
theorem nV {ts:List Expr} {q:Nat} {tp:Pos} {a b:Expr} {ta:TA} {p pos:Pos} (hc:X.calm=true) (hg:Gl X "zip") (hm:X.mg "zip" = none) (ha:PA X [a,b] ta) (hs:starEach [a,b] X.env=(false,eval a X.env) :: starEach [b] X.env) (hs2:starEach [b] X.env=[(false,eval b X.env)]) :
   PI X (.Tuple ts q tp) (.Call (.Name "zip" p) [a,b] [] pos) (xo X.K ta):=by
 intro pins s σ H R I h
 refine Call_ (cH I hg hm boot_zip (PyProof.Rows.callWith_type1 (thn (ha pos pins s σ H _ I h) λus s1 ⟨vs,H1,I1,r1,q1⟩=>?_) hs (by rw [hs2]; rfl)))
 obtain ⟨l,l',e,⟨xs,hq1⟩,⟨ys,hq2⟩,q⟩:=q1
 subst e
 obtain ⟨u,u',rfl,ru,ru'⟩:=vals2 r1
 cases ru
 cases ru'
 obtain ⟨its1,rv1,pl1,hz1⟩:=I1.list hq1
 obtain ⟨its2,rv2,pl2,hz2⟩:=I1.list hq2
 refine call_zip_2 pl1.isList pl2.isList λh' g1 g2 g3 g4 g5 g6 g7=>?_
 refine wpAny_pyIter_zip (s:={ s1 with heap:=h' }) g1 ?_
 have I2:Inv X pins σ H1 { s1 with heap:=h' }:=I1.kept (t':=s1.toks) g7
 have nn:∀ j,H1 (s1.heap.objs.size + j)=none:=λj=>I1.hok.fresh (by omega)
 refine ⟨false,s1.heap.objs.size + 4,[s1.heap.objs.size + 4,s1.heap.objs.size + 2,s1.heap.objs.size + 3,s1.heap.objs.size,s1.heap.objs.size + 1],_,_,H1,rfl,I2,.inl hc,sY l l' (s1.heap.objs.size + 4) (s1.heap.objs.size + 2) (s1.heap.objs.size + 3) s1.heap.objs.size (s1.heap.objs.size + 1) (by simp) (Ne.symm (Nat.succ_ne_self _)),⟨g1,g2,⟨_,_,g3⟩,g4,g5⟩,λc hb=>?_,q⟩
 have hb':∃ j,c=s1.heap.objs.size + j:=by
   simp only [List.mem_cons,List.not_mem_nil,or_false] at hb
   rcases hb with h | h | h | h | h
   · exact ⟨_,h⟩
   · exact ⟨_,h⟩
   · exact ⟨_,h⟩
   · exact ⟨0,h⟩
   · exact ⟨_,h⟩
 obtain ⟨j,rfl⟩:=hb'
 exact I1.nB (Nat.le_add_right _ _) (nn j)
end
noncomputable def Itv (K:PySem.W.Frag) (a:Addr) (n:Nat):L2.It:=
 ⟨λi H=>i < n/\∃ xs x,SqL K H a xs/\xs[n - 1 - i]?=some x,λi H x H'=>H'=H/\∀ xs,SqL K H a xs->xs[n - 1 - i]?=some x,λi _=>n<=i⟩
theorem rS {P:Program} {w:World} {K:PySem.W.Frag} {tg:Expr} (a it:Addr) (n:Nat) :
   Turn P w K false tg (Itv K a n) [it] it (λi h=>i<=n/\h.IsRevIter it a ((n:Int) - 1 - (i:Int))) where
 mem:=by simp
 obj:=λi h st b hb=>by
   have e:b=it:=by simpa using hb
   subst e
   obtain ⟨o,e,c,d⟩:=st.2
   exact ⟨o,e,λv z=>by rw [d] at z; cases z⟩
 keep:=λi h h' st k=>⟨st.1,st.2.at λo e=>k it (by simp) o e⟩
 item:=by
   intro X hP hw hK hc i pins s σ H E I hf st hg
   subst hP hw hK
   obtain ⟨hi,xs,x,hq,hx⟩:=hg
   obtain ⟨its,rv,p,hz⟩:=I.list hq
   obtain ⟨u,hu,ru⟩:=rv.get hx
   obtain ⟨f0,f1,f2,f3,f4,f5⟩:=hf it (by simp)
   have st2:=st.2
   rw [show (n:Int) - 1 - (i:Int)=((n - 1 - i:Nat):Int) by omega] at st2
   refine wpAny_pyNext_rev_item st2 p.isList (x:=u) (by simpa using hu) λh' st' sb=>?_
   have I1:Inv X pins σ H { s with heap:=h' }:=I.turned (t':=s.toks) (λb o hb e=>(sb.2 b hb).trans e) f0 f1 f3 f4 f5
   obtain ⟨o,e,c,d⟩:=id st'
   refine ⟨u,rfl,p6 (s:={ s with heap:=h' }) e c d (by decide) ⟨x,H,I1,ru,⟨rfl,λys hy=>by rw [I.cP hy hq]; exact hx⟩,⟨hi,?_⟩,λb hb=>(hf b hb).1⟩⟩
   rw [show (n:Int) - 1 - ((i + 1:Nat):Int)=((n - 1 - i:Nat):Int) - 1 by omega]
   exact st'
 done:=by
   intro X hP hw hK hc i pins s σ H E I hf st hg
   subst hP hw hK
   obtain ⟨f0,f1,f2,f3,f4,f5⟩:=hf it (by simp)
   have st2:=st.2
   have hg:n<=i:=hg
   rw [show (n:Int) - 1 - (i:Int)=-1 by have:=st.1; omega] at st2
   exact wpAny_pyNext_rev_end (I.ok.hd hc.calm) st2 λh' eb=>⟨rfl,I.turned (t':=s.toks) (λb o hb e=>eb b o hb e) f0 f1 f3 f4 f5⟩
 self:=λ_ _ _ _ _ st h=>wpAny_pyIter_revIter st.2 h
section
variable {X:Cx} {tg:Expr}
noncomputable def v7 (K:PySem.W.Frag) (ta:TA):TI:=λσ H R=>ta σ H λvs H1=>∃ a xs,vs=[.ref a]/\SqL K H1 a xs/\R (Itv K a xs.length) H1
theorem tG:bootBuiltins "reversed" = some (.type "reversed"):=by decide +kernel
theorem m5 {a:Expr} {ta:TA} {p pos:Pos} (hc:X.calm=true) (hg:Gl X "reversed") (hm:X.mg "reversed" = none) (ha:PA X [a] ta) (hs:starEach [a] X.env=[(false,eval a X.env)]):PI X tg (.Call (.Name "reversed" p) [a] [] pos) (v7 X.K ta):=by
 intro pins s σ H R I h
 refine Call_ (cH I hg hm tG (PyProof.Rows.callWith_type1 (thn (ha pos pins s σ H _ I h) λus s1 ⟨vs,H1,I1,r1,q1⟩=>?_) hs rfl))
 obtain ⟨l,xs,e,hq,q⟩:=q1
 subst e
 obtain ⟨u,rfl,ru⟩:=vals1 r1
 cases ru
 obtain ⟨its,rv,pl,hz⟩:=I1.list hq
 have hl:=rv.length
 refine call_reversed_list pl.isList ?_
 have st:({ s1 with heap:=s1.heap.push (revObj l ((its.toArray.size:Int) - 1)) }:Shared).heap.IsRevIter s1.heap.objs.size l ((its.toArray.size:Int) - 1):=⟨_,Heap.get?_push_size _ rfl,rfl,rfl⟩
 refine wpAny_pyIter_revIter st ?_
 refine ⟨false,s1.heap.objs.size,[s1.heap.objs.size],_,_,H1,rfl,I1.kept (t':=s1.toks) (λb o e=>Heap.get?_push_of_some _ e),.inl hc,rS l _ xs.length,⟨Nat.zero_le _,?_⟩,λb hb=>?_,q⟩
 · rw [show (xs.length:Int) - 1 - ((0:Nat):Int)=(its.toArray.size:Int) - 1 by rw [List.size_toArray,<- hl]; omega]
   exact st
 · have e:b=s1.heap.objs.size:=by simpa using hb
   subst e
   exact I1.nB (Nat.le_refl _) (I1.hok.fresh (Nat.le_refl _))
end
theorem sU:∀ (names:List (Str × NameKind)) (n:Nat) (acc:List (Str × Addr)) (x:Str) (c:Addr),(cellsFrom n names acc).lookup x=some c->n<=c\/acc.lookup x=some c
 | [],_,_,_,_,h=>.inr h
 | (y,k) :: r,n,acc,x,c,h=>by
   unfold cellsFrom at h
   split at h
   · rcases sU r (n + 1) _ x c h with q | q
     · exact .inl (by omega)
     · rw [List.lookup_cons] at q
       split at q
       · cases q; exact .inl (Nat.le_refl _)
       · exact .inr q
   · exact sU r n acc x c h
theorem iz:∀ (names:List (Str × NameKind)) (n:Nat) (acc:List (Str × Addr)) (x:Str),(x,NameKind.cell) ∉ names->(cellsFrom n names acc).lookup x=acc.lookup x
 | [],_,_,_,_=>rfl
 | (y,k) :: r,n,acc,x,h=>by
   have h1:(x,NameKind.cell) ∉ r:=λz=>h (List.mem_cons_of_mem _ z)
   unfold cellsFrom
   split
   · rename_i hk
     rw [iz r _ _ x h1,List.lookup_cons]
     have:(x == y)=false:=by
       rw [beq_eq_false_iff_ne]
       rintro rfl
       exact h (by rw [eq_of_beq hk]; exact List.mem_cons_self)
     rw [this]
   · exact iz r n acc x h1
theorem j3:∀ (names:List (Str × NameKind)) (n:Nat) (acc:List (Str × Addr)) (x:Str),(x,NameKind.cell) ∈ names->∃ c,(cellsFrom n names acc).lookup x=some c/\n<=c
 | (y,k) :: r,n,acc,x,h=>by
   unfold cellsFrom
   by_cases hr:(x,NameKind.cell) ∈ r
   · split
     · obtain ⟨c,e,l⟩:=j3 r (n + 1) ((y,n) :: acc) x hr
       exact ⟨c,e,by omega⟩
     · exact j3 r n acc x hr
   · rcases List.mem_cons.mp h with q | q
     · cases q
       rw [if_pos (by rfl),iz r _ _ _ hr]
       exact ⟨n,by simp [List.lookup_cons],Nat.le_refl _⟩
     · exact absurd q hr
theorem ny:∀ (names:List (Str × NameKind)) (n:Nat) (acc:List (Str × Addr)),(∀ x c,acc.lookup x=some c->c < n)->(∀ x y c,acc.lookup x=some c->acc.lookup y=some c->x=y) ->
   ∀ x y c,(cellsFrom n names acc).lookup x=some c->(cellsFrom n names acc).lookup y=some c->x=y
 | [],_,_,_,h=>h
 | (z,k) :: r,n,acc,hl,h=>by
   unfold cellsFrom
   split
   · refine ny r (n + 1) _ (λx c e=>?_) (λx y c e1 e2=>?_)
     · rw [List.lookup_cons] at e
       split at e
       · cases e; exact Nat.lt_succ_self _
       · exact Nat.lt_succ_of_lt (hl x c e)
     · rw [List.lookup_cons] at e1 e2
       split at e1
       · rename_i q1
         cases e1
         split at e2
         · rename_i q2
           exact (eq_of_beq q1).trans (eq_of_beq q2).symm
         · exact absurd (hl y _ e2) (Nat.lt_irrefl _)
       · split at e2
         · cases e2
           exact absurd (hl x _ e1) (Nat.lt_irrefl _)
         · exact h x y c e1 e2
   · exact ny r n acc hl h
theorem ka:∀ (names:List (Str × NameKind)) (h:Heap) (acc:List (Str × Addr)),(∀ x c,acc.lookup x=some c->∃ v,h.IsCell c v)->∀ x c,(cellsFrom h.objs.size names acc).lookup x=some c->∃ v,(pushCells h names).IsCell c v
 | [],_,_,ha,x,c,e=>ha x c e
 | (z,k) :: r,h,acc,ha,x,c,e=>by
   unfold cellsFrom at e
   unfold pushCells
   split at e
   · rename_i hk
     rw [if_pos hk]
     refine ka r _ ((z,h.objs.size) :: acc) (λy d q=>?_) x c (by rw [Heap.size_push]; exact e)
     rw [List.lookup_cons] at q
     split at q
     · cases q
       exact ⟨none,_,Heap.get?_push_size _ rfl,rfl⟩
     · obtain ⟨v,o,ho,hd⟩:=ha y d q
       exact ⟨v,o,Heap.get?_push_of_some _ ho,hd⟩
   · rename_i hk
     rw [if_neg hk]
     exact ka r h acc ha x c e
noncomputable def bQ (env:PySem.Env):List (Str × NameKind)->List (Str × Addr)->List (Str × Addr)
 | [],acc=>acc
 | (n,k) :: r,acc=>if k == .free then (match env.cells.lookup n with | some c=>bQ env r ((n,c) :: acc) | none=>bQ env r acc) else bQ env r acc
theorem iE (env:PySem.Env):∀ (names:List (Str × NameKind)) (acc:List (Str × Addr)),(∀ x ∈ names,x.2=.free->∃ c,env.cells.lookup x.1=some c) ->
   (forIn (m:=Sem) names acc λx cs=>do
     let (name,kind):=x
     if kind == .free then do
       let c <- cellOf env name
       pure (ForInStep.yield ((name,c) :: cs))
     else pure (ForInStep.yield cs))=pure (bQ env names acc)
 | [],acc,_=>rfl
 | (n,k) :: r,acc,h=>by
   rw [List.forIn_cons]
   unfold bQ
   by_cases hk:(k == .free)=true
   · obtain ⟨c,hc⟩:=h (n,k) List.mem_cons_self (eq_of_beq hk)
     simp only [hk,if_true,cellOf,hc,pure_bind]
     exact iE env r _ λx hx=>h x (List.mem_cons_of_mem _ hx)
   · simp only [hk,Bool.false_eq_true,if_false,pure_bind]
     exact iE env r _ λx hx=>h x (List.mem_cons_of_mem _ hx)
theorem vc {env:PySem.Env} {scope:Scope} (h:∀ x ∈ scope.names,x.2=.free->∃ c,env.cells.lookup x.1=some c):closureFor scope env=pure (bQ env scope.names []):=by
 unfold closureFor
 have:=iE env scope.names [] h
 simp only [bind_pure]
 exact this
theorem dj (env:PySem.Env):∀ (names:List (Str × NameKind)) (acc:List (Str × Addr)) (x:Str) (c:Addr),(∀ y d,acc.lookup y=some d->env.cells.lookup y=some d)->(bQ env names acc).lookup x=some c->env.cells.lookup x=some c
 | [],_,x,c,ha,h=>ha x c h
 | (n,k) :: r,acc,x,c,ha,h=>by
   unfold bQ at h
   split at h
   · split at h
     · rename_i c' hc
       refine dj env r _ x c (λy d q=>?_) h
       rw [List.lookup_cons] at q
       split at q
       · rename_i qq
         cases q
         rw [eq_of_beq qq]; exact hc
       · exact ha y d q
     · exact dj env r acc x c ha h
   · exact dj env r acc x c ha h
theorem b8 (env:PySem.Env):∀ (names:List (Str × NameKind)) (acc:List (Str × Addr)) (x:Str) (c:Addr),(∀ y d,acc.lookup y=some d->env.cells.lookup y=some d)->env.cells.lookup x=some c->((x,NameKind.free) ∈ names\/acc.lookup x=some c)->(bQ env names acc).lookup x=some c
 | [],_,x,c,_,_,h=>h.elim (λz=>absurd z (by simp)) id
 | (n,k) :: r,acc,x,c,ha,hc,h=>by
   unfold bQ
   split
   · split
     · rename_i c' hc'
       refine b8 env r _ x c (λy d q=>?_) hc ?_
       · rw [List.lookup_cons] at q
         split at q
         · rename_i qq
           cases q
           rw [eq_of_beq qq]; exact hc'
         · exact ha y d q
       · by_cases q:x=n
         · subst q
           rw [hc] at hc'; cases hc'
           exact .inr (by simp [List.lookup_cons])
         · rcases h with h | h
           · rcases List.mem_cons.mp h with z | z
             · cases z; exact absurd rfl q
             · exact .inl z
           · refine .inr ?_
             rw [List.lookup_cons,beq_eq_false_iff_ne.mpr q]
             exact h
     · rename_i hc'
       refine b8 env r acc x c ha hc ?_
       rcases h with h | h
       · rcases List.mem_cons.mp h with z | z
         · cases z; rw [hc] at hc'; cases hc'
         · exact .inl z
       · exact .inr h
   · rename_i hk
     refine b8 env r acc x c ha hc ?_
     rcases h with h | h
     · rcases List.mem_cons.mp h with z | z
       · cases z; exact absurd rfl hk
       · exact .inl z
     · exact .inr h
theorem qR {M:Model} {A:Around} {E:Value->Shared->Prop} {s:Shared} {scope:Scope} {cl:List (Str × Addr)} {env:PySem.Env} {Q:PySem.Env->Shared->Prop}
   (h:Q (newEnv scope s.heap.objs.size env.globals (cellsFrom (s.heap.objs.size + 1) scope.names cl) env.qual none .none (some env) builtinsNs) { s with heap:=pushCells (s.heap.push { cls:=.type "dict",data:=.dict #[] }) scope.names }) :
   wpAny M A (newFunctionEnv scope env.globals cl [] env.qual none .none (some env)) Q E s:=by
 simp only [newFunctionEnv,Option.isSome_some,if_true]
 refine wpAny_bind (wpAny_alloc ?_)
 refine wpAny_bind (wpAny_layCells _ (λname kind cells=>by cases hkc:kind == NameKind.cell <;> simp [hkc]) _ _ _ _ ?_)
 rw [show ({ s with heap:=s.heap.push { cls:=.type "dict",data:=.dict #[] } }:Shared).heap.objs.size=s.heap.objs.size + 1 from Heap.size_push ..]
 exact wpAny_bind (wpAny_pure (wpAny_pure h))
noncomputable def aH (X:Cx) (s:Shared) (H:Hp) (scope:Scope) (N:List Str) (fp:List Addr):Cx:=
 { prog:=X.prog,w:=X.w,K:=X.K,mg:=X.mg,base:=X.base,A:=X.A,N:=N,s₀:=s,H₀:=H
   env:=compEnvC scope (cellsFrom (s.heap.objs.size + 1 + 1) scope.names (bQ X.env scope.names [])) (s.heap.objs.size + 1) X.env
   outer:=X.stack,stack:=X.stack,ex:=fp,fn:=λx=>decide ((x,NameKind.cell) ∈ scope.names),calm:=X.calm,pn:=[],xe:=λ_ _=>False }
noncomputable def cw (σ:L2.St) (caps:List (Option Nat)):L2.St:=caps.map λo=>o.bind λi=>(σ[i]?).join
structure dn (X:Cx) (scope:Scope) (N:List Str) (caps:List (Option Nat)):Prop where
 kind:scope.kind=.function
 loc:∀ x ∈ scope.names,x.2=.local->scope.names.lookup x.1=some .local
 fre:∀ x ∈ scope.names,x.2=.free->X.env.kindOf x.1=some .cell
 one:∀ x,(x,NameKind.free) ∈ scope.names->(x,NameKind.cell) ∉ scope.names
 noboth:∀ x,(x,NameKind.free) ∈ scope.names->(x,NameKind.local) ∉ scope.names
 len:N.length=caps.length + 1
 cap:∀ (j i:Nat),caps[j]?=some (some i)->∃ x,N[j]?=some x/\X.N[i]?=some x/\(x,NameKind.free) ∈ scope.names
 acc:∃ z,N[caps.length]?=some z/\¬ Vis (relabel scope X.env) z
section
variable {X:Cx} {pins:List (Addr × Obj)} {σ:L2.St} {H:Hp} {s:Shared} {scope:Scope} {N:List Str} {caps:List (Option Nat)} {fp:List Addr}
theorem df {env:PySem.Env} {x:Str} {names:List (Str × NameKind)} (h:∀ y,(y,NameKind.free) ∈ names->env.kindOf y=some .cell) (hk:env.scope.kind=.function) {k:NameKind}
   (e:(names.map λ(n,k)=>if (k == NameKind.free && env.scope.kind == .function && env.kindOf n == some .cell) then (n,NameKind.cell) else (n,k)).lookup x=some k) :
   (x,k) ∈ names\/((x,NameKind.free) ∈ names/\k=.cell):=by
 induction names with
 | nil=>cases e
 | cons p r ih=>
   obtain ⟨n,q⟩:=p
   rw [List.map_cons] at e
   have hr:∀ y,(y,NameKind.free) ∈ r->env.kindOf y=some .cell:=λy hy=>h y (List.mem_cons_of_mem _ hy)
   have sub:((x,k) ∈ r\/((x,NameKind.free) ∈ r/\k=.cell))->(x,k) ∈ (n,q) :: r\/((x,NameKind.free) ∈ (n,q) :: r/\k=.cell):=λz=>
     z.elim (λy=>.inl (List.mem_cons_of_mem _ y)) λy=>.inr ⟨List.mem_cons_of_mem _ y.1,y.2⟩
   dsimp only at e
   split at e
   · rename_i c
     rw [List.lookup_cons] at e
     split at e
     · rename_i qq
       cases e
       rw [Bool.and_eq_true,Bool.and_eq_true] at c
       rw [eq_of_beq qq,eq_of_beq c.1.1]
       exact .inr ⟨List.mem_cons_self,rfl⟩
     · exact sub (ih hr e)
   · rename_i c
     rw [List.lookup_cons] at e
     split at e
     · rename_i qq
       cases e
       rw [eq_of_beq qq]
       exact .inl List.mem_cons_self
     · exact sub (ih hr e)
theorem iq (I:Inv X pins σ H s) (c:dn X scope N caps):∀ x ∈ scope.names,x.2=.free->∃ d,X.env.cells.lookup x.1=some d:=λx hx hf=>I.ok.has x.1 (.inl (c.fre x hx hf))
theorem sj (I:Inv X pins σ H s) (hf:∀ b ∈ fp,mN X pins H b) (ho:∀ b ∈ fp,∃ o,s.heap.get? b=some o) (c:dn X scope N caps) :
   Inv (aH X s H scope N fp) [] (cw σ caps++[some (.ref s.heap.objs.size)]) (upd H s.heap.objs.size (.lst []))
     { s with heap:=pushCells ((s.heap.push { cls:=.type "list",data:=.seq ([]:List Value).toArray }).push { cls:=.type "dict",data:=.dict #[] }) scope.names }:=by
 have hcl:∀ x d,(bQ X.env scope.names []).lookup x=some d->X.env.cells.lookup x=some d:=λx d=>dj X.env scope.names [] x d (λy d z=>by simp at z)
 have kp:∀ b o,s.heap.get? b=some o->(pushCells ((s.heap.push { cls:=.type "list",data:=.seq ([]:List Value).toArray }).push { cls:=.type "dict",data:=.dict #[] }) scope.names).get? b=some o:=λb o e=>
   pushCells_keeps _ _ b o (Heap.get?_push_of_some _ (Heap.get?_push_of_some _ e))
 have sz2:((s.heap.push { cls:=.type "list",data:=.seq ([]:List Value).toArray }).push { cls:=.type "dict",data:=.dict #[] }).objs.size=s.heap.objs.size + 1 + 1:=by rw [Heap.size_push,Heap.size_push]
 have oldc:∀ x d,X.env.cells.lookup x=some d->d < s.heap.objs.size:=λx d e=>by
   obtain ⟨v,o,q,_⟩:=I.cell x d e
   exact Heap.lt_size q
 have cel:∀ x d,(aH X s H scope N fp).env.cells.lookup x=some d->s.heap.objs.size + 1 + 1<=d\/X.env.cells.lookup x=some d:=λx d e=>by
   rcases sU _ _ _ x d e with q | q
   · exact .inl q
   · exact .inr (hcl x d q)
 have ok:(aH X s H scope N fp).Ok:=by
   refine ⟨I.ok.mod,c.kind,I.ok.glob,I.ok.blt,Nat.le_succ _,?_,?_,?_,I.ok.hd,I.ok.frames,.inl rfl,?_,I.bs,Nat.le_trans I.ok.bsz I.sz,?_,?_,I.stack,I.pk⟩
   · exact ny _ _ _ (λx d e=>Nat.lt_of_lt_of_le (oldc x d (hcl x d e)) (by omega)) λx y d e1 e2=>I.ok.inj x y d (hcl x d e1) (hcl y d e2)
   · intro x hx
     have hfk:∀ y,(y,NameKind.free) ∈ scope.names->X.env.kindOf y=some .cell:=λy hy=>c.fre _ hy rfl
     have fre:(x,NameKind.free) ∈ scope.names->∃ d,(aH X s H scope N fp).env.cells.lookup x=some d:=λhm=>by
       obtain ⟨d,hd⟩:=iq I c _ hm rfl
       exact ⟨d,by
         show (cellsFrom _ scope.names _).lookup x=_
         rw [iz _ _ _ x (c.one x hm)]
         exact b8 X.env scope.names [] x d (λy e z=>by simp at z) hd (.inl hm)⟩
     have own:(x,NameKind.cell) ∈ scope.names->∃ d,(aH X s H scope N fp).env.cells.lookup x=some d:=λhm=>by
       obtain ⟨d,e,_⟩:=j3 scope.names (s.heap.objs.size + 1 + 1) (bQ X.env scope.names []) x hm
       exact ⟨d,e⟩
     rcases hx with hx | hx
     · rcases df hfk I.ok.kind (show (scope.names.map _).lookup x=some .cell from hx) with q | q
       · exact own q
       · exact fre q.1
     · rcases df hfk I.ok.kind (show (scope.names.map _).lookup x=some .free from hx) with q | q
       · exact fre q
       · exact fre q.1
   · intro x d hfn e
     have hm:(x,NameKind.cell) ∈ scope.names:=of_decide_eq_true hfn
     obtain ⟨d',e',l⟩:=j3 scope.names (s.heap.objs.size + 1 + 1) (bQ X.env scope.names []) x hm
     have e2:(cellsFrom (s.heap.objs.size + 1 + 1) scope.names (bQ X.env scope.names [])).lookup x=some d:=e
     rw [e'] at e2; cases e2
     exact Nat.le_trans (Nat.le_trans (Nat.le_succ _) (Nat.le_succ _)) l
   · intro b hb
     obtain ⟨o,q⟩:=ho b hb
     have bl:=Heap.lt_size q
     refine ⟨λz=>?_,λx d e z=>?_⟩
     · have z':b=s.heap.objs.size + 1:=z
       rw [z'] at bl
       exact absurd bl (Nat.not_lt.mpr (Nat.le_succ _))
     · subst z
       rcases cel x d e with q | q
       · exact absurd (Nat.lt_of_lt_of_le bl (Nat.le_trans (Nat.le_trans (Nat.le_succ _) (Nat.le_succ _)) q)) (Nat.lt_irrefl _)
       · exact (hf d hb).2.2.2.2.1 x d q rfl
   · intro b o e hb
     rcases (hf b hb).2.2.2.1 with q | q
     · exact I.ok.noex b o e q
     · have:=Nat.lt_of_lt_of_le (Heap.lt_size e) I.ok.bsz
       exact absurd (Nat.lt_of_lt_of_le this q) (Nat.lt_irrefl _)
   · intro b hb hm
     rcases List.mem_cons.mp (I.nQ b hm) with q | q
     · exact (hf b hb).2.1 q
     · exact (hf b hb).2.2.1 q
 have hD:(pushCells ((s.heap.push { cls:=.type "list",data:=.seq ([]:List Value).toArray }).push { cls:=.type "dict",data:=.dict #[] }) scope.names).get? s.heap.objs.size=some { cls:=.type "list",data:=.seq ([]:List Value).toArray }:=
   pushCells_keeps _ _ _ _ (Heap.get?_push_of_some _ (Heap.get?_push_size _ rfl))
 have fr:∀ a,s.heap.objs.size<=a->a ≠ s.heap.objs.size->(upd H s.heap.objs.size (.lst [])) a=none:=λa h1 h2=>by rw [ao h2]; exact I.hok.fresh h1
 refine ⟨ok,rfl,I.bare,Un.laid kp (Nat.le_refl _) (I.hok.fresh (Nat.le_refl _)),⟨λ_=>none,?_,λi x v e1 e2 e3=>?_⟩,λx d e=>?_,?_,λx d e=>?_,λp hp=>absurd (show p ∈ ([]:List (Addr × Obj)) from hp) (by simp),?_,?_⟩
 · have:=Heap.Ns.new (s.heap.push { cls:=.type "list",data:=.seq ([]:List Value).toArray }) (.type "dict")
   rw [Heap.size_push] at this
   exact this.keeps (pushCells_keeps _ _)
 · by_cases hi:i < caps.length
   · rw [List.getElem?_append_left (by unfold cw; rw [List.length_map]; exact hi)] at e2
     unfold cw at e2
     rw [List.getElem?_map] at e2
     cases hc:caps[i]? with
     | none=>rw [hc] at e2; cases e2
     | some o=>
       rw [hc] at e2
       cases o with
       | none=>cases e2
       | some j=>
         have e2':(σ[j]?).join=some v:=Option.some.inj e2
         have e4:σ[j]?=some (some v):=by
           cases q:σ[j]? with
           | none=>rw [q] at e2'; cases e2'
           | some y=>rw [q] at e2'; exact congrArg some e2'
         obtain ⟨x',g1,g2,g3⟩:=c.cap i j hc
         rw [show (aH X s H scope N fp).N=N from rfl,g1] at e1
         cases e1
         have hkc:=c.fre _ g3 rfl
         obtain ⟨m,_,hl⟩:=I.loc
         obtain ⟨u,ru,look⟩:=hl j x v g2 e4 (.inr (.inl hkc))
         refine ⟨u,ru,?_⟩
         rcases look with ⟨k,_⟩ | ⟨k,d,hd,hcell⟩
         · rw [hkc] at k; cases k
         · have e5:(aH X s H scope N fp).env.cells.lookup x=some d:=by
             show (cellsFrom _ scope.names _).lookup x=_
             rw [iz _ _ _ x (c.one x g3)]
             exact b8 X.env scope.names [] x d (λy e z=>by simp at z) hd (.inl g3)
           have hcell':Heap.IsCell (pushCells ((s.heap.push { cls:=.type "list",data:=.seq ([]:List Value).toArray }).push { cls:=.type "dict",data:=.dict #[] }) scope.names) d (some u):=by
             obtain ⟨o,q1,q2⟩:=hcell
             exact ⟨o,kp _ _ q1,q2⟩
           refine .inr ⟨?_,d,e5,hcell'⟩
           rcases e3 with e3 | e3 | e3
           · exfalso
             rcases df (λy hy=>c.fre _ hy rfl) I.ok.kind (show (scope.names.map _).lookup x=some .local from e3) with q | q
             · have q1:=c.loc _ q rfl
               exact c.noboth x g3 q
             · cases q.2
           · exact .inl e3
           · exact .inr e3
   · exfalso
     obtain ⟨z,z1,z2⟩:=c.acc
     have hl:i < N.length:=(List.getElem?_eq_some_iff.mp e1).1
     have:i=caps.length:=by have:=c.len; omega
     subst this
     rw [show (aH X s H scope N fp).N=N from rfl,z1] at e1
     cases e1
     exact z2 e3
 · rw [show (aH X s H scope N fp).env.cells=cellsFrom (s.heap.objs.size + 1 + 1) scope.names (bQ X.env scope.names []) from rfl,<- sz2] at e
   refine ka scope.names _ _ (λy d' q=>?_) x d e
   obtain ⟨v,o,q1,q2⟩:=I.cell y d' (hcl y d' q)
   exact ⟨v,o,Heap.get?_push_of_some _ (Heap.get?_push_of_some _ q1),q2⟩
 · exact fr _ (Nat.le_succ _) (Nat.succ_ne_self _)
 · rcases cel x d e with q | q
   · exact fr d (by omega) (by intro z; omega)
   · rw [ao (Nat.ne_of_lt (oldc x d q))]; exact I.freeC x d q
 · exact I.hok.laid kp (Nat.le_refl _) ⟨Nat.zero_le _,[],0,.nil,hD⟩
 · rw [List.length_append]
   unfold cw
   rw [List.length_map,show (aH X s H scope N fp).N=N from rfl,c.len]
   rfl
end
noncomputable def PTs (X:Cx) (ifs:List Expr) (t:TT):Prop:=
 ∀ (pins:List (Addr × Obj)) (s:Shared) (σ:L2.St) (H:Hp) (Q:Bool->Hp->Prop),Inv X pins σ H s->t σ H Q ->
   wpAny (model X.prog X.w) X.A (forIn ifs true λc r=>if r=true then do let ok <- isTrue c X.env (eval c X.env); pure (ForInStep.yield ok) else pure (ForInStep.yield r)) (TP X pins σ Q) X.xe s
section
variable {prog:Program} {w:World} {A:Around} {R:Result->Shared->Prop} {s:Shared}
theorem nG {elt target iter:Expr} {ifs:List Expr} {scope:Scope} {pos:Pos} {it acc:Value} {env:PySem.Env} (Iv:Nat->Shared->Prop)
   (step:∀ n s,Iv n s->wpAny (model prog w) A (pyNext it) (λr s₁=>match r with
     | none=>R (.ok .next) s₁
     | some v=>wpAny (model prog w) A (letOwnedTupleGo target it v) (λ_ s₀=>wpAny (model prog w) A (assign target env v) (λ_ s₂=>
         wpAny (model prog w) A (forIn ifs true λc r=>if r=true then do let ok <- isTrue c env (eval c env); pure (ForInStep.yield ok) else pure (ForInStep.yield r)) (λok s₃=>
           if ok=true then wpAny (model prog w) A (eval elt env) (λx s₄=>
             wpAny (model prog w) A (call (.builtin "list.append") [acc,x]) (λ_ s₅=>∃ m,m < n/\Iv m s₅) (λ_ _=>False) s₄) (λ_ _=>False) s₃
           else ∃ m,m < n/\Iv m s₃) (λ_ _=>False) s₂) (λ_ _=>False) s₀) (λ_ _=>False) s₁) (λ_ _=>False) s)
   (n:Nat) (h:Iv n s):codeAny (model prog w) A (.compLoop (.ListComp elt [⟨target,iter,ifs,0⟩] scope pos) 0 it acc env) R s:=by
 have no:∀ {α:Type} {t:Sem α} {Q:α->Shared->Prop} {s:Shared} {E:Value->Shared->Prop},wpAny (model prog w) A t Q (λ_ _=>False) s->wpAny (model prog w) A t Q E s:=λh=>wpAny_mono h (λ_ _ q=>q) λ_ _ q=>q.elim
 refine codeAny_loop rfl Iv (λn s hI=>?_) n h
 show wpAny _ A (Sem.onRaise (compTurn (.ListComp elt [⟨target,iter,ifs,0⟩] scope pos) 0 it acc env) (λx=>do noteFrame x env; theTreesLotGoes x)) _ _ s
 refine wpAny_noted ?_
 rw [compTurn_list]
 refine wpAny_bind (wpAny_standAt (wpAny_bind (thn (no (step n s hI)) λr s₁ h₁=>?_)))
 cases r with
 | none=>exact wpAny_pure h₁
 | some v=>
   refine wpAny_bind (thn (no h₁) λ_ s₀ h₀=>wpAny_bind (thn (no h₀) λ_ s₂ h₂=>wpAny_bind (thn (no h₂) λok s₃ h₃=>?_)))
   cases ok with
   | false=>exact wpAny_pure ⟨rfl,h₃⟩
   | true=>exact wpAny_bind (wpAny_bind (thn (no h₃) λx s₄ h₄=>wpAny_bind (thn (no h₄) λ_ s₅ h₅=>wpAny_pure (wpAny_pure ⟨rfl,h₅⟩))))
end
theorem uM {X:Cx} {kd:Bool} {pins:List (Addr × Obj)} {σ:L2.St} {H:Hp} {s:Shared} {scope:Scope} {N:List Str} {fp:List Addr} (h:Ck kd X) (I:Inv X pins σ H s):Ck kd (aH X s H scope N fp):=by
 rcases h with h | ⟨hk,q,o,u,vs,e1,e2,e3,e4⟩
 · exact .inl h
 · exact .inr ⟨hk,q,o,u,vs,e1,I.base.frzs q o u e2,e3,e4⟩
noncomputable def eQ (In:TG->TT->TE->Prop) (caps:List (Option Nat)) (wi:TI):TE:=λσ H Q=>wi σ H λJ H1=>∃ g tt te,In g tt te/\∀ D,H1 D=none ->
 ∃ Z:Nat->Nat->L2.St->Hp->Prop,(∃ m,Z 0 m (cw σ caps++[some (.ref D)]) (upd H1 D (.lst [])))/\∀ i m σ' H',Z i m σ' H' ->
   (J.stop i H'/\Q (.ref D) H')\/(J.go i H'/\∀ x H2,J.yld i H' x H2->g x σ' H2 λσ2 H3=>tt σ2 H3 λb H4=>
     if b=true then te σ2 H4 λv H5=>∃ vs m',H5 D=some (.lst vs)/\vs.length < sizeLine/\m' < m/\Z (i + 1) m' σ2 (upd H5 D (.lst (vs++[v]))) else ∃ m',m' < m/\Z (i + 1) m' σ2 H4)
theorem bI {X:Cx} {elt tg iter:Expr} {ifs:List Expr} {scope:Scope} {N:List Str} {caps:List (Option Nat)} {pos:Pos} {wi:TI} {In:TG->TT->TE->Prop} (c:dn X scope N caps) (hi:PI X tg iter wi)
   (hs:∀ x,foldedSetIterable iter X.env x=pure x)
   (hin:∀ g tt te,In g tt te->∀ s H fp,PG (aH X s H scope N fp) tg g/\PTs (aH X s H scope N fp) ifs tt/\PE (aH X s H scope N fp) elt te) :
   PE X (.ListComp elt [⟨tg,iter,ifs,0⟩] scope pos) (eQ In caps wi):=by
 intro pins s σ H Q I h
 rw [eval_ListComp]
 have hcl:=vc (iq I c)
 refine wpAny_comprehension_free (use:=none) (g:=⟨tg,iter,ifs,0⟩) (gs:=[]) rfl hs hcl c.kind c.loc ?_
 show wpAny _ _ (eval iter X.env) _ _ s
 refine thn (hi pins s σ H _ I h) λv s1 h1=>thn h1 λitv s2 h2=>?_
 obtain ⟨kd,it,fp,tn,J,H2,e,I2,hck,T,st2,f2,g,tt,te,hI,q⟩:=h2
 have hc:=uM (scope:=scope) (N:=N) (fp:=fp) hck I2
 subst e
 obtain ⟨Z,⟨m0,z0⟩,turn⟩:=q s2.heap.objs.size (I2.hok.fresh (Nat.le_refl _))
 have ho:∀ b ∈ fp,∃ o,s2.heap.get? b=some o:=λb hb=>let ⟨o,e,_⟩:=T.obj _ _ st2 b hb; ⟨o,e⟩
 have I4:=sj (scope:=scope) (N:=N) (caps:=caps) I2 f2 ho c
 obtain ⟨hg,ht,he⟩:=hin g tt te hI s2 H2 fp
 refine wpAny_newObj_type (qR ?_) (by show 0<=sizeLine; decide)
 have hC:(s2.heap.push { cls:=.type "list",dict:=none,data:=.seq ([]:List Value).toArray }).objs.size=s2.heap.objs.size + 1:=Heap.size_push ..
 dsimp only
 rw [hC]
 have kp:∀ b o,s2.heap.get? b=some o->(pushCells ((s2.heap.push { cls:=.type "list",data:=.seq ([]:List Value).toArray }).push { cls:=.type "dict",data:=.dict #[] }) scope.names).get? b=some o:=λb o e=>
   pushCells_keeps _ _ b o (Heap.get?_push_of_some _ (Heap.get?_push_of_some _ e))
 have st4:tn 0 (pushCells ((s2.heap.push { cls:=.type "list",data:=.seq ([]:List Value).toArray }).push { cls:=.type "dict",data:=.dict #[] }) scope.names):=T.keep _ _ _ st2 λb _ o e=>kp b o e
 have stat:∀ {H':Hp},(∀ b ∈ fp,H' b=none)->∀ b ∈ fp,mN (aH X s2 H2 scope N fp) [] H' b:=λhn b hb=>
   ⟨hn b hb,(I4.ok.exf b hb).1,I4.ok.exfs b hb,.inl hb,(I4.ok.exf b hb).2,λp hp=>absurd (show p ∈ ([]:List (Addr × Obj)) from hp) (by simp)⟩
 have fr4:∀ b ∈ fp,(upd H2 s2.heap.objs.size (.lst [])) b=none:=λb hb=>by
   obtain ⟨o,e⟩:=ho b hb
   rw [ao (Nat.ne_of_lt (Heap.lt_size e))]; exact (f2 b hb).1
 have loop:codeAny (model X.prog X.w) X.A (.compLoop (.ListComp elt [⟨tg,iter,ifs,0⟩] scope pos) 0 (.ref it) (.ref s2.heap.objs.size) (aH X s2 H2 scope N fp).env)
     (compPost (model X.prog X.w) X.A X.xe none (EP X pins σ Q) (.ref s2.heap.objs.size) (s2.heap.objs.size + 1))
     { s2 with heap:=pushCells ((s2.heap.push { cls:=.type "list",data:=.seq ([]:List Value).toArray }).push { cls:=.type "dict",data:=.dict #[] }) scope.names }:=by
   refine nG (λn s'=>∃ i σ' H',Inv (aH X s2 H2 scope N fp) [] σ' H' s'/\tn i s'.heap/\(∀ b ∈ fp,H' b=none)/\Z i n σ' H') ?_ m0 ⟨0,_,_,I4,st4,fr4,z0⟩
   rintro n s3 ⟨i,σ3,H3,I3,st3,fr3,w3⟩
   rcases turn i n σ3 H3 w3 with ⟨stop,qn⟩ | ⟨go,step⟩
   · refine thn (T.done (aH X s2 H2 scope N fp) rfl rfl rfl hc i [] s3 σ3 H3 _ I3 (stat fr3) st3 stop) λr s5 ⟨hr,I5⟩=>?_
     subst hr
     obtain ⟨m,hn,_⟩:=id I5.loc
     refine ⟨m,hn,λh' sb=>⟨.ref s2.heap.objs.size,H3,?_,rfl,qn⟩⟩
     have lt:∀ b o,s2.heap.get? b=some o->b ≠ s2.heap.objs.size + 1:=λb o e=>Nat.ne_of_lt (Nat.lt_succ_of_lt (Heap.lt_size e))
     have u:=I5.base
     have u':Un (frs X.stack) fp H2 H3 s2.heap h':=⟨λb o e n1 n2 n3=>(sb.2 b (lt b o e)).trans (u.keep b o e n1 n2 n3),λb o e n1 n2 n3=>let ⟨sl,z⟩:=u.slot b o e n1 n2 n3; ⟨sl,(sb.2 b (lt b o e)).trans z⟩,
       u.free,λb o e n1=>let ⟨o',z⟩:=u.there b o e n1; ⟨o',(sb.2 b (lt b o e)).trans z⟩,u.tups,u.frzs,u.tbls⟩
     have fC:H3 (s2.heap.objs.size + 1)=none:=I5.free
     refine I2.xY (s':={ s5 with heap:=h' }) I5.os u' (λb o e=>(I5.hok b o e).iR (λd v hd z=>(sb.2 d ?_).trans z) (λ_ z=>z) λ_ _ z=>z) I5.bare λb hb=>⟨(f2 b hb).2.2.2.1,(f2 b hb).2.1,(f2 b hb).2.2.2.2.1,(f2 b hb).2.2.2.2.2⟩
     rcases hd with hd | hd
     · rw [hd]; exact aF e fC
     · exact aF hd fC
   · refine thn (T.item (aH X s2 H2 scope N fp) rfl rfl rfl hc i [] s3 σ3 H3 _ I3 (stat fr3) st3 go) λr s4 ⟨u,hr,h4⟩=>?_
     subst hr
     refine thn h4 λ_ s5 ⟨x,H5,I5,r5,y5,st5,fr5⟩=>?_
     have I5':=I5.pinned (stat fr5) (T.obj _ _ st5)
     refine thn (hg _ s5 σ3 H5 x u _ I5' r5 (step x H5 y5)) λ_ s6 ⟨σ6,H6,I6,q6⟩=>?_
     have again:∀ {s7:Shared} {σ7:L2.St} {H7:Hp} {m':Nat},Inv (aH X s2 H2 scope N fp) ([]++iN fp s5.heap) σ7 H7 s7->m' < n->Z (i + 1) m' σ7 H7 ->
         ∃ m,m < n/\∃ i σ' H',Inv (aH X s2 H2 scope N fp) [] σ' H' s7/\tn i s7.heap/\(∀ b ∈ fp,H' b=none)/\Z i m σ' H':=λ{s7 σ7 H7 m'} I7 hm z7=>by
       refine ⟨m',hm,i + 1,σ7,H7,I7.fO,T.keep _ _ _ st5 λb hb o e=>(I7.pin (b,o) (List.mem_append_right _ (List.mem_append_right _ (dk hb e)))).1,λb hb=>?_,z7⟩
       obtain ⟨o,e,d⟩:=T.obj _ _ st5 b hb
       exact (I7.pin (b,o) (List.mem_append_right _ (List.mem_append_right _ (dk hb e)))).2.1
     refine thn (ht _ s6 σ6 H6 _ I6 q6) λok s7 ⟨H7,I7,q7⟩=>?_
     cases ok with
     | false=>
       rw [if_neg (by decide)] at q7
       obtain ⟨m',hm,z7⟩:=q7
       exact again I7 hm z7
     | true=>
       rw [if_pos rfl] at q7
       refine thn (he _ s7 σ6 H7 _ I7 q7) λv' s8 ⟨v,H8,I8,r8,vs,m',q8,l8,hm,z8⟩=>?_
       refine thn (ez (X:=aH X s2 H2 scope N fp) _ s8 σ6 H8 (.ref s2.heap.objs.size) [v] (.ref s2.heap.objs.size) [v'] (λ_ H9=>H9=upd H8 s2.heap.objs.size (.lst (vs++[v]))) I8 rfl (.cons r8 .nil) ⟨_,vs,v,rfl,rfl,q8,l8,rfl⟩) λ_ s9 ⟨_,H9,I9,_,e9⟩=>?_
       subst e9
       exact again I9 hm z8
 exact codeAny_compStart_list loop (T.self _ 0 _ _ _ st4 loop)
end Ev
namespace Hy
open PySem PySem.Spec PyProof.Rows L2
open Ev (D Den ar)
open Classical in
noncomputable def hd (H:Hp) (M:Addr->Prop):Hp:=λb=>if M b then none else H b
theorem ai {H:Hp} {M:Addr->Prop} {b:Addr} {o:HO}:hd H M b=some o ↔ ¬ M b/\H b=some o:=by
 unfold hd
 by_cases h:M b
 · rw [if_pos h]; exact ⟨λz=>(nomatch z),λz=>absurd h z.1⟩
 · rw [if_neg h]; exact ⟨λz=>⟨h,z⟩,λz=>z.2⟩
theorem au {H H':Hp} {M M':Addr->Prop} (e:ah H H') (m:∀ b,M' b->M b):ah (hd H M) (hd H' M'):=λb _ h=>ai.mpr ⟨λz=>(ai.mp h).1 (m b z),e b _ (ai.mp h).2⟩
theorem az {H:Hp} {M:Addr->Prop}:ah (hd H M) H:=λ_ _ h=>(ai.mp h).2
inductive Nd where
 | d (x:D) | l (xs:List Nd) | t (xs:List Nd)
structure Ex where
 p:PySem.W.Frag->Hp->HO->Addr->Prop
 mono:∀ {K:PySem.W.Frag} {G G':Hp} {o:HO} {a:Addr},ah G G'->p K G o a->p K G' o a
 ext:∀ {K:PySem.W.Frag} {G:Hp} {o:HO} {a:Addr},p K G o a->(∃ φ,o=.ext φ)\/(∃ ob φ,o=.frz ob (.ext φ))\/∃ kvs,o=.dK kvs\/∃ ob,o=.frz ob (.dK kvs)
inductive Sl where
 | un | d (x:D) | o (xs:List D) | n (t:Nd) | x (E:Ex)
mutual
inductive a8 (K:PySem.W.Frag) (G H:Hp):V->List Addr->Nd->Prop where
 | d {u:V} {x:D} (h:Den K G u x):a8 K G H u [] (.d x)
 | l {a:Addr} {vs:List V} {bs:List Addr} {xs:List Nd} (h:H a=some (.lst vs)) (r:aB K G H vs bs xs):a8 K G H (.ref a) (a :: bs) (.l xs)
 | t {a:Addr} {vs:List V} {bs:List Addr} {xs:List Nd} (h:H a=some (.tup vs)) (r:aB K G H vs bs xs):a8 K G H (.ref a) (a :: bs) (.t xs)
inductive aB (K:PySem.W.Frag) (G H:Hp):List V->List Addr->List Nd->Prop where
 | nil:aB K G H [] [] []
 | cons {v:V} {vs:List V} {b1 b2:List Addr} {s:Nd} {ss:List Nd} (h:a8 K G H v b1 s) (r:aB K G H vs b2 ss):aB K G H (v :: vs) (b1++b2) (s :: ss)
end
noncomputable def bx (K:PySem.W.Frag) (G H:Hp) (v:Option V) (bs:List Addr):Sl->Prop
 | .un=>bs=[]
 | .d x=>bs=[]/\∃ u,v=some u/\Den K G u x
 | .o xs=>∃ a vs,bs=[a]/\v=some (.ref a)/\H a=some (.lst vs)/\ar K G vs xs
 | .n t=>bs.Nodup/\∃ u,v=some u/\a8 K G H u bs t
 | .x E=>∃ a o,bs=[a]/\v=some (.ref a)/\H a=some o/\E.p K G o a
section
variable {K:PySem.W.Frag} {G G' H H':Hp}
mutual
theorem a8.frame (g:ah G G'):∀ {u:V} {bs:List Addr} {t:Nd},(∀ b ∈ bs,H' b=H b)->a8 K G H u bs t->a8 K G' H' u bs t
 | _,_,_,_,.d h=>.d (h.mono g)
 | _,_,_,e,.l h r=>.l (by rw [e _ (List.mem_cons_self ..)]; exact h) (aB.frame g (λb hb=>e b (List.mem_cons_of_mem _ hb)) r)
 | _,_,_,e,.t h r=>.t (by rw [e _ (List.mem_cons_self ..)]; exact h) (aB.frame g (λb hb=>e b (List.mem_cons_of_mem _ hb)) r)
theorem aB.frame (g:ah G G'):∀ {vs:List V} {bs:List Addr} {xs:List Nd},(∀ b ∈ bs,H' b=H b)->aB K G H vs bs xs->aB K G' H' vs bs xs
 | _,_,_,_,.nil=>.nil
 | _,_,_,e,.cons h r=>.cons (a8.frame g (λb hb=>e b (List.mem_append_left _ hb)) h) (aB.frame g (λb hb=>e b (List.mem_append_right _ hb)) r)
end
mutual
theorem a8.some_of:∀ {u:V} {bs:List Addr} {t:Nd},a8 K G H u bs t->∀ b ∈ bs,∃ o,H b=some o
 | _,_,_,.d _,_,z=>nomatch z
 | _,_,_,.l h r,b,z=>(List.mem_cons.mp z).elim (λe=>e ▸ ⟨_,h⟩) λz=>aB.some_of r b z
 | _,_,_,.t h r,b,z=>(List.mem_cons.mp z).elim (λe=>e ▸ ⟨_,h⟩) λz=>aB.some_of r b z
theorem aB.some_of:∀ {vs:List V} {bs:List Addr} {xs:List Nd},aB K G H vs bs xs->∀ b ∈ bs,∃ o,H b=some o
 | _,_,_,.nil,_,z=>nomatch z
 | _,_,_,.cons h r,b,z=>(List.mem_append.mp z).elim (λz=>a8.some_of h b z) λz=>aB.some_of r b z
end
theorem a8.mono (g:ah G G') (e:ah H H') {u:V} {bs:List Addr} {t:Nd} (h:a8 K G H u bs t):a8 K G' H' u bs t:=h.frame g λb hb=>by
 obtain ⟨o,q⟩:=h.some_of b hb
 rw [q,e b o q]
theorem bx.mono (g:ah G G') (e:ah H H') {v:Option V} {bs:List Addr}:∀ {s:Sl},bx K G H v bs s->bx K G' H' v bs s
 | .un,h=>h
 | .d _,⟨h,u,e1,h2⟩=>⟨h,u,e1,h2.mono g⟩
 | .o _,⟨a,vs,h1,h2,h3,h4⟩=>⟨a,vs,h1,h2,e _ _ h3,h4.mono g⟩
 | .n _,⟨h0,u,h1,h2⟩=>⟨h0,u,h1,h2.mono g e⟩
 | .x E,⟨a,o,h1,h2,h3,h4⟩=>⟨a,o,h1,h2,e _ _ h3,E.mono g h4⟩
end
noncomputable def own (A:Addr->Prop) (B:Nat->List Addr) (b:Addr):Prop:=A b\/∃ i,b ∈ B i
noncomputable def vw (C:Bool) (A:Addr->Prop) (B:Nat->List Addr):Addr->Prop:=match C with
 | true=>own A B
 | false=>A
structure Sta (K:PySem.W.Frag) (A:Addr->Prop) (H₀:Hp) (τ:List Sl) (B:Nat->List Addr) (σ:L2.St) (H:Hp):Prop where
 same:ah H₀ H
 len:σ.length=τ.length
 sl:∀ i s,τ[i]?=some s->bx K (hd H (own A B)) H (σ[i]?).join (B i) s
 fr:∀ i b,b ∈ B i->H₀ b=none
 uq:∀ i j b,b ∈ B i->b ∈ B j->i=j
 ad:∀ b,A b->∃ o,H₀ b=some o
 bd:∀ i b,b ∈ B i->∃ o,H b=some o
noncomputable def upB (B:Nat->List Addr) (i:Nat) (bs:List Addr):Nat->List Addr:=λj=>if j=i then bs else B j
section
variable {K:PySem.W.Frag} {A:Addr->Prop} {H₀ H H':Hp} {τ:List Sl} {B:Nat->List Addr} {σ:L2.St}
theorem Sta.dm (S:Sta K A H₀ τ B σ H) (b:Addr) (h:own A B b):∃ o,H b=some o:=h.elim (λz=>let ⟨o,q⟩:=S.ad b z; ⟨o,S.same _ _ q⟩) λ⟨i,z⟩=>S.bd i b z
theorem Sta.mono (S:Sta K A H₀ τ B σ H) (e:ah H H'):Sta K A H₀ τ B σ H' where
 same:=S.same.trans e
 len:=S.len
 sl:=λi s h=>(S.sl i s h).mono (au e λ_ z=>z) e
 fr:=S.fr
 uq:=S.uq
 ad:=S.ad
 bd:=λi b h=>let ⟨o,q⟩:=S.bd i b h; ⟨o,e _ _ q⟩
theorem aX {i j:Nat} {bs:List Addr} {b:Addr} (h:b ∈ upB B i bs j):(j=i/\b ∈ bs)\/(j ≠ i/\b ∈ B j):=by
 unfold upB at h
 by_cases e:j=i
 · rw [if_pos e] at h; exact .inl ⟨e,h⟩
 · rw [if_neg e] at h; exact .inr ⟨e,h⟩
theorem Sta.set (S:Sta K A H₀ τ B σ H) (e:ah H H') {i:Nat} {v:V} {s:Sl} {bs:List Addr} (hf:∀ b ∈ bs,H b=none/\∃ o,H' b=some o) (h:bx K (hd H' λb=>own A B b\/b ∈ bs) H' (some v) bs s) :
   Sta K A H₀ (τ.set i s) (upB B i bs) (σ.set i (some v)) H':=by
 have sub:∀ b,own A (upB B i bs) b->own A B b\/b ∈ bs:=λb z=>z.elim (λz=>.inl (.inl z)) λ⟨j,z⟩=>(aX z).elim (λz=>.inr z.2) λz=>.inl (.inr ⟨j,z.2⟩)
 have some_of:∀ b j,b ∈ B j->∃ o,H b=some o:=λb j z=>S.dm b (.inr ⟨j,z⟩)
 refine ⟨S.same.trans e,by rw [List.length_set,List.length_set,S.len],λj t hj=>?_,λj b hb=>?_,λj k b h1 h2=>?_,S.ad,λj b hb=>?_⟩
 · by_cases ej:j=i
   · subst ej
     have hl:j < τ.length:=by
       have:=(List.getElem?_eq_some_iff.mp hj).1
       rwa [List.length_set] at this
     rw [List.getElem?_set_self hl] at hj
     cases hj
     rw [List.getElem?_set_self (by rw [S.len]; exact hl)]
     unfold upB
     rw [if_pos rfl]
     exact h.mono (au (ah.refl _) sub) (ah.refl _)
   · rw [List.getElem?_set_ne (λz=>ej z.symm)] at hj
     rw [List.getElem?_set_ne (λz=>ej z.symm)]
     unfold upB
     rw [if_neg ej]
     have q:=S.sl j t hj
     refine q.mono (λb o z=>?_) e
     obtain ⟨z1,z2⟩:=ai.mp z
     refine ai.mpr ⟨λy=>?_,e _ _ z2⟩
     rcases sub b y with y | y
     · exact z1 y
     · rw [(hf b y).1] at z2; cases z2
 · rcases aX hb with ⟨_,z⟩ | ⟨_,z⟩
   · exact S.same.free (hf b z).1
   · exact S.fr j b z
 · rcases aX h1 with ⟨e1,z1⟩ | ⟨e1,z1⟩ <;> rcases aX h2 with ⟨e2,z2⟩ | ⟨e2,z2⟩
   · exact e1.trans e2.symm
   · obtain ⟨o,q⟩:=some_of b k z2; rw [(hf b z1).1] at q; cases q
   · obtain ⟨o,q⟩:=some_of b j z1; rw [(hf b z2).1] at q; cases q
   · exact S.uq j k b z1 z2
 · rcases aX hb with ⟨_,z⟩ | ⟨_,z⟩
   · exact (hf b z).2
   · obtain ⟨o,q⟩:=S.bd j b z; exact ⟨o,e _ _ q⟩
theorem Sta.less (S:Sta K A H₀ τ B σ H) {i:Nat} {s:Sl} {bs:List Addr} (hb:∀ b ∈ bs,b ∈ B i) (h:∀ G:Hp,ah (hd H (own A B)) G->(∀ b o,b ∈ B i->b ∉ bs->H b=some o->G b=some o)->bx K G H (σ[i]?).join bs s):Sta K A H₀ (τ.set i s) (upB B i bs) σ H:=by
 have sub:∀ b,own A (upB B i bs) b->own A B b:=λb z=>z.elim .inl λ⟨j,z⟩=>(aX z).elim (λz=>.inr ⟨i,hb b z.2⟩) λz=>.inr ⟨j,z.2⟩
 refine ⟨S.same,by rw [List.length_set,S.len],λj t hj=>?_,λj b h=>?_,λj k b h1 h2=>?_,S.ad,λj b h=>(aX h).elim (λz=>S.bd i b (hb b z.2)) λz=>S.bd j b z.2⟩
 · by_cases ej:j=i
   · subst ej
     have hl:j < τ.length:=by
       have:=(List.getElem?_eq_some_iff.mp hj).1
       rwa [List.length_set] at this
     rw [List.getElem?_set_self hl] at hj
     cases hj
     unfold upB
     rw [if_pos rfl]
     refine h _ (au (ah.refl _) sub) λb o z1 z2 z3=>ai.mpr ⟨λy=>?_,z3⟩
     rcases y with y | ⟨m,y⟩
     · obtain ⟨_,q⟩:=S.ad b y
       rw [S.fr j b z1] at q; cases q
     · rcases aX y with ⟨e,y⟩ | ⟨e,y⟩
       · exact z2 y
       · exact e (S.uq m j b y z1)
   · rw [List.getElem?_set_ne (λz=>ej z.symm)] at hj
     unfold upB
     rw [if_neg ej]
     exact (S.sl j t hj).mono (au (ah.refl _) sub) (ah.refl _)
 · rcases aX h with ⟨e,z⟩ | ⟨_,z⟩
   · exact S.fr i b (hb b z)
   · exact S.fr j b z
 · rcases aX h1 with ⟨e1,z1⟩ | ⟨e1,z1⟩ <;> rcases aX h2 with ⟨e2,z2⟩ | ⟨e2,z2⟩
   · exact e1.trans e2.symm
   · exact absurd (S.uq k i b z2 (hb b z1)) e2
   · exact absurd (S.uq j i b z1 (hb b z2)) e1
   · exact S.uq j k b z1 z2
end
end Hy
namespace Hy
open PySem PySem.Spec PyProof.Rows L2
open Ev (D Den ar aU aP aq aO aA)
noncomputable def Fr (H H':Hp) (bs:List Addr):Prop:=∀ b ∈ bs,H b=none/\∃ o,H' b=some o
noncomputable def dE (K:PySem.W.Frag) (C:Bool) (τ:List Sl) (s:Sl):TE:=λσ H Q=>∃ A H₀ B,Sta K A H₀ τ B σ H /\
 ∀ v H' bs,ah H H'->Fr H H' bs->bx K (hd H' λb=>vw C A B b\/b ∈ bs) H' (some v) bs s->Q v H'
noncomputable def dA (K:PySem.W.Frag) (C:Bool) (τ:List Sl) (ds:List D):TA:=λσ H Q=>∃ A H₀ B,Sta K A H₀ τ B σ H /\
 ∀ vs H',ah H H'->ar K (hd H' (vw C A B)) vs ds->Q vs H'
noncomputable def dT (K:PySem.W.Frag) (τ:List Sl) (c:Bool):TT:=λσ H Q=>∃ A H₀ B,Sta K A H₀ τ B σ H/\∀ H',ah H H'->Q c H'
structure Po where
 nx:List Sl->Prop
 rt:Sl->Prop
 bk:List Sl->Prop:=λ_=>False
 ct:List Sl->Prop:=λ_=>False
 xc:Hp->Prop:=λ_=>True
structure Meets (K:PySem.W.Frag) (A:Addr->Prop) (H₀:Hp) (N:Po) (D:Ends):Prop where
 nx:∀ τ B σ H,N.nx τ->Sta K A H₀ τ B σ H->D.nx σ H
 bk:∀ τ B σ H,N.bk τ->Sta K A H₀ τ B σ H->D.bk σ H
 ct:∀ τ B σ H,N.ct τ->Sta K A H₀ τ B σ H->D.ct σ H
 rt:∀ v H bs s,N.rt s->ah H₀ H->Fr H₀ H bs->bx K (hd H λb=>A b\/b ∈ bs) H (some v) bs s->D.rt v H
 xc:∀ H,ah H₀ H->N.xc H
noncomputable def dS (K:PySem.W.Frag) (τ:List Sl) (N:Po):TS:=λD σ H=>∃ A H₀ B,Sta K A H₀ τ B σ H/\Meets K A H₀ N D
theorem peW {X:Cx} {e:Expr} {t t':TE} (h:PE X e t) (f:∀ σ H Q,t' σ H Q->t σ H Q):PE X e t':=λpins s σ H Q I q=>h pins s σ H Q I (f σ H Q q)
theorem ptW {X:Cx} {e:Expr} {t t':TT} (h:PT X e t) (f:∀ σ H Q,t' σ H Q->t σ H Q):PT X e t':=λpins s σ H Q I q=>h pins s σ H Q I (f σ H Q q)
theorem pwW {X:Cx} {e:Expr} {t t':TT} (h:PW X e t) (f:∀ σ H Q,t' σ H Q->t σ H Q):PW X e t':=λwh pins s σ H Q I q=>h wh pins s σ H Q I (f σ H Q q)
theorem paW {X:Cx} {e:List Expr} {t t':TA} (h:PA X e t) (f:∀ σ H Q,t' σ H Q->t σ H Q):PA X e t':=λp pins s σ H Q I q=>h p pins s σ H Q I (f σ H Q q)
theorem psW {X:Cx} {e:Stmt} {t t':TS} (h:PS X e t) (f:∀ D σ H,t' D σ H->t D σ H):PS X e t':=λpins s σ H D I q=>h pins s σ H D I (f D σ H q)
theorem mV {X:Cx} {e:List Stmt} {t t':TS} (h:PSs X e t) (f:∀ D σ H,t' D σ H->t D σ H):PSs X e t':=λpins s σ H D I q=>h pins s σ H D I (f D σ H q)
section
variable {K:PySem.W.Frag} {C:Bool} {τ:List Sl} {A:Addr->Prop} {H₀ H H':Hp} {B:Nat->List Addr} {σ:L2.St} {x y z:D} {Q:VK}
theorem iQ {b:Addr} (h:vw C A B b):own A B b:=by
 cases C with
 | true=>exact h
 | false=>exact .inl h
theorem Sta.vd (S:Sta K A H₀ τ B σ H) (b:Addr) (h:vw C A B b):∃ o,H b=some o:=S.dm b (iQ h)
theorem aT (S:Sta K A H₀ τ B σ H) (k:∀ v H',ah H H'->Den K (hd H' (vw C A B)) v x->Q v H'):dE K C τ (.d x) σ H Q:=
 ⟨A,H₀,B,S,λv H' bs e _ ⟨hb,u,eu,h⟩=>by
   cases eu
   exact k v H' e (h.mono (au (ah.refl _) λ_ z=>.inl z))⟩
theorem dJ (h:dE K C τ (.d x) σ H Q):∃ A H₀ B,Sta K A H₀ τ B σ H/\∀ v H',ah H H'->Den K (hd H' (vw C A B)) v x->Q v H':=by
 obtain ⟨A,H₀,B,S,k⟩:=h
 exact ⟨A,H₀,B,S,λv H' e d=>k v H' [] e (λ_ z=>nomatch z) ⟨rfl,v,rfl,d.mono (au (ah.refl _) λ_ z=>z.elim id λz=>nomatch z)⟩⟩
theorem d9 {ds:List D} {Q:List V->Hp->Prop} (S:Sta K A H₀ τ B σ H) (k:∀ vs H',ah H H'->ar K (hd H' (vw C A B)) vs ds->Q vs H'):dA K C τ ds σ H Q:=⟨A,H₀,B,S,k⟩
theorem iA {M:Addr->Prop} {p:Addr} {o:HO} (hM:∀ b,M b->∃ o,H b=some o) (hp:H p=none):hd (upd H p o) M p=some o:=
 ai.mpr ⟨λz=>(by obtain ⟨o,q⟩:=hM p z; rw [hp] at q; cases q),aw⟩
mutual
noncomputable def ndD:Nd->D
 | .d x=>x
 | .l xs=>.lst (kX xs)
 | .t xs=>.tup (kX xs)
noncomputable def kX:List Nd->List D
 | []=>[]
 | x :: xs=>ndD x :: kX xs
end
noncomputable def fzD:Sl->Option D
 | .un=>none
 | .d x=>some x
 | .o xs=>some (.lst xs)
 | .n t=>some (ndD t)
 | .x _=>none
mutual
theorem a8.den {G G':Hp} (g:ah G G'):∀ {u:V} {bs:List Addr} {t:Nd},(∀ b ∈ bs,∀ o,H b=some o->G' b=some o)->a8 K G H u bs t->Den K G' u (ndD t)
 | _,_,_,_,.d h=>h.mono g
 | _,_,_,e,.l h r=>.lst (SqL.of (e _ (List.mem_cons_self ..) _ h)) (aB.den g (λb hb=>e b (List.mem_cons_of_mem _ hb)) r)
 | _,_,_,e,.t h r=>.tup (SqT.of (e _ (List.mem_cons_self ..) _ h)) (aB.den g (λb hb=>e b (List.mem_cons_of_mem _ hb)) r)
theorem aB.den {G G':Hp} (g:ah G G'):∀ {vs:List V} {bs:List Addr} {xs:List Nd},(∀ b ∈ bs,∀ o,H b=some o->G' b=some o)->aB K G H vs bs xs->ar K G' vs (kX xs)
 | _,_,_,_,.nil=>.nil
 | _,_,_,e,.cons h r=>.cons (a8.den g (λb hb=>e b (List.mem_append_left _ hb)) h) (aB.den g (λb hb=>e b (List.mem_append_right _ hb)) r)
end
theorem bx.den {G G':Hp} {v:Option V} {bs:List Addr} {s:Sl} (h:bx K G H v bs s) (g:ah G G') (hv:∀ b ∈ bs,∀ o,H b=some o->G' b=some o) (e:fzD s=some x):∃ u,v=some u/\Den K G' u x:=by
 cases s with
 | un=>cases e
 | d y=>cases e; obtain ⟨_,u,e,q⟩:=h; exact ⟨u,e,q.mono g⟩
 | o xs=>
   cases e
   obtain ⟨a,vs,rfl,h2,h3,h4⟩:=h
   exact ⟨_,h2,.lst (SqL.of (hv a (List.mem_cons_self ..) _ h3)) (h4.mono g)⟩
 | n t=>
   cases e
   obtain ⟨_,u,e,q⟩:=h
   exact ⟨u,e,q.den g hv⟩
 | x E=>cases e
theorem slot_of {i:Nat} {u:V} (h:(σ[i]?).join=some u):σ[i]?=some (some u):=by
 cases e:σ[i]? with
 | none=>rw [e] at h; cases h
 | some o=>rw [e] at h; exact congrArg some h
end
section
variable {X:Cx} {C:Bool} {τ:List Sl} {x y z:D} {a b e:Expr} {es:List Expr} {pos:Pos}
theorem aa (i:Nat) {n:Str} {x:D} (h:τ[i]?=some (.d x):=by rfl) (hN:X.N[i]?=some n:=by rfl) (hv:Vis X.env.scope n:=by first | exact Or.inl rfl | exact Or.inr (Or.inl rfl) | exact Or.inr (Or.inr rfl))
   (hd:(n == ("__debug__" : Str))=false:=by decide) (hcd:(n == ("__classdict__" : Str))=false:=by decide):PE X (.Name n pos) (dE X.K C τ (.d x)):=peW (bw hN hv hd hcd) λσ H Q q=>by
 obtain ⟨A,H₀,B,S,k⟩:=dJ q
 obtain ⟨_,u,e,d⟩:=S.sl i _ h
 exact ⟨u,slot_of e,k u H (ah.refl _) (d.mono (au (ah.refl _) λ_ z=>iQ z))⟩
theorem k9 (i:Nat) {n:Str} {s:Sl} {x:D} (h:τ[i]?=some s:=by rfl) (hx:fzD s=some x:=by rfl) (hN:X.N[i]?=some n:=by rfl) (hv:Vis X.env.scope n:=by first | exact Or.inl rfl | exact Or.inr (Or.inl rfl) | exact Or.inr (Or.inr rfl))
   (hd:(n == ("__debug__" : Str))=false:=by decide) (hcd:(n == ("__classdict__" : Str))=false:=by decide):PE X (.Name n pos) (dE X.K false τ (.d x)):=peW (bw hN hv hd hcd) λσ H Q q=>by
 obtain ⟨A,H₀,B,S,k⟩:=dJ q
 obtain ⟨u,e,d⟩:=(S.sl i _ h).den (G':=Hy.hd H A) (au (ah.refl _) λ_ z=>.inl z) (λb hb o ho=>ai.mpr ⟨λz=>(by obtain ⟨_,q⟩:=S.ad b z; rw [S.fr i b hb] at q; cases q),ho⟩) hx
 exact ⟨u,slot_of e,k u H (ah.refl _) d⟩
theorem pK {v:V} (h:PE X e (tC v)) (d:∀ H,Den X.K H v x):PE X e (dE X.K C τ (.d x)):=peW h λσ H Q q=>by
 obtain ⟨A,H₀,B,S,k⟩:=dJ q
 exact k v H (ah.refl _) (d _)
theorem af {i j}:PE X (.Constant (.int i) j pos) (dE X.K C τ (.d (.int i))):=pK xr λ_=>.int
theorem oo {b j}:PE X (.Constant (.bool b) j pos) (dE X.K C τ (.d (.bl b))):=pK yM λ_=>.bl
theorem bq {s j}:PE X (.Constant (.str s) j pos) (dE X.K C τ (.d (.str s))):=pK xn λ_=>.str
theorem nC {n:Str} {i:Int} (hm:∃ t,X.mg n=some (.int i t)) (hg:Gl X n:=by rfl) (hd:(n == ("__debug__" : Str))=false:=by decide):PE X (.Name n pos) (dE X.K C τ (.d (.int i))):=by
 obtain ⟨t,hm⟩:=hm
 exact pK (uV (v:=.int i) hg hm ⟨t,rfl⟩ hd) λ_=>.int
theorem aR {s:Sl} (h:PE X e (dE X.K C τ s)) (hx:fzD s=some x:=by rfl):PE X e (dE X.K C τ (.d x)):=peW h λσ H Q q=>by
 obtain ⟨A,H₀,B,S,k⟩:=dJ q
 refine ⟨A,H₀,B,S,λv H' bs e hf q=>?_⟩
 have vd:=S.vd (C:=C)
 obtain ⟨u,e1,d⟩:=q.den (G':=Hy.hd H' (vw C A B)) (au (ah.refl _) λ_ z=>.inl z) (λb hb o ho=>ai.mpr ⟨λz=>(by obtain ⟨_,q⟩:=vd b z; rw [(hf b hb).1] at q; cases q),ho⟩) hx
 cases e1
 exact k v H' e d
noncomputable def flat:D->Bool
 | .tup _=>false
 | .lst _=>false
 | .box _=>false
 | _=>true
theorem iC {K:PySem.W.Frag} {G G':Hp} {v:V} (h:Den K G v x) (f:flat x=true):Den K G' v x:=by
 cases h with
 | non=>exact .non
 | bl=>exact .bl
 | int=>exact .int
 | str=>exact .str
 | tup _ _=>cases f
 | lst _ _=>cases f
 | box _=>cases f
noncomputable def bF (X:Cx) (f:Value->Value->Sem Value) (x y z:D):Prop:=∃ r:R2,OpR X f r /\
 ∀ (M:Addr->Prop) (v w:V) (H:Hp) (Q:VK),(∀ b,M b->∃ o,H b=some o)->Den X.K (hd H M) v x->Den X.K (hd H M) w y->(∀ u H',ah H H'->Den X.K (hd H' M) u z->Q u H')->r v w H Q
theorem two {r:R2} (hr:∀ (M:Addr->Prop) (v w:V) (H:Hp) (Q:VK),(∀ b,M b->∃ o,H b=some o)->Den X.K (hd H M) v x->Den X.K (hd H M) w y->(∀ u H',ah H H'->Den X.K (hd H' M) u z->Q u H')->r v w H Q) :
   ∀ σ H Q,dE X.K C τ (.d z) σ H Q->tOp r (dE X.K C τ (.d x)) (dE X.K C τ (.d y)) σ H Q:=by
 intro σ H Q h
 obtain ⟨A,H₀,B,S,k⟩:=dJ h
 refine aT S λv H1 e1 d1=>aT (S.mono e1) λw H2 e2 d2=>hr (vw C A B) v w H2 Q ((S.mono e1).mono e2).vd (d1.mono (au e2 λ_ z=>z)) d2 λu H' e3 d3=>k u H' (e1.trans (e2.trans e3)) d3
theorem aD {op:Operator} (ha:PE X a (dE X.K C τ (.d x))) (hb:PE X b (dE X.K C τ (.d y))) (ho:bF X (binaryOp op) x y z):PE X (.BinOp a op b pos) (dE X.K C τ (.d z)):=by
 obtain ⟨r,h1,h2⟩:=ho
 exact peW (tH h1 ha hb) (two h2)
theorem dt {op:CmpOp} (ha:PE X a (dE X.K C τ (.d x))) (hb:PE X b (dE X.K C τ (.d y))) (ho:bF X (compareOp op) x y z) (hm:behindInMarks op b=false:=by first | exact rN _ | rfl):PE X (.Compare a [op] [b] pos) (dE X.K C τ (.d z)):=by
 obtain ⟨r,h1,h2⟩:=ho
 exact peW (ua h1 ha hb hm) (two h2)
theorem tY {t:TE} {c:Bool} (h:∀ σ H Q,dE X.K false τ (.d (.bl c)) σ H Q->t σ H Q):∀ σ H Q,dT X.K τ c σ H Q->t σ H λx H'=>∃ k,x=.bl k/\Q k H':=λσ H Q ⟨A,H₀,B,S,k⟩=>
 h σ H _ (aT S λv H' e d=>by cases d; exact ⟨c,rfl,k H' e⟩)
theorem aJ {op:CmpOp} {c:Bool} (ha:PE X a (dE X.K false τ (.d x))) (hb:PE X b (dE X.K false τ (.d y))) (ho:bF X (compareOp op) x y (.bl c)) (hm:behindInMarks op b=false:=by first | exact rN _ | rfl):PT X (.Compare a [op] [b] pos) (dT X.K τ c):=by
 obtain ⟨r,h1,h2⟩:=ho
 exact ptW (uG h1 ha hb hm) (tY (two h2))
theorem a7 {c:Bool} (h:PE X e (dE X.K false τ (.d (.bl c)))) (he:∀ whole,isTrue e X.env whole=(do let v <- whole; standAt e.pos; holding [v] (truthy v)):=by intro _; rfl):PT X e (dT X.K τ c):=
 ptW (rb h he) (tY λ_ _ _ q=>q)
theorem p4 {g:Int->Int->V} {P:Int->Int->Prop} {i j:Int} (hc:P i j) (hz:∀ K H,Den K H (g i j) z):∀ (M:Addr->Prop) (v w:V) (H:Hp) (Q:VK),(∀ b,M b->∃ o,H b=some o)->Den X.K (hd H M) v (.int i)->Den X.K (hd H M) w (.int j) ->
   (∀ u H',ah H H'->Den X.K (hd H' M) u z->Q u H')->rI P g v w H Q:=λ_ v w H Q _ d1 d2 k=>by
 cases d1
 cases d2
 exact ⟨i,j,rfl,rfl,hc,k _ H (ah.refl _) (hz _ _)⟩
theorem jW {g:Int->Int->V} {i j:Int} (hz:∀ K H,Den K H (g i j) z):∀ (M:Addr->Prop) (v w:V) (H:Hp) (Q:VK),(∀ b,M b->∃ o,H b=some o)->Den X.K (hd H M) v (.int i)->Den X.K (hd H M) w (.int j) ->
   (∀ u H',ah H H'->Den X.K (hd H' M) u z->Q u H')->rI0 g v w H Q:=λ_ v w H Q _ d1 d2 k=>by
 cases d1
 cases d2
 exact ⟨i,j,rfl,rfl,k _ H (ah.refl _) (hz _ _)⟩
variable {i j:Int}
theorem aW:bF X (binaryOp .Add) (.int i) (.int j) (.int (i + j)):=⟨_,vN,jW λ_ _=>.int⟩
theorem iH:bF X (binaryOp .Sub) (.int i) (.int j) (.int (i - j)):=⟨_,vS,jW λ_ _=>.int⟩
theorem aU.ok' {i j:Int} (h:aU i j):IntMulOk i j:=by
 have b:∀ {k:Int} {n:Nat},k.natAbs.log2 < n->Builtin.Int.intBits k<=n:=λ{k n} q=>by
   unfold Builtin.Int.intBits
   split
   · exact Nat.zero_le _
   · exact q
 rcases h with h | h | ⟨h1,h2⟩
 · exact .of_left (b h)
 · exact .of_right (b h)
 · exact .of_bits (Nat.le_trans (b h1) (by decide)) (Nat.le_trans (b h2) (by decide))
theorem bC (h:aU i j):bF X (binaryOp .Mult) (.int i) (.int j) (.int (i * j)):=⟨rI aU λi j=>.int (i * j),opI λ_ _ _ _ _ _ _ hc q=>mul_int q (aU.ok' hc),p4 h λ_ _=>.int⟩
theorem fY (h:aP j):bF X (binaryOp .FloorDiv) (.int i) (.int j) (.int (i.fdiv j)):=⟨rI (λ_ j=>aP j) λi j=>.int (i.fdiv j),opI λ_ _ _ _ _ _ _ hc q=>floordiv_int hc.1 q (.inl (PyProof.noPylong_of_log2 hc.2)),p4 h λ_ _=>.int⟩
theorem bB (h:j ≠ 0):bF X (binaryOp .Mod) (.int i) (.int j) (.int (i.fmod j)):=⟨_,uI,p4 h λ_ _=>.int⟩
theorem oC (h:x4 i j):bF X (binaryOp .Pow) (.int i) (.int j) (.int (i ^ j.toNat)):=⟨_,xH,p4 h λ_ _=>.int⟩
theorem xy:bF X (compareOp .Lt) (.int i) (.int j) (.bl (decide (i < j))):=⟨_,yF,jW λ_ _=>.bl⟩
theorem yR:bF X (compareOp .LtE) (.int i) (.int j) (.bl (decide (i<=j))):=⟨_,yW,jW λ_ _=>.bl⟩
theorem kZ:bF X (compareOp .Gt) (.int i) (.int j) (.bl (decide (j < i))):=⟨_,yf,jW λ_ _=>.bl⟩
theorem uf:bF X (compareOp .GtE) (.int i) (.int j) (.bl (decide (j<=i))):=⟨_,yX,jW λ_ _=>.bl⟩
theorem fq:bF X (compareOp .Eq) (.int i) (.int j) (.bl (decide (i=j))):=⟨_,vM,λ_ v w H Q _ d1 d2 k=>by
 cases d1
 cases d2
 exact ⟨rfl,by rw [show decide (V.int i=V.int j)=decide (i=j) by simp]; exact k _ H (ah.refl _) .bl⟩⟩
theorem sW:bF X (compareOp .NotEq) (.int i) (.int j) (.bl (!decide (i=j))):=⟨_,vy,λ_ v w H Q _ d1 d2 k=>by
 cases d1
 cases d2
 exact ⟨rfl,by rw [show decide (V.int i=V.int j)=decide (i=j) by simp]; exact k _ H (ah.refl _) .bl⟩⟩
theorem jC (h:PE X a (dE X.K C τ (.d (.int i)))):PE X (.UnaryOp .USub a pos) (dE X.K C τ (.d (.int (-i)))):=peW (yY wM h) λσ H Q q=>by
 obtain ⟨A,H₀,B,S,k⟩:=dJ q
 refine aT S λv H1 e1 d1=>?_
 cases d1
 exact ⟨i,rfl,k _ H1 e1 .int⟩
theorem oZ {e:Expr}:PE X e λ_ _ _=>False:=λ_ _ _ _ _ _ h=>h.elim
theorem pw_no {e:Expr}:PW X e λ_ _ _=>False:=λ_ _ _ _ _ _ _ h=>h.elim
variable {p q:Bool} {c:Expr} {rest:List Expr}
theorem gH {op} {s:Sl} (h:PE X a (dE X.K C τ s)):PE X (.BoolOp op [a] pos) (dE X.K C τ s):=wC h
theorem gE (ha:PE X a (dE X.K C τ (.d (.bl p)))) (hb:p=true->PE X (.BoolOp .And (b :: rest) pos) (dE X.K C τ (.d (.bl q)))):PE X (.BoolOp .And (a :: b :: rest) pos) (dE X.K C τ (.d (.bl (p && q)))):=by
 cases p with
 | false=>
   refine peW (tM ha oZ) λσ H Q z=>?_
   obtain ⟨A,H₀,B,S,k⟩:=dJ z
   exact aT S λv H' e d=>by cases d; exact ⟨_,rfl,k _ H' e .bl⟩
 | true=>
   refine peW (tM ha (hb rfl)) λσ H Q z=>?_
   obtain ⟨A,H₀,B,S,k⟩:=dJ z
   exact aT S λv H' e d=>by cases d; exact ⟨_,rfl,aT (S.mono e) λv H2 e2 d2=>k v H2 (e.trans e2) d2⟩
theorem zc (ha:PE X a (dE X.K C τ (.d (.bl p)))) (hb:p=false->PE X (.BoolOp .Or (b :: rest) pos) (dE X.K C τ (.d (.bl q)))):PE X (.BoolOp .Or (a :: b :: rest) pos) (dE X.K C τ (.d (.bl (p || q)))):=by
 cases p with
 | true=>
   refine peW (vj ha oZ) λσ H Q z=>?_
   obtain ⟨A,H₀,B,S,k⟩:=dJ z
   exact aT S λv H' e d=>by cases d; exact ⟨_,rfl,k _ H' e .bl⟩
 | false=>
   refine peW (vj ha (hb rfl)) λσ H Q z=>?_
   obtain ⟨A,H₀,B,S,k⟩:=dJ z
   exact aT S λv H' e d=>by cases d; exact ⟨_,rfl,aT (S.mono e) λv H2 e2 d2=>k v H2 (e.trans e2) d2⟩
theorem vq (ha:PE X a (dE X.K C τ (.d (.bl p)))):PE X (.UnaryOp .Not a pos) (dE X.K C τ (.d (.bl (!p)))):=peW (xC ha) λσ H Q z=>by
 obtain ⟨A,H₀,B,S,k⟩:=dJ z
 exact aT S λv H' e d=>by cases d; exact ⟨_,rfl,k _ H' e .bl⟩
theorem i7 (ha:PT X a (dT X.K τ p)):PW X (.BoolOp .And [a] pos) (dT X.K τ p):=pw_and1 ha
theorem dF (ha:PT X a (dT X.K τ p)):PW X (.BoolOp .Or [a] pos) (dT X.K τ p):=pw_or1 ha
theorem gC (ha:PT X a (dT X.K τ p)) (hb:p=true->PW X (.BoolOp .And (b :: rest) pos) (dT X.K τ q)):PW X (.BoolOp .And (a :: b :: rest) pos) (dT X.K τ (p && q)):=by
 cases p with
 | false=>exact pwW (pw_and ha pw_no) λσ H Q ⟨A,H₀,B,S,k⟩=>⟨A,H₀,B,S,λH' e=>nq (k H' e)⟩
 | true=>exact pwW (pw_and ha (hb rfl)) λσ H Q ⟨A,H₀,B,S,k⟩=>⟨A,H₀,B,S,λH' e=>nP (⟨A,H₀,B,S.mono e,λH2 e2=>k H2 (e.trans e2)⟩)⟩
theorem du (ha:PT X a (dT X.K τ p)) (hb:p=false->PW X (.BoolOp .Or (b :: rest) pos) (dT X.K τ q)):PW X (.BoolOp .Or (a :: b :: rest) pos) (dT X.K τ (p || q)):=by
 cases p with
 | true=>exact pwW (pw_or ha pw_no) λσ H Q ⟨A,H₀,B,S,k⟩=>⟨A,H₀,B,S,λH' e=>nP (k H' e)⟩
 | false=>exact pwW (pw_or ha (hb rfl)) λσ H Q ⟨A,H₀,B,S,k⟩=>⟨A,H₀,B,S,λH' e=>nq (⟨A,H₀,B,S.mono e,λH2 e2=>k H2 (e.trans e2)⟩)⟩
theorem bg (ha:PT X a (dT X.K τ p)):PT X (.UnaryOp .Not a pos) (dT X.K τ (!p)):=ptW (sI ha) λσ H Q ⟨A,H₀,B,S,k⟩=>⟨A,H₀,B,S,λH' e=>k H' e⟩
theorem jV {s:Sl} (hc:PT X c (dT X.K τ p)) (ha:p=true->PE X a (dE X.K C τ s)) (hb:p=false->PE X b (dE X.K C τ s)):PE X (.IfExp c a b pos) (dE X.K C τ s):=by
 have fin:∀ {σ H H' Q} {A:Addr->Prop} {H₀ B},Sta X.K A H₀ τ B σ H->(∀ v H' bs,ah H H'->Fr H H' bs->bx X.K (hd H' λb=>vw C A B b\/b ∈ bs) H' (some v) bs s->Q v H')->ah H H'->dE X.K C τ s σ H' Q:=λS k e=>
   ⟨_,_,_,S.mono e,λv H2 bs e2 hf h=>k v H2 bs (e.trans e2) (λb hb=>⟨e.free (hf b hb).1,(hf b hb).2⟩) h⟩
 cases p with
 | true=>exact peW (lL hc (ha rfl) oZ) λσ H Q ⟨A,H₀,B,S,k⟩=>⟨A,H₀,B,S,λH' e=>nP (fin S k e)⟩
 | false=>exact peW (lL hc oZ (hb rfl)) λσ H Q ⟨A,H₀,B,S,k⟩=>⟨A,H₀,B,S,λH' e=>nq (fin S k e)⟩
theorem uR {op op':CmpOp} (ha:PE X a (dE X.K C τ (.d x))) (hb:PE X b (dE X.K C τ (.d y))) (hc:PE X c (dE X.K C τ (.d z))) (h1:bF X (compareOp op) x y (.bl p)) (h2:bF X (compareOp op') y z (.bl q))
   (hm:lastMarks [op,op'] [b,c]=false:=by with_unfolding_all rfl):PE X (.Compare a [op,op'] [b,c] pos) (dE X.K C τ (.d (.bl (p && q))))/\(C=false->PT X (.Compare a [op,op'] [b,c] pos) (dT X.K τ (p && q))):=by
 obtain ⟨r,o1,k1⟩:=h1
 obtain ⟨r',o2,k2⟩:=h2
 have key:∀ σ H Q,dE X.K C τ (.d (.bl (p && q))) σ H Q->nH r r' (dE X.K C τ (.d x)) (dE X.K C τ (.d y)) (dE X.K C τ (.d z)) σ H Q:=λσ H Q h=>by
   obtain ⟨A,H₀,B,S,k⟩:=dJ h
   refine aT S λv H1 e1 d1=>aT (S.mono e1) λw H2 e2 d2=>k1 (vw C A B) v w H2 _ ((S.mono e1).mono e2).vd (d1.mono (au e2 λ_ z=>z)) d2 λu H3 e3 d3=>?_
   cases d3
   refine ⟨p,rfl,?_⟩
   cases p with
   | false=>exact nq (k _ H3 (e1.trans (e2.trans e3)) .bl)
   | true=>exact nP (aT (((S.mono e1).mono e2).mono e3) λw' H4 e4 d4=>k2 (vw C A B) w w' H4 Q ((((S.mono e1).mono e2).mono e3).mono e4).vd (d2.mono (au (e3.trans e4) λ_ z=>z)) d4 λu H5 e5 d5=>k u H5 (e1.trans (e2.trans (e3.trans (e4.trans e5)))) d5)
 exact ⟨peW (tq o1 o2 ha hb hc hm) key,λhC=>by subst hC; exact ptW (rR o1 o2 ha hb hc hm) (tY key)⟩
theorem ag:PA X [] (dA X.K C τ []):=paW cu λσ H Q ⟨A,H₀,B,S,k⟩=>k [] H (ah.refl _) .nil
theorem ae {ds:List D} (ha:PE X e (dE X.K C τ (.d x))) (hr:PA X es (dA X.K C τ ds)) (hs:starEach (e :: es) X.env=(false,eval e X.env) :: starEach es X.env:=by rfl):PA X (e :: es) (dA X.K C τ (x :: ds)):=paW (br ha hr hs) λσ H Q ⟨A,H₀,B,S,k⟩=>
 aT S λv H1 e1 d1=>d9 (S.mono e1) λvs H2 e2 d2=>k _ H2 (e1.trans e2) (.cons (d1.mono (au e2 λ_ z=>z)) d2)
theorem dC {ds:List D} {m} (h:PA X es (dA X.K C τ ds)) (hl:Nat.ble ds.length 1000=true:=by rfl):PE X (.Tuple es m pos) (dE X.K C τ (.d (.tup ds))):=peW (rd h) λσ H Q q=>by
 obtain ⟨A,H₀,B,S,k⟩:=dJ q
 refine d9 S λvs H1 e1 d1=>⟨by rw [d1.length]; exact Nat.le_of_lt (gi (Nat.le_of_ble_eq_true hl)),λp hp=>k _ _ (e1.trans (aq hp _)) ?_⟩
 exact .tup (SqT.of (iA (S.mono e1).vd hp)) (d1.mono (au (aq hp _) λ_ z=>z))
theorem aL {ds:List D} (h:PA X es (dA X.K C τ ds)) (hl:Nat.ble ds.length 1000=true:=by rfl):PE X (.List es pos) (dE X.K C τ (.o ds)):=peW (xw h) λσ H Q ⟨A,H₀,B,S,k⟩=>
 d9 S λvs H1 e1 d1=>⟨by rw [d1.length]; exact Nat.le_of_lt (gi (Nat.le_of_ble_eq_true hl)),λp hp=>k _ _ [p] (e1.trans (aq hp _)) (λb hb=>by
   obtain rfl:=List.mem_singleton.mp hb
   exact ⟨e1.free hp,_,aw⟩) ⟨p,vs,rfl,rfl,aw,d1.mono λb o z=>by
     obtain ⟨z1,z2⟩:=ai.mp z
     refine ai.mpr ⟨λy=>?_,aq hp _ _ _ z2⟩
     rcases y with y | y
     · exact z1 y
     · rw [List.mem_singleton.mp y] at z2; rw [hp] at z2; cases z2⟩⟩
end
noncomputable def spD (K:PySem.W.Frag) (Φ:List D->Sl->Prop):Sp:=λvs H Q _=>∃ A ds s,(∀ b,A b->∃ o,H b=some o)/\ar K (hd H A) vs ds/\Φ ds s /\
 ∀ v H' bs,ah H H'->Fr H H' bs->bx K (hd H' λb=>A b\/b ∈ bs) H' (some v) bs s->Q v H'
noncomputable def Cal (P:Program) (w:World) (K:PySem.W.Frag) (mg:Str->Option Value) (base:Heap) (k:Nat) (n:Str) (Φ:List D->Sl->Prop):Prop:=
 ∃ f fd ps,aQ P w K mg base CX0 k f fd ps (spD K Φ)/\mg n=some (.ref f)/\PySem.W.keepIn K (.ref f)=true/\Binds K fd ps []
theorem Cal.mono {P:Program} {w:World} {K:PySem.W.Frag} {mg:Str->Option Value} {base:Heap} {j k:Nat} {n:Str} {Φ:List D->Sl->Prop} (c:Cal P w K mg base j n Φ) (h:j<=k):Cal P w K mg base k n Φ:=
 let ⟨f,fd,ps,F,r⟩:=c; ⟨f,fd,ps,F.mono h,r⟩
noncomputable def ak:List Str:=["len","abs","max","min","int","bool","list","tuple","str","isinstance","range","enumerate","all","zip","sorted","sum","any","reversed"]
structure Bk (X:Cx) (k:Nat):Prop where
 room:dB k X.A
 calm:X.calm=true
 blt:∀ x ∈ ak,X.mg x=none
 po:PassesOwn (model X.prog X.w) X.A X.env X.xe
section
variable {X:Cx} {C:Bool} {τ:List Sl} {x y z:D} {a b e:Expr} {es:List Expr} {pos p:Pos} {k:Nat} {s:Sl} {ds:List D} {i j:Int}
theorem x_call {n:Str} {Φ:List D->Sl->Prop} (B:Bk X k) (c:Cal X.prog X.w X.K X.mg X.base k n Φ) (ha:PA X (e :: es) (dA X.K C τ ds)) (h:Φ ds s) (hg:Gl X n:=by rfl) (hdb:(n == ("__debug__" : Str))=false:=by decide)
   (he:starEach (e :: es) X.env=(false,eval e X.env) :: starEach es X.env:=by rfl) (hpl:(backTo pos (starEach es X.env)).any (·.1)=false:=by rfl):PE X (.Call (.Name n p) (e :: es) [] pos) (dE X.K C τ s):=by
 obtain ⟨f,fd,ps,F,hm,hk,hb⟩:=c
 refine peW (oJ F B.room hg hm hk hb .nil vk ha hdb he hpl) λσ H Q ⟨A,H₀,B,S,q⟩=>d9 S λvs H1 e1 d1=>?_
 rw [List.append_nil]
 exact ⟨vw C A B,ds,s,(S.mono e1).vd,d1,h,λv H' bs e2 hf h2=>q v H' bs (e1.trans e2) (λb hb=>⟨e1.free (hf b hb).1,(hf b hb).2⟩) h2⟩
noncomputable def fK (X:Cx) (f:Value) (ds:List D) (s:Sl):Prop:=∃ r:List V->Hp->VK->Prop,bP X f r /\
 ∀ (M:Addr->Prop) (vs:List V) (H:Hp) (Q:VK),(∀ b,M b->∃ o,H b=some o)->ar X.K (hd H M) vs ds->(∀ u H' bs,ah H H'->Fr H H' bs->bx X.K (hd H' λb=>M b\/b ∈ bs) H' (some u) bs s->Q u H')->r vs H Q
theorem sR {r:List V->Hp->VK->Prop} (hr:∀ (M:Addr->Prop) (vs:List V) (H:Hp) (Q:VK),(∀ b,M b->∃ o,H b=some o)->ar X.K (hd H M) vs ds->(∀ u H' bs,ah H H'->Fr H H' bs->bx X.K (hd H' λb=>M b\/b ∈ bs) H' (some u) bs s->Q u H')->r vs H Q) :
   ∀ σ H Q,dE X.K C τ s σ H Q->tCB r (dA X.K C τ ds) σ H Q:=λσ H Q ⟨A,H₀,B,S,q⟩=>
 d9 S λvs H1 e1 d1=>hr (vw C A B) vs H1 Q (S.mono e1).vd d1 λv H' bs e2 hf h2=>q v H' bs (e1.trans e2) (λb hb=>⟨e1.free (hf b hb).1,(hf b hb).2⟩) h2
theorem bR {n:Str} {id:String} (B:Bk X k) (ha:PA X (e :: es) (dA X.K C τ ds)) (c:fK X (.builtin id) ds s) (hn:n ∈ ak:=by decide) (hg:Gl X n:=by rfl) (hv:bootBuiltins n=some (.builtin id):=by decide +kernel) (h1:n ≠ "__name__":=by decide) (hdb:(n == ("__debug__" : Str))=false:=by decide)
   (he:starEach (e :: es) X.env=(false,eval e X.env) :: starEach es X.env:=by rfl) (hpl:(backTo pos (starEach es X.env)).any (·.1)=false:=by rfl):PE X (.Call (.Name n p) (e :: es) [] pos) (dE X.K C τ s):=by
 obtain ⟨r,h1,h2⟩:=c
 exact peW (fB h1 hg (B.blt _ hn) hv ha (by assumption) hdb he hpl) (sR h2)
theorem mL {n:Str} {T:String} (B:Bk X k) (ha:PA X (e :: es) (dA X.K C τ ds)) (c:fK X (.type T) ds s) (hn:n ∈ ak:=by decide) (hg:Gl X n:=by rfl) (hv:bootBuiltins n=some (.type T):=by decide +kernel) (h1:n ≠ "__name__":=by decide) (hdb:(n == ("__debug__" : Str))=false:=by decide)
   (he:starEach (e :: es) X.env=(false,eval e X.env) :: starEach es X.env:=by rfl) (hpl:(backTo pos (starEach es X.env)).any (·.1)=false:=by rfl):PE X (.Call (.Name n p) (e :: es) [] pos) (dE X.K C τ s):=by
 obtain ⟨r,h1,h2⟩:=c
 exact peW (qB h1 hg (B.blt _ hn) hv ha (by assumption) hdb he hpl) (sR h2)
theorem fQ {K:PySem.W.Frag} {H:Hp} {M:Addr->Prop} {v:V} (h:Den K (hd H M) v x):bx K (hd H λb=>M b\/b ∈ ([]:List Addr)) H (some v) [] (.d x):=⟨rfl,v,rfl,h.mono (au (ah.refl _) λ_ z=>z.elim id λz=>nomatch z)⟩
theorem cn {H H':Hp}:Fr H H' []:=λ_ z=>nomatch z
theorem jz {xs:List D}:fK X (.builtin "len") [.lst xs] (.d (.int xs.length)):=⟨_,fS,λM vs H Q _ d q=>by
 cases d with
 | cons d r=>
   cases r
   cases d with
   | lst h r=>
     refine ⟨_,_,rfl,.inl (aA az h),?_⟩
     rw [r.length]
     exact q _ H [] (ah.refl _) cn (fQ .int)⟩
theorem ir {xs:List D}:fK X (.builtin "len") [.tup xs] (.d (.int xs.length)):=⟨_,fS,λM vs H Q _ d q=>by
 cases d with
 | cons d r=>
   cases r
   cases d with
   | tup h r=>
     refine ⟨_,_,rfl,.inr (aO az h),?_⟩
     rw [r.length]
     exact q _ H [] (ah.refl _) cn (fQ .int)⟩
noncomputable def uc (i:Int):Int:=if i < 0 then -i else i
theorem lh:fK X (.builtin "abs") [.int i] (.d (.int (uc i))):=⟨_,t8,λM vs H Q _ d q=>by
 cases d with
 | cons d r=>
   cases r
   cases d
   exact ⟨_,rfl,q _ H [] (ah.refl _) cn (fQ .int)⟩⟩
theorem yg (hc:X.calm=true):fK X (.builtin "max") [.int i,.int j] (.d (.int (if j > i then j else i))):=⟨_,qE hc,λM vs H Q _ d q=>by
 cases d with
 | cons d r=>
   cases r with
   | cons d' r=>
     cases r
     cases d
     cases d'
     exact ⟨_,_,rfl,q _ H [] (ah.refl _) cn (fQ .int)⟩⟩
theorem ye (hc:X.calm=true):fK X (.builtin "min") [.int i,.int j] (.d (.int (if j < i then j else i))):=⟨_,qw hc,λM vs H Q _ d q=>by
 cases d with
 | cons d r=>
   cases r with
   | cons d' r=>
     cases r
     cases d
     cases d'
     exact ⟨_,_,rfl,q _ H [] (ah.refl _) cn (fQ .int)⟩⟩
theorem vi {c:Bool}:fK X (.type "int") [.bl c] (.d (.int (if c then 1 else 0))):=⟨_,qo,λM vs H Q _ d q=>by
 cases d with
 | cons d r=>
   cases r
   cases d
   exact .inr ⟨_,rfl,q _ H [] (ah.refl _) cn (fQ .int)⟩⟩
theorem gz {K:PySem.W.Frag} {H:Hp} {M:Addr->Prop} {p:Addr} {vs:List V} {xs:List D} (hp:H p=none) (d:ar K (hd H M) vs xs) :
   ah H (upd H p (.lst vs))/\Fr H (upd H p (.lst vs)) [p]/\bx K (hd (upd H p (.lst vs)) λb=>M b\/b ∈ [p]) (upd H p (.lst vs)) (some (.ref p)) [p] (.o xs):=
 ⟨aq hp _,λb hb=>by
   obtain rfl:=List.mem_singleton.mp hb
   exact ⟨hp,_,aw⟩,p,vs,rfl,rfl,aw,d.mono λb o z=>by
     obtain ⟨z1,z2⟩:=ai.mp z
     refine ai.mpr ⟨λy=>?_,aq hp _ _ _ z2⟩
     rcases y with y | y
     · exact z1 y
     · rw [List.mem_singleton.mp y] at z2; rw [hp] at z2; cases z2⟩
theorem oi {xs:List D}:fK X (.type "list") [.lst xs] (.o xs):=⟨_,k7,λM vs H Q _ d q=>by
 cases d with
 | cons d r=>
   cases r
   cases d with
   | lst h r=>
     refine ⟨_,_,rfl,.inl (aA az h),λp hp=>?_⟩
     obtain ⟨z1,z2,z3⟩:=gz (K:=X.K) (M:=M) hp r
     exact q _ _ [p] z1 z2 z3⟩
theorem nc {K:PySem.W.Frag} {H:Hp} {vs:List V} {ds:List D} {i:Int} {d:D} (r:ar K H vs ds) (h:atI ds i=some d):∃ v,atI vs i=some v/\Den K H v d:=by
 unfold atI at h ⊢
 rw [r.length]
 cases e:ixN ds.length i with
 | none=>rw [e] at h; cases h
 | some j=>rw [e] at h; exact r.get h
noncomputable def xl (X:Cx) (x y z:D):Prop:=∃ r:R2,IxR X r /\
 ∀ (M:Addr->Prop) (v w:V) (H:Hp) (Q:VK),(∀ b,M b->∃ o,H b=some o)->Den X.K (hd H M) v x->Den X.K (hd H M) w y->(∀ u H',ah H H'->Den X.K (hd H' M) u z->Q u H')->r v w H Q
theorem aC (ha:PE X a (dE X.K C τ (.d x))) (hb:PE X b (dE X.K C τ (.d y))) (ho:xl X x y z) (hs:g0 b:=by exact λ_ _=>rfl):PE X (.Subscript a b pos) (dE X.K C τ (.d z)):=by
 obtain ⟨r,h1,h2⟩:=ho
 exact peW (r6 h1 ha hb hs) (two h2)
theorem aS {xs:List D} (h:atI xs i=some z):xl X (.lst xs) (.int i) z:=⟨_,kc,λM v w H Q _ d1 d2 q=>by
 cases d2
 cases d1 with
 | lst hs r=>
   obtain ⟨v,e,d⟩:=nc r h
   exact ⟨_,_,_,_,rfl,rfl,aA az hs,e,q _ H (ah.refl _) d⟩⟩
theorem aE {xs:List D} (h:atI xs i=some z):xl X (.tup xs) (.int i) z:=⟨_,wN,λM v w H Q _ d1 d2 q=>by
 cases d2
 cases d1 with
 | tup hs r=>
   obtain ⟨v,e,d⟩:=nc r h
   exact ⟨_,_,_,_,rfl,rfl,aO az hs,e,q _ H (ah.refl _) d⟩⟩
theorem x6 (n:Nat) {nm:Str} {xs:List D} (hb:PE X b (dE X.K false τ (.d (.int i)))) (hz:atI xs i=some z) (h:τ[n]?=some (.o xs):=by rfl) (hs:g0 b:=by exact λ_ _=>rfl) (hN:X.N[n]?=some nm:=by rfl)
   (hv:Vis X.env.scope nm:=by first | exact Or.inl rfl | exact Or.inr (Or.inl rfl) | exact Or.inr (Or.inr rfl)) (hd:(nm == ("__debug__" : Str))=false:=by decide) (hcd:(nm == ("__classdict__" : Str))=false:=by decide):PE X (.Subscript (.Name nm p) b pos) (dE X.K C τ (.d z)):=
 peW (r6 kc (bw (i:=n) hN hv hd hcd) hb hs) λσ H Q q=>by
   obtain ⟨A,H₀,B,S,k⟩:=dJ q
   obtain ⟨l,vs,hb,e1,e2,d⟩:=S.sl n _ h
   refine ⟨_,slot_of e1,aT S λw H1 e3 d1=>?_⟩
   cases d1
   obtain ⟨v,e4,d4⟩:=nc d hz
   exact ⟨l,vs,i,v,rfl,rfl,SqL.of (e3 _ _ e2),e4,k v H1 e3 (d4.mono (au e3 λ_ z=>iQ z))⟩
noncomputable def dO (K:PySem.W.Frag) (τ:List Sl) (c:Option Int):TO:=λσ H Q=>∃ A H₀ B,Sta K A H₀ τ B σ H/\∀ H',ah H H'->Q c H'
theorem zj {e:Option Expr} {t t':TO} (h:PO X e t) (f:∀ σ H Q,t' σ H Q->t σ H Q):PO X e t':=λpins s σ H Q I q=>h pins s σ H Q I (f σ H Q q)
theorem sD (h:PE X e (dE X.K false τ (.d (.int i)))):PO X (some e) (dO X.K τ (some i)):=zj (uk h) λσ H Q ⟨A,H₀,B,S,k⟩=>aT S λv H1 e1 d1=>by
 cases d1
 exact ⟨_,rfl,k H1 e1⟩
noncomputable def cutD (xs:List D) (lo hi:Option Int):List D:=(xs.drop (HT.sIx xs.length 0 lo)).take (HT.sIx xs.length xs.length hi - HT.sIx xs.length 0 lo)
theorem y6 {lo hi:Option Expr} {l u:Option Int} {xs:List D} {p2:Pos} (ha:PE X a (dE X.K C τ (.d (.lst xs)))) (hl:PO X lo (dO X.K τ l)) (hu:PO X hi (dO X.K τ u)):PE X (.Subscript a (.Slice lo hi none p2) pos) (dE X.K C τ (.o (cutD xs l u))):=
 peW (tu uQ ha hl hu) λσ H Q ⟨A,H₀,B,S,k⟩=>aT S λv H1 e1 d1=>⟨A,H₀,B,S.mono e1,λH2 e2=>⟨A,H₀,B,(S.mono e1).mono e2,λH3 e3=>by
   cases d1 with
   | @lst _ ws _ h r=>
     have h:=aA (e2.trans e3) (aA az h)
     refine ⟨_,_,rfl,h,λp hp=>?_⟩
     have r:=r.mono (au (e2.trans e3) λ_ z=>z)
     have r':ar X.K (hd H3 (vw C A B)) (qC ws l u) (cutD xs l u):=by
       unfold qC cutD
       rw [r.length]
       exact (r.drop _).take _
     obtain ⟨z1,z2,z3⟩:=gz (K:=X.K) hp r'
     exact k _ _ [p] (e1.trans (e2.trans (e3.trans z1))) (λb hb=>⟨(e1.trans (e2.trans e3)).free (z2 b hb).1,(z2 b hb).2⟩) z3⟩⟩
inductive Ty where
 | int | bool | str | list | tuple
noncomputable def tyN:Ty->String
 | .int=>"int" | .bool=>"bool" | .str=>"str" | .list=>"list" | .tuple=>"tuple"
noncomputable def yD:D->String
 | .non=>"NoneType" | .bl _=>"bool" | .int _=>"int" | .str _=>"str" | .tup _=>"tuple" | .lst _=>"list" | .box _=>"dict"
noncomputable def jr:Ty->D->Bool
 | .int,.int _=>true
 | .int,.bl _=>true
 | .bool,.bl _=>true
 | .str,.str _=>true
 | .list,.lst _=>true
 | .tuple,.tup _=>true
 | _,_=>false
theorem wD (K:PySem.W.Frag) (d:D) (t:Ty):PySem.W.kitOne K (.type (yD d)) (.type (tyN t))=some (jr t d):=by
 cases d <;> cases t <;> (show PySem.W.kitOne K (.type _) (.type _)=some _) <;> with_unfolding_all rfl
theorem v9 (t:Ty):bP X (.builtin "isinstance") (λxs H Q=>∃ G x d,ah G H/\xs=[x,.ty (tyN t)]/\Den X.K G x d/\Q (.bl (jr t d)) H):=by
 intro pins s σ H xs us Q I r q
 obtain ⟨G,x,d,sg,rfl,dx,q⟩:=q
 obtain ⟨u,w,rfl,rx,rt⟩:∃ u w,us=[u,w]/\RelV x u/\RelV (.ty (tyN t)) w:=by
   cases r with
   | cons r1 r=>cases r with
     | cons r2 r=>cases r; exact ⟨_,_,rfl,r1,r2⟩
 cases (show w=Value.type (tyN t) from rt)
 have kt:=wD X.K d t
 have fin:∀ tk,EP X pins σ Q (.bool (jr t d)) { s with toks:=tk }:=λtk=>⟨.bl _,H,I.tok _,rfl,q⟩
 cases dx with
 | non=>cases (show u=Value.none from rx); exact PySem.W.kia_one PySem.W.kitx_none I.kIn True.intro kt (λz=>nomatch z) fin
 | bl=>cases (show u=Value.bool _ from rx); exact PySem.W.kia_one PySem.W.kitx_bool I.kIn True.intro kt (λz=>nomatch z) fin
 | int=>obtain ⟨t',z⟩:=(show ∃ t,u=Value.int _ t from rx); cases z; exact PySem.W.kia_one PySem.W.kitx_int I.kIn True.intro kt (λz=>nomatch z) fin
 | str=>obtain ⟨t',z⟩:=(show ∃ t,u=Value.str _ t from rx); cases z; exact PySem.W.kia_one PySem.W.kitx_str I.kIn True.intro kt (λz=>nomatch z) fin
 | tup h r1=>
   cases (show u=Value.ref _ from rx)
   obtain ⟨its,_,⟨o,h1,h2,_⟩,_⟩:=I.tuple (aO sg h)
   exact PySem.W.kia_one PySem.W.kitx_tuple I.kIn ⟨o,h1,h2⟩ kt (λz=>nomatch z) fin
 | lst h r1=>
   cases (show u=Value.ref _ from rx)
   obtain ⟨its,_,⟨o,n,h1,h2,_⟩,_⟩:=I.list (aA sg h)
   exact PySem.W.kia_one PySem.W.kitx_list I.kIn ⟨o,h1,h2⟩ kt (λz=>nomatch z) fin
 | @box a x h=>
   cases (show u=Value.ref _ from rx)
   obtain ⟨o',h1,h2⟩:=x.isd h
   obtain ⟨o,h3,h4⟩:=h2 _ _ _ _ (I.hok a _ (sg _ _ h1))
   exact PySem.W.kia_one PySem.W.kitx_dict I.kIn ⟨o,h3,h4⟩ kt (λz=>nomatch z) fin
theorem cS {n:Str} {q:Pos} (t:Ty) (B:Bk X k) (ha:PE X a (dE X.K false τ (.d x))) (hn:n ∈ ak:=by decide) (ht:bootBuiltins n=some (.type (tyN t)):=by decide +kernel) (hg:Gl X "isinstance":=by rfl) (hg':Gl X n:=by rfl) (h1:n ≠ "__name__":=by decide) (hdb:(n == ("__debug__" : Str))=false:=by decide)
   (he:starEach [a,.Name n q] X.env=(false,eval a X.env) :: starEach [.Name n q] X.env:=by rfl) (hpl:(backTo pos (starEach [.Name n q] X.env)).any (·.1)=false:=by rfl):PE X (.Call (.Name "isinstance" p) [a,.Name n q] [] pos) (dE X.K C τ (.d (.bl (jr t x)))):=by
 refine peW (fB (v9 t) hg (B.blt _ (by decide)) (by decide +kernel) (br ha (br (uZ (v:=.ty (tyN t)) hg' (B.blt _ hn) ht rfl h1 hdb) cu) he) (by decide) (by decide) he hpl) λσ H Q q=>?_
 obtain ⟨A,H₀,B,S,k⟩:=dJ q
 exact aT S λv H1 e1 d1=>⟨_,v,x,az,rfl,d1,k _ H1 e1 .bl⟩
end
section
variable {K:PySem.W.Frag} {A:Addr->Prop} {H₀ H H':Hp} {τ:List Sl} {B:Nat->List Addr} {σ:L2.St}
theorem Sta.put (S:Sta K A H₀ τ B σ H) {i:Nat} {a:Addr} {xs ys:List D} {vs:List V} (hi:τ[i]?=some (.o xs)) (hB:B i=[a]) (d:ar K (hd H (own A B)) vs ys):Sta K A H₀ (τ.set i (.o ys)) B σ (upd H a (.lst vs)):=by
 have ha:own A B a:=.inr ⟨i,by rw [hB]; exact List.mem_singleton.mpr rfl⟩
 have ne:∀ b,b ≠ a->upd H a (.lst vs) b=H b:=λb h=>ao h
 have sm:ah (hd H (own A B)) (hd (upd H a (.lst vs)) (own A B)):=λb o z=>by
   obtain ⟨z1,z2⟩:=ai.mp z
   exact ai.mpr ⟨z1,by rw [ne b (λe=>z1 (e ▸ ha))]; exact z2⟩
 have f0:H₀ a=none:=S.fr i a (by rw [hB]; exact List.mem_singleton.mpr rfl)
 have hs:ah H₀ (upd H a (.lst vs)):=λb o z=>by rw [ne b (λe=>by rw [e,f0] at z; cases z)]; exact S.same b o z
 refine ⟨hs,by rw [List.length_set,S.len],λj t hj=>?_,S.fr,S.uq,S.ad,λj b hb=>?_⟩
 · by_cases ej:j=i
   · subst ej
     have hl:=(List.getElem?_eq_some_iff.mp hi).1
     rw [List.getElem?_set_self hl] at hj
     cases hj
     obtain ⟨a',vs',e1,e2,_,_⟩:=S.sl j _ hi
     rw [hB] at e1
     cases e1
     exact ⟨a,vs,hB,e2,aw,d.mono sm⟩
   · rw [List.getElem?_set_ne (λz=>ej z.symm)] at hj
     have q:=S.sl j t hj
     have off:∀ b ∈ B j,b ≠ a:=λb hb e=>ej (S.uq j i a (e ▸ hb) (by rw [hB]; exact List.mem_singleton.mpr rfl))
     cases t with
     | un=>exact q
     | d x=>obtain ⟨z,u,e,d⟩:=q; exact ⟨z,u,e,d.mono sm⟩
     | o zs=>
       obtain ⟨c,ws,z1,z2,z3,z4⟩:=q
       exact ⟨c,ws,z1,z2,by rw [ne c (off c (by rw [z1]; exact List.mem_singleton.mpr rfl))]; exact z3,z4.mono sm⟩
     | n t=>
       obtain ⟨z0,u,z1,z2⟩:=q
       exact ⟨z0,u,z1,z2.frame sm λb hb=>ne b (off b hb)⟩
     | x E=>
       obtain ⟨c,o,z1,z2,z3,z4⟩:=q
       exact ⟨c,o,z1,z2,by rw [ne c (off c (by rw [z1]; exact List.mem_singleton.mpr rfl))]; exact z3,E.mono sm z4⟩
 · by_cases e:b=a
   · subst e; exact ⟨_,aw⟩
   · rw [ne b e]; exact S.bd j b hb
theorem Sta.fz (S:Sta K A H₀ τ B σ H) {i:Nat} {s:Sl} {x:D} (hi:τ[i]?=some s) (hx:fzD s=some x):Sta K A H₀ (τ.set i (.d x)) (upB B i []) σ H:=
 S.less (λ_ z=>nomatch z) λG g hv=>by
   obtain ⟨u,e,d⟩:=(S.sl i s hi).den (G':=G) g (λb hb o ho=>hv b o hb (λz=>nomatch z) ho) hx
   exact ⟨rfl,u,e,d⟩
theorem Sta.un (S:Sta K A H₀ τ B σ H) (i:Nat):Sta K A H₀ (τ.set i .un) (upB B i []) σ H:=S.less (λ_ z=>nomatch z) λG g hv=>rfl
end
section
variable {X:Cx} {C:Bool} {τ:List Sl} {x y z:D} {a b e c:Expr} {es:List Expr} {pos p:Pos} {k:Nat} {s:Sl} {ds:List D} {N:Po} {st:Stmt} {rest body els:List Stmt}
theorem aN (h:N.nx τ):PSs X [] (dS X.K τ N):=mV ku λD σ H ⟨A,H₀,B,S,M⟩=>M.nx τ B σ H h S
theorem bp {M:List Sl->Prop} (h1:PS X st (dS X.K τ { N with nx:=M })) (h2:∀ τ',M τ'->PSs X rest (dS X.K τ' N)):PSs X (st :: rest) (dS X.K τ N):=by
 have h:PSs X rest λD σ H=>∃ τ',M τ'/\dS X.K τ' N D σ H:=λpins s σ H D I ⟨τ',m,q⟩=>h2 τ' m pins s σ H D I q
 exact mV (mW h1 h) λD σ H ⟨A,H₀,B,S,Me⟩=>⟨A,H₀,B,S,λτ' B' σ' H' m S'=>⟨τ',m,A,H₀,B',S',Me⟩,Me.bk,Me.ct,Me.rt,Me.xc⟩
theorem qY (i:Nat) {s:Sl} {x:D} (h:PSs X rest (dS X.K (τ.set i (.d x)) N)) (hi:τ[i]?=some s:=by rfl) (hx:fzD s=some x:=by rfl):PSs X rest (dS X.K τ N):=mV h λD σ H ⟨A,H₀,B,S,Me⟩=>⟨A,H₀,_,S.fz hi hx,Me⟩
theorem ay (i:Nat) {n:Str} {p:Pos} (hN:X.N.Nodup) (he:PE X e (dE X.K true τ s)) (hr:PSs X rest (dS X.K (τ.set i s) N)) (hi:X.N[i]?=some n:=by rfl) (hx:Loc X.env.scope n:=by first | exact .inl rfl | exact .inr rfl) (hs:swapsWith e (some (.Name n p)) pos.line X.env=pure false:=by rfl)
   (hf:X.fn n=true\/X.env.scope.names.lookup n=some .local:=by first | exact .inl rfl | exact .inr rfl | assumption):PSs X (.Assign [.Name n p] e pos :: rest) (dS X.K τ N):=
 bp (M:=(·=τ.set i s)) (psW (wx hN hi hx he hs hf) λD σ H ⟨A,H₀,B,S,Me⟩=>⟨A,H₀,B,S,λv H' bs e hf h=>Me.nx _ _ _ _ rfl (S.set e hf h)⟩) λ_ e=>e ▸ hr
theorem nY (he:PE X e (dE X.K true τ s)) (hr:PSs X rest (dS X.K τ N)) (hs:swapsWith e none pos.line X.env=pure false:=by rfl):PSs X (.Expr e pos :: rest) (dS X.K τ N):=
 bp (M:=(·=τ)) (psW (eA he hs) λD σ H ⟨A,H₀,B,S,Me⟩=>⟨A,H₀,B,S,λv H' bs e hf h=>Me.nx _ _ _ _ rfl (S.mono e)⟩) λ_ e=>e ▸ hr
theorem aG (he:PE X e (dE X.K false τ s)) (h:N.rt s):PSs X (.Return (some e) pos :: rest) (dS X.K τ N):=
 bp (M:=λ_=>False) (psW (nL he) λD σ H ⟨A,H₀,B,S,Me⟩=>⟨A,H₀,B,S,λv H' bs e hf q=>Me.rt v H' bs s h (S.same.trans e) (λb hb=>⟨S.same.free (hf b hb).1,(hf b hb).2⟩) q⟩) λ_ e=>e.elim
theorem kf (i:Nat) {n:Str} (h:N.rt s) (hi:τ[i]?=some s:=by rfl) (h0:s ≠ .un:=by exact nofun) (hN:X.N[i]?=some n:=by rfl) (hv:Vis X.env.scope n:=by first | exact Or.inl rfl | exact Or.inr (Or.inl rfl) | exact Or.inr (Or.inr rfl))
   (hd:(n == ("__debug__" : Str))=false:=by decide) (hcd:(n == ("__classdict__" : Str))=false:=by decide):PSs X (.Return (some (.Name n p)) pos :: rest) (dS X.K τ N):=
 bp (M:=λ_=>False) (psW (nL (bw hN hv hd hcd)) λD σ H ⟨A,H₀,B,S,Me⟩=>by
   have q:=S.sl i s hi
   obtain ⟨u,e⟩:∃ u,(σ[i]?).join=some u:=by
     cases s with
     | un=>exact absurd rfl h0
     | d x=>obtain ⟨_,u,e,_⟩:=q; exact ⟨u,e⟩
     | o xs=>obtain ⟨_,_,_,e,_⟩:=q; exact ⟨_,e⟩
     | n t=>obtain ⟨_,u,e,_⟩:=q; exact ⟨u,e⟩
     | x E=>obtain ⟨_,_,_,e,_⟩:=q; exact ⟨_,e⟩
   rw [e] at q
   exact ⟨u,slot_of e,Me.rt u H (B i) s h S.same (λb hb=>⟨S.fr i b hb,S.bd i b hb⟩) (q.mono (au (ah.refl _) λb z=>z.elim .inl λz=>.inr ⟨i,z⟩) (ah.refl _))⟩) λ_ e=>e.elim
theorem ve {H H':Hp} {σ:L2.St} {D:Ends} {A:Addr->Prop} {H₀:Hp} {B:Nat->List Addr} (S:Sta X.K A H₀ τ B σ H) (Me:Meets X.K A H₀ N D) (e:ah H H'):dS X.K τ N D σ H':=⟨A,H₀,B,S.mono e,Me⟩
theorem zf {t:Bool} (hc:PT X c (dT X.K τ t)) (ha:t=true->PSs X body (dS X.K τ N)) (hb:t=false->PSs X els (dS X.K τ N)):PS X (.If c body els pos) (dS X.K τ N):=by
 cases t with
 | true=>exact psW (q0 hc (ha rfl) fZ) λD σ H ⟨A,H₀,B,S,Me⟩=>⟨A,H₀,B,S,λH' e=>nP (ve S Me e)⟩
 | false=>exact psW (q0 hc fZ (hb rfl)) λD σ H ⟨A,H₀,B,S,Me⟩=>⟨A,H₀,B,S,λH' e=>nq (ve S Me e)⟩
theorem kG {t:Bool} {M:List Sl->Prop} (hc:PT X c (dT X.K τ t)) (ha:t=true->PSs X body (dS X.K τ { N with nx:=M })) (hb:t=false->PSs X els (dS X.K τ { N with nx:=M })) (hr:∀ τ',M τ'->PSs X rest (dS X.K τ' N)):PSs X (.If c body els pos :: rest) (dS X.K τ N):=
 bp (zf hc ha hb) hr
theorem cB {t:Bool} (hc:PT X c (dT X.K τ t)) (ha:t=true->PSs X body (dS X.K τ { N with nx:=λ_=>False })) (hr:t=false->PSs X rest (dS X.K τ N)):PSs X (.If c body [] pos :: rest) (dS X.K τ N):=by
 cases t with
 | true=>exact kG (M:=λ_=>False) hc ha (λz=>nomatch z) λ_ z=>z.elim
 | false=>exact kG (M:=(·=τ)) hc (λz=>nomatch z) (λ_=>aN rfl) λ_ e=>e ▸ hr rfl
theorem bX {t:Bool} (hc:PT X c (dT X.K τ t)) (ht:t=false) (hr:PSs X rest (dS X.K τ N)):PSs X (.If c body [] pos :: rest) (dS X.K τ N):=cB hc (λz=>by rw [ht] at z; cases z) λ_=>hr
theorem jO (i:Nat) {n:Str} {xs:List D} {ap cp:Pos} (he:PE X e (dE X.K true τ (.d x))) (hl:xs.length < 1000000) (hr:PSs X rest (dS X.K (τ.set i (.o (xs++[x]))) N)) (hi:τ[i]?=some (.o xs):=by rfl) (hN:X.N[i]?=some n:=by rfl)
   (hv:Vis X.env.scope n:=by first | exact Or.inl rfl | exact Or.inr (Or.inl rfl) | exact Or.inr (Or.inr rfl)) (hd:(n == ("__debug__" : Str))=false:=by decide) (hcd:(n == ("__classdict__" : Str))=false:=by decide)
   (hfew:((backTo cp (starEach [e] X.env)).all (λx=>!x.1) && (backToKw cp (keywordEach [] X.env)).all (λx=>x.1.isSome) && decide (([e]:List Expr).length + ([]:List Keyword).length + (if ([]:List Keyword).isEmpty then 0 else 1) < 30))=true:=by rfl)
   (hline:(ap.endLine == cp.line)=true:=by rfl) (hst:starEach [e] X.env=(false,eval e X.env) :: starEach [] X.env:=by rfl) (hpl:(backTo cp (starEach [] X.env)).any (·.1)=false:=by rfl)
   (hs:swapsWith (.Call (.Attribute (.Name n p) "append" ap) [e] [] cp) none pos.line X.env=pure false:=by rfl) (hbase:attributeBase (.Name n p) "append" X.env (eval (.Name n p) X.env)=eval (.Name n p) X.env:=by rfl) :
   PSs X (.Expr (.Call (.Attribute (.Name n p) "append" ap) [e] [] cp) pos :: rest) (dS X.K τ N):=
 bp (M:=(·=τ.set i (.o (xs++[x])))) (psW (eA (l6 PySem.F.plainAttrs_list PySem.F.slot_list_append PySem.F.type_list_append ez (bw hN hv hd hcd) (br he cu hst) hbase hfew hline hst hpl) hs) λD σ H ⟨A,H₀,B,S,Me⟩=>by
   obtain ⟨l,vs,hb,e1,e2,d⟩:=S.sl i _ hi
   refine ⟨_,slot_of e1,.inl ⟨rfl,_,SqL.of e2⟩,aT S λv H1 e3 d1=>⟨l,vs,v,rfl,rfl,e3 _ _ e2,by rw [d.length]; exact Nat.lt_trans hl (by decide),?_⟩⟩
   exact Me.nx _ _ _ _ rfl ((S.mono e3).put hi hb ((d.mono (au e3 λ_ z=>z)).append (.cons d1 .nil)))) λ_ e=>e ▸ hr
end
end Hy
namespace Hy
open PySem PySem.Spec PyProof.Rows L2
open Ev (D Den ar aq aO aA Ite Itz Itv yz xo v7 p8 nV m5 aH cw dn PTs bI eQ)
noncomputable def Yl (K:PySem.W.Frag) (J:L2.It) (xs:List D) (G:Hp):Prop:=∀ H,ah G H->(∀ i,xs.length<=i->J.stop i H)/\∀ (i:Nat) (h:i < xs.length),J.go i H /\
 ∀ x H',J.yld i H x H'->ah H H'/\∀ M:Addr->Prop,(∀ b,M b->∃ o,H b=some o)->ah G (hd H M)->Den K (hd H' M) x xs[i]
noncomputable def dI (K:PySem.W.Frag) (τ:List Sl) (xs:List D):TI:=λσ H R=>∃ A H₀ B,Sta K A H₀ τ B σ H/\∀ J H',ah H H'->Yl K J xs (hd H' (own A B))->R J H'
noncomputable def dG (K:PySem.W.Frag) (τ:List Sl) (x:D) (τ':List Sl):TG:=λv σ H Q=>∃ A H₀ B,Sta K A H₀ τ B σ H/\Den K (hd H (own A B)) v x/\∀ σ' B',Sta K A H₀ τ' B' σ' H->Q σ' H
theorem piW {X:Cx} {tg e:Expr} {t t':TI} (h:PI X tg e t) (f:∀ σ H Q,t' σ H Q->t σ H Q):PI X tg e t':=λpins s σ H Q I q=>h pins s σ H Q I (f σ H Q q)
theorem pgW {X:Cx} {e:Expr} {t t':TG} (h:PG X e t) (f:∀ v σ H Q,t' v σ H Q->t v σ H Q):PG X e t':=λpins s σ H v u Q I r q=>h pins s σ H v u Q I r (f v σ H Q q)
section
variable {K:PySem.W.Frag} {G:Hp} {a:Addr} {vs:List V} {xs:List D}
theorem ug (h:SqL K G a vs) (r:ar K G vs xs):Yl K (Itl K a) xs G:=by
 intro H sg
 have hl:=r.length
 refine ⟨λi hi=>⟨vs,aA sg h,by omega⟩,λi hi=>?_⟩
 obtain ⟨v,hv,dv⟩:=r.get (List.getElem?_eq_getElem hi)
 refine ⟨⟨vs,v,aA sg h,hv⟩,λx H' ⟨e1,e2⟩=>?_⟩
 subst e1
 have ex:x=v:=by have:=e2 vs (aA sg h); rw [hv] at this; exact (Option.some.inj this).symm
 subst ex
 exact ⟨ah.refl _,λM _ sv=>dv.mono sv⟩
theorem xg (h:SqT K G a vs) (r:ar K G vs xs):Yl K (Itt K a) xs G:=by
 intro H sg
 have hl:=r.length
 refine ⟨λi hi=>⟨vs,aO sg h,by omega⟩,λi hi=>?_⟩
 obtain ⟨v,hv,dv⟩:=r.get (List.getElem?_eq_getElem hi)
 refine ⟨⟨vs,v,aO sg h,hv⟩,λx H' ⟨e1,e2⟩=>?_⟩
 subst e1
 have ex:x=v:=by have:=e2 vs (aO sg h); rw [hv] at this; exact (Option.some.inj this).symm
 subst ex
 exact ⟨ah.refl _,λM _ sv=>dv.mono sv⟩
noncomputable def jh (lo:Int) (n:Nat):List D:=(List.range n).map λk=>D.int (lo + (k:Nat))
theorem aK (lo:Int) (n:Nat):(jh lo n).length=n:=by simp [jh]
theorem gU (lo:Int) (n i:Nat) (h:i < (jh lo n).length):(jh lo n)[i]=.int (lo + (i:Nat)):=by simp [jh]
theorem sM (lo:Int) (n:Nat):Yl K (Itr lo n) (jh lo n) G:=by
 intro H sg
 refine ⟨λi hi=>by rw [aK] at hi; exact hi,λi hi=>?_⟩
 have hi':i < n:=by rw [aK] at hi; exact hi
 refine ⟨hi',λx H' ⟨e1,e2⟩=>?_⟩
 subst e1 e2
 refine ⟨ah.refl _,λM _ sv=>?_⟩
 rw [gU]
 exact .int
noncomputable def gP (xs:List D):List D:=(List.range xs.length).map λi=>D.tup [.int (i:Nat),xs.getD i .non]
theorem b9 (xs:List D):(gP xs).length=xs.length:=by simp [gP]
theorem ki (xs:List D) (i:Nat) (h:i < (gP xs).length):(gP xs)[i]=.tup [.int (i:Nat),xs.getD i .non]:=by simp [gP]
theorem wk (h:SqL K G a vs) (r:ar K G vs xs):Yl K (Ite K a) (gP xs) G:=by
 intro H sg
 have hl:=r.length
 have el:=b9 xs
 refine ⟨λi hi=>⟨vs,aA sg h,by omega⟩,λi hi=>?_⟩
 have hi':i < xs.length:=by omega
 obtain ⟨v,hv,dv⟩:=r.get (List.getElem?_eq_getElem hi')
 refine ⟨⟨vs,v,aA sg h,hv⟩,λy H' ⟨p,x,hp,e0,e1,e2⟩=>?_⟩
 subst e0 e1
 have ex:x=v:=by have:=e2 vs (aA sg h); rw [hv] at this; exact (Option.some.inj this).symm
 subst ex
 refine ⟨aq hp _,λM hM sv=>?_⟩
 rw [ki,show xs.getD i .non=xs[i] by simp [List.getD,hi']]
 exact .tup (SqT.of (iA hM hp)) (.cons .int (.cons (dv.mono (sv.trans (au (aq hp _) λ_ z=>z))) .nil))
end
section
variable {X:Cx} {C:Bool} {τ:List Sl} {x y z:D} {a b e c tg it:Expr} {es:List Expr} {pos p q:Pos} {k:Nat} {s:Sl} {xs:List D} {N:Po} {st:Stmt} {rest body els:List Stmt}
theorem aZ (h:PE X it (dE X.K true τ (.d (.lst xs)))) (hc:X.calm=true:=by first | rfl | assumption):PI X tg it (dI X.K τ xs):=piW (pV hc h) λσ H R ⟨A,H₀,B,S,k⟩=>aT S λv H1 e1 d1=>by
 cases d1 with
 | lst h r=>exact ⟨_,rfl,⟨_,aA az h⟩,k _ H1 e1 (ug h r)⟩
theorem xS (h:PE X it (dE X.K true τ (.d (.tup xs)))) (hc:X.calm=true:=by first | rfl | assumption):PI X tg it (dI X.K τ xs):=piW (wg hc h) λσ H R ⟨A,H₀,B,S,k⟩=>aT S λv H1 e1 d1=>by
 cases d1 with
 | tup h r=>exact ⟨_,rfl,⟨_,aO az h⟩,k _ H1 e1 (xg h r)⟩
theorem jZ {n:Int} (B:Bk X k) (h:PE X a (dE X.K false τ (.d (.int n)))) (h1:-(2 ^ 62)<=n) (h2:n < 2 ^ 62) (hg:Gl X "range":=by rfl) (hs:starEach [a] X.env=[(false,eval a X.env)]:=by rfl):PI X tg (.Call (.Name "range" p) [a] [] pos) (dI X.K τ (jh 0 n.toNat)):=
 piW (qp (.inl B.calm) hg (B.blt _ (by decide)) (ae h ag hs) hs) λσ H R ⟨A,H₀,B,S,k⟩=>d9 S λvs H1 e1 d1=>by
   cases d1 with
   | cons d r=>
     cases r
     cases d
     exact ⟨n,rfl,h1,h2,k _ H1 e1 (sM 0 _)⟩
theorem rD {m n:Int} (B:Bk X k) (h:PE X a (dE X.K false τ (.d (.int m)))) (h':PE X b (dE X.K false τ (.d (.int n)))) (h1:-(2 ^ 62)<=m/\m < 2 ^ 62/\-(2 ^ 62)<=n/\n < 2 ^ 62) (hg:Gl X "range":=by rfl) (hs:starEach [a,b] X.env=[(false,eval a X.env),(false,eval b X.env)]:=by rfl)
   (hs2:starEach [b] X.env=[(false,eval b X.env)]:=by rfl):PI X tg (.Call (.Name "range" p) [a,b] [] pos) (dI X.K τ (jh m (n - m).toNat)):=
 piW (qK (.inl B.calm) hg (B.blt _ (by decide)) (ae h (ae h' ag hs2) (by rw [hs,hs2])) hs hs2) λσ H R ⟨A,H₀,B,S,k⟩=>d9 S λvs H1 e1 d1=>by
   cases d1 with
   | cons d r=>
     cases r with
     | cons d' r=>
       cases r
       cases d
       cases d'
       exact ⟨m,n,rfl,h1,k _ H1 e1 (sM m _)⟩
theorem t4 {ts:List Expr} {m:Nat} {tp:Pos} (B:Bk X k) (h:PE X a (dE X.K true τ (.d (.lst xs)))) (hg:Gl X "enumerate":=by rfl) (hs:starEach [a] X.env=[(false,eval a X.env)]:=by rfl):PI X (.Tuple ts m tp) (.Call (.Name "enumerate" p) [a] [] pos) (dI X.K τ (gP xs)):=
 piW (p8 B.calm hg (B.blt _ (by decide)) (ae h ag hs) hs) λσ H R ⟨A,H₀,B,S,k⟩=>d9 S λvs H1 e1 d1=>by
   cases d1 with
   | cons d r=>
     cases r
     cases d with
     | lst h r=>exact ⟨_,rfl,⟨_,aA az h⟩,k _ H1 e1 (wk h r)⟩
theorem uA (i:Nat) {n:Str} (hN:X.N.Nodup) (hi:X.N[i]?=some n:=by rfl) (hx:Loc X.env.scope n:=by first | exact .inl rfl | exact .inr rfl) (hf:X.fn n=true\/X.env.scope.names.lookup n=some .local:=by first | exact .inl rfl | exact .inr rfl | assumption):PG X (.Name n p) (dG X.K τ x (τ.set i (.d x))):=
 pgW (eI (i:=i) hN hi hx hf) λv σ H Q ⟨A,H₀,B,S,d,k⟩=>k _ _ (S.set (ah.refl _) (bs:=[]) (λ_ z=>nomatch z) (fQ d))
theorem xV (i j:Nat) {n m:Str} {p2 pt:Pos} {md:Nat} (hc:X.calm=true) (hN:X.N.Nodup) (hi:X.N[i]?=some n:=by rfl) (hj:X.N[j]?=some m:=by rfl) (hx:Loc X.env.scope n:=by first | exact .inl rfl | exact .inr rfl) (hy:Loc X.env.scope m:=by first | exact .inl rfl | exact .inr rfl)
   (hf:X.fn n=true\/X.env.scope.names.lookup n=some .local:=by first | exact .inl rfl | exact .inr rfl | assumption) (hf':X.fn m=true\/X.env.scope.names.lookup m=some .local:=by first | exact .inl rfl | exact .inr rfl | assumption) :
   PG X (.Tuple [.Name n p,.Name m p2] md pt) (dG X.K τ (.tup [x,y]) ((τ.set i (.d x)).set j (.d y))):=by
 refine pgW (r9 hc (iD (eI (i:=i) hN hi hx hf) (iD (eI (i:=j) hN hj hy hf') o8))) λv σ H Q ⟨A,H₀,B,S,d,k⟩=>?_
 cases d with
 | tup h r=>
   cases r with
   | cons d1 r=>
     cases r with
     | cons d2 r=>
       cases r
       have S1:=S.set (i:=i) (ah.refl _) (bs:=[]) (λ_ z=>nomatch z) (fQ d1)
       have sub:∀ b,own A (upB B i []) b->own A B b:=λb z=>z.elim .inl λ⟨j,z⟩=>(aX z).elim (λz=>nomatch z.2) λz=>.inr ⟨j,z.2⟩
       exact ⟨_,_,rfl,aO az h,rfl,_,_,rfl,_,_,rfl,rfl,k _ _ (S1.set (i:=j) (ah.refl _) (bs:=[]) (λ_ z=>nomatch z) (fQ (d2.mono (au (ah.refl _) sub))))⟩
theorem Sta.base {K:PySem.W.Frag} {A:Addr->Prop} {H₀ H:Hp} {τ:List Sl} {B:Nat->List Addr} {σ:L2.St} (S:Sta K A H₀ τ B σ H):ah H₀ (hd H λb=>∃ i,b ∈ B i)/\Sta K A (hd H λb=>∃ i,b ∈ B i) τ B σ H:=by
 have s0:ah H₀ (hd H λb=>∃ i,b ∈ B i):=λb o h=>ai.mpr ⟨λ⟨i,z⟩=>(by rw [S.fr i b z] at h; cases h),S.same _ _ h⟩
 exact ⟨s0,az,S.len,S.sl,λi b hb=>by
   cases e:hd H (λb=>∃ i,b ∈ B i) b with
   | none=>rfl
   | some o=>exact absurd ⟨i,hb⟩ (ai.mp e).1,S.uq,λb hb=>let ⟨o,q⟩:=S.ad b hb; ⟨o,s0 _ _ q⟩,S.bd⟩
theorem Sta.back {K:PySem.W.Frag} {A:Addr->Prop} {H₀ G H:Hp} {τ:List Sl} {B:Nat->List Addr} {σ:L2.St} (S:Sta K A G τ B σ H) (s:ah H₀ G) (ad:∀ b,A b->∃ o,H₀ b=some o):Sta K A H₀ τ B σ H:=
 ⟨s.trans S.same,S.len,S.sl,λi b hb=>s.free (S.fr i b hb),S.uq,ad,S.bd⟩
theorem vA {M:Nat->List Sl->Prop} {T:Nat->List Sl->List Sl} (B:Bk X k) (hi:PI X tg it (dI X.K τ xs)) (h0:M 0 τ) (hg:∀ i (h:i < xs.length) τ',M i τ'->PG X tg (dG X.K τ' xs[i] (T i τ')))
   (hb:∀ i,i < xs.length->∀ τ',M i τ'->PSs X body (dS X.K (T i τ') { N with nx:=M (i + 1),ct:=M (i + 1),bk:=N.nx })) (hn:∀ τ',M xs.length τ'->N.nx τ')
   (hs:∀ x,foldedSetIterable it X.env x=pure x:=by intro _; rfl):PS X (.For tg it body [] pos) (dS X.K τ N):=by
 have hg':PG X tg λv σ H Q=>∃ (i:Nat) (h:i < xs.length) (τ':List Sl),M i τ'/\dG X.K τ' xs[i] (T i τ') v σ H Q:=λpins s σ H v u Q I r ⟨i,h,τ',m,q⟩=>hg i h τ' m pins s σ H v u Q I r q
 have hb':PSs X body λD σ H=>∃ i τ',i < xs.length/\M i τ'/\dS X.K (T i τ') { N with nx:=M (i + 1),ct:=M (i + 1),bk:=N.nx } D σ H:=λpins s σ H D I ⟨i,τ',h,m,q⟩=>hb i h τ' m pins s σ H D I q
 refine psW (sk B.po hi hg' hb' hs) λD σ H ⟨A,H₀,B,S,Me⟩=>⟨A,H₀,B,S,λJ H1 e1 yl=>?_⟩
 obtain ⟨s0,S1⟩:=(S.mono e1).base
 have sub:∀ {H'},ah (hd H1 λb=>∃ i,b ∈ B i) H'->ah (hd H1 (own A B)) H':=λe=>(au (ah.refl _) λ_ z=>.inr z).trans e
 refine ⟨λi m σ' H'=>m=xs.length - i/\i<=xs.length/\∃ τ' B',M i τ'/\Sta X.K A (hd H1 λb=>∃ i,b ∈ B i) τ' B' σ' H',⟨xs.length,rfl,Nat.zero_le _,τ,B,h0,S1⟩,?_⟩
 rintro i m σ' H' ⟨rfl,hi,τ',B',hM,S'⟩
 obtain ⟨y1,y2⟩:=yl H' (sub S'.same)
 by_cases hlt:i < xs.length
 · obtain ⟨g,y⟩:=y2 i hlt
   refine .inr ⟨g,λσ2 H2=>∃ τ2 B2,M (i + 1) τ2/\Sta X.K A (hd H1 λb=>∃ i,b ∈ B i) τ2 B2 σ2 H2,λσ2 H2 q=>⟨xs.length - (i + 1),by omega,rfl,hlt,q⟩,λx H2 hy=>?_⟩
   obtain ⟨e2,dx⟩:=y x H2 hy
   have S2:=S'.mono e2
   refine ⟨i,hlt,τ',hM,A,_,B',S2,dx (own A B') S'.dm ?_,λσ3 B3 S3=>⟨i,τ',hlt,hM,A,_,B3,S3,?_⟩⟩
   · intro b o z
     obtain ⟨z1,z2⟩:=ai.mp z
     have z3:hd H1 (λb=>∃ i,b ∈ B i) b=some o:=ai.mpr ⟨λy=>z1 (.inr y),z2⟩
     refine ai.mpr ⟨λy=>?_,S'.same _ _ z3⟩
     rcases y with y | ⟨l,y⟩
     · exact z1 (.inl y)
     · rw [S'.fr l b y] at z3; cases z3
   · exact ⟨λτ3 B3 σ3 H3 m S3=>⟨τ3,B3,m,S3⟩,λτ3 B3 σ3 H3 m S3=>Me.nx τ3 B3 σ3 H3 m (S3.back s0 S.ad),λτ3 B3 σ3 H3 m S3=>⟨τ3,B3,m,S3⟩,
       λv H3 bs s3 hr e3 hf q=>Me.rt v H3 bs s3 hr (s0.trans e3) (λb hb=>⟨s0.free (hf b hb).1,(hf b hb).2⟩) q,λH3 e3=>Me.xc H3 (s0.trans e3)⟩
 · have e:i=xs.length:=by omega
   subst e
   exact .inl ⟨y1 _ (Nat.le_refl _),Me.nx τ' B' σ' H' (hn τ' hM) (S'.back s0 S.ad)⟩
theorem bY (j:Nat) {n:Str} (M:Nat->List Sl->Prop) {g:Nat->D} (B:Bk X k) (hN:X.N.Nodup) (hi:PI X (.Name n p) it (dI X.K τ xs)) (hx:∀ i (h:i < xs.length),xs[i]=g i) (h0:M 0 τ)
   (hb:∀ i,i < xs.length->∀ τ',M i τ'->PSs X body (dS X.K (τ'.set j (.d (g i))) { N with nx:=M (i + 1),ct:=M (i + 1),bk:=λ_=>False }))
   (hr:∀ τ',M xs.length τ'->PSs X rest (dS X.K τ' N)) (hs:∀ x,foldedSetIterable it X.env x=pure x:=by intro _; rfl) (hi':X.N[j]?=some n:=by rfl) (hl:Loc X.env.scope n:=by first | exact .inl rfl | exact .inr rfl)
   (hf:X.fn n=true\/X.env.scope.names.lookup n=some .local:=by first | exact .inl rfl | exact .inr rfl | assumption):PSs X (.For (.Name n p) it body [] pos :: rest) (dS X.K τ N):=
 bp (M:=M xs.length) (vA (M:=M) (T:=λi τ'=>τ'.set j (.d (g i))) B hi h0 (λi h τ' m=>by rw [hx i h]; exact uA j hN hi' hl hf)
   (λi h τ' m=>mV (hb i h τ' m) λD σ H ⟨A,H₀,B,S,Me⟩=>⟨A,H₀,B,S,Me.nx,λ_ _ _ _ z=>z.elim,Me.ct,Me.rt,Me.xc⟩) (λ_ m=>m) hs) hr
theorem i4 (j l:Nat) {n m:Str} {p2 pt:Pos} {md:Nat} (M:Nat->List Sl->Prop) {g g':Nat->D} (B:Bk X k) (hN:X.N.Nodup) (hi:PI X (.Tuple [.Name n p,.Name m p2] md pt) it (dI X.K τ xs)) (hx:∀ i (h:i < xs.length),xs[i]=.tup [g i,g' i]) (h0:M 0 τ)
   (hb:∀ i,i < xs.length->∀ τ',M i τ'->PSs X body (dS X.K ((τ'.set j (.d (g i))).set l (.d (g' i))) { N with nx:=M (i + 1),ct:=M (i + 1),bk:=λ_=>False }))
   (hr:∀ τ',M xs.length τ'->PSs X rest (dS X.K τ' N)) (hs:∀ x,foldedSetIterable it X.env x=pure x:=by intro _; rfl) (hi':X.N[j]?=some n:=by rfl) (hj':X.N[l]?=some m:=by rfl) (hl:Loc X.env.scope n:=by first | exact .inl rfl | exact .inr rfl) (hl':Loc X.env.scope m:=by first | exact .inl rfl | exact .inr rfl)
   (hf:X.fn n=true\/X.env.scope.names.lookup n=some .local:=by first | exact .inl rfl | exact .inr rfl | assumption) (hf':X.fn m=true\/X.env.scope.names.lookup m=some .local:=by first | exact .inl rfl | exact .inr rfl | assumption):PSs X (.For (.Tuple [.Name n p,.Name m p2] md pt) it body [] pos :: rest) (dS X.K τ N):=
 bp (M:=M xs.length) (vA (M:=M) (T:=λi τ'=>(τ'.set j (.d (g i))).set l (.d (g' i))) B hi h0 (λi h τ' m=>by rw [hx i h]; exact xV j l B.calm hN hi' hj' hl hl' hf hf')
   (λi h τ' m=>mV (hb i h τ' m) λD σ H ⟨A,H₀,B,S,Me⟩=>⟨A,H₀,B,S,Me.nx,λ_ _ _ _ z=>z.elim,Me.ct,Me.rt,Me.xc⟩) (λ_ m=>m) hs) hr
theorem jD {n:Nat} (i:Nat) (h:i < (jh 0 n).length):(jh 0 n)[i]=.int (i:Nat):=by rw [gU,Int.zero_add]
theorem mB {bs:List Int} (i:Nat) (h:i < (bs.map D.int).length):(bs.map D.int)[i]=.int (bs.getD i 0):=by
 have:i < bs.length:=by simpa using h
 simp [this]
theorem vI {bs:List Int} (i:Nat) (h:i < (gP (bs.map D.int)).length):(gP (bs.map D.int))[i]=.tup [.int (i:Nat),.int (bs.getD i 0)]:=by
 have:i < bs.length:=by rw [b9] at h; simpa using h
 rw [ki]
 simp [this]
end
end Hy
namespace Hy
open PySem PySem.Spec PyProof.Rows L2
open Ev (D Den ar aq aO aA aH cw dn PTs bI eQ)
noncomputable def slot:List Str->Str->Option Nat
 | [],_=>none
 | y :: r,x=>if x=y then some 0 else (slot r x).map (· + 1)
theorem slot_get:∀ {N:List Str} {x:Str} {i:Nat},slot N x=some i->N[i]?=some x
 | [],_,_,h=>by cases h
 | y :: r,x,i,h=>by
   unfold slot at h
   split at h
   · cases h; rename_i e; rw [e]; rfl
   · cases e:slot r x with
     | none=>rw [e] at h; cases h
     | some j=>rw [e] at h; cases h; simpa using slot_get e
noncomputable def si (scope sc:Scope):Scope:={ scope with names:=scope.names.map λ(n,k)=>if (k == .free && sc.kind == .function && sc.names.lookup n == some .cell) then (n,.cell) else (n,k) }
noncomputable def bNm (scope:Scope):List Str:=(scope.names.filter λp=>(p.2 == .local || p.2 == .cell || p.2 == .free) && p.1 != (".0" : Str)).map (·.1)
noncomputable def bCp (No:List Str) (scope:Scope):List (Option Nat):=(bNm scope).map λx=>if (x,NameKind.free) ∈ scope.names then slot No x else none
noncomputable def bOk (sc scope:Scope):Bool:=
 scope.kind == .function && scope.names.all (λp=>p.2 != .local || scope.names.lookup p.1 == some .local) && scope.names.all (λp=>p.2 != .free || sc.names.lookup p.1 == some .cell)
   && scope.names.all (λp=>p.2 != .free || (!decide ((p.1,NameKind.cell) ∈ scope.names) && !decide ((p.1,NameKind.local) ∈ scope.names))) && decide (bNm scope++[("#" : Str)]).Nodup
   && (si scope sc).names.all (λp=>p.1 != ("#" : Str))
theorem qU {a b:Bool} (h:(a && b)=true):a=true/\b=true:=by rw [Bool.and_eq_true] at h; exact h
theorem rH {x:Str} {q:NameKind}:∀ {names:List (Str × NameKind)},names.lookup x=some q->(x,q) ∈ names
 | (y,k) :: r,h=>by
   rw [List.lookup_cons] at h
   split at h
   · rename_i e; cases h; rw [eq_of_beq e]; exact List.mem_cons_self ..
   · exact List.mem_cons_of_mem _ (rH h)
theorem eH {X:Cx} {scope:Scope} (h:bOk X.env.scope scope=true):dn X scope (bNm scope++[("#" : Str)]) (bCp X.N scope)/\(bNm scope++[("#" : Str)]).Nodup:=by
 unfold bOk at h
 obtain ⟨h,h6⟩:=qU h
 obtain ⟨h,h5⟩:=qU h
 obtain ⟨h,h4⟩:=qU h
 obtain ⟨h,h3⟩:=qU h
 obtain ⟨h1,h2⟩:=qU h
 rw [List.all_eq_true] at h2 h3 h4 h6
 refine ⟨⟨eq_of_beq h1,λx hx hk=>?_,λx hx hk=>?_,λx hx hm=>?_,λx hx hm=>?_,?_,λj i hj=>?_,?_⟩,of_decide_eq_true h5⟩
 · have:=h2 x hx; rw [hk] at this; simpa using this
 · have:=h3 x hx; rw [hk] at this; show X.env.scope.names.lookup x.1=_; simpa using this
 · have:=h4 _ hx; simp [hm] at this
 · have:=h4 _ hx; simp [hm] at this
 · unfold bCp; rw [List.length_append,List.length_map]; rfl
 · unfold bCp at hj
   rw [List.getElem?_map] at hj
   cases e:(bNm scope)[j]? with
   | none=>rw [e] at hj; cases hj
   | some x=>
     rw [e] at hj
     simp only [Option.map_some,Option.some.injEq] at hj
     split at hj
     · exact ⟨x,by rw [List.getElem?_append_left (List.getElem?_eq_some_iff.mp e).1]; exact e,slot_get hj,by assumption⟩
     · cases hj
 · refine ⟨("#" : Str),?_,λhv=>?_⟩
   · unfold bCp; rw [List.length_map,List.getElem?_append_right (Nat.le_refl _),Nat.sub_self]; rfl
   · have key:∀ q,(si scope X.env.scope).names.lookup ("#" : Str) ≠ some q:=λq hq=>by
       have:=h6 _ (rH hq)
       simp at this
     rcases hv with hv | hv | hv <;> exact key _ hv
noncomputable abbrev cpX (X:Cx) (s:Shared) (H:Hp) (scope:Scope) (fp:List Addr):Cx:=aH X s H scope (bNm scope++[("#" : Str)]) fp
theorem Bk.comp {X:Cx} {k:Nat} (B:Bk X k) (s:Shared) (H:Hp) (scope:Scope) (fp:List Addr):Bk (cpX X s H scope fp) k:=⟨B.room,B.calm,B.blt,PassesOwn.never⟩
noncomputable def bo (τ:List Sl) (caps:List (Option Nat)):List Sl:=caps.map λo=>match o with
 | some i=>match τ[i]? with
   | some (.d x)=>.d x
   | _=>.un
 | none=>.un
theorem kN {X:Cx}:PTs X [] λ_ H Q=>Q true H:=λpins s σ H Q I q=>by
 show wpAny _ _ (pure true) _ _ _
 exact wpAny_pure ⟨H,I,q⟩
section
variable {X:Cx} {C:Bool} {τ:List Sl} {x y z:D} {a b e c tg it elt:Expr} {es ifs:List Expr} {pos p q:Pos} {k:Nat} {xs:List D} {scope:Scope}
structure Cmp (X:Cx) (elt tg it:Expr) (ifs:List Expr) (scope:Scope) (τ:List Sl) (ys:List D):Prop where
 ex:∃ (In:TG->TT->TE->Prop) (caps:List (Option Nat)) (N:List Str) (wi:TI),dn X scope N caps/\PI X tg it wi/\(∀ g tt te,In g tt te->∀ s H fp,PG (aH X s H scope N fp) tg g/\PTs (aH X s H scope N fp) ifs tt/\PE (aH X s H scope N fp) elt te) /\
   ∀ C σ H Q,dE X.K C τ (.o ys) σ H Q->eQ In caps wi σ H Q
 hs:∀ x,foldedSetIterable it X.env x=pure x
theorem gM {ys:List D} (h:Cmp X elt tg it ifs scope τ ys):PE X (.ListComp elt [⟨tg,it,ifs,0⟩] scope pos) (dE X.K C τ (.o ys)):=by
 obtain ⟨In,caps,N,wi,h1,h2,h3,h4⟩:=h.ex
 exact peW (bI h1 h2 h.hs h3) (h4 C)
theorem sF {T:Nat->List Sl} {t:Nat->Bool} {f:Nat->D} (hc:bOk X.env.scope scope=true) (hi:PI X tg it (dI X.K τ xs)) (hT:∀ i,(T i).length=(bo τ (bCp X.N scope)++[Sl.un]).length/\∀ (l:Nat) (x:D),(bo τ (bCp X.N scope)++[Sl.un])[l]?=some (.d x)->(T i)[l]?=some (.d x))
   (hg:∀ i (h:i < xs.length) s H fp,PG (cpX X s H scope fp) tg (dG X.K (bo τ (bCp X.N scope)++[Sl.un]) xs[i] (T i)))
   (ht:∀ i,i < xs.length->∀ s H fp,PTs (cpX X s H scope fp) ifs (dT X.K (T i) (t i)))
   (he:∀ i,i < xs.length->t i=true->∀ s H fp,PE (cpX X s H scope fp) elt (dE X.K true (T i) (.d (f i)))) (hl:xs.length < 1000000) (hs:∀ x,foldedSetIterable it X.env x=pure x:=by intro _; rfl) :
   Cmp X elt tg it ifs scope τ (((List.range xs.length).filter t).map f):=by
 obtain ⟨cap,_⟩:=eH hc
 generalize hτ:bo τ (bCp X.N scope)++[Sl.un]=τb at *
 refine ⟨⟨λg tt te=>g=(λv σ H Q=>∃ (i:Nat) (h:i < xs.length),dG X.K τb xs[i] (T i) v σ H Q)/\tt=(λσ H Q=>∃ i,i < xs.length/\dT X.K (T i) (t i) σ H Q)/\te=(λσ H Q=>∃ i,i < xs.length/\t i=true/\dE X.K true (T i) (.d (f i)) σ H Q),_,_,_,cap,hi,?_,?_⟩,hs⟩
 · rintro g tt te ⟨rfl,rfl,rfl⟩ s H fp
   exact ⟨λpins s' σ H' v u Q I r ⟨i,h,q⟩=>hg i h s H fp pins s' σ H' v u Q I r q,λpins s' σ H' Q I ⟨i,h,q⟩=>ht i h s H fp pins s' σ H' Q I q,λpins s' σ H' Q I ⟨i,h,h',q⟩=>he i h h' s H fp pins s' σ H' Q I q⟩
 rintro C σ H Q ⟨A,H₀,B,S,kk⟩
 refine ⟨A,H₀,B,S,λJ H1 e1 yl=>⟨_,_,_,⟨rfl,rfl,rfl⟩,λD hD=>?_⟩⟩
 have S1:=S.mono e1
 have nD:¬ own A B D:=λz=>by obtain ⟨o,q⟩:=S1.dm D z; rw [hD] at q; cases q
 have noN:∀ (l:Nat) (t:Nd),τb[l]?=some (.n t)->0 ≠ 0:=λl t h=>by
   exfalso
   rw [<- hτ] at h
   have:=List.mem_of_getElem? h
   rcases List.mem_append.mp this with z | z
   · unfold bo at z
     obtain ⟨o,_,ho⟩:=List.mem_map.mp z
     split at ho
     · split at ho <;> cases ho
     · cases ho
   · cases List.mem_singleton.mp z
 have slots:∀ {σ':L2.St} {H':Hp},ah H1 H'->(∃ o,H' D=some o)->σ'.length=τb.length->(∀ (l:Nat) (s:Sl),τb[l]?=some s->bx X.K (hd H' λb=>own A B b\/b=D) H' (σ'[l]?).join [] s)->Sta X.K (λb=>own A B b\/b=D) H' τb (λ_=>[]) σ' H':=λ{σ' H'} e1 e2 e3 e4=>
   ⟨ah.refl _,e3,λl s h=>(e4 l s h).mono (au (ah.refl _) λ_ z=>z.elim id λ⟨_,z⟩=>(nomatch z)) (ah.refl _),λ_ _ z=>(nomatch z),λ_ _ _ z=>(nomatch z),λb z=>z.elim (λz=>let ⟨o,q⟩:=S1.dm b z; ⟨o,e1 _ _ q⟩) λz=>z ▸ e2,λ_ _ z=>(nomatch z)⟩
 refine ⟨λi m σ' H'=>m=xs.length - i/\i<=xs.length/\ah H1 H'/\(∃ vs,H' D=some (.lst vs)/\vs.length<=i/\ar X.K (hd H' λb=>own A B b\/b=D) vs (((List.range i).filter t).map f)) /\
   σ'.length=τb.length/\∀ (l:Nat) (s:Sl),τb[l]?=some s->bx X.K (hd H' λb=>own A B b\/b=D) H' (σ'[l]?).join [] s,⟨xs.length,rfl,Nat.zero_le _,aq hD _,⟨[],aw,Nat.le_refl _,.nil⟩,?_,λl s h=>?_⟩,?_⟩
 · rw [<- hτ]; unfold cw bo; rw [List.length_append,List.length_append,List.length_map,List.length_map]; rfl
 · have hv:ah (hd H (own A B)) (hd (upd H1 D (.lst [])) λb=>own A B b\/b=D):=λb o z=>by
     obtain ⟨z1,z2⟩:=ai.mp z
     have z2:=e1 _ _ z2
     have ne:b ≠ D:=λz=>by rw [z,hD] at z2; cases z2
     exact ai.mpr ⟨λy=>y.elim z1 ne,by rw [ao ne]; exact z2⟩
   cases s with
   | un=>rfl
   | d x=>
     rw [<- hτ] at h
     have hlt:l < (bCp X.N scope).length:=by
       rcases Nat.lt_or_ge l (bCp X.N scope).length with h' | h'
       · exact h'
       · exfalso
         rw [List.getElem?_append_right (by unfold bo; rw [List.length_map]; exact h')] at h
         cases e:l - (bo τ (bCp X.N scope)).length with
         | zero=>rw [e] at h; cases h
         | succ n=>rw [e] at h; cases h
     rw [List.getElem?_append_left (by unfold bo; rw [List.length_map]; exact hlt)] at h
     rw [List.getElem?_append_left (by unfold cw; rw [List.length_map]; exact hlt)]
     unfold bo at h
     unfold cw
     rw [List.getElem?_map] at h ⊢
     cases e:(bCp X.N scope)[l]? with
     | none=>rw [e] at h; cases h
     | some o=>
       rw [e] at h
       cases o with
       | none=>cases h
       | some i=>
         simp only [Option.map_some,Option.some.injEq] at h
         split at h
         · rename_i x' hx'
           cases h
           obtain ⟨_,u,eu,d⟩:=S.sl i _ hx'
           exact ⟨rfl,u,by simpa using eu,d.mono hv⟩
         · cases h
   | o xs'=>
     exfalso
     rw [<- hτ] at h
     have:=List.mem_of_getElem? h
     rcases List.mem_append.mp this with z | z
     · unfold bo at z
       obtain ⟨o,_,ho⟩:=List.mem_map.mp z
       split at ho
       · split at ho <;> cases ho
       · cases ho
     · cases List.mem_singleton.mp z
   | n t'=>
     exfalso
     rw [<- hτ] at h
     have:=List.mem_of_getElem? h
     rcases List.mem_append.mp this with z | z
     · unfold bo at z
       obtain ⟨o,_,ho⟩:=List.mem_map.mp z
       split at ho
       · split at ho <;> cases ho
       · cases ho
     · cases List.mem_singleton.mp z
   | x E'=>
     exfalso
     rw [<- hτ] at h
     have:=List.mem_of_getElem? h
     rcases List.mem_append.mp this with z | z
     · unfold bo at z
       obtain ⟨o,_,ho⟩:=List.mem_map.mp z
       split at ho
       · split at ho <;> cases ho
       · cases ho
     · cases List.mem_singleton.mp z
 rintro i m σ' H' ⟨rfl,hi,e2,⟨vs,hv1,hv2,hv3⟩,hlen,hsl⟩
 obtain ⟨y1,y2⟩:=yl H' (az.trans e2)
 by_cases hlt:i < xs.length
 · obtain ⟨g,y⟩:=y2 i hlt
   refine .inr ⟨g,λx H2 hy=>?_⟩
   obtain ⟨e3,dx⟩:=y x H2 hy
   have S2:Sta X.K (λb=>own A B b\/b=D) H' τb (λ_=>[]) σ' H':=slots e2 ⟨_,hv1⟩ hlen hsl
   have o0:∀ b,own (λb=>own A B b\/b=D) (λ_=>([]:List Addr)) b->own A B b\/b=D:=λb z=>z.elim id λ⟨_,z⟩=>(nomatch z)
   have dx':=dx _ S2.dm (λb o z=>by
     obtain ⟨z1,z2⟩:=ai.mp z
     exact ai.mpr ⟨λy=>(o0 b y).elim z1 λy=>(by rw [y,hD] at z2; cases z2),e2 _ _ z2⟩)
   refine ⟨i,hlt,_,_,_,S2.mono e3,dx',λσ2 B2 S3=>?_⟩
   have hB2:∀ j b,b ∈ B2 j->b ≠ D:=λj b hb z=>by
     have:=S3.fr j b hb
     rw [z,hv1] at this
     cases this
   have back:∀ {H5:Hp},ah H2 H5->σ2.length=τb.length/\∀ (l:Nat) (s:Sl),τb[l]?=some s->bx X.K (hd H5 λb=>own A B b\/b=D) H5 (σ2[l]?).join [] s:=λ{H5} e5=>by
     refine ⟨S3.len.trans (hT i).1,λl s h=>?_⟩
     cases s with
     | un=>rfl
     | d x=>
       obtain ⟨_,u,eu,d⟩:=S3.sl l _ ((hT i).2 l x h)
       exact ⟨rfl,u,eu,d.mono (au e5 λ_ z=>.inl z)⟩
     | o xs'=>exact absurd (hsl l _ h) (λ⟨_,_,z,_⟩=>(nomatch z))
     | n t'=>exact absurd rfl (noN l t' h)
     | x E'=>exact absurd (hsl l _ h) (λ⟨_,_,z,_⟩=>(nomatch z))
   refine ⟨i,hlt,_,_,_,S3,λH4 e4=>?_⟩
   cases ht:t i with
   | false=>
     rw [if_neg Bool.false_ne_true]
     obtain ⟨b1,b2⟩:=back e4
     refine ⟨xs.length - (i + 1),by omega,rfl,hlt,e2.trans (e3.trans e4),⟨vs,e4 _ _ (e3 _ _ hv1),by omega,?_⟩,b1,b2⟩
     rw [List.range_succ,List.filter_append,List.map_append,List.filter_cons,ht]
     simpa using hv3.mono (au (e3.trans e4) λ_ z=>z)
   | true=>
     rw [if_pos rfl]
     refine ⟨i,hlt,ht,aT (S3.mono e4) λv H5 e5 d5=>?_⟩
     have e6:=e3.trans (e4.trans e5)
     have hv5:=e6 _ _ hv1
     refine ⟨vs,xs.length - (i + 1),hv5,Nat.lt_trans (Nat.lt_of_le_of_lt hv2 (Nat.lt_trans hlt hl)) (by decide),by omega,rfl,hlt,?_,?_⟩
     · intro b o z
       have ne:b ≠ D:=λy=>by rw [y,hD] at z; cases z
       rw [ao ne]
       exact e6 _ _ (e2 _ _ z)
     have sm:ah (hd H5 λb=>own A B b\/b=D) (hd (upd H5 D (.lst (vs++[v]))) λb=>own A B b\/b=D):=λb o z=>by
       obtain ⟨z1,z2⟩:=ai.mp z
       exact ai.mpr ⟨z1,by rw [ao λy=>z1 (.inr y)]; exact z2⟩
     obtain ⟨b1,b2⟩:=back (e4.trans e5)
     refine ⟨⟨vs++[v],aw,by rw [List.length_append]; exact Nat.succ_le_succ hv2,?_⟩,b1,λl s h=>?_⟩
     · rw [List.range_succ,List.filter_append,List.map_append,List.filter_cons,ht,if_pos rfl]
       refine ar.append (hv3.mono ((au e6 λ_ z=>z).trans sm)) (.cons (d5.mono ((au (ah.refl _) λ_ z=>.inl z).trans sm)) .nil)
     · cases s with
       | un=>rfl
       | d x=>obtain ⟨z1,u,eu,d⟩:=b2 l _ h; exact ⟨z1,u,eu,d.mono sm⟩
       | o xs'=>exact absurd (hsl l _ h) (λ⟨_,_,z,_⟩=>(nomatch z))
       | n t'=>exact absurd rfl (noN l t' h)
       | x E'=>exact absurd (hsl l _ h) (λ⟨_,_,z,_⟩=>(nomatch z))
 · have e:i=xs.length:=by omega
   subst e
   refine .inl ⟨y1 _ (Nat.le_refl _),kk _ _ [D] (e1.trans e2) (λb hb=>?_) ⟨D,vs,rfl,rfl,hv1,hv3.mono (au (ah.refl _) λb z=>z.elim (λz=>.inl (iQ z)) λz=>.inr (List.mem_singleton.mp z))⟩⟩
   obtain rfl:=List.mem_singleton.mp hb
   exact ⟨e1.free hD,_,hv1⟩
theorem cmp (j:Nat) {n:Str} {g f:Nat->D} (B:Bk X k) (hi:PI X (.Name n p) it (dI X.K τ xs)) (hx:∀ i (h:i < xs.length),xs[i]=g i) (hl:xs.length < 1000000)
   (he:∀ i,i < xs.length->∀ s H fp,PE (cpX X s H scope fp) elt (dE X.K true ((bo τ (bCp X.N scope)++[Sl.un]).set j (.d (g i))) (.d (f i))))
   (hc:bOk X.env.scope scope=true:=by kernel_rfl) (hu:(bo τ (bCp X.N scope)++[Sl.un])[j]?=some .un:=by rfl) (hN:(bNm scope++[("#" : Str)])[j]?=some n:=by rfl) (hv:∀ s H fp,Loc (cpX X s H scope fp).env.scope n:=by intro _ _ _; first | exact .inl rfl | exact .inr rfl)
   (hf:∀ s H fp,(cpX X s H scope fp).fn n=true\/(cpX X s H scope fp).env.scope.names.lookup n=some .local:=by intro _ _ _; first | exact .inr rfl | exact .inl rfl) (hs:∀ x,foldedSetIterable it X.env x=pure x:=by intro _; rfl) :
   Cmp X elt (.Name n p) it [] scope τ ((List.range xs.length).map f):=by
 have h:=sF (T:=λi=>(bo τ (bCp X.N scope)++[Sl.un]).set j (.d (g i))) (t:=λ_=>true) (f:=f) (elt:=elt) (ifs:=[]) hc hi (λi=>⟨List.length_set,λl x h=>?_⟩) (λi h s H fp=>?_) (λi h s H fp=>?_) (λi h _ s H fp=>he i h s H fp) hl hs
 · rwa [List.filter_eq_self.mpr λ_ _=>rfl] at h
 · rw [List.getElem?_set_ne (λz=>by rw [<- z,hu] at h; cases h)]
   exact h
 · rw [hx i h]
   exact uA j (eH hc).2 hN (hv s H fp) (hf s H fp)
 · exact λpins s' σ H' Q I ⟨A,H₀,B,S,q⟩=>kN pins s' σ H' Q I (q H' (ah.refl _))
end
section
variable {P:Program} {w:World} {K:PySem.W.Frag} {mg:Str->Option Value} {base:Heap}
noncomputable def xq (N:List Str) (ds:List D):List Sl:=ds.map .d++List.replicate (N.length - ds.length) .un
noncomputable abbrev Xc (P:Program) (w:World) (K:PySem.W.Frag) (mg:Str->Option Value) (base:Heap) (N:List Str) (qual:Str) (st:Stmt) (f:Addr) (cdv:Value) (A:Around) (outer:List Env) (s:Shared) (H:Hp) (E:XK):Cx:=(nM CX0 P w K mg base N qual (aj st) f cdv A outer s H E).nox
theorem fnD {x qual:Str} {st:Stmt} {f:Addr} {fd:FuncData} {N ps:List Str} {k:Nat} {Φ:List D->Sl->Prop} (F:Fun K x qual st f fd) (S:av N ps (aj st)) (hb:∀ x ∈ ak,mg x=none) (len:∀ ds r,Φ ds r->ds.length=ps.length)
   (body:∀ ds r,Φ ds r->∀ cdv A outer s H E,Bk (Xc P w K mg base N qual st f cdv A outer s H E) k->PSs (Xc P w K mg base N qual st f cdv A outer s H E) (bS st) (dS K (xq N ds) { nx:=λ_=>r=.d .non,rt:=λr'=>r'=r })) :
   aQ P w K mg base CX0 (k + 1) f fd ps (spD K Φ):=by
 refine F.ok S (λvs H Q E ⟨A,ds,r,_,d,h,_⟩=>d.length.trans (len ds r h)) λcdv A outer s H vs Q E hr ⟨A',ds,r,ha,d,h,q⟩=>⟨_,body ds r h cdv A outer s H E ⟨hr,rfl,hb,PassesOwn.never⟩,A',H,λ_=>[],⟨ah.refl _,?_,λi s hi=>?_,λ_ _ z=>(nomatch z),λ_ _ _ z=>(nomatch z),ha,λ_ _ z=>(nomatch z)⟩,λτ B σ H' h S=>?_,λ_ _ _ _ h=>h.elim,λ_ _ _ _ h=>h.elim,λv H' bs s h e hf z=>?_,λ_ _=>trivial⟩
 · unfold L2.start xq
   simp [d.length]
 · have hl:=d.length
   unfold xq at hi
   unfold L2.start
   by_cases hlt:i < ds.length
   · rw [List.getElem?_append_left (by simpa using hlt),List.getElem?_map,List.getElem?_eq_getElem hlt] at hi
     cases hi
     obtain ⟨v,e,dv⟩:=d.get (List.getElem?_eq_getElem hlt)
     refine ⟨rfl,v,?_,dv.mono (au (ah.refl _) λ_ z=>z.elim id λ⟨_,z⟩=>(nomatch z))⟩
     rw [List.getElem?_append_left (by simpa [hl] using hlt),List.getElem?_map,e]
     rfl
   · rw [List.getElem?_append_right (by simpa using hlt),List.getElem?_replicate] at hi
     split at hi
     · cases hi; rfl
     · cases hi
 · obtain rfl:=(h:r=_)
   exact q .non H' [] S.same cn (fQ .non)
 · obtain rfl:=(h:s=r)
   exact q v H' bs e hf z
theorem uD {K:PySem.W.Frag} {Φ:List D->Sl->Prop} (hΦ:∀ ns:List Int,ns.length<=63->Φ [.lst (ns.map .int)] (.d (.bl true))) (H:Hp) (a:Addr) (ns:List Int) (hl:ns.length<=63) (hS:SqL K H a (ns.map V.int)):spD K Φ [.ref a] H (λv _=>v=.bl true) λ_ _ _=>False:=by
 have hh:hd H (λ_=>False)=H:=by funext b; unfold hd; rw [if_neg id]
 refine ⟨λ_=>False,_,_,λ_ z=>z.elim,.cons (.lst (vs:=ns.map V.int) (by rw [hh]; exact hS) ?_) .nil,hΦ ns hl,λv H' bs _ _ h=>?_⟩
 · clear hl hS
   induction ns with
   | nil=>exact .nil
   | cons n ns ih=>exact .cons .int ih
 · obtain ⟨_,u,e,d⟩:=h
   cases e
   cases d
   rfl
end
end Hy
namespace Hy
open PySem PySem.Spec PyProof.Rows L2
open Ev (D Den ar aU aP aq aO aA)
section
variable {X:Cx} {C:Bool} {τ:List Sl} {x y z:D} {a b e:Expr} {es:List Expr} {pos p:Pos} {k:Nat} {s:Sl} {ds:List D} {i j:Int}
theorem bV {K:PySem.W.Frag} {H:Hp}:∀ {vs:List V} {ns:List Int},ar K H vs (ns.map .int)->vs=ns.map V.int
 | _,[],h=>by cases h; rfl
 | _,n :: ns,h=>by
   cases h with
   | cons d r=>cases d; rw [bV r]; rfl
theorem iV:∀ {ns:List Int} {us:List Value},Vals (ns.map V.int) us->∃ xs:List (Int × Tok),us=xs.map (λp=>Value.int p.1 p.2)/\xs.map (·.1)=ns
 | [],_,h=>by cases h; exact ⟨[],rfl,rfl⟩
 | n :: ns,_,h=>by
   cases h with
   | cons rv rs=>
     obtain ⟨xs,rfl,rfl⟩:=iV rs
     obtain ⟨t,rfl⟩:=(show ∃ t,_=Value.int n t from rv)
     exact ⟨(n,t) :: xs,rfl,rfl⟩
theorem tD (hc:X.calm=true):bP X (.builtin "sum") (λxs H Q=>∃ (p:Addr) (ns:List Int),xs=[.ref p]/\SqL X.K H p (ns.map V.int)/\Q (.int ns.sum) H):=by
 intro pins s σ H xs us Q I r q
 obtain ⟨p,ns,rfl,h,q⟩:=q
 obtain ⟨u,rfl,ru⟩:∃ u,us=[u]/\RelV (.ref p) u:=by
   cases r with
   | cons r1 r=>cases r; exact ⟨_,rfl,r1⟩
 cases (show u=Value.ref _ from ru)
 obtain ⟨its,rv,pl,hz⟩:=I.list h
 obtain ⟨xs,rfl,hx⟩:=iV rv
 refine sum_intListG (xs:=xs.toArray) (I.ok.hd hc) (by have:=pl.isList; simpa [intItems] using this) λh' tk t' k=>?_
 refine ⟨.int ns.sum,H,I.kept k,⟨t',?_⟩,q⟩
 rw [List.size_toArray,preSum_eq,List.take_of_length_le (by simp),hx]
theorem xJ (hc:X.calm=true) (ns:List Int) {xs:List D} (hx:xs=ns.map .int):fK X (.builtin "sum") [.lst xs] (.d (.int ns.sum)):=⟨_,tD hc,λM vs H Q _ d q=>by
 subst hx
 cases d with
 | cons d r=>
   cases r
   cases d with
   | lst h r=>
     cases bV r
     exact ⟨_,_,rfl,aA az h,q _ H [] (ah.refl _) cn (fQ .int)⟩⟩
theorem ux:OpR X (binaryOp .Add) (λx y H Q=>∃ l b xs zs,x=.ref l/\y=.ref b/\SqL X.K H l xs/\SqL X.K H b zs/\xs.length + zs.length<=sizeLine/\∀ p,H p=none->Q (.ref p) (upd H p (.lst (xs++zs)))):=by
 intro pins s σ H x y v u Q I rx ry h
 obtain ⟨l,b,xs,zs,rfl,rfl,hH,hB,hz,q⟩:=h
 cases rx
 cases ry
 obtain ⟨its,r,pl,_⟩:=I.list hH
 obtain ⟨its2,r2,pl2,_⟩:=I.list hB
 have hl:=r.length
 have hl2:=r2.length
 obtain ⟨⟨cls,dd,data,sl⟩,ho,hc,n,hd⟩:=pl.isList
 obtain ⟨⟨cls2,dd2,data2,sl2⟩,ho2,hc2,n2,hd2⟩:=pl2.isList
 simp only at hc hd hc2 hd2
 subst hc hd hc2 hd2
 have e:its.toArray++its2.toArray=(its++its2).toArray:=by simp
 refine concat_meets ⟨_,ho,rfl⟩ ⟨_,ho2,rfl⟩ noFill_list_add seq_list_add PySem.F.slot_list_add PySem.F.entry_list_add (PySem.F.args_list_add_2 _ _) (list_addW l b its.toArray its2.toArray n n2 dd dd2 sl sl2 (by rw [List.size_toArray,List.size_toArray]; omega)) ⟨ho,ho2,?_⟩
 rw [e]
 exact ⟨.ref _,_,I.yo (t':=s.toks) (r.append r2) (by rw [List.length_append]; omega),rfl,q _ I.fresh⟩
theorem oX {xs ys:List D} (ha:PE X a (dE X.K C τ (.d (.lst xs)))) (hb:PE X b (dE X.K C τ (.d (.lst ys)))) (hl:xs.length + ys.length < 1000000):PE X (.BinOp a .Add b pos) (dE X.K C τ (.o (xs++ys))):=peW (tH ux ha hb) λσ H Q ⟨A,H₀,B,S,k⟩=>
 aT S λv H1 e1 d1=>aT (S.mono e1) λw H2 e2 d2=>by
   cases d1 with
   | lst h1 r1=>cases d2 with
     | lst h2 r2=>
       refine ⟨_,_,_,_,rfl,rfl,aA (az.trans e2) h1,aA az h2,by rw [r1.length,r2.length]; exact Nat.le_of_lt (Nat.lt_trans hl (by decide)),λp hp=>?_⟩
       obtain ⟨z1,z2,z3⟩:=gz (K:=X.K) hp ((r1.mono (au e2 λ_ z=>z)).append r2)
       exact k _ _ [p] (e1.trans (e2.trans z1)) (λb hb=>⟨(e1.trans e2).free (z2 b hb).1,(z2 b hb).2⟩) z3
theorem mkL (h:i.natAbs < 2 ^ 60):aU i j:=.inl (by
 rcases Nat.eq_zero_or_pos i.natAbs with z | z
 · rw [z]; decide
 · exact Nat.lt_trans ((Nat.log2_lt (by omega)).mpr h) (by decide))
theorem mkR (h:j.natAbs < 2 ^ 60):aU i j:=.inr (.inl (by
 rcases Nat.eq_zero_or_pos j.natAbs with z | z
 · rw [z]; decide
 · exact Nat.lt_trans ((Nat.log2_lt (by omega)).mpr h) (by decide)))
theorem mkD (h0:j ≠ 0) (h:j.natAbs < 2 ^ 62):aP j:=⟨h0,Nat.lt_trans ((Nat.log2_lt (by omega)).mpr h) (by decide)⟩
end
theorem ax {α:Type} {xs:List α} {i:Nat} {x:α} (h:xs[i]?=some x):atI xs (i:Int)=some x:=by
 unfold atI ixN
 have:=(List.getElem?_eq_some_iff.mp h).1
 rw [if_pos (by omega),if_pos (by omega)]
 simpa using h
theorem aV {ns:List Int} {i:Int} (h0:0<=i) (h:i.toNat < ns.length):atI (ns.map D.int) i=some (.int (ns.getD i.toNat 0)):=by
 obtain ⟨n,rfl⟩:=Int.eq_ofNat_of_zero_le h0
 exact ax (by
   have h:n < ns.length:=h
   simp [h])
theorem uX {xs:List D} (m n:Nat):cutD xs (some (m:Int)) (some (n:Int))=(xs.take n).drop m:=by
 unfold cutD
 rw [HT.oR,HT.oR]
 rw [<- List.drop_take]
 rcases Nat.le_total n xs.length with h | h
 · rw [Nat.min_eq_left h]
   rcases Nat.le_total m xs.length with h' | h'
   · rw [Nat.min_eq_left h']
   · rw [Nat.min_eq_right h',List.drop_eq_nil_of_le (by simp; omega),List.drop_eq_nil_of_le (by simp; omega)]
 · rw [Nat.min_eq_right h,List.take_of_length_le (Nat.le_refl _),List.take_of_length_le h]
   rcases Nat.le_total m xs.length with h' | h'
   · rw [Nat.min_eq_left h']
   · rw [Nat.min_eq_right h',List.drop_eq_nil_of_le (Nat.le_refl _),List.drop_eq_nil_of_le h']
theorem getD_none {α:Type} {xs:List α} {i:Nat} {d:α} (h:xs.length<=i):xs.getD i d=d:=by simp [List.getD,h]
theorem ex1 {α:Type} {p:α->Prop} {a:α} (h:p a):∃ a,p a:=⟨a,h⟩
theorem ex3 {α:Type} {p:α->α->α->Prop} {a b c:α} (h:p a b c):∃ a b c,p a b c:=⟨a,b,c,h⟩
end Hy
namespace Hy
open PySem PySem.Spec PyProof.Rows L2
open Ev (D Den ar)
noncomputable def Dfn (K:PySem.W.Frag) (x:Str) (st:Stmt) (f:Addr):Prop:=PySem.W.nsIn K mainGlobals x=some (some (.ref f))/\(∃ oc od kV dc pm an cd ct sl,K.lookup f=some ⟨oc,od,.func (PySem.W.fnOf x x (dh st) (bS st) (aj st) .none kV dc pm an cd ct),sl⟩/\PySem.W.codeIn K cd x=true)/\PySem.W.keepIn K (.ref f)=true
noncomputable def BdA (x:Str) (st:Stmt) (ps:List Str):Prop:=∀ (kV dc pm:Value) (an:Option Addr) (cd ct:Value) (us:List Value),us.length=ps.length->bindArgs (PySem.W.fnOf x x (dh st) (bS st) (aj st) .none kV dc pm an cd ct) ⟨us,[]⟩=pure (ps.zip us)
noncomputable def nsL (K:PySem.W.Frag):List Str->Prop
 | []=>True
 | x :: r=>PySem.W.nsIn K mainGlobals x=some none/\nsL K r
section
variable {P:Program} {w:World} {K:PySem.W.Frag} {h:Heap} {mg:Str->Option Value} {base:Heap} {x:Str} {st:Stmt} {f:Addr} {ps:List Str} {k:Nat} {Φ:List D->Sl->Prop}
theorem Dfn.of {oc:Value} {od an:Option Addr} {kV dc pm cd ct:Value} {sl:Array (Option Value)} (a:PySem.W.nsIn K mainGlobals x=some (some (.ref f))) (l:K.lookup f=some ⟨oc,od,.func (PySem.W.fnOf x x (dh st) (bS st) (aj st) .none kV dc pm an cd ct),sl⟩) (c:PySem.W.codeIn K cd x=true) (k:PySem.W.keepIn K (.ref f)=true):Dfn K x st f:=⟨a,⟨_,_,_,_,_,_,_,_,_,l,c⟩,k⟩
theorem nsL.none (X:K.In h) (G:h.Ns mainGlobals mg):∀ {l:List Str},nsL K l->∀ x ∈ l,mg x=none
 | _ :: _,z,x,m=>by
   rcases List.mem_cons.mp m with rfl | m
   · exact PySem.W.mg_none_of X G z.1
   · exact nsL.none X G z.2 x m
theorem Dfn.fn (d:Dfn K x st f) (X:K.In h) (G:h.Ns mainGlobals mg) (b:BdA x st ps):∃ fd,Fun K x x st f fd/\mg x=some (.ref f)/\PySem.W.keepIn K (.ref f)=true/\Binds K fd ps []:=by
 obtain ⟨a,⟨oc,od,kV,dc,pm,an,cd,ct,sl,l,c'⟩,q⟩:=d
 have F:=ti l c' q
 exact ⟨_,F,PySem.W.mg_of X G a,q,F.binds (b kV dc pm an cd ct)⟩
theorem Dfn.cal (d:Dfn K x st f) (X:K.In h) (G:h.Ns mainGlobals mg) (b:BdA x st ps) (o:∀ fd,Fun K x x st f fd->aQ P w K mg base CX0 k f fd ps (spD K Φ)):Cal P w K mg base k x Φ:=by
 obtain ⟨fd,F,h1,h2,h3⟩:=d.fn X G b
 exact ⟨f,fd,ps,o fd F,h1,h2,h3⟩
end
theorem bd1 {Q:List Value->Prop} (h:∀ a,Q [a]):∀ us:List Value,us.length=1->Q us:=λus e=>match us,e with | [a],_=>h a
theorem bd2 {Q:List Value->Prop} (h:∀ a b,Q [a,b]):∀ us:List Value,us.length=2->Q us:=λus e=>match us,e with | [a,b],_=>h a b
theorem bd3 {Q:List Value->Prop} (h:∀ a b c,Q [a,b,c]):∀ us:List Value,us.length=3->Q us:=λus e=>match us,e with | [a,b,c],_=>h a b c
theorem bd4 {Q:List Value->Prop} (h:∀ a b c d,Q [a,b,c,d]):∀ us:List Value,us.length=4->Q us:=λus e=>match us,e with | [a,b,c,d],_=>h a b c d
theorem bd6 {Q:List Value->Prop} (h:∀ a b c d e f,Q [a,b,c,d,e,f]):∀ us:List Value,us.length=6->Q us:=λus e=>match us,e with | [a,b,c,d,f,g],_=>h a b c d f g
end Hy
namespace Hy
open PySem PySem.Spec PyProof.Rows L2
open Ev (D Den ar aq aO aA)
noncomputable def cF:List Nat->Nd->Option Nd
 | [],t=>some t
 | i :: p,.l xs=>(xs[i]?).bind (cF p)
 | i :: p,.t xs=>(xs[i]?).bind (cF p)
 | _ :: _,.d _=>none
noncomputable def cR:List Nat->Nd->Nd->Nd
 | [],_,n=>n
 | i :: p,.l xs,n=>.l (xs.set i (cR p (xs.getD i (.d .non)) n))
 | i :: p,.t xs,n=>.t (xs.set i (cR p (xs.getD i (.d .non)) n))
 | _ :: _,.d x,_=>.d x
noncomputable def bK (H:Hp):List Nat->V->V->Prop
 | [],u,v=>v=u
 | i :: p,u,v=>∃ a vs w,u=.ref a/\(H a=some (.lst vs)\/H a=some (.tup vs))/\vs[i]?=some w/\bK H p w v
theorem bK.mono {H H':Hp} (e:ah H H'):∀ {p:List Nat} {u v:V},bK H p u v->bK H' p u v
 | [],_,_,h=>h
 | _ :: _,_,_,⟨a,vs,w,h1,h2,h3,h4⟩=>⟨a,vs,w,h1,h2.elim (λz=>.inl (e _ _ z)) (λz=>.inr (e _ _ z)),h3,h4.mono e⟩
theorem bK.snoc {H:Hp} {i:Nat} {a:Addr} {vs:List V} {w:V}:∀ {p:List Nat} {u:V},bK H p u (.ref a)->(H a=some (.lst vs)\/H a=some (.tup vs))->vs[i]?=some w->bK H (p++[i]) u w
 | [],_,h,h1,h2=>⟨a,vs,w,h.symm,h1,h2,rfl⟩
 | _ :: _,_,⟨b,us,x,z1,z2,z3,z4⟩,h1,h2=>⟨b,us,x,z1,z2,z3,z4.snoc h1 h2⟩
section
variable {K:PySem.W.Frag} {G H:Hp}
theorem aB.length:∀ {vs:List V} {bs:List Addr} {xs:List Nd},aB K G H vs bs xs->vs.length=xs.length
 | _,_,_,.nil=>rfl
 | _,_,_,.cons _ r=>congrArg (· + 1) r.length
theorem aB.part:∀ {vs:List V} {bs:List Addr} {xs:List Nd} {i:Nat} {c:Nd},aB K G H vs bs xs->xs[i]?=some c->∃ v l m r,vs[i]?=some v/\bs=l++(m++r)/\a8 K G H v m c /\
   ∀ {G' H':Hp} {m':List Addr} {c':Nd},ah G G'->(∀ b,b ∈ l\/b ∈ r->H' b=H b)->a8 K G' H' v m' c'->aB K G' H' vs (l++(m'++r)) (xs.set i c')
 | _,_,_,_,_,.nil,e=>by cases e
 | _,_,_,0,_,.cons (b1:=b1) (b2:=b2) h r,e=>by
   cases e
   exact ⟨_,[],b1,b2,rfl,rfl,h,λg e h'=>by rw [List.nil_append]; exact .cons h' (r.frame g λb hb=>e b (.inr hb))⟩
 | _,_,_,i + 1,c,.cons (b1:=b1) h r,e=>by
   obtain ⟨v,l,m,q,h1,h2,h3,h4⟩:=aB.part (i:=i) (c:=c) r (by simpa using e)
   refine ⟨v,b1++l,m,q,by simpa using h1,by rw [h2,List.append_assoc],h3,λ{G' H' m' c'} g e h'=>?_⟩
   rw [List.append_assoc]
   exact .cons (h.frame g λb hb=>e b (.inl (List.mem_append_left _ hb))) (h4 g (λb hb=>e b (hb.elim (λz=>.inl (List.mem_append_right _ z)) .inr)) h')
theorem a8.focus:∀ (p:List Nat) {u:V} {bs:List Addr} {t c:Nd},a8 K G H u bs t->cF p t=some c->∃ v l m r,bK H p u v/\bs=l++(m++r)/\a8 K G H v m c /\
   ∀ {G' H':Hp} {m':List Addr} {c':Nd},ah G G'->(∀ b,b ∈ l\/b ∈ r->H' b=H b)->a8 K G' H' v m' c'->a8 K G' H' u (l++(m'++r)) (cR p t c')
 | [],u,bs,tr,c,h,e=>by
   cases e
   exact ⟨u,[],bs,[],rfl,by simp,h,λg _ h'=>by simpa [cR] using h'⟩
 | i :: p,_,_,.l xs,c,.l (a:=a) (bs:=bs) hH r,e=>by
   rw [cF] at e
   cases ei:xs[i]? with
   | none=>rw [ei] at e; cases e
   | some x=>
     rw [ei] at e
     obtain ⟨v,l,m,q,h1,h2,h3,h4⟩:=r.part ei
     obtain ⟨w,l',m',q',g1,g2,g3,g4⟩:=a8.focus p h3 e
     refine ⟨w,a :: (l++l'),m',q'++q,⟨a,_,v,rfl,.inl hH,h1,g1⟩,by rw [h2,g2]; simp,g3,λ{G' H' m2 c2} g e2 h'=>?_⟩
     have k1:=g4 g (λb hb=>e2 b (hb.elim (λz=>.inl (List.mem_cons_of_mem _ (List.mem_append_right _ z))) λz=>.inr (List.mem_append_left _ z))) h'
     have k2:=h4 g (λb hb=>e2 b (hb.elim (λz=>.inl (List.mem_cons_of_mem _ (List.mem_append_left _ z))) λz=>.inr (List.mem_append_right _ z))) k1
     rw [cR,show xs.getD i (.d .non)=x by simp [List.getD,ei]]
     have k3:=a8.l (G:=G') (K:=K) (a:=a) (by rw [e2 a (.inl (List.mem_cons_self ..))]; exact hH) k2
     simpa using k3
 | i :: p,_,_,.t xs,c,.t (a:=a) (bs:=bs) hH r,e=>by
   rw [cF] at e
   cases ei:xs[i]? with
   | none=>rw [ei] at e; cases e
   | some x=>
     rw [ei] at e
     obtain ⟨v,l,m,q,h1,h2,h3,h4⟩:=r.part ei
     obtain ⟨w,l',m',q',g1,g2,g3,g4⟩:=a8.focus p h3 e
     refine ⟨w,a :: (l++l'),m',q'++q,⟨a,_,v,rfl,.inr hH,h1,g1⟩,by rw [h2,g2]; simp,g3,λ{G' H' m2 c2} g e2 h'=>?_⟩
     have k1:=g4 g (λb hb=>e2 b (hb.elim (λz=>.inl (List.mem_cons_of_mem _ (List.mem_append_right _ z))) λz=>.inr (List.mem_append_left _ z))) h'
     have k2:=h4 g (λb hb=>e2 b (hb.elim (λz=>.inl (List.mem_cons_of_mem _ (List.mem_append_left _ z))) λz=>.inr (List.mem_append_right _ z))) k1
     rw [cR,show xs.getD i (.d .non)=x by simp [List.getD,ei]]
     have k3:=a8.t (G:=G') (K:=K) (a:=a) (by rw [e2 a (.inl (List.mem_cons_self ..))]; exact hH) k2
     simpa using k3
theorem bK.det:∀ {p:List Nat} {u v w:V},bK H p u v->bK H p u w->v=w
 | [],_,_,_,h,h'=>h.trans h'.symm
 | _ :: _,_,_,_,⟨a,vs,x,h1,h2,h3,h4⟩,⟨b,us,y,g1,g2,g3,g4⟩=>by
   rw [h1] at g1
   cases g1
   have e:vs=us:=by
     rcases h2 with h2 | h2 <;> rcases g2 with g2 | g2 <;> rw [h2] at g2 <;> cases g2 <;> rfl
   subst e
   rw [h3] at g3
   cases g3
   exact h4.det g4
theorem bx.frame {G' H':Hp} (g:ah G G') {v:Option V} {bs:List Addr}:∀ {s:Sl},(∀ b ∈ bs,H' b=H b)->bx K G H v bs s->bx K G' H' v bs s
 | .un,_,h=>h
 | .d _,_,⟨h,u,e1,h2⟩=>⟨h,u,e1,h2.mono g⟩
 | .o _,e,⟨a,vs,h1,h2,h3,h4⟩=>⟨a,vs,h1,h2,by rw [e a (by rw [h1]; exact List.mem_cons_self ..)]; exact h3,h4.mono g⟩
 | .n _,e,⟨h0,u,h1,h2⟩=>⟨h0,u,h1,h2.frame g e⟩
 | .x E,e,⟨a,o,h1,h2,h3,h4⟩=>⟨a,o,h1,h2,by rw [e a (by rw [h1]; exact List.mem_cons_self ..)]; exact h3,E.mono g h4⟩
theorem nE {l r b0 b1:List Addr} {a:Addr} (h:(l++((a :: b0)++r)).Nodup) (h1:b1.Nodup) (hb:∀ b ∈ b1,b ∈ b0\/(b ∉ l/\b ≠ a/\b ∉ r)):(l++((a :: b1)++r)).Nodup:=by
 obtain ⟨z1,z2,z3⟩:=List.nodup_append.mp h
 rw [List.cons_append] at z2
 obtain ⟨z4,z5⟩:=List.nodup_cons.mp z2
 obtain ⟨z6,z7,z8⟩:=List.nodup_append.mp z5
 refine List.nodup_append.mpr ⟨z1,?_,λx hx y hy=>?_⟩
 · rw [List.cons_append]
   refine List.nodup_cons.mpr ⟨λz=>?_,List.nodup_append.mpr ⟨h1,z7,λx hx y hy=>?_⟩⟩
   · rcases List.mem_append.mp z with z | z
     · rcases hb a z with q | q
       · exact z4 (List.mem_append_left _ q)
       · exact q.2.1 rfl
     · exact z4 (List.mem_append_right _ z)
   · rcases hb x hx with q | q
     · exact z8 x q y hy
     · exact λe=>q.2.2 (e ▸ hy)
 · rw [List.cons_append] at hy
   rcases List.mem_cons.mp hy with q | q
   · exact z3 x hx y (by rw [q]; exact List.mem_append_left _ (List.mem_cons_self ..))
   · rcases List.mem_append.mp q with q | q
     · rcases hb y q with q | q
       · exact z3 x hx y (List.mem_append_left _ (List.mem_cons_of_mem _ q))
       · exact λe=>q.1 (e ▸ hx)
     · exact z3 x hx y (List.mem_append_right _ q)
theorem Sta.putN {A:Addr->Prop} {H₀:Hp} {τ:List Sl} {B:Nat->List Addr} {σ:L2.St} {i:Nat} {t:Nd} {p:List Nat} {xs:List Nd} (S:Sta K A H₀ τ B σ H) (hi:τ[i]?=some (.n t)) (hp:cF p t=some (.l xs)) :
   ∃ u a vs bs0,(σ[i]?).join=some u/\bK H p u (.ref a)/\H a=some (.lst vs)/\aB K (hd H (own A B)) H vs bs0 xs/\bs0.Nodup/\own A B a/\(∀ b ∈ bs0,own A B b/\b ≠ a) /\
     ∀ {H1:Hp} {vs':List V} {bs1:List Addr} {xs':List Nd},ah H H1->bs1.Nodup->(∀ b ∈ bs1,b ∈ bs0\/(H b=none/\∃ o,H1 b=some o))->aB K (hd (upd H1 a (.lst vs')) λb=>own A B b\/b ∈ bs1) (upd H1 a (.lst vs')) vs' bs1 xs' ->
       ∃ B',Sta K A H₀ (τ.set i (.n (cR p t (.l xs')))) B' σ (upd H1 a (.lst vs')):=by
 obtain ⟨nd,u,eu,ok⟩:=S.sl i _ hi
 obtain ⟨v,l,m,r,pv,hbs,okc,back⟩:=ok.focus p hp
 cases okc with
 | @l a vs bs0 _ hH r0=>
   have mem:∀ b,b ∈ l\/b=a\/b ∈ bs0\/b ∈ r->b ∈ B i:=λb hb=>by
     rw [hbs]
     rcases hb with z | z | z | z
     · exact List.mem_append_left _ z
     · exact List.mem_append_right _ (by rw [z]; exact List.mem_append_left _ (List.mem_cons_self ..))
     · exact List.mem_append_right _ (List.mem_append_left _ (List.mem_cons_of_mem _ z))
     · exact List.mem_append_right _ (List.mem_append_right _ z)
   have nd':=nd
   rw [hbs] at nd'
   obtain ⟨n1,n2,n3⟩:=List.nodup_append.mp nd'
   rw [List.cons_append] at n2
   obtain ⟨n4,n5⟩:=List.nodup_cons.mp n2
   obtain ⟨n6,_,_⟩:=List.nodup_append.mp n5
   have ha:own A B a:=.inr ⟨i,mem a (.inr (.inl rfl))⟩
   refine ⟨u,a,vs,bs0,eu,pv,hH,r0,n6,ha,λb hb=>⟨.inr ⟨i,mem b (.inr (.inr (.inl hb)))⟩,λz=>n4 (z ▸ List.mem_append_left _ hb)⟩,λ{H1 vs' bs1 xs'} e h1 hb hx=>?_⟩
   have keep:∀ b o,b ≠ a->H b=some o->upd H1 a (.lst vs') b=H b:=λb o ne h=>by rw [ao ne,e _ _ h,h]
   have la:∀ b,b ∈ l\/b ∈ r->b ≠ a:=λb hb z=>by
     rcases hb with q | q
     · exact n3 b q a (List.mem_append_left _ (List.mem_cons_self ..)) z
     · exact n4 (z ▸ List.mem_append_right _ q)
   have fresh:∀ b ∈ bs1,b ∈ bs0\/(b ∉ l/\b ≠ a/\b ∉ r):=λb hb1=>by
     rcases hb b hb1 with q | ⟨q,_⟩
     · exact .inl q
     · have no:∀ c,c ∈ B i->b ≠ c:=λc hc z=>by obtain ⟨o,hc⟩:=S.bd i c hc; rw [<- z,q] at hc; cases hc
       exact .inr ⟨λz=>no b (mem b (.inl z)) rfl,no a (mem a (.inr (.inl rfl))),λz=>no b (mem b (.inr (.inr (.inr z)))) rfl⟩
   have sub:∀ b,own A (upB B i (l++((a :: bs1)++r))) b->own A B b\/b ∈ bs1:=λb z=>by
     rcases z with z | ⟨j,z⟩
     · exact .inl (.inl z)
     · rcases aX z with ⟨_,z⟩ | ⟨_,z⟩
       · rcases List.mem_append.mp z with z | z
         · exact .inl (.inr ⟨i,mem b (.inl z)⟩)
         · rw [List.cons_append] at z
           rcases List.mem_cons.mp z with z | z
           · exact .inl (z ▸ ha)
           · rcases List.mem_append.mp z with z | z
             · exact .inr z
             · exact .inl (.inr ⟨i,mem b (.inr (.inr (.inr z)))⟩)
       · exact .inl (.inr ⟨j,z⟩)
   have sm:ah (hd H (own A B)) (hd (upd H1 a (.lst vs')) (own A (upB B i (l++((a :: bs1)++r))))):=λb o z=>by
     obtain ⟨z1,z2⟩:=ai.mp z
     refine ai.mpr ⟨λy=>?_,by rw [keep b o (λq=>z1 (q ▸ ha)) z2]; exact z2⟩
     rcases sub b y with y | y
     · exact z1 y
     · rcases hb b y with q | ⟨q,_⟩
       · exact z1 (.inr ⟨i,mem b (.inr (.inr (.inl q)))⟩)
       · rw [q] at z2; cases z2
   have hs:ah H₀ (upd H1 a (.lst vs')):=λb o z=>by
     have f0:=S.fr i a (mem a (.inr (.inl rfl)))
     rw [ao (λq=>by rw [q,f0] at z; cases z)]
     exact e _ _ (S.same _ _ z)
   refine ⟨upB B i (l++((a :: bs1)++r)),hs,by rw [List.length_set,S.len],λj s hj=>?_,λj b z=>?_,λj k b z1 z2=>?_,S.ad,λj b z=>?_⟩
   · by_cases ej:j=i
     · subst ej
       have hl:=(List.getElem?_eq_some_iff.mp hi).1
       rw [List.getElem?_set_self hl] at hj
       cases hj
       unfold upB
       rw [if_pos rfl]
       refine ⟨nE nd' h1 fresh,u,eu,back sm (λb hb=>?_) (.l aw (hx.frame (au (ah.refl _) sub) λ_ _=>rfl))⟩
       obtain ⟨o,q⟩:=S.bd j b (mem b (hb.elim .inl λz=>.inr (.inr (.inr z))))
       exact keep b o (la b hb) q
     · rw [List.getElem?_set_ne (λz=>ej z.symm)] at hj
       unfold upB
       rw [if_neg ej]
       refine (S.sl j s hj).frame sm λb hb=>?_
       obtain ⟨o,q⟩:=S.bd j b hb
       exact keep b o (λz=>ej (S.uq j i a (z ▸ hb) (mem a (.inr (.inl rfl))))) q
   · rcases aX z with ⟨_,z⟩ | ⟨_,z⟩
     · rcases sub b (.inr ⟨i,by unfold upB; rw [if_pos rfl]; exact z⟩) with y | y
       · rcases List.mem_append.mp z with z | z
         · exact S.fr i b (mem b (.inl z))
         · rw [List.cons_append] at z
           rcases List.mem_cons.mp z with z | z
           · exact S.fr i b (mem b (.inr (.inl z)))
           · rcases List.mem_append.mp z with z | z
             · rcases hb b z with q | ⟨q,_⟩
               · exact S.fr i b (mem b (.inr (.inr (.inl q))))
               · exact S.same.free q
             · exact S.fr i b (mem b (.inr (.inr (.inr z))))
       · rcases hb b y with q | ⟨q,_⟩
         · exact S.fr i b (mem b (.inr (.inr (.inl q))))
         · exact S.same.free q
     · exact S.fr j b z
   · have inB:∀ {c},c ∈ l++((a :: bs1)++r)->c ∈ B i\/H c=none:=λ{c} z=>by
       rcases List.mem_append.mp z with z | z
       · exact .inl (mem c (.inl z))
       · rw [List.cons_append] at z
         rcases List.mem_cons.mp z with z | z
         · exact .inl (mem c (.inr (.inl z)))
         · rcases List.mem_append.mp z with z | z
           · rcases hb c z with q | ⟨q,_⟩
             · exact .inl (mem c (.inr (.inr (.inl q))))
             · exact .inr q
           · exact .inl (mem c (.inr (.inr (.inr z))))
     have cross:∀ {j},j ≠ i->b ∈ B j->b ∈ l++((a :: bs1)++r)->False:=λ{j} nj y1 y2=>by
       rcases inB y2 with q | q
       · exact nj (S.uq j i b y1 q)
       · obtain ⟨o,w⟩:=S.bd j b y1; rw [q] at w; cases w
     rcases aX z1 with ⟨e1,y1⟩ | ⟨e1,y1⟩ <;> rcases aX z2 with ⟨e2,y2⟩ | ⟨e2,y2⟩
     · exact e1.trans e2.symm
     · exact (cross e2 y2 y1).elim
     · exact (cross e1 y1 y2).elim
     · exact S.uq j k b y1 y2
   · rcases aX z with ⟨_,z⟩ | ⟨_,z⟩
     · by_cases e':b=a
       · exact ⟨_,by rw [e']; exact aw⟩
       · rw [ao e']
         have old:b ∈ B i->∃ o,H1 b=some o:=λq=>let ⟨o,w⟩:=S.bd i b q; ⟨o,e _ _ w⟩
         rcases List.mem_append.mp z with z | z
         · exact old (mem b (.inl z))
         · rw [List.cons_append] at z
           rcases List.mem_cons.mp z with z | z
           · exact absurd z e'
           · rcases List.mem_append.mp z with z | z
             · rcases hb b z with q | ⟨_,q⟩
               · exact old (mem b (.inr (.inr (.inl q))))
               · exact q
             · exact old (mem b (.inr (.inr (.inr z))))
     · by_cases e':b=a
       · exact ⟨_,by rw [e']; exact aw⟩
       · rw [ao e']
         obtain ⟨o,w⟩:=S.bd j b z
         exact ⟨o,e _ _ w⟩
end
noncomputable def dP (K:PySem.W.Frag) (τ:List Sl) (i:Nat) (p:List Nat):TE:=λσ H Q=>∃ A H₀ B,Sta K A H₀ τ B σ H/\∀ u v H',(σ[i]?).join=some u->ah H H'->bK H' p u v->Q v H'
noncomputable def oz:Sl->Option Nd
 | .un=>none
 | .d x=>some (.d x)
 | .o xs=>some (.l (xs.map .d))
 | .n t=>some t
 | .x _=>none
section
variable {K:PySem.W.Frag} {G H:Hp}
theorem rY:∀ {vs:List V} {xs:List D},ar K G vs xs->aB K G H vs [] (xs.map .d)
 | _,_,.nil=>.nil
 | _,_,.cons h r=>.cons (b1:=[]) (b2:=[]) (.d h) (rY r)
theorem bx.nd {v:V} {bs:List Addr} {s:Sl} {c:Nd} (h:bx K G H (some v) bs s) (e:oz s=some c):a8 K G H v bs c/\bs.Nodup:=by
 cases s with
 | un=>cases e
 | d x=>cases e; obtain ⟨rfl,u,eu,d⟩:=h; cases eu; exact ⟨.d d,List.nodup_nil⟩
 | o xs=>cases e; obtain ⟨a,vs,rfl,e2,h3,h4⟩:=h; cases e2; exact ⟨.l h3 (rY h4),by simp⟩
 | n t=>cases e; obtain ⟨h0,u,eu,h2⟩:=h; cases eu; exact ⟨h2,h0⟩
 | x E=>cases e
theorem aB.snoc {v:V} {c:Nd} {b2:List Addr} (h:a8 K G H v b2 c):∀ {vs:List V} {bs:List Addr} {xs:List Nd},aB K G H vs bs xs->aB K G H (vs++[v]) (bs++b2) (xs++[c])
 | _,_,_,.nil=>by have:=aB.cons h .nil; rw [List.append_nil] at this; exact this
 | _,_,_,.cons h1 r=>by rw [List.append_assoc]; exact .cons h1 (aB.snoc h r)
theorem aB.put {v:V} {c:Nd} {b2:List Addr} (h:a8 K G H v b2 c):∀ {vs:List V} {bs:List Addr} {xs:List Nd} (j:Nat),j < xs.length->aB K G H vs bs xs->∃ l r,(∀ b,b ∈ l\/b ∈ r->b ∈ bs)/\(bs.Nodup->(l++r).Nodup)/\aB K G H (vs.set j v) (l++(b2++r)) (xs.set j c)
 | _,_,_,_,hj,.nil=>absurd hj (Nat.not_lt_zero _)
 | _,_,_,0,_,.cons (b1:=b1) (b2:=b3) h1 r=>⟨[],b3,λb hb=>List.mem_append_right _ (hb.elim (λz=>nomatch z) id),λn=>(List.nodup_append.mp n).2.1,by rw [List.nil_append]; exact .cons h r⟩
 | _,_,_,j + 1,hj,.cons (b1:=b1) (b2:=b3) h1 r=>by
   obtain ⟨l,q,z1,z2,z3⟩:=aB.put h j (by simpa using hj) r
   refine ⟨b1++l,q,λb hb=>?_,λn=>?_,by rw [List.append_assoc]; exact .cons h1 z3⟩
   · rcases hb with hb | hb
     · exact (List.mem_append.mp hb).elim (List.mem_append_left _) λz=>List.mem_append_right _ (z1 b (.inl z))
     · exact List.mem_append_right _ (z1 b (.inr hb))
   · obtain ⟨n1,n2,n3⟩:=List.nodup_append.mp n
     rw [List.append_assoc]
     refine List.nodup_append.mpr ⟨n1,z2 n2,λx hx y hy=>n3 x hx y (z1 y ?_)⟩
     exact (List.mem_append.mp hy)
theorem Sta.nd {A:Addr->Prop} {H₀:Hp} {τ:List Sl} {B:Nat->List Addr} {σ:L2.St} (S:Sta K A H₀ τ B σ H) {i:Nat} {s:Sl} {c:Nd} (hi:τ[i]?=some s) (hc:oz s=some c):Sta K A H₀ (τ.set i (.n c)) (upB B i (B i)) σ H:=
 S.less (λ_ z=>z) λG' g _=>by
   have q:=S.sl i s hi
   obtain ⟨u,e⟩:∃ u,(σ[i]?).join=some u:=by
     cases s with
     | un=>cases hc
     | d x=>obtain ⟨_,u,e,_⟩:=q; exact ⟨u,e⟩
     | o xs=>obtain ⟨_,_,_,e,_⟩:=q; exact ⟨_,e⟩
     | n t=>obtain ⟨_,u,e,_⟩:=q; exact ⟨u,e⟩
     | x E=>cases hc
   rw [e] at q ⊢
   obtain ⟨q1,q2⟩:=q.nd hc
   exact ⟨q2,u,rfl,q1.frame g λ_ _=>rfl⟩
end
section
variable {X:Cx} {C:Bool} {τ:List Sl} {x y z:D} {a b e o ix:Expr} {es:List Expr} {pos p q:Pos} {k:Nat} {s:Sl} {N:Po} {rest:List Stmt} {i:Nat} {t c:Nd} {pt:List Nat} {xs:List Nd} {j:Int} {m:Nat}
theorem wz (i:Nat) {n:Str} {t:Nd} (h:τ[i]?=some (.n t):=by rfl) (hN:X.N[i]?=some n:=by rfl) (hv:Vis X.env.scope n:=by first | exact Or.inl rfl | exact Or.inr (Or.inl rfl) | exact Or.inr (Or.inr rfl))
   (hd:(n == ("__debug__" : Str))=false:=by decide) (hcd:(n == ("__classdict__" : Str))=false:=by decide):PE X (.Name n pos) (dP X.K τ i []):=peW (bw hN hv hd hcd) λσ H Q ⟨A,H₀,B,S,k⟩=>by
 obtain ⟨_,u,e,_⟩:=S.sl i _ h
 exact ⟨u,slot_of e,k u u H e (ah.refl _) rfl⟩
theorem Sta.at {K:PySem.W.Frag} {A:Addr->Prop} {H₀ H:Hp} {τ:List Sl} {B:Nat->List Addr} {σ:L2.St} (S:Sta K A H₀ τ B σ H) (hi:τ[i]?=some (.n t)) (hp:cF pt t=some c):∃ u v m,(σ[i]?).join=some u/\bK H pt u v/\a8 K (hd H (own A B)) H v m c/\∀ b ∈ m,b ∈ B i:=by
 obtain ⟨_,u,e,ok⟩:=S.sl i _ hi
 obtain ⟨v,l,m,r,h1,h2,h3,_⟩:=ok.focus pt hp
 exact ⟨u,v,m,e,h1,h3,λb hb=>by rw [h2]; exact List.mem_append_right _ (List.mem_append_left _ hb)⟩
theorem um {K:PySem.W.Frag} {G H:Hp} {vs:List V} {bs:List Addr} {m:Nat} (r:aB K G H vs bs xs) (hm:m < xs.length):∃ v,vs[m]?=some v:=⟨vs[m]'(by rw [r.length]; exact hm),List.getElem?_eq_getElem _⟩
theorem vR {n m:Nat} {j:Int} (h:ixN n j=some m):m < n:=by
 unfold ixN at h
 split at h
 · split at h
   · cases h; omega
   · cases h
 · split at h
   · cases h; omega
   · cases h
theorem xa {ap cp:Pos} (ho:PE X o (dP X.K τ i pt)) (he:PE X e (dE X.K true τ s)) (hi:τ[i]?=some (.n t)) (hp:cF pt t=some (.l xs)) (hc:oz s=some c) (hl:xs.length < 1000000) (hr:PSs X rest (dS X.K (τ.set i (.n (cR pt t (.l (xs++[c]))))) N))
   (hfew:((backTo cp (starEach [e] X.env)).all (λx=>!x.1) && (backToKw cp (keywordEach [] X.env)).all (λx=>x.1.isSome) && decide (([e]:List Expr).length + ([]:List Keyword).length + (if ([]:List Keyword).isEmpty then 0 else 1) < 30))=true:=by rfl)
   (hline:(ap.endLine == cp.line)=true:=by rfl) (hst:starEach [e] X.env=(false,eval e X.env) :: starEach [] X.env:=by rfl) (hpl:(backTo cp (starEach [] X.env)).any (·.1)=false:=by rfl)
   (hs:swapsWith (.Call (.Attribute o "append" ap) [e] [] cp) none pos.line X.env=pure false:=by rfl) (hbase:attributeBase o "append" X.env (eval o X.env)=eval o X.env:=by rfl) :
   PSs X (.Expr (.Call (.Attribute o "append" ap) [e] [] cp) pos :: rest) (dS X.K τ N):=
 bp (M:=(·=τ.set i (.n (cR pt t (.l (xs++[c])))))) (psW (eA (l6 PySem.F.plainAttrs_list PySem.F.slot_list_append PySem.F.type_list_append ez ho (br he cu hst) hbase hfew hline hst hpl) hs) λD σ H ⟨A,H₀,B,S,Me⟩=>by
   refine ⟨A,H₀,B,S,λu v H1 eu e1 pv=>?_⟩
   have S1:=S.mono e1
   obtain ⟨u',l,vs,bs0,eu',pv',hH,r0,nd0,hal,hown,put⟩:=S1.putN hi hp
   rw [eu] at eu'
   cases eu'
   obtain rfl:=pv.det pv'
   refine ⟨.inl ⟨rfl,_,SqL.of hH⟩,A,H₀,B,S1,λw H2 bs e2 hf hw=>⟨l,vs,w,rfl,rfl,e2 _ _ hH,by rw [r0.length]; exact Nat.lt_trans hl (by decide),?_⟩⟩
   obtain ⟨nw,ndw⟩:=hw.nd hc
   have off:∀ b ∈ bs,b ≠ l:=λb hb z=>by rw [z] at hb; rw [(hf l hb).1] at hH; cases hH
   have sm:ah (hd H2 λb=>own A B b\/b ∈ bs) (hd (upd H2 l (.lst (vs++[w]))) λb=>own A B b\/b ∈ bs0++bs):=λb o z=>by
     obtain ⟨z1,z2⟩:=ai.mp z
     refine ai.mpr ⟨λy=>z1 ?_,by rw [ao (λy:b=l=>z1 (.inl (by rw [y]; exact hal)))]; exact z2⟩
     rcases y with y | y
     · exact .inl y
     · exact (List.mem_append.mp y).elim (λz=>.inl (hown b z).1) .inr
   have sm0:ah (hd H1 (own A B)) (hd (upd H2 l (.lst (vs++[w]))) λb=>own A B b\/b ∈ bs0++bs):=λb o z=>by
     obtain ⟨z1,z2⟩:=ai.mp z
     refine ai.mpr ⟨λy=>?_,by rw [ao (λy:b=l=>z1 (by rw [y]; exact hal))]; exact e2 _ _ z2⟩
     rcases y with y | y
     · exact z1 y
     · rcases List.mem_append.mp y with y | y
       · exact z1 (hown b y).1
       · rw [(hf b y).1] at z2; cases z2
   obtain ⟨B',S'⟩:=put (H1:=H2) (vs':=vs++[w]) (bs1:=bs0++bs) (xs':=xs++[c]) e2 (List.nodup_append.mpr ⟨nd0,ndw,λx hx y hy z=>by
       obtain ⟨o,q⟩:=r0.some_of x hx
       rw [z,(hf y hy).1] at q; cases q⟩)
     (λb hb=>(List.mem_append.mp hb).elim .inl λz=>.inr (hf b z))
     (aB.snoc (nw.frame sm λb hb=>ao (off b hb)) (r0.frame sm0 λb hb=>by
       obtain ⟨o,q⟩:=r0.some_of b hb
       rw [ao (hown b hb).2,e2 _ _ q,q]))
   exact Me.nx _ B' _ _ rfl S') λ_ e=>e ▸ hr
end
end Hy
namespace Ev
open PySem PySem.Spec PyProof.Rows L2
noncomputable def bad:Str:=⟨#[0x110000]⟩
mutual
noncomputable def eqD:D->D->Bool
 | .non,.non=>true
 | .bl a,.bl b=>a == b
 | .bl a,.int j=>(if a then 1 else 0) == j
 | .int i,.bl b=>i == (if b then 1 else 0)
 | .int a,.int b=>a == b
 | .str a,.str b=>a == b
 | .tup xs,.tup ys=>fj xs ys
 | .lst xs,.lst ys=>fj xs ys
 | .box _,.box _=>true
 | .box _,.str b=>bad == b
 | .str a,.box _=>a == bad
 | .box _,.non | .box _,.bl _ | .box _,.int _ | .box _,.tup _ | .box _,.lst _=>false
 | .non,.box _ | .bl _,.box _ | .int _,.box _ | .tup _,.box _ | .lst _,.box _=>false
 | .non,.bl _ | .non,.int _ | .non,.str _ | .non,.tup _ | .non,.lst _=>false
 | .bl _,.non | .bl _,.str _ | .bl _,.tup _ | .bl _,.lst _=>false
 | .int _,.non | .int _,.str _ | .int _,.tup _ | .int _,.lst _=>false
 | .str _,.non | .str _,.bl _ | .str _,.int _ | .str _,.tup _ | .str _,.lst _=>false
 | .tup _,.non | .tup _,.bl _ | .tup _,.int _ | .tup _,.str _ | .tup _,.lst _=>false
 | .lst _,.non | .lst _,.bl _ | .lst _,.int _ | .lst _,.str _ | .lst _,.tup _=>false
noncomputable def fj:List D->List D->Bool
 | [],[]=>true
 | x :: xs,y :: ys=>eqD x y && fj xs ys
 | [],_ :: _=>false
 | _ :: _,[]=>false
end
mutual
noncomputable def toP:D->PyData
 | .non=>.none
 | .bl b=>.bool b
 | .int i=>.int i
 | .str x=>.str x
 | .tup xs=>.tuple (eO xs)
 | .lst xs=>.list (eO xs)
 | .box _=>.str bad
noncomputable def eO:List D->List PyData
 | []=>[]
 | x :: xs=>toP x :: eO xs
end
mutual
noncomputable def cln:D->Bool
 | .str x=>PyData.strOk x
 | .tup xs=>bh xs
 | .lst xs=>bh xs
 | .box _=>false
 | .non | .bl _ | .int _=>true
noncomputable def bh:List D->Bool
 | []=>true
 | x :: xs=>cln x && bh xs
end
mutual
noncomputable def dep:D->Nat
 | .tup xs=>bu xs + 1
 | .lst xs=>bu xs + 1
 | .non | .bl _ | .int _ | .str _ | .box _=>0
noncomputable def bu:List D->Nat
 | []=>0
 | x :: xs=>max (dep x) (bu xs)
end
noncomputable def cD (x:D):Prop:=cln x=true/\dep x<=64
noncomputable instance (x:D):Decidable (cD x):=inferInstanceAs (Decidable (_/\_))
mutual
theorem eG:∀ x y:D,PyData.eqv (toP x) (toP y)=eqD x y
 | .non,y=>by cases y <;> simp [toP,PyData.eqv,eqD]
 | .bl a,y=>by cases y <;> simp [toP,PyData.eqv,eqD]
 | .int a,y=>by cases y <;> simp [toP,PyData.eqv,eqD]
 | .str a,y=>by cases y <;> simp [toP,PyData.eqv,eqD]
 | .tup xs,.tup ys=>by simp only [toP,PyData.eqv,eqD]; exact iO xs ys
 | .lst xs,.lst ys=>by simp only [toP,PyData.eqv,eqD]; exact iO xs ys
 | .tup xs,.non=>by simp [toP,PyData.eqv,eqD]
 | .tup xs,.bl _=>by simp [toP,PyData.eqv,eqD]
 | .tup xs,.int _=>by simp [toP,PyData.eqv,eqD]
 | .tup xs,.str _=>by simp [toP,PyData.eqv,eqD]
 | .tup xs,.lst _=>by simp [toP,PyData.eqv,eqD]
 | .lst xs,.non=>by simp [toP,PyData.eqv,eqD]
 | .lst xs,.bl _=>by simp [toP,PyData.eqv,eqD]
 | .lst xs,.int _=>by simp [toP,PyData.eqv,eqD]
 | .lst xs,.str _=>by simp [toP,PyData.eqv,eqD]
 | .lst xs,.tup _=>by simp [toP,PyData.eqv,eqD]
 | .tup xs,.box _=>by simp [toP,PyData.eqv,eqD]
 | .lst xs,.box _=>by simp [toP,PyData.eqv,eqD]
 | .box _,y=>by cases y <;> simp [toP,PyData.eqv,eqD]
theorem iO:∀ xs ys:List D,PyData.eqvAll (eO xs) (eO ys)=fj xs ys
 | [],[]=>by simp [eO,PyData.eqvAll,fj]
 | [],_ :: _=>by simp [eO,PyData.eqvAll,fj]
 | _ :: _,[]=>by simp [eO,PyData.eqvAll,fj]
 | x :: xs,y :: ys=>by simp only [eO,PyData.eqvAll,fj]; rw [eG x y,iO xs ys]
end
mutual
theorem fI:∀ x:D,(toP x).canLay0=cln x
 | .non=>by simp [toP,PyData.canLay0,cln]
 | .bl _=>by simp [toP,PyData.canLay0,cln]
 | .int _=>by simp [toP,PyData.canLay0,cln]
 | .str _=>by simp [toP,PyData.canLay0,cln]
 | .tup xs=>by simp only [toP,PyData.canLay0,cln]; exact iG xs
 | .lst xs=>by simp only [toP,PyData.canLay0,cln]; exact iG xs
 | .box _=>by simp only [toP,PyData.canLay0,cln]; decide +kernel
theorem iG:∀ xs:List D,PyData.canLayAll0 (eO xs)=bh xs
 | []=>by simp [eO,PyData.canLayAll0,bh]
 | x :: xs=>by simp only [eO,PyData.canLayAll0,bh]; rw [fI x,iG xs]
end
mutual
theorem gZ:∀ x:D,(toP x).depth=dep x
 | .non=>by simp [toP,PyData.depth,dep]
 | .bl _=>by simp [toP,PyData.depth,dep]
 | .int _=>by simp [toP,PyData.depth,dep]
 | .str _=>by simp [toP,PyData.depth,dep]
 | .tup xs=>by simp only [toP,PyData.depth,dep]; rw [iw xs]
 | .lst xs=>by simp only [toP,PyData.depth,dep]; rw [iw xs]
 | .box _=>by simp [toP,PyData.depth,dep]
theorem iw:∀ xs:List D,PyData.depthAll (eO xs)=bu xs
 | []=>by simp [eO,PyData.depthAll,bu]
 | x :: xs=>by simp only [eO,PyData.depthAll,bu]; rw [gZ x,iw xs]
end
theorem cq {x:D} (h:cD x):SeqAt.shaped (toP x)=true:=by
 unfold SeqAt.shaped
 rw [fI,gZ,h.1,Bool.true_and]
 exact decide_eq_true h.2
section
variable {X:Cx} {pins:List (Addr × Obj)} {σ:L2.St} {H G:Hp} {s:Shared}
mutual
theorem bz (I:Inv X pins σ H s) (e:ah G H):∀ {v:V} {d:D} {u:Value},Den X.K G v d->RelV v u->cln d=true->∃ as,Reads s.heap u (toP d) as
 | _,_,_,.non,r,_=>by cases r; exact ⟨_,.none⟩
 | _,_,_,.bl,r,_=>by cases r; exact ⟨_,.bool _⟩
 | _,_,_,.int,r,_=>by obtain ⟨t,rfl⟩:=r; exact ⟨_,.int _ _⟩
 | _,_,_,.str,r,_=>by obtain ⟨t,rfl⟩:=r; exact ⟨_,.str _ _⟩
 | _,_,_,.tup h q,r,c=>by
   cases r
   obtain ⟨its,rv,⟨o,h1,h2,n,h3⟩,_⟩:=I.tuple (aO e h)
   obtain ⟨as,z⟩:=gb I e q rv (by rw [cln] at c; exact c)
   exact ⟨_,.tuple h1 h2 h3 (by simpa using z)⟩
 | _,_,_,.lst h q,r,c=>by
   cases r
   obtain ⟨its,rv,⟨o,n,h1,h2,_,h3⟩,_⟩:=I.list (aA e h)
   obtain ⟨as,z⟩:=gb I e q rv (by rw [cln] at c; exact c)
   exact ⟨_,.list h1 h2 h3 (by simpa using z)⟩
 | _,_,_,.box _,_,c=>by rw [cln] at c; cases c
theorem gb (I:Inv X pins σ H s) (e:ah G H):∀ {vs:List V} {ds:List D} {us:List Value},ar X.K G vs ds->Vals vs us->bh ds=true->∃ as,ReadsAll s.heap us (eO ds) as
 | _,_,_,.nil,.nil,_=>⟨_,.nil⟩
 | _,_,_,.cons h q,.cons r rs,c=>by
   rw [bh,Bool.and_eq_true] at c
   obtain ⟨as,z⟩:=bz I e h r c.1
   obtain ⟨bs,z'⟩:=gb I e q rs c.2
   exact ⟨_,.cons z z'⟩
end
end
end Ev
namespace Hy
open PySem PySem.Spec PyProof.Rows L2
open Ev (D Den ar aq aO aA Itz Itv xo v7 nV m5 eqD cD bz cq eG)
section
variable {X:Cx} {C:Bool} {τ:List Sl} {x y z:D} {a b e c tg it elt:Expr} {es ifs:List Expr} {pos p q:Pos} {k:Nat} {s:Sl} {N:Po} {rest body:List Stmt} {ds xs ys:List D} {i j:Int} {scope:Scope}
theorem oN (M:Nat->Bool->List Sl->Prop) (B:Bk X k) (h0:∃ n t,M n t τ) (hc:∀ n t τ',M n t τ'->PT X c (dT X.K τ' t)) (hb:∀ n τ',M n true τ'->PSs X body (dS X.K τ' { N with nx:=λτ2=>∃ m t,m < n/\M m t τ2,ct:=λτ2=>∃ m t,m < n/\M m t τ2,bk:=λ_=>False }))
   (hr:∀ n τ',M n false τ'->PSs X rest (dS X.K τ' N)):PSs X (.While c body [] pos :: rest) (dS X.K τ N):=by
 have hc':PT X c λσ H Q=>∃ n t τ',M n t τ'/\dT X.K τ' t σ H Q:=λpins s σ H Q I ⟨n,t,τ',m,q⟩=>hc n t τ' m pins s σ H Q I q
 have hb':PSs X body λD σ H=>∃ n τ',M n true τ'/\dS X.K τ' { N with nx:=λτ2=>∃ m t,m < n/\M m t τ2,ct:=λτ2=>∃ m t,m < n/\M m t τ2,bk:=λ_=>False } D σ H:=λpins s σ H D I ⟨n,τ',m,q⟩=>hb n τ' m pins s σ H D I q
 refine bp (M:=λτ'=>∃ n,M n false τ') (psW (rC B.po hc' hb') λD σ H ⟨A,H₀,B,S,Me⟩=>⟨λm σ' H'=>∃ t τ' B',M m t τ'/\Sta X.K A H₀ τ' B' σ' H',?_,?_⟩) λτ' h=>let ⟨n,h⟩:=h; hr n τ' h
 · obtain ⟨n,t,h0⟩:=h0
   exact ⟨n,t,τ,B,h0,S⟩
 rintro m σ' H' ⟨t,τ',B',hM,S'⟩
 refine ⟨m,t,τ',hM,A,H₀,B',S',λH1 e1=>?_⟩
 cases t with
 | false=>exact nq (Me.nx τ' B' σ' H1 ⟨m,hM⟩ (S'.mono e1))
 | true=>
   refine nP ⟨λσ2 H2=>∃ τ2 B2,(∃ n t,n < m/\M n t τ2)/\Sta X.K A H₀ τ2 B2 σ2 H2,λσ2 H2 ⟨τ2,B2,⟨n,t,l,q⟩,S2⟩=>⟨n,l,t,τ2,B2,q,S2⟩,m,τ',hM,A,H₀,B',S'.mono e1,?_⟩
   exact ⟨λτ2 B2 σ2 H2 m S2=>⟨τ2,B2,m,S2⟩,λ_ _ _ _ z=>z.elim,λτ2 B2 σ2 H2 m S2=>⟨τ2,B2,m,S2⟩,Me.rt,Me.xc⟩
noncomputable def jl (xs ys:List D):List D:=(xs.zip ys).map λp=>.tup [p.1,p.2]
theorem bW:(jl xs ys).length=min xs.length ys.length:=by simp [jl]
theorem pQ (i:Nat) (h:i < (jl xs ys).length):(jl xs ys)[i]=.tup [xs.getD i .non,ys.getD i .non]:=by
 rw [bW] at h
 simp [jl,show i < xs.length by omega,show i < ys.length by omega]
theorem wj {K:PySem.W.Frag} {G:Hp} {a b:Addr} {vs ws:List V} (h:SqL K G a vs) (r:ar K G vs xs) (h':SqL K G b ws) (r':ar K G ws ys):Yl K (Itz K a b) (jl xs ys) G:=by
 intro H sg
 have hl:=r.length
 have hl':=r'.length
 refine ⟨λi hi=>⟨vs,ws,aA sg h,aA sg h',by rw [bW] at hi; omega⟩,λi hi=>?_⟩
 have hi':=hi
 rw [bW] at hi'
 obtain ⟨v,hv,dv⟩:=r.get (List.getElem?_eq_getElem (show i < xs.length by omega))
 obtain ⟨w,hw,dw⟩:=r'.get (List.getElem?_eq_getElem (show i < ys.length by omega))
 refine ⟨⟨vs,ws,v,w,aA sg h,aA sg h',hv,hw⟩,λy H' ⟨p,x1,x2,hp,e0,e1,e2,e3⟩=>?_⟩
 subst e0 e1
 have ex:x1=v:=by have:=e2 vs (aA sg h); rw [hv] at this; exact (Option.some.inj this).symm
 have ey:x2=w:=by have:=e3 ws (aA sg h'); rw [hw] at this; exact (Option.some.inj this).symm
 subst ex ey
 refine ⟨aq hp _,λM hM sv=>?_⟩
 rw [pQ,show xs.getD i .non=xs[i] by simp [show i < xs.length by omega],show ys.getD i .non=ys[i] by simp [show i < ys.length by omega]]
 have up:=sv.trans (au (aq hp (.tup [x1,x2])) λ_ z=>z)
 exact .tup (SqT.of (iA hM hp)) (.cons (dv.mono up) (.cons (dw.mono up) .nil))
theorem vL {ts:List Expr} {m:Nat} {tp:Pos} (B:Bk X k) (h:PE X a (dE X.K true τ (.d (.lst xs)))) (h':PE X b (dE X.K true τ (.d (.lst ys)))) (hg:Gl X "zip":=by rfl) (hs:starEach [a,b] X.env=(false,eval a X.env) :: starEach [b] X.env:=by rfl) (hs2:starEach [b] X.env=[(false,eval b X.env)]:=by rfl) :
   PI X (.Tuple ts m tp) (.Call (.Name "zip" p) [a,b] [] pos) (dI X.K τ (jl xs ys)):=
 piW (nV B.calm hg (B.blt _ (by decide)) (ae h (ae h' ag hs2) hs) hs hs2) λσ H R ⟨A,H₀,B,S,k⟩=>d9 S λvs H1 e1 d1=>by
   cases d1 with
   | cons d r=>
     cases r with
     | cons d' r=>
       cases r
       cases d with
       | lst h r=>cases d' with
         | lst h' r'=>exact ⟨_,_,rfl,⟨_,aA az h⟩,⟨_,aA az h'⟩,k _ H1 e1 (wj h r h' r')⟩
theorem wY {K:PySem.W.Frag} {G:Hp} {a:Addr} {vs:List V} (h:SqL K G a vs) (r:ar K G vs xs):Yl K (Itv K a vs.length) xs.reverse G:=by
 intro H sg
 have hl:=r.length
 refine ⟨λi hi=>by rw [List.length_reverse] at hi; show vs.length<=i; omega,λi hi=>?_⟩
 rw [List.length_reverse] at hi
 obtain ⟨v,hv,dv⟩:=r.get (List.getElem?_eq_getElem (show xs.length - 1 - i < xs.length by omega))
 rw [<- hl] at hv
 refine ⟨⟨by omega,vs,v,aA sg h,hv⟩,λx H' ⟨e1,e2⟩=>?_⟩
 subst e1
 have ex:x=v:=by have:=e2 vs (aA sg h); rw [hv] at this; exact (Option.some.inj this).symm
 subst ex
 refine ⟨ah.refl _,λM _ sv=>?_⟩
 rw [List.getElem_reverse]
 exact dv.mono sv
theorem yU (B:Bk X k) (h:PE X a (dE X.K true τ (.d (.lst xs)))) (hg:Gl X "reversed":=by rfl) (hs:starEach [a] X.env=[(false,eval a X.env)]:=by rfl):PI X tg (.Call (.Name "reversed" p) [a] [] pos) (dI X.K τ xs.reverse):=
 piW (m5 B.calm hg (B.blt _ (by decide)) (ae h ag hs) hs) λσ H R ⟨A,H₀,B,S,k⟩=>d9 S λvs H1 e1 d1=>by
   cases d1 with
   | cons d r=>
     cases r
     cases d with
     | lst h r=>exact ⟨_,_,rfl,aA az h,k _ H1 e1 (wY h r)⟩
theorem we (hu:X.A.units + 64 < cLine):OpR X (compareOp .Eq) (λx y H Q=>∃ G d e,ah G H/\Den X.K G x d/\Den X.K G y e/\cD d/\cD e/\Q (.bl (eqD d e)) H):=by
 intro pins s σ H x y v u Q I rx ry ⟨G,d,e,sg,dx,dy,o1,o2,q⟩
 obtain ⟨as,r1⟩:=bz I sg dx rx o1.1
 obtain ⟨bs,r2⟩:=bz I sg dy ry o2.1
 exact eq_dataH r1 r2 (cq o1) (cq o2) hu ⟨.bl _,H,I,by rw [eG]; rfl,q⟩
theorem vZ (hu:X.A.units + 64 < cLine):OpR X (compareOp .NotEq) (λx y H Q=>∃ G d e,ah G H/\Den X.K G x d/\Den X.K G y e/\cD d/\cD e/\Q (.bl (!eqD d e)) H):=by
 intro pins s σ H x y v u Q I rx ry ⟨G,d,e,sg,dx,dy,o1,o2,q⟩
 obtain ⟨as,r1⟩:=bz I sg dx rx o1.1
 obtain ⟨bs,r2⟩:=bz I sg dy ry o2.1
 exact ne_dataH r1 r2 (cq o1) (cq o2) hu ⟨.bl _,H,I,by rw [eG]; rfl,q⟩
theorem xU (B:Bk X k) (h1:cD x) (h2:cD y):bF X (compareOp .Eq) x y (.bl (eqD x y)):=⟨_,we B.room.units,λM v w H Q _ d1 d2 q=>⟨_,x,y,az,d1,d2,h1,h2,q _ H (ah.refl _) .bl⟩⟩
theorem oE (B:Bk X k) (h1:cD x) (h2:cD y):bF X (compareOp .NotEq) x y (.bl (!eqD x y)):=⟨_,vZ B.room.units,λM v w H Q _ d1 d2 q=>⟨_,x,y,az,d1,d2,h1,h2,q _ H (ah.refl _) .bl⟩⟩
variable {u v:Str}
theorem gK:bF X (compareOp .Eq) (.str u) (.str v) (.bl (decide (u=v))):=⟨_,vM,λ_ v' w H Q _ d1 d2 k=>by
 cases d1
 cases d2
 exact ⟨rfl,by rw [show decide (V.str u=V.str v)=decide (u=v) by simp]; exact k _ H (ah.refl _) .bl⟩⟩
theorem rA:bF X (compareOp .NotEq) (.str u) (.str v) (.bl (!decide (u=v))):=⟨_,vy,λ_ v' w H Q _ d1 d2 k=>by
 cases d1
 cases d2
 exact ⟨rfl,by rw [show decide (V.str u=V.str v)=decide (u=v) by simp]; exact k _ H (ah.refl _) .bl⟩⟩
theorem x9 {us:List Str}:bF X (compareOp .In) (.str u) (.tup (us.map .str)) (.bl (us.any λw=>decide (w=u))):=⟨_,fV,λM x' y' H Q _ d1 d2 q=>by
 cases d1
 cases d2 with
 | @tup ad vs _ h r=>
   have ev:vs=us.map V.str:=by
     clear h q
     induction us generalizing vs with
     | nil=>cases r; rfl
     | cons w ws ih=>
       cases r with
       | cons d r=>cases d; rw [ih r]; rfl
   subst ev
   refine ⟨_,_,rfl,.inr (aO az h),rfl,?_,?_⟩
   · rw [List.all_map,List.all_eq_true]; intro _ _; rfl
   · rw [if_neg Bool.false_ne_true]
     unfold inV
     rw [List.any_map]
     exact q _ H (ah.refl _) (by
       have e:(us.any λw=>decide (w=u))=us.any ((λy=>eqV y (V.str u)) ∘ V.str):=by
         congr 1
       rw [e]; exact .bl)⟩
theorem gG:∀ {bs:List Bool} {us:List Value},Vals (bs.map V.bl) us->us=bs.map Value.bool
 | [],_,h=>by cases h; rfl
 | b :: bs,_,h=>by
   cases h with
   | cons rv rs=>rw [gG rs,show _=Value.bool b from rv]; rfl
theorem sA (hc:X.calm=true):bP X (.builtin "all") (λxs H Q=>∃ (p:Addr) (bs:List Bool),xs=[.ref p]/\SqL X.K H p (bs.map V.bl)/\Q (.bl (bs.all id)) H):=by
 intro pins s σ H xs us Q I r q
 obtain ⟨p,bs,rfl,h,q⟩:=q
 obtain ⟨u,rfl,ru⟩:∃ u,us=[u]/\RelV (.ref p) u:=by
   cases r with
   | cons r1 r=>cases r; exact ⟨_,rfl,r1⟩
 cases (show u=Value.ref _ from ru)
 obtain ⟨its,rv,pl,hz⟩:=I.list h
 obtain rfl:=gG rv
 have lt:∀ a,s.heap.IsList a (bs.map Value.bool).toArray->a ≠ s.heap.objs.size:=λa ⟨o,z,_⟩=>Nat.ne_of_lt (Heap.lt_size z)
 refine call_all_walk (wpAny_pyIter_list pl.isList ⟨_,_,_,_,_,_,λi=>(bs.map Value.bool)[i]? == some (Value.bool true),rfl,Walks.list (A:=X.A.in1) (I.ok.hd hc) _ _ (lt _ pl.isList) (bs.map Value.bool).toArray,⟨⟨_,Heap.get?_push_size _ rfl,rfl,rfl⟩,?_⟩,λi v s' Q' E' hP hQ=>?_,λh' tk hk=>?_⟩)
 · obtain ⟨o,z1,z2⟩:=pl.isList
   exact ⟨o,Heap.get?_push_of_some _ z1,z2⟩
 · have hP':(bs.map Value.bool)[i]?=some v:=by simpa using hP
   obtain ⟨c,_,rfl⟩:=List.mem_map.mp (List.mem_of_getElem? hP')
   refine wpAny_truthy_bool ?_
   have hQ:Q' ((bs.map Value.bool)[i]? == some (Value.bool true)) s':=hQ
   rw [hP'] at hQ
   cases c
   · exact hQ
   · exact hQ
 · refine ⟨.bl (bs.all id),H,I.kept (t':=tk) λb' o z=>?_,?_,q⟩
   · refine hk b' o (λhm=>?_) (Heap.get?_push_of_some _ z)
     have:b'=s.heap.objs.size:=by simpa using hm
     exact absurd (Heap.lt_size z) (by rw [this]; exact Nat.lt_irrefl _)
   · have e:∀ bs:List Bool,bs.all id=(List.range (bs.map Value.bool).toArray.size).all λi=>(bs.map Value.bool)[i]? == some (Value.bool true):=λbs=>by
       rw [List.size_toArray,List.length_map]
       induction bs with
       | nil=>rfl
       | cons b bs ih=>
         rw [List.all_cons,ih,List.length_cons,List.range_succ_eq_map,List.all_cons,List.all_map]
         congr 1
         cases b <;> rfl
     rw [e]; rfl
theorem pZ {K:PySem.W.Frag} {H:Hp}:∀ {vs:List V} {bs:List Bool},ar K H vs (bs.map .bl)->vs=bs.map V.bl
 | _,[],h=>by cases h; rfl
 | _,_ :: _,h=>by
   cases h with
   | cons d r=>cases d; rw [pZ r]; rfl
theorem pD (hc:X.calm=true) (bs:List Bool) (hx:xs=bs.map .bl):fK X (.builtin "all") [.lst xs] (.d (.bl (bs.all id))):=⟨_,sA hc,λM vs H Q _ d q=>by
 subst hx
 cases d with
 | cons d r=>
   cases r
   cases d with
   | lst h r=>
     cases pZ r
     exact ⟨_,_,rfl,aA az h,q _ H [] (ah.refl _) cn (fQ .bl)⟩⟩
end
end Hy
namespace Hy
open PySem PySem.Spec PyProof.Rows L2
open Ev (D Den ar aq aO aA aH cw dn PTs bI eQ)
section
variable {X:Cx} {C:Bool} {τ:List Sl} {x y z:D} {a b e c tg it elt o:Expr} {es ifs:List Expr} {pos p q:Pos} {k:Nat} {s:Sl} {N:Po} {rest body:List Stmt} {ds xs ys:List D} {i j:Int} {scope:Scope}
theorem ui:OpR X (binaryOp .Mult) (λx y H Q=>∃ l k xs,x=.ref l/\y=.int k/\SqL X.K H l xs/\0<=k/\k < 100000/\xs.length * k.toNat<=sizeLine/\∀ p,H p=none->Q (.ref p) (upd H p (.lst (List.replicate k.toNat xs).flatten))):=by
 intro pins s σ H x y v u Q I rx ry h
 obtain ⟨l,k,xs,rfl,rfl,hH,h1,h2,hz,q⟩:=h
 cases rx
 obtain ⟨t,rfl⟩:=ry
 obtain ⟨its,r,pl,_⟩:=I.list hH
 have hl:=r.length
 obtain ⟨⟨cls,dd,data,sl⟩,e,hc,n,hd⟩:=pl.isList
 simp only at hc hd
 subst hc hd
 have hlen:its.toArray.size * k.toNat<=sizeLine:=by rw [List.size_toArray,<- hl]; exact hz
 have hcap:¬ its.toArray.size * k.toNat > (2 ^ 63 - 1) / 8:=by
   have:(sizeLine:Nat)<=(2 ^ 63 - 1) / 8:=by decide
   omega
 have hfit:¬ (!Builtin.List.listFitsIndex k)=true:=by
   rw [fitsIndex_both (by omega) (by omega)]
   exact Bool.false_ne_true
 have hlong:¬ Builtin.List.listTooLong (its.toArray.size * k.toNat)=true:=by
   rw [mh hlen]
   exact Bool.false_ne_true
 have hnew:List.foldl (λx1 x2=>x1++x2) #[] (List.replicate (if its.toArray.isEmpty=true then 0 else k.toNat) its.toArray)=(List.replicate k.toNat its).flatten.toArray:=by
   have f0:∀ m:Nat,List.foldl (λx1 x2=>x1++x2) #[] (List.replicate m its.toArray)=(List.replicate m its).flatten.toArray:=λm=>by
     have:=foldl_rep its m []
     rw [List.nil_append] at this
     exact this
   rw [f0]
   cases its with
   | nil=>simp
   | cons a r'=>rw [if_neg (by simp)]
 refine wpAny_binaryOp_repeat_ref (T:="list") (U:="int") (by decide) ⟨_,e,rfl⟩ (λs'=>typeIs_int s' k t) noFill_list_mul F.fills_int_mul F.slot_int_rmul repeat_list F.slot_int_index.lookup
   (call_meets F.slot_int_rmul (typeIs_int s k t) F.entry_int_rmul (F.args_int_rmul_2 _ _) (lm_int_rmul_list_any k t l its.toArray n dd sl)
     ⟨e,rfl,⟨_,e,rfl⟩,call_meets F.slot_list_mul ⟨_,e,rfl⟩ F.entry_list_mul (F.args_list_mul_2 _ _) (lm_list_mul_any l its.toArray n dd sl k t hfit hcap hlong) ⟨e,?_⟩⟩)
 rw [hnew]
 exact ⟨.ref _,_,I.yo (t':=s.toks) (r.rep k.toNat) (by rw [len_rep,Nat.mul_comm]; exact hz),rfl,q _ I.fresh⟩
theorem px {K:PySem.W.Frag} {H:Hp} {vs:List V} (h:ar K H vs xs):∀ k:Nat,ar K H (List.replicate k vs).flatten (List.replicate k xs).flatten
 | 0=>.nil
 | k + 1=>by rw [List.replicate_succ,List.replicate_succ,List.flatten_cons,List.flatten_cons]; exact h.append (px h k)
theorem ri (ha:PE X a (dE X.K C τ (.d (.lst xs)))) (hb:PE X b (dE X.K C τ (.d (.int j)))) (h0:0<=j) (h1:j < 100000) (hl:xs.length * j.toNat < 1000000):PE X (.BinOp a .Mult b pos) (dE X.K C τ (.o (List.replicate j.toNat xs).flatten)):=peW (tH ui ha hb) λσ H Q ⟨A,H₀,B,S,k⟩=>
 aT S λv H1 e1 d1=>aT (S.mono e1) λw H2 e2 d2=>by
   cases d2
   cases d1 with
   | lst h1' r1=>
     refine ⟨_,j,_,rfl,rfl,aA (az.trans e2) h1',h0,h1,by rw [r1.length]; exact Nat.le_of_lt (Nat.lt_trans hl (by decide)),λp hp=>?_⟩
     obtain ⟨z1,z2,z3⟩:=gz (K:=X.K) hp (px (r1.mono (au e2 λ_ z=>z)) j.toNat)
     exact k _ _ [p] (e1.trans (e2.trans z1)) (λb hb=>⟨(e1.trans e2).free (z2 b hb).1,(z2 b hb).2⟩) z3
noncomputable def dN' (K:PySem.W.Frag) (C:Bool) (τ:List Sl) (ns:List Nd):TA:=λσ H Q=>∃ A H₀ B,Sta K A H₀ τ B σ H/\∀ vs H' bs,ah H H'->Fr H H' bs->bs.Nodup->aB K (hd H' λb=>vw C A B b\/b ∈ bs) H' vs bs ns->Q vs H'
theorem xO:PA X [] (dN' X.K C τ []):=paW cu λσ H Q ⟨A,H₀,B,S,k⟩=>k [] H [] (ah.refl _) cn List.nodup_nil .nil
theorem Sta.hide {K:PySem.W.Frag} {A:Addr->Prop} {H₀ H H1:Hp} {B:Nat->List Addr} {σ:L2.St} {b1:List Addr} (S:Sta K A H₀ τ B σ H) (e:ah H H1) (f:Fr H H1 b1):Sta K (λb=>A b\/b ∈ b1) (hd H1 λb=>∃ i,b ∈ B i) τ B σ H1 where
 same:=az
 len:=S.len
 sl:=λi s h=>(S.sl i s h).mono (λb o z=>by
   obtain ⟨z1,z2⟩:=ai.mp z
   refine ai.mpr ⟨λw=>?_,e _ _ z2⟩
   rcases w with (w | w) | w
   · exact z1 (.inl w)
   · rw [(f b w).1] at z2; cases z2
   · exact z1 (.inr w)) e
 fr:=λi b hb=>by
   cases q:hd H1 (λb=>∃ i,b ∈ B i) b with
   | none=>rfl
   | some o=>exact absurd ⟨i,hb⟩ (ai.mp q).1
 uq:=S.uq
 ad:=λb hb=>by
   rcases hb with z | z
   · obtain ⟨o,q⟩:=S.ad b z
     exact ⟨o,ai.mpr ⟨λ⟨i,w⟩=>(by rw [S.fr i b w] at q; cases q),e _ _ (S.same _ _ q)⟩⟩
   · obtain ⟨w1,o,w2⟩:=f b z
     exact ⟨o,ai.mpr ⟨λ⟨i,w⟩=>(by obtain ⟨o',q⟩:=S.bd i b w; rw [w1] at q; cases q),w2⟩⟩
 bd:=λi b hb=>let ⟨o,q⟩:=S.bd i b hb; ⟨o,e _ _ q⟩
theorem kA {A:Addr->Prop} {B:Nat->List Addr} {b1:List Addr} {b:Addr} (h:vw C A B b\/b ∈ b1):vw C (λb=>A b\/b ∈ b1) B b:=by
 cases C with
 | true=>
   rcases h with (h | h) | h
   · exact .inl (.inl h)
   · exact .inr h
   · exact .inl (.inr h)
 | false=>exact h
theorem kh {n:Nd} {ns:List Nd} (ha:PE X e (dE X.K C τ s)) (hn:oz s=some n) (hr:PA X es (dN' X.K C τ ns)) (hs:starEach (e :: es) X.env=(false,eval e X.env) :: starEach es X.env:=by rfl):PA X (e :: es) (dN' X.K C τ (n :: ns)):=paW (br ha hr hs) λσ H Q ⟨A,H₀,B,S,k⟩=>
 ⟨A,H₀,B,S,λv H1 b1 e1 f1 h1=>⟨_,_,B,S.hide e1 f1,λvs H2 b2 e2 f2 n2 h2=>by
   obtain ⟨q1,n1⟩:=h1.nd hn
   refine k _ H2 (b1++b2) (e1.trans e2) (λb hb=>?_) (List.nodup_append.mpr ⟨n1,n2,λx hx y hy z=>?_⟩) (.cons (q1.frame ?_ λb hb=>?_) (h2.frame ?_ λ_ _=>rfl))
   · rcases List.mem_append.mp hb with z | z
     · obtain ⟨w1,o,w2⟩:=f1 b z; exact ⟨w1,o,e2 _ _ w2⟩
     · exact ⟨e1.free (f2 b z).1,(f2 b z).2⟩
   · obtain ⟨_,o,w⟩:=f1 x hx; rw [z,(f2 y hy).1] at w; cases w
   · intro b o z
     obtain ⟨z1,z2⟩:=ai.mp z
     refine ai.mpr ⟨λw=>?_,e2 _ _ z2⟩
     rcases w with w | w
     · exact z1 (.inl w)
     · rcases List.mem_append.mp w with w | w
       · exact z1 (.inr w)
       · rw [(f2 b w).1] at z2; cases z2
   · obtain ⟨_,o,w⟩:=f1 b hb
     rw [w,e2 _ _ w]
   · refine au (ah.refl _) λb w=>?_
     rcases w with w | w
     · exact .inl (kA (.inl w))
     · rcases List.mem_append.mp w with w | w
       · exact .inl (kA (.inr w))
       · exact .inr w⟩⟩
theorem wR {K:PySem.W.Frag} {H:Hp} {M:Addr->Prop} {p:Addr} {o:HO} {vs:List V} {bs:List Addr} {ns:List Nd} (hp:H p=none) (d:aB K (hd H λb=>M b\/b ∈ bs) H vs bs ns) (nd:bs.Nodup) :
   aB K (hd (upd H p o) λb=>M b\/b ∈ p :: bs) (upd H p o) vs bs ns/\(p :: bs).Nodup:=by
 have off:∀ b ∈ bs,b ≠ p:=λb hb z=>by obtain ⟨w,q⟩:=d.some_of b hb; rw [z,hp] at q; cases q
 refine ⟨d.frame (λb w z=>?_) λb hb=>ao (off b hb),List.nodup_cons.mpr ⟨λz=>off p z rfl,nd⟩⟩
 obtain ⟨z1,z2⟩:=ai.mp z
 have ne:b ≠ p:=λy=>by rw [y,hp] at z2; cases z2
 refine ai.mpr ⟨λy=>?_,by rw [ao ne]; exact z2⟩
 rcases y with y | y
 · exact z1 (.inl y)
 · rcases List.mem_cons.mp y with y | y
   · exact ne y
   · exact z1 (.inr y)
theorem w6 {ns:List Nd} {m} (h:PA X es (dN' X.K C τ ns)) (hl:Nat.ble ns.length 1000=true:=by rfl):PE X (.Tuple es m pos) (dE X.K C τ (.n (.t ns))):=peW (rd h) λσ H Q ⟨A,H₀,B,S,k⟩=>
 ⟨A,H₀,B,S,λvs H1 bs e1 f1 n1 h1=>⟨by rw [h1.length]; exact Nat.le_of_lt (gi (Nat.le_of_ble_eq_true hl)),λp hp=>by
   obtain ⟨z1,z2⟩:=wR (o:=.tup vs) hp h1 n1
   exact k _ _ (p :: bs) (e1.trans (aq hp _)) (λb hb=>by
     rcases List.mem_cons.mp hb with w | w
     · subst w; exact ⟨e1.free hp,_,aw⟩
     · obtain ⟨w1,o,w2⟩:=f1 b w; exact ⟨w1,o,aq hp _ _ _ w2⟩) ⟨z2,_,rfl,.t aw z1⟩⟩⟩
end
section
variable {X:Cx} {C:Bool} {τ τ':List Sl} {x y z:D} {a b e c tg it elt o ix:Expr} {es ifs:List Expr} {pos p q:Pos} {k:Nat} {s:Sl} {N:Po} {rest body:List Stmt} {ds xs ys:List D} {i:Nat} {j:Int} {scope:Scope}
noncomputable def dGs (K:PySem.W.Frag) (τ:List Sl) (xs:List D) (τ':List Sl):TGs:=λvs σ H Q=>∃ A H₀ B,Sta K A H₀ τ B σ H/\ar K (hd H (own A B)) vs xs/\∀ σ' B',Sta K A H₀ τ' B' σ' H->Q σ' H
theorem xR {es:List Expr} {t t':TGs} (h:PGs X es t) (f:∀ v σ H Q,t' v σ H Q->t v σ H Q):PGs X es t':=λpins s σ H v u Q I r q=>h pins s σ H v u Q I r (f v σ H Q q)
theorem sN:PGs X [] (dGs X.K τ [] τ):=xR o8 λv σ H Q ⟨A,H₀,B,S,d,k⟩=>by
 cases d
 exact ⟨rfl,k σ B S⟩
theorem fD (i:Nat) {n:Str} (hN:X.N.Nodup) (h:PGs X es (dGs X.K (τ.set i (.d x)) xs τ')) (hi:X.N[i]?=some n:=by rfl) (hx:Loc X.env.scope n:=by first | exact .inl rfl | exact .inr rfl) (hf:X.fn n=true\/X.env.scope.names.lookup n=some .local:=by first | exact .inl rfl | exact .inr rfl | assumption):PGs X (.Name n p :: es) (dGs X.K τ (x :: xs) τ'):=
 xR (iD (eI (i:=i) hN hi hx hf) h) λv σ H Q ⟨A,H₀,B,S,d,k⟩=>by
   cases d with
   | cons d r=>
     have sub:∀ b,own A (upB B i []) b->own A B b:=λb z=>z.elim .inl λ⟨j,z⟩=>(aX z).elim (λz=>nomatch z.2) λz=>.inr ⟨j,z.2⟩
     exact ⟨_,_,rfl,A,H₀,_,S.set (ah.refl _) (bs:=[]) (λ_ z=>nomatch z) (fQ d),r.mono (au (ah.refl _) sub),k⟩
theorem vF {m:Nat} (hc:X.calm=true) (h:PGs X es (dGs X.K τ xs τ')) (hl:(assignEach es X.env).length=xs.length:=by rfl) (hst:(assignEach es X.env).findIdx? (·.1)=none:=by rfl):PG X (.Tuple es m pos) (dG X.K τ (.tup xs) τ'):=
 pgW (r9 (n:=xs.length) hc h hl hst) λv σ H Q ⟨A,H₀,B,S,d,k⟩=>by
   cases d with
   | tup h r=>exact ⟨_,_,rfl,aO az h,r.length,A,H₀,B,S,r,k⟩
theorem tV {m:Nat} (he:PE X e (dE X.K true τ (.d x))) (hg:PG X (.Tuple es m p) (dG X.K τ x τ')) (hr:PSs X rest (dS X.K τ' N)) (hs:swapsWithSole [.Tuple es m p] e pos.line X.env=pure false:=by rfl) (hw:swappedStores [.Tuple es m p] e X.env=pure none:=by rfl)
   (h1:(assignEach [.Tuple es m p] X.env).map (·.2)=[assign (.Tuple es m p) X.env]:=by rfl):PSs X (.Assign [.Tuple es m p] e pos :: rest) (dS X.K τ N):=
 bp (M:=(·=τ')) (psW (w9 he hg hs hw h1) λD σ H ⟨A,H₀,B,S,Me⟩=>aT S λv H1 e1 d1=>⟨A,H₀,B,S.mono e1,d1,λσ' B' S'=>Me.nx _ _ _ _ rfl S'⟩) λ_ e=>e ▸ hr
theorem uY {c:Expr} {t:TT} (h:PT X c t):PTs X [c] t:=λpins s σ H Q I q=>wpAny_tests_one (h pins s σ H Q I q)
theorem vE (j:Nat) {n:Str} {g f:Nat->D} {t:Nat->Bool} (B:Bk X k) (hi:PI X (.Name n p) it (dI X.K τ xs)) (hx:∀ i (h:i < xs.length),xs[i]=g i) (hl:xs.length < 1000000)
   (ht:∀ i,i < xs.length->∀ s H fp,PT (cpX X s H scope fp) c (dT X.K ((bo τ (bCp X.N scope)++[Sl.un]).set j (.d (g i))) (t i)))
   (he:∀ i,i < xs.length->t i=true->∀ s H fp,PE (cpX X s H scope fp) elt (dE X.K true ((bo τ (bCp X.N scope)++[Sl.un]).set j (.d (g i))) (.d (f i))))
   (hc:bOk X.env.scope scope=true:=by kernel_rfl) (hu:(bo τ (bCp X.N scope)++[Sl.un])[j]?=some .un:=by rfl) (hN:(bNm scope++[("#" : Str)])[j]?=some n:=by rfl) (hv:∀ s H fp,Loc (cpX X s H scope fp).env.scope n:=by intro _ _ _; first | exact .inl rfl | exact .inr rfl)
   (hf:∀ s H fp,(cpX X s H scope fp).fn n=true\/(cpX X s H scope fp).env.scope.names.lookup n=some .local:=by intro _ _ _; first | exact .inr rfl | exact .inl rfl) (hs:∀ x,foldedSetIterable it X.env x=pure x:=by intro _; rfl) :
   Cmp X elt (.Name n p) it [c] scope τ (((List.range xs.length).filter t).map f):=by
 refine sF (T:=λi=>(bo τ (bCp X.N scope)++[Sl.un]).set j (.d (g i))) (t:=t) (f:=f) (elt:=elt) (ifs:=[c]) hc hi (λi=>⟨List.length_set,λl x h=>?_⟩) (λi h s H fp=>?_) (λi h s H fp=>uY (ht i h s H fp)) he hl hs
 · rw [List.getElem?_set_ne (λz=>by rw [<- z,hu] at h; cases h)]
   exact h
 · rw [hx i h]
   exact uA j (eH hc).2 hN (hv s H fp) (hf s H fp)
structure xu (X:Cx) (elt tg it:Expr) (ifs:List Expr) (scope:Scope) (τ:List Sl) (ns:List Nd):Prop where
 ex:∃ (In:TG->TT->TE->Prop) (caps:List (Option Nat)) (N:List Str) (wi:TI),dn X scope N caps/\PI X tg it wi/\(∀ g tt te,In g tt te->∀ s H fp,PG (aH X s H scope N fp) tg g/\PTs (aH X s H scope N fp) ifs tt/\PE (aH X s H scope N fp) elt te) /\
   ∀ C σ H Q,dE X.K C τ (.n (.l ns)) σ H Q->eQ In caps wi σ H Q
 hs:∀ x,foldedSetIterable it X.env x=pure x
theorem vx {ns:List Nd} (h:xu X elt tg it ifs scope τ ns):PE X (.ListComp elt [⟨tg,it,ifs,0⟩] scope pos) (dE X.K C τ (.n (.l ns))):=by
 obtain ⟨In,caps,N,wi,h1,h2,h3,h4⟩:=h.ex
 exact peW (bI h1 h2 h.hs h3) (h4 C)
theorem uL {T:Nat->List Sl} {f:Nat->Nd} {S':Nat->Sl} (B:Bk X k) (hc:bOk X.env.scope scope=true) (hi:PI X tg it (dI X.K τ xs)) (hT:∀ i,(T i).length=(bo τ (bCp X.N scope)++[Sl.un]).length/\∀ (l:Nat) (x:D),(bo τ (bCp X.N scope)++[Sl.un])[l]?=some (.d x)->(T i)[l]?=some (.d x))
   (hg:∀ i (h:i < xs.length) s H fp,PG (cpX X s H scope fp) tg (dG X.K (bo τ (bCp X.N scope)++[.un]) xs[i] (T i)))
   (he:∀ i,i < xs.length->∀ s H fp,PE (cpX X s H scope fp) elt (dE X.K true (T i) (S' i))) (hn:∀ i,i < xs.length->oz (S' i)=some (f i)) (hl:xs.length < 1000000) (hs:∀ x,foldedSetIterable it X.env x=pure x:=by intro _; rfl) :
   xu X elt tg it [] scope τ ((List.range xs.length).map f):=by
 obtain ⟨cap,_⟩:=eH hc
 generalize hτ:bo τ (bCp X.N scope)++[Sl.un]=τb at *
 refine ⟨⟨λg tt te=>g=(λv σ H Q=>∃ (i:Nat) (h:i < xs.length),dG X.K τb xs[i] (T i) v σ H Q)/\tt=(λσ H Q=>Q true H)/\te=(λσ H Q=>∃ i,i < xs.length/\dE X.K true (T i) (S' i) σ H Q),_,_,_,cap,hi,?_,?_⟩,hs⟩
 · rintro g tt te ⟨rfl,rfl,rfl⟩ s H fp
   exact ⟨λpins s' σ H' v u Q I r ⟨i,h,q⟩=>hg i h s H fp pins s' σ H' v u Q I r q,kN,λpins s' σ H' Q I ⟨i,h,q⟩=>he i h s H fp pins s' σ H' Q I q⟩
 rintro C σ H Q ⟨A,H₀,B,S,kk⟩
 refine ⟨A,H₀,B,S,λJ H1 e1 yl=>⟨_,_,_,⟨rfl,rfl,rfl⟩,λD hD=>?_⟩⟩
 have S1:=S.mono e1
 have flat:∀ (l:Nat) (s:Sl),τb[l]?=some s->s=.un\/∃ x,s=.d x:=λl s h=>by
   rw [<- hτ] at h
   rcases List.mem_append.mp (List.mem_of_getElem? h) with z | z
   · unfold bo at z
     obtain ⟨o,_,ho⟩:=List.mem_map.mp z
     split at ho
     · split at ho
       · exact .inr ⟨_,ho.symm⟩
       · exact .inl ho.symm
     · exact .inl ho.symm
   · exact .inl (List.mem_singleton.mp z)
 have slots:∀ {σ':L2.St} {H':Hp} {rs:List Addr},ah H1 H'->(∃ o,H' D=some o)->(∀ b ∈ rs,∃ o,H' b=some o)->σ'.length=τb.length->(∀ (l:Nat) (s:Sl),τb[l]?=some s->bx X.K (hd H' λb=>own A B b\/b=D\/b ∈ rs) H' (σ'[l]?).join [] s)->Sta X.K (λb=>own A B b\/b=D\/b ∈ rs) H' τb (λ_=>[]) σ' H':=λ{σ' H' rs} e1 e2 e5 e3 e4=>
   ⟨ah.refl _,e3,λl s h=>(e4 l s h).mono (au (ah.refl _) λ_ z=>z.elim id λ⟨_,z⟩=>(nomatch z)) (ah.refl _),λ_ _ z=>(nomatch z),λ_ _ _ z=>(nomatch z),λb z=>z.elim (λz=>let ⟨o,q⟩:=S1.dm b z; ⟨o,e1 _ _ q⟩) λz=>z.elim (λz=>z ▸ e2) (e5 b),λ_ _ z=>(nomatch z)⟩
 refine ⟨λi m σ' H'=>m=xs.length - i/\i<=xs.length/\ah H1 H'/\(∃ vs rs,H' D=some (.lst vs)/\vs.length<=i/\aB X.K (hd H' λb=>own A B b\/b=D\/b ∈ rs) H' vs rs ((List.range i).map f)/\(D :: rs).Nodup/\(∀ b ∈ rs,H1 b=none) /\
   σ'.length=τb.length/\∀ (l:Nat) (s:Sl),τb[l]?=some s->bx X.K (hd H' λb=>own A B b\/b=D\/b ∈ rs) H' (σ'[l]?).join [] s),⟨xs.length,rfl,Nat.zero_le _,aq hD _,[],[],aw,Nat.le_refl _,.nil,by simp,λ_ z=>(nomatch z),?_,λl s h=>?_⟩,?_⟩
 · rw [<- hτ]; unfold cw bo; rw [List.length_append,List.length_append,List.length_map,List.length_map]; rfl
 · have hv:ah (hd H (own A B)) (hd (upd H1 D (.lst [])) λb=>own A B b\/b=D\/b ∈ ([]:List Addr)):=λb o z=>by
     obtain ⟨z1,z2⟩:=ai.mp z
     have z2:=e1 _ _ z2
     have ne:b ≠ D:=λz=>by rw [z,hD] at z2; cases z2
     exact ai.mpr ⟨λy=>y.elim z1 λy=>y.elim ne λy=>(nomatch y),by rw [ao ne]; exact z2⟩
   rcases flat l s h with rfl | ⟨x,rfl⟩
   · rfl
   · rw [<- hτ] at h
     have hlt:l < (bCp X.N scope).length:=by
       rcases Nat.lt_or_ge l (bCp X.N scope).length with h' | h'
       · exact h'
       · exfalso
         rw [List.getElem?_append_right (by unfold bo; rw [List.length_map]; exact h')] at h
         cases e:l - (bo τ (bCp X.N scope)).length with
         | zero=>rw [e] at h; cases h
         | succ n=>rw [e] at h; cases h
     rw [List.getElem?_append_left (by unfold bo; rw [List.length_map]; exact hlt)] at h
     rw [List.getElem?_append_left (by unfold cw; rw [List.length_map]; exact hlt)]
     unfold bo at h
     unfold cw
     rw [List.getElem?_map] at h ⊢
     cases e:(bCp X.N scope)[l]? with
     | none=>rw [e] at h; cases h
     | some o=>
       rw [e] at h
       cases o with
       | none=>cases h
       | some i=>
         simp only [Option.map_some,Option.some.injEq] at h
         split at h
         · rename_i x' hx'
           cases h
           obtain ⟨_,u,eu,d⟩:=S.sl i _ hx'
           exact ⟨rfl,u,by simpa using eu,d.mono hv⟩
         · cases h
 rintro i m σ' H' ⟨rfl,hi,e2,vs,rs,hv1,hv2,hv3,hnd,hfr,hlen,hsl⟩
 obtain ⟨y1,y2⟩:=yl H' (az.trans e2)
 have rsd:∀ b ∈ rs,∃ o,H' b=some o:=hv3.some_of
 by_cases hlt:i < xs.length
 · obtain ⟨g,y⟩:=y2 i hlt
   refine .inr ⟨g,λx H2 hy=>?_⟩
   obtain ⟨e3,dx⟩:=y x H2 hy
   have S2:=slots e2 ⟨_,hv1⟩ rsd hlen hsl
   have o0:∀ b,own (λb=>own A B b\/b=D\/b ∈ rs) (λ_=>([]:List Addr)) b->own A B b\/b=D\/b ∈ rs:=λb z=>z.elim id λ⟨_,z⟩=>(nomatch z)
   have dx':=dx _ S2.dm (λb o z=>by
     obtain ⟨z1,z2⟩:=ai.mp z
     exact ai.mpr ⟨λy=>(o0 b y).elim z1 λy=>y.elim (λy=>(by rw [y,hD] at z2; cases z2)) λy=>(by rw [hfr b y] at z2; cases z2),e2 _ _ z2⟩)
   refine ⟨i,hlt,_,_,_,S2.mono e3,dx',λσ2 B2 S3=>?_⟩
   refine nP ⟨i,hlt,_,_,_,S3,λv H5 bs e5 hf5 d5=>?_⟩
   obtain ⟨nv,ndv⟩:=d5.nd (hn i hlt)
   have e6:=e3.trans e5
   have hv5:=e6 _ _ hv1
   have bsD:∀ b ∈ bs,b ≠ D:=λb hb z=>by have:=(hf5 b hb).1; rw [z,e3 _ _ hv1] at this; cases this
   have bsR:∀ b ∈ bs,b ∉ rs:=λb hb z=>by obtain ⟨o,q⟩:=rsd b z; have:=(hf5 b hb).1; rw [e3 _ _ q] at this; cases this
   refine ⟨vs,xs.length - (i + 1),hv5,Nat.lt_trans (Nat.lt_of_le_of_lt hv2 (Nat.lt_trans hlt hl)) (by decide),by omega,rfl,hlt,?_,vs++[v],rs++bs,aw,by rw [List.length_append]; exact Nat.succ_le_succ hv2,?_,?_,?_,S3.len.trans (hT i).1,λl s h=>?_⟩
   · intro b o z
     have ne:b ≠ D:=λy=>by rw [y,hD] at z; cases z
     rw [ao ne]
     exact e6 _ _ (e2 _ _ z)
   · rw [List.range_succ,List.map_append]
     have sm1:ah (hd H5 λb=>vw true (λb=>own A B b\/b=D\/b ∈ rs) B2 b\/b ∈ bs) (hd (upd H5 D (.lst (vs++[v]))) λb=>own A B b\/b=D\/b ∈ rs++bs):=λb o z=>by
       obtain ⟨z1,z2⟩:=ai.mp z
       refine ai.mpr ⟨λy=>z1 ?_,by rw [ao (λy:b=D=>z1 (.inl (.inl (.inr (.inl y)))))]; exact z2⟩
       rcases y with y | y | y
       · exact .inl (.inl (.inl y))
       · exact .inl (.inl (.inr (.inl y)))
       · exact (List.mem_append.mp y).elim (λy=>.inl (.inl (.inr (.inr y)))) .inr
     have sm2:ah (hd H' λb=>own A B b\/b=D\/b ∈ rs) (hd (upd H5 D (.lst (vs++[v]))) λb=>own A B b\/b=D\/b ∈ rs++bs):=λb o z=>by
       obtain ⟨z1,z2⟩:=ai.mp z
       refine ai.mpr ⟨λy=>?_,by rw [ao (λy:b=D=>z1 (.inr (.inl y)))]; exact e6 _ _ z2⟩
       rcases y with y | y | y
       · exact z1 (.inl y)
       · exact z1 (.inr (.inl y))
       · rcases List.mem_append.mp y with y | y
         · exact z1 (.inr (.inr y))
         · have:=(hf5 b y).1; rw [e3 _ _ z2] at this; cases this
     refine aB.snoc (nv.frame sm1 λb hb=>ao (bsD b hb)) (hv3.frame sm2 λb hb=>?_)
     obtain ⟨o,q⟩:=rsd b hb
     rw [ao (λz:b=D=>(List.nodup_cons.mp hnd).1 (by rw [<- z]; exact hb)),e6 _ _ q,q]
   · obtain ⟨n1,n2⟩:=List.nodup_cons.mp hnd
     refine List.nodup_cons.mpr ⟨λz=>?_,List.nodup_append.mpr ⟨n2,ndv,λx hx y hy z=>bsR y hy (z ▸ hx)⟩⟩
     exact (List.mem_append.mp z).elim n1 λz=>bsD D z rfl
   · intro b hb
     rcases List.mem_append.mp hb with z | z
     · exact hfr b z
     · exact (e2.trans e3).free (hf5 b z).1
   · rcases flat l s h with rfl | ⟨x,rfl⟩
     · rfl
     · obtain ⟨_,u,eu,d⟩:=S3.sl l _ ((hT i).2 l x h)
       refine ⟨rfl,u,eu,d.mono λb o z=>?_⟩
       obtain ⟨z1,z2⟩:=ai.mp z
       refine ai.mpr ⟨λy=>?_,by rw [ao (λy:b=D=>z1 (.inl (.inr (.inl y))))]; exact e5 _ _ z2⟩
       rcases y with y | y | y
       · exact z1 (.inl (.inl y))
       · exact z1 (.inl (.inr (.inl y)))
       · rcases List.mem_append.mp y with y | y
         · exact z1 (.inl (.inr (.inr y)))
         · rw [(hf5 b y).1] at z2; cases z2
 · have e:i=xs.length:=by omega
   subst e
   refine .inl ⟨y1 _ (Nat.le_refl _),kk _ _ (D :: rs) (e1.trans e2) (λb hb=>?_) ⟨hnd,_,rfl,.l hv1 (hv3.frame (au (ah.refl _) λb z=>?_) λ_ _=>rfl)⟩⟩
   · rcases List.mem_cons.mp hb with rfl | z
     · exact ⟨e1.free hD,_,hv1⟩
     · exact ⟨e1.free (hfr b z),rsd b z⟩
   · rcases z with z | z
     · exact .inl (iQ z)
     · exact .inr ((List.mem_cons.mp z).elim .inl .inr)
theorem yq (j:Nat) {n:Str} {g:Nat->D} {f:Nat->Nd} {S':Nat->Sl} (B:Bk X k) (hi:PI X (.Name n p) it (dI X.K τ xs)) (hx:∀ i (h:i < xs.length),xs[i]=g i) (hl:xs.length < 1000000)
   (he:∀ i,i < xs.length->∀ s H fp,PE (cpX X s H scope fp) elt (dE X.K true ((bo τ (bCp X.N scope)++[Sl.un]).set j (.d (g i))) (S' i))) (hn:∀ i,i < xs.length->oz (S' i)=some (f i))
   (hc:bOk X.env.scope scope=true:=by kernel_rfl) (hu:(bo τ (bCp X.N scope)++[Sl.un])[j]?=some .un:=by rfl) (hN:(bNm scope++[("#" : Str)])[j]?=some n:=by rfl) (hv:∀ s H fp,Loc (cpX X s H scope fp).env.scope n:=by intro _ _ _; first | exact .inl rfl | exact .inr rfl)
   (hf:∀ s H fp,(cpX X s H scope fp).fn n=true\/(cpX X s H scope fp).env.scope.names.lookup n=some .local:=by intro _ _ _; first | exact .inr rfl | exact .inl rfl) (hs:∀ x,foldedSetIterable it X.env x=pure x:=by intro _; rfl) :
   xu X elt (.Name n p) it [] scope τ ((List.range xs.length).map f):=by
 refine uL (T:=λi=>(bo τ (bCp X.N scope)++[Sl.un]).set j (.d (g i))) B hc hi (λi=>⟨List.length_set,λl x h=>?_⟩) (λi h s H fp=>?_) he hn hl hs
 · rw [List.getElem?_set_ne (λz=>by rw [<- z,hu] at h; cases h)]
   exact h
 · rw [hx i h]
   exact uA j (eH hc).2 hN (hv s H fp) (hf s H fp)
end
section
variable {X:Cx} {C:Bool} {τ τ':List Sl} {x y z:D} {a b e c tg it elt o ix:Expr} {es ifs:List Expr} {pos p q:Pos} {k:Nat} {s:Sl} {N:Po} {rest body:List Stmt} {ds xs ys:List D} {i:Nat} {scope:Scope}
theorem vH {ns ms:List Int} (i:Nat) (h:i < (jl (ns.map D.int) (ms.map D.int)).length):(jl (ns.map D.int) (ms.map D.int))[i]=.tup [.int (ns.getD i 0),.int (ms.getD i 0)]:=by
 rw [pQ]
 rw [bW,List.length_map,List.length_map] at h
 simp [show i < ns.length by omega,show i < ms.length by omega]
end
end Hy
namespace Hy
open PySem PySem.Spec PyProof.Rows L2
open Ev (D Den ar aq aO aA)
section
variable {X:Cx} {C:Bool} {τ:List Sl} {x y z:D} {a b e o ix:Expr} {es:List Expr} {pos p q:Pos} {k:Nat} {s:Sl} {N:Po} {rest:List Stmt} {i j:Nat} {t c:Nd} {pt:List Nat} {xs:List Nd} {m:Nat}
theorem set_same {α:Type} {xs:List α} {i:Nat} {y:α} (h:xs[i]?=some y):xs.set i y=xs:=by
 obtain ⟨h1,h2⟩:=List.getElem?_eq_some_iff.mp h
 rw [<- h2]
 exact List.set_getElem_self h1
end
end Hy
namespace Hy
open PySem PySem.Spec PyProof.Rows L2
open Ev (D Den ar)
section
variable {P:Program} {w:World} {K:PySem.W.Frag} {h:Heap} {mg:Str->Option Value} {base:Heap} {x:Str} {st:Stmt} {f:Addr} {ps:List Str} {k:Nat} {Φ:List D->Sl->Prop} {i:Int}
end
mutual
noncomputable def qL:Nd->Bool
 | .d x=>flat x
 | .l xs=>lu xs
 | .t xs=>lu xs
noncomputable def lu:List Nd->Bool
 | []=>true
 | x :: xs=>qL x && lu xs
end
noncomputable def zm:Sl->Bool
 | .un=>true
 | .d x=>flat x
 | .o xs=>xs.all flat
 | .n t=>qL t
 | .x _=>false
section
variable {K:PySem.W.Frag} {G G' H:Hp}
mutual
theorem a8.fl:∀ {u:V} {bs:List Addr} {t:Nd},a8 K G H u bs t->qL t=true->a8 K G' H u bs t
 | _,_,_,.d h,f=>.d (iC h (by rw [qL] at f; exact f))
 | _,_,_,.l h r,f=>.l h (aB.fl r (by rw [qL] at f; exact f))
 | _,_,_,.t h r,f=>.t h (aB.fl r (by rw [qL] at f; exact f))
theorem aB.fl:∀ {vs:List V} {bs:List Addr} {ts:List Nd},aB K G H vs bs ts->lu ts=true->aB K G' H vs bs ts
 | _,_,_,.nil,_=>.nil
 | _,_,_,.cons h r,f=>by
   rw [lu,Bool.and_eq_true] at f
   exact .cons (a8.fl h f.1) (aB.fl r f.2)
end
theorem oY:∀ {vs:List V} {xs:List D},ar K G vs xs->xs.all flat=true->ar K G' vs xs
 | _,_,.nil,_=>.nil
 | _,_,.cons h r,f=>by
   rw [List.all_cons,Bool.and_eq_true] at f
   exact .cons (iC h f.1) (oY r f.2)
theorem bx.fl {v:Option V} {bs:List Addr}:∀ {s:Sl},bx K G H v bs s->zm s=true->bx K G' H v bs s
 | .un,h,_=>h
 | .d _,⟨h,u,e1,h2⟩,f=>⟨h,u,e1,iC h2 f⟩
 | .o _,⟨a,vs,h1,h2,h3,h4⟩,f=>⟨a,vs,h1,h2,h3,oY h4 f⟩
 | .n _,⟨h0,u,h1,h2⟩,f=>⟨h0,u,h1,h2.fl f⟩
end
end Hy
namespace Lc
open PySem PySem.Spec PyProof.Rows L2
open PySem.AutoSeq1 (wpAny_loadPart')
open PySem.MeetsSeq PySem.MeetsSeq2 PySem.MeetsSeq3 PySem.SeqRoads2 PySem.SeqAt
open Ev (D Den ar eqD cD toP)
noncomputable def lP (op:CmpOp) (A:Around) (s:Shared) (y x:Value) (b:Bool):Prop:=
 ∀ (prog:Program) (w:World) (E:Value->Shared->Prop) (Q:Value->Shared->Prop),Q (.bool b) s->wpAny (model prog w) A (richCompare op y x) Q E s
theorem ur (l b:Addr) (items items2:Array Value) (n n2:Nat) (dd dd2:Option Addr) (sl sl2:Array (Option Value)) (j:Nat) (h1:j < items.size) (h2:j < items2.size) (c:Bool) (k:Nat) :
   ∀ i:Nat,j - i=k->i<=j->Meets (Builtin.«list.__eq__.loop» ⟨[.ref l,.ref b,rawInt i,rawInt 0],[]⟩)
     (λA R s=>s.heap.get? l=some { cls:=.type "list",dict:=dd,data:=.seq items n,slots:=sl }/\s.heap.get? b=some { cls:=.type "list",dict:=dd2,data:=.seq items2 n2,slots:=sl2 } /\
       (∀ m (_:m < j) (z1:m < items.size) (z2:m < items2.size),EqAt A.in1 s items[m] items2[m] true)/\EqAt A.in1 s items[j] items2[j] false/\lP .Lt A.in1 s items[j] items2[j] c /\
       R (.ok (.ret (.bool c))) s):=by
 induction k with
 | zero=>
   intro i hk hij prog w A R s h
   obtain ⟨hp,g,d,tk,os⟩:=s; obtain ⟨hl,hb,he,hn,hc,h⟩:=h
   obtain rfl:i=j:=by omega
   wp_walk using wpAny_loadPart' hl,wpAny_loadPart' hb
   have hi1:items[((i:Nat):Int).toNat]?=some items[i]:=by simp [h1]
   have hi2:items2[((i:Nat):Int).toNat]?=some items2[i]:=by simp [h2]
   rw [hi1,hi2]
   refine wpAny_bind (hn prog w _ _ ?_)
   wp_walk using wpAny_loadPart' hl,wpAny_loadPart' hb
   rw [hi1,hi2]
   refine wpAny_bind (hc prog w _ _ ?_)
   wp_walk
   exact h
 | succ k ih=>
   intro i hk hij prog w A R s h
   obtain ⟨hp,g,d,tk,os⟩:=s; obtain ⟨hl,hb,he,hn,hc,h⟩:=h
   wp_walk using wpAny_loadPart' hl,wpAny_loadPart' hb
   have hlt:i < items.size:=by omega
   have hlt2:i < items2.size:=by omega
   have hi1:items[((i:Nat):Int).toNat]?=some items[i]:=by simp [hlt]
   have hi2:items2[((i:Nat):Int).toNat]?=some items2[i]:=by simp [hlt2]
   have hcc:((i:Int) + 1)=((i + 1:Nat):Int):=by push_cast; rfl
   rw [hi1,hi2]
   refine wpAny_bind (he i (by omega) hlt hlt2 prog w _ _ ?_)
   wp_walk
   rw [hcc]
   exact ⟨plainId_quiet plain_eq_loop _,codeAny_builtin entry_eq_loop (by
     rw [Around.under_plainId plain_eq_loop _]
     exact ih (i + 1) (by omega) (by omega) prog w A R _ ⟨hl,hb,he,hn,hc,h⟩)⟩
theorem pF (l b:Addr) (items items2:Array Value) (n n2:Nat) (dd dd2:Option Addr) (sl sl2:Array (Option Value)) (j:Nat) (h1:j < items.size) (h2:j < items2.size) (c:Bool) :
   Meets (Builtin.«list.__lt__» ⟨[.ref l,.ref b],[]⟩)
     (λA R s=>s.heap.get? l=some { cls:=.type "list",dict:=dd,data:=.seq items n,slots:=sl }/\s.heap.get? b=some { cls:=.type "list",dict:=dd2,data:=.seq items2 n2,slots:=sl2 } /\
       (∀ m (_:m < j) (z1:m < items.size) (z2:m < items2.size),EqAt A.in1 s items[m] items2[m] true)/\EqAt A.in1 s items[j] items2[j] false/\lP .Lt A.in1 s items[j] items2[j] c /\
       R (.ok (.ret (.bool c))) s):=by
 intro prog w A R s h
 obtain ⟨hp,g,d,tk,os⟩:=s; obtain ⟨hl,hb,he,hn,hc,h⟩:=h
 have f3:=AutoSeq1.sub_list_list
 wp_walk using wpAny_loadPart' hl,wpAny_loadPart' hb
 exact ⟨plainId_quiet plain_eq_loop _,codeAny_builtin entry_eq_loop (by
   rw [Around.under_plainId plain_eq_loop _]
   exact ur l b items items2 n n2 dd dd2 sl sl2 j h1 h2 c _ 0 rfl (Nat.zero_le _) prog w A R _ ⟨hl,hb,he,hn,hc,h⟩)⟩
theorem lP.lt {A:Around} {s:Shared} {l b:Addr} {items items2:Array Value} {j:Nat} {c:Bool} (hl:s.heap.IsList l items) (hb:s.heap.IsList b items2) (hu:A.units < cLine) (h1:j < items.size) (h2:j < items2.size)
   (he:∀ m (_:m < j) (z1:m < items.size) (z2:m < items2.size),EqAt A.in1 s items[m] items2[m] true) (hn:EqAt A.in1 s items[j] items2[j] false) (hc:lP .Lt A.in1 s items[j] items2[j] c):lP .Lt A s (.ref l) (.ref b) c:=λprog w E Q h=>by
 obtain ⟨⟨cls,dd,data,sl⟩,ho,hc1,n,hd⟩:=id hl
 obtain ⟨⟨cls2,dd2,data2,sl2⟩,ho2,hc2,n2,hd2⟩:=id hb
 simp only at hc1 hd hc2 hd2
 subst hc1 hd hc2 hd2
 exact richCompare_meets_room (op:=.Lt) ⟨_,ho,rfl⟩ ⟨_,ho2,rfl⟩ F.slot_list_lt F.entry_list_lt (F.args_list_lt_2 _ _) (pF l b items items2 n n2 dd dd2 sl sl2 j h1 h2 c)
   ⟨ho,ho2,he,hn,hc,show Value.bool c ≠ Value.notImplemented/\Q (.bool c) s from ⟨(λx=>nomatch x),h⟩⟩ hu
section
variable {X:Cx} {pins:List (Addr × Obj)} {σ:L2.St} {H G:Hp} {s:Shared}
open Ev (cln bh dep bu bz eG fI gZ)
theorem di:∀ {xs:List D} {j:Nat} {x:D},bh xs=true->xs[j]?=some x->cln x=true/\dep x<=bu xs
 | y :: ys,0,x,h,e=>by
   cases e
   rw [bh,Bool.and_eq_true] at h
   rw [bu]
   exact ⟨h.1,Nat.le_max_left _ _⟩
 | y :: ys,j + 1,x,h,e=>by
   rw [bh,Bool.and_eq_true] at h
   obtain ⟨h1,h2⟩:=di (xs:=ys) h.2 e
   rw [bu]
   exact ⟨h1,Nat.le_trans h2 (Nat.le_max_right _ _)⟩
theorem de {K:PySem.W.Frag} {G:Hp}:∀ {vs:List V} {xs:List D} {us:List Value},ar K G vs xs->Vals vs us->∀ {j:Nat} {x:D},xs[j]?=some x->∃ v u,us[j]?=some u/\Den K G v x/\RelV v u
 | _,_,_,.cons d r,.cons q qs,0,x,e=>by cases e; exact ⟨_,_,rfl,d,q⟩
 | _,_,_,.cons d r,.cons q qs,j + 1,x,e=>de r qs (j:=j) e
 | _,_,_,.nil,.nil,_,_,e=>by cases e
theorem ig (I:Inv X pins σ H s) (e:ah G H) {A:Around} {v v':V} {x y:D} {u u':Value} (d:Den X.K G v x) (r:RelV v u) (d':Den X.K G v' y) (r':RelV v' u') (c1:cln x=true) (c2:cln y=true) (hu:A.units + dep x < cLine):EqAt A s u u' (eqD x y):=by
 obtain ⟨as,z1⟩:=bz I e d r c1
 obtain ⟨bs,z2⟩:=bz I e d' r' c2
 rw [<- eG]
 refine eqAt_reads _ _ A s u u' as bs z1 z2 (by rw [fI]; exact c1) (by rw [fI]; exact c2) ?_
 rw [gZ]
 exact Nat.lt_of_le_of_lt (Nat.add_le_add_left (Nat.min_le_left _ _) _) hu
end
end Lc
namespace Hy
open PySem PySem.Spec PyProof.Rows L2
open Ev (D Den ar cD)
end Hy
namespace Hy
open PySem PySem.Spec PyProof.Rows L2
open Ev (D Den ar)
noncomputable def But (d:Addr) (H H':Hp):Prop:=∀ b o,b ≠ d->H b=some o->H' b=some o
theorem But.same {H H':Hp} {d:Addr} (e:ah H H'):But d H H':=λb o _ h=>e b o h
theorem But.trans {H H1 H2:Hp} {d:Addr} (a:But d H H1) (b:But d H1 H2):But d H H2:=λc o n h=>b c o n (a c o n h)
theorem But.hd {H H':Hp} {d:Addr} {M:Addr->Prop} (e:But d H H') (h:M d):ah (Hy.hd H M) (Hy.hd H' M):=λb o z=>by
 obtain ⟨z1,z2⟩:=ai.mp z
 exact ai.mpr ⟨z1,e b o (λy=>z1 (y ▸ h)) z2⟩
noncomputable def Hid (M:Addr->Prop) (H:Hp) (d:Addr):Prop:=M d/\∀ b,M b->∃ o,H b=some o
theorem Hid.but {M:Addr->Prop} {H H':Hp} {d:Addr} (h:Hid M H d) (e:But d H H') (hd:∃ o,H' d=some o):Hid M H' d:=⟨h.1,λb z=>by
 by_cases q:b=d
 · rw [q]; exact hd
 · obtain ⟨o,y⟩:=h.2 b z
   exact ⟨o,e b o q y⟩⟩
theorem Hid.same {M:Addr->Prop} {H H':Hp} {d:Addr} (h:Hid M H d) (e:ah H H'):Hid M H' d:=⟨h.1,λb z=>let ⟨o,y⟩:=h.2 b z; ⟨o,e b o y⟩⟩
noncomputable def xb (P:Program) (w:World) (K:PySem.W.Frag) (mg:Str->Option Value) (base:Heap) (k:Nat) (n:Str) (sp:Sp):Prop:=
 ∃ f fd ps,aQ P w K mg base CX0 k f fd ps sp/\mg n=some (.ref f)/\PySem.W.keepIn K (.ref f)=true/\Binds K fd ps []
theorem xb.mono {P:Program} {w:World} {K:PySem.W.Frag} {mg:Str->Option Value} {base:Heap} {j k:Nat} {n:Str} {sp:Sp} (c:xb P w K mg base j n sp) (h:j<=k):xb P w K mg base k n sp:=
 let ⟨f,fd,ps,F,r⟩:=c; ⟨f,fd,ps,F.mono h,r⟩
section
variable {K:PySem.W.Frag} {A:Addr->Prop} {H₀ H H':Hp} {τ:List Sl} {B:Nat->List Addr} {σ:L2.St}
theorem Sta.hid (S:Sta K A H₀ τ B σ H) {i:Nat} {a:Addr} (hB:B i=[a]):Hid (own A B) H a:=⟨.inr ⟨i,by rw [hB]; exact List.mem_singleton.mpr rfl⟩,S.dm⟩
theorem Sta.but (S:Sta K A H₀ τ B σ H) {i:Nat} {a:Addr} {E E':Ex} {o':HO} (hi:τ[i]?=some (.x E)) (hB:B i=[a]) (e:But a H H') (ho:H' a=some o') (d:E'.p K (hd H' (own A B)) o' a):Sta K A H₀ (τ.set i (.x E')) B σ H':=by
 have sm:ah (hd H (own A B)) (hd H' (own A B)):=e.hd (S.hid hB).1
 have f0:H₀ a=none:=S.fr i a (by rw [hB]; exact List.mem_singleton.mpr rfl)
 have hs:ah H₀ H':=λb o z=>e b o (λq=>by rw [q,f0] at z; cases z) (S.same b o z)
 refine ⟨hs,by rw [List.length_set,S.len],λj t hj=>?_,S.fr,S.uq,S.ad,λj b hb=>((S.hid hB).but e ⟨_,ho⟩).2 b (.inr ⟨j,hb⟩)⟩
 by_cases ej:j=i
 · subst ej
   have hl:=(List.getElem?_eq_some_iff.mp hi).1
   rw [List.getElem?_set_self hl] at hj
   cases hj
   obtain ⟨a',o,e1,e2,_,_⟩:=S.sl j _ hi
   rw [hB] at e1
   cases e1
   exact ⟨a,o',hB,e2,ho,d⟩
 · rw [List.getElem?_set_ne (λz=>ej z.symm)] at hj
   have off:∀ b ∈ B j,b ≠ a:=λb hb e=>ej (S.uq j i a (e ▸ hb) (by rw [hB]; exact List.mem_singleton.mpr rfl))
   have ne:∀ b ∈ B j,H' b=H b:=λb hb=>by
     obtain ⟨o,q⟩:=S.bd j b hb
     rw [q]
     exact e b o (off b hb) q
   exact (S.sl j t hj).frame sm ne
end
section
variable {X:Cx} {τ:List Sl} {x y z:D} {a b e c:Expr} {es:List Expr} {pos p q:Pos} {k:Nat} {s:Sl} {ds:List D} {N:Po} {rest body:List Stmt}
end
section
variable {P:Program} {w:World} {K:PySem.W.Frag} {mg:Str->Option Value} {base:Heap}
end
section
variable {X:Cx} {τ:List Sl} {es:List Expr} {pos p q pr:Pos} {k:Nat} {s:Sl} {ds:List D} {N:Po} {rest:List Stmt}
end
end Hy
namespace Hy
open PySem PySem.Spec PyProof.Rows L2
open Ev (D Den ar aU aP aq aO aA)
section
variable {X:Cx} {i:Int}
theorem x3 {ns:List Int}:bF X (compareOp .In) (.int i) (.lst (ns.map .int)) (.bl (ns.any λw=>decide (w=i))):=⟨_,fV,λM x' y' H Q _ d1 d2 q=>by
 cases d1
 cases d2 with
 | @lst ad vs _ h r=>
   cases bV r
   refine ⟨_,_,rfl,.inl (aA az h),rfl,?_,?_⟩
   · rw [List.all_map,List.all_eq_true]; intro _ _; rfl
   · have e:(ns.any λw=>decide (w=i))=inV (.int i) (ns.map V.int):=by unfold inV; rw [List.any_map]; congr 1
     rw [if_neg Bool.false_ne_true]
     rw [e] at q
     exact q _ H (ah.refl _) .bl⟩
theorem vf {ns:List Int}:bF X (compareOp .In) (.int i) (.tup (ns.map .int)) (.bl (ns.any λw=>decide (w=i))):=⟨_,fV,λM x' y' H Q _ d1 d2 q=>by
 cases d1
 cases d2 with
 | @tup ad vs _ h r=>
   cases bV r
   refine ⟨_,_,rfl,.inr (aO az h),rfl,?_,?_⟩
   · rw [List.all_map,List.all_eq_true]; intro _ _; rfl
   · have e:(ns.any λw=>decide (w=i))=inV (.int i) (ns.map V.int):=by unfold inV; rw [List.any_map]; congr 1
     rw [if_neg Bool.false_ne_true]
     rw [e] at q
     exact q _ H (ah.refl _) .bl⟩
theorem xi {ns:List Int}:bF X (compareOp .NotIn) (.int i) (.tup (ns.map .int)) (.bl (!ns.any λw=>decide (w=i))):=⟨_,kW,λM x' y' H Q _ d1 d2 q=>by
 cases d1
 cases d2 with
 | @tup ad vs _ h r=>
   cases bV r
   refine ⟨_,_,rfl,.inr (aO az h),rfl,?_,?_⟩
   · rw [List.all_map,List.all_eq_true]; intro _ _; rfl
   · have e:(ns.any λw=>decide (w=i))=inV (.int i) (ns.map V.int):=by unfold inV; rw [List.any_map]; congr 1
     rw [if_pos rfl]
     rw [e] at q
     exact q _ H (ah.refl _) .bl⟩
end
end Hy
namespace Su
open PySem PyProof.Rows HT
open PySem.SeqAt
open PySem.AutoSeq1 (wpAny_loadPart')
open PySem.MeetsSeq PySem.MeetsSeq2 PySem.MeetsSeq3
theorem qN (t:Bool) (x y:Value):keyLt' (tuples' t) x y=(do
   let xs <- Builtin.List.listItems x; let ys <- Builtin.List.listItems y
   for ((p,q),i) in (xs.toList.zip ys.toList).zipIdx do
     if !(<- eqBool p q) then return <- oneLt' (t && i == 0) p q
   return xs.size < ys.size):=rfl
section
variable {prog:Program} {w:World} {A:Around} {E:Value->Shared->Prop} {s:Shared}
theorem ot {b:Bool} {a c:Int} {t u:Tok} {Q:Bool->Shared->Prop} (h:Q (decide (a < c)) s):wpAny (model prog w) A (oneLt' b (.int a t) (.int c u)) Q E s:=by
 cases b with
 | true=>exact oneLt_int h
 | false=>
   rw [oneLt'_eq]
   simp only [Bool.false_eq_true,if_false]
   exact wpAny_bind (qW A s a t c u prog w E _ (wpAny_truthy_bool h))
theorem m8 {l b:Addr} {items items2:Array Value} {n n2:Nat} {dd dd2:Option Addr} {sl sl2:Array (Option Value)} {ns ms:List Int} {t:Bool} {Q:Bool->Shared->Prop} (hl:s.heap.get? l=some { cls:=.type "tuple",dict:=dd,data:=.seq items n,slots:=sl }) (hb:s.heap.get? b=some { cls:=.type "tuple",dict:=dd2,data:=.seq items2 n2,slots:=sl2 })
   (hi:IntsAre items.toList ns) (hj:IntsAre items2.toList ms) (h:Q (lexLt ns ms) s):wpAny (model prog w) A (keyLt' (tuples' t) (.ref l) (.ref b)) Q E s:=by
 rw [qN]
 have z1:items.size=ns.length:=by rw [<- hi.length]; simp
 have z2:items2.size=ms.length:=by rw [<- hj.length]; simp
 refine wpAny_bind (listItems_at hl rfl ?_)
 refine wpAny_bind (listItems_at hb rfl ?_)
 refine wpAny_bind (wpAny_forIn_list _ (λrest (b:Option Bool × Unit) s'=>b.1=none/\s'=s/\∃ (vs ws:List Value) (ns' ms':List Int) (k:Nat),rest=(vs.zip ws).zipIdx k /\
     IntsAre vs ns'/\IntsAre ws ms'/\ns'.length + items2.size=ms'.length + items.size/\Q (lexLt ns' ms') s) _ ?turn ?fin _ _ ?init)
 case turn=>
   rintro ⟨⟨y,x⟩,i⟩ rest b s' ⟨hb',rfl,vs,ws,ns',ms',k,hz,hvi,hwi,hlen,hR⟩
   cases hvi with
   | nil=>rw [List.zip_nil_left] at hz; cases hz
   | cons a t hvi'=>
     cases hwi with
     | nil=>rw [List.zip_nil_right] at hz; cases hz
     | cons c u hwi'=>
       rw [List.zip_cons_cons,List.zipIdx_cons] at hz
       injection hz with hyx hrest
       injection hyx with hy hx
       injection hy with hy hy2
       subst hy hy2
       rw [oy] at hR
       simp only [List.length_cons] at hlen
       obtain ⟨e,he,hiff⟩:=tL A s' a t c u
       refine wpAny_bind (he prog w _ _ ?_)
       cases e with
       | true=>
         rw [if_pos (hiff.mp rfl)] at hR
         wp_walk
         exact ⟨rfl,rfl,_,_,_,_,_,hrest,hvi',hwi',by omega,hR⟩
       | false=>
         rw [if_neg (λq=>absurd (hiff.mpr q) Bool.false_ne_true)] at hR
         simp only [Bool.not_false,if_true]
         refine wpAny_bind (ot ?_)
         exact wpAny_pure (wpAny_pure hR)
 case fin=>
   rintro ⟨b1,b2⟩ s' ⟨hb',rfl,vs,ws,ns',ms',k,hz,hvi,hwi,hlen,hR⟩
   simp only at hb'
   subst hb'
   have hv:lexLt ns' ms'=decide (items.size < items2.size):=by
     cases hvi with
     | nil=>
       cases hwi with
       | nil=>
         simp only [List.length_nil] at hlen
         rw [js]
         exact (decide_eq_false (by omega)).symm
       | cons c u hw=>
         simp only [List.length_nil,List.length_cons] at hlen
         rw [hG]
         exact (decide_eq_true (by omega)).symm
     | cons a t hv=>
       cases hwi with
       | nil=>
         simp only [List.length_nil,List.length_cons] at hlen
         rw [iS]
         exact (decide_eq_false (by omega)).symm
       | cons c u hw=>
         rw [List.zip_cons_cons] at hz
         cases hz
   rw [hv] at hR
   exact wpAny_pure hR
 case init=>exact ⟨rfl,rfl,items.toList,items2.toList,ns,ms,0,rfl,hi,hj,by omega,h⟩
theorem ltG {st:SortSt} {i j:Nat} {x y p q:Value} {b:Bool} {Q:Option Bool->SortSt->Prop} (hi:(arrOf st)[i]?=some (x,p)) (hj:(arrOf st)[j]?=some (y,q))
   (hlt:∀ (E:Value->Shared->Prop) (Q:Bool->Shared->Prop),Q b s->wpAny (model prog w) A (keyLt' (kindOf st) x y) Q E s) (h:Q (some b) st):wpS (model prog w) A E s (ltAt' i j) Q st:=by
 rw [ltAt'_eq]
 refine wpS_bind (wpS_get ?_)
 show wpS _ _ _ _ (do let x <- elem' (arrOf st) i; let y <- elem' (arrOf st) j; lt' x y) Q st
 rw [elem'_eq,elem'_eq,hi,hj]
 refine wpS_bind (wpS_pure (wpS_bind (wpS_pure ?_)))
 rw [lt'_eq]
 refine wpS_bind (wpS_get ?_)
 refine wpS_bind (wpS_lift (wpAny_attempt (hlt _ _ ⟨rfl,?_⟩)))
 exact wpS_pure h
theorem zg {n m:Nat} {st:SortSt} {Q:AscSt->SortSt->Prop} (hm:m<=n) (h:Q (none,n) st):wpS (model prog w) A E s (ascLoop n m) Q st:=by
 unfold ascLoop
 exact wpS_forRange (I:=λ_ c st'=>c=(none,n)/\st'=st) (λi _ _ h1 h2 _=>absurd h2 (by omega)) (λc st' ⟨h1,h2⟩=>by subst h1 h2; exact h) ⟨rfl,rfl⟩
theorem xh {st:SortSt} {x y p q:Value} {b:Bool} {Q:Option Nat->SortSt->Prop} (hA:arrOf st=#[(x,p),(y,q)])
   (hlt:∀ (E:Value->Shared->Prop) (Q:Bool->Shared->Prop),Q b s->wpAny (model prog w) A (keyLt' (kindOf st) y x) Q E s) (h:Q (some 2) (if b then setArr st #[(y,q),(x,p)] else st)):wpS (model prog w) A E s (countRun' 0 2) Q st:=by
 rw [countRun0_eq]
 have h1:(arrOf st)[1]?=some (y,q):=by rw [hA]; rfl
 have h0:(arrOf st)[0]?=some (x,p):=by rw [hA]; rfl
 refine wpS_bind (wpS_mono (Q:=λc st'=>st'=st/\c=(none,if b then 1 else 2)) (by
   unfold ascLoop
   refine wpS_forRange (I:=λi c st'=>st'=st/\((i=1/\c=(none,1))\/(i=2/\b=false/\c=(none,2)))) ?_ ?_ ⟨rfl,.inl ⟨rfl,rfl⟩⟩
   · rintro i c st' hi1 hi2 ⟨rfl,⟨rfl,rfl⟩ | ⟨rfl,_⟩⟩
     · refine wpS_bind (ltG (i:=1) (j:=0) h1 h0 hlt ?_)
       cases b with
       | true=>exact wpS_pure ⟨rfl,rfl⟩
       | false=>exact wpS_pure ⟨rfl,.inr ⟨rfl,rfl,rfl⟩⟩
     · omega
   · rintro c st' ⟨rfl,⟨h,_⟩ | ⟨_,rfl,rfl⟩⟩
     · exact absurd h (by decide)
     · exact ⟨rfl,rfl⟩) ?_)
 rintro c st' ⟨rfl,rfl⟩
 cases b with
 | false=>exact wpS_pure h
 | true=>
   show wpS _ _ _ _ (if ((1:Nat) == 2)=true then _ else if 1 > 1 then _ else descPart 1 2) Q st'
   rw [if_neg (by decide),if_neg (by decide)]
   unfold descPart
   refine wpS_bind (wpS_lift (wpAny_rule ⟨rfl,?_⟩))
   refine wpS_bind (wpS_mono (Q:=λc st''=>st''=st'/\c=(none,2,0)) (by
     unfold descLoop
     exact wpS_forRange (I:=λ_ c st''=>st''=st'/\c=(none,2,0)) (λi _ _ h1 h2 _=>absurd h2 (by omega)) (λc st' h=>h) ⟨rfl,rfl⟩) ?_)
   rintro c st'' ⟨rfl,rfl⟩
   show wpS _ _ _ _ (if 0 > 0 then _ else tail3 2 2) Q st''
   rw [if_neg (by decide)]
   unfold tail3
   refine wpS_bind (wpS_reverse ?_)
   refine wpS_bind (zg (Nat.le_refl _) ?_)
   refine wpS_pure ?_
   have e:mirror (arrOf st'') 0 2 ((2 - 0) / 2)=#[(y,q),(x,p)]:=by rw [hA]; rfl
   rw [e]
   exact h
theorem yE {st:SortSt} {x y p q:Value} {b:Bool} {Q:Unit->SortSt->Prop} (hA:arrOf st=#[(x,p),(y,q)]) (hf:failedOf st=none) (hp:pendingOf st=#[])
   (hlt:∀ (E:Value->Shared->Prop) (Q:Bool->Shared->Prop),Q b s->wpAny (model prog w) A (keyLt' (kindOf st) y x) Q E s)
   (h:∀ st',arrOf st'=(if b then #[(y,q),(x,p)] else #[(x,p),(y,q)])->failedOf st'=none->Q () st'):wpS (model prog w) A E s sortRuns' Q st:=by
 rw [sortRuns'_eq]
 refine wpS_bind (wpS_get ?_)
 dsimp only
 have hsz:(arrOf st).size=2:=by rw [hA]; rfl
 have hmr:minRun' 2 2 0=2:=rfl
 simp only [hsz,hmr]
 let P:SortSt->Prop:=λst'=>arrOf st'=(if b then #[(y,q),(x,p)] else #[(x,p),(y,q)])/\failedOf st'=none/\(pendingOf st').size=1
 refine wpS_bind (wpS_mono (wpS_forRange (I:=λi c st'=>(i=0/\c=(none,0)/\st'=st)\/(1<=i/\c=(none,2)/\P st')) (Q:=λc st'=>c=(none,2)/\P st') ?step ?fin (.inl ⟨rfl,rfl,rfl⟩)) ?post)
 case fin=>
   rintro c st' (⟨hx,_,_⟩ | ⟨_,hc,hD⟩)
   · exact absurd hx (by decide)
   · exact ⟨hc,hD⟩
 case step=>
   rintro i c st' _ hx (⟨rfl,rfl,rfl⟩ | ⟨hx1,rfl,hD⟩)
   · dsimp only
     rw [if_neg (by decide)]
     simp only [Nat.sub_zero]
     refine wpS_bind (xh hA hlt ?_)
     dsimp only
     rw [if_neg (by decide)]
     refine wpS_bind (wpS_get ?_)
     have hb:(pendingOf (if b then setArr st' #[(y,q),(x,p)] else st')).back?=none:=by
       cases b with
       | true=>show (pendingOf st').back?=none; rw [hp]; rfl
       | false=>show (pendingOf st').back?=none; rw [hp]; rfl
     rw [hb]
     dsimp only
     refine wpS_bind (wpS_modify (wpS_pure (.inr ⟨by omega,rfl,?_,?_,?_⟩)))
     · cases b with
       | true=>rfl
       | false=>exact hA
     · cases b with
       | true=>exact hf
       | false=>exact hf
     · cases b with
       | true=>show ((pendingOf st').push _).size=1; rw [hp]; rfl
       | false=>show ((pendingOf st').push _).size=1; rw [hp]; rfl
   · dsimp only
     rw [if_pos (Nat.le_refl _)]
     exact wpS_pure ⟨rfl,hD⟩
 case post=>
   rintro c st' ⟨rfl,hD⟩
   dsimp only
   refine wpS_bind (wpS_mono (wpS_forRange (I:=λ_ c st''=>st''=st'/\c=(none,())) (Q:=λc st''=>st''=st'/\c=(none,())) ?_ (λ_ _ hh=>hh) ⟨rfl,rfl⟩) ?_)
   · rintro x c st'' _ _ ⟨rfl,rfl⟩
     refine wpS_bind (wpS_get ?_)
     rw [if_pos (by rw [hD.2.2]; exact Nat.le_refl 1)]
     exact wpS_pure ⟨rfl,rfl⟩
   · rintro c st'' ⟨rfl,rfl⟩
     exact wpS_pure (h _ hD.1 hD.2.1)
noncomputable def dN (h:Heap) (l:Addr) (ns:List Int):Prop:=∃ items n dd sl,h.get? l=some { cls:=.type "tuple",dict:=dd,data:=.seq items n,slots:=sl }/\IntsAre items.toList ns/\ns ≠ []
theorem jA {l:Addr} {ns:List Int} {Q:Option Value->Shared->Prop} (hl:dN s.heap l ns) (h:∀ a t,Q (some (.int a t)) s):wpAny (model prog w) A (firstOfTuple' (.ref l)) Q E s:=by
 obtain ⟨items,n,dd,sl,ho,hi,h0⟩:=hl
 have e:firstOfTuple' (.ref l)=(do
   if (<- typeOf (.ref l)) != .type "tuple" then return none
   return (<- Builtin.List.listItems (.ref l))[0]?):=rfl
 rw [e]
 refine wpAny_bind (wpAny_typeOf_ref ho ?_)
 simp only [bne_self_eq_false,Bool.false_eq_true,if_false]
 refine wpAny_bind (listItems_at ho rfl (wpAny_pure ?_))
 obtain ⟨its⟩:=items
 cases hi with
 | nil=>exact absurd rfl h0
 | cons a t _=>exact h a t
theorem yi {l b:Addr} {ns ms:List Int} {Q:SortKind->Shared->Prop} (hl:dN s.heap l ns) (hb:dN s.heap b ms) (h:Q (tuples' true) s):wpAny (model prog w) A (keyKind' #[.ref l,.ref b]) Q E s:=by
 rw [keyKind'_eq]
 refine wpAny_bind ?_
 have e:(#[Value.ref l,Value.ref b]:Array Value).mapM firstOfTuple'=(do let x <- firstOfTuple' (.ref l); let y <- firstOfTuple' (.ref b); pure #[x,y]):=by
   rw [show (#[Value.ref l,Value.ref b]:Array Value)=[Value.ref l,Value.ref b].toArray from rfl,List.mapM_toArray]
   simp
 rw [e]
 refine wpAny_bind (jA hl λa t=>wpAny_bind (jA hb λc u=>wpAny_pure ?_))
 have e2:oneTypeOnly' ((#[some (Value.int a t),some (Value.int c u)]:Array (Option Value)).filterMap id)=pure (some (.type "int")):=by
   rw [show ((#[some (Value.int a t),some (Value.int c u)]:Array (Option Value)).filterMap id)=[Value.int a t,Value.int c u].toArray by simp,oneTypeOnly'_eq,List.mapM_toArray,mapM_typeOf_ints (.cons a t (.cons c u .nil))]
   simp only [map_pure,pure_bind]
   have hall:((List.map (λ_=>Value.type "int") [Value.int a t,Value.int c u]).toArray.all λx=>x == Value.type "int")=true:=by
     simp only [List.all_toArray,List.all_map,List.all_eq_true]
     intro _ _
     rfl
   have h0:(List.map (λ_=>Value.type "int") [Value.int a t,Value.int c u]).toArray[0]?=some (Value.type "int"):=by simp
   rw [h0]
   simp only [hall,if_true]
 rw [if_pos (by simp)]
 refine wpAny_bind (wpAny_rule ?_)
 rw [e2]
 exact wpAny_pure h
theorem dN.keep {h h':Heap} {l:Addr} {ns:List Int} (k:∀ o,h.get? l=some o->h'.get? l=some o):dN h l ns->dN h' l ns:=λ⟨items,n,dd,sl,ho,r⟩=>⟨items,n,dd,sl,k _ ho,r⟩
theorem dN.lt {l b:Addr} {ns ms:List Int} (hl:dN s.heap l ns) (hb:dN s.heap b ms) (E:Value->Shared->Prop) (Q:Bool->Shared->Prop) (h:Q (lexLt ns ms) s):wpAny (model prog w) A (keyLt' (tuples' true) (.ref l) (.ref b)) Q E s:=by
 obtain ⟨items,n,dd,sl,ho,hi,_⟩:=hl
 obtain ⟨items2,n2,dd2,sl2,ho2,hi2,_⟩:=hb
 exact m8 ho ho2 hi hi2 h
theorem yv {a l b:Addr} {ns ms:List Int} {n:Nat} {P:Fin->Shared->Prop} (ho:s.heap.get? a=some (seqObj "list" #[.ref l,.ref b] n)) (hl:dN s.heap l ns) (hb:dN s.heap b ms)
   (h:P (.done (.ret .none)) { s with heap:=sortedHeap s.heap a [.ref l,.ref b] (if lexLt ms ns then #[.ref b,.ref l] else #[.ref l,.ref b]) }):wpAny (model prog w) A (Builtin.«list.sort» ⟨[.ref a],[]⟩) P E s:=by
 rw [list_sort_plain]
 have ha:a < s.heap.objs.size:=Heap.lt_size ho
 refine wpAny_bind (listItems_at ho rfl ?_)
 refine wpAny_bind (listUpdate_at ho rfl ?_)
 obtain ⟨e1,ho1⟩:∃ e1,(s.heap.update a (Obj.mapSeq λ_=>#[])).get? a=some (seqObj "list" #[] e1):=⟨_,get?_update_seq ho (λ_=>#[])⟩
 refine wpAny_bind (seqEpoch_at ho1 rfl ?_)
 refine wpAny_bind (wpAny_newTuple ?_)
 refine wpAny_bind (wpAny_newList ?_)
 refine wpAny_holding ?_
 have ho6:(((s.heap.update a (Obj.mapSeq λ_=>#[])).push (seqObj "tuple" #[.ref l,.ref b] 0)).push (seqObj "list" #[] 0)).get? a=some (seqObj "list" #[] e1):=by
   rw [Heap.get?_push_ne _ _ _ (by rw [size_push',Heap.size_update]; exact Nat.ne_of_lt (Nat.lt_succ_of_lt ha)),Heap.get?_push_ne _ _ _ (by rw [Heap.size_update]; exact Nat.ne_of_lt ha)]
   exact ho1
 have kp:∀ {c:Addr} {o:Obj},s.heap.get? c=some o->o.cls=.type "tuple" -> (((s.heap.update a (Obj.mapSeq λ_=>#[])).push (seqObj "tuple" #[.ref l,.ref b] 0)).push (seqObj "list" #[] 0)).get? c=some o:=λ{c o} z1 z2=>by
   have hc:c < s.heap.objs.size:=Heap.lt_size z1
   have ne:c ≠ a:=λe=>by rw [e,ho] at z1; cases z1; exact absurd z2 (by simp [seqObj])
   rw [Heap.get?_push_ne _ _ _ (by rw [size_push',Heap.size_update]; exact Nat.ne_of_lt (Nat.lt_succ_of_lt hc)),Heap.get?_push_ne _ _ _ (by rw [Heap.size_update]; exact Nat.ne_of_lt hc),Heap.get?_update_other _ _ (Ne.symm ne)]
   exact z1
 have kt:∀ {c:Addr} {ks:List Int},dN s.heap c ks->dN (((s.heap.update a (Obj.mapSeq λ_=>#[])).push (seqObj "tuple" #[.ref l,.ref b] 0)).push (seqObj "list" #[] 0)) c ks:=λ⟨items,n,dd,sl,ho,r⟩=>⟨items,n,dd,sl,kp ho rfl,r⟩
 show wpAny (model prog w) A _ P E { s with heap:=((s.heap.update a (Obj.mapSeq λ_=>#[])).push (seqObj "tuple" #[.ref l,.ref b] 0)).push (seqObj "list" #[] 0) }
 dsimp only
 have h2:¬ (#[Value.ref l,Value.ref b]:Array Value).size < 2:=by show ¬ 2 < 2; decide
 rw [if_neg h2,if_neg h2]
 refine wpAny_bind (yi (kt hl) (kt hb) ?_)
 refine wpAny_bind (wpAny_mono (yE (x:=.ref l) (y:=.ref b) (p:=.ref l) (q:=.ref b) (b:=lexLt ms ns) (st:=SortSt.mk' (tuples' true) ((#[Value.ref l,Value.ref b]:Array Value).zip #[Value.ref l,Value.ref b]) #[] 7 none)
     (Q:=λ_ st'=>arrOf st'=(if lexLt ms ns then #[(Value.ref b,Value.ref b),(Value.ref l,Value.ref l)] else #[(Value.ref l,Value.ref l),(Value.ref b,Value.ref b)])/\failedOf st'=none) (by show (#[Value.ref l,Value.ref b]:Array Value).zip #[Value.ref l,Value.ref b]=_; simp) rfl rfl
     (λE Q q=>dN.lt (s:={ s with heap:=((s.heap.update a (Obj.mapSeq λ_=>#[])).push (seqObj "tuple" #[.ref l,.ref b] 0)).push (seqObj "list" #[] 0) }) (kt hb) (kt hl) E Q q) λst' a1 a2=>⟨a1,a2⟩) ?_ λ_ _ e=>e)
 rintro ⟨⟨⟩,st'⟩ s' ⟨rfl,hA,hf⟩
 dsimp only
 have em:(arrOf st').map (·.2)=if lexLt ms ns then #[Value.ref b,Value.ref l] else #[Value.ref l,Value.ref b]:=by rw [hA]; split <;> simp
 refine wpAny_bind (seqEpoch_at ho6 rfl ?_)
 refine wpAny_bind (listUpdate_at ho6 rfl ?_ (hsz2:=by rw [em]; split <;> (show 2<=sizeLine + 1; decide)))
 rw [hf,em]
 simp only [bne_self_eq_false,Bool.false_eq_true,if_false]
 exact wpAny_pure h
theorem uN {c l b:Addr} {ns ms:List Int} {Q:Value->Shared->Prop} (hc:s.heap.IsList c #[.ref l,.ref b]) (hl:dN s.heap l ns) (hb:dN s.heap b ms)
   (h:Q (.ref (s.heap.objs.size + 1)) { s with heap:=sortedAll s.heap [.ref l,.ref b] (if lexLt ms ns then #[.ref b,.ref l] else #[.ref l,.ref b]) }):wpAny (model prog w) A (call (.builtin "sorted") [.ref c]) Q E s:=by
 refine Calls.call_function_entry kind_sorted plain_sorted entry_sorted (args_sorted1 _) ?_
 unfold Builtin.«sorted»
 refine wpAny_bind (m:=checkCount "sorted" 1 1 _) (wpAny_pure ?_)
 refine wpAny_bind (collect_list (vs:=[.ref l,.ref b]) hc ?_)
 refine wpAny_bind (wpAny_newList ?_)
 have hsz:((s.heap.push (seqObj "list" #[] 0)).update s.heap.objs.size (Obj.mapSeq (·++#[.ref l,.ref b]))).objs.size=s.heap.objs.size + 1:=by
   rw [Heap.size_update,size_push']
 have hoL:(((s.heap.push (seqObj "list" #[] 0)).update s.heap.objs.size (Obj.mapSeq (·++#[.ref l,.ref b]))).push (seqObj "list" #[.ref l,.ref b] 0)).get? (s.heap.objs.size + 1)=some (seqObj "list" #[.ref l,.ref b] 0):=by
   rw [<- hsz]; exact Heap.get?_push_size _ rfl
 have kp:∀ {d:Addr} {o:Obj},s.heap.get? d=some o->(((s.heap.push (seqObj "list" #[] 0)).update s.heap.objs.size (Obj.mapSeq (·++#[.ref l,.ref b]))).push (seqObj "list" #[.ref l,.ref b] 0)).get? d=some o:=λ{d o} z=>by
   have hd:d < s.heap.objs.size:=Heap.lt_size z
   rw [Heap.get?_push_ne _ _ _ (by rw [hsz]; exact Nat.ne_of_lt (Nat.lt_succ_of_lt hd)),Heap.get?_update_other _ _ (Nat.ne_of_gt hd),Heap.get?_push_ne _ _ _ (Nat.ne_of_lt hd)]
   exact z
 show wpAny _ _ _ _ _ { s with heap:=((s.heap.push (seqObj "list" #[] 0)).update s.heap.objs.size (Obj.mapSeq (·++#[.ref l,.ref b]))).push (seqObj "list" #[.ref l,.ref b] 0) }
 rw [hsz]
 refine wpAny_bind (wpAny_holding (wpAny_call_entry slot_list_sort ⟨_,hoL,rfl⟩ entry_list_sort (yv hoL (hl.keep λ_=>kp) (hb.keep λ_=>kp) ⟨_,rfl,?_⟩) (args_list_sort _)))
 exact wpAny_pure ⟨_,rfl,h⟩
end
end Su
namespace Hy
open PySem PySem.Spec PyProof.Rows L2
open Ev (D Den ar aU aP aq aO aA)
section
variable {X:Cx} {C:Bool} {τ:List Sl} {x y z:D} {a b e:Expr} {es:List Expr} {pos p:Pos} {k:Nat} {s:Sl} {ds xs ys:List D} {i j:Int} {N:Po} {rest:List Stmt}
theorem uF:OpR X (binaryOp .Add) (λx y H Q=>∃ a b ys,x=.ref a/\y=.ref b/\SqT X.K H a []/\SqT X.K H b ys/\Q (.ref b) H):=by
 intro pins s σ H x y v u Q I rx ry h
 obtain ⟨a,b,ys,rfl,rfl,ha,hb,q⟩:=h
 cases rx
 cases ry
 obtain ⟨its,r1,p1,_⟩:=I.tuple ha
 obtain ⟨its2,r2,p2,_⟩:=I.tuple hb
 cases r1
 obtain ⟨⟨cls,dd,data,sl⟩,ho,hc,n,hd⟩:=id p1
 obtain ⟨⟨cls2,dd2,data2,sl2⟩,ho2,hc2,n2,hd2⟩:=id p2
 simp only at hc hd hc2 hd2
 subst hc hd hc2 hd2
 exact concat_meets ⟨_,ho,rfl⟩ ⟨_,ho2,rfl⟩ noFill_tuple_add seq_tuple_add PySem.F.slot_tuple_add PySem.F.entry_tuple_add (PySem.F.args_tuple_add_2 _ _) (tuple_addW0 a b _ _ n n2 dd dd2 sl sl2 (by simp)) ⟨ho,ho2,⟨.ref b,H,I,rfl,q⟩⟩
theorem xx (hl:xs.length + ys.length < 1000000):bF X (binaryOp .Add) (.tup xs) (.tup ys) (.tup (xs++ys)):=by
 have lim:1000000<=sizeLine:=by decide
 cases xs with
 | nil=>exact ⟨_,uF,λM v w H Q _ d1 d2 k=>by
     cases d1 with
     | tup h1 r1=>
       cases r1
       cases d2 with
       | tup h2 r2=>exact ⟨_,_,_,rfl,rfl,aO az h1,aO az h2,k _ H (ah.refl _) (.tup h2 r2)⟩⟩
 | cons x0 xs=>exact ⟨_,u4,λM v w H Q hM d1 d2 k=>by
     cases d1 with
     | @tup a1 vs _ h1 r1=>
     cases d2 with
     | @tup a2 ws _ h2 r2=>
     have l1:=r1.length
     have l2:=r2.length
     refine ⟨_,_,_,_,rfl,rfl,aO az h1,aO az h2,λz=>by subst z; simp at l1,by omega,λz=>?_,λ_ p hp=>?_⟩
     · subst z
       cases r2
       rw [List.append_nil] at k
       exact k _ H (ah.refl _) (.tup h1 r1)
     · have e:=aq hp (.tup (vs++ws))
       exact k _ _ e (.tup (SqT.of (iA hM hp)) ((r1.append r2).mono (au e λ_ z=>z)))⟩
theorem m9:fK X (.type "tuple") [.lst xs] (.d (.tup xs)):=⟨_,ju,λM vs H Q hM d q=>by
 cases d with
 | cons d r=>
   cases r
   cases d with
   | @lst a us _ h r=>
     refine ⟨_,_,rfl,.inl ⟨aA az h,λp hp=>?_⟩⟩
     have e:=aq hp (.tup us)
     exact q _ _ [] e cn (fQ (.tup (SqT.of (iA hM hp)) (r.mono (au e λ_ z=>z))))⟩
theorem mn:∀ {ns:List Int} {us:List Value},Vals (ns.map V.int) us->IntsAre us ns
 | [],_,h=>by cases h; exact .nil
 | n :: ns,_,h=>by
   cases h with
   | cons rv rs=>
     obtain ⟨t,rfl⟩:=(show ∃ t,_=Value.int n t from rv)
     exact .cons n t (mn rs)
theorem tupI {pins:List (Addr × Obj)} {s:Shared} {σ:L2.St} {H:Hp} {l:Addr} {ns:List Int} (I:Inv X pins σ H s) (h:SqT X.K H l (ns.map V.int)) (h0:ns ≠ []):Su.dN s.heap l ns:=by
 obtain ⟨its,r,pl,_⟩:=I.tuple h
 obtain ⟨⟨cls,dd,data,sl⟩,ho,hc,n,hd⟩:=pl
 simp only at hc hd
 subst hc hd
 exact ⟨its.toArray,n,dd,sl,ho,by simpa using mn r,h0⟩
theorem qh:bP X (.builtin "sorted") (λxs H Q=>∃ p l b ns ms,xs=[.ref p]/\SqL X.K H p [.ref l,.ref b]/\SqT X.K H l (ns.map V.int)/\SqT X.K H b (ms.map V.int)/\ns ≠ []/\ms ≠ []/\∀ q,H q=none->Q (.ref q) (upd H q (.lst (if HT.lexLt ms ns then [.ref b,.ref l] else [.ref l,.ref b])))):=by
 intro pins s σ H xs us Q I r q
 obtain ⟨p,l,b,ns,ms,rfl,hp,hl,hb,n0,m0,q⟩:=q
 obtain ⟨u,rfl,ru⟩:=vals1 r
 cases (show u=Value.ref _ from ru)
 obtain ⟨its,rv,pl,hz⟩:=I.list hp
 obtain rfl:its=[.ref l,.ref b]:=by
   cases rv with
   | cons r1 rv=>cases rv with
     | cons r2 rv=>
       cases rv
       cases (show _=Value.ref _ from r1)
       cases (show _=Value.ref _ from r2)
       rfl
 refine Su.uN pl.isList (tupI I hl n0) (tupI I hb m0) ?_
 obtain ⟨c,hc'⟩:=PyProof.Rows.sortedAll_at s.heap [.ref l,.ref b] (if HT.lexLt ms ns then #[Value.ref b,Value.ref l] else #[Value.ref l,Value.ref b])
 refine ⟨.ref (s.heap.objs.size + 1),upd H (s.heap.objs.size + 1) (.lst (if HT.lexLt ms ns then [.ref b,.ref l] else [.ref l,.ref b])),I.laid (t':=s.toks) (λb o z=>PyProof.Rows.sortedAll_old z) (Nat.le_succ _) (show ba X.prog X.w _ _ _ (.lst _) from ⟨?_,(if HT.lexLt ms ns then [Value.ref b,Value.ref l] else [Value.ref l,Value.ref b]),c,?_,?_⟩),rfl,q _ (I.hok.fresh (Nat.le_succ _))⟩
 · split <;> (show 2<=sizeLine; decide)
 · split <;> exact .cons rfl (.cons rfl .nil)
 · rw [hc']
   split <;> rfl
theorem vW {ns ms:List Int} (n0:ns ≠ []) (m0:ms ≠ []):fK X (.builtin "sorted") [.lst [.tup (ns.map .int),.tup (ms.map .int)]] (.o (if HT.lexLt ms ns then [.tup (ms.map .int),.tup (ns.map .int)] else [.tup (ns.map .int),.tup (ms.map .int)])):=⟨_,qh,λM vs H Q _ d q=>by
 cases d with
 | cons d r=>
   cases r
   cases d with
   | lst h r=>
     cases r with
     | cons d1 r=>cases r with
       | cons d2 r=>
         cases r
         cases d1 with
         | tup h1 r1=>
         cases d2 with
         | tup h2 r2=>
         have e1:=bV r1
         have e2:=bV r2
         subst e1 e2
         refine ⟨_,_,_,ns,ms,rfl,aA az h,aO az h1,aO az h2,n0,m0,λp hp=>?_⟩
         have d1:=Den.tup h1 r1
         have d2:=Den.tup h2 r2
         split
         · obtain ⟨z1,z2,z3⟩:=gz (K:=X.K) (M:=M) hp (ar.cons d2 (ar.cons d1 ar.nil))
           rename_i hc
           rw [if_pos hc] at q
           exact q _ _ [p] z1 z2 z3
         · obtain ⟨z1,z2,z3⟩:=gz (K:=X.K) (M:=M) hp (ar.cons d1 (ar.cons d2 ar.nil))
           rename_i hc
           rw [if_neg hc] at q
           exact q _ _ [p] z1 z2 z3⟩
end
section
variable {X:Cx} {C:Bool} {τ:List Sl} {x y z:D} {a b e:Expr} {es:List Expr} {pos p:Pos} {k:Nat} {s:Sl} {ds xs ys:List D} {N:Po} {rest:List Stmt}
theorem tT (i:Nat) {n:Str} {ap cp:Pos} (he:PE X e (dE X.K true τ (.o ys))) (hl:xs.length + ys.length < 1000000) (hr:PSs X rest (dS X.K (τ.set i (.o (xs++ys))) N)) (hi:τ[i]?=some (.o xs):=by rfl) (hN:X.N[i]?=some n:=by rfl)
   (hv:Vis X.env.scope n:=by first | exact Or.inl rfl | exact Or.inr (Or.inl rfl) | exact Or.inr (Or.inr rfl)) (hd:(n == ("__debug__" : Str))=false:=by decide) (hcd:(n == ("__classdict__" : Str))=false:=by decide)
   (hfew:((backTo cp (starEach [e] X.env)).all (λx=>!x.1) && (backToKw cp (keywordEach [] X.env)).all (λx=>x.1.isSome) && decide (([e]:List Expr).length + ([]:List Keyword).length + (if ([]:List Keyword).isEmpty then 0 else 1) < 30))=true:=by rfl)
   (hline:(ap.endLine == cp.line)=true:=by rfl) (hst:starEach [e] X.env=(false,eval e X.env) :: starEach [] X.env:=by rfl) (hpl:(backTo cp (starEach [] X.env)).any (·.1)=false:=by rfl)
   (hs:swapsWith (.Call (.Attribute (.Name n p) "extend" ap) [e] [] cp) none pos.line X.env=pure false:=by rfl) (hbase:attributeBase (.Name n p) "extend" X.env (eval (.Name n p) X.env)=eval (.Name n p) X.env:=by rfl) :
   PSs X (.Expr (.Call (.Attribute (.Name n p) "extend" ap) [e] [] cp) pos :: rest) (dS X.K τ N):=
 bp (M:=(·=τ.set i (.o (xs++ys)))) (psW (eA (l6 PySem.F.plainAttrs_list PySem.F.slot_list_extend PySem.F.type_list_extend qI (bw hN hv hd hcd) (br he cu hst) hbase hfew hline hst hpl) hs) λD σ H ⟨A,H₀,B,S,Me⟩=>by
   obtain ⟨l,vs,hb,e1,e2,d⟩:=S.sl i _ hi
   refine ⟨_,slot_of e1,.inl ⟨rfl,_,SqL.of e2⟩,A,H₀,B,S,λv H1 bs e3 fr ⟨l2,ws,eb,ev,h2,d2⟩=>?_⟩
   cases ev
   have lim:1000000<=sizeLine:=by decide
   refine ⟨l,l2,vs,ws,rfl,rfl,e3 _ _ e2,h2,by rw [d.length,d2.length]; omega,?_⟩
   exact Me.nx _ _ _ _ rfl ((S.mono e3).put hi hb ((d.mono (au e3 λ_ z=>z)).append (d2.mono (au (ah.refl _) λ_ z=>.inl z))))) λ_ e=>e ▸ hr
theorem oS {K:PySem.W.Frag} {H:Hp}:∀ {vs:List V} {ds:List D},ar K H vs ds->ar K H vs.reverse ds.reverse
 | _,_,.nil=>.nil
 | _,_,.cons h r=>by rw [List.reverse_cons,List.reverse_cons]; exact (oS r).append (.cons h .nil)
theorem xv (i:Nat) {n:Str} {ap cp:Pos} (hr:PSs X rest (dS X.K (τ.set i (.o xs.reverse)) N)) (hi:τ[i]?=some (.o xs):=by rfl) (hN:X.N[i]?=some n:=by rfl)
   (hv:Vis X.env.scope n:=by first | exact Or.inl rfl | exact Or.inr (Or.inl rfl) | exact Or.inr (Or.inr rfl)) (hd:(n == ("__debug__" : Str))=false:=by decide) (hcd:(n == ("__classdict__" : Str))=false:=by decide)
   (hline:(ap.endLine == cp.line)=true:=by rfl)
   (hs:swapsWith (.Call (.Attribute (.Name n p) "reverse" ap) [] [] cp) none pos.line X.env=pure false:=by rfl) (hbase:attributeBase (.Name n p) "reverse" X.env (eval (.Name n p) X.env)=eval (.Name n p) X.env:=by rfl) :
   PSs X (.Expr (.Call (.Attribute (.Name n p) "reverse" ap) [] [] cp) pos :: rest) (dS X.K τ N):=
 bp (M:=(·=τ.set i (.o xs.reverse))) (psW (eA (vT PySem.F.plainAttrs_list PySem.F.slot_list_reverse PySem.F.type_list_reverse n8 (bw hN hv hd hcd) hbase hline) hs) λD σ H ⟨A,H₀,B,S,Me⟩=>by
   obtain ⟨l,vs,hb,e1,e2,d⟩:=S.sl i _ hi
   exact ⟨_,slot_of e1,.inl ⟨rfl,_,SqL.of e2⟩,l,vs,rfl,rfl,e2,Me.nx _ _ _ _ rfl (S.put hi hb (oS d))⟩) λ_ e=>e ▸ hr
end
end Hy
namespace Hy
open PySem PySem.Spec PyProof.Rows L2
open Ev (D Den ar aq aO aA)
section
variable {X:Cx}
end
theorem aB.ins {K:PySem.W.Frag} {G H:Hp} {v:V} {x:D} (h:Den K G v x):∀ {vs:List V} {bs:List Addr} {xs:List Nd} (k:Nat),k<=xs.length->aB K G H vs bs xs->aB K G H (vs.insertIdx k v) bs (xs.insertIdx k (.d x))
 | _,_,_,0,_,r=>aB.cons (b1:=[]) (.d h) r
 | _,_,_,k + 1,hk,.nil=>absurd hk (Nat.not_succ_le_zero _)
 | _,_,_,k + 1,hk,.cons h1 r=>by
   rw [List.insertIdx_succ_cons,List.insertIdx_succ_cons]
   exact .cons h1 (aB.ins h k (by simpa using hk) r)
section
variable {X:Cx} {C:Bool} {τ:List Sl} {x y z:D} {a b e f o ix:Expr} {es:List Expr} {pos p q:Pos} {k:Nat} {s:Sl} {N:Po} {rest:List Stmt} {i:Nat} {t c:Nd} {pt:List Nat} {xs:List Nd} {j:Int} {m:Nat}
end
end Hy
namespace Hy
open PySem PySem.Spec PyProof.Rows L2
open Ev (D Den ar aq)
noncomputable def v8:List Str:=["NoFraction","NoTable","NoChoice","NoSquare","NoFit","NoUndoing","NoLadder","TooMany","NoPaper","NoRow","NoStairs","NoNumber","NoCorner","NoName","NoStep","NoWeight","NoDeed","NoText","NoWord"]
noncomputable def wordOf (c:Nat):Str:=v8.getD c "else"
noncomputable def spX (K:PySem.W.Frag) (cl:Nat->Addr) (Φ:List D->Nat->Prop):Sp:=λvs H _ E=>∃ A ds c,(∀ b,A b->∃ o,H b=some o)/\ar K (hd H A) vs ds/\Φ ds c/\∀ H',ah H H'->E (.ref (cl c)) none H'
noncomputable def wK (P:Program) (w:World) (K:PySem.W.Frag) (mg:Str->Option Value) (base:Heap) (cl:Nat->Addr) (k:Nat) (n:Str) (Φ:List D->Nat->Prop):Prop:=
 ∃ f fd ps,aQ P w K mg base (Hx.CXe P w cl) k f fd ps (spX K cl Φ)/\mg n=some (.ref f)/\PySem.W.keepIn K (.ref f)=true/\Binds K fd ps []
theorem wK.mono {P:Program} {w:World} {K:PySem.W.Frag} {mg:Str->Option Value} {base:Heap} {cl:Nat->Addr} {j k:Nat} {n:Str} {Φ:List D->Nat->Prop} (c:wK P w K mg base cl j n Φ) (h:j<=k):wK P w K mg base cl k n Φ:=
 let ⟨f,fd,ps,F,r⟩:=c; ⟨f,fd,ps,F.mono h,r⟩
section
variable {X:Cx} {C:Bool} {τ:List Sl} {x y z:D} {a b e:Expr} {es:List Expr} {pos p np cpos:Pos} {k c:Nat} {s:Sl} {ds:List D} {N:Po} {rest body:List Stmt} {cl:Nat->Addr} {Ex:Nat->Hp->Prop} {Et:Hp->Prop}
end
section
variable {P:Program} {w:World} {K:PySem.W.Frag} {mg:Str->Option Value} {base:Heap} {cl:Nat->Addr}
end
structure yT (k:Nat) (A:Around):Prop where
 dp:A.depth + 3 * k + 5 < recursionLimit
 un:A.units + 16 * k + 200 < cLine
noncomputable def mY (P:Program) (w:World) (K:PySem.W.Frag) (mg:Str->Option Value) (base:Heap) (cl:Nat->Addr) (k:Nat) (fw:Addr) (c:Nat):Prop:=
 ∀ (A:Around) (outer:List PySem.Env) (s:Shared) (H:Hp) (a:Addr) (o:Obj) (Q:VK),A.handled=some (.ref a)->H a=some (Hx.zu o)->Hx.ze o (cl c)->yT k A->tP P w K mg base A outer s H ->
   (∀ H',ah H H'->Q (.str (wordOf c)) H')->codeAny (model P w) A (.call (.ref fw) ⟨[.ref a],[]⟩) (CR CX0 outer P w H s Q E0) s
theorem mY.mono {P:Program} {w:World} {K:PySem.W.Frag} {mg:Str->Option Value} {base:Heap} {cl:Nat->Addr} {j k:Nat} {f:Addr} {c:Nat} (h:mY P w K mg base cl j f c) (q:j<=k):mY P w K mg base cl k f c:=λA outer s H a o Q h1 h2 h3 hr=>h A outer s H a o Q h1 h2 h3 ⟨by have:=hr.dp; omega,by have:=hr.un; omega⟩
section
variable {X:Cx} {C:Bool} {τ:List Sl} {e:Expr} {k c i:Nat} {N:Po} {rest body:List Stmt} {cl:Nat->Addr} {n:Str} {fw S:Addr} {p p' q psm pr ph pos:Pos}
end
section
variable {X:Cx} {C:Bool} {τ:List Sl} {x y z:D} {a b e c0 tg it elt:Expr} {es ifs:List Expr} {pos p q q':Pos} {k c:Nat} {cl:Nat->Addr} {xs:List D} {scope:Scope}
end
section
variable {P:Program} {w:World} {K:PySem.W.Frag} {mg:Str->Option Value} {base:Heap} {cl:Nat->Addr}
end
end Hy
namespace Hy
open PySem PySem.Spec PyProof.Rows L2
open Ev (D Den ar bI eQ)
section
variable {X:Cx} {C:Bool} {τ:List Sl} {a e tg it elt:Expr} {es ifs:List Expr} {pos p:Pos} {Et:Hp->Prop} {scope:Scope}
end
end Hy
namespace Hy
open PySem PySem.Spec PyProof.Rows L2
open Ev (D Den ar)
section
variable {P:Program} {w:World} {K:PySem.W.Frag} {h:Heap} {mg:Str->Option Value} {base:Heap} {x:Str} {st:Stmt} {f:Addr} {ps:List Str} {k:Nat} {Φ:List D->Nat->Prop} {cl:Nat->Addr}
end
end Hy
namespace Hy
open PySem PySem.Spec PyProof.Rows L2
open Ev (D Den ar aO)
section
variable {X:Cx}
end
end Hy
namespace L2
open PySem PySem.Spec PyProof.Rows
section
variable {κ:Type} [DecidableEq κ]
noncomputable def k8 (kvs:List (κ × V)) (k:κ):Option V:=(kvs.find? λkv=>decide (kv.1=k)).map (·.2)
noncomputable def putK (kvs:List (κ × V)) (k:κ) (v:V):List (κ × V):=
 if (kvs.any λkv=>decide (kv.1=k))=true then kvs.map (λkv=>if kv.1=k then (kv.1,v) else kv) else kvs++[(k,v)]
theorem lM {p:κ × V} {r:List (κ × V)} {k:κ} (e:p.1=k):k8 (p :: r) k=some p.2:=by simp [k8,List.find?_cons,e]
theorem mS {p:κ × V} {r:List (κ × V)} {k:κ} (e:¬ p.1=k):k8 (p :: r) k=k8 r k:=by simp [k8,List.find?_cons,e]
theorem mw (k:κ):∀ kvs:List (κ × V),(kvs.any λkv=>decide (kv.1=k))=(k8 kvs k).isSome
 | []=>rfl
 | p :: r=>by
   rw [List.any_cons]
   by_cases e:p.1=k
   · simp only [lM e,decide_eq_true e,Bool.true_or,Option.isSome_some]
   · rw [mS e,decide_eq_false e,Bool.false_or]; exact mw k r
theorem m4.qJ {o:Option V} {u:Option Value} (r:m4 o u):o.isSome=u.isSome:=by
 cases o with
 | none=>cases u with
   | none=>rfl
   | some _=>exact (show False from r).elim
 | some _=>cases u with
   | none=>exact (show False from r).elim
   | some _=>rfl
theorem KV.any {kvs:List (κ × V)} {vs:List (κ × Value)} (r:KV kvs vs) (k:κ):(kvs.any λkv=>decide (kv.1=k))=vs.any λkv=>decide (kv.1=k):=by
 unfold KV at r
 induction r with
 | nil=>rfl
 | cons h t ih=>rw [List.any_cons,List.any_cons,ih,h.1]
theorem KV.wO {kvs:List (κ × V)} {vs:List (κ × Value)} (r:KV kvs vs) (k:κ) {y:V} {u:Value} (ry:RelV y u) :
   KV (kvs.map λkv=>if kv.1=k then (kv.1,y) else kv) (vs.map λkv=>if kv.1=k then (kv.1,u) else kv):=by
 unfold KV at r ⊢
 induction r with
 | nil=>exact .nil
 | @cons p q ps qs h t ih=>
   rw [List.map_cons,List.map_cons]
   refine .cons ?_ ih
   obtain ⟨h1,h2⟩:=h
   by_cases e:p.1=k
   · rw [if_pos e,if_pos (h1.symm.trans e)]; exact ⟨h1,ry⟩
   · rw [if_neg e,if_neg (λz=>e (h1.trans z))]; exact ⟨h1,h2⟩
theorem KV.put {kvs:List (κ × V)} {vs:List (κ × Value)} (r:KV kvs vs) (k:κ) {y:V} {u:Value} (ry:RelV y u):KV (putK kvs k y) (stored vs k u):=by
 unfold putK stored
 rw [r.any k]
 by_cases e:(vs.any λkv=>decide (kv.1=k))=true
 · rw [if_pos e,if_pos e]; exact r.wO k ry
 · rw [if_neg e,if_neg e]; exact Paired.snoc r ⟨rfl,ry⟩
end
noncomputable abbrev KT (H:Hp):List (List Key × V)->List (List Key × Addr × Value)->Prop:=Paired λp q=>p.1=q.1/\H q.2.1=some (.tup (p.1.map kV))/\RelV p.2 q.2.2
theorem KT.val {H:Hp} {kvs:List (List Key × V)} {xs:List (List Key × Addr × Value)} (r:KT H kvs xs) (k:List Key):m4 (k8 kvs k) ((atKey xs k).map (·.2)):=by
 induction r with
 | nil=>exact True.intro
 | @cons p q ps qs h t ih=>
   obtain ⟨h1,_,h2⟩:=h
   by_cases e:p.1=k
   · have e':q.1=k:=h1.symm.trans e
     have b:atKey (q :: qs) k=some q.2:=by simp [atKey,List.find?_cons,e']
     rw [lM e,b]; exact h2
   · have e':¬ q.1=k:=λz=>e (h1.trans z)
     have b:atKey (q :: qs) k=atKey qs k:=by simp [atKey,List.find?_cons,e']
     rw [mS e,b]; exact ih
theorem KT.wO {H:Hp} {kvs:List (List Key × V)} {xs:List (List Key × Addr × Value)} (r:KT H kvs xs) (k:List Key) {y:V} {u:Value} (ry:RelV y u) :
   KT H (kvs.map λkv=>if kv.1=k then (kv.1,y) else kv) (xs.map (putAt k u)):=by
 induction r with
 | nil=>exact .nil
 | @cons p q ps qs h t ih=>
   rw [List.map_cons,List.map_cons]
   refine .cons ?_ ih
   obtain ⟨h1,h2,h3⟩:=h
   unfold putAt
   by_cases e:p.1=k
   · rw [if_pos e,if_pos (h1.symm.trans e)]; exact ⟨h1,h2,ry⟩
   · rw [if_neg e,if_neg (λz=>e (h1.trans z))]; exact ⟨h1,h2,h3⟩
theorem KT.put {H:Hp} {kvs:List (List Key × V)} {xs:List (List Key × Addr × Value)} (r:KT H kvs xs) (k:List Key) {b:Addr} {y:V} {u:Value} (hb:H b=some (.tup (k.map kV))) (ry:RelV y u) :
   KT H (putK kvs k y) (storedH xs k b u):=by
 have e:(kvs.any λkv=>decide (kv.1=k))=(atKey xs k).isSome:=by
   rw [mw,(r.val k).qJ,Option.isSome_map]
 unfold putK storedH
 rw [e]
 by_cases q:(atKey xs k).isSome=true
 · rw [if_pos q,if_pos q]; exact r.wO k ry
 · rw [if_neg q,if_neg q]; exact Paired.snoc r ⟨rfl,hb,ry⟩
theorem KT.keeps {H H':Hp} {kvs:List (List Key × V)} {xs:List (List Key × Addr × Value)} (r:KT H kvs xs) (ht:∀ b ys,H b=some (.tup ys)->H' b=some (.tup ys)):KT H' kvs xs:=
 Paired.wq r λ_ _ z=>⟨z.1,ht _ _ z.2.1,z.2.2⟩
section
variable {P:Program} {w:World} {H:Hp} {h:Heap} {a:Addr}
end
noncomputable def xM (H:Hp) (a:Addr) (y:V) (r:Option V):Prop:=∃ kvs k,Rd H a (.dK kvs)/\y=kV k/\r=k8 kvs k
noncomputable def xP (H:Hp) (a:Addr) (y v:V) (H':Hp):Prop:=∃ kvs k,H a=some (.dK kvs)/\y=kV k/\kvs.length < sizeLine/\H'=upd H a (.dK (putK kvs k v))
theorem xM.k {H:Hp} {a:Addr} {kvs:List (Key × V)} {k:Key} (e:H a=some (.dK kvs)):xM H a (kV k) (k8 kvs k):=⟨kvs,k,.inl e,rfl,rfl⟩
theorem xP.k {H:Hp} {a:Addr} {kvs:List (Key × V)} {k:Key} {v:V} (e:H a=some (.dK kvs)) (hl:kvs.length < sizeLine):xP H a (kV k) v (upd H a (.dK (putK kvs k v))):=⟨kvs,k,e,rfl,hl,rfl⟩
section
variable {X:Cx} {pins:List (Addr × Obj)} {σ:St} {H:Hp} {s:Shared} {a:Addr} {y v:V} {u r:Value} {o:Option V} {A:Around} {E:Value->Shared->Prop}
theorem Inv.big (I:Inv X pins σ H s):sysModules < s.heap.objs.size:=by
 have h:mainGlobals < s.heap.objs.size:=(I.mod.glob.keeps I.bk).lt
 exact Nat.lt_trans (by decide) h
theorem oQ {h':Heap} {t':Nat} {ob:HO} (I:Inv X pins σ H s) (mu:Mut (H a)) (hs:Heap.SameBut a s.heap h') (he:∃ q,h'.get? a=some q) (new:ba X.prog X.w (upd H a ob) h' a ob) :
   Inv X pins σ (upd H a ob) { s with heap:=h',toks:=t' }:=
 I.write (x:=a) (e:=a) mu (.inl rfl) (λb q hb z=>(hs.2 b hb).trans z) he new
end
section
variable {X:Cx} {pins:List (Addr × Obj)} {σ:St} {H:Hp} {s:Shared} {a:Addr} {kvs:List (Key × V)} {k:Key} {u:Value} {A:Around} {E:Value->Shared->Prop}
end
section
variable {X:Cx} {o i e value:Expr} {pos pos' tpos:Pos} {td ty tv:TE}
end
section
variable {X:Cx} {pos:Pos}
end
structure M2 (X:Cx) (o:Expr) (m:Str) (apos:Pos) (e f:Expr) (cpos:Pos):Prop where
 base:attributeBase o m X.env (eval o X.env)=eval o X.env
 few:((backTo cpos (starEach [e,f] X.env)).all (λx=>!x.1) && (backToKw cpos (keywordEach [] X.env)).all (λx=>x.1.isSome)
   && decide (([e,f]:List Expr).length + ([]:List Keyword).length + (if ([]:List Keyword).isEmpty then 0 else 1) < 30))=true
 line:(apos.endLine == cpos.line)=true
 trees:backTo cpos (starEach [e,f] X.env)=[(false,eval e X.env),(false,eval f X.env)]
section
variable {X:Cx} {pins:List (Addr × Obj)} {σ:St} {H:Hp} {s:Shared} {a:Addr} {y d:V} {u r:Value} {o:Option V} {A:Around} {E:Value->Shared->Prop}
end
section
variable {X:Cx} {o e f:Expr} {apos cpos:Pos} {td ty tx:TE}
end
end L2
namespace L2
open PySem PySem.Spec PyProof.Rows PySem.SeqAt
section
variable {P:Program} {w:World} {A:Around} {E:Value->Shared->Prop} {s:Shared}
noncomputable def HK (P:Program) (w:World) (A:Around) (h:Heap) (v:Value) (x:Int) (d:Nat):Prop:=
 ∀ (s:Shared) (E:Value->Shared->Prop) (Q:Int->Shared->Prop),s.heap=h->Q x { s with toks:=s.toks + d }->wpAny (model P w) A (pyHash v) Q E s
end
noncomputable abbrev yV:=Int × Int × Bool
noncomputable def isN (h:Heap) (k:yV) (a:Addr):Prop:=∃ t c t',IsTup h a #[.int k.1 t,.ref c]/\IsTup h c #[.int k.2.1 t',.bool k.2.2]
theorem gY {h:Heap} {a:Addr} {x y:Array Value} (p:IsTup h a x) (q:IsTup h a y):x=y:=by
 obtain ⟨o,ho,_,n,hd⟩:=p
 obtain ⟨o',ho',_,n',hd'⟩:=q
 rw [ho] at ho'; cases ho'
 rw [hd] at hd'; cases hd'; rfl
theorem isN.inj {h:Heap} {a:Addr} {x y:yV} (p:isN h x a) (q:isN h y a):x=y:=by
 obtain ⟨t,c,t',h1,h2⟩:=p
 obtain ⟨u,d,u',g1,g2⟩:=q
 have e:=gY h1 g1
 simp only [Array.mk.injEq,List.cons.injEq,Value.int.injEq,Value.ref.injEq,and_true] at e
 obtain ⟨⟨e1,_⟩,rfl⟩:=e
 have e:=gY h2 g2
 simp only [Array.mk.injEq,List.cons.injEq,Value.int.injEq,Value.bool.injEq,and_true] at e
 obtain ⟨⟨e2,_⟩,e3⟩:=e
 obtain ⟨_,_,_⟩:=x
 obtain ⟨_,_,_⟩:=y
 simp_all
theorem uU {h h':Heap} {a d:Addr} {x:Array Value} {o:Obj} {es ep} (p:IsTup h a x) (ho:h.get? d=some o) (hd:o.data=.dict es ep) (hs:Heap.SameBut d h h'):IsTup h' a x:=by
 obtain ⟨o',ho',hc,n,hd'⟩:=p
 have hne:a ≠ d:=by
   rintro rfl
   rw [ho] at ho'; cases ho'
   rw [hd] at hd'; exact nomatch hd'
 exact ⟨o',(hs.2 a hne).trans ho',hc,n,hd'⟩
structure IK (P:Program) (w:World) (K:Type) [DecidableEq K] where
 is:Heap->K->Value->Prop
 hash:K->Int
 draws:K->Nat
 dep:Nat
 inj:∀ {h:Heap} {v:Value} {x y:K},is h x v->is h y v->x=y
 keeps:∀ {h h':Heap} {k:K} {v:Value} {d:Addr} {o:Obj} {es ep},is h k v->h.get? d=some o->o.data=.dict es ep->Heap.SameBut d h h'->is h' k v
 hk:∀ {A:Around} {h:Heap} {k:K} {v:Value},is h k v->A.units + dep < cLine->HK P w A h v (hash k) (draws k)
 eq:∀ {A:Around} {s:Shared} {x y:K} {u v:Value},is s.heap x u->is s.heap y v->A.units + dep < cLine->EqAt A s u v (decide (x=y))
 quiet:∀ {s:Shared} {k:K} {v:Value} {n:Nat},dep < n->is s.heap k v->∀ A E Q,Q true s->wpAny (model P w) A (eqIsQuiet n v) Q E s
section
variable {P:Program} {w:World}
noncomputable def xN:IK P w Int where
 is:=λ_ k v=>∃ t,v=.int k t
 hash:=hashInt
 draws:=λ_=>1
 dep:=0
 inj:=λ⟨_,e⟩ ⟨_,g⟩=>by rw [e] at g; cases g; rfl
 keeps:=λh _ _ _=>h
 hk:=λ⟨_,e⟩ _ s E Q _ hq=>by rw [e]; exact wpAny_pyHash_int hq
 eq:=λ{A s x y u v} ⟨_,e⟩ ⟨_,g⟩ _=>by
   rw [e,g]
   have:decide (x=y)=(x == y):=by by_cases h:x=y <;> simp [h]
   rw [this]
   exact .int_int _ _ _ _
 quiet:=λ{s k v n} hn ⟨_,e⟩ A E Q q=>by
   obtain ⟨m,rfl⟩:∃ m,n=m + 1:=⟨n - 1,by omega⟩
   rw [e]
   exact wpAny_pure q
variable {K K':Type} [DecidableEq K] [DecidableEq K']
noncomputable def kindOf (a:IK P w K) (hd:a.dep<=7):HeapKind P w K where
 is:=λh k p=>a.is h k (.ref p)
 hash:=a.hash
 draws:=a.draws
 room:=λA=>A.units + 8 < cLine
 inj:=a.inj
 keeps:=a.keeps
 pyHash:=λ{A E s k p Q} hu hk h=>a.hk hk (by omega) s E Q rfl h
 eqBool:=λ{A E s x y p p' Q} hu hx hy h=>a.eq hx hy (by omega) _ _ _ _ h
 quiet:=λ{A E s k p Q} hk h=>a.quiet (by omega) hk A E Q h
end
inductive cG {K:Type} (R:K->Value->Prop):List K->List Value->Prop where
 | nil:cG R [] []
 | cons {x:K} {v:Value} {xs:List K} {vs:List Value} (h:R x v) (r:cG R xs vs):cG R (x :: xs) (v :: vs)
section
variable {K:Type}
theorem cG.mono {R S:K->Value->Prop} (f:∀ x v,R x v->S x v):∀ {xs:List K} {vs:List Value},cG R xs vs->cG S xs vs
 | _,_,.nil=>.nil
 | _,_,.cons h r=>.cons (f _ _ h) (r.mono f)
theorem cG.inj {R:K->Value->Prop} (f:∀ x y v,R x v->R y v->x=y):∀ {xs ys:List K} {vs:List Value},cG R xs vs->cG R ys vs->xs=ys
 | _,_,_,.nil,.nil=>rfl
 | _,_,_,.cons h r,.cons g q=>by rw [f _ _ _ h g,r.inj f q]
theorem cG.length {R:K->Value->Prop}:∀ {xs:List K} {vs:List Value},cG R xs vs->xs.length=vs.length
 | _,_,.nil=>rfl
 | _,_,.cons _ r=>congrArg (· + 1) r.length
theorem cG.at {R:K->Value->Prop}:∀ {xs:List K} {vs:List Value},cG R xs vs->∀ (j:Nat) (h1:j < xs.length) (h2:j < vs.length),R xs[j] vs[j]
 | _,_,.nil,_,h1,_=>absurd h1 (Nat.not_lt_zero _)
 | _,_,.cons h _,0,_,_=>h
 | _,_,.cons _ r,j + 1,h1,h2=>r.at j (Nat.lt_of_succ_lt_succ h1) (Nat.lt_of_succ_lt_succ h2)
theorem cG.mem {R:K->Value->Prop}:∀ {xs:List K} {vs:List Value},cG R xs vs->∀ v ∈ vs,∃ x,R x v
 | _,_,.nil,_,h=>nomatch h
 | _,_,.cons h r,v,hv=>(List.mem_cons.mp hv).elim (λz=>⟨_,z ▸ h⟩) (r.mem v)
theorem all_eq [DecidableEq K] {xs ys:List K}:((List.range (min xs.length ys.length)).all (λj=>decide (xs[j]?=ys[j]?)) && xs.length == ys.length)=decide (xs=ys):=by
 rw [Bool.eq_iff_iff]
 simp only [Bool.and_eq_true,List.all_eq_true,List.mem_range,decide_eq_true_eq,beq_iff_eq]
 constructor
 · rintro ⟨h1,h2⟩
   refine List.ext_getElem? λj=>?_
   by_cases hj:j < xs.length
   · exact h1 j (by omega)
   · rw [List.getElem?_eq_none (by omega),List.getElem?_eq_none (by omega)]
 · rintro rfl
   exact ⟨λ_ _=>rfl,rfl⟩
end
section
variable {P:Program} {w:World} {K:Type} [DecidableEq K]
theorem qv {a:IK P w K} {A:Around} {E:Value->Shared->Prop} {s:Shared} {p:Addr} {its:List Value} {xs:List K} {Q:Int->Shared->Prop} (hu:A.units + (a.dep + 1) < cLine) (hk:IsTup s.heap p its.toArray) (hs:cG (a.is s.heap) xs its)
   (h:Q (reduceHash (Builtin.Tuple.tupleHashOf (xs.map a.hash))) { s with toks:=s.toks + ((xs.map a.draws).sum + 1) }):wpAny (model P w) A (pyHash (.ref p)) Q E s:=by
 obtain ⟨o,ho,hc,k,hd⟩:=hk
 have hT:s.TypeIs (.ref p) "tuple":=⟨o,ho,hc⟩
 unfold pyHash
 refine wpAny_bind (wpAny_cRoomFor_or (.inr (by omega)) ?_)
 refine wpAny_bind (wpAny_specialOf hT F.slot_tuple_hash.lookup ?_)
 show wpAny _ _ (if (some (Value.builtin "tuple.__hash__") == some Value.none)=true then _ else _) Q E s
 rw [if_neg (by rw [beq_builtin_none]; exact Bool.false_ne_true)]
 refine wpAny_bind (wpAny_specialOf hT F.slot_tuple_hash.lookup ?_)
 show wpAny _ _ (callSpecialIfBoundUnlessNone? (.ref p) "__hash__" _ >>= _) Q E s
 refine wpAny_bind (wpAny_callSpecialIfBoundUnlessNone?_slot hT F.slot_tuple_hash (wpAny_call_entry F.slot_tuple_hash hT F.entry_tuple_hash ?_ (F.args_tuple_hash_1 _)))
 show wpAny _ _ (Builtin.Tuple.tupleItemsOf (.ref p) >>= _) _ _ s
 refine wpAny_bind (wpAny_tupleItemsOf ho hd ?_)
 refine wpAny_bind ?_
 rw [<- Array.forIn_toList]
 refine wpAny_forIn_list _
   (λrest (b:Array Int) s'=>∃ (ks:List K) (n:Nat),cG (a.is s.heap) ks rest/\b.toList++ks.map a.hash=xs.map a.hash/\n + (ks.map a.draws).sum=(xs.map a.draws).sum/\s'={ s with toks:=s.toks + n })
   _ ?_ ?_ _ _ ⟨xs,0,hs,rfl,by omega,rfl⟩
 · rintro z rest b s' ⟨ks,n,hr,e1,e2,rfl⟩
   cases hr with
   | @cons x _ ks' _ hx hr=>
     refine wpAny_bind (a.hk hx (show A.units + 1 + a.dep < cLine by omega) _ _ _ rfl ?_)
     refine wpAny_pure ⟨ks',n + a.draws x,hr,?_,?_,by simp [Nat.add_assoc]⟩
     · simpa using e1
     · rw [List.map_cons,List.sum_cons] at e2
       omega
 · rintro b s' ⟨ks,n,hr,e1,e2,rfl⟩
   cases hr
   rw [List.map_nil,List.append_nil] at e1
   rw [List.map_nil,List.sum_nil,Nat.add_zero] at e2
   subst e2
   show wpAny _ _ (retInt (Builtin.Tuple.tupleHashOf b.toList)) _ _ _
   rw [e1]
   refine wpAny_ret_mkInt ?_
   show wpAny _ _ (if (decide (-(2:Int) ^ 63<=Builtin.Tuple.tupleHashOf (xs.map a.hash)) && decide (Builtin.Tuple.tupleHashOf (xs.map a.hash) < 2 ^ 63))=true then _ else _) Q E _
   unfold reduceHash at h
   by_cases hr:(decide (-(2:Int) ^ 63<=Builtin.Tuple.tupleHashOf (xs.map a.hash)) && decide (Builtin.Tuple.tupleHashOf (xs.map a.hash) < 2 ^ 63))=true
   · rw [if_pos hr]
     rw [if_pos hr] at h
     exact wpAny_pure (by simpa [Nat.add_assoc] using h)
   · rw [if_neg hr]
     rw [if_neg hr] at h
     exact wpAny_bind (wpAny_rule (wpAny_pure (by simpa [Nat.add_assoc] using h)))
theorem nK {A:Around} {E:Value->Shared->Prop} {s:Shared} {p:Addr} {its:List Value} {n:Nat} {Q:Bool->Shared->Prop} (hk:IsTup s.heap p its.toArray) (h1:∀ z ∈ its,∀ A E Q,Q true s->wpAny (model P w) A (eqIsQuiet n z) Q E s) (h:Q true s) :
   wpAny (model P w) A (eqIsQuiet (n + 1) (.ref p)) Q E s:=by
 obtain ⟨o,ho,hc,k,hd⟩:=hk
 have hT:s.TypeIs (.ref p) "tuple":=⟨o,ho,hc⟩
 unfold eqIsQuiet
 refine wpAny_bind (wpAny_specialOf hT F.slot_tuple_eq.lookup ?_)
 show wpAny _ _ (isInstance (.ref p) (.type "tuple") >>= _) _ _ s
 refine wpAny_bind (wpAny_isInstance hT isSubtype_tuple_tuple ?_)
 simp only [Bool.not_true,Bool.false_eq_true,if_false]
 refine wpAny_bind (wpAny_seqItems ho hd ?_)
 refine wpAny_bind ?_
 show wpAny _ _ (forIn its.toArray _ _) _ _ s
 rw [<- Array.forIn_toList]
 refine wpAny_forIn_list _ (λrest r s'=>r.1=none/\s'=s/\∀ z ∈ rest,z ∈ its) _ ?_ ?_ _ _ ⟨rfl,rfl,λz hz=>by simpa using hz⟩
 · rintro z rest r s' ⟨hr,rfl,hall⟩
   refine wpAny_bind (h1 z (hall z List.mem_cons_self) _ _ _ ?_)
   simp only [Bool.not_true,Bool.false_eq_true,if_false]
   exact wpAny_pure ⟨rfl,rfl,λx hx=>hall x (List.mem_cons_of_mem _ hx)⟩
 · rintro ⟨r1,r2⟩ s' ⟨hr,rfl,_⟩
   simp only at hr
   subst hr
   exact wpAny_pure h
noncomputable def w8 (a:IK P w K):IK P w (List K) where
 is:=λh ks v=>∃ p its,v=.ref p/\IsTup h p its.toArray/\cG (a.is h) ks its
 hash:=λks=>reduceHash (Builtin.Tuple.tupleHashOf (ks.map a.hash))
 draws:=λks=>(ks.map a.draws).sum + 1
 dep:=a.dep + 1
 inj:=λ{h v x y} ⟨p,its,e,t,r⟩ ⟨p',its',e',t',r'⟩=>by
   rw [e] at e'
   cases e'
   have q:its=its':=congrArg Array.toList (gY t t')
   subst q
   exact cG.inj (R:=a.is h) (λ_ _ _ z1 z2=>a.inj z1 z2) r r'
 keeps:=λ⟨p,its,e,t,r⟩ ho hd hs=>⟨p,its,e,uU t ho hd hs,r.mono λ_ _ z=>a.keeps z ho hd hs⟩
 hk:=λ{A h k v} ⟨p,its,e,t,r⟩ hu s E Q eh hq=>by
   rw [e]
   subst eh
   exact qv hu t r hq
 eq:=λ{A s x y u v} hx hy hu=>by
   obtain ⟨p,its,e,t,r⟩:=id hx
   obtain ⟨p',its',e',t',r'⟩:=id hy
   rw [e,e']
   by_cases z:p=p'
   · subst z
     have q:its=its':=congrArg Array.toList (gY t t')
     subst q
     rw [decide_eq_true (cG.inj (R:=a.is s.heap) (λ_ _ _ z1 z2=>a.inj z1 z2) r r')]
     exact .same _
   · have:=EqAt.of_refs z (RcAt.tuples (e:=λj=>decide (x[j]?=y[j]?)) t t' (show A.units < cLine by omega) λj j1 j2=>by
       have l1:j < x.length:=by rw [r.length]; simpa using j1
       have l2:j < y.length:=by rw [r'.length]; simpa using j2
       rw [List.getElem?_eq_getElem l1,List.getElem?_eq_getElem l2]
       have:=a.eq (A:=A.in1) (r.at j l1 (by simpa using j1)) (r'.at j l2 (by simpa using j2)) (show A.units + 1 + a.dep < cLine by omega)
       simpa using this)
     have el:(its.toArray.size,its'.toArray.size)=(x.length,y.length):=by rw [r.length,r'.length]; simp
     have e1:its.toArray.size=x.length:=congrArg Prod.fst el
     have e2:its'.toArray.size=y.length:=congrArg Prod.snd el
     rw [e1,e2,all_eq] at this
     exact this
 quiet:=λ{s k v n} hn ⟨p,its,e,t,r⟩ A E Q q=>by
   obtain ⟨m,rfl⟩:∃ m,n=m + 1:=⟨n - 1,by omega⟩
   rw [e]
   refine nK t (λz hz=>?_) q
   obtain ⟨x,hx⟩:=r.mem z hz
   exact a.quiet (by omega) hx
end
end L2
namespace Ev
open PySem PySem.Spec PyProof.Rows L2
structure KD (K:Type) [DecidableEq K] where
 ik:∀ (P:Program) (w:World),IK P w K
 dep:Nat
 dep_ok:∀ P w,(ik P w).dep=dep
 toD:K->D
 den:∀ {X:Cx} {pins:List (Addr × Obj)} {σ:L2.St} {H:Hp} {s:Shared} {v:V} {u:Value} {k:K},Inv X pins σ H s->Den X.K H v (toD k)->RelV v u->(ik X.prog X.w).is s.heap k u
noncomputable def dr:KD Int where
 ik:=λ_ _=>xN
 dep:=0
 dep_ok:=λ_ _=>rfl
 toD:=.int
 den:=λ_ d r=>by cases d; exact r
section
variable {K K':Type} [DecidableEq K] [DecidableEq K']
theorem mD (a:KD K) {X:Cx} {pins:List (Addr × Obj)} {σ:L2.St} {H:Hp} {s:Shared} (I:Inv X pins σ H s):∀ {ks:List K} {vs:List V} {us:List Value},ar X.K H vs (ks.map a.toD)->Vals vs us->cG ((a.ik X.prog X.w).is s.heap) ks us
 | [],_,_,.nil,.nil=>.nil
 | _ :: _,_,_,.cons d r,.cons q t=>.cons (a.den I d q) (mD a I r t)
noncomputable def bN (a:KD K):KD (List K) where
 ik:=λP w=>w8 (a.ik P w)
 dep:=a.dep + 1
 dep_ok:=λP w=>by show (a.ik P w).dep + 1=_; rw [a.dep_ok]
 toD:=λks=>.tup (ks.map a.toD)
 den:=λ{X pins σ H s v u k} I d r=>by
   generalize e:D.tup (k.map a.toD)=x at d
   cases d with
   | tup h q=>
     cases e
     cases (show u=Value.ref _ from r)
     obtain ⟨its,rv,t,_⟩:=I.tuple h
     exact ⟨_,its,rfl,t,mD a I q rv⟩
   | _=>cases e
noncomputable abbrev NEs (K:Type):=List (K × Addr × Value)
noncomputable def kd (a:KD K) (hd:a.dep<=7) (P:Program) (w:World):HeapKind P w K:=kindOf (a.ik P w) (by rw [a.dep_ok]; exact hd)
variable {a:KD K} {hd:a.dep<=7}
noncomputable def dNk (a:KD K) (hd:a.dep<=7) (P:Program) (w:World) (p:Addr) (xs:NEs K):HO:=.ext λh=>(p == sysModules)=false/\∃ o es ep,h.get? p=some o/\o.ExactDict/\o.data=.dict es ep/\es.toList=xs.map (entryOfKey (kd a hd P w))/\(xs.map (·.1)).Nodup
structure fE (a:KD K) (hd:a.dep<=7) (P:Program) (w:World) (F:PySem.W.Frag) (H:Hp) (d:Addr) (xs:NEs K):Prop where
 at_:H d=some (dNk a hd P w d xs)
 key:∀ x ∈ xs,Den F H (.ref x.2.1) (a.toD x.1)
variable {X:Cx} {pins:List (Addr × Obj)} {σ:L2.St} {H:Hp} {s:Shared} {d b:Addr} {xs:NEs K} {k:K} {A:Around} {E:Value->Shared->Prop}
theorem key_is (I:Inv X pins σ H s) (q:Den X.K H (.ref b) (a.toD k)):(kd a hd X.prog X.w).is s.heap k b:=a.den I q rfl
theorem pI (I:Inv X pins σ H s) (D:fE a hd X.prog X.w X.K H d xs):(d == sysModules)=false/\s.heap.DictOfH (kd a hd X.prog X.w) d xs:=by
 obtain ⟨⟨h0,o,es,ep,h1,h2,h3,h4,h5⟩,_⟩:=(show ba X.prog X.w H s.heap d (dNk a hd X.prog X.w d xs) from I.hok d _ D.at_)
 exact ⟨h0,o,es,ep,h1,h2,h3,h4,λx hx=>key_is I (D.key x hx),h5⟩
noncomputable def yh (a:KD K) (hd:a.dep<=7) (P:Program) (w:World) (F:PySem.W.Frag) (td ty tv:TE):TS:=λD σ H=>tv σ H λv H1=>td σ H1 λx H2=>ty σ H2 λy H3=>∃ d b k xs,x=.ref d/\y=.ref b/\fE a hd P w F H3 d xs/\Den F H3 (.ref b) (a.toD k)/\xs.length<=sizeLine/\∀ u,RelV v u->D.nx σ (upd H3 d (dNk a hd P w d (storedH xs k b u)))
noncomputable def yH (a:KD K) (hd:a.dep<=7) (P:Program) (w:World):TE:=λ_ H Q=>∀ p,H p=none->Q (.ref p) (upd H p (dNk a hd P w p []))
variable {o i e value:Expr} {pos pos':Pos} {td ty tv:TE}
theorem kl (hu:X.A.units + 16 < cLine) (ho:PE X o td) (hi:PE X i ty) (hv:PE X value tv) (hs:swapsWith value (some (.Subscript o i pos')) pos.line X.env=pure false) :
   PS X (.Assign [.Subscript o i pos'] value pos) (yh a hd X.prog X.w X.K td ty tv):=by
 intro pins s σ H D I h
 refine wpAny_Assign_Subscript (thn (hv pins s σ H _ I h) λr s1 ⟨v,H1,I1,rv,q1⟩=>thn (ho pins s1 σ H1 _ I1 q1) λu s2 ⟨x,H2,I2,rx,q2⟩=>thn (hi pins s2 σ H2 _ I2 q2) λiv s3 ⟨y,H3,I3,ry,d,b,k,xs,ex,ey,D',g,hl,q3⟩=>?_) hs
 subst ex ey
 obtain rfl:u=Value.ref d:=rx
 obtain rfl:iv=Value.ref b:=ry
 obtain ⟨hd',dd⟩:=pI I3 D'
 refine wpAny_setItem_heap (hsz:=hl) (show X.A.units + 1 + 8 < cLine by omega) (key_is I3 g) dd λh' dd' hs=>⟨σ,_,?_,q3 r rv⟩
 obtain ⟨q,es,ep,hq,h2,h3,h4,_,h5⟩:=dd'
 refine oQ I3 (by rw [D'.at_]; exact True.intro) hs ⟨q,hq⟩ ⟨⟨hd',q,es,ep,hq,h2,h3,h4,h5⟩,⟨q,hq⟩,λa1 a2 ⟨z0,o,es,ep,z1,z2⟩ hk=>⟨z0,o,es,ep,hk o z1,z2⟩⟩
theorem km:PE X (.Dict [] [] pos) (yH a hd X.prog X.w):=λpins s σ H Q I h=>
 wpAny_Dict_empty ⟨.ref s.heap.objs.size,_,I.laid (a:=s.heap.objs.size) (o:=dNk a hd X.prog X.w s.heap.objs.size []) (t':=s.toks) (λ_ _ q=>Heap.get?_push_of_some _ q) (Nat.le_refl _)
   ⟨⟨beq_eq_false_iff_ne.mpr (Ne.symm (Nat.ne_of_lt I.big)),_,#[],0,Heap.get?_push_size _ rfl,⟨rfl,rfl,rfl⟩,rfl,rfl,List.nodup_nil⟩,⟨_,Heap.get?_push_size _ rfl⟩,λa1 a2 ⟨z0,o,es,ep,z1,z2⟩ hk=>⟨z0,o,es,ep,hk o z1,z2⟩⟩,rfl,h _ (I.hok.fresh (Nat.le_refl _))⟩
end
end Ev
namespace Hy
open PySem PySem.Spec PyProof.Rows L2
open Ev (D Den ar KD NEs dNk fE)
section
variable {K:Type} [DecidableEq K]
inductive EnK (a:KD K) (F:PySem.W.Frag) (G:Hp):NEs K->List (K × D)->Prop where
 | nil:EnK a F G [] []
 | cons {k:K} {b:Addr} {u:Value} {v:V} {x:D} {xs:NEs K} {m:List (K × D)} (hk:Den F G (.ref b) (a.toD k)) (hr:RelV v u) (hv:Den F G v x) (r:EnK a F G xs m):EnK a F G ((k,b,u) :: xs) ((k,x) :: m)
variable {a:KD K} {F:PySem.W.Frag} {G G':Hp}
theorem EnK.mono (e:ah G G'):∀ {xs:NEs K} {m:List (K × D)},EnK a F G xs m->EnK a F G' xs m
 | _,_,.nil=>.nil
 | _,_,.cons h1 h2 h3 r=>.cons (h1.mono e) h2 (h3.mono e) (r.mono e)
theorem EnK.length:∀ {xs:NEs K} {m:List (K × D)},EnK a F G xs m->xs.length=m.length
 | _,_,.nil=>rfl
 | _,_,.cons _ _ _ r=>congrArg (· + 1) r.length
theorem EnK.key:∀ {xs:NEs K} {m:List (K × D)},EnK a F G xs m->∀ x ∈ xs,Den F G (.ref x.2.1) (a.toD x.1)
 | _,_,.nil,_,h=>nomatch h
 | _,_,.cons h _ _ r,x,hx=>(List.mem_cons.mp hx).elim (λz=>z ▸ h) (r.key x)
noncomputable def getM (m:List (K × D)) (k:K):Option D:=(m.find? λx=>decide (x.1=k)).map (·.2)
noncomputable def qm (m:List (K × D)) (k:K) (x:D):List (K × D):=if (getM m k).isSome then m.map λy=>if y.1=k then (y.1,x) else y else m++[(k,x)]
theorem EnK.at:∀ {xs:NEs K} {m:List (K × D)},EnK a F G xs m->∀ k,match getM m k with
   | none=>atKey xs k=none
   | some x=>∃ p v,atKey xs k=some p/\RelV v p.2/\Den F G v x
 | _,_,.nil,_=>rfl
 | _,_,.cons (k:=k') (x:=y) (m:=m) (xs:=xs) h1 h2 h3 r,k=>by
   have ih:=r.at k
   unfold getM atKey at *
   by_cases e:k'=k
   · simp only [List.find?_cons,e,decide_true,Option.map_some]
     exact ⟨_,_,rfl,h2,h3⟩
   · simp only [List.find?_cons,e,decide_false]
     exact ih
theorem EnK.isSome {xs:NEs K} {m:List (K × D)} (h:EnK a F G xs m) (k:K):(atKey xs k).isSome=(getM m k).isSome:=by
 have:=h.at k
 cases e:getM m k with
 | none=>rw [e] at this; simp only at this; rw [this]; rfl
 | some x=>rw [e] at this; obtain ⟨p,v,h1,_⟩:=this; rw [h1]; rfl
theorem EnK.snoc {k:K} {b:Addr} {u:Value} {v:V} {x:D} (h1:Den F G (.ref b) (a.toD k)) (h2:RelV v u) (h3:Den F G v x):∀ {xs:NEs K} {m:List (K × D)},EnK a F G xs m->EnK a F G (xs++[(k,b,u)]) (m++[(k,x)])
 | _,_,.nil=>.cons h1 h2 h3 .nil
 | _,_,.cons g1 g2 g3 r=>.cons g1 g2 g3 (r.snoc h1 h2 h3)
theorem EnK.over {k:K} {u:Value} {v:V} {x:D} (h2:RelV v u) (h3:Den F G v x):∀ {xs:NEs K} {m:List (K × D)},EnK a F G xs m->EnK a F G (xs.map (putAt k u)) (m.map λy=>if y.1=k then (y.1,x) else y)
 | _,_,.nil=>.nil
 | _,_,.cons (k:=k') g1 g2 g3 r=>by
   rw [List.map_cons,List.map_cons]
   unfold putAt
   by_cases e:k'=k
   · simp only [e,if_true]
     rw [e] at g1
     exact .cons g1 h2 h3 (r.over h2 h3)
   · simp only [e,if_false]
     exact .cons g1 g2 g3 (r.over h2 h3)
theorem EnK.put {k:K} {b:Addr} {u:Value} {v:V} {x:D} {xs:NEs K} {m:List (K × D)} (h:EnK a F G xs m) (h1:Den F G (.ref b) (a.toD k)) (h2:RelV v u) (h3:Den F G v x):EnK a F G (storedH xs k b u) (qm m k x):=by
 unfold storedH qm
 rw [h.isSome k]
 split
 · exact h.over h2 h3
 · exact h.snoc h1 h2 h3
noncomputable def exK (a:KD K) (hd:a.dep<=7) (P:Program) (w:World) (m:List (K × D)):Ex where
 p:=λF G o p=>∃ xs,o=dNk a hd P w p xs/\EnK a F G xs m
 mono:=λe ⟨xs,h1,h2⟩=>⟨xs,h1,h2.mono e⟩
 ext:=λ⟨xs,h1,_⟩=>.inl ⟨_,h1⟩
end
end Hy
namespace Hy
open PySem PySem.Spec PyProof.Rows L2
open Ev (D Den ar KD NEs dNk fE aq km kl)
section
variable {K:Type} [DecidableEq K] {a:KD K} {hd:a.dep<=7} {X:Cx} {C:Bool} {τ:List Sl} {x:D} {b e ix:Expr} {pos p q:Pos} {k:Nat} {N:Po} {rest:List Stmt} {m:List (K × D)} {key:K}
theorem vO:PE X (.Dict [] [] pos) (dE X.K C τ (.x (exK a hd X.prog X.w []))):=peW km λσ H Q ⟨A,H₀,B,S,k⟩=>λp hp=>k (.ref p) _ [p] (aq hp _) (λb hb=>by rw [List.mem_singleton.mp hb]; exact ⟨hp,_,aw⟩) ⟨p,_,rfl,rfl,aw,[],rfl,.nil⟩
theorem Sta.dct {F:PySem.W.Frag} {P:Program} {w:World} {A:Addr->Prop} {H₀ H:Hp} {B:Nat->List Addr} {σ:L2.St} {i:Nat} (S:Sta F A H₀ τ B σ H) (hi:τ[i]?=some (.x (exK a hd P w m))):∃ d xs,(σ[i]?).join=some (.ref d)/\B i=[d]/\H d=some (dNk a hd P w d xs)/\EnK a F (Hy.hd H (own A B)) xs m:=by
 obtain ⟨d,o,h1,h2,h3,xs,rfl,h5⟩:=S.sl i _ hi
 exact ⟨d,xs,h2,h1,h3,h5⟩
end
section
variable {K:PySem.W.Frag} {A:Addr->Prop} {H₀ H H':Hp} {τ:List Sl} {B:Nat->List Addr} {σ:L2.St}
theorem Sta.zz (S:Sta K A H₀ τ B σ H) {i:Nat} {a:Addr} {E E':Ex} {o':HO} (hi:τ[i]?=some (.x E)) (hB:B i=[a]) (d:E'.p K (hd H (own A B)) o' a):Sta K A H₀ (τ.set i (.x E')) B σ (upd H a o'):=by
 have ha:own A B a:=.inr ⟨i,by rw [hB]; exact List.mem_singleton.mpr rfl⟩
 have ne:∀ b,b ≠ a->upd H a o' b=H b:=λb h=>ao h
 have sm:ah (hd H (own A B)) (hd (upd H a o') (own A B)):=λb o z=>by
   obtain ⟨z1,z2⟩:=ai.mp z
   exact ai.mpr ⟨z1,by rw [ne b (λe=>z1 (e ▸ ha))]; exact z2⟩
 have f0:H₀ a=none:=S.fr i a (by rw [hB]; exact List.mem_singleton.mpr rfl)
 have hs:ah H₀ (upd H a o'):=λb o z=>by rw [ne b (λe=>by rw [e,f0] at z; cases z)]; exact S.same b o z
 refine ⟨hs,by rw [List.length_set,S.len],λj t hj=>?_,S.fr,S.uq,S.ad,λj b hb=>?_⟩
 · by_cases ej:j=i
   · subst ej
     have hl:=(List.getElem?_eq_some_iff.mp hi).1
     rw [List.getElem?_set_self hl] at hj
     cases hj
     obtain ⟨a',o,e1,e2,_,_⟩:=S.sl j _ hi
     rw [hB] at e1
     cases e1
     exact ⟨a,o',hB,e2,aw,E'.mono sm d⟩
   · rw [List.getElem?_set_ne (λz=>ej z.symm)] at hj
     have off:∀ b ∈ B j,b ≠ a:=λb hb e=>ej (S.uq j i a (e ▸ hb) (by rw [hB]; exact List.mem_singleton.mpr rfl))
     have q:=S.sl j t hj
     cases t with
     | un=>exact q
     | d x=>obtain ⟨z,u,e,d⟩:=q; exact ⟨z,u,e,d.mono sm⟩
     | o zs=>
       obtain ⟨c,ws,z1,z2,z3,z4⟩:=q
       exact ⟨c,ws,z1,z2,by rw [ne c (off c (by rw [z1]; exact List.mem_singleton.mpr rfl))]; exact z3,z4.mono sm⟩
     | n t=>
       obtain ⟨z0,u,z1,z2⟩:=q
       exact ⟨z0,u,z1,z2.frame sm λb hb=>ne b (off b hb)⟩
     | x E=>
       obtain ⟨c,o,z1,z2,z3,z4⟩:=q
       exact ⟨c,o,z1,z2,by rw [ne c (off c (by rw [z1]; exact List.mem_singleton.mpr rfl))]; exact z3,E.mono sm z4⟩
 · by_cases e:b=a
   · subst e; exact ⟨_,aw⟩
   · rw [ne b e]; exact S.bd j b hb
end
section
variable {K:Type} [DecidableEq K] {a:KD K} {hd:a.dep<=7} {X:Cx} {C:Bool} {τ:List Sl} {x:D} {b e ix:Expr} {pos p q sp:Pos} {k:Nat} {N:Po} {rest:List Stmt} {m:List (K × D)} {key:K}
theorem xf (i:Nat) {n:Str} (hu:X.A.units + 16 < cLine) (hi:τ[i]?=some (.x (exK a hd X.prog X.w m))) (hk:PE X ix (dE X.K true τ (.d (a.toD key)))) (he:PE X e (dE X.K true τ (.d x))) (hl:m.length<=sizeLine) (hr:∀ H v,Den X.K H v (a.toD key)->∃ b,v=.ref b)
   (hn:PSs X rest (dS X.K (τ.set i (.x (exK a hd X.prog X.w (qm m key x)))) N)) (hN:X.N[i]?=some n:=by rfl)
   (hv:Vis X.env.scope n:=by first | exact Or.inl rfl | exact Or.inr (Or.inl rfl) | exact Or.inr (Or.inr rfl)) (hd1:(n == ("__debug__" : Str))=false:=by decide) (hcd:(n == ("__classdict__" : Str))=false:=by decide)
   (hs:swapsWith e (some (.Subscript (.Name n p) ix sp)) pos.line X.env=pure false:=by rfl):PSs X (.Assign [.Subscript (.Name n p) ix sp] e pos :: rest) (dS X.K τ N):=
 bp (M:=(·=τ.set i (.x (exK a hd X.prog X.w (qm m key x))))) (psW (kl (a:=a) (hd:=hd) hu (bw (i:=i) hN hv hd1 hcd) hk he hs) λD σ H ⟨A,H₀,B,S,Me⟩=>aT S λv H1 e1 d1=>by
   have S1:=S.mono e1
   obtain ⟨d,xs,g1,_⟩:=S1.dct hi
   refine ⟨_,slot_of g1,aT S1 λy H2 e2 dy=>?_⟩
   obtain ⟨b,rfl⟩:=hr _ _ dy
   have S2:=S1.mono e2
   obtain ⟨d',xs',h1,h2,h3,h4⟩:=S2.dct hi
   rw [g1] at h1
   cases h1
   have d1':=d1.mono (au e2 λ_ z=>z)
   exact ⟨d,b,key,xs',rfl,rfl,⟨h3,λz hz=>(h4.key z hz).mono az⟩,dy.mono az,by rw [h4.length]; exact hl,λu hu=>Me.nx _ _ _ _ rfl (S2.zz hi h2 ⟨_,rfl,h4.put dy hu d1'⟩)⟩) λ_ e=>e ▸ hn
end
end Hy
namespace Ev
open PySem PySem.Spec PyProof.Rows L2
section
variable {K:Type} [DecidableEq K] {a:KD K} {hd:a.dep<=7} {X:Cx} {o i e f:Expr} {pos apos cpos:Pos} {td ty tx tk tv:TE}
noncomputable def vQ (a:KD K) (hd:a.dep<=7) (P:Program) (w:World) (F:PySem.W.Frag) (td ty tx:TE):TE:=λσ H Q=>td σ H λx H1=>∃ d φ,x=.ref d/\H1 d=some (.ext φ)/\(∀ h,φ h->∃ o,h.get? d=some o/\o.ExactDict)/\ty σ H1 λy H2=>tx σ H2 λz H3=>∃ b k xs,y=.ref b/\fE a hd P w F H3 d xs/\Den F H3 (.ref b) (a.toD k) /\
 ((∃ p v,atKey xs k=some p/\RelV v p.2/\Q v H3)\/(atKey xs k=none/\Q z H3))
theorem mQ (hu:X.A.units + 16 < cLine) (ho:PE X o td) (he:PE X e ty) (hf:PE X f tx) (m:M2 X o "get" apos e f cpos):PE X (.Call (.Attribute o "get" apos) [e,f] [] cpos) (vQ a hd X.prog X.w X.K td ty tx):=by
 intro pins s σ H Q I h
 refine wpAny_Call_method m.base m.few m.line PySem.F.plainAttrs_dict PySem.F.slot_dict_get PySem.F.type_dict_get (thn (ho pins s σ H _ I h) λu s1 ⟨x,H1,I1,rx,d,φ,ex,hφ,hx,q1⟩=>?_)
 subst ex
 obtain rfl:u=Value.ref d:=rx
 obtain ⟨ob,g1,g2⟩:=hx _ (show ba X.prog X.w H1 s1.heap d (.ext φ) from I1.hok d _ hφ).1
 refine ⟨⟨ob,g1,g2.1⟩,λc e=>(by cases e; exact ⟨ob,g1,g2.2.1⟩),?_⟩
 rw [m.trees]
 refine Calls.callWith_builtin rfl (Calls.evalArgs_plain (Calls.spliced_cons (thn (he pins s1 σ H1 _ I1 q1) λiv s2 ⟨y,H2,I2,ry,q2⟩=>
   Calls.spliced_cons (thn (hf pins s2 σ H2 _ I2 q2) λfv s3 ⟨z,H3,I3,rz,b,k,xs,ey,D,g,q3⟩=>Calls.spliced_nil ?_))))
 subst ey
 obtain rfl:iv=Value.ref b:=ry
 obtain ⟨hd',dd⟩:=pI I3 D
 refine call_meetsIn PySem.F.slot_dict_get dd.typeIs PySem.F.entry_dict_get (PySem.F.args_dict_get_3 _ _ _) (meetsH_dict_get_default (kd a hd X.prog X.w) d b hd' fv) ⟨show X.A.units + 1 + 8 < cLine by omega,k,xs,key_is I3 g,dd,?_⟩
 rcases q3 with ⟨p,v,ha,rv,q⟩ | ⟨ha,q⟩
 · rw [ha]
   exact ⟨v,H3,I3.tok _,rv,q⟩
 · rw [ha]
   exact ⟨z,H3,I3.tok _,rz,q⟩
theorem rq (hu:X.A.units + 16 < cLine):OpR X (compareOp .In) (λy x H Q=>∃ d b k xs,x=.ref d/\y=.ref b/\fE a hd X.prog X.w X.K H d xs/\Den X.K H (.ref b) (a.toD k)/\Q (.bl (atKey xs k).isSome) H):=by
 intro pins s σ H x y v u Q I rx ry h
 obtain ⟨d,b,k,xs,rfl,rfl,D,g,q⟩:=h
 cases rx
 cases ry
 obtain ⟨hd',dd⟩:=pI I D
 exact wpAny_in_heap (show X.A.units + 1 + 8 < cLine by omega) (key_is I g) hd' dd ⟨.bl _,H,I.tok _,rfl,q⟩
noncomputable def yA (a:KD K) (hd:a.dep<=7) (P:Program) (w:World) (F:PySem.W.Frag) (tk tv:TE):TE:=λσ H Q=>∀ p,H p=none->tk σ (upd H p (dNk a hd P w p [])) λy H1=>tv σ H1 λv H2=>∃ b k,y=.ref b/\H2 p=some (dNk a hd P w p [])/\Den F H2 (.ref b) (a.toD k)/\∀ u,RelV v u->Q (.ref p) (upd H2 p (dNk a hd P w p (storedH [] k b u)))
theorem pj (hu:X.A.units + 16 < cLine) (hk:PE X e tk) (hv:PE X f tv):PE X (.Dict [some e] [f] pos) (yA a hd X.prog X.w X.K tk tv):=λpins s σ H Q I h=>by
 refine wpAny_Dict_any rfl rfl (by simp) (show 1<=15 by decide) (pairTrees_cons_walk ?_)
 have I0:=I.laid (a:=s.heap.objs.size) (o:=dNk a hd X.prog X.w s.heap.objs.size []) (t':=s.toks) (h':=s.heap.push { cls:=.type "dict",data:=.dict #[] }) (λ_ _ q=>Heap.get?_push_of_some _ q) (Nat.le_refl _)
   ⟨⟨beq_eq_false_iff_ne.mpr (Ne.symm (Nat.ne_of_lt I.big)),_,#[],0,Heap.get?_push_size _ rfl,⟨rfl,rfl,rfl⟩,rfl,rfl,List.nodup_nil⟩,⟨_,Heap.get?_push_size _ rfl⟩,λa1 a2 ⟨z0,o,es,ep,z1,z2⟩ hk=>⟨z0,o,es,ep,hk o z1,z2⟩⟩
 refine thn (hk _ _ σ _ _ I0 (h _ (I.hok.fresh (Nat.le_refl _)))) λkv s1 ⟨y,H1,I1,ry,q1⟩=>thn (hv _ s1 σ H1 _ I1 q1) λvv s2 ⟨v,H2,I2,rv,b,k,ey,hp,g,q2⟩=>pairTrees_nil_walk ?_
 subst ey
 obtain rfl:kv=Value.ref b:=ry
 have D:fE a hd X.prog X.w X.K H2 s.heap.objs.size []:=⟨hp,λ_ z=>nomatch z⟩
 obtain ⟨hd',dd⟩:=pI I2 D
 unfold storeAll
 rw [List.forIn_cons]
 refine wpAny_bind (wpAny_bind (wpAny_dictSet_heap (hsz:=Nat.zero_le _) (show X.A.units + 8 < cLine by omega) (key_is I2 g) dd λh' dd' hs=>wpAny_pure ?_))
 dsimp only
 rw [List.forIn_nil]
 refine wpAny_pure ?_
 obtain ⟨q,es,ep,hq,h2,h3,h4,_,h5⟩:=dd'
 refine ⟨.ref s.heap.objs.size,_,oQ (ob:=dNk a hd X.prog X.w s.heap.objs.size (storedH [] k b vv)) I2 (by rw [hp]; exact True.intro) hs ⟨q,hq⟩ ⟨⟨hd',q,es,ep,hq,h2,h3,h4,h5⟩,⟨q,hq⟩,λa1 a2 ⟨z0,o,es,ep,z1,z2⟩ hk=>⟨z0,o,es,ep,hk o z1,z2⟩⟩,rfl,q2 vv rv⟩
end
end Ev
namespace Hy
open PySem PySem.Spec PyProof.Rows L2
open Ev (D Den ar KD NEs dNk fE Bx aq mQ pj rq)
section
variable {K:Type} [DecidableEq K] {a:KD K} {hd:a.dep<=7} {X:Cx} {C:Bool} {τ:List Sl} {x y:D} {b e f o ix:Expr} {pos p q apos cpos:Pos} {k:Nat} {N:Po} {rest:List Stmt} {m:List (K × D)} {key:K}
noncomputable def bxK (a:KD K) (hd:a.dep<=7) (P:Program) (w:World) (m:List (K × D)):Bx where
 p:=λF H d=>∃ xs,H d=some (dNk a hd P w d xs)/\EnK a F H xs m
 mono:=λe ⟨xs,h1,h2⟩=>⟨xs,e _ _ h1,h2.mono e⟩
 isd:=λ{_ _ d} ⟨xs,h1,_⟩=>⟨_,h1,λP w H' h z=>let ⟨_,o,_,_,z1,z2,_⟩:=z.1; ⟨o,z1,z2.1⟩⟩
noncomputable abbrev bxD (a:KD K) (hd:a.dep<=7) (P:Program) (w:World) (m:List (K × D)):D:=.box (bxK a hd P w m)
theorem Sta.fzX {F:PySem.W.Frag} {P:Program} {w:World} {A:Addr->Prop} {H₀ H:Hp} {B:Nat->List Addr} {σ:L2.St} {i:Nat} (S:Sta F A H₀ τ B σ H) (hi:τ[i]?=some (.x (exK a hd P w m))):Sta F A H₀ (τ.set i (.d (bxD a hd P w m))) (upB B i []) σ H:=
 S.less (λ_ z=>nomatch z) λG g hv=>by
   obtain ⟨d,xs,h1,h2,h3,h4⟩:=S.dct hi
   exact ⟨rfl,_,h1,.box ⟨xs,hv d _ (by rw [h2]; exact List.mem_singleton.mpr rfl) (λz=>nomatch z) h3,h4.mono g⟩⟩
theorem yO (i:Nat) (h:PSs X rest (dS X.K (τ.set i (.d (bxD a hd X.prog X.w m))) N)) (hi:τ[i]?=some (.x (exK a hd X.prog X.w m)):=by rfl):PSs X rest (dS X.K τ N):=mV h λD σ H ⟨A,H₀,B,S,Me⟩=>⟨A,H₀,_,S.fzX hi,Me⟩
theorem yt (h:PE X e (dE X.K C τ (.x (exK a hd X.prog X.w m)))):PE X e (dE X.K C τ (.d (bxD a hd X.prog X.w m))):=peW h λσ H Q q=>by
 obtain ⟨A,H₀,B,S,k⟩:=dJ q
 refine ⟨A,H₀,B,S,λv H' bs e hf ⟨d,o,h1,h2,h3,xs,h4,h5⟩=>?_⟩
 cases h2
 subst h1 h4
 have vd:=S.vd (C:=C)
 have un:¬ vw C A B d:=λz=>by
   obtain ⟨_,q⟩:=vd d z
   rw [(hf d (List.mem_singleton.mpr rfl)).1] at q
   cases q
 exact k _ H' e (.box ⟨xs,ai.mpr ⟨un,h3⟩,h5.mono (au (ah.refl _) λ_ z=>.inl z)⟩)
theorem oO (hu:X.A.units + 16 < cLine) (ho:PE X o (dE X.K C τ (.d (bxD a hd X.prog X.w m)))) (hk:PE X e (dE X.K C τ (.d (a.toD key)))) (hx:PE X f (dE X.K C τ (.d x))) (hr:∀ H v,Den X.K H v (a.toD key)->∃ b,v=.ref b)
   (m2:M2 X o "get" apos e f cpos:=by exact ⟨rfl,rfl,rfl,rfl⟩):PE X (.Call (.Attribute o "get" apos) [e,f] [] cpos) (dE X.K C τ (.d ((getM m key).getD x))):=
 peW (mQ (a:=a) (hd:=hd) hu ho hk hx m2) λσ H Q q=>by
   obtain ⟨A,H₀,B,S,kk⟩:=dJ q
   refine aT S λv H1 e1 d1=>?_
   cases d1 with
   | @box d _ h=>
   obtain ⟨xs1,g1,g2⟩:=h
   refine ⟨d,_,rfl,az _ _ g1,(λh ⟨_,o,_,_,z1,z2,_⟩=>⟨o,z1,z2⟩),aT (S.mono e1) λy H2 e2 dy=>aT ((S.mono e1).mono e2) λz H3 e3 dz=>?_⟩
   obtain ⟨b',rfl⟩:=hr _ _ dy
   have m3:=au (M:=vw C A B) (e2.trans e3) λ_ z=>z
   have g4:=g2.mono m3
   have dy3:=dy.mono (au e3 λ_ z=>z)
   refine ⟨b',key,xs1,rfl,⟨az _ _ (m3 _ _ g1),λz hz=>(g4.key z hz).mono az⟩,dy3.mono az,?_⟩
   have:=g4.at key
   cases hg:getM m key with
   | none=>
     rw [hg] at this kk
     exact .inr ⟨this,kk z H3 (e1.trans (e2.trans e3)) dz⟩
   | some x'=>
     rw [hg] at this kk
     obtain ⟨pp,v,h1,h2,h3⟩:=this
     exact .inl ⟨pp,v,h1,h2,kk v H3 (e1.trans (e2.trans e3)) h3⟩
theorem yr (hu:X.A.units + 16 < cLine) (hr:∀ H v,Den X.K H v (a.toD key)->∃ b,v=.ref b):bF X (compareOp .In) (a.toD key) (bxD a hd X.prog X.w m) (.bl (getM m key).isSome):=⟨_,rq (a:=a) (hd:=hd) hu,λM v w H Q _ d1 d2 k=>by
 obtain ⟨b',rfl⟩:=hr _ _ d1
 cases d2 with
 | box h=>
   obtain ⟨xs,g3,g4⟩:=h
   exact ⟨_,b',key,xs,rfl,rfl,⟨az _ _ g3,λz hz=>(g4.key z hz).mono az⟩,d1.mono az,by rw [g4.isSome]; exact k _ H (ah.refl _) .bl⟩⟩
theorem wQ (hu:X.A.units + 16 < cLine) (hk:PE X e (dE X.K C τ (.d (a.toD key)))) (hv:PE X f (dE X.K C τ (.d x))) (hr:∀ H v,Den X.K H v (a.toD key)->∃ b,v=.ref b):PE X (.Dict [some e] [f] pos) (dE X.K C τ (.x (exK a hd X.prog X.w [(key,x)]))):=
 peW (pj (a:=a) (hd:=hd) hu hk hv) λσ H Q ⟨A,H₀,B,S,kk⟩=>λp hp=>by
   have e0:=aq hp (dNk a hd X.prog X.w p [])
   have f0:Fr H (upd H p (dNk a hd X.prog X.w p [])) [p]:=λb hb=>by rw [List.mem_singleton.mp hb]; exact ⟨hp,_,aw⟩
   have S1:=S.hide e0 f0
   refine aT S1 λy H2 e2 dy=>aT (S1.mono e2) λv H3 e3 dv=>?_
   obtain ⟨b',rfl⟩:=hr _ _ dy
   have e03:=e2.trans e3
   have hp3:=e03 _ _ (aw (H:=H) (a:=p) (o:=dNk a hd X.prog X.w p []))
   have dy3:=dy.mono (au e3 λ_ z=>z)
   refine ⟨b',key,rfl,hp3,dy3.mono az,λu hu=>?_⟩
   have sm:ah (Hy.hd H3 (vw C (λb=>A b\/b ∈ [p]) B)) (Hy.hd (upd H3 p (dNk a hd X.prog X.w p (storedH [] key b' u))) λb=>vw C A B b\/b ∈ [p]):=λb o z=>by
     obtain ⟨z1,z2⟩:=ai.mp z
     have nh:¬ (vw C A B b\/b ∈ [p]):=λy=>z1 (kA y)
     exact ai.mpr ⟨nh,by rw [ao (λq=>nh (.inr (List.mem_singleton.mpr q)))]; exact z2⟩
   have hs:ah H (upd H3 p (dNk a hd X.prog X.w p (storedH [] key b' u))):=λb o z=>by
     have ne:b ≠ p:=λq=>by rw [q,hp] at z; cases z
     rw [ao ne]
     exact e03 _ _ (e0 _ _ z)
   exact kk (.ref p) _ [p] hs (λb hb=>by rw [List.mem_singleton.mp hb]; exact ⟨hp,_,aw⟩) ⟨p,_,rfl,rfl,aw,_,rfl,(EnK.nil.put dy3 hu dv).mono sm⟩
end
end Hy
namespace Ev
open PySem PySem.Spec PyProof.Rows L2
open PySem.Builtin.Range (rangeFitsLong rangeSize)
section
variable {prog:Program} {w:World} {A:Around} {E:Value->Shared->Prop} {s:Shared}
end
section
variable {X:Cx} {tg:Expr}
end
end Ev
namespace Ev
open PySem PySem.Spec PyProof.Rows L2
noncomputable def w4 (kv:List (Int × Int)):List (Key × V):=kv.map λp=>(.inl p.1,.int p.2)
section
variable {X:Cx} {tg:Expr}
end
end Ev
namespace Hy
open PySem PySem.Spec PyProof.Rows L2
open Ev (D Den ar Bx aq w4)
noncomputable def exZ (m:List (Int × Int)):Ex where
 p:=λ_ _ o _=>o=.dK (w4 m)
 mono:=λ_ h=>h
 ext:=λh=>.inr (.inr ⟨_,.inl h⟩)
section
variable {K:PySem.W.Frag} {A:Addr->Prop} {H₀ H:Hp} {τ:List Sl} {B:Nat->List Addr} {σ:L2.St} {m:List (Int × Int)} {i:Nat}
theorem Sta.dz (S:Sta K A H₀ τ B σ H) (hi:τ[i]?=some (.x (exZ m))):∃ d,(σ[i]?).join=some (.ref d)/\B i=[d]/\H d=some (.dK (w4 m)):=by
 obtain ⟨d,o,h1,h2,h3,h4⟩:=S.sl i _ hi
 cases (show o=_ from h4)
 exact ⟨d,h2,h1,h3⟩
end
section
variable {X:Cx} {C:Bool} {τ:List Sl} {x y:D} {a b e f o ix tg:Expr} {pos p q apos cpos sp:Pos} {k:Nat} {N:Po} {rest:List Stmt} {m:List (Int × Int)} {key v n:Int}
end
end Hy
namespace Hy
open PySem PySem.Spec PyProof.Rows L2
open Ev (D Den ar aq aH cw dn PTs bI eQ)
noncomputable def kn (ns:List Int):List Int:=ns.mergeSort λa b=>decide (a<=b)
theorem oI (ns:List Int):(kn ns).Pairwise (·<=·):=by
 have:=List.pairwise_mergeSort (le:=λa b:Int=>decide (a<=b)) (λa b c=>by simp only [decide_eq_true_eq]; omega) (λa b=>by simp only [Bool.or_eq_true,decide_eq_true_eq]; omega) ns
 exact this.imp λh=>of_decide_eq_true h
theorem eL (ns:List Int):(kn ns).Perm ns:=List.mergeSort_perm ns _
theorem wU {ns ns':List Int} (p:ns'.Perm ns) (h:ns'.Pairwise (·<=·)):ns'=kn ns:=
 List.Perm.eq_of_pairwise (λa b _ _ h1 h2=>by omega) h (oI ns) (p.trans (eL ns).symm)
theorem cQ:∀ {us:List Value} {ns:List Int},IntsAre us ns->Vals (ns.map V.int) us
 | _,_,.nil=>.nil
 | _,_,.cons n t r=>.cons ⟨t,rfl⟩ (cQ r)
theorem jU:∀ {us:List Value} {ns:List Int},Vals (ns.map V.int) us->IntsAre us ns
 | [],[],_=>.nil
 | [],_ :: _,h=>nomatch h
 | _ :: _,[],h=>nomatch h
 | u :: us,n :: ns,h=>by
   cases h with
   | cons h1 h2=>
     obtain ⟨t,rfl⟩:=h1
     exact .cons n t (jU h2)
theorem i8 {K:PySem.W.Frag} {G:Hp}:∀ ns:List Int,ar K G (ns.map V.int) (ns.map .int)
 | []=>.nil
 | _ :: ns=>.cons .int (i8 ns)
theorem jJ {K:PySem.W.Frag} {G:Hp}:∀ {vs:List V} {ns:List Int},ar K G vs (ns.map .int)->vs=ns.map V.int
 | _,[],.nil=>rfl
 | _,n :: ns,.cons h r=>by cases h; rw [jJ r]; rfl
section
variable {X:Cx}
theorem qu:bP X (.builtin "sorted") (λxs H Q=>∃ p ns,xs=[.ref p]/\SqL X.K H p (ns.map V.int)/\ns.length < 64/\∀ q,H q=none->Q (.ref q) (upd H q (.lst ((kn ns).map V.int)))):=by
 intro pins s σ H xs us Q I r q
 obtain ⟨p,ns,rfl,hp,hl,q⟩:=q
 obtain ⟨u,rfl,ru⟩:=vals1 r
 cases (show u=Value.ref _ from ru)
 obtain ⟨its,rv,pl,hz⟩:=I.list hp
 have hln:its.length=ns.length:=by rw [<- rv.length,List.length_map]
 refine PyProof.Rows.sorted_ints pl.isList (jU rv) (by omega) λout ns' a1 a2 a3=>?_
 obtain ⟨c,hc'⟩:=PyProof.Rows.sortedAll_at s.heap its out
 have en:=wU a2 a3
 subst en
 refine ⟨.ref (s.heap.objs.size + 1),upd H (s.heap.objs.size + 1) (.lst ((kn ns).map V.int)),I.laid (t':=s.toks) (λb o z=>PyProof.Rows.sortedAll_old z) (Nat.le_succ _) (show ba X.prog X.w _ _ _ (.lst ((kn ns).map V.int)) from ⟨?_,out.toList,c,cQ a1,?_⟩),rfl,q _ (I.hok.fresh (Nat.le_succ _))⟩
 · rw [List.length_map,kn,List.length_mergeSort]
   have:(64:Nat)<=sizeLine:=by decide
   omega
 · rw [hc']
theorem mG:∀ (us:List Value) (a:Nat),(∀ j v,us[j]?=some v->∃ t,v=Value.int ((a + j:Nat):Int) t)->Vals ((List.range' a us.length).map λ(k:Nat)=>V.int (k:Int)) us
 | [],_,_=>.nil
 | u :: us,a,h=>by
   rw [List.length_cons,List.range'_succ,List.map_cons]
   obtain ⟨t,e⟩:=h 0 u rfl
   exact .cons ⟨t,e⟩ (mG us (a + 1) λj v hj=>by
     obtain ⟨t,rfl⟩:=h (j + 1) v hj
     exact ⟨t,by congr 1; omega⟩)
theorem wc (hc:X.calm=true) {pins:List (Addr × Obj)} {s:Shared} {σ:L2.St} {H:Hp} {n:Nat} {us:List Value} {Q:VK} (I:Inv X pins σ H s) (r:Vals [.int (n:Int)] us) (hn:n < 1000) (q:∀ p,H p=none->Q (.ref p) (upd H p (.lst ((List.range n).map λ(k:Nat)=>V.int (k:Int))))) :
   wpAny (model X.prog X.w) X.A (call (.type "range") us) (λv s2=>wpAny (model X.prog X.w) X.A (call (.type "list") [v]) (EP X pins σ Q) X.xe s2) X.xe s:=by
 obtain ⟨u,rfl,ru⟩:=vals1 r
 obtain ⟨t,rfl⟩:=ru
 refine call_range_1 ?_
 have I1:Inv X pins σ H { s with heap:=s.heap.push { cls:=.type "range",data:=.fields #[.int 0 s.toks,.int n t,.int 1 (s.toks + 1)] },toks:=s.toks + 1 + 1 }:=I.kept λb o e=>Heap.get?_push_of_some _ e
 refine call_list_range (n:=n) (I.ok.hd hc) (IsRange.new _ _ _ _ _ _ _) ?_ ?_ (by omega) λh' tk acc c kp e' it=>?_
 · exact small_one (by omega) (by omega) (by omega) (by omega)
 · rw [rangeSize_one]; split <;> omega
 · obtain ⟨i1,i2⟩:=it
   have vv:Vals ((List.range n).map λ(k:Nat)=>V.int (k:Int)) acc.toList:=by
     have:=mG acc.toList 0 λj v hj=>by
       rw [Array.getElem?_toList] at hj
       obtain ⟨t,rfl⟩:=i2 j v hj
       exact ⟨t,by congr 1; omega⟩
     rw [Array.length_toList,i1,<- List.range_eq_range'] at this
     exact this
   refine ⟨.ref _,upd H (s.heap.push { cls:=.type "range",data:=.fields #[.int 0 s.toks,.int n t,.int 1 (s.toks + 1)] }).objs.size (.lst ((List.range n).map λ(k:Nat)=>V.int (k:Int))),I1.laid (t':=tk) kp (Nat.le_refl _) (show ba X.prog X.w _ h' _ (.lst ((List.range n).map λ(k:Nat)=>V.int (k:Int))) from ⟨?_,acc.toList,c,vv,?_⟩),rfl,q _ (I1.hok.fresh (Nat.le_refl _))⟩
   · rw [List.length_map,List.length_range]
     have:(1000:Nat)<=sizeLine:=by decide
     omega
   · rw [e']
theorem vX {t:TA} (hc:X.calm=true) (hm:X.mg "list" = none) (hm2:X.mg "range" = none) {p p2 pos pos2:Pos} {e:Expr} (hg:Gl X "list") (hg2:Gl X "range") (ha:PA X [e] t)
   (he:starEach [e] X.env=(false,eval e X.env) :: starEach [] X.env):PE X (.Call (.Name "list" p) [.Call (.Name "range" p2) [e] [] pos2] [] pos) (λσ H Q=>t σ H λvs H1=>∃ n:Nat,vs=[.int (n:Int)]/\n < 1000/\∀ p,H1 p=none->Q (.ref p) (upd H1 p (.lst ((List.range n).map λ(k:Nat)=>V.int (k:Int))))):=by
 intro pins s σ H Q I h
 refine wpAny_Call_Name_kw (cH I hg hm (by decide +kernel:bootBuiltins "list" = some (.type "list")) ?_ (by decide) (by decide))
 refine PyProof.Rows.callWith_type1 ?_ rfl rfl
 refine Calls.spliced_cons ?_
 refine wpAny_Call_Name_kw (cH I hg2 hm2 (by decide +kernel:bootBuiltins "range" = some (.type "range")) ?_ (by decide) (by decide))
 refine PyProof.Rows.callWith_type1 (thn (ha pos2 pins s σ H _ I h) λus s1 ⟨vs,H1,I1,r1,n,ev,hn,q1⟩=>?_) he rfl
 subst ev
 exact thn (wc hc I1 r1 hn q1) λv s2 z=>Calls.spliced_nil z
end
section
variable {X:Cx} {C:Bool} {τ:List Sl} {e it:Expr} {pos p q p2 pos2 tp ip vp rp ap cp p1:Pos} {k:Nat} {N:Po} {rest:List Stmt} {scope:Scope}
theorem xQ {n:Nat} (B:Bk X k) (h:PE X e (dE X.K C τ (.d (.int (n:Nat))))) (hn:n < 1000) (hg:Gl X "list":=by rfl) (hg2:Gl X "range":=by rfl) (hs:starEach [e] X.env=(false,eval e X.env) :: starEach [] X.env:=by rfl):PE X (.Call (.Name "list" p) [.Call (.Name "range" p2) [e] [] pos2] [] pos) (dE X.K C τ (.o (((List.range n).map λk:Nat=>(k:Int)).map .int))):=
 peW (vX B.calm (B.blt _ (by decide)) (B.blt _ (by decide)) hg hg2 (ae h ag hs) hs) λσ H Q ⟨A,H₀,B,S,k⟩=>d9 S λvs H1 e1 d1=>by
   cases d1 with
   | cons d r=>
     cases r
     cases d
     refine ⟨n,rfl,hn,λp hp=>?_⟩
     refine k _ _ [p] (e1.trans (aq hp _)) (λb hb=>by rw [List.mem_singleton.mp hb]; exact ⟨e1.free hp,_,aw⟩) ⟨p,_,rfl,rfl,aw,?_⟩
     have:=i8 (K:=X.K) (G:=hd (upd H1 p (.lst ((List.range n).map λ(k:Nat)=>V.int (k:Int)))) λb=>vw C A B b\/b ∈ [p]) ((List.range n).map λk:Nat=>(k:Int))
     rw [List.map_map] at this
     exact this
noncomputable def fh:List Int->List Int->List Int × List Int
 | xs,[]=>([],xs)
 | xs,i :: ps=>let r:=fh (xs.eraseIdx i.toNat) ps; (xs.getD i.toNat 0 :: r.1,r.2)
noncomputable def jy:List Int->List Int->Prop
 | _,[]=>True
 | xs,i :: ps=>0<=i/\i < xs.length/\jy (xs.eraseIdx i.toNat) ps
noncomputable def fL (xs ps:List Int):Nat->List Int
 | 0=>xs
 | t + 1=>(fL xs ps t).eraseIdx (ps.getD t 0).toNat
theorem gA (xs ps:List Int) (i:Int):∀ t,fL xs (i :: ps) (t + 1)=fL (xs.eraseIdx i.toNat) ps t
 | 0=>rfl
 | t + 1=>by rw [fL,gA xs ps i t]; rfl
theorem mT:∀ {ps xs:List Int},jy xs ps->∀ t,t < ps.length->0<=ps.getD t 0/\ps.getD t 0 < (fL xs ps t).length
 | i :: ps,xs,h,0,_=>⟨h.1,h.2.1⟩
 | i :: ps,xs,h,t + 1,ht=>by
   rw [gA]
   exact mT (ps:=ps) h.2.2 t (by simpa using ht)
theorem kS:∀ (ps xs:List Int),(fh xs ps).1=(List.range ps.length).map λt=>(fL xs ps t).getD (ps.getD t 0).toNat 0
 | [],_=>rfl
 | i :: ps,xs=>by
   rw [List.length_cons,List.range_succ_eq_map,List.map_cons,List.map_map,fh]
   simp only
   rw [kS ps]
   refine List.cons_eq_cons.mpr ⟨rfl,List.map_congr_left λt _=>?_⟩
   simp only [Function.comp]
   rw [gA]
   rfl
theorem lg (xs ps:List Int):∀ t,(fL xs ps t).length<=xs.length
 | 0=>Nat.le_refl _
 | t + 1=>by rw [fL]; exact Nat.le_trans (gf _ _) (lg xs ps t)
theorem tJ {α β:Type} (g:α->β):∀ (xs:List α) (i:Nat),(xs.eraseIdx i).map g=(xs.map g).eraseIdx i
 | [],_=>rfl
 | _ :: _,0=>rfl
 | x :: xs,i + 1=>by rw [List.map_cons,List.eraseIdx_cons_succ,List.eraseIdx_cons_succ,List.map_cons,tJ g xs i]
theorem rK (j il ii:Nat) {nm nv:Str} {xs ps:List Int} (B:Bk X k) (hj:τ[j]?=some (.o (xs.map .int))) (hi:PI X (.Name nv tp) it (dI X.K τ (ps.map .int))) (ok:jy xs ps) (hx:xs.length < 1000) (hp:ps.length < 64) (h:N.rt (.o ((kn (fh xs ps).1).map .int)))
   (hc:bOk X.env.scope scope=true:=by kernel_rfl) (hil:(bCp X.N scope)[il]?=some (some j):=by rfl) (hii:(bCp X.N scope)[ii]?=some none:=by rfl) (hNl:(bNm scope++[("#" : Str)])[il]?=some nm:=by rfl) (hNi:(bNm scope++[("#" : Str)])[ii]?=some nv:=by rfl)
   (hvl:∀ s H fp,Vis (cpX X s H scope fp).env.scope nm:=by intro _ _ _; first | exact Or.inl rfl | exact Or.inr (Or.inl rfl) | exact Or.inr (Or.inr rfl)) (hvi:∀ s H fp,Vis (cpX X s H scope fp).env.scope nv:=by intro _ _ _; first | exact Or.inl rfl | exact Or.inr (Or.inl rfl) | exact Or.inr (Or.inr rfl))
   (hlo:∀ s H fp,Loc (cpX X s H scope fp).env.scope nv:=by intro _ _ _; first | exact .inl rfl | exact .inr rfl) (hlf:∀ s H fp,(cpX X s H scope fp).fn nv=true\/(cpX X s H scope fp).env.scope.names.lookup nv=some .local:=by intro _ _ _; first | exact .inr rfl | exact .inl rfl)
   (d1:(nm == ("__debug__" : Str))=false:=by decide) (d2:(nm == ("__classdict__" : Str))=false:=by decide) (d3:(nv == ("__debug__" : Str))=false:=by decide) (d4:(nv == ("__classdict__" : Str))=false:=by decide)
   (hline:(ap.endLine == cp.line)=true:=by rfl) (hs:∀ x,foldedSetIterable it X.env x=pure x:=by intro _; rfl) (hg:Gl X "sorted":=by rfl) :
   PSs X (.Return (some (.Call (.Name "sorted" p1) [.ListComp (.Call (.Attribute (.Name nm q) "pop" ap) [.Name nv vp] [] cp) [⟨.Name nv tp,it,[],0⟩] scope pos] [] pos2)) rp :: rest) (dS X.K τ N):=by
 obtain ⟨cap,nd⟩:=eH hc
 refine bp (M:=λ_=>False) (psW (nL (fB qu hg (B.blt _ (by decide)) (by decide +kernel) (br (bI (In:=λg tt te=>g=tI ii/\tt=(λσ H Q=>Q true H)/\te=tBM X.K "list" rE (uH il) (vg (uH ii) yb)) cap hi hs ?_) cu rfl) (by decide) (by decide) rfl rfl)) λDn σ H ⟨A,H₀,B,S,Me⟩=>?_) λ_ e=>e.elim
 · rintro g tt te ⟨rfl,rfl,rfl⟩ s H fp
   exact ⟨eI nd hNi (hlo s H fp) (hlf s H fp),kN,l6 PySem.F.plainAttrs_list PySem.F.slot_list_pop PySem.F.type_list_pop rh (bw hNl (hvl s H fp) d1 d2) (br (bw hNi (hvi s H fp) d3 d4) cu rfl) rfl rfl hline rfl rfl⟩
 refine ⟨A,H₀,B,S,λJ H1 e1 yl=>⟨_,_,_,⟨rfl,rfl,rfl⟩,λDd hD=>?_⟩⟩
 have S1:=S.mono e1
 obtain ⟨d,vs,hB,hσ,hd1,hd2⟩:=S1.sl j _ hj
 have ev:=jJ hd2
 subst ev
 have dD:d ≠ Dd:=λz=>by rw [z,hD] at hd1; cases hd1
 have own_d:own A B d:=.inr ⟨j,by rw [hB]; exact List.mem_singleton.mpr rfl⟩
 have f0:H₀ d=none:=S1.fr j d (by rw [hB]; exact List.mem_singleton.mpr rfl)
 have capl:(cw σ (bCp X.N scope)++[some (V.ref Dd)])[il]?=some (some (V.ref d)):=by
   have hlt:il < (bCp X.N scope).length:=(List.getElem?_eq_some_iff.mp hil).1
   rw [List.getElem?_append_left (by unfold cw; rw [List.length_map]; exact hlt)]
   unfold cw
   rw [List.getElem?_map,hil]
   simpa using hσ
 have ile:il ≠ ii:=λz=>by rw [z,hii] at hil; cases hil
 have hiil:ii < (cw σ (bCp X.N scope)++[some (V.ref Dd)]).length:=by
   rw [List.length_append]
   have:ii < (bCp X.N scope).length:=(List.getElem?_eq_some_iff.mp hii).1
   unfold cw
   rw [List.length_map]
   omega
 refine ⟨λi m σ' H'=>m=ps.length - i/\i<=ps.length/\σ'[il]?=some (some (.ref d))/\ii < σ'.length/\H' d=some (.lst ((fL xs ps i).map V.int))/\H' Dd=some (.lst (((List.range i).map λt=>(fL xs ps t).getD (ps.getD t 0).toNat 0).map V.int))/\∀ b o,b ≠ d->H1 b=some o->H' b=some o,⟨ps.length,rfl,Nat.zero_le _,capl,hiil,by rw [ao dD]; exact hd1,aw,λb o hb z=>by rw [ao (λy=>by rw [y,hD] at z; cases z)]; exact z⟩,?_⟩
 rintro i m σ' H' ⟨rfl,hi',s1,s2,h1,h2,h3⟩
 have smH:ah (Hy.hd H1 (own A B)) H':=λb o z=>by
   obtain ⟨z1,z2⟩:=ai.mp z
   exact h3 b o (λy=>z1 (y ▸ own_d)) z2
 obtain ⟨y1,y2⟩:=yl H' smH
 by_cases hlt:i < ps.length
 · obtain ⟨g,y⟩:=y2 i (by simpa using hlt)
   refine .inr ⟨g,λx H2 hy=>?_⟩
   obtain ⟨e3,dx⟩:=y x H2 hy
   have dx:=dx (λb=>b=d\/own A B b) (λb z=>by
     rcases z with z | z
     · rw [z]; exact ⟨_,h1⟩
     · obtain ⟨o,q⟩:=S1.dm b z
       by_cases e:b=d
       · rw [e]; exact ⟨_,h1⟩
       · exact ⟨o,h3 b o e q⟩) (λb o z=>by
     obtain ⟨z1,z2⟩:=ai.mp z
     exact ai.mpr ⟨λw=>w.elim (λw=>z1 (w ▸ own_d)) z1,h3 b o (λy=>z1 (y ▸ own_d)) z2⟩)
   have ex:x=.int (ps.getD i 0):=by
     have:(ps.map D.int)[i]'(by simpa using hlt)=.int (ps.getD i 0):=by simp [hlt]
     rw [this] at dx
     cases dx
     rfl
   subst ex
   have q1:=e3 _ _ h1
   have q2:=e3 _ _ h2
   obtain ⟨b1,b2⟩:=mT ok i hlt
   have lR:=lg xs ps i
   have kx:(ps.getD i 0).toNat < (fL xs ps i).length:=by omega
   refine ⟨V.ref d,by rw [List.getElem?_set_ne (Ne.symm ile)]; exact s1,.inl ⟨rfl,_,SqL.of q1⟩,_,by rw [List.getElem?_set_self s2],d,_,ps.getD i 0,(ps.getD i 0).toNat,.int ((fL xs ps i).getD (ps.getD i 0).toNat 0),rfl,rfl,q1,by omega,by omega,?_,?_,?_⟩
   · exact PySem.StrLaws.seqIndex_nonneg b1 (by rw [List.length_map]; exact b2)
   · rw [List.getElem?_map,List.getD_eq_getElem?_getD (l:=fL xs ps i),List.getElem?_eq_getElem kx]
     rfl
   · refine ⟨_,ps.length - (i + 1),by rw [ao (Ne.symm dD)]; exact q2,?_,by omega,rfl,hlt,by rw [List.getElem?_set_ne (Ne.symm ile)]; exact s1,by rw [List.length_set]; exact s2,?_,?_,λb o hb z=>?_⟩
     · rw [List.length_map,List.length_map,List.length_range]
       have:(64:Nat)<=sizeLine:=by decide
       omega
     · rw [ao dD,aw,fL,tJ]
     · rw [aw,List.range_succ,List.map_append,List.map_append]
       rfl
     · have hD2:b ≠ Dd:=λy=>by rw [y,hD] at z; cases z
       rw [ao hD2,ao hb]
       exact e3 _ _ (h3 b o hb z)
 · have e:i=ps.length:=by omega
   subst e
   refine .inl ⟨y1 _ (by simp),Dd,(fh xs ps).1,rfl,SqL.of (by rw [kS]; exact h2),?_,λqn hq=>?_⟩
   · rw [kS,List.length_map,List.length_range]; exact hp
   have sm:ah H₀ H':=λb o z=>h3 b o (λy=>by rw [y,f0] at z; cases z) (S1.same b o z)
   refine Me.rt (.ref qn) _ [qn] _ h (sm.trans (aq hq _)) (λb hb=>by rw [List.mem_singleton.mp hb]; exact ⟨sm.free hq,_,aw⟩) ⟨qn,_,rfl,rfl,aw,i8 _⟩
end
end Hy
namespace PySem
set_option maxRecDepth 100000
section
variable {prog:Program} {w:World} {A:Around} {E:Value->Shared->Prop} {s:Shared} {I l:Addr} {items:Array Value} {R:Result->Shared->Prop}
end
end PySem
namespace Hy
open PySem PySem.Spec PyProof.Rows L2
open Ev (D Den ar aq)
section
variable {X:Cx}
end
section
variable {X:Cx} {C:Bool} {τ:List Sl} {e:Expr} {p p2 pos pos2:Pos} {k:Nat}
end
end Hy
namespace So
open PySem PyProof.Rows
noncomputable def cy:Bool->Keyed->Array Keyed->Nat->Nat->Nat->StateT SortSt Sem (Option Nat):=sortPriv% PySem.Builtin.gallop
noncomputable def jd:Array Keyed->Array Keyed->StateT SortSt Sem (Array Keyed):=sortPriv% PySem.Builtin.mergeLo
noncomputable def iK:Array Keyed->Array Keyed->StateT SortSt Sem (Array Keyed):=sortPriv% PySem.Builtin.mergeHi
noncomputable def iF:Nat->StateT SortSt Sem Unit:=sortPriv% PySem.Builtin.setMinGallop
theorem eF (g:Nat):iF g=modify λs=>SortSt.mk' (kindOf s) (arrOf s) (pendingOf s) g (failedOf s):=rfl
noncomputable def bey (left:Bool) (key:Keyed) (arr:Array Keyed) (base i:Nat):StateT SortSt Sem (Option Bool):=do
 let x <- elem' arr (base + i)
 if left then lt' x key else return (<- lt' key x).map (!·)
theorem nk (left:Bool) (key:Keyed) (arr:Array Keyed) (base n hint:Nat):cy left key arr base n hint=(do
 let mut lastofs:=0
 let mut ofs:=1
 let mut lo:=0
 let mut hi:=0
 let some right <- bey left key arr base hint | return none
 if right then
   let maxofs:=n - hint
   for _ in [0:n] do
     if ofs ≥ maxofs then break
     let some more <- bey left key arr base (hint + ofs) | return none
     if !more then break
     lastofs:=ofs
     ofs:=2 * ofs + 1
   lo:=hint + lastofs + 1
   hi:=hint + min ofs maxofs
 else
   let maxofs:=hint + 1
   for _ in [0:n] do
     if ofs ≥ maxofs then break
     let some found <- bey left key arr base (hint - ofs) | return none
     if found then break
     lastofs:=ofs
     ofs:=2 * ofs + 1
   lo:=hint + 1 - min ofs maxofs
   hi:=hint - lastofs
 for _ in [0:n] do
   if lo ≥ hi then break
   let m:=lo + (hi - lo) / 2
   let some more <- bey left key arr base m | return none
   if more then lo:=m + 1 else hi:=m
 return some hi):=rfl
section
variable {prog:Program} {w:World} {A:Around} {E:Value->Shared->Prop} {s:Shared} {a₀:Array Keyed} {L:Value->Value->Bool}
noncomputable def gd (prog:Program) (w:World) (A:Around) (s:Shared) (L:Value->Value->Bool) (a₀:Array Keyed):Prop:=
 ∀ p ∈ a₀.toList,∀ q ∈ a₀.toList,∀ (E:Value->Shared->Prop) (Q:Bool->Shared->Prop),Q (L p.1 q.1) s->wpAny (model prog w) A (oneLt' true p.1 q.1) Q E s
theorem aI {arr:Array Keyed} {i:Nat} {p:Keyed} {st:SortSt} {Q:Keyed->SortSt->Prop} (h:arr[i]?=some p) (q:Q p st):wpS (model prog w) A E s (elem' arr i) Q st:=by
 rw [elem'_eq,h]
 exact wpS_pure q
theorem je (hL:gd prog w A s L a₀) {p q:Keyed} {st:SortSt} {Q:Option Bool->SortSt->Prop} (hp:p ∈ a₀.toList) (hq:q ∈ a₀.toList) (hk:kindOf st=oneType') (h:Q (some (L p.1 q.1)) st):wpS (model prog w) A E s (lt' p q) Q st:=by
 rw [lt'_eq]
 refine wpS_bind (wpS_get ?_)
 rw [hk,keyLt'_oneType]
 refine wpS_bind (wpS_lift (wpAny_attempt (hL p hp q hq _ _ ⟨rfl,?_⟩)))
 exact wpS_pure h
theorem fH (hL:gd prog w A s L a₀) {left:Bool} {key p:Keyed} {arr:Array Keyed} {base i:Nat} {st:SortSt} {Q:Option Bool->SortSt->Prop} (hkey:key ∈ a₀.toList) (hi:arr[base + i]?=some p) (hp:p ∈ a₀.toList) (hk:kindOf st=oneType')
   (h:Q (some (if left then L p.1 key.1 else !L key.1 p.1)) st):wpS (model prog w) A E s (bey left key arr base i) Q st:=by
 unfold bey
 refine wpS_bind (aI hi ?_)
 cases left with
 | true=>exact je hL hp hkey hk h
 | false=>exact wpS_bind (je hL hkey hp hk (wpS_pure h))
noncomputable def Fnd (n:Nat) (B:Nat->Bool) (k:Nat):Prop:=k<=n/\((∀ i j,i<=j->j < n->B j=true->B i=true)->(∀ i,i < k->B i=true)/\∀ i,k<=i->i < n->B i=false)
theorem bE (hL:gd prog w A s L a₀) {left:Bool} {key:Keyed} {arr:Array Keyed} {base n hint:Nat} (B:Nat->Bool) {st:SortSt} {Q:Option Nat->SortSt->Prop} (hkey:key ∈ a₀.toList) (harr:∀ i,i < n->∃ p,arr[base + i]?=some p/\p ∈ a₀.toList/\(if left then L p.1 key.1 else !L key.1 p.1)=B i) (hh:hint < n) (hk:kindOf st=oneType')
   (h:∀ k,Fnd n B k->Q (some k) st):wpS (model prog w) A E s (cy left key arr base n hint) Q st:=by
 rw [nk]
 obtain ⟨p,hp,hpm,eB⟩:=harr hint hh
 refine wpS_bind (fH hL hkey hp hpm hk ?_)
 rw [eB]
 dsimp only
 cases e0:B hint with
 | true=>
   rw [if_pos rfl]
   refine wpS_bind (wpS_mono (wpS_forRange (I:=λx c st'=>st=st'/\∃ l o,c=(none,l,o)/\x + 1<=o/\l < o/\hint + l < n/\B (hint + l)=true) (Q:=λc st'=>st=st'/\∃ l o,c=(none,l,o)/\l < o/\hint + l < n/\B (hint + l)=true/\(n - hint<=o\/B (hint + o)=false)) ?step ?fin ⟨rfl,0,1,rfl,by omega,by omega,by omega,e0⟩) ?post)
   case fin=>
     rintro c st' ⟨rfl,l,o,rfl,a1,a2,a3,a4⟩
     exact ⟨rfl,l,o,rfl,a2,a3,a4,.inl (by omega)⟩
   case step=>
     rintro x c st' _ hx ⟨rfl,l,o,rfl,a1,a2,a3,a4⟩
     dsimp only
     by_cases hlt:o ≥ n - hint
     · rw [if_pos hlt]
       exact wpS_pure ⟨rfl,l,o,rfl,a2,a3,a4,.inl hlt⟩
     · rw [if_neg hlt]
       obtain ⟨p,hp,hpm,eB⟩:=harr (hint + o) (by omega)
       refine wpS_bind (fH hL hkey hp hpm hk ?_)
       rw [eB]
       dsimp only
       cases e:B (hint + o) with
       | true=>
         rw [if_neg (by decide)]
         exact wpS_pure ⟨rfl,o,_,rfl,by omega,by omega,by omega,e⟩
       | false=>
         rw [if_pos (by decide)]
         exact wpS_pure ⟨rfl,l,o,rfl,a2,a3,a4,.inr e⟩
   case post=>
     rintro c st' ⟨rfl,l,o,rfl,a2,a3,a4,a5⟩
     dsimp only
     have hB:(∀ i j,i<=j->j < n->B j=true->B i=true)->(∀ i,i < hint + l + 1->B i=true)/\∀ i,hint + min o (n - hint)<=i->i < n->B i=false:=by
       refine λm=>⟨λi hi=>m i _ (by omega) a3 a4,λi h1 h2=>?_⟩
       cases e2:B i with
       | false=>rfl
       | true=>
         rcases a5 with a5 | a5
         · omega
         · rw [m (hint + o) i (by omega) h2 e2] at a5; cases a5
     have h1:hint + l + 1<=hint + min o (n - hint):=by omega
     have h2:hint + min o (n - hint)<=n:=by omega
     generalize hint + l + 1=lo at h1 hB
     generalize hint + min o (n - hint)=hi at h1 h2 hB
     let M:=λ(lo hi:Nat)=>(∀ i j,i<=j->j < n->B j=true->B i=true)->(∀ i,i < lo->B i=true)/\∀ i,hi<=i->i < n->B i=false
     refine wpS_bind (wpS_mono (wpS_forRange (I:=λx c st'=>st=st'/\∃ lo hi,c=(none,lo,hi)/\lo<=hi/\hi<=n/\hi<=lo + (n - x)/\M lo hi) (Q:=λc st'=>st=st'/\∃ k,c=(none,k,k)/\Fnd n B k) ?step3 ?fin3 ⟨rfl,lo,hi,rfl,h1,h2,by omega,hB⟩) ?post3)
     case fin3=>
       rintro c st' ⟨rfl,lo,hi,rfl,a1,a2,a3,a4⟩
       have:lo=hi:=by omega
       subst this
       exact ⟨rfl,lo,rfl,a2,a4⟩
     case step3=>
       rintro x c st' _ hx ⟨rfl,lo,hi,rfl,a1,a2,a3,a4⟩
       dsimp only
       by_cases hlt:lo ≥ hi
       · rw [if_pos hlt]
         have:lo=hi:=by omega
         subst this
         exact wpS_pure ⟨rfl,lo,rfl,a2,a4⟩
       · rw [if_neg hlt]
         obtain ⟨p,hp,hpm,eB⟩:=harr (lo + (hi - lo) / 2) (by omega)
         refine wpS_bind (fH hL hkey hp hpm hk ?_)
         rw [eB]
         dsimp only
         cases e:B (lo + (hi - lo) / 2) with
         | true=>
           rw [if_pos rfl]
           exact wpS_pure ⟨rfl,_,_,rfl,by omega,a2,by omega,λm=>⟨λi hi=>m i _ (by omega) (by omega) e,(a4 m).2⟩⟩
         | false=>
           rw [if_neg (by decide)]
           refine wpS_pure ⟨rfl,_,_,rfl,by omega,by omega,by omega,λm=>⟨(a4 m).1,λi h1 h2=>?_⟩⟩
           cases e2:B i with
           | false=>rfl
           | true=>rw [m _ i h1 h2 e2] at e; cases e
     case post3=>
       rintro c st' ⟨rfl,k,rfl,hk⟩
       exact wpS_pure (h k hk)
 | false=>
   rw [if_neg (by decide)]
   refine wpS_bind (wpS_mono (wpS_forRange (I:=λx c st'=>st=st'/\∃ l o,c=(none,l,o)/\x + 1<=o/\l < o/\l<=hint/\B (hint - l)=false) (Q:=λc st'=>st=st'/\∃ l o,c=(none,l,o)/\l < o/\l<=hint/\B (hint - l)=false/\(hint + 1<=o\/B (hint - o)=true)) ?step2 ?fin2 ⟨rfl,0,1,rfl,by omega,by omega,by omega,e0⟩) ?post2)
   case fin2=>
     rintro c st' ⟨rfl,l,o,rfl,a1,a2,a3,a4⟩
     exact ⟨rfl,l,o,rfl,a2,a3,a4,.inl (by omega)⟩
   case step2=>
     rintro x c st' _ hx ⟨rfl,l,o,rfl,a1,a2,a3,a4⟩
     dsimp only
     by_cases hlt:o ≥ hint + 1
     · rw [if_pos hlt]
       exact wpS_pure ⟨rfl,l,o,rfl,a2,a3,a4,.inl hlt⟩
     · rw [if_neg hlt]
       obtain ⟨p,hp,hpm,eB⟩:=harr (hint - o) (by omega)
       refine wpS_bind (fH hL hkey hp hpm hk ?_)
       rw [eB]
       dsimp only
       cases e:B (hint - o) with
       | false=>
         rw [if_neg (by decide)]
         exact wpS_pure ⟨rfl,o,_,rfl,by omega,by omega,by omega,e⟩
       | true=>
         rw [if_pos rfl]
         exact wpS_pure ⟨rfl,l,o,rfl,a2,a3,a4,.inr e⟩
   case post2=>
     rintro c st' ⟨rfl,l,o,rfl,a2,a3,a4,a5⟩
     dsimp only
     have hB:(∀ i j,i<=j->j < n->B j=true->B i=true)->(∀ i,i < hint + 1 - min o (hint + 1)->B i=true)/\∀ i,hint - l<=i->i < n->B i=false:=by
       refine λm=>⟨λi hi=>?_,λi h1 h2=>?_⟩
       · rcases a5 with a5 | a5
         · omega
         · exact m i (hint - o) (by omega) (by omega) a5
       · cases e2:B i with
         | false=>rfl
         | true=>rw [m (hint - l) i h1 h2 e2] at a4; cases a4
     have h1:hint + 1 - min o (hint + 1)<=hint - l:=by omega
     have h2:hint - l<=n:=by omega
     generalize hint + 1 - min o (hint + 1)=lo at h1 hB
     generalize hint - l=hi at h1 h2 hB
     let M:=λ(lo hi:Nat)=>(∀ i j,i<=j->j < n->B j=true->B i=true)->(∀ i,i < lo->B i=true)/\∀ i,hi<=i->i < n->B i=false
     refine wpS_bind (wpS_mono (wpS_forRange (I:=λx c st'=>st=st'/\∃ lo hi,c=(none,lo,hi)/\lo<=hi/\hi<=n/\hi<=lo + (n - x)/\M lo hi) (Q:=λc st'=>st=st'/\∃ k,c=(none,k,k)/\Fnd n B k) ?step4 ?fin4 ⟨rfl,lo,hi,rfl,h1,h2,by omega,hB⟩) ?post4)
     case fin4=>
       rintro c st' ⟨rfl,lo,hi,rfl,a1,a2,a3,a4⟩
       have:lo=hi:=by omega
       subst this
       exact ⟨rfl,lo,rfl,a2,a4⟩
     case step4=>
       rintro x c st' _ hx ⟨rfl,lo,hi,rfl,a1,a2,a3,a4⟩
       dsimp only
       by_cases hlt:lo ≥ hi
       · rw [if_pos hlt]
         have:lo=hi:=by omega
         subst this
         exact wpS_pure ⟨rfl,lo,rfl,a2,a4⟩
       · rw [if_neg hlt]
         obtain ⟨p,hp,hpm,eB⟩:=harr (lo + (hi - lo) / 2) (by omega)
         refine wpS_bind (fH hL hkey hp hpm hk ?_)
         rw [eB]
         dsimp only
         cases e:B (lo + (hi - lo) / 2) with
         | true=>
           rw [if_pos rfl]
           exact wpS_pure ⟨rfl,_,_,rfl,by omega,a2,by omega,λm=>⟨λi hi=>m i _ (by omega) (by omega) e,(a4 m).2⟩⟩
         | false=>
           rw [if_neg (by decide)]
           refine wpS_pure ⟨rfl,_,_,rfl,by omega,by omega,by omega,λm=>⟨(a4 m).1,λi h1 h2=>?_⟩⟩
           cases e2:B i with
           | false=>rfl
           | true=>rw [m _ i h1 h2 e2] at e; cases e
     case post4=>
       rintro c st' ⟨rfl,k,rfl,hk⟩
       exact wpS_pure (h k hk)
end
theorem ma (a b:Array Keyed):jd a b=(do
 rule "list.sort.merge-lo"
 let total:=a.size + b.size
 let done (out:Array Keyed) (ia ib:Nat):=out++a.extract ia a.size++b.extract ib b.size
 let lastOfA (out:Array Keyed) (ia ib:Nat):=out++b.extract ib b.size++a.extract ia a.size
 let mut out:Array Keyed:=#[<- elem' b 0]
 let mut ia:=0
 let mut ib:=1
 if ib == b.size then return done out ia ib
 if ia + 1 == a.size then return lastOfA out ia ib
 let mut minGallop:=gallopOf (<- get)
 for _ in [0:total] do
   let mut acount:=0
   let mut bcount:=0
   for _ in [0:total] do
     let some bWins <- lt' (<- elem' b ib) (<- elem' a ia) | return done out ia ib
     if bWins then
       out:=out.push (<- elem' b ib); ib:=ib + 1; bcount:=bcount + 1; acount:=0
       if ib == b.size then return done out ia ib
       if bcount ≥ minGallop then break
     else
       out:=out.push (<- elem' a ia); ia:=ia + 1; acount:=acount + 1; bcount:=0
       if ia + 1 == a.size then return lastOfA out ia ib
       if acount ≥ minGallop then break
   rule "list.sort.gallop"
   minGallop:=minGallop + 1
   for _ in [0:total] do
     if minGallop > 1 then minGallop:=minGallop - 1
     iF minGallop
     let some k <- cy false (<- elem' b ib) a ia (a.size - ia) 0 | return done out ia ib
     acount:=k
     if k > 0 then
       out:=out++a.extract ia (ia + k); ia:=ia + k
       if ia + 1 == a.size then return lastOfA out ia ib
       if ia == a.size then return done out ia ib
     out:=out.push (<- elem' b ib); ib:=ib + 1
     if ib == b.size then return done out ia ib
     let some k <- cy true (<- elem' a ia) b ib (b.size - ib) 0 | return done out ia ib
     bcount:=k
     if k > 0 then
       out:=out++b.extract ib (ib + k); ib:=ib + k
       if ib == b.size then return done out ia ib
     out:=out.push (<- elem' a ia); ia:=ia + 1
     if ia + 1 == a.size then return lastOfA out ia ib
     if acount < 7 && bcount < 7 then break
   minGallop:=minGallop + 1
   iF minGallop
 unsupported "internal:list.sort.merge-bound"):=rfl
noncomputable def Le (L:Value->Value->Bool) (p q:Keyed):Prop:=L q.1 p.1=false
structure Sw (L:Value->Value->Bool):Prop where
 asy:∀ x y,L x y=true->L y x=false
 ng:∀ x y z,L x z=true->L x y=true\/L y z=true
theorem Sw.le {L:Value->Value->Bool} (h:Sw L) {p q r:Keyed} (h1:Le L p q) (h2:Le L q r):Le L p r:=by
 unfold Le at *
 cases e:L r.1 p.1 with
 | false=>rfl
 | true=>rcases h.ng _ q.1 _ e with e | e <;> simp_all
theorem Sw.lt {L:Value->Value->Bool} (h:Sw L) {p q:Keyed} (h1:L p.1 q.1=true):Le L p q:=h.asy _ _ h1
structure GL (L:Value->Value->Bool) (a b:List Keyed):Prop where
 sw:Sw L
 sa:a.Pairwise (Le L)
 sb:b.Pairwise (Le L)
 first:∀ p,b[0]?=some p->∀ q ∈ a,Le L p q
 last:∀ q,a[a.length - 1]?=some q->∀ p ∈ b,Le L p q
noncomputable def Res (L:Value->Value->Bool) (a b r:List Keyed):Prop:=r.Perm (a++b)/\(GL L a b->r.Pairwise (Le L))
structure MS (L:Value->Value->Bool) (a b o:List Keyed) (ia ib:Nat):Prop where
 perm:(o++(a.drop ia++b.drop ib)).Perm (a++b)
 srt:GL L a b->(o++a.drop ia).Pairwise (Le L)/\(o++b.drop ib).Pairwise (Le L)
variable {L:Value->Value->Bool} {a b o:List Keyed} {ia ib:Nat}
theorem MS.lS (h:MS L a b o ia ib) (k:Nat) (hc:GL L a b->∀ x ∈ (a.drop ia).take k,∀ y ∈ b.drop ib,Le L x y):MS L a b (o++(a.drop ia).take k) (ia + k) ib:=by
 have e:(a.drop ia).take k++a.drop (ia + k)=a.drop ia:=by rw [<- List.drop_drop]; exact List.take_append_drop ..
 refine ⟨?_,λg=>?_⟩
 · rw [List.append_assoc,<- List.append_assoc ((a.drop ia).take k),e]
   exact h.perm
 · obtain ⟨h1,h2⟩:=h.srt g
   rw [List.append_assoc,e]
   refine ⟨h1,?_⟩
   rw [List.pairwise_append] at h1 h2 ⊢
   refine ⟨?_,h2.2.1,λx hx y hy=>?_⟩
   · rw [List.pairwise_append]
     exact ⟨h1.1,h1.2.1.sublist (List.take_sublist ..),λx hx y hy=>h1.2.2 x hx y (List.mem_of_mem_take hy)⟩
   · rcases List.mem_append.mp hx with hx | hx
     · exact h2.2.2 x hx y hy
     · exact hc g x hx y hy
theorem MS.lJ (h:MS L a b o ia ib) (k:Nat) (hc:GL L a b->∀ x ∈ (b.drop ib).take k,∀ y ∈ a.drop ia,Le L x y):MS L a b (o++(b.drop ib).take k) ia (ib + k):=by
 have e:(b.drop ib).take k++b.drop (ib + k)=b.drop ib:=by rw [<- List.drop_drop]; exact List.take_append_drop ..
 refine ⟨?_,λg=>?_⟩
 · refine List.Perm.trans ?_ h.perm
   rw [List.append_assoc]
   refine List.Perm.append_left o ?_
   have:=List.perm_append_comm_assoc ((b.drop ib).take k) (a.drop ia) (b.drop (ib + k))
   rwa [e] at this
 · obtain ⟨h2,h1⟩:=h.srt g
   rw [List.append_assoc _ _ (b.drop (ib + k)),e]
   refine ⟨?_,h1⟩
   rw [List.pairwise_append] at h1 h2 ⊢
   refine ⟨?_,h2.2.1,λx hx y hy=>?_⟩
   · rw [List.pairwise_append]
     exact ⟨h1.1,h1.2.1.sublist (List.take_sublist ..),λx hx y hy=>h1.2.2 x hx y (List.mem_of_mem_take hy)⟩
   · rcases List.mem_append.mp hx with hx | hx
     · exact h2.2.2 x hx y hy
     · exact hc g x hx y hy
theorem take1 {l:List Keyed} {i:Nat} {p:Keyed} (h:l[i]?=some p):(l.drop i).take 1=[p]:=by
 obtain ⟨hi,rfl⟩:=List.getElem?_eq_some_iff.mp h
 rw [List.drop_eq_getElem_cons hi]
 rfl
theorem MS.mz (h:MS L a b o ia ib) {p:Keyed} (hp:a[ia]?=some p) (hc:GL L a b->∀ y ∈ b.drop ib,Le L p y):MS L a b (o++[p]) (ia + 1) ib:=by
 have:=h.lS 1 λg x hx y hy=>by
   rw [take1 hp] at hx
   rw [List.mem_singleton.mp hx]
   exact hc g y hy
 rwa [take1 hp] at this
theorem MS.lX (h:MS L a b o ia ib) {p:Keyed} (hp:b[ib]?=some p) (hc:GL L a b->∀ y ∈ a.drop ia,Le L p y):MS L a b (o++[p]) ia (ib + 1):=by
 have:=h.lJ 1 λg x hx y hy=>by
   rw [take1 hp] at hx
   rw [List.mem_singleton.mp hx]
   exact hc g y hy
 rwa [take1 hp] at this
theorem hW {l:List Keyed} {i:Nat} {p:Keyed} (hs:Sw L) (h:l.Pairwise (Le L)) (hp:l[i]?=some p):∀ y ∈ l.drop i,p=y\/Le L p y:=by
 obtain ⟨hi,rfl⟩:=List.getElem?_eq_some_iff.mp hp
 have h':=h.sublist (List.drop_sublist i l)
 rw [List.drop_eq_getElem_cons hi] at h' ⊢
 intro y hy
 rcases List.mem_cons.mp hy with rfl | hy
 · exact .inl rfl
 · exact .inr ((List.pairwise_cons.mp h').1 y hy)
theorem gW {l:List Keyed} {i:Nat} {p q:Keyed} (hs:Sw L) (h:l.Pairwise (Le L)) (hp:l[i]?=some p) (hq:Le L q p):∀ y ∈ l.drop i,Le L q y:=λy hy=>by
 rcases hW hs h hp y hy with rfl | z
 · exact hq
 · exact hs.le hq z
theorem MS.jY (h:MS L a b o ia ib) (hb:b.length<=ib):Res L a b (o++a.drop ia++b.drop ib):=by
 refine ⟨by rw [List.append_assoc]; exact h.perm,λg=>?_⟩
 rw [List.drop_of_length_le hb,List.append_nil]
 exact (h.srt g).1
theorem MS.jX (h:MS L a b o ia ib) (ha:a.length<=ia):Res L a b (o++a.drop ia++b.drop ib):=by
 refine ⟨by rw [List.append_assoc]; exact h.perm,λg=>?_⟩
 rw [List.drop_of_length_le ha,List.append_nil]
 exact (h.srt g).2
theorem MS.pO (h:MS L a b o ia ib) (ha:ia + 1=a.length):Res L a b (o++b.drop ib++a.drop ia):=by
 refine ⟨?_,λg=>?_⟩
 · refine List.Perm.trans ?_ h.perm
   rw [List.append_assoc]
   exact List.Perm.append_left o List.perm_append_comm
 · obtain ⟨h1,h2⟩:=h.srt g
   rw [List.pairwise_append]
   have h1':=List.pairwise_append.mp h1
   refine ⟨h2,h1'.2.1,λx hx y hy=>?_⟩
   rcases List.mem_append.mp hx with hx | hx
   · exact h1'.2.2 x hx y hy
   · have hl:ia < a.length:=by omega
     rw [List.drop_eq_getElem_cons hl,List.drop_of_length_le (by omega)] at hy
     rw [List.mem_singleton.mp hy]
     refine g.last _ ?_ x (List.mem_of_mem_drop hx)
     rw [show a.length - 1=ia by omega]
     exact List.getElem?_eq_getElem hl
theorem xt1 (a:Array Keyed) (i k:Nat):(a.extract i (i + k)).toList=(a.toList.drop i).take k:=by
 rw [Array.toList_extract,List.extract_eq_drop_take,Nat.add_sub_cancel_left]
theorem xt2 (a:Array Keyed) (i:Nat):(a.extract i a.size).toList=a.toList.drop i:=by
 rw [Array.toList_extract,List.extract_eq_drop_take,List.take_of_length_le (by rw [List.length_drop,Array.length_toList]; exact Nat.le_refl _)]
theorem toL (o a b:Array Keyed) (i j:Nat):(o++a.extract i a.size++b.extract j b.size).toList=o.toList++a.toList.drop i++b.toList.drop j:=by
 rw [Array.toList_append,Array.toList_append,xt2,xt2]
theorem elA (a:Array Keyed) {i:Nat} (h:i < a.size):∃ p,a[i]?=some p/\a.toList[i]?=some p/\p ∈ a.toList:=by
 refine ⟨a[i],Array.getElem?_eq_getElem h,?_,?_⟩
 · rw [Array.getElem?_toList]; exact Array.getElem?_eq_getElem h
 · exact Array.getElem_mem_toList h
noncomputable def Sg (st st':SortSt):Prop:=kindOf st'=kindOf st/\arrOf st'=arrOf st/\pendingOf st'=pendingOf st/\failedOf st'=failedOf st
theorem Sg.refl (st:SortSt):Sg st st:=⟨rfl,rfl,rfl,rfl⟩
theorem Sg.gal {st st':SortSt} (h:Sg st st') (g:Nat):Sg st (SortSt.mk' (kindOf st') (arrOf st') (pendingOf st') g (failedOf st')):=⟨h.1,h.2.1,h.2.2.1,h.2.2.2⟩
variable {L:Value->Value->Bool}
theorem tK {l:List Keyed} {i0 k:Nat} {x:Keyed} (hx:x ∈ (l.drop i0).take k):∃ i,i < k/\i0 + i < l.length/\l[i0 + i]?=some x:=by
 obtain ⟨i,hi⟩:=List.mem_iff_getElem?.mp hx
 rw [List.getElem?_take] at hi
 split at hi
 · rename_i h
   rw [List.getElem?_drop] at hi
   exact ⟨i,h,(List.getElem?_eq_some_iff.mp hi).1,hi⟩
 · cases hi
theorem pU {l:List Keyed} {i0:Nat} {x:Keyed} (hx:x ∈ l.drop i0):∃ i,i0 + i < l.length/\l[i0 + i]?=some x:=by
 obtain ⟨i,hi⟩:=List.mem_iff_getElem?.mp hx
 rw [List.getElem?_drop] at hi
 exact ⟨i,(List.getElem?_eq_some_iff.mp hi).1,hi⟩
theorem pw_at {l:List Keyed} (h:l.Pairwise (Le L)) (hs:Sw L) {i j:Nat} (hij:i<=j) (hj:j < l.length) (q:Keyed):i=j\/Le L (l.getD i q) (l.getD j q):=by
 rcases Nat.eq_or_lt_of_le hij with e | e
 · exact .inl e
 · right
   have:=List.pairwise_iff_getElem.mp h i j (by omega) hj e
   simpa [List.getD,List.getElem?_eq_getElem hj,List.getElem?_eq_getElem (show i < l.length by omega)] using this
theorem rk {l:List Keyed} {i0 k:Nat} {q:Keyed} (hs:Sw L) (hl:l.Pairwise (Le L)) (f:Fnd (l.length - i0) (λi=>!L q.1 (l.getD (i0 + i) q).1) k):(∀ x ∈ (l.drop i0).take k,Le L x q)/\∀ x ∈ l.drop (i0 + k),Le L q x:=by
 obtain ⟨f1,f2⟩:=f
 obtain ⟨f3,f4⟩:=f2 λi j hij hj e=>by
   rcases pw_at hl hs (show i0 + i<=i0 + j by omega) (by omega) q with z | z
   · rw [show i=j by omega]; exact e
   · unfold Le at z
     cases e2:L q.1 (l.getD (i0 + i) q).1 with
     | false=>show (!L q.1 (l.getD (i0 + i) q).1)=true; rw [e2]; rfl
     | true=>rcases hs.ng _ (l.getD (i0 + j) q).1 _ e2 with y | y <;> simp_all
 refine ⟨λx hx=>?_,λx hx=>?_⟩
 · obtain ⟨i,hi,hl',hx⟩:=tK hx
   have:=f3 i hi
   simp only [List.getD,hx,Option.getD_some,Bool.not_eq_true'] at this
   exact this
 · obtain ⟨i,hl',hx⟩:=pU hx
   have this:(!L q.1 (l.getD (i0 + (k + i)) q).1)=false:=f4 (k + i) (by omega) (by omega)
   rw [show i0 + (k + i)=i0 + k + i by omega] at this
   simp only [List.getD,hx,Option.getD_some,Bool.not_eq_false'] at this
   exact hs.lt this
theorem sr {l:List Keyed} {i0 k:Nat} {q:Keyed} (hs:Sw L) (hl:l.Pairwise (Le L)) (f:Fnd (l.length - i0) (λi=>L (l.getD (i0 + i) q).1 q.1) k):(∀ x ∈ (l.drop i0).take k,Le L x q)/\∀ x ∈ l.drop (i0 + k),Le L q x:=by
 obtain ⟨f1,f2⟩:=f
 obtain ⟨f3,f4⟩:=f2 λi j hij hj e=>by
   rcases pw_at hl hs (show i0 + i<=i0 + j by omega) (by omega) q with z | z
   · rw [show i=j by omega]; exact e
   · unfold Le at z
     rcases hs.ng _ (l.getD (i0 + i) q).1 _ e with y | y <;> simp_all
 refine ⟨λx hx=>?_,λx hx=>?_⟩
 · obtain ⟨i,hi,hl',hx⟩:=tK hx
   have:=f3 i hi
   simp only [List.getD,hx,Option.getD_some] at this
   exact hs.lt this
 · obtain ⟨i,hl',hx⟩:=pU hx
   have this:L (l.getD (i0 + (k + i)) q).1 q.1=false:=f4 (k + i) (by omega) (by omega)
   rw [show i0 + (k + i)=i0 + k + i by omega] at this
   simp only [List.getD,hx,Option.getD_some] at this
   exact this
section
variable {prog:Program} {w:World} {A:Around} {E:Value->Shared->Prop} {s:Shared} {a₀:Array Keyed}
set_option maxHeartbeats 4000000 in
theorem lx (hL:gd prog w A s L a₀) {a b:Array Keyed} {st:SortSt} {Q:Array Keyed->SortSt->Prop} (ha:∀ p ∈ a.toList,p ∈ a₀.toList) (hb:∀ p ∈ b.toList,p ∈ a₀.toList) (h1:1<=a.size) (h2:1<=b.size) (hk:kindOf st=oneType')
   (h:∀ r st',Sg st st'->Res L a.toList b.toList r.toList->Q r st'):wpS (model prog w) A E s (jd a b) Q st:=by
 have la:a.toList.length=a.size:=Array.length_toList
 have lb:b.toList.length=b.size:=Array.length_toList
 rw [ma]
 refine wpS_bind (wpS_lift (wpAny_rule ⟨rfl,?_⟩))
 obtain ⟨p0,e0,e0',m0⟩:=elA b (i:=0) (by omega)
 refine wpS_bind (aI e0 ?_)
 have M0:MS L a.toList b.toList (#[p0]:Array Keyed).toList 0 1:=by
   have d0:b.toList=p0 :: b.toList.drop 1:=by
     have:=take1 e0'
     rw [List.drop_zero] at this
     have t:=List.take_append_drop 1 b.toList
     rw [this] at t
     exact t.symm
   refine ⟨?_,λg=>⟨?_,?_⟩⟩
   · rw [List.drop_zero]
     have:=List.perm_append_comm_assoc [p0] a.toList (b.toList.drop 1)
     rw [show [p0]++b.toList.drop 1=b.toList from d0.symm] at this
     exact this
   · rw [List.drop_zero]
     exact List.pairwise_cons.mpr ⟨λq hq=>g.first p0 e0' q hq,g.sa⟩
   · show (p0 :: b.toList.drop 1).Pairwise _
     rw [<- d0]
     exact g.sb
 dsimp only
 by_cases c1:1=b.size
 · rw [if_pos (by simpa using c1)]
   exact wpS_pure (h _ _ (Sg.refl _) (by rw [toL]; exact M0.jY (by omega)))
 rw [if_neg (by simpa using c1)]
 by_cases c2:0 + 1=a.size
 · rw [if_pos (by simpa using c2)]
   exact wpS_pure (h _ _ (Sg.refl _) (by rw [toL]; exact M0.pO (by omega)))
 rw [if_neg (by simpa using c2)]
 refine wpS_bind (wpS_get ?_)
 refine wpS_bind (wpS_mono (wpS_forRange (I:=λx c st'=>Sg st st'/\∃ out ia ib g,c=(none,out,ia,ib,g)/\MS L a.toList b.toList out.toList ia ib/\ia + 1 < a.size/\ib < b.size/\x + 1<=ia + ib) (Q:=λc st'=>Sg st st'/\∃ r t,c=(some r,t)/\Res L a.toList b.toList r.toList) ?step ?fin ⟨Sg.refl _,_,_,_,_,rfl,M0,by omega,by omega,by omega⟩) ?post)
 case fin=>
   rintro c st' ⟨sg,out,ia,ib,g,rfl,ms,b1,b2,b3⟩
   omega
 case post=>
   rintro c st' ⟨sg,r,t,rfl,rs⟩
   exact wpS_pure (h r st' sg rs)
 case step=>
   rintro x c st' _ hx ⟨sg,out,ia,ib,g,rfl,ms,b1,b2,b3⟩
   dsimp only
   refine wpS_bind (wpS_mono (wpS_forRange (I:=λy c st''=>st'=st''/\∃ out ia ib ac bc,c=(none,out,ia,ib,ac,bc)/\MS L a.toList b.toList out.toList ia ib/\ia + 1 < a.size/\ib < b.size/\x + 1 + y<=ia + ib) (Q:=λc st''=>st'=st''/\((∃ r t,c=(some r,t)/\Res L a.toList b.toList r.toList)\/∃ out ia ib ac bc,c=(none,out,ia,ib,ac,bc)/\MS L a.toList b.toList out.toList ia ib/\ia + 1 < a.size/\ib < b.size/\x + 2<=ia + ib)) ?step1 ?fin1 ⟨rfl,_,_,_,_,_,rfl,ms,b1,b2,by omega⟩) ?post1)
   case fin1=>
     rintro c st'' ⟨rfl,out,ia,ib,ac,bc,rfl,ms,b1,b2,b3⟩
     omega
   case step1=>
     rintro y c st'' _ hy ⟨rfl,out,ia,ib,ac,bc,rfl,ms,b1,b2,b3⟩
     dsimp only
     obtain ⟨q,eq,eq',mq⟩:=elA b b2
     obtain ⟨p,ep,ep',mp⟩:=elA a (i:=ia) (by omega)
     refine wpS_bind (aI eq (wpS_bind (aI ep ?_)))
     refine wpS_bind (je hL (hb q mq) (ha p mp) (sg.1.trans hk) ?_)
     dsimp only
     cases e:L q.1 p.1 with
     | true=>
       rw [if_pos rfl]
       refine wpS_bind (aI eq ?_)
       have ms':MS L a.toList b.toList (out.push q).toList ia (ib + 1):=by
         rw [Array.toList_push]
         exact ms.lX eq' λg=>gW g.sw g.sa ep' (g.sw.lt e)
       by_cases c3:ib + 1=b.size
       · rw [if_pos (by simpa using c3)]
         exact wpS_pure ⟨rfl,.inl ⟨_,_,rfl,by rw [toL]; exact ms'.jY (by omega)⟩⟩
       rw [if_neg (by simpa using c3)]
       split
       · exact wpS_pure ⟨rfl,.inr ⟨_,_,_,_,_,rfl,ms',b1,by omega,by omega⟩⟩
       · exact wpS_pure ⟨rfl,_,_,_,_,_,rfl,ms',b1,by omega,by omega⟩
     | false=>
       rw [if_neg (by decide)]
       refine wpS_bind (aI ep ?_)
       have ms':MS L a.toList b.toList (out.push p).toList (ia + 1) ib:=by
         rw [Array.toList_push]
         exact ms.mz ep' λg=>gW g.sw g.sb eq' e
       by_cases c3:ia + 1 + 1=a.size
       · rw [if_pos (by simpa using c3)]
         exact wpS_pure ⟨rfl,.inl ⟨_,_,rfl,by rw [toL]; exact ms'.pO (by omega)⟩⟩
       rw [if_neg (by simpa using c3)]
       split
       · exact wpS_pure ⟨rfl,.inr ⟨_,_,_,_,_,rfl,ms',by omega,b2,by omega⟩⟩
       · exact wpS_pure ⟨rfl,_,_,_,_,_,rfl,ms',by omega,b2,by omega⟩
   case post1=>
     rintro c st'' ⟨rfl,hc⟩
     rcases hc with ⟨r,t,rfl,rs⟩ | ⟨out,ia,ib,ac,bc,rfl,ms,b1,b2,b3⟩
     · exact wpS_pure ⟨sg,_,_,rfl,rs⟩
     dsimp only
     refine wpS_bind (wpS_lift (wpAny_rule ⟨rfl,?_⟩))
     refine wpS_bind (wpS_mono (wpS_forRange (I:=λy c st''=>Sg st st''/\∃ out ia ib g ac bc,c=(none,out,ia,ib,g,ac,bc)/\MS L a.toList b.toList out.toList ia ib/\ia + 1 < a.size/\ib < b.size/\x + 2<=ia + ib) (Q:=λc st''=>Sg st st''/\((∃ r t,c=(some r,t)/\Res L a.toList b.toList r.toList)\/∃ out ia ib g ac bc,c=(none,out,ia,ib,g,ac,bc)/\MS L a.toList b.toList out.toList ia ib/\ia + 1 < a.size/\ib < b.size/\x + 2<=ia + ib)) ?step2 ?fin2 ⟨sg,_,_,_,_,_,_,rfl,ms,b1,b2,by omega⟩) ?post2)
     case fin2=>
       rintro c st'' ⟨sg,out,ia,ib,g,ac,bc,rfl,ms,b1,b2,b3⟩
       exact ⟨sg,.inr ⟨_,_,_,_,_,_,rfl,ms,b1,b2,b3⟩⟩
     case post2=>
       rintro c st'' ⟨sg,hc⟩
       rcases hc with ⟨r,t,rfl,rs⟩ | ⟨out,ia,ib,g,ac,bc,rfl,ms,b1,b2,b3⟩
       · exact wpS_pure ⟨sg,_,_,rfl,rs⟩
       · dsimp only
         rw [eF]
         exact wpS_bind (wpS_modify (wpS_pure ⟨sg.gal _,_,_,_,_,rfl,ms,b1,b2,by omega⟩))
     case step2=>
       rintro y c st'' _ hy ⟨sg,out,ia,ib,g,ac,bc,rfl,ms,b1,b2,b3⟩
       dsimp only
       by_cases cg:g > 1
       case' pos=>rw [if_pos cg]
       case' neg=>rw [if_neg cg]
       all_goals
         rw [eF]
         refine wpS_bind (wpS_modify ?_)
         obtain ⟨q,eq,eq',mq⟩:=elA b b2
         refine wpS_bind (aI eq ?_)
         refine wpS_bind (bE hL (λi=>!L q.1 (a.toList.getD (ia + i) q).1) (hb q mq) (λi hi=>?harr) (by omega) (sg.1.trans hk) λk fk=>?_)
         case harr=>
           obtain ⟨p,ep,ep',mp⟩:=elA a (i:=ia + i) (by omega)
           refine ⟨p,ep,ha p mp,?_⟩
           rw [List.getD,ep']
           rfl
         rw [<- la] at fk
         have fl:=λg:GL L a.toList b.toList=>rk g.sw g.sa fk
         have k1:=fk.1
         have ms1:MS L a.toList b.toList (out++a.extract ia (ia + k)).toList (ia + k) ib:=by
           rw [Array.toList_append,xt1]
           exact ms.lS k λg x hx=>gW g.sw g.sb eq' ((fl g).1 x hx)
         have fl2:GL L a.toList b.toList->∀ x ∈ a.toList.drop (ia + k),Le L q x:=λg=>(fl g).2
         clear fk fl
         dsimp only
         have b3':x + 2<=ia + k + ib:=by omega
         by_cases ck:k > 0
         case' pos=>
           rw [if_pos ck]
           by_cases c3:ia + k + 1=a.size
           case pos=>
             rw [if_pos (by simpa using c3)]
             exact wpS_pure ⟨sg.gal _,.inl ⟨_,_,rfl,by rw [toL]; exact ms1.pO (by omega)⟩⟩
           rw [if_neg (by simpa using c3)]
           by_cases c4:ia + k=a.size
           case pos=>
             rw [if_pos (by simpa using c4)]
             exact wpS_pure ⟨sg.gal _,.inl ⟨_,_,rfl,by rw [toL]; exact ms1.jX (by omega)⟩⟩
           rw [if_neg (by simpa using c4)]
           have b1':ia + k + 1 < a.size:=by omega
           clear ms b1 b3 c3 c4 ck k1
           generalize out++a.extract ia (ia + k)=out1 at ms1 ⊢
           generalize ia + k=ia1 at ms1 fl2 b3' b1' ⊢
         case' neg=>
           rw [if_neg ck]
           have k0:k=0:=by omega
           subst k0
           have b1':ia + 0 + 1 < a.size:=by omega
           have ms1:MS L a.toList b.toList out.toList (ia + 0) ib:=ms
           clear ms b1 b3 ck k1
           simp only [Nat.add_zero] at ms1 fl2 b3' b1'
           generalize out=out1 at ms1 ⊢
           generalize ia=ia1 at ms1 fl2 b3' b1' ⊢
         all_goals
           refine wpS_bind (aI eq ?_)
           have ms2:MS L a.toList b.toList (out1.push q).toList ia1 (ib + 1):=by
             rw [Array.toList_push]
             exact ms1.lX eq' fl2
           by_cases c5:ib + 1=b.size
           case pos=>
             rw [if_pos (by simpa using c5)]
             exact wpS_pure ⟨sg.gal _,.inl ⟨_,_,rfl,by rw [toL]; exact ms2.jY (by omega)⟩⟩
           rw [if_neg (by simpa using c5)]
           obtain ⟨p,ep,ep',mp⟩:=elA a (i:=ia1) (by omega)
           refine wpS_bind (aI ep ?_)
           refine wpS_bind (bE hL (λi=>L (b.toList.getD (ib + 1 + i) p).1 p.1) (ha p mp) (λi hi=>?harr2) (by omega) (sg.1.trans hk) λk2 fk2=>?_)
           case harr2=>
             obtain ⟨p2,ep,ep',mp⟩:=elA b (i:=ib + 1 + i) (by omega)
             refine ⟨p2,ep,hb p2 mp,?_⟩
             rw [List.getD,ep']
             rfl
           rw [<- lb] at fk2
           have fl3:=λg:GL L a.toList b.toList=>sr g.sw g.sb fk2
           have k2l:=fk2.1
           have ms3:MS L a.toList b.toList (out1.push q++b.extract (ib + 1) (ib + 1 + k2)).toList ia1 (ib + 1 + k2):=by
             rw [Array.toList_append,xt1]
             exact ms2.lJ k2 λg x hx=>gW g.sw g.sa ep' ((fl3 g).1 x hx)
           have fl4:GL L a.toList b.toList->∀ x ∈ b.toList.drop (ib + 1 + k2),Le L p x:=λg=>(fl3 g).2
           clear fk2 fl3
           have b4:x + 2<=ia1 + (ib + 1 + k2):=by omega
           dsimp only
           by_cases ck2:k2 > 0
           case' pos=>
             rw [if_pos ck2]
             by_cases c6:ib + 1 + k2=b.size
             case pos=>
               rw [if_pos (by simpa using c6)]
               exact wpS_pure ⟨sg.gal _,.inl ⟨_,_,rfl,by rw [toL]; exact ms3.jY (by omega)⟩⟩
             rw [if_neg (by simpa using c6)]
             have b2':ib + 1 + k2 < b.size:=by omega
             clear ms2 ck2 c6 c5 k2l
             generalize out1.push q++b.extract (ib + 1) (ib + 1 + k2)=out2 at ms3 ⊢
             generalize ib + 1 + k2=ib2 at ms3 fl4 b2' b4 ⊢
           case' neg=>
             rw [if_neg ck2]
             have k0:k2=0:=by omega
             subst k0
             have b2':ib + 1 + 0 < b.size:=by omega
             have ms3:MS L a.toList b.toList (out1.push q).toList ia1 (ib + 1 + 0):=ms2
             clear ms2 ck2 c5 k2l
             simp only [Nat.add_zero] at ms3 fl4 b2' b4
             generalize out1.push q=out2 at ms3 ⊢
             generalize ib + 1=ib2 at ms3 fl4 b2' b4 ⊢
           all_goals
             refine wpS_bind (aI ep ?_)
             have ms5:MS L a.toList b.toList (out2.push p).toList (ia1 + 1) ib2:=by
               rw [Array.toList_push]
               exact ms3.mz ep' fl4
             by_cases c7:ia1 + 1 + 1=a.size
             case pos=>
               rw [if_pos (by simpa using c7)]
               exact wpS_pure ⟨sg.gal _,.inl ⟨_,_,rfl,by rw [toL]; exact ms5.pO (by omega)⟩⟩
             rw [if_neg (by simpa using c7)]
             split
             · exact wpS_pure ⟨sg.gal _,.inr ⟨_,_,_,_,_,_,rfl,ms5,by omega,by omega,by omega⟩⟩
             · exact wpS_pure ⟨sg.gal _,_,_,_,_,_,_,rfl,ms5,by omega,by omega,by omega⟩
end
theorem lQ (a b:Array Keyed):iK a b=(do
 rule "list.sort.merge-hi"
 let total:=a.size + b.size
 let done (out:Array Keyed) (na nb:Nat):=a.extract 0 na++b.extract 0 nb++out.reverse
 let firstOfB (out:Array Keyed) (na nb:Nat):=b.extract 0 nb++a.extract 0 na++out.reverse
 let mut na:=a.size - 1
 let mut nb:=b.size
 let mut out:Array Keyed:=#[<- elem' a na]
 if na == 0 then return done out na nb
 if nb == 1 then return firstOfB out na nb
 let mut minGallop:=gallopOf (<- get)
 for _ in [0:total] do
   let mut acount:=0
   let mut bcount:=0
   for _ in [0:total] do
     let some aWins <- lt' (<- elem' b (nb - 1)) (<- elem' a (na - 1)) | return done out na nb
     if aWins then
       na:=na - 1; out:=out.push (<- elem' a na); acount:=acount + 1; bcount:=0
       if na == 0 then return done out na nb
       if acount ≥ minGallop then break
     else
       nb:=nb - 1; out:=out.push (<- elem' b nb); bcount:=bcount + 1; acount:=0
       if nb == 1 then return firstOfB out na nb
       if bcount ≥ minGallop then break
   rule "list.sort.gallop"
   minGallop:=minGallop + 1
   for _ in [0:total] do
     if minGallop > 1 then minGallop:=minGallop - 1
     iF minGallop
     let some at_ <- cy false (<- elem' b (nb - 1)) a 0 na (na - 1) | return done out na nb
     let k:=na - at_
     acount:=k
     if k > 0 then
       out:=out++(a.extract at_ na).reverse; na:=at_
       if na == 0 then return done out na nb
     nb:=nb - 1; out:=out.push (<- elem' b nb)
     if nb == 1 then return firstOfB out na nb
     let some at_ <- cy true (<- elem' a (na - 1)) b 0 nb (nb - 1) | return done out na nb
     let k:=nb - at_
     bcount:=k
     if k > 0 then
       out:=out++(b.extract at_ nb).reverse; nb:=at_
       if nb == 1 then return firstOfB out na nb
       if nb == 0 then return done out na nb
     na:=na - 1; out:=out.push (<- elem' a na)
     if na == 0 then return done out na nb
     if acount < 7 && bcount < 7 then break
   minGallop:=minGallop + 1
   iF minGallop
 unsupported "internal:list.sort.merge-bound"):=rfl
theorem yt1 (a:Array Keyed) (i n:Nat):(a.extract i n).toList=(a.toList.take n).drop i:=by
 rw [Array.toList_extract,List.extract_eq_drop_take,List.drop_take]
theorem toH (a b o:Array Keyed) (i j:Nat):(a.extract 0 i++b.extract 0 j++o.reverse).toList=a.toList.take i++b.toList.take j++o.toList.reverse:=by
 rw [Array.toList_append,Array.toList_append,yt1,yt1,List.drop_zero,List.drop_zero,Array.toList_reverse]
theorem rv1 (o:Array Keyed) (p:Keyed):(o.push p).toList.reverse=p :: o.toList.reverse:=by
 rw [Array.toList_push,List.reverse_append]; rfl
theorem rv2 (o a:Array Keyed) (i n:Nat):(o++(a.extract i n).reverse).toList.reverse=(a.toList.take n).drop i++o.toList.reverse:=by
 rw [Array.toList_append,List.reverse_append,Array.toList_reverse,List.reverse_reverse,yt1]
structure MH (L:Value->Value->Bool) (a b o:List Keyed) (na nb:Nat):Prop where
 perm:(a.take na++b.take nb++o).Perm (a++b)
 srt:GL L a b->(a.take na++o).Pairwise (Le L)/\(b.take nb++o).Pairwise (Le L)
variable {L:Value->Value->Bool} {a b o:List Keyed} {na nb:Nat}
theorem td (l:List Keyed) (n k:Nat) (h:k<=n):l.take k++(l.take n).drop k=l.take n:=by
 have:=List.take_append_drop k (l.take n)
 rwa [List.take_take,Nat.min_eq_left h] at this
theorem MH.lS (h:MH L a b o na nb) (k:Nat) (hk:k<=na) (hc:GL L a b->∀ x ∈ (a.take na).drop k,∀ y ∈ b.take nb,Le L y x):MH L a b ((a.take na).drop k++o) k nb:=by
 have e:=td a na k hk
 refine ⟨?_,λg=>?_⟩
 · refine List.Perm.trans ?_ h.perm
   have:=List.Perm.append_left (a.take k) (List.perm_append_comm_assoc (b.take nb) ((a.take na).drop k) o)
   rw [<- List.append_assoc,<- List.append_assoc,<- List.append_assoc,e] at this
   simpa only [List.append_assoc] using this
 · obtain ⟨h1,h2⟩:=h.srt g
   rw [<- List.append_assoc,e]
   refine ⟨h1,?_⟩
   rw [List.pairwise_append] at h1 h2 ⊢
   refine ⟨h2.1,?_,λx hx y hy=>?_⟩
   · rw [List.pairwise_append]
     exact ⟨h1.1.sublist (List.drop_sublist ..),h1.2.1,λx hx y hy=>h1.2.2 x (List.mem_of_mem_drop hx) y hy⟩
   · rcases List.mem_append.mp hy with hy | hy
     · exact hc g y hy x hx
     · exact h2.2.2 x hx y hy
theorem MH.lJ (h:MH L a b o na nb) (k:Nat) (hk:k<=nb) (hc:GL L a b->∀ x ∈ (b.take nb).drop k,∀ y ∈ a.take na,Le L y x):MH L a b ((b.take nb).drop k++o) na k:=by
 have e:=td b nb k hk
 refine ⟨?_,λg=>?_⟩
 · refine List.Perm.trans ?_ h.perm
   rw [List.append_assoc,<- List.append_assoc (b.take k),e,List.append_assoc]
 · obtain ⟨h2,h1⟩:=h.srt g
   rw [<- List.append_assoc (b.take k),e]
   refine ⟨?_,h1⟩
   rw [List.pairwise_append] at h1 h2 ⊢
   refine ⟨h2.1,?_,λx hx y hy=>?_⟩
   · rw [List.pairwise_append]
     exact ⟨h1.1.sublist (List.drop_sublist ..),h1.2.1,λx hx y hy=>h1.2.2 x (List.mem_of_mem_drop hx) y hy⟩
   · rcases List.mem_append.mp hy with hy | hy
     · exact hc g y hy x hx
     · exact h2.2.2 x hx y hy
theorem jN {l:List Keyed} {n:Nat} {p:Keyed} (hn:1<=n) (h:l[n - 1]?=some p):(l.take n).drop (n - 1)=[p]:=by
 rw [List.drop_take,show n - (n - 1)=1 by omega]
 exact take1 h
theorem MH.mz (h:MH L a b o na nb) (hn:1<=na) {p:Keyed} (hp:a[na - 1]?=some p) (hc:GL L a b->∀ y ∈ b.take nb,Le L y p):MH L a b (p :: o) (na - 1) nb:=by
 have:=h.lS (na - 1) (by omega) λg x hx y hy=>by
   rw [jN hn hp] at hx
   rw [List.mem_singleton.mp hx]
   exact hc g y hy
 rwa [jN hn hp] at this
theorem MH.lX (h:MH L a b o na nb) (hn:1<=nb) {p:Keyed} (hp:b[nb - 1]?=some p) (hc:GL L a b->∀ y ∈ a.take na,Le L y p):MH L a b (p :: o) na (nb - 1):=by
 have:=h.lJ (nb - 1) (by omega) λg x hx y hy=>by
   rw [jN hn hp] at hx
   rw [List.mem_singleton.mp hx]
   exact hc g y hy
 rwa [jN hn hp] at this
theorem ft {l:List Keyed} {n:Nat} {p q:Keyed} (hs:Sw L) (h:l.Pairwise (Le L)) (hn:1<=n) (hp:l[n - 1]?=some p) (hq:Le L p q):∀ y ∈ l.take n,Le L y q:=λy hy=>by
 have h':=h.sublist (List.take_sublist n l)
 have e:=td l n (n - 1) (by omega)
 rw [jN hn hp] at e
 rw [<- e] at hy h'
 rcases List.mem_append.mp hy with hy | hy
 · exact hs.le ((List.pairwise_append.mp h').2.2 y hy p (List.mem_singleton.mpr rfl)) hq
 · rw [List.mem_singleton.mp hy]; exact hq
theorem MH.jX (h:MH L a b o 0 nb):Res L a b (a.take 0++b.take nb++o):=by
 refine ⟨h.perm,λg=>?_⟩
 rw [List.take_zero,List.nil_append]
 exact (h.srt g).2
theorem MH.jY (h:MH L a b o na 0):Res L a b (a.take na++b.take 0++o):=by
 refine ⟨h.perm,λg=>?_⟩
 rw [List.take_zero,List.append_nil]
 exact (h.srt g).1
theorem MH.kJ (h:MH L a b o na 1) (hb:1<=b.length):Res L a b (b.take 1++a.take na++o):=by
 refine ⟨?_,λg=>?_⟩
 · refine List.Perm.trans ?_ h.perm
   exact List.Perm.append_right o List.perm_append_comm
 · obtain ⟨h1,h2⟩:=h.srt g
   have h2':=List.pairwise_append.mp h2
   rw [List.append_assoc,List.pairwise_append]
   refine ⟨h2'.1,h1,λx hx y hy=>?_⟩
   rcases List.mem_append.mp hy with hy | hy
   · have:=take1 (l:=b) (i:=0) (List.getElem?_eq_getElem (by omega))
     rw [List.drop_zero] at this
     rw [this] at hx
     rw [List.mem_singleton.mp hx]
     exact g.first _ (List.getElem?_eq_getElem (by omega)) y (List.mem_of_mem_take hy)
   · exact h2'.2.2 x hx y hy
variable {L:Value->Value->Bool}
section
variable {prog:Program} {w:World} {A:Around} {E:Value->Shared->Prop} {s:Shared} {a₀:Array Keyed}
theorem Fnd.congr {n k:Nat} {B B':Nat->Bool} (h:∀ i,i < n->B i=B' i) (f:Fnd n B k):Fnd n B' k:=⟨f.1,λm=>by
 obtain ⟨f1,f2⟩:=f.2 λi j hij hj z=>by
   rw [h i (by omega)]
   rw [h j hj] at z
   exact m i j hij hj z
 have:=f.1
 exact ⟨λi hi=>by rw [<- h i (by omega)]; exact f1 i hi,λi h1 h2=>by rw [<- h i h2]; exact f2 i h1 h2⟩⟩
theorem jK {l:List Keyed} {n i:Nat} {q:Keyed} (h:i < n):l.getD (0 + i) q=(l.take n).getD (0 + i) q:=by
 rw [List.getD,List.getD,List.getElem?_take,Nat.zero_add,if_pos h]
theorem vm {l:List Keyed} {n k:Nat} {q:Keyed} (hn:n<=l.length) (hs:Sw L) (hl:l.Pairwise (Le L)) (f:Fnd n (λi=>!L q.1 (l.getD (0 + i) q).1) k):(∀ x ∈ l.take k,Le L x q)/\∀ x ∈ (l.take n).drop k,Le L q x:=by
 have hlen:(l.take n).length - 0=n:=by rw [List.length_take]; omega
 have f':Fnd ((l.take n).length - 0) (λi=>!L q.1 ((l.take n).getD (0 + i) q).1) k:=by
   rw [hlen]
   exact f.congr λi hi=>by rw [jK hi]
 have:=rk hs (hl.sublist (List.take_sublist n l)) f'
 rw [List.drop_zero,List.take_take,Nat.min_eq_left f.1,Nat.zero_add] at this
 exact this
theorem vB {l:List Keyed} {n k:Nat} {q:Keyed} (hn:n<=l.length) (hs:Sw L) (hl:l.Pairwise (Le L)) (f:Fnd n (λi=>L (l.getD (0 + i) q).1 q.1) k):(∀ x ∈ l.take k,Le L x q)/\∀ x ∈ (l.take n).drop k,Le L q x:=by
 have hlen:(l.take n).length - 0=n:=by rw [List.length_take]; omega
 have f':Fnd ((l.take n).length - 0) (λi=>L ((l.take n).getD (0 + i) q).1 q.1) k:=by
   rw [hlen]
   exact f.congr λi hi=>by rw [jK hi]
 have:=sr hs (hl.sublist (List.take_sublist n l)) f'
 rw [List.drop_zero,List.take_take,Nat.min_eq_left f.1,Nat.zero_add] at this
 exact this
set_option maxHeartbeats 4000000 in
theorem lF (hL:gd prog w A s L a₀) {a b:Array Keyed} {st:SortSt} {Q:Array Keyed->SortSt->Prop} (ha:∀ p ∈ a.toList,p ∈ a₀.toList) (hb:∀ p ∈ b.toList,p ∈ a₀.toList) (h1:1<=a.size) (h2:1<=b.size) (hk:kindOf st=oneType')
   (h:∀ r st',Sg st st'->Res L a.toList b.toList r.toList->Q r st'):wpS (model prog w) A E s (iK a b) Q st:=by
 have la:a.toList.length=a.size:=Array.length_toList
 have lb:b.toList.length=b.size:=Array.length_toList
 rw [lQ]
 refine wpS_bind (wpS_lift (wpAny_rule ⟨rfl,?_⟩))
 obtain ⟨p0,e0,e0',m0⟩:=elA a (i:=a.size - 1) (by omega)
 refine wpS_bind (aI e0 ?_)
 have M0:MH L a.toList b.toList (#[p0]:Array Keyed).toList.reverse (a.size - 1) b.size:=by
   have d0:a.toList.take (a.size - 1)++[p0]=a.toList:=by
     have e:=td a.toList a.size (a.size - 1) (by omega)
     rw [jN h1 e0',List.take_of_length_le (i:=a.size) (by omega)] at e
     exact e
   refine ⟨?_,λg=>⟨?_,?_⟩⟩
   · rw [List.take_of_length_le (i:=b.size) (by omega)]
     have:=List.Perm.append_left (a.toList.take (a.size - 1)) (List.perm_append_comm (l₁:=b.toList) (l₂:=[p0]))
     rw [<- List.append_assoc,<- List.append_assoc,d0] at this
     exact this
   · show (a.toList.take (a.size - 1)++[p0]).Pairwise _
     rw [d0]
     exact g.sa
   · rw [List.take_of_length_le (i:=b.size) (by omega)]
     show (b.toList++[p0]).Pairwise _
     rw [List.pairwise_append]
     refine ⟨g.sb,List.pairwise_singleton ..,λx hx y hy=>?_⟩
     rw [List.mem_singleton.mp hy]
     exact g.last p0 (by rw [la]; exact e0') x hx
 dsimp only
 by_cases c1:a.size - 1=0
 · rw [if_pos (by simpa using c1)]
   refine wpS_pure (h _ _ (Sg.refl _) ?_)
   rw [toH]
   rw [c1] at M0 ⊢
   exact M0.jX
 rw [if_neg (by simpa using c1)]
 by_cases c2:b.size=1
 · rw [if_pos (by simpa using c2)]
   refine wpS_pure (h _ _ (Sg.refl _) ?_)
   rw [toH]
   rw [c2] at M0 ⊢
   exact M0.kJ (by omega)
 rw [if_neg (by simpa using c2)]
 refine wpS_bind (wpS_get ?_)
 refine wpS_bind (wpS_mono (wpS_forRange (I:=λx c st'=>Sg st st'/\∃ na nb out g,c=(none,na,nb,out,g)/\MH L a.toList b.toList out.toList.reverse na nb/\1<=na/\na<=a.size/\2<=nb/\nb<=b.size/\x + 1 + na + nb<=a.size + b.size) (Q:=λc st'=>Sg st st'/\∃ r t,c=(some r,t)/\Res L a.toList b.toList r.toList) ?step ?fin ⟨Sg.refl _,_,_,_,_,rfl,M0,by omega,by omega,by omega,by omega,by omega⟩) ?post)
 case fin=>
   rintro c st' ⟨sg,na,nb,out,g,rfl,ms,b1,b1',b2,b2',b3⟩
   omega
 case post=>
   rintro c st' ⟨sg,r,t,rfl,rs⟩
   exact wpS_pure (h r st' sg rs)
 case step=>
   rintro x c st' _ hx ⟨sg,na,nb,out,g,rfl,ms,b1,b1',b2,b2',b3⟩
   dsimp only
   refine wpS_bind (wpS_mono (wpS_forRange (I:=λy c st''=>st'=st''/\∃ na nb out ac bc,c=(none,na,nb,out,ac,bc)/\MH L a.toList b.toList out.toList.reverse na nb/\1<=na/\na<=a.size/\2<=nb/\nb<=b.size/\x + 1 + y + na + nb<=a.size + b.size) (Q:=λc st''=>st'=st''/\((∃ r t,c=(some r,t)/\Res L a.toList b.toList r.toList)\/∃ na nb out ac bc,c=(none,na,nb,out,ac,bc)/\MH L a.toList b.toList out.toList.reverse na nb/\1<=na/\na<=a.size/\2<=nb/\nb<=b.size/\x + 2 + na + nb<=a.size + b.size)) ?step1 ?fin1 ⟨rfl,_,_,_,_,_,rfl,ms,b1,b1',b2,b2',by omega⟩) ?post1)
   case fin1=>
     rintro c st'' ⟨rfl,na,nb,out,ac,bc,rfl,ms,b1,b1',b2,b2',b3⟩
     omega
   case step1=>
     rintro y c st'' _ hy ⟨rfl,na,nb,out,ac,bc,rfl,ms,b1,b1',b2,b2',b3⟩
     dsimp only
     obtain ⟨q,eq,eq',mq⟩:=elA b (i:=nb - 1) (by omega)
     obtain ⟨p,ep,ep',mp⟩:=elA a (i:=na - 1) (by omega)
     refine wpS_bind (aI eq (wpS_bind (aI ep ?_)))
     refine wpS_bind (je hL (hb q mq) (ha p mp) (sg.1.trans hk) ?_)
     dsimp only
     cases e:L q.1 p.1 with
     | true=>
       rw [if_pos rfl]
       refine wpS_bind (aI ep ?_)
       have ms':MH L a.toList b.toList (out.push p).toList.reverse (na - 1) nb:=by
         rw [rv1]
         exact ms.mz b1 ep' λg=>ft g.sw g.sb (by omega) eq' (g.sw.lt e)
       by_cases c3:na - 1=0
       · rw [if_pos (by simpa using c3)]
         refine wpS_pure ⟨rfl,.inl ⟨_,_,rfl,?_⟩⟩
         rw [toH]
         rw [c3] at ms' ⊢
         exact ms'.jX
       rw [if_neg (by simpa using c3)]
       split
       · exact wpS_pure ⟨rfl,.inr ⟨_,_,_,_,_,rfl,ms',by omega,by omega,by omega,by omega,by omega⟩⟩
       · exact wpS_pure ⟨rfl,_,_,_,_,_,rfl,ms',by omega,by omega,by omega,by omega,by omega⟩
     | false=>
       rw [if_neg (by decide)]
       refine wpS_bind (aI eq ?_)
       have ms':MH L a.toList b.toList (out.push q).toList.reverse na (nb - 1):=by
         rw [rv1]
         exact ms.lX (by omega) eq' λg=>ft g.sw g.sa b1 ep' e
       by_cases c3:nb - 1=1
       · rw [if_pos (by simpa using c3)]
         refine wpS_pure ⟨rfl,.inl ⟨_,_,rfl,?_⟩⟩
         rw [toH]
         rw [c3] at ms' ⊢
         exact ms'.kJ (by omega)
       rw [if_neg (by simpa using c3)]
       split
       · exact wpS_pure ⟨rfl,.inr ⟨_,_,_,_,_,rfl,ms',by omega,by omega,by omega,by omega,by omega⟩⟩
       · exact wpS_pure ⟨rfl,_,_,_,_,_,rfl,ms',by omega,by omega,by omega,by omega,by omega⟩
   case post1=>
     rintro c st'' ⟨rfl,hc⟩
     rcases hc with ⟨r,t,rfl,rs⟩ | ⟨na,nb,out,ac,bc,rfl,ms,b1,b1',b2,b2',b3⟩
     · exact wpS_pure ⟨sg,_,_,rfl,rs⟩
     dsimp only
     refine wpS_bind (wpS_lift (wpAny_rule ⟨rfl,?_⟩))
     refine wpS_bind (wpS_mono (wpS_forRange (I:=λy c st''=>Sg st st''/\∃ na nb out g ac bc,c=(none,na,nb,out,g,ac,bc)/\MH L a.toList b.toList out.toList.reverse na nb/\1<=na/\na<=a.size/\2<=nb/\nb<=b.size/\x + 2 + na + nb<=a.size + b.size) (Q:=λc st''=>Sg st st''/\((∃ r t,c=(some r,t)/\Res L a.toList b.toList r.toList)\/∃ na nb out g ac bc,c=(none,na,nb,out,g,ac,bc)/\MH L a.toList b.toList out.toList.reverse na nb/\1<=na/\na<=a.size/\2<=nb/\nb<=b.size/\x + 2 + na + nb<=a.size + b.size)) ?step2 ?fin2 ⟨sg,_,_,_,_,_,_,rfl,ms,b1,b1',b2,b2',by omega⟩) ?post2)
     case fin2=>
       rintro c st'' ⟨sg,na,nb,out,g,ac,bc,rfl,ms,b1,b1',b2,b2',b3⟩
       exact ⟨sg,.inr ⟨_,_,_,_,_,_,rfl,ms,b1,b1',b2,b2',b3⟩⟩
     case post2=>
       rintro c st'' ⟨sg,hc⟩
       rcases hc with ⟨r,t,rfl,rs⟩ | ⟨na,nb,out,g,ac,bc,rfl,ms,b1,b1',b2,b2',b3⟩
       · exact wpS_pure ⟨sg,_,_,rfl,rs⟩
       · dsimp only
         rw [eF]
         exact wpS_bind (wpS_modify (wpS_pure ⟨sg.gal _,_,_,_,_,rfl,ms,b1,b1',b2,b2',by omega⟩))
     case step2=>
       rintro y c st'' _ hy ⟨sg,na,nb,out,g,ac,bc,rfl,ms,b1,b1',b2,b2',b3⟩
       dsimp only
       by_cases cg:g > 1
       case' pos=>rw [if_pos cg]
       case' neg=>rw [if_neg cg]
       all_goals
         rw [eF]
         refine wpS_bind (wpS_modify ?_)
         obtain ⟨q,eq,eq',mq⟩:=elA b (i:=nb - 1) (by omega)
         refine wpS_bind (aI eq ?_)
         refine wpS_bind (bE hL (λi=>!L q.1 (a.toList.getD (0 + i) q).1) (hb q mq) (λi hi=>?harr) (by omega) (sg.1.trans hk) λk fk=>?_)
         case harr=>
           obtain ⟨p,ep,ep',mp⟩:=elA a (i:=0 + i) (by omega)
           refine ⟨p,ep,ha p mp,?_⟩
           rw [List.getD,ep']
           rfl
         have fl:=λg:GL L a.toList b.toList=>vm (by omega) g.sw g.sa fk
         have k1:=fk.1
         have ms1:MH L a.toList b.toList (out++(a.extract k na).reverse).toList.reverse k nb:=by
           rw [rv2]
           exact ms.lS k k1 λg x hx=>ft g.sw g.sb (by omega) eq' ((fl g).2 x hx)
         have fl2:GL L a.toList b.toList->∀ x ∈ a.toList.take k,Le L x q:=λg=>(fl g).1
         clear fk fl
         dsimp only
         have b3':x + 2 + k + nb<=a.size + b.size:=by omega
         have b1'':k<=a.size:=by omega
         by_cases ck:na - k > 0
         case' pos=>
           rw [if_pos ck]
           by_cases c3:k=0
           case pos=>
             rw [if_pos (by simpa using c3)]
             refine wpS_pure ⟨sg.gal _,.inl ⟨_,_,rfl,?_⟩⟩
             rw [toH]
             rw [c3] at ms1 ⊢
             exact ms1.jX
           rw [if_neg (by simpa using c3)]
           have b1:1<=k:=by omega
           clear ms b3 c3
           generalize out++(a.extract k na).reverse=out1 at ms1 ⊢
           generalize na - k=ac1
         case' neg=>
           rw [if_neg ck]
           have k0:k=na:=by omega
           subst k0
           have ms1:=ms
           clear ms b3
           generalize out=out1 at ms1 ⊢
           generalize k - k=ac1
         all_goals
           refine wpS_bind (aI eq ?_)
           have ms2:MH L a.toList b.toList (out1.push q).toList.reverse k (nb - 1):=by
             rw [rv1]
             exact ms1.lX (by omega) eq' fl2
           by_cases c5:nb - 1=1
           case pos=>
             rw [if_pos (by simpa using c5)]
             refine wpS_pure ⟨sg.gal _,.inl ⟨_,_,rfl,?_⟩⟩
             rw [toH]
             rw [c5] at ms2 ⊢
             exact ms2.kJ (by omega)
           rw [if_neg (by simpa using c5)]
           obtain ⟨p,ep,ep',mp⟩:=elA a (i:=k - 1) (by omega)
           refine wpS_bind (aI ep ?_)
           refine wpS_bind (bE hL (λi=>L (b.toList.getD (0 + i) p).1 p.1) (ha p mp) (λi hi=>?harr2) (by omega) (sg.1.trans hk) λk2 fk2=>?_)
           case harr2=>
             obtain ⟨p2,ep,ep',mp⟩:=elA b (i:=0 + i) (by omega)
             refine ⟨p2,ep,hb p2 mp,?_⟩
             rw [List.getD,ep']
             rfl
           have fl3:=λg:GL L a.toList b.toList=>vB (by omega) g.sw g.sb fk2
           have k2l:=fk2.1
           have ms3:MH L a.toList b.toList (out1.push q++(b.extract k2 (nb - 1)).reverse).toList.reverse k k2:=by
             rw [rv2]
             exact ms2.lJ k2 k2l λg x hx=>ft g.sw g.sa (by omega) ep' ((fl3 g).2 x hx)
           have fl4:GL L a.toList b.toList->∀ x ∈ b.toList.take k2,Le L x p:=λg=>(fl3 g).1
           clear fk2 fl3
           have b4:x + 2 + k + k2<=a.size + b.size:=by omega
           have b5:k2<=b.size:=by omega
           dsimp only
           by_cases ck2:nb - 1 - k2 > 0
           case' pos=>
             rw [if_pos ck2]
             by_cases c6:k2=1
             case pos=>
               rw [if_pos (by simpa using c6)]
               refine wpS_pure ⟨sg.gal _,.inl ⟨_,_,rfl,?_⟩⟩
               rw [toH]
               rw [c6] at ms3 ⊢
               exact ms3.kJ (by omega)
             rw [if_neg (by simpa using c6)]
             by_cases c7:k2=0
             case pos=>
               rw [if_pos (by simpa using c7)]
               refine wpS_pure ⟨sg.gal _,.inl ⟨_,_,rfl,?_⟩⟩
               rw [toH]
               rw [c7] at ms3 ⊢
               exact ms3.jY
             rw [if_neg (by simpa using c7)]
             have b6:2<=k2:=by omega
             clear ms2
             generalize out1.push q++(b.extract k2 (nb - 1)).reverse=out2 at ms3 ⊢
             generalize nb - 1 - k2=bc1
           case' neg=>
             rw [if_neg ck2]
             have k0:nb - 1=k2:=by omega
             have b6:2<=k2:=by omega
             rw [k0] at ms2 ⊢
             have ms3:=ms2
             clear ms2
             generalize out1.push q=out2 at ms3 ⊢
             generalize k2 - k2=bc1
           all_goals
             refine wpS_bind (aI ep ?_)
             have ms5:MH L a.toList b.toList (out2.push p).toList.reverse (k - 1) k2:=by
               rw [rv1]
               exact ms3.mz (by omega) ep' fl4
             by_cases c8:k - 1=0
             case pos=>
               rw [if_pos (by simpa using c8)]
               refine wpS_pure ⟨sg.gal _,.inl ⟨_,_,rfl,?_⟩⟩
               rw [toH]
               rw [c8] at ms5 ⊢
               exact ms5.jX
             rw [if_neg (by simpa using c8)]
             split
             · exact wpS_pure ⟨sg.gal _,.inr ⟨_,_,_,_,_,_,rfl,ms5,by omega,by omega,by omega,by omega,by omega⟩⟩
             · exact wpS_pure ⟨sg.gal _,_,_,_,_,_,_,rfl,ms5,by omega,by omega,by omega,by omega,by omega⟩
end
noncomputable def V (xs:Array Keyed) (i:Nat):Value:=match xs[i]? with
 | some p=>p.1
 | none=>.none
theorem fT {xs ys:Array Keyed} {i j:Nat} (h:xs[i]?=ys[j]?):V xs i=V ys j:=by unfold V; rw [h]
theorem jc {xs:Array Keyed} {i j:Nat} (hj:j<=xs.size) (k:Nat):V (mirror xs i j ((j - i) / 2)) k=if i<=k/\k < j then V xs (i + j - 1 - k) else V xs k:=by
 have e:=getElem?_mirror_all (i:=i) hj k
 by_cases h1:i<=k/\k < j
 · rw [if_pos h1] at e ⊢; exact fT e
 · rw [if_neg h1] at e ⊢; exact fT e
theorem sL {xs:Array Keyed} {src d:Nat} (hs:src < xs.size) (hd:d<=src) (k:Nat) :
   V (bubble xs src d) k=if k=src - d then V xs src else if src - d < k/\k<=src then V xs (k - 1) else V xs k:=by
 have e:=getElem?_bubble hs d hd k
 by_cases h1:k=src - d
 · rw [if_pos h1] at e ⊢; exact fT e
 · rw [if_neg h1] at e ⊢
   by_cases h2:src - d < k/\k<=src
   · rw [if_pos h2] at e ⊢; exact fT e
   · rw [if_neg h2] at e ⊢; exact fT e
variable {L:Value->Value->Bool}
theorem Sw.irr (h:Sw L) (x:Value):L x x=false:=by
 cases e:L x x with
 | false=>rfl
 | true=>exact (h.asy x x e).symm.trans e |>.symm ▸ rfl
theorem Sw.lev (h:Sw L) {x y z:Value} (h1:L y x=false) (h2:L z y=false):L z x=false:=by
 cases e:L z x with
 | false=>rfl
 | true=>rcases h.ng _ y _ e with e | e <;> simp_all
noncomputable def dR (L:Value->Value->Bool) (xs:Array Keyed) (lo n:Nat):Prop:=∀ i j,i<=j->j < n->L (V xs (lo + j)) (V xs (lo + i))=false
noncomputable def eM (L:Value->Value->Bool) (xs:Array Keyed) (lo n:Nat):Prop:=∀ i j,i<=j->j < n->L (V xs (lo + i)) (V xs (lo + j))=false
theorem dR.one (hs:Sw L) {xs:Array Keyed} {lo:Nat}:dR L xs lo 1:=λi j hij hj=>by
 have:i=j:=by omega
 subst this; exact hs.irr _
theorem dR.step (hs:Sw L) {xs:Array Keyed} {lo x:Nat} (h1:1<=x) (h:dR L xs lo x) (hl:L (V xs (lo + x)) (V xs (lo + x - 1))=false):dR L xs lo (x + 1):=λi j hij hj=>by
 by_cases hjx:j < x
 · exact h i j hij hjx
 · have hj':j=x:=by omega
   subst hj'
   by_cases hi':i=j
   · subst hi'; exact hs.irr _
   · have:=h i (j - 1) (by omega) (by omega)
     rw [show lo + (j - 1)=lo + j - 1 by omega] at this
     exact hs.lev this hl
theorem eM.step (hs:Sw L) {xs:Array Keyed} {lo x:Nat} (h1:1<=x) (h:eM L xs lo x) (hl:L (V xs (lo + x - 1)) (V xs (lo + x))=false):eM L xs lo (x + 1):=λi j hij hj=>by
 by_cases hjx:j < x
 · exact h i j hij hjx
 · have hj':j=x:=by omega
   subst hj'
   by_cases hi':i=j
   · subst hi'; exact hs.irr _
   · have:=h i (j - 1) (by omega) (by omega)
     rw [show lo + (j - 1)=lo + j - 1 by omega] at this
     exact hs.lev hl this
theorem eM.mirror {xs:Array Keyed} {lo n:Nat} (hn:lo + n<=xs.size) (h:eM L xs lo n):dR L (mirror xs lo (lo + n) ((lo + n - lo) / 2)) lo n:=λi j hij hj=>by
 rw [jc hn,jc hn,if_pos (by omega),if_pos (by omega)]
 have:=h (n - 1 - j) (n - 1 - i) (by omega) (by omega)
 rwa [show lo + (n - 1 - j)=lo + (lo + n) - 1 - (lo + j) by omega,show lo + (n - 1 - i)=lo + (lo + n) - 1 - (lo + i) by omega] at this
theorem eM.alike (hs:Sw L) {xs:Array Keyed} {lo n d m:Nat} (hn:lo + n<=xs.size) (hd:d<=n) (hm:n<=m) (h:eM L xs lo m) (he:∀ i j,d<=i->i < n->d<=j->j < n->L (V xs (lo + i)) (V xs (lo + j))=false):eM L (PyProof.Rows.mirror xs (lo + d) (lo + n) ((lo + n - (lo + d)) / 2)) lo m:=by
 have key:∀ k,k < m->∃ k',k' < m/\V (PyProof.Rows.mirror xs (lo + d) (lo + n) ((lo + n - (lo + d)) / 2)) (lo + k)=V xs (lo + k')/\(k'=k\/(d<=k/\k < n/\d<=k'/\k' < n)):=λk hk=>by
   rw [jc hn]
   by_cases c:lo + d<=lo + k/\lo + k < lo + n
   · refine ⟨d + n - 1 - k,by omega,?_,.inr (by omega)⟩
     rw [if_pos c]
     congr 1; omega
   · exact ⟨k,hk,by rw [if_neg c],.inl rfl⟩
 intro i j hij hj
 obtain ⟨i',hi',ei,ci⟩:=key i (by omega)
 obtain ⟨j',hj',ej,cj⟩:=key j hj
 rw [ei,ej]
 rcases ci with rfl | ci
 · rcases cj with rfl | cj
   · exact h _ _ hij hj
   · by_cases z:i' < d
     · exact h i' j' (by omega) (by omega)
     · exact he i' j' (by omega) (by omega) (by omega) (by omega)
 · rcases cj with rfl | cj
   · by_cases z:j' < n
     · exact he i' j' (by omega) (by omega) (by omega) z
     · exact h i' j' (by omega) (by omega)
   · exact he i' j' (by omega) (by omega) (by omega) (by omega)
structure Ba (a₀:Array Keyed) (st:SortSt):Prop where
 perm:(arrOf st).Perm a₀
 failed:failedOf st=none
 kind:kindOf st=oneType'
theorem Ba.size {a₀:Array Keyed} {st:SortSt} (h:Ba a₀ st):(arrOf st).size=a₀.size:=h.perm.size_eq
theorem Ba.mem {a₀:Array Keyed} {st:SortSt} (h:Ba a₀ st):∀ p ∈ (arrOf st).toList,p ∈ a₀.toList:=λp hp=>(Array.perm_iff_toList_perm.mp h.perm).mem_iff.mp hp
theorem Ba.arr {a₀:Array Keyed} {st:SortSt} (h:Ba a₀ st) {xs:Array Keyed} (hp:xs.Perm (arrOf st)):Ba a₀ (setArr st xs):=⟨hp.trans h.perm,h.failed,h.kind⟩
noncomputable def Rl (a₀:Array Keyed) (lo:Nat) (st st':SortSt):Prop:=Ba a₀ st'/\pendingOf st'=pendingOf st/\∀ k,k < lo->(arrOf st')[k]?=(arrOf st)[k]?
theorem Rl.refl {a₀:Array Keyed} {lo:Nat} {st:SortSt} (h:Ba a₀ st):Rl a₀ lo st st:=⟨h,rfl,λ_ _=>rfl⟩
theorem Rl.mir {a₀:Array Keyed} {lo:Nat} {st st':SortSt} (h:Rl a₀ lo st st') {i j:Nat} (hi:lo<=i) (hj:j<=a₀.size):Rl a₀ lo st (setArr st' (mirror (arrOf st') i j ((j - i) / 2))):=
 ⟨h.1.arr (mirror_perm ..),h.2.1,λk hk=>by
   show (mirror (arrOf st') i j ((j - i) / 2))[k]?=_
   rw [getElem?_mirror_all (by rw [h.1.size]; exact hj),if_neg (by omega)]
   exact h.2.2 k hk⟩
theorem Rl.bub {a₀:Array Keyed} {lo:Nat} {st st':SortSt} (h:Rl a₀ lo st st') {src d:Nat} (h1:src < a₀.size) (h2:d<=src) (hlo:lo<=src - d):Rl a₀ lo st (setArr st' (bubble (arrOf st') src d)):=
 ⟨h.1.arr (bubble_perm ..),h.2.1,λk hk=>by
   show (bubble (arrOf st') src d)[k]?=_
   rw [getElem?_bubble (by rw [h.1.size]; exact h1) d h2,if_neg (by omega),if_neg (by omega)]
   exact h.2.2 k hk⟩
section
variable {prog:Program} {w:World} {A:Around} {E:Value->Shared->Prop} {s:Shared} {a₀:Array Keyed}
theorem eJ (hL:gd prog w A s L a₀) {st:SortSt} {i j:Nat} {Q:Option Bool->SortSt->Prop} (hB:Ba a₀ st) (hi:i < a₀.size) (hj:j < a₀.size) (h:Q (some (L (V (arrOf st) i) (V (arrOf st) j))) st):wpS (model prog w) A E s (ltAt' i j) Q st:=by
 rw [ltAt'_eq]
 refine wpS_bind (wpS_get ?_)
 show wpS _ _ _ _ (do let x <- elem' (arrOf st) i; let y <- elem' (arrOf st) j; lt' x y) Q st
 obtain ⟨p,ep,_,mp⟩:=elA (arrOf st) (i:=i) (by rw [hB.size]; exact hi)
 obtain ⟨q,eq,_,mq⟩:=elA (arrOf st) (i:=j) (by rw [hB.size]; exact hj)
 refine wpS_bind (aI ep (wpS_bind (aI eq (je hL (hB.mem p mp) (hB.mem q mq) hB.kind ?_))))
 have e1:V (arrOf st) i=p.1:=by unfold V; rw [ep]
 have e2:V (arrOf st) j=q.1:=by unfold V; rw [eq]
 rw [e1,e2] at h
 exact h
set_option maxHeartbeats 2000000 in
theorem qx (hs:Sw L) (hL:gd prog w A s L a₀) {st:SortSt} {lo nrem:Nat} {Q:Option Nat->SortSt->Prop} (hB:Ba a₀ st) (hlo:lo + nrem<=a₀.size) (h1:1<=nrem)
   (h:∀ m st',Rl a₀ lo st st'->1<=m->m<=nrem->dR L (arrOf st') lo m->Q (some m) st'):wpS (model prog w) A E s (countRun' lo nrem) Q st:=by
 rw [countRun'_eq]
 refine wpS_bind (wpS_mono (wpS_forRange (I:=λx c st'=>st=st'/\c=(none,x)/\dR L (arrOf st) lo x) (Q:=λc st'=>st=st'/\∃ n,c=(none,n)/\1<=n/\n<=nrem/\dR L (arrOf st) lo n/\(n=nrem\/L (V (arrOf st) (lo + n)) (V (arrOf st) (lo + n - 1))=true)) ?step ?fin ⟨rfl,rfl,dR.one hs⟩) ?post)
 case fin=>
   rintro c st' ⟨rfl,rfl,hs'⟩
   rw [show max 1 nrem=nrem by omega] at hs' ⊢
   exact ⟨rfl,nrem,rfl,h1,Nat.le_refl _,hs',.inl rfl⟩
 case step=>
   rintro x c st' hax hxn ⟨rfl,rfl,hs'⟩
   dsimp only
   refine wpS_bind (eJ hL hB (by omega) (by omega) ?_)
   dsimp only
   cases e:L (V (arrOf st) (lo + x)) (V (arrOf st) (lo + x - 1)) with
   | true=>
     rw [if_pos rfl]
     exact wpS_pure ⟨rfl,x,rfl,hax,by omega,hs',.inr e⟩
   | false=>
     rw [if_neg (by decide)]
     exact wpS_pure ⟨rfl,rfl,hs'.step hs hax e⟩
 case post=>
   rintro c st' ⟨rfl,n,rfl,n1,n2,hsn,hor⟩
   dsimp only
   by_cases hnn:n=nrem
   · rw [if_pos (by simpa using hnn)]
     exact wpS_pure (h n st (Rl.refl hB) n1 n2 hsn)
   rw [if_neg (by simpa using hnn)]
   have hlt:=hor.resolve_left hnn
   by_cases hgt:n > 1
   case' pos=>
     rw [if_pos hgt]
     refine wpS_bind (eJ hL hB (by omega) (by omega) ?_)
     dsimp only
     by_cases e:L (V (arrOf st) lo) (V (arrOf st) (lo + n - 1))=true
     case pos=>
       rw [if_pos e]
       exact wpS_pure (h n st (Rl.refl hB) n1 n2 hsn)
     rw [if_neg e]
     have e:L (V (arrOf st) lo) (V (arrOf st) (lo + n - 1))=false:=by simpa using e
     refine wpS_bind (wpS_reverse ?_)
     have hR:=(Rl.refl (lo:=lo) hB).mir (i:=lo) (j:=lo + n) (Nat.le_refl _) (by omega)
     have hall:∀ i j,i < n->j < n->L (V (arrOf st) (lo + i)) (V (arrOf st) (lo + j))=false:=λi j hi hj=>by
       have a1:=hsn j (n - 1) (by omega) (by omega)
       have a2:=hsn 0 i (by omega) hi
       rw [show lo + (n - 1)=lo + n - 1 by omega] at a1
       exact hs.lev (hs.lev a1 e) a2
     have hN:eM L (mirror (arrOf st) lo (lo + n) ((lo + n - lo) / 2)) lo (n + 1):=by
       have h0:eM L (arrOf st) lo (n + 1):=eM.step hs n1 (λi j hij hj=>hall i j (by omega) hj) (hs.asy _ _ hlt)
       exact h0.alike hs (d:=0) (n:=n) (by rw [hB.size]; omega) (by omega) (by omega) λi j _ hi _ hj=>hall i j hi hj
     generalize hst:setArr st (mirror (arrOf st) lo (lo + n) ((lo + n - lo) / 2))=st1 at hR ⊢
     rw [show mirror (arrOf st) lo (lo + n) ((lo + n - lo) / 2)=arrOf st1 by rw [<- hst]] at hN
   case' neg=>
     rw [if_neg hgt]
     have hR:=Rl.refl (lo:=lo) hB
     have hN:eM L (arrOf st) lo (n + 1):=by
       refine eM.step hs n1 (λi j hij hj=>?_) (hs.asy _ _ hlt)
       have:i=j:=by omega
       subst this; exact hs.irr _
     obtain ⟨st1,hst,hR,hN⟩:∃ st1,st1=st/\Rl a₀ lo st st1/\eM L (arrOf st1) lo (n + 1):=⟨st,rfl,hR,hN⟩
     refine (congrArg (λz=>wpS (model prog w) A E s _ Q z) hst).mp ?_
   all_goals
     clear hlt hor hsn hst
     refine wpS_bind (wpS_lift (wpAny_rule ⟨rfl,?_⟩))
     refine wpS_bind (wpS_mono (wpS_forRange (I:=λx c st'=>∃ neq,c=(none,x,neq)/\Rl a₀ lo st st'/\eM L (arrOf st') lo x/\neq + 1<=x/\∀ i j,x - (neq + 1)<=i->i < x->x - (neq + 1)<=j->j < x->L (V (arrOf st') (lo + i)) (V (arrOf st') (lo + j))=false) (Q:=λc st'=>∃ x neq,c=(none,x,neq)/\n + 1<=x/\x<=nrem/\Rl a₀ lo st st'/\eM L (arrOf st') lo x/\neq + 1<=x/\∀ i j,x - (neq + 1)<=i->i < x->x - (neq + 1)<=j->j < x->L (V (arrOf st') (lo + i)) (V (arrOf st') (lo + j))=false) ?step2 ?fin2 ⟨0,rfl,hR,hN,by omega,λi j a1 a2 a3 a4=>by rw [show i=j by omega]; exact hs.irr _⟩) ?post2)
     case fin2=>
       rintro c st' ⟨neq,rfl,hR',hN',hq,he⟩
       rw [show max (n + 1) nrem=nrem by omega] at hN' hq he ⊢
       exact ⟨nrem,neq,rfl,by omega,Nat.le_refl _,hR',hN',hq,he⟩
     case step2=>
       rintro x c st' hax hxn ⟨neq,rfl,hR',hN',hq,he⟩
       dsimp only
       have hsz:lo + x<=(arrOf st').size:=by rw [hR'.1.size]; omega
       refine wpS_bind (eJ hL hR'.1 (by omega) (by omega) ?_)
       dsimp only
       cases e:L (V (arrOf st') (lo + x)) (V (arrOf st') (lo + x - 1)) with
       | true=>
         rw [if_pos rfl]
         have hN2:=hN'.step hs (by omega) (hs.asy _ _ e)
         by_cases hneq:neq > 0
         · rw [if_pos hneq]
           refine wpS_bind (wpS_reverse (wpS_pure ⟨0,rfl,?_,?_,by omega,λi j a1 a2 a3 a4=>by rw [show i=j by omega]; exact hs.irr _⟩))
           · exact hR'.mir (by omega) (by omega)
           · have:=hN2.alike hs (d:=x - (neq + 1)) (n:=x) hsz (by omega) (by omega) he
             rw [show lo + (x - (neq + 1))=lo + x - (neq + 1) by omega] at this
             exact this
         · rw [if_neg hneq]
           exact wpS_pure ⟨0,rfl,hR',hN2,by omega,λi j a1 a2 a3 a4=>by rw [show i=j by omega]; exact hs.irr _⟩
       | false=>
         rw [if_neg (by decide)]
         refine wpS_bind (eJ hL hR'.1 (by omega) (by omega) ?_)
         dsimp only
         cases e2:L (V (arrOf st') (lo + x - 1)) (V (arrOf st') (lo + x)) with
         | true=>
           rw [if_pos rfl]
           exact wpS_pure ⟨x,neq,rfl,hax,by omega,hR',hN',hq,he⟩
         | false=>
           rw [if_neg (by decide)]
           refine wpS_pure ⟨neq + 1,rfl,hR',hN'.step hs (by omega) e2,by omega,λi j a1 a2 a3 a4=>?_⟩
           have z:∀ i,x - (neq + 1)<=i->i < x->L (V (arrOf st') (lo + i)) (V (arrOf st') (lo + x))=false/\L (V (arrOf st') (lo + x)) (V (arrOf st') (lo + i))=false:=λi h1 h2=>by
             have c1:=he i (x - 1) h1 h2 (by omega) (by omega)
             have c2:=he (x - 1) i (by omega) (by omega) h1 h2
             rw [show lo + (x - 1)=lo + x - 1 by omega] at c1 c2
             exact ⟨hs.lev e2 c1,hs.lev c2 e⟩
           by_cases i1:i=x
           · by_cases j1:j=x
             · rw [i1,j1]; exact hs.irr _
             · rw [i1]; exact (z j (by omega) (by omega)).2
           · by_cases j1:j=x
             · rw [j1]; exact (z i (by omega) (by omega)).1
             · exact he i j (by omega) (by omega) (by omega) (by omega)
     case post2=>
       rintro c st' ⟨m,neq,rfl,m1,m2,hR',hN',hq,he⟩
       dsimp only
       have hsz:lo + m<=(arrOf st').size:=by rw [hR'.1.size]; omega
       by_cases hneq:neq > 0
       case' pos=>
         rw [if_pos hneq]
         refine wpS_bind (wpS_reverse ?_)
         have hN2:=hN'.alike hs (d:=m - (neq + 1)) (n:=m) hsz (by omega) (by omega) he
         have hR2:=hR'.mir (i:=lo + (m - (neq + 1))) (j:=lo + m) (by omega) (by omega)
         rw [show lo + (m - (neq + 1))=lo + m - (neq + 1) by omega] at hN2 hR2
         generalize hst:setArr st' (mirror (arrOf st') (lo + m - (neq + 1)) (lo + m) ((lo + m - (lo + m - (neq + 1))) / 2))=st2 at hR2 ⊢
         rw [show mirror (arrOf st') (lo + m - (neq + 1)) (lo + m) ((lo + m - (lo + m - (neq + 1))) / 2)=arrOf st2 by rw [<- hst]] at hN2
       case' neg=>
         rw [if_neg hneq]
         have hR2:=hR'
         have hN2:=hN'
         generalize hst:st'=st2 at hR2 hN2 ⊢
       all_goals
         refine wpS_bind (wpS_reverse ?_)
         have hsz2:lo + m<=(arrOf st2).size:=by rw [hR2.1.size]; omega
         have hS3:=hN2.mirror hsz2
         have hR3:=hR2.mir (i:=lo) (j:=lo + m) (Nat.le_refl _) (by omega)
         generalize hst3:setArr st2 (mirror (arrOf st2) lo (lo + m) ((lo + m - lo) / 2))=st3 at hR3 ⊢
         rw [show mirror (arrOf st2) lo (lo + m) ((lo + m - lo) / 2)=arrOf st3 by rw [<- hst3]] at hS3
         refine wpS_bind (wpS_mono (wpS_forRange (I:=λx c st'=>st3=st'/\c=(none,x)/\dR L (arrOf st3) lo x) (Q:=λc st'=>st3=st'/\∃ n,c=(none,n)/\1<=n/\n<=nrem/\dR L (arrOf st3) lo n) ?step3 ?fin3 ⟨rfl,rfl,hS3⟩) ?post3)
         case fin3=>
           rintro c st' ⟨rfl,rfl,hs'⟩
           rw [show max m nrem=nrem by omega] at hs' ⊢
           exact ⟨rfl,nrem,rfl,h1,Nat.le_refl _,hs'⟩
         case step3=>
           rintro x c st' hax hxn ⟨rfl,rfl,hs'⟩
           dsimp only
           refine wpS_bind (eJ hL hR3.1 (by omega) (by omega) ?_)
           dsimp only
           cases e:L (V (arrOf st3) (lo + x)) (V (arrOf st3) (lo + x - 1)) with
           | true=>
             rw [if_pos rfl]
             exact wpS_pure ⟨rfl,x,rfl,by omega,by omega,hs'⟩
           | false=>
             rw [if_neg (by decide)]
             exact wpS_pure ⟨rfl,rfl,hs'.step hs (by omega) e⟩
         case post3=>
           rintro c st' ⟨rfl,n,rfl,n1,n2,hsn⟩
           exact wpS_pure (h n _ hR3 n1 n2 hsn)
end
variable {L:Value->Value->Bool}
noncomputable def sl (l:List Keyed) (lo n:Nat):List Keyed:=(l.drop lo).take n
theorem jS {l:List Keyed} {lo n i:Nat}:(sl l lo n)[i]?=if i < n then l[lo + i]? else none:=by
 unfold sl
 rw [List.getElem?_take,List.getElem?_drop]
theorem lE {l l':List Keyed} {lo n:Nat} (h:∀ k,lo<=k->k < lo + n->l[k]?=l'[k]?):sl l lo n=sl l' lo n:=List.ext_getElem? λi=>by
 rw [jS,jS]
 by_cases c:i < n
 · rw [if_pos c,if_pos c]; exact h _ (by omega) (by omega)
 · rw [if_neg c,if_neg c]
theorem vP {xs:Array Keyed} {lo n:Nat} (h:dR L xs lo n):(sl xs.toList lo n).Pairwise (Le L):=by
 rw [List.pairwise_iff_getElem]
 intro i j hi hj hij
 have ei:=List.getElem?_eq_getElem hi
 have ej:=List.getElem?_eq_getElem hj
 rw [jS] at ei ej
 have hn:j < n:=by
   by_cases c:j < n
   · exact c
   · rw [if_neg c] at ej; cases ej
 rw [if_pos (by omega),Array.getElem?_toList] at ei
 rw [if_pos hn,Array.getElem?_toList] at ej
 have:=h i j (by omega) hn
 unfold V at this
 rw [ei,ej] at this
 exact this
section
variable {prog:Program} {w:World} {A:Around} {E:Value->Shared->Prop} {s:Shared} {a₀:Array Keyed}
set_option maxHeartbeats 2000000 in
theorem uP (hs:Sw L) (hL:gd prog w A s L a₀) {st:SortSt} {lo n ok:Nat} {Q:Bool->SortSt->Prop} (hB:Ba a₀ st) (hlo:lo + n<=a₀.size) (h1:1<=ok) (hok:ok<=n) (hS:dR L (arrOf st) lo ok)
   (h:∀ st',Rl a₀ lo st st'->dR L (arrOf st') lo n->Q true st'):wpS (model prog w) A E s (binarySort' lo n ok) Q st:=by
 rw [binarySort'_eq]
 rw [show max ok 1=ok by omega]
 refine wpS_bind (wpS_mono (wpS_forRange (I:=λx c st'=>c=(none,())/\Rl a₀ lo st st'/\dR L (arrOf st') lo x) (Q:=λc st'=>c=(none,())/\Rl a₀ lo st st'/\dR L (arrOf st') lo n) ?step ?fin ⟨rfl,Rl.refl hB,hS⟩) ?post)
 case fin=>
   rintro c st' ⟨rfl,hR,hS'⟩
   rw [show max ok n=n by omega] at hS'
   exact ⟨rfl,hR,hS'⟩
 case post=>
   rintro c st' ⟨rfl,hR,hS'⟩
   exact wpS_pure (h st' hR hS')
 case step=>
   rintro k c st' hk1 hk2 ⟨rfl,hR,hS'⟩
   dsimp only
   refine wpS_bind (wpS_mono (wpS_forRange (I:=λx c st''=>st'=st''/\∃ l r,c=(none,l,r)/\l<=r/\r<=k/\r<=l + (k - x)/\(∀ i,i < l->L (V (arrOf st') (lo + k)) (V (arrOf st') (lo + i))=false)/\∀ i,r<=i->i < k->L (V (arrOf st') (lo + k)) (V (arrOf st') (lo + i))=true) (Q:=λc st''=>st'=st''/\∃ l,c=(none,l,l)/\l<=k/\(∀ i,i < l->L (V (arrOf st') (lo + k)) (V (arrOf st') (lo + i))=false)/\∀ i,l<=i->i < k->L (V (arrOf st') (lo + k)) (V (arrOf st') (lo + i))=true) ?step2 ?fin2 ⟨rfl,0,k,rfl,by omega,by omega,by omega,λi hi=>by omega,λi _ _=>by omega⟩) ?post2)
   case fin2=>
     rintro c st'' ⟨rfl,l,r,rfl,a1,a2,a3,a4,a5⟩
     have:l=r:=by omega
     subst this
     exact ⟨rfl,l,rfl,a2,a4,a5⟩
   case step2=>
     rintro x c st'' _ hx ⟨rfl,l,r,rfl,a1,a2,a3,a4,a5⟩
     dsimp only
     by_cases c:l ≥ r
     · rw [if_pos c]
       have:l=r:=by omega
       subst this
       exact wpS_pure ⟨rfl,l,rfl,a2,a4,a5⟩
     rw [if_neg c]
     refine wpS_bind (eJ hL hR.1 (by omega) (by omega) ?_)
     dsimp only
     cases e:L (V (arrOf st') (lo + k)) (V (arrOf st') (lo + (l + r) / 2)) with
     | true=>
       rw [if_pos rfl]
       refine wpS_pure ⟨rfl,_,_,rfl,by omega,by omega,by omega,a4,λi h1 h2=>?_⟩
       have:=hS' ((l + r) / 2) i h1 h2
       rcases hs.ng _ (V (arrOf st') (lo + i)) _ e with z | z
       · exact z
       · rw [this] at z; cases z
     | false=>
       rw [if_neg (by decide)]
       refine wpS_pure ⟨rfl,_,_,rfl,by omega,by omega,by omega,λi hi=>?_,a5⟩
       have:=hS' i ((l + r) / 2) (by omega) (by omega)
       exact hs.lev this e
   case post2=>
     rintro c st'' ⟨rfl,l,rfl,a2,a4,a5⟩
     dsimp only
     rw [moveDown'_eq]
     refine wpS_bind (wpS_modify (wpS_pure ⟨rfl,?_,?_⟩))
     · exact hR.bub (by omega) (by omega) (by omega)
     · have hz:lo + k < (arrOf st').size:=by rw [hR.1.size]; omega
       have key:∀ i,i < k + 1->V (bubble (arrOf st') (lo + k) (lo + k - (lo + l))) (lo + i)=if i=l then V (arrOf st') (lo + k) else if l < i then V (arrOf st') (lo + (i - 1)) else V (arrOf st') (lo + i):=λi hi=>by
         rw [sL hz (by omega)]
         by_cases c1:i=l
         · rw [if_pos (by omega),if_pos c1]
         · rw [if_neg (by omega),if_neg c1]
           by_cases c2:l < i
           · rw [if_pos (by omega),if_pos c2]
             congr 1; omega
           · rw [if_neg (by omega),if_neg c2]
       intro i j hij hj
       show L (V (bubble (arrOf st') (lo + k) (lo + k - (lo + l))) (lo + j)) (V (bubble (arrOf st') (lo + k) (lo + k - (lo + l))) (lo + i))=false
       rw [key i (by omega),key j hj]
       by_cases c1:j=l
       · rw [if_pos c1]
         by_cases c2:i=l
         · rw [if_pos c2]; exact hs.irr _
         · rw [if_neg c2,if_neg (by omega)]
           exact a4 i (by omega)
       · rw [if_neg c1]
         by_cases c2:l < j
         · rw [if_pos c2]
           by_cases c3:i=l
           · rw [if_pos c3]
             exact hs.asy _ _ (a5 (j - 1) (by omega) (by omega))
           · rw [if_neg c3]
             by_cases c4:l < i
             · rw [if_pos c4]
               exact hS' (i - 1) (j - 1) (by omega) (by omega)
             · rw [if_neg c4]
               exact hS' i (j - 1) (by omega) (by omega)
         · rw [if_neg c2,if_neg (by omega),if_neg (by omega)]
           exact hS' i j hij (by omega)
end
theorem pJ (base:Nat):∀ (r:List Keyed) (o:Nat) (xs:Array Keyed),base + o + r.length<=xs.size->((r.zipIdx o).foldl (λ(a:Array Keyed) (x:Keyed × Nat)=>a.setIfInBounds (base + x.2) x.1) xs).toList=xs.toList.take (base + o)++r++xs.toList.drop (base + o + r.length)
 | [],o,xs,h=>by
   show xs.toList=_
   rw [List.append_nil,List.length_nil,Nat.add_zero,List.take_append_drop]
 | p :: r,o,xs,h=>by
   rw [List.length_cons] at h
   rw [List.zipIdx_cons,List.foldl_cons,pJ base r (o + 1) (xs.setIfInBounds (base + o) p) (by rw [Array.size_setIfInBounds]; omega),Array.toList_setIfInBounds]
   have hl:base + o < xs.toList.length:=by rw [Array.length_toList]; omega
   have e1:(xs.toList.set (base + o) p).take (base + (o + 1))=xs.toList.take (base + o)++[p]:=by
     rw [show base + (o + 1)=base + o + 1 by omega,List.take_succ,List.take_set_of_le (Nat.le_refl _),List.getElem?_set_self hl]
     rfl
   have e2:(xs.toList.set (base + o) p).drop (base + (o + 1) + r.length)=xs.toList.drop (base + o + (p :: r).length):=by
     rw [List.drop_set_of_lt (by omega),List.length_cons]
     congr 1; omega
   rw [e1,e2,List.append_assoc (xs.toList.take (base + o)) [p] r]
   rfl
variable {L:Value->Value->Bool}
theorem lZ (i:Nat):mergeAt' i=(do
 let s <- get
 let (some (sa,na,power),some (sb,nb,_)):=((pendingOf s)[i]?,(pendingOf s)[i + 1]?) | unsupported "internal:list.sort.pending"
 set (setPending s (((pendingOf s).setIfInBounds i (sa,na + nb,power)).eraseIdxIfInBounds (i + 1)))
 let some k <- cy false (<- elem' (arrOf s) sb) (arrOf s) sa na 0 | return false
 let (sa,na):=(sa + k,na - k)
 if na == 0 then return true
 let some nb <- cy true (<- elem' (arrOf s) (sa + na - 1)) (arrOf s) sb nb (nb - 1) | return false
 if nb == 0 then return true
 let x:=(arrOf s).extract sa sb
 let y:=(arrOf s).extract sb (sb + nb)
 let merged <- if na<=nb then jd x y else iK x y
 modify λs=>setArr s (merged.toList.zipIdx.foldl (λa (p,j)=>a.setIfInBounds (sa + j) p) (arrOf s))
 return (failedOf (<- get)).isNone):=rfl
section
variable {prog:Program} {w:World} {A:Around} {E:Value->Shared->Prop} {s:Shared} {a₀:Array Keyed}
theorem uj {st st':SortSt} {Q:PUnit->SortSt->Prop} (h:Q ⟨⟩ st'):wpS (model prog w) A E s (set st':StateT SortSt Sem PUnit) Q st:=by
 unfold wpS; rw [StateT.run_set]; exact wpAny_pure ⟨rfl,h⟩
set_option maxHeartbeats 2000000 in
theorem lB (hs:Sw L) (hL:gd prog w A s L a₀) {st:SortSt} {i sa na pw nb pw2:Nat} {Q:Bool->SortSt->Prop} (hB:Ba a₀ st) (h1:(pendingOf st)[i]?=some (sa,na,pw)) (h2:(pendingOf st)[i + 1]?=some (sa + na,nb,pw2)) (n1:1<=na) (n2:1<=nb) (hz:sa + na + nb<=a₀.size)
   (hA:(sl (arrOf st).toList sa na).Pairwise (Le L)) (hC:(sl (arrOf st).toList (sa + na) nb).Pairwise (Le L))
   (h:∀ st',Ba a₀ st'->pendingOf st'=((pendingOf st).setIfInBounds i (sa,na + nb,pw)).eraseIdxIfInBounds (i + 1)->(sl (arrOf st').toList sa (na + nb)).Pairwise (Le L)->(∀ k,k < sa\/sa + na + nb<=k->(arrOf st').toList[k]?=(arrOf st).toList[k]?)->Q true st'):wpS (model prog w) A E s (mergeAt' i) Q st:=by
 rw [lZ]
 refine wpS_bind (wpS_get ?_)
 rw [h1,h2]
 dsimp only
 refine wpS_bind (uj ?_)
 have hsz:(arrOf st).size=a₀.size:=hB.size
 have hln:(arrOf st).toList.length=a₀.size:=by rw [Array.length_toList,hsz]
 generalize hX:(arrOf st).toList=X at *
 obtain ⟨b0,eb,eb',mb⟩:=elA (arrOf st) (i:=sa + na) (by omega)
 refine wpS_bind (aI eb ?_)
 rw [hX] at eb' mb
 have mem0:∀ p ∈ X,p ∈ a₀.toList:=λp hp=>hB.mem p (hX ▸ hp)
 have lA:(sl X sa na).length=na:=by unfold sl; rw [List.length_take,List.length_drop]; omega
 have lC:(sl X (sa + na) nb).length=nb:=by unfold sl; rw [List.length_take,List.length_drop]; omega
 have atA:∀ j,j < na->∃ p,(arrOf st)[sa + j]?=some p/\(sl X sa na)[j]?=some p/\p ∈ a₀.toList:=λj hj=>by
   obtain ⟨p,ep,ep',mp⟩:=elA (arrOf st) (i:=sa + j) (by omega)
   rw [hX] at ep' mp
   exact ⟨p,ep,by rw [jS,if_pos hj]; exact ep',mem0 p mp⟩
 have atC:∀ j,j < nb->∃ p,(arrOf st)[sa + na + j]?=some p/\(sl X (sa + na) nb)[j]?=some p/\p ∈ a₀.toList:=λj hj=>by
   obtain ⟨p,ep,ep',mp⟩:=elA (arrOf st) (i:=sa + na + j) (by omega)
   rw [hX] at ep' mp
   exact ⟨p,ep,by rw [jS,if_pos hj]; exact ep',mem0 p mp⟩
 have eAC:sl X sa (na + nb)=sl X sa na++sl X (sa + na) nb:=by
   unfold sl
   rw [List.take_add,List.drop_drop]
 have c0:(sl X (sa + na) nb)[0]?=some b0:=by rw [jS,if_pos (by omega)]; exact eb'
 have b0le:∀ y ∈ sl X (sa + na) nb,b0=y\/Le L b0 y:=by
   have:=hW hs hC c0
   rwa [List.drop_zero] at this
 generalize hAl:sl X sa na=A1 at *
 generalize hCl:sl X (sa + na) nb=C1 at *
 refine wpS_bind (bE hL (λj=>!L b0.1 (A1.getD (0 + j) b0).1) (mem0 _ mb) (λj hj=>?harr) (by omega) hB.kind λk fk=>?_)
 case harr=>
   obtain ⟨p,ep,ep',mp⟩:=atA j hj
   refine ⟨p,ep,mp,?_⟩
   rw [List.getD,Nat.zero_add,ep']
   rfl
 obtain ⟨fa1,fa2⟩:=vm (L:=L) (l:=A1) (n:=na) (by omega) hs hA fk
 have k1:=fk.1
 rw [List.take_of_length_le (i:=na) (by omega)] at fa2
 have same:∀ (j:Nat),X[j]?=X[j]?:=λ_=>rfl
 dsimp only
 by_cases ck:na - k=0
 · rw [if_pos (by simpa using ck)]
   have ek:A1.take k=A1:=List.take_of_length_le (by omega)
   rw [ek] at fa1
   refine wpS_pure (h _ ⟨hB.perm,hB.failed,hB.kind⟩ rfl ?_ ?_)
   · show (sl (arrOf st).toList sa (na + nb)).Pairwise _
     rw [hX,eAC,List.pairwise_append]
     refine ⟨hA,hC,λx hx y hy=>?_⟩
     rcases b0le y hy with rfl | z
     · exact fa1 x hx
     · exact hs.le (fa1 x hx) z
   · intro j _
     show (arrOf st).toList[j]?=_
     rw [hX]
 rw [if_neg (by simpa using ck)]
 obtain ⟨al,el,el',ml⟩:=atA (na - 1) (by omega)
 rw [show sa + (na - 1)=sa + k + (na - k) - 1 by omega] at el
 refine wpS_bind (aI el ?_)
 refine wpS_bind (bE hL (λj=>L (C1.getD (0 + j) al).1 al.1) ml (λj hj=>?harr2) (by omega) hB.kind λm fm=>?_)
 case harr2=>
   obtain ⟨p,ep,ep',mp⟩:=atC j hj
   refine ⟨p,ep,mp,?_⟩
   rw [List.getD,Nat.zero_add,ep']
   rfl
 obtain ⟨fc1,fc2⟩:=vB (L:=L) (l:=C1) (n:=nb) (by omega) hs hC fm
 have m1:=fm.1
 rw [List.take_of_length_le (i:=nb) (by omega)] at fc2
 have alge:∀ y ∈ A1,Le L y al:=by
   have:=ft (L:=L) (l:=A1) (n:=na) (p:=al) (q:=al) hs hA n1 el' (hs.irr _)
   rwa [List.take_of_length_le (i:=na) (by omega)] at this
 dsimp only
 by_cases cm:m=0
 · rw [if_pos (by simpa using cm)]
   subst cm
   rw [List.drop_zero] at fc2
   refine wpS_pure (h _ ⟨hB.perm,hB.failed,hB.kind⟩ rfl ?_ ?_)
   · show (sl (arrOf st).toList sa (na + nb)).Pairwise _
     rw [hX,eAC,List.pairwise_append]
     exact ⟨hA,hC,λx hx y hy=>hs.le (alge x hx) (fc2 y hy)⟩
   · intro j _
     show (arrOf st).toList[j]?=_
     rw [hX]
 rw [if_neg (by simpa using cm)]
 have ex:((arrOf st).extract (sa + k) (sa + na)).toList=A1.drop k:=by
   rw [show sa + na=sa + k + (na - k) by omega,xt1,hX,<- hAl]
   unfold sl
   rw [List.drop_take,List.drop_drop]
 have ey:((arrOf st).extract (sa + na) (sa + na + m)).toList=C1.take m:=by
   rw [xt1,hX,<- hCl]
   unfold sl
   rw [List.take_take,Nat.min_eq_left m1]
 have sx:((arrOf st).extract (sa + k) (sa + na)).size=na - k:=by rw [<- Array.length_toList,ex,List.length_drop,lA]
 have sy:((arrOf st).extract (sa + na) (sa + na + m)).size=m:=by rw [<- Array.length_toList,ey,List.length_take,lC]; omega
 have inX:∀ p ∈ A1,p ∈ a₀.toList:=λp hp=>by
   rw [<- hAl] at hp
   exact mem0 p (List.mem_of_mem_drop (List.mem_of_mem_take hp))
 have inY:∀ p ∈ C1,p ∈ a₀.toList:=λp hp=>by
   rw [<- hCl] at hp
   exact mem0 p (List.mem_of_mem_drop (List.mem_of_mem_take hp))
 have fin:∀ (r:Array Keyed) (st':SortSt),Sg (setPending st (((pendingOf st).setIfInBounds i (sa,na + nb,pw)).eraseIdxIfInBounds (i + 1))) st'->Res L ((arrOf st).extract (sa + k) (sa + na)).toList ((arrOf st).extract (sa + na) (sa + na + m)).toList r.toList ->
     wpS (model prog w) A E s (do
       modify λs=>setArr s (r.toList.zipIdx.foldl (λ(a:Array Keyed) (x:Keyed × Nat)=>a.setIfInBounds (sa + k + x.2) x.1) (arrOf s))
       let z <- get
       pure (failedOf z).isNone) Q st':=by
   intro r st' sg rs
   rw [ex,ey] at rs
   obtain ⟨rp,rg⟩:=rs
   have g:GL L (A1.drop k) (C1.take m):=by
     refine ⟨hs,hA.sublist (List.drop_sublist ..),hC.sublist (List.take_sublist ..),λp hp q hq=>?_,λq hq p hp=>?_⟩
     · rw [List.getElem?_take,if_pos (by omega),c0] at hp
       cases hp
       exact fa2 q hq
     · rw [List.getElem?_drop,List.length_drop,lA,show k + (na - k - 1)=na - 1 by omega,el'] at hq
       cases hq
       exact fc1 p hp
   have rsrt:=rg g
   have rl:r.toList.length=na - k + m:=by rw [rp.length_eq,List.length_append,List.length_drop,List.length_take,lA,lC]; omega
   refine wpS_bind (wpS_modify (wpS_bind (wpS_get ?_)))
   have ea:arrOf st'=arrOf st:=sg.2.1
   have pt:(r.toList.zipIdx.foldl (λ(a:Array Keyed) (x:Keyed × Nat)=>a.setIfInBounds (sa + k + x.2) x.1) (arrOf st')).toList=X.take (sa + k)++r.toList++X.drop (sa + k + (na - k + m)):=by
     have:=pJ (sa + k) r.toList 0 (arrOf st') (by rw [ea,rl]; omega)
     rw [ea,hX,rl,Nat.add_zero] at this
     rw [ea]
     exact this
   have pA:X.take (sa + k)=X.take sa++A1.take k:=by
     rw [List.take_add,<- hAl]
     unfold sl
     rw [List.take_take,Nat.min_eq_left k1]
   have pC:X.drop (sa + k + (na - k + m))=C1.drop m++X.drop (sa + na + nb):=by
     rw [<- hCl]
     unfold sl
     rw [List.drop_take,List.drop_drop,show sa + na + nb=sa + na + m + (nb - m) by omega,<- List.drop_drop (i:=nb - m),List.take_append_drop]
     congr 1; omega
   have hf:failedOf st'=none:=sg.2.2.2.trans hB.failed
   show wpS _ _ _ _ (pure (failedOf st').isNone) Q _
   rw [hf]
   refine wpS_pure (h _ ⟨?_,hf,sg.1.trans hB.kind⟩ sg.2.2.1 ?_ ?_)
   · show (r.toList.zipIdx.foldl _ (arrOf st')).Perm a₀
     refine Array.Perm.trans ?_ hB.perm
     rw [Array.perm_iff_toList_perm,pt,hX,pA,pC]
     have e:X=X.take sa++(A1++C1++X.drop (sa + na + nb)):=by
       rw [<- eAC]
       unfold sl
       rw [show sa + na + nb=sa + (na + nb) by omega,<- List.drop_drop,List.take_append_drop,List.take_append_drop]
     rw [List.append_assoc,List.append_assoc]
     conv=>rhs; rw [e]
     refine List.Perm.append_left _ ?_
     have e2:A1++C1++X.drop (sa + na + nb)=A1.take k++((A1.drop k++C1.take m)++(C1.drop m++X.drop (sa + na + nb))):=by
       conv=>lhs; rw [<- List.take_append_drop k A1,<- List.take_append_drop m C1]
       simp only [List.append_assoc]
     rw [e2]
     exact List.Perm.append_left _ (List.Perm.append_right _ rp)
   · show (sl (r.toList.zipIdx.foldl _ (arrOf st')).toList sa (na + nb)).Pairwise _
     have e3:sl (r.toList.zipIdx.foldl (λ(a:Array Keyed) (x:Keyed × Nat)=>a.setIfInBounds (sa + k + x.2) x.1) (arrOf st')).toList sa (na + nb)=A1.take k++r.toList++C1.drop m:=by
       rw [pt,pA,pC]
       unfold sl
       have l0:(X.take sa).length=sa:=by rw [List.length_take]; omega
       have:X.take sa++A1.take k++r.toList++(C1.drop m++X.drop (sa + na + nb))=X.take sa++((A1.take k++r.toList++C1.drop m)++X.drop (sa + na + nb)):=by simp only [List.append_assoc]
       rw [this,List.drop_left' l0,List.take_left']
       simp only [List.length_append,List.length_take,List.length_drop,lA,lC,rl]
       omega
     rw [e3]
     have mr:∀ y ∈ r.toList,y ∈ A1.drop k\/y ∈ C1.take m:=λy hy=>List.mem_append.mp (rp.mem_iff.mp hy)
     have b0r:∀ y ∈ r.toList,Le L b0 y:=λy hy=>by
       rcases mr y hy with z | z
       · exact fa2 y z
       · rcases b0le y (List.mem_of_mem_take z) with rfl | z
         · exact hs.irr _
         · exact z
     have cmd:∀ y ∈ C1.take m,∀ z ∈ C1.drop m,Le L y z:=by
       have:=List.take_append_drop m C1 ▸ hC
       exact (List.pairwise_append.mp this).2.2
     rw [List.append_assoc,List.pairwise_append,List.pairwise_append]
     refine ⟨hA.sublist (List.take_sublist ..),⟨rsrt,hC.sublist (List.drop_sublist ..),λy hy z hz=>?_⟩,λx hx y hy=>?_⟩
     · rcases mr y hy with q | q
       · exact hs.le (alge y (List.mem_of_mem_drop q)) (fc2 z hz)
       · exact cmd y q z hz
     · rcases List.mem_append.mp hy with hy | hy
       · exact hs.le (fa1 x hx) (b0r y hy)
       · rcases b0le y (List.mem_of_mem_drop hy) with rfl | z
         · exact fa1 x hx
         · exact hs.le (fa1 x hx) z
   · intro j hj
     show (r.toList.zipIdx.foldl _ (arrOf st')).toList[j]?=_
     rw [pt]
     rcases hj with hj | hj
     · rw [List.append_assoc,List.getElem?_append_left (by rw [List.length_take]; omega),List.getElem?_take,if_pos (by omega)]
     · have l1:(X.take (sa + k)++r.toList).length=sa + k + (na - k + m):=by rw [List.length_append,List.length_take,rl]; omega
       rw [List.getElem?_append_right (by omega),l1,List.getElem?_drop]
       congr 1; omega
 by_cases cc:na - k<=m
 · rw [if_pos cc]
   refine wpS_bind (lx hL (λp hp=>?_) (λp hp=>?_) (by omega) (by omega) hB.kind λr st' sg rs=>fin r st' sg rs)
   · rw [ex] at hp; exact inX p (List.mem_of_mem_drop hp)
   · rw [ey] at hp; exact inY p (List.mem_of_mem_take hp)
 · rw [if_neg cc]
   refine wpS_bind (lF hL (λp hp=>?_) (λp hp=>?_) (by omega) (by omega) hB.kind λr st' sg rs=>fin r st' sg rs)
   · rw [ex] at hp; exact inX p (List.mem_of_mem_drop hp)
   · rw [ey] at hp; exact inY p (List.mem_of_mem_take hp)
end
variable {L:Value->Value->Bool}
noncomputable def Runs (L:Value->Value->Bool) (X:List Keyed):List (Nat × Nat × Nat)->Nat->Nat->Prop
 | [],a,b=>a=b
 | (st,n,_) :: p,a,b=>st=a/\1<=n/\(sl X a n).Pairwise (Le L)/\Runs L X p (a + n) b
theorem Runs.le {X:List Keyed}:∀ {p:List (Nat × Nat × Nat)} {a b:Nat},Runs L X p a b->a + p.length<=b
 | [],_,_,h=>Nat.le_of_eq h
 | (_,n,_) :: p,a,b,h=>by
   have:=Runs.le h.2.2.2
   have:=h.2.1
   rw [List.length_cons]
   omega
theorem Runs.congr {X X':List Keyed}:∀ {p:List (Nat × Nat × Nat)} {a b:Nat},Runs L X p a b->(∀ k,a<=k->k < b->X'[k]?=X[k]?)->Runs L X' p a b
 | [],_,_,h,_=>h
 | (_,n,_) :: p,a,b,h,e=>by
   have l:=Runs.le h.2.2.2
   refine ⟨h.1,h.2.1,?_,h.2.2.2.congr λk h1 h2=>e k (by omega) h2⟩
   rw [lE λk h1 h2=>e k h1 (by omega)]
   exact h.2.2.1
theorem Runs.app {X:List Keyed}:∀ {p q:List (Nat × Nat × Nat)} {a b:Nat},Runs L X (p++q) a b ↔ ∃ c,Runs L X p a c/\Runs L X q c b
 | [],q,a,b=>⟨λh=>⟨a,rfl,h⟩,λ⟨c,h1,h2⟩=>by cases h1; exact h2⟩
 | (st,n,_) :: p,q,a,b=>⟨λh=>by
     obtain ⟨c,h1,h2⟩:=Runs.app.mp h.2.2.2
     exact ⟨c,⟨h.1,h.2.1,h.2.2.1,h1⟩,h2⟩,λ⟨c,h1,h2⟩=>⟨h1.1,h1.2.1,h1.2.2.1,Runs.app.mpr ⟨c,h1.2.2.2,h2⟩⟩⟩
theorem Runs.pow {X:List Keyed}:∀ {p:List (Nat × Nat × Nat)} {i pw:Nat} {a b:Nat},Runs L X p a b->Runs L X (p.modify i λx=>(x.1,x.2.1,pw)) a b
 | [],i,_,_,_,h=>by cases i <;> exact h
 | (_,n,_) :: p,0,_,a,b,h=>⟨h.1,h.2.1,h.2.2.1,h.2.2.2⟩
 | (_,n,_) :: p,i + 1,_,a,b,h=>⟨h.1,h.2.1,h.2.2.1,h.2.2.2.pow⟩
theorem wL {α:Type} {p:List α} {i:Nat} {x y:α} (h1:p[i]?=some x) (h2:p[i + 1]?=some y):∃ p1 p2,p=p1++x :: y :: p2/\p1.length=i/\∀ v,(p.set i v).eraseIdx (i + 1)=p1++v :: p2:=by
 induction p generalizing i with
 | nil=>cases h1
 | cons z p ih=>
   cases i with
   | zero=>
     cases p with
     | nil=>cases h2
     | cons y' p=>
       cases h1
       cases h2
       exact ⟨[],p,rfl,rfl,λv=>rfl⟩
   | succ i=>
     obtain ⟨p1,p2,rfl,e,f⟩:=ih (i:=i) h1 h2
     exact ⟨z :: p1,p2,rfl,by rw [List.length_cons,e],λv=>by
       rw [List.set_cons_succ,List.eraseIdx_cons_succ,f]
       rfl⟩
section
variable {prog:Program} {w:World} {A:Around} {E:Value->Shared->Prop} {s:Shared} {a₀:Array Keyed}
theorem me (hs:Sw L) (hL:gd prog w A s L a₀) {st:SortSt} {i e:Nat} {Q:Bool->SortSt->Prop} (hB:Ba a₀ st) (hR:Runs L (arrOf st).toList (pendingOf st).toList 0 e) (hi:i + 1 < (pendingOf st).size) (he:e<=a₀.size)
   (h:∀ st',Ba a₀ st'->Runs L (arrOf st').toList (pendingOf st').toList 0 e->(pendingOf st').size + 1=(pendingOf st).size->(∀ k,e<=k->(arrOf st').toList[k]?=(arrOf st).toList[k]?)->Q true st'):wpS (model prog w) A E s (mergeAt' i) Q st:=by
 obtain ⟨⟨sa,na,pw⟩,e1⟩:∃ x,(pendingOf st).toList[i]?=some x:=⟨_,List.getElem?_eq_getElem (by rw [Array.length_toList]; omega)⟩
 obtain ⟨⟨sb,nb,pw2⟩,e2⟩:∃ x,(pendingOf st).toList[i + 1]?=some x:=⟨_,List.getElem?_eq_getElem (by rw [Array.length_toList]; omega)⟩
 obtain ⟨p1,p2,ep,el,ef⟩:=wL e1 e2
 rw [Array.getElem?_toList] at e1 e2
 rw [ep] at hR
 obtain ⟨c,hR1,rfl,n1,hA,rfl,n2,hC,hR2⟩:=Runs.app.mp hR
 have l2:=hR2.le
 have l1:=hR1.le
 refine lB hs hL hB e1 e2 n1 n2 (by omega) hA hC λst' hB' hp hS hk=>h st' hB' ?_ ?_ λk hk'=>hk k (.inr (by omega))
 · rw [hp,Array.toList_eraseIdxIfInBounds,Array.toList_setIfInBounds,ef,Runs.app]
   refine ⟨sa,hR1.congr λk _ hk'=>hk k (.inl hk'),rfl,by omega,hS,?_⟩
   rw [<- Nat.add_assoc]
   exact hR2.congr λk hk' _=>hk k (.inr hk')
 · rw [hp,<- Array.length_toList,Array.toList_eraseIdxIfInBounds,Array.toList_setIfInBounds,ef,<- Array.length_toList,ep]
   simp only [List.length_append,List.length_cons]
   omega
set_option maxHeartbeats 4000000 in
theorem tO (hs:Sw L) (hL:gd prog w A s L a₀) {st:SortSt} {Q:Unit->SortSt->Prop} (hB:Ba a₀ st) (hp:pendingOf st=#[])
   (h:∀ st',Ba a₀ st'->(arrOf st').toList.Pairwise (Le L)->Q () st'):wpS (model prog w) A E s sortRuns' Q st:=by
 rw [sortRuns'_eq]
 refine wpS_bind (wpS_get ?_)
 dsimp only
 rw [hB.size]
 refine wpS_bind (wpS_mono (wpS_forRange (I:=λx c st'=>∃ lo,c=(none,lo)/\Ba a₀ st'/\Runs L (arrOf st').toList (pendingOf st').toList 0 lo/\lo<=a₀.size/\x<=lo) (Q:=λc st'=>c=(none,a₀.size)/\Ba a₀ st'/\Runs L (arrOf st').toList (pendingOf st').toList 0 a₀.size) ?step ?fin ⟨0,rfl,hB,by rw [hp]; exact rfl,Nat.zero_le _,Nat.le_refl _⟩) ?post)
 case fin=>
   rintro c st' ⟨lo,rfl,hB',hR,h1,h2⟩
   have:lo=a₀.size:=by omega
   subst this
   exact ⟨rfl,hB',hR⟩
 case step=>
   rintro x c st' _ hx ⟨lo,rfl,hB',hR,h1,h2⟩
   dsimp only
   by_cases c1:lo ≥ a₀.size
   · rw [if_pos c1]
     have:lo=a₀.size:=by omega
     subst this
     exact wpS_pure ⟨rfl,hB',hR⟩
   rw [if_neg c1]
   refine wpS_bind (qx hs hL hB' (by omega) (by omega) λm st1 hR1 m1 m2 hS1=>?_)
   have keep1:Runs L (arrOf st1).toList (pendingOf st1).toList 0 lo:=by
     rw [hR1.2.1]
     exact hR.congr λk _ hk=>by rw [Array.getElem?_toList,Array.getElem?_toList]; exact hR1.2.2 k hk
   have hB1:=hR1.1
   dsimp only
   by_cases c2:m < minRun' a₀.size a₀.size 0
   case' pos=>
     rw [if_pos c2]
     refine wpS_bind (wpS_lift (wpAny_rule ⟨rfl,?_⟩))
     refine wpS_bind (uP hs hL hB1 (lo:=lo) (n:=min (a₀.size - lo) (minRun' a₀.size a₀.size 0)) (ok:=m) (by omega) m1 (by omega) hS1 λst2 hR2 hS2=>?_)
     have keep2:Runs L (arrOf st2).toList (pendingOf st2).toList 0 lo:=by
       rw [hR2.2.1]
       exact keep1.congr λk _ hk=>by rw [Array.getElem?_toList,Array.getElem?_toList]; exact hR2.2.2 k hk
     have hB2:=hR2.1
     have n1:1<=min (a₀.size - lo) (minRun' a₀.size a₀.size 0):=by omega
     have n2:lo + min (a₀.size - lo) (minRun' a₀.size a₀.size 0)<=a₀.size:=by omega
     rw [if_neg (by decide)]
     generalize min (a₀.size - lo) (minRun' a₀.size a₀.size 0)=n at hS2 n1 n2 ⊢
   case' neg=>
     rw [if_neg c2]
     have keep2:=keep1
     have hS2:=hS1
     have hB2:=hB1
     have n1:=m1
     have n2:lo + m<=a₀.size:=by omega
     generalize m=n at hS2 n1 n2 ⊢
     generalize st1=st2 at hS2 keep2 hB2 ⊢
   all_goals
     have hN:=vP hS2
     refine wpS_bind (wpS_get ?_)
     cases eb:(pendingOf st2).back? with
     | none=>
       dsimp only
       refine wpS_bind (wpS_modify (wpS_pure ⟨lo + n,rfl,⟨hB2.perm,hB2.failed,hB2.kind⟩,?_,n2,by omega⟩))
       show Runs L (arrOf st2).toList ((pendingOf st2).push (lo,n,0)).toList 0 (lo + n)
       rw [Array.toList_push,Runs.app]
       exact ⟨lo,keep2,rfl,n1,hN,rfl⟩
     | some z=>
       obtain ⟨s1,k1,z3⟩:=z
       dsimp only
       generalize power' a₀.size (2 * s1 + k1) (2 * s1 + k1 + k1 + n) a₀.size=pw
       refine wpS_bind (wpS_mono (wpS_forRange (I:=λ_ c st'=>c=(none,())/\Ba a₀ st'/\Runs L (arrOf st').toList (pendingOf st').toList 0 lo/\(sl (arrOf st').toList lo n).Pairwise (Le L)) (Q:=λc st'=>c=(none,())/\Ba a₀ st'/\Runs L (arrOf st').toList (pendingOf st').toList 0 lo/\(sl (arrOf st').toList lo n).Pairwise (Le L)) ?step2 (λ_ _ z=>z) ⟨rfl,hB2,keep2,hN⟩) ?post2)
       case step2=>
         rintro y c st3 _ hy ⟨rfl,hB3,hR3,hN3⟩
         refine wpS_bind (wpS_get ?_)
         by_cases c3:(pendingOf st3).size > 1
         · rw [if_pos c3]
           obtain ⟨⟨q1,q2,older⟩,eo⟩:∃ x,(pendingOf st3)[(pendingOf st3).size - 2]?=some x:=⟨_,Array.getElem?_eq_getElem (by omega)⟩
           rw [eo]
           dsimp only
           by_cases c4:older<=pw
           · rw [if_pos c4]
             exact wpS_pure ⟨rfl,hB3,hR3,hN3⟩
           · rw [if_neg c4]
             refine wpS_bind (me hs hL hB3 hR3 (by omega) (by omega) λst4 hB4 hR4 _ hk=>?_)
             rw [if_neg (by decide)]
             refine wpS_pure ⟨rfl,hB4,hR4,?_⟩
             rw [lE λk h1 _=>hk k h1]
             exact hN3
         · rw [if_neg c3]
           exact wpS_pure ⟨rfl,hB3,hR3,hN3⟩
       case post2=>
         rintro c st3 ⟨rfl,hB3,hR3,hN3⟩
         dsimp only
         refine wpS_bind (wpS_modify (wpS_bind (wpS_modify (wpS_pure ⟨lo + n,rfl,⟨hB3.perm,hB3.failed,hB3.kind⟩,?_,n2,by omega⟩))))
         show Runs L (arrOf st3).toList (((pendingOf st3).modify ((pendingOf st3).size - 1) λx=>(x.1,x.2.1,pw)).push (lo,n,0)).toList 0 (lo + n)
         rw [Array.toList_push,Runs.app,Array.toList_modify]
         exact ⟨lo,hR3.pow,rfl,n1,hN3,rfl⟩
 case post=>
   rintro c st' ⟨rfl,hB',hR⟩
   dsimp only
   have hl:=hR.le
   rw [Array.length_toList] at hl
   refine wpS_bind (wpS_mono (wpS_forRange (I:=λx c st'=>c=(none,())/\Ba a₀ st'/\Runs L (arrOf st').toList (pendingOf st').toList 0 a₀.size/\(pendingOf st').size + x<=a₀.size) (Q:=λc st'=>c=(none,())/\Ba a₀ st'/\Runs L (arrOf st').toList (pendingOf st').toList 0 a₀.size/\(pendingOf st').size<=1) ?step3 ?fin3 ⟨rfl,hB',hR,by omega⟩) ?post3)
   case fin3=>
     rintro c st3 ⟨rfl,hB3,hR3,hz⟩
     exact ⟨rfl,hB3,hR3,by omega⟩
   case step3=>
     rintro x c st3 _ hx ⟨rfl,hB3,hR3,hz⟩
     refine wpS_bind (wpS_get ?_)
     by_cases c3:(pendingOf st3).size<=1
     · rw [if_pos c3]
       exact wpS_pure ⟨rfl,hB3,hR3,c3⟩
     rw [if_neg c3]
     generalize hi:(if (Option.any (λx=>decide (x < ((pendingOf st3)[(pendingOf st3).size - 2 + 1]?).elim 0 λx=>x.snd.fst)) (if (pendingOf st3).size - 2 > 0 then Option.map (λx=>x.snd.fst) (pendingOf st3)[(pendingOf st3).size - 2 - 1]? else none))=true then (pendingOf st3).size - 2 - 1 else (pendingOf st3).size - 2)=i
     have hi':i + 1 < (pendingOf st3).size:=by
       rw [<- hi]
       repeat' split
       all_goals omega
     refine wpS_bind (me hs hL hB3 hR3 hi' (Nat.le_refl _) λst4 hB4 hR4 hn _=>?_)
     rw [if_neg (by decide)]
     exact wpS_pure ⟨rfl,hB4,hR4,by omega⟩
   case post3=>
     rintro c st3 ⟨rfl,hB3,hR3,hz⟩
     refine wpS_pure (h st3 hB3 ?_)
     have hlen:(arrOf st3).toList.length=a₀.size:=by rw [Array.length_toList,hB3.size]
     generalize hq:(pendingOf st3).toList=q at hR3
     have hql:q.length<=1:=by rw [<- hq,Array.length_toList]; exact hz
     match q,hql,hR3 with
     | [],_,hR3=>
       have:a₀.size=0:=hR3.symm
       rw [List.length_eq_zero_iff.mp (hlen.trans this)]
       exact List.Pairwise.nil
     | [(s1,n,pw)],_,hR3=>
       obtain ⟨_,_,hS,e⟩:=hR3
       have e:0 + n=a₀.size:=e
       unfold sl at hS
       rw [List.drop_zero,List.take_of_length_le (by omega)] at hS
       exact hS
end
end So
namespace Lc
open PySem PySem.Spec PyProof.Rows L2
open PySem.AutoSeq1 (wpAny_loadPart')
open PySem.MeetsSeq PySem.MeetsSeq2 PySem.MeetsSeq3 PySem.SeqRoads2 PySem.SeqAt
open Ev (D Den ar eqD cD toP cln bh dep bu)
theorem xD (l b:Addr) (items items2:Array Value) (n n2:Nat) (dd dd2:Option Addr) (sl sl2:Array (Option Value)) (k:Nat) :
   ∀ i:Nat,min items.size items2.size - i=k->i<=min items.size items2.size->Meets (Builtin.«list.__eq__.loop» ⟨[.ref l,.ref b,rawInt i,rawInt 0],[]⟩)
     (λA R s=>s.heap.get? l=some { cls:=.type "list",dict:=dd,data:=.seq items n,slots:=sl }/\s.heap.get? b=some { cls:=.type "list",dict:=dd2,data:=.seq items2 n2,slots:=sl2 } /\
       (∀ m (z1:m < items.size) (z2:m < items2.size),EqAt A.in1 s items[m] items2[m] true)/\R (.ok (.ret (.bool (decide (items.size < items2.size))))) s):=by
 induction k with
 | zero=>
   intro i hk hij prog w A R s h
   obtain ⟨hp,g,d,tk,os⟩:=s; obtain ⟨hl,hb,he,h⟩:=h
   wp_walk using wpAny_loadPart' hl,wpAny_loadPart' hb
   have hi:i=min items.size items2.size:=by omega
   by_cases c:items.size<=items2.size
   · have hi1:items[((i:Nat):Int).toNat]?=none:=Array.getElem?_eq_none (by rw [Int.toNat_natCast]; omega)
     rw [hi1]
     wp_walk using wpAny_loadPart' hl,wpAny_loadPart' hb
     exact h
   · have hi1:items[((i:Nat):Int).toNat]?=some (items[i]'(by omega)):=by simp [show i < items.size by omega]
     have hi2:items2[((i:Nat):Int).toNat]?=none:=Array.getElem?_eq_none (by rw [Int.toNat_natCast]; omega)
     rw [hi1,hi2]
     wp_walk using wpAny_loadPart' hl,wpAny_loadPart' hb
     exact h
 | succ k ih=>
   intro i hk hij prog w A R s h
   obtain ⟨hp,g,d,tk,os⟩:=s; obtain ⟨hl,hb,he,h⟩:=h
   wp_walk using wpAny_loadPart' hl,wpAny_loadPart' hb
   have hlt:i < items.size:=by omega
   have hlt2:i < items2.size:=by omega
   have hi1:items[((i:Nat):Int).toNat]?=some items[i]:=by simp [hlt]
   have hi2:items2[((i:Nat):Int).toNat]?=some items2[i]:=by simp [hlt2]
   have hcc:((i:Int) + 1)=((i + 1:Nat):Int):=by push_cast; rfl
   rw [hi1,hi2]
   refine wpAny_bind (he i hlt hlt2 prog w _ _ ?_)
   wp_walk
   rw [hcc]
   exact ⟨plainId_quiet plain_eq_loop _,codeAny_builtin entry_eq_loop (by
     rw [Around.under_plainId plain_eq_loop _]
     exact ih (i + 1) (by omega) (by omega) prog w A R _ ⟨hl,hb,he,h⟩)⟩
theorem tR (l b:Addr) (items items2:Array Value) (n n2:Nat) (dd dd2:Option Addr) (sl sl2:Array (Option Value)) :
   Meets (Builtin.«list.__lt__» ⟨[.ref l,.ref b],[]⟩)
     (λA R s=>s.heap.get? l=some { cls:=.type "list",dict:=dd,data:=.seq items n,slots:=sl }/\s.heap.get? b=some { cls:=.type "list",dict:=dd2,data:=.seq items2 n2,slots:=sl2 } /\
       (∀ m (z1:m < items.size) (z2:m < items2.size),EqAt A.in1 s items[m] items2[m] true)/\R (.ok (.ret (.bool (decide (items.size < items2.size))))) s):=by
 intro prog w A R s h
 obtain ⟨hp,g,d,tk,os⟩:=s; obtain ⟨hl,hb,he,h⟩:=h
 have f3:=AutoSeq1.sub_list_list
 wp_walk using wpAny_loadPart' hl,wpAny_loadPart' hb
 exact ⟨plainId_quiet plain_eq_loop _,codeAny_builtin entry_eq_loop (by
   rw [Around.under_plainId plain_eq_loop _]
   exact xD l b items items2 n n2 dd dd2 sl sl2 _ 0 rfl (Nat.zero_le _) prog w A R _ ⟨hl,hb,he,h⟩)⟩
noncomputable def i9 (A:Around) (s:Shared) (l b:Addr) (c:Bool):Prop:=
 ∀ (prog:Program) (w:World) (E:Value->Shared->Prop) (Q:Value->Shared->Prop),Q (.bool c) s->wpAny (model prog w) A (call (.builtin "list.__lt__") [.ref l,.ref b]) Q E s
theorem i9.rc {A:Around} {s:Shared} {l b:Addr} {c:Bool} (h:i9 A s l b c) (hl:s.TypeIs (.ref l) "list") (hb:s.TypeIs (.ref b) "list") (hu:A.units < cLine):lP .Lt A s (.ref l) (.ref b) c:=λprog w E Q q=>
 wpAny_richCompare_same_room (op:=.Lt) hl hb F.slot_list_lt (h prog w E _ ⟨(λx=>nomatch x),q⟩) hu
theorem i9.one {A:Around} {s:Shared} {l b:Addr} {c:Bool} (h:i9 A s l b c) (hl:s.TypeIs (.ref l) "list") (hu:A.units < cLine) {prog:Program} {w:World} {E:Value->Shared->Prop} {Q:Bool->Shared->Prop} (q:Q c s):wpAny (model prog w) A (oneLt' true (.ref l) (.ref b)) Q E s:=by
 rw [oneLt'_eq]
 simp only [if_true]
 refine wpAny_bind (wpAny_cRoomFor hu ?_)
 refine wpAny_bind (wpAny_callSpecialIfBound?_slot hl F.slot_list_lt (h prog w _ _ ?_))
 exact wpAny_truthy_bool q
theorem i9.dif {A:Around} {s:Shared} {l b:Addr} {items items2:Array Value} {j:Nat} {c:Bool} (hl:s.heap.IsList l items) (hb:s.heap.IsList b items2) (h1:j < items.size) (h2:j < items2.size)
   (he:∀ m (_:m < j) (z1:m < items.size) (z2:m < items2.size),EqAt A.in1 s items[m] items2[m] true) (hn:EqAt A.in1 s items[j] items2[j] false) (hc:lP .Lt A.in1 s items[j] items2[j] c):i9 A s l b c:=λprog w E Q h=>by
 obtain ⟨⟨cls,dd,data,sl⟩,ho,hc1,n,hd⟩:=id hl
 obtain ⟨⟨cls2,dd2,data2,sl2⟩,ho2,hc2,n2,hd2⟩:=id hb
 simp only at hc1 hd hc2 hd2
 subst hc1 hd hc2 hd2
 exact call_meets F.slot_list_lt ⟨_,ho,rfl⟩ F.entry_list_lt (F.args_list_lt_2 _ _) (pF l b items items2 n n2 dd dd2 sl sl2 j h1 h2 c) ⟨ho,ho2,he,hn,hc,h⟩
theorem i9.pre {A:Around} {s:Shared} {l b:Addr} {items items2:Array Value} (hl:s.heap.IsList l items) (hb:s.heap.IsList b items2)
   (he:∀ m (z1:m < items.size) (z2:m < items2.size),EqAt A.in1 s items[m] items2[m] true):i9 A s l b (decide (items.size < items2.size)):=λprog w E Q h=>by
 obtain ⟨⟨cls,dd,data,sl⟩,ho,hc1,n,hd⟩:=id hl
 obtain ⟨⟨cls2,dd2,data2,sl2⟩,ho2,hc2,n2,hd2⟩:=id hb
 simp only at hc1 hd hc2 hd2
 subst hc1 hd hc2 hd2
 exact call_meets F.slot_list_lt ⟨_,ho,rfl⟩ F.entry_list_lt (F.args_list_lt_2 _ _) (tR l b items items2 n n2 dd dd2 sl sl2) ⟨ho,ho2,he,h⟩
inductive CmR:D->D->Bool->Prop where
 | int {i j:Int}:CmR (.int i) (.int j) (decide (i < j))
 | dif {xs ys:List D} {j:Nat} {x y:D} {c:Bool} (hx:xs[j]?=some x) (hy:ys[j]?=some y) (he:∀ (m:Nat) x y,m < j->xs[m]?=some x->ys[m]?=some y->eqD x y=true) (hn:eqD x y=false) (h:CmR x y c):CmR (.lst xs) (.lst ys) c
 | pre {xs ys:List D} (he:∀ (m:Nat) x y,xs[m]?=some x->ys[m]?=some y->eqD x y=true):CmR (.lst xs) (.lst ys) (decide (xs.length < ys.length))
section
variable {X:Cx} {pins:List (Addr × Obj)} {σ:L2.St} {H G:Hp} {s:Shared}
theorem zH (I:Inv X pins σ H s) (e:ah G H) {x y:D} {c:Bool} (h:CmR x y c):∀ {A:Around} {v v':V} {u u':Value},Den X.K G v x->RelV v u->Den X.K G v' y->RelV v' u'->cln x=true->cln y=true->A.units + dep x < cLine->A.units + dep y < cLine->lP .Lt A s u u' c/\∀ l b,u=.ref l->u'=.ref b->i9 A s l b c:=by
 induction h with
 | int=>
   intro A v v' u u' d r d' r' _ _ _ _
   cases d; cases d'
   obtain ⟨t,rfl⟩:=r
   obtain ⟨t',rfl⟩:=r'
   exact ⟨λprog w E Q q=>(PyProof.Rows.lt_int q:wpAny (model prog w) A (compareOp .Lt _ _) Q E s),λ_ _ z=>nomatch z⟩
 | @dif xs ys j x y c hx hy he hn _ ih=>
   intro A v v' u u' d r d' r' c1 c2 u1 u2
   rw [cln] at c1 c2
   rw [dep] at u1 u2
   cases d with
   | lst z q=>
   cases d' with
   | lst z' q'=>
   cases r; cases r'
   obtain ⟨its,rv,pl,_⟩:=I.list (Ev.aA e z)
   obtain ⟨its2,rv2,pl2,_⟩:=I.list (Ev.aA e z')
   obtain ⟨a,b,e1,da,ra⟩:=de q rv hx
   obtain ⟨a',b',e1',da',ra'⟩:=de q' rv2 hy
   obtain ⟨c3,k3⟩:=di c1 hx
   obtain ⟨c4,k4⟩:=di c2 hy
   have s1:=(List.getElem?_eq_some_iff.mp e1).1
   have s2:=(List.getElem?_eq_some_iff.mp e1').1
   have g1:its.toArray[j]'(by simpa using s1)=b:=by simpa using (List.getElem?_eq_some_iff.mp e1).2
   have g2:its2.toArray[j]'(by simpa using s2)=b':=by simpa using (List.getElem?_eq_some_iff.mp e1').2
   have i1:∀ A:Around,A.in1.units=A.units + 1:=λ_=>rfl
   have r1:=(ih (A:=A.in1) da ra da' ra' c3 c4 (by rw [i1]; omega) (by rw [i1]; omega)).1
   have q1:=q.length
   have q2:=q'.length
   have v1:=rv.length
   have v2:=rv2.length
   have eqs:∀ m,m < j->∀ (z1:m < its.toArray.size) (z2:m < its2.toArray.size),EqAt A.in1 s its.toArray[m] its2.toArray[m] true:=λm hm z1 z2=>by
     rw [List.size_toArray] at z1 z2
     have f1:xs[m]?=some (xs[m]'(by omega)):=List.getElem?_eq_getElem _
     have f2:ys[m]?=some (ys[m]'(by omega)):=List.getElem?_eq_getElem _
     obtain ⟨a,b,e2,da,ra⟩:=de q rv f1
     obtain ⟨a',b',e2',da',ra'⟩:=de q' rv2 f2
     obtain ⟨c3,k3⟩:=di c1 f1
     obtain ⟨c4,k4⟩:=di c2 f2
     have g1:its.toArray[m]=b:=by simpa using (List.getElem?_eq_some_iff.mp e2).2
     have g2:its2.toArray[m]=b':=by simpa using (List.getElem?_eq_some_iff.mp e2').2
     rw [g1,g2]
     have k1:=ig (A:=A.in1) I e da ra da' ra' c3 c4 (by rw [i1]; omega)
     rwa [he m _ _ hm f1 f2] at k1
   have n1:=ig (A:=A.in1) I e da ra da' ra' c3 c4 (by rw [i1]; omega)
   rw [hn] at n1
   have ll:=i9.dif pl.isList pl2.isList (j:=j) (by simpa using s1) (by simpa using s2) (λm hm z1 z2=>eqs m hm z1 z2) (by rw [g1,g2]; exact n1) (by rw [g1,g2]; exact r1)
   exact ⟨ll.rc pl.isList.typeIs pl2.isList.typeIs (by omega),λl b z1 z2=>by cases z1; cases z2; exact ll⟩
 | @pre xs ys he=>
   intro A v v' u u' d r d' r' c1 c2 u1 u2
   rw [cln] at c1 c2
   rw [dep] at u1 u2
   cases d with
   | lst z q=>
   cases d' with
   | lst z' q'=>
   cases r; cases r'
   obtain ⟨its,rv,pl,_⟩:=I.list (Ev.aA e z)
   obtain ⟨its2,rv2,pl2,_⟩:=I.list (Ev.aA e z')
   have i1:∀ A:Around,A.in1.units=A.units + 1:=λ_=>rfl
   have q1:=q.length
   have q2:=q'.length
   have v1:=rv.length
   have v2:=rv2.length
   have ll:=i9.pre (A:=A) pl.isList pl2.isList λm z1 z2=>by
     rw [List.size_toArray] at z1 z2
     have f1:xs[m]?=some (xs[m]'(by omega)):=List.getElem?_eq_getElem _
     have f2:ys[m]?=some (ys[m]'(by omega)):=List.getElem?_eq_getElem _
     obtain ⟨a,b,e2,da,ra⟩:=de q rv f1
     obtain ⟨a',b',e2',da',ra'⟩:=de q' rv2 f2
     obtain ⟨c3,k3⟩:=di c1 f1
     obtain ⟨c4,k4⟩:=di c2 f2
     have g1:its.toArray[m]'(by simpa using z1)=b:=by simpa using (List.getElem?_eq_some_iff.mp e2).2
     have g2:its2.toArray[m]'(by simpa using z2)=b':=by simpa using (List.getElem?_eq_some_iff.mp e2').2
     rw [g1,g2]
     have k1:=ig (A:=A.in1) I e da ra da' ra' c3 c4 (by rw [i1]; omega)
     rwa [he m _ _ f1 f2] at k1
   rw [List.size_toArray,List.size_toArray,<- v1,<- v2,q1,q2] at ll
   exact ⟨ll.rc pl.isList.typeIs pl2.isList.typeIs (by omega),λl b z1 z2=>by cases z1; cases z2; exact ll⟩
end
section
variable {α:Type} [DecidableEq α]
noncomputable def ltL (lt:α->α->Bool):List α->List α->Bool
 | [],[]=>false
 | [],_ :: _=>true
 | _ :: _,[]=>false
 | x :: xs,y :: ys=>if x=y then ltL lt xs ys else lt x y
structure Ord (lt:α->α->Bool):Prop where
 asy:∀ x y,lt x y=true->lt y x=false
 ng:∀ x y z,lt x z=true->lt x y=true\/lt y z=true
 tot:∀ x y,lt x y=false->lt y x=false->x=y
theorem Ord.irr {lt:α->α->Bool} (o:Ord lt) (x:α):lt x x=false:=by
 cases e:lt x x with
 | false=>rfl
 | true=>have:=o.asy x x e; rw [e] at this; cases this
theorem Ord.lst {lt:α->α->Bool} (o:Ord lt):Ord (ltL lt) where
 asy:=λx=>by
   induction x with
   | nil=>intro y h; cases y <;> first | rfl | cases h
   | cons a x ih=>
     intro y h
     cases y with
     | nil=>cases h
     | cons b y=>
       rw [ltL] at h ⊢
       by_cases e:a=b
       · rw [if_pos e] at h; rw [if_pos e.symm]; exact ih y h
       · rw [if_neg e] at h; rw [if_neg λz=>e z.symm]; exact o.asy _ _ h
 ng:=λx=>by
   induction x with
   | nil=>
     intro y z h
     cases z with
     | nil=>cases h
     | cons c z=>
       cases y with
       | nil=>exact .inr rfl
       | cons b y=>exact .inl rfl
   | cons a x ih=>
     intro y z h
     cases z with
     | nil=>cases h
     | cons c z=>
       cases y with
       | nil=>exact .inr rfl
       | cons b y=>
         rw [ltL] at h ⊢
         rw [ltL]
         by_cases e1:a=b
         · rw [if_pos e1]
           subst e1
           by_cases e2:a=c
           · rw [if_pos e2] at h ⊢; exact ih y z h
           · rw [if_neg e2] at h ⊢; exact .inr h
         · rw [if_neg e1]
           by_cases e3:b=c
           · subst e3
             rw [if_neg e1] at h
             exact .inl h
           · rw [if_neg e3]
             by_cases e2:a=c
             · subst e2
               cases q:lt a b with
               | true=>exact .inl rfl
               | false=>
                 cases q2:lt b a with
                 | true=>exact .inr rfl
                 | false=>exact absurd (o.tot _ _ q q2) e1
             · rw [if_neg e2] at h
               exact o.ng a b c h
 tot:=λx=>by
   induction x with
   | nil=>intro y h1 h2; cases y <;> first | rfl | cases h1
   | cons a x ih=>
     intro y h1 h2
     cases y with
     | nil=>cases h2
     | cons b y=>
       rw [ltL] at h1 h2
       by_cases e:a=b
       · rw [if_pos e] at h1; rw [if_pos e.symm] at h2; rw [e,ih y h1 h2]
       · rw [if_neg e] at h1; rw [if_neg λz=>e z.symm] at h2; exact absurd (o.tot _ _ h1 h2) e
theorem CmR.cons {x y:D} {xs ys:List D} {c:Bool} (e:eqD x y=true) (h:CmR (.lst xs) (.lst ys) c):CmR (.lst (x :: xs)) (.lst (y :: ys)) c:=by
 cases h with
 | @dif _ _ j x' y' _ hx hy he hn h=>
   refine .dif (j:=j + 1) (x:=x') (y:=y') hx hy (λm a b hm ha hb=>?_) hn h
   cases m with
   | zero=>cases ha; cases hb; exact e
   | succ m=>exact he m a b (by omega) ha hb
 | pre he=>
   rw [show decide (xs.length < ys.length)=decide ((x :: xs).length < (y :: ys).length) by simp]
   refine .pre λm a b ha hb=>?_
   cases m with
   | zero=>cases ha; cases hb; exact e
   | succ m=>exact he m a b ha hb
theorem tF {lt:α->α->Bool} {t:α->D} (he:∀ x y,eqD (t x) (t y)=decide (x=y)) (hc:∀ x y,CmR (t x) (t y) (lt x y)):∀ a b:List α,CmR (.lst (a.map t)) (.lst (b.map t)) (ltL lt a b)
 | [],[]=>.pre λm x y hx=>by cases hx
 | [],y :: b=>.pre λm x y hx=>by cases hx
 | x :: a,[]=>.pre λm x y _ hy=>by cases hy
 | x :: a,y :: b=>by
   rw [ltL]
   by_cases e:x=y
   · rw [if_pos e]
     exact CmR.cons (by rw [he,decide_eq_true e]) (tF he hc a b)
   · rw [if_neg e]
     exact .dif (j:=0) rfl rfl (λm _ _ hm=>by omega) (by rw [he,decide_eq_false e]) (hc x y)
theorem yx {t:α->D} (he:∀ x y,eqD (t x) (t y)=decide (x=y)):∀ a b:List α,eqD (.lst (a.map t)) (.lst (b.map t))=decide (a=b):=λa b=>by
 rw [eqD]
 induction a generalizing b with
 | nil=>cases b <;> simp [Ev.fj]
 | cons x a ih=>
   cases b with
   | nil=>simp [Ev.fj]
   | cons y b=>
     rw [List.map_cons,List.map_cons,Ev.fj,he,ih]
     by_cases e1:x=y
     · by_cases e2:a=b <;> simp [e1,e2]
     · simp [e1]
end
noncomputable def ltI:List Int->List Int->Bool:=ltL λi j=>decide (i < j)
noncomputable def ltF:List (List Int)->List (List Int)->Bool:=ltL ltI
theorem kC:Ord λi j:Int=>decide (i < j):=⟨λx y h=>by simp at h ⊢; omega,λx y z h=>by simp at h ⊢; omega,λx y h1 h2=>by simp at h1 h2; omega⟩
theorem fJ:Ord ltF:=kC.lst.lst
noncomputable def ff (w:List Int):D:=.lst (w.map .int)
noncomputable def bM (f:List (List Int)):D:=.lst (f.map ff)
theorem xG (a b:List Int):eqD (ff a) (ff b)=decide (a=b):=yx (λx y=>by rw [eqD]; (by_cases h:x=y <;> simp [h])) a b
theorem xE (a b:List Int):CmR (ff a) (ff b) (ltI a b):=tF (λx y=>by rw [eqD]; (by_cases h:x=y <;> simp [h])) (λ_ _=>.int) a b
theorem xt (a b:List (List Int)):CmR (bM a) (bM b) (ltF a b):=tF xG xE a b
theorem tm (w:List Int):cln (ff w)=true/\dep (ff w)<=1:=by
 have:bh (w.map .int)=true/\bu (w.map .int)<=0:=by
   induction w with
   | nil=>simp [bh,bu]
   | cons n ns ih=>rw [List.map_cons,bh,bu,ih.1]; simp only [cln,dep]; exact ⟨rfl,by omega⟩
 unfold ff
 rw [cln,dep]
 exact ⟨this.1,by omega⟩
theorem sH (f:List (List Int)):cln (bM f)=true/\dep (bM f)<=2:=by
 have:bh (f.map ff)=true/\bu (f.map ff)<=1:=by
   induction f with
   | nil=>simp [bh,bu]
   | cons n ns ih=>rw [List.map_cons,bh,bu,ih.1,(tm n).1]; exact ⟨rfl,by have:=(tm n).2; omega⟩
 unfold bM
 rw [cln,dep]
 exact ⟨this.1,by omega⟩
end Lc
namespace So
open PySem PyProof.Rows
section
variable {prog:Program} {w:World} {A:Around} {E:Value->Shared->Prop} {s:Shared}
theorem bG {M:Model} {β:Type} {f:Value->Sem β} {b:β}:∀ {vs:List Value} {Q:List β->Shared->Prop},(∀ v ∈ vs,∀ Q:β->Shared->Prop,Q b s->wpAny M A (f v) Q E s)->Q (vs.map λ_=>b) s->wpAny M A (vs.mapM f) Q E s
 | [],_,_,h=>by rw [List.mapM_nil]; exact wpAny_pure h
 | v :: vs,_,hv,h=>by
   rw [List.mapM_cons]
   exact wpAny_bind (hv v (List.mem_cons_self ..) _ (wpAny_bind (bG (λu hu=>hv u (List.mem_cons_of_mem _ hu)) (wpAny_pure h))))
theorem gm (v:Value):firstOfTuple' v=(do
   if (<- typeOf v) != .type "tuple" then return none
   return (<- Builtin.List.listItems v)[0]?):=rfl
theorem tQ {v₁:Value} {vs:List Value} {Q:SortKind->Shared->Prop} (hT:∀ v ∈ v₁ :: vs,s.TypeIs v "list") (h:Q oneType' s):wpAny (model prog w) A (keyKind' (v₁ :: vs).toArray) Q E s:=by
 rw [keyKind'_eq,List.mapM_toArray]
 refine wpAny_bind ?_
 rw [map_eq_pure_bind]
 refine wpAny_bind (bG (b:=none) (λv hv Q q=>?_) (wpAny_pure ?_))
 · rw [gm]
   refine wpAny_bind (wpAny_typeOf (hT v hv) ?_)
   rw [if_pos (by decide)]
   exact wpAny_pure q
 rw [if_neg (by simp),if_neg (by simp)]
 rw [oneTypeOnly'_eq,List.mapM_toArray]
 refine wpAny_bind (wpAny_bind ?_)
 rw [map_eq_pure_bind]
 refine wpAny_bind (bG (b:=Value.type "list") (λv hv Q q=>wpAny_typeOf (hT v hv) q) (wpAny_pure ?_))
 have hall:((List.map (λ_=>Value.type "list") (v₁ :: vs)).toArray.all λx=>x == Value.type "list")=true:=by
   simp only [List.all_toArray,List.all_map,List.all_eq_true]
   intro _ _
   rfl
 have h0:(List.map (λ_=>Value.type "list") (v₁ :: vs)).toArray[0]?=some (Value.type "list"):=by simp
 rw [h0]
 dsimp only
 rw [if_pos hall]
 exact wpAny_pure (wpAny_pure h)
theorem ni {L:Value->Value->Bool} (hs:Sw L) {a:Addr} {vs:List Value} {n:Nat} {P:Fin->Shared->Prop} (ho:s.heap.get? a=some (seqObj "list" vs.toArray n)) (hz:vs.length<=sizeLine)
   (hLt:∀ h':Heap,(∀ b o,b ≠ a->s.heap.get? b=some o->h'.get? b=some o)->gd prog w A { s with heap:=h' } L (pairsOf vs)/\∀ v ∈ vs,({ s with heap:=h' }:Shared).TypeIs v "list")
   (h:∀ st':SortSt,(arrOf st').Perm (pairsOf vs)->(arrOf st').toList.Pairwise (Le L)->P (.done (.ret .none)) { s with heap:=sortedHeap s.heap a vs ((arrOf st').map (·.2)) }) :
   wpAny (model prog w) A (Builtin.«list.sort» ⟨[.ref a],[]⟩) P E s:=by
 rw [list_sort_plain]
 have ha:a < s.heap.objs.size:=Heap.lt_size ho
 have hsz:vs.toArray.size=vs.length:=by simp
 refine wpAny_bind (listItems_at ho rfl ?_)
 refine wpAny_bind (listUpdate_at ho rfl ?_ (hsz:=by omega))
 obtain ⟨e1,ho1⟩:∃ e1,(s.heap.update a (Obj.mapSeq λ_=>#[])).get? a=some (seqObj "list" #[] e1):=⟨_,get?_update_seq ho (λ_=>#[])⟩
 refine wpAny_bind (seqEpoch_at ho1 rfl ?_)
 refine wpAny_bind (wpAny_newTuple ?_ (by simpa using hz))
 refine wpAny_bind (wpAny_newList ?_)
 refine wpAny_holding ?_
 have ho6:(((s.heap.update a (Obj.mapSeq λ_=>#[])).push (seqObj "tuple" vs.toArray 0)).push (seqObj "list" #[] 0)).get? a=some (seqObj "list" #[] e1):=by
   rw [Heap.get?_push_ne _ _ _ (by rw [size_push',Heap.size_update]; exact Nat.ne_of_lt (Nat.lt_succ_of_lt ha)),Heap.get?_push_ne _ _ _ (by rw [Heap.size_update]; exact Nat.ne_of_lt ha)]
   exact ho1
 show wpAny (model prog w) A _ P E { s with heap:=((s.heap.update a (Obj.mapSeq λ_=>#[])).push (seqObj "tuple" vs.toArray 0)).push (seqObj "list" #[] 0) }
 dsimp only
 have fin:=h
 obtain ⟨hL6,hT6⟩:=hLt (((s.heap.update a (Obj.mapSeq λ_=>#[])).push (seqObj "tuple" vs.toArray 0)).push (seqObj "list" #[] 0)) λb o hb e=>Heap.get?_push_of_some _ (Heap.get?_push_of_some _ ((Heap.get?_update_other _ _ (Ne.symm hb)).trans e))
 by_cases h2:vs.toArray.size < 2
 · rw [if_pos h2,if_pos h2]
   refine wpAny_bind (wpAny_pure ?_)
   rw [StateT.run_pure]
   refine wpAny_bind (wpAny_pure ?_)
   dsimp only
   refine wpAny_bind (seqEpoch_at ho6 rfl ?_)
   refine wpAny_bind (listUpdate_at ho6 rfl ?_ (hsz2:=by rw [Array.size_map]; show (pairsOf vs).size<=_; rw [pairsOf_size,sizeLine_eq]; omega))
   simp only [bne_self_eq_false,Bool.false_eq_true,if_false]
   refine wpAny_pure (fin (SortSt.mk' general' (vs.toArray.zip vs.toArray) #[] 7 none) (Array.Perm.refl _) ?_)
   show (pairsOf vs).toList.Pairwise _
   have:(pairsOf vs).toList.length < 2:=by rw [Array.length_toList,pairsOf_size]; omega
   generalize (pairsOf vs).toList=l at this
   match l,this with
   | [],_=>exact List.Pairwise.nil
   | [x],_=>exact List.pairwise_singleton ..
 · rw [if_neg h2,if_neg h2]
   obtain ⟨v₁,rest,rfl⟩:∃ v₁ rest,vs=v₁ :: rest:=by
     match vs,hsz,h2 with
     | [],_,h2=>simp at h2
     | v₁ :: rest,_,_=>exact ⟨v₁,rest,rfl⟩
   refine wpAny_bind (tQ hT6 ?_)
   refine wpAny_bind (wpAny_mono (tO (a₀:=pairsOf (v₁ :: rest)) hs hL6 (st:=SortSt.mk' oneType' ((v₁ :: rest).toArray.zip (v₁ :: rest).toArray) #[] 7 none)
     (Q:=λ_ st'=>(arrOf st').Perm (pairsOf (v₁ :: rest))/\failedOf st'=none/\(arrOf st').toList.Pairwise (Le L))
     ⟨Array.Perm.refl _,rfl,rfl⟩ rfl λst' a1 a2=>⟨a1.perm,a1.failed,a2⟩) ?_ λ_ _ e=>e)
   rintro ⟨⟨⟩,st'⟩ s' ⟨rfl,hp,hf,hs⟩
   dsimp only
   refine wpAny_bind (seqEpoch_at ho6 rfl ?_)
   refine wpAny_bind (listUpdate_at ho6 rfl ?_ (hsz2:=by refine Nat.le_trans (Nat.le_of_eq ((Array.size_map ..).trans (hp.size_eq.trans (pairsOf_size _)))) ?_; omega))
   rw [hf]
   simp only [bne_self_eq_false,Bool.false_eq_true,if_false]
   exact wpAny_pure (fin st' hp hs)
theorem kg {L:Value->Value->Bool} (hs:Sw L) {l:Addr} {vs:List Value} {Q:Value->Shared->Prop} (hl:s.heap.IsList l vs.toArray) (hz:vs.length<=sizeLine)
   (hLt:∀ h':Heap,(∀ b o,s.heap.get? b=some o->h'.get? b=some o)->gd prog w A.in1.in1 { s with heap:=h' } L (pairsOf vs)/\∀ v ∈ vs,({ s with heap:=h' }:Shared).TypeIs v "list")
   (h:∀ st':SortSt,(arrOf st').Perm (pairsOf vs)->(arrOf st').toList.Pairwise (Le L)->Q (.ref (s.heap.objs.size + 1)) { s with heap:=sortedAll s.heap vs ((arrOf st').map (·.2)) }) :
   wpAny (model prog w) A (call (.builtin "sorted") [.ref l]) Q E s:=by
 refine Calls.call_function_entry kind_sorted plain_sorted entry_sorted (args_sorted1 _) ?_
 unfold Builtin.«sorted»
 refine wpAny_bind (m:=checkCount "sorted" 1 1 _) (wpAny_pure ?_)
 refine wpAny_bind (collect_list hl ?_ (hsz:=hz))
 refine wpAny_bind (wpAny_newList ?_ (by simpa using hz))
 have hsz:((s.heap.push (seqObj "list" #[] 0)).update s.heap.objs.size (Obj.mapSeq (·++vs.toArray))).objs.size=s.heap.objs.size + 1:=by
   rw [Heap.size_update,size_push']
 have hoL:(((s.heap.push (seqObj "list" #[] 0)).update s.heap.objs.size (Obj.mapSeq (·++vs.toArray))).push (seqObj "list" vs.toArray 0)).get? (s.heap.objs.size + 1)=some (seqObj "list" vs.toArray 0):=by
   rw [<- hsz]; exact Heap.get?_push_size _ rfl
 show wpAny _ _ _ _ _ { s with heap:=((s.heap.push (seqObj "list" #[] 0)).update s.heap.objs.size (Obj.mapSeq (·++vs.toArray))).push (seqObj "list" vs.toArray 0) }
 rw [hsz]
 have keep:∀ b o,s.heap.get? b=some o->(((s.heap.push (seqObj "list" #[] 0)).update s.heap.objs.size (Obj.mapSeq (·++vs.toArray))).push (seqObj "list" vs.toArray 0)).get? b=some o:=λb o e=>
   Heap.get?_push_of_some _ ((Heap.get?_update_other _ _ (Nat.ne_of_gt (Heap.lt_size e))).trans (Heap.get?_push_of_some _ e))
 refine wpAny_bind (wpAny_holding (wpAny_call_entry slot_list_sort ⟨_,hoL,rfl⟩ entry_list_sort (ni hs hoL hz (λh' hk=>?_) λst' a1 a2=>⟨_,rfl,?_⟩) (args_list_sort _)))
 · exact hLt h' λb o e=>hk b o (Nat.ne_of_lt (Nat.lt_succ_of_lt (Heap.lt_size e))) (keep b o e)
 · exact wpAny_pure ⟨_,rfl,h st' a1 a2⟩
end
end So
namespace Hy
open PySem PySem.Spec PyProof.Rows L2
open Ev (D Den ar)
open Lc (bM ff ltF fJ)
noncomputable def jj (fs:List (List (List Int))):List (List (List Int)):=fs.mergeSort λa b=>!ltF b a
theorem jQ (fs:List (List (List Int))):(jj fs).Perm fs:=List.mergeSort_perm fs _
theorem t9 (fs:List (List (List Int))):(jj fs).Pairwise λa b=>ltF b a=false:=by
 have:=List.pairwise_mergeSort (le:=λa b=>!ltF b a) (λa b c h1 h2=>by
   simp only [Bool.not_eq_true'] at h1 h2 ⊢
   cases e:ltF c a with
   | false=>rfl
   | true=>rcases fJ.ng c b a e with e | e <;> simp_all) (λa b=>by
   cases e:ltF b a with
   | false=>rfl
   | true=>rw [fJ.asy _ _ e]; rfl) fs
 exact this.imp λh=>by simpa using h
theorem oH {fs gs:List (List (List Int))} (p:gs.Perm fs) (h:gs.Pairwise λa b=>ltF b a=false):gs=jj fs:=
 List.Perm.eq_of_pairwise (λa b _ _ h1 h2=>fJ.tot _ _ h2 h1) h (t9 fs) (p.trans (jQ fs).symm)
theorem tf (fs:List (List (List Int))):(jj fs).length=fs.length:=(jQ fs).length_eq
section
variable {X:Cx} {pins:List (Addr × Obj)} {σ:L2.St} {H G:Hp} {s:Shared}
theorem ky {α:Type} {t:α->D} (hu:∀ v a b,Den X.K G v (t a)->Den X.K G v (t b)->a=b):∀ {vs:List V} {a b:List α},ar X.K G vs (a.map t)->ar X.K G vs (b.map t)->a=b
 | [],[],[],_,_=>rfl
 | v :: vs,x :: a,y :: b,.cons h1 r1,.cons h2 r2=>by rw [hu v x y h1 h2,ky hu r1 r2]
theorem cZ {v:V} {xs:List D} (d:Den X.K G v (.lst xs)):∃ a vs,v=.ref a/\SqL X.K G a vs/\ar X.K G vs xs:=by
 cases d with
 | lst h r=>exact ⟨_,_,rfl,h,r⟩
theorem sZ (I:Inv X pins σ H s) (e:ah G H) {α:Type} {t:α->D} (hu:∀ v a b,Den X.K G v (t a)->Den X.K G v (t b)->a=b) (v:V) (a b:List α) (d:Den X.K G v (.lst (a.map t))) (d':Den X.K G v (.lst (b.map t))):a=b:=by
 obtain ⟨p,vs,rfl,h,r⟩:=cZ d
 obtain ⟨p',vs',e2,h',r'⟩:=cZ d'
 cases e2
 have:=I.cP (Ev.aA e h) (Ev.aA e h')
 subst this
 exact ky hu r r'
theorem wF (v:V) (a b:Int) (d:Den X.K G v (.int a)) (d':Den X.K G v (.int b)):a=b:=by cases d; cases d'; rfl
theorem tW (I:Inv X pins σ H s) (e:ah G H) (v:V) (a b:List (List Int)) (d:Den X.K G v (bM a)) (d':Den X.K G v (bM b)):a=b:=
 sZ I e (λv a b=>sZ I e (λv a b=>wF v a b) v a b) v a b d d'
noncomputable def toV:Value->V
 | .ref a=>.ref a
 | _=>.non
open Classical in
noncomputable def fg (K:PySem.W.Frag) (G:Hp) (u:Value):List (List Int):=if h:∃ f,Den K G (toV u) (bM f) then Classical.choose h else []
theorem gS (I:Inv X pins σ H s) (e:ah G H) {u:Value} {f:List (List Int)} (d:Den X.K G (toV u) (bM f)):fg X.K G u=f:=by
 have h:∃ f,Den X.K G (toV u) (bM f):=⟨f,d⟩
 unfold fg
 rw [dif_pos h]
 exact tW I e _ _ _ (Classical.choose_spec h) d
theorem p7 {t:List (List Int)->D}:∀ {vs:List V} {us:List Value} {fs:List (List (List Int))},ar X.K G vs (fs.map t)->Vals vs us->∀ u ∈ us,∃ v f,RelV v u/\Den X.K G v (t f)
 | _,_,f :: fs,.cons d r,.cons q qs,u,hu=>by
   rcases List.mem_cons.mp hu with rfl | hu
   · exact ⟨_,f,q,d⟩
   · exact p7 r qs u hu
 | _,_,[],.nil,.nil,u,hu=>by cases hu
theorem oP (I:Inv X pins σ H s) (e:ah G H):∀ {vs:List V} {us:List Value} {fs:List (List (List Int))},ar X.K G vs (fs.map bM)->Vals vs us->us.map (fg X.K G)=fs
 | _,_,f :: fs,.cons d r,.cons q qs=>by
   obtain ⟨a,ws,rfl,_,_⟩:=cZ d
   cases (show _=Value.ref a from q)
   rw [List.map_cons,oP I e r qs,gS I e (u:=.ref a) d]
 | _,_,[],.nil,.nil=>rfl
theorem mI:∀ {us:List Value},(∀ u ∈ us,RelV (toV u) u)->Vals (us.map toV) us
 | [],_=>.nil
 | u :: us,h=>.cons (h u (List.mem_cons_self ..)) (mI λv hv=>h v (List.mem_cons_of_mem _ hv))
theorem pX:∀ {us:List Value},(∀ u ∈ us,Den X.K G (toV u) (bM (fg X.K G u)))->ar X.K G (us.map toV) ((us.map (fg X.K G)).map bM)
 | [],_=>.nil
 | u :: us,h=>.cons (h u (List.mem_cons_self ..)) (pX λv hv=>h v (List.mem_cons_of_mem _ hv))
theorem lI:∀ {vs:List V} {us:List Value} {fs:List (List (List Int))},ar X.K G vs (fs.map bM)->Vals vs us->us.map toV=vs
 | _,_,f :: fs,.cons d r,.cons q qs=>by
   obtain ⟨a,ws,rfl,_,_⟩:=cZ d
   cases (show _=Value.ref a from q)
   rw [List.map_cons,lI r qs]
   rfl
 | _,_,[],.nil,.nil=>rfl
theorem ql (hu:X.A.units + 64 < cLine):bP X (.builtin "sorted") (λxs H Q=>∃ G p vs fs,xs=[.ref p]/\ah G H/\SqL X.K H p vs/\ar X.K G vs (fs.map bM)/\∀ q vs',H q=none->vs'.Perm vs->(∀ gs:List (List (List Int)),ar X.K G vs' (gs.map bM)->gs=jj fs)->ar X.K G vs' ((jj fs).map bM)->Q (.ref q) (upd H q (.lst vs'))):=by
 intro pins s σ H xs us Q I r q
 obtain ⟨G,p,vs,fs,rfl,sg,hp,dl,q⟩:=q
 obtain ⟨u,rfl,ru⟩:=vals1 r
 cases (show u=Value.ref _ from ru)
 obtain ⟨its,rv,pl,hz⟩:=I.list hp
 have hln:=rv.length
 have mem:∀ u ∈ its,∃ a f,u=.ref a/\Den X.K G (.ref a) (bM f):=λu hu=>by
   obtain ⟨v,f,rl,d⟩:=p7 dl rv u hu
   obtain ⟨a,ws,rfl,_,_⟩:=cZ d
   exact ⟨a,f,rl,d⟩
 have mp:∀ p ∈ (pairsOf its).toList,p.1 ∈ its/\p.2=p.1:=λp hp=>by
   rw [pairsOf_toList] at hp
   obtain ⟨i,hi⟩:=List.mem_iff_getElem?.mp hp
   rw [List.getElem?_zip_eq_some] at hi
   have:=hi.1.symm.trans hi.2
   exact ⟨List.mem_of_getElem? hi.1,(Option.some.inj this).symm⟩
 have sw:So.Sw λu u'=>ltF (fg X.K G u) (fg X.K G u'):=⟨λ_ _ h=>fJ.asy _ _ h,λ_ _ _ h=>fJ.ng _ _ _ h⟩
 refine So.kg sw pl.isList (by omega) (λh' hk=>?_) λst' a1 a2=>?_
 · have I':Inv X pins σ H { s with heap:=h' }:=I.kept (t':=s.toks) hk
   refine ⟨λx hx y hy E Q q=>?_,λv hv=>?_⟩
   · obtain ⟨a,f,ea,da⟩:=mem _ (mp x hx).1
     obtain ⟨b,g,eb,db⟩:=mem _ (mp y hy).1
     rw [ea,eb] at q ⊢
     have k1:fg X.K G (.ref a)=f:=gS I sg (u:=.ref a) da
     have k2:fg X.K G (.ref b)=g:=gS I sg (u:=.ref b) db
     have q:Q (ltF (fg X.K G (.ref a)) (fg X.K G (.ref b))) { s with heap:=h' }:=q
     rw [k1,k2] at q
     obtain ⟨o1,o2⟩:=Lc.sH f
     obtain ⟨o3,o4⟩:=Lc.sH g
     have hA:X.A.in1.in1.units=X.A.units + 2:=rfl
     have ll:=(Lc.zH I' sg (Lc.xt f g) (A:=X.A.in1.in1) da rfl db rfl o1 o3 (by omega) (by omega)).2 a b rfl rfl
     obtain ⟨p',ws,e1,sq,_⟩:=cZ da
     cases e1
     obtain ⟨_,_,pl',_⟩:=I'.list (Ev.aA sg sq)
     exact ll.one pl'.isList.typeIs (by omega) q
   · obtain ⟨a,f,rfl,da⟩:=mem v hv
     obtain ⟨p',ws,e1,sq,_⟩:=cZ da
     cases e1
     obtain ⟨_,_,pl',_⟩:=I'.list (Ev.aA sg sq)
     exact pl'.isList.typeIs
 · have pp:=Array.perm_iff_toList_perm.mp a1
   have eo:((arrOf st').map (·.2)).toList=(arrOf st').toList.map (·.1):=by
     rw [Array.toList_map]
     exact List.map_congr_left λx hx=>(mp x (pp.mem_iff.mp hx)).2
   have po:((arrOf st').toList.map (·.1)).Perm its:=by
     have:=pp.map (·.1)
     rwa [pairsOf_toList,List.map_fst_zip (Nat.le_refl _)] at this
   have so:((arrOf st').toList.map λx=>fg X.K G x.1).Pairwise λa b=>ltF b a=false:=List.pairwise_map.mpr a2
   generalize hout:(arrOf st').map (·.2)=out at eo
   have eK:(out.toList.map (fg X.K G))=jj fs:=by
     rw [eo,List.map_map]
     refine oH ?_ so
     have:=po.map (fg X.K G)
     rw [List.map_map,oP I sg dl rv] at this
     exact this
   rw [<- eo] at po
   obtain ⟨c,hc'⟩:=sortedAll_at s.heap its out
   have mo:∀ u ∈ out.toList,RelV (toV u) u/\Den X.K G (toV u) (bM (fg X.K G u)):=λu hu=>by
     obtain ⟨a,f,rfl,d⟩:=mem u (po.mem_iff.mp hu)
     refine ⟨rfl,?_⟩
     rw [gS I sg (u:=.ref a) d]
     exact d
   have dv:=pX λu hu=>(mo u hu).2
   rw [eK] at dv
   refine ⟨.ref (s.heap.objs.size + 1),upd H (s.heap.objs.size + 1) (.lst (out.toList.map toV)),I.laid (t':=s.toks) (λb o z=>sortedAll_old z) (Nat.le_succ _) (show ba X.prog X.w _ _ _ (.lst (out.toList.map toV)) from ⟨?_,out.toList,c,mI λu hu=>(mo u hu).1,?_⟩),rfl,q _ _ (I.hok.fresh (Nat.le_succ _)) (by have:=po.map toV; rwa [lI dl rv] at this) (λgs dg=>ky (tW I sg) dg dv) dv⟩
   · rw [List.length_map,po.length_eq]; omega
   · rw [hc']
end
section
variable {X:Cx} {k:Nat}
end
end Hy
namespace Hy
open PySem PySem.Spec PyProof.Rows L2
open Ev (D Den ar)
open Lc (bM ff ltF)
noncomputable def iT (w:List Int):Nd:=.l (w.map λi=>.d (.int i))
noncomputable def cO (f:List (List Int)):Nd:=.l (f.map iT)
theorem fP {α:Type} (g:α->Nd):∀ l:List α,kX (l.map g)=l.map λx=>ndD (g x)
 | []=>rfl
 | x :: l=>by rw [List.map_cons,List.map_cons,<- fP g l]; rfl
theorem uW (w:List Int):ndD (iT w)=ff w:=by
 unfold iT ff ndD
 rw [fP]
 rfl
theorem oU (f:List (List Int)):ndD (cO f)=bM f:=by
 unfold cO bM ndD
 rw [fP]
 exact congrArg D.lst (List.map_congr_left λw _=>uW w)
theorem gj (fs:List (List (List Int))):kX (fs.map cO)=fs.map bM:=by
 rw [fP]
 exact List.map_congr_left λf _=>oU f
section
variable {K:PySem.W.Frag} {G H:Hp}
theorem tw {α:Type} {g:α->Nd} {vs vs':List V} (p:vs.Perm vs'):∀ {bs:List Addr} {fs:List α},aB K G H vs bs (fs.map g)->∃ (bs':List Addr) (fs':List α),aB K G H vs' bs' (fs'.map g)/\bs'.Perm bs:=by
 induction p with
 | nil=>exact λ{bs fs} h=>⟨bs,fs,h,.refl _⟩
 | cons x p ih=>
   intro bs fs h
   cases fs with
   | nil=>cases h
   | cons f fs=>
     cases h with
     | cons h r=>
       obtain ⟨bs',fs',r',p'⟩:=ih r
       exact ⟨_,f :: fs',.cons h r',p'.append_left _⟩
 | swap x y l=>
   intro bs fs h
   rcases fs with _ | ⟨f,_ | ⟨f2,fs⟩⟩
   · cases h
   · cases h with
     | cons h r=>cases r
   · cases h with
     | cons h r=>
       cases r with
       | cons h2 r=>
         refine ⟨_,f2 :: f :: fs,.cons h2 (.cons h r),?_⟩
         rw [<- List.append_assoc,<- List.append_assoc]
         exact List.perm_append_comm.append_right _
 | trans p1 p2 ih1 ih2=>
   intro bs fs h
   obtain ⟨bs',fs',r',p'⟩:=ih1 h
   obtain ⟨bs2,fs2,r2,p2'⟩:=ih2 r'
   exact ⟨bs2,fs2,r2,p2'.trans p'⟩
end
section
variable {X:Cx} {C:Bool} {τ:List Sl} {a:Expr} {p pos:Pos} {k:Nat}
theorem wu {fs:List (List (List Int))} (B:Bk X k) (h:PE X a (dE X.K C τ (.n (.l (fs.map cO))))) (hg:Gl X "sorted":=by rfl) (he:starEach [a] X.env=(false,eval a X.env) :: starEach [] X.env:=by rfl) (hpl:(backTo pos (starEach [] X.env)).any (·.1)=false:=by rfl):PE X (.Call (.Name "sorted" p) [a] [] pos) (dE X.K C τ (.n (.l ((jj fs).map cO)))):=
 peW (fB (ql B.room.units) hg (B.blt _ (by decide)) (by decide +kernel) (br h cu he) (by decide) (by decide) he hpl) λσ H Q ⟨A,H₀,B,S,q⟩=>⟨A,H₀,B,S,λv H1 bs e1 f1 ok=>by
   obtain ⟨nd,u,e,ok⟩:=ok
   cases e
   cases ok with
   | @l a vs bs' _ hH r=>
     have dl:=r.den (G':=H1) az λb _ o z=>z
     rw [gj] at dl
     refine ⟨H1,a,vs,fs,rfl,ah.refl _,SqL.of hH,dl,λq' vs' hq pv uq _=>?_⟩
     obtain ⟨b2,gs,r2,p2⟩:=tw pv.symm r
     have dg:=r2.den (G':=H1) az λb _ o z=>z
     rw [gj] at dg
     obtain rfl:=uq gs dg
     have old:∀ b ∈ b2,b ∈ a :: bs':=λb hb=>List.mem_cons_of_mem _ (p2.mem_iff.mp hb)
     have off:∀ b ∈ b2,b ≠ q':=λb hb z=>by
       obtain ⟨o,w⟩:=(f1 b (old b hb)).2
       rw [z,hq] at w
       cases w
     refine q _ _ (q' :: b2) (e1.trans (Ev.aq hq _)) (λb hb=>?_) ⟨?_,_,rfl,.l (aw) (r2.frame (λb o z=>?_) λb hb=>ao (off b hb))⟩
     · rcases List.mem_cons.mp hb with rfl | hb
       · exact ⟨e1.free hq,_,aw⟩
       · obtain ⟨o,w⟩:=(f1 b (old b hb)).2
         exact ⟨(f1 b (old b hb)).1,o,by rw [ao (off b hb)]; exact w⟩
     · exact List.nodup_cons.mpr ⟨λz=>off _ z rfl,p2.nodup_iff.mpr (List.nodup_cons.mp nd).2⟩
     · obtain ⟨z1,z2⟩:=ai.mp z
       have ne:b ≠ q':=λy=>by rw [y,hq] at z2; cases z2
       refine ai.mpr ⟨λy=>z1 (y.imp_right λy=>?_),by rw [ao ne]; exact z2⟩
       rcases List.mem_cons.mp y with y | y
       · exact absurd y ne
       · exact old b y⟩
end
end Hy
namespace Hy
open PySem PySem.Spec PyProof.Rows L2
open Ev (D Den ar aq aO aA)
noncomputable def Pj (σ:L2.St) (H:Hp) (i j k:Nat):Prop:=∃ a vs v,(σ[i]?).join=some (.ref a)/\H a=some (.lst vs)/\vs[k]?=some v/\σ[j]?=some (some v)
theorem Pj.mono {σ:L2.St} {H H':Hp} {i j k:Nat} (h:Pj σ H i j k) (e:ah H H'):Pj σ H' i j k:=let ⟨a,vs,v,e1,e2,e3,e4⟩:=h; ⟨a,vs,v,e1,e _ _ e2,e3,e4⟩
noncomputable def dSJ (K:PySem.W.Frag) (τ:List Sl) (i j k:Nat) (τe:List Sl):TS:=λD σ H=>∃ A H₀ B,Sta K A H₀ τ B σ H/\Pj σ H i j k/\∀ B' H',Sta K A H₀ τe B' σ H'->Pj σ H' i j k->D.nx σ H'
noncomputable def dPJ (K:PySem.W.Frag) (τ:List Sl) (i j k:Nat) (pt:List Nat):TE:=λσ H Q=>∃ A H₀ B,Sta K A H₀ τ B σ H/\Pj σ H i j k/\∀ u v H',(σ[i]?).join=some u->ah H H'->bK H' (k :: pt) u v->Q v H'
noncomputable def dEJ (K:PySem.W.Frag) (τ:List Sl) (i j k:Nat) (x:D):TE:=λσ H Q=>∃ A H₀ B,Sta K A H₀ τ B σ H/\Pj σ H i j k/\∀ v H',ah H H'->Den K (hd H' A) v x->Q v H'
noncomputable def dAJ (K:PySem.W.Frag) (τ:List Sl) (i j k:Nat) (ds:List D):TA:=λσ H Q=>∃ A H₀ B,Sta K A H₀ τ B σ H/\Pj σ H i j k/\∀ vs H',ah H H'->ar K (hd H' A) vs ds->Q vs H'
noncomputable def dTJ (K:PySem.W.Frag) (τ:List Sl) (i j k:Nat) (c:Bool):TT:=λσ H Q=>∃ A H₀ B,Sta K A H₀ τ B σ H/\Pj σ H i j k/\∀ H',ah H H'->Q c H'
section
variable {X:Cx} {τ τ1 τ2:List Sl} {x y z:D} {a b e o ix:Expr} {es:List Expr} {pos p q:Pos} {l:Nat} {s:Sl} {N:Po} {st:Stmt} {body rest:List Stmt} {i j k:Nat} {t c:Nd} {pt:List Nat} {xs:List Nd} {m:Nat} {ds:List D}
theorem x8:PSs X [] (dSJ X.K τ i j k τ):=mV ku λ_ _ H ⟨_,_,B,S,P,fin⟩=>fin B H S P
theorem oq (h1:PS X st (dSJ X.K τ i j k τ1)) (h2:PSs X rest (dSJ X.K τ1 i j k τ2)):PSs X (st :: rest) (dSJ X.K τ i j k τ2):=
 mV (mW h1 h2) λ_ _ _ ⟨A,H₀,B,S,P,fin⟩=>⟨A,H₀,B,S,P,λB' _ S' P'=>⟨A,H₀,B',S',P',fin⟩⟩
theorem kF {n:Str} (hN:X.N[j]?=some n:=by rfl) (hv:Vis X.env.scope n:=by first | exact Or.inl rfl | exact Or.inr (Or.inl rfl) | exact Or.inr (Or.inr rfl))
   (hd:(n == ("__debug__" : Str))=false:=by decide) (hcd:(n == ("__classdict__" : Str))=false:=by decide):PE X (.Name n pos) (dPJ X.K τ i j k []):=
 peW (bw hN hv hd hcd) λ_ H _ ⟨_,_,_,_,⟨a,vs,v,e1,e2,e3,e4⟩,q⟩=>⟨v,e4,q _ v H e1 (ah.refl _) ⟨a,vs,v,rfl,.inl e2,e3,rfl⟩⟩
theorem xZ {z:Int} (ha:PE X a (dPJ X.K τ i j k pt)) (hb:PE X b (dE X.K false τ (.d (.int z)))) (hi:τ[i]?=some (.n t)) (hp:cF (k :: pt) t=some (.l xs)) (hj:ixN xs.length z=some m) (hs:g0 b:=by exact λ_ _=>rfl):PE X (.Subscript a b pos) (dPJ X.K τ i j k (pt++[m])):=
 peW (r6 kc ha hb hs) λσ H Q ⟨A,H₀,B,S,P,q⟩=>⟨A,H₀,B,S,P,λu v H1 eu e1 pv=>aT (S.mono e1) λw H2 e2 d2=>by
   cases d2
   obtain ⟨u',v',m',eu',pv',ok,_⟩:=((S.mono e1).mono e2).at hi hp
   rw [eu] at eu'
   cases eu'
   obtain rfl:=(pv.mono e2).det pv'
   cases ok with
   | @l ad vs _ _ hH r=>
     obtain ⟨x,hx⟩:=um r (vR hj)
     exact ⟨ad,vs,z,x,rfl,rfl,SqL.of hH,by unfold atI; rw [r.length,hj]; exact hx,q u x H2 eu (e1.trans e2) (pv'.snoc (.inl hH) hx)⟩⟩
theorem xj (h:PE X e (dPJ X.K τ i j k pt)) (hi:τ[i]?=some (.n t)) (hp:cF (k :: pt) t=some c):PE X e (dEJ X.K τ i j k (ndD c)):=peW h λσ H Q ⟨A,H₀,B,S,P,q⟩=>by
 refine ⟨A,H₀,B,S,P,λu v H1 eu e1 pv=>?_⟩
 obtain ⟨u',v',m',eu',pv',ok,hm⟩:=(S.mono e1).at hi hp
 rw [eu] at eu'
 cases eu'
 obtain rfl:=pv.det pv'
 exact q v H1 e1 (ok.den (au (ah.refl _) λ_ z=>.inl z) λb hb o ho=>ai.mpr ⟨λz=>(by obtain ⟨_,w⟩:=S.ad b z; rw [S.fr i b (hm b hb)] at w; cases w),ho⟩)
theorem v3:PA X [] (dAJ X.K τ i j k []):=paW cu λ_ H _ ⟨_,_,_,_,_,q⟩=>q [] H (ah.refl _) .nil
theorem pW (ha:PE X e (dEJ X.K τ i j k x)) (hr:PA X es (dAJ X.K τ i j k ds)) (hs:starEach (e :: es) X.env=(false,eval e X.env) :: starEach es X.env:=by rfl):PA X (e :: es) (dAJ X.K τ i j k (x :: ds)):=paW (br ha hr hs) λ_ _ _ ⟨A,H₀,B,S,P,q⟩=>
 ⟨A,H₀,B,S,P,λ_ _ e1 d1=>⟨A,H₀,B,S.mono e1,P.mono e1,λ_ _ e2 d2=>q _ _ (e1.trans e2) (.cons (d1.mono (au e2 λ_ z=>z)) d2)⟩⟩
theorem yP {n:Str} {Φ:List D->Sl->Prop} (Bq:Bk X l) (c:Cal X.prog X.w X.K X.mg X.base l n Φ) (ha:PA X (e :: es) (dAJ X.K τ i j k ds)) (h:Φ ds (.d x)) (hg:Gl X n:=by rfl) (hdb:(n == ("__debug__" : Str))=false:=by decide)
   (he:starEach (e :: es) X.env=(false,eval e X.env) :: starEach es X.env:=by rfl) (hpl:(backTo pos (starEach es X.env)).any (·.1)=false:=by rfl):PE X (.Call (.Name n p) (e :: es) [] pos) (dEJ X.K τ i j k x):=by
 obtain ⟨f,fd,ps,F,hm,hk,hb⟩:=c
 refine peW (oJ F Bq.room hg hm hk hb .nil vk ha hdb he hpl) λσ H Q ⟨A,H₀,B,S,P,q⟩=>⟨A,H₀,B,S,P,λvs H1 e1 d1=>?_⟩
 show spD X.K Φ (vs++[]) H1 Q E0
 rw [List.append_nil]
 exact ⟨A,ds,.d x,λb hb=>(S.mono e1).dm b (.inl hb),d1,h,λv H' bs e2 hf ⟨_,u,eu,d⟩=>by
   cases eu
   exact q v H' (e1.trans e2) (d.mono (au (ah.refl _) λ_ z=>.inl z))⟩
theorem wo {c:Bool} (h:PE X e (dEJ X.K τ i j k (.bl c))) (he:∀ whole,isTrue e X.env whole=(do let v <- whole; standAt e.pos; holding [v] (truthy v)):=by intro _; rfl):PT X e (dTJ X.K τ i j k c):=
 ptW (rb h he) λσ H Q ⟨A,H₀,B,S,P,q⟩=>⟨A,H₀,B,S,P,λv H' e d=>by
   cases d
   exact ⟨c,rfl,q H' e⟩⟩
theorem wX {c:Bool} (h:PT X e (dTJ X.K τ i j k c)):PT X (.UnaryOp .Not e pos) (dTJ X.K τ i j k (!c)):=ptW (sI h) λ_ _ _ ⟨A,H₀,B,S,P,q⟩=>⟨A,H₀,B,S,P,λH' e=>q H' e⟩
theorem yw {ce:Expr} (h:PT X ce (dTJ X.K τ i j k false)):PS X (.If ce body [] pos) (dSJ X.K τ i j k τ):=
 psW (q0 h fZ ku) λ_ _ _ ⟨A,H₀,B,S,P,fin⟩=>⟨A,H₀,B,S,P,λH' e=>nq (fin B H' (S.mono e) (P.mono e))⟩
theorem Sta.below {K:PySem.W.Frag} {A:Addr->Prop} {H₀ H:Hp} {B:Nat->List Addr} {σ:L2.St} (S:Sta K A H₀ τ B σ H) (hi:τ[i]?=some (.n t)) (hp:cF (k :: pt) t=some (.l xs)) {r w:Addr} (hr:(σ[i]?).join=some (.ref r)) (hw:bK H (k :: pt) (.ref r) (.ref w)):w ≠ r:=by
 obtain ⟨nd,u,e,ok⟩:=S.sl i _ hi
 rw [hr] at e
 cases e
 generalize B i=bi at nd ok
 have key:∀ {vs:List V} {bs:List Addr} {ys:List Nd},aB K (hd H (own A B)) H vs bs ys->(ys[k]?).bind (cF pt)=some (.l xs)->(∃ v,vs[k]?=some v/\bK H pt v (.ref w))->w ∈ bs:=λ{vs bs ys} q e ⟨v,h1,h2⟩=>by
   cases ei:ys[k]? with
   | none=>rw [ei] at e; cases e
   | some c=>
     rw [ei] at e
     obtain ⟨v',l,m,r',g1,g2,g3,_⟩:=q.part ei
     rw [h1] at g1
     cases g1
     obtain ⟨w',l',m',q',f1,f2,f3,_⟩:=g3.focus pt e
     obtain rfl:=h2.det f1
     cases f3 with
     | l hH r2=>
       rw [g2,f2]
       exact List.mem_append_right _ (List.mem_append_left _ (List.mem_append_right _ (List.mem_append_left _ (List.mem_cons_self ..))))
 obtain ⟨a,vs,v,e1,e2,e3,e4⟩:=hw
 cases e1
 cases ok with
 | d h=>cases hp
 | @l _ vs' bs ys hH r0=>
   rw [cF] at hp
   have:vs=vs':=by rcases e2 with e2 | e2 <;> rw [hH] at e2 <;> cases e2; rfl
   subst this
   exact λz=>(List.nodup_cons.mp nd).1 (z ▸ key r0 hp ⟨v,e3,e4⟩)
 | @t _ vs' bs ys hH r0=>
   rw [cF] at hp
   have:vs=vs':=by rcases e2 with e2 | e2 <;> rw [hH] at e2 <;> cases e2; rfl
   subst this
   exact λz=>(List.nodup_cons.mp nd).1 (z ▸ key r0 hp ⟨v,e3,e4⟩)
theorem vK {ap cp:Pos} (ho:PE X o (dPJ X.K τ i j k pt)) (he:PE X e (dE X.K true τ s)) (hi:τ[i]?=some (.n t)) (hp:cF (k :: pt) t=some (.l xs)) (hc:oz s=some c) (hl:xs.length < 1000000)
   (hfew:((backTo cp (starEach [e] X.env)).all (λx=>!x.1) && (backToKw cp (keywordEach [] X.env)).all (λx=>x.1.isSome) && decide (([e]:List Expr).length + ([]:List Keyword).length + (if ([]:List Keyword).isEmpty then 0 else 1) < 30))=true:=by rfl)
   (hline:(ap.endLine == cp.line)=true:=by rfl) (hst:starEach [e] X.env=(false,eval e X.env) :: starEach [] X.env:=by rfl) (hpl:(backTo cp (starEach [] X.env)).any (·.1)=false:=by rfl)
   (hs:swapsWith (.Call (.Attribute o "append" ap) [e] [] cp) none pos.line X.env=pure false:=by rfl) (hbase:attributeBase o "append" X.env (eval o X.env)=eval o X.env:=by rfl) :
   PS X (.Expr (.Call (.Attribute o "append" ap) [e] [] cp) pos) (dSJ X.K τ i j k (τ.set i (.n (cR (k :: pt) t (.l (xs++[c])))))):=
 psW (eA (l6 PySem.F.plainAttrs_list PySem.F.slot_list_append PySem.F.type_list_append ez ho (br he cu hst) hbase hfew hline hst hpl) hs) λD σ H ⟨A,H₀,B,S,P,fin⟩=>by
   refine ⟨A,H₀,B,S,P,λu v H1 eu e1 pv=>?_⟩
   have S1:=S.mono e1
   have P1:=P.mono e1
   obtain ⟨u',l,vs,bs0,eu',pv',hH,r0,nd0,hal,hown,put⟩:=S1.putN hi hp
   rw [eu] at eu'
   cases eu'
   obtain rfl:=pv.det pv'
   refine ⟨.inl ⟨rfl,_,SqL.of hH⟩,A,H₀,B,S1,λw H2 bs e2 hf hw=>⟨l,vs,w,rfl,rfl,e2 _ _ hH,by rw [r0.length]; exact Nat.lt_trans hl (by decide),?_⟩⟩
   obtain ⟨nw,ndw⟩:=hw.nd hc
   have off:∀ b ∈ bs,b ≠ l:=λb hb z=>by rw [z] at hb; rw [(hf l hb).1] at hH; cases hH
   have sm:ah (hd H2 λb=>own A B b\/b ∈ bs) (hd (upd H2 l (.lst (vs++[w]))) λb=>own A B b\/b ∈ bs0++bs):=λb o z=>by
     obtain ⟨z1,z2⟩:=ai.mp z
     refine ai.mpr ⟨λy=>z1 ?_,by rw [ao (λy:b=l=>z1 (.inl (by rw [y]; exact hal)))]; exact z2⟩
     rcases y with y | y
     · exact .inl y
     · exact (List.mem_append.mp y).elim (λz=>.inl (hown b z).1) .inr
   have sm0:ah (hd H1 (own A B)) (hd (upd H2 l (.lst (vs++[w]))) λb=>own A B b\/b ∈ bs0++bs):=λb o z=>by
     obtain ⟨z1,z2⟩:=ai.mp z
     refine ai.mpr ⟨λy=>?_,by rw [ao (λy:b=l=>z1 (by rw [y]; exact hal))]; exact e2 _ _ z2⟩
     rcases y with y | y
     · exact z1 y
     · rcases List.mem_append.mp y with y | y
       · exact z1 (hown b y).1
       · rw [(hf b y).1] at z2; cases z2
   obtain ⟨B',S'⟩:=put (H1:=H2) (vs':=vs++[w]) (bs1:=bs0++bs) (xs':=xs++[c]) e2 (List.nodup_append.mpr ⟨nd0,ndw,λx hx y hy z=>by
       obtain ⟨o,q⟩:=r0.some_of x hx
       rw [z,(hf y hy).1] at q; cases q⟩)
     (λb hb=>(List.mem_append.mp hb).elim .inl λz=>.inr (hf b z))
     (aB.snoc (nw.frame sm λb hb=>ao (off b hb)) (r0.frame sm0 λb hb=>by
       obtain ⟨o,q⟩:=r0.some_of b hb
       rw [ao (hown b hb).2,e2 _ _ q,q]))
   obtain ⟨r,rs,v,f1,f2,f3,f4⟩:=P1
   rw [f1] at eu
   cases eu
   have ne:=S1.below hi hp f1 pv
   exact fin B' _ S' ⟨r,rs,v,f1,by rw [ao (Ne.symm ne)]; exact e2 _ _ f2,f3,f4⟩
theorem yG {ns ms:List Nd} (h:k < ns.length):(ms.take k++ns.drop k)[k]?=some ns[k]\/ms.length < k:=by
 by_cases hm:ms.length < k
 · exact .inr hm
 · refine .inl ?_
   rw [List.getElem?_append_right (by simp; omega)]
   simp [Nat.min_eq_left (Nat.le_of_not_lt hm),h]
theorem ub {ns ms:List Nd} (h:k < ns.length) (h':k < ms.length):(ms.take k++ns.drop k).set k ms[k]=ms.take (k + 1)++ns.drop (k + 1):=by
 have hm:(ms.take k).length=k:=by simp; omega
 rw [List.set_append_right _ _ (by omega),hm,Nat.sub_self,List.drop_eq_getElem_cons h,List.set_cons_zero,List.take_add_one,List.getElem?_eq_getElem h',List.append_assoc]
 rfl
theorem vY (i j:Nat) {n v:Str} {ip tp:Pos} (ns ms:List Nd) (hnm:ns.length=ms.length) (Bq:Bk X l) (hN:X.N.Nodup) (hi:τ[i]?=some (.n (.l ns)))
   (hb:∀ k (h:k < ns.length) (h':k < ms.length) (r:List Nd),r[k]?=some ns[k]->PSs X body (dSJ X.K (τ.set i (.n (.l r))) i j k (τ.set i (.n (.l (r.set k ms[k]))))))
   (hr:PSs X rest (dS X.K (τ.set i (.n (.l ms))) N)) (hj:τ[j]?=some .un:=by rfl) (hij:i ≠ j:=by decide) (hNi:X.N[i]?=some v:=by rfl) (hNj:X.N[j]?=some n:=by rfl)
   (hvi:Vis X.env.scope v:=by first | exact Or.inl rfl | exact Or.inr (Or.inl rfl) | exact Or.inr (Or.inr rfl)) (hlj:Loc X.env.scope n:=by first | exact .inl rfl | exact .inr rfl)
   (hf:X.fn n=true\/X.env.scope.names.lookup n=some .local:=by first | exact .inl rfl | exact .inr rfl | assumption)
   (hd1:(v == ("__debug__" : Str))=false:=by decide) (hd2:(v == ("__classdict__" : Str))=false:=by decide)
   (hs:∀ x,foldedSetIterable (.Name v ip) X.env x=pure x:=by intro _; rfl) :
   PSs X (.For (.Name n tp) (.Name v ip) body [] pos :: rest) (dS X.K τ N):=by
 have hlen:i < τ.length:=(List.getElem?_eq_some_iff.mp hi).1
 let mx:Nat->List Nd:=λk=>ms.take k++ns.drop k
 have ml:∀ k,k<=ns.length->(mx k).length=ns.length:=λk hk=>by simp [mx]; omega
 have tk:∀ k,(τ.set i (.n (.l (mx k))))[i]?=some (.n (.l (mx k))):=λk=>List.getElem?_set_self hlen
 have tj:∀ k,(τ.set i (.n (.l (mx k))))[j]?=some .un:=λk=>by rw [List.getElem?_set_ne hij]; exact hj
 have bd:PSs X body λD σ H=>∃ kk,kk < ns.length/\dSJ X.K (τ.set i (.n (.l (mx kk)))) i j kk (τ.set i (.n (.l (mx (kk + 1))))) D σ H:=by
   rintro pins s σ H D I ⟨kk,hk,h⟩
   have hk':kk < ms.length:=by omega
   have:=hb kk hk hk' (mx kk) ((yG (ms:=ms) hk).resolve_right (by omega))
   rw [ub hk hk'] at this
   exact this pins s σ H D I h
 have e0:mx 0=ns:=by simp [mx]
 have eE:mx ns.length=ms:=by simp [mx,hnm]
 refine bp (M:=(·=τ.set i (.n (.l (mx ns.length))))) (psW (sk Bq.po (pV Bq.calm (bw hNi hvi hd1 hd2)) (eI hN hNj hlj hf) bd hs) λD σ H ⟨A,H₀,B,S,Me⟩=>?_) λ_ e=>by rw [e,eE]; exact hr
 obtain ⟨_,u,eu,ok⟩:=S.sl i _ hi
 generalize B i=bi at ok
 cases ok with
 | @l a vs bs0 _ hH r0=>
   refine ⟨_,slot_of eu,a,rfl,⟨_,SqL.of hH⟩,λk m σ' H'=>m=ns.length - k/\k<=ns.length/\(σ'[i]?).join=some (.ref a)/\∃ B',Sta X.K A H₀ (τ.set i (.n (.l (mx k)))) B' σ' H',⟨_,rfl,Nat.zero_le _,eu,B,by rw [e0,set_same hi]; exact S⟩,?_⟩
   rintro k m σ' H' ⟨rfl,hk,ea,B',S'⟩
   obtain ⟨_,u',eu',ok'⟩:=S'.sl i _ (tk k)
   rw [ea] at eu'
   cases eu'
   generalize B' i=bi' at ok'
   cases ok' with
   | @l _ vs' bs1 _ hH' r1=>
     have hlv:vs'.length=ns.length:=by rw [r1.length,ml k hk]
     by_cases hlt:k < ns.length
     · refine .inr ⟨⟨vs',vs'[k],SqL.of hH',List.getElem?_eq_getElem (by omega)⟩,λσ2 H2=>(σ2[i]?).join=some (.ref a)/\∃ B',Sta X.K A H₀ (τ.set i (.n (.l (mx (k + 1))))) B' σ2 H2,λσ2 H2 ⟨z1,z2⟩=>⟨ns.length - (k + 1),by omega,rfl,hlt,z1,z2⟩,λy H2 ⟨e1,e2⟩=>?_⟩
       subst e1
       have ey:=e2 vs' (SqL.of hH')
       have S2:=S'.set (ah.refl _) (i:=j) (v:=y) (s:=.un) (bs:=[]) (λ_ z=>nomatch z) rfl
       rw [set_same (tj k)] at S2
       have hjl:j < σ'.length:=by rw [S'.len,List.length_set]; exact (List.getElem?_eq_some_iff.mp hj).1
       have ei:((σ'.set j (some y))[i]?).join=some (.ref a):=by rw [List.getElem?_set_ne (Ne.symm hij)]; exact ea
       exact ⟨k,hlt,A,H₀,_,S2,⟨a,vs',y,ei,hH',ey,List.getElem?_set_self hjl⟩,λB3 H3 S3 _=>⟨ei,B3,S3⟩⟩
     · obtain rfl:k=ns.length:=by omega
       exact .inl ⟨⟨vs',SqL.of hH',by omega⟩,Me.nx _ _ _ _ rfl S'⟩
end
end Hy
namespace K25
open PySem PySem.Spec PyProof.Rows L2 Hy
noncomputable def top (i:Nat):Stmt:=PySem.Challenge.pw_signsmooth_k25_families_listed.main.body.getD i (.Pass ⟨0,0,0,0⟩)
theorem fN:av ["_law_cell_here","_law_bases","_law_row","_law_base","_law_k","_law_mixed"] ["_law_cell_here","_law_bases"] (aj (top 38)):=⟨rfl,rfl,rfl,by decide +kernel,rfl,by decide +kernel,by decide +kernel⟩
theorem i5:av ["_law_cell_here","_law_most","_law_parts","_law_tracks"] ["_law_cell_here","_law_most"] (aj (top 44)):=⟨rfl,rfl,rfl,by decide +kernel,rfl,by decide +kernel,by decide +kernel⟩
theorem fF:av ["_law_one","_law_other","_law_rest"] ["_law_one","_law_other"] (aj (top 39)):=⟨rfl,rfl,rfl,by decide +kernel,rfl,by decide +kernel,by decide +kernel⟩
theorem jL:av ["_law_top","_law_bottom","_law_common"] ["_law_top","_law_bottom"] (aj (top 40)):=⟨rfl,rfl,rfl,by decide +kernel,rfl,by decide +kernel,by decide +kernel⟩
theorem ly:av ["_law_many","_law_number","_law_k"] ["_law_many"] (aj (top 36)):=⟨rfl,rfl,rfl,by decide +kernel,rfl,by decide +kernel,by decide +kernel⟩
theorem gB:av ["_law_part","_law_figures","_law_ten_here"] ["_law_part","_law_figures"] (aj (top 42)):=⟨rfl,rfl,rfl,by decide +kernel,rfl,by decide +kernel,by decide +kernel⟩
theorem gJ:av ["_law_cell_here","_law_tracks","_law_rows","_law_columns","_law_many","_law_figures","_law_parts","_law_steps","_law_k","_law_word","_law_at"] ["_law_cell_here","_law_tracks","_law_rows","_law_columns","_law_many","_law_figures"] (aj (top 43)):=⟨rfl,rfl,rfl,by decide +kernel,rfl,by decide +kernel,by decide +kernel⟩
theorem iL:av ["_law_one","_law_other","_law_most","_law_figures","_law_sizes_here"] ["_law_one","_law_other","_law_most","_law_figures"] (aj (top 45)):=⟨rfl,rfl,rfl,by decide +kernel,rfl,by decide +kernel,by decide +kernel⟩
theorem gL:av ["_law_cell_here","_law_many","_law_size","_law_parts","_law_left"] ["_law_cell_here","_law_many","_law_size"] (aj (top 48)):=⟨rfl,rfl,rfl,by decide +kernel,rfl,by decide +kernel,by decide +kernel⟩
theorem jG:av ["_law_cell_here","_law_ladder_here","_law_most","_law_parts","_law_size"] ["_law_cell_here","_law_ladder_here"] (aj (top 53)):=⟨rfl,rfl,rfl,by decide +kernel,rfl,by decide +kernel,by decide +kernel⟩
theorem gD:av ["_law_cell_here","_law_parts","_law_tracks","_law_some","_law_rungs","_law_steps","_law_k","_law_word","_law_at","_law_weight_here"] ["_law_cell_here"] (aj (top 54)):=⟨rfl,rfl,rfl,by decide +kernel,rfl,by decide +kernel,by decide +kernel⟩
theorem jH:av ["_law_step","_law_track","_law_word","_law_k","_law_weight_here"] ["_law_step","_law_track"] (aj (top 46)):=⟨rfl,rfl,rfl,by decide +kernel,rfl,by decide +kernel,by decide +kernel⟩
theorem jT:av ["_law_ladder_here","_law_i","_law_j","_law_some","_law_step","_law_longer","_law_way"] ["_law_ladder_here","_law_i","_law_j"] (aj (top 47)):=⟨rfl,rfl,rfl,by decide +kernel,rfl,by decide +kernel,by decide +kernel⟩
theorem iX:av ["_law_way","_law_others","_law_other","_law_one","_law_two"] ["_law_way","_law_others"] (aj (top 51)):=⟨rfl,rfl,rfl,by decide +kernel,rfl,by decide +kernel,by decide +kernel⟩
theorem eP:av ["_law_ladder_here","_law_rows","_law_columns","_law_some","_law_i","_law_j","_law_ways_here","_law_longer","_law_family"] ["_law_ladder_here","_law_rows","_law_columns"] (aj (top 52)):=⟨rfl,rfl,rfl,by decide +kernel,rfl,by decide +kernel,by decide +kernel⟩
theorem lW:av ["_law_ladder_here"] ["_law_ladder_here"] (aj (top 49)):=⟨rfl,rfl,rfl,by decide +kernel,rfl,by decide +kernel,by decide +kernel⟩
theorem lU:av ["thing"] ["thing"] (aj (top 7)):=⟨rfl,rfl,rfl,by decide +kernel,rfl,by decide +kernel,by decide +kernel⟩
theorem jg:av ["thing","least","most"] ["thing","least","most"] (aj (top 8)):=⟨rfl,rfl,rfl,by decide +kernel,rfl,by decide +kernel,by decide +kernel⟩
theorem cx:av ["one","other","greater","lesser","rest"] ["one","other"] (aj (top 10)):=⟨rfl,rfl,rfl,by decide +kernel,rfl,by decide +kernel,by decide +kernel⟩
theorem jb:av ["thing"] ["thing"] (aj (top 9)):=⟨rfl,rfl,rfl,by decide +kernel,rfl,by decide +kernel,by decide +kernel⟩
theorem kR:av ["thing"] ["thing"] (aj (top 20)):=⟨rfl,rfl,rfl,by decide +kernel,rfl,by decide +kernel,by decide +kernel⟩
theorem oA:av ["thing","tracks"] ["thing","tracks"] (aj (top 21)):=⟨rfl,rfl,rfl,by decide +kernel,rfl,by decide +kernel,by decide +kernel⟩
theorem ko:av ["thing"] ["thing"] (aj (top 22)):=⟨rfl,rfl,rfl,by decide +kernel,rfl,by decide +kernel,by decide +kernel⟩
theorem iI:av ["thing"] ["thing"] (aj (top 23)):=⟨rfl,rfl,rfl,by decide +kernel,rfl,by decide +kernel,by decide +kernel⟩
theorem kY:av ["numbers"] ["numbers"] (aj (top 14)):=⟨rfl,rfl,rfl,by decide +kernel,rfl,by decide +kernel,by decide +kernel⟩
theorem kq:av ["thing","many"] ["thing","many"] (aj (top 13)):=⟨rfl,rfl,rfl,by decide +kernel,rfl,by decide +kernel,by decide +kernel⟩
theorem gO:av ["rows","columns","many_rows","many_columns"] ["rows","columns","many_rows","many_columns"] (aj (top 15)):=⟨rfl,rfl,rfl,by decide +kernel,rfl,by decide +kernel,by decide +kernel⟩
theorem kE:av ["ladder","rows","columns"] ["ladder","rows","columns"] (aj (top 32)):=⟨rfl,rfl,rfl,by decide +kernel,rfl,by decide +kernel,by decide +kernel⟩
theorem qe:av ["trail","k"] ["trail","k"] (aj (top 30)):=⟨rfl,rfl,rfl,by decide +kernel,rfl,by decide +kernel,by decide +kernel⟩
theorem kb:av ["trail"] ["trail"] (aj (top 34)):=⟨rfl,rfl,rfl,by decide +kernel,rfl,by decide +kernel,by decide +kernel⟩
theorem eR:av ["many","size","found","turn","longer","choice","least"] ["many","size"] (aj (top 16)):=⟨rfl,rfl,rfl,by decide +kernel,rfl,by decide +kernel,by decide +kernel⟩
theorem jn:av ["step"] ["step"] (aj (top 24)):=⟨rfl,rfl,rfl,by decide +kernel,rfl,by decide +kernel,by decide +kernel⟩
theorem mO:av ["step"] ["step"] (aj (top 25)):=⟨rfl,rfl,rfl,by decide +kernel,rfl,by decide +kernel,by decide +kernel⟩
theorem dX:av ["step","places","stopped","start","end"] ["step","places"] (aj (top 26)):=⟨rfl,rfl,rfl,by decide +kernel,rfl,by decide +kernel,by decide +kernel⟩
theorem dq:av ["ladder","ends","counts","all_places","step","behind","ahead","places","many"] ["ladder","ends"] (aj (top 27)):=⟨rfl,rfl,rfl,by decide +kernel,rfl,by decide +kernel,by decide +kernel⟩
theorem cL:av ["found","step","counts","longer","trail","places"] ["found","step","counts"] (aj (top 29)):=⟨rfl,rfl,rfl,by decide +kernel,rfl,by decide +kernel,by decide +kernel⟩
theorem jx:av ["ladder","starts","ends","counts","many","found","k","step"] ["ladder","starts","ends"] (aj (top 28)):=⟨rfl,rfl,rfl,by decide +kernel,rfl,by decide +kernel,by decide +kernel⟩
theorem mE:av ["ladder","rows","columns"] ["ladder","rows","columns"] (aj (top 33)):=⟨rfl,rfl,rfl,by decide +kernel,rfl,by decide +kernel,by decide +kernel⟩
theorem nX:av ["_law_thing"] ["_law_thing"] (aj (top 41)):=⟨rfl,rfl,rfl,by decide +kernel,rfl,by decide +kernel,by decide +kernel⟩
theorem ie:av ["_law_found","_law_due","_law_row"] ["_law_found","_law_due"] (aj (top 50)):=⟨rfl,rfl,rfl,by decide +kernel,rfl,by decide +kernel,by decide +kernel⟩
theorem iZ:av ["_law_ladder_here","_law_rows","_law_columns","_law_due","_law_handed","_law_ends_here","_law_found","_law_family"] ["_law_ladder_here","_law_rows","_law_columns"] (aj (top 55)):=⟨rfl,rfl,rfl,by decide +kernel,rfl,by decide +kernel,by decide +kernel⟩
theorem qS:av ["_law_script","_law_k"] ["_law_script","_law_k"] (aj (top 37)):=⟨rfl,rfl,rfl,by decide +kernel,rfl,by decide +kernel,by decide +kernel⟩
theorem rF:av ["_law_script","_law_k","_law_cell_here","_law_ladder_here","_law_rows","_law_columns"] ["_law_script"] (aj (top 56)):=⟨rfl,rfl,rfl,by decide +kernel,rfl,by decide +kernel,by decide +kernel⟩
end K25
namespace K25
open PySem PySem.Spec PyProof.Rows L2 Hy
open Ev (D Den ar aU aP)
noncomputable def iJ:Int->List Int->List Int
 | _,[]=>[]
 | c,b :: r=>c.fmod b :: iJ (c.fdiv b) r
noncomputable def vb (c:Int) (bs:List Int):Int:=bs.foldl (λc b=>c.fdiv b) c
noncomputable def wZ (c:Int) (k:Nat) (b:Int):Int:=(((((c * 48271 + (k:Int) * k * 69621 + (k:Int) * 16807 + 11).fmod 2147483647) * 40692 + c + 31 * (k:Int)).fmod 2147483399).fdiv 7).fmod b
noncomputable def uw (c:Int) (bs:List Int):List Int:=(List.range bs.length).map λk=>wZ c k (bs.getD k 0)
noncomputable def nums (c:Int) (bs:List Int):List Int:=if (10:Int) ^ (18:Int).toNat<=uc c then iJ c bs else uw c bs
theorem jM:∀ (bs:List Int) (c b:Int),iJ c (bs++[b])=iJ c bs++[(vb c bs).fmod b]
 | [],_,_=>rfl
 | a :: bs,c,b=>by rw [List.cons_append,iJ,iJ,jM bs]; rfl
theorem iy:∀ (bs:List Int) (c:Int),(iJ c bs).length=bs.length
 | [],_=>rfl
 | _ :: bs,c=>congrArg (· + 1) (iy bs _)
theorem bU (c:Int) (bs:List Int):(nums c bs).length=bs.length:=by
 unfold nums
 split
 · exact iy bs c
 · simp [uw]
theorem pP:∀ (bs:List Int) (c:Int),(∀ b ∈ bs,0 < b)->∀ (i:Nat),i < bs.length->0<=(iJ c bs).getD i 0/\(iJ c bs).getD i 0 < bs.getD i 0
 | b :: bs,c,h,0,_=>by
   have:=h b (List.mem_cons_self ..)
   exact ⟨Int.fmod_nonneg_of_pos c this,Int.fmod_lt_of_pos c this⟩
 | b :: bs,c,h,i + 1,hi=>by
   have:=pP bs (c.fdiv b) (λx hx=>h x (List.mem_cons_of_mem _ hx)) i (by simpa using hi)
   simpa [iJ] using this
theorem bJ {c:Int} {bs:List Int} (h:∀ b ∈ bs,0 < b) {i:Nat} (hi:i < bs.length):0<=(nums c bs).getD i 0/\(nums c bs).getD i 0 < bs.getD i 0:=by
 unfold nums
 split
 · exact pP bs c h i hi
 · have hp:0 < bs.getD i 0:=h _ (by simp [hi])
   have e:(uw c bs).getD i 0=wZ c i (bs.getD i 0):=by simp [uw,hi]
   rw [e]
   exact ⟨Int.fmod_nonneg_of_pos _ hp,Int.fmod_lt_of_pos _ hp⟩
theorem take_snoc {α:Type} {xs:List α} {i:Nat} (d:α) (h:i < xs.length):xs.take (i + 1)=xs.take i++[xs.getD i d]:=by
 rw [List.take_add_one,List.getElem?_eq_getElem h]
 simp [h]
theorem jq {b:Int} (h0:0 < b) (h:b < 2 ^ 60):0 < b/\aP b:=⟨h0,mkD (by omega) (by omega)⟩
noncomputable def bb (ds:List D) (r:Sl):Prop:=∃ (c:Int) (bs:List Int),ds=[.int c,.lst (bs.map .int)]/\bs.length<=10000/\(∀ b ∈ bs,0 < b/\aP b)/\r=.o ((nums c bs).map .int)
noncomputable def tpD (c:List Int):D:=.tup (c.map .int)
noncomputable def oj (cs:List (List Int)):D:=.lst (cs.map tpD)
noncomputable def bL (c:List Int):Int:=c.getD (c.length - 1) 0
noncomputable def lea (t:Nat) (c:List Int):Int:=if 0 < t then bL c + 1 else 0
noncomputable def onC (n t:Nat) (c:List Int):List (List Int):=(List.range ((n:Int) - lea t c).toNat).map λk=>c++[lea t c + (k:Nat)]
noncomputable def chs (n:Nat):Nat->List (List Int)
 | 0=>[[]]
 | t + 1=>(chs n t).flatMap (onC n t)
structure Chs (n t:Nat) (c:List Int):Prop where
 len:c.length=t
 at_:∀ i,i < t->0<=c.getD i 0/\c.getD i 0 < n
theorem rW {c:List Int} {x:Int} {i:Nat}:(c++[x]).getD i 0=if i < c.length then c.getD i 0 else if i=c.length then x else 0:=by
 by_cases h:i < c.length
 · rw [if_pos h]; simp [List.getD,List.getElem?_append_left h]
 · rw [if_neg h]
   by_cases e:i=c.length
   · subst e; simp
   · rw [if_neg e]
     simp [List.getD]
     rw [List.getElem?_eq_none (by simp; omega)]
     rfl
theorem ov {n t:Nat} {c:List Int} (h:Chs n t c):0<=lea t c/\lea t c<=n:=by
 unfold lea
 by_cases ht:0 < t
 · have:=h.at_ (t - 1) (by omega)
   rw [if_pos ht,bL,h.len]
   omega
 · rw [if_neg ht]; omega
theorem gn (n:Nat):∀ t,∀ c ∈ chs n t,Chs n t c
 | 0,c,h=>by
   rw [chs,List.mem_singleton] at h
   subst h
   exact ⟨rfl,λi hi=>absurd hi (by omega)⟩
 | t + 1,c,h=>by
   rw [chs,List.mem_flatMap] at h
   obtain ⟨d,hd,hc⟩:=h
   have ih:=gn n t d hd
   have hl:=ov ih
   unfold onC at hc
   obtain ⟨k,hk,rfl⟩:=List.mem_map.mp hc
   rw [List.mem_range] at hk
   refine ⟨by rw [List.length_append,ih.len]; rfl,λi hi=>?_⟩
   rw [rW,ih.len]
   by_cases e:i < t
   · rw [if_pos e]; exact ih.at_ i e
   · rw [if_neg e,if_pos (by omega)]; omega
theorem kL {n t:Nat} {c:List Int} (h:Chs n t c):(onC n t c).length<=n:=by
 have:=ov h
 simp [onC]
 omega
theorem cJ {α β:Type} (f:α->List β) (m:Nat):∀ xs:List α,(∀ x ∈ xs,(f x).length<=m)->(xs.flatMap f).length<=xs.length * m
 | [],_=>by simp
 | x :: xs,h=>by
   rw [List.flatMap_cons,List.length_append,List.length_cons,Nat.succ_mul]
   have:=h x (List.mem_cons_self ..)
   have:=cJ f m xs λy hy=>h y (List.mem_cons_of_mem _ hy)
   omega
theorem kQ {n:Nat} (hn:n<=7):∀ t,(chs n t).length<=7 ^ t
 | 0=>by simp [chs]
 | t + 1=>by
   rw [chs]
   have:=cJ (onC n t) 7 (chs n t) λc hc=>Nat.le_trans (kL (gn n t c hc)) hn
   have:=kQ hn t
   rw [Nat.pow_succ]
   omega
noncomputable def cX (ds:List D) (r:Sl):Prop:=∃ n t:Nat,ds=[.int n,.int t]/\n<=7/\t<=7/\r=.d (oj (chs n t))
theorem rB {cs:List (List Int)} (i:Nat) (h:i < (cs.map tpD).length):(cs.map tpD)[i]=tpD (cs.getD i []):=by
 have:i < cs.length:=by simpa using h
 simp [this]
theorem cW {α:Type} {xs:List α} {i:Nat} {d:α} (h:i < xs.length):xs.getD i d ∈ xs:=by simp [h]
theorem gX {c:List Int} (h:c ≠ []):atI (c.map D.int) (-1)=some (.int (bL c)):=by
 have hl:0 < c.length:=List.length_pos_iff.mpr h
 unfold atI ixN bL
 rw [if_neg (by decide),if_pos (by rw [List.length_map]; omega),List.length_map]
 simp only [Option.bind_some]
 have e:(-1 + (c.length:Int)).toNat=c.length - 1:=by omega
 rw [e]
 simp [(by omega:c.length - 1 < c.length)]
section
variable {P:Program} {w:World} {K:PySem.W.Frag} {mg:Str->Option Value} {base:Heap} {k:Nat} {f:Addr} {fd:FuncData} {qual:Str}
theorem j7 (F:Fun K "_law_numbers" qual (top 38) f fd) (hb:∀ x ∈ ak,mg x=none):aQ P w K mg base CX0 (k + 1) f fd ["_law_cell_here","_law_bases"] (spD K bb):=by
 refine fnD F fN hb (by rintro _ _ ⟨_,_,rfl,_⟩; rfl) ?_
 rintro _ _ ⟨c,bs,rfl,hl,hbs,rfl⟩ cdv A outer s H E b
 have nd:=fN.nd
 have hp:∀ i,i < bs.length->0 < bs.getD i 0/\aP (bs.getD i 0):=λi hi=>hbs _ (by simp [hi])
 refine ay 2 nd (aL ag) ?_
 refine cB (aJ (bR b (ae (aa 0) ag) lh) (aD af af (oC ⟨by decide,by decide,by decide⟩)) uf) (λh=>?_) λh=>?_
 · refine bY 3 (λi τ=>∃ s3,τ=[.d (.int (vb c (bs.take i))),.d (.lst (bs.map .int)),.o ((iJ c (bs.take i)).map .int),s3,.un,.un]) b nd (aZ (aa 1)) mB ⟨_,rfl⟩ (λi hi τ h=>?_) λτ h=>?_
   · obtain ⟨s3,rfl⟩:=h
     have hi:i < bs.length:=by simpa using hi
     obtain ⟨p1,p2⟩:=hp i hi
     refine jO 2 (aD (aa 0) (aa 3) (bB (by omega))) ?_ ?_
     · rw [List.length_map,iy,List.length_take]; omega
     refine ay 0 nd (aD (aa 0) (aa 3) (fY p2)) (aN ?_)
     apply ex1
     show [Sl.d (.int ((vb c (bs.take i)).fdiv (bs.getD i 0))),_,Sl.o _,_,_,_]=_
     rw [take_snoc 0 hi,jM,List.map_append]
     unfold vb
     rw [List.foldl_append]
     rfl
   · obtain ⟨s3,rfl⟩:=h
     refine kf 2 ?_
     rw [List.length_map,List.take_of_length_le (Nat.le_refl _)]
     unfold nums
     rw [if_pos (of_decide_eq_true h)]
 · refine i4 4 3 (λi τ=>∃ s3 s4 s5,τ=[.d (.int c),.d (.lst (bs.map .int)),.o (((List.range i).map λk=>wZ c k (bs.getD k 0)).map .int),s3,s4,s5]) b nd (t4 b (aa 1)) vI ⟨_,_,_,rfl⟩ (λi hi τ h=>?_) λτ h=>?_
   · obtain ⟨s3,s4,s5,rfl⟩:=h
     have hi:i < bs.length:=by rw [b9,List.length_map] at hi; exact hi
     obtain ⟨p1,p2⟩:=hp i hi
     refine ay 5 nd (aD (aD (aD (aD (aD (aa 0) af (bC (mkR (by decide)))) (aD (aD (aa 4) (aa 4) (bC (mkL (by omega)))) af (bC (mkR (by decide)))) aW) (aD (aa 4) af (bC (mkR (by decide)))) aW) af aW) af (bB (by decide))) ?_
     refine jO 2 (aD (aD (aD (aD (aD (aD (aa 5) af (bC (mkR (by decide)))) (aa 0) aW) (aD af (aa 4) (bC (mkL (by decide)))) aW) af (bB (by decide))) af (fY (mkD (by decide) (by decide)))) (aa 3) (bB (by omega))) ?_ (aN ?_)
     · rw [List.length_map,List.length_map,List.length_range]; omega
     apply ex3
     rw [List.range_succ,List.map_append,List.map_append]
     rfl
   · obtain ⟨s3,s4,s5,rfl⟩:=h
     refine kf 2 ?_
     rw [b9,List.length_map]
     unfold nums
     rw [if_neg (of_decide_eq_false h)]
     rfl
theorem ji (F:Fun K "choices_of" qual (top 16) f fd) (hb:∀ x ∈ ak,mg x=none):aQ P w K mg base CX0 (k + 1) f fd ["many","size"] (spD K cX):=by
 refine fnD F eR hb (by rintro _ _ ⟨_,_,rfl,_⟩; rfl) ?_
 rintro _ _ ⟨n,t,rfl,hn,ht,rfl⟩ cdv A outer s H E b
 have nd:=eR.nd
 refine ay 2 nd (aR (aL (ae (dC ag) ag))) ?_
 refine bY 3 (λi τ=>∃ s3 s4 s5 s6,τ=[.d (.int n),.d (.int t),.d (oj (chs n i)),s3,s4,s5,s6]) b nd (jZ b (aa 1) (by omega) (by omega)) jD ⟨.un,.un,.un,.un,rfl⟩ (λi hi τ h=>?_) λτ h=>?_
 · obtain ⟨s3,s4,s5,s6,rfl⟩:=h
   have hi:i < t:=by rw [aK] at hi; omega
   have l1:=kQ hn i
   have l2:7 ^ i<=7 ^ 6:=Nat.pow_le_pow_right (by decide) (by omega)
   refine ay 4 nd (aL ag) ?_
   refine bY 5 (g:=λl=>tpD ((chs n i).getD l [])) (λl τ=>∃ s5 s6,τ=[.d (.int n),.d (.int t),.d (oj (chs n i)),.d (.int (i:Nat)),.o ((((chs n i).take l).flatMap (onC n i)).map tpD),s5,s6]) b nd (aZ (aa 2)) rB ⟨s5,s6,rfl⟩ (λl hl τ h=>?_) λτ h=>?_
   · obtain ⟨s5,s6,rfl⟩:=h
     have hl:l < (chs n i).length:=by simpa using hl
     have ok:=gn n i _ (cW (d:=[]) hl)
     have hle:=ov ok
     have len1:=cJ (onC n i) 7 ((chs n i).take l) λc hc=>Nat.le_trans (kL (gn n i c (List.mem_of_mem_take hc))) hn
     rw [List.length_take] at len1
     have len2:=kL ok
     refine ay 6 nd (jV (s:=.d (.int (lea i ((chs n i).getD l [])))) (aJ (aa 3) af kZ) (λh=>?_) λh=>?_) ?_
     · have h:=of_decide_eq_true h
       have h0:0 < i:=by omega
       rw [show lea i ((chs n i).getD l [])=bL ((chs n i).getD l []) + 1 from if_pos h0]
       exact aD (aC (aa 5) (jC af) (aE (gX λz=>by have:=ok.len; rw [z] at this; simp at this; omega))) af aW
     · have h:=of_decide_eq_false h
       rw [show lea i ((chs n i).getD l [])=0 from if_neg (by omega)]
       exact af
     refine tT 4 (gM (cmp 0 (f:=λk=>tpD (((chs n i).getD l [])++[lea i ((chs n i).getD l []) + (k:Nat)])) b (rD b (aa 6) (aa 0) ⟨by omega,by omega,by omega,by omega⟩) (λk hk=>gU _ _ k hk) (by rw [aK]; omega) λk hk s0 H0 fp=>?_)) ?_ (aN ⟨.d (tpD ((chs n i).getD l [])),.d (.int (lea i ((chs n i).getD l []))),?_⟩)
     · have e:tpD (((chs n i).getD l [])++[lea i ((chs n i).getD l []) + (k:Nat)])=.tup ((((chs n i).getD l []).map D.int)++[.int (lea i ((chs n i).getD l []) + (k:Nat))]):=by unfold tpD; rw [List.map_append]; rfl
       rw [e]
       exact aD (aa 1) (dC (ae (aa 0) ag)) (xx (by rw [List.length_map,ok.len]; show _ + 1 < _; omega))
     · rw [List.length_map,List.length_map,List.length_range,aK]; omega
     · rw [take_snoc [] hl,List.flatMap_append,List.map_append,aK]
       show [_,_,_,_,Sl.o (_++(List.range ((n:Int) - lea i ((chs n i).getD l [])).toNat).map _),_,_]=_
       simp [onC]
   · obtain ⟨s5,s6,rfl⟩:=h
     refine qY 4 (ay 2 nd (aa 4) (aN ⟨.d (.int (i:Nat)),.d (oj (chs n (i + 1))),s5,s6,?_⟩))
     rw [List.length_map,List.take_of_length_le (Nat.le_refl _)]
     rfl
 · obtain ⟨s3,s4,s5,s6,rfl⟩:=h
   refine aG (aa 2) ?_
   rw [aK,Int.toNat_natCast]
end
noncomputable def frD (q:Rat):D:=.tup [.int q.num,.int (q.den:Nat)]
theorem iu {t b:Int} {x:Rat} (hb:0 < b) (h:(t:Rat)=x * (b:Rat)):x.num=t / (Int.gcd t b:Int)/\((x.den:Nat):Int)=b / (Int.gcd t b:Int):=by
 have hb0:((b.toNat:Nat):Rat) ≠ 0:=λz=>by have:=Rat.natCast_eq_zero_iff.mp z; omega
 have hbb:((b:Int):Rat)=((b.toNat:Nat):Rat):=by rw [<- Rat.intCast_natCast,Int.toNat_of_nonneg (by omega)]
 have e:x=mkRat t b.toNat:=by
   rw [Rat.mkRat_eq_div,h,hbb,Rat.mul_div_cancel hb0]
 have g:b.toNat.gcd t.natAbs=Int.gcd t b:=by
   rw [Int.gcd,Nat.gcd_comm,show b.natAbs=b.toNat by omega]
 have nz:¬ b.toNat=0:=by omega
 constructor
 · rw [e,Rat.num_mkRat,if_neg nz,g]
 · rw [e,Rat.den_mkRat,if_neg nz,g,Int.natCast_ediv,Int.toNat_of_nonneg (by omega)]
theorem den_pos (q:Rat):0 < ((q.den:Nat):Int):=by have:=q.den_pos; omega
theorem wH {b:Int} (hb:0 < b):(b:Rat) ≠ 0:=λz=>by have:=Rat.intCast_eq_zero_iff.mp z; omega
noncomputable def Bd (n:Nat) (i:Int):Prop:=i.natAbs < 2 ^ n
theorem Bd.mono {m n:Nat} {i:Int} (h:Bd m i) (hm:m<=n):Bd n i:=Nat.lt_of_lt_of_le h (Nat.pow_le_pow_right (by decide) hm)
theorem Bd.log {n:Nat} {i:Int} (h:Bd n i) (hn:0 < n):i.natAbs.log2 < n:=by
 rcases Nat.eq_zero_or_pos i.natAbs with z | z
 · rw [z]; exact hn
 · exact (Nat.log2_lt (by omega)).mpr h
theorem Bd.add {n:Nat} {i j:Int} (h:Bd n i) (g:Bd n j):Bd (n + 1) (i + j):=by
 unfold Bd at *
 rw [Nat.pow_succ]
 omega
theorem Bd.neg {n:Nat} {i:Int} (h:Bd n i):Bd n (-i):=by unfold Bd at *; rwa [Int.natAbs_neg]
theorem Bd.sub {n:Nat} {i j:Int} (h:Bd n i) (g:Bd n j):Bd (n + 1) (i - j):=by rw [Int.sub_eq_add_neg]; exact h.add g.neg
theorem Bd.aU {m n:Nat} {i j:Int} (h:Bd m i) (g:Bd n j) (hm:m<=1000000) (hn:n<=1000000):aU i j:=
 .inr (.inr ⟨(h.mono (Nat.le_succ_of_le hm)).log (by omega) |> λz=>by
   rcases Nat.eq_zero_or_pos i.natAbs with q | q
   · rw [q]; decide
   · exact Nat.lt_of_lt_of_le ((Nat.log2_lt (by omega)).mpr h) hm,by
   rcases Nat.eq_zero_or_pos j.natAbs with q | q
   · rw [q]; decide
   · exact Nat.lt_of_lt_of_le ((Nat.log2_lt (by omega)).mpr g) hn⟩)
theorem Bd.aP {n:Nat} {j:Int} (h:Bd n j) (h0:j ≠ 0) (hn:n<=9000):aP j:=⟨h0,Nat.lt_of_lt_of_le ((Nat.log2_lt (by omega)).mpr h) hn⟩
theorem Bd.of_dvd {n:Nat} {i j:Int} (h:Bd n j) (hd:i ∣ j) (h0:j ≠ 0):Bd n i:=Nat.lt_of_le_of_lt (Nat.le_of_dvd (by omega) (Int.natAbs_dvd_natAbs.mpr hd)) h
theorem Bd.ediv {n:Nat} {i:Int} (h:Bd n i) (j:Int):Bd n (i / j):=Nat.lt_of_le_of_lt (Int.natAbs_ediv_le_natAbs i j) h
theorem Bd.gcd {n:Nat} {i j:Int} (h:Bd n j) (h0:j ≠ 0):Bd n (Int.gcd i j:Int):=h.of_dvd (Int.gcd_dvd_right ..) h0
theorem wV {i j:Int} (h0:j ≠ 0):(Int.gcd i j:Int) ≠ 0:=λz=>h0 (by have:=Int.gcd_eq_zero_iff.mp (Int.ofNat_eq_zero.mp z); exact this.2)
theorem mP {i j:Int} (t:Int):t.fdiv (Int.gcd i j:Int)=t / (Int.gcd i j:Int):=Int.fdiv_eq_ediv_of_nonneg _ (Int.natCast_nonneg _)
structure Sq (n:Nat) (q:Rat):Prop where
 num:Bd n q.num
 den:Bd n (q.den:Nat)
theorem Sq.mono {m n:Nat} {q:Rat} (h:Sq m q) (hm:m<=n):Sq n q:=⟨h.num.mono hm,h.den.mono hm⟩
theorem Sq.iu {n:Nat} {t b:Int} {x:Rat} (hb:0 < b) (h:(t:Rat)=x * (b:Rat)) (h1:Bd n t) (h2:Bd n b):Sq n x:=by
 obtain ⟨e1,e2⟩:=K25.iu hb h
 exact ⟨by rw [e1]; exact h1.ediv _,by rw [e2]; exact h2.ediv _⟩
noncomputable def whl (x:D):Bool:=jr .int x && !jr .bool x
noncomputable def cb (ds:List D) (r:Sl):Prop:=∃ x,ds=[x]/\r=.d (.bl (whl x))
noncomputable def bT (ds:List D) (r:Sl):Prop:=∃ i l m:Int,ds=[.int i,.int l,.int m]/\r=.d (.bl (decide (l<=i) && decide (i<=m)))
noncomputable def bD (ds:List D) (r:Sl):Prop:=∃ a b:Int,ds=[.int a,.int b]/\r=.d (.int (Int.gcd a b:Int))
theorem fo (i:Int):uc i=(i.natAbs:Int):=by unfold uc; omega
noncomputable def qz:D->Bool
 | .tup [.int a,.int b]=>decide (1<=b) && decide ((Int.gcd a b:Int)=1)
 | _=>false
theorem uv (q:Rat):qz (frD q)=true:=by
 have h1:=den_pos q
 have h2:Int.gcd q.num (q.den:Nat)=1:=q.reduced
 show (decide ((1:Int)<=(q.den:Nat)) && decide ((Int.gcd q.num (q.den:Nat):Int)=1))=true
 rw [h2,decide_eq_true (show (1:Int)<=(q.den:Nat) by omega)]
 rfl
theorem rM {xs:List D} (h:xs.length ≠ 2):qz (.tup xs)=false:=by
 unfold qz
 split
 · rename_i e; cases e; exact absurd rfl h
 · rfl
noncomputable def cC (ds:List D) (r:Sl):Prop:=∃ x,ds=[x]/\r=.d (.bl (qz x))
noncomputable def d8 (ds:List D) (r:Sl):Prop:=∃ q:Rat,ds=[frD q]/\0<=q.num/\r=.d (.bl true)
noncomputable abbrev Stp:=Str × Nat × Rat
noncomputable def stD (s:Stp):D:=.tup [.str s.1,.int (s.2.1:Nat),frD s.2.2]
noncomputable def okS (T:Nat) (s:Stp):Prop:=0<=s.2.2.num/\((s.1 = "weigh" /\ s.2.1 < T)\/((s.1 = "down" \/ s.1 = "up")/\s.2.1 + 1 < T))
noncomputable def fW (ds:List D) (r:Sl):Prop:=∃ (T:Nat) (s:Stp),ds=[stD s,.int T]/\okS T s/\r=.d (.bl true)
noncomputable def bA (T R C:Nat) (ss:List Stp):D:=.tup [.int T,.int R,.int C,.lst (ss.map stD)]
structure okL (T R C:Nat) (ss:List Stp):Prop where
 t1:1<=T
 t7:T<=7
 r1:1<=R
 rT:R<=T
 c1:1<=C
 cT:C<=T
 len:ss.length<=400
 st:∀ i,i < ss.length->okS T (ss.getD i ("weigh",0,0))
theorem zw {ss:List Stp} (i:Nat) (h:i < (ss.map stD).length):(ss.map stD)[i]=stD (ss.getD i ("weigh",0,0)):=by
 have:i < ss.length:=by simpa using h
 simp [this]
noncomputable def dU (ds:List D) (r:Sl):Prop:=∃ (T R C:Nat) (ss:List Stp),ds=[bA T R C ss]/\okL T R C ss/\r=.d (.bl true)
noncomputable def cE (ds:List D) (r:Sl):Prop:=∃ (T R C:Nat) (ss:List Stp),ds=[bA T R C ss]/\okL T R C ss/\r=.d .non
noncomputable def rgS (s:Stp):Nat:=if s.1 = "down" then s.2.1 else s.2.1 + 1
noncomputable def cY (ds:List D) (r:Sl):Prop:=∃ s:Stp,ds=[stD s]/\r=.d (.int (rgS s:Nat))
noncomputable def rgE (s:Stp):Nat:=if s.1 = "down" then s.2.1 + 1 else s.2.1
noncomputable def eU (ds:List D) (r:Sl):Prop:=∃ s:Stp,ds=[stD s]/\r=.d (.int (rgE s:Nat))
noncomputable def mvd (a b:Nat) (c:List Int):List Int:=c.map λt=>if t=(a:Int) then (b:Int) else t
noncomputable def has (c:List Int) (x:Int):Bool:=c.any λw=>decide (w=x)
noncomputable def nxp (s:Stp) (c:List Int):List (List Int):=
 if s.1 = "weigh" then (if s.2.2.num=0/\has c s.2.1=true then [] else [c])
 else if s.2.2.num=0\/has c (rgS s)=false\/has c (rgE s)=true then [c]
 else if HT.lexLt (mvd (rgS s) (rgE s) c) c then [mvd (rgS s) (rgE s) c,c] else [c,mvd (rgS s) (rgE s) c]
noncomputable def bH (ds:List D) (r:Sl):Prop:=∃ (s:Stp) (c:List Int),ds=[stD s,tpD c]/\c ≠ []/\c.length<=1000/\r=.o ((nxp s c).map tpD)
theorem u7 (a b:Nat) (c:List Int):(List.range (c.map D.int).length).map (λi=>D.int (if c.getD i 0=(a:Int) then (b:Int) else c.getD i 0))=(mvd a b c).map D.int:=by
 refine List.ext_getElem (by simp [mvd]) λi h1 h2=>?_
 have:i < c.length:=by simpa [mvd] using h2
 simp [mvd,this]
section
variable {P:Program} {w:World} {K:PySem.W.Frag} {mg:Str->Option Value} {base:Heap} {k:Nat} {f:Addr} {fd:FuncData} {qual:Str}
theorem l9 (F:Fun K "is_whole" qual (top 7) f fd) (hb:∀ x ∈ ak,mg x=none):aQ P w K mg base CX0 (k + 1) f fd ["thing"] (spD K cb):=by
 refine fnD F lU hb (by rintro _ _ ⟨_,rfl,_⟩; rfl) ?_
 rintro _ _ ⟨x,rfl,rfl⟩ cdv A outer s H E b
 exact aG (gE (cS .int b (aa 0)) λh=>(gH (vq (cS .bool b (aa 0))))) rfl
theorem jk (F:Fun K "is_between" qual (top 8) f fd) (hb:∀ x ∈ ak,mg x=none) (c_is_whole:Cal P w K mg base k "is_whole" cb):aQ P w K mg base CX0 (k + 1) f fd ["thing","least","most"] (spD K bT):=by
 refine fnD F jg hb (by rintro _ _ ⟨_,_,_,rfl,_⟩; rfl) ?_
 rintro _ _ ⟨i,l,m,rfl,rfl⟩ cdv A outer s H E b
 exact aG (gE (x_call b c_is_whole (ae (aa 0) ag) ⟨_,rfl,rfl⟩) λh=>(gH (uR (aa 1) (aa 0) (aa 2) yR yR).1)) rfl
theorem fM (F:Fun K "common_divisor" qual (top 10) f fd) (hb:∀ x ∈ ak,mg x=none):aQ P w K mg base CX0 (k + 1) f fd ["one","other"] (spD K bD):=by
 refine fnD F cx hb (by rintro _ _ ⟨_,_,rfl,_⟩; rfl) ?_
 rintro _ _ ⟨x,y,rfl,rfl⟩ cdv A outer s H E b
 have nd:=cx.nd
 refine ay 2 nd (bR b (ae (aa 0) ag) lh) (ay 3 nd (bR b (ae (aa 1) ag) lh) ?_)
 rw [fo,fo]
 refine oN (λn t τ=>∃ (g:Nat) (s4:Sl),Nat.gcd g n=Int.gcd x y/\t=(!decide ((n:Int)=0))/\τ=[.d (.int x),.d (.int y),.d (.int g),.d (.int n),s4]) b ⟨_,_,_,_,rfl,rfl,rfl⟩ (λn t τ h=>?_) (λn τ h=>?_) λn τ h=>?_
 · obtain ⟨g,s4,_,rfl,rfl⟩:=h
   exact aJ (aa 3) af sW
 · obtain ⟨g,s4,hg,ht,rfl⟩:=h
   have hl:n ≠ 0:=λz=>by simp [z] at ht
   have e:(g:Int).fmod n=((g % n:Nat):Int):=by rw [Int.fmod_eq_emod_of_nonneg _ (by omega)]; rfl
   refine ay 4 nd (aD (aa 2) (aa 3) (bB (by omega))) ?_
   rw [e]
   refine ay 2 nd (aa 3) (ay 3 nd (aa 4) (aN ⟨g % n,_,Nat.mod_lt g (Nat.pos_of_ne_zero hl),n,_,?_,rfl,rfl⟩))
   rw [<- hg,Nat.gcd_comm n,<- Nat.gcd_rec,Nat.gcd_comm]
 · obtain ⟨g,s4,hg,ht,rfl⟩:=h
   have hl:n=0:=by simpa using ht
   refine aG (aa 2) ?_
   rw [<- hg,hl,Nat.gcd_zero_right]
theorem ic (F:Fun K "is_fraction" qual (top 9) f fd) (hb:∀ x ∈ ak,mg x=none) (c_is_whole:Cal P w K mg base k "is_whole" cb) (c_common_divisor:Cal P w K mg base k "common_divisor" bD):aQ P w K mg base CX0 (k + 1) f fd ["thing"] (spD K cC):=by
 refine fnD F jb hb (by rintro _ _ ⟨_,rfl,_⟩; rfl) ?_
 rintro _ _ ⟨x,rfl,rfl⟩ cdv A outer s H E b
 by_cases ht:jr .tuple x=true
 · obtain ⟨xs,rfl⟩:∃ xs,x=.tup xs:=by cases x <;> first | exact ⟨_,rfl⟩ | cases ht
   refine cB (PW.pt (du (bg (a7 (cS .tuple b (aa 0)))) λh=>(dF (aJ (bR b (ae (aa 0) ag) ir) af sW)))) (λh=>?_) λh=>?_
   · refine aG oo ?_
     have h:(!decide ((xs.length:Int)=2))=true:=h
     have:xs.length ≠ 2:=λz=>by rw [z] at h; cases h
     rw [rM this]
   · have h:(!decide ((xs.length:Int)=2))=false:=h
     have h2:xs.length=2:=by simp at h; omega
     obtain ⟨u,v,rfl⟩:∃ u v,xs=[u,v]:=by
       match xs,h2 with
       | [u,v],_=>exact ⟨u,v,rfl⟩
     refine cB (PW.pt (du (bg (a7 (x_call b c_is_whole (ae (aC (aa 0) af (aE (ax (i:=0) rfl))) ag) ⟨_,rfl,rfl⟩))) λh=>(dF (bg (a7 (x_call b c_is_whole (ae (aC (aa 0) af (aE (ax (i:=1) rfl))) ag) ⟨_,rfl,rfl⟩)))))) (λh=>?_) λh=>?_
     · refine aG oo ?_
       have:qz (.tup [u,v])=false:=by cases u <;> cases v <;> first | rfl | cases h
       rw [this]
     · obtain ⟨i,j,rfl,rfl⟩:∃ i j,u=.int i/\v=.int j:=by cases u <;> cases v <;> first | exact ⟨_,_,rfl,rfl⟩ | cases h
       exact aG (gE (dt (aC (aa 0) af (aE (ax (i:=1) rfl))) af uf) λh=>(gH (dt (x_call b c_common_divisor (ae (aC (aa 0) af (aE (ax (i:=0) rfl))) (ae (aC (aa 0) af (aE (ax (i:=1) rfl))) ag)) ⟨_,_,rfl,rfl⟩) af fq))) rfl
 · have e:jr .tuple x=false:=by simpa using ht
   have ef:qz x=false:=by cases x <;> first | rfl | cases e
   refine cB (PW.pt (du (q:=true) (bg (a7 (cS .tuple b (aa 0)))) λh=>(by rw [e] at h; cases h))) (λh=>?_) λh=>?_
   · refine aG oo ?_
     rw [ef]
   · rw [Bool.or_true] at h; cases h
theorem kB (F:Fun K "is_weight" qual (top 20) f fd) (hb:∀ x ∈ ak,mg x=none) (c_is_fraction:Cal P w K mg base k "is_fraction" cC):aQ P w K mg base CX0 (k + 1) f fd ["thing"] (spD K d8):=by
 refine fnD F kR hb (by rintro _ _ ⟨_,rfl,_⟩; rfl) ?_
 rintro _ _ ⟨q,rfl,h0,rfl⟩ cdv A outer s H E b
 refine aG (gE (x_call b c_is_fraction (ae (aa 0) ag) ⟨_,rfl,rfl⟩) λh=>(gH (dt (aC (aa 0) af (aE (ax (i:=0) rfl))) af uf))) ?_
 rw [uv,decide_eq_true h0]
 rfl
theorem mZ (F:Fun K "is_step" qual (top 21) f fd) (hb:∀ x ∈ ak,mg x=none) (c_is_between:Cal P w K mg base k "is_between" bT) (c_is_weight:Cal P w K mg base k "is_weight" d8):aQ P w K mg base CX0 (k + 1) f fd ["thing","tracks"] (spD K fW):=by
 refine fnD F oA hb (by rintro _ _ ⟨_,_,rfl,_⟩; rfl) ?_
 rintro _ _ ⟨T,⟨u,n,q⟩,rfl,⟨h0,h1⟩,rfl⟩ cdv A outer s H E b
 refine bX (PW.pt (du (bg (a7 (cS .tuple b (aa 0)))) λh=>(du (aJ (bR b (ae (aa 0) ag) ir) af sW) λh=>(dF (bg (a7 (x_call b c_is_weight (ae (aC (aa 0) af (aE (ax (i:=2) rfl))) ag) ⟨q,rfl,h0,rfl⟩))))))) rfl ?_
 refine cB (aJ (aC (aa 0) af (aE (ax (i:=0) rfl))) bq gK) (λh=>?_) λh=>?_
 · refine aG (x_call b c_is_between (ae (aC (aa 0) af (aE (ax (i:=1) rfl))) (ae af (ae (aD (aa 1) af iH) ag))) ⟨_,_,_,rfl,rfl⟩) ?_
   have e:=of_decide_eq_true h
   have hn:n < T:=by
     rcases h1 with h1 | h1
     · exact h1.2
     · have:=h1.2; simp only at this; omega
   rw [decide_eq_true (show (0:Int)<=n by omega),decide_eq_true (show (n:Int)<=(T:Int) - 1 by omega)]
   rfl
 · have e:=of_decide_eq_false h
   obtain ⟨e1,e2⟩:(u = "down" \/ u = "up")/\n + 1 < T:=by
     rcases h1 with h1 | h1
     · exact absurd h1.1 e
     · exact h1
   refine aG (gE (dt (aC (aa 0) af (aE (ax (i:=0) rfl))) (dC (ae bq (ae bq ag))) (x9 (us:=["down","up"]))) λh=>(gH (x_call b c_is_between (ae (aC (aa 0) af (aE (ax (i:=1) rfl))) (ae af (ae (aD (aa 1) af iH) ag))) ⟨_,_,_,rfl,rfl⟩))) ?_
   rw [decide_eq_true (show (0:Int)<=n by omega),decide_eq_true (show (n:Int)<=(T:Int) - 2 by omega)]
   have:(([("down" : Str),"up"]:List Str).any λw=>decide (w=u))=true:=by
     clear h e h1 h0
     rcases e1 with rfl | rfl <;> decide +kernel
   show Sl.d (.bl ((([("down" : Str),"up"]:List Str).any λw=>decide (w=u)) && _))=_
   rw [this]
   rfl
theorem j6 (F:Fun K "is_ladder" qual (top 22) f fd) (hb:∀ x ∈ ak,mg x=none) (y_MOST:∃ t,mg "MOST" = some (.int 7 t)) (y_MOST_STEPS:∃ t,mg "MOST_STEPS" = some (.int 400 t)) (c_is_between:Cal P w K mg base k "is_between" bT) (c_is_step:Cal P w K mg base k "is_step" fW):aQ P w K mg base CX0 (k + 1) f fd ["thing"] (spD K dU):=by
 refine fnD F ko hb (by rintro _ _ ⟨_,_,_,_,rfl,_⟩; rfl) ?_
 rintro _ _ ⟨T,R,C,ss,rfl,h,rfl⟩ cdv A outer s H E b
 have ht:decide ((1:Int)<=T)=true/\decide ((T:Int)<=7)=true:=⟨decide_eq_true (by have:=h.t1; omega),decide_eq_true (by have:=h.t7; omega)⟩
 have hr:decide ((1:Int)<=R)=true/\decide ((R:Int)<=T)=true:=⟨decide_eq_true (by have:=h.r1; omega),decide_eq_true (by have:=h.rT; omega)⟩
 have hc:decide ((1:Int)<=C)=true/\decide ((C:Int)<=T)=true:=⟨decide_eq_true (by have:=h.c1; omega),decide_eq_true (by have:=h.cT; omega)⟩
 have hl:(ss.map stD).length=ss.length:=List.length_map ..
 have hlen:=h.len
 refine bX (PW.pt (du (bg (a7 (cS .tuple b (aa 0)))) λh=>(du (aJ (bR b (ae (aa 0) ag) ir) af sW) λh=>(dF (bg (a7 (x_call b c_is_between (ae (aC (aa 0) af (aE (ax (i:=0) rfl))) (ae af (ae (nC y_MOST) ag))) ⟨_,_,_,rfl,rfl⟩))))))) ?_ ?_
 · rw [ht.1,ht.2]; rfl
 refine bX (PW.pt (du (bg (a7 (x_call b c_is_between (ae (aC (aa 0) af (aE (ax (i:=1) rfl))) (ae af (ae (aC (aa 0) af (aE (ax (i:=0) rfl))) ag))) ⟨_,_,_,rfl,rfl⟩))) λh=>(dF (bg (a7 (x_call b c_is_between (ae (aC (aa 0) af (aE (ax (i:=2) rfl))) (ae af (ae (aC (aa 0) af (aE (ax (i:=0) rfl))) ag))) ⟨_,_,_,rfl,rfl⟩)))))) ?_ ?_
 · rw [hr.1,hr.2,hc.1,hc.2]; rfl
 refine bX (PW.pt (du (bg (a7 (cS .list b (aC (aa 0) af (aE (ax (i:=3) rfl)))))) λh=>(dF (aJ (bR b (ae (aC (aa 0) af (aE (ax (i:=3) rfl))) ag) jz) (nC y_MOST_STEPS) kZ)))) ?_ ?_
 · rw [hl,decide_eq_false (show ¬ (400:Int) < ss.length by omega)]; rfl
 refine aG (bR b (ae (aR (gM (cmp 0 (f:=λ_=>.bl true) b (aZ (aC (aa 0) af (aE (ax (i:=3) rfl)))) zw ?_ λi hi s0 H0 fp=>(x_call (b.comp s0 H0 _ fp) c_is_step (ae (aa 0) (ae (aC (aa 1) af (aE (ax (i:=0) rfl))) ag)) ⟨T,_,rfl,h.st i (by omega),rfl⟩)))) ag) (pD b.calm ((List.range (ss.map stD).length).map λ_=>true) (by rw [List.map_map]; rfl))) ?_
 · omega
 · have:((List.range (ss.map stD).length).map λ_=>true).all id=true:=by rw [List.all_map,List.all_eq_true]; intro _ _; rfl
   rw [this]
theorem i6 (F:Fun K "look_ladder" qual (top 23) f fd) (hb:∀ x ∈ ak,mg x=none) (c_is_ladder:Cal P w K mg base k "is_ladder" dU):aQ P w K mg base CX0 (k + 1) f fd ["thing"] (spD K cE):=by
 refine fnD F iI hb (by rintro _ _ ⟨_,_,_,_,rfl,_⟩; rfl) ?_
 rintro _ _ ⟨T,R,C,ss,rfl,h,rfl⟩ cdv A outer s H E b
 exact bX (bg (a7 (x_call b c_is_ladder (ae (aa 0) ag) ⟨T,R,C,ss,rfl,h,rfl⟩))) rfl (aN rfl)
theorem jf (F:Fun K "rung_start" qual (top 24) f fd) (hb:∀ x ∈ ak,mg x=none):aQ P w K mg base CX0 (k + 1) f fd ["step"] (spD K cY):=by
 refine fnD F jn hb (by rintro _ _ ⟨_,rfl,_⟩; rfl) ?_
 rintro _ _ ⟨⟨u,n,q⟩,rfl,rfl⟩ cdv A outer s H E b
 refine aG (s:=.d (.int (rgS (u,n,q):Nat))) (jV (aJ (aC (aa 0) af (aE (ax (i:=0) rfl))) bq gK) (λh=>?_) λh=>?_) rfl
 · rw [show rgS (u,n,q)=n from if_pos (of_decide_eq_true h)]
   exact aC (aa 0) af (aE (ax (i:=1) rfl))
 · rw [show rgS (u,n,q)=n + 1 from if_neg (of_decide_eq_false h)]
   exact aD (aC (aa 0) af (aE (ax (i:=1) rfl))) af aW
theorem mm (F:Fun K "rung_end" qual (top 25) f fd) (hb:∀ x ∈ ak,mg x=none):aQ P w K mg base CX0 (k + 1) f fd ["step"] (spD K eU):=by
 refine fnD F mO hb (by rintro _ _ ⟨_,rfl,_⟩; rfl) ?_
 rintro _ _ ⟨⟨u,n,q⟩,rfl,rfl⟩ cdv A outer s H E b
 refine aG (s:=.d (.int (rgE (u,n,q):Nat))) (jV (aJ (aC (aa 0) af (aE (ax (i:=0) rfl))) bq gK) (λh=>?_) λh=>?_) rfl
 · rw [show rgE (u,n,q)=n + 1 from if_pos (of_decide_eq_true h)]
   exact aD (aC (aa 0) af (aE (ax (i:=1) rfl))) af aW
 · rw [show rgE (u,n,q)=n from if_neg (of_decide_eq_false h)]
   exact aC (aa 0) af (aE (ax (i:=1) rfl))
theorem iW (F:Fun K "next_places" qual (top 26) f fd) (hb:∀ x ∈ ak,mg x=none) (c_rung_start:Cal P w K mg base k "rung_start" cY) (c_rung_end:Cal P w K mg base k "rung_end" eU):aQ P w K mg base CX0 (k + 1) f fd ["step","places"] (spD K bH):=by
 refine fnD F dX hb (by rintro _ _ ⟨_,_,rfl,_⟩; rfl) ?_
 rintro _ _ ⟨⟨u,n,q⟩,c,rfl,h0,hl,rfl⟩ cdv A outer s H E b
 have nd:=dX.nd
 have st0:∀ {C:Bool} {τ:List Sl} {p1 p2:Pos} {i j},τ[0]?=some (.d (stD (u,n,q)))->PE (Xc P w K mg base ["step","places","stopped","start","end"] qual (top 26) f cdv A outer s H E) (.Subscript (.Name "step" p1) (.Constant (.int 0) i j) p2) (dE K C τ (.d (.str u))):=λh=>aC (aa 0 h) af (aE (ax (i:=0) rfl))
 have st1:∀ {C:Bool} {τ:List Sl} {p1 p2:Pos} {i j},τ[0]?=some (.d (stD (u,n,q)))->PE (Xc P w K mg base ["step","places","stopped","start","end"] qual (top 26) f cdv A outer s H E) (.Subscript (.Name "step" p1) (.Constant (.int 1) i j) p2) (dE K C τ (.d (.int (n:Nat)))):=λh=>aC (aa 0 h) af (aE (ax (i:=1) rfl))
 refine ay 2 nd (dt (aC (aC (aa 0) af (aE (ax (i:=2) rfl))) af (aE (ax (i:=0) rfl))) af fq) ?_
 refine cB (aJ (st0 rfl) bq gK) (λhw=>?_) λhw=>?_
 · have hw:u = "weigh":=of_decide_eq_true hw
   refine aG (s:=.o ((nxp (u,n,q) c).map tpD)) (jV (PW.pt (gC (a7 (aa 2)) λh=>(i7 (aJ (st1 rfl) (aa 1) vf)))) (λh=>?_) λh=>?_) rfl
   · rw [Bool.and_eq_true] at h
     have:nxp (u,n,q) c=[]:=by
       unfold nxp
       rw [if_pos hw,if_pos ⟨of_decide_eq_true h.1,h.2⟩]
     rw [this]
     exact aL ag
   · have:nxp (u,n,q) c=[c]:=by
       unfold nxp
       rw [if_pos hw,if_neg]
       rintro ⟨z1,z2⟩
       rw [decide_eq_true z1] at h
       rw [show (c.any λw=>decide (w=((n:Nat):Int)))=true from z2] at h
       cases h
     rw [this]
     exact aL (ae (aa 1) ag)
 · have hw:¬ u = "weigh":=of_decide_eq_false hw
   refine ay 3 nd (x_call b c_rung_start (ae (aa 0) ag) ⟨_,rfl,rfl⟩) ?_
   refine ay 4 nd (x_call b c_rung_end (ae (aa 0) ag) ⟨_,rfl,rfl⟩) ?_
   refine cB (PW.pt (du (a7 (aa 2)) λh=>(du (aJ (aa 3) (aa 1) xi) λh=>(dF (aJ (aa 4) (aa 1) vf))))) (λh=>?_) λh=>?_
   · have:nxp (u,n,q) c=[c]:=by
       unfold nxp
       rw [if_neg hw,if_pos]
       rw [Bool.or_eq_true,Bool.or_eq_true] at h
       rcases h with h | h | h
       · exact .inl (of_decide_eq_true h)
       · exact .inr (.inl (by simpa [has] using h))
       · exact .inr (.inr h)
     exact aG (aL (ae (aa 1) ag)) (by rw [this]; rfl)
   · have e:nxp (u,n,q) c=if HT.lexLt (mvd (rgS (u,n,q)) (rgE (u,n,q)) c) c then [mvd (rgS (u,n,q)) (rgE (u,n,q)) c,c] else [c,mvd (rgS (u,n,q)) (rgE (u,n,q)) c]:=by
       rw [Bool.or_eq_false_iff,Bool.or_eq_false_iff] at h
       obtain ⟨h1,h2,h3⟩:=h
       unfold nxp
       rw [if_neg hw,if_neg]
       rintro (z | z | z)
       · exact of_decide_eq_false h1 z
       · rw [show (c.any λw=>decide (w=((rgS (u,n,q):Nat):Int)))=false from z] at h2
         cases h2
       · rw [show (c.any λw=>decide (w=((rgE (u,n,q):Nat):Int)))=true from z] at h3
         cases h3
     refine aG (bR b (ae (aR (aL (ae (aa 1) (ae (mL b (ae (aR (gM (cmp 0 (f:=λi=>.int (if c.getD i 0=((rgS (u,n,q):Nat):Int) then ((rgE (u,n,q):Nat):Int) else c.getD i 0)) b (xS (aa 1)) mB (by rw [List.length_map]; omega) λi hi s0 H0 fp=>(jV (aJ (aa 0) (aa 2) fq) (λh=>?_) λh=>?_)))) ag) m9) ag)))) ag) (by rw [u7]; exact vW h0 (λz=>h0 (List.map_eq_nil_iff.mp z)))) ?_
     · rw [if_pos (of_decide_eq_true h)]; exact aa 1
     · rw [if_neg (of_decide_eq_false h)]; exact aa 0
     · rw [e]
       split <;> rfl
end
noncomputable def cv (zs:List (List Int × Int)) (k:List Int):Option Int:=(zs.find? λx=>decide (x.1=k)).map (·.2)
noncomputable def j4 (zs:List (List Int × Int)) (k:List Int) (v:Int):List (List Int × Int):=if (cv zs k).isSome then zs.map λy=>if y.1=k then (y.1,v) else y else zs++[(k,v)]
noncomputable def nZ (zs:List (List Int × Int)) (k:List Int):Int:=(cv zs k).getD 0
noncomputable def zE (zs:List (List Int × Int)):List (List Int × D):=zs.map λx=>(x.1,.int x.2)
theorem g8 (zs:List (List Int × Int)) (k:List Int):getM (zE zs) k=(cv zs k).map .int:=by
 unfold getM cv zE
 induction zs with
 | nil=>rfl
 | cons x zs ih=>
   rw [List.map_cons,List.find?_cons,List.find?_cons]
   by_cases h:x.1=k
   · simp [h]
   · simpa [h] using ih
theorem ud (zs:List (List Int × Int)) (k:List Int) (v:Int):qm (zE zs) k (.int v)=zE (j4 zs k v):=by
 unfold qm j4
 rw [g8,Option.isSome_map]
 split
 · unfold zE
   rw [List.map_map,List.map_map]
   refine List.map_congr_left λx _=>?_
   simp only [Function.comp]
   split <;> rfl
 · unfold zE
   rw [List.map_append]
   rfl
theorem oG (zs:List (List Int × Int)) (k:List Int):(getM (zE zs) k).getD (.int 0)=.int (nZ zs k):=by
 rw [g8]
 unfold nZ
 cases cv zs k <;> rfl
theorem hdI:(Ev.bN Ev.dr).dep<=7:=by show 1<=7; decide
noncomputable def dW (P:Program) (w:World) (zs:List (List Int × Int)):D:=bxD (Ev.bN Ev.dr) hdI P w (zE zs)
theorem ja {K:PySem.W.Frag} (c:List Int):∀ (H:Hp) (v:V),Den K H v ((Ev.bN Ev.dr).toD c)->∃ b,v=.ref b:=λH v d=>by
 have d:Den K H v (.tup (c.map D.int)):=d
 cases d with
 | tup h r=>exact ⟨_,rfl⟩
noncomputable def cN (s:Stp) (prev:List (List Int × Int)) (p:List Int):Int:=((nxp s p).map (nZ prev)).sum
noncomputable def cI (s:Stp) (prev:List (List Int × Int)) (ps:List (List Int)):List (List Int × Int):=ps.foldl (λm p=>if 0 < cN s prev p then j4 m p (cN s prev p) else m) []
noncomputable def cm (T:Nat) (e:List Int):List Stp->List (List Int × Int)
 | []=>[(e,1)]
 | s :: ss=>cI s (cm T e ss) (chs T e.length)
theorem tX (zs:List (List Int × Int)) (k q:List Int) (v:Int):cv (j4 zs k v) q=if q=k then some v else cv zs q:=by
 unfold j4
 split
 · rename_i h
   unfold cv at h ⊢
   induction zs with
   | nil=>simp at h
   | cons x zs ih=>
     rw [List.map_cons,List.find?_cons,List.find?_cons]
     rw [List.find?_cons] at h
     by_cases hx:x.1=k
     · by_cases hq:q=k
       · subst hq; simp [hx]
       · have:¬ k=q:=λz=>hq z.symm
         simp only [hx,if_true,this,decide_false,hq,if_false]
         by_cases hk:(zs.find? λx=>decide (x.1=k)).isSome
         · have:=ih (by simpa using hk)
           simp only [hq,if_false] at this
           exact this
         · have hn:∀ y ∈ zs,¬ y.1=k:=λy hy e=>hk (by rw [List.find?_isSome]; exact ⟨y,hy,by simp [e]⟩)
           have:zs.map (λy=>if y.1=k then (y.1,v) else y)=zs:=by
             conv=>rhs; rw [<- List.map_id zs]
             exact List.map_congr_left λy hy=>by rw [if_neg (hn y hy)]; rfl
           rw [this]
     · simp only [hx,decide_false] at h
       simp only [hx,if_false]
       by_cases hq:x.1=q
       · have:¬ q=k:=λz=>hx (hq.trans z)
         simp [hq,this]
       · simp only [hq,decide_false]
         exact ih h
 · rename_i h
   have hn:cv zs k=none:=by simpa using h
   unfold cv at hn ⊢
   rw [List.find?_append]
   by_cases hq:q=k
   · subst hq
     rw [Option.map_eq_none_iff] at hn
     simp [hn]
   · have:¬ k=q:=λz=>hq z.symm
     simp [this,hq]
theorem eS (s:Stp) (prev:List (List Int × Int)) (ps:List (List Int)) (p:List Int):cI s prev (ps++[p])=if 0 < cN s prev p then j4 (cI s prev ps) p (cN s prev p) else cI s prev ps:=by
 unfold cI
 rw [List.foldl_append]
 rfl
theorem rV (zs:List (List Int × Int)) (k:List Int) (v:Int):(j4 zs k v).length<=zs.length + 1:=by
 unfold j4
 split <;> simp
theorem qd (s:Stp) (prev:List (List Int × Int)) (ps:List (List Int)) (p:List Int) (m:Nat) (h:(cI s prev ps).length<=m):(cI s prev (ps++[p])).length<=m + 1:=by
 rw [eS]
 split
 · exact Nat.le_trans (rV _ _ _) (by omega)
 · omega
theorem e8 (s:Stp) (prev:List (List Int × Int)) (ps:List (List Int)):∀ l,(cI s prev (ps.take l)).length<=l
 | 0=>by simp [cI]
 | l + 1=>by
   by_cases h:l < ps.length
   · rw [take_snoc [] h]
     exact qd s prev _ _ l (e8 s prev ps l)
   · rw [List.take_of_length_le (by omega),<- List.take_of_length_le (i:=l) (l:=ps) (by omega)]
     have:=e8 s prev ps l
     omega
noncomputable def gu (P:Program) (w:World) (T:Nat) (e:List Int) (ss:List Stp) (i:Nat):List D:=(List.range (i + 1)).map λj=>dW P w (cm T e (ss.drop (ss.length - j)))
noncomputable def bZ (P:Program) (w:World) (ds:List D) (r:Sl):Prop:=∃ (T R C:Nat) (ss:List Stp) (e:List Int),ds=[bA T R C ss,tpD e]/\okL T R C ss/\e ≠ []/\e.length<=7/\r=.o ((List.range (ss.length + 1)).map λk=>dW P w (cm T e (ss.drop k)))
theorem t5 (P:Program) (w:World) (T:Nat) (e:List Int) (ss:List Stp) (i:Nat):atI (gu P w T e ss i) (-1)=some (dW P w (cm T e (ss.drop (ss.length - i)))):=by
 unfold atI ixN gu
 rw [if_neg (by decide),if_pos (by rw [List.length_map,List.length_range]; omega),List.length_map,List.length_range]
 simp only [Option.bind_some]
 rw [show (-1 + ((i + 1:Nat):Int)).toNat=i by omega]
 simp
theorem uE (P:Program) (w:World) (T:Nat) (e:List Int) (ss:List Stp):(gu P w T e ss ss.length).reverse=(List.range (ss.length + 1)).map λk=>dW P w (cm T e (ss.drop k)):=by
 unfold gu
 refine List.ext_getElem (by simp) λi h1 h2=>?_
 rw [List.getElem_reverse]
 have hi:i < ss.length + 1:=by simpa using h2
 simp only [List.getElem_map,List.getElem_range,List.length_map,List.length_range]
 rw [show ss.length - (ss.length + 1 - 1 - i)=i by omega]
theorem va {ss:List Stp} (i:Nat) (h:i < (ss.map stD).reverse.length):(ss.map stD).reverse[i]=stD (ss.getD (ss.length - 1 - i) ("weigh",0,0)):=by
 have:i < ss.length:=by simpa using h
 rw [List.getElem_reverse]
 simp only [List.getElem_map,List.length_map]
 simp [(by omega:ss.length - 1 - i < ss.length)]
theorem kr (s:Stp) (c:List Int):(nxp s c).length<=2:=by
 unfold nxp
 split
 · split <;> simp
 · split
   · simp
   · split <;> simp
section
variable {P:Program} {w:World} {K:PySem.W.Frag} {mg:Str->Option Value} {base:Heap} {k:Nat} {f:Addr} {fd:FuncData} {qual:Str}
theorem gQ (F:Fun K "counts_ahead" qual (top 27) f fd) (hb:∀ x ∈ ak,mg x=none) (c_choices_of:Cal P w K mg base k "choices_of" cX) (c_next_places:Cal P w K mg base k "next_places" bH):aQ P w K mg base CX0 (k + 1) f fd ["ladder","ends"] (spD K (bZ P w)):=by
 refine fnD F dq hb (by rintro _ _ ⟨_,_,_,_,_,rfl,_⟩; rfl) ?_
 rintro _ _ ⟨T,R,C,ss,e,rfl,ok,e0,e7,rfl⟩ cdv A outer s H E b
 have nd:=dq.nd
 have t7:=ok.t7
 have h400:=ok.len
 have hu:(Xc P w K mg base ["ladder","ends","counts","all_places","step","behind","ahead","places","many"] qual (top 27) f cdv A outer s H E).A.units + 16 < cLine:=Nat.lt_of_le_of_lt (Nat.add_le_add_left (by decide:16<=64) _) b.room.units
 have el:1<=e.length:=List.length_pos_iff.mpr e0
 have lp:=kQ t7 e.length
 have lp7:7 ^ e.length<=7 ^ 7:=Nat.pow_le_pow_right (by decide) e7
 refine ay 2 nd (aL (ae (yt (a:=Ev.bN Ev.dr) (hd:=hdI) (m:=zE [(e,1)]) (wQ (key:=e) hu (aa 1) af (ja e))) ag)) ?_
 refine ay 3 nd (x_call b c_choices_of (ae (aC (aa 0) af (aE (ax (i:=0) rfl))) (ae (bR b (ae (aa 1) ag) ir) ag)) ⟨T,e.length,by rw [List.length_map],t7,e7,rfl⟩) ?_
 refine bY 4 (g:=λi=>stD (ss.getD (ss.length - 1 - i) ("weigh",0,0))) (λi τ=>∃ s4 s5 s6 s7 s8,τ=[.d (bA T R C ss),.d (tpD e),.o (gu P w T e ss i),.d (oj (chs T e.length)),s4,s5,s6,s7,s8]) b nd (yU b (aC (aa 0) af (aE (ax (i:=3) rfl)))) va ⟨.un,.un,.un,.un,.un,?_⟩ (λi hi τ h=>?_) λτ h=>?_
 · have:gu P w T e ss 0=[dW P w [(e,1)]]:=by
     unfold gu
     rw [List.range_one,List.map_singleton,Nat.sub_zero,List.drop_length]
     rfl
   rw [this]
   rfl
 · obtain ⟨s4,s5,s6,s7,s8,rfl⟩:=h
   have hi:i < ss.length:=by simpa using hi
   have ed:ss.drop (ss.length - (i + 1))=ss.getD (ss.length - 1 - i) ("weigh",0,0) :: ss.drop (ss.length - i):=by
     rw [List.drop_eq_getElem_cons (by omega)]
     congr 1
     · simp [(by omega:ss.length - 1 - i < ss.length),show ss.length - (i + 1)=ss.length - 1 - i by omega]
     · congr 1; omega
   generalize hsg:ss.getD (ss.length - 1 - i) ("weigh",0,0)=sg at ed
   generalize hpv:cm T e (ss.drop (ss.length - i))=prev
   refine ay 5 nd (x6 2 (jC af) (t5 P w T e ss i)) ?_
   rw [hpv]
   refine ay 6 nd (vO (a:=Ev.bN Ev.dr) (hd:=hdI)) ?_
   refine bY 7 (g:=λl=>tpD ((chs T e.length).getD l [])) (λl τ=>∃ s7 s8,τ=[.d (bA T R C ss),.d (tpD e),.o (gu P w T e ss i),.d (oj (chs T e.length)),.d (stD sg),.d (dW P w prev),.x (exK (Ev.bN Ev.dr) hdI P w (zE (cI sg prev ((chs T e.length).take l)))),s7,s8]) b nd (aZ (aa 3)) rB ⟨s7,s8,rfl⟩ (λl hl τ h=>?_) λτ h=>?_
   · obtain ⟨s7,s8,rfl⟩:=h
     have hl:l < (chs T e.length).length:=by simpa using hl
     have okc:=gn T e.length _ (cW (d:=[]) hl)
     have cne:(chs T e.length).getD l [] ≠ []:=λz=>by have:=okc.len; rw [z] at this; simp at this; omega
     generalize hp:(chs T e.length).getD l []=p at okc cne ⊢
     refine ay 8 nd (bR b (ae (aR (gM (cmp 0 (g:=λj=>tpD ((nxp sg p).getD j [])) (f:=λj=>.int (nZ prev ((nxp sg p).getD j []))) b (aZ (aR (x_call b c_next_places (ae (aa 4) (ae (aa 7) ag)) ⟨sg,p,rfl,cne,by rw [okc.len]; omega,rfl⟩))) rB ?_ λj hj s0 H0 fp=>?_))) ag) (xJ b.calm ((nxp sg p).map (nZ prev)) ?_)) ?_
     · rw [List.length_map]; have:=kr sg p; omega
     · rw [<- oG]
       exact oO (a:=Ev.bN Ev.dr) (hd:=hdI) (m:=zE prev) (key:=(nxp sg p).getD j []) (Nat.lt_of_le_of_lt (Nat.add_le_add_left (by decide:16<=64) _) (b.comp s0 H0 _ fp).room.units) (aa 1) (aa 0) af (ja _)
     · rw [List.length_map]
       refine List.ext_getElem (by simp) λj h1 h2=>?_
       have:j < (nxp sg p).length:=by simpa using h1
       simp [this]
     rw [show ((nxp sg p).map (nZ prev)).sum=cN sg prev p from rfl]
     have tk:(chs T e.length).take (l + 1)=(chs T e.length).take l++[p]:=by rw [take_snoc [] hl,hp]
     refine kG (M:=λτ=>τ=[.d (bA T R C ss),.d (tpD e),.o (gu P w T e ss i),.d (oj (chs T e.length)),.d (stD sg),.d (dW P w prev),.x (exK (Ev.bN Ev.dr) hdI P w (zE (cI sg prev ((chs T e.length).take (l + 1))))),.d (tpD p),.d (.int (cN sg prev p))]) (aJ (aa 8) af kZ) (λh=>?_) (λh=>?_) λτ h=>aN ⟨_,_,h⟩
     · have h:0 < cN sg prev p:=of_decide_eq_true h
       refine xf 6 (a:=Ev.bN Ev.dr) (hd:=hdI) (key:=p) (x:=.int (cN sg prev p)) hu rfl (aa 7) (aa 8) ?_ (ja p) (aN ?_)
       · unfold zE
         rw [List.length_map]
         have:=e8 sg prev (chs T e.length) l
         have lim:1000000<=sizeLine:=by decide
         omega
       · rw [ud,tk,eS,if_pos h]
         rfl
     · have h:¬ 0 < cN sg prev p:=of_decide_eq_false h
       refine aN ?_
       rw [tk,eS,if_neg h]
       rfl
   · obtain ⟨s7,s8,rfl⟩:=h
     refine yO 6 (a:=Ev.bN Ev.dr) (hd:=hdI) ?_
     refine jO 2 (aa 6) ?_ (aN ⟨.d (stD sg),.d (dW P w prev),.d (dW P w (cm T e (ss.drop (ss.length - (i + 1))))),s7,s8,?_⟩)
     · unfold gu; rw [List.length_map,List.length_range]; omega
     · have e1:cm T e (ss.drop (ss.length - (i + 1)))=cI sg prev (chs T e.length):=by rw [ed,cm,hpv]
       have e2:gu P w T e ss (i + 1)=gu P w T e ss i++[dW P w (cm T e (ss.drop (ss.length - (i + 1))))]:=by
         unfold gu
         rw [List.range_succ,List.map_append]
         rfl
       rw [e2,e1,List.length_map,List.take_of_length_le (Nat.le_refl _)]
       rfl
 · obtain ⟨s4,s5,s6,s7,s8,rfl⟩:=h
   refine xv 2 (kf 2 ?_)
   rw [List.length_reverse,List.length_map,uE]
end
structure ChO (m:Int) (ns:List Int):Prop where
 ne:ns ≠ []
 up:∀ i,i + 1 < ns.length->ns.getD i 0 < ns.getD (i + 1) 0
 lo:0<=ns.getD 0 0
 hi:bL ns < m
 len:ns.length<=1000
noncomputable def ee (ds:List D) (r:Sl):Prop:=∃ ns:List Int,ds=[.lst (ns.map .int)]/\(∀ i,i + 1 < ns.length->ns.getD i 0 < ns.getD (i + 1) 0)/\ns.length<=1000/\r=.d (.bl true)
theorem tZ (n:Nat) (f:Nat->Bool) (h:∀ i,i < n->f i=true):((List.range n).map f).all id=true:=by
 rw [List.all_map,List.all_eq_true]
 intro i hi
 exact h i (List.mem_range.mp hi)
noncomputable def dM (ds:List D) (r:Sl):Prop:=∃ (ns:List Int) (m:Int),ds=[.lst (ns.map .int),.int m]/\ChO m ns/\r=.d (.bl true)
noncomputable def b7 (ds:List D) (r:Sl):Prop:=∃ (ns ms:List Int) (m n:Int),ds=[.lst (ns.map .int),.lst (ms.map .int),.int m,.int n]/\ChO m ns/\ChO n ms/\r=.d .non
noncomputable def dH (ds:List D) (r:Sl):Prop:=∃ (T R C:Nat) (ss:List Stp) (ns ms:List Int),ds=[bA T R C ss,.lst (ns.map .int),.lst (ms.map .int)]/\okL T R C ss/\ChO R ns/\ChO C ms/\ns.length=ms.length/\r=.d .non
section
variable {P:Program} {w:World} {K:PySem.W.Frag} {mg:Str->Option Value} {base:Heap} {k:Nat} {f:Addr} {fd:FuncData} {qual:Str}
theorem kz (F:Fun K "is_rising" qual (top 14) f fd) (hb:∀ x ∈ ak,mg x=none):aQ P w K mg base CX0 (k + 1) f fd ["numbers"] (spD K ee):=by
 refine fnD F kY hb (by rintro _ _ ⟨_,rfl,_⟩; rfl) ?_
 rintro _ _ ⟨ns,rfl,up,hl,rfl⟩ cdv A outer s H E b
 have el:(((ns.map D.int).length:Int) - 1).toNat=ns.length - 1:=by rw [List.length_map]; omega
 refine aG (bR b (ae (aR (gM (cmp 0 (g:=λi=>.int (1 + (i:Nat))) (f:=λi=>.bl (decide (ns.getD i 0 < ns.getD (i + 1) 0))) b (rD b af (bR b (ae (aa 0) ag) jz) (by rw [List.length_map]; omega)) (λi h=>gU 1 _ i h) (by rw [aK]; omega) λi hi s0 H0 fp=>?_))) ag) (pD b.calm ((List.range (ns.length - 1)).map λi=>decide (ns.getD i 0 < ns.getD (i + 1) 0)) (by rw [aK,el,List.map_map]; rfl))) ?_
 · have hi:i < ns.length - 1:=by rw [aK,el] at hi; exact hi
   have k0:atI (ns.map D.int) (1 + (i:Int) - 1)=some (.int (ns.getD i 0)):=by
     have e:(1 + (i:Int) - 1).toNat=i:=by omega
     have:=aV (ns:=ns) (i:=1 + (i:Int) - 1) (by omega) (by omega)
     rw [e] at this
     exact this
   have k1:atI (ns.map D.int) (1 + (i:Int))=some (.int (ns.getD (i + 1) 0)):=by
     have e:(1 + (i:Int)).toNat=i + 1:=by omega
     have:=aV (ns:=ns) (i:=1 + (i:Int)) (by omega) (by omega)
     rw [e] at this
     exact this
   exact dt (aC (aa 1) (aD (aa 0) af iH) (aS k0)) (aC (aa 1) (aa 0) (aS k1)) xy
 · rw [tZ (ns.length - 1) (λi=>decide (ns.getD i 0 < ns.getD (i + 1) 0)) λi hi=>decide_eq_true (up i (by omega))]
theorem ke (F:Fun K "is_choice" qual (top 13) f fd) (hb:∀ x ∈ ak,mg x=none) (c_is_rising:Cal P w K mg base k "is_rising" ee) (c_is_whole:Cal P w K mg base k "is_whole" cb):aQ P w K mg base CX0 (k + 1) f fd ["thing","many"] (spD K dM):=by
 refine fnD F kq hb (by rintro _ _ ⟨_,_,rfl,_⟩; rfl) ?_
 rintro _ _ ⟨ns,m,rfl,h,rfl⟩ cdv A outer s H E b
 have hl:=h.len
 have l0:0 < ns.length:=List.length_pos_iff.mpr h.ne
 refine bX (PW.pt (du (bg (a7 (x_call b c_is_whole (ae (aa 1) ag) ⟨_,rfl,rfl⟩))) λh=>(du (bg (a7 (cS .list b (aa 0)))) λh=>(dF (aJ (bR b (ae (aa 0) ag) jz) af fq))))) ?_ ?_
 · rw [decide_eq_false (by rw [List.length_map]; omega)]; rfl
 refine bX (bg (a7 (bR b (ae (aR (gM (cmp 0 (f:=λl=>.bl true) b (aZ (aa 0)) mB (by rw [List.length_map]; omega) λl hl s0 H0 fp=>(x_call (b.comp s0 H0 _ fp) c_is_whole (ae (aa 0) ag) ⟨_,rfl,rfl⟩)))) ag) (pD b.calm ((List.range ns.length).map λ_=>true) (by rw [List.length_map,List.map_map]; rfl))))) ?_ ?_
 · rw [tZ ns.length (λ_=>true) λ_ _=>rfl]; rfl
 refine aG (gE (x_call b c_is_rising (ae (aa 0) ag) ⟨ns,rfl,h.up,hl,rfl⟩) λ_=>(gE (dt (aC (aa 0) af (aS (aV (ns:=ns) (i:=0) (by decide) l0))) af uf) λ_=>(gH (dt (aC (aa 0) (jC af) (aS (gX h.ne))) (aa 1) xy)))) ?_
 rw [decide_eq_true (show ns.getD (0:Int).toNat 0 ≥ 0 from h.lo),decide_eq_true h.hi]
 rfl
theorem gN (F:Fun K "look_choices" qual (top 15) f fd) (hb:∀ x ∈ ak,mg x=none) (c_is_choice:Cal P w K mg base k "is_choice" dM):aQ P w K mg base CX0 (k + 1) f fd ["rows","columns","many_rows","many_columns"] (spD K b7):=by
 refine fnD F gO hb (by rintro _ _ ⟨_,_,_,_,rfl,_⟩; rfl) ?_
 rintro _ _ ⟨ns,ms,m,n,rfl,h1,h2,rfl⟩ cdv A outer s H E b
 refine bX (bg (a7 (x_call b c_is_choice (ae (aa 0) (ae (aa 2) ag)) ⟨ns,m,rfl,h1,rfl⟩))) rfl ?_
 exact bX (bg (a7 (x_call b c_is_choice (ae (aa 1) (ae (aa 3) ag)) ⟨ms,n,rfl,h2,rfl⟩))) rfl (aN rfl)
theorem k5 (F:Fun K "look_ends" qual (top 32) f fd) (hb:∀ x ∈ ak,mg x=none) (c_look_ladder:Cal P w K mg base k "look_ladder" cE) (c_look_choices:Cal P w K mg base k "look_choices" b7):aQ P w K mg base CX0 (k + 1) f fd ["ladder","rows","columns"] (spD K dH):=by
 refine fnD F kE hb (by rintro _ _ ⟨_,_,_,_,_,_,rfl,_⟩; rfl) ?_
 rintro _ _ ⟨T,R,C,ss,ns,ms,rfl,ok,h1,h2,hl,rfl⟩ cdv A outer s H E b
 refine nY (x_call b c_look_ladder (ae (aa 0) ag) ⟨T,R,C,ss,rfl,ok,rfl⟩) ?_
 refine nY (x_call b c_look_choices (ae (aa 1) (ae (aa 2) (ae (aC (aa 0) af (aE (ax (i:=1) rfl))) (ae (aC (aa 0) af (aE (ax (i:=2) rfl))) ag)))) ⟨ns,ms,R,C,rfl,h1,h2,rfl⟩) ?_
 refine bX (aJ (bR b (ae (aa 1) ag) jz) (bR b (ae (aa 2) ag) jz) sW) ?_ (aN rfl)
 rw [List.length_map,List.length_map,hl,decide_eq_true rfl]; rfl
end
noncomputable def trD (t:List (List Int)):D:=.lst (t.map tpD)
noncomputable def a6 (t:List (List Int)):List Int:=t.getD (t.length - 1) []
noncomputable def alv (zs:List (List Int × Int)) (q:List Int):Bool:=(cv zs q).isSome
noncomputable def onT (s:Stp) (zs:List (List Int × Int)) (t:List (List Int)):List (List (List Int)):=((nxp s (a6 t)).filter (alv zs)).map λq=>t++[q]
noncomputable def lgT (s:Stp) (zs:List (List Int × Int)) (fs:List (List (List Int))):List (List (List Int)):=fs.flatMap (onT s zs)
theorem uB (s:Stp) (zs:List (List Int × Int)) (t:List (List Int)):(onT s zs t).length<=2:=by
 unfold onT
 rw [List.length_map]
 exact Nat.le_trans (List.length_filter_le _ _) (kr s (a6 t))
theorem tS {t:List (List Int)} (h:t ≠ []):atI (t.map tpD) (-1)=some (tpD (a6 t)):=by
 have hl:0 < t.length:=List.length_pos_iff.mpr h
 unfold atI ixN a6
 rw [if_neg (by decide),if_pos (by rw [List.length_map]; omega),List.length_map]
 simp only [Option.bind_some]
 have e:(-1 + (t.length:Int)).toNat=t.length - 1:=by omega
 rw [e]
 simp [(by omega:t.length - 1 < t.length)]
structure TrO (m:Nat) (t:List (List Int)):Prop where
 ne:t ≠ []
 ln:a6 t ≠ []
 l7:(a6 t).length<=1000
 len:t.length<=m
noncomputable def bO (P:Program) (w:World) (ds:List D) (r:Sl):Prop:=∃ (fs:List (List (List Int))) (s:Stp) (zs:List (List Int × Int)),ds=[.lst (fs.map trD),stD s,dW P w zs]/\fs.length<=3000/\(∀ t ∈ fs,TrO 1000 t)/\r=.o ((lgT s zs fs).map trD)
theorem zF {fs:List (List (List Int))} (i:Nat) (h:i < (fs.map trD).length):(fs.map trD)[i]=trD (fs.getD i []):=by
 have:i < fs.length:=by simpa using h
 simp [this]
theorem lT (s:Stp) (prev:List (List Int × Int)) (q:List Int):∀ (ps:List (List Int)) (m:List (List Int × Int)),cv (ps.foldl (λm p=>if 0 < cN s prev p then j4 m p (cN s prev p) else m) m) q=if q ∈ ps/\0 < cN s prev q then some (cN s prev q) else cv m q
 | [],m=>by simp
 | p :: ps,m=>by
   rw [List.foldl_cons,lT s prev q ps]
   by_cases h1:q ∈ ps/\0 < cN s prev q
   · rw [if_pos h1,if_pos ⟨List.mem_cons_of_mem _ h1.1,h1.2⟩]
   · rw [if_neg h1]
     by_cases hp:0 < cN s prev p
     · rw [if_pos hp,tX]
       by_cases e:q=p
       · subst e
         rw [if_pos rfl,if_pos ⟨List.mem_cons_self ..,hp⟩]
       · rw [if_neg e,if_neg]
         rintro ⟨z1,z2⟩
         exact h1 ⟨(List.mem_cons.mp z1).resolve_left e,z2⟩
     · rw [if_neg hp,if_neg]
       rintro ⟨z1,z2⟩
       rcases List.mem_cons.mp z1 with rfl | z1
       · exact hp z2
       · exact h1 ⟨z1,z2⟩
theorem step_get (s:Stp) (prev:List (List Int × Int)) (ps:List (List Int)) (q:List Int):cv (cI s prev ps) q=if q ∈ ps/\0 < cN s prev q then some (cN s prev q) else none:=lT s prev q ps []
theorem sQ (T:Nat) (e:List Int):∀ (ss:List Stp) (q:List Int) (v:Int),cv (cm T e ss) q=some v->1<=v
 | [],q,v,h=>by
   rw [cm,cv,List.find?_cons] at h
   split at h
   · cases h; exact Int.le_refl _
   · simp at h
 | s :: ss,q,v,h=>by
   rw [cm,step_get] at h
   split at h
   · cases h; rename_i z; omega
   · cases h
theorem fX {T:Nat} {e:List Int} {ss:List Stp} {q:List Int}:(alv (cm T e ss) q=true->1<=nZ (cm T e ss) q)/\(alv (cm T e ss) q=false->nZ (cm T e ss) q=0):=by
 unfold alv nZ
 cases h:cv (cm T e ss) q with
 | none=>exact ⟨λz=>(by cases z),λ_=>rfl⟩
 | some v=>exact ⟨λ_=>sQ T e ss q v h,λz=>by cases z⟩
noncomputable def trK (T:Nat) (e st:List Int) (ss:List Stp):Nat->List (List (List Int))
 | 0=>if 0 < nZ (cm T e ss) st then [[st]] else []
 | k + 1=>lgT (ss.getD k ("weigh",0,0)) (cm T e (ss.drop (k + 1))) (trK T e st ss k)
theorem lst_snoc (t:List (List Int)) (q:List Int):a6 (t++[q])=q:=by simp [a6]
theorem sum_filter (zs:List (List Int × Int)) (f:List Int->Int) (h:∀ q,alv zs q=false->f q=0):∀ qs:List (List Int),((qs.filter (alv zs)).map f).sum=(qs.map f).sum
 | []=>rfl
 | q :: qs=>by
   cases hq:alv zs q with
   | true=>rw [List.filter_cons_of_pos hq,List.map_cons,List.map_cons,List.sum_cons,List.sum_cons,sum_filter zs f h qs]
   | false=>rw [List.filter_cons_of_neg (by rw [hq]; decide),List.map_cons,List.sum_cons,sum_filter zs f h qs,h q hq,Int.zero_add]
theorem lH {α β:Type} (f:α->List β) (g:β->Int):∀ xs:List α,((xs.flatMap f).map g).sum=(xs.map λx=>((f x).map g).sum).sum
 | []=>rfl
 | x :: xs=>by rw [List.flatMap_cons,List.map_append,List.sum_append,lH f g xs,List.map_cons,List.sum_cons]
theorem oV {ss:List Stp} {k:Nat} (h:k < ss.length):ss.drop k=ss.getD k ("weigh",0,0) :: ss.drop (k + 1):=by
 rw [List.drop_eq_getElem_cons h]
 simp [h]
theorem rX {α:Type} {f g:α->Int}:∀ {xs:List α},(∀ x ∈ xs,f x=g x)->(xs.map f).sum=(xs.map g).sum
 | [],_=>rfl
 | x :: xs,h=>by rw [List.map_cons,List.map_cons,List.sum_cons,List.sum_cons,h x (List.mem_cons_self ..),rX λy hy=>h y (List.mem_cons_of_mem _ hy)]
theorem gh (T:Nat) (e st:List Int) (ss:List Stp):∀ k,k<=ss.length->(∀ t ∈ trK T e st ss k,t.length=k + 1/\alv (cm T e (ss.drop k)) (a6 t)=true)/\((trK T e st ss k).map λt=>nZ (cm T e (ss.drop k)) (a6 t)).sum=nZ (cm T e ss) st
 | 0,_=>by
   rw [trK]
   split
   · rename_i h
     refine ⟨λt ht=>?_,by simp [a6]⟩
     rw [List.mem_singleton] at ht
     subst ht
     refine ⟨rfl,?_⟩
     show alv (cm T e ss) st=true
     cases hq:alv (cm T e ss) st with
     | true=>rfl
     | false=>rw [fX.2 hq] at h; omega
   · rename_i h
     refine ⟨λt ht=>(by cases ht),?_⟩
     show (0:Int)=_
     cases hq:alv (cm T e ss) st with
     | true=>have:=fX.1 hq; omega
     | false=>rw [fX.2 hq]
 | k + 1,hk=>by
   obtain ⟨i1,i2⟩:=gh T e st ss k (by omega)
   have ed:=oV (ss:=ss) (k:=k) (by omega)
   rw [trK]
   generalize ss.getD k ("weigh",0,0)=s at ed ⊢
   refine ⟨λt ht=>?_,?_⟩
   · unfold lgT onT at ht
     rw [List.mem_flatMap] at ht
     obtain ⟨t0,h0,h1⟩:=ht
     obtain ⟨q,hq,rfl⟩:=List.mem_map.mp h1
     refine ⟨by rw [List.length_append,(i1 t0 h0).1]; rfl,?_⟩
     rw [lst_snoc]
     exact (List.mem_filter.mp hq).2
   · rw [<- i2]
     unfold lgT
     rw [lH]
     refine rX λt ht=>?_
     unfold onT
     rw [List.map_map]
     have e1:((λt=>nZ (cm T e (ss.drop (k + 1))) (a6 t)) ∘ λq=>t++[q])=nZ (cm T e (ss.drop (k + 1))):=funext λq=>by simp only [Function.comp,lst_snoc]
     rw [e1,sum_filter _ _ λq hq=>fX.2 hq]
     have h2:=(i1 t ht).2
     rw [ed] at h2 ⊢
     unfold alv at h2
     unfold nZ
     rw [cm,step_get] at h2 ⊢
     by_cases z:a6 t ∈ chs T e.length/\0 < cN s (cm T e (ss.drop (k + 1))) (a6 t)
     · rw [if_pos z]
       rfl
     · rw [if_neg z] at h2; cases h2
theorem pL {α:Type} {f:α->Int}:∀ {xs:List α},(∀ x ∈ xs,1<=f x)->(xs.length:Int)<=(xs.map f).sum
 | [],_=>by simp
 | x :: xs,h=>by
   rw [List.map_cons,List.sum_cons,List.length_cons]
   have:=h x (List.mem_cons_self ..)
   have:=pL λy hy=>h y (List.mem_cons_of_mem x hy)
   omega
theorem u6 (T:Nat) (e st:List Int) (ss:List Stp) {k:Nat} (hk:k<=ss.length):((trK T e st ss k).length:Int)<=nZ (cm T e ss) st:=by
 obtain ⟨i1,i2⟩:=gh T e st ss k hk
 rw [<- i2]
 exact pL λt ht=>fX.1 (i1 t ht).2
theorem uT {T:Nat} {e:List Int} {ss:List Stp} {q:List Int} (h:alv (cm T e ss) q=true) (he:ss=[]->q.length=e.length):q.length=e.length:=by
 cases ss with
 | nil=>exact he rfl
 | cons s ss=>
   unfold alv at h
   rw [cm,step_get] at h
   split at h
   · rename_i z; exact (gn T e.length q z.1).len
   · cases h
theorem pM {T:Nat} {e q:List Int} (h:alv (cm T e []) q=true):q=e:=by
 unfold alv at h
 rw [cm,cv,List.find?_cons] at h
 split at h
 · rename_i z; exact (of_decide_eq_true z).symm
 · simp at h
theorem pg {T:Nat} {e:List Int} {ss:List Stp} {q:List Int} (h:alv (cm T e ss) q=true):q.length=e.length:=uT h λz=>by subst z; rw [pM h]
noncomputable def hZ (ds:List D) (r:Sl):Prop:=∃ (T R C:Nat) (ss:List Stp) (st e:List Int),ds=[bA T R C ss,tpD st,tpD e]/\okL T R C ss/\e ≠ []/\e.length<=7/\nZ (cm T e ss) st<=3000/\r=.d (.lst ((trK T e st ss ss.length).map trD))
theorem wG {ss:List Stp} (i:Nat) (h:i < (gP (ss.map stD)).length):(gP (ss.map stD))[i]=.tup [.int (i:Nat),stD (ss.getD i ("weigh",0,0))]:=by
 rw [b9,List.length_map] at h
 rw [ki]
 simp [h]
noncomputable def eg (ds:List D) (r:Sl):Prop:=∃ a b:Int,ds=[.int a,.int b]/\r=.d (.int (Int.gcd a b:Int))
noncomputable def iB (ds:List D) (r:Sl):Prop:=∃ (t b:Int) (q:Rat),ds=[.int t,.int b]/\0 < b/\Bd 8999 b/\(t:Rat)=q * (b:Rat)/\r=.d (frD q)
noncomputable def iM (ds:List D) (r:Sl):Prop:=∃ (ns:List Int) (k:Nat),ds=[.lst (ns.map .int),.int k]/\r=.d (.int (ns.getD k 0))
noncomputable def rwD (r:List Int):D:=.lst (r.map .int)
noncomputable def tbD (m:List (List Int)):D:=.lst (m.map rwD)
noncomputable def gy (t:List (List Int)) (k:Nat):List Int:=t.map λc=>c.getD k 0
noncomputable def hV (ds:List D) (r:Sl):Prop:=∃ (t:List (List Int)) (k:Nat),ds=[trD t,.int k]/\t.length<=1000/\(∀ c ∈ t,k < c.length)/\r=.o ((gy t k).map .int)
theorem rG (T:Nat) (e st:List Int) (ss:List Stp) (hs:st.length=e.length):∀ k,k<=ss.length->∀ t ∈ trK T e st ss k,∀ c ∈ t,c.length=e.length
 | 0,_,t,ht,c,hc=>by
   rw [trK] at ht
   split at ht
   · rw [List.mem_singleton] at ht
     subst ht
     rw [List.mem_singleton] at hc
     rw [hc]; exact hs
   · cases ht
 | k + 1,hk,t,ht,c,hc=>by
   have al:=((gh T e st ss (k + 1) hk).1 t ht).2
   rw [trK] at ht
   unfold lgT onT at ht
   rw [List.mem_flatMap] at ht
   obtain ⟨t0,h0,h1⟩:=ht
   obtain ⟨q,hq,rfl⟩:=List.mem_map.mp h1
   rcases List.mem_append.mp hc with z | z
   · exact rG T e st ss hs k (by omega) t0 h0 c z
   · rw [List.mem_singleton] at z
     subst z
     rw [lst_snoc] at al
     exact pg al
theorem mf {α:Type} {f:α->Int}:∀ {xs:List α},(∀ x ∈ xs,f x=1)->(xs.map f).sum=(xs.length:Int)
 | [],_=>rfl
 | x :: xs,h=>by
   rw [List.map_cons,List.sum_cons,h x (List.mem_cons_self ..),mf λy hy=>h y (List.mem_cons_of_mem _ hy),List.length_cons]
   omega
theorem rL (T:Nat) (e st:List Int) (ss:List Stp):((trK T e st ss ss.length).length:Int)=nZ (cm T e ss) st:=by
 obtain ⟨i1,i2⟩:=gh T e st ss ss.length (Nat.le_refl _)
 rw [<- i2]
 refine (mf λt ht=>?_).symm
 have h:=(i1 t ht).2
 rw [List.drop_length] at h ⊢
 rw [pM h]
 unfold nZ
 rw [cm,cv,List.find?_cons]
 simp
section
variable {P:Program} {w:World} {K:PySem.W.Frag} {mg:Str->Option Value} {base:Heap} {k:Nat} {f:Addr} {fd:FuncData} {qual:Str}
theorem gp (F:Fun K "longer_trails" qual (top 29) f fd) (hb:∀ x ∈ ak,mg x=none) (c_next_places:Cal P w K mg base k "next_places" bH):aQ P w K mg base CX0 (k + 1) f fd ["found","step","counts"] (spD K (bO P w)):=by
 refine fnD F cL hb (by rintro _ _ ⟨_,_,_,rfl,_⟩; rfl) ?_
 rintro _ _ ⟨fs,sg,zs,rfl,hl,hf,rfl⟩ cdv A outer s H E b
 have nd:=cL.nd
 have hu:(Xc P w K mg base ["found","step","counts","longer","trail","places"] qual (top 29) f cdv A outer s H E).A.units + 16 < cLine:=Nat.lt_of_le_of_lt (Nat.add_le_add_left (by decide:16<=64) _) b.room.units
 refine ay 3 nd (aL ag) ?_
 refine bY 4 (g:=λi=>trD (fs.getD i [])) (λi τ=>∃ s4 s5,τ=[.d (.lst (fs.map trD)),.d (stD sg),.d (dW P w zs),.o ((lgT sg zs (fs.take i)).map trD),s4,s5]) b nd (aZ (aa 0)) zF ⟨.un,.un,rfl⟩ (λi hi τ h=>?_) λτ h=>?_
 · obtain ⟨s4,s5,rfl⟩:=h
   have hi:i < fs.length:=by simpa using hi
   have ht:=hf _ (cW (d:=[]) hi)
   have lt:=cJ (onT sg zs) 2 (fs.take i) λt _=>uB sg zs t
   rw [List.length_take] at lt
   have hlg:lgT sg zs (fs.take (i + 1))=lgT sg zs (fs.take i)++onT sg zs (fs.getD i []):=by
     unfold lgT
     rw [take_snoc [] hi,List.flatMap_append]
     simp
   generalize fs.getD i []=t at ht hlg ⊢
   refine bY 5 (g:=λl=>tpD ((nxp sg (a6 t)).getD l [])) (λl τ=>∃ s5,τ=[.d (.lst (fs.map trD)),.d (stD sg),.d (dW P w zs),.o ((lgT sg zs (fs.take i)++(((nxp sg (a6 t)).take l).filter (alv zs)).map λq=>t++[q]).map trD),.d (trD t),s5]) b nd (aZ (aR (x_call b c_next_places (ae (aa 1) (ae (aC (aa 4) (jC af) (aS (tS ht.ne))) ag)) ⟨sg,a6 t,rfl,ht.ln,ht.l7,rfl⟩))) rB ⟨s5,by simp⟩ (λl hl τ h=>?_) λτ h=>?_
   · obtain ⟨s5,rfl⟩:=h
     have hl:l < (nxp sg (a6 t)).length:=by simpa using hl
     have n2:=kr sg (a6 t)
     have tk:(nxp sg (a6 t)).take (l + 1)=(nxp sg (a6 t)).take l++[(nxp sg (a6 t)).getD l []]:=take_snoc [] hl
     generalize (nxp sg (a6 t)).getD l []=q at tk ⊢
     have lf:((((nxp sg (a6 t)).take l).filter (alv zs)).map λq=>t++[q]).length<=2:=by
       rw [List.length_map]
       exact Nat.le_trans (List.length_filter_le _ _) (by rw [List.length_take]; omega)
     refine kG (M:=λτ=>τ=[.d (.lst (fs.map trD)),.d (stD sg),.d (dW P w zs),.o ((lgT sg zs (fs.take i)++(((nxp sg (a6 t)).take (l + 1)).filter (alv zs)).map λq=>t++[q]).map trD),.d (trD t),.d (tpD q)]) (aJ (aa 5) (aa 2) (yr (a:=Ev.bN Ev.dr) (hd:=hdI) (m:=zE zs) (key:=q) hu (ja q))) (λh=>?_) (λh=>?_) λτ h=>aN ⟨_,h⟩
     · have h:alv zs q=true:=by rw [g8,Option.isSome_map] at h; exact h
       refine jO 3 (aR (oX (aa 4) (aR (aL (ae (aa 5) ag))) ?_)) ?_ (aN ?_)
       · rw [List.length_map]; have:=ht.len; show _ + 1 < _; omega
       · rw [List.length_map,List.length_append]
         show (lgT sg zs (fs.take i)).length + _ < _
         unfold lgT
         omega
       · have er:(lgT sg zs (fs.take i)++(((nxp sg (a6 t)).take (l + 1)).filter (alv zs)).map λq=>t++[q]).map trD=(lgT sg zs (fs.take i)++(((nxp sg (a6 t)).take l).filter (alv zs)).map λq=>t++[q]).map trD++[.lst (t.map tpD++[tpD q])]:=by
           rw [tk,List.filter_append,List.filter_cons_of_pos h,List.filter_nil]
           simp [trD]
         rw [er]
         rfl
     · have h:alv zs q=false:=by rw [g8,Option.isSome_map] at h; exact h
       refine aN ?_
       rw [tk,List.filter_append,List.filter_cons_of_neg (by rw [h]; decide),List.filter_nil,List.append_nil]
       rfl
   · obtain ⟨s5,rfl⟩:=h
     refine aN ⟨.d (trD t),s5,?_⟩
     rw [hlg,List.length_map,List.take_of_length_le (Nat.le_refl _)]
     rfl
 · obtain ⟨s4,s5,rfl⟩:=h
   refine kf 3 ?_
   rw [List.length_map,List.take_of_length_le (Nat.le_refl _)]
theorem qj (F:Fun K "trails" qual (top 28) f fd) (hb:∀ x ∈ ak,mg x=none) (y_MOST_LISTED:∃ t,mg "MOST_LISTED" = some (.int 3000 t)) (c_counts_ahead:Cal P w K mg base k "counts_ahead" (bZ P w)) (c_longer_trails:Cal P w K mg base k "longer_trails" (bO P w)):aQ P w K mg base CX0 (k + 1) f fd ["ladder","starts","ends"] (spD K hZ):=by
 refine fnD F jx hb (by rintro _ _ ⟨_,_,_,_,_,_,rfl,_⟩; rfl) ?_
 rintro _ _ ⟨T,R,C,ss,st,e,rfl,ok,e0,e7,h3,rfl⟩ cdv A outer s H E b
 have nd:=jx.nd
 have h400:=ok.len
 have el:1<=e.length:=List.length_pos_iff.mpr e0
 have hu:(Xc P w K mg base ["ladder","starts","ends","counts","many","found","k","step"] qual (top 28) f cdv A outer s H E).A.units + 16 < cLine:=Nat.lt_of_le_of_lt (Nat.add_le_add_left (by decide:16<=64) _) b.room.units
 have at_:∀ k:Nat,k<=ss.length->atI ((List.range (ss.length + 1)).map λk=>dW P w (cm T e (ss.drop k))) (k:Int)=some (dW P w (cm T e (ss.drop k))):=λk hk=>ax (by simp [(by omega:k < ss.length + 1)])
 refine ay 3 nd (aR (x_call b c_counts_ahead (ae (aa 0) (ae (aa 2) ag)) ⟨T,R,C,ss,e,rfl,ok,e0,e7,rfl⟩)) ?_
 refine ay 4 nd (oO (a:=Ev.bN Ev.dr) (hd:=hdI) (m:=zE (cm T e ss)) (key:=st) hu (aC (aa 3) af (aS (at_ 0 (Nat.zero_le _)))) (aa 1) af (ja st)) ?_
 rw [oG]
 refine bX (aJ (aa 4) (nC y_MOST_LISTED) kZ) (decide_eq_false (by omega)) ?_
 refine ay 5 nd (jV (s:=.d (.lst ((trK T e st ss 0).map trD))) (aJ (aa 4) af kZ) (λh=>?_) λh=>?_) ?_
 · rw [show trK T e st ss 0=[[st]] from if_pos (of_decide_eq_true h)]
   exact aR (aL (ae (aR (aL (ae (aa 1) ag))) ag))
 · rw [show trK T e st ss 0=[] from if_neg (of_decide_eq_false h)]
   exact aR (aL ag)
 refine i4 6 7 (λi τ=>∃ s6 s7,τ=[.d (bA T R C ss),.d (tpD st),.d (tpD e),.d (.lst ((List.range (ss.length + 1)).map λk=>dW P w (cm T e (ss.drop k)))),.d (.int (nZ (cm T e ss) st)),.d (.lst ((trK T e st ss i).map trD)),s6,s7]) b nd (t4 b (aC (aa 0) af (aE (ax (i:=3) rfl)))) wG ⟨.un,.un,rfl⟩ (λi hi τ h=>?_) λτ h=>?_
 · obtain ⟨s6,s7,rfl⟩:=h
   have hi:i < ss.length:=by rw [b9,List.length_map] at hi; exact hi
   obtain ⟨i1,_⟩:=gh T e st ss i (by omega)
   have il:=u6 T e st ss (k:=i) (by omega)
   refine ay 5 nd (aR (x_call b c_longer_trails (ae (aa 5) (ae (aa 7) (ae (aC (aa 3) (aD (aa 6) af aW) (aS (at_ (i + 1) (by omega)))) ag))) ⟨trK T e st ss i,_,cm T e (ss.drop (i + 1)),rfl,by omega,λt ht=>?_,rfl⟩)) (aN ⟨_,_,rfl⟩)
   obtain ⟨z1,z2⟩:=i1 t ht
   have zl:=pg z2
   exact ⟨λz=>by rw [z] at z1; simp at z1,λz=>by rw [z] at zl; simp at zl; omega,by omega,by omega⟩
 · obtain ⟨s6,s7,rfl⟩:=h
   refine aG (aa 5) ?_
   rw [b9,List.length_map]
theorem kT (F:Fun K "_law_divisor" qual (top 39) f fd) (hb:∀ x ∈ ak,mg x=none):aQ P w K mg base CX0 (k + 1) f fd ["_law_one","_law_other"] (spD K eg):=by
 refine fnD F fF hb (by rintro _ _ ⟨_,_,rfl,_⟩; rfl) ?_
 rintro _ _ ⟨x,y,rfl,rfl⟩ cdv A outer s H E b
 have nd:=fF.nd
 refine ay 0 nd (bR b (ae (aa 0) ag) lh) (ay 1 nd (bR b (ae (aa 1) ag) lh) ?_)
 rw [fo,fo]
 refine oN (λn t τ=>∃ (g:Nat) (s2:Sl),Nat.gcd g n=Int.gcd x y/\t=(decide ((0:Int) < n))/\τ=[.d (.int g),.d (.int n),s2]) b ⟨_,_,_,_,rfl,rfl,rfl⟩ (λn t τ h=>?_) (λn τ h=>?_) λn τ h=>?_
 · obtain ⟨g,s2,_,rfl,rfl⟩:=h
   exact aJ (aa 1) af kZ
 · obtain ⟨g,s2,hg,ht,rfl⟩:=h
   have hl:n ≠ 0:=λz=>by simp [z] at ht
   have e:(g:Int).fmod n=((g % n:Nat):Int):=by rw [Int.fmod_eq_emod_of_nonneg _ (by omega)]; rfl
   refine ay 2 nd (aD (aa 0) (aa 1) (bB (by omega))) ?_
   rw [e]
   refine ay 0 nd (aa 1) (ay 1 nd (aa 2) (aN ⟨g % n,_,Nat.mod_lt g (Nat.pos_of_ne_zero hl),n,_,?_,rfl,rfl⟩))
   rw [<- hg,Nat.gcd_comm n,<- Nat.gcd_rec,Nat.gcd_comm]
 · obtain ⟨g,s2,hg,ht,rfl⟩:=h
   have hl:n=0:=by have:=of_decide_eq_false ht.symm; omega
   refine aG (aa 0) ?_
   rw [<- hg,hl,Nat.gcd_zero_right]
theorem p9 (F:Fun K "_law_made" qual (top 40) f fd) (hb:∀ x ∈ ak,mg x=none) (c_l_divisor:Cal P w K mg base k "_law_divisor" eg):aQ P w K mg base CX0 (k + 1) f fd ["_law_top","_law_bottom"] (spD K iB):=by
 refine fnD F jL hb (by rintro _ _ ⟨_,_,_,rfl,_⟩; rfl) ?_
 rintro _ _ ⟨t,c,q,rfl,h0,h1,hq,rfl⟩ cdv A outer s H E b
 have nd:=jL.nd
 have dv:aP (Int.gcd t c:Int):=(h1.gcd (by omega)).aP (wV (by omega)) (by decide)
 obtain ⟨e1,e2⟩:=iu h0 hq
 refine ay 2 nd (x_call b c_l_divisor (ae (aa 0) (ae (aa 1) ag)) ⟨_,_,rfl,rfl⟩) (aG (dC (ae (aD (aa 0) (aa 2) (fY dv)) (ae (aD (aa 1) (aa 2) (fY dv)) ag))) ?_)
 rw [mP,mP,<- e1,<- e2]
 rfl
theorem qH (F:Fun K "_law_cell" qual (top 37) f fd) (hb:∀ x ∈ ak,mg x=none):aQ P w K mg base CX0 (k + 1) f fd ["_law_script","_law_k"] (spD K iM):=by
 refine fnD F qS hb (by rintro _ _ ⟨_,_,rfl,_⟩; rfl) ?_
 rintro _ _ ⟨ns,n,rfl,rfl⟩ cdv A outer s H E b
 refine cB (aJ (aa 1) (bR b (ae (aa 0) ag) jz) xy) (λh=>?_) λh=>?_
 · have h:=of_decide_eq_true h
   rw [List.length_map] at h
   exact aG (aC (aa 0) (aa 1) (aS (aV (by omega) (by omega)))) rfl
 · have h:=of_decide_eq_false h
   rw [List.length_map] at h
   refine aG af ?_
   show Sl.d (.int 0)=_
   rw [getD_none (by omega)]
theorem qi (F:Fun K "way_on" qual (top 30) f fd) (hb:∀ x ∈ ak,mg x=none):aQ P w K mg base CX0 (k + 1) f fd ["trail","k"] (spD K hV):=by
 refine fnD F qe hb (by rintro _ _ ⟨_,_,rfl,_⟩; rfl) ?_
 rintro _ _ ⟨t,j,rfl,hl,hk,rfl⟩ cdv A outer s H E b
 refine aG (gM (cmp 0 (f:=λi=>.int ((t.getD i []).getD j 0)) b (aZ (aa 0)) rB (by rw [List.length_map]; omega) λi hi s0 H0 fp=>(aC (aa 0) (aa 1) (aE (aV (ns:=t.getD i []) (i:=(j:Int)) (by omega) (hk _ (cW (by simpa using hi)))))))) ?_
 rw [List.length_map]
 congr 1
 unfold gy
 refine List.ext_getElem (by simp) λi h1 h2=>?_
 have:i < t.length:=by simpa using h1
 simp [this]
end
theorem nr (T:Nat) (e:List Int) (ss:List Stp) (q:List Int):0<=nZ (cm T e ss) q:=by
 unfold nZ
 cases h:cv (cm T e ss) q with
 | none=>exact Int.le_refl _
 | some v=>have:=sQ T e ss q v h; show 0<=v; omega
structure Rs (T m:Nat) (p:List Int):Prop where
 len:p.length=m
 up:∀ a,a + 1 < m->p.getD a 0 < p.getD (a + 1) 0
 bd:∀ a,a < m->0<=p.getD a 0/\p.getD a 0 < T
theorem Rs.lt {T m:Nat} {p:List Int} (h:Rs T m p):∀ d a,a + d + 1 < m->p.getD a 0 < p.getD (a + d + 1) 0
 | 0,a,ha=>h.up a ha
 | d + 1,a,ha=>Int.lt_trans (Rs.lt h d a (by omega)) (h.up (a + d + 1) ha)
theorem Rs.mono {T m:Nat} {p:List Int} (h:Rs T m p) {a b:Nat} (hab:a < b) (hb:b < m):p.getD a 0 < p.getD b 0:=by
 have:=h.lt (b - a - 1) a (by omega)
 rwa [show a + (b - a - 1) + 1=b by omega] at this
theorem Rs.inj {T m:Nat} {p:List Int} (h:Rs T m p) {a b:Nat} (ha:a < m) (hb:b < m) (e:p.getD a 0=p.getD b 0):a=b:=by
 rcases Nat.lt_trichotomy a b with z | z | z
 · have:=h.mono z hb; omega
 · exact z
 · have:=h.mono z ha; omega
theorem uu {c:List Int} {x:Int} {i:Nat} (h:i < c.length):(c++[x]).getD i 0=c.getD i 0:=by simp [List.getD,List.getElem?_append_left h]
theorem pN (T:Nat):∀ (m:Nat) (p:List Int),Rs T m p->p ∈ chs T m
 | 0,p,h=>by
   rw [chs,List.mem_singleton]
   exact List.length_eq_zero_iff.mp h.len
 | m + 1,p,h=>by
   have hp:p=p.dropLast++[p.getD m 0]:=by
     have hne:p ≠ []:=λz=>by rw [z] at h; exact absurd h.len (by simp)
     have:p.getLast hne=p.getD m 0:=by
       rw [List.getLast_eq_getElem,List.getD_eq_getElem?_getD]
       simp [h.len]
     rw [<- this,List.dropLast_concat_getLast]
   have hl:p.dropLast.length=m:=by rw [List.length_dropLast,h.len]; rfl
   have hg:∀ a,a < m->p.dropLast.getD a 0=p.getD a 0:=λa ha=>by
     conv=>rhs; rw [hp]
     rw [uu (by omega)]
   have hd:Rs T m p.dropLast:=⟨hl,λa ha=>by rw [hg a (by omega),hg (a + 1) ha]; exact h.up a (by omega),λa ha=>by rw [hg a ha]; exact h.bd a (by omega)⟩
   rw [chs,List.mem_flatMap]
   refine ⟨_,pN T m _ hd,?_⟩
   unfold onC
   have hb:=h.bd m (by omega)
   have hle:lea m p.dropLast<=p.getD m 0:=by
     unfold lea
     by_cases z:0 < m
     · rw [if_pos z,bL,hl,hg (m - 1) (by omega)]
       have:=h.up (m - 1) (by omega)
       rw [show m - 1 + 1=m by omega] at this
       omega
     · rw [if_neg z]; exact hb.1
   refine List.mem_map.mpr ⟨(p.getD m 0 - lea m p.dropLast).toNat,List.mem_range.mpr (by omega),?_⟩
   rw [Int.toNat_of_nonneg (by omega)]
   conv=>rhs; rw [hp]
   congr 2
   omega
theorem u9 {T:Nat} {e p:List Int} {s:Stp} {ss:List Stp} (h:Rs T e.length p):nZ (cm T e (s :: ss)) p=cN s (cm T e ss) p:=by
 have nn:0<=cN s (cm T e ss) p:=by
   unfold cN
   have:∀ qs:List (List Int),0<=(qs.map (nZ (cm T e ss))).sum:=λqs=>by
     induction qs with
     | nil=>exact Int.le_refl _
     | cons q qs ih=>rw [List.map_cons,List.sum_cons]; have:=nr T e ss q; omega
   exact this _
 unfold nZ
 rw [cm,step_get]
 by_cases z:p ∈ chs T e.length/\0 < cN s (cm T e ss) p
 · rw [if_pos z]; rfl
 · rw [if_neg z]
   have:¬ 0 < cN s (cm T e ss) p:=λy=>z ⟨pN T _ p h,y⟩
   show (0:Int)=_
   omega
theorem fU {c:List Int} {x:Int}:has c x=true ↔ ∃ a,a < c.length/\c.getD a 0=x:=by
 unfold has
 rw [List.any_eq_true]
 constructor
 · rintro ⟨y,hy,e⟩
   obtain ⟨a,ha,rfl⟩:=List.getElem_of_mem hy
   exact ⟨a,ha,by simpa [ha] using of_decide_eq_true e⟩
 · rintro ⟨a,ha,e⟩
   exact ⟨c[a],List.getElem_mem ha,decide_eq_true (by simpa [ha] using e)⟩
theorem sP {x y:Nat} {c:List Int} {a:Nat} (h:a < c.length):(mvd x y c).getD a 0=if c.getD a 0=(x:Int) then (y:Int) else c.getD a 0:=by simp [mvd,h]
section
variable {P:Program} {w:World} {K:PySem.W.Frag} {mg:Str->Option Value} {base:Heap} {k:Nat} {f:Addr} {fd:FuncData} {qual:Str}
end
theorem pE {α:Type}:∀ (xs:List α) (i:Nat) (h:i < xs.length),(xs[i] :: xs.eraseIdx i).Perm xs
 | _ :: _,0,_=>.refl _
 | x :: xs,i + 1,h=>(List.Perm.swap x (xs[i]'(by simpa using h)) (xs.eraseIdx i)).trans (.cons x (pE xs i (by simpa using h)))
theorem mX:∀ (ps xs:List Int),jy xs ps->((fh xs ps).1++(fh xs ps).2).Perm xs
 | [],xs,_=>by rw [fh]; exact .refl _
 | i :: ps,xs,h=>by
   obtain ⟨h0,h1,h2⟩:=h
   rw [fh]
   simp only [List.cons_append]
   have ih:=mX ps _ h2
   have hk:i.toNat < xs.length:=by omega
   have e:xs.getD i.toNat 0=xs[i.toNat]:=by simp [hk]
   rw [e]
   refine (List.Perm.cons _ ih).trans ?_
   exact pE xs _ hk
theorem pY:∀ (ps xs:List Int),(fh xs ps).1.length=ps.length
 | [],_=>rfl
 | i :: ps,xs=>by rw [fh]; simp only [List.length_cons]; rw [pY ps]
theorem lY:∀ {ps xs:List Int},(∀ t,t < ps.length->0<=ps.getD t 0/\ps.getD t 0 + t < xs.length)->jy xs ps
 | [],_,_=>trivial
 | i :: ps,xs,h=>by
   have h0:=h 0 (by simp)
   have h0:0<=i/\i + ((0:Nat):Int) < xs.length:=h0
   refine ⟨h0.1,by omega,lY λt ht=>?_⟩
   have:=h (t + 1) (by simpa using ht)
   have:0<=ps.getD t 0/\ps.getD t 0 + ((t + 1:Nat):Int) < xs.length:=this
   have e:(xs.eraseIdx i.toNat).length=xs.length - 1:=List.length_eraseIdx_of_lt (by omega)
   rw [e]
   omega
noncomputable def chP (c:Int) (m s:Nat):List Int:=nums c ((List.range s).map λk:Nat=>(m:Int) - (k:Int))
noncomputable def chX (m:Nat):List Int:=(List.range m).map λk:Nat=>(k:Int)
noncomputable def chC (c:Int) (m s:Nat):List Int:=kn (fh (chX m) (chP c m s)).1
theorem j5 (c:Int) (m s:Nat):(chP c m s).length=s:=by unfold chP; rw [bU]; simp
theorem sf {c:Int} {m s:Nat} (h:s<=m):jy (chX m) (chP c m s):=lY λt ht=>by
 rw [j5] at ht
 have hp:∀ b ∈ (List.range s).map (λk:Nat=>(m:Int) - (k:Int)),0 < b:=λb hb=>by
   obtain ⟨k,hk,rfl⟩:=List.mem_map.mp hb
   rw [List.mem_range] at hk
   omega
 have:=bJ (c:=c) hp (i:=t) (by simpa using ht)
 have e:((List.range s).map (λk:Nat=>(m:Int) - (k:Int))).getD t 0=(m:Int) - (t:Int):=by simp [ht]
 rw [e] at this
 have l:(chX m).length=m:=by simp [chX]
 rw [l]
 unfold chP
 omega
theorem kK (c:Int) (m s:Nat):(chC c m s).length=s:=by
 unfold chC
 rw [(eL _).length_eq,pY,j5]
theorem oD {c:Int} {m s:Nat} (h:s<=m):(chC c m s).Nodup/\∀ x ∈ chC c m s,0<=x/\x < m:=by
 have pp:=mX _ _ (sf (c:=c) h)
 have nx:(chX m).Nodup:=by
   unfold chX
   exact List.pairwise_map.mpr (List.nodup_range.imp λ{a b} h z=>h (by omega))
 have n1:(fh (chX m) (chP c m s)).1.Nodup:=(List.nodup_append.mp (pp.nodup_iff.mpr nx)).1
 refine ⟨(eL _).nodup_iff.mpr n1,λx hx=>?_⟩
 have h1:x ∈ (fh (chX m) (chP c m s)).1:=(eL _).mem_iff.mp hx
 have h2:x ∈ chX m:=pp.mem_iff.mp (List.mem_append_left _ h1)
 unfold chX at h2
 obtain ⟨k,hk,rfl⟩:=List.mem_map.mp h2
 rw [List.mem_range] at hk
 omega
theorem xm {c:Int} {m s:Nat} (h:s<=m):∀ a,a + 1 < s->(chC c m s).getD a 0 < (chC c m s).getD (a + 1) 0:=λa ha=>by
 have l:=kK c m s
 have nd:=(oD (c:=c) h).1
 have le:=oI (fh (chX m) (chP c m s)).1
 have h1:a < (chC c m s).length:=by omega
 have h2:a + 1 < (chC c m s).length:=by omega
 have g:=List.pairwise_iff_getElem.mp le a (a + 1) h1 h2 (by omega)
 have ne:=List.pairwise_iff_getElem.mp nd a (a + 1) h1 h2 (by omega)
 have e1:(chC c m s).getD a 0=(chC c m s)[a]:=by simp [h1]
 have e2:(chC c m s).getD (a + 1) 0=(chC c m s)[a + 1]:=by simp [h2]
 rw [e1,e2]
 have g:(chC c m s)[a]<=(chC c m s)[a + 1]:=g
 omega
noncomputable def eX (ds:List D) (r:Sl):Prop:=∃ (c:Int) (m s:Nat),ds=[.int c,.int m,.int s]/\1<=s/\s<=m/\m<=7/\r=.o ((chC c m s).map .int)
section
variable {P:Program} {w:World} {K:PySem.W.Frag} {mg:Str->Option Value} {base:Heap} {k:Nat} {f:Addr} {fd:FuncData} {qual:Str}
theorem mj (F:Fun K "_law_choice" qual (top 48) f fd) (hb:∀ x ∈ ak,mg x=none) (c_l_numbers:Cal P w K mg base k "_law_numbers" bb):aQ P w K mg base CX0 (k + 1) f fd ["_law_cell_here","_law_many","_law_size"] (spD K eX):=by
 refine fnD F gL hb (by rintro _ _ ⟨_,_,_,rfl,_⟩; rfl) ?_
 rintro _ _ ⟨c,m,s0,rfl,h1,hm,h7,rfl⟩ cdv A outer s H E b
 have nd:=gL.nd
 refine ay 3 nd (aR (x_call b c_l_numbers (ae (aa 0) (ae (aR (gM (cmp 0 (f:=λk=>.int ((m:Int) - (k:Int))) b (jZ b (aa 2) (by omega) (by omega)) jD (by rw [aK]; omega) λi hi s0 H0 fp=>(aD (aa 1) (aa 0) iH)))) ag)) ⟨c,(List.range s0).map λk:Nat=>(m:Int) - (k:Int),?_,?_,?_,rfl⟩)) ?_
 · rw [aK,Int.toNat_natCast,List.map_map]; rfl
 · simp; omega
 · intro x hx
   obtain ⟨k,hk,rfl⟩:=List.mem_map.mp hx
   rw [List.mem_range] at hk
   exact jq (by omega) (by omega)
 refine ay 4 nd (xQ (n:=m) b (aa 1) (by omega)) ?_
 exact rK 4 1 0 (xs:=chX m) (ps:=chP c m s0) b rfl (aZ (aa 3)) (sf hm) (by simp [chX]; omega) (by rw [j5]; omega) rfl
end
noncomputable def whw (x:D):Bool:=jr .int x && !jr .bool x
noncomputable def gc (ds:List D) (r:Sl):Prop:=∃ x,ds=[x]/\r=.d (.bl (whw x))
noncomputable def stp (ss:List Stp) (k:Nat):Stp:=ss.getD k ("weigh",0,0)
noncomputable def gos (s:Stp) (t:Int):List Int:=
 if s.1 = "weigh" /\ t=(s.2.1:Nat)/\s.2.2.num=0 then []
 else if s.1 = "down" /\ t=(s.2.1:Nat)/\0 < s.2.2.num then [(s.2.1:Nat),(s.2.1:Nat) + 1]
 else if s.1 = "up" /\ t=(s.2.1:Nat) + 1/\0 < s.2.2.num then [(s.2.1:Nat),(s.2.1:Nat) + 1]
 else [t]
noncomputable def iP (ds:List D) (r:Sl):Prop:=∃ (s:Stp) (t:Int),ds=[stD s,.int t]/\r=.o ((gos s t).map .int)
noncomputable def onW (s:Stp) (w:List Int):List (List Int):=(gos s (bL w)).map λx=>w++[x]
noncomputable def lwK (ss:List Stp) (i:Int):Nat->List (List Int)
 | 0=>[[i]]
 | k + 1=>(lwK ss i k).flatMap (onW (stp ss k))
noncomputable def act (s:Stp):Nat:=if s.1 ≠ "weigh" /\ s.2.2.num ≠ 0 then 1 else 0
noncomputable def a9:List Stp->Nat
 | []=>0
 | s :: ss=>act s + a9 ss
theorem pe (s:Stp) (t:Int):(gos s t).length<=2 ^ act s:=by
 unfold gos act
 split
 · simp
 · split
   · rename_i h
     rw [if_pos ⟨by rw [h.1]; decide +kernel,by omega⟩]
     simp
   · split
     · rename_i h
       rw [if_pos ⟨by rw [h.1]; decide +kernel,by omega⟩]
       simp
     · simp only [List.length_singleton]
       exact Nat.one_le_two_pow
theorem jP (ss:List Stp):∀ k,a9 (ss.take k)<=a9 ss:=by
 induction ss with
 | nil=>intro k; simp [a9]
 | cons s ss ih=>
   intro k
   cases k with
   | zero=>simp [a9]
   | succ k=>
     rw [List.take_succ_cons,a9,a9]
     have:=ih k
     omega
theorem qF (ss:List Stp) (s:Stp):a9 (ss++[s])=a9 ss + act s:=by
 induction ss with
 | nil=>simp [a9]
 | cons x ss ih=>rw [List.cons_append,a9,a9,ih]; omega
theorem j8 (ss:List Stp) (i:Int):∀ k,k<=ss.length->(lwK ss i k).length<=2 ^ a9 (ss.take k)
 | 0,_=>by simp [lwK,a9]
 | k + 1,hk=>by
   have ih:=j8 ss i k (by omega)
   have e:ss.take (k + 1)=ss.take k++[stp ss k]:=take_snoc (("weigh",0,0):Stp) (show k < ss.length by omega)
   rw [lwK,e,qF,Nat.pow_add]
   have:=cJ (onW (stp ss k)) (2 ^ act (stp ss k)) (lwK ss i k) λw _=>by unfold onW; rw [List.length_map]; exact pe _ _
   exact Nat.le_trans this (Nat.mul_le_mul_right _ ih)
theorem k6 (ss:List Stp) (i:Int):∀ k,∀ w ∈ lwK ss i k,w.length=k + 1
 | 0,w,h=>by rw [lwK,List.mem_singleton] at h; rw [h]; rfl
 | k + 1,w,h=>by
   rw [lwK,List.mem_flatMap] at h
   obtain ⟨w0,h0,h1⟩:=h
   unfold onW at h1
   obtain ⟨x,_,rfl⟩:=List.mem_map.mp h1
   rw [List.length_append,k6 ss i k w0 h0]
   rfl
noncomputable def lws (ss:List Stp) (i j:Int):List (List Int):=(lwK ss i ss.length).filter λw=>decide (bL w=j)
noncomputable def iU (ds:List D) (r:Sl):Prop:=∃ (T R C:Nat) (ss:List Stp) (i j:Nat),ds=[bA T R C ss,.int i,.int j]/\ss.length<=400/\a9 ss<=11/\r=.d (tbD (lws ss i j))
theorem sV {m:List (List Int)} (i:Nat) (h:i < (m.map rwD).length):(m.map rwD)[i]=rwD (m.getD i []):=by
 have:i < m.length:=by simpa using h
 simp [this]
theorem ya {ss:List Stp} (i:Nat) (h:i < (ss.map stD).length):(ss.map stD)[i]=stD (stp ss i):=by
 have:i < ss.length:=by simpa using h
 simp [stp,this]
theorem zb {m:List (List Int)} (p:List Int->Bool):(((List.range (m.map rwD).length).filter λi=>p (m.getD i [])).map λi=>rwD (m.getD i []))=(m.filter p).map rwD:=by
 rw [List.length_map]
 have key:∀ m:List (List Int),(((List.range m.length).filter λi=>p (m.getD i [])).map λi=>m.getD i [])=m.filter p:=by
   intro m
   induction m with
   | nil=>rfl
   | cons r m ih=>
     rw [List.length_cons,List.range_succ_eq_map,List.filter_cons]
     have e:(List.map Nat.succ (List.range m.length)).filter (λi=>p ((r :: m).getD i []))=(((List.range m.length).filter λi=>p (m.getD i [])).map Nat.succ):=by
       rw [List.filter_map]
       rfl
     rw [e]
     simp only [List.getD_cons_zero]
     cases hp:p r with
     | true=>
       rw [if_pos rfl,List.map_cons,List.filter_cons_of_pos hp,List.map_map]
       simp only [List.getD_cons_zero]
       congr 1
     | false=>
       rw [if_neg Bool.false_ne_true,List.filter_cons_of_neg (by rw [hp]; decide),List.map_map]
       exact ih
 rw [<- key m,List.map_map]
 rfl
mutual
theorem cK:∀ x:D,Ev.eqD x x=true
 | .non=>by rw [Ev.eqD]
 | .bl a=>by simp [Ev.eqD]
 | .int a=>by simp [Ev.eqD]
 | .str a=>by simp [Ev.eqD]
 | .tup xs=>by rw [Ev.eqD]; exact gx xs
 | .lst xs=>by rw [Ev.eqD]; exact gx xs
 | .box x=>by rw [Ev.eqD]
theorem gx:∀ xs:List D,Ev.fj xs xs=true
 | []=>by rw [Ev.fj]
 | x :: xs=>by rw [Ev.fj,cK x,gx xs]; rfl
end
theorem lr:∀ r:List Int,Ev.bh (r.map D.int)=true/\Ev.bu (r.map D.int)=0
 | []=>by simp [Ev.bh,Ev.bu]
 | x :: r=>by
   obtain ⟨h1,h2⟩:=lr r
   rw [List.map_cons,Ev.bh,Ev.bu,Ev.cln,Ev.dep,h1,h2]
   exact ⟨rfl,rfl⟩
theorem ij:∀ m:List (List Int),Ev.bh (m.map rwD)=true/\Ev.bu (m.map rwD)<=1
 | []=>by simp [Ev.bh,Ev.bu]
 | r :: m=>by
   obtain ⟨h1,h2⟩:=ij m
   obtain ⟨h3,h4⟩:=lr r
   rw [List.map_cons,Ev.bh,Ev.bu,h1,show rwD r=.lst (r.map .int) from rfl,Ev.cln,Ev.dep,h3,h4]
   exact ⟨rfl,by omega⟩
theorem sC (m:List (List Int)):Ev.cD (tbD m):=by
 obtain ⟨h1,h2⟩:=ij m
 unfold tbD Ev.cD
 rw [Ev.cln,Ev.dep,h1]
 exact ⟨rfl,by omega⟩
noncomputable def gv (ds:List D) (r:Sl):Prop:=∃ m:List (List Int),ds=[tbD m,tbD m]/\(∀ r ∈ m,r.length<=1000)/\r=.d (.bl true)
theorem uS (n:Nat) (f:Nat->Bool) (h:∀ i,i < n->f i=true):((List.range n).map f).all id=true:=by
 rw [List.all_map,List.all_eq_true]
 intro i hi
 exact h i (List.mem_range.mp hi)
theorem u5 (s:Stp) (c:List Int):(nxp s c).length<=2 ^ act s:=by
 have one:1<=2 ^ act s:=Nat.one_le_two_pow
 unfold nxp
 split
 · split
   · simp
   · exact one
 · rename_i hw
   split
   · exact one
   · rename_i h
     have:s.2.2.num ≠ 0:=λz=>h (.inl z)
     rw [show act s=1 from if_pos ⟨hw,this⟩]
     split <;> exact Nat.le_refl 2
theorem rJ {f:List Int->Int} {m:Int}:∀ qs:List (List Int),(∀ q ∈ qs,f q<=m)->(qs.map f).sum<=qs.length * m
 | [],_=>by simp
 | q :: qs,h=>by
   rw [List.map_cons,List.sum_cons,List.length_cons]
   have h1:=h q (List.mem_cons_self ..)
   have h2:=rJ qs λx hx=>h x (List.mem_cons_of_mem _ hx)
   have e:((qs.length + 1:Nat):Int) * m=qs.length * m + m:=by rw [Int.natCast_add,Int.add_mul]; simp
   rw [e]
   omega
theorem vC (T:Nat) (e:List Int):∀ (ss:List Stp) (q:List Int),nZ (cm T e ss) q<=2 ^ a9 ss
 | [],q=>by
   unfold nZ
   rw [cm,cv,List.find?_cons]
   split
   · exact Int.le_refl _
   · show (0:Int)<=1; decide
 | s :: ss,q=>by
   have ih:=vC T e ss
   have p0:(0:Int)<=2 ^ a9 ss:=by have:=nr T e ss q; have:=ih q; omega
   unfold nZ
   rw [cm,step_get]
   split
   · show cN s (cm T e ss) q<=_
     unfold cN
     rw [a9,Int.pow_add]
     refine Int.le_trans (rJ _ λx _=>ih x) (Int.mul_le_mul_of_nonneg_right ?_ p0)
     have:=u5 s q
     have h2:(((nxp s q).length:Nat):Int)<=((2 ^ act s:Nat):Int):=Int.ofNat_le.mpr this
     simpa using h2
   · have:(0:Int)<=2 ^ a9 (s :: ss):=by
       have:(0:Int)<=((2 ^ a9 (s :: ss):Nat):Int):=Int.natCast_nonneg _
       simpa using this
     exact this
section
variable {P:Program} {w:World} {K:PySem.W.Frag} {mg:Str->Option Value} {base:Heap} {k:Nat} {f:Addr} {fd:FuncData} {qual:Str}
theorem nU (F:Fun K "_law_whole" qual (top 41) f fd) (hb:∀ x ∈ ak,mg x=none):aQ P w K mg base CX0 (k + 1) f fd ["_law_thing"] (spD K gc):=by
 refine fnD F nX hb (by rintro _ _ ⟨_,rfl,_⟩; rfl) ?_
 rintro _ _ ⟨x,rfl,rfl⟩ cdv A outer s H E b
 exact aG (gE (cS .int b (aa 0)) λh=>(gH (vq (cS .bool b (aa 0))))) rfl
theorem qG (F:Fun K "_law_goes" qual (top 46) f fd) (hb:∀ x ∈ ak,mg x=none):aQ P w K mg base CX0 (k + 1) f fd ["_law_step","_law_track"] (spD K iP):=by
 refine fnD F jH hb (by rintro _ _ ⟨_,_,rfl,_⟩; rfl) ?_
 rintro _ _ ⟨⟨u,n,q⟩,t,rfl,rfl⟩ cdv A outer s H E b
 have nd:=jH.nd
 have d3:∀ {p1 p2 p3:Prop} [Decidable p1] [Decidable p2] [Decidable p3],((decide p1 && (decide p2 && decide p3))=true ↔ (p1/\p2/\p3)):=by intros; simp
 have d3':∀ {p1 p2 p3:Prop} [Decidable p1] [Decidable p2] [Decidable p3],((decide p1 && (decide p2 && decide p3))=false->¬ (p1/\p2/\p3)):=λ{p1 p2 p3} _ _ _ h z=>by rw [d3.mpr z] at h; cases h
 refine tV (aa 0) (vF b.calm (fD 2 nd (fD 3 nd (fD 4 nd sN)))) ?_
 refine cB (PW.pt (gC (aJ (aa 2) bq gK) λh=>(gC (aJ (aa 1) (aa 3) fq) λh=>(i7 (aJ (aC (aa 4) af (aE (ax (i:=0) rfl))) af fq))))) (λh=>?_) λh=>?_
 · refine aG (aL ag) ?_
   show Sl.o []=_
   rw [show gos (u,n,q) t=[] from if_pos (d3.mp h)]
   rfl
 have h1:=d3' h
 refine cB (PW.pt (gC (aJ (aa 2) bq gK) λh=>(gC (aJ (aa 1) (aa 3) fq) λh=>(i7 (aJ (aC (aa 4) af (aE (ax (i:=0) rfl))) af kZ))))) (λh=>?_) λh=>?_
 · refine aG (aL (ae (aa 3) (ae (aD (aa 3) af aW) ag))) ?_
   rw [show gos (u,n,q) t=[(n:Int),(n:Int) + 1] from (if_neg h1).trans (if_pos (d3.mp h))]
   rfl
 have h2:=d3' h
 refine cB (PW.pt (gC (aJ (aa 2) bq gK) λh=>(gC (aJ (aa 1) (aD (aa 3) af aW) fq) λh=>(i7 (aJ (aC (aa 4) af (aE (ax (i:=0) rfl))) af kZ))))) (λh=>?_) λh=>?_
 · refine aG (aL (ae (aa 3) (ae (aD (aa 3) af aW) ag))) ?_
   rw [show gos (u,n,q) t=[(n:Int),(n:Int) + 1] from (if_neg h1).trans ((if_neg h2).trans (if_pos (d3.mp h)))]
   rfl
 have h3:=d3' h
 refine aG (aL (ae (aa 1) ag)) ?_
 rw [show gos (u,n,q) t=[t] from (if_neg h1).trans ((if_neg h2).trans (if_neg h3))]
 rfl
theorem qD (F:Fun K "_law_ways" qual (top 47) f fd) (hb:∀ x ∈ ak,mg x=none) (c_l_goes:Cal P w K mg base k "_law_goes" iP):aQ P w K mg base CX0 (k + 1) f fd ["_law_ladder_here","_law_i","_law_j"] (spD K iU):=by
 refine fnD F jT hb (by rintro _ _ ⟨_,_,_,_,_,_,rfl,_⟩; rfl) ?_
 rintro _ _ ⟨T,R,C,ss,i,j,rfl,h400,ha,rfl⟩ cdv A outer s H E b
 have nd:=jT.nd
 have bound:∀ k,k<=ss.length->(lwK ss i k).length<=2048:=λk hk=>Nat.le_trans (j8 ss i k hk) (Nat.le_trans (Nat.pow_le_pow_right (by decide) (Nat.le_trans (jP ss k) ha)) (by decide))
 refine ay 3 nd (aR (aL (ae (aR (aL (ae (aa 1) ag))) ag))) ?_
 refine bY 4 (g:=λl=>stD (stp ss l)) (λl τ=>∃ s4 s5 s6,τ=[.d (bA T R C ss),.d (.int i),.d (.int j),.d (tbD (lwK ss i l)),s4,s5,s6]) b nd (aZ (aC (aa 0) af (aE (ax (i:=3) rfl)))) ya ⟨.un,.un,.un,rfl⟩ (λl hl τ h=>?_) λτ h=>?_
 · obtain ⟨s4,s5,s6,rfl⟩:=h
   have hl:l < ss.length:=by simpa using hl
   have bl:=bound l (by omega)
   have at_:=k6 ss i l
   have eK:lwK ss i (l + 1)=(lwK ss i l).flatMap (onW (stp ss l)):=rfl
   generalize stp ss l=sg at eK ⊢
   generalize lwK ss i l=ws at bl at_ eK ⊢
   refine ay 5 nd (aL ag) ?_
   refine bY 6 (g:=λn=>rwD (ws.getD n [])) (λn τ=>∃ s6,τ=[.d (bA T R C ss),.d (.int i),.d (.int j),.d (tbD ws),.d (stD sg),.o (((ws.take n).flatMap (onW sg)).map rwD),s6]) b nd (aZ (aa 3)) sV ⟨s6,rfl⟩ (λn hn τ h=>?_) λτ h=>?_
   · obtain ⟨s6,rfl⟩:=h
     have hn:n < ws.length:=by simpa using hn
     have wl:=at_ _ (cW (d:=[]) hn)
     have tk:(ws.take (n + 1)).flatMap (onW sg)=(ws.take n).flatMap (onW sg)++onW sg (ws.getD n []):=by rw [take_snoc [] hn,List.flatMap_append]; simp
     have g2:∀ t,(gos sg t).length<=2:=λt=>Nat.le_trans (pe sg t) (by unfold act; split <;> decide)
     have fl:=cJ (onW sg) 2 (ws.take n) λw _=>by unfold onW; rw [List.length_map]; exact g2 _
     rw [List.length_take] at fl
     generalize ws.getD n []=wy at wl tk ⊢
     have gl:=g2 (bL wy)
     refine tT 5 (gM (cmp 0 (f:=λm=>rwD (wy++[(gos sg (bL wy)).getD m 0])) b (aZ (aR (x_call b c_l_goes (ae (aa 4) (ae (aC (aa 6) (jC af) (aS (gX λz=>by rw [z] at wl; simp at wl))) ag)) ⟨sg,bL wy,rfl,rfl⟩))) mB (by rw [List.length_map]; omega) λm hm s0 H0 fp=>?_)) ?_ (aN ⟨.d (rwD wy),?_⟩)
     · rw [show rwD (wy++[(gos sg (bL wy)).getD m 0])=.lst (wy.map D.int++[.int ((gos sg (bL wy)).getD m 0)]) by unfold rwD; rw [List.map_append]; rfl]
       exact aR (oX (aa 1) (aR (aL (ae (aa 0) ag))) (by rw [List.length_map,wl]; show _ + 1 < _; omega))
     · rw [List.length_map,List.length_map,List.length_range,List.length_map]; omega
     · rw [tk,List.map_append]
       have e:(List.range ((gos sg (bL wy)).map D.int).length).map (λm=>rwD (wy++[(gos sg (bL wy)).getD m 0]))=(onW sg wy).map rwD:=by
         unfold onW
         rw [List.map_map]
         refine List.ext_getElem (by simp) λm h1 h2=>?_
         have:m < (gos sg (bL wy)).length:=by simpa using h1
         simp [this]
       rw [e]
       rfl
   · obtain ⟨s6,rfl⟩:=h
     refine qY 5 (ay 3 nd (aa 5) (aN ⟨.d (stD sg),.d (tbD (lwK ss i (l + 1))),s6,?_⟩))
     rw [List.length_map,List.take_of_length_le (Nat.le_refl _),eK]
     rfl
 · obtain ⟨s4,s5,s6,rfl⟩:=h
   rw [List.length_map]
   have bl:=bound ss.length (Nat.le_refl _)
   have at_:=k6 ss i ss.length
   refine aG (aR (gM (vE 0 (f:=λn=>rwD ((lwK ss i ss.length).getD n [])) (t:=λn=>decide (bL ((lwK ss i ss.length).getD n [])=(j:Int))) b (aZ (aa 3)) sV (by rw [List.length_map]; omega) (λn hn s0 H0 fp=>?_) λn hn _ s0 H0 fp=>aa 0))) ?_
   · have wl:=at_ _ (cW (d:=[]) (show n < (lwK ss i ss.length).length by simpa using hn))
     exact aJ (aC (aa 0) (jC af) (aS (gX λz=>by rw [z] at wl; simp at wl))) (aa 1) fq
   · rw [zb λw=>decide (bL w=(j:Int))]
     rfl
theorem nO (F:Fun K "_law_lists" qual (top 50) f fd) (hb:∀ x ∈ ak,mg x=none) (c_l_whole:Cal P w K mg base k "_law_whole" gc):aQ P w K mg base CX0 (k + 1) f fd ["_law_found","_law_due"] (spD K gv):=by
 refine fnD F ie hb (by rintro _ _ ⟨_,rfl,_⟩; rfl) ?_
 rintro _ _ ⟨m,rfl,hm,rfl⟩ cdv A outer s H E b
 have nd:=ie.nd
 refine bX (PW.pt (du (bg (a7 (cS .list b (aa 0)))) λh=>(dF (aJ (aa 0) (aa 1) (oE b (sC _) (sC _)))))) ?_ ?_
 · rw [cK]; rfl
 refine bY 2 (g:=λi=>rwD (m.getD i [])) (λi τ=>∃ s2,τ=[.d (tbD m),.d (tbD m),s2]) b nd (aZ (aa 0)) sV ⟨_,rfl⟩ (λi hi τ h=>?_) λτ h=>?_
 · obtain ⟨s2,rfl⟩:=h
   have hr:=hm _ (cW (d:=[]) (show i < m.length by simpa using hi))
   generalize m.getD i []=row at hr
   refine bX (PW.pt (du (bg (a7 (cS .list b (aa 2)))) λh=>(dF (bg (a7 (bR b (ae (aR (gM (cmp 0 (f:=λj=>.bl (whw (.int (row.getD j 0)))) b (aZ (aa 2)) mB (by rw [List.length_map]; omega) λj hj s0 H0 fp=>(x_call (b.comp s0 H0 _ fp) c_l_whole (ae (aa 0) ag) ⟨_,rfl,rfl⟩)))) ag) (pD b.calm ((List.range row.length).map λj=>whw (.int (row.getD j 0))) (by rw [List.length_map,List.map_map]; rfl)))))))) ?_ (aN ⟨_,rfl⟩)
   rw [uS row.length (λj=>whw (.int (row.getD j 0))) λ_ _=>rfl]
   rfl
 · obtain ⟨s2,rfl⟩:=h
   exact aG oo rfl
end
end K25
namespace K25
open PySem PySem.Spec PyProof.Rows L2 Hy
open Ev (D Den ar aU aP)
open Lc (bM ff)
noncomputable def eN (t:List (List Int)) (m:Nat):List (List Int):=(List.range m).map (gy t)
noncomputable def dQ (ds:List D) (r:Sl):Prop:=∃ (t:List (List Int)) (m:Nat),ds=[trD t]/\t ≠ []/\t.length<=1000/\(∀ c ∈ t,c.length=m)/\m<=7/\r=.n (cO (eN t m))
noncomputable def hU (T:Nat) (ms ns:List Int) (ss:List Stp):List (List (List Int)):=(trK T ms ns ss ss.length).map λt=>eN t ms.length
noncomputable def c9 (ds:List D) (r:Sl):Prop:=∃ (T R C:Nat) (ss:List Stp) (ns ms:List Int),ds=[bA T R C ss,.lst (ns.map .int),.lst (ms.map .int)]/\okL T R C ss/\ChO R ns/\ChO C ms/\ns.length=ms.length/\ms.length<=7/\nZ (cm T ms ss) ns<=3000/\r=.n (.l ((jj (hU T ms ns ss)).map cO))
section
variable {P:Program} {w:World} {K:PySem.W.Frag} {mg:Str->Option Value} {base:Heap} {k:Nat} {f:Addr} {fd:FuncData} {qual:Str}
theorem kP (F:Fun K "family_on" qual (top 34) f fd) (hb:∀ x ∈ ak,mg x=none) (c_way_on:Cal P w K mg base k "way_on" hV):aQ P w K mg base CX0 (k + 1) f fd ["trail"] (spD K dQ):=by
 refine fnD F kb hb (by rintro _ _ ⟨_,_,rfl,_⟩; rfl) ?_
 rintro _ _ ⟨t,m,rfl,t0,t1,hc,m7,rfl⟩ cdv A outer s H E b
 obtain ⟨c,t,rfl⟩:=List.exists_cons_of_ne_nil t0
 have cl:c.length=m:=hc c (List.mem_cons_self ..)
 have e0:atI ((c :: t).map tpD) 0=some (tpD c):=ax (i:=0) rfl
 have el:fK (Xc P w K mg base ["trail"] qual (top 34) f cdv A outer s H E) (.builtin "len") [tpD c] (.d (.int (m:Nat))):=by
   have:=ir (X:=Xc P w K mg base ["trail"] qual (top 34) f cdv A outer s H E) (xs:=c.map .int)
   rw [List.length_map,cl] at this
   exact this
 refine aG (vx (yq 0 (f:=λi=>iT (gy (c :: t) i)) (S':=λi=>.o ((gy (c :: t) i).map .int)) b (jZ (n:=(m:Nat)) b (bR b (ae (aC (aa 0) af (aS e0)) ag) el) (by omega) (by omega)) jD (by rw [aK]; omega) (λi hi s0 H0 fp=>?_) λi hi=>?_)) ?_
 · rw [aK,Int.toNat_natCast] at hi
   exact x_call (b.comp s0 H0 _ fp) c_way_on (ae (aa 1) (ae (aa 0) ag)) ⟨c :: t,i,rfl,t1,λx hx=>by rw [hc x hx]; exact hi,rfl⟩
 · show some (Nd.l _)=some (Nd.l _)
   rw [List.map_map]
   rfl
 · rw [aK,Int.toNat_natCast]
   unfold cO eN
   rw [List.map_map]
   rfl
theorem lV (F:Fun K "families" qual (top 33) f fd) (hb:∀ x ∈ ak,mg x=none) (c_look_ends:Cal P w K mg base k "look_ends" dH) (c_family_on:Cal P w K mg base k "family_on" dQ) (c_trails:Cal P w K mg base k "trails" hZ):aQ P w K mg base CX0 (k + 1) f fd ["ladder","rows","columns"] (spD K c9):=by
 refine fnD F mE hb (by rintro _ _ ⟨_,_,_,_,_,_,rfl,_⟩; rfl) ?_
 rintro _ _ ⟨T,R,C,ss,ns,ms,rfl,ok,hr,hc,hl,l7,h3,rfl⟩ cdv A outer s H E b
 have m0:ms ≠ []:=hc.ne
 have tl:=rL T ms ns ss
 have h400:=ok.len
 refine nY (x_call b c_look_ends (ae (aa 0) (ae (aa 1) (ae (aa 2) ag))) ⟨T,R,C,ss,ns,ms,rfl,ok,hr,hc,hl,rfl⟩) ?_
 have ef:(List.range ((trK T ms ns ss ss.length).map trD).length).map (λi=>cO (eN ((trK T ms ns ss ss.length).getD i []) ms.length))=(hU T ms ns ss).map cO:=by
   unfold hU
   refine List.ext_getElem (by simp) λi g1 g2=>?_
   have:i < (trK T ms ns ss ss.length).length:=by simpa using g2
   simp [this]
 refine aG (wu (fs:=hU T ms ns ss) b ?_) rfl
 rw [<- ef]
 refine vx (yq 0 (g:=λi=>trD ((trK T ms ns ss ss.length).getD i [])) (f:=λi=>cO (eN ((trK T ms ns ss ss.length).getD i []) ms.length)) (S':=λi=>.n (cO (eN ((trK T ms ns ss ss.length).getD i []) ms.length))) b (aZ (x_call b c_trails (ae (aa 0) (ae (mL b (ae (aa 1) ag) m9) (ae (mL b (ae (aa 2) ag) m9) ag))) ⟨T,R,C,ss,ns,ms,rfl,ok,m0,l7,h3,rfl⟩)) (λi hi=>?_) (by rw [List.length_map]; omega) (λi hi s0 H0 fp=>?_) λi hi=>rfl)
 · have:i < (trK T ms ns ss ss.length).length:=by simpa using hi
   simp [this]
 · rw [List.length_map] at hi
   have mt:(trK T ms ns ss ss.length).getD i [] ∈ trK T ms ns ss ss.length:=by
     rw [List.getD,List.getElem?_eq_getElem hi]
     exact List.getElem_mem hi
   have t1:=((gh T ms ns ss ss.length (Nat.le_refl _)).1 _ mt).1
   exact x_call (b.comp s0 H0 _ fp) c_family_on (ae (aa 0) ag) ⟨_,ms.length,rfl,λz=>by rw [z] at t1; simp at t1,by omega,rG T ms ns ss hl ss.length (Nat.le_refl _) _ mt,l7,rfl⟩
end
end K25
namespace K25
open PySem PySem.Spec PyProof.Rows L2 Hy
open Ev (D Den ar aU aP)
theorem xT:("down" : Str) ≠ "weigh":=by decide +kernel
theorem yK:("up" : Str) ≠ "weigh":=by decide +kernel
theorem u3:("up" : Str) ≠ "down":=by decide +kernel
theorem m6 {c:List Int} {x:Int} (h:has c x=false):∀ a,a < c.length->c.getD a 0 ≠ x:=λa ha e=>by
 have:has c x=true:=fU.mpr ⟨a,ha,e⟩
 rw [h] at this; cases this
theorem vh (s:Stp):(rgS s:Int) ≠ rgE s:=by
 unfold rgS rgE
 split <;> omega
theorem fR {T:Nat} {s:Stp} (h:okS T s) (hw:s.1 ≠ "weigh") (t x:Int):x ∈ gos s t ↔ x=t\/(t=(rgS s:Nat)/\0 < s.2.2.num/\x=(rgE s:Nat)):=by
 rcases h.2 with ⟨h1,_⟩ | ⟨h1,_⟩
 · exact absurd h1 hw
 · rcases h1 with h1 | h1
   · unfold gos rgS rgE
     rw [h1,if_neg (λz=>xT z.1),if_pos (show ("down" : Str) = "down" from rfl),if_pos (show ("down" : Str) = "down" from rfl)]
     by_cases c:t=(s.2.1:Nat)/\0 < s.2.2.num
     · rw [if_pos ⟨rfl,c⟩]
       simp only [List.mem_cons,List.not_mem_nil,or_false]
       constructor
       · rintro (rfl | rfl)
         · exact .inl c.1.symm
         · exact .inr ⟨c.1,c.2,by push_cast; rfl⟩
       · rintro (rfl | ⟨_,_,rfl⟩)
         · exact .inl c.1
         · exact .inr (by push_cast; rfl)
     · rw [if_neg (λz=>c z.2),if_neg (λz=>u3 z.1.symm),List.mem_singleton]
       exact ⟨.inl,λz=>z.elim id λz=>absurd ⟨z.1,z.2.1⟩ c⟩
   · unfold gos rgS rgE
     rw [h1,if_neg (λz=>yK z.1),if_neg (λz=>u3 z.1),if_neg (λz=>u3 z),if_neg (λz=>u3 z)]
     by_cases c:t=(s.2.1:Nat) + 1/\0 < s.2.2.num
     · rw [if_pos ⟨rfl,c⟩]
       simp only [List.mem_cons,List.not_mem_nil,or_false]
       constructor
       · rintro (rfl | rfl)
         · exact .inr ⟨by push_cast; exact c.1,c.2,rfl⟩
         · exact .inl c.1.symm
       · rintro (rfl | ⟨_,_,rfl⟩)
         · exact .inr c.1
         · exact .inl rfl
     · rw [if_neg (λz=>c z.2),List.mem_singleton]
       exact ⟨.inl,λz=>z.elim id λz=>absurd ⟨by have:=z.1; push_cast at this; exact this,z.2.1⟩ c⟩
theorem cU {s:Stp} (hw:s.1 = "weigh") (t x:Int):x ∈ gos s t ↔ x=t/\¬(t=(s.2.1:Nat)/\s.2.2.num=0):=by
 unfold gos
 by_cases c:t=(s.2.1:Nat)/\s.2.2.num=0
 · rw [if_pos ⟨hw,c⟩]
   exact ⟨λz=>(nomatch z),λz=>absurd c z.2⟩
 · rw [if_neg (λz=>c z.2),hw,if_neg (λz=>xT z.1.symm),if_neg (λz=>yK z.1.symm),List.mem_singleton]
   exact ⟨λz=>⟨z,c⟩,λz=>z.1⟩
theorem gF {x y:List Int} (h:x.length=y.length) (e:∀ a,a < y.length->x.getD a 0=y.getD a 0):x=y:=by
 refine List.ext_getElem h λi h1 h2=>?_
 have:=e i h2
 simpa [List.getD,h1,h2] using this
theorem nW {T m:Nat} {s:Stp} {c q:List Int} (h:okS T s) (hc:Rs T m c):q ∈ nxp s c ↔ q.length=m/\(∀ a,a < m->q.getD a 0 ∈ gos s (c.getD a 0))/\∀ a b,a < b->b < m->q.getD a 0 ≠ q.getD b 0:=by
 have lc:=hc.len
 have dc:∀ a b,a < b->b < m->c.getD a 0 ≠ c.getD b 0:=λa b hab hb=>by have:=hc.mono hab hb; omega
 have ge:=vh s
 unfold nxp
 by_cases hw:s.1 = "weigh"
 · rw [if_pos hw]
   by_cases z:s.2.2.num=0/\has c s.2.1=true
   · rw [if_pos z]
     obtain ⟨a,ha,e⟩:=fU.mp z.2
     refine ⟨λy=>(nomatch y),λ⟨_,y,_⟩=>absurd ⟨e,z.1⟩ ((cU hw _ _).mp (y a (by omega))).2⟩
   · rw [if_neg z,List.mem_singleton]
     constructor
     · rintro rfl
       refine ⟨lc,λa ha=>(cU hw _ _).mpr ⟨rfl,λy=>z ⟨y.2,fU.mpr ⟨a,by omega,y.1⟩⟩⟩,dc⟩
     · rintro ⟨l,y,_⟩
       exact gF (l.trans lc.symm) λa ha=>((cU hw _ _).mp (y a (by omega))).1
 · rw [if_neg hw]
   have gr:=fR h hw
   have mv:∀ a,a < m->(mvd (rgS s) (rgE s) c).getD a 0=if c.getD a 0=(rgS s:Int) then (rgE s:Int) else c.getD a 0:=λa ha=>sP (by omega)
   have lm:(mvd (rgS s) (rgE s) c).length=m:=by unfold mvd; rw [List.length_map,lc]
   by_cases z:s.2.2.num=0\/has c (rgS s)=false\/has c (rgE s)=true
   · rw [if_pos z,List.mem_singleton]
     constructor
     · rintro rfl
       exact ⟨lc,λa ha=>(gr _ _).mpr (.inl rfl),dc⟩
     · rintro ⟨l,y,d⟩
       refine gF (l.trans lc.symm) λa ha=>?_
       have ha':a < m:=by omega
       rcases (gr _ _).mp (y a ha') with e | ⟨e1,e2,e3⟩
       · exact e
       · rcases z with z | z | z
         · omega
         · exact absurd e1 (m6 z a ha)
         · obtain ⟨b,hb,eb⟩:=fU.mp z
           have hb':b < m:=by omega
           have qb:q.getD b 0=(rgE s:Int):=by
             rcases (gr _ _).mp (y b hb') with e | ⟨f1,_,_⟩
             · rw [e,eb]
             · rw [eb] at f1; exact absurd f1.symm ge
           have ne:a ≠ b:=λe=>by rw [e,eb] at e1; exact ge e1.symm
           rcases Nat.lt_or_gt_of_ne ne with lt | lt
           · exact absurd (e3.trans qb.symm) (d a b lt hb')
           · exact absurd (qb.trans e3.symm) (d b a lt ha')
   · rw [if_neg z]
     have z1:0 < s.2.2.num:=by
       have:=h.1
       have:s.2.2.num ≠ 0:=λe=>z (.inl e)
       omega
     have z2:has c (rgE s)=false:=by
       cases e:has c (rgE s) with
       | false=>rfl
       | true=>exact absurd (.inr (.inr e)) z
     have key:(q ∈ if HT.lexLt (mvd (rgS s) (rgE s) c) c then [mvd (rgS s) (rgE s) c,c] else [c,mvd (rgS s) (rgE s) c]) ↔ q=c\/q=mvd (rgS s) (rgE s) c:=by
       split <;> simp [or_comm]
     rw [key]
     constructor
     · rintro (rfl | rfl)
       · exact ⟨lc,λa ha=>(gr _ _).mpr (.inl rfl),dc⟩
       · refine ⟨lm,λa ha=>?_,λa b hab hb=>?_⟩
         · rw [mv a ha]
           split
           · rename_i e; exact (gr _ _).mpr (.inr ⟨e,z1,rfl⟩)
           · exact (gr _ _).mpr (.inl rfl)
         · rw [mv a (by omega),mv b hb]
           have n1:=m6 z2 a (by omega)
           have n2:=m6 z2 b (by omega)
           have:=dc a b hab hb
           split <;> split <;> omega
     · rintro ⟨l,y,d⟩
       by_cases t:∃ a,a < m/\q.getD a 0 ≠ c.getD a 0
       · right
         obtain ⟨a,ha,ne⟩:=t
         obtain ⟨e1,e2,e3⟩:=((gr _ _).mp (y a ha)).resolve_left ne
         refine gF (l.trans lm.symm) λb hb=>?_
         have hb':b < m:=by omega
         rw [mv b hb']
         by_cases ab:c.getD b 0=(rgS s:Int)
         · have:a=b:=by
             rcases Nat.lt_trichotomy a b with lt | e | lt
             · exact absurd (e1.trans ab.symm) (dc a b lt hb')
             · exact e
             · exact absurd (ab.trans e1.symm) (dc b a lt ha)
           rw [if_pos ab,<- this,e3]
         · rw [if_neg ab]
           rcases (gr _ _).mp (y b hb') with e | ⟨f1,_,_⟩
           · exact e
           · exact absurd f1 ab
       · left
         exact gF (l.trans lc.symm) λa ha=>Classical.byContradiction λe=>t ⟨a,by omega,e⟩
theorem vo {T m:Nat} {s:Stp} {c q:List Int} (h:okS T s) (hc:Rs T m c) (hq:q ∈ nxp s c):Rs T m q:=by
 obtain ⟨l,y,d⟩:=(nW h hc).mp hq
 have near:∀ a,a < m->(q.getD a 0=c.getD a 0\/q.getD a 0=c.getD a 0 + 1\/q.getD a 0=c.getD a 0 - 1)/\0<=q.getD a 0/\q.getD a 0 < T:=λa ha=>by
   have b:=hc.bd a ha
   by_cases hw:s.1 = "weigh"
   · have:=((cU hw _ _).mp (y a ha)).1
     omega
   · rcases (fR h hw _ _).mp (y a ha) with e | ⟨e1,_,e3⟩
     · omega
     · have hr:((rgE s:Int)=rgS s + 1\/(rgE s:Int)=rgS s - 1)/\(rgE s:Int) < T:=by
         rcases h.2 with ⟨z,_⟩ | ⟨_,z⟩
         · exact absurd z hw
         · unfold rgS rgE
           split <;> omega
       omega
 have one:∀ a b,a < b->b < m->¬(q.getD a 0 ≠ c.getD a 0/\q.getD b 0 ≠ c.getD b 0):=λa b hab hb ⟨h1,h2⟩=>by
   by_cases hw:s.1 = "weigh"
   · exact h1 ((cU hw _ _).mp (y a (by omega))).1
   · obtain ⟨e1,_,_⟩:=((fR h hw _ _).mp (y a (by omega))).resolve_left h1
     obtain ⟨f1,_,_⟩:=((fR h hw _ _).mp (y b hb)).resolve_left h2
     have:=hc.mono hab hb
     omega
 refine ⟨l,λa ha=>?_,λa ha=>(near a ha).2⟩
 have n1:=(near a (by omega)).1
 have n2:=(near (a + 1) ha).1
 have o:=one a (a + 1) (by omega) ha
 have u:=hc.up a ha
 have dd:=d a (a + 1) (by omega) ha
 omega
section
variable {P:Program} {w:World} {K:PySem.W.Frag} {mg:Str->Option Value} {base:Heap} {k:Nat} {f:Addr} {fd:FuncData} {qual:Str}
end
structure JT (ss:List Stp) (n:Nat) (st:List Int) (t:List (List Int)):Prop where
 len:t.length=n + 1
 beg:t.getD 0 []=st
 nx:∀ k,k < n->t.getD (k + 1) [] ∈ nxp (ss.getD k ("weigh",0,0)) (t.getD k [])
theorem JT.rs {T m n:Nat} {ss:List Stp} {st:List Int} {t:List (List Int)} (hs:∀ s ∈ ss,okS T s) (hn:n<=ss.length) (h:JT ss n st t) (r:Rs T m st):∀ k,k<=n->Rs T m (t.getD k [])
 | 0,_=>by rw [h.beg]; exact r
 | k + 1,hk=>vo (hs _ (by rw [List.getD,List.getElem?_eq_getElem (show k < ss.length by omega)]; exact List.getElem_mem _)) (h.rs hs hn r k (by omega)) (h.nx k (by omega))
theorem rO {f:List Int->Int} (h:∀ q,0<=f q):∀ {qs:List (List Int)} {q:List Int},q ∈ qs->f q<=(qs.map f).sum
 | x :: qs,q,hq=>by
   have nn:∀ qs:List (List Int),0<=(qs.map f).sum:=λqs=>by
     induction qs with
     | nil=>exact Int.le_refl _
     | cons x qs ih=>rw [List.map_cons,List.sum_cons]; have:=h x; omega
   rw [List.map_cons,List.sum_cons]
   rcases List.mem_cons.mp hq with rfl | hq
   · have:=nn qs; omega
   · have:=rO h hq; have:=h x; omega
theorem bf {t:List (List Int)} {q:List Int} {k:Nat} (h:k < t.length):(t++[q]).getD k []=t.getD k []:=by simp [List.getD,List.getElem?_append_left h]
theorem eY {t:List (List Int)} {q:List Int} {k:Nat} (h:k=t.length):(t++[q]).getD k []=q:=by subst h; simp [List.getD]
theorem eD {T m:Nat} {e st:List Int} {ss:List Stp} (hs:∀ s ∈ ss,okS T s) (he:e.length=m) (r:Rs T m st):∀ n,n<=ss.length->∀ t,t ∈ trK T e st ss n ↔ JT ss n st t/\0 < nZ (cm T e (ss.drop n)) (a6 t)
 | 0,_,t=>by
   rw [trK,List.drop_zero]
   constructor
   · intro h
     split at h
     · rename_i z
       rw [List.mem_singleton] at h
       subst h
       exact ⟨⟨rfl,rfl,λk hk=>by omega⟩,z⟩
     · cases h
   · rintro ⟨⟨l,b,_⟩,z⟩
     match t,l with
     | [x],_=>
       have b:x=st:=b
       subst b
       rw [if_pos (show 0 < nZ (cm T e ss) x from z),List.mem_singleton]
 | n + 1,hn,t=>by
   have hk:n < ss.length:=by omega
   have ho:okS T (ss.getD n ("weigh",0,0)):=hs _ (by rw [List.getD,List.getElem?_eq_getElem hk]; exact List.getElem_mem _)
   have al:∀ q,alv (cm T e (ss.drop (n + 1))) q=true ↔ 0 < nZ (cm T e (ss.drop (n + 1))) q:=λq=>by
     have:=@fX T e (ss.drop (n + 1)) q
     constructor
     · intro h; have:=this.1 h; omega
     · intro h
       cases z:alv (cm T e (ss.drop (n + 1))) q with
       | true=>rfl
       | false=>rw [this.2 z] at h; omega
   rw [trK]
   unfold lgT onT
   simp only [List.mem_flatMap,List.mem_map,List.mem_filter]
   constructor
   · rintro ⟨t0,h0,q,⟨hq,hz⟩,rfl⟩
     obtain ⟨j,_⟩:=(eD hs he r n (by omega) t0).mp h0
     have l0:=j.len
     refine ⟨⟨by rw [List.length_append,l0]; rfl,by rw [bf (by omega)]; exact j.beg,λk hk=>?_⟩,by rw [lst_snoc]; exact (al q).mp hz⟩
     by_cases c:k < n
     · rw [bf (by omega),bf (by omega)]; exact j.nx k c
     · have:k=n:=by omega
       subst this
       rw [eY l0.symm,bf (by omega)]
       have:a6 t0=t0.getD k []:=by unfold a6; rw [l0]; rfl
       rw [<- this]; exact hq
   · rintro ⟨j,z⟩
     have lt:=j.len
     have e0:t=t.take (n + 1)++[t.getD (n + 1) []]:=by
       have hl:n + 1 < t.length:=by omega
       conv=>lhs; rw [<- List.take_append_drop (n + 1) t,List.drop_eq_getElem_cons hl,List.drop_of_length_le (by omega)]
       simp [List.getD,hl]
     have g:∀ k,k < n + 1->(t.take (n + 1)).getD k []=t.getD k []:=λk hk=>by simp [List.getD,List.getElem?_take,hk]
     have j0:JT ss n st (t.take (n + 1)):=⟨by rw [List.length_take]; omega,by rw [g 0 (by omega)]; exact j.beg,λk hk=>by rw [g _ (by omega),g _ (by omega)]; exact j.nx k (by omega)⟩
     have ll:a6 (t.take (n + 1))=t.getD n []:=by
       unfold a6
       rw [j0.len]
       exact g n (by omega)
     have lq:a6 t=t.getD (n + 1) []:=by unfold a6; rw [lt]; rfl
     rw [lq] at z
     have hq:=j.nx n (by omega)
     refine ⟨t.take (n + 1),(eD hs he r n (by omega) _).mpr ⟨j0,?_⟩,t.getD (n + 1) [],⟨by rw [ll]; exact hq,(al _).mpr z⟩,e0.symm⟩
     rw [ll,oV hk,u9 (by rw [he]; exact j.rs hs hn r n (by omega))]
     unfold cN
     have:=rO (f:=nZ (cm T e (ss.drop (n + 1)))) (λq=>nr T e _ q) hq
     omega
structure WO (ss:List Stp) (i j:Int) (w:List Int):Prop where
 len:w.length=ss.length + 1
 beg:w.getD 0 0=i
 nx:∀ k,k < ss.length->w.getD (k + 1) 0 ∈ gos (ss.getD k ("weigh",0,0)) (w.getD k 0)
 fin:w.getD ss.length 0=j
theorem fu {t:List (List Int)} {a k:Nat} (h:k < t.length):(gy t a).getD k 0=(t.getD k []).getD a 0:=by simp [gy,List.getD,h]
structure FO (ss:List Stp) (ns ms:List Int) (f:List (List Int)):Prop where
 len:f.length=ns.length
 wy:∀ a,a < ns.length->WO ss (ns.getD a 0) (ms.getD a 0) (f.getD a [])
 ap:∀ a b,a < b->b < ns.length->∀ k,k<=ss.length->(f.getD a []).getD k 0 ≠ (f.getD b []).getD k 0
theorem uO {T m:Nat} {ns ms:List Int} {ss:List Stp} (hs:∀ s ∈ ss,okS T s) (rn:Rs T m ns) (rm:Rs T m ms) (f:List (List Int)):f ∈ hU T ms ns ss ↔ FO ss ns ms f:=by
 have ln:=rn.len
 have lm:=rm.len
 have hok:∀ k,k < ss.length->okS T (ss.getD k ("weigh",0,0)):=λk hk=>hs _ (by rw [List.getD,List.getElem?_eq_getElem hk]; exact List.getElem_mem _)
 have endp:∀ q,0 < nZ (cm T ms (ss.drop ss.length)) q ↔ q=ms:=λq=>by
   rw [List.drop_length]
   unfold nZ
   rw [cm,cv,List.find?_cons]
   by_cases c:ms=q
   · subst c; simp
   · have:¬ q=ms:=λz=>c z.symm
     simp [c,this]
 unfold hU
 rw [List.mem_map]
 constructor
 · rintro ⟨t,ht,rfl⟩
   obtain ⟨j,z⟩:=(eD hs lm rn ss.length (Nat.le_refl _) t).mp ht
   have lt:=j.len
   have le:t.getD ss.length []=ms:=by
     have:a6 t=t.getD ss.length []:=by unfold a6; rw [lt]; rfl
     rw [<- this]
     exact (endp _).mp z
   have fa:∀ a,a < m->(eN t ms.length).getD a []=gy t a:=λa ha=>by unfold eN; simp [List.getD,lm,ha]
   have wl:∀ a,(gy t a).length=ss.length + 1:=λa=>by unfold gy; rw [List.length_map,lt]
   refine ⟨by unfold eN; rw [List.length_map,List.length_range,ln,lm],λa ha=>?_,λa b hab hb k hk=>?_⟩
   · rw [fa a (by omega)]
     refine ⟨wl a,by rw [fu (by omega),j.beg],λk hk=>?_,by rw [fu (by omega),le]⟩
     rw [fu (by omega),fu (by omega)]
     exact ((nW (hok k hk) (j.rs hs (Nat.le_refl _) rn k (by omega))).mp (j.nx k hk)).2.1 a (by omega)
   · rw [fa a (by omega),fa b (by omega),fu (by omega),fu (by omega)]
     have:=(j.rs hs (Nat.le_refl _) rn k hk).mono hab (by omega)
     omega
 · rintro ⟨lf,hw,hap⟩
   let t:List (List Int):=(List.range (ss.length + 1)).map λk=>(List.range m).map λa=>(f.getD a []).getD k 0
   have lt:t.length=ss.length + 1:=by simp [t]
   have tk:∀ k,k<=ss.length->t.getD k []=(List.range m).map λa=>(f.getD a []).getD k 0:=λk hk=>by simp [t,List.getD,show k < ss.length + 1 by omega]
   have ta:∀ k a,k<=ss.length->a < m->(t.getD k []).getD a 0=(f.getD a []).getD k 0:=λk a hk ha=>by rw [tk k hk]; simp [List.getD,ha]
   have tl:∀ k,k<=ss.length->(t.getD k []).length=m:=λk hk=>by rw [tk k hk]; simp
   have beg:t.getD 0 []=ns:=gF ((tl 0 (by omega)).trans ln.symm) λa ha=>by rw [ta 0 a (by omega) (by omega)]; exact (hw a ha).beg
   have rs:∀ k,k<=ss.length->Rs T m (t.getD k [])/\∀ i,i < k->t.getD (i + 1) [] ∈ nxp (ss.getD i ("weigh",0,0)) (t.getD i []):=by
     intro k
     induction k with
     | zero=>exact λ_=>⟨by rw [beg]; exact rn,λi hi=>by omega⟩
     | succ k ih=>
       intro hk
       obtain ⟨r,nx⟩:=ih (by omega)
       have q:t.getD (k + 1) [] ∈ nxp (ss.getD k ("weigh",0,0)) (t.getD k []):=(nW (hok k (by omega)) r).mpr ⟨tl (k + 1) hk,λa ha=>by
         rw [ta (k + 1) a hk ha,ta k a (by omega) ha]
         exact (hw a (by omega)).nx k (by omega),λa b hab hb=>by
         rw [ta (k + 1) a hk (by omega),ta (k + 1) b hk hb]
         exact hap a b hab (by omega) (k + 1) hk⟩
       refine ⟨vo (hok k (by omega)) r q,λi hi=>?_⟩
       by_cases c:i < k
       · exact nx i c
       · rw [show i=k by omega]; exact q
   have last:a6 t=ms:=by
     have:a6 t=t.getD ss.length []:=by unfold a6; rw [lt]; rfl
     rw [this]
     exact gF ((tl _ (Nat.le_refl _)).trans lm.symm) λa ha=>by rw [ta _ a (Nat.le_refl _) (by omega)]; exact (hw a (by omega)).fin
   refine ⟨t,(eD hs lm rn ss.length (Nat.le_refl _) t).mpr ⟨⟨lt,beg,λk hk=>(rs ss.length (Nat.le_refl _)).2 k hk⟩,by rw [last]; exact (endp ms).mpr rfl⟩,?_⟩
   refine List.ext_getElem (by unfold eN; rw [List.length_map,List.length_range]; omega) λa h1 h2=>?_
   have ha:a < m:=by omega
   have e:(eN t ms.length)[a]=gy t a:=by simp [eN]
   rw [e]
   have ef:f[a]=f.getD a []:=by simp [List.getD,h2]
   rw [ef]
   refine gF (by unfold gy; rw [List.length_map,lt,(hw a (by omega)).len]) λk hk=>?_
   rw [(hw a (by omega)).len] at hk
   rw [fu (by omega),ta k a (by omega) ha]
section
variable {P:Program} {w:World} {K:PySem.W.Frag} {mg:Str->Option Value} {base:Heap} {k:Nat} {f:Addr} {fd:FuncData} {qual:Str}
end
end K25
namespace K25
open PySem PySem.Spec PyProof.Rows L2 Hy
open Ev (D Den ar aU aP)
open Lc (ltI ltF ltL fJ Ord)
theorem kM {ss:List Stp} {i:Int}:∀ n,n<=ss.length->∀ w,w ∈ lwK ss i n ↔ w.length=n + 1/\w.getD 0 0=i/\∀ k,k < n->w.getD (k + 1) 0 ∈ gos (ss.getD k ("weigh",0,0)) (w.getD k 0)
 | 0,_,w=>by
   rw [lwK,List.mem_singleton]
   constructor
   · rintro rfl; exact ⟨rfl,rfl,λk hk=>by omega⟩
   · rintro ⟨l,b,_⟩
     match w,l with
     | [x],_=>have b:x=i:=b; rw [b]
 | n + 1,hn,w=>by
   rw [lwK,List.mem_flatMap]
   have gs:∀ {v:List Int} {x:Int} {k:Nat},k < v.length->(v++[x]).getD k 0=v.getD k 0:=λh=>by simp [List.getD,List.getElem?_append_left h]
   have gl:∀ {v:List Int} {x:Int} {k:Nat},k=v.length->(v++[x]).getD k 0=x:=λh=>by subst h; simp [List.getD]
   constructor
   · rintro ⟨v,hv,h⟩
     unfold onW at h
     obtain ⟨x,hx,rfl⟩:=List.mem_map.mp h
     obtain ⟨l,b,nx⟩:=(kM n (by omega) v).mp hv
     refine ⟨by rw [List.length_append,l]; rfl,by rw [gs (by omega)]; exact b,λk hk=>?_⟩
     by_cases c:k < n
     · rw [gs (by omega),gs (by omega)]; exact nx k c
     · have:k=n:=by omega
       subst this
       rw [gl l.symm,gs (by omega)]
       have:bL v=v.getD k 0:=by unfold bL; rw [l]; rfl
       rw [<- this]; exact hx
   · rintro ⟨l,b,nx⟩
     have e0:w=w.take (n + 1)++[w.getD (n + 1) 0]:=by
       have hl:n + 1 < w.length:=by omega
       conv=>lhs; rw [<- List.take_append_drop (n + 1) w,List.drop_eq_getElem_cons hl,List.drop_of_length_le (by omega)]
       simp [List.getD,hl]
     have g:∀ k,k < n + 1->(w.take (n + 1)).getD k 0=w.getD k 0:=λk hk=>by simp [List.getD,List.getElem?_take,hk]
     have l0:(w.take (n + 1)).length=n + 1:=by rw [List.length_take]; omega
     refine ⟨w.take (n + 1),(kM n (by omega) _).mpr ⟨l0,by rw [g 0 (by omega)]; exact b,λk hk=>by rw [g _ (by omega),g _ (by omega)]; exact nx k (by omega)⟩,?_⟩
     unfold onW
     rw [List.mem_map]
     refine ⟨w.getD (n + 1) 0,?_,e0.symm⟩
     have:bL (w.take (n + 1))=w.getD n 0:=by unfold bL; rw [l0]; exact g n (by omega)
     rw [this]; exact nx n (by omega)
theorem pq {ss:List Stp} {i j:Int} {w:List Int}:w ∈ lws ss i j ↔ WO ss i j w:=by
 unfold lws
 rw [List.mem_filter,kM _ (Nat.le_refl _),decide_eq_true_eq]
 constructor
 · rintro ⟨⟨l,b,nx⟩,e⟩
   refine ⟨l,b,nx,?_⟩
   rw [<- e]; unfold bL; rw [l]; rfl
 · rintro ⟨l,b,nx,e⟩
   refine ⟨⟨l,b,nx⟩,?_⟩
   rw [<- e]; unfold bL; rw [l]; rfl
noncomputable def apW (w o:List Int):Bool:=(w.zip o).all λp=>!decide (p.1=p.2)
noncomputable def apt (f:List (List Int)) (w:List Int):Bool:=f.all (apW w)
noncomputable def lfK (ss:List Stp) (ns ms:List Int):Nat->List (List (List Int))
 | 0=>[[]]
 | k + 1=>(lfK ss ns ms k).flatMap λf=>((lws ss (ns.getD k 0) (ms.getD k 0)).filter (apt f)).map λw=>f++[w]
theorem pb {w o:List Int} {n:Nat} (h1:w.length=n + 1) (h2:o.length=n + 1):apW w o=true ↔ ∀ k,k<=n->w.getD k 0 ≠ o.getD k 0:=by
 unfold apW
 rw [List.all_eq_true]
 constructor
 · intro h k hk
   have:=h (w.getD k 0,o.getD k 0) (by
     rw [List.mem_iff_getElem?]
     refine ⟨k,?_⟩
     rw [List.getElem?_zip_eq_some]
     simp [List.getD,show k < w.length by omega,show k < o.length by omega])
   simpa using this
 · rintro h ⟨x,y⟩ hp
   obtain ⟨k,hk⟩:=List.mem_iff_getElem?.mp hp
   rw [List.getElem?_zip_eq_some] at hk
   have hl:=(List.getElem?_eq_some_iff.mp hk.1).1
   have:=h k (by omega)
   simp only [List.getD,hk.1,hk.2,Option.getD_some] at this
   simpa using this
theorem eC {ss:List Stp} {ns ms:List Int}:∀ m f,f ∈ lfK ss ns ms m ↔ f.length=m/\(∀ a,a < m->WO ss (ns.getD a 0) (ms.getD a 0) (f.getD a []))/\∀ a b,a < b->b < m->∀ k,k<=ss.length->(f.getD a []).getD k 0 ≠ (f.getD b []).getD k 0
 | 0,f=>by
   rw [lfK,List.mem_singleton]
   exact ⟨λh=>by subst h; exact ⟨rfl,λa ha=>by omega,λa b _ hb=>by omega⟩,λh=>List.length_eq_zero_iff.mp h.1⟩
 | m + 1,f=>by
   rw [lfK,List.mem_flatMap]
   constructor
   · rintro ⟨g,hg,h⟩
     obtain ⟨w,hw,rfl⟩:=List.mem_map.mp h
     rw [List.mem_filter] at hw
     obtain ⟨l,wy,ap⟩:=(eC m g).mp hg
     have ow:=pq.mp hw.1
     refine ⟨by rw [List.length_append,l]; rfl,λa ha=>?_,λa b hab hb k hk=>?_⟩
     · by_cases c:a < m
       · rw [bf (by omega)]; exact wy a c
       · rw [show a=m by omega,eY l.symm]; exact ow
     · by_cases c:b < m
       · rw [bf (by omega),bf (by omega)]; exact ap a b hab c k hk
       · rw [show b=m by omega,eY l.symm,bf (by omega)]
         have:=hw.2
         unfold apt at this
         rw [List.all_eq_true] at this
         have ga:g.getD a [] ∈ g:=by rw [List.getD,List.getElem?_eq_getElem (by omega)]; exact List.getElem_mem _
         exact λe=>(pb ow.len (wy a (by omega)).len).mp (this _ ga) k hk e.symm
   · rintro ⟨l,wy,ap⟩
     have e0:f=f.take m++[f.getD m []]:=by
       have hl:m < f.length:=by omega
       conv=>lhs; rw [<- List.take_append_drop m f,List.drop_eq_getElem_cons hl,List.drop_of_length_le (by omega)]
       simp [List.getD,hl]
     have g:∀ k,k < m->(f.take m).getD k []=f.getD k []:=λk hk=>by simp [List.getD,List.getElem?_take,hk]
     have l0:(f.take m).length=m:=by rw [List.length_take]; omega
     refine ⟨f.take m,(eC m _).mpr ⟨l0,λa ha=>by rw [g a ha]; exact wy a (by omega),λa b hab hb k hk=>by rw [g a (by omega),g b hb]; exact ap a b hab (by omega) k hk⟩,?_⟩
     rw [List.mem_map]
     refine ⟨f.getD m [],?_,e0.symm⟩
     rw [List.mem_filter]
     refine ⟨pq.mpr (wy m (by omega)),?_⟩
     unfold apt
     rw [List.all_eq_true]
     intro o ho
     obtain ⟨a,ha⟩:=List.mem_iff_getElem?.mp ho
     have hl:=(List.getElem?_eq_some_iff.mp ha).1
     have eo:o=f.getD a []:=by rw [<- g a (by omega),List.getD,ha]; rfl
     rw [eo]
     exact (pb (wy m (by omega)).len (wy a (by omega)).len).mpr λk hk e=>ap a m (by omega) (by omega) k hk e.symm
section
variable {α:Type} [DecidableEq α] {lt:α->α->Bool}
theorem fG (o:Ord lt):∀ {x y:List α} {a b:α},x.length=y.length->(ltL lt x y=true\/x=y/\lt a b=true)->ltL lt (x++[a]) (y++[b])=true
 | [],[],a,b,_,h=>by
   have ab:lt a b=true:=h.elim (λz=>nomatch z) λz=>z.2
   have ne:a ≠ b:=λe=>by subst e; rw [o.irr a] at ab; cases ab
   show ltL lt [a] [b]=true
   rw [ltL,if_neg ne]; exact ab
 | c :: x,d :: y,a,b,hl,h=>by
   show ltL lt (c :: (x++[a])) (d :: (y++[b]))=true
   rw [ltL]
   rcases h with h | ⟨h1,h2⟩
   · rw [ltL] at h
     by_cases e:c=d
     · rw [if_pos e] at h ⊢; exact fG o (by simpa using hl) (.inl h)
     · rw [if_neg e] at h ⊢; exact h
   · injection h1 with e1 e2
     rw [if_pos e1]
     exact fG o (by simpa using hl) (.inr ⟨e2,h2⟩)
theorem grow (o:Ord lt) {xs:List (List α)} {g:List α->List α} (n:Nat) (hl:∀ x ∈ xs,x.length=n) (h:xs.Pairwise λa b=>ltL lt a b=true) (hg:∀ x ∈ xs,(g x).Pairwise λa b=>lt a b=true):(xs.flatMap λx=>(g x).map λa=>x++[a]).Pairwise λa b=>ltL lt a b=true:=by
 induction xs with
 | nil=>exact List.Pairwise.nil
 | cons x xs ih=>
   rw [List.flatMap_cons,List.pairwise_append]
   have hp:=List.pairwise_cons.mp h
   refine ⟨?_,ih (λy hy=>hl y (List.mem_cons_of_mem _ hy)) hp.2 λy hy=>hg y (List.mem_cons_of_mem _ hy),λa ha b hb=>?_⟩
   · rw [List.pairwise_map]
     exact (hg x (List.mem_cons_self ..)).imp λz=>fG o rfl (.inr ⟨rfl,z⟩)
   · obtain ⟨a',_,rfl⟩:=List.mem_map.mp ha
     obtain ⟨y,hy,hb⟩:=List.mem_flatMap.mp hb
     obtain ⟨b',_,rfl⟩:=List.mem_map.mp hb
     exact fG o ((hl x (List.mem_cons_self ..)).trans (hl y (List.mem_cons_of_mem _ hy)).symm) (.inl (hp.1 y hy))
end
theorem wm (s:Stp) (t:Int):(gos s t).Pairwise λa b=>decide (a < b)=true:=by
 unfold gos
 split
 · exact List.Pairwise.nil
 · split
   · simp; omega
   · split
     · simp; omega
     · simp
theorem rf (ss:List Stp) (i:Int):∀ k,(lwK ss i k).Pairwise λa b=>ltI a b=true
 | 0=>by rw [lwK]; exact List.pairwise_singleton ..
 | k + 1=>by
   rw [lwK]
   exact grow Lc.kC (k + 1) (k6 ss i k) (rf ss i k) λx _=>wm _ _
theorem nA (ss:List Stp) (ns ms:List Int):∀ k,(lfK ss ns ms k).Pairwise λa b=>ltF a b=true
 | 0=>by rw [lfK]; exact List.pairwise_singleton ..
 | k + 1=>by
   rw [lfK]
   refine grow Lc.kC.lst k (λx hx=>((eC k x).mp hx).1) (nA ss ns ms k) λx _=>?_
   exact ((rf ss _ _).sublist List.filter_sublist).sublist List.filter_sublist
theorem sS {l:List (List (List Int))} (h:l.Pairwise λa b=>ltF a b=true):l.Nodup:=h.imp λ{a b} z e=>by
 subst e
 rw [fJ.irr] at z; cases z
theorem qr (s:Stp) (c:List Int):(nxp s c).Nodup:=by
 unfold nxp
 split
 · split <;> simp
 · split
   · simp
   · rename_i z
     have hs:has c (rgS s)=true:=by
       cases e:has c (rgS s) with
       | true=>rfl
       | false=>exact absurd (.inr (.inl e)) z
     obtain ⟨a,ha,e⟩:=fU.mp hs
     have ne:mvd (rgS s) (rgE s) c ≠ c:=λq=>by
       have:=congrArg (λl:List Int=>l.getD a 0) q
       simp only [sP ha,e,if_true] at this
       exact vh s this.symm
     split
     · simp [ne]
     · simp [Ne.symm ne]
theorem jF (T:Nat) (e st:List Int) (ss:List Stp):∀ k,(trK T e st ss k).Nodup
 | 0=>by
   rw [trK]
   split <;> simp
 | k + 1=>by
   rw [trK]
   unfold lgT
   have ih:=jF T e st ss k
   generalize trK T e st ss k=fs at ih
   have on:∀ t,(onT (ss.getD k ("weigh",0,0)) (cm T e (ss.drop (k + 1))) t).Nodup:=λt=>by
     unfold onT
     refine List.Pairwise.map _ (λa b hab z=>hab ?_) ((qr _ _).filter _)
     exact (List.singleton_inj.mp (List.append_cancel_left z))
   induction fs with
   | nil=>exact List.Pairwise.nil
   | cons t fs ih2=>
     rw [List.flatMap_cons]
     have hp:=List.nodup_cons.mp ih
     refine List.nodup_append.mpr ⟨on t,ih2 hp.2,λa ha b hb z=>?_⟩
     subst z
     unfold onT at ha hb
     obtain ⟨q,_,rfl⟩:=List.mem_map.mp ha
     obtain ⟨t',ht,hb⟩:=List.mem_flatMap.mp hb
     obtain ⟨q',_,e'⟩:=List.mem_map.mp hb
     have:t'=t:=(List.append_inj' e' rfl).1
     exact hp.1 (this ▸ ht)
theorem nJ {T m:Nat} {ns ms:List Int} {ss:List Stp} (hs:∀ s ∈ ss,okS T s) (rn:Rs T m ns) (rm:Rs T m ms):(hU T ms ns ss).Nodup:=by
 have lm:=rm.len
 have key:∀ t ∈ trK T ms ns ss ss.length,∀ t' ∈ trK T ms ns ss ss.length,eN t ms.length=eN t' ms.length->t=t':=λt ht t' ht' e=>by
   obtain ⟨j,_⟩:=(eD hs lm rn ss.length (Nat.le_refl _) t).mp ht
   obtain ⟨j',_⟩:=(eD hs lm rn ss.length (Nat.le_refl _) t').mp ht'
   have l:=j.len
   have l':=j'.len
   refine List.ext_getElem (l.trans l'.symm) λk h1 h2=>?_
   have r:=j.rs hs (Nat.le_refl _) rn k (by omega)
   have r':=j'.rs hs (Nat.le_refl _) rn k (by omega)
   have e1:t[k]=t.getD k []:=by simp [List.getD,h1]
   have e2:t'[k]=t'.getD k []:=by simp [List.getD,h2]
   rw [e1,e2]
   refine gF (r.len.trans r'.len.symm) λa ha=>?_
   rw [r'.len] at ha
   rw [<- fu (a:=a) h1,<- fu (a:=a) h2]
   have:=congrArg (λf:List (List Int)=>f.getD a []) e
   have fa:∀ t:List (List Int),(eN t ms.length).getD a []=gy t a:=λt=>by unfold eN; simp [List.getD,lm,ha]
   simp only [fa] at this
   rw [this]
 unfold hU
 have nd:=jF T ms ns ss ss.length
 generalize trK T ms ns ss ss.length=fs at nd key
 induction fs with
 | nil=>exact List.Pairwise.nil
 | cons t fs ih=>
   have hp:=List.nodup_cons.mp nd
   rw [List.map_cons,List.nodup_cons]
   refine ⟨λhm=>?_,ih hp.2 λx hx y hy=>key x (List.mem_cons_of_mem _ hx) y (List.mem_cons_of_mem _ hy)⟩
   obtain ⟨t',ht,e⟩:=List.mem_map.mp hm
   exact hp.1 ((key t' (List.mem_cons_of_mem _ ht) t (List.mem_cons_self ..) e) ▸ ht)
theorem pS {T m:Nat} {ns ms:List Int} {ss:List Stp} (hs:∀ s ∈ ss,okS T s) (rn:Rs T m ns) (rm:Rs T m ms):jj (hU T ms ns ss)=lfK ss ns ms m:=by
 refine (oH ?_ ((nA ss ns ms m).imp λz=>fJ.asy _ _ z)).symm
 refine (List.perm_ext_iff_of_nodup (sS (nA ss ns ms m)) (nJ hs rn rm)).mpr λf=>?_
 rw [uO hs rn rm,eC]
 have ln:=rn.len
 constructor
 · rintro ⟨l,wy,ap⟩
   exact ⟨l.trans ln.symm,λa ha=>wy a (by omega),λa b hab hb=>ap a b hab (by omega)⟩
 · rintro ⟨l,wy,ap⟩
   exact ⟨l.trans ln,λa ha=>wy a (by omega),λa b hab hb=>ap a b hab (by omega)⟩
section
variable {P:Program} {w:World} {K:PySem.W.Frag} {mg:Str->Option Value} {base:Heap} {k:Nat} {f:Addr} {fd:FuncData} {qual:Str}
end
end K25
namespace K25
open PySem PySem.Spec PyProof.Rows L2 Hy
open Ev (D Den ar aU aP)
noncomputable def gT (ds:List D) (r:Sl):Prop:=∃ n:Nat,ds=[.int n]/\n<=1000/\r=.d (.int (10 ^ n))
noncomputable def wgT (p:Int) (g:Nat):Int:=if 0 < g then p.fmod (10 ^ g) else p.fmod 7
noncomputable def wgB (p:Int) (g:Nat):Int:=if 0 < g then 1 + (p.fdiv (10 ^ g)).fmod (10 ^ g - 1) else 1 + (p.fdiv 7).fmod 4
noncomputable def wgt (p:Int) (g:Nat):Rat:=(wgT p g:Rat) / (wgB p g:Rat)
noncomputable def fb (ds:List D) (r:Sl):Prop:=∃ (p:Int) (g:Nat),ds=[.int p,.int g]/\g<=40/\r=.d (frD (wgt p g))
theorem fm {a b:Int} (h:0 < b):0<=a.fmod b/\a.fmod b < b:=⟨Int.fmod_nonneg_of_pos a h,Int.fmod_lt_of_pos a h⟩
theorem tE {g:Nat} (h:g<=40):(10:Int) ^ g < 2 ^ 140:=by
 have h1:(10:Nat) ^ g<=10 ^ 40:=Nat.pow_le_pow_right (by decide) h
 have h2:(10:Nat) ^ 40 < 2 ^ 140:=by decide
 have:((10 ^ g:Nat):Int) < ((2 ^ 140:Nat):Int):=Int.ofNat_lt.mpr (Nat.lt_of_le_of_lt h1 h2)
 simpa using this
theorem o9 {g:Nat} (h:0 < g):(10:Int)<=10 ^ g:=by
 have h1:(10:Nat) ^ 1<=10 ^ g:=Nat.pow_le_pow_right (by decide) h
 have:((10 ^ 1:Nat):Int)<=((10 ^ g:Nat):Int):=Int.ofNat_le.mpr h1
 simpa using this
theorem mU {x:Int} (h0:0<=x) (h:x < 2 ^ 140):Bd 140 x:=by
 unfold Bd
 have:(x.natAbs:Int) < ((2 ^ 140:Nat):Int):=by rw [Int.natAbs_of_nonneg h0]; simpa using h
 exact Int.ofNat_lt.mp this
theorem t6 (p:Int) {g:Nat} (h:g<=40):0<=wgT p g/\Bd 140 (wgT p g)/\0 < wgB p g/\Bd 140 (wgB p g):=by
 unfold wgT wgB
 by_cases h0:0 < g
 · have h1:=tE h
   have h2:=o9 h0
   have f1:=fm (a:=p) (b:=10 ^ g) (by omega)
   have f2:=fm (a:=p.fdiv (10 ^ g)) (b:=10 ^ g - 1) (by omega)
   rw [if_pos h0,if_pos h0]
   exact ⟨f1.1,mU f1.1 (by omega),by omega,mU (by omega) (by omega)⟩
 · have f1:=fm (a:=p) (b:=7) (by decide)
   have f2:=fm (a:=p.fdiv 7) (b:=4) (by decide)
   rw [if_neg h0,if_neg h0]
   exact ⟨f1.1,mU f1.1 (by omega),by omega,mU (by omega) (by omega)⟩
theorem kI (p:Int) {g:Nat} (h:g<=40):(wgT p g:Rat)=wgt p g * (wgB p g:Rat):=(Rat.div_mul_cancel (wH (t6 p h).2.2.1)).symm
theorem wJ (p:Int) {g:Nat} (h:g<=40):0<=(wgt p g).num/\Sq 140 (wgt p g):=by
 obtain ⟨h1,h2,h3,h4⟩:=t6 p h
 refine ⟨?_,Sq.iu h3 (kI p h) h2 h4⟩
 rw [(iu h3 (kI p h)).1]
 exact Int.ediv_nonneg h1 (Int.natCast_nonneg _)
noncomputable def szP (m:Nat) (c:Int):List Int:=nums c [8,4,7,7,7,(m:Int) + 1]
noncomputable def szT (m:Nat) (c:Int):Int:=if (szP m c).getD 0 0=1 then 1 + (szP m c).getD 2 0 else 1 + (szP m c).getD 1 0
noncomputable def szR (m:Nat) (c:Int):Int:=1 + ((szP m c).getD 3 0).fmod (szT m c)
noncomputable def szC (m:Nat) (c:Int):Int:=1 + ((szP m c).getD 4 0).fmod (szT m c)
theorem rQ (m:Nat) (c:Int):1<=szT m c/\szT m c<=7/\1<=szR m c/\szR m c<=szT m c/\1<=szC m c/\szC m c<=szT m c/\0<=(szP m c).getD 5 0/\(szP m c).getD 5 0<=m:=by
 have hp:∀ b ∈ ([8,4,7,7,7,(m:Int) + 1]:List Int),0 < b:=by intro b hb; simp at hb; omega
 have h1:=bJ (c:=c) hp (i:=1) (by simp)
 have h2:=bJ (c:=c) hp (i:=2) (by simp)
 have h5:=bJ (c:=c) hp (i:=5) (by simp)
 have e1:([8,4,7,7,7,(m:Int) + 1]:List Int).getD 1 0=4:=rfl
 have e2:([8,4,7,7,7,(m:Int) + 1]:List Int).getD 2 0=7:=rfl
 have e5:([8,4,7,7,7,(m:Int) + 1]:List Int).getD 5 0=(m:Int) + 1:=rfl
 rw [e1] at h1
 rw [e2] at h2
 rw [e5] at h5
 have hT:1<=szT m c/\szT m c<=7:=by
   unfold szT szP
   split <;> omega
 have hR:=fm (a:=(szP m c).getD 3 0) (b:=szT m c) (by omega)
 have hC:=fm (a:=(szP m c).getD 4 0) (b:=szT m c) (by omega)
 have h5':0<=(szP m c).getD 5 0/\(szP m c).getD 5 0 < (m:Int) + 1:=h5
 unfold szR szC
 omega
noncomputable def gg (ds:List D) (r:Sl):Prop:=∃ (m:Nat) (c:Int),ds=[.int c,.int m]/\m<=100/\r=.d (.tup [.int (szT m c),.int (szR m c),.int (szC m c),.int ((szP m c).getD 5 0)])
noncomputable def wrd (i:Int):Str:=if i=0 then "down" else if i=1 then "up" else "weigh"
theorem su {i:Int} (h0:0<=i) (h:i < 3):atI [D.str "down",D.str "up",D.str "weigh"] i=some (.str (wrd i)):=by
 obtain ⟨n,rfl⟩:=Int.eq_ofNat_of_zero_le h0
 rcases (by omega:n=0\/n=1\/n=2) with rfl | rfl | rfl <;> rfl
theorem cA {α:Type} (a b c:α):∀ n,(List.replicate n [a,b,c]).flatten.length=3 * n
 | 0=>rfl
 | n + 1=>by rw [List.replicate_succ,List.flatten_cons,List.length_append,cA a b c n]; simp; omega
theorem hE {a b c:Int} {n:Nat} {x:Int} (h:x ∈ (List.replicate n [a,b,c]).flatten):x=a\/x=b\/x=c:=by
 obtain ⟨l,h1,h2⟩:=List.mem_flatten.mp h
 rw [(List.mem_replicate.mp h1).2] at h2
 simpa using h2
theorem og {a b c:Int}:∀ (n k:Nat),k < n->(List.replicate n [a,b,c]).flatten.getD (3 * k) 0=a/\(List.replicate n [a,b,c]).flatten.getD (3 * k + 1) 0=b/\(List.replicate n [a,b,c]).flatten.getD (3 * k + 2) 0=c
 | n + 1,0,_=>by rw [List.replicate_succ,List.flatten_cons]; exact ⟨rfl,rfl,rfl⟩
 | n + 1,k + 1,h=>by
   have:=og (a:=a) (b:=b) (c:=c) n k (by omega)
   rw [List.replicate_succ,List.flatten_cons]
   exact this
theorem oF (a b c:Int) (n:Nat):(List.replicate n [D.int a,D.int b,D.int c]).flatten=((List.replicate n [a,b,c]).flatten).map .int:=by
 rw [List.map_flatten,List.map_replicate]; rfl
noncomputable def adB (g:Nat):Int:=10 ^ (2 * (if (g:Int) > 1 then (g:Int) else 1).toNat) * 28
noncomputable def adP (c:Int) (n g:Nat):List Int:=nums c (List.replicate n [3,7,adB g]).flatten
noncomputable def adW (ps:List Int) (T k:Nat):Str:=if wrd (ps.getD (3 * k) 0) ≠ "weigh" /\ T=1 then "weigh" else wrd (ps.getD (3 * k) 0)
noncomputable def adA (ps:List Int) (T k:Nat):Int:=if adW ps T k = "weigh" then (ps.getD (3 * k + 1) 0).fmod T else (ps.getD (3 * k + 1) 0).fmod ((T:Int) - 1)
noncomputable def adS (ps:List Int) (T g k:Nat):Stp:=(adW ps T k,(adA ps T k).toNat,wgt (ps.getD (3 * k + 2) 0) g)
theorem vD {g:Nat} (h:g<=40):0 < adB g/\aP (adB g):=by
 unfold adB
 have hk:(2 * (if (g:Int) > 1 then (g:Int) else 1).toNat)<=80:=by split <;> omega
 generalize (2 * (if (g:Int) > 1 then (g:Int) else 1).toNat)=k at hk
 have h1:(10:Nat) ^ k<=10 ^ 80:=Nat.pow_le_pow_right (by decide) hk
 have h2:0 < (10:Nat) ^ k:=Nat.pow_pos (by decide)
 have e:(10:Int) ^ k * 28=((10 ^ k * 28:Nat):Int):=by simp
 rw [e]
 have h3:Bd 300 ((10 ^ k * 28:Nat):Int):=by
   unfold Bd
   rw [Int.natAbs_natCast]
   exact Nat.lt_of_le_of_lt (Nat.mul_le_mul_right 28 h1) (by decide)
 exact ⟨by omega,h3.aP (by omega) (by decide)⟩
theorem xW {c:Int} {n g k:Nat} (h:g<=40) (hk:k < n):0<=(adP c n g).getD (3 * k) 0/\(adP c n g).getD (3 * k) 0 < 3:=by
 have hp:∀ b ∈ (List.replicate n [3,7,adB g]).flatten,0 < b:=λb hb=>by
   have:=vD h
   rcases hE hb with rfl | rfl | rfl <;> omega
 have:=bJ (c:=c) hp (i:=3 * k) (by rw [cA]; omega)
 rw [(og n k hk).1] at this
 exact this
theorem sT {ps:List Int} {T k:Nat} (hT:1<=T):0<=adA ps T k/\(adW ps T k = "weigh" -> adA ps T k < T)/\(adW ps T k ≠ "weigh" -> 2<=T/\adA ps T k + 1 < T):=by
 unfold adA
 split
 · rename_i h
   have:=fm (a:=ps.getD (3 * k + 1) 0) (b:=T) (by omega)
   exact ⟨this.1,λ_=>this.2,λz=>absurd h z⟩
 · rename_i h
   have hT1:T ≠ 1:=λz=>h (by
     unfold adW
     split
     · rfl
     · rename_i y
       exact Decidable.byContradiction λx=>y ⟨x,z⟩)
   have:=fm (a:=ps.getD (3 * k + 1) 0) (b:=(T:Int) - 1) (by omega)
   exact ⟨this.1,λz=>absurd z h,λ_=>by omega⟩
theorem sd (i:Int):wrd i = "weigh" \/ wrd i = "down" \/ wrd i = "up":=by
 unfold wrd
 split
 · exact .inr (.inl rfl)
 · split
   · exact .inr (.inr rfl)
   · exact .inl rfl
theorem sE {ps:List Int} {T g k:Nat} (hT:1<=T) (hg:g<=40):okS T (adS ps T g k)/\Sq 140 (adS ps T g k).2.2:=by
 obtain ⟨h1,h2,h3⟩:=sT (ps:=ps) (k:=k) hT
 have hw:=wJ (ps.getD (3 * k + 2) 0) hg
 refine ⟨⟨hw.1,?_⟩,hw.2⟩
 by_cases e:adW ps T k = "weigh"
 · exact .inl ⟨e,by have:=h2 e; show (adA ps T k).toNat < T; omega⟩
 · refine .inr ⟨?_,by have:=h3 e; show (adA ps T k).toNat + 1 < T; omega⟩
   show adW ps T k = "down" \/ adW ps T k = "up"
   unfold adW at e ⊢
   split at e
   · exact absurd rfl e
   · rename_i y
     rw [if_neg y]
     exact (sd _).resolve_left e
noncomputable def eV (ds:List D) (r:Sl):Prop:=∃ (c:Int) (T R C n g:Nat),ds=[.int c,.int T,.int R,.int C,.int n,.int g]/\1<=T/\n<=40/\g<=40/\r=.d (bA T R C ((List.range n).map (adS (adP c n g) T g)))
theorem lj {α:Type} (f:Nat->α) {n i:Nat} (h:i < n) (d:α):((List.range n).map f).getD i d=f i:=by simp [h]
noncomputable def drT (m:Nat) (c:Int):Nat:=(szT m c).toNat
noncomputable def drR (m:Nat) (c:Int):Nat:=(szR m c).toNat
noncomputable def drC (m:Nat) (c:Int):Nat:=(szC m c).toNat
noncomputable def drS (m:Nat) (c o:Int) (g:Nat):List Stp:=(List.range ((szP m c).getD 5 0).toNat).map (adS (adP o ((szP m c).getD 5 0).toNat g) (drT m c) g)
noncomputable def gw (ds:List D) (r:Sl):Prop:=∃ (m:Nat) (c o:Int) (g:Nat),ds=[.int c,.int o,.int m,.int g]/\g<=40/\m<=40/\r=.d (bA (drT m c) (drR m c) (drC m c) (drS m c o g))
theorem xI {m:Nat} (c o:Int) {g:Nat} (hg:g<=40) (hm:m<=40):okL (drT m c) (drR m c) (drC m c) (drS m c o g)/\(∀ i,i < (drS m c o g).length->Sq 140 ((drS m c o g).getD i ("weigh",0,0)).2.2)/\(drS m c o g).length<=m:=by
 obtain ⟨h1,h2,h3,h4,h5,h6,h7,h8⟩:=rQ m c
 have hl:(drS m c o g).length=((szP m c).getD 5 0).toNat:=by simp [drS]
 have ha:∀ i,i < (drS m c o g).length->(drS m c o g).getD i ("weigh",0,0)=adS (adP o ((szP m c).getD 5 0).toNat g) (drT m c) g i:=λi hi=>by
   rw [hl] at hi
   exact lj _ hi _
 have hT:1<=drT m c:=by unfold drT; omega
 refine ⟨⟨hT,?_,?_,?_,?_,?_,?_,λi hi=>?_⟩,λi hi=>?_,by omega⟩
 · unfold drT; omega
 · unfold drR; omega
 · unfold drT drR; omega
 · unfold drC; omega
 · unfold drT drC; omega
 · omega
 · rw [ha i hi]; exact (sE hT hg).1
 · rw [ha i hi]; exact (sE hT hg).2
noncomputable def cpN (T R C:Nat) (ss:List Stp):Nd:=.t [.d (.int T),.d (.int R),.d (.int C),.l ((ss.map stD).map .d)]
noncomputable def eZ (ds:List D) (r:Sl):Prop:=∃ (T R C:Nat) (ss:List Stp),ds=[bA T R C ss]/\r=.n (cpN T R C ss)
noncomputable def enM (R C:Nat):Int:=if (C:Int) < (R:Int) then (C:Int) else (R:Int)
noncomputable def enP (c:Int) (R C:Nat):List Int:=nums c [enM R C,10 ^ 9,10 ^ 9]
noncomputable def enS (c:Int) (R C:Nat):Nat:=(1 + (enP c R C).getD 0 0).toNat
noncomputable def enR (c:Int) (R C:Nat):List Int:=chC ((enP c R C).getD 1 0) R (enS c R C)
noncomputable def enC (c:Int) (R C:Nat):List Int:=chC ((enP c R C).getD 2 0) C (enS c R C)
theorem tU {R C:Nat} (hR:1<=R) (hC:1<=C) (h7:R<=7) (c7:C<=7):0 < enM R C/\enM R C<=R/\enM R C<=C:=by
 unfold enM
 split <;> omega
theorem rP {R C:Nat} (hR:1<=R) (hC:1<=C) (h7:R<=7) (c7:C<=7) (c:Int):1 + (enP c R C).getD 0 0=(enS c R C:Nat)/\1<=enS c R C/\enS c R C<=R/\enS c R C<=C:=by
 obtain ⟨h1,h2,h3⟩:=tU hR hC h7 c7
 have hp:∀ b ∈ ([enM R C,10 ^ 9,10 ^ 9]:List Int),0 < b:=by
   intro b hb
   simp only [List.mem_cons,List.not_mem_nil,or_false] at hb
   rcases hb with rfl | rfl | rfl
   · exact h1
   · decide
   · decide
 have h:0<=(enP c R C).getD 0 0/\(enP c R C).getD 0 0 < enM R C:=bJ (c:=c) hp (i:=0) (by simp)
 unfold enS
 omega
theorem yc {R C:Nat} (hR:1<=R) (hC:1<=C) (h7:R<=7) (c7:C<=7) (c:Int):Rs R (enS c R C) (enR c R C)/\Rs C (enS c R C) (enC c R C):=by
 obtain ⟨_,_,h2,h3⟩:=rP hR hC h7 c7 c
 have g:∀ (x:Int) (m s:Nat),s<=m->Rs m s (chC x m s):=λx m s h=>⟨kK ..,xm h,λa ha=>by
   refine (oD (c:=x) h).2 _ ?_
   have:a < (chC x m s).length:=by rw [kK]; exact ha
   simp [this]⟩
 exact ⟨g _ _ _ h2,g _ _ _ h3⟩
noncomputable def iY (ds:List D) (r:Sl):Prop:=∃ (c:Int) (T R C:Nat) (ss:List Stp),ds=[.int c,bA T R C ss]/\okL T R C ss/\r=.d (.tup [.lst ((enR c R C).map .int),.lst ((enC c R C).map .int)])
section
variable {P:Program} {w:World} {K:PySem.W.Frag} {mg:Str->Option Value} {base:Heap} {k:Nat} {f:Addr} {fd:FuncData} {qual:Str}
theorem tN (F:Fun K "_law_ten" qual (top 36) f fd) (hb:∀ x ∈ ak,mg x=none):aQ P w K mg base CX0 (k + 1) f fd ["_law_many"] (spD K gT):=by
 refine fnD F ly hb (by rintro _ _ ⟨_,rfl,_⟩; rfl) ?_
 rintro _ _ ⟨n,rfl,hn,rfl⟩ cdv A outer s H E b
 have nd:=ly.nd
 refine ay 1 nd af ?_
 refine bY 2 (λi τ=>∃ s2,τ=[.d (.int n),.d (.int (10 ^ i)),s2]) b nd (jZ b (aa 0) (by omega) (by omega)) jD ⟨_,rfl⟩ (λi hi τ h=>?_) λτ h=>?_
 · obtain ⟨s2,rfl⟩:=h
   refine ay 1 nd (aD af (aa 1) (bC (mkL (by decide)))) (aN ⟨.d (.int (i:Nat)),?_⟩)
   rw [Int.pow_succ,Int.mul_comm]
   rfl
 · obtain ⟨s2,rfl⟩:=h
   refine aG (aa 1) ?_
   rw [aK,Int.toNat_natCast]
theorem lN (F:Fun K "_law_weight" qual (top 42) f fd) (hb:∀ x ∈ ak,mg x=none) (c_l_made:Cal P w K mg base k "_law_made" iB) (c_l_ten:Cal P w K mg base k "_law_ten" gT):aQ P w K mg base CX0 (k + 1) f fd ["_law_part","_law_figures"] (spD K fb):=by
 refine fnD F gB hb (by rintro _ _ ⟨_,_,rfl,_⟩; rfl) ?_
 rintro _ _ ⟨p,g,rfl,hg,rfl⟩ cdv A outer s H E b
 have nd:=gB.nd
 obtain ⟨h1,h2,h3,h4⟩:=t6 p hg
 have hm:=kI p hg
 refine cB (aJ (aa 1) af kZ) (λh=>?_) λh=>?_
 · have h0:0 < g:=by have:=of_decide_eq_true h; omega
   have t2:=o9 h0
   have eT:wgT p g=p.fmod (10 ^ g):=if_pos h0
   have eB:wgB p g=1 + (p.fdiv (10 ^ g)).fmod (10 ^ g - 1):=if_pos h0
   have dv:aP ((10:Int) ^ g):=(mU (by omega) (tE hg)).aP (by omega) (by decide)
   refine ay 2 nd (x_call b c_l_ten (ae (aa 1) ag) ⟨g,rfl,by omega,rfl⟩) ?_
   exact aG (x_call b c_l_made (ae (aD (aa 0) (aa 2) (bB (by omega))) (ae (aD af (aD (aD (aa 0) (aa 2) (fY dv)) (aD (aa 2) af iH) (bB (by omega))) aW) ag)) ⟨wgT p g,wgB p g,wgt p g,by rw [eT,eB],h3,h4.mono (by decide),hm,rfl⟩) rfl
 · have h0:g=0:=by have:=of_decide_eq_false h; omega
   subst h0
   exact aG (x_call b c_l_made (ae (aD (aa 0) af (bB (by decide))) (ae (aD af (aD (aD (aa 0) af (fY (mkD (by decide) (by decide)))) af (bB (by decide))) aW) ag)) ⟨wgT p 0,wgB p 0,wgt p 0,rfl,h3,h4.mono (by decide),hm,rfl⟩) rfl
theorem om (F:Fun K "_law_sizes" qual (top 44) f fd) (hb:∀ x ∈ ak,mg x=none) (c_l_numbers:Cal P w K mg base k "_law_numbers" bb):aQ P w K mg base CX0 (k + 1) f fd ["_law_cell_here","_law_most"] (spD K gg):=by
 refine fnD F i5 hb (by rintro _ _ ⟨_,_,rfl,_⟩; rfl) ?_
 rintro _ _ ⟨m,c,rfl,hm,rfl⟩ cdv A outer s H E b
 have nd:=i5.nd
 have hok:=rQ m c
 have hl:(szP m c).length=6:=bU ..
 refine ay 2 nd (x_call b c_l_numbers (ae (aa 0) (ae (aR (aL (ae af (ae af (ae af (ae af (ae af (ae (aD (aa 1) af aW) ag)))))))) ag)) ⟨c,[8,4,7,7,7,(m:Int) + 1],rfl,by simp,λb hb=>jq (by simp at hb; omega) (by simp at hb; omega),rfl⟩) (qY 2 ?_)
 refine ay 3 nd (aD af (aC (aa 2) af (aS (aV (ns:=szP m c) (i:=1) (by decide) (by rw [hl]; decide)))) aW) ?_
 refine kG (M:=λτ=>τ=[.d (.int c),.d (.int m),.d (.lst ((szP m c).map .int)),.d (.int (szT m c))]) (aJ (aC (aa 2) af (aS (aV (ns:=szP m c) (i:=0) (by decide) (by rw [hl]; decide)))) af fq) (λh=>?_) (λh=>?_) ?_
 · refine ay 3 nd (aD af (aC (aa 2) af (aS (aV (ns:=szP m c) (i:=2) (by decide) (by rw [hl]; decide)))) aW) (aN ?_)
   unfold szT
   rw [if_pos (show (szP m c).getD 0 0=1 from of_decide_eq_true h)]
   rfl
 · refine aN ?_
   unfold szT
   rw [if_neg (show ¬ (szP m c).getD 0 0=1 from of_decide_eq_false h)]
   rfl
 · rintro _ rfl
   exact aG (dC (ae (aa 3) (ae (aD af (aD (aC (aa 2) af (aS (aV (ns:=szP m c) (i:=3) (by decide) (by rw [hl]; decide)))) (aa 3) (bB (by omega))) aW) (ae (aD af (aD (aC (aa 2) af (aS (aV (ns:=szP m c) (i:=4) (by decide) (by rw [hl]; decide)))) (aa 3) (bB (by omega))) aW) (ae (aC (aa 2) af (aS (aV (ns:=szP m c) (i:=5) (by decide) (by rw [hl]; decide)))) ag))))) rfl
theorem lz (F:Fun K "_law_ladder" qual (top 43) f fd) (hb:∀ x ∈ ak,mg x=none) (c_l_numbers:Cal P w K mg base k "_law_numbers" bb) (c_l_weight:Cal P w K mg base k "_law_weight" fb) (c_l_ten:Cal P w K mg base k "_law_ten" gT):aQ P w K mg base CX0 (k + 1) f fd ["_law_cell_here","_law_tracks","_law_rows","_law_columns","_law_many","_law_figures"] (spD K eV):=by
 refine fnD F gJ hb (by rintro _ _ ⟨_,_,_,_,_,_,rfl,_⟩; rfl) ?_
 rintro _ _ ⟨c,T,R,C,n,g,rfl,hT,hn,hg,rfl⟩ cdv A outer s H E b
 have nd:=gJ.nd
 have hmx:0<=(if (g:Int) > 1 then (g:Int) else 1)/\(if (g:Int) > 1 then (g:Int) else 1)<=40:=by split <;> omega
 have hB:=vD hg
 have hlen:(adP c n g).length=3 * n:=by unfold adP; rw [bU,cA]
 refine ay 6 nd (x_call b c_l_numbers (ae (aa 0) (ae (aR (ri (aR (aL (ae af (ae af (ae (aD (x_call b c_l_ten (ae (aD af (bR b (ae af (ae (aa 5) ag)) (yg b.calm)) (bC (mkL (by decide)))) ag) ⟨2 * (if (g:Int) > 1 then (g:Int) else 1).toNat,?_,by omega,rfl⟩) af (bC (mkR (by decide)))) ag))))) (aa 4) (by omega) (by omega) ?_)) ag)) ⟨c,(List.replicate n [3,7,adB g]).flatten,?_,?_,?_,rfl⟩) ?_
 · congr 2; omega
 · simp; omega
 · rw [Int.toNat_natCast,<- oF]; rfl
 · rw [cA]; omega
 · intro x hx
   rcases hE hx with rfl | rfl | rfl
   · exact jq (by decide) (by decide)
   · exact jq (by decide) (by decide)
   · exact hB
 refine qY 6 ?_
 refine ay 7 nd (aL ag) ?_
 refine bY 8 (λi τ=>∃ s8 s9 s10,τ=[.d (.int c),.d (.int T),.d (.int R),.d (.int C),.d (.int n),.d (.int g),.d (.lst ((adP c n g).map .int)),.o (((List.range i).map (adS (adP c n g) T g)).map stD),s8,s9,s10]) b nd (jZ b (aa 4) (by omega) (by omega)) jD ⟨_,_,_,rfl⟩ (λi hi τ h=>?_) λτ h=>?_
 · obtain ⟨s8,s9,s10,rfl⟩:=h
   have hi:i < n:=by rw [aK] at hi; omega
   have lt3:=xW (c:=c) hg hi
   have e0:(3 * (i:Int)).toNat=3 * i:=by omega
   have e1:(3 * (i:Int) + 1).toNat=3 * i + 1:=by omega
   have e2:(3 * (i:Int) + 2).toNat=3 * i + 2:=by omega
   have k0:atI ((adP c n g).map D.int) (3 * (i:Int))=some (.int ((adP c n g).getD (3 * i) 0)):=by rw [<- e0]; exact aV (by omega) (by omega)
   have k1:atI ((adP c n g).map D.int) (3 * (i:Int) + 1)=some (.int ((adP c n g).getD (3 * i + 1) 0)):=by rw [<- e1]; exact aV (by omega) (by omega)
   have k2:atI ((adP c n g).map D.int) (3 * (i:Int) + 2)=some (.int ((adP c n g).getD (3 * i + 2) 0)):=by rw [<- e2]; exact aV (by omega) (by omega)
   obtain ⟨a1,a2,a3⟩:=sT (ps:=adP c n g) (k:=i) hT
   refine ay 9 nd (aC (aR (aL (ae bq (ae bq (ae bq ag))))) (aC (aa 6) (aD af (aa 8) (bC (mkL (by decide)))) (aS k0)) (aS (su lt3.1 lt3.2))) ?_
   refine ay 10 nd (aD (aC (aa 6) (aD (aD af (aa 8) (bC (mkL (by decide)))) af aW) (aS k1)) (aa 1) (bB (by omega))) ?_
   refine kG (M:=λτ=>τ=[.d (.int c),.d (.int T),.d (.int R),.d (.int C),.d (.int n),.d (.int g),.d (.lst ((adP c n g).map .int)),.o (((List.range i).map (adS (adP c n g) T g)).map stD),.d (.int i),.d (.str (adW (adP c n g) T i)),.d (.int (((adP c n g).getD (3 * i + 1) 0).fmod T))]) (PW.pt (gC (aJ (aa 9) bq rA) λh=>(i7 (aJ (aa 1) af fq)))) (λh=>?_) (λh=>?_) ?_
   · refine ay 9 nd bq (aN ?_)
     have:wrd ((adP c n g).getD (3 * i) 0) ≠ "weigh" /\ T=1:=by
       simp only [Bool.and_eq_true,Bool.not_eq_true',decide_eq_true_eq,decide_eq_false_iff_not] at h
       exact ⟨h.1,by omega⟩
     unfold adW
     rw [if_pos this]
     rfl
   · refine aN ?_
     have:¬ (wrd ((adP c n g).getD (3 * i) 0) ≠ "weigh" /\ T=1):=λ⟨z1,z2⟩=>by
       rw [decide_eq_false z1,decide_eq_true (show (T:Int)=1 by omega)] at h
       cases h
     unfold adW
     rw [if_neg this]
     rfl
   · rintro _ rfl
     refine kG (M:=λτ=>τ=[.d (.int c),.d (.int T),.d (.int R),.d (.int C),.d (.int n),.d (.int g),.d (.lst ((adP c n g).map .int)),.o (((List.range i).map (adS (adP c n g) T g)).map stD),.d (.int i),.d (.str (adW (adP c n g) T i)),.d (.int (adA (adP c n g) T i))]) (aJ (aa 9) bq rA) (λh=>?_) (λh=>?_) ?_
     · have h:adW (adP c n g) T i ≠ "weigh":=by simpa using h
       have:=a3 h
       refine ay 10 nd (aD (aC (aa 6) (aD (aD af (aa 8) (bC (mkL (by decide)))) af aW) (aS k1)) (aD (aa 1) af iH) (bB (by omega))) (aN ?_)
       unfold adA
       rw [if_neg h]
       rfl
     · have h:adW (adP c n g) T i = "weigh":=by simpa using h
       refine aN ?_
       unfold adA
       rw [if_pos h]
     · rintro _ rfl
       refine jO 7 (dC (ae (aa 9) (ae (aa 10) (ae (x_call b c_l_weight (ae (aC (aa 6) (aD (aD af (aa 8) (bC (mkL (by decide)))) af aW) (aS k2)) (ae (aa 5) ag)) ⟨_,g,rfl,hg,rfl⟩) ag)))) ?_ (aN ⟨.d (.int i),.d (.str (adW (adP c n g) T i)),.d (.int (adA (adP c n g) T i)),?_⟩)
       · rw [List.length_map,List.length_map,List.length_range]; omega
       · rw [List.range_succ,List.map_append,List.map_append]
         have:((adA (adP c n g) T i).toNat:Int)=adA (adP c n g) T i:=Int.toNat_of_nonneg a1
         show _=[_,_,_,_,_,_,_,Sl.o (_++[D.tup [.str _,.int ((adA (adP c n g) T i).toNat:Int),frD _]]),_,_,_]
         rw [this]
         rfl
 · obtain ⟨s8,s9,s10,rfl⟩:=h
   rw [aK,Int.toNat_natCast]
   exact aG (dC (ae (aa 1) (ae (aa 2) (ae (aa 3) (ae (k9 7) ag))))) rfl
theorem ou (F:Fun K "_law_drawn" qual (top 45) f fd) (hb:∀ x ∈ ak,mg x=none) (c_l_sizes:Cal P w K mg base k "_law_sizes" gg) (c_l_ladder:Cal P w K mg base k "_law_ladder" eV):aQ P w K mg base CX0 (k + 1) f fd ["_law_one","_law_other","_law_most","_law_figures"] (spD K gw):=by
 refine fnD F iL hb (by rintro _ _ ⟨_,_,_,_,rfl,_⟩; rfl) ?_
 rintro _ _ ⟨m,c,o,g,rfl,hg,hm,rfl⟩ cdv A outer s H E b
 have nd:=iL.nd
 obtain ⟨h1,h2,h3,h4,h5,h6,h7,h8⟩:=rQ m c
 refine ay 4 nd (x_call b c_l_sizes (ae (aa 0) (ae (aa 2) ag)) ⟨m,c,rfl,by omega,rfl⟩) ?_
 refine aG (x_call b c_l_ladder (ae (aa 1) (ae (aC (aa 4) af (aE (ax (i:=0) rfl))) (ae (aC (aa 4) af (aE (ax (i:=1) rfl))) (ae (aC (aa 4) af (aE (ax (i:=2) rfl))) (ae (aC (aa 4) af (aE (ax (i:=3) rfl))) (ae (aa 3) ag)))))) ⟨o,drT m c,drR m c,drC m c,((szP m c).getD 5 0).toNat,g,?_,?_,?_,hg,rfl⟩) rfl
 · unfold drT drR drC
   rw [Int.toNat_of_nonneg (by omega),Int.toNat_of_nonneg (by omega),Int.toNat_of_nonneg (by omega),Int.toNat_of_nonneg (by omega)]
 · unfold drT; omega
 · omega
theorem lO (F:Fun K "_law_copied" qual (top 49) f fd) (hb:∀ x ∈ ak,mg x=none):aQ P w K mg base CX0 (k + 1) f fd ["_law_ladder_here"] (spD K eZ):=by
 refine fnD F lW hb (by rintro _ _ ⟨_,_,_,_,rfl,_⟩; rfl) ?_
 rintro _ _ ⟨T,R,C,ss,rfl,rfl⟩ cdv A outer s H E b
 exact aG (w6 (kh (aC (aa 0) af (aE (ax (i:=0) rfl))) rfl (kh (aC (aa 0) af (aE (ax (i:=1) rfl))) rfl (kh (aC (aa 0) af (aE (ax (i:=2) rfl))) rfl (kh (mL b (ae (aC (aa 0) af (aE (ax (i:=3) rfl))) ag) oi) rfl xO))))) rfl
theorem qg (F:Fun K "_law_ends" qual (top 53) f fd) (hb:∀ x ∈ ak,mg x=none) (c_l_numbers:Cal P w K mg base k "_law_numbers" bb) (c_l_choice:Cal P w K mg base k "_law_choice" eX):aQ P w K mg base CX0 (k + 1) f fd ["_law_cell_here","_law_ladder_here"] (spD K iY):=by
 refine fnD F jG hb (by rintro _ _ ⟨_,_,_,_,_,rfl,_⟩; rfl) ?_
 rintro _ _ ⟨c,T,R,C,ss,rfl,ok,rfl⟩ cdv A outer s H E b
 have nd:=jG.nd
 have r1:=ok.r1
 have c1:=ok.c1
 have r7:R<=7:=Nat.le_trans ok.rT ok.t7
 have c7:C<=7:=Nat.le_trans ok.cT ok.t7
 obtain ⟨m0,m1,m2⟩:=tU r1 c1 r7 c7
 obtain ⟨s0,s1,s2,s3⟩:=rP r1 c1 r7 c7 c
 refine ay 2 nd (bR b (ae (aC (aa 1) af (aE (ax (i:=1) rfl))) (ae (aC (aa 1) af (aE (ax (i:=2) rfl))) ag)) (ye b.calm)) ?_
 show PSs _ _ (dS K [_,_,.d (.int (enM R C)),_,_] _)
 refine ay 3 nd (aR (x_call b c_l_numbers (ae (aa 0) (ae (aR (aL (ae (aa 2) (ae (aD af af (oC ⟨by decide,by decide,by decide⟩)) (ae (aD af af (oC ⟨by decide,by decide,by decide⟩)) ag))))) ag)) ⟨c,[enM R C,10 ^ 9,10 ^ 9],rfl,by simp,?_,rfl⟩)) ?_
 · intro b hb
   simp only [List.mem_cons,List.not_mem_nil,or_false] at hb
   rcases hb with rfl | rfl | rfl
   · exact jq m0 (by omega)
   · exact jq (by decide) (by decide)
   · exact jq (by decide) (by decide)
 have l3:(enP c R C).length=3:=bU ..
 have a0:atI ((enP c R C).map D.int) 0=some (.int ((enP c R C).getD 0 0)):=aV (i:=0) (by decide) (by rw [l3]; decide)
 have a1:atI ((enP c R C).map D.int) 1=some (.int ((enP c R C).getD 1 0)):=aV (i:=1) (by decide) (by rw [l3]; decide)
 have a2:atI ((enP c R C).map D.int) 2=some (.int ((enP c R C).getD 2 0)):=aV (i:=2) (by decide) (by rw [l3]; decide)
 refine ay 4 nd (aD af (aC (aa 3) af (aS a0)) aW) ?_
 rw [s0]
 exact aG (dC (ae (aR (x_call b c_l_choice (ae (aC (aa 3) af (aS a1)) (ae (aC (aa 1) af (aE (ax (i:=1) rfl))) (ae (aa 4) ag))) ⟨_,R,_,rfl,s1,s2,r7,rfl⟩)) (ae (aR (x_call b c_l_choice (ae (aC (aa 3) af (aS a2)) (ae (aC (aa 1) af (aE (ax (i:=2) rfl))) (ae (aa 4) ag))) ⟨_,C,_,rfl,s1,s3,c7,rfl⟩)) ag))) rfl
end
structure v5 (T R C B:Nat) (ss:List Stp):Prop where
 ok:okL T R C ss
 act:a9 ss<=11
 sq:∀ k,k < ss.length->Sq B (stp ss k).2.2
 bits:1 + ss.length * B<=8000
noncomputable def thP (c:Int):List Int:=nums c [7,7,7,41,1000000000000]
noncomputable def thT (c:Int):Nat:=(1 + (thP c).getD 0 0).toNat
noncomputable def thN (c:Int):Nat:=(60 + (thP c).getD 3 0).toNat
noncomputable def cM (c:Int):List Int:=nums (c + 3) (List.replicate (thN c) [3,42,4]).flatten
noncomputable def kH (c:Int):List Int:=nums ((thP c).getD 4 0) (List.replicate 6 (thN c:Int))
noncomputable def thW (c:Int) (k:Nat):Str:=if thT c=1 then "weigh" else wrd ((cM c).getD (3 * k) 0)
noncomputable def thA (c:Int) (k:Nat):Int:=((cM c).getD (3 * k + 1) 0).fmod ((thT c:Int) - if thW c k = "weigh" then 0 else 1)
noncomputable def thI (c:Int) (k:Nat):Bool:=decide (thW c k = "weigh") || (kH c).any λw=>decide (w=(k:Int))
noncomputable def thV (c:Int) (k:Nat):Int:=(if thI c k then 1 else 0) * (1 + (cM c).getD (3 * k + 2) 0)
noncomputable def thS (c:Int) (k:Nat):Stp:=(thW c k,(thA c k).toNat,((thV c k:Int):Rat))
theorem kD (c:Int):1<=thT c/\thT c<=7/\(1 + (thP c).getD 0 0)=(thT c:Nat)/\60<=thN c/\thN c<=100/\(60 + (thP c).getD 3 0)=(thN c:Nat):=by
 have hp:∀ b ∈ ([7,7,7,41,1000000000000]:List Int),0 < b:=by decide
 have h0:=bJ (c:=c) hp (i:=0) (by decide)
 have h3:=bJ (c:=c) hp (i:=3) (by decide)
 have e0:([7,7,7,41,1000000000000]:List Int).getD 0 0=7:=rfl
 have e3:([7,7,7,41,1000000000000]:List Int).getD 3 0=41:=rfl
 rw [e0] at h0
 rw [e3] at h3
 unfold thT thN thP
 omega
theorem vG (c:Int) {k:Nat} (hk:k < thN c):(0<=(cM c).getD (3 * k) 0/\(cM c).getD (3 * k) 0 < 3)/\(0<=(cM c).getD (3 * k + 2) 0/\(cM c).getD (3 * k + 2) 0 < 4):=by
 have hp:∀ b ∈ (List.replicate (thN c) [3,42,4]).flatten,(0:Int) < b:=λb hb=>by rcases hE hb with rfl | rfl | rfl <;> decide
 have r:=og (a:=3) (b:=42) (c:=4) (thN c) k hk
 have h0:=bJ (c:=c + 3) hp (i:=3 * k) (by rw [cA]; omega)
 have h2:=bJ (c:=c + 3) hp (i:=3 * k + 2) (by rw [cA]; omega)
 rw [r.1] at h0
 rw [r.2.2] at h2
 exact ⟨h0,h2⟩
theorem vt (c:Int) (k:Nat):0<=thA c k/\(thW c k = "weigh" -> thA c k < thT c)/\(thW c k ≠ "weigh" -> thA c k + 1 < thT c)/\(1:Int)<=(thT c:Int) - (if thW c k = "weigh" then 0 else 1):=by
 obtain ⟨t1,t7,_⟩:=kD c
 have hT:(1:Int)<=(thT c:Int) - (if thW c k = "weigh" then 0 else 1):=by
   by_cases h:thW c k = "weigh"
   · rw [if_pos h]; omega
   · have:thT c ≠ 1:=λz=>h (if_pos z)
     rw [if_neg h]; omega
 have f:=fm (a:=(cM c).getD (3 * k + 1) 0) (b:=(thT c:Int) - if thW c k = "weigh" then 0 else 1) (by omega)
 refine ⟨f.1,λh=>?_,λh=>?_,hT⟩
 · have:=f.2; rw [if_pos h] at this; unfold thA; rw [if_pos h]; omega
 · have:=f.2; rw [if_neg h] at this; unfold thA; rw [if_neg h]; omega
theorem se (c:Int) {k:Nat} (hk:k < thN c):okS (thT c) (thS c k)/\Sq 3 (thS c k).2.2:=by
 obtain ⟨a1,a2,a3,_⟩:=vt c k
 have hv:=(vG c hk).2
 have hv2:0<=thV c k/\thV c k < 8:=by unfold thV; split <;> omega
 refine ⟨⟨?_,?_⟩,?_,?_⟩
 · show 0<=((thV c k:Int):Rat).num
   rw [Rat.num_intCast]; exact hv2.1
 · by_cases h:thW c k = "weigh"
   · exact .inl ⟨h,by have:=a2 h; show (thA c k).toNat < _; omega⟩
   · refine .inr ⟨?_,by have:=a3 h; show (thA c k).toNat + 1 < _; omega⟩
     show thW c k = "down" \/ thW c k = "up"
     unfold thW at h ⊢
     split at h
     · exact absurd rfl h
     · rename_i y
       rw [if_neg y]
       exact (sd _).resolve_left h
 · show Bd 3 ((thV c k:Int):Rat).num
   rw [Rat.num_intCast]
   unfold Bd
   omega
 · show Bd 3 ((((thV c k:Int):Rat).den:Nat):Int)
   rw [Rat.den_intCast]
   unfold Bd
   decide
theorem wt (c:Int) (k:Nat):act (thS c k)<=if (kH c).any (λw=>decide (w=(k:Int))) then 1 else 0:=by
 unfold act
 split
 · rename_i h
   have h1:thW c k ≠ "weigh":=h.1
   have h2:((thV c k:Int):Rat).num ≠ 0:=h.2
   rw [Rat.num_intCast] at h2
   cases hr:(kH c).any (λw=>decide (w=(k:Int))) with
   | true=>exact Nat.le_refl _
   | false=>
     exfalso
     refine h2 ?_
     unfold thV thI
     rw [hr,decide_eq_false h1]
     simp
 · exact Nat.zero_le _
theorem pT (x:Int):∀ n:Nat,((List.range n).countP λ(k:Nat)=>decide (x=(k:Int)))<=1/\((x < 0\/(n:Int)<=x)->((List.range n).countP λ(k:Nat)=>decide (x=(k:Int)))=0)
 | 0=>by simp
 | n + 1=>by
   obtain ⟨h1,h2⟩:=pT x n
   rw [List.range_succ,List.countP_append,List.countP_singleton]
   by_cases e:x=(n:Int)
   · have h3:=h2 (.inr (by omega))
     rw [h3,decide_eq_true e]
     refine ⟨Nat.le_refl _,λh=>by omega⟩
   · rw [decide_eq_false e]
     simp only [Bool.false_eq_true,if_false,Nat.add_zero]
     exact ⟨h1,λh=>h2 (by omega)⟩
theorem ro {p q r:Nat->Bool} (h:∀ k,p k=true->q k=true\/r k=true):∀ xs:List Nat,xs.countP p<=xs.countP q + xs.countP r
 | []=>by simp
 | x :: xs=>by
   have ih:=ro h xs
   rw [List.countP_cons,List.countP_cons,List.countP_cons]
   cases hp:p x with
   | false=>simp; omega
   | true=>
     rcases h x hp with z | z <;> rw [z] <;> simp <;> split <;> omega
theorem rj (n:Nat):∀ r:List Int,((List.range n).countP λ(k:Nat)=>r.any λw=>decide (w=(k:Int)))<=r.length
 | []=>by simp
 | x :: r=>by
   have ih:=rj n r
   have h1:=(pT x n).1
   have h2:=ro (p:=λk=>(x :: r).any λw=>decide (w=(k:Int))) (q:=λk=>decide (x=(k:Int))) (r:=λk=>r.any λw=>decide (w=(k:Int))) (λk hk=>by rw [List.any_cons,Bool.or_eq_true] at hk; exact hk) (List.range n)
   rw [List.length_cons]
   omega
theorem pH (g:Nat->Stp) (p:Nat->Bool) (h:∀ k,act (g k)<=if p k then 1 else 0):∀ xs:List Nat,a9 (xs.map g)<=xs.countP p
 | []=>by simp [a9]
 | x :: xs=>by
   rw [List.map_cons,a9,List.countP_cons]
   have:=h x
   have:=pH g p h xs
   omega
noncomputable def thR (c:Int):Nat:=(1 + ((thP c).getD 1 0).fmod (thT c)).toNat
noncomputable def thC (c:Int):Nat:=(1 + ((thP c).getD 2 0).fmod (thT c)).toNat
noncomputable def thL (c:Int):List Stp:=(List.range (thN c)).map (thS c)
theorem vz (c:Int):1 + ((thP c).getD 1 0).fmod (thT c)=(thR c:Nat)/\1 + ((thP c).getD 2 0).fmod (thT c)=(thC c:Nat)/\1<=thR c/\thR c<=thT c/\1<=thC c/\thC c<=thT c:=by
 obtain ⟨t1,t7,_⟩:=kD c
 have f1:=fm (a:=(thP c).getD 1 0) (b:=thT c) (by omega)
 have f2:=fm (a:=(thP c).getD 2 0) (b:=thT c) (by omega)
 unfold thR thC
 omega
theorem xB (c:Int):v5 (thT c) (thR c) (thC c) 3 (thL c):=by
 obtain ⟨t1,t7,_,n1,n2,_⟩:=kD c
 obtain ⟨_,_,r1,r2,c1,c2⟩:=vz c
 have hl:(thL c).length=thN c:=by simp [thL]
 have hs:∀ k,k < (thL c).length->stp (thL c) k=thS c k:=λk hk=>by
   unfold stp thL
   rw [hl] at hk
   exact lj _ hk _
 refine ⟨⟨t1,t7,r1,r2,c1,c2,by omega,λk hk=>?_⟩,?_,λk hk=>?_,by omega⟩
 · show okS (thT c) (stp (thL c) k)
   rw [hs k hk]; exact (se c (by omega)).1
 · unfold thL
   have h1:=pH (thS c) (λk=>(kH c).any λw=>decide (w=(k:Int))) (wt c) (List.range (thN c))
   have h2:=rj (thN c) (kH c)
   have h3:(kH c).length=6:=by unfold kH; rw [bU,List.length_replicate]
   omega
 · rw [hs k hk]; exact (se c (by omega)).2
noncomputable def eW (ds:List D) (r:Sl):Prop:=∃ c:Int,ds=[.int c]/\r=.d (bA (thT c) (thR c) (thC c) (thL c))
section
variable {P:Program} {w:World} {K:PySem.W.Frag} {mg:Str->Option Value} {base:Heap} {k:Nat} {f:Addr} {fd:FuncData} {qual:Str}
set_option maxHeartbeats 2000000 in
theorem mM (F:Fun K "_law_thinly" qual (top 54) f fd) (hb:∀ x ∈ ak,mg x=none) (c_l_numbers:Cal P w K mg base k "_law_numbers" bb):aQ P w K mg base CX0 (k + 1) f fd ["_law_cell_here"] (spD K eW):=by
 refine fnD F gD hb (by rintro _ _ ⟨_,rfl,_⟩; rfl) ?_
 rintro _ _ ⟨c,rfl,rfl⟩ cdv A outer s H E b
 have nd:=gD.nd
 have p12:(10:Int) ^ (12:Int).toNat=1000000000000:=by decide +kernel
 obtain ⟨t1,t7,et,n1,n2,en⟩:=kD c
 obtain ⟨er,ec,_⟩:=vz c
 have l5:(thP c).length=5:=bU ..
 have ls:(cM c).length=3 * thN c:=by unfold cM; rw [bU,cA]
 refine ay 1 nd (aR (x_call b c_l_numbers (ae (aa 0) (ae (aR (aL (ae af (ae af (ae af (ae af (ae (aD af af (oC ⟨by decide,by decide,by decide⟩)) ag))))))) ag)) ⟨c,[7,7,7,41,1000000000000],by rw [p12]; rfl,by decide,λb hb=>jq (by revert b; decide) (by revert b; decide),rfl⟩)) ?_
 refine ay 2 nd (aD af (aC (aa 1) af (aS (aV (ns:=thP c) (i:=0) (by decide) (by rw [l5]; decide)))) aW) ?_
 rw [show (1:Int) + (thP c).getD (0:Int).toNat 0=(thT c:Nat) from et]
 have i3:∀ {C:Bool} {τ:List Sl} {p1 p2 p3:Pos} {u1 u2 v1 v2},τ[1]?=some (.d (.lst ((thP c).map .int)))->PE (Xc P w K mg base ["_law_cell_here","_law_parts","_law_tracks","_law_some","_law_rungs","_law_steps","_law_k","_law_word","_law_at","_law_weight_here"] qual (top 54) f cdv A outer s H E) (.BinOp (.Constant (.int 60) u1 u2) .Add (.Subscript (.Name "_law_parts" p1) (.Constant (.int 3) v1 v2) p2) p3) (dE K C τ (.d (.int (thN c:Nat)))):=λh=>by
   rw [<- en]
   exact aD af (aC (aa 1 h) af (aS (aV (ns:=thP c) (i:=3) (by decide) (by rw [l5]; decide)))) aW
 refine ay 3 nd (aR (x_call b c_l_numbers (ae (aD (aa 0) af aW) (ae (aR (ri (aR (aL (ae af (ae af (ae af ag))))) (i3 rfl) (by omega) (by omega) (by rw [Int.toNat_natCast]; show 3 * thN c < _; omega))) ag)) ⟨c + 3,(List.replicate (thN c) [3,42,4]).flatten,by rw [Int.toNat_natCast,<- oF],by rw [cA]; omega,λb hb=>by rcases hE hb with rfl | rfl | rfl <;> exact jq (by decide) (by decide),rfl⟩)) ?_
 refine ay 4 nd (aR (x_call b c_l_numbers (ae (aC (aa 1) af (aS (aV (ns:=thP c) (i:=4) (by decide) (by rw [l5]; decide)))) (ae (aR (ri (aR (aL (ae (i3 rfl) ag))) af (by decide) (by decide) (by show 1 * 6 < 1000000; decide))) ag)) ⟨(thP c).getD 4 0,List.replicate 6 (thN c:Int),rfl,by simp,λb hb=>by rw [(List.mem_replicate.mp hb).2]; exact jq (by omega) (by omega),rfl⟩)) ?_
 refine ay 5 nd (aL ag) ?_
 refine bY 6 (λi τ=>∃ s6 s7 s8 s9,τ=[.d (.int c),.d (.lst ((thP c).map .int)),.d (.int (thT c:Nat)),.d (.lst ((cM c).map .int)),.d (.lst ((kH c).map .int)),.o (((List.range i).map (thS c)).map stD),s6,s7,s8,s9]) b nd (jZ b (i3 rfl) (by omega) (by omega)) jD ⟨.un,.un,.un,.un,rfl⟩ (λi hi τ h=>?_) λτ h=>?_
 · obtain ⟨s6,s7,s8,s9,rfl⟩:=h
   have hi:i < thN c:=by rw [aK] at hi; omega
   have sm:=vG c hi
   obtain ⟨a1,a2,a3,a4⟩:=vt c i
   have e0:(3 * (i:Int)).toNat=3 * i:=by omega
   have e1:(3 * (i:Int) + 1).toNat=3 * i + 1:=by omega
   have e2:(3 * (i:Int) + 2).toNat=3 * i + 2:=by omega
   have k0:atI ((cM c).map D.int) (3 * (i:Int))=some (.int ((cM c).getD (3 * i) 0)):=by rw [<- e0]; exact aV (by omega) (by omega)
   have k1:atI ((cM c).map D.int) (3 * (i:Int) + 1)=some (.int ((cM c).getD (3 * i + 1) 0)):=by rw [<- e1]; exact aV (by omega) (by omega)
   have k2:atI ((cM c).map D.int) (3 * (i:Int) + 2)=some (.int ((cM c).getD (3 * i + 2) 0)):=by rw [<- e2]; exact aV (by omega) (by omega)
   refine ay 7 nd (aC (aR (aL (ae bq (ae bq (ae bq ag))))) (aC (aa 3) (aD af (aa 6) (bC (mkL (by decide)))) (aS k0)) (aS (su sm.1.1 sm.1.2))) ?_
   refine kG (M:=λτ=>τ=[.d (.int c),.d (.lst ((thP c).map .int)),.d (.int (thT c:Nat)),.d (.lst ((cM c).map .int)),.d (.lst ((kH c).map .int)),.o (((List.range i).map (thS c)).map stD),.d (.int (i:Nat)),.d (.str (thW c i)),s8,s9]) (aJ (aa 2) af fq) (λh=>?_) (λh=>?_) λτ h=>?_
   · have h:thT c=1:=by have:=of_decide_eq_true h; omega
     refine ay 7 nd bq (aN ?_)
     rw [show thW c i = "weigh" from if_pos h]
     rfl
   · have h:¬ thT c=1:=by have:=of_decide_eq_false h; omega
     refine aN ?_
     rw [show thW c i=wrd ((cM c).getD (3 * i) 0) from if_neg h]
     rfl
   subst h
   have eb:(if (!decide (thW c i = "weigh"))=true then (1:Int) else 0)=if thW c i = "weigh" then 0 else 1:=by
     by_cases h:thW c i = "weigh"
     · rw [decide_eq_true h,if_pos h]; rfl
     · rw [decide_eq_false h,if_neg h]; rfl
   refine ay 8 nd (aD (aC (aa 3) (aD (aD af (aa 6) (bC (mkL (by decide)))) af aW) (aS k1)) (aD (aa 2) (mL b (ae (dt (aa 7) bq rA) ag) vi) iH) (bB (by rw [eb]; omega))) ?_
   rw [eb,show ((cM c).getD (3 * i + 1) 0).fmod ((thT c:Int) - if thW c i = "weigh" then 0 else 1)=thA c i from rfl]
   refine ay 9 nd (dC (ae (aD (mL b (ae (zc (dt (aa 7) bq gK) λh=>(gH (dt (aa 6) (aa 4) x3))) ag) vi) (aD af (aC (aa 3) (aD (aD af (aa 6) (bC (mkL (by decide)))) af aW) (aS k2)) aW) (bC (mkR (by omega)))) (ae af ag))) ?_
   refine jO 5 (dC (ae (aa 7) (ae (aa 8) (ae (aa 9) ag)))) ?_ (aN ⟨.d (.int (i:Nat)),.d (.str (thW c i)),.d (.int (thA c i)),.d (.tup [.int (thV c i),.int 1]),?_⟩)
   · rw [List.length_map,List.length_map,List.length_range]; omega
   · rw [List.range_succ,List.map_append,List.map_append]
     have:((thA c i).toNat:Int)=thA c i:=Int.toNat_of_nonneg a1
     have es:stD (thS c i)=.tup [.str (thW c i),.int (thA c i),.tup [.int (thV c i),.int 1]]:=by
       show D.tup [.str (thW c i),.int ((thA c i).toNat:Int),frD ((thV c i:Int):Rat)]=_
       rw [this]
       rfl
     rw [List.map_singleton,List.map_singleton,es]
     rfl
 · obtain ⟨s6,s7,s8,s9,rfl⟩:=h
   rw [aK,Int.toNat_natCast]
   refine aG (dC (ae (aa 2) (ae (aD af (aD (aC (aa 1) af (aS (aV (ns:=thP c) (i:=1) (by decide) (by rw [l5]; decide)))) (aa 2) (bB (by omega))) aW) (ae (aD af (aD (aC (aa 1) af (aS (aV (ns:=thP c) (i:=2) (by decide) (by rw [l5]; decide)))) (aa 2) (bB (by omega))) aW) (ae (k9 5) ag))))) ?_
   rw [show (1:Int) + ((thP c).getD (1:Int).toNat 0).fmod (thT c:Nat)=(thR c:Nat) from er,show (1:Int) + ((thP c).getD (2:Int).toNat 0).fmod (thT c:Nat)=(thC c:Nat) from ec]
   rfl
end
noncomputable def gq (ds:List D) (r:Sl):Prop:=∃ (w:List Int) (f:List (List Int)),ds=[rwD w,tbD f]/\r=.d (.bl (apt f w))
theorem xF {w o:List Int} {j:Nat} (hj:j < min w.length o.length) (h:((w.zip o).take j).all (λp=>!decide (p.1=p.2))=true) (e:w.getD j 0 ≠ o.getD j 0):((w.zip o).take (j + 1)).all (λp=>!decide (p.1=p.2))=true:=by
 have hl:j < (w.zip o).length:=by rw [List.length_zip]; exact hj
 rw [take_snoc (0,0) hl,List.all_append,h]
 have e1:(w.zip o).getD j (0,0)=(w.getD j 0,o.getD j 0):=by
   have a:j < w.length:=by omega
   have b:j < o.length:=by omega
   rw [List.getD,List.getElem?_eq_getElem hl]
   simp [List.getD,a,b]
 rw [e1]
 show (true && ((!decide (w.getD j 0=o.getD j 0)) && true))=true
 rw [decide_eq_false e]
 rfl
theorem yQ {w o:List Int} {j:Nat} (hj:j < min w.length o.length) (e:w.getD j 0=o.getD j 0):apW w o=false:=by
 cases h:apW w o with
 | false=>rfl
 | true=>
   unfold apW at h
   rw [List.all_eq_true] at h
   have a:j < w.length:=by omega
   have b:j < o.length:=by omega
   have:(!decide (w.getD j 0=o.getD j 0))=true:=h (w.getD j 0,o.getD j 0) (by
     rw [List.mem_iff_getElem?]
     refine ⟨j,?_⟩
     rw [List.getElem?_zip_eq_some]
     simp [List.getD,a,b])
   rw [decide_eq_true e] at this
   cases this
section
variable {P:Program} {w:World} {K:PySem.W.Frag} {mg:Str->Option Value} {base:Heap} {k:Nat} {f:Addr} {fd:FuncData} {qual:Str}
theorem nR (F:Fun K "_law_apart" qual (top 51) f fd) (hb:∀ x ∈ ak,mg x=none):aQ P w K mg base CX0 (k + 1) f fd ["_law_way","_law_others"] (spD K gq):=by
 refine fnD F iX hb (by rintro _ _ ⟨_,_,rfl,_⟩; rfl) ?_
 rintro _ _ ⟨wy,fm,rfl,rfl⟩ cdv A outer s H E b
 have nd:=iX.nd
 refine bY 2 (g:=λi=>rwD (fm.getD i [])) (λi τ=>((fm.take i).all (apW wy)=true)/\∃ s2 s3 s4,τ=[.d (rwD wy),.d (tbD fm),s2,s3,s4]) b nd (aZ (aa 1)) sV ⟨rfl,_,_,_,rfl⟩ (λi hi τ h=>?_) λτ h=>?_
 · obtain ⟨ha,s2,s3,s4,rfl⟩:=h
   have hi:i < fm.length:=by simpa using hi
   have mi:=cW (d:=[]) hi
   have tk:fm.take (i + 1)=fm.take i++[fm.getD i []]:=take_snoc [] hi
   generalize fm.getD i []=o at mi tk
   refine i4 3 4 (λj τ=>(((wy.zip o).take j).all (λp=>!decide (p.1=p.2))=true)/\∃ s3 s4,τ=[.d (rwD wy),.d (tbD fm),.d (rwD o),s3,s4]) b nd (vL b (aa 0) (aa 2)) vH ⟨rfl,_,_,rfl⟩ (λj hj τ h=>?_) λτ h=>?_
   · obtain ⟨hz,s3,s4,rfl⟩:=h
     have hj:j < min wy.length o.length:=by rw [bW,List.length_map,List.length_map] at hj; omega
     refine cB (aJ (aa 3) (aa 4) fq) (λh=>?_) λh=>aN ⟨xF hj hz (of_decide_eq_false h),_,_,rfl⟩
     refine aG oo ?_
     have no:=yQ hj (of_decide_eq_true h)
     have:apt fm wy=false:=by
       cases e:apt fm wy with
       | false=>rfl
       | true=>
         unfold apt at e
         rw [List.all_eq_true] at e
         rw [e o mi] at no
         cases no
     rw [this]
   · obtain ⟨hz,s3,s4,rfl⟩:=h
     refine aN ⟨?_,_,_,_,rfl⟩
     rw [bW,List.length_map,List.length_map,List.take_of_length_le (by rw [List.length_zip]; omega)] at hz
     rw [tk,List.all_append,ha]
     show (true && (apW wy o && true))=true
     rw [show apW wy o=true from hz]
     rfl
 · obtain ⟨ha,s2,s3,s4,rfl⟩:=h
   rw [List.length_map,List.take_of_length_le (Nat.le_refl _)] at ha
   exact aG oo (by rw [show apt fm wy=true from ha])
end
theorem okL.mem {T R C:Nat} {ss:List Stp} (h:okL T R C ss):∀ s ∈ ss,okS T s:=λs hs=>by
 obtain ⟨i,hi,rfl⟩:=List.getElem_of_mem hs
 have:=h.st i hi
 simpa [hi] using this
theorem my {ss:List Stp} {ns ns' ms ms':List Int}:∀ k,(∀ a,a < k->ns.getD a 0=ns'.getD a 0/\ms.getD a 0=ms'.getD a 0)->lfK ss ns ms k=lfK ss ns' ms' k
 | 0,_=>rfl
 | k + 1,h=>by rw [lfK,lfK,my k λa ha=>h a (by omega),(h k (by omega)).1,(h k (by omega)).2]
theorem mJ {p:List Int} {k a:Nat} (h:a < k):(p.take k).getD a 0=p.getD a 0:=by simp [List.getD,List.getElem?_take,h]
theorem Rs.tk {T m k:Nat} {p:List Int} (h:Rs T m p) (hk:k<=m):Rs T k (p.take k):=
 ⟨by rw [List.length_take,h.len]; omega,λa ha=>by rw [mJ (by omega),mJ ha]; exact h.up a (by omega),λa ha=>by rw [mJ ha]; exact h.bd a (by omega)⟩
theorem p5 {T:Nat} {ns ms:List Int} {ss:List Stp} (ha:a9 ss<=11):(hU T ms ns ss).length<=2048/\nZ (cm T ms ss) ns<=3000:=by
 have h1:=vC T ms ss ns
 have h2:2 ^ a9 ss<=2 ^ 11:=Nat.pow_le_pow_right (by decide) ha
 have h3:((2 ^ a9 ss:Nat):Int)<=((2 ^ 11:Nat):Int):=Int.ofNat_le.mpr h2
 have e:((2 ^ a9 ss:Nat):Int)=2 ^ a9 ss:=by simp
 have:((2 ^ 11:Nat):Int)=2048:=by decide
 have tl:=rL T ms ns ss
 unfold hU
 rw [List.length_map]
 omega
theorem pG {T m:Nat} {ns ms:List Int} {ss:List Stp} (hs:∀ s ∈ ss,okS T s) (rn:Rs T m ns) (rm:Rs T m ms) (ha:a9 ss<=11) {k:Nat} (hk:k<=m):(lfK ss ns ms k).length<=2048:=by
 rw [my (ns':=ns.take k) (ms':=ms.take k) k λa ha=>⟨(mJ ha).symm,(mJ ha).symm⟩,<- pS hs (rn.tk hk) (rm.tk hk),tf]
 exact (p5 ha).1
noncomputable def onF (ws:List (List Int)) (f:List (List Int)):List (List (List Int)):=(ws.filter (apt f)).map λw=>f++[w]
noncomputable def cV (ds:List D) (r:Sl):Prop:=∃ (T R C m:Nat) (ss:List Stp) (ns ms:List Int),ds=[bA T R C ss,.lst (ns.map .int),.lst (ms.map .int)]/\okL T R C ss/\a9 ss<=11/\Rs T m ns/\Rs T m ms/\m<=7/\r=.d (.lst ((lfK ss ns ms m).map tbD))
theorem zd {m:List (List (List Int))} (i:Nat) (h:i < (m.map tbD).length):(m.map tbD)[i]=tbD (m.getD i []):=by
 have:i < m.length:=by simpa using h
 simp [this]
theorem xX {α:Type} {m:List α} (d:α) (p:α->Bool) (h:α->D) (n:Nat) (e:n=m.length):(((List.range n).filter λi=>p (m.getD i d)).map λi=>h (m.getD i d))=(m.filter p).map h:=by
 subst e
 have key:∀ m:List α,(((List.range m.length).filter λi=>p (m.getD i d)).map λi=>m.getD i d)=m.filter p:=by
   intro m
   induction m with
   | nil=>rfl
   | cons r m ih=>
     rw [List.length_cons,List.range_succ_eq_map,List.filter_cons]
     have e:(List.map Nat.succ (List.range m.length)).filter (λi=>p ((r :: m).getD i d))=(((List.range m.length).filter λi=>p (m.getD i d)).map Nat.succ):=by
       rw [List.filter_map]
       rfl
     rw [e]
     simp only [List.getD_cons_zero]
     cases hp:p r with
     | true=>
       rw [if_pos rfl,List.map_cons,List.filter_cons_of_pos hp,List.map_map]
       simp only [List.getD_cons_zero]
       congr 1
     | false=>
       rw [if_neg Bool.false_ne_true,List.filter_cons_of_neg (by rw [hp]; decide),List.map_map]
       exact ih
 rw [<- key m,List.map_map]
 rfl
theorem qf {α β:Type} (g:α->List β) (xs:List α) (n:Nat):((xs.take n).flatMap g).length<=(xs.flatMap g).length:=by
 conv=>rhs; rw [<- List.take_append_drop n xs,List.flatMap_append,List.length_append]
 omega
section
variable {P:Program} {w:World} {K:PySem.W.Frag} {mg:Str->Option Value} {base:Heap} {k:Nat} {f:Addr} {fd:FuncData} {qual:Str}
set_option maxHeartbeats 1000000 in
theorem jo (F:Fun K "_law_families" qual (top 52) f fd) (hb:∀ x ∈ ak,mg x=none) (c_l_ways:Cal P w K mg base k "_law_ways" iU) (c_l_apart:Cal P w K mg base k "_law_apart" gq):aQ P w K mg base CX0 (k + 1) f fd ["_law_ladder_here","_law_rows","_law_columns"] (spD K cV):=by
 refine fnD F eP hb (by rintro _ _ ⟨_,_,_,_,_,_,_,rfl,_⟩; rfl) ?_
 rintro _ _ ⟨T,R,C,m,ss,ns,ms,rfl,ok,ha,rn,rm,m7,rfl⟩ cdv A outer s H E b
 have nd:=eP.nd
 have hs:=ok.mem
 have ln:=rn.len
 have lm:=rm.len
 have zl:(jl (ns.map D.int) (ms.map D.int)).length=m:=by rw [bW,List.length_map,List.length_map,ln,lm]; omega
 have bound:∀ k,k<=m->(lfK ss ns ms k).length<=2048:=λk hk=>pG hs rn rm ha hk
 refine ay 3 nd (aR (aL (ae (aR (aL ag)) ag))) ?_
 refine i4 4 5 (λl τ=>∃ s4 s5 s6 s7 s8,τ=[.d (bA T R C ss),.d (.lst (ns.map .int)),.d (.lst (ms.map .int)),.d (.lst ((lfK ss ns ms l).map tbD)),s4,s5,s6,s7,s8]) b nd (vL b (aa 1) (aa 2)) vH ⟨.un,.un,.un,.un,.un,rfl⟩ (λl hl τ h=>?_) λτ h=>?_
 · obtain ⟨s4,s5,s6,s7,s8,rfl⟩:=h
   rw [zl] at hl
   have bi:=rn.bd l hl
   have bj:=rm.bd l hl
   have b1:=bound l (by omega)
   have b2:=bound (l + 1) (by omega)
   have at_:∀ f ∈ lfK ss ns ms l,f.length=l:=λf hf=>((eC l f).mp hf).1
   have eK:lfK ss ns ms (l + 1)=(lfK ss ns ms l).flatMap (onF (lws ss (ns.getD l 0) (ms.getD l 0))):=rfl
   generalize ns.getD l 0=i at bi eK ⊢
   generalize ms.getD l 0=j at bj eK ⊢
   obtain ⟨i,rfl⟩:=Int.eq_ofNat_of_zero_le bi.1
   obtain ⟨j,rfl⟩:=Int.eq_ofNat_of_zero_le bj.1
   have wl:(lws ss (i:Int) (j:Int)).length<=2048:=by
     have h1:=j8 ss (i:Int) ss.length (Nat.le_refl _)
     have h2:2 ^ a9 (ss.take ss.length)<=2 ^ 11:=Nat.pow_le_pow_right (by decide) (Nat.le_trans (jP ss _) ha)
     have h3:(lws ss i j).length<=(lwK ss (i:Int) ss.length).length:=List.length_filter_le _ _
     omega
   refine ay 6 nd (x_call b c_l_ways (ae (aa 0) (ae (aa 4) (ae (aa 5) ag))) ⟨T,R,C,ss,i,j,rfl,ok.len,ha,rfl⟩) ?_
   generalize lws ss (i:Int) (j:Int)=ws at wl eK ⊢
   rw [eK] at b2
   generalize lfK ss ns ms l=fs at b1 at_ eK b2 ⊢
   refine ay 7 nd (aL ag) ?_
   refine bY 8 (g:=λn=>tbD (fs.getD n [])) (λn τ=>∃ s8,τ=[.d (bA T R C ss),.d (.lst (ns.map .int)),.d (.lst (ms.map .int)),.d (.lst (fs.map tbD)),.d (.int (i:Nat)),.d (.int (j:Nat)),.d (tbD ws),.o (((fs.take n).flatMap (onF ws)).map tbD),s8]) b nd (aZ (aa 3)) zd ⟨s8,rfl⟩ (λn hn τ h=>?_) λτ h=>?_
   · obtain ⟨s8,rfl⟩:=h
     have hn:n < fs.length:=by simpa using hn
     have fl:=at_ _ (cW (d:=[]) hn)
     have tk:(fs.take (n + 1)).flatMap (onF ws)=(fs.take n).flatMap (onF ws)++onF ws (fs.getD n []):=by rw [take_snoc [] hn,List.flatMap_append]; simp
     have bt:=Nat.le_trans (qf (onF ws) fs (n + 1)) b2
     rw [tk,List.length_append] at bt
     generalize fs.getD n []=fm at fl tk bt ⊢
     have e:((List.range (ws.map rwD).length).filter λn=>apt fm (ws.getD n [])).map (λn=>tbD (fm++[ws.getD n []]))=(onF ws fm).map tbD:=by
       rw [xX [] (apt fm) (λw=>tbD (fm++[w])) _ (List.length_map ..)]
       unfold onF
       rw [List.map_map]
       rfl
     refine tT 7 (gM (vE 0 (f:=λn=>tbD (fm++[ws.getD n []])) (t:=λn=>apt fm (ws.getD n [])) b (aZ (aa 6)) sV (by rw [List.length_map]; omega) (λn hn s0 H0 fp=>a7 (x_call (b.comp s0 H0 _ fp) c_l_apart (ae (aa 0) (ae (aa 1) ag)) ⟨_,_,rfl,rfl⟩)) λn hn _ s0 H0 fp=>?_)) ?_ (aN ⟨.d (tbD fm),?_⟩)
     · rw [show tbD (fm++[ws.getD n []])=.lst (fm.map rwD++[rwD (ws.getD n [])]) by unfold tbD; rw [List.map_append]; rfl]
       exact aR (oX (aa 1) (aR (aL (ae (aa 0) ag))) (by rw [List.length_map,fl]; show _ + 1 < _; omega))
     · rw [e,List.length_map,List.length_map]; omega
     · rw [tk,List.map_append,e]
       rfl
   · obtain ⟨s8,rfl⟩:=h
     refine qY 7 (ay 3 nd (aa 7) (aN ⟨.d (.int (i:Nat)),.d (.int (j:Nat)),.d (tbD ws),.d (.lst ((lfK ss ns ms (l + 1)).map tbD)),s8,?_⟩))
     rw [List.length_map,List.take_of_length_le (Nat.le_refl _),eK]
     rfl
 · obtain ⟨s4,s5,s6,s7,s8,rfl⟩:=h
   rw [zl]
   exact aG (aa 3) rfl
end
theorem w5 {T:Nat} {s:Stp} (h:okS T s):Ev.cln (stD s)=true/\Ev.dep (stD s)<=2:=by
 obtain ⟨u,n,q⟩:=s
 have hu:PyData.strOk u=true:=by
   rcases h.2 with z | z
   · obtain rfl:u = "weigh":=z.1
     decide +kernel
   · rcases z.1 with y | y
     · obtain rfl:u = "down":=y
       decide +kernel
     · obtain rfl:u = "up":=y
       decide +kernel
 simp [stD,frD,Ev.cln,Ev.bh,Ev.dep,Ev.bu,hu]
theorem oW {T:Nat}:∀ (ss:List Stp),(∀ s ∈ ss,okS T s)->Ev.bh (ss.map stD)=true/\Ev.bu (ss.map stD)<=2
 | [],_=>by simp [Ev.bh,Ev.bu]
 | s :: ss,h=>by
   obtain ⟨h1,h2⟩:=w5 (h s (List.mem_cons_self ..))
   obtain ⟨h3,h4⟩:=oW ss λs hs=>h s (List.mem_cons_of_mem _ hs)
   rw [List.map_cons,Ev.bh,Ev.bu,h1,h3]
   exact ⟨rfl,by omega⟩
theorem sJ {T R C:Nat} {ss:List Stp} (h:okL T R C ss):Ev.cD (bA T R C ss):=by
 obtain ⟨h1,h2⟩:=oW ss h.mem
 unfold bA Ev.cD
 simp only [Ev.cln,Ev.bh,Ev.dep,Ev.bu,h1]
 refine ⟨rfl,by omega⟩
theorem qa (xs:List D):kX (xs.map .d)=xs:=by
 induction xs with
 | nil=>rfl
 | cons x xs ih=>rw [List.map_cons,kX,ndD,ih]
theorem yB (T R C:Nat) (ss:List Stp):ndD (cpN T R C ss)=bA T R C ss:=by
 unfold cpN bA
 simp only [ndD,kX,qa]
theorem Rs.cho {n m:Nat} {p:List Int} (h:Rs n m p) (h1:1<=m) (h7:m<=7):ChO n p:=by
 have l:=h.len
 refine ⟨λz=>?_,λi hi=>h.up i (by omega),(h.bd 0 (by omega)).1,?_,by omega⟩
 · rw [z] at l; simp at l; omega
 · unfold bL
   rw [l]
   exact (h.bd (m - 1) (by omega)).2
theorem Rs.up2 {n T m:Nat} {p:List Int} (h:Rs n m p) (hn:n<=T):Rs T m p:=⟨h.len,h.up,λa ha=>by have:=h.bd a ha; omega⟩
theorem lK:∀ L:List (List (List Int)),Ev.bh (L.map tbD)=true/\Ev.bu (L.map tbD)<=2
 | []=>by simp [Ev.bh,Ev.bu]
 | f :: L=>by
   obtain ⟨h1,h2⟩:=lK L
   obtain ⟨h3,h4⟩:=ij f
   rw [List.map_cons,Ev.bh,Ev.bu,h1,show tbD f=.lst (f.map rwD) from rfl,Ev.cln,Ev.dep,h3]
   exact ⟨rfl,by omega⟩
theorem g9 (L:List (List (List Int))):Ev.cD (.lst (L.map tbD)):=by
 obtain ⟨h1,h2⟩:=lK L
 unfold Ev.cD
 rw [Ev.cln,Ev.dep,h1]
 exact ⟨rfl,by omega⟩
theorem sh (ns ms:List Int):Ev.cD (.lst [.lst (ns.map .int),.lst (ms.map .int)]):=sC [ns,ms]
noncomputable def yp:List (List Int)->Nd
 | []=>.l [.l []]
 | w :: f=>.l ((.l ((w.map λi=>.d (.int i))++[.d (.int 0)])) :: f.map iT++[.l []])
noncomputable def gk (ds:List D) (r:Sl):Prop:=∃ (T R C m:Nat) (ss:List Stp) (rs cs:List Int),ds=[bA T R C ss,.lst (rs.map .int),.lst (cs.map .int)]/\okL T R C ss/\a9 ss<=11/\Rs R m rs/\Rs C m cs/\1<=m/\m<=7/\r=.d (.bl true)
theorem kO (L:List (List (List Int))):fzD (.n (.l (L.map cO)))=some (.lst (L.map tbD)):=by
 show some (ndD (.l (L.map cO)))=_
 rw [ndD,gj]
 rfl
section
variable {P:Program} {w:World} {K:PySem.W.Frag} {mg:Str->Option Value} {base:Heap} {k:Nat} {f:Addr} {fd:FuncData} {qual:Str}
set_option maxHeartbeats 1000000 in
theorem nu (F:Fun K "_law_right" qual (top 55) f fd) (hb:∀ x ∈ ak,mg x=none) (c_l_families:Cal P w K mg base k "_law_families" cV) (c_l_copied:Cal P w K mg base k "_law_copied" eZ) (c_families:Cal P w K mg base k "families" c9) (c_l_lists:Cal P w K mg base k "_law_lists" gv):aQ P w K mg base CX0 (k + 1) f fd ["_law_ladder_here","_law_rows","_law_columns"] (spD K gk):=by
 refine fnD F iZ hb (by rintro _ _ ⟨_,_,_,_,_,_,_,rfl,_⟩; rfl) ?_
 rintro _ _ ⟨T,R,C,m,ss,rs,cs,rfl,ok,ha,h1,h2,m1,m7,rfl⟩ cdv A outer s H E b
 have nd:=iZ.nd
 have hs:=ok.mem
 have rn:=h1.up2 ok.rT
 have rm:=h2.up2 ok.cT
 have feq:=pS hs rn rm
 have bl:=pG hs rn rm ha (Nat.le_refl m)
 have n3:=(p5 (T:=T) (ns:=rs) (ms:=cs) ha).2
 have mem:∀ f ∈ lfK ss rs cs m,f.length=m/\∀ r ∈ f,r.length<=1000:=λf hf=>by
   obtain ⟨l,wy,_⟩:=(eC m f).mp hf
   refine ⟨l,λr hr=>?_⟩
   obtain ⟨a,ha,rfl⟩:=List.getElem_of_mem hr
   have:=(wy a (by omega)).len
   have h400:=ok.len
   simp [List.getD,ha] at this
   omega
 generalize hL:lfK ss rs cs m=L at feq bl mem
 refine ay 3 nd (x_call b c_l_families (ae (aa 0) (ae (aa 1) (ae (aa 2) ag))) ⟨T,R,C,m,ss,rs,cs,rfl,ok,ha,rn,rm,m7,by rw [hL]⟩) ?_
 refine ay 4 nd (aR (x_call b c_l_copied (ae (aa 0) ag) ⟨T,R,C,ss,rfl,rfl⟩) (x:=bA T R C ss) (congrArg some (yB T R C ss))) ?_
 refine ay 5 nd (aR (aL (ae (aR (mL b (ae (aa 1) ag) oi)) (ae (aR (mL b (ae (aa 2) ag) oi)) ag)))) ?_
 have cf:∀ r,r=Sl.n (.l (L.map cO))->c9 [bA T R C ss,.lst (rs.map .int),.lst (cs.map .int)] r:=λr e=>⟨T,R,C,ss,rs,cs,rfl,ok,h1.cho m1 m7,h2.cho m1 m7,by rw [h1.len,h2.len],by rw [h2.len]; exact m7,n3,by rw [feq]; exact e⟩
 refine ay 6 nd (x_call b c_families (ae (aa 4) (ae (aC (aa 5) af (aS (ax (i:=0) rfl))) (ae (aC (aa 5) af (aS (ax (i:=1) rfl))) ag))) (cf _ rfl)) ?_
 refine bX (PW.pt (du (bg (a7 (cS .list b (k9 6 (s:=.n (.l (L.map cO))) (hx:=kO L))))) λh=>(du (aJ (k9 6 (s:=.n (.l (L.map cO))) (hx:=kO L)) (aa 3) (oE b (g9 L) (g9 L))) λh=>(du (aJ (aa 4) (aa 0) (oE b (sJ ok) (sJ ok))) λh=>(dF (aJ (aa 5) (aR (aL (ae (aa 1) (ae (aa 2) ag)))) (oE b (sh rs cs) (sh rs cs)))))))) ?_ ?_
 · rw [cK,cK,cK]; rfl
 refine vY 6 7 (L.map cO) (L.map yp) (by rw [List.length_map,List.length_map]) b nd rfl (λn hn hn' r hr=>?_) ?_
 · have hn0:n < L.length:=by simpa using hn
   obtain ⟨fl,fr⟩:=mem _ (List.getElem_mem hn0)
   rw [List.getElem_map] at hr
   rw [List.getElem_map]
   generalize L[n]=fm at fl fr hr ⊢
   cases fm with
   | nil=>exact absurd fl (by show ¬ (0=m); omega)
   | cons w0 f0=>
     have p0:cF [n] (.l r)=some (cO (w0 :: f0)):=by
       show (r[n]?).bind (cF [])=_
       rw [hr]
       rfl
     have p1:cF [n,0] (.l r)=some (.l (w0.map λi=>.d (.int i))):=by
       show (r[n]?).bind (cF [0])=_
       rw [hr]
       rfl
     have hw:=fr w0 (List.mem_cons_self ..)
     have hg:r.getD n (.d .non)=cO (w0 :: f0):=by rw [List.getD,hr]; rfl
     have hnr:n < r.length:=(List.getElem?_eq_some_iff.mp hr).1
     have t1:cR [n,0] (.l r) (.l ((w0.map λi=>.d (.int i))++[.d (.int 0)]))=.l (r.set n (.l ((.l ((w0.map λi=>.d (.int i))++[.d (.int 0)])) :: f0.map iT))):=by
       show Nd.l (r.set n (cR [0] (r.getD n (.d .non)) _))=_
       rw [hg]
       rfl
     have t2:cR [n] (.l (r.set n (.l ((.l ((w0.map λi=>.d (.int i))++[.d (.int 0)])) :: f0.map iT)))) (.l ((.l ((w0.map λi=>.d (.int i))++[.d (.int 0)])) :: f0.map iT++[.l []]))=.l (r.set n (yp (w0 :: f0))):=by
       show Nd.l ((r.set n _).set n _)=_
       rw [List.set_set]
       rfl
     have p2:cF [n] (.l (r.set n (.l ((.l ((w0.map λi=>.d (.int i))++[.d (.int 0)])) :: f0.map iT))))=some (.l ((.l ((w0.map λi=>.d (.int i))++[.d (.int 0)])) :: f0.map iT)):=by
       show ((r.set n _)[n]?).bind (cF [])=_
       rw [List.getElem?_set_self hnr]
       rfl
     have z0:ixN (List.map iT (w0 :: f0)).length 0=some 0:=by unfold ixN; simp
     refine oq (yw (wX (c:=true) (wo (yP b c_l_lists (pW (xj kF rfl p0) (pW (xj kF rfl p0) v3)) ⟨w0 :: f0,by rw [oU]; rfl,fr,rfl⟩)))) ?_
     refine oq (vK (pt:=[0]) (xZ (pt:=[]) (m:=0) (z:=0) kF af rfl p0 z0) (s:=.d (.int 0)) af rfl p1 rfl (by rw [List.length_map]; omega)) ?_
     rw [t1,List.set_set]
     refine oq (vK (pt:=[]) kF (s:=.o []) (aL ag) rfl p2 rfl ?_) ?_
     · rw [List.length_cons,List.length_map]
       rw [List.length_cons] at fl
       omega
     rw [show ([]:List D).map Nd.d=[] from rfl,t2,List.set_set]
     exact x8
 refine xa (pt:=[]) (i:=6) (wz 6) (aL ag) rfl rfl rfl (by rw [List.length_map]; omega) ?_
 refine aG (dt (aR (x_call b c_families (ae (aa 0) (ae (aa 1) (ae (aa 2) ag))) (cf _ rfl)) (hx:=kO L)) (aa 3) (xU b (g9 L) (g9 L))) ?_
 rw [cK]
end
theorem mH:∀ ss:List Stp,a9 ss<=ss.length
 | []=>Nat.le_refl _
 | s :: ss=>by
   rw [a9,List.length_cons]
   have:=mH ss
   have:act s<=1:=by unfold act; split <;> omega
   omega
theorem wI {m:Nat} (c o:Int) {g:Nat} (hg:g<=40) (hm:m<=11):v5 (drT m c) (drR m c) (drC m c) 140 (drS m c o g):=by
 obtain ⟨h1,h2,h3⟩:=xI (m:=m) c o hg (by omega)
 have:=mH (drS m c o g)
 exact ⟨h1,by omega,h2,by omega⟩
noncomputable def pR (ds:List D) (r:Sl):Prop:=∃ ns:List Int,ns.length<=63/\ds=[.lst (ns.map .int)]/\r=.d (.bl true)
theorem zh (x:Int):∃ m:Nat,(m=7\/m=8)/\atI [D.int 7,.int 7,.int 7,.int 7,.int 7,.int 7,.int 7,.int 8] (x.fmod 8)=some (.int (m:Nat)):=by
 have h:=fm (a:=x) (b:=8) (by decide)
 obtain ⟨n,hn⟩:=Int.eq_ofNat_of_zero_le h.1
 rw [hn]
 have hn8:n < 8:=by omega
 clear h hn
 rcases (by omega:n=0\/n=1\/n=2\/n=3\/n=4\/n=5\/n=6\/n=7) with rfl | rfl | rfl | rfl | rfl | rfl | rfl | rfl
 · exact ⟨7,.inl rfl,rfl⟩
 · exact ⟨7,.inl rfl,rfl⟩
 · exact ⟨7,.inl rfl,rfl⟩
 · exact ⟨7,.inl rfl,rfl⟩
 · exact ⟨7,.inl rfl,rfl⟩
 · exact ⟨7,.inl rfl,rfl⟩
 · exact ⟨7,.inl rfl,rfl⟩
 · exact ⟨8,.inr rfl,rfl⟩
section
variable {P:Program} {w:World} {K:PySem.W.Frag} {mg:Str->Option Value} {base:Heap} {k:Nat} {f:Addr} {fd:FuncData} {qual:Str}
set_option maxHeartbeats 1000000 in
theorem wW (F:Fun K "law" qual (top 56) f fd) (hb:∀ x ∈ ak,mg x=none) (c_l_drawn:Cal P w K mg base k "_law_drawn" gw) (c_l_ends:Cal P w K mg base k "_law_ends" iY) (c_l_thinly:Cal P w K mg base k "_law_thinly" eW) (c_l_right:Cal P w K mg base k "_law_right" gk) (c_l_cell:Cal P w K mg base k "_law_cell" iM):aQ P w K mg base CX0 (k + 1) f fd ["_law_script"] (spD K pR):=by
 refine fnD F rF hb (by rintro _ _ ⟨_,_,rfl,_⟩; rfl) ?_
 rintro _ _ ⟨ns,hn,rfl,rfl⟩ cdv A outer s H E b
 have nd:=rF.nd
 have ex:∃ ms:List Int,ms.length<=64/\[D.int (ns.getD 1 0)]++Hy.cutD (ns.map D.int) (some 2) (some 6)=ms.map D.int:=by
   refine ⟨ns.getD 1 0 :: ((ns.take 6).drop 2),by simp; omega,?_⟩
   rw [show (2:Int)=((2:Nat):Int) from rfl,show (6:Int)=((6:Nat):Int) from rfl,uX,<- List.map_take,<- List.map_drop]
   rfl
 obtain ⟨ms,hms,ems⟩:=ex
 refine i4 1 2 (g:=λi=>.int (i:Nat)) (g':=λi=>.int (ms.getD i 0)) (λi τ=>∃ s1 s2 s3 s4 s5,τ=[.d (.lst (ns.map .int)),s1,s2,s3,s4,s5]) b nd (t4 b (aR (oX (aR (aL (ae (x_call b c_l_cell (ae (aa 0) (ae af ag)) ⟨ns,1,rfl,rfl⟩) ag))) (aR (y6 (aa 0) (sD af) (sD af))) ?_))) ?_ ⟨.un,.un,.un,.un,.un,rfl⟩ (λi hi τ h=>?_) λτ h=>?_
 · have:=congrArg List.length ems
   rw [List.length_append,List.length_map] at this
   show [D.int (ns.getD 1 0)].length + _ < _
   omega
 · intro i h
   show (gP ([D.int (ns.getD 1 0)]++Hy.cutD (ns.map D.int) (some 2) (some 6)))[i]=_
   simp only [ems]
   exact vI i _
 · obtain ⟨s1,s2,s3,s4,s5,rfl⟩:=h
   generalize ms.getD i 0=c
   obtain ⟨m,hm,em⟩:=zh c
   refine ay 3 nd (x_call b c_l_drawn (ae (aD (x_call b c_l_cell (ae (aa 0) (ae af ag)) ⟨ns,0,rfl,rfl⟩) (aD af (aa 1) (bC (mkL (by decide)))) aW) (ae (aa 2) (ae (aC (aR (aL (ae af (ae af (ae af (ae af (ae af (ae af (ae af (ae af ag)))))))))) (aD (aa 2) af (bB (by decide))) (aS em)) (ae af ag)))) ⟨m,_,_,0,rfl,by omega,by omega,rfl⟩) ?_
   refine kG (M:=λτ=>∃ T R C B ss,v5 T R C B ss/\τ=[.d (.lst (ns.map .int)),.d (.int (i:Nat)),.d (.int c),.d (bA T R C ss),s4,s5]) (aJ (aD (aa 2) af (bB (by decide))) af fq) (λh=>?_) (λh=>aN ⟨_,_,_,_,_,wI (m:=m) _ c (by omega) (by omega),rfl⟩) λτ h=>?_
   · exact ay 3 nd (x_call b c_l_thinly (ae (aa 2) ag) ⟨c,rfl,rfl⟩) (aN ⟨_,_,_,_,_,xB c,rfl⟩)
   obtain ⟨T,R,C,B,ss,lo,rfl⟩:=h
   have ok:=lo.ok
   have r7:R<=7:=Nat.le_trans ok.rT ok.t7
   have c7:C<=7:=Nat.le_trans ok.cT ok.t7
   obtain ⟨h1,h2⟩:=yc ok.r1 ok.c1 r7 c7 (c + 5)
   obtain ⟨_,q1,q2,_⟩:=rP ok.r1 ok.c1 r7 c7 (c + 5)
   refine tV (x_call b c_l_ends (ae (aD (aa 2) af aW) (ae (aa 3) ag)) ⟨c + 5,T,R,C,ss,rfl,ok,rfl⟩) (vF b.calm (fD 4 nd (fD 5 nd sN))) ?_
   exact bX (bg (a7 (x_call b c_l_right (ae (aa 3) (ae (aa 4) (ae (aa 5) ag))) ⟨T,R,C,_,ss,_,_,rfl,ok,lo.act,h1,h2,q1,by omega,rfl⟩))) rfl (aN ⟨_,_,_,_,_,rfl⟩)
 · obtain ⟨s1,s2,s3,s4,s5,rfl⟩:=h
   exact aG oo rfl
end
end K25
namespace K25
open PySem PySem.Spec PyProof.Rows L2 Hy
set_option maxHeartbeats 0 in
theorem all_mk {l:PySem.W.OpenLaw} {w:World} {K:PySem.W.Frag} {h:Heap} {mg:Str->Option Value} {fa f0 f1 f2 f3 f4 f5 f6 f7 f8 f9 f10 f11 f12 f13 f14 f15 f16 f17 f18 f19 f20 f21 f22 f23 f24 f25 f26 f27 f28 f29 f30 f31 f32 f33 f34 f35 f36 f37 f38 f39 f40 f41 f42:Addr} {t0 t1 t2:Tok} (X:K.In h) (G:h.Ns mainGlobals mg) (hfa:mg "law" = some (.ref fa))
   (h0:Dfn K "_law_numbers" (top 38) f0) (h1:Dfn K "_law_sizes" (top 44) f1) (h2:Dfn K "_law_divisor" (top 39) f2) (h3:Dfn K "_law_made" (top 40) f3) (h4:Dfn K "_law_ten" (top 36) f4) (h5:Dfn K "_law_weight" (top 42) f5) (h6:Dfn K "_law_ladder" (top 43) f6) (h7:Dfn K "_law_drawn" (top 45) f7) (h8:Dfn K "_law_choice" (top 48) f8) (h9:Dfn K "_law_ends" (top 53) f9) (h10:Dfn K "_law_thinly" (top 54) f10) (h11:Dfn K "_law_goes" (top 46) f11) (h12:Dfn K "_law_ways" (top 47) f12) (h13:Dfn K "_law_apart" (top 51) f13) (h14:Dfn K "_law_families" (top 52) f14) (h15:Dfn K "_law_copied" (top 49) f15) (h16:Dfn K "is_whole" (top 7) f16) (h17:Dfn K "is_between" (top 8) f17) (h18:Dfn K "common_divisor" (top 10) f18) (h19:Dfn K "is_fraction" (top 9) f19) (h20:Dfn K "is_weight" (top 20) f20) (h21:Dfn K "is_step" (top 21) f21) (h22:Dfn K "is_ladder" (top 22) f22) (h23:Dfn K "look_ladder" (top 23) f23) (h24:Dfn K "is_rising" (top 14) f24) (h25:Dfn K "is_choice" (top 13) f25) (h26:Dfn K "look_choices" (top 15) f26) (h27:Dfn K "look_ends" (top 32) f27) (h28:Dfn K "way_on" (top 30) f28) (h29:Dfn K "family_on" (top 34) f29) (h30:Dfn K "choices_of" (top 16) f30) (h31:Dfn K "rung_start" (top 24) f31) (h32:Dfn K "rung_end" (top 25) f32) (h33:Dfn K "next_places" (top 26) f33) (h34:Dfn K "counts_ahead" (top 27) f34) (h35:Dfn K "longer_trails" (top 29) f35) (h36:Dfn K "trails" (top 28) f36) (h37:Dfn K "families" (top 33) f37) (h38:Dfn K "_law_whole" (top 41) f38) (h39:Dfn K "_law_lists" (top 50) f39) (h40:Dfn K "_law_right" (top 55) f40) (h41:Dfn K "_law_cell" (top 37) f41) (h42:Dfn K "law" (top 56) f42) (hz:nsL K ak) (z0:PySem.W.nsIn K mainGlobals "MOST" = some (some (.int 7 t0))) (z1:PySem.W.nsIn K mainGlobals "MOST_STEPS" = some (some (.int 400 t1))) (z2:PySem.W.nsIn K mainGlobals "MOST_LISTED" = some (some (.int 3000 t2))) :
   ∃ fd:FuncData,(∀ (s:Shared) (v:Value),BindsTo s fd ⟨[v],[]⟩ [("_law_script",v)])/\∀ base:Heap,K.In base->base.Ns mainGlobals mg->aQ l.prog w K mg base CX0 10 fa fd ["_law_script"] (spD K pR):=by
 have hb:=hz.none X G
 have y_MOST:∃ t,mg "MOST" = some (.int 7 t):=⟨_,PySem.W.mg_of X G z0⟩
 have y_MOST_STEPS:∃ t,mg "MOST_STEPS" = some (.int 400 t):=⟨_,PySem.W.mg_of X G z1⟩
 have y_MOST_LISTED:∃ t,mg "MOST_LISTED" = some (.int 3000 t):=⟨_,PySem.W.mg_of X G z2⟩
 obtain ⟨a,⟨oc,od,kV,dc,pm,an,cd,ct,sl,l0,c⟩,r⟩:=h42
 cases hfa.symm.trans (PySem.W.mg_of X G a)
 refine ⟨PySem.W.fnOf "law" "law" (dh (top 56)) (bS (top 56)) (aj (top 56)) .none kV dc pm an cd ct,λs v=>.of_eq rfl,λbase _ _=>?_⟩
 have c_l_numbers:Cal l.prog w K mg base 1 "_law_numbers" bb:=h0.cal (ps:=["_law_cell_here","_law_bases"]) X G (λ_ _ _ _ _ _=>Hy.bd2 λ_ _=>rfl) λ_ F=>j7 (k:=0) F hb
 have c_l_sizes:Cal l.prog w K mg base 2 "_law_sizes" gg:=h1.cal (ps:=["_law_cell_here","_law_most"]) X G (λ_ _ _ _ _ _=>Hy.bd2 λ_ _=>rfl) λ_ F=>om (k:=1) F hb c_l_numbers
 have c_l_divisor:Cal l.prog w K mg base 1 "_law_divisor" eg:=h2.cal (ps:=["_law_one","_law_other"]) X G (λ_ _ _ _ _ _=>Hy.bd2 λ_ _=>rfl) λ_ F=>kT (k:=0) F hb
 have c_l_made:Cal l.prog w K mg base 2 "_law_made" iB:=h3.cal (ps:=["_law_top","_law_bottom"]) X G (λ_ _ _ _ _ _=>Hy.bd2 λ_ _=>rfl) λ_ F=>p9 (k:=1) F hb c_l_divisor
 have c_l_ten:Cal l.prog w K mg base 1 "_law_ten" gT:=h4.cal (ps:=["_law_many"]) X G (λ_ _ _ _ _ _=>Hy.bd1 λ_=>rfl) λ_ F=>tN (k:=0) F hb
 have c_l_weight:Cal l.prog w K mg base 3 "_law_weight" fb:=h5.cal (ps:=["_law_part","_law_figures"]) X G (λ_ _ _ _ _ _=>Hy.bd2 λ_ _=>rfl) λ_ F=>lN (k:=2) F hb c_l_made (c_l_ten.mono (by decide))
 have c_l_ladder:Cal l.prog w K mg base 4 "_law_ladder" eV:=h6.cal (ps:=["_law_cell_here","_law_tracks","_law_rows","_law_columns","_law_many","_law_figures"]) X G (λ_ _ _ _ _ _=>Hy.bd6 λ_ _ _ _ _ _=>rfl) λ_ F=>lz (k:=3) F hb (c_l_numbers.mono (by decide)) c_l_weight (c_l_ten.mono (by decide))
 have c_l_drawn:Cal l.prog w K mg base 5 "_law_drawn" gw:=h7.cal (ps:=["_law_one","_law_other","_law_most","_law_figures"]) X G (λ_ _ _ _ _ _=>Hy.bd4 λ_ _ _ _=>rfl) λ_ F=>ou (k:=4) F hb (c_l_sizes.mono (by decide)) c_l_ladder
 have c_l_choice:Cal l.prog w K mg base 2 "_law_choice" eX:=h8.cal (ps:=["_law_cell_here","_law_many","_law_size"]) X G (λ_ _ _ _ _ _=>Hy.bd3 λ_ _ _=>rfl) λ_ F=>mj (k:=1) F hb c_l_numbers
 have c_l_ends:Cal l.prog w K mg base 3 "_law_ends" iY:=h9.cal (ps:=["_law_cell_here","_law_ladder_here"]) X G (λ_ _ _ _ _ _=>Hy.bd2 λ_ _=>rfl) λ_ F=>qg (k:=2) F hb (c_l_numbers.mono (by decide)) c_l_choice
 have c_l_thinly:Cal l.prog w K mg base 2 "_law_thinly" eW:=h10.cal (ps:=["_law_cell_here"]) X G (λ_ _ _ _ _ _=>Hy.bd1 λ_=>rfl) λ_ F=>mM (k:=1) F hb c_l_numbers
 have c_l_goes:Cal l.prog w K mg base 1 "_law_goes" iP:=h11.cal (ps:=["_law_step","_law_track"]) X G (λ_ _ _ _ _ _=>Hy.bd2 λ_ _=>rfl) λ_ F=>qG (k:=0) F hb
 have c_l_ways:Cal l.prog w K mg base 2 "_law_ways" iU:=h12.cal (ps:=["_law_ladder_here","_law_i","_law_j"]) X G (λ_ _ _ _ _ _=>Hy.bd3 λ_ _ _=>rfl) λ_ F=>qD (k:=1) F hb c_l_goes
 have c_l_apart:Cal l.prog w K mg base 1 "_law_apart" gq:=h13.cal (ps:=["_law_way","_law_others"]) X G (λ_ _ _ _ _ _=>Hy.bd2 λ_ _=>rfl) λ_ F=>nR (k:=0) F hb
 have c_l_families:Cal l.prog w K mg base 3 "_law_families" cV:=h14.cal (ps:=["_law_ladder_here","_law_rows","_law_columns"]) X G (λ_ _ _ _ _ _=>Hy.bd3 λ_ _ _=>rfl) λ_ F=>jo (k:=2) F hb c_l_ways (c_l_apart.mono (by decide))
 have c_l_copied:Cal l.prog w K mg base 1 "_law_copied" eZ:=h15.cal (ps:=["_law_ladder_here"]) X G (λ_ _ _ _ _ _=>Hy.bd1 λ_=>rfl) λ_ F=>lO (k:=0) F hb
 have c_is_whole:Cal l.prog w K mg base 1 "is_whole" cb:=h16.cal (ps:=["thing"]) X G (λ_ _ _ _ _ _=>Hy.bd1 λ_=>rfl) λ_ F=>l9 (k:=0) F hb
 have c_is_between:Cal l.prog w K mg base 2 "is_between" bT:=h17.cal (ps:=["thing","least","most"]) X G (λ_ _ _ _ _ _=>Hy.bd3 λ_ _ _=>rfl) λ_ F=>jk (k:=1) F hb c_is_whole
 have c_common_divisor:Cal l.prog w K mg base 1 "common_divisor" bD:=h18.cal (ps:=["one","other"]) X G (λ_ _ _ _ _ _=>Hy.bd2 λ_ _=>rfl) λ_ F=>fM (k:=0) F hb
 have c_is_fraction:Cal l.prog w K mg base 2 "is_fraction" cC:=h19.cal (ps:=["thing"]) X G (λ_ _ _ _ _ _=>Hy.bd1 λ_=>rfl) λ_ F=>ic (k:=1) F hb c_is_whole c_common_divisor
 have c_is_weight:Cal l.prog w K mg base 3 "is_weight" d8:=h20.cal (ps:=["thing"]) X G (λ_ _ _ _ _ _=>Hy.bd1 λ_=>rfl) λ_ F=>kB (k:=2) F hb c_is_fraction
 have c_is_step:Cal l.prog w K mg base 4 "is_step" fW:=h21.cal (ps:=["thing","tracks"]) X G (λ_ _ _ _ _ _=>Hy.bd2 λ_ _=>rfl) λ_ F=>mZ (k:=3) F hb (c_is_between.mono (by decide)) c_is_weight
 have c_is_ladder:Cal l.prog w K mg base 5 "is_ladder" dU:=h22.cal (ps:=["thing"]) X G (λ_ _ _ _ _ _=>Hy.bd1 λ_=>rfl) λ_ F=>j6 (k:=4) F hb y_MOST y_MOST_STEPS (c_is_between.mono (by decide)) c_is_step
 have c_look_ladder:Cal l.prog w K mg base 6 "look_ladder" cE:=h23.cal (ps:=["thing"]) X G (λ_ _ _ _ _ _=>Hy.bd1 λ_=>rfl) λ_ F=>i6 (k:=5) F hb c_is_ladder
 have c_is_rising:Cal l.prog w K mg base 1 "is_rising" ee:=h24.cal (ps:=["numbers"]) X G (λ_ _ _ _ _ _=>Hy.bd1 λ_=>rfl) λ_ F=>kz (k:=0) F hb
 have c_is_choice:Cal l.prog w K mg base 2 "is_choice" dM:=h25.cal (ps:=["thing","many"]) X G (λ_ _ _ _ _ _=>Hy.bd2 λ_ _=>rfl) λ_ F=>ke (k:=1) F hb c_is_rising c_is_whole
 have c_look_choices:Cal l.prog w K mg base 3 "look_choices" b7:=h26.cal (ps:=["rows","columns","many_rows","many_columns"]) X G (λ_ _ _ _ _ _=>Hy.bd4 λ_ _ _ _=>rfl) λ_ F=>gN (k:=2) F hb c_is_choice
 have c_look_ends:Cal l.prog w K mg base 7 "look_ends" dH:=h27.cal (ps:=["ladder","rows","columns"]) X G (λ_ _ _ _ _ _=>Hy.bd3 λ_ _ _=>rfl) λ_ F=>k5 (k:=6) F hb c_look_ladder (c_look_choices.mono (by decide))
 have c_way_on:Cal l.prog w K mg base 1 "way_on" hV:=h28.cal (ps:=["trail","k"]) X G (λ_ _ _ _ _ _=>Hy.bd2 λ_ _=>rfl) λ_ F=>qi (k:=0) F hb
 have c_family_on:Cal l.prog w K mg base 2 "family_on" dQ:=h29.cal (ps:=["trail"]) X G (λ_ _ _ _ _ _=>Hy.bd1 λ_=>rfl) λ_ F=>kP (k:=1) F hb c_way_on
 have c_choices_of:Cal l.prog w K mg base 1 "choices_of" cX:=h30.cal (ps:=["many","size"]) X G (λ_ _ _ _ _ _=>Hy.bd2 λ_ _=>rfl) λ_ F=>ji (k:=0) F hb
 have c_rung_start:Cal l.prog w K mg base 1 "rung_start" cY:=h31.cal (ps:=["step"]) X G (λ_ _ _ _ _ _=>Hy.bd1 λ_=>rfl) λ_ F=>jf (k:=0) F hb
 have c_rung_end:Cal l.prog w K mg base 1 "rung_end" eU:=h32.cal (ps:=["step"]) X G (λ_ _ _ _ _ _=>Hy.bd1 λ_=>rfl) λ_ F=>mm (k:=0) F hb
 have c_next_places:Cal l.prog w K mg base 2 "next_places" bH:=h33.cal (ps:=["step","places"]) X G (λ_ _ _ _ _ _=>Hy.bd2 λ_ _=>rfl) λ_ F=>iW (k:=1) F hb c_rung_start c_rung_end
 have c_counts_ahead:Cal l.prog w K mg base 3 "counts_ahead" (bZ l.prog w):=h34.cal (ps:=["ladder","ends"]) X G (λ_ _ _ _ _ _=>Hy.bd2 λ_ _=>rfl) λ_ F=>gQ (k:=2) F hb (c_choices_of.mono (by decide)) c_next_places
 have c_longer_trails:Cal l.prog w K mg base 3 "longer_trails" (bO l.prog w):=h35.cal (ps:=["found","step","counts"]) X G (λ_ _ _ _ _ _=>Hy.bd3 λ_ _ _=>rfl) λ_ F=>gp (k:=2) F hb c_next_places
 have c_trails:Cal l.prog w K mg base 4 "trails" hZ:=h36.cal (ps:=["ladder","starts","ends"]) X G (λ_ _ _ _ _ _=>Hy.bd3 λ_ _ _=>rfl) λ_ F=>qj (k:=3) F hb y_MOST_LISTED c_counts_ahead c_longer_trails
 have c_families:Cal l.prog w K mg base 8 "families" c9:=h37.cal (ps:=["ladder","rows","columns"]) X G (λ_ _ _ _ _ _=>Hy.bd3 λ_ _ _=>rfl) λ_ F=>lV (k:=7) F hb c_look_ends (c_family_on.mono (by decide)) (c_trails.mono (by decide))
 have c_l_whole:Cal l.prog w K mg base 1 "_law_whole" gc:=h38.cal (ps:=["_law_thing"]) X G (λ_ _ _ _ _ _=>Hy.bd1 λ_=>rfl) λ_ F=>nU (k:=0) F hb
 have c_l_lists:Cal l.prog w K mg base 2 "_law_lists" gv:=h39.cal (ps:=["_law_found","_law_due"]) X G (λ_ _ _ _ _ _=>Hy.bd2 λ_ _=>rfl) λ_ F=>nO (k:=1) F hb c_l_whole
 have c_l_right:Cal l.prog w K mg base 9 "_law_right" gk:=h40.cal (ps:=["_law_ladder_here","_law_rows","_law_columns"]) X G (λ_ _ _ _ _ _=>Hy.bd3 λ_ _ _=>rfl) λ_ F=>nu (k:=8) F hb (c_l_families.mono (by decide)) (c_l_copied.mono (by decide)) c_families (c_l_lists.mono (by decide))
 have c_l_cell:Cal l.prog w K mg base 1 "_law_cell" iM:=h41.cal (ps:=["_law_script","_law_k"]) X G (λ_ _ _ _ _ _=>Hy.bd2 λ_ _=>rfl) λ_ F=>qH (k:=0) F hb
 exact wW (k:=9) (ti l0 c r) hb (c_l_drawn.mono (by decide)) (c_l_ends.mono (by decide)) (c_l_thinly.mono (by decide)) c_l_right (c_l_cell.mono (by decide))
theorem walk {l:PySem.W.OpenLaw} {q:Program} {loose:List Str} {XP:(Str->Option Value)->Heap->Prop} {YP:World->Heap->Prop} {d:DefRec} {K:Params->PySem.W.Frag} (hn:l.most=some 63) (hdf:d.params.defaults=[])
   (hY:∀ (w:World) (h:Heap),YP w h->(K w.params).In h)
   (F:∀ (w:World) (mg:Str->Option Value) (fa:Addr) (h:Heap),(K w.params).In h->h.Ns mainGlobals mg->mg d.name=some (.ref fa) ->
     ∃ fd:FuncData,(∀ (s:Shared) (u:Value),BindsTo s fd ⟨[u],[]⟩ [("_law_script",u)])/\∀ base:Heap,(K w.params).In base->base.Ns mainGlobals mg->aQ l.prog w (K w.params) mg base CX0 10 fa fd ["_law_script"] (spD (K w.params) pR)) :
   PySem.W.WalkO q loose XP YP l.row.toRowW d [] (λf vs=>PySem.call f vs):=
 L2.uJ (n:=63) (k:=10) (x:="_law_script") (CX:=λ_=>CX0) (sp:=λw=>spD (K w.params) pR) hn (by decide) hdf ⟨rfl,by decide,by decide⟩ hY F
   (λw H a ns hl _ hS=>uD (λns h=>⟨ns,h,rfl,rfl⟩) H a ns hl hS) λ_ _ _ _ _ z=>z
end K25
open PySem PySem.W PyProof.Rows
namespace PySem.W.Fast
theorem tw298047397456089601:True:=⟨⟩
theorem tw6211030445287283785:True:=⟨⟩
theorem tw2165630885106350030:True:=⟨⟩
theorem tw8885003538627041489:True:=⟨⟩
theorem tw9174220133072143757:True:=⟨⟩
theorem tw6991871237765223146:True:=⟨⟩
theorem tw17291778233959583838:True:=⟨⟩
theorem tw12282422088466900424:True:=⟨⟩
theorem tw16622055595508840710:True:=⟨⟩
theorem tw13095996686085213698:True:=⟨⟩
theorem tw2619547308884718031:True:=⟨⟩
theorem tw16932730766391439546:True:=⟨⟩
theorem tw17176329850896723671:True:=⟨⟩
theorem tw10037582553140798327:True:=⟨⟩
theorem tw4963429509187297849:True:=⟨⟩
theorem tw15022851657550437811:True:=⟨⟩
theorem tw1276849728576670196:True:=⟨⟩
theorem tw15105712562731676168:True:=⟨⟩
theorem tw4517640813006490037:True:=⟨⟩
theorem tw5530238161047274527:True:=⟨⟩
theorem tw15043250665446434857:True:=⟨⟩
theorem tw14909002677908876709:True:=⟨⟩
theorem tw7978567576401386158:True:=⟨⟩
theorem tw9427044978957025681:True:=⟨⟩
theorem tw13138721724885975415:True:=⟨⟩
theorem tw15893064869708983472:True:=⟨⟩
theorem tw819061535773718963:True:=⟨⟩
theorem tw14035839744967440793:True:=⟨⟩
theorem tw17525371450229641921:True:=⟨⟩
theorem tw1902282325848966873:True:=⟨⟩
theorem tw14002907208772173628:True:=⟨⟩
theorem tw7775496202920552147:True:=⟨⟩
theorem tw17909957333820954937:True:=⟨⟩
theorem tw1268268804207556706:True:=⟨⟩
theorem tw6302843113956199734:True:=⟨⟩
theorem tw18189536187666305401:True:=⟨⟩
theorem tw11800677310124289162:True:=⟨⟩
theorem tw16842817603701534551:True:=⟨⟩
theorem tw11097460090317645938:True:=⟨⟩
theorem tw3801936977634698521:True:=⟨⟩
theorem tw10302087465868507969:True:=⟨⟩
theorem tw11196778208774945819:True:=⟨⟩
theorem tw1861286413023980638:True:=⟨⟩
theorem tw12153485281063066066:True:=⟨⟩
theorem tw12975575009439052911:True:=⟨⟩
theorem tw5171652719141865536:True:=⟨⟩
theorem tw17602511666545156278:True:=⟨⟩
theorem tw14556652305373098934:True:=⟨⟩
theorem tw10733573173961379694:True:=⟨⟩
theorem tw5811917662086979053:True:=⟨⟩
theorem tw15213792820178469549:True:=⟨⟩
theorem tw4425825513529606644:True:=⟨⟩
theorem tw18443293120915030423:True:=⟨⟩
theorem tw12132244468766569349:True:=⟨⟩
theorem tw2189038751731937331:True:=⟨⟩
theorem tw2959128815434069007:True:=⟨⟩
theorem tw9143844711842547859:True:=⟨⟩
theorem tw10893417733583690670:True:=⟨⟩
theorem tw4961738946662644169:True:=⟨⟩
theorem tw11132711935186493734:True:=⟨⟩
theorem tw3798497673702736006:True:=⟨⟩
theorem tw13215318993109405166:True:=⟨⟩
end PySem.W.Fast
set_option maxRecDepth 100000 in
set_option maxHeartbeats 0 in
theorem PySem.Challenge.cw_signsmooth_k25_families_listed_holds : PySem.Challenge.rw_signsmooth_k25_families_listed.Holds := by
 w_on; o_law; k_head; (case hw=>w_witness2)
 k_fill
 refine K25.walk (l:=PySem.Challenge.rw_signsmooth_k25_families_listed) rfl rfl (λw h Y=>PySem.W.kIn_of Y) ?F
 case F=>
   intro w mg fa h KX G hmg
   refine' K25.all_mk KX G hmg (.of ?_ ?_ ?_ ?_) (.of ?_ ?_ ?_ ?_) (.of ?_ ?_ ?_ ?_) (.of ?_ ?_ ?_ ?_) (.of ?_ ?_ ?_ ?_) (.of ?_ ?_ ?_ ?_) (.of ?_ ?_ ?_ ?_) (.of ?_ ?_ ?_ ?_) (.of ?_ ?_ ?_ ?_) (.of ?_ ?_ ?_ ?_) (.of ?_ ?_ ?_ ?_) (.of ?_ ?_ ?_ ?_) (.of ?_ ?_ ?_ ?_) (.of ?_ ?_ ?_ ?_) (.of ?_ ?_ ?_ ?_) (.of ?_ ?_ ?_ ?_) (.of ?_ ?_ ?_ ?_) (.of ?_ ?_ ?_ ?_) (.of ?_ ?_ ?_ ?_) (.of ?_ ?_ ?_ ?_) (.of ?_ ?_ ?_ ?_) (.of ?_ ?_ ?_ ?_) (.of ?_ ?_ ?_ ?_) (.of ?_ ?_ ?_ ?_) (.of ?_ ?_ ?_ ?_) (.of ?_ ?_ ?_ ?_) (.of ?_ ?_ ?_ ?_) (.of ?_ ?_ ?_ ?_) (.of ?_ ?_ ?_ ?_) (.of ?_ ?_ ?_ ?_) (.of ?_ ?_ ?_ ?_) (.of ?_ ?_ ?_ ?_) (.of ?_ ?_ ?_ ?_) (.of ?_ ?_ ?_ ?_) (.of ?_ ?_ ?_ ?_) (.of ?_ ?_ ?_ ?_) (.of ?_ ?_ ?_ ?_) (.of ?_ ?_ ?_ ?_) (.of ?_ ?_ ?_ ?_) (.of ?_ ?_ ?_ ?_) (.of ?_ ?_ ?_ ?_) (.of ?_ ?_ ?_ ?_) (.of ?_ ?_ ?_ ?_) ⟨?_,?_,?_,?_,?_,?_,?_,?_,?_,?_,?_,?_,?_,?_,?_,?_,?_,?_,trivial⟩ ?_ ?_ ?_
   all_goals try k_is
#print axioms PySem.Challenge.cw_signsmooth_k25_families_listed_holds
