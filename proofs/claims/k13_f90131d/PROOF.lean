import PyProof.Rows.All
import Wide.All
import OpenK.AllK
import Wide.FinOn
import Lean
import PyProof.EqAt
import PyProof.EqKinds
import PyProof.TupleCall
import PyProof.DictKeyH
import PyProof.DictFindH
import PySem.Challenge.RW_signsmooth_k13_whole_products_by_choices
set_option genSizeOf false
set_option bootstrap.genMatcherCode false
set_option Elab.async false
set_option linter.all false
set_option maxRecDepth 100000
set_option exponentiation.threshold 4000
namespace Hx
open PySem PySem.Spec PyProof.Rows
theorem i6:entryFor table "proto.unchain" = some Builtin.«proto.unchain»:=entryFor_of_tree (by kernel_rfl)
section
variable {prog:Program} {w:World} {A:Around} {E:Value->Shared->Prop} {s:Shared}
theorem k3 {α:Type} {a h:Addr} {oa oh:Obj} {us vs:Array Value} {Q:α->Shared->Prop} (hh:A.handled=some (.ref h)) (hne:h ≠ a) (ha:s.heap.get? a=some oa) (hda:oa.data=.fields us) (hsz:2 < us.size)
   (ho:s.heap.get? h=some oh) (hd:oh.data=.fields vs) (h2:vs[2]?=some .none)
   (q:E (.ref a) { s with heap:=s.heap.update a (Obj.mapFields (·.setIfInBounds 2 (.ref h))) }):wpAny (model prog w) A (raiseNew (.ref a):Sem α) Q E s:=by
 unfold raiseNew; refine wpAny_bind (wpAny_handled ?_); rw [hh]
 dsimp only
 rw [if_pos (show (Value.ref h != Value.ref a)=true by simp [hne])]
 refine wpAny_bind (wpAny_holding (wpAny_runValue (codeAny_builtin i6 ?_)))
 unfold Builtin.«proto.unchain»
 dsimp only
 refine wpAny_bind (wpAny_field ho hd h2 ?_)
 rw [if_pos (show (Value.none == Value.none)=true by decide)]
 refine wpAny_pure ?_
 show wpAny _ A (do let _ <- updateField a 2 (.ref h); throw (Value.ref a)) _ _ _
 unfold updateField
 refine wpAny_bind (wpAny_bind (wpAny_load ha ?_))
 rw [hda]
 dsimp only
 rw [if_pos hsz]
 exact wpAny_update ha (wpAny_throw q)
theorem l5 {r h:Addr} {v left step:Int} {oh:Obj} {vs:Array Value} {Q:Option Value->Shared->Prop} (hh:A.handled=some (.ref h)) (ho:s.heap.get? h=some oh) (hd:oh.data=.fields vs) (h2:vs[2]?=some .none)
   (hr:IsRangeIter s.heap r v left step) (hl:left<=0) (k:∀ h',Heap.ExtBut r s.heap h'->Q none { s with heap:=h' }):wpAny (model prog w) A (pyNext (.ref r)) Q E s:=by
 have ty:s.TypeIs (.ref r) "range_iterator":=⟨_,hr,rfl⟩
 have hlt:=Heap.lt_size ho
 have fl:∀ {α:Type} {B:Around} {F:Value->Shared->Prop} {R:α->Shared->Prop} (i:Nat) (y:Int) {f:Value->Sem α},(#[rawInt v,rawInt left,rawInt step]:Array Value)[i]?=some (rawInt y)->wpAny (model prog w) B (f (rawInt y)) R F s->wpAny (model prog w) B (field (.ref r) i >>= f) R F s:=by
   intro α B F R i y f e q
   exact wpAny_bind (wpAny_field hr rfl e q)
 unfold pyNext
 refine wpAny_bind (wpAny_attempt (wpAny_callSpecial?_slot (name:=Str.ofString "__next__") ty F.slot_range_iterator_next (wpAny_call_entry F.slot_range_iterator_next ty F.entry_range_iterator_next (fl 0 v rfl (fl 1 left rfl (fl 2 step rfl ?_))) (F.args_range_iterator_next_1 _))))
 show wpAny (model prog w) A.in1 (if left<=0 then _ else _) _ _ s
 rw [if_pos hl]
 refine wpAny_bind (wpAny_rule (wpAny_bind ?_))
 show wpAny _ _ (do let e <- newExc (.type "StopIteration") []; _) _ _ _
 refine wpAny_bind ?_
 simp only [newExc,newTuple]
 refine wpAny_bind (wpAny_newObj_type (wpAny_bind (m:=firstArgMember _ _) (wpAny_of_eq (a:=.none) (by first | rfl | (simp only [firstArgMember]; rfl)) (wpAny_newObj_type ?_ (by size_fits)))) (by size_fits))
 have hg:((s.heap.push { cls:=.type "tuple",data:=.seq ([]:List Value).toArray }).push { cls:=.type "StopIteration",data:=.fields (#[Value.ref s.heap.objs.size,.none,.none,.none,.bool false,.none]++ownMembersOf (.type "StopIteration") []) }).get? (s.heap.push { cls:=.type "tuple",data:=.seq ([]:List Value).toArray }).objs.size
     = some { cls:=.type "StopIteration",data:=.fields (#[Value.ref s.heap.objs.size,.none,.none,.none,.bool false,.none]++ownMembersOf (.type "StopIteration") []) }:=Heap.get?_push_size _ rfl
 refine k3 (h:=h) (A:=A.in1) hh ?_ hg rfl (by rw [Array.size_append]; exact Nat.lt_of_lt_of_le (by decide:2 < 6) (Nat.le_add_right _ _)) (Heap.get?_push_of_some _ (Heap.get?_push_of_some _ ho)) hd h2 ?_
 · intro z
   rw [Heap.size_push] at z
   exact absurd hlt (by rw [z]; exact Nat.not_lt.mpr (Nat.le_succ _))
 have hu:=Heap.get?_update_self (Obj.mapFields (·.setIfInBounds 2 (.ref h))) hg rfl
 refine wpAny_bind (wpAny_isInstance (T:="StopIteration") (b:=true) ⟨_,hu,rfl⟩ isSubtype_stop ?_)
 refine wpAny_pure (k _ λb o hb e=>?_)
 have bl:=Heap.lt_size e
 rw [Heap.get?_update_other _ _ (by intro z; rw [Heap.size_push] at z; exact absurd bl (by rw [<- z]; exact Nat.not_lt.mpr (Nat.le_succ _)))]
 exact Heap.get?_push_of_some _ (Heap.get?_push_of_some _ e)
end
end Hx
set_option linter.all false
set_option maxRecDepth 100000
namespace L2
open PySem PySem.Spec PyProof.Rows
noncomputable abbrev Key:=Sum Int Str
noncomputable def jJ:Key->Value->Bool
 | .inl k,v=>Value.isInt k v
 | .inr x,v=>Value.isStrOf x v
noncomputable def yG (w:World):Key->Int
 | .inl k=>hashInt k
 | .inr x=>hashStr w x
theorem aY:∀ {k:Key} {v:Value},jJ k v=true->(∃ i t,k=Sum.inl i/\v=Value.int i t)\/(∃ x t,k=Sum.inr x/\v=Value.str x t)
 | .inl i,v,h=>by
   obtain ⟨t,e⟩:=Value.isInt_shape (k:=i) (v:=v) h
   exact .inl ⟨i,t,rfl,e⟩
 | .inr x,v,h=>by
   obtain ⟨t,e⟩:=Value.isStrOf_shape (x:=x) (v:=v) h
   exact .inr ⟨x,t,rfl,e⟩
theorem pF (i:Int) (t:Tok):jJ (.inl i) (.int i t)=true:=by simp [jJ,Value.isInt]
theorem oJ (x:Str) (t:Tok):jJ (.inr x) (.str x t)=true:=by simp [jJ,Value.isStrOf]
theorem vg (a b:Int):decide ((Sum.inl a:Key)=Sum.inl b)=(a == b):=by
 by_cases e:a=b
 · subst e; simp
 · have h:¬ (Sum.inl a:Key)=Sum.inl b:=λq=>e (Sum.inl.inj q)
   rw [decide_eq_false h]
   exact (beq_eq_false_iff_ne.mpr e).symm
theorem wQ (a b:Str):decide ((Sum.inr a:Key)=Sum.inr b)=decide (a=b):=by
 by_cases e:a=b
 · subst e; simp
 · have h:¬ (Sum.inr a:Key)=Sum.inr b:=λq=>e (Sum.inr.inj q)
   rw [decide_eq_false h,decide_eq_false e]
theorem wt (a:Int) (b:Str):decide ((Sum.inl a:Key)=Sum.inr b)=false:=decide_eq_false (λq=>nomatch q)
theorem vq (a:Str) (b:Int):decide ((Sum.inr a:Key)=Sum.inl b)=false:=decide_eq_false (λq=>nomatch q)
noncomputable def bC (prog:Program) (w:World):PySem.KeyKind prog w Key where
 is:=jJ
 hash:=yG w
 inj:=λv a b ha hb=>by
   rcases aY ha with ⟨i,t,rfl,rfl⟩ | ⟨x,t,rfl,rfl⟩
   · rcases aY hb with ⟨j,u,rfl,e⟩ | ⟨y,u,rfl,e⟩
     · injection e with e1 _; rw [e1]
     · exact nomatch e
   · rcases aY hb with ⟨j,u,rfl,e⟩ | ⟨y,u,rfl,e⟩
     · exact nomatch e
     · injection e with e1 _; rw [e1]
 byValue:=λk v h=>by
   rcases aY h with ⟨i,t,rfl,rfl⟩ | ⟨x,t,rfl,rfl⟩ <;> rfl
 pyHash:=λhv h=>by
   rcases aY hv with ⟨i,t,rfl,rfl⟩ | ⟨x,t,rfl,rfl⟩
   · exact wpAny_pyHash_int h
   · exact wpAny_pyHash_str h
 eqBool:=λhu hv h=>by
   rcases aY hu with ⟨i,t,rfl,rfl⟩ | ⟨x,t,rfl,rfl⟩
   · rcases aY hv with ⟨j,u,rfl,rfl⟩ | ⟨y,u,rfl,rfl⟩
     · rw [vg] at h; exact wpAny_eqBool_int h
     · rw [wt] at h; exact SeqAt.EqAt.int_str i t y u _ _ _ _ h
   · rcases aY hv with ⟨j,u,rfl,rfl⟩ | ⟨y,u,rfl,rfl⟩
     · rw [vq] at h; exact SeqAt.EqAt.str_int x t j u _ _ _ _ h
     · rw [wQ] at h; exact wpAny_eqBool_str h
 «strs»:=λk x t v h=>by
   rcases aY h with ⟨i,u,rfl,e⟩ | ⟨y,u,rfl,e⟩
   · exact nomatch e
   · injection e with e1 _
     subst e1
     cases v <;> rfl
theorem lK (prog:Program) (w:World) (i:Int) (t:Tok):(bC prog w).is (.inl i) (.int i t)=true:=pF i t
theorem kQ (prog:Program) (w:World) (x:Str) (t:Tok):(bC prog w).is (.inr x) (.str x t)=true:=oJ x t
inductive V where
 | non | bl (b:Bool) | int (i:Int) | str (x:Str) | byt (b:Array UInt8) | flt (b:UInt64) | ref (a:Addr) | ty (n:String)
 deriving DecidableEq
noncomputable def RelV:V->Value->Prop
 | .non,u=>u=Value.none
 | .bl b,u=>u=Value.bool b
 | .int i,u=>∃ t,u=Value.int i t
 | .str x,u=>∃ t,u=Value.str x t
 | .byt b,u=>∃ t,u=Value.bytes b t
 | .flt b,u=>∃ t,u=Value.float b t
 | .ref a,u=>u=Value.ref a
 | .ty n,u=>u=Value.type n
noncomputable abbrev Vals:List V->List Value->Prop:=Paired RelV
theorem Vals.length {xs:List V} {us:List Value} (r:Vals xs us):xs.length=us.length:=Paired.length r
theorem Vals.get:∀ {xs:List V} {us:List Value} {i:Nat} {x:V},Vals xs us->xs[i]?=some x->∃ u,us[i]?=some u/\RelV x u
 | _,_,_,_,.nil,e=>by simp at e
 | _,_,0,_,.cons r _,e=>by simp at e; subst e; exact ⟨_,rfl,r⟩
 | _,_,i + 1,x,.cons _ t,e=>by
   obtain ⟨u,h1,h2⟩:=Vals.get (i:=i) (x:=x) t (by simpa using e)
   exact ⟨u,by simpa using h1,h2⟩
theorem Vals.set {x:V} {u:Value} (r:RelV x u):∀ {xs:List V} {us:List Value} (i:Nat),Vals xs us->Vals (xs.set i x) (us.set i u)
 | _,_,_,.nil=>.nil
 | _,_,0,.cons _ t=>.cons r t
 | _,_,i + 1,.cons q t=>.cons q (Vals.set r i t)
theorem Vals.append:∀ {xs ys:List V} {us ws:List Value},Vals xs us->Vals ys ws->Vals (xs++ys) (us++ws)
 | _,_,_,_,.nil,s=>s
 | _,_,_,_,.cons r t,s=>.cons r (Vals.append t s)
theorem Vals.take:∀ {xs:List V} {us:List Value} (n:Nat),Vals xs us->Vals (xs.take n) (us.take n)
 | _,_,0,_=>.nil
 | _,_,_ + 1,.nil=>.nil
 | _,_,n + 1,.cons r t=>.cons r (Vals.take n t)
theorem Vals.drop:∀ {xs:List V} {us:List Value} (n:Nat),Vals xs us->Vals (xs.drop n) (us.drop n)
 | _,_,0,r=>r
 | _,_,_ + 1,.nil=>.nil
 | _,_,n + 1,.cons _ t=>Vals.drop n t
noncomputable def kA:Option V->Option Value->Prop
 | some v,some u=>RelV v u
 | none,none=>True
 | _,_=>False
noncomputable def KV {κ:Type}:List (κ × V)->List (κ × Value)->Prop:=Paired λ(p:κ × V) (q:κ × Value)=>p.1=q.1/\RelV p.2 q.2
noncomputable def kV:Key->V
 | .inl i=>.int i
 | .inr x=>.str x
inductive HO where
 | lst (xs:List V)
 | tup (xs:List V)
 | dK (kvs:List (Key × V)) | dT (kvs:List (List Key × V))
 | set (S:Int->Bool) (n:Nat)
 | ins (C dx:Addr) (fs:List (Str × V))
 | own (x:Addr)
 | xd (fs:List (Str × V))
 | met (f x:Addr)
 | rng (lo hi:Int)
 | frz (o:Obj) (u:HO)
 | tbl (ps:Array Value)
 | ext (φ:Heap->Prop)
noncomputable abbrev Hp:=Addr->Option HO
noncomputable def upd (H:Hp) (a:Addr) (o:HO):Hp:=λb=>if b=a then some o else H b
theorem aL {H:Hp} {a:Addr} {o:HO}:upd H a o a=some o:=by unfold upd; rw [if_pos rfl]
theorem aF {H:Hp} {a b:Addr} {o:HO} (h:b ≠ a):upd H a o b=H b:=by unfold upd; rw [if_neg h]
theorem aJ {H:Hp} {a b:Addr} {o:HO} (h:H a=some o) (h':H b=none):a ≠ b:=by
 intro e; subst e; rw [h] at h'; cases h'
section
variable (P:Program) (w:World)
noncomputable def bo (H:Hp) (h:Heap) (a:Addr):HO->Prop
 | .lst xs=>xs.length<=sizeLine/\∃ (its:List Value) (n:Nat),Vals xs its/\h.get? a=some { cls:=.type "list",data:=.seq its.toArray n }
 | .tup xs=>xs.length<=sizeLine/\∃ its:List Value,Vals xs its/\IsTup h a its.toArray
 | .dK kvs=>kvs.length<=sizeLine/\(a == sysModules)=false/\∃ vs,KV kvs vs/\h.DictOf (bC P w) a vs
 | .dT kvs=>kvs.length<=sizeLine/\(a == sysModules)=false/\∃ xs:List (List Key × Addr × Value),
     Paired (λ(p:List Key × V) (q:List Key × Addr × Value)=>p.1=q.1/\H q.2.1=some (.tup (p.1.map kV))/\RelV p.2 q.2.2) kvs xs /\
     ∃ o es ep,h.get? a=some o/\o.ExactDict/\o.data=.dict es ep/\es.toList=xs.map (entryOfKey (tupleKind (bC P w)))/\(xs.map (·.1)).Nodup
 | .set S n=>h.SetOf (intKind P w) a S n
 | .ins C dx fs=>H dx=some (.own a)/\fs.length<=1000/\dx ≠ a/\h.get? a=some (PySem.W.instObj C dx) /\
     ∃ mA,h.Ns1 dx mA/\(∀ f,kA (fs.lookup f) (mA f))/\PySem.Within mA (fs.map (·.1))
 | .own _=>∃ o,h.get? a=some o
 | .xd fs=>∃ mA,h.Ns1 a mA/\∀ f,kA (fs.lookup f) (mA f)
 | .rng lo hi=>∃ t u v,h.get? a=some { cls:=.type "range",data:=.fields #[.int lo t,.int hi u,.int 1 v] }
 | .frz o u=>h.get? a=some o/\bo H h a u
 | .tbl ps=>h.get? a=some { cls:=.none,data:=.fields ps }
 | .met f x=>h.get? a=some (PySem.W.methodObj (.ref f) (.ref x))
 | .ext φ=>φ h/\(∃ o,h.get? a=some o)/\∀ h1 h2:Heap,φ h1->(∀ o,h1.get? a=some o->h2.get? a=some o)->φ h2
noncomputable def HOk (H:Hp) (h:Heap):Prop:=∀ a o,H a=some o->bo P w H h a o
end
section
variable {P:Program} {w:World} {H H':Hp} {h h':Heap} {a:Addr} {o:HO}
theorem bo.lt (x:bo P w H h a o):a < h.objs.size:=by
 cases o with
 | lst xs=>obtain ⟨_,_,_,_,e⟩:=x; exact Heap.lt_size e
 | tup xs=>obtain ⟨_,_,_,p⟩:=x; exact p.lt
 | dK kvs=>obtain ⟨_,_,_,_,o,_,_,e,_⟩:=x; exact Heap.lt_size e
 | dT kvs=>obtain ⟨_,_,_,_,o,_,_,e,_⟩:=x; exact Heap.lt_size e
 | set S n=>obtain ⟨o,_,_,_,e,_⟩:=x; exact Heap.lt_size e
 | ins C dx fs=>obtain ⟨_,_,_,e,_⟩:=x; exact Heap.lt_size e
 | own y=>obtain ⟨_,e⟩:=x; exact Heap.lt_size e
 | xd fs=>obtain ⟨_,⟨_,_,_,e,_⟩,_⟩:=x; exact Heap.lt_size e
 | rng lo hi=>obtain ⟨_,_,_,e⟩:=x; exact Heap.lt_size e
 | frz ob u=>obtain ⟨e,_⟩:=x; exact Heap.lt_size e
 | tbl ps=>exact Heap.lt_size (show h.get? a=some _ from x)
 | met f y=>exact Heap.lt_size (show h.get? a=some _ from x)
 | ext φ=>obtain ⟨_,⟨_,e⟩,_⟩:=x; exact Heap.lt_size e
theorem Paired.u4 {α β:Type} {F G:α->β->Prop}:∀ {l₁:List α} {l₂:List β},Paired F l₁ l₂->(∀ a b,F a b->G a b)->Paired G l₁ l₂
 | _,_,.nil,_=>.nil
 | _,_,.cons r t,f=>.cons (f _ _ r) (Paired.u4 t f)
theorem bo.iz (x:bo P w H h a o) (k:∀ b u,(b=a\/H b=some (.own a))->h.get? b=some u->h'.get? b=some u)
   (ho:∀ b,H b=some (.own a)->H' b=some (.own a)) (ht:∀ b xs,H b=some (.tup xs)->H' b=some (.tup xs)):bo P w H' h' a o:=by
 induction o with
 | lst xs=>obtain ⟨z,its,n,r,e⟩:=x; exact ⟨z,its,n,r,k _ _ (.inl rfl) e⟩
 | tup xs=>obtain ⟨z,its,r,ob,e,c⟩:=x; exact ⟨z,its,r,ob,k _ _ (.inl rfl) e,c⟩
 | dK kvs=>obtain ⟨z,y,vs,r,ob,es,ep,e,c⟩:=x; exact ⟨z,y,vs,r,ob,es,ep,k _ _ (.inl rfl) e,c⟩
 | dT kvs=>
   obtain ⟨z,y,xs,r,ob,es,ep,e,c⟩:=x
   exact ⟨z,y,xs,Paired.u4 r λp q z=>⟨z.1,ht _ _ z.2.1,z.2.2⟩,ob,es,ep,k _ _ (.inl rfl) e,c⟩
 | set S n=>obtain ⟨ob,es,ep,t,e,c⟩:=x; exact ⟨ob,es,ep,t,k _ _ (.inl rfl) e,c⟩
 | ins C dx fs=>
   obtain ⟨d,z,ne,e,mA,⟨od,es,ep,e2,c⟩,r⟩:=x
   exact ⟨ho _ d,z,ne,k _ _ (.inl rfl) e,mA,⟨od,es,ep,k _ _ (.inr d) e2,c⟩,r⟩
 | own y=>obtain ⟨ob,e⟩:=x; exact ⟨ob,k _ _ (.inl rfl) e⟩
 | xd fs=>obtain ⟨mA,⟨od,es,ep,e,c⟩,r⟩:=x; exact ⟨mA,⟨od,es,ep,k _ _ (.inl rfl) e,c⟩,r⟩
 | rng lo hi=>obtain ⟨t,u,v,e⟩:=x; exact ⟨t,u,v,k _ _ (.inl rfl) e⟩
 | frz ob u ih=>obtain ⟨e,q⟩:=x; exact ⟨k _ _ (.inl rfl) e,ih q⟩
 | tbl ps=>
   have e:h.get? a=some { cls:=.none,data:=.fields ps }:=x
   show h'.get? a=some { cls:=.none,data:=.fields ps }
   exact k a _ (.inl rfl) e
 | met f y=>
   have e:h.get? a=some (PySem.W.methodObj (.ref f) (.ref y)):=x
   show h'.get? a=some (PySem.W.methodObj (.ref f) (.ref y))
   exact k a _ (.inl rfl) e
 | ext φ=>obtain ⟨p,⟨o,e⟩,st⟩:=x; exact ⟨st _ _ p λo q=>k _ _ (.inl rfl) q,⟨o,k _ _ (.inl rfl) e⟩,st⟩
theorem HOk.lt (x:HOk P w H h) (e:H a=some o):a < h.objs.size:=(x a o e).lt
theorem HOk.fresh (x:HOk P w H h) (e:h.objs.size<=a):H a=none:=by
 cases q:H a with
 | none=>rfl
 | some u=>exact absurd (Nat.lt_of_lt_of_le (x.lt q) e) (Nat.lt_irrefl _)
theorem HOk.kept (x:HOk P w H h) (k:∀ b u,h.get? b=some u->h'.get? b=some u):HOk P w H h':=λa o e=>
 (x a o e).iz (λb u _ q=>k b u q) (λ_ q=>q) λ_ _ q=>q
theorem HOk.laid (x:HOk P w H h) (k:∀ b u,h.get? b=some u->h'.get? b=some u) (hp:h.objs.size<=a) (new:bo P w (upd H a o) h' a o):HOk P w (upd H a o) h':=λb u e=>by
 have hn:=x.fresh hp
 by_cases hb:b=a
 · subst hb; rw [aL] at e; cases e; exact new
 · rw [aF hb] at e
   exact (x b u e).iz (λc v _ q=>k c v q) (λc q=>by rw [aF (aJ q hn)]; exact q) λc xs q=>by rw [aF (aJ q hn)]; exact q
end
noncomputable def Rd (H:Hp) (a:Addr) (u:HO):Prop:=H a=some u\/∃ o,H a=some (.frz o u)
theorem Rd.ok {P:Program} {w:World} {H:Hp} {h:Heap} {a:Addr} {u:HO} (r:Rd H a u) (x:HOk P w H h):bo P w H h a u:=by
 rcases r with r | ⟨o,r⟩
 · exact x a u r
 · obtain ⟨_,q⟩:=x a _ r
   exact q
noncomputable def Mut:Option HO->Prop
 | some (.lst _)=>True
 | some (.dK _)=>True
 | some (.dT _)=>True
 | some (.set _ _)=>True
 | some (.ins _ _ _)=>True
 | some (.ext _)=>True
 | _=>False
section
variable {P:Program} {w:World} {H:Hp} {h h':Heap} {x e:Addr} {o':HO}
theorem HOk.write (ok:HOk P w H h) (mu:Mut (H x)) (he:e=x\/H e=some (.own x)) (k:∀ b u,b ≠ e->h.get? b=some u->h'.get? b=some u) (heo:∃ u,h'.get? e=some u)
   (new:bo P w (upd H x o') h' x o'):HOk P w (upd H x o') h':=λb u q=>by
 have nown:∀ c y,H c=some (.own y)->c ≠ x:=λc y r z=>by subst z; rw [r] at mu; exact mu
 have ntup:∀ c xs,H c=some (.tup xs)->c ≠ x:=λc xs r z=>by subst z; rw [r] at mu; exact mu
 by_cases hb:b=x
 · subst hb; rw [aL] at q; cases q; exact new
 · rw [aF hb] at q
   by_cases hbe:b=e
   · have q':H b=some (.own x):=by
       rcases he with z | z
       · exact absurd (hbe.trans z) hb
       · rw [hbe]; exact z
     rw [q] at q'; cases q'
     obtain ⟨v,hv⟩:=heo
     exact ⟨v,by rw [hbe]; exact hv⟩
   · refine (ok b u q).iz (λc v hc r=>k c v ?_ r) (λc r=>by rw [aF (nown c b r)]; exact r) λc xs r=>by rw [aF (ntup c xs r)]; exact r
     rcases hc with rfl | hc
     · exact hbe
     · rintro rfl
       rcases he with z | z
       · exact nown c b hc z
       · rw [hc] at z; cases z; exact hb rfl
end
structure Un (fs ex:List Addr) (H H':Hp) (h h':Heap):Prop where
 keep:∀ b o,h.get? b=some o->H b=none->b ∉ fs->b ∉ ex->h'.get? b=some o
 slot:∀ b o,h.get? b=some o->H b=none->b ∈ fs->b ∉ ex->∃ sl,h'.get? b=some { o with slots:=sl }
 free:∀ b o,h.get? b=some o->H b=none->b ∉ ex->H' b=none
 there:∀ b o,h.get? b=some o->b ∉ ex->∃ o',h'.get? b=some o'
 tups:∀ b xs,H b=some (.tup xs)->H' b=some (.tup xs)
 frzs:∀ b o u,H b=some (.frz o u)->H' b=some (.frz o u)
 tbls:∀ b ps,H b=some (.tbl ps)->∃ more,H' b=some (.tbl (ps++more))
section
variable {fs fs' ex ex':List Addr} {H H1 H2:Hp} {h h1 h2 h':Heap} {a x e:Addr} {o:HO}
theorem Un.any (u:Un fs ex H H1 h h1) {b:Addr} {ob:Obj} (q:h.get? b=some ob) (n:H b=none) (hx:b ∉ ex):∃ sl,h1.get? b=some { ob with slots:=sl }:=by
 by_cases hb:b ∈ fs
 · exact u.slot b ob q n hb hx
 · exact ⟨ob.slots,u.keep b ob q n hb hx⟩
theorem Un.trans (a:Un fs ex H H1 h h1) (b:Un fs ex H1 H2 h1 h2):Un fs ex H H2 h h2 where
 keep:=λc ob q n hc hx=>b.keep c ob (a.keep c ob q n hc hx) (a.free c ob q n hx) hc hx
 slot:=λc ob q n hc hx=>by
   obtain ⟨sl,e1⟩:=a.slot c ob q n hc hx
   obtain ⟨sl',e2⟩:=b.slot c _ e1 (a.free c ob q n hx) hc hx
   exact ⟨sl',e2⟩
 free:=λc ob q n hx=>by
   obtain ⟨o',e1⟩:=a.there c ob q hx
   exact b.free c o' e1 (a.free c ob q n hx) hx
 there:=λc ob q hx=>by
   obtain ⟨o',e1⟩:=a.there c ob q hx
   exact b.there c o' e1 hx
 tups:=λc xs q=>b.tups c xs (a.tups c xs q)
 frzs:=λc ob xs q=>b.frzs c ob xs (a.frzs c ob xs q)
 tbls:=λc ps q=>by
   obtain ⟨m1,e1⟩:=a.tbls c ps q
   obtain ⟨m2,e2⟩:=b.tbls c _ e1
   exact ⟨m1++m2,by rw [e2,Array.append_assoc]⟩
theorem Un.kept (k:∀ b u,h.get? b=some u->h'.get? b=some u):Un fs ex H H h h':=
 ⟨λb ob q _ _ _=>k b ob q,λb ob q _ _ _=>⟨ob.slots,k b ob q⟩,λ_ _ _ n _=>n,λb ob q _=>⟨ob,k b ob q⟩,λ_ _ q=>q,λ_ _ _ q=>q,λ_ ps q=>⟨#[],by rw [q]; simp⟩⟩
theorem Un.refl:Un fs ex H H h h:=Un.kept λ_ _ q=>q
theorem Un.laid (k:∀ b u,h.get? b=some u->h'.get? b=some u) (hp:h.objs.size<=a) (hn:H a=none):Un fs ex H (upd H a o) h h' where
 keep:=λb u q _ _ _=>k b u q
 slot:=λb u q _ _ _=>⟨u.slots,k b u q⟩
 free:=λb u q n _=>by rw [aF (Nat.ne_of_lt (Nat.lt_of_lt_of_le (Heap.lt_size q) hp))]; exact n
 there:=λb u q _=>⟨u,k b u q⟩
 tups:=λb xs q=>by rw [aF (aJ q hn)]; exact q
 frzs:=λb u xs q=>by rw [aF (aJ q hn)]; exact q
 tbls:=λb ps q=>⟨#[],by rw [aF (aJ q hn),q]; simp⟩
theorem Un.write (mu:Mut (H x)) (he:e=x\/H e=some (.own x)) (k:∀ b u,b ≠ e->h.get? b=some u->h'.get? b=some u) (heo:∃ u,h'.get? e=some u):Un fs ex H (upd H x o) h h':=by
 have hx:∀ b,H b=none->b ≠ x:=λb n z=>by subst z; rw [n] at mu; exact mu
 have hb:∀ b,H b=none->b ≠ e:=λb n z=>by
   subst z
   rcases he with r | r
   · exact hx b n r
   · rw [n] at r; cases r
 have hm:∀ b u,H b=some u->¬ Mut (some u)->b ≠ x:=λb u q nm z=>by subst z; rw [q] at mu; exact nm mu
 refine ⟨λb u q n _ _=>k b u (hb b n) q,λb u q n _ _=>⟨u.slots,k b u (hb b n) q⟩,λb u q n _=>by rw [aF (hx b n)]; exact n,λb u q _=>?_,
   λb xs q=>by rw [aF (hm b _ q λz=>z)]; exact q,λb u xs q=>by rw [aF (hm b _ q λz=>z)]; exact q,λb ps q=>⟨#[],by rw [aF (hm b _ q λz=>z),q]; simp⟩⟩
 by_cases hbe:b=e
 · subst hbe; exact heo
 · exact ⟨u,k b u hbe q⟩
theorem Un.mono (u:Un fs ex H H1 h h1) (hs:∀ b ∈ fs,b ∈ fs') (hx:∀ b ∈ ex,b ∈ ex'):Un fs' ex' H H1 h h1:=
 ⟨λb ob q n hb he=>u.keep b ob q n (λz=>hb (hs b z)) λz=>he (hx b z),λ_ _ q n _ he=>u.any q n λz=>he (hx _ z),λb ob q n he=>u.free b ob q n λz=>he (hx b z),λb ob q he=>u.there b ob q λz=>he (hx b z),u.tups,u.frzs,u.tbls⟩
end
noncomputable def trk (h:Heap) (H:Hp):List Addr:=(List.range h.objs.size).filter λa=>(H a).isSome
noncomputable def j3 (h:Heap) (H:Hp):Heap:=PySem.W.hideAll h (trk h H)
theorem oz (h:Heap) (H:Hp):(j3 h H).objs.size=h.objs.size:=PySem.W.hideAll_size _ _
theorem pY {h:Heap} {H:Hp} {b:Addr} {o:Obj} (e:h.get? b=some o) (n:H b=none):(j3 h H).get? b=some o:=
 PySem.W.hideAll_get _ e λhm=>by
   have q:(H b).isSome=true:=(List.mem_filter.mp hm).2
   rw [n] at q; simp at q
theorem uu {h:Heap} {H:Hp} {b:Addr} {o:Obj} (e:(j3 h H).get? b=some o):h.get? b=some o/\H b=none:=by
 have e':h.get? b=some o:=PySem.W.of_hideAll (trk h H) e
 refine ⟨e',?_⟩
 cases q:H b with
 | none=>rfl
 | some x=>
   have hm:b ∈ trk h H:=List.mem_filter.mpr ⟨List.mem_range.mpr (Heap.lt_size e'),by simp [q]⟩
   have z:(j3 h H).get? b=none:=PySem.W.hideAll_none (trk h H) hm
   rw [z] at e; cases e
noncomputable def sF (g h:Heap) (L:Addr):List (Addr × Obj):=(List.range h.objs.size).filterMap λa=>if a=L\/(g.get? a).isSome=true then none else (h.get? a).map λo=>(a,o)
noncomputable def rest (g h:Heap) (L d:Addr):List (Addr × Obj):=(sF g h L).filter λp=>decide (p.1 ≠ d)
structure Mod (K:PySem.W.Frag) (mg:Str->Option Value) (base:Heap):Prop where
 kin:K.In base
 glob:base.Ns mainGlobals mg
 blt:∃ mb,base.Ns builtinsNs mb/\∀ x:Str,x ≠ "__name__" -> mb x=bootBuiltins x
 nolimit:base.NoLimit
structure Cx where
 prog:Program
 w:World
 K:PySem.W.Frag
 mg:Str->Option Value
 base:Heap
 A:Around
 N:List Str
 s₀:Shared
 H₀:Hp
 env:Env
 outer:List Env
 stack:List Env
 ex:List Addr
 fn:Str->Bool
 calm:Bool
 pn:List (Addr × Obj)
 xe:Value->Shared->Prop
noncomputable def frs (l:List Env):List Addr:=l.filterMap (·.frame)
noncomputable abbrev Cx.fs (X:Cx):List Addr:=frs X.outer
noncomputable def Vis (sc:Scope) (x:Str):Prop:=sc.names.lookup x=some .local\/sc.names.lookup x=some .cell\/sc.names.lookup x=some .free
noncomputable def Loc (sc:Scope) (x:Str):Prop:=sc.names.lookup x=some .local\/sc.names.lookup x=some .cell
noncomputable def Look (env:Env) (h:Heap) (m:Str->Option Value) (x:Str) (u:Value):Prop:=
 (env.kindOf x=some .local/\m x=some u)\/((env.kindOf x=some .cell\/env.kindOf x=some .free)/\∃ c,env.cells.lookup x=some c/\h.IsCell c (some u))
structure Cx.Ok (X:Cx):Prop where
 mod:Mod X.K X.mg X.base
 kind:X.env.scope.kind=.function
 glob:X.env.globals=mainGlobals
 blt:X.env.builtins=builtinsNs
 above:X.s₀.heap.objs.size<=X.env.locals
 inj:∀ x y c,X.env.cells.lookup x=some c->X.env.cells.lookup y=some c->x=y
 has:∀ x,(X.env.kindOf x=some .cell\/X.env.kindOf x=some .free)->∃ c,X.env.cells.lookup x=some c
 cab:∀ x c,X.fn x=true->X.env.cells.lookup x=some c->X.s₀.heap.objs.size<=c
 hd:X.calm=true->X.A.handled=none
 frames:X.A.frames=some X.stack
 stk:X.stack=X.outer\/(X.stack=X.env :: X.outer/\X.env.frame=some X.env.locals)
 exf:∀ b ∈ X.ex,b ≠ X.env.locals/\∀ x c,X.env.cells.lookup x=some c->c ≠ b
 bs:∀ b o,X.base.get? b=some o->X.s₀.heap.get? b=some o/\X.H₀ b=none
 bsz:X.base.objs.size<=X.s₀.heap.objs.size
 noex:∀ b o,X.base.get? b=some o->b ∉ X.ex
 exfs:∀ b ∈ X.ex,b ∉ X.fs
 gU:X.s₀.heap.FunFrames X.base X.outer
 frf:∀ b ∈ X.fs,X.H₀ b=none
structure Inv (X:Cx) (pins:List (Addr × Obj)) (σ:List (Option V)) (H:Hp) (s:Shared):Prop where
 ok:X.Ok
 os:s.os=X.s₀.os
 bare:AllBare s.gens
 base:Un X.fs X.ex X.H₀ H X.s₀.heap s.heap
 loc:∃ m,s.heap.Ns X.env.locals m/\∀ (i:Nat) (x:Str) (v:V),X.N[i]?=some x->σ[i]?=some (some v)->Vis X.env.scope x->∃ u,RelV v u/\Look X.env s.heap m x u
 cell:∀ x c,X.env.cells.lookup x=some c->∃ v,s.heap.IsCell c v
 free:H X.env.locals=none
 freeC:∀ x c,X.env.cells.lookup x=some c->H c=none
 pin:∀ p ∈ X.pn++pins,s.heap.get? p.1=some p.2/\H p.1=none/\p.1 ≠ X.env.locals/\p.1 ∉ X.fs/\∀ v,p.2.data ≠ .cell v
 hok:HOk X.prog X.w H s.heap
 len:σ.length=X.N.length
section
variable {X:Cx} {pins:List (Addr × Obj)} {σ:List (Option V)} {H H':Hp} {s:Shared} {h':Heap}
theorem Cx.Ok.yj (ok:X.Ok) {b:Addr} {o:Obj} (e:X.base.get? b=some o):b ∉ X.fs:=λhb=>by
 have:=(ok.gU.mem hb).1
 rw [e] at this; cases this
theorem Inv.bs (I:Inv X pins σ H s):∀ b o,X.base.get? b=some o->s.heap.get? b=some o/\H b=none:=λb o e=>
 ⟨I.base.keep b o (I.ok.bs b o e).1 (I.ok.bs b o e).2 (I.ok.yj e) (I.ok.noex b o e),I.base.free b o (I.ok.bs b o e).1 (I.ok.bs b o e).2 (I.ok.noex b o e)⟩
theorem Inv.bk (I:Inv X pins σ H s):∀ b o,X.base.get? b=some o->s.heap.get? b=some o:=λb o e=>(I.bs b o e).1
theorem Inv.mod (I:Inv X pins σ H s):Mod X.K X.mg X.base:=I.ok.mod
theorem Inv.kIn (I:Inv X pins σ H s):X.K.In s.heap:=I.ok.mod.kin.keeps I.bk
theorem Inv.lt (I:Inv X pins σ H s):X.env.locals < s.heap.objs.size:=let ⟨_,hn,_⟩:=I.loc; hn.lt
theorem Inv.sz (I:Inv X pins σ H s):X.s₀.heap.objs.size<=s.heap.objs.size:=Nat.le_trans I.ok.above (Nat.le_of_lt I.lt)
theorem Inv.yO (I:Inv X pins σ H s) {a:Addr} (h:s.heap.objs.size<=a):a ∉ X.fs:=λhb=>by
 obtain ⟨_,o,ho,_⟩:=I.ok.gU.mem hb
 exact absurd (Nat.lt_of_lt_of_le (Heap.lt_size ho) (Nat.le_trans I.sz h)) (Nat.lt_irrefl _)
theorem Inv.cne (I:Inv X pins σ H s):∀ x c,X.env.cells.lookup x=some c->c ≠ X.env.locals:=λx c e z=>by
 obtain ⟨v,o,ho,hd⟩:=I.cell x c e
 obtain ⟨m,⟨o',es,ep,ho',hd',_⟩,_⟩:=I.loc
 rw [z,ho'] at ho; cases ho; rw [hd'] at hd; cases hd
theorem Inv.gU (I:Inv X pins σ H s):s.heap.FunFrames X.base X.outer:=by
 have all:∀ (l:List Env),(∀ b ∈ frs l,b ∈ X.fs)->X.s₀.heap.FunFrames X.base l->s.heap.FunFrames X.base l:=by
   intro l
   induction l with
   | nil=>intro _ _; trivial
   | cons env r ih=>
     intro hs hl
     obtain ⟨hk,⟨L,o,hf,hn,ho,hd⟩,hr⟩:=hl
     have hL:L ∈ X.fs:=hs L (by unfold frs; rw [List.filterMap_cons,hf]; exact List.mem_cons_self)
     obtain ⟨sl,e⟩:=I.base.slot L o ho (I.ok.frf L hL) hL λz=>I.ok.exfs L z hL
     exact ⟨hk,⟨L,_,hf,hn,e,hd⟩,ih (λb hb=>hs b (by unfold frs; rw [List.filterMap_cons,hf]; exact List.mem_cons_of_mem _ hb)) hr⟩
 exact all X.outer (λ_ hb=>hb) I.ok.gU
theorem Inv.stack (I:Inv X pins σ H s):s.heap.FunFrames X.base X.stack:=by
 rcases I.ok.stk with e | ⟨e,hf⟩
 · rw [e]; exact I.gU
 · rw [e]
   obtain ⟨m,hn,_⟩:=I.loc
   refine .cons (by rw [I.ok.kind]; decide) hf hn ?_ I.gU
   exact Heap.get?_none_of_le (Nat.le_trans I.ok.bsz I.ok.above)
theorem Inv.mK (I:Inv X pins σ H s):∀ b ∈ frs X.stack,b ∈ X.env.locals :: X.fs:=λb hb=>by
 rcases I.ok.stk with e | ⟨e,hf⟩
 · rw [e] at hb; exact List.mem_cons_of_mem _ hb
 · rw [e] at hb
   unfold frs at hb
   rw [List.filterMap_cons,hf] at hb
   exact hb
theorem Inv.nj (I:Inv X pins σ H s):∀ b ∈ frs X.stack,H b=none:=λb hb=>by
 rcases List.mem_cons.mp (I.mK b hb) with e | hb
 · rw [e]; exact I.free
 · obtain ⟨_,o,ho,_⟩:=I.ok.gU.mem hb
   exact I.base.free b o ho (I.ok.frf b hb) λz=>I.ok.exfs b z hb
theorem Inv.step {g':Array GenState} {t':Nat} {d':Drawn} {ch:List Addr} (I:Inv X pins σ H s)
   (hch:∀ b ∈ ch,(b ∈ X.ex\/X.s₀.heap.objs.size<=b)/\b ≠ X.env.locals/\(∀ x c,X.env.cells.lookup x=some c->c ≠ b)/\∀ p ∈ X.pn++pins,p.1 ≠ b)
   (keep:∀ b o,b ≠ X.env.locals->b ∉ X.fs->b ∉ ch->s.heap.get? b=some o->H b=none->h'.get? b=some o)
   (slot:∀ b o,b ≠ X.env.locals->b ∈ X.fs->b ∉ ch->s.heap.get? b=some o->H b=none->∃ sl,h'.get? b=some { o with slots:=sl }) (free:∀ b o,b ∉ ch->s.heap.get? b=some o->H b=none->H' b=none)
   (there:∀ b o,b ∉ ch->s.heap.get? b=some o->∃ o',h'.get? b=some o')
   (tups:∀ b xs,H b=some (.tup xs)->H' b=some (.tup xs)) (frzs:∀ b o u,H b=some (.frz o u)->H' b=some (.frz o u)) (tbls:∀ b ps,H b=some (.tbl ps)->∃ more,H' b=some (.tbl (ps++more)))
   (ns:∀ m,s.heap.Ns X.env.locals m->h'.Ns X.env.locals m) (hok:HOk X.prog X.w H' h') (hg:AllBare g') :
   Inv X pins σ H' { s with heap:=h',gens:=g',drawn:=d',toks:=t' }:=by
 have neL:∀ b o,X.s₀.heap.get? b=some o->b ≠ X.env.locals:=λb o e=>Nat.ne_of_lt (Nat.lt_of_lt_of_le (Heap.lt_size e) I.ok.above)
 have neC:∀ b o,X.s₀.heap.get? b=some o->b ∉ X.ex->b ∉ ch:=λb o e hx hb=>by
   rcases (hch b hb).1 with z | z
   · exact hx z
   · exact absurd (Nat.lt_of_lt_of_le (Heap.lt_size e) z) (Nat.lt_irrefl _)
 have cellK:∀ x c,X.env.cells.lookup x=some c->∀ v,s.heap.IsCell c v->h'.IsCell c v:=λx c e v ⟨o,ho,hd⟩=>by
   have nch:c ∉ ch:=λz=>(hch c z).2.2.1 x c e rfl
   by_cases hc:c ∈ X.fs
   · obtain ⟨sl,q⟩:=slot c o (I.cne x c e) hc nch ho (I.freeC x c e)
     exact ⟨_,q,hd⟩
   · exact ⟨o,keep c o (I.cne x c e) hc nch ho (I.freeC x c e),hd⟩
 refine ⟨I.ok,I.os,hg,⟨λb o e n hb hx=>?_,λb o e n hb hx=>?_,λb o e n hx=>?_,λb o e hx=>?_,λb xs e=>tups b xs (I.base.tups b xs e),λb o xs e=>frzs b o xs (I.base.frzs b o xs e),λb ps e=>?_⟩,?_,λx c e=>?_,?_,λx c e=>?_,λp hp=>?_,hok,I.len⟩
 · exact keep b o (neL b o e) hb (neC b o e hx) (I.base.keep b o e n hb hx) (I.base.free b o e n hx)
 · obtain ⟨sl,e1⟩:=I.base.slot b o e n hb hx
   obtain ⟨sl',e2⟩:=slot b _ (neL b o e) hb (neC b o e hx) e1 (I.base.free b o e n hx)
   exact ⟨sl',e2⟩
 · obtain ⟨o',e1⟩:=I.base.there b o e hx
   exact free b o' (neC b o e hx) e1 (I.base.free b o e n hx)
 · obtain ⟨o',e1⟩:=I.base.there b o e hx
   exact there b o' (neC b o e hx) e1
 · obtain ⟨m1,e1⟩:=I.base.tbls b ps e
   obtain ⟨m2,e2⟩:=tbls b _ e1
   exact ⟨m1++m2,by rw [e2,Array.append_assoc]⟩
 · obtain ⟨m,hn,hl⟩:=I.loc
   refine ⟨m,ns m hn,λi x v e1 e2 e3=>?_⟩
   obtain ⟨u,r,l⟩:=hl i x v e1 e2 e3
   refine ⟨u,r,?_⟩
   rcases l with l | ⟨k,c,e,z⟩
   · exact .inl l
   · exact .inr ⟨k,c,e,cellK x c e _ z⟩
 · obtain ⟨v,z⟩:=I.cell x c e
   exact ⟨v,cellK x c e v z⟩
 · obtain ⟨m,⟨o,_,_,ho,_⟩,_⟩:=I.loc
   exact free _ o (λz=>(hch _ z).2.1 rfl) ho I.free
 · obtain ⟨v,o,ho,hd⟩:=I.cell x c e
   exact free c o (λz=>(hch c z).2.2.1 x c e rfl) ho (I.freeC x c e)
 · obtain ⟨e,n,ne,nf,d⟩:=I.pin p hp
   have nch:p.1 ∉ ch:=λz=>(hch p.1 z).2.2.2 p hp rfl
   exact ⟨keep p.1 p.2 ne nf nch e n,free p.1 p.2 nch e n,ne,nf,d⟩
theorem Inv.un {t':Nat} (I:Inv X pins σ H s) (u:Un X.fs [] H H' s.heap h') (hok:HOk X.prog X.w H' h'):Inv X pins σ H' { s with heap:=h',toks:=t' }:=by
 obtain ⟨m,⟨o,es,ep,ho,r⟩,_⟩:=id I.loc
 obtain ⟨sl,hL⟩:=u.any ho I.free (by simp)
 exact I.step (g':=s.gens) (d':=s.drawn) (ch:=[]) (λ_ z=>nomatch z) (λb o _ hb _ e n=>u.keep b o e n hb (by simp)) (λb o _ hb _ e n=>u.slot b o e n hb (by simp)) (λb o _ e n=>u.free b o e n (by simp)) (λb o _ e=>u.there b o e (by simp)) u.tups u.frzs u.tbls (λm' hm=>by
   obtain ⟨o',es',ep',ho',r'⟩:=hm
   rw [ho] at ho'; cases ho'
   exact ⟨_,es',ep',hL,r'⟩) hok I.bare
theorem Inv.call {g':Array GenState} {t':Nat} {d':Drawn} {ch:List Addr} (I:Inv X pins σ H s) (u:Un (frs X.stack) ch H H' s.heap h') (hok:HOk X.prog X.w H' h') (hg:AllBare g')
   (hch:∀ b ∈ ch,(b ∈ X.ex\/X.s₀.heap.objs.size<=b)/\b ≠ X.env.locals/\(∀ x c,X.env.cells.lookup x=some c->c ≠ b)/\∀ p ∈ X.pn++pins,p.1 ≠ b) :
   Inv X pins σ H' { s with heap:=h',gens:=g',drawn:=d',toks:=t' }:=by
 obtain ⟨m,⟨o,es,ep,ho,r⟩,_⟩:=id I.loc
 obtain ⟨sl,hL⟩:=u.any ho I.free λz=>(hch _ z).2.1 rfl
 exact I.step (ch:=ch) hch (λb o hL hb hc e n=>u.keep b o e n (λz=>(List.mem_cons.mp (I.mK b z)).elim hL hb) hc) (λb o _ _ hc e n=>u.any e n hc) (λb o hc e n=>u.free b o e n hc) (λb o hc e=>u.there b o e hc) u.tups u.frzs u.tbls (λm' hm=>by
   obtain ⟨o',es',ep',ho',r'⟩:=hm
   rw [ho] at ho'; cases ho'
   exact ⟨_,es',ep',hL,r'⟩) hok hg
theorem Inv.turned {t':Nat} {it:Addr} (I:Inv X pins σ H s) (k:∀ b o,b ≠ it->s.heap.get? b=some o->h'.get? b=some o) (hn:H it=none) (hL:it ≠ X.env.locals)
   (h1:it ∈ X.ex\/X.s₀.heap.objs.size<=it) (h2:∀ x c,X.env.cells.lookup x=some c->c ≠ it) (h3:∀ p ∈ X.pn++pins,p.1 ≠ it):Inv X pins σ H { s with heap:=h',toks:=t' }:=by
 have nit:∀ b u,H b=some u->b ≠ it:=λb u e z=>by rw [z,hn] at e; cases e
 refine I.step (g':=s.gens) (d':=s.drawn) (ch:=[it]) (λb hb=>?_) (λb o _ _ hc e _=>k b o (λz=>hc (by simp [z])) e) (λb o _ _ hc e _=>⟨o.slots,k b o (λz=>hc (by simp [z])) e⟩) (λ_ _ _ _ n=>n)
   (λb o hc e=>⟨o,k b o (λz=>hc (by simp [z])) e⟩) (λ_ _ e=>e) (λ_ _ _ e=>e) (λb ps e=>⟨#[],by rw [e]; simp⟩) (λm hm=>?_) (λb u e=>?_) I.bare
 · have e:b=it:=by simpa using hb
   subst e
   exact ⟨h1,hL,h2,h3⟩
 · obtain ⟨o,es,ep,ho,r⟩:=hm
   exact ⟨o,es,ep,k _ o (Ne.symm hL) ho,r⟩
 · refine (I.hok b u e).iz (λc v hc q=>k c v ?_ q) (λ_ q=>q) λ_ _ q=>q
   rcases hc with z | z
   · rw [z]; exact nit b u e
   · exact nit c _ z
theorem Inv.tok (I:Inv X pins σ H s) (t:Nat):Inv X pins σ H { s with toks:=t }:=I.un (h':=s.heap) (t':=t) Un.refl I.hok
theorem Inv.kept {t':Nat} (I:Inv X pins σ H s) (k:∀ b u,s.heap.get? b=some u->h'.get? b=some u):Inv X pins σ H { s with heap:=h',toks:=t' }:=I.un (Un.kept k) (I.hok.kept k)
theorem Inv.laid {a:Addr} {o:HO} {t':Nat} (I:Inv X pins σ H s) (k:∀ b u,s.heap.get? b=some u->h'.get? b=some u) (hp:s.heap.objs.size<=a) (new:bo X.prog X.w (upd H a o) h' a o) :
   Inv X pins σ (upd H a o) { s with heap:=h',toks:=t' }:=I.un (Un.laid k hp (I.hok.fresh hp)) (I.hok.laid k hp new)
theorem Inv.write {x e:Addr} {o:HO} {t':Nat} (I:Inv X pins σ H s) (mu:Mut (H x)) (he:e=x\/H e=some (.own x)) (k:∀ b u,b ≠ e->s.heap.get? b=some u->h'.get? b=some u) (heo:∃ u,h'.get? e=some u)
   (new:bo X.prog X.w (upd H x o) h' x o):Inv X pins σ (upd H x o) { s with heap:=h',toks:=t' }:=I.un (Un.write mu he k heo) (I.hok.write mu he k heo new)
theorem Inv.nv {pins':List (Addr × Obj)} (I:Inv X pins σ H s) (h:∀ p ∈ pins',s.heap.get? p.1=some p.2/\H p.1=none/\p.1 ≠ X.env.locals/\p.1 ∉ X.fs/\∀ v,p.2.data ≠ .cell v):Inv X pins' σ H s:=
 ⟨I.ok,I.os,I.bare,I.base,I.loc,I.cell,I.free,I.freeC,λp hp=>(List.mem_append.mp hp).elim (λz=>I.pin p (List.mem_append_left _ z)) (h p),I.hok,I.len⟩
theorem kK {N:List Str} (hN:N.Nodup) {i j:Nat} {x:Str} (a:N[i]?=some x) (b:N[j]?=some x):i=j:=by
 obtain ⟨h1,e1⟩:=List.getElem?_eq_some_iff.mp a
 obtain ⟨h2,e2⟩:=List.getElem?_eq_some_iff.mp b
 exact (List.getElem_inj hN).mp (e1.trans e2.symm)
theorem oF {M:Model} {A:Around} {E:Value->Shared->Prop} {i:Nat} {x:Str} {v:V} {u:Value} {Q:Unit->Shared->Prop} (I:Inv X pins σ H s) (hN:X.N.Nodup) (hi:X.N[i]?=some x) (hx:Loc X.env.scope x) (r:RelV v u)
   (h:∀ s',Inv X pins (σ.set i (some v)) H s'->(∃ a,Heap.SameBut a s.heap s'.heap/\(a=X.env.locals\/X.env.cells.lookup x=some a))->Q () s') (hf:X.fn x=true\/X.env.scope.names.lookup x=some .local:=by first | exact .inl rfl | exact .inr rfl | assumption):wpAny M A (storeName X.env x u) Q E s:=by
 obtain ⟨m,hn,hl⟩:=id I.loc
 have hcls:(X.env.scope.kind == .class || (X.env.scope.kind == .module && X.env.locals != X.env.globals))=false:=by rw [I.ok.kind]; rfl
 have hiσ:i < σ.length:=by rw [I.len]; exact (List.getElem?_eq_some_iff.mp hi).1
 have cne:=I.cne
 have tracked:∀ {a:Addr} {h':Heap},(∃ o,s.heap.get? a=some o/\H a=none)->Heap.SameBut a s.heap h'->HOk X.prog X.w H h':=λ{a h'} ha hs b ob e=>by
   obtain ⟨_,_,hfree⟩:=ha
   refine (I.hok b ob e).iz (λc w' hc q=>(hs.2 c ?_).trans q) (λ_ q=>q) λ_ _ q=>q
   rintro rfl
   rcases hc with rfl | hc
   · rw [hfree] at e; cases e
   · rw [hfree] at hc; cases hc
 rcases hx with hk | hk
 · refine wpAny_storeName_local hk hn (λh' hn' hs=>?_) hcls
   obtain ⟨oL,_,_,hoL,_⟩:=id hn
   refine h _ ⟨I.ok,I.os,I.bare,⟨λb o e n hb hx=>?_,λb o e n hb hx=>?_,I.base.free,λb o e hx=>?_,I.base.tups,I.base.frzs,I.base.tbls⟩,⟨_,hn',λj y v' e1 e2 e3=>?_⟩,λy c e=>?_,I.free,I.freeC,λp hp=>?_,tracked ⟨oL,hoL,I.free⟩ hs,by simpa using I.len⟩ ⟨_,hs,.inl rfl⟩
   · exact (hs.2 b (Nat.ne_of_lt (Nat.lt_of_lt_of_le (Heap.lt_size e) I.ok.above))).trans (I.base.keep b o e n hb hx)
   · obtain ⟨sl,e1⟩:=I.base.slot b o e n hb hx
     exact ⟨sl,(hs.2 b (Nat.ne_of_lt (Nat.lt_of_lt_of_le (Heap.lt_size e) I.ok.above))).trans e1⟩
   · obtain ⟨o',e1⟩:=I.base.there b o e hx
     exact ⟨o',(hs.2 b (Nat.ne_of_lt (Nat.lt_of_lt_of_le (Heap.lt_size e) I.ok.above))).trans e1⟩
   · by_cases hj:j=i
     · subst hj
       rw [hi] at e1; cases e1
       rw [List.getElem?_set_self hiσ] at e2
       cases e2
       exact ⟨u,r,.inl ⟨hk,by simp⟩⟩
     · rw [List.getElem?_set_ne (Ne.symm hj)] at e2
       obtain ⟨u',r',q⟩:=hl j y v' e1 e2 e3
       refine ⟨u',r',?_⟩
       rcases q with ⟨k,e⟩ | ⟨k,c,e,z⟩
       · refine .inl ⟨k,?_⟩
         have:y ≠ x:=λe=>hj (kK hN e1 (e ▸ hi))
         simp [this,e]
       · exact .inr ⟨k,c,e,z.sameBut hs (cne y c e)⟩
   · obtain ⟨w',z⟩:=I.cell y c e
     exact ⟨w',z.sameBut hs (cne y c e)⟩
   · obtain ⟨e,n,ne,nf,d⟩:=I.pin p hp
     exact ⟨(hs.2 p.1 ne).trans e,n,ne,nf,d⟩
 · have hfn:X.fn x=true:=by
     rcases hf with z | z
     · exact z
     · rw [z] at hk; cases hk
   obtain ⟨c,hc⟩:=I.ok.has x (.inl hk)
   obtain ⟨w',z⟩:=I.cell x c hc
   refine wpAny_storeName_cell I.ok.kind hk hc z (λh' hc' hs=>?_)
   obtain ⟨oc,hoc,hocd⟩:=id z
   refine h { s with heap:=h' } ⟨I.ok,I.os,I.bare,⟨λb o e n hb hx=>?_,λb o e n hb hx=>?_,I.base.free,λb o e hx=>?_,I.base.tups,I.base.frzs,I.base.tbls⟩,⟨m,hn.sameBut hs (Ne.symm (cne x c hc)),λj y v' e1 e2 e3=>?_⟩,λy c' e=>?_,I.free,I.freeC,λp hp=>?_,tracked ⟨oc,hoc,I.freeC x c hc⟩ hs,by simpa using I.len⟩ ⟨c,hs,.inr hc⟩
   · exact (hs.2 b (Nat.ne_of_lt (Nat.lt_of_lt_of_le (Heap.lt_size e) (I.ok.cab x c hfn hc)))).trans (I.base.keep b o e n hb hx)
   · obtain ⟨sl,e1⟩:=I.base.slot b o e n hb hx
     exact ⟨sl,(hs.2 b (Nat.ne_of_lt (Nat.lt_of_lt_of_le (Heap.lt_size e) (I.ok.cab x c hfn hc)))).trans e1⟩
   · obtain ⟨o',e1⟩:=I.base.there b o e hx
     exact ⟨o',(hs.2 b (Nat.ne_of_lt (Nat.lt_of_lt_of_le (Heap.lt_size e) (I.ok.cab x c hfn hc)))).trans e1⟩
   · by_cases hj:j=i
     · subst hj
       rw [hi] at e1; cases e1
       rw [List.getElem?_set_self hiσ] at e2
       cases e2
       exact ⟨u,r,.inr ⟨.inl hk,c,hc,hc'⟩⟩
     · rw [List.getElem?_set_ne (Ne.symm hj)] at e2
       obtain ⟨u',r',q⟩:=hl j y v' e1 e2 e3
       refine ⟨u',r',?_⟩
       rcases q with q | ⟨k,c',e,z'⟩
       · exact .inl q
       · refine .inr ⟨k,c',e,z'.sameBut hs ?_⟩
         rintro rfl
         exact hj (kK hN e1 (I.ok.inj _ _ _ e hc ▸ hi))
   · by_cases hcc:c'=c
     · subst hcc; exact ⟨_,hc'⟩
     · obtain ⟨w2,z2⟩:=I.cell y c' e
       exact ⟨w2,z2.sameBut hs hcc⟩
   · obtain ⟨e,n,ne,nf,d⟩:=I.pin p hp
     refine ⟨(hs.2 p.1 ?_).trans e,n,ne,nf,d⟩
     intro q
     rw [q,hoc] at e
     have q':oc=p.2:=Option.some.inj e
     exact d w' (by rw [<- q']; exact hocd)
theorem lg {M:Model} {A:Around} {E:Value->Shared->Prop} {i:Nat} {x:Str} {v:V} {u:Value} {Q:Unit->Shared->Prop} (I:Inv X pins σ H s) (hN:X.N.Nodup) (hi:X.N[i]?=some x) (hx:Loc X.env.scope x) (r:RelV v u)
   (h:∀ s',Inv X pins (σ.set i (some v)) H s'->Q () s') (hf:X.fn x=true\/X.env.scope.names.lookup x=some .local:=by first | exact .inl rfl | exact .inr rfl | assumption):wpAny M A (storeName X.env x u) Q E s:=
 oF I hN hi hx r (λs' I' _=>h s' I') hf
theorem Inv.uH {s':Shared} {ch:List Addr} (I:Inv X pins σ H s) (ho:s'.os=s.os) (u:Un (frs X.stack) ch H H' s.heap s'.heap) (hok:HOk X.prog X.w H' s'.heap) (hg:AllBare s'.gens)
   (hch:∀ b ∈ ch,(b ∈ X.ex\/X.s₀.heap.objs.size<=b)/\b ≠ X.env.locals/\(∀ x c,X.env.cells.lookup x=some c->c ≠ b)/\∀ p ∈ X.pn++pins,p.1 ≠ b):Inv X pins σ H' s':=by
 obtain ⟨h',g',d',t',o'⟩:=s'
 have e:o'=s.os:=ho
 subst e
 exact I.call (g':=g') (t':=t') (d':=d') u hok hg hch
end
noncomputable abbrev XK:=Value->Option Addr->Hp->Prop
noncomputable abbrev St:=List (Option V)
noncomputable abbrev VK:=V->Hp->Prop
noncomputable abbrev TE:=St->Hp->VK->Prop
noncomputable abbrev TT:=St->Hp->(Bool->Hp->Prop)->Prop
noncomputable abbrev TA:=St->Hp->(List V->Hp->Prop)->Prop
structure Ends where
 nx:St->Hp->Prop
 rt:VK
 bk:St->Hp->Prop:=λ_ _=>False
 ct:St->Hp->Prop:=λ_ _=>False
noncomputable abbrev TS:=Ends->St->Hp->Prop
noncomputable def EP (X:Cx) (pins:List (Addr × Obj)) (σ:St) (Q:VK) (u:Value) (s':Shared):Prop:=∃ v H',Inv X pins σ H' s'/\RelV v u/\Q v H'
noncomputable def TP (X:Cx) (pins:List (Addr × Obj)) (σ:St) (Q:Bool->Hp->Prop) (b:Bool) (s':Shared):Prop:=∃ H',Inv X pins σ H' s'/\Q b H'
noncomputable def AP (X:Cx) (pins:List (Addr × Obj)) (σ:St) (Q:List V->Hp->Prop) (us:List Value) (s':Shared):Prop:=∃ vs H',Inv X pins σ H' s'/\Vals vs us/\Q vs H'
noncomputable def SP (X:Cx) (pins:List (Addr × Obj)) (D:Ends) (f:Flow) (s':Shared):Prop:=
 match f with
 | .next=>∃ σ' H',Inv X pins σ' H' s'/\D.nx σ' H'
 | .brk=>∃ σ' H',Inv X pins σ' H' s'/\D.bk σ' H'
 | .cont=>∃ σ' H',Inv X pins σ' H' s'/\D.ct σ' H'
 | .ret u=>∃ v σ' H',Inv X pins σ' H' s'/\RelV v u/\D.rt v H'
noncomputable def PE (X:Cx) (e:Expr) (t:TE):Prop:=
 ∀ (pins:List (Addr × Obj)) (s:Shared) (σ:St) (H:Hp) (Q:VK),Inv X pins σ H s->t σ H Q->wpAny (model X.prog X.w) X.A (eval e X.env) (EP X pins σ Q) X.xe s
noncomputable def PT (X:Cx) (e:Expr) (t:TT):Prop:=
 ∀ (pins:List (Addr × Obj)) (s:Shared) (σ:St) (H:Hp) (Q:Bool->Hp->Prop),Inv X pins σ H s->t σ H Q->wpAny (model X.prog X.w) X.A (isTrue e X.env (eval e X.env)) (TP X pins σ Q) X.xe s
noncomputable def PW (X:Cx) (e:Expr) (t:TT):Prop:=
 ∀ (whole:Sem Value) (pins:List (Addr × Obj)) (s:Shared) (σ:St) (H:Hp) (Q:Bool->Hp->Prop),Inv X pins σ H s->t σ H Q->wpAny (model X.prog X.w) X.A (isTrue e X.env whole) (TP X pins σ Q) X.xe s
theorem PW.pt {X:Cx} {e:Expr} {t:TT} (h:PW X e t):PT X e t:=h _
noncomputable def PA (X:Cx) (es:List Expr) (t:TA):Prop:=
 ∀ (pos:Pos) (pins:List (Addr × Obj)) (s:Shared) (σ:St) (H:Hp) (Q:List V->Hp->Prop),Inv X pins σ H s->t σ H Q->wpAny (model X.prog X.w) X.A (spliced (backTo pos (starEach es X.env))) (AP X pins σ Q) X.xe s
noncomputable def PS (X:Cx) (st:Stmt) (t:TS):Prop:=
 ∀ (pins:List (Addr × Obj)) (s:Shared) (σ:St) (H:Hp) (D:Ends),Inv X pins σ H s->t D σ H->wpAny (model X.prog X.w) X.A (exec st X.env) (SP X pins D) X.xe s
noncomputable def PSs (X:Cx) (st:List Stmt) (t:TS):Prop:=
 ∀ (pins:List (Addr × Obj)) (s:Shared) (σ:St) (H:Hp) (D:Ends),Inv X pins σ H s->t D σ H->wpAny (model X.prog X.w) X.A (execs st X.env) (SP X pins D) X.xe s
theorem thn {α:Type} {t:Sem α} {Q Q':α->Shared->Prop} {M:Model} {A:Around} {E:Value->Shared->Prop} {s:Shared} (h:wpAny M A t Q E s) (hQ:∀ a s,Q a s->Q' a s):wpAny M A t Q' E s:=wpAny_mono h hQ λ_ _ x=>x
section
variable {X:Cx}
theorem bin {a b:Expr} {ta tb:TE} (ha:PE X a ta) (hb:PE X b tb) {pins:List (Addr × Obj)} {s:Shared} {σ:St} {H:Hp} {R:V->V->Hp->Prop} (I:Inv X pins σ H s) (h:ta σ H λx H1=>tb σ H1 λy H2=>R x y H2)
   {α:Type} {Q:α->Shared->Prop} {f:Value->Value->Sem α}
   (hf:∀ v u s2 x y H2,Inv X pins σ H2 s2->RelV x v->RelV y u->R x y H2->wpAny (model X.prog X.w) X.A (f v u) Q X.xe s2) :
   wpAny (model X.prog X.w) X.A (eval a X.env) (λv s₁=>wpAny (model X.prog X.w) X.A (eval b X.env) (λu s₂=>wpAny (model X.prog X.w) X.A (f v u) Q X.xe s₂) X.xe s₁) X.xe s:=by
 refine thn (ha pins s σ H _ I h) λv s1 ⟨x,H1,I1,r1,q1⟩=>?_
 refine thn (hb pins s1 σ H1 _ I1 q1) λu s2 ⟨y,H2,I2,r2,q2⟩=>?_
 exact hf v u s2 x y H2 I2 r1 r2 q2
noncomputable def yN (i:Nat):TE:=λσ H Q=>∃ v,σ[i]?=some (some v)/\Q v H
noncomputable def tC (v:V):TE:=λ_ H Q=>Q v H
theorem cX {i:Nat} {x:Str} {pos:Pos} (hN:X.N[i]?=some x) (hv:Vis X.env.scope x) (hd:(x == ("__debug__" : Str))=false:=by decide) (hcd:(x == ("__classdict__" : Str))=false:=by decide):PE X (.Name x pos) (yN i):=by
 intro pins s σ H Q I h
 obtain ⟨v,e,h⟩:=h
 obtain ⟨m,hn,hl⟩:=I.loc
 obtain ⟨u,r,l⟩:=hl i x v hN e hv
 have fin:EP X pins σ Q u s:=⟨v,H,I,r,h⟩
 rcases l with ⟨hk,hm⟩ | ⟨hk,c,hc,hcell⟩
 · exact wpAny_Name (wpAny_loadName_local I.ok.kind hk hn hm fin) hd
 · rcases hk with hk | hk
   · exact wpAny_Name (wpAny_loadName_cell I.ok.kind hk hc hcell fin) hd
   · exact wpAny_Name (wpAny_loadName_free I.ok.kind hk hc hcell fin hcd) hd
theorem mL {i j pos}:PE X (.Constant (.int i) j pos) (tC (.int i)):=λ_ _ _ H _ I h=>wpAny_Constant_int ⟨.int i,H,I.tok _,⟨_,rfl⟩,h⟩
theorem xj {b j pos}:PE X (.Constant (.bool b) j pos) (tC (.bl b)):=λ_ _ _ H _ I h=>Constant_bool ⟨.bl b,H,I,rfl,h⟩
theorem wO {j pos}:PE X (.Constant .none j pos) (tC .non):=λ_ _ _ H _ I h=>Constant_none ⟨.non,H,I,rfl,h⟩
noncomputable def Gl (X:Cx) (x:Str):Prop:=X.env.kindOf x=some .globalImplicit
theorem nH {E:Value->Shared->Prop} {pins:List (Addr × Obj)} {s:Shared} {σ:St} {H:Hp} {x:Str} {u:Value} {pos:Pos} {Q:Value->Shared->Prop} (I:Inv X pins σ H s) (hg:Gl X x) (hm:X.mg x=some u) (h:Q u s)
   (hd:(x == ("__debug__" : Str))=false:=by decide):wpAny (model X.prog X.w) X.A (eval (.Name x pos) X.env) Q E s:=
 Calls.Name_function_global I.ok.kind hg (Calls.loadGlobal_global (by rw [I.ok.glob]; exact I.mod.glob.keeps I.bk) hm h) hd
theorem cZ {E:Value->Shared->Prop} {pins:List (Addr × Obj)} {s:Shared} {σ:St} {H:Hp} {x:Str} {u:Value} {pos:Pos} {Q:Value->Shared->Prop} (I:Inv X pins σ H s) (hg:Gl X x) (hm:X.mg x=none) (hv:bootBuiltins x=some u) (h:Q u s)
   (hn:x ≠ "__name__":=by decide) (hd:(x == ("__debug__" : Str))=false:=by decide):wpAny (model X.prog X.w) X.A (eval (.Name x pos) X.env) Q E s:=by
 obtain ⟨mb,h1,h2⟩:=I.mod.blt
 exact Calls.Name_function_global I.ok.kind hg (Calls.loadGlobal_builtin (by rw [I.ok.glob]; exact I.mod.glob.keeps I.bk) hm (by rw [I.ok.blt]; exact h1.keeps I.bk) ((h2 x hn).trans hv) h) hd
theorem tu {x:Str} {v:V} {u:Value} {pos:Pos} (hg:Gl X x) (hm:X.mg x=some u) (r:RelV v u) (hd:(x == ("__debug__" : Str))=false:=by decide):PE X (.Name x pos) (tC v):=
 λ_ _ _ H _ I h=>nH I hg hm ⟨v,H,I,r,h⟩ hd
theorem ug {x:Str} {v:V} {u:Value} {pos:Pos} (hg:Gl X x) (hm:X.mg x=none) (hv:bootBuiltins x=some u) (r:RelV v u) (hn:x ≠ "__name__":=by decide) (hd:(x == ("__debug__" : Str))=false:=by decide):PE X (.Name x pos) (tC v):=
 λ_ _ _ H _ I h=>cZ I hg hm hv ⟨v,H,I,r,h⟩ hn hd
variable {a b:Expr} {ta tb:TE} {pos:Pos}
noncomputable def PC (X:Cx) (op:CmpOp) (a b:Expr) (t:TE):Prop:=
 ∀ (pins:List (Addr × Obj)) (s:Shared) (σ:St) (H:Hp) (Q:VK),Inv X pins σ H s->t σ H Q ->
   wpAny (model X.prog X.w) X.A (eval a X.env) (λv s₁=>wpAny (model X.prog X.w) X.A (eval b X.env) (λu s₂=>wpAny (model X.prog X.w) X.A (compareOp op v u) (EP X pins σ Q) X.xe s₂) X.xe s₁) X.xe s
theorem pW (b:Expr) {op:CmpOp} (h:op ≠ .In) (h2:op ≠ .NotIn):behindInMarks op b=false:=by
 have e1:(op == CmpOp.In)=false:=by cases op <;> first | rfl | exact absurd rfl h
 have e2:(op == CmpOp.NotIn)=false:=by cases op <;> first | rfl | exact absurd rfl h2
 cases b <;> simp [behindInMarks,e1,e2]
noncomputable def tB (t:TE):TT:=λσ H Q=>t σ H λx H1=>∃ c,x=.bl c/\Q c H1
theorem yL {op:CmpOp} {t:TE} (h:PC X op a b t) (h1:behindInMarks op b=false:=by first | exact pW _ (by decide) (by decide) | rfl):PT X (.Compare a [op] [b] pos) (tB t):=by
 intro pins s σ H Q I hw
 refine wpAny_isTrue_Compare1 (thn (h pins s σ H _ I hw) λv s1 h1=>thn h1 λu s2 h2=>thn h2 λc s3 ⟨x,H1,I1,r1,q1⟩=>?_) h1
 obtain ⟨d,rfl,q⟩:=q1
 cases r1
 exact wpAny_truthy_bool ⟨H1,I1,q⟩
theorem vj {e:Expr} {t:TE} (h:PE X e t) (he:∀ whole,isTrue e X.env whole=(do let v <- whole; standAt e.pos; holding [v] (truthy v)):=by intro _; rfl):PT X e (tB t):=by
 intro pins s σ H Q I hw
 refine isTrue_plain (thn (h pins s σ H _ I hw) λv s1 ⟨x,H1,I1,r1,q1⟩=>?_) (he _)
 obtain ⟨d,rfl,q⟩:=q1
 cases r1
 exact wpAny_truthy_bool ⟨H1,I1,q⟩
variable {tA tB':TT} {rest:List Expr}
noncomputable def tOr (t u:TT):TT:=λσ H Q=>t σ H λc H1=>if c=true then Q true H1 else u σ H1 Q
noncomputable def yC (t:TT):TT:=λσ H Q=>t σ H λc H1=>Q (!c) H1
theorem pw_or1 (ha:PT X a tA):PW X (.BoolOp .Or [a] pos) tA:=by
 intro wh pins s σ H Q I h
 refine isTrue_or (thn (ha pins s σ H Q I h) λc s1 e=>?_)
 cases c with
 | false=>exact isTrue_or_nil e
 | true=>exact e
theorem pw_or (ha:PT X a tA) (hb:PW X (.BoolOp .Or (b :: rest) pos) tB'):PW X (.BoolOp .Or (a :: b :: rest) pos) (tOr tA tB'):=by
 intro wh pins s σ H Q I h
 refine isTrue_or (thn (ha pins s σ H _ I h) λc s1 ⟨H1,I1,q1⟩=>?_)
 cases c with
 | true=>exact ⟨H1,I1,q1⟩
 | false=>exact hb wh pins s1 σ H1 Q I1 q1
theorem vP (ha:PT X a tA):PT X (.UnaryOp .Not a pos) (yC tA):=by
 intro pins s σ H Q I h
 exact isTrue_not (ha pins s σ H (λc H1=>Q (!c) H1) I h)
noncomputable def xx (ta tb:TE):TE:=λσ H Q=>ta σ H λx H1=>∃ c,x=.bl c/\if c=true then tb σ H1 Q else Q (.bl false) H1
noncomputable def yf (ta:TE):TE:=λσ H Q=>ta σ H λx H1=>∃ c,x=.bl c/\Q (.bl (!c)) H1
theorem we {op} {t:TE} (h:PE X a t):PE X (.BoolOp op [a] pos) t:=λpins s σ H Q I hw=>BoolOp_one (h pins s σ H Q I hw)
theorem qK (ha:PE X a ta) (hb:PE X (.BoolOp .And (b :: rest) pos) tb):PE X (.BoolOp .And (a :: b :: rest) pos) (xx ta tb):=by
 intro pins s σ H Q I h
 refine BoolOp_and (thn (ha pins s σ H _ I h) λv s1 ⟨x,H1,I1,r1,q1⟩=>?_)
 obtain ⟨c,rfl,q1⟩:=q1
 cases r1
 refine wpAny_truthy_bool ?_
 cases c with
 | true=>exact hb pins s1 σ H1 Q I1 q1
 | false=>exact ⟨.bl false,H1,I1,rfl,q1⟩
theorem vV (ha:PE X a ta):PE X (.UnaryOp .Not a pos) (yf ta):=by
 intro pins s σ H Q I h
 refine UnaryOp_ (thn (ha pins s σ H _ I h) λv s1 ⟨x,H1,I1,r1,q1⟩=>?_)
 obtain ⟨c,rfl,q1⟩:=q1
 cases r1
 exact not_of (wpAny_truthy_bool ⟨.bl (!c),H1,I1,rfl,q1⟩)
end
noncomputable def SqL (K:PySem.W.Frag) (H:Hp) (a:Addr) (xs:List V):Prop:=
 Rd H a (.lst xs) \/
   ∃ (o:Obj) (its:Array Value) (n:Nat),K.lookup a=some o/\o.cls=.type "list" /\ o.dict=none/\o.data=.seq its n/\its.size<=sizeLine/\Vals xs its.toList
noncomputable def SqT (K:PySem.W.Frag) (H:Hp) (a:Addr) (xs:List V):Prop:=
 Rd H a (.tup xs) \/
   ∃ (o:Obj) (its:Array Value) (n:Nat),K.lookup a=some o/\o.cls=.type "tuple" /\ o.data=.seq its n/\its.size<=sizeLine/\Vals xs its.toList
noncomputable def yE:Value->Option V
 | .none=>some .non
 | .bool b=>some (.bl b)
 | .int i _=>some (.int i)
 | .str x _=>some (.str x)
 | .bytes b _=>some (.byt b)
 | .float b _=>some (.flt b)
 | .ref a=>some (.ref a)
 | .type n=>some (.ty n)
 | _=>none
theorem RelV.abs {x:V} {u:Value} (r:RelV x u):yE u=some x:=by
 cases x with
 | non=>cases r; rfl
 | bl _=>cases r; rfl
 | int _=>obtain ⟨t,rfl⟩:=r; rfl
 | str _=>obtain ⟨t,rfl⟩:=r; rfl
 | byt _=>obtain ⟨t,rfl⟩:=r; rfl
 | flt _=>obtain ⟨t,rfl⟩:=r; rfl
 | ref _=>cases r; rfl
 | ty _=>cases r; rfl
theorem RelV.inj {x y:V} {u:Value} (r:RelV x u) (q:RelV y u):x=y:=Option.some.inj (r.abs.symm.trans q.abs)
theorem Vals.inj:∀ {xs ys:List V} {us:List Value},Vals xs us->Vals ys us->xs=ys
 | _,_,_,.nil,.nil=>rfl
 | _,_,_,.cons r t,.cons r' t'=>by rw [r.inj r',Vals.inj t t']
section
variable {X:Cx} {pins:List (Addr × Obj)} {σ:St} {H:Hp} {s:Shared} {a:Addr} {xs ys:List V}
theorem SqL.of {K:PySem.W.Frag} (h:H a=some (.lst xs)):SqL K H a xs:=.inl (.inl h)
theorem SqT.of {K:PySem.W.Frag} (h:H a=some (.tup xs)):SqT K H a xs:=.inl (.inl h)
theorem Inv.list (I:Inv X pins σ H s) (h:SqL X.K H a xs):∃ its:List Value,Vals xs its/\PlainL s.heap a its.toArray/\xs.length<=sizeLine:=by
 rcases h with h | ⟨o,its,n,hk,hc,hd,hs,hz,r⟩
 · obtain ⟨z,its,n,r,e⟩:=h.ok I.hok
   exact ⟨its,r,⟨_,n,e,rfl,rfl,rfl⟩,z⟩
 · refine ⟨its.toList,r,⟨o,n,I.kIn a o hk,hc,hd,by simpa using hs⟩,?_⟩
   have e:=r.length
   simp only [Array.length_toList] at e
   omega
theorem Inv.tuple (I:Inv X pins σ H s) (h:SqT X.K H a xs):∃ its:List Value,Vals xs its/\IsTup s.heap a its.toArray/\xs.length<=sizeLine:=by
 rcases h with h | ⟨o,its,n,hk,hc,hs,hz,r⟩
 · obtain ⟨z,its,r,p⟩:=h.ok I.hok
   exact ⟨its,r,p,z⟩
 · refine ⟨its.toList,r,⟨o,I.kIn a o hk,hc,n,by simpa using hs⟩,?_⟩
   have e:=r.length
   simp only [Array.length_toList] at e
   omega
theorem Inv.eg (I:Inv X pins σ H s) (h:SqL X.K H a xs) (h':SqL X.K H a ys):xs=ys:=by
 obtain ⟨its,r,⟨o,n,e,_,_,d⟩,_⟩:=I.list h
 obtain ⟨its',r',⟨o',n',e',_,_,d'⟩,_⟩:=I.list h'
 rw [e] at e'; cases e'
 rw [d] at d'
 injection d' with d1 _
 have:its=its':=by simpa using congrArg Array.toList d1
 subst this
 exact r.inj r'
end
noncomputable abbrev Cx.jg (X:Cx) (E:Value->Shared->Prop):Cx:={ X with xe:=E }
noncomputable abbrev Cx.nox (X:Cx):Cx:=X.jg λ_ _=>False
theorem Cx.Ok.jg {X:Cx} (ok:X.Ok) (E:Value->Shared->Prop):(X.jg E).Ok:=
 ⟨ok.mod,ok.kind,ok.glob,ok.blt,ok.above,ok.inj,ok.has,ok.cab,ok.hd,ok.frames,ok.stk,ok.exf,ok.bs,ok.bsz,ok.noex,ok.exfs,ok.gU,ok.frf⟩
theorem Cx.Ok.ee {X:Cx} {E:Value->Shared->Prop} (ok:(X.jg E).Ok):X.Ok:=
 ⟨ok.mod,ok.kind,ok.glob,ok.blt,ok.above,ok.inj,ok.has,ok.cab,ok.hd,ok.frames,ok.stk,ok.exf,ok.bs,ok.bsz,ok.noex,ok.exfs,ok.gU,ok.frf⟩
section
variable {X:Cx} {pins:List (Addr × Obj)} {σ:St} {H:Hp} {s:Shared} {E:Value->Shared->Prop}
theorem Inv.jg (I:Inv X pins σ H s) (E:Value->Shared->Prop):Inv (X.jg E) pins σ H s:=⟨I.ok.jg E,I.os,I.bare,I.base,I.loc,I.cell,I.free,I.freeC,I.pin,I.hok,I.len⟩
theorem Inv.ee (I:Inv (X.jg E) pins σ H s):Inv X pins σ H s:=⟨I.ok.ee,I.os,I.bare,I.base,I.loc,I.cell,I.free,I.freeC,I.pin,I.hok,I.len⟩
theorem SP.ee {D:Ends} {f:Flow} {s':Shared} (h:SP (X.jg E) pins D f s'):SP X pins D f s':=by
 cases f with
 | next=>obtain ⟨σ',H',I,q⟩:=h; exact ⟨σ',H',I.ee,q⟩
 | brk=>obtain ⟨σ',H',I,q⟩:=h; exact ⟨σ',H',I.ee,q⟩
 | cont=>obtain ⟨σ',H',I,q⟩:=h; exact ⟨σ',H',I.ee,q⟩
 | ret u=>obtain ⟨v,σ',H',I,r,q⟩:=h; exact ⟨v,σ',H',I.ee,r,q⟩
theorem PSs.nox {st:List Stmt} {t:TS} (h:PSs X.nox st t):PSs X st t:=λpins s σ H D I hw=>
 wpAny_mono (h pins s σ H D (I.jg _) hw) (λ_ _ q=>q.ee) λ_ _ z=>False.elim z
end
section
variable {X:Cx} {st:Stmt} {rest:List Stmt} {t u:TS} {e:Expr} {te:TE} {pos:Pos}
noncomputable def yi:TS:=λD σ H=>D.nx σ H
noncomputable def yn (t u:TS):TS:=λD σ H=>t { D with nx:=u D } σ H
theorem uc:PSs X [] yi:=λ_ _ σ H _ I h=>wpAny_execs_nil ⟨σ,H,I,h⟩
theorem qv (h1:PS X st t) (h2:PSs X rest u):PSs X (st :: rest) (yn t u):=by
 intro pins s σ H D I h
 refine wpAny_execs_cons (thn (h1 pins s σ H { D with nx:=u D } I h) λf s1 q=>?_)
 cases f with
 | next=>
   obtain ⟨σ',H',I',q⟩:=q
   exact h2 pins s1 σ' H' D I' q
 | ret v=>exact q
 | brk=>exact q
 | cont=>exact q
theorem Inv.quiet {pins:List (Addr × Obj)} {σ:St} {H:Hp} {s:Shared} (I:Inv X pins σ H s):interactive X.env=false:=by simp [interactive,I.ok.kind]
noncomputable def xX (te:TE):TS:=λD σ H=>te σ H λ_ H1=>D.nx σ H1
theorem gF (he:PE X e te) (hs:swapsWith e none pos.line X.env=pure false:=by rfl):PS X (.Expr e pos) (xX te):=by
 intro pins s σ H D I h
 exact wpAny_Expr_any (thn (he pins s σ H _ I h) λv s1 ⟨x,H1,I1,r1,q1⟩=>⟨σ,H1,I1,q1⟩) I.quiet hs
noncomputable def yz (te:TE):TS:=λD σ H=>te σ H D.rt
theorem sk (he:PE X e te):PS X (.Return (some e) pos) (yz te):=by
 intro pins s σ H D I h
 exact wpAny_Return_some (thn (he pins s σ H _ I h) λv s1 ⟨x,H1,I1,r1,q1⟩=>⟨x,σ,H1,I1,r1,q1⟩)
noncomputable def ym (c:TT) (t u:TS):TS:=λD σ H=>c σ H λb H1=>if b=true then t D σ H1 else u D σ H1
theorem uF {c:Expr} {a b:List Stmt} {tc:TT} (hc:PT X c tc) (ha:PSs X a t) (hb:PSs X b u):PS X (.If c a b pos) (ym tc t u):=by
 intro pins s σ H D I h
 refine wpAny_If (thn (hc pins s σ H _ I h) λd s1 ⟨H1,I1,q1⟩=>?_)
 cases d with
 | true=>exact ha pins s1 σ H1 D I1 q1
 | false=>exact hb pins s1 σ H1 D I1 q1
noncomputable def vh:TS:=λ_ _ _=>False
theorem ji {sts:List Stmt}:PSs X sts vh:=λ_ _ _ _ _ _ h=>h.elim
end
noncomputable abbrev TG:=V->St->Hp->(St->Hp->Prop)->Prop
noncomputable abbrev TGs:=List V->St->Hp->(St->Hp->Prop)->Prop
noncomputable def PG (X:Cx) (target:Expr) (t:TG):Prop:=
 ∀ (pins:List (Addr × Obj)) (s:Shared) (σ:St) (H:Hp) (v:V) (u:Value) (Q:St->Hp->Prop),Inv X pins σ H s->RelV v u->t v σ H Q ->
   wpAny (model X.prog X.w) X.A (assign target X.env u) (λ_ s'=>∃ σ' H',Inv X pins σ' H' s'/\Q σ' H') X.xe s
noncomputable def PGs (X:Cx) (ts:List Expr) (t:TGs):Prop:=
 ∀ (pins:List (Addr × Obj)) (s:Shared) (σ:St) (H:Hp) (vs:List V) (us:List Value) (Q:St->Hp->Prop),Inv X pins σ H s->Vals vs us->t vs σ H Q ->
   wpAny (model X.prog X.w) X.A (assignInOrder ((assignEach ts X.env).map (·.2)) us) (λ_ s'=>∃ σ' H',Inv X pins σ' H' s'/\Q σ' H') X.xe s
noncomputable abbrev vK:=V->V->V->Hp->(Hp->Prop)->Prop
noncomputable def w8 (X:Cx) (t:vK):Prop:=
 ∀ (pins:List (Addr × Obj)) (s:Shared) (σ:St) (H:Hp) (o i v:V) (ov iv u:Value) (Q:Hp->Prop),Inv X pins σ H s->RelV o ov->RelV i iv->RelV v u->t o i v H Q ->
   wpAny (model X.prog X.w) X.A (setItem ov iv u) (λ_ s'=>∃ H',Inv X pins σ H' s'/\Q H') X.xe s
section
variable {X:Cx} {pos:Pos}
noncomputable def uN (i:Nat):TG:=λv σ H Q=>Q (σ.set i (some v)) H
theorem fj {i:Nat} {x:Str} (hN:X.N.Nodup) (hi:X.N[i]?=some x) (hx:Loc X.env.scope x) (hf:X.fn x=true\/X.env.scope.names.lookup x=some .local:=by first | exact .inl rfl | exact .inr rfl | assumption):PG X (.Name x pos) (uN i):=by
 intro pins s σ H v u Q I r h
 exact wpAny_assign_Name (lg I hN hi hx r (λs' I'=>⟨_,H,I',h⟩) hf)
noncomputable def yK:TGs:=λvs σ H Q=>vs=[]/\Q σ H
noncomputable def xh (t:TG) (u:TGs):TGs:=λvs σ H Q=>∃ v r,vs=v :: r/\t v σ H λσ' H'=>u r σ' H' Q
theorem m9:PGs X [] yK:=by
 intro pins s σ H vs us Q I r h
 obtain ⟨e,h⟩:=h
 subst e
 cases r
 exact assignInOrder_nil ⟨σ,H,I,h⟩
theorem iT {e:Expr} {es:List Expr} {t:TG} {u:TGs} (h1:PG X e t) (h2:PGs X es u)
   (hs:(assignEach (e :: es) X.env).map (·.2)=assign e X.env :: (assignEach es X.env).map (·.2):=by rfl):PGs X (e :: es) (xh t u):=by
 intro pins s σ H vs us Q I r h
 obtain ⟨v,vr,e1,h⟩:=h
 subst e1
 cases r with
 | cons r rr=>
   rw [hs]
   refine assignInOrder_cons (thn (h1 pins s σ H _ _ _ I r h) λ_ s1 ⟨σ1,H1,I1,q1⟩=>?_)
   exact h2 pins s1 σ1 H1 _ _ Q I1 rr q1
noncomputable def yu (K:PySem.W.Frag) (n:Nat) (t:TGs):TG:=λv σ H Q=>∃ a xs,v=.ref a/\SqT K H a xs/\xs.length=n/\t xs σ H Q
theorem rh {es:List Expr} {k:Nat} {t:TGs} {n:Nat} (hc:X.calm=true) (h:PGs X es t)
   (hn:(assignEach es X.env).length=n:=by rfl) (hst:(assignEach es X.env).findIdx? (·.1)=none:=by rfl):PG X (.Tuple es k pos) (yu X.K n t):=by
 intro pins s σ H v u Q I r hw
 obtain ⟨a,xs,e1,hq,hl,hw⟩:=hw
 subst e1
 cases r
 obtain ⟨its,rv,ht,hz⟩:=I.tuple hq
 refine assign_Tuple_tuple (I.ok.hd hc) ht (by simp [hn,<- hl,rv.length]) hst λh' hx=>?_
 have I1:Inv X pins σ H { s with heap:=h' }:=I.kept (t':=s.toks) λb o e=>hx b o (Nat.ne_of_lt (Heap.lt_size e)) e
 exact h pins _ σ H xs _ Q I1 (by simpa using rv) hw
noncomputable def yM (to ti:TE) (t:vK):TG:=λv σ H Q=>to σ H λo H1=>ti σ H1 λi H2=>t o i v H2 λH3=>Q σ H3
theorem v5 {o i:Expr} {to ti:TE} {t:vK} (ho:PE X o to) (hi:PE X i ti) (hs:w8 X t)
   (ha:∀ v,assign (.Subscript o i pos) X.env v=(do
     let ov <- holding [v] (eval o X.env)
     let iv <- holding [v,ov] (eval i X.env)
     standAt pos
     holding [v,ov,iv] (setItem ov iv v)
     release [v,ov,iv] []):=by intro _; rfl):PG X (.Subscript o i pos) (yM to ti t):=by
 intro pins s σ H v u Q I r h
 rw [ha]
 refine wpAny_bind (wpAny_holding (thn (ho pins s σ H _ I h) λov s1 ⟨x,H1,I1,r1,q1⟩=>?_))
 refine wpAny_bind (wpAny_holding (thn (hi pins s1 σ H1 _ I1 q1) λiv s2 ⟨y,H2,I2,r2,q2⟩=>?_))
 refine wpAny_bind (wpAny_standAt (wpAny_bind (wpAny_holding (thn (hs pins s2 σ H2 x y v ov iv u _ I2 r1 r2 r q2) λ_ s3 ⟨H3,I3,q3⟩=>?_))))
 exact wpAny_release ⟨σ,H3,I3,q3⟩
noncomputable def wk (te:TE) (g:TG):TS:=λD σ H=>te σ H λx H1=>g x σ H1 D.nx
theorem rF {tg e:Expr} {te:TE} {g:TG} (he:PE X e te) (hg:PG X tg g) (hs:swapsWithSole [tg] e pos.line X.env=pure false:=by rfl) (hw:swappedStores [tg] e X.env=pure none:=by rfl)
   (h1:(assignEach [tg] X.env).map (·.2)=[assign tg X.env]:=by rfl):PS X (.Assign [tg] e pos) (wk te g):=by
 intro pins s σ H D I h
 refine wpAny_Assign_stores (thn (he pins s σ H _ I h) λv s1 ⟨x,H1,I1,r1,q1⟩=>?_) hs hw
 rw [h1]
 exact thn (hg pins s1 σ H1 x v _ I1 r1 q1) λ_ s2 q=>q
theorem wd {i:Nat} {x:Str} {e:Expr} {te:TE} {pos':Pos} (hN:X.N.Nodup) (hi:X.N[i]?=some x) (hx:Loc X.env.scope x) (he:PE X e te) (hs:swapsWith e (some (.Name x pos')) pos.line X.env=pure false:=by rfl) (hf:X.fn x=true\/X.env.scope.names.lookup x=some .local:=by first | exact .inl rfl | exact .inr rfl | assumption) :
   PS X (.Assign [.Name x pos'] e pos) (wk te (uN i)):=by
 intro pins s σ H D I h
 refine wpAny_Assign_Name (thn (he pins s σ H _ I h) λv s1 ⟨y,H1,I1,r1,q1⟩=>?_) hs
 exact lg I1 hN hi hx r1 (λs2 I2=>⟨_,H1,I2,q1⟩) hf
end
section
variable {X:Cx} {pos:Pos}
noncomputable def u5 (c:TT) (tb:TS):TS:=λD σ H=>∃ W:Nat->St->Hp->Prop,(∃ m,W m σ H)/\∀ m σ H,W m σ H ->
 c σ H λb H1=>if b=true then ∃ N:St->Hp->Prop,(∀ σ' H',N σ' H'->∃ m',m' < m/\W m' σ' H')/\tb { D with nx:=N,ct:=N,bk:=D.nx } σ H1 else D.nx σ H1
theorem qD {c:Expr} {body:List Stmt} {tc:TT} {tb:TS} (hp:PassesOwn (model X.prog X.w) X.A X.env X.xe) (hc:PT X c tc) (hb:PSs X body tb):PS X (.While c body [] pos) (u5 tc tb):=by
 intro pins s σ H D I h
 obtain ⟨W,⟨m0,w0⟩,turn⟩:=h
 refine wpAny_While (codeAny_whileLoop (λn s'=>∃ σ' H',Inv X pins σ' H' s'/\W n σ' H') ?_ m0 ⟨σ,H,I,w0⟩)
 rintro n s1 ⟨σ1,H1,I1,w1⟩
 refine wpAny_passesOwn hp (thn (hc pins s1 σ1 H1 _ I1 (turn n σ1 H1 w1)) λb s2 ⟨H2,I2,q2⟩=>?_)
 cases b with
 | true=>
   obtain ⟨N,hN,q2⟩:=q2
   rw [if_pos rfl]
   refine wpAny_passesOwn hp (thn (hb pins s2 σ1 H2 _ I2 q2) λf s3 q3=>?_)
   cases f with
   | next=>
     obtain ⟨σ3,H3,I3,n3⟩:=q3
     obtain ⟨m',hm,w3⟩:=hN σ3 H3 n3
     exact ⟨m',hm,σ3,H3,I3,w3⟩
   | cont=>
     obtain ⟨σ3,H3,I3,n3⟩:=q3
     obtain ⟨m',hm,w3⟩:=hN σ3 H3 n3
     exact ⟨m',hm,σ3,H3,I3,w3⟩
   | brk=>exact q3
   | ret v=>exact q3
 | false=>
   rw [if_neg Bool.false_ne_true]
   exact wpAny_execs_nil ⟨σ1,H2,I2,q2⟩
end
structure It where
 go:Nat->Hp->Prop
 yld:Nat->Hp->V->Hp->Prop
 stop:Nat->Hp->Prop
noncomputable def jb (X:Cx) (pins:List (Addr × Obj)) (H:Hp) (b:Addr):Prop:=
 H b=none/\b ≠ X.env.locals/\b ∉ X.fs/\(b ∈ X.ex\/X.s₀.heap.objs.size<=b)/\(∀ x c,X.env.cells.lookup x=some c->c ≠ b)/\∀ p ∈ X.pn++pins,p.1 ≠ b
theorem Inv.kI {X:Cx} {pins:List (Addr × Obj)} {σ:St} {H H':Hp} {s:Shared} {b:Addr} (I:Inv X pins σ H s) (hb:s.heap.objs.size<=b) (hn:H' b=none):jb X pins H' b:=by
 refine ⟨hn,Nat.ne_of_gt (Nat.lt_of_lt_of_le I.lt hb),I.yO hb,.inr (Nat.le_trans I.sz hb),λx c e z=>?_,λp hp z=>?_⟩
 · obtain ⟨v,q⟩:=I.cell x c e
   exact absurd (Nat.lt_of_lt_of_le q.lt (by rw [z]; exact hb)) (Nat.lt_irrefl _)
 · exact absurd (Nat.lt_of_lt_of_le (Heap.lt_size (I.pin p hp).1) (by rw [z]; exact hb)) (Nat.lt_irrefl _)
noncomputable def yH (X:Cx):Prop:=∃ h o u vs,X.A.handled=some (.ref h)/\X.H₀ h=some (.frz o u)/\o.data=.fields vs/\vs[2]?=some .none
noncomputable def Ck (kd:Bool) (X:Cx):Prop:=X.calm=true\/(kd=true/\yH X)
theorem Ck.calm {X:Cx} (h:Ck false X):X.calm=true:=h.resolve_right λz=>nomatch z.1
structure Turn (P:Program) (w:World) (K:PySem.W.Frag) (kd:Bool) (tg:Expr) (J:It) (fp:List Addr) (it:Addr) (tn:Nat->Heap->Prop):Prop where
 mem:it ∈ fp
 obj:∀ i h,tn i h->∀ b ∈ fp,∃ o,h.get? b=some o/\∀ v,o.data ≠ .cell v
 keep:∀ i h h',tn i h->(∀ b ∈ fp,∀ o,h.get? b=some o->h'.get? b=some o)->tn i h'
 item:∀ (X:Cx),X.prog=P->X.w=w->X.K=K->Ck kd X->∀ (i:Nat) (pins:List (Addr × Obj)) (s:Shared) (σ:St) (H:Hp) (E:Value->Shared->Prop),Inv X pins σ H s->(∀ b ∈ fp,jb X pins H b)->tn i s.heap->J.go i H ->
   wpAny (model P w) X.A (pyNext (.ref it)) (λr s1=>∃ u,r=some u /\
     wpAny (model P w) X.A (letOwnedTupleGo tg (.ref it) u) (λ_ s2=>∃ x H',Inv X pins σ H' s2/\RelV x u/\J.yld i H x H'/\tn (i + 1) s2.heap/\∀ b ∈ fp,H' b=none) E s1) E s
 done:∀ (X:Cx),X.prog=P->X.w=w->X.K=K->Ck kd X->∀ (i:Nat) (pins:List (Addr × Obj)) (s:Shared) (σ:St) (H:Hp) (E:Value->Shared->Prop),Inv X pins σ H s->(∀ b ∈ fp,jb X pins H b)->tn i s.heap->J.stop i H ->
   wpAny (model P w) X.A (pyNext (.ref it)) (λr s1=>r=none/\Inv X pins σ H s1) E s
 self:∀ (A:Around) (i:Nat) (s:Shared) (Q:Value->Shared->Prop) (E:Value->Shared->Prop),tn i s.heap->Q (.ref it) s->wpAny (model P w) A (pyIter (.ref it)) Q E s
noncomputable abbrev TI:=St->Hp->(It->Hp->Prop)->Prop
noncomputable def PIE (X:Cx) (pins:List (Addr × Obj)) (σ:St) (tg:Expr) (R:It->Hp->Prop) (itv:Value) (s2:Shared):Prop:=
 ∃ (kd:Bool) (it:Addr) (fp:List Addr) (tn:Nat->Heap->Prop) (J:It) (H':Hp),itv=.ref it/\Inv X pins σ H' s2/\Ck kd X/\Turn X.prog X.w X.K kd tg J fp it tn/\tn 0 s2.heap/\(∀ b ∈ fp,jb X pins H' b)/\R J H'
noncomputable def PI (X:Cx) (tg iter:Expr) (wi:TI):Prop:=
 ∀ (pins:List (Addr × Obj)) (s:Shared) (σ:St) (H:Hp) (R:It->Hp->Prop),Inv X pins σ H s->wi σ H R ->
   wpAny (model X.prog X.w) X.A (eval iter X.env) (λv s1=>wpAny (model X.prog X.w) X.A (pyIter v) (PIE X pins σ tg R) X.xe s1) X.xe s
theorem lV {M:Model} {A:Around} {E:Value->Shared->Prop} {s:Shared} {tg:Expr} {it:Addr} {u:Value} {o:Obj} {n:String} {vs:Array Value} {Q:Unit->Shared->Prop} (ho:s.heap.get? it=some o) (hc:o.cls=.type n) (hd:o.data=.fields vs)
   (hn:["enumerate","zip","dict_itemiterator","dict_reverseitemiterator","odict_iterator","itertools.zip_longest","itertools.pairwise"].contains n=false) (hQ:Q () s):wpAny M A (letOwnedTupleGo tg (.ref it) u) Q E s:=by
 unfold letOwnedTupleGo
 cases tg <;> first
   | exact wpAny_pure hQ
   | (cases u <;> first
       | exact wpAny_pure hQ
       | (refine wpAny_bind (wpAny_load ho ?_)
          rw [hc,hd]
          show wpAny M A (if (["enumerate","zip","dict_itemiterator","dict_reverseitemiterator","odict_iterator","itertools.zip_longest","itertools.pairwise"].contains n && vs[0]? == some (rawInt _))=true then _ else _) Q E s
          rw [if_neg (by intro h; rw [hn,Bool.false_and] at h; cases h)]
          exact wpAny_pure hQ))
noncomputable def Itl (K:PySem.W.Frag) (a:Addr):It:=
 ⟨λi H=>∃ xs x,SqL K H a xs/\xs[i]?=some x,λi H x H'=>H'=H/\∀ xs,SqL K H a xs->xs[i]?=some x,λi H=>∃ xs,SqL K H a xs/\xs.length<=i⟩
noncomputable def Itr (lo:Int) (n:Nat):It:=⟨λi _=>i < n,λi H x H'=>H'=H/\x=.int (lo + i),λi _=>n<=i⟩
theorem oQ {P:Program} {w:World} {K:PySem.W.Frag} {tg:Expr} (a it:Addr):Turn P w K false tg (Itl K a) [it] it (λi h=>h.IsListIter it a i) where
 mem:=by simp
 obj:=λi h st b hb=>by
   have e:b=it:=by simpa using hb
   subst e
   obtain ⟨o,e,c,d⟩:=st
   exact ⟨o,e,λv z=>by rw [d] at z; cases z⟩
 keep:=λi h h' st k=>st.at λo e=>k it (by simp) o e
 item:=by
   intro X hP hw hK hc i pins s σ H E I hf st hg
   subst hP hw hK
   obtain ⟨xs,x,hq,hx⟩:=hg
   obtain ⟨its,rv,p,hz⟩:=I.list hq
   obtain ⟨u,hu,ru⟩:=rv.get hx
   obtain ⟨f0,f1,f2,f3,f4,f5⟩:=hf it (by simp)
   refine wpAny_pyNext_list_item st p.isList (x:=u) (by simpa using hu) λh' st' sb=>?_
   have I1:Inv X pins σ H { s with heap:=h' }:=I.turned (t':=s.toks) (λb o hb e=>(sb.2 b hb).trans e) f0 f1 f3 f4 f5
   obtain ⟨o,e,c,d⟩:=id st'
   exact ⟨u,rfl,lV (s:={ s with heap:=h' }) e c d (by decide) ⟨x,H,I1,ru,⟨rfl,λys hy=>by rw [I.eg hy hq]; exact hx⟩,st',λb hb=>(hf b hb).1⟩⟩
 done:=by
   intro X hP hw hK hc i pins s σ H E I hf st hg
   subst hP hw hK
   obtain ⟨xs,hq,hx⟩:=hg
   obtain ⟨its,rv,p,hz⟩:=I.list hq
   obtain ⟨f0,f1,f2,f3,f4,f5⟩:=hf it (by simp)
   have hl:=rv.length
   exact wpAny_pyNext_list_end (I.ok.hd hc.calm) st p.isList (by simp; omega) λh' eb=>⟨rfl,I.turned (t':=s.toks) (λb o hb e=>eb b o hb e) f0 f1 f3 f4 f5⟩
 self:=λ_ _ _ _ _ st h=>wpAny_pyIter_listiter st h
theorem mB {P:Program} {w:World} {K:PySem.W.Frag} {tg:Expr} (it:Addr) (lo:Int) (n:Nat):Turn P w K true tg (Itr lo n) [it] it (λi h=>IsRangeIter h it (lo + (i:Nat) * 1) ((n:Int) - (i:Nat)) 1) where
 mem:=by simp
 obj:=λi h st b hb=>by
   have e:b=it:=by simpa using hb
   subst e
   exact ⟨_,st,λv z=>by
     have z':Data.fields _=Data.cell v:=z
     cases z'⟩
 keep:=λi h h' st k=>k it (by simp) _ st
 item:=by
   intro X hP hw hK hc i pins s σ H E I hf st hg
   subst hP hw hK
   obtain ⟨f0,f1,f2,f3,f4,f5⟩:=hf it (by simp)
   refine wpAny_pyNext_range_item st (by have:i < n:=hg; omega) λh' st0 sb=>?_
   have st':IsRangeIter h' it (lo + ((i + 1:Nat):Int) * 1) ((n:Int) - ((i + 1:Nat):Int)) 1:=by
     have e1:lo + ((i + 1:Nat):Int) * 1=lo + (i:Nat) * 1 + 1:=by omega
     have e2:(n:Int) - ((i + 1:Nat):Int)=(n:Int) - (i:Nat) - 1:=by omega
     rw [e1,e2]; exact st0
   have I1:Inv X pins σ H { s with heap:=h',toks:=s.toks + 1 }:=I.turned (λb o hb e=>(sb.2 b hb).trans e) f0 f1 f3 f4 f5
   refine ⟨_,rfl,lV (s:={ s with heap:=h',toks:=s.toks + 1 }) (n:="range_iterator") st' rfl rfl (by decide) ⟨.int (lo + i),H,I1,⟨s.toks,?_⟩,⟨rfl,rfl⟩,st',λb hb=>(hf b hb).1⟩⟩
   rw [Int.mul_one]
 done:=by
   intro X hP hw hK hc i pins s σ H E I hf st hg
   subst hP hw hK
   obtain ⟨f0,f1,f2,f3,f4,f5⟩:=hf it (by simp)
   rcases hc with hc | ⟨_,q,o,u,vs,e1,e2,e3,e4⟩
   · exact wpAny_pyNext_range_end (I.ok.hd hc) st (by have:n<=i:=hg; omega) λh' eb=>⟨rfl,I.turned (t':=s.toks) (λb o hb e=>eb b o hb e) f0 f1 f3 f4 f5⟩
   · have e5:=I.hok q _ (I.base.frzs q o u e2)
     exact Hx.l5 e1 e5.1 e3 e4 st (by have:n<=i:=hg; omega) λh' eb=>⟨rfl,I.turned (t':=s.toks) (λb o hb e=>eb b o hb e) f0 f1 f3 f4 f5⟩
 self:=λ_ _ _ _ _ st h=>wpAny_pyIter_rangeiter st h
section
variable {X:Cx} {tg:Expr}
noncomputable def xU (K:PySem.W.Frag) (tl:TE):TI:=λσ H R=>tl σ H λx H1=>∃ a,x=.ref a/\(∃ xs,SqL K H1 a xs)/\R (Itl K a) H1
theorem ur {l:Expr} {tl:TE} (hc:X.calm=true) (hl:PE X l tl):PI X tg l (xU X.K tl):=by
 intro pins s σ H R I h
 refine thn (hl pins s σ H _ I h) λv s1 ⟨x,H1,I1,r1,q1⟩=>?_
 obtain ⟨a,e,⟨xs,hq⟩,q⟩:=q1
 subst e
 cases r1
 obtain ⟨its,rv,p,hz⟩:=I1.list hq
 refine wpAny_pyIter_list p.isList ?_
 refine ⟨false,s1.heap.objs.size,[s1.heap.objs.size],_,_,H1,rfl,I1.kept (t':=s1.toks) λb o e=>Heap.get?_push_of_some _ e,.inl hc,oQ a _,⟨_,Heap.get?_push_size _ rfl,rfl,rfl⟩,λb hb=>?_,q⟩
 have e:b=s1.heap.objs.size:=by simpa using hb
 subst e
 exact I1.kI (Nat.le_refl _) (I1.hok.fresh (Nat.le_refl _))
theorem kR {pins:List (Addr × Obj)} {σ:St} {H:Hp} {s:Shared} {R:It->Hp->Prop} {E:Value->Shared->Prop} {lo hi:Int} {t u v:Tok} {tk:Nat} (hc:Ck true X) (I:Inv X pins σ H s) (h1:-(2 ^ 62)<=lo) (h2:lo < 2 ^ 62) (h3:-(2 ^ 62)<=hi) (h4:hi < 2 ^ 62)
   (q:R (Itr lo (hi - lo).toNat) H):wpAny (model X.prog X.w) X.A (pyIter (.ref s.heap.objs.size)) (PIE X pins σ tg R) E { s with heap:=s.heap.push { cls:=.type "range",data:=.fields #[.int lo t,.int hi u,.int 1 v] },toks:=tk }:=by
 refine wpAny_pyIter_range (IsRange.new ..) (small_one h1 h2 h3 h4) ?_
 have I1:Inv X pins σ H { s with heap:=s.heap.push { cls:=.type "range",data:=.fields #[.int lo t,.int hi u,.int 1 v] },toks:=tk }:=I.kept λb o e=>Heap.get?_push_of_some _ e
 refine ⟨true,(s.heap.push { cls:=.type "range",data:=.fields #[.int lo t,.int hi u,.int 1 v] }).objs.size,[(s.heap.push { cls:=.type "range",data:=.fields #[.int lo t,.int hi u,.int 1 v] }).objs.size],_,_,H,rfl,
   I1.kept (t':=tk) λb o e=>Heap.get?_push_of_some _ e,hc,mB _ lo (hi - lo).toNat,?_,λb hb=>?_,q⟩
 · have e1:lo + ((0:Nat):Int) * 1=lo:=by simp
   have e2:(((hi - lo).toNat:Nat):Int) - ((0:Nat):Int)=Builtin.Range.rangeSize lo hi 1:=by rw [rangeSize_one]; split <;> omega
   show IsRangeIter _ _ (lo + ((0:Nat):Int) * 1) ((((hi - lo).toNat:Nat):Int) - ((0:Nat):Int)) 1
   rw [e1,e2]
   exact Heap.get?_push_size _ rfl
 · have e:b=(s.heap.push { cls:=.type "range",data:=.fields #[.int lo t,.int hi u,.int 1 v] }).objs.size:=by simpa using hb
   subst e
   exact I1.kI (Nat.le_refl _) (I1.hok.fresh (Nat.le_refl _))
noncomputable def w4 (ta:TA):TI:=λσ H R=>ta σ H λvs H1=>∃ j:Int,vs=[.int j]/\-(2 ^ 62)<=j/\j < 2 ^ 62/\R (Itr 0 j.toNat) H1
noncomputable def xO (ta:TA):TI:=λσ H R=>ta σ H λvs H1=>∃ i j:Int,vs=[.int i,.int j]/\(-(2 ^ 62)<=i/\i < 2 ^ 62/\-(2 ^ 62)<=j/\j < 2 ^ 62)/\R (Itr i (j - i).toNat) H1
theorem oY {a:Expr} {ta:TA} {p pos:Pos} (hc:Ck true X) (hg:Gl X "range") (hm:X.mg "range" = none) (ha:PA X [a] ta) (hs:starEach [a] X.env=[(false,eval a X.env)]:=by rfl):PI X tg (.Call (.Name "range" p) [a] [] pos) (w4 ta):=by
 intro pins s σ H R I h
 refine Call_ (cZ I hg hm boot_range (PyProof.Rows.callWith_type1 (thn (ha pos pins s σ H _ I h) λus s1 ⟨vs,H1,I1,r1,q1⟩=>?_) hs rfl))
 obtain ⟨j,e,q1,q2,q⟩:=q1
 subst e
 cases r1 with
 | cons r rr=>
   cases rr
   obtain ⟨t,rfl⟩:=r
   exact call_range_1 (kR hc I1 (by omega) (by omega) q1 q2 (by simpa using q))
theorem pz {a b:Expr} {ta:TA} {p pos:Pos} (hc:Ck true X) (hg:Gl X "range") (hm:X.mg "range" = none) (ha:PA X [a,b] ta) (hs:starEach [a,b] X.env=[(false,eval a X.env),(false,eval b X.env)]:=by rfl) (hs2:starEach [b] X.env=[(false,eval b X.env)]:=by rfl) :
   PI X tg (.Call (.Name "range" p) [a,b] [] pos) (xO ta):=by
 intro pins s σ H R I h
 refine Call_ (cZ I hg hm boot_range (PyProof.Rows.callWith_type1 (thn (ha pos pins s σ H _ I h) λus s1 ⟨vs,H1,I1,r1,q1⟩=>?_) (by rw [hs,hs2]) (by rw [hs2]; rfl)))
 obtain ⟨i,j,e,⟨q1,q2,q3,q4⟩,q⟩:=q1
 subst e
 cases r1 with
 | cons r rr=>
   cases rr with
   | cons r' rr=>
     cases rr
     obtain ⟨t,rfl⟩:=r
     obtain ⟨t',rfl⟩:=r'
     exact call_range_2 (kR hc I1 q1 q2 q3 q4 q)
noncomputable def yQ (wi:TI) (g:TG) (tb:TS):TS:=λD σ H=>wi σ H λJ H1=>∃ W:Nat->Nat->St->Hp->Prop,(∃ m,W 0 m σ H1)/\∀ i m σ H,W i m σ H ->
 (J.stop i H/\D.nx σ H)\/(J.go i H/\∃ N:St->Hp->Prop,(∀ σ' H',N σ' H'->∃ m',m' < m/\W (i + 1) m' σ' H')/\∀ x H',J.yld i H x H'->g x σ H' λσ2 H2=>tb { D with nx:=N,ct:=N,bk:=D.nx } σ2 H2)
noncomputable def eP (fp:List Addr) (h:Heap):List (Addr × Obj):=fp.filterMap λb=>(h.get? b).map λo=>(b,o)
theorem bN {fp:List Addr} {h:Heap} {b:Addr} {o:Obj} (hb:b ∈ fp) (e:h.get? b=some o):(b,o) ∈ eP fp h:=List.mem_filterMap.mpr ⟨b,hb,by rw [e]; rfl⟩
theorem pj {fp:List Addr} {h:Heap} {p:Addr × Obj} (hp:p ∈ eP fp h):p.1 ∈ fp/\h.get? p.1=some p.2:=by
 obtain ⟨b,hb,e⟩:=List.mem_filterMap.mp hp
 cases q:h.get? b with
 | none=>rw [q] at e; cases e
 | some o=>
   rw [q] at e
   have e':(b,o)=p:=Option.some.inj e
   subst e'
   exact ⟨hb,q⟩
theorem Inv.pinned {pins:List (Addr × Obj)} {σ:St} {H:Hp} {s:Shared} {fp:List Addr} (I:Inv X pins σ H s) (hf:∀ b ∈ fp,jb X pins H b) (ho:∀ b ∈ fp,∃ o,s.heap.get? b=some o/\∀ v,o.data ≠ .cell v):Inv X (pins++eP fp s.heap) σ H s:=
 I.nv λp hp=>(List.mem_append.mp hp).elim (λz=>I.pin p (List.mem_append_right _ z)) λz=>by
   obtain ⟨hb,e⟩:=pj z
   obtain ⟨f0,f1,f2,_⟩:=hf p.1 hb
   obtain ⟨o,e',d⟩:=ho p.1 hb
   rw [e] at e'; cases e'
   exact ⟨e,f0,f1,f2,d⟩
theorem Inv.df {pins pl:List (Addr × Obj)} {σ:St} {H:Hp} {s:Shared} (I:Inv X (pins++pl) σ H s):Inv X pins σ H s:=I.nv λp hp=>I.pin p (List.mem_append_right _ (List.mem_append_left _ hp))
theorem vm {iter:Expr} {body:List Stmt} {wi:TI} {g:TG} {tb:TS} {pos:Pos} (hp:PassesOwn (model X.prog X.w) X.A X.env X.xe) (hi:PI X tg iter wi) (hg:PG X tg g) (hb:PSs X body tb)
   (hs:∀ x,foldedSetIterable iter X.env x=pure x:=by intro _; rfl):PS X (.For tg iter body [] pos) (yQ wi g tb):=by
 intro pins s σ H D I h
 refine wpAny_For (thn (hi pins s σ H _ I h) λv s1 h1=>thn h1 λitv s2 h2=>?_) hs
 obtain ⟨kd,it,fp,tn,J,H2,e,I2,hc,T,st2,f2,W,⟨m0,w0⟩,turn⟩:=h2
 subst e
 have stat:∀ {H':Hp},(∀ b ∈ fp,H' b=none)->∀ b ∈ fp,jb X pins H' b:=λhn b hb=>⟨hn b hb,(f2 b hb).2⟩
 refine codeAny_forLoop_any (λn s'=>∃ i σ' H',Inv X pins σ' H' s'/\tn i s'.heap/\(∀ b ∈ fp,H' b=none)/\W i n σ' H') ?_ m0 ⟨0,σ,H2,I2,st2,λb hb=>(f2 b hb).1,w0⟩
 rintro n s3 ⟨i,σ3,H3,I3,st3,fr3,w3⟩
 rcases turn i n σ3 H3 w3 with ⟨stop,qn⟩ | ⟨go,N,hN,step⟩
 · refine wpAny_passesOwn hp (thn (T.done X rfl rfl rfl hc i pins s3 σ3 H3 X.xe I3 (stat fr3) st3 stop) λr s4 ⟨hr,I4⟩=>?_)
   subst hr
   exact wpAny_execs_nil ⟨σ3,H3,I4,qn⟩
 · refine wpAny_passesOwn hp (thn (T.item X rfl rfl rfl hc i pins s3 σ3 H3 X.xe I3 (stat fr3) st3 go) λr s4 ⟨u,hr,h4⟩=>?_)
   subst hr
   refine wpAny_passesOwn hp (thn h4 λ_ s5 ⟨x,H5,I5,r5,y5,st5,fr5⟩=>?_)
   have I5':=I5.pinned (stat fr5) (T.obj _ _ st5)
   refine wpAny_passesOwn hp (thn (hg _ s5 σ3 H5 x u _ I5' r5 (step x H5 y5)) λ_ s6 ⟨σ6,H6,I6,q6⟩=>?_)
   refine wpAny_passesOwn hp (thn (hb _ s6 σ6 H6 _ I6 q6) λf s7 q7=>?_)
   have again:∀ {σ7:St} {H7:Hp},Inv X (pins++eP fp s5.heap) σ7 H7 s7->N σ7 H7->∃ m,m < n/\∃ i σ' H',Inv X pins σ' H' s7/\tn i s7.heap/\(∀ b ∈ fp,H' b=none)/\W i m σ' H':=λ{σ7 H7} I7 n7=>by
     obtain ⟨m',hm,w7⟩:=hN σ7 H7 n7
     refine ⟨m',hm,i + 1,σ7,H7,I7.df,T.keep _ _ _ st5 λb hb o e=>(I7.pin (b,o) (List.mem_append_right _ (List.mem_append_right _ (bN hb e)))).1,λb hb=>?_,w7⟩
     obtain ⟨o,e,d⟩:=T.obj _ _ st5 b hb
     exact (I7.pin (b,o) (List.mem_append_right _ (List.mem_append_right _ (bN hb e)))).2.1
   cases f with
   | next=>obtain ⟨σ7,H7,I7,n7⟩:=q7; exact again I7 n7
   | cont=>obtain ⟨σ7,H7,I7,n7⟩:=q7; exact again I7 n7
   | brk=>obtain ⟨σ7,H7,I7,q7⟩:=q7; exact ⟨σ7,H7,I7.df,q7⟩
   | ret v=>obtain ⟨x7,σ7,H7,I7,r7,q7⟩:=q7; exact ⟨x7,σ7,H7,I7.df,r7,q7⟩
end
noncomputable abbrev R2:=V->V->Hp->VK->Prop
noncomputable def OpR (X:Cx) (f:Value->Value->Sem Value) (r:R2):Prop:=
 ∀ (pins:List (Addr × Obj)) (s:Shared) (σ:St) (H:Hp) (x y:V) (v u:Value) (Q:VK),Inv X pins σ H s->RelV x v->RelV y u->r x y H Q ->
   wpAny (model X.prog X.w) X.A (f v u) (EP X pins σ Q) X.xe s
noncomputable def UnR (X:Cx) (f:Value->Sem Value) (r:V->Hp->VK->Prop):Prop:=
 ∀ (pins:List (Addr × Obj)) (s:Shared) (σ:St) (H:Hp) (x:V) (v:Value) (Q:VK),Inv X pins σ H s->RelV x v->r x H Q ->
   wpAny (model X.prog X.w) X.A (f v) (EP X pins σ Q) X.xe s
noncomputable def dg (X:Cx) (f:Value) (r:List V->Hp->VK->Prop):Prop:=
 ∀ (pins:List (Addr × Obj)) (s:Shared) (σ:St) (H:Hp) (xs:List V) (us:List Value) (Q:VK),Inv X pins σ H s->Vals xs us->r xs H Q ->
   wpAny (model X.prog X.w) X.A (call f us) (EP X pins σ Q) X.xe s
noncomputable def tOp (r:R2) (ta tb:TE):TE:=λσ H Q=>ta σ H λx H1=>tb σ H1 λy H2=>r x y H2 Q
noncomputable def tUn (r:V->Hp->VK->Prop) (ta:TE):TE:=λσ H Q=>ta σ H λx H1=>r x H1 Q
noncomputable def rI (C:Int->Int->Prop) (g:Int->Int->V):R2:=λx y H Q=>∃ i j,x=.int i/\y=.int j/\C i j/\Q (g i j) H
noncomputable def rI0 (g:Int->Int->V):R2:=λx y H Q=>∃ i j,x=.int i/\y=.int j/\Q (g i j) H
noncomputable def rU (g:Int->V):V->Hp->VK->Prop:=λx H Q=>∃ i,x=.int i/\Q (g i) H
section
variable {X:Cx} {a b c:Expr} {ta tb tc:TE} {pos:Pos}
theorem vU (ha:PE X a ta) (hb:PE X b tb) {pins:List (Addr × Obj)} {s:Shared} {σ:St} {H:Hp} {R:V->V->Hp->Prop} (I:Inv X pins σ H s)
   (h:ta σ H λx H1=>tb σ H1 λy H2=>R x y H2) {Q:Value->Shared->Prop} {f:Value->Value->Sem Value}
   (hf:∀ v u s2 x y H2,Inv X pins σ H2 s2->RelV x v->RelV y u->R x y H2->wpAny (model X.prog X.w) X.A (f v u) Q X.xe s2) :
   wpAny (model X.prog X.w) X.A (eval a X.env) (λv s₁=>wpAny (model X.prog X.w) X.A (eval b X.env) (λu s₂=>wpAny (model X.prog X.w) X.A (f v u) Q X.xe s₂) X.xe s₁) X.xe s:=by
 refine thn (ha pins s σ H _ I h) λv s1 ⟨x,H1,I1,r1,q1⟩=>?_
 refine thn (hb pins s1 σ H1 _ I1 q1) λu s2 ⟨y,H2,I2,r2,q2⟩=>?_
 exact hf v u s2 x y H2 I2 r1 r2 q2
theorem uD {op:Operator} {r:R2} (ho:OpR X (binaryOp op) r) (ha:PE X a ta) (hb:PE X b tb):PE X (.BinOp a op b pos) (tOp r ta tb):=by
 intro pins s σ H Q I h
 exact wpAny_BinOp (vU ha hb I h λv u s2 x y H2 I2 rx ry q=>ho pins s2 σ H2 x y v u Q I2 rx ry q)
theorem xQ {op:UnaryOp} {r:V->Hp->VK->Prop} (ho:UnR X (unaryOp op) r) (ha:PE X a ta):PE X (.UnaryOp op a pos) (tUn r ta):=by
 intro pins s σ H Q I h
 exact UnaryOp_ (thn (ha pins s σ H _ I h) λv s1 ⟨x,H1,I1,r1,q1⟩=>ho pins s1 σ H1 x v Q I1 r1 q1)
theorem opI {f:Value->Value->Sem Value} {C:Int->Int->Prop} {g:Int->Int->Int}
   (rule:∀ (i j:Int) (t u:Tok) (s:Shared) (Q:Value->Shared->Prop) (E:Value->Shared->Prop),C i j->Q (.int (g i j) s.toks) { s with toks:=s.toks + 1 }->wpAny (model X.prog X.w) X.A (f (.int i t) (.int j u)) Q E s) :
   OpR X f (rI C λi j=>.int (g i j)):=by
 intro pins s σ H x y v u Q I rx ry h
 obtain ⟨i,j,rfl,rfl,hc,q⟩:=h
 obtain ⟨t,rfl⟩:=rx
 obtain ⟨t',rfl⟩:=ry
 exact rule i j t t' s _ _ hc ⟨.int (g i j),H,I.tok _,⟨_,rfl⟩,q⟩
theorem tY {f:Value->Value->Sem Value} {g:Int->Int->Int}
   (rule:∀ (i j:Int) (t u:Tok) (s:Shared) (Q:Value->Shared->Prop) (E:Value->Shared->Prop),Q (.int (g i j) s.toks) { s with toks:=s.toks + 1 }->wpAny (model X.prog X.w) X.A (f (.int i t) (.int j u)) Q E s) :
   OpR X f (rI0 λi j=>.int (g i j)):=by
 intro pins s σ H x y v u Q I rx ry h
 obtain ⟨i,j,rfl,rfl,q⟩:=h
 obtain ⟨t,rfl⟩:=rx
 obtain ⟨t',rfl⟩:=ry
 exact rule i j t t' s _ _ ⟨.int (g i j),H,I.tok _,⟨_,rfl⟩,q⟩
theorem tj {f:Value->Value->Sem Value} {g:Int->Int->Bool}
   (rule:∀ (i j:Int) (t u:Tok) (s:Shared) (Q:Value->Shared->Prop) (E:Value->Shared->Prop),Q (.bool (g i j)) s->wpAny (model X.prog X.w) X.A (f (.int i t) (.int j u)) Q E s) :
   OpR X f (rI0 λi j=>.bl (g i j)):=by
 intro pins s σ H x y v u Q I rx ry h
 obtain ⟨i,j,rfl,rfl,q⟩:=h
 obtain ⟨t,rfl⟩:=rx
 obtain ⟨t',rfl⟩:=ry
 exact rule i j t t' s _ _ ⟨.bl (g i j),H,I,rfl,q⟩
noncomputable def tT (i j:Int):Prop:=0<=j/\j<=1000000/\i.natAbs < 2 ^ 64
theorem l6 (k:Nat):(0:Int)<=2 ^ k:=by
 rw [two_pow_cast]
 exact Int.natCast_nonneg _
theorem wA:OpR X (binaryOp .Add) (rI0 λi j=>.int (i + j)):=tY λ_ _ _ _ _ _ _ q=>add_int q
theorem vc:OpR X (binaryOp .Sub) (rI0 λi j=>.int (i - j)):=tY λ_ _ _ _ _ _ _ q=>sub_int q
theorem tG:OpR X (binaryOp .Mod) (rI (λ_ j=>j ≠ 0) λi j=>.int (i.fmod j)):=opI λ_ _ _ _ _ _ _ hc q=>mod_int' hc q
theorem vA:OpR X (binaryOp .Pow) (rI tT λi j=>.int (i ^ j.toNat)):=opI λ_ _ _ _ _ _ _ hc q=>pow_int_small hc.1 hc.2.1 hc.2.2 q
theorem wz:OpR X (binaryOp .LShift) (rI tT λi j=>.int (i * 2 ^ j.toNat)):=opI λ_ _ _ _ _ _ _ hc q=>lshift_int_small hc.1 hc.2.1 hc.2.2 q
theorem v9:OpR X (binaryOp .RShift) (rI (λ_ j=>0<=j) λi j=>.int (i / 2 ^ j.toNat)):=opI λi j _ _ _ _ _ hc q=>
 rshift_int hc (by rw [Int.fdiv_eq_ediv_of_nonneg i (l6 _)]; exact q)
theorem va:OpR X (binaryOp .BitAnd) (rI0 λi j=>.int (Builtin.bitAnd i j)):=tY λ_ _ _ _ _ _ _ q=>and_int q
theorem w6:OpR X (binaryOp .BitOr) (rI0 λi j=>.int (Builtin.bitOr i j)):=tY λ_ _ _ _ _ _ _ q=>or_int q
theorem unI {f:Value->Sem Value} {g:Int->Int}
   (rule:∀ (i:Int) (t:Tok) (s:Shared) (Q:Value->Shared->Prop) (E:Value->Shared->Prop),Q (.int (g i) s.toks) { s with toks:=s.toks + 1 }->wpAny (model X.prog X.w) X.A (f (.int i t)) Q E s) :
   UnR X f (rU λi=>.int (g i)):=by
 intro pins s σ H x v Q I rx h
 obtain ⟨i,rfl,q⟩:=h
 obtain ⟨t,rfl⟩:=rx
 exact rule i t s _ _ ⟨.int (g i),H,I.tok _,⟨_,rfl⟩,q⟩
theorem wH:UnR X (unaryOp .USub) (rU λi=>.int (-i)):=unI λ_ _ _ _ _ q=>neg_int q
end
noncomputable def xb:V->V->Bool
 | .non,.non=>true | .non,.int _=>true | .int _,.non=>true | .non,.bl _=>true | .bl _,.non=>true | .non,.str _=>true | .str _,.non=>true
 | .int _,.int _=>true | .bl _,.bl _=>true | .str _,.str _=>true | .byt _,.byt _=>true
 | .int _,.str _=>true | .str _,.int _=>true | .bl _,.str _=>true | .str _,.bl _=>true
 | _,_=>false
noncomputable def rEq:R2:=λx y H Q=>xb x y=true/\Q (.bl (decide (x=y))) H
noncomputable def rNe:R2:=λx y H Q=>xb x y=true/\Q (.bl (!decide (x=y))) H
theorem oq {i j:Int}:decide (V.int i=V.int j)=(i == j):=by
 rw [Bool.eq_iff_iff]
 simp
theorem ql {i j:Bool}:decide (V.bl i=V.bl j)=(i == j):=by
 rw [Bool.eq_iff_iff]
 simp
theorem m6 {i j:Str}:decide (V.str i=V.str j)=(i == j):=by
 rw [Bool.eq_iff_iff]
 simp
theorem n8 {i j:Array UInt8}:decide (V.byt i=V.byt j)=(i.toList == j.toList):=by
 rw [Bool.eq_iff_iff]
 cases i
 cases j
 simp
section
variable {X:Cx} {a b c:Expr} {ta tb tc:TE} {pos:Pos}
theorem aN {pins:List (Addr × Obj)} {σ:St} {H:Hp} {s:Shared} {Q:VK} {k k':Bool} (I:Inv X pins σ H s) (q:Q (.bl k) H) (e:k=k'):EP X pins σ Q (.bool k') s:=by
 subst e
 exact ⟨.bl k,H,I,rfl,q⟩
theorem xp:OpR X (compareOp .Eq) rEq:=by
 intro pins s σ H x y v u Q I rx ry h
 obtain ⟨hs,q⟩:=h
 cases x with
 | non=>
   cases rx
   cases y with
   | non=>cases ry; exact PySem.EqNone.eq_none_none (aN I q (by simp))
   | bl j=>cases ry; exact PySem.EqNone.eq_none_bool (aN I q (by simp))
   | int j=>obtain ⟨t',rfl⟩:=ry; exact PySem.EqNone.eq_none_int (aN I q (by simp))
   | str j=>obtain ⟨t',rfl⟩:=ry; exact PySem.EqNone.eq_none_str (aN I q (by simp))
   | _=>exact absurd (show false=true from hs) Bool.false_ne_true
 | bl i=>
   cases rx
   cases y with
   | non=>cases ry; exact PySem.EqNone.eq_bool_none (aN I q (by simp))
   | bl j=>cases ry; exact eq_bool (aN I q ql)
   | str j=>obtain ⟨t',rfl⟩:=ry; exact PySem.EqMixed.eq_bool_str (aN I q (by simp))
   | _=>exact absurd (show false=true from hs) Bool.false_ne_true
 | int i=>
   obtain ⟨t,rfl⟩:=rx
   cases y with
   | non=>cases ry; exact PySem.EqNone.eq_int_none (aN I q (by simp))
   | int j=>obtain ⟨t',rfl⟩:=ry; exact eq_int (aN I q oq)
   | str j=>obtain ⟨t',rfl⟩:=ry; exact PySem.EqMixed.eq_int_str (aN I q (by simp))
   | _=>exact absurd (show false=true from hs) Bool.false_ne_true
 | str i=>
   obtain ⟨t,rfl⟩:=rx
   cases y with
   | non=>cases ry; exact PySem.EqNone.eq_str_none (aN I q (by simp))
   | bl j=>cases ry; exact PySem.EqMixed.eq_str_bool (aN I q (by simp))
   | int j=>obtain ⟨t',rfl⟩:=ry; exact PySem.EqMixed.eq_str_int (aN I q (by simp))
   | str j=>obtain ⟨t',rfl⟩:=ry; exact eq_str (aN I q m6)
   | _=>exact absurd (show false=true from hs) Bool.false_ne_true
 | byt i=>
   obtain ⟨t,rfl⟩:=rx
   cases y with
   | byt j=>obtain ⟨t',rfl⟩:=ry; exact PySem.W.eq_bytes (aN I q n8)
   | _=>exact absurd (show false=true from hs) Bool.false_ne_true
 | _=>cases y <;> exact absurd (show false=true from hs) Bool.false_ne_true
theorem yg:OpR X (compareOp .NotEq) rNe:=by
 intro pins s σ H x y v u Q I rx ry h
 obtain ⟨hs,q⟩:=h
 cases x with
 | non=>
   cases rx
   cases y with
   | non=>cases ry; exact PySem.EqNone.ne_none_none (aN I q (by simp))
   | bl j=>cases ry; exact PySem.EqNone.ne_none_bool (aN I q (by simp))
   | int j=>obtain ⟨t',rfl⟩:=ry; exact PySem.EqNone.ne_none_int (aN I q (by simp))
   | str j=>obtain ⟨t',rfl⟩:=ry; exact PySem.EqNone.ne_none_str (aN I q (by simp))
   | _=>exact absurd (show false=true from hs) Bool.false_ne_true
 | bl i=>
   cases rx
   cases y with
   | non=>cases ry; exact PySem.EqNone.ne_bool_none (aN I q (by simp))
   | bl j=>cases ry; exact ne_bool (aN I q (congrArg not ql))
   | str j=>obtain ⟨t',rfl⟩:=ry; exact PySem.EqMixed.ne_bool_str (aN I q (by simp))
   | _=>exact absurd (show false=true from hs) Bool.false_ne_true
 | int i=>
   obtain ⟨t,rfl⟩:=rx
   cases y with
   | non=>cases ry; exact PySem.EqNone.ne_int_none (aN I q (by simp))
   | int j=>obtain ⟨t',rfl⟩:=ry; exact ne_int (aN I q (congrArg not oq))
   | str j=>obtain ⟨t',rfl⟩:=ry; exact PySem.EqMixed.ne_int_str (aN I q (by simp))
   | _=>exact absurd (show false=true from hs) Bool.false_ne_true
 | str i=>
   obtain ⟨t,rfl⟩:=rx
   cases y with
   | non=>cases ry; exact PySem.EqNone.ne_str_none (aN I q (by simp))
   | bl j=>cases ry; exact PySem.EqMixed.ne_str_bool (aN I q (by simp))
   | int j=>obtain ⟨t',rfl⟩:=ry; exact PySem.EqMixed.ne_str_int (aN I q (by simp))
   | str j=>obtain ⟨t',rfl⟩:=ry; exact ne_str (aN I q (congrArg not m6))
   | _=>exact absurd (show false=true from hs) Bool.false_ne_true
 | byt i=>
   obtain ⟨t,rfl⟩:=rx
   cases y with
   | byt j=>obtain ⟨t',rfl⟩:=ry; exact PySem.W.ne_bytes (aN I q (congrArg not n8))
   | _=>exact absurd (show false=true from hs) Bool.false_ne_true
 | _=>cases y <;> exact absurd (show false=true from hs) Bool.false_ne_true
theorem ya:OpR X (compareOp .Lt) (rI0 λi j=>.bl (decide (i < j))):=tj λ_ _ _ _ _ _ _ q=>lt_int q
theorem xv:OpR X (compareOp .LtE) (rI0 λi j=>.bl (decide (i<=j))):=tj λ_ _ _ _ _ _ _ q=>le_int q
theorem xT:OpR X (compareOp .Gt) (rI0 λi j=>.bl (decide (j < i))):=tj λ_ _ _ _ _ _ _ q=>gt_int q
theorem xJ:OpR X (compareOp .GtE) (rI0 λi j=>.bl (decide (j<=i))):=tj λ_ _ _ _ _ _ _ q=>ge_int q
theorem vO:OpR X (compareOp .Is) (λx y H Q=>y=.non/\Q (.bl (decide (x=.non))) H):=by
 intro pins s σ H x y v u Q I rx ry h
 obtain ⟨rfl,q⟩:=h
 cases ry
 refine is_none_gen (aN I q ?_)
 cases x <;> first
   | (cases rx; rfl)
   | (obtain ⟨t,rfl⟩:=rx; rfl)
theorem pN (b:Expr) {op:CmpOp} (h:op ≠ .In:=by decide) (h2:op ≠ .NotIn:=by decide):behindInMarks op b=false:=by
 have e1:(op == CmpOp.In)=false:=by cases op <;> first | rfl | exact absurd rfl h
 have e2:(op == CmpOp.NotIn)=false:=by cases op <;> first | rfl | exact absurd rfl h2
 cases b <;> simp [behindInMarks,e1,e2]
theorem sZ {op:CmpOp} {r:R2} (ho:OpR X (compareOp op) r) (ha:PE X a ta) (hb:PE X b tb) (hm:behindInMarks op b=false):PE X (.Compare a [op] [b] pos) (tOp r ta tb):=by
 intro pins s σ H Q I h
 exact wpAny_Compare1 (vU ha hb I h λv u s2 x y H2 I2 rx ry q=>ho pins s2 σ H2 x y v u Q I2 rx ry q) hm
noncomputable def uY (t:TE):TT:=λσ H Q=>t σ H λx H'=>∃ k,x=.bl k/\Q k H'
theorem sI {op:CmpOp} {r:R2} (ho:OpR X (compareOp op) r) (ha:PE X a ta) (hb:PE X b tb) (hm:behindInMarks op b=false):PT X (.Compare a [op] [b] pos) (uY (tOp r ta tb)):=by
 intro pins s σ H Q I h
 refine wpAny_isTrue_Compare1 (thn (ha pins s σ H _ I h) λv s1 ⟨x,H1,I1,r1,q1⟩=>thn (hb pins s1 σ H1 _ I1 q1) λu s2 ⟨y,H2,I2,r2,q2⟩=>
   thn (ho pins s2 σ H2 x y v u _ I2 r1 r2 q2) λc s3 ⟨z,H3,I3,r3,k,e,q3⟩=>?_) hm
 subst e
 cases r3
 exact wpAny_truthy_bool ⟨H3,I3,q3⟩
noncomputable def mw (r r':R2) (ta tb tc:TE):TE:=λσ H Q=>ta σ H λx H1=>tb σ H1 λy H2=>r x y H2 λz H3=>∃ k,z=.bl k /\
 (if k=true then tc σ H3 λw' H4=>r' y w' H4 Q else Q (.bl false) H3)
theorem qj {op op':CmpOp} {r r':R2} (ho:OpR X (compareOp op) r) (ho':OpR X (compareOp op') r') (ha:PE X a ta) (hb:PE X b tb) (hc:PE X c tc)
   (hm:lastMarks [op,op'] [b,c]=false:=by with_unfolding_all rfl):PE X (.Compare a [op,op'] [b,c] pos) (mw r r' ta tb tc):=by
 intro pins s σ H Q I h
 refine Compare_chain (thn (ha pins s σ H _ I h) λv s1 ⟨x,H1,I1,r1,q1⟩=>chain_link (thn (hb pins s1 σ H1 _ I1 q1) λu s2 ⟨y,H2,I2,r2,q2⟩=>
   thn (ho pins s2 σ H2 x y v u _ I2 r1 r2 q2) λd s3 ⟨z,H3,I3,r3,k,e,q3⟩=>?_)) hm
 subst e
 cases r3
 refine wpAny_truthy_bool ?_
 cases k with
 | false=>exact ite_ff ⟨.bl false,H3,I3,rfl,q3⟩
 | true=>exact ite_tt (chain_last (thn (hc pins s3 σ H3 _ I3 q3) λw' s4 ⟨z',H4,I4,r4,q4⟩=>ho' pins s4 σ H4 y z' u w' Q I4 r2 r4 q4))
theorem pS {op op':CmpOp} {r r':R2} (ho:OpR X (compareOp op) r) (ho':OpR X (compareOp op') r') (ha:PE X a ta) (hb:PE X b tb) (hc:PE X c tc)
   (hm:lastMarks [op,op'] [b,c]=false:=by with_unfolding_all rfl):PT X (.Compare a [op,op'] [b,c] pos) (uY (mw r r' ta tb tc)):=by
 intro pins s σ H Q I h
 refine isTrue_chain (thn (ha pins s σ H _ I h) λv s1 ⟨x,H1,I1,r1,q1⟩=>test_link (thn (hb pins s1 σ H1 _ I1 q1) λu s2 ⟨y,H2,I2,r2,q2⟩=>
   thn (ho pins s2 σ H2 x y v u _ I2 r1 r2 q2) λd s3 ⟨z,H3,I3,r3,k,e,q3⟩=>?_)) hm
 subst e
 cases r3
 refine wpAny_truthy_bool ?_
 cases k with
 | false=>
   obtain ⟨k',e',q'⟩:=q3
   cases e'
   exact ite_ff ⟨H3,I3,q'⟩
 | true=>
   refine ite_tt (test_last (thn (hc pins s3 σ H3 _ I3 q3) λw' s4 ⟨z',H4,I4,r4,q4⟩=>thn (ho' pins s4 σ H4 y z' u w' _ I4 r2 r4 q4) λd' s5 ⟨z2,H5,I5,r5,k2,e2,q5⟩=>?_))
   subst e2
   cases r5
   exact wpAny_truthy_bool ⟨H5,I5,q5⟩
theorem j6:(sizeLine:Nat) < 2 ^ 63:=by rw [sizeLine_eq]; decide
theorem vals1 {x:V} {us:List Value} (r:Vals [x] us):∃ u,us=[u]/\RelV x u:=by
 cases r with
 | cons r1 r2=>cases r2; exact ⟨_,rfl,r1⟩
theorem vals2 {x y:V} {us:List Value} (r:Vals [x,y] us):∃ u w',us=[u,w']/\RelV x u/\RelV y w':=by
 cases r with
 | cons r1 r2=>
   cases r2 with
   | cons r3 r4=>cases r4; exact ⟨_,_,rfl,r1,r3⟩
theorem q9:dg X (.builtin "abs") (λxs H Q=>∃ i,xs=[.int i]/\Q (.int (if i < 0 then -i else i)) H):=by
 intro pins s σ H xs us Q I r h
 obtain ⟨i,rfl,q⟩:=h
 obtain ⟨u,rfl,t,rfl⟩:=vals1 r
 exact call_abs_int λu tk=>⟨.int (if i < 0 then -i else i),H,I.tok _,⟨_,rfl⟩,q⟩
theorem px (hc:X.calm=true):dg X (.builtin "max") (λxs H Q=>∃ i j,xs=[.int i,.int j]/\Q (.int (if j > i then j else i)) H):=by
 intro pins s σ H xs us Q I r h
 obtain ⟨i,j,rfl,q⟩:=h
 obtain ⟨u,w',rfl,⟨t,rfl⟩,⟨t',rfl⟩⟩:=vals2 r
 refine max_two_ints (I.ok.hd hc) λh' tk k=>⟨_,H,I.kept k,?_,q⟩
 by_cases hj:j > i
 · rw [if_pos hj,if_pos hj]; exact ⟨_,rfl⟩
 · rw [if_neg hj,if_neg hj]; exact ⟨_,rfl⟩
theorem oZ (hc:X.calm=true):dg X (.builtin "min") (λxs H Q=>∃ i j,xs=[.int i,.int j]/\Q (.int (if j < i then j else i)) H):=by
 intro pins s σ H xs us Q I r h
 obtain ⟨i,j,rfl,q⟩:=h
 obtain ⟨u,w',rfl,⟨t,rfl⟩,⟨t',rfl⟩⟩:=vals2 r
 refine min_two_ints (I.ok.hd hc) λh' tk k=>⟨_,H,I.kept k,?_,q⟩
 by_cases hj:j < i
 · rw [if_pos hj,if_pos hj]; exact ⟨_,rfl⟩
 · rw [if_neg hj,if_neg hj]; exact ⟨_,rfl⟩
end
section
variable {prog:Program} {w:World} {A:Around} {E:Value->Shared->Prop} {s:Shared} {K:PySem.W.Frag} {x dx C f:Addr} {mA:Str->Option Value} {name:Str} {v:Value}
end
theorem kA.some_of {v:V} {o:Option Value} (r:kA (some v) o):∃ u,o=some u/\RelV v u:=by
 cases o with
 | none=>exact (show False from r).elim
 | some u=>exact ⟨u,rfl,r⟩
section
variable {P:Program} {w:World} {H H':Hp} {h h':Heap} {a C dx:Addr} {fs fs':List (Str × V)}
end
section
variable {X:Cx} {pins:List (Addr × Obj)} {σ:St} {H:Hp} {s:Shared} {a C dx:Addr} {fs:List (Str × V)} {f:Str} {v:V} {A:Around} {E:Value->Shared->Prop}
end
section
variable {X:Cx} {o e value:Expr} {f:Str} {pos pos' tpos:Pos} {ta tv:TE}
end
section
variable {X:Cx} {pins:List (Addr × Obj)} {σ:St} {H:Hp} {s:Shared} {A:Around} {E:Value->Shared->Prop} {Q:Value->Shared->Prop} {c:Value} {b:Bool}
end
structure dM (k:Nat) (A:Around):Prop where
 hd:A.handled=none
 dp:A.depth + 3 * k + 5 < recursionLimit
 un:A.units + 16 * k + 200 < cLine
theorem dM.mono {j k:Nat} {A:Around} (r:dM k A) (h:j<=k):dM j A:=⟨r.hd,by have:=r.dp; omega,by have:=r.un; omega⟩
theorem dM.deeper {k:Nat} {A:Around} (r:dM (k + 1) A) (env:Env):dM k (A.deeper env):=
 ⟨r.hd,by have:=r.dp; show A.depth + 1 + 3 * k + 5 < _; omega,by have:=r.un; show A.units + 3 + 16 * k + 200 < _; omega⟩
theorem dM.depth {k:Nat} {A:Around} (r:dM k A):A.depth < recursionLimit:=by have:=r.dp; omega
theorem dM.units {k:Nat} {A:Around} (r:dM k A):A.units + 64 < cLine:=by have:=r.un; omega
noncomputable def yo:TA:=λ_ H Q=>Q [] H
noncomputable def xE (ta:TE) (tr:TA):TA:=λσ H Q=>ta σ H λx H1=>tr σ H1 λxs H2=>Q (x :: xs) H2
section
variable {X:Cx} {e:Expr} {es:List Expr} {te:TE} {t:TA} {pos:Pos}
theorem fZ:PA X [] yo:=λ_ _ _ _ H Q I h=>Calls.spliced_nil ⟨[],H,I,.nil,h⟩
theorem cR (ha:PE X e te) (hr:PA X es t) (hs:starEach (e :: es) X.env=(false,eval e X.env) :: starEach es X.env:=by rfl):PA X (e :: es) (xE te t):=by
 intro pos pins s σ H Q I h
 rw [hs]
 show wpAny _ _ (spliced ((false,eval e X.env) :: backTo pos (starEach es X.env))) _ _ s
 refine Calls.spliced_cons (thn (ha pins s σ H _ I h) λu s1 ⟨x,H1,I1,r1,q1⟩=>?_)
 exact thn (hr pos pins s1 σ H1 _ I1 q1) λus s2 ⟨xs,H2,I2,r2,q2⟩=>⟨x :: xs,H2,I2,.cons r1 r2,q2⟩
noncomputable def yS (t:TA):TE:=λσ H Q=>t σ H λxs H1=>xs.length<=sizeLine/\∀ p,H1 p=none->Q (.ref p) (upd H1 p (.tup xs))
noncomputable def yI (t:TA):TE:=λσ H Q=>t σ H λxs H1=>xs.length<=sizeLine/\∀ p,H1 p=none->Q (.ref p) (upd H1 p (.lst xs))
theorem wL {x1} (h:PA X es t):PE X (.Tuple es x1 pos) (yS t):=by
 intro pins s σ H Q I hq
 refine wpAny_Tuple_spliced (thn (h pos pins s σ H _ I hq) λus s1 ⟨xs,H1,I1,r,z,q⟩=>⟨by rw [<- r.length]; exact z,?_⟩)
 have hf:H1 s1.heap.objs.size=none:=I1.hok.fresh (Nat.le_refl _)
 refine ⟨.ref s1.heap.objs.size,upd H1 s1.heap.objs.size (.tup xs),I1.laid (t':=s1.toks) (λb u e=>Heap.get?_push_of_some _ e) (Nat.le_refl _) ?_,rfl,q _ hf⟩
 exact ⟨z,us,r,⟨_,Heap.get?_push_size _ rfl,rfl,_,rfl⟩⟩
theorem wx (h:PA X es t):PE X (.List es pos) (yI t):=by
 intro pins s σ H Q I hq
 refine wpAny_List_spliced (thn (h pos pins s σ H _ I hq) λus s1 ⟨xs,H1,I1,r,z,q⟩=>⟨by rw [<- r.length]; exact z,?_⟩)
 have hf:H1 s1.heap.objs.size=none:=I1.hok.fresh (Nat.le_refl _)
 refine ⟨.ref s1.heap.objs.size,upd H1 s1.heap.objs.size (.lst xs),I1.laid (t':=s1.toks) (λb u e=>Heap.get?_push_of_some _ e) (Nat.le_refl _) ?_,rfl,q _ hf⟩
 exact ⟨z,us,0,r,Heap.get?_push_size _ rfl⟩
end
noncomputable abbrev Sp:=List V->Hp->VK->XK->Prop
noncomputable abbrev CXT:=List Env->Hp->Shared->XK->Value->Shared->Prop
structure sJ (P:Program) (w:World) (K:PySem.W.Frag) (mg:Str->Option Value) (base:Heap) (A:Around) (outer:List Env) (s:Shared) (H:Hp):Prop where
 frames:A.frames=some outer
 mod:Mod K mg base
 bs:∀ b o,base.get? b=some o->s.heap.get? b=some o/\H b=none
 bsz:base.objs.size<=s.heap.objs.size
 gU:s.heap.FunFrames base outer
 frf:∀ b ∈ frs outer,H b=none
 hok:HOk P w H s.heap
 bare:AllBare s.gens
noncomputable def CE (outer:List Env) (P:Program) (w:World) (H:Hp) (s:Shared) (Q:VK) (u:Value) (s':Shared):Prop:=
 ∃ v H',s'.os=s.os/\AllBare s'.gens/\Un (frs outer) [] H H' s.heap s'.heap/\HOk P w H' s'.heap/\RelV v u/\Q v H'
noncomputable def CR (CX:CXT) (outer:List Env) (P:Program) (w:World) (H:Hp) (s:Shared) (Q:VK) (E:XK) (r:Result) (s':Shared):Prop:=
 match r with
 | .ok (.ret u)=>CE outer P w H s Q u s'
 | .ok _=>False
 | .error e=>CX outer H s E e s'
structure aR (P:Program) (w:World) (K:PySem.W.Frag) (mg:Str->Option Value) (base:Heap) (CX:CXT) (k:Nat) (f:Addr) (fd:FuncData) (ps:List Str) (sp:Sp):Prop where
 len:∀ vs H Q E,sp vs H Q E->vs.length=ps.length
 run:∀ (A:Around) (outer:List Env) (s:Shared) (H:Hp) (args:Args) (us:List Value) (vs:List V) (Q:VK) (E:XK),dM k A->sJ P w K mg base A outer s H->BindsTo s fd args (ps.zip us)->Vals vs us->sp vs H Q E ->
   codeAny (model P w) A (.call (.ref f) args) (CR CX outer P w H s Q E) s
theorem aR.mono {P:Program} {w:World} {K:PySem.W.Frag} {mg:Str->Option Value} {base:Heap} {CX:CXT} {j k:Nat} {f:Addr} {fd:FuncData} {ps:List Str} {sp:Sp} (F:aR P w K mg base CX j f fd ps sp) (h:j<=k) :
   aR P w K mg base CX k f fd ps sp:=⟨F.len,λA outer s H args us vs Q E hr=>F.run A outer s H args us vs Q E (hr.mono h)⟩
section
variable {X:Cx} {pins:List (Addr × Obj)} {σ:St} {H:Hp} {s s':Shared}
theorem Inv.yx (I:Inv X pins σ H s):sJ X.prog X.w X.K X.mg X.base X.A X.stack s H:=
 ⟨I.ok.frames,I.ok.mod,I.bs,Nat.le_trans I.ok.bsz I.sz,I.stack,I.nj,I.hok,I.bare⟩
theorem Inv.after {Q:VK} {u:Value} (I:Inv X pins σ H s) (h:CE X.stack X.prog X.w H s Q u s'):EP X pins σ Q u s':=by
 obtain ⟨v,H',os,bare,un,hok,r,q⟩:=h
 obtain ⟨hh,g,d,t,os'⟩:=s'
 obtain rfl:os'=s.os:=os
 exact ⟨v,H',I.call (h':=hh) (g':=g) (d':=d) (t':=t) (ch:=[]) un hok bare (λb z=>absurd z (by simp)),r,q⟩
end
noncomputable def xR (sp:Sp) (dvs:List V) (E:XK) (t:TA):TE:=λσ H Q=>t σ H λvs H1=>sp (vs++dvs) H1 Q E
noncomputable def Binds (K:PySem.W.Frag) (fd:FuncData) (ps:List Str) (ds:List Value):Prop:=
 ∀ (s:Shared) (us:List Value),K.In s.heap->(us++ds).length=ps.length->BindsTo s fd ⟨us,[]⟩ (ps.zip (us++ds))
theorem Binds.all {K:PySem.W.Frag} {fd:FuncData} {ps:List Str} (h:∀ us:List Value,us.length=ps.length->bindArgs fd ⟨us,[]⟩=pure (ps.zip us)):Binds K fd ps []:=λs us _ hl=>by
 rw [List.append_nil] at hl ⊢
 exact .of_eq (h us hl)
noncomputable def Passes (CX:CXT) (X:Cx) (E:XK):Prop:=∀ (pins:List (Addr × Obj)) (σ:St) (H:Hp) (s:Shared) (e:Value) (s':Shared),Inv X pins σ H s->CX X.stack H s E e s'->X.xe e s'
section
variable {X:Cx} {CX:CXT} {k:Nat} {f C:Addr} {fd:FuncData} {ps:List Str} {sp:Sp} {dvs:List V} {ds:List Value} {E:XK} {x m:Str} {p pos apos:Pos} {e o:Expr} {es:List Expr} {ta:TE} {t:TA}
theorem vT {pins:List (Addr × Obj)} {σ:St} {H:Hp} {s:Shared} {Q:VK} {us:List Value} {vs:List V} (F:aR X.prog X.w X.K X.mg X.base CX k f fd ps sp) (hr:dM k X.A) (hb:Binds X.K fd ps ds) (hd:Vals dvs ds) (hx:Passes CX X E)
   (I:Inv X pins σ H s) (r:Vals vs us) (h:sp (vs++dvs) H Q E):wpAny (model X.prog X.w) X.A (call (.ref f) us) (EP X pins σ Q) X.xe s:=by
 have r2:Vals (vs++dvs) (us++ds):=r.append hd
 have hl:(us++ds).length=ps.length:=by rw [<- r2.length]; exact F.len _ _ _ _ h
 refine wpAny_call (codeAny_mono (F.run X.A X.stack s H ⟨us,[]⟩ (us++ds) (vs++dvs) Q E hr I.yx (hb s us I.kIn hl) r2 h) λr s' hq=>?_)
 cases r with
 | error e=>exact hx pins σ H s e s' I hq
 | ok fl=>
   cases fl with
   | ret u=>exact I.after hq
   | next=>exact False.elim hq
   | brk=>exact False.elim hq
   | cont=>exact False.elim hq
theorem tE (F:aR X.prog X.w X.K X.mg X.base CX k f fd ps sp) (hr:dM k X.A) (hg:Gl X x) (hm:X.mg x=some (.ref f)) (hk:PySem.W.keepIn X.K (.ref f)=true) (hb:Binds X.K fd ps ds) (hd:Vals dvs ds) (hx:Passes CX X E)
   (ha:PA X (e :: es) t) (hdb:(x == ("__debug__" : Str))=false:=by decide) (he:starEach (e :: es) X.env=(false,eval e X.env) :: starEach es X.env:=by rfl) (hpl:(backTo pos (starEach es X.env)).any (·.1)=false:=by rfl) :
   PE X (.Call (.Name x p) (e :: es) [] pos) (xR sp dvs E t):=by
 intro pins s σ H Q I h
 refine wpAny_Call_Name_kw (nH I hg hm ?_ hdb)
 refine PySem.W.callWith_K (h₀:=X.base) I.ok.mod.kin hk (thn (ha pos pins s σ H _ I h) λus s1 ⟨vs,H1,I1,r,q⟩=>⟨I1.kIn,?_⟩) he hpl
 exact vT F hr hb hd hx I1 r q
end
section
variable {X:Cx} {CX:CXT} {k:Nat} {f C:Addr} {fd:FuncData} {ps ks:List Str} {sp:Sp} {E:XK} {x m:Str} {p pos apos kpos:Pos} {e o:Expr} {es:List Expr} {kws:List Keyword} {te ta:TE} {t tk:TA} {nm:Option Str}
variable {g:List Value->List Value->List Value} {gV:List V->List V->List V}
end
structure au (N P:List Str) (sc:Scope):Prop where
 kind:sc.kind=.function
 co:sc.isCoroutine=false
 gen:sc.isGenerator=false
 nd:N.Nodup
 pre:N.take P.length=P
 par:∀ x ∈ P,sc.names.lookup x=some .local\/sc.names.lookup x=some .cell
 nofree:∀ y ∈ sc.names,y.2 ≠ .free
theorem jv {kindOf:Str->Option NameKind} {x:Str}:∀ {binds:List (Str × Value)} {m:Str->Option Value},(∀ v,(x,v) ∉ binds)->bindL kindOf binds m x=m x
 | [],_,_=>rfl
 | (n,v) :: r,m,h=>by
   unfold bindL
   rw [jv λw hw=>h w (List.mem_cons_of_mem _ hw)]
   split
   · have:x ≠ n:=by rintro rfl; exact h v List.mem_cons_self
     simp [this]
   · rfl
theorem jl {kindOf:Str->Option NameKind} {x:Str}:∀ {binds:List (Str × Value)} {m:Str->Option Value},(∀ v,(x,v) ∉ binds)->bindC kindOf binds m x=m x
 | [],_,_=>rfl
 | (n,v) :: r,m,h=>by
   unfold bindC
   rw [jl λw hw=>h w (List.mem_cons_of_mem _ hw)]
   split
   · rfl
   · have:x ≠ n:=by rintro rfl; exact h v List.mem_cons_self
     simp [this]
theorem jr {kindOf:Str->Option NameKind} {x:Str} {v:Value}:∀ {P:List Str} {vs:List Value} {i:Nat} {m:Str->Option Value},P.Nodup->P[i]?=some x->vs[i]?=some v->kindOf x=some .local ->
   bindL kindOf (P.zip vs) m x=some v
 | [],_,_,_,_,h,_,_=>by simp at h
 | _ :: _,[],_,_,_,_,h,_=>by simp at h
 | p :: P,w :: vs,0,m,nd,h1,h2,hk=>by
   simp at h1 h2; subst h1; subst h2
   show bindL kindOf ((p,w) :: P.zip vs) m p=_
   unfold bindL
   rw [jv λv hv=>(List.nodup_cons.mp nd).1 (List.of_mem_zip hv).1,if_pos hk]
   simp
 | p :: P,w :: vs,i + 1,m,nd,h1,h2,hk=>by
   show bindL kindOf ((p,w) :: P.zip vs) m x=_
   unfold bindL
   exact jr (i:=i) (List.nodup_cons.mp nd).2 (by simpa using h1) (by simpa using h2) hk
theorem jo {kindOf:Str->Option NameKind} {x:Str} {v:Value}:∀ {P:List Str} {vs:List Value} {i:Nat} {m:Str->Option Value},P.Nodup->P[i]?=some x->vs[i]?=some v->kindOf x ≠ some .local ->
   bindC kindOf (P.zip vs) m x=some v
 | [],_,_,_,_,h,_,_=>by simp at h
 | _ :: _,[],_,_,_,_,h,_=>by simp at h
 | p :: P,w :: vs,0,m,nd,h1,h2,hk=>by
   simp at h1 h2; subst h1; subst h2
   show bindC kindOf ((p,w) :: P.zip vs) m p=_
   unfold bindC
   rw [jl λv hv=>(List.nodup_cons.mp nd).1 (List.of_mem_zip hv).1,if_neg hk]
   simp
 | p :: P,w :: vs,i + 1,m,nd,h1,h2,hk=>by
   show bindC kindOf ((p,w) :: P.zip vs) m x=_
   unfold bindC
   exact jo (i:=i) (List.nodup_cons.mp nd).2 (by simpa using h1) (by simpa using h2) hk
noncomputable def start (N:List Str) (vs:List V):St:=vs.map some++List.replicate (N.length - vs.length) none
noncomputable def mF (CX:CXT) (P:Program) (w:World) (K:PySem.W.Frag) (mg:Str->Option Value) (base:Heap) (N:List Str) (qual:Str) (scope:Scope) (f:Addr) (cd:Value) (A:Around) (outer:List Env) (s:Shared) (H:Hp) (E:XK):Cx where
 prog:=P
 w:=w
 K:=K
 mg:=mg
 base:=base
 A:=A.deeper (envOfC qual scope s.heap.objs.size f cd)
 N:=N
 s₀:=s
 H₀:=H
 env:=envOfC qual scope s.heap.objs.size f cd
 outer:=outer
 stack:=envOfC qual scope s.heap.objs.size f cd :: outer
 ex:=[]
 calm:=true
 fn:=λ_=>true
 pn:=[]
 xe:=λe s'=>wpAny (model P w) (A.deeper (envOfC qual scope s.heap.objs.size f cd)) (leaving (envOfC qual scope s.heap.objs.size f cd) e) (λ_ s''=>CX outer H s E e s'') (λe' s''=>CX outer H s E e' s'') s'
theorem k6 {sc:Scope} {n:Nat} {x:Str} (h:sc.names.lookup x=some .cell):∃ c,(cellsFrom n sc.names []).lookup x=some c:=by
 have q:=PySem.W.cellsFrom_some sc.names n [] (.inl h)
 exact Option.isSome_iff_exists.mp q
theorem pH {CX:CXT} {P:Program} {w:World} {K:PySem.W.Frag} {mg:Str->Option Value} {base:Heap} {N ps:List Str} {qual:Str} {scope:Scope} {f:Addr} {cd:Value} {A:Around} {outer:List Env} {s s1:Shared} {H:Hp} {E:XK} {us:List Value} {vs:List V}
   (S:au N ps scope) {cm:Bool} (hd:cm=true->A.handled=none) (e0:sJ P w K mg base A outer s H) (hl:vs.length=ps.length) (r:Vals vs us)
   (x:InCallC s s.heap.objs.size (bindL (envOfC qual scope s.heap.objs.size f cd).kindOf (ps.zip us) λ_=>none) (cellsFrom (s.heap.objs.size + 1) scope.names []) (bindC (envOfC qual scope s.heap.objs.size f cd).kindOf (ps.zip us) λ_=>none) s1) :
   Inv { mF CX P w K mg base N qual scope f cd A outer s H E with calm:=cm } [] (start N vs) H s1:=by
 have hpl:ps.length<=N.length:=by have:=congrArg List.length S.pre; rw [List.length_take] at this; omega
 obtain ⟨h1,tk,rfl,hk⟩:=x.done
 have noA:∀ b:Addr,b ∉ (mF CX P w K mg base N qual scope f cd A outer s H E).ex:=λb z=>absurd (show b ∈ ([]:List Addr) from z) (by simp)
 refine ⟨⟨e0.mod,S.kind,rfl,rfl,Nat.le_refl _,λy z c h1 h2=>?_,λy hy=>?_,λy c _ h=>?_,hd,Around.frames_deeper e0.frames,.inr ⟨rfl,rfl⟩,λb z=>absurd z (noA b),e0.bs,e0.bsz,λb _ _=>noA b,λb z=>absurd z (noA b),e0.gU,e0.frf⟩,
   rfl,e0.bare,Un.kept hk,⟨_,x.toInCall.ns,λi y v h1 h2 h3=>?_⟩,λy c h=>⟨_,x.cell y c h⟩,e0.hok.fresh (Nat.le_refl _),λy c h=>?_,λp hp=>absurd (show p ∈ ([]:List (Addr × Obj)) from hp) (by simp),e0.hok.kept hk,?_⟩
 · exact name_of_addr x.apart (PySem.mem_of_lookup h1) (PySem.mem_of_lookup h2)
 · have hy:scope.names.lookup y=some .cell\/scope.names.lookup y=some .free:=hy
   rcases hy with hy | hy
   · exact k6 hy
   · exact absurd rfl (S.nofree _ (PySem.mem_of_lookup hy))
 · exact Nat.le_of_lt (x.above y c (PySem.mem_of_lookup h))
 · have hi:i < vs.length:=by
     unfold start at h2
     by_cases hi:i < vs.length
     · exact hi
     · rw [List.getElem?_append_right (by simpa using hi)] at h2
       rw [List.getElem?_replicate] at h2
       split at h2 <;> cases h2
   have ha:vs[i]?=some v:=by
     unfold start at h2
     rw [List.getElem?_append_left (by simpa using hi),List.getElem?_map] at h2
     cases e:vs[i]? with
     | none=>rw [e] at h2; cases h2
     | some a=>rw [e] at h2; cases h2; rfl
   obtain ⟨u,hu,rv⟩:=r.get ha
   have hp:ps[i]?=some y:=by
     rw [<- S.pre,List.getElem?_take_of_lt (by omega)]; exact h1
   have ndP:ps.Nodup:=by rw [<- S.pre]; exact S.nd.sublist (List.take_sublist _ _)
   refine ⟨u,rv,?_⟩
   rcases S.par y (List.mem_of_getElem? hp) with k | k
   · exact .inl ⟨k,jr ndP hp hu k⟩
   · obtain ⟨c,e⟩:=k6 (n:=s.heap.objs.size + 1) k
     refine .inr ⟨.inl k,c,e,?_⟩
     have q:=x.cell y c e
     rw [jo ndP hp hu (by show scope.names.lookup y ≠ _; rw [k]; decide)] at q
     exact q
 · exact e0.hok.fresh (Nat.le_of_lt (x.above y c (PySem.mem_of_lookup h)))
 · unfold start
   show _=N.length
   rw [List.length_append,List.length_map,List.length_replicate]
   omega
theorem xD {CX:CXT} {P:Program} {w:World} {K:PySem.W.Frag} {mg:Str->Option Value} {base:Heap} {k:Nat} {f:Addr} {name qual:Str} {params:Arguments} {body:List Stmt} {scope:Scope} {dV kV doc pm cdv ct oc:Value} {an od:Option Addr}
   {osl:Array (Option Value)} {N ps:List Str} {sp:Sp} (lk:K.lookup f=some ⟨oc,od,.func (PySem.W.fnOf name qual params body scope dV kV doc pm an cdv ct),osl⟩) (hcd:PySem.W.codeIn K cdv qual=true) (S:au N ps scope)
   (len:∀ vs H Q E,sp vs H Q E->vs.length=ps.length)
   (hbody:∀ (A:Around) (outer:List Env) (s:Shared) (H:Hp) (vs:List V) (Q:VK) (E:XK),dM k (A.deeper (envOfC qual scope s.heap.objs.size f cdv))->sp vs H Q E ->
     ∃ t,PSs (mF CX P w K mg base N qual scope f cdv A outer s H E) body t/\t { nx:=λ_ H'=>Q .non H',rt:=Q } (start N vs) H) :
   aR P w K mg base CX (k + 1) f (PySem.W.fnOf name qual params body scope dV kV doc pm an cdv ct) ps sp:=by
 refine ⟨len,λA outer s H args us vs Q E hr e0 hb r hsp=>?_⟩
 have hl:=len _ _ _ _ hsp
 have KX:K.In s.heap:=e0.mod.kin.keeps λb o e=>(e0.bs b o e).1
 have lim:s.heap.NoLimit:=e0.mod.nolimit.keeps λb o e=>(e0.bs b o e).1
 have hkind:∀ y ∈ ps.zip us,scope.names.lookup y.1=some .local\/(scope.names.lookup y.1=some .cell/\((cellsFrom (s.heap.objs.size + 1) scope.names []).lookup y.1).isSome=true):=λ⟨n,v⟩ hy=>by
   rcases S.par n (List.of_mem_zip hy).1 with q | q
   · exact .inl q
   · exact .inr ⟨q,PySem.W.cellsFrom_some _ _ _ (.inl q)⟩
 refine codeAny_call_function hr.depth (KX _ _ lk) rfl S.co S.gen rfl (PySem.W.codeRec_of KX hcd) (hb _ _ _ _ ?_)
 refine wpAny_newFunctionEnv_cells S.kind hkind λenv he s1 x=>?_
 subst he
 refine ⟨lim.keeps x.toInCall.keep,codeAny_func ?_⟩
 obtain ⟨t,ht,hq⟩:=hbody A outer s H vs Q E (hr.deeper _) hsp
 have I:Inv (mF CX P w K mg base N qual scope f cdv A outer s H E) [] (start N vs) H s1:=pH (cm:=true) S (λ_=>hr.hd) e0 hl r x
 refine wpAny_mono (ht [] s1 (start N vs) H _ I hq) (λfl s' hs=>?_) λe s' hs=>hs
 have fin:∀ {σ':St} {H':Hp} {v:V} {u:Value},Inv (mF CX P w K mg base N qual scope f cdv A outer s H E) [] σ' H' s'->RelV v u->Q v H'->CE outer P w H s Q u s':=
   λ{σ' H' v u} J rv q=>⟨v,H',J.os,J.bare,J.base,J.hok,rv,q⟩
 cases fl with
 | ret u=>
   obtain ⟨v,σ',H',J,rv,q⟩:=hs
   exact fin J rv q
 | next=>
   obtain ⟨σ',H',J,q⟩:=hs
   exact fin (v:=V.non) (u:=Value.none) J rfl q
 | brk=>
   obtain ⟨_,_,_,q⟩:=hs
   exact False.elim q
 | cont=>
   obtain ⟨_,_,_,q⟩:=hs
   exact False.elim q
section
variable {X:Cx} {x:Str} {p pos:Pos} {e:Expr} {es:List Expr} {t:TA} {id T:String} {r:List V->Hp->VK->Prop}
noncomputable def tCB (r:List V->Hp->VK->Prop) (t:TA):TE:=λσ H Q=>t σ H λvs H1=>r vs H1 Q
theorem lO (hc:dg X (.builtin id) r) (hg:Gl X x) (hm:X.mg x=none) (hv:bootBuiltins x=some (.builtin id)) (ha:PA X (e :: es) t) (hn:x ≠ "__name__":=by decide) (hdb:(x == ("__debug__" : Str))=false:=by decide)
   (he:starEach (e :: es) X.env=(false,eval e X.env) :: starEach es X.env:=by rfl) (hpl:(backTo pos (starEach es X.env)).any (·.1)=false:=by rfl):PE X (.Call (.Name x p) (e :: es) [] pos) (tCB r t):=by
 intro pins s σ H Q I h
 refine wpAny_Call_Name_kw (cZ I hg hm hv ?_ hn hdb)
 exact PyProof.Rows.callWith_builtin1 (thn (ha pos pins s σ H _ I h) λus s1 ⟨vs,H1,I1,r1,q1⟩=>hc pins s1 σ H1 vs us Q I1 r1 q1) he hpl
theorem oG (hc:dg X (.type T) r) (hg:Gl X x) (hm:X.mg x=none) (hv:bootBuiltins x=some (.type T)) (ha:PA X (e :: es) t) (hn:x ≠ "__name__":=by decide) (hdb:(x == ("__debug__" : Str))=false:=by decide)
   (he:starEach (e :: es) X.env=(false,eval e X.env) :: starEach es X.env:=by rfl) (hpl:(backTo pos (starEach es X.env)).any (·.1)=false:=by rfl):PE X (.Call (.Name x p) (e :: es) [] pos) (tCB r t):=by
 intro pins s σ H Q I h
 refine wpAny_Call_Name_kw (cZ I hg hm hv ?_ hn hdb)
 exact PyProof.Rows.callWith_type1 (thn (ha pos pins s σ H _ I h) λus s1 ⟨vs,H1,I1,r1,q1⟩=>hc pins s1 σ H1 vs us Q I1 r1 q1) he hpl
end
end L2
namespace HT
open PySem PyProof.Rows
noncomputable def lexLt:List Int->List Int->Bool
 | [],[]=>false
 | [],_ :: _=>true
 | _ :: _,[]=>false
 | x :: xs,y :: ys=>if x=y then lexLt xs ys else decide (x < y)
theorem me (x y:Int) (xs ys:List Int):lexLt (x :: xs) (y :: ys)=if x=y then lexLt xs ys else decide (x < y):=rfl
theorem i3:lexLt [] []=false:=rfl
theorem iA (y:Int) (ys:List Int):lexLt [] (y :: ys)=true:=rfl
theorem gL (x:Int) (xs:List Int):lexLt (x :: xs) []=false:=rfl
theorem rZ (A:Around) (s:Shared) (a:Int) (t:Tok) (c:Int) (u:Tok):∃ e,SeqAt.EqAt A s (.int a t) (.int c u) e/\(e=true ↔ a=c):=
 ⟨(a == c),SeqAt.EqAt.int_int a t c u,by simp⟩
theorem r9 (A:Around) (s:Shared) (a:Int) (t:Tok) (c:Int) (u:Tok) (prog:Program) (w:World) (E:Value->Shared->Prop) (Q:Value->Shared->Prop) (h:Q (.bool (decide (a < c))) s) :
   wpAny (model prog w) A (richCompare .Lt (.int a t) (.int c u)) Q E s:=
 (PyProof.Rows.lt_int h:wpAny (model prog w) A (compareOp .Lt (.int a t) (.int c u)) Q E s)
section
open PySem.SeqAt
open PySem.AutoSeq1 (wpAny_loadPart')
open PySem.MeetsSeq PySem.MeetsSeq2 PySem.MeetsSeq3
end
section
variable {prog:Program} {w:World} {A:Around} {E:Value->Shared->Prop} {s:Shared}
noncomputable def sIx (n d:Nat):Option Int->Nat
 | none=>d
 | some v=>if v < 0 then (v + (n:Int)).toNat else min v.toNat n
theorem pV (n d:Nat):sIx n d none=d:=rfl
theorem ua (n d k:Nat):sIx n d (some (k:Int))=min k n:=by
 show (if (k:Int) < 0 then ((k:Int) + (n:Int)).toNat else min (k:Int).toNat n)=min k n
 rw [if_neg (by omega),Int.toNat_natCast]
end
end HT
namespace L2
open PySem PySem.Spec PyProof.Rows
noncomputable abbrev TO:=St->Hp->(Option Int->Hp->Prop)->Prop
noncomputable def PO (X:Cx) (e:Option Expr) (t:TO):Prop:=
 ∀ (pins:List (Addr × Obj)) (s:Shared) (σ:St) (H:Hp) (Q:Option Int->Hp->Prop),Inv X pins σ H s->t σ H Q ->
   wpAny (model X.prog X.w) X.A (evalPart e X.env) (λu s'=>∃ o H',Inv X pins σ H' s'/\IsPart u o/\Q o H') X.xe s
noncomputable def tH:TO:=λ_ H Q=>Q none H
noncomputable def xH (t:TE):TO:=λσ H Q=>t σ H λx H1=>∃ i,x=.int i/\Q (some i) H1
section
variable {X:Cx} {e:Expr} {te:TE} {lo hi:Option Expr} {tl th:TO} {pos p2:Pos}
theorem tI:PO X none tH:=by
 intro pins s σ H Q I h
 rw [evalPart_none]
 exact wpAny_pure ⟨none,H,I,.none,h⟩
theorem ub (h:PE X e te):PO X (some e) (xH te):=by
 intro pins s σ H Q I hw
 rw [evalPart_some]
 refine thn (h pins s σ H _ I hw) λu s1 ⟨x,H1,I1,r1,q1⟩=>?_
 obtain ⟨i,rfl,q⟩:=q1
 obtain ⟨t,rfl⟩:=r1
 exact ⟨some i,H1,I1,.int i t,q⟩
noncomputable def SlR (X:Cx) (r:V->Option Int->Option Int->Hp->VK->Prop):Prop:=
 ∀ (pins:List (Addr × Obj)) (s:Shared) (σ:St) (H:Hp) (x:V) (v vl vu:Value) (lo hi:Option Int) (sl:Addr) (Q:VK),Inv X pins σ H s->RelV x v->s.heap.IsSliceOf sl vl vu .none->IsPart vl lo->IsPart vu hi->r x lo hi H Q ->
   ∃ T id,typeLookup (.type T) "__getitem__" = pure (some (.builtin id))/\s.TypeIs v T/\wpAny (model X.prog X.w) X.A (getItem v (.ref sl)) (EP X pins σ Q) X.xe s
noncomputable def tSl (r:V->Option Int->Option Int->Hp->VK->Prop) (te:TE) (tl th:TO):TE:=λσ H Q=>te σ H λx H1=>tl σ H1 λl H2=>th σ H2 λu H3=>r x l u H3 Q
theorem pX {r:V->Option Int->Option Int->Hp->VK->Prop} (hr:SlR X r) (he:PE X e te) (hl:PO X lo tl) (hu:PO X hi th):PE X (.Subscript e (.Slice lo hi none p2) pos) (tSl r te tl th):=by
 intro pins s σ H Q I h
 refine Subscript_ (thn (he pins s σ H _ I h) λv s1 ⟨x,H1,I1,r1,q1⟩=>?_)
 refine wpAny_Slice (thn (hl pins s1 σ H1 _ I1 q1) λvl s2 ⟨l,H2,I2,pl,q2⟩=>thn (hu pins s2 σ H2 _ I2 q2) λvu s3 ⟨u,H3,I3,pu,q3⟩=>?_)
 rw [evalPart_none]
 refine wpAny_pure ?_
 have I4:Inv X pins σ H3 { s3 with heap:=s3.heap.push { cls:=.type "slice",data:=.fields #[vl,vu,.none] } }:=I3.kept (t':=s3.toks) λb ob q=>Heap.get?_push_of_some _ q
 obtain ⟨T,id,hT,ht,hg⟩:=hr pins { s3 with heap:=s3.heap.push { cls:=.type "slice",data:=.fields #[vl,vu,.none] } } σ H3 x v vl vu l u s3.heap.objs.size Q I4 r1 (Heap.IsSliceOf.new ..) pl pu q3
 show wpAny (model X.prog X.w) X.A (subscriptTail e (.Slice lo hi none p2) v (.ref s3.heap.objs.size)) (EP X pins σ Q) X.xe { s3 with heap:=s3.heap.push { cls:=.type "slice",data:=.fields #[vl,vu,.none] } }
 exact tail_any (ops:=[.ref s3.heap.objs.size,v]) ht hT hg (by with_unfolding_all rfl)
noncomputable def oX (xs:List V) (lo hi:Option Int):List V:=(xs.drop (HT.sIx xs.length 0 lo)).take (HT.sIx xs.length xs.length hi - HT.sIx xs.length 0 lo)
theorem k9 (xs:List V) (lo hi:Option Int):(oX xs lo hi).length<=xs.length:=by
 unfold oX
 rw [List.length_take,List.length_drop]
 omega
end
noncomputable def ixN (n:Nat) (i:Int):Option Nat:=if 0<=i then (if i < n then some i.toNat else none) else if -(n:Int)<=i then some (i + n).toNat else none
noncomputable def atI {α:Type} (xs:List α) (i:Int):Option α:=(ixN xs.length i).bind λj=>xs[j]?
theorem ot {n:Nat} {i:Int} {j:Nat} (h:ixN n i=some j):seqIndex? i n=some j/\j < n/\-(n:Int)<=i/\i < n:=by
 unfold ixN at h
 by_cases h0:0<=i
 · rw [if_pos h0] at h
   by_cases h1:i < n
   · rw [if_pos h1] at h
     have e:i.toNat=j:=Option.some.inj h
     exact ⟨by rw [seqIndex_of h0 h1,e],by omega,by omega,h1⟩
   · rw [if_neg h1] at h; cases h
 · rw [if_neg h0] at h
   by_cases h1:-(n:Int)<=i
   · rw [if_pos h1] at h
     have e:(i + n).toNat=j:=Option.some.inj h
     exact ⟨by rw [seqIndex_neg (by omega) h1,e],by omega,h1,by omega⟩
   · rw [if_neg h1] at h; cases h
theorem nU {α:Type} {xs:List α} {i:Int} {v:α} (h:atI xs i=some v):∃ j,seqIndex? i xs.length=some j/\xs[j]?=some v/\j < xs.length/\-(xs.length:Int)<=i/\i < xs.length:=by
 unfold atI at h
 cases e:ixN xs.length i with
 | none=>rw [e] at h; cases h
 | some j=>
   rw [e] at h
   obtain ⟨h1,h2,h3,h4⟩:=ot e
   exact ⟨j,h1,h,h2,h3,h4⟩
noncomputable def n9 (b:Expr):Prop:=∀ o i,subscripted b false o i=operate [o,i] (getItem o i)
noncomputable def IxR (X:Cx) (r:R2):Prop:=
 ∀ (value slice:Expr) (pins:List (Addr × Obj)) (s:Shared) (σ:St) (H:Hp) (x y:V) (v u:Value) (Q:VK),Inv X pins σ H s->RelV x v->RelV y u->r x y H Q ->
   subscripted slice false v u=operate [v,u] (getItem v u)->wpAny (model X.prog X.w) X.A (subscriptTail value slice v u) (EP X pins σ Q) X.xe s
noncomputable def MtR (X:Cx) (id:String) (r:V->List V->Hp->VK->Prop):Prop:=
 ∀ (pins:List (Addr × Obj)) (s:Shared) (σ:St) (H:Hp) (x:V) (xs:List V) (v:Value) (us:List Value) (Q:VK),Inv X pins σ H s->RelV x v->Vals xs us->r x xs H Q ->
   wpAny (model X.prog X.w) X.A (call (.builtin id) (v :: us)) (EP X pins σ Q) X.xe s
section
variable {X:Cx} {a b:Expr} {ta tb:TE} {pos:Pos}
theorem wZ {r:R2} (hr:IxR X r) (ha:PE X a ta) (hb:PE X b tb) (hs:n9 b):PE X (.Subscript a b pos) (tOp r ta tb):=by
 intro pins s σ H Q I h
 exact Subscript_ (vU ha hb I h λv u s2 x y H2 I2 rx ry q=>hr a b pins s2 σ H2 x y v u Q I2 rx ry q (hs _ _))
noncomputable def yP (K:PySem.W.Frag):R2:=λx y H Q=>∃ p xs i v,x=.ref p/\y=.int i/\SqL K H p xs/\atI xs i=some v/\Q v H
noncomputable def yA (K:PySem.W.Frag):R2:=λx y H Q=>∃ p xs i v,x=.ref p/\y=.int i/\SqT K H p xs/\atI xs i=some v/\Q v H
theorem uz:IxR X (yP X.K):=by
 intro value slice pins s σ H x y v u Q I rx ry h hs
 obtain ⟨p,xs,i,z,rfl,rfl,hq,he,q⟩:=h
 cases rx
 obtain ⟨t,rfl⟩:=ry
 obtain ⟨its,r,pl,hz⟩:=I.list hq
 obtain ⟨j,h1,h2,h3,h4,h5⟩:=nU he
 obtain ⟨w,ew,rw'⟩:=r.get h2
 have hl:=r.length
 have hn:=j6
 have fin:EP X pins σ Q w s:=⟨z,H,I,rw',q⟩
 by_cases h0:0<=i
 · have hj:i.toNat=j:=by
     rw [seqIndex_of h0 h5] at h1
     exact Option.some.inj h1
   exact item_listR pl.isList h0 (by omega) (by rw [hj]; simpa using ew) fin hs
 · have hj:(i + (its.toArray.size:Int)).toNat=j:=by
     rw [seqIndex_neg (by omega) h4] at h1
     rw [List.size_toArray,<- hl]
     exact Option.some.inj h1
   exact subscriptTail_builtinR (x:=w) pl.isList.typeIs slot_list_getitem.lookup
     (wpAny_getItem_list_neg (Q:=λr s'=>r=w/\EP X pins σ Q r s') pl.isList (by omega) (by rw [List.size_toArray] <;> omega) (by omega) (by rw [hj]; simpa using ew) ⟨rfl,fin⟩) hs
theorem wo:IxR X (yA X.K):=by
 intro value slice pins s σ H x y v u Q I rx ry h hs
 obtain ⟨p,xs,i,z,rfl,rfl,hq,he,q⟩:=h
 cases rx
 obtain ⟨t,rfl⟩:=ry
 obtain ⟨its,r,pl,hz⟩:=I.tuple hq
 obtain ⟨j,h1,h2,h3,h4,h5⟩:=nU he
 obtain ⟨w,ew,rw'⟩:=r.get h2
 have hl:=r.length
 have hn:=j6
 have fin:EP X pins σ Q w s:=⟨z,H,I,rw',q⟩
 exact subscriptTail_builtinR (x:=w) pl.typeIs slot_tuple_getitem.lookup
   (getItem_tuple (j:=j) (Q:=λr s'=>r=w/\EP X pins σ Q r s') pl (by omega) (by omega) (by rw [List.size_toArray,<- hl]; exact h1) (by simpa using ew) ⟨rfl,fin⟩) hs
theorem mI (its:List Value) (n j:Nat) (u:Value):Obj.mapSeq (·.setIfInBounds j u) { cls:=.type "list",data:=.seq its.toArray n }={ cls:=.type "list",data:=.seq (its.set j u).toArray n }:=by
 simp [Obj.mapSeq]
theorem Inv.lst {pins:List (Addr × Obj)} {σ:St} {H:Hp} {s:Shared} {p:Addr} {xs:List V} (I:Inv X pins σ H s) (h:H p=some (.lst xs)) :
   ∃ (its:List Value) (n:Nat),Vals xs its/\s.heap.get? p=some { cls:=.type "list",data:=.seq its.toArray n }/\xs.length<=sizeLine:=by
 obtain ⟨z,its,n,r,e⟩:=I.hok p _ h
 exact ⟨its,n,r,e,z⟩
theorem Inv.wI {pins:List (Addr × Obj)} {σ:St} {H:Hp} {s:Shared} {p:Addr} {xs ys:List V} {its its':List Value} {n n':Nat} {f:Obj->Obj} (I:Inv X pins σ H s) (h:H p=some (.lst xs))
   (ho:s.heap.get? p=some { cls:=.type "list",data:=.seq its.toArray n }) (hf:f { cls:=.type "list",data:=.seq its.toArray n }={ cls:=.type "list",data:=.seq its'.toArray n' }) (r:Vals ys its') (hz:ys.length<=sizeLine) (t:Nat) :
   Inv X pins σ (upd H p (.lst ys)) { s with heap:=s.heap.update p f,toks:=t }:=by
 have e:(s.heap.update p f).get? p=some { cls:=.type "list",data:=.seq its'.toArray n' }:=by
   rw [Heap.get?_update_self f ho (by rw [hf] <;> rfl),hf]
 refine I.write (x:=p) (e:=p) (by rw [h]; trivial) (.inl rfl) (λb u hb q=>(Heap.get?_update_other _ _ (Ne.symm hb)).trans q) ⟨_,e⟩ ?_
 exact ⟨hz,its',n',r,e⟩
noncomputable def xu:V->V->V->Hp->(Hp->Prop)->Prop:=λo i v H Q=>∃ p xs k j,o=.ref p/\i=.int k/\H p=some (.lst xs)/\ixN xs.length k=some j/\Q (upd H p (.lst (xs.set j v)))
theorem set_list:w8 X xu:=by
 intro pins s σ H o i v ov iv u Q I ro ri rv h
 obtain ⟨p,xs,k,j,rfl,rfl,hp,hj,q⟩:=h
 cases ro
 obtain ⟨t,rfl⟩:=ri
 obtain ⟨its,n,r,ho,hz⟩:=I.lst hp
 obtain ⟨h1,h2,h3,h4⟩:=ot hj
 have hl:=r.length
 have hn:=j6
 have I':Inv X pins σ (upd H p (.lst (xs.set j v))) { s with heap:=s.heap.update p (Obj.mapSeq (·.setIfInBounds j u)) }:=
   I.wI hp ho (mI its n j u) (r.set rv j) (by rw [List.length_set]; exact hz) s.toks
 by_cases h0:0<=k
 · have hk:k.toNat=j:=by
     rw [seqIndex_of h0 h4] at h1
     exact Option.some.inj h1
   exact PySem.W.ki_setAt ho h0 (by omega) (by rw [List.size_toArray,<- hl]; exact h4) (by rw [hk]; exact ⟨_,I',q⟩)
 · have hk:(k + (its.toArray.size:Int)).toNat=j:=by
     rw [seqIndex_neg (by omega) h3] at h1
     rw [List.size_toArray,<- hl]
     exact Option.some.inj h1
   exact PySem.W.ki_setBack ho (by omega) (by rw [List.size_toArray,<- hl]; exact h3) (by omega) (by rw [hk]; exact ⟨_,I',q⟩)
theorem jO (lo hi:Option Int) (n:Nat):(sliceBounds lo hi none n).1=((HT.sIx n 0 lo:Nat):Int)/\(sliceBounds lo hi none n).2.1=((HT.sIx n n hi:Nat):Int)/\(sliceBounds lo hi none n).2.2=1:=by
 refine ⟨?_,?_,rfl⟩
 · cases lo with
   | none=>simp [sliceBounds,HT.sIx]
   | some i=>
     simp only [sliceBounds,HT.sIx,Option.getD_none,show (1:Int) > 0 by decide,if_true]
     by_cases h:i < 0
     · simp only [h,if_true] <;> omega
     · simp only [h,if_false] <;> omega
 · cases hi with
   | none=>simp [sliceBounds,HT.sIx]
   | some i=>
     simp only [sliceBounds,HT.sIx,Option.getD_none,show (1:Int) > 0 by decide,if_true]
     by_cases h:i < 0
     · simp only [h,if_true] <;> omega
     · simp only [h,if_false] <;> omega
theorem i4 (its:List Value) (lo hi:Option Int):slicePick its.toArray lo hi none=((its.drop (HT.sIx its.length 0 lo)).take (HT.sIx its.length its.length hi - HT.sIx its.length 0 lo)).toArray:=by
 obtain ⟨h1,h2,h3⟩:=jO lo hi its.toArray.size
 unfold slicePick
 rw [h1,h2,h3]
 simp only [sliceRange_one,pick_run,List.size_toArray] <;> rfl
noncomputable def yp (K:PySem.W.Frag):V->Option Int->Option Int->Hp->VK->Prop:=λx lo hi H Q=>∃ a xs,x=.ref a/\SqL K H a xs/\∀ p,H p=none->Q (.ref p) (upd H p (.lst (oX xs lo hi)))
theorem tZ:SlR X (yp X.K):=by
 intro pins s σ H x v vl vu lo hi sl Q I rx hs pl pu h
 obtain ⟨a,xs,rfl,hx,q⟩:=h
 cases rx
 obtain ⟨its,r,ht,hz⟩:=I.list hx
 have hlen:=r.length
 refine ⟨"list",_,slot_list_getitem.lookup,ht.isList.typeIs,?_⟩
 refine wpAny_getItem_list_slice ht.isList hs pl pu .none (by simp) ?_ (by rw [List.size_toArray] <;> omega)
 rw [i4,<- hlen]
 refine ⟨.ref s.heap.objs.size,_,I.laid (t':=s.toks) (o:=.lst (oX xs lo hi)) (λb ob q=>Heap.get?_push_of_some _ q) (Nat.le_refl _) ?_,rfl,q _ (I.hok.fresh (Nat.le_refl _))⟩
 exact ⟨Nat.le_trans (k9 xs lo hi) hz,_,0,(r.drop (HT.sIx xs.length 0 lo)).take (HT.sIx xs.length xs.length hi - HT.sIx xs.length 0 lo),Heap.get?_push_size _ rfl⟩
noncomputable def gp:V->Bool
 | .non=>true
 | .bl _=>true
 | .int _=>true
 | .str _=>true
 | _=>false
noncomputable def eqV:V->V->Bool
 | .non,.non=>true
 | .bl a,.bl b=>a == b
 | .bl a,.int b=>(if a then 1 else 0) == b
 | .int a,.bl b=>a == (if b then 1 else 0)
 | .int a,.int b=>a == b
 | .str a,.str b=>a == b
 | _,_=>false
theorem vz {A:Around} {s:Shared} {y x:V} {u v:Value} (ry:RelV y u) (rx:RelV x v) (fy:gp y=true) (fx:gp x=true):SeqAt.EqAt A s u v (eqV y x):=by
 cases y with
 | non=>
   cases ry
   cases x with
   | non=>cases rx; exact SeqAt.EqAt.same _
   | bl b=>cases rx; exact SeqAt.EqAt.none_bool b
   | int b=>obtain ⟨t,rfl⟩:=rx; exact SeqAt.EqAt.none_int b t
   | str b=>obtain ⟨t,rfl⟩:=rx; exact SeqAt.EqAt.none_str b t
   | _=>exact absurd (show false=true from fx) Bool.false_ne_true
 | bl a=>
   cases ry
   cases x with
   | non=>cases rx; exact SeqAt.EqAt.bool_none a
   | bl b=>cases rx; exact SeqAt.EqAt.bool_bool a b
   | int b=>obtain ⟨t,rfl⟩:=rx; exact SeqAt.EqAt.bool_int a b t
   | str b=>obtain ⟨t,rfl⟩:=rx; exact SeqAt.EqAt.bool_str a b t
   | _=>exact absurd (show false=true from fx) Bool.false_ne_true
 | int a=>
   obtain ⟨t',rfl⟩:=ry
   cases x with
   | non=>cases rx; exact SeqAt.EqAt.int_none a t'
   | bl b=>cases rx; exact SeqAt.EqAt.int_bool a t' b
   | int b=>obtain ⟨t,rfl⟩:=rx; exact SeqAt.EqAt.int_int a t' b t
   | str b=>obtain ⟨t,rfl⟩:=rx; exact SeqAt.EqAt.int_str a t' b t
   | _=>exact absurd (show false=true from fx) Bool.false_ne_true
 | str a=>
   obtain ⟨t',rfl⟩:=ry
   cases x with
   | non=>cases rx; exact SeqAt.EqAt.str_none a t'
   | bl b=>cases rx; exact SeqAt.EqAt.str_bool a t' b
   | int b=>obtain ⟨t,rfl⟩:=rx; exact SeqAt.EqAt.str_int a t' b t
   | str b=>obtain ⟨t,rfl⟩:=rx; exact SeqAt.EqAt.str_str a t' b t
   | _=>exact absurd (show false=true from fx) Bool.false_ne_true
 | _=>exact absurd (show false=true from fy) Bool.false_ne_true
noncomputable def eqU (x:V) (u:Value):Bool:=match u with
 | .none=>eqV .non x
 | .bool b=>eqV (.bl b) x
 | .int i _=>eqV (.int i) x
 | .str z _=>eqV (.str z) x
 | _=>false
theorem qL {x y:V} {u:Value} (r:RelV y u) (f:gp y=true):eqU x u=eqV y x:=by
 cases y with
 | non=>cases r; rfl
 | bl b=>cases r; rfl
 | int i=>obtain ⟨t,rfl⟩:=r; rfl
 | str z=>obtain ⟨t,rfl⟩:=r; rfl
 | _=>exact absurd (show false=true from f) Bool.false_ne_true
theorem ko {x:V}:∀ {xs:List V} {us:List Value},Vals xs us->xs.all gp=true->us.any (eqU x)=xs.any λy=>eqV y x
 | _,_,.nil,_=>rfl
 | y :: xs,u :: us,.cons r t,f=>by
   rw [List.all_cons,Bool.and_eq_true] at f
   rw [List.any_cons,List.any_cons,qL r f.1,ko t f.2]
theorem gJ {A:Around} {s:Shared} {x:V} {v:Value} (rx:RelV x v) (fx:gp x=true):∀ {xs:List V} {us:List Value},Vals xs us->xs.all gp=true->∀ u ∈ us,SeqAt.EqAt A s u v (eqU x u)
 | _,_,.nil,_=>λu hu=>by cases hu
 | y :: xs,u :: us,.cons r t,f=>λu' hu=>by
   rw [List.all_cons,Bool.and_eq_true] at f
   rcases List.mem_cons.mp hu with rfl | hu
   · rw [qL r f.1]; exact vz r rx f.1 fx
   · exact gJ rx fx t f.2 u' hu
noncomputable def inV (x:V) (xs:List V):Bool:=xs.any λy=>eqV y x
noncomputable def rIn (K:PySem.W.Frag) (neg:Bool):R2:=λx y H Q=>∃ p xs,y=.ref p/\(SqL K H p xs\/SqT K H p xs)/\gp x=true/\xs.all gp=true/\Q (.bl (if neg then !inV x xs else inV x xs)) H
theorem j9:OpR X (compareOp .NotIn) (rIn X.K true):=by
 intro pins s σ H x y v u Q I rx ry h
 obtain ⟨p,xs,rfl,hq,fx,fs,q⟩:=h
 cases ry
 rcases hq with hq | hq
 · obtain ⟨its,r,pl,hz⟩:=I.list hq
   refine SeqAt.notIn_listAt (eqU x) pl.isList (λw hw=>gJ rx fx r fs w (by simpa using hw)) ⟨.bl _,H,I,rfl,?_⟩
   rw [show its.toArray.any (eqU x)=its.any (eqU x) by simp,ko r fs]
   exact q
 · obtain ⟨its,r,pl,hz⟩:=I.tuple hq
   refine SeqAt.notIn_tupleAt (eqU x) pl (λw hw=>gJ rx fx r fs w (by simpa using hw)) ⟨.bl _,H,I,rfl,?_⟩
   rw [show its.toArray.any (eqU x)=its.any (eqU x) by simp,ko r fs]
   exact q
theorem fo:dg X (.builtin "len") (λxs H Q=>∃ p ys,xs=[.ref p]/\(SqL X.K H p ys\/SqT X.K H p ys)/\Q (.int ys.length) H):=by
 intro pins s σ H xs us Q I r h
 obtain ⟨p,ys,rfl,hq,q⟩:=h
 obtain ⟨u,rfl,rx⟩:=vals1 r
 cases rx
 have hn:=j6
 rcases hq with hq | hq
 · obtain ⟨its,r',pl,hz⟩:=I.list hq
   have hlen:=r'.length
   exact Calls.call_len_list pl.isList (by simp only [List.size_toArray] <;> omega) ⟨.int ys.length,H,I.tok _,⟨s.toks + 1,by rw [List.size_toArray,hlen]⟩,q⟩
 · obtain ⟨its,r',pl,hz⟩:=I.tuple hq
   have hlen:=r'.length
   exact len_tuple pl (by simp only [List.size_toArray] <;> omega) ⟨.int ys.length,H,I.tok _,⟨s.toks + 1,by rw [List.size_toArray,hlen]⟩,q⟩
theorem j4:dg X (.type "list") (λxs H Q=>∃ p ys,xs=[.ref p]/\(SqL X.K H p ys\/SqT X.K H p ys)/\∀ l,H l=none->Q (.ref l) (upd H l (.lst ys))):=by
 intro pins s σ H xs us Q I r h
 obtain ⟨p,ys,rfl,hq,q⟩:=h
 obtain ⟨u,rfl,rx⟩:=vals1 r
 cases rx
 have fin:∀ (its:List Value),Vals ys its->ys.length<=sizeLine->∀ (h':Heap) (c':Nat),(∀ b o',s.heap.get? b=some o'->h'.get? b=some o') ->
     h'.get? s.heap.objs.size=some { cls:=.type "list",dict:=none,data:=.seq its.toArray c',slots:=#[] }->EP X pins σ Q (.ref s.heap.objs.size) { s with heap:=h' }:=λits r' hz h' c' kp e=>
   ⟨.ref s.heap.objs.size,_,I.laid (t':=s.toks) kp (Nat.le_refl _) (show bo X.prog X.w _ h' _ (.lst ys) from ⟨hz,its,c',r',e⟩),rfl,q _ (I.hok.fresh (Nat.le_refl _))⟩
 rcases hq with hq | hq
 · obtain ⟨its,r',pl,hz⟩:=I.list hq
   have hlen:=r'.length
   obtain ⟨o,ho,hc,n,hd⟩:=pl.isList
   exact call_list_seq p (.inl rfl) ho hc hd (λh' c' kp e=>fin its r' hz h' c' kp e) (by simp only [List.size_toArray] <;> omega)
 · obtain ⟨its,r',pl,hz⟩:=I.tuple hq
   have hlen:=r'.length
   obtain ⟨o,ho,hc,n,hd⟩:=pl
   exact call_list_seq p (.inr rfl) ho hc hd (λh' c' kp e=>fin its r' hz h' c' kp e) (by simp only [List.size_toArray] <;> omega)
noncomputable def tyV (K:PySem.W.Frag) (T:String) (x:V) (H:Hp):Prop:=match x with
 | .str _=>T = "str"
 | .int _=>T = "int"
 | .ref p=>(T = "list" /\ ∃ xs,SqL K H p xs)\/(T = "tuple" /\ ∃ o,K.lookup p=some o/\o.cls=.type "tuple" /\ o.dict=none) \/
     (T = "dict" /\ ((∃ kvs,H p=some (.dK kvs))\/∃ kvs,H p=some (.dT kvs)))\/(T = "set" /\ ∃ S n,H p=some (.set S n))
 | _=>False
theorem vR {pins:List (Addr × Obj)} {σ:St} {H:Hp} {s:Shared} {T:String} {x:V} {v:Value} (I:Inv X pins σ H s) (r:RelV x v) (ty:tyV X.K T x H) :
   s.TypeIs v T/\∀ a,v=.ref a->∃ ob,s.heap.get? a=some ob/\ob.dict=none:=by
 cases x with
 | str z=>
   obtain ⟨t,rfl⟩:=r
   cases (show T = "str" from ty)
   exact ⟨typeIs_str s z t,λ_ e=>nomatch e⟩
 | int i=>
   obtain ⟨t,rfl⟩:=r
   cases (show T = "int" from ty)
   exact ⟨typeIs_int s i t,λ_ e=>nomatch e⟩
 | ref p=>
   cases r
   rcases ty with ⟨rfl,xs,hq⟩ | ⟨rfl,o,hk,hc,hd⟩ | ⟨rfl,hk⟩ | ⟨rfl,S,n,hk⟩
   · obtain ⟨its,_,pl,_⟩:=I.list hq
     refine ⟨pl.isList.typeIs,λa e=>?_⟩
     cases e
     obtain ⟨o,n,e,c,hd,_⟩:=pl
     exact ⟨o,e,hd⟩
   · refine ⟨⟨o,I.kIn p o hk,hc⟩,λa e=>?_⟩
     cases e
     exact ⟨o,I.kIn _ o hk,hd⟩
   · have z:∃ o,s.heap.get? p=some o/\o.ExactDict:=by
       rcases hk with ⟨kvs,hk⟩ | ⟨kvs,hk⟩
       · obtain ⟨_,_,_,_,o,_,_,e,ex,_⟩:=I.hok p _ hk
         exact ⟨o,e,ex⟩
       · obtain ⟨_,_,_,_,o,_,_,e,ex,_⟩:=I.hok p _ hk
         exact ⟨o,e,ex⟩
     obtain ⟨o,e,ex⟩:=z
     refine ⟨⟨o,e,ex.1⟩,λa e2=>?_⟩
     cases e2
     exact ⟨o,e,ex.2.1⟩
   · obtain ⟨o,_,_,_,e,ex,_⟩:=I.hok p _ hk
     refine ⟨⟨o,e,ex.1⟩,λa e2=>?_⟩
     cases e2
     exact ⟨o,e,ex.2.1⟩
 | _=>exact False.elim ty
noncomputable def tBM (K:PySem.W.Frag) (T:String) (r:V->List V->Hp->VK->Prop) (to:TE) (t:TA):TE:=λσ H Q=>to σ H λx H1=>tyV K T x H1/\t σ H1 λxs H2=>r x xs H2 Q
variable {o e:Expr} {es:List Expr} {to:TE} {t:TA} {name:Str} {apos cpos:Pos} {T id:String} {r:V->List V->Hp->VK->Prop}
theorem nF (pa:PlainAttrs T) (slot:Slot T name id) (hty:typeOf (.builtin id)=pure (.type "method_descriptor")) (hm:MtR X id r) (ho:PE X o to) (ha:PA X (e :: es) t)
   (hbase:attributeBase o name X.env (eval o X.env)=eval o X.env:=by rfl)
   (hfew:((backTo cpos (starEach (e :: es) X.env)).all (λx=>!x.1) && (backToKw cpos (keywordEach [] X.env)).all (λx=>x.1.isSome)
     && decide ((e :: es).length + ([]:List Keyword).length + (if ([]:List Keyword).isEmpty then 0 else 1) < 30))=true:=by rfl)
   (hline:(apos.endLine == cpos.line)=true:=by rfl) (hs:starEach (e :: es) X.env=(false,eval e X.env) :: starEach es X.env:=by rfl) (hplain:(backTo cpos (starEach es X.env)).any (·.1)=false:=by rfl) :
   PE X (.Call (.Attribute o name apos) (e :: es) [] cpos) (tBM X.K T r to t):=by
 intro pins s σ H Q I h
 refine wpAny_Call_method_late hbase hfew hline rfl (thn (ho pins s σ H _ I h) λv s1 ⟨x,H1,I1,r1,ty,q1⟩=>?_)
 obtain ⟨h1,h2⟩:=vR I1 r1 ty
 refine ⟨T,id,pa,slot,hty,h1,h2,?_⟩
 have hA:=ha cpos pins s1 σ H1 _ I1 q1
 rw [hs] at hA ⊢
 refine Calls.callWith_builtin (by show (false || (backTo cpos (starEach es X.env)).any (·.1))=false; rw [hplain] <;> rfl) (Calls.evalArgs_plain ?_)
 exact thn hA λus s2 ⟨vs,H2,I2,r2,q2⟩=>hm pins s2 σ H2 x vs v us Q I2 r1 r2 q2
end
noncomputable def MtM (X:Cx) (id:String) (r:V->List V->Hp->VK->Prop):Prop:=
 ∀ (pins:List (Addr × Obj)) (s:Shared) (σ:St) (H:Hp) (x:V) (xs:List V) (v:Value) (us:List Value) (Q:VK),Inv X pins σ H s->RelV x v->Vals xs us->r x xs H Q ->
   wpAny (model X.prog X.w) X.A (call (.builtin id) (v :: us)) (EP X pins σ Q) X.xe s
theorem Vals.one:∀ {x:V} {us:List Value},Vals [x] us->∃ u,us=[u]/\RelV x u
 | _,_,.cons r .nil=>⟨_,rfl,r⟩
theorem Vals.two:∀ {x y:V} {us:List Value},Vals [x,y] us->∃ u v,us=[u,v]/\RelV x u/\RelV y v
 | _,_,_,.cons r (.cons q .nil)=>⟨_,_,rfl,r,q⟩
theorem Vals.zero:∀ {us:List Value},Vals [] us->us=[]
 | _,.nil=>rfl
theorem Vals.eraseIdx:∀ {xs:List V} {us:List Value} (i:Nat),Vals xs us->Vals (xs.eraseIdx i) (us.eraseIdx i)
 | _,_,_,.nil=>.nil
 | _,_,0,.cons _ t=>t
 | _,_,i + 1,.cons r t=>.cons r (Vals.eraseIdx i t)
theorem jt {α:Type}:∀ (l:List α) (i:Nat),(l.eraseIdx i).length<=l.length
 | [],_=>Nat.le_refl _
 | _ :: _,0=>Nat.le_succ _
 | _ :: r,i + 1=>Nat.succ_le_succ (jt r i)
section
variable {X:Cx} {pins:List (Addr × Obj)} {σ:St} {H:Hp} {s:Shared} {l b:Addr} {xs ys zs:List V}
theorem Inv.uy {its its':List Value} {n:Nat} {f:Array Value->Array Value} {t':Nat} (I:Inv X pins σ H s) (hH:H l=some (.lst xs))
   (e:s.heap.get? l=some { cls:=.type "list",data:=.seq its.toArray n }) (hf:f its.toArray=its'.toArray) (hv:Vals ys its') (hz:ys.length<=sizeLine) :
   Inv X pins σ (upd H l (.lst ys)) { s with heap:=s.heap.update l (Obj.mapSeq f),toks:=t' }:=by
 have q:=PySem.IsL.update e f
 rw [hf] at q
 refine I.write (x:=l) (e:=l) (by rw [hH]; exact trivial) (.inl rfl) (λb' u hb hu=>(Heap.get?_update_other s.heap (Obj.mapSeq f) (Ne.symm hb)).trans hu) ⟨_,q⟩ ?_
 exact ⟨hz,its',_,hv,q⟩
theorem Inv.yF {its:List Value} {t':Nat} (I:Inv X pins σ H s) (hv:Vals ys its) (hz:ys.length<=sizeLine) :
   Inv X pins σ (upd H s.heap.objs.size (.lst ys)) { s with heap:=s.heap.push { cls:=.type "list",data:=.seq its.toArray },toks:=t' }:=
 I.laid (λ_ _ q=>Heap.get?_push_of_some _ q) (Nat.le_refl _) ⟨hz,its,0,hv,Heap.get?_push_size _ rfl⟩
theorem Inv.fresh (I:Inv X pins σ H s):H s.heap.objs.size=none:=I.hok.fresh (Nat.le_refl _)
theorem Inv.rO (I:Inv X pins σ H s) (hH:H l=some (.lst xs)):xs.length<=sizeLine/\∃ (its:List Value) (n:Nat),Vals xs its/\xs.length=its.length/\s.heap.get? l=some { cls:=.type "list",data:=.seq its.toArray n }:=by
 obtain ⟨z,its,n,r,e⟩:=I.hok l _ hH
 exact ⟨z,its,n,r,r.length,e⟩
theorem qH {n:Nat} (h:n<=sizeLine):Builtin.List.listTooLong n=false:=by
 unfold Builtin.List.listTooLong
 exact decide_eq_false (by omega)
end
section
variable {X:Cx}
noncomputable def tL:V->List V->Hp->VK->Prop:=λx vs H Q=>∃ l xs y,x=.ref l/\vs=[y]/\H l=some (.lst xs)/\xs.length < sizeLine/\Q .non (upd H l (.lst (xs++[y])))
theorem fT:MtM X "list.append" tL:=by
 intro pins s σ H x vs v us Q I rx rv h
 obtain ⟨l,xs,y,rfl,rfl,hH,hz,q⟩:=h
 cases rx
 obtain ⟨u,rfl,ru⟩:=rv.one
 obtain ⟨z,its,n,r,hl,e⟩:=I.rO hH
 refine call_meets F.slot_list_append ⟨_,e,rfl⟩ F.entry_list_append (F.args_list_append_2 _ _) (PySem.list_append l its.toArray n u (by rw [List.size_toArray]; omega)) ⟨e,?_⟩
 refine ⟨.non,_,I.uy (its':=its++[u]) hH e (by simp) (r.append (.cons ru .nil)) ?_,rfl,q⟩
 rw [List.length_append,List.length_singleton]
 omega
noncomputable def tK:V->List V->Hp->VK->Prop:=λx vs H Q=>∃ l b xs zs,x=.ref l/\vs=[.ref b]/\H l=some (.lst xs)/\H b=some (.lst zs)/\xs.length + zs.length<=sizeLine/\Q .non (upd H l (.lst (xs++zs)))
theorem oy:MtM X "list.extend" tK:=by
 intro pins s σ H x vs v us Q I rx rv h
 obtain ⟨l,b,xs,zs,rfl,rfl,hH,hB,hz,q⟩:=h
 cases rx
 obtain ⟨u,rfl,ru⟩:=rv.one
 cases ru
 obtain ⟨z,its,n,r,hl,e⟩:=I.rO hH
 obtain ⟨z2,its2,n2,r2,hl2,e2⟩:=I.rO hB
 have hsz:its.toArray.size + its2.toArray.size<=sizeLine:=by rw [List.size_toArray,List.size_toArray]; omega
 have hlong:¬ (!its.toArray.isEmpty && Builtin.List.listTooLong (its.toArray.size + its2.toArray.size))=true:=by
   rw [qH hsz,Bool.and_false]
   exact Bool.false_ne_true
 refine call_meets F.slot_list_extend ⟨_,e,rfl⟩ F.entry_list_extend (F.args_list_extend_2 _ _)
   (AutoSeq1.list_extend_list_list_0 l its.toArray n b its2.toArray n2 hlong (by rw [List.size_toArray]; omega) (by omega)) ⟨e,e2,?_⟩
 refine ⟨.non,_,I.uy (its':=its++its2) hH e (by simp) (r.append r2) ?_,rfl,q⟩
 rw [List.length_append]
 omega
noncomputable def wM:V->List V->Hp->VK->Prop:=λx vs H Q=>∃ l xs i k y,x=.ref l/\vs=[.int i]/\H l=some (.lst xs)/\-(2 ^ 63)<=i/\i < 2 ^ 63/\seqIndex? i xs.length=some k/\xs[k]?=some y/\Q y (upd H l (.lst (xs.eraseIdx k)))
theorem pO:MtM X "list.pop" wM:=by
 intro pins s σ H x vs v us Q I rx rv h
 obtain ⟨l,xs,i,k,y,rfl,rfl,hH,h1,h2,hk,hy,q⟩:=h
 cases rx
 obtain ⟨u,rfl,ru⟩:=rv.one
 obtain ⟨t,rfl⟩:=ru
 obtain ⟨z,its,n,r,hl,e⟩:=I.rO hH
 obtain ⟨w,hw,rw'⟩:=r.get hy
 refine call_meets F.slot_list_pop ⟨_,e,rfl⟩ F.entry_list_pop (F.args_list_pop_2 _ _)
   (MeetsSeq.list_pop_at l its.toArray n i t k w (fitsIndex_both h1 h2) (by rw [List.size_toArray,<- hl]; exact hk) (by rw [<- Array.getElem?_toList]; exact hw) (by rw [List.size_toArray]; omega)) ⟨e,?_⟩
 refine ⟨y,_,I.uy (its':=its.eraseIdx k) hH e ?_ (r.eraseIdx k) ?_,rw',q⟩
 · show its.toArray.eraseIdxIfInBounds k=(its.eraseIdx k).toArray
   rw [List.eraseIdxIfInBounds_toArray]
 · have:=jt xs k
   omega
end
section
variable {prog:Program} {w:World} {A:Around} {E:Value->Shared->Prop} {s:Shared}
end
section
variable {X:Cx}
end
end L2
namespace Att
open PySem PySem.W PySem.Calls PyProof.Rows
theorem gB {P:Params} {h:Heap}:∀ (ns:List Int) (vs:List Value),WellAll P h vs (ns.map WData.int)->IntsAre vs ns:=by
 intro ns
 induction ns with
 | nil=>
   intro vs w
   rw [List.map_nil] at w
   cases w
   exact .nil
 | cons n ns ih=>
   intro vs w
   rw [List.map_cons] at w
   cases w with
   | cons a b=>
     cases a
     exact .cons _ _ (ih _ b)
theorem o8 {l:OpenLaw} {n:Nat} (hn:l.most=some n) {P:Params} {h:Heap} {args:List WData} {vals:List Value}
   (hpre:l.row.toRowW.claim.pre args=true) (hwl:WellAll P h vals args) :
   ∃ a vs ns,vals=[Value.ref a]/\args=[WData.list (ns.map WData.int)]/\h.get? a=some { cls:=.type "list",data:=.seq vs.toArray }/\IntsAre vs ns/\ns.length<=n:=by
 have hsh:WShape.hasAll [] args [.list .int]=true:=(pre_splitW hpre).1
 have hc:l.pre.holds [] { args:=args }=true:=(pre_splitW hpre).2
 obtain ⟨d,r,rfl,h1,h2⟩:=hasAllW_cons hsh
 obtain rfl:=hasAllW_nil h2
 obtain ⟨xs,rfl,h3⟩:=hasW_list h1
 obtain ⟨ns,rfl⟩:=items_int h3
 have hlen:ns.length<=n:=by
   unfold OpenLaw.pre at hc
   have h4:(WTm.not (.lt (.lit (.int (n:Int))) (.len (.arg 0)))).holds [] { args:=[.list (ns.map .int)] }=true:=by
     have h4:=(holds_andW hc).1
     rw [hn] at h4
     exact h4
   have h5:=condW_of h4 (w_not (w_lt w_lit (w_len_list (w_arg rfl))))
   rw [List.length_map] at h5
   refine Nat.le_of_not_lt λq=>?_
   have q':(n:Int) < ((ns.length:Nat):Int):=by omega
   first
     | (rw [decide_eq_true q'] at h5; exact absurd h5 (by decide))
     | (simp at h5; omega)
 cases hwl with
 | cons w1 w2=>
   cases w2
   cases w1 with
   | list ho hall=>exact ⟨_,_,ns,rfl,rfl,ho,gB ns _ hall,hlen⟩
theorem oT (l:OpenLaw) (args:List WData):l.row.toRowW.claim.post args (.bool true) args=true:=
 postW_of (r:=l.row.toRowW) (X:=(true == true))
   (show WShape.has [] (.bool true) .bool=true by first | rfl | decide | simp [WShape.has,WShape.arms,WShape.armsAll])
   (show (WTm.eq .res (.lit (.bool true))).value [] { args:=args,res:=some (.bool true),after:=args }=some (.bool (true == true)) from w_eq_bool (w_res rfl) w_lit) rfl
theorem lB {l:OpenLaw} {n:Nat} {q:Program} {loose:List Str} {XP:(Str->Option Value)->Heap->Prop} {YP:World->Heap->Prop} {d:DefRec}
   (hn:l.most=some n) (hdf:d.params.defaults=[])
   (call:∀ (w:World) (s₀ s₁:Shared) (mg mb:Str->Option Value) (fa:Addr) (o:Obj) (pm cd doc:Value) (a:Addr) (vs:List Value) (ns:List Int),
     Ground q loose [] XP w s₀ mg mb s₁.heap->YP w s₁.heap ->
     s₁.heap.get? fa=some o->o.data=.func (docDef d.name d.params d.body d.scope pm cd doc)->s₁.heap.CodeRec cd d.name->mg d.name=some (.ref fa) ->
     s₁.heap.get? a=some { cls:=.type "list",data:=.seq vs.toArray }->IntsAre vs ns->ns.length<=n->s₁.gens=#[] ->
     codeAny (model l.prog w) callerA (.call (.ref fa) ⟨[.ref a],[]⟩) (λr s'=>r=.ok (.ret (.bool true))/\OldK s₁.heap s'.heap/\s'.os=s₁.os/\AllBare s'.gens) s₁) :
   WalkO q loose XP YP l.row.toRowW d [] (λf vs=>PySem.call f vs):=by
 intro w s₀ s₁ mg mb G Y fa o pm cd doc dV kV ho hd hcd hD hmg hg args vals as hpre hlay hrd hwl hlo
 obtain rfl:dV=.none:=Dflts.none hD hdf
 obtain rfl:kV=.none:=Dflts.noKw hD
 obtain ⟨a,vs,ns,rfl,rfl,hobj,hints,hlen⟩:=o8 hn hpre hwl
 refine enter_call (codeAny_mono (call w s₀ s₁ mg mb fa o pm cd doc a vs ns G Y ho (fd_plain hd) hcd hmg hobj hints hlen hg) λr s' hq=>?_)
 obtain ⟨rfl,h2,h3,h4⟩:=hq
 exact ⟨.inl ⟨.bool true,.bool true,[],rfl,λ_=>rfl,.bool true,oT l _,λ_=>⟨List.Pairwise.nil,λ_ hm=>(nomatch hm)⟩⟩,h2,h3,h4⟩
section
variable {prog:Program} {w:World} {A:Around} {E:Value->Shared->Prop} {s:Shared} {K:Frag}
end
end Att
namespace L2
open PySem PySem.Spec PyProof.Rows
theorem da:∀ {vs:List Value} {ns:List Int},IntsAre vs ns->Vals (ns.map V.int) vs
 | _,_,.nil=>.nil
 | _,_,.cons n t h=>.cons ⟨t,rfl⟩ (da h)
noncomputable def vW (H:Hp):Prop:=∀ b,H b=none\/∃ o xs,H b=some (.frz o (.lst xs))
theorem qh {P:Program} {w:World} {K:PySem.W.Frag} {mg mb:Str->Option Value} {CX:CXT} {k:Nat} {fa a:Addr} {fd:FuncData} {x:Str} {sp:Sp} {s₁:Shared} {vs:List Value} {ns:List Int}
   (KX:K.In s₁.heap) (hns:s₁.heap.Ns mainGlobals mg) (hb:s₁.heap.Ns builtinsNs mb) (hbb:∀ x:Str,x ≠ "__name__" -> mb x=bootBuiltins x) (hlim:s₁.heap.NoLimit) (hg:s₁.gens=#[])
   (ha:s₁.heap.get? a=some { cls:=.type "list",data:=.seq vs.toArray }) (hi:IntsAre vs ns) (hl:ns.length<=sizeLine) (hr:dM k callerA)
   (F:∀ base:Heap,K.In base->base.Ns mainGlobals mg->aR P w K mg base CX k fa fd [x] sp) (hbind:∀ (s:Shared) (u:Value),BindsTo s fd ⟨[u],[]⟩ [(x,u)])
   (hsp:∀ H:Hp,vW H->SqL K H a (ns.map V.int)->sp [.ref a] H (λv _=>v=.bl true) λ_ _ _=>False)
   (hCX:∀ H e s',CX [] H s₁ (λ_ _ _=>False) e s'->False) :
   codeAny (model P w) callerA (.call (.ref fa) ⟨[.ref a],[]⟩) (λr s'=>r=.ok (.ret (.bool true))/\OldK s₁.heap s'.heap/\s'.os=s₁.os/\AllBare s'.gens) s₁:=by
 have rv:=da hi
 have lenV:=hi.length
 have core:∀ H:Hp,vW H->SqL K H a (ns.map V.int)->HOk P w H s₁.heap->(∀ b,H b ≠ none->b=a)->(H a ≠ none->K.lookup a=none) ->
     codeAny (model P w) callerA (.call (.ref fa) ⟨[.ref a],[]⟩) (λr s'=>r=.ok (.ret (.bool true))/\OldK s₁.heap s'.heap/\s'.os=s₁.os/\AllBare s'.gens) s₁:=by
   intro H hO hS hok hA hK
   have base_of:∀ {b:Addr} {o:Obj},s₁.heap.get? b=some o->H b=none->(j3 s₁.heap H).get? b=some o:=λe n=>pY e n
   have noA:∀ {b:Addr} {o:Obj} {es:Array DictEntry} {ep:Nat},s₁.heap.get? b=some o->o.data=.dict es ep->H b=none:=λ{b o es ep} e d=>by
     cases q:H b with
     | none=>rfl
     | some u=>
       have e':b=a:=hA b (by rw [q]; simp)
       subst e'
       rw [ha] at e; cases e
       have d':Data.seq vs.toArray _=Data.dict es ep:=d
       cases d'
   have nsK:∀ {b:Addr} {m:Str->Option Value},s₁.heap.Ns b m->(j3 s₁.heap H).Ns b m:=λ{b m} ⟨o,es,ep,e,d,r⟩=>⟨o,es,ep,base_of e (noA e d),d,r⟩
   have hKb:K.In (j3 s₁.heap H):=λb o e=>base_of (KX b o e) (by
     cases q:H b with
     | none=>rfl
     | some u=>
       have e':b=a:=hA b (by rw [q]; simp)
       subst e'
       rw [hK (by rw [q]; simp)] at e; cases e)
   have hM:Mod K mg (j3 s₁.heap H):=⟨hKb,nsK hns,⟨mb,nsK hb,hbb⟩,let ⟨mc,h1,h2⟩:=hlim; ⟨mc,nsK h1,h2⟩⟩
   have e0:sJ P w K mg (j3 s₁.heap H) callerA [] s₁ H:=⟨rfl,hM,λb o e=>uu e,Nat.le_of_eq (oz _ _),trivial,λb hb=>absurd (show b ∈ ([]:List Addr) from hb) (by simp),hok,.of_eq hg⟩
   refine codeAny_mono ((F _ hKb (nsK hns)).run callerA [] s₁ H ⟨[.ref a],[]⟩ [.ref a] [.ref a] _ _ hr e0 (hbind s₁ (.ref a)) (.cons rfl .nil) (hsp H hO hS)) λr s' h=>?_
   cases r with
   | error e=>exact (hCX H e s' h).elim
   | ok fl=>
     cases fl with
     | next=>exact False.elim h
     | brk=>exact False.elim h
     | cont=>exact False.elim h
     | ret u=>
       obtain ⟨v,H',os,bare,un,hok',r',q⟩:=h
       have q':v=.bl true:=q
       subst q'
       obtain rfl:u=Value.bool true:=r'
       refine ⟨rfl,OldK.of_keep λb o e=>?_,os,bare⟩
       cases q:H b with
       | none=>exact un.keep b o e q (by intro z; exact absurd (show b ∈ ([]:List Addr) from z) (by simp)) (by simp)
       | some u=>
         rcases hO b with z | ⟨ob,xs,z⟩
         · rw [q] at z; cases z
         · have z2:=un.frzs b ob _ z
           obtain ⟨e1,_⟩:=hok b _ z
           obtain ⟨e2,_⟩:=hok' b _ z2
           rw [e] at e1; cases e1
           exact e2
 cases hk:K.lookup a with
 | some o=>
   have e:=KX a o hk
   rw [ha] at e
   cases e
   refine core (λ_=>none) (λ_=>.inl rfl) (.inr ⟨_,vs.toArray,_,hk,rfl,rfl,rfl,by rw [List.size_toArray,lenV]; exact hl,by simpa using rv⟩) (λb u z=>by have z':(none:Option HO)=some u:=z; cases z') (λb z=>absurd rfl z) λz=>absurd rfl z
 | none=>
   refine core (λb=>if b=a then some (.frz { cls:=.type "list",data:=.seq vs.toArray } (.lst (ns.map V.int))) else none) (λb=>?_) (.inl (.inr ⟨{ cls:=.type "list",data:=.seq vs.toArray },if_pos rfl⟩)) (λb u z=>?_) (λb z=>?_) λ_=>hk
   · by_cases hb:b=a
     · exact .inr ⟨_,_,if_pos hb⟩
     · exact .inl (if_neg hb)
   · by_cases hb:b=a
     · have z':=(if_pos hb).symm.trans z
       cases z'
       subst hb
       exact ⟨ha,by rw [List.length_map]; exact hl,vs,_,rv,ha⟩
     · have z':=(if_neg hb).symm.trans z
       cases z'
   · by_cases hb:b=a
     · exact hb
     · exact absurd (if_neg hb) z
theorem uB {l:PySem.W.OpenLaw} {n k:Nat} {q:Program} {loose:List Str} {XP:(Str->Option Value)->Heap->Prop} {YP:World->Heap->Prop} {d:DefRec} {K:Params->PySem.W.Frag} {CX:World->CXT} {sp:World->Sp} {x:Str}
   (hn:l.most=some n) (hn2:n<=sizeLine) (hdf:d.params.defaults=[]) (hr:dM k callerA)
   (hY:∀ (w:World) (h:Heap),YP w h->(K w.params).In h)
   (F:∀ (w:World) (mg:Str->Option Value) (fa:Addr) (h:Heap),(K w.params).In h->h.Ns mainGlobals mg->mg d.name=some (.ref fa) ->
     ∃ fd:FuncData,(∀ (s:Shared) (u:Value),BindsTo s fd ⟨[u],[]⟩ [(x,u)]) /\
       ∀ base:Heap,(K w.params).In base->base.Ns mainGlobals mg->aR l.prog w (K w.params) mg base (CX w) k fa fd [x] (sp w))
   (hsp:∀ (w:World) (H:Hp) (a:Addr) (ns:List Int),ns.length<=n->vW H->SqL (K w.params) H a (ns.map V.int)->sp w [.ref a] H (λv _=>v=.bl true) λ_ _ _=>False)
   (hCX:∀ (w:World) (H:Hp) (s:Shared) (e:Value) (s':Shared),CX w [] H s (λ_ _ _=>False) e s'->False) :
   PySem.W.WalkO q loose XP YP l.row.toRowW d [] (λf vs=>PySem.call f vs):=by
 refine Att.lB hn hdf λw s₀ s₁ mg mb fa o pm cd doc a vs ns G Y ho hd hcd hmg hobj hints hlen hg=>?_
 have KX:=hY w _ Y
 obtain ⟨fd,hb,hF⟩:=F w mg fa _ KX G.T.g hmg
 exact qh KX G.T.g G.T.b G.T.builtins G.T.nolimit hg hobj hints (Nat.le_trans hlen hn2) hr hF hb (λH hO hS=>hsp w H a ns hlen hO hS) λH e s'=>hCX w H s₁ e s'
noncomputable def cg (s:Stmt):Arguments:=match s with
 | .FunctionDef _ a _ _ _ _ _ _ _ _=>a
 | _=>{ posonlyargs:=[],args:=[],vararg:=none,kwonlyargs:=[],kw_defaults:=[],kwarg:=none,defaults:=[] }
noncomputable def bL (s:Stmt):List Stmt:=match s with
 | .FunctionDef _ _ b _ _ _ _ _ _ _=>b
 | _=>[]
noncomputable def ah (s:Stmt):Scope:=match s with
 | .FunctionDef _ _ _ _ _ _ sc _ _ _=>sc
 | _=>{ kind:=.function,names:=[],isGenerator:=false,isCoroutine:=false }
noncomputable abbrev CX0:CXT:=λ_ _ _ _ _ _=>False
noncomputable abbrev E0:XK:=λ_ _ _=>False
theorem xi {X:Cx}:Passes CX0 X E0:=λ_ _ _ _ _ _ _ h=>h.elim
structure Fun (K:PySem.W.Frag) (x qual:Str) (st:Stmt) (f:Addr) (fd:FuncData):Prop where
 ex:∃ (oc:Value) (od:Option Addr) (dV kV doc pm:Value) (an:Option Addr) (cdv ct:Value) (osl:Array (Option Value)),
   fd=PySem.W.fnOf x qual (cg st) (bL st) (ah st) dV kV doc pm an cdv ct/\K.lookup f=some ⟨oc,od,.func fd,osl⟩/\PySem.W.codeIn K cdv qual=true
 kp:PySem.W.keepIn K (.ref f)=true
section
variable {P:Program} {w:World} {K:PySem.W.Frag} {mg:Str->Option Value} {base:Heap}
theorem Fun.ok {x qual:Str} {st:Stmt} {f:Addr} {fd:FuncData} {N ps:List Str} {k:Nat} {sp:Sp} (F:Fun K x qual st f fd) (S:au N ps (ah st)) (len:∀ vs H Q E,sp vs H Q E->vs.length=ps.length)
   (hbody:∀ (cdv:Value) (A:Around) (outer:List Env) (s:Shared) (H:Hp) (vs:List V) (Q:VK) (E:XK),dM k (A.deeper (envOfC qual (ah st) s.heap.objs.size f cdv))->sp vs H Q E ->
     ∃ t,PSs (mF CX0 P w K mg base N qual (ah st) f cdv A outer s H E).nox (bL st) t/\t { nx:=λ_ H'=>Q .non H',rt:=Q } (start N vs) H):aR P w K mg base CX0 (k + 1) f fd ps sp:=by
 obtain ⟨oc,od,dV,kV,doc,pm,an,cdv,ct,osl,rfl,lk,hcd⟩:=F.ex
 refine xD lk hcd S len λA outer s H vs Q E hr hsp=>?_
 obtain ⟨t,h,q⟩:=hbody cdv A outer s H vs Q E hr hsp
 exact ⟨t,h.nox,q⟩
theorem Fun.binds {x qual:Str} {st:Stmt} {f:Addr} {fd:FuncData} {ps:List Str} (_:Fun K x qual st f fd) (h:∀ us:List Value,us.length=ps.length->bindArgs fd ⟨us,[]⟩=pure (ps.zip us)):Binds K fd ps []:=.all h
theorem mO {x qual:Str} {st:Stmt} {f:Addr} {oc:Value} {od an:Option Addr} {osl:Array (Option Value)} {dV kV doc pm cdv ct:Value} (l:K.lookup f=some ⟨oc,od,.func (PySem.W.fnOf x qual (cg st) (bL st) (ah st) dV kV doc pm an cdv ct),osl⟩)
   (c:PySem.W.codeIn K cdv qual=true) (k:PySem.W.keepIn K (.ref f)=true):Fun K x qual st f (PySem.W.fnOf x qual (cg st) (bL st) (ah st) dV kV doc pm an cdv ct):=⟨⟨oc,od,dV,kV,doc,pm,an,cdv,ct,osl,rfl,l,c⟩,k⟩
end
theorem jB {n:Nat} (h:n<=1000):n < sizeLine:=Nat.lt_of_le_of_lt h (by decide)
section
variable {X:Cx}
end
theorem uk {A B:Prop} (h:B):if false=true then A else B:=by
 rw [if_neg Bool.false_ne_true]
 exact h
theorem tM {A B:Prop} (h:A):if true=true then A else B:=by
 rw [if_pos rfl]
 exact h
noncomputable def aq (H H':Hp):Prop:=∀ b o,H b=some o->H' b=some o
theorem aq.refl (H:Hp):aq H H:=λ_ _ h=>h
theorem aq.trans {H H1 H2:Hp} (a:aq H H1) (b:aq H1 H2):aq H H2:=λc o h=>b c o (a c o h)
theorem aq.free {H H':Hp} (e:aq H H') {l:Addr} (h:H' l=Option.none):H l=Option.none:=by
 cases q:H l with
 | none=>rfl
 | some o=>
   rw [e l o q] at h
   cases h
theorem aq.seq {K:PySem.W.Frag} {H H':Hp} {a:Addr} {xs:List V} (e:aq H H') (h:SqL K H a xs):SqL K H' a xs:=by
 rcases h with (h | ⟨o,h⟩) | h
 · exact .inl (.inl (e _ _ h))
 · exact .inl (.inr ⟨o,e _ _ h⟩)
 · exact .inr h
end L2
set_option linter.all false
set_option maxRecDepth 100000
namespace Hx
open PySem PySem.Spec PyProof.Rows
structure Kp (old:Addr->Prop) (fs:List Addr) (h h':Heap):Prop where
 keep:∀ b o,old b->b ∉ fs->h.get? b=some o->h'.get? b=some o
 slot:∀ b o,old b->h.get? b=some o->∃ sl,h'.get? b=some { o with slots:=sl }
theorem Kp.trans {old:Addr->Prop} {fs:List Addr} {h h1 h2:Heap} (a:Kp old fs h h1) (b:Kp old fs h1 h2):Kp old fs h h2:=
 ⟨λx o q n e=>b.keep x o q n (a.keep x o q n e),λx o q e=>let ⟨_,e1⟩:=a.slot x o q e; let ⟨sl,e2⟩:=b.slot x _ q e1; ⟨sl,e2⟩⟩
section
variable {M:Model} {A:Around} {E:Value->Shared->Prop} {s:Shared}
end
end Hx
namespace Hx
open PySem PySem.Spec PySem.Calls PyProof.Rows PySem.W
section
variable {prog:Program} {w:World} {A:Around} {E:Value->Shared->Prop} {s:Shared} {K:Frag} {x D:Addr} {ox:Obj}
end
end Hx
namespace Hx
open PySem PySem.Spec PySem.Calls PyProof.Rows PySem.W L2
section
variable {X:Cx} {x:Str} {C S:Addr} {np cpos pos:Pos} {e:Expr} {es:List Expr} {t:TA}
end
section
variable {fs fs' ch:List Addr} {H H1:Hp} {h h1 h2:Heap} {old:Addr->Prop} {P:Program} {w:World} {a:Addr}
end
theorem there {P:Program} {w:World} {H:Hp} {h:Heap} {a:Addr} {o:HO} (x:bo P w H h a o):∃ u,h.get? a=some u:=by
 cases o with
 | lst xs=>obtain ⟨_,_,_,_,e⟩:=x; exact ⟨_,e⟩
 | tup xs=>obtain ⟨_,_,_,o,e,_⟩:=x; exact ⟨_,e⟩
 | dK kvs=>obtain ⟨_,_,_,_,o,_,_,e,_⟩:=x; exact ⟨_,e⟩
 | dT kvs=>obtain ⟨_,_,_,_,o,_,_,e,_⟩:=x; exact ⟨_,e⟩
 | set S n=>obtain ⟨o,_,_,_,e,_⟩:=x; exact ⟨_,e⟩
 | ins C dx fs=>obtain ⟨_,_,_,e,_⟩:=x; exact ⟨_,e⟩
 | own y=>exact x
 | xd fs=>obtain ⟨_,⟨o,_,_,e,_⟩,_⟩:=x; exact ⟨_,e⟩
 | met f y=>exact ⟨_,x⟩
 | rng lo hi=>obtain ⟨_,_,_,e⟩:=x; exact ⟨_,e⟩
 | frz o u=>exact ⟨_,x.1⟩
 | tbl ps=>exact ⟨_,x⟩
 | ext φ=>exact x.2.1
section
variable {P:Program} {w:World} {K:Frag} {mg:Str->Option Value} {base:Heap} {N:List Str} {qual:Str} {scope:Scope} {f:Addr} {cd:Value} {A:Around} {outer:List Env} {s0:Shared} {H0:Hp} {E:XK} {cl:Nat->Addr}
end
section
variable {X:Cx} {pins:List (Addr × Obj)} {σ:L2.St} {H:Hp} {s:Shared} {a:Addr}
noncomputable abbrev XP (X:Cx) (pins:List (Addr × Obj)) (E:Value->Shared->Prop):Cx:={ X with pn:=X.pn++pins,xe:=E }
end
section
variable {X:Cx} {cl:Nat->Addr} {ks:List Nat} {n sm:Str} {i:Nat} {S:Addr} {ret:Expr} {psm pr ph pos:Pos} {body:List Stmt} {tb:(Nat->Hp->Prop)->TS} {tr:Addr->Obj->TE}
end
end Hx
namespace Ev
open PySem PySem.Spec PyProof.Rows L2
structure Bx where
 p:PySem.W.Frag->Hp->Addr->Prop
 mono:∀ {K:PySem.W.Frag} {H H':Hp} {a:Addr},aq H H'->p K H a->p K H' a
 isd:∀ {K:PySem.W.Frag} {H:Hp} {a:Addr},p K H a->∃ o:HO,H a=some o/\∀ (P:Program) (w:World) (H':Hp) (h:Heap),bo P w H' h a o->∃ ob,h.get? a=some ob/\ob.cls=.type "dict"
inductive D where
 | non | bl (b:Bool) | int (i:Int) | str (x:Str) | tup (xs:List D) | lst (xs:List D) | box (x:Bx)
noncomputable instance:Inhabited D:=⟨.non⟩
mutual
inductive Den (K:PySem.W.Frag) (H:Hp):V->D->Prop where
 | non:Den K H .non .non
 | bl {b:Bool}:Den K H (.bl b) (.bl b)
 | int {i:Int}:Den K H (.int i) (.int i)
 | str {x:Str}:Den K H (.str x) (.str x)
 | tup {a:Addr} {vs:List V} {ds:List D} (h:SqT K H a vs) (r:ax K H vs ds):Den K H (.ref a) (.tup ds)
 | lst {a:Addr} {vs:List V} {ds:List D} (h:SqL K H a vs) (r:ax K H vs ds):Den K H (.ref a) (.lst ds)
 | box {a:Addr} {x:Bx} (h:x.p K H a):Den K H (.ref a) (.box x)
inductive ax (K:PySem.W.Frag) (H:Hp):List V->List D->Prop where
 | nil:ax K H [] []
 | cons {v:V} {d:D} {vs:List V} {ds:List D} (h:Den K H v d) (r:ax K H vs ds):ax K H (v :: vs) (d :: ds)
end
section
variable {K:PySem.W.Frag} {H H':Hp}
theorem bD (e:aq H H') {a:Addr} {xs:List V} (h:SqT K H a xs):SqT K H' a xs:=by
 rcases h with (h | ⟨o,h⟩) | h
 · exact .inl (.inl (e _ _ h))
 · exact .inl (.inr ⟨o,e _ _ h⟩)
 · exact .inr h
theorem aK (e:aq H H') {a:Addr} {xs:List V} (h:SqL K H a xs):SqL K H' a xs:=e.seq h
mutual
theorem Den.mono (e:aq H H'):∀ {v:V} {d:D},Den K H v d->Den K H' v d
 | _,_,.non=>.non
 | _,_,.bl=>.bl
 | _,_,.int=>.int
 | _,_,.str=>.str
 | _,_,.tup h r=>.tup (bD e h) (ax.mono e r)
 | _,_,.lst h r=>.lst (aK e h) (ax.mono e r)
 | _,_,.box (x:=x) h=>.box (x.mono e h)
theorem ax.mono (e:aq H H'):∀ {vs:List V} {ds:List D},ax K H vs ds->ax K H' vs ds
 | _,_,.nil=>.nil
 | _,_,.cons h r=>.cons (Den.mono e h) (ax.mono e r)
end
theorem ax.length:∀ {vs:List V} {ds:List D},ax K H vs ds->vs.length=ds.length
 | _,_,.nil=>rfl
 | _,_,.cons _ r=>congrArg (· + 1) r.length
theorem ax.get:∀ {vs:List V} {ds:List D} {i:Nat} {d:D},ax K H vs ds->ds[i]?=some d->∃ v,vs[i]?=some v/\Den K H v d
 | _,_,_,_,.nil,e=>by simp at e
 | _,_,0,_,.cons h _,e=>by simp at e; subst e; exact ⟨_,rfl,h⟩
 | _,_,i + 1,d,.cons _ r,e=>by
   obtain ⟨v,h1,h2⟩:=ax.get (i:=i) (d:=d) r (by simpa using e)
   exact ⟨v,by simpa using h1,h2⟩
theorem ax.append:∀ {xs ys:List V} {ds es:List D},ax K H xs ds->ax K H ys es->ax K H (xs++ys) (ds++es)
 | _,_,_,_,.nil,s=>s
 | _,_,_,_,.cons h r,s=>.cons h (ax.append r s)
theorem ax.take:∀ {xs:List V} {ds:List D} (n:Nat),ax K H xs ds->ax K H (xs.take n) (ds.take n)
 | _,_,0,_=>.nil
 | _,_,_ + 1,.nil=>.nil
 | _,_,n + 1,.cons h r=>.cons h (ax.take n r)
theorem ax.drop:∀ {xs:List V} {ds:List D} (n:Nat),ax K H xs ds->ax K H (xs.drop n) (ds.drop n)
 | _,_,0,r=>r
 | _,_,_ + 1,.nil=>.nil
 | _,_,n + 1,.cons _ r=>ax.drop n r
end
noncomputable def aE (i j:Int):Prop:=i.natAbs.log2 < 64\/j.natAbs.log2 < 64\/(i.natAbs.log2 < 1000000/\j.natAbs.log2 < 1000000)
noncomputable def aH (j:Int):Prop:=j ≠ 0/\j.natAbs.log2 < 9000
theorem av {H:Hp} {p:Addr} (h:H p=none) (o:HO):aq H (upd H p o):=λb u q=>by rw [aF (aJ q h)]; exact q
noncomputable def Ite (K:PySem.W.Frag) (a:Addr):L2.It:=
 ⟨λi H=>∃ xs x,SqL K H a xs/\xs[i]?=some x,λi H v H'=>∃ p x,H p=none/\v=.ref p/\H'=upd H p (.tup [.int (i:Nat),x])/\∀ xs,SqL K H a xs->xs[i]?=some x,λi H=>∃ xs,SqL K H a xs/\xs.length<=i⟩
theorem oS {P:Program} {w:World} {K:PySem.W.Frag} {ts:List Expr} {q:Nat} {tp:Pos} (a e it:Addr) (hne:e ≠ it) :
   Turn P w K false (.Tuple ts q tp) (Ite K a) [e,it] e (λi h=>(∃ old,IsEnum h e it (i:Nat) old)/\h.IsListIter it a i) where
 mem:=by simp
 obj:=λi h st b hb=>by
   obtain ⟨⟨old,h1⟩,o,h2,h3,h4⟩:=st
   rcases List.mem_cons.mp hb with rfl | hb
   · exact ⟨_,h1,λv z=>nomatch z⟩
   · have z:b=it:=by simpa using hb
     subst z
     exact ⟨o,h2,λv z=>by rw [h4] at z; cases z⟩
 keep:=λi h h' st k=>by
   obtain ⟨⟨old,h1⟩,o,h2,h3,h4⟩:=st
   exact ⟨⟨old,k e (by simp) _ h1⟩,o,k it (by simp) o h2,h3,h4⟩
 item:=by
   intro X hP hw hK hc i pins s σ H E I hf st hg
   subst hP hw hK
   obtain ⟨xs,x,hq,hx⟩:=hg
   obtain ⟨its,rv,p,hz⟩:=I.list hq
   obtain ⟨u,hu,ru⟩:=rv.get hx
   obtain ⟨⟨old,h1⟩,h2⟩:=st
   have fe:=hf e (by simp)
   have fi:=hf it (by simp)
   refine wpAny_pyNext_enum_item h1 h2 p.isList (x:=u) (by simpa using hu) hne λh' g1 g2 g3 g4 g5=>⟨_,rfl,?_⟩
   refine wpAny_letOwnedTupleGo_enum (s:={ s with heap:=h',toks:=s.toks + 1 }) g1 λh2' k1 k2=>?_
   have hn:H s.heap.objs.size=none:=I.hok.fresh (Nat.le_refl _)
   have le1:e < s.heap.objs.size:=Heap.lt_size h1
   have le2:it < s.heap.objs.size:=by obtain ⟨o,z,_⟩:=h2; exact Heap.lt_size z
   have kp:∀ b o,b ≠ e->b ≠ it->s.heap.get? b=some o->h2'.get? b=some o:=λb o b1 b2 z=>(k2.2 b b1).trans (g5 b o b1 b2 z)
   have nt:h2'.get? s.heap.objs.size=some { cls:=.type "tuple",data:=.seq #[.int (i:Nat) s.toks,u] }:=(k2.2 _ (Nat.ne_of_gt le1)).trans g3
   have ne1:∀ b v,H b=some v->b ≠ e:=λb v z q=>by rw [q,fe.1] at z; cases z
   have ne2:∀ b v,H b=some v->b ≠ it:=λb v z q=>by rw [q,fi.1] at z; cases z
   have hok0:HOk X.prog X.w H h2':=λb v z=>(I.hok b v z).iz (λc v' hc' q=>kp c v' (by
       rcases hc' with hc' | hc'
       · rw [hc']; exact ne1 b v z
       · exact ne1 c _ hc') (by
       rcases hc' with hc' | hc'
       · rw [hc']; exact ne2 b v z
       · exact ne2 c _ hc') q) (λ_ q=>q) λ_ _ q=>q
   have hok1:HOk X.prog X.w (upd H s.heap.objs.size (.tup [.int (i:Nat),x])) h2':=λb v z=>by
     by_cases hb:b=s.heap.objs.size
     · subst hb
       rw [aL] at z; cases z
       exact ⟨(by show 2<=sizeLine; decide),[.int (i:Nat) s.toks,u],.cons ⟨_,rfl⟩ (.cons ru .nil),_,nt,rfl,_,rfl⟩
     · rw [aF hb] at z
       exact (hok0 b v z).iz (λc v' _ q=>q) (λc q=>by rw [aF (aJ q hn)]; exact q) λc ys q=>by rw [aF (aJ q hn)]; exact q
   have I1:Inv X pins σ (upd H s.heap.objs.size (.tup [.int (i:Nat),x])) { s with heap:=h2',toks:=s.toks + 1 }:=by
     refine I.step (g':=s.gens) (d':=s.drawn) (ch:=[e,it]) (λb hb=>?_) (λb o _ _ hc' z _=>kp b o (λq=>hc' (by simp [q])) (λq=>hc' (by simp [q])) z)
       (λb o _ _ hc' z _=>⟨o.slots,kp b o (λq=>hc' (by simp [q])) (λq=>hc' (by simp [q])) z⟩)
       (λb o hc' z n=>by rw [aF (Nat.ne_of_lt (Heap.lt_size z))]; exact n) (λb o hc' z=>⟨o,kp b o (λq=>hc' (by simp [q])) (λq=>hc' (by simp [q])) z⟩)
       (λb ys z=>by rw [aF (aJ z hn)]; exact z) (λb o u z=>by rw [aF (aJ z hn)]; exact z) (λb ps z=>⟨#[],by rw [aF (aJ z hn),z]; simp⟩) (λm hm=>?_) hok1 I.bare
     · rcases List.mem_cons.mp hb with rfl | hb
       · exact ⟨fe.2.2.2.1,fe.2.1,fe.2.2.2.2.1,fe.2.2.2.2.2⟩
       · have z:b=it:=by simpa using hb
         subst z
         exact ⟨fi.2.2.2.1,fi.2.1,fi.2.2.2.2.1,fi.2.2.2.2.2⟩
     · obtain ⟨o,es,ep,ho,r⟩:=hm
       exact ⟨o,es,ep,kp _ o (Ne.symm fe.2.1) (Ne.symm fi.2.1) ho,r⟩
   refine ⟨.ref s.heap.objs.size,_,I1,rfl,⟨s.heap.objs.size,x,hn,rfl,rfl,λys hy=>by rw [I.eg hy hq]; exact hx⟩,⟨⟨_,k1⟩,?_⟩,λb hb=>?_⟩
   · obtain ⟨o,z1,z2,z3⟩:=g2
     exact ⟨o,(k2.2 it (Ne.symm hne)).trans z1,z2,z3⟩
   · rcases List.mem_cons.mp hb with rfl | hb
     · rw [aF (Nat.ne_of_lt le1)]; exact fe.1
     · have z:b=it:=by simpa using hb
       subst z
       rw [aF (Nat.ne_of_lt le2)]; exact fi.1
 done:=by
   intro X hP hw hK hc i pins s σ H E I hf st hg
   subst hP hw hK
   obtain ⟨xs,hq,hx⟩:=hg
   obtain ⟨its,rv,p,hz⟩:=I.list hq
   obtain ⟨⟨old,h1⟩,h2⟩:=st
   obtain ⟨f0,f1,f2,f3,f4,f5⟩:=hf it (by simp)
   have hl:=rv.length
   exact wpAny_pyNext_enum_end (I.ok.hd hc.calm) h1 h2 p.isList (by simp; omega) λh' eb=>⟨rfl,I.turned (t':=s.toks) (λb o hb z=>eb b o hb z) f0 f1 f3 f4 f5⟩
 self:=λ_ _ _ _ _ st h=>by
   obtain ⟨⟨old,h1⟩,_⟩:=st
   exact wpAny_pyIter_enum h1 h
section
variable {X:Cx}
noncomputable def xS (K:PySem.W.Frag) (ta:TA):TI:=λσ H R=>ta σ H λvs H1=>∃ a,vs=[.ref a]/\(∃ xs,SqL K H1 a xs)/\R (Ite K a) H1
theorem pJ:bootBuiltins "enumerate" = some (.type "enumerate"):=by decide +kernel
theorem oi {ts:List Expr} {q:Nat} {tp:Pos} {a:Expr} {ta:TA} {p pos:Pos} (hc:X.calm=true) (hg:Gl X "enumerate") (hm:X.mg "enumerate" = none) (ha:PA X [a] ta) (hs:starEach [a] X.env=[(false,eval a X.env)]) :
   PI X (.Tuple ts q tp) (.Call (.Name "enumerate" p) [a] [] pos) (xS X.K ta):=by
 intro pins s σ H R I h
 refine Call_ (cZ I hg hm pJ (PyProof.Rows.callWith_type1 (thn (ha pos pins s σ H _ I h) λus s1 ⟨vs,H1,I1,r1,q1⟩=>?_) hs rfl))
 obtain ⟨l,e,⟨xs,hq⟩,q⟩:=q1
 subst e
 obtain ⟨u,rfl,ru⟩:=vals1 r1
 cases ru
 obtain ⟨its,rv,pl,hz⟩:=I1.list hq
 refine call_enumerate_list pl.isList λh' g1 g2 g3 g4=>?_
 refine wpAny_pyIter_enum (s:={ s1 with heap:=h' }) g1 ?_
 have I2:Inv X pins σ H1 { s1 with heap:=h' }:=I1.kept (t':=s1.toks) g4
 have n1:H1 (s1.heap.objs.size + 1)=none:=I1.hok.fresh (by omega)
 have n2:H1 s1.heap.objs.size=none:=I1.hok.fresh (Nat.le_refl _)
 refine ⟨false,s1.heap.objs.size + 1,[s1.heap.objs.size + 1,s1.heap.objs.size],_,_,H1,rfl,I2,.inl hc,oS l (s1.heap.objs.size + 1) s1.heap.objs.size (Nat.succ_ne_self _),⟨⟨_,g1⟩,g2⟩,λb hb=>?_,q⟩
 rcases List.mem_cons.mp hb with rfl | hb
 · exact I1.kI (by omega) n1
 · have z:b=s1.heap.objs.size:=by simpa using hb
   subst z
   exact I1.kI (Nat.le_refl _) n2
end
noncomputable def Itz (K:PySem.W.Frag) (a b:Addr):L2.It:=
 ⟨λi H=>∃ xs ys x y,SqL K H a xs/\SqL K H b ys/\xs[i]?=some x/\ys[i]?=some y,
  λi H v H'=>∃ p x y,H p=none/\v=.ref p/\H'=upd H p (.tup [x,y])/\(∀ xs,SqL K H a xs->xs[i]?=some x)/\∀ ys,SqL K H b ys->ys[i]?=some y,
  λi H=>∃ xs ys,SqL K H a xs/\SqL K H b ys/\(xs.length<=i\/ys.length<=i)⟩
noncomputable def zSt (a b z TI TO i1 i2:Addr) (i:Nat) (h:Heap):Prop:=
 IsZip h z TI TO .none/\IsPair h TI (.ref i1) (.ref i2)/\(∃ u v,IsPair h TO u v)/\h.IsListIter i1 a i/\h.IsListIter i2 b i
theorem jC {h:Heap} {a b z TI TO i1 i2:Addr} {i:Nat} {xs ys:Array Value} (n:TI ≠ TO) (m:i1 ≠ i2) (s:zSt a b z TI TO i1 i2 i h) (l1:h.IsList a xs) (l2:h.IsList b ys):ZipApart z TI TO i1 i2 a b:=by
 obtain ⟨h1,h2,⟨u,v,h3⟩,⟨o4,h4,c4,d4⟩,⟨o5,h5,c5,d5⟩⟩:=s
 obtain ⟨o6,h6,c6,n6,d6⟩:=l1
 obtain ⟨o7,h7,c7,n7,d7⟩:=l2
 have kk:∀ {x y:Addr} {o p:Obj},h.get? x=some o->h.get? y=some p->o.cls ≠ p.cls->x ≠ y:=λe1 e2 c q=>by subst q; rw [e1] at e2; cases e2; exact c rfl
 have cz:∀ {s t:String},s ≠ t->Value.type s ≠ Value.type t:=λn q=>n (by cases q; rfl)
 refine ⟨kk h2 h1 (cz (by decide)),kk h3 h1 (cz (by decide)),kk h4 h1 ?_,kk h5 h1 ?_,n,kk h2 h4 ?_,kk h2 h5 ?_,kk h3 h4 ?_,kk h3 h5 ?_,m,kk h6 h1 ?_,kk h6 h3 ?_,kk h6 h4 ?_,kk h6 h5 ?_,kk h7 h1 ?_,kk h7 h3 ?_,kk h7 h4 ?_,kk h7 h5 ?_⟩
 all_goals first | (rw [c4]; exact cz (by decide)) | (rw [c5]; exact cz (by decide)) | (rw [c6]; exact cz (by decide)) | (rw [c7]; exact cz (by decide)) | (rw [c6,c4]; exact cz (by decide)) | (rw [c6,c5]; exact cz (by decide)) | (rw [c7,c4]; exact cz (by decide)) | (rw [c7,c5]; exact cz (by decide))
theorem qU {P:Program} {w:World} {K:PySem.W.Frag} {ts:List Expr} {q:Nat} {tp:Pos} (a b z TI TO i1 i2:Addr) (nT:TI ≠ TO) (nI:i1 ≠ i2) :
   Turn P w K false (.Tuple ts q tp) (Itz K a b) [z,TI,TO,i1,i2] z (zSt a b z TI TO i1 i2) where
 mem:=by simp
 obj:=λi h st c hb=>by
   obtain ⟨h1,h2,⟨u,v,h3⟩,⟨o4,h4,c4,d4⟩,⟨o5,h5,c5,d5⟩⟩:=st
   simp only [List.mem_cons,List.not_mem_nil,or_false] at hb
   rcases hb with rfl | rfl | rfl | rfl | rfl
   · exact ⟨_,h1,λv z=>nomatch z⟩
   · exact ⟨_,h2,λv z=>nomatch z⟩
   · exact ⟨_,h3,λv z=>nomatch z⟩
   · exact ⟨_,h4,λv z=>by rw [d4] at z; cases z⟩
   · exact ⟨_,h5,λv z=>by rw [d5] at z; cases z⟩
 keep:=λi h h' st k=>by
   obtain ⟨h1,h2,⟨u,v,h3⟩,⟨o4,h4,c4,d4⟩,⟨o5,h5,c5,d5⟩⟩:=st
   exact ⟨k z (by simp) _ h1,k TI (by simp) _ h2,⟨u,v,k TO (by simp) _ h3⟩,⟨o4,k i1 (by simp) _ h4,c4,d4⟩,⟨o5,k i2 (by simp) _ h5,c5,d5⟩⟩
 item:=by
   intro X hP hw hK hc i pins s σ H E I hf st hg
   subst hP hw hK
   obtain ⟨xs,ys,x,y,hq1,hq2,hx,hy⟩:=hg
   obtain ⟨its1,rv1,p1,hz1⟩:=I.list hq1
   obtain ⟨its2,rv2,p2,hz2⟩:=I.list hq2
   obtain ⟨u1,hu1,ru1⟩:=rv1.get hx
   obtain ⟨u2,hu2,ru2⟩:=rv2.get hy
   have D:=jC nT nI st p1.isList p2.isList
   obtain ⟨h1,h2,⟨u,v,h3⟩,h4,h5⟩:=st
   refine wpAny_pyNext_zip_item D h1 h2 h3 h4 h5 p1.isList p2.isList (x:=u1) (y:=u2) (by simpa using hu1) (by simpa using hu2) λh' g1 g2 g3 g4 g5 g6 g7=>⟨_,rfl,?_⟩
   refine wpAny_letOwnedTupleGo_zip (s:={ s with heap:=h' }) g1 λh2' k1 k2=>?_
   have hn:H s.heap.objs.size=none:=I.hok.fresh (Nat.le_refl _)
   have le1:z < s.heap.objs.size:=Heap.lt_size h1
   have lt2:TI < s.heap.objs.size:=Heap.lt_size h2
   have lt3:TO < s.heap.objs.size:=Heap.lt_size h3
   have lt4:i1 < s.heap.objs.size:=by obtain ⟨o,z,_⟩:=h4; exact Heap.lt_size z
   have lt5:i2 < s.heap.objs.size:=by obtain ⟨o,z,_⟩:=h5; exact Heap.lt_size z
   have kp:∀ c o,c ≠ z->c ≠ TO->c ≠ i1->c ≠ i2->s.heap.get? c=some o->h2'.get? c=some o:=λc o b1 b2 b3 b4 e=>(k2.2 c b1).trans (g7 c o b1 b2 b3 b4 e)
   have nt:IsPair h2' s.heap.objs.size u1 u2:=(k2.2 _ (Nat.ne_of_gt le1)).trans g5
   have ne:∀ c,c ∈ [z,TI,TO,i1,i2]->∀ d v,H d=some v->d ≠ c:=λc hc d v e q=>by
     have:=(hf c hc).1
     rw [q,this] at e; cases e
   have hok0:HOk X.prog X.w H h2':=λd v e=>(I.hok d v e).iz (λc v' hc' q=>kp c v'
       (by rcases hc' with hc' | hc'
           · rw [hc']; exact ne z (by simp) d v e
           · exact ne z (by simp) c _ hc')
       (by rcases hc' with hc' | hc'
           · rw [hc']; exact ne TO (by simp) d v e
           · exact ne TO (by simp) c _ hc')
       (by rcases hc' with hc' | hc'
           · rw [hc']; exact ne i1 (by simp) d v e
           · exact ne i1 (by simp) c _ hc')
       (by rcases hc' with hc' | hc'
           · rw [hc']; exact ne i2 (by simp) d v e
           · exact ne i2 (by simp) c _ hc') q) (λ_ q=>q) λ_ _ q=>q
   have hok1:HOk X.prog X.w (upd H s.heap.objs.size (.tup [x,y])) h2':=λd v e=>by
     by_cases hb:d=s.heap.objs.size
     · subst hb
       rw [aL] at e; cases e
       exact ⟨(by show 2<=sizeLine; decide),[u1,u2],.cons ru1 (.cons ru2 .nil),_,nt,rfl,_,rfl⟩
     · rw [aF hb] at e
       exact (hok0 d v e).iz (λc v' _ q=>q) (λc q=>by rw [aF (aJ q hn)]; exact q) λc ys q=>by rw [aF (aJ q hn)]; exact q
   have I1:Inv X pins σ (upd H s.heap.objs.size (.tup [x,y])) { s with heap:=h2' }:=by
     refine I.step (t':=s.toks) (g':=s.gens) (d':=s.drawn) (ch:=[z,TO,i1,i2]) (λc hb=>?_) (λc o _ _ hc' e _=>kp c o (λq=>hc' (by simp [q])) (λq=>hc' (by simp [q])) (λq=>hc' (by simp [q])) (λq=>hc' (by simp [q])) e)
       (λc o _ _ hc' e _=>⟨o.slots,kp c o (λq=>hc' (by simp [q])) (λq=>hc' (by simp [q])) (λq=>hc' (by simp [q])) (λq=>hc' (by simp [q])) e⟩)
       (λc o hc' e n=>by rw [aF (Nat.ne_of_lt (Heap.lt_size e))]; exact n) (λc o hc' e=>⟨o,kp c o (λq=>hc' (by simp [q])) (λq=>hc' (by simp [q])) (λq=>hc' (by simp [q])) (λq=>hc' (by simp [q])) e⟩)
       (λc ys e=>by rw [aF (aJ e hn)]; exact e) (λc o u e=>by rw [aF (aJ e hn)]; exact e) (λc ps e=>⟨#[],by rw [aF (aJ e hn),e]; simp⟩) (λm hm=>?_) hok1 I.bare
     · have hb':c ∈ [z,TI,TO,i1,i2]:=by
         simp only [List.mem_cons,List.not_mem_nil,or_false] at hb ⊢
         rcases hb with h | h | h | h <;> simp [h]
       have fe:=hf c hb'
       exact ⟨fe.2.2.2.1,fe.2.1,fe.2.2.2.2.1,fe.2.2.2.2.2⟩
     · obtain ⟨o,es,ep,ho,r⟩:=hm
       exact ⟨o,es,ep,kp _ o (Ne.symm (hf z (by simp)).2.1) (Ne.symm (hf TO (by simp)).2.1) (Ne.symm (hf i1 (by simp)).2.1) (Ne.symm (hf i2 (by simp)).2.1) ho,r⟩
   refine ⟨.ref s.heap.objs.size,_,I1,rfl,⟨s.heap.objs.size,x,y,hn,rfl,rfl,λzs hy'=>by rw [I.eg hy' hq1]; exact hx,λzs hy'=>by rw [I.eg hy' hq2]; exact hy⟩,⟨k1,?_,⟨u1,u2,(k2.2 TO D.TOz).trans g2⟩,?_,?_⟩,λc hb=>?_⟩
   · exact kp TI _ D.TIz D.TITO D.TIi1 D.TIi2 h2
   · obtain ⟨o,z1,z2,z3⟩:=g3
     exact ⟨o,(k2.2 i1 D.i1z).trans z1,z2,z3⟩
   · obtain ⟨o,z1,z2,z3⟩:=g4
     exact ⟨o,(k2.2 i2 D.i2z).trans z1,z2,z3⟩
   · have fc:=(hf c hb).1
     have lt:c < s.heap.objs.size:=by
       simp only [List.mem_cons,List.not_mem_nil,or_false] at hb
       rcases hb with rfl | rfl | rfl | rfl | rfl <;> assumption
     rw [aF (Nat.ne_of_lt lt)]
     exact fc
 done:=by
   intro X hP hw hK hc i pins s σ H E I hf st hg
   subst hP hw hK
   obtain ⟨xs,ys,hq1,hq2,hx⟩:=hg
   obtain ⟨its1,rv1,p1,hz1⟩:=I.list hq1
   obtain ⟨its2,rv2,p2,hz2⟩:=I.list hq2
   have D:=jC nT nI st p1.isList p2.isList
   obtain ⟨h1,h2,⟨u,v,h3⟩,h4,h5⟩:=st
   have hl1:=rv1.length
   have hl2:=rv2.length
   refine wpAny_pyNext_zip_end (I.ok.hd hc.calm) D h1 h2 h3 h4 h5 p1.isList p2.isList (by
     rcases hx with hx | hx
     · left; simp; omega
     · right; simp; omega) λh' eb=>⟨rfl,?_⟩
   have ne:∀ c,c ∈ [z,TI,TO,i1,i2]->∀ d v,H d=some v->d ≠ c:=λc hc d v e q=>by
     have:=(hf c hc).1
     rw [q,this] at e; cases e
   have hok0:HOk X.prog X.w H h':=λd v e=>(I.hok d v e).iz (λc v' hc' q=>eb c v'
       (by rcases hc' with hc' | hc'
           · rw [hc']; exact ne z (by simp) d v e
           · exact ne z (by simp) c _ hc')
       (by rcases hc' with hc' | hc'
           · rw [hc']; exact ne TO (by simp) d v e
           · exact ne TO (by simp) c _ hc')
       (by rcases hc' with hc' | hc'
           · rw [hc']; exact ne i1 (by simp) d v e
           · exact ne i1 (by simp) c _ hc')
       (by rcases hc' with hc' | hc'
           · rw [hc']; exact ne i2 (by simp) d v e
           · exact ne i2 (by simp) c _ hc') q) (λ_ q=>q) λ_ _ q=>q
   refine I.step (t':=s.toks) (g':=s.gens) (d':=s.drawn) (ch:=[z,TO,i1,i2]) (λc hb=>?_) (λc o _ _ hc' e _=>eb c o (λq=>hc' (by simp [q])) (λq=>hc' (by simp [q])) (λq=>hc' (by simp [q])) (λq=>hc' (by simp [q])) e)
       (λc o _ _ hc' e _=>⟨o.slots,eb c o (λq=>hc' (by simp [q])) (λq=>hc' (by simp [q])) (λq=>hc' (by simp [q])) (λq=>hc' (by simp [q])) e⟩)
       (λc o hc' e n=>n) (λc o hc' e=>⟨o,eb c o (λq=>hc' (by simp [q])) (λq=>hc' (by simp [q])) (λq=>hc' (by simp [q])) (λq=>hc' (by simp [q])) e⟩)
       (λc ys e=>e) (λc o u e=>e) (λc ps e=>⟨#[],by rw [e]; simp⟩) (λm hm=>?_) hok0 I.bare
   · have hb':c ∈ [z,TI,TO,i1,i2]:=by
       simp only [List.mem_cons,List.not_mem_nil,or_false] at hb ⊢
       rcases hb with h | h | h | h <;> simp [h]
     have fe:=hf c hb'
     exact ⟨fe.2.2.2.1,fe.2.1,fe.2.2.2.2.1,fe.2.2.2.2.2⟩
   · obtain ⟨o,es,ep,ho,r⟩:=hm
     exact ⟨o,es,ep,eb _ o (Ne.symm (hf z (by simp)).2.1) (Ne.symm (hf TO (by simp)).2.1) (Ne.symm (hf i1 (by simp)).2.1) (Ne.symm (hf i2 (by simp)).2.1) ho,r⟩
 self:=λ_ _ _ _ _ st h=>wpAny_pyIter_zip st.1 h
section
variable {X:Cx}
noncomputable def vB (K:PySem.W.Frag) (ta:TA):TI:=λσ H R=>ta σ H λvs H1=>∃ a b,vs=[.ref a,.ref b]/\(∃ xs,SqL K H1 a xs)/\(∃ ys,SqL K H1 b ys)/\R (Itz K a b) H1
theorem ma {ts:List Expr} {q:Nat} {tp:Pos} {a b:Expr} {ta:TA} {p pos:Pos} (hc:X.calm=true) (hg:Gl X "zip") (hm:X.mg "zip" = none) (ha:PA X [a,b] ta) (hs:starEach [a,b] X.env=(false,eval a X.env) :: starEach [b] X.env) (hs2:starEach [b] X.env=[(false,eval b X.env)]) :
   PI X (.Tuple ts q tp) (.Call (.Name "zip" p) [a,b] [] pos) (vB X.K ta):=by
 intro pins s σ H R I h
 refine Call_ (cZ I hg hm boot_zip (PyProof.Rows.callWith_type1 (thn (ha pos pins s σ H _ I h) λus s1 ⟨vs,H1,I1,r1,q1⟩=>?_) hs (by rw [hs2]; rfl)))
 obtain ⟨l,l',e,⟨xs,hq1⟩,⟨ys,hq2⟩,q⟩:=q1
 subst e
 obtain ⟨u,u',rfl,ru,ru'⟩:=vals2 r1
 cases ru
 cases ru'
 obtain ⟨its1,rv1,pl1,hz1⟩:=I1.list hq1
 obtain ⟨its2,rv2,pl2,hz2⟩:=I1.list hq2
 refine call_zip_2 pl1.isList pl2.isList λh' g1 g2 g3 g4 g5 g6 g7=>?_
 refine wpAny_pyIter_zip (s:={ s1 with heap:=h' }) g1 ?_
 have I2:Inv X pins σ H1 { s1 with heap:=h' }:=I1.kept (t':=s1.toks) g7
 have nn:∀ j,H1 (s1.heap.objs.size + j)=none:=λj=>I1.hok.fresh (by omega)
 refine ⟨false,s1.heap.objs.size + 4,[s1.heap.objs.size + 4,s1.heap.objs.size + 2,s1.heap.objs.size + 3,s1.heap.objs.size,s1.heap.objs.size + 1],_,_,H1,rfl,I2,.inl hc,qU l l' (s1.heap.objs.size + 4) (s1.heap.objs.size + 2) (s1.heap.objs.size + 3) s1.heap.objs.size (s1.heap.objs.size + 1) (by simp) (Ne.symm (Nat.succ_ne_self _)),⟨g1,g2,⟨_,_,g3⟩,g4,g5⟩,λc hb=>?_,q⟩
 have hb':∃ j,c=s1.heap.objs.size + j:=by
   simp only [List.mem_cons,List.not_mem_nil,or_false] at hb
   rcases hb with h | h | h | h | h
   · exact ⟨_,h⟩
   · exact ⟨_,h⟩
   · exact ⟨_,h⟩
   · exact ⟨0,h⟩
   · exact ⟨_,h⟩
 obtain ⟨j,rfl⟩:=hb'
 exact I1.kI (Nat.le_add_right _ _) (nn j)
end
noncomputable def Itv (K:PySem.W.Frag) (a:Addr) (n:Nat):L2.It:=
 ⟨λi H=>i < n/\∃ xs x,SqL K H a xs/\xs[n - 1 - i]?=some x,λi H x H'=>H'=H/\∀ xs,SqL K H a xs->xs[n - 1 - i]?=some x,λi _=>n<=i⟩
theorem rN {P:Program} {w:World} {K:PySem.W.Frag} {tg:Expr} (a it:Addr) (n:Nat) :
   Turn P w K false tg (Itv K a n) [it] it (λi h=>i<=n/\h.IsRevIter it a ((n:Int) - 1 - (i:Int))) where
 mem:=by simp
 obj:=λi h st b hb=>by
   have e:b=it:=by simpa using hb
   subst e
   obtain ⟨o,e,c,d⟩:=st.2
   exact ⟨o,e,λv z=>by rw [d] at z; cases z⟩
 keep:=λi h h' st k=>⟨st.1,st.2.at λo e=>k it (by simp) o e⟩
 item:=by
   intro X hP hw hK hc i pins s σ H E I hf st hg
   subst hP hw hK
   obtain ⟨hi,xs,x,hq,hx⟩:=hg
   obtain ⟨its,rv,p,hz⟩:=I.list hq
   obtain ⟨u,hu,ru⟩:=rv.get hx
   obtain ⟨f0,f1,f2,f3,f4,f5⟩:=hf it (by simp)
   have st2:=st.2
   rw [show (n:Int) - 1 - (i:Int)=((n - 1 - i:Nat):Int) by omega] at st2
   refine wpAny_pyNext_rev_item st2 p.isList (x:=u) (by simpa using hu) λh' st' sb=>?_
   have I1:Inv X pins σ H { s with heap:=h' }:=I.turned (t':=s.toks) (λb o hb e=>(sb.2 b hb).trans e) f0 f1 f3 f4 f5
   obtain ⟨o,e,c,d⟩:=id st'
   refine ⟨u,rfl,lV (s:={ s with heap:=h' }) e c d (by decide) ⟨x,H,I1,ru,⟨rfl,λys hy=>by rw [I.eg hy hq]; exact hx⟩,⟨hi,?_⟩,λb hb=>(hf b hb).1⟩⟩
   rw [show (n:Int) - 1 - ((i + 1:Nat):Int)=((n - 1 - i:Nat):Int) - 1 by omega]
   exact st'
 done:=by
   intro X hP hw hK hc i pins s σ H E I hf st hg
   subst hP hw hK
   obtain ⟨f0,f1,f2,f3,f4,f5⟩:=hf it (by simp)
   have st2:=st.2
   have hg:n<=i:=hg
   rw [show (n:Int) - 1 - (i:Int)=-1 by have:=st.1; omega] at st2
   exact wpAny_pyNext_rev_end (I.ok.hd hc.calm) st2 λh' eb=>⟨rfl,I.turned (t':=s.toks) (λb o hb e=>eb b o hb e) f0 f1 f3 f4 f5⟩
 self:=λ_ _ _ _ _ st h=>wpAny_pyIter_revIter st.2 h
section
variable {X:Cx} {tg:Expr}
noncomputable def wJ (K:PySem.W.Frag) (ta:TA):TI:=λσ H R=>ta σ H λvs H1=>∃ a xs,vs=[.ref a]/\SqL K H1 a xs/\R (Itv K a xs.length) H1
theorem lu:bootBuiltins "reversed" = some (.type "reversed"):=by decide +kernel
theorem pT {a:Expr} {ta:TA} {p pos:Pos} (hc:X.calm=true) (hg:Gl X "reversed") (hm:X.mg "reversed" = none) (ha:PA X [a] ta) (hs:starEach [a] X.env=[(false,eval a X.env)]):PI X tg (.Call (.Name "reversed" p) [a] [] pos) (wJ X.K ta):=by
 intro pins s σ H R I h
 refine Call_ (cZ I hg hm lu (PyProof.Rows.callWith_type1 (thn (ha pos pins s σ H _ I h) λus s1 ⟨vs,H1,I1,r1,q1⟩=>?_) hs rfl))
 obtain ⟨l,xs,e,hq,q⟩:=q1
 subst e
 obtain ⟨u,rfl,ru⟩:=vals1 r1
 cases ru
 obtain ⟨its,rv,pl,hz⟩:=I1.list hq
 have hl:=rv.length
 refine call_reversed_list pl.isList ?_
 have st:({ s1 with heap:=s1.heap.push (revObj l ((its.toArray.size:Int) - 1)) }:Shared).heap.IsRevIter s1.heap.objs.size l ((its.toArray.size:Int) - 1):=⟨_,Heap.get?_push_size _ rfl,rfl,rfl⟩
 refine wpAny_pyIter_revIter st ?_
 refine ⟨false,s1.heap.objs.size,[s1.heap.objs.size],_,_,H1,rfl,I1.kept (t':=s1.toks) (λb o e=>Heap.get?_push_of_some _ e),.inl hc,rN l _ xs.length,⟨Nat.zero_le _,?_⟩,λb hb=>?_,q⟩
 · rw [show (xs.length:Int) - 1 - ((0:Nat):Int)=(its.toArray.size:Int) - 1 by rw [List.size_toArray,<- hl]; omega]
   exact st
 · have e:b=s1.heap.objs.size:=by simpa using hb
   subst e
   exact I1.kI (Nat.le_refl _) (I1.hok.fresh (Nat.le_refl _))
end
theorem qF:∀ (names:List (Str × NameKind)) (n:Nat) (acc:List (Str × Addr)) (x:Str) (c:Addr),(cellsFrom n names acc).lookup x=some c->n<=c\/acc.lookup x=some c
 | [],_,_,_,_,h=>.inr h
 | (y,k) :: r,n,acc,x,c,h=>by
   unfold cellsFrom at h
   split at h
   · rcases qF r (n + 1) _ x c h with q | q
     · exact .inl (by omega)
     · rw [List.lookup_cons] at q
       split at q
       · cases q; exact .inl (Nat.le_refl _)
       · exact .inr q
   · exact qF r n acc x c h
theorem iI:∀ (names:List (Str × NameKind)) (n:Nat) (acc:List (Str × Addr)) (x:Str),(x,NameKind.cell) ∉ names->(cellsFrom n names acc).lookup x=acc.lookup x
 | [],_,_,_,_=>rfl
 | (y,k) :: r,n,acc,x,h=>by
   have h1:(x,NameKind.cell) ∉ r:=λz=>h (List.mem_cons_of_mem _ z)
   unfold cellsFrom
   split
   · rename_i hk
     rw [iI r _ _ x h1,List.lookup_cons]
     have:(x == y)=false:=by
       rw [beq_eq_false_iff_ne]
       rintro rfl
       exact h (by rw [eq_of_beq hk]; exact List.mem_cons_self)
     rw [this]
   · exact iI r n acc x h1
theorem jR:∀ (names:List (Str × NameKind)) (n:Nat) (acc:List (Str × Addr)) (x:Str),(x,NameKind.cell) ∈ names->∃ c,(cellsFrom n names acc).lookup x=some c/\n<=c
 | (y,k) :: r,n,acc,x,h=>by
   unfold cellsFrom
   by_cases hr:(x,NameKind.cell) ∈ r
   · split
     · obtain ⟨c,e,l⟩:=jR r (n + 1) ((y,n) :: acc) x hr
       exact ⟨c,e,by omega⟩
     · exact jR r n acc x hr
   · rcases List.mem_cons.mp h with q | q
     · cases q
       rw [if_pos (by rfl),iI r _ _ _ hr]
       exact ⟨n,by simp [List.lookup_cons],Nat.le_refl _⟩
     · exact absurd q hr
theorem mY:∀ (names:List (Str × NameKind)) (n:Nat) (acc:List (Str × Addr)),(∀ x c,acc.lookup x=some c->c < n)->(∀ x y c,acc.lookup x=some c->acc.lookup y=some c->x=y) ->
   ∀ x y c,(cellsFrom n names acc).lookup x=some c->(cellsFrom n names acc).lookup y=some c->x=y
 | [],_,_,_,h=>h
 | (z,k) :: r,n,acc,hl,h=>by
   unfold cellsFrom
   split
   · refine mY r (n + 1) _ (λx c e=>?_) (λx y c e1 e2=>?_)
     · rw [List.lookup_cons] at e
       split at e
       · cases e; exact Nat.lt_succ_self _
       · exact Nat.lt_succ_of_lt (hl x c e)
     · rw [List.lookup_cons] at e1 e2
       split at e1
       · rename_i q1
         cases e1
         split at e2
         · rename_i q2
           exact (eq_of_beq q1).trans (eq_of_beq q2).symm
         · exact absurd (hl y _ e2) (Nat.lt_irrefl _)
       · split at e2
         · cases e2
           exact absurd (hl x _ e1) (Nat.lt_irrefl _)
         · exact h x y c e1 e2
   · exact mY r n acc hl h
theorem jM:∀ (names:List (Str × NameKind)) (h:Heap) (acc:List (Str × Addr)),(∀ x c,acc.lookup x=some c->∃ v,h.IsCell c v)->∀ x c,(cellsFrom h.objs.size names acc).lookup x=some c->∃ v,(pushCells h names).IsCell c v
 | [],_,_,ha,x,c,e=>ha x c e
 | (z,k) :: r,h,acc,ha,x,c,e=>by
   unfold cellsFrom at e
   unfold pushCells
   split at e
   · rename_i hk
     rw [if_pos hk]
     refine jM r _ ((z,h.objs.size) :: acc) (λy d q=>?_) x c (by rw [Heap.size_push]; exact e)
     rw [List.lookup_cons] at q
     split at q
     · cases q
       exact ⟨none,_,Heap.get?_push_size _ rfl,rfl⟩
     · obtain ⟨v,o,ho,hd⟩:=ha y d q
       exact ⟨v,o,Heap.get?_push_of_some _ ho,hd⟩
   · rename_i hk
     rw [if_neg hk]
     exact jM r h acc ha x c e
noncomputable def cu (env:PySem.Env):List (Str × NameKind)->List (Str × Addr)->List (Str × Addr)
 | [],acc=>acc
 | (n,k) :: r,acc=>if k == .free then (match env.cells.lookup n with | some c=>cu env r ((n,c) :: acc) | none=>cu env r acc) else cu env r acc
theorem ig (env:PySem.Env):∀ (names:List (Str × NameKind)) (acc:List (Str × Addr)),(∀ x ∈ names,x.2=.free->∃ c,env.cells.lookup x.1=some c) ->
   (forIn (m:=Sem) names acc λx cs=>do
     let (name,kind):=x
     if kind == .free then do
       let c <- cellOf env name
       pure (ForInStep.yield ((name,c) :: cs))
     else pure (ForInStep.yield cs))=pure (cu env names acc)
 | [],acc,_=>rfl
 | (n,k) :: r,acc,h=>by
   rw [List.forIn_cons]
   unfold cu
   by_cases hk:(k == .free)=true
   · obtain ⟨c,hc⟩:=h (n,k) List.mem_cons_self (eq_of_beq hk)
     simp only [hk,if_true,cellOf,hc,pure_bind]
     exact ig env r _ λx hx=>h x (List.mem_cons_of_mem _ hx)
   · simp only [hk,Bool.false_eq_true,if_false,pure_bind]
     exact ig env r _ λx hx=>h x (List.mem_cons_of_mem _ hx)
theorem nA {env:PySem.Env} {scope:Scope} (h:∀ x ∈ scope.names,x.2=.free->∃ c,env.cells.lookup x.1=some c):closureFor scope env=pure (cu env scope.names []):=by
 unfold closureFor
 have:=ig env scope.names [] h
 simp only [bind_pure]
 exact this
theorem du (env:PySem.Env):∀ (names:List (Str × NameKind)) (acc:List (Str × Addr)) (x:Str) (c:Addr),(∀ y d,acc.lookup y=some d->env.cells.lookup y=some d)->(cu env names acc).lookup x=some c->env.cells.lookup x=some c
 | [],_,x,c,ha,h=>ha x c h
 | (n,k) :: r,acc,x,c,ha,h=>by
   unfold cu at h
   split at h
   · split at h
     · rename_i c' hc
       refine du env r _ x c (λy d q=>?_) h
       rw [List.lookup_cons] at q
       split at q
       · rename_i qq
         cases q
         rw [eq_of_beq qq]; exact hc
       · exact ha y d q
     · exact du env r acc x c ha h
   · exact du env r acc x c ha h
theorem cD (env:PySem.Env):∀ (names:List (Str × NameKind)) (acc:List (Str × Addr)) (x:Str) (c:Addr),(∀ y d,acc.lookup y=some d->env.cells.lookup y=some d)->env.cells.lookup x=some c->((x,NameKind.free) ∈ names\/acc.lookup x=some c)->(cu env names acc).lookup x=some c
 | [],_,x,c,_,_,h=>h.elim (λz=>absurd z (by simp)) id
 | (n,k) :: r,acc,x,c,ha,hc,h=>by
   unfold cu
   split
   · split
     · rename_i c' hc'
       refine cD env r _ x c (λy d q=>?_) hc ?_
       · rw [List.lookup_cons] at q
         split at q
         · rename_i qq
           cases q
           rw [eq_of_beq qq]; exact hc'
         · exact ha y d q
       · by_cases q:x=n
         · subst q
           rw [hc] at hc'; cases hc'
           exact .inr (by simp [List.lookup_cons])
         · rcases h with h | h
           · rcases List.mem_cons.mp h with z | z
             · cases z; exact absurd rfl q
             · exact .inl z
           · refine .inr ?_
             rw [List.lookup_cons,beq_eq_false_iff_ne.mpr q]
             exact h
     · rename_i hc'
       refine cD env r acc x c ha hc ?_
       rcases h with h | h
       · rcases List.mem_cons.mp h with z | z
         · cases z; rw [hc] at hc'; cases hc'
         · exact .inl z
       · exact .inr h
   · rename_i hk
     refine cD env r acc x c ha hc ?_
     rcases h with h | h
     · rcases List.mem_cons.mp h with z | z
       · cases z; exact absurd rfl hk
       · exact .inl z
     · exact .inr h
theorem jG {M:Model} {A:Around} {E:Value->Shared->Prop} {s:Shared} {scope:Scope} {cl:List (Str × Addr)} {env:PySem.Env} {Q:PySem.Env->Shared->Prop}
   (h:Q (newEnv scope s.heap.objs.size env.globals (cellsFrom (s.heap.objs.size + 1) scope.names cl) env.qual none .none (some env) builtinsNs) { s with heap:=pushCells (s.heap.push { cls:=.type "dict",data:=.dict #[] }) scope.names }) :
   wpAny M A (newFunctionEnv scope env.globals cl [] env.qual none .none (some env)) Q E s:=by
 simp only [newFunctionEnv,Option.isSome_some,if_true]
 refine wpAny_bind (wpAny_alloc ?_)
 refine wpAny_bind (wpAny_layCells _ (λname kind cells=>by cases hkc:kind == NameKind.cell <;> simp [hkc]) _ _ _ _ ?_)
 rw [show ({ s with heap:=s.heap.push { cls:=.type "dict",data:=.dict #[] } }:Shared).heap.objs.size=s.heap.objs.size + 1 from Heap.size_push ..]
 exact wpAny_bind (wpAny_pure (wpAny_pure h))
noncomputable def aB (X:Cx) (s:Shared) (H:Hp) (scope:Scope) (N:List Str) (fp:List Addr):Cx:=
 { prog:=X.prog,w:=X.w,K:=X.K,mg:=X.mg,base:=X.base,A:=X.A,N:=N,s₀:=s,H₀:=H
   env:=compEnvC scope (cellsFrom (s.heap.objs.size + 1 + 1) scope.names (cu X.env scope.names [])) (s.heap.objs.size + 1) X.env
   outer:=X.stack,stack:=X.stack,ex:=fp,fn:=λx=>decide ((x,NameKind.cell) ∈ scope.names),calm:=X.calm,pn:=[],xe:=λ_ _=>False }
noncomputable def fE (σ:L2.St) (caps:List (Option Nat)):L2.St:=caps.map λo=>o.bind λi=>(σ[i]?).join
structure dH (X:Cx) (scope:Scope) (N:List Str) (caps:List (Option Nat)):Prop where
 kind:scope.kind=.function
 loc:∀ x ∈ scope.names,x.2=.local->scope.names.lookup x.1=some .local
 fre:∀ x ∈ scope.names,x.2=.free->X.env.kindOf x.1=some .cell
 one:∀ x,(x,NameKind.free) ∈ scope.names->(x,NameKind.cell) ∉ scope.names
 noboth:∀ x,(x,NameKind.free) ∈ scope.names->(x,NameKind.local) ∉ scope.names
 len:N.length=caps.length + 1
 cap:∀ (j i:Nat),caps[j]?=some (some i)->∃ x,N[j]?=some x/\X.N[i]?=some x/\(x,NameKind.free) ∈ scope.names
 acc:∃ z,N[caps.length]?=some z/\¬ Vis (relabel scope X.env) z
section
variable {X:Cx} {pins:List (Addr × Obj)} {σ:L2.St} {H:Hp} {s:Shared} {scope:Scope} {N:List Str} {caps:List (Option Nat)} {fp:List Addr}
theorem dC {env:PySem.Env} {x:Str} {names:List (Str × NameKind)} (h:∀ y,(y,NameKind.free) ∈ names->env.kindOf y=some .cell) (hk:env.scope.kind=.function) {k:NameKind}
   (e:(names.map λ(n,k)=>if (k == NameKind.free && env.scope.kind == .function && env.kindOf n == some .cell) then (n,NameKind.cell) else (n,k)).lookup x=some k) :
   (x,k) ∈ names\/((x,NameKind.free) ∈ names/\k=.cell):=by
 induction names with
 | nil=>cases e
 | cons p r ih=>
   obtain ⟨n,q⟩:=p
   rw [List.map_cons] at e
   have hr:∀ y,(y,NameKind.free) ∈ r->env.kindOf y=some .cell:=λy hy=>h y (List.mem_cons_of_mem _ hy)
   have sub:((x,k) ∈ r\/((x,NameKind.free) ∈ r/\k=.cell))->(x,k) ∈ (n,q) :: r\/((x,NameKind.free) ∈ (n,q) :: r/\k=.cell):=λz=>
     z.elim (λy=>.inl (List.mem_cons_of_mem _ y)) λy=>.inr ⟨List.mem_cons_of_mem _ y.1,y.2⟩
   dsimp only at e
   split at e
   · rename_i c
     rw [List.lookup_cons] at e
     split at e
     · rename_i qq
       cases e
       rw [Bool.and_eq_true,Bool.and_eq_true] at c
       rw [eq_of_beq qq,eq_of_beq c.1.1]
       exact .inr ⟨List.mem_cons_self,rfl⟩
     · exact sub (ih hr e)
   · rename_i c
     rw [List.lookup_cons] at e
     split at e
     · rename_i qq
       cases e
       rw [eq_of_beq qq]
       exact .inl List.mem_cons_self
     · exact sub (ih hr e)
theorem eY (I:Inv X pins σ H s) (c:dH X scope N caps):∀ x ∈ scope.names,x.2=.free->∃ d,X.env.cells.lookup x.1=some d:=λx hx hf=>I.ok.has x.1 (.inl (c.fre x hx hf))
theorem kM (I:Inv X pins σ H s) (hf:∀ b ∈ fp,jb X pins H b) (ho:∀ b ∈ fp,∃ o,s.heap.get? b=some o) (c:dH X scope N caps) :
   Inv (aB X s H scope N fp) [] (fE σ caps++[some (.ref s.heap.objs.size)]) (upd H s.heap.objs.size (.lst []))
     { s with heap:=pushCells ((s.heap.push { cls:=.type "list",data:=.seq ([]:List Value).toArray }).push { cls:=.type "dict",data:=.dict #[] }) scope.names }:=by
 have hcl:∀ x d,(cu X.env scope.names []).lookup x=some d->X.env.cells.lookup x=some d:=λx d=>du X.env scope.names [] x d (λy d z=>by simp at z)
 have kp:∀ b o,s.heap.get? b=some o->(pushCells ((s.heap.push { cls:=.type "list",data:=.seq ([]:List Value).toArray }).push { cls:=.type "dict",data:=.dict #[] }) scope.names).get? b=some o:=λb o e=>
   pushCells_keeps _ _ b o (Heap.get?_push_of_some _ (Heap.get?_push_of_some _ e))
 have sz2:((s.heap.push { cls:=.type "list",data:=.seq ([]:List Value).toArray }).push { cls:=.type "dict",data:=.dict #[] }).objs.size=s.heap.objs.size + 1 + 1:=by rw [Heap.size_push,Heap.size_push]
 have oldc:∀ x d,X.env.cells.lookup x=some d->d < s.heap.objs.size:=λx d e=>by
   obtain ⟨v,o,q,_⟩:=I.cell x d e
   exact Heap.lt_size q
 have cel:∀ x d,(aB X s H scope N fp).env.cells.lookup x=some d->s.heap.objs.size + 1 + 1<=d\/X.env.cells.lookup x=some d:=λx d e=>by
   rcases qF _ _ _ x d e with q | q
   · exact .inl q
   · exact .inr (hcl x d q)
 have ok:(aB X s H scope N fp).Ok:=by
   refine ⟨I.ok.mod,c.kind,I.ok.glob,I.ok.blt,Nat.le_succ _,?_,?_,?_,I.ok.hd,I.ok.frames,.inl rfl,?_,I.bs,Nat.le_trans I.ok.bsz I.sz,?_,?_,I.stack,I.nj⟩
   · exact mY _ _ _ (λx d e=>Nat.lt_of_lt_of_le (oldc x d (hcl x d e)) (by omega)) λx y d e1 e2=>I.ok.inj x y d (hcl x d e1) (hcl y d e2)
   · intro x hx
     have hfk:∀ y,(y,NameKind.free) ∈ scope.names->X.env.kindOf y=some .cell:=λy hy=>c.fre _ hy rfl
     have fre:(x,NameKind.free) ∈ scope.names->∃ d,(aB X s H scope N fp).env.cells.lookup x=some d:=λhm=>by
       obtain ⟨d,hd⟩:=eY I c _ hm rfl
       exact ⟨d,by
         show (cellsFrom _ scope.names _).lookup x=_
         rw [iI _ _ _ x (c.one x hm)]
         exact cD X.env scope.names [] x d (λy e z=>by simp at z) hd (.inl hm)⟩
     have own:(x,NameKind.cell) ∈ scope.names->∃ d,(aB X s H scope N fp).env.cells.lookup x=some d:=λhm=>by
       obtain ⟨d,e,_⟩:=jR scope.names (s.heap.objs.size + 1 + 1) (cu X.env scope.names []) x hm
       exact ⟨d,e⟩
     rcases hx with hx | hx
     · rcases dC hfk I.ok.kind (show (scope.names.map _).lookup x=some .cell from hx) with q | q
       · exact own q
       · exact fre q.1
     · rcases dC hfk I.ok.kind (show (scope.names.map _).lookup x=some .free from hx) with q | q
       · exact fre q
       · exact fre q.1
   · intro x d hfn e
     have hm:(x,NameKind.cell) ∈ scope.names:=of_decide_eq_true hfn
     obtain ⟨d',e',l⟩:=jR scope.names (s.heap.objs.size + 1 + 1) (cu X.env scope.names []) x hm
     have e2:(cellsFrom (s.heap.objs.size + 1 + 1) scope.names (cu X.env scope.names [])).lookup x=some d:=e
     rw [e'] at e2; cases e2
     exact Nat.le_trans (Nat.le_trans (Nat.le_succ _) (Nat.le_succ _)) l
   · intro b hb
     obtain ⟨o,q⟩:=ho b hb
     have bl:=Heap.lt_size q
     refine ⟨λz=>?_,λx d e z=>?_⟩
     · have z':b=s.heap.objs.size + 1:=z
       rw [z'] at bl
       exact absurd bl (Nat.not_lt.mpr (Nat.le_succ _))
     · subst z
       rcases cel x d e with q | q
       · exact absurd (Nat.lt_of_lt_of_le bl (Nat.le_trans (Nat.le_trans (Nat.le_succ _) (Nat.le_succ _)) q)) (Nat.lt_irrefl _)
       · exact (hf d hb).2.2.2.2.1 x d q rfl
   · intro b o e hb
     rcases (hf b hb).2.2.2.1 with q | q
     · exact I.ok.noex b o e q
     · have:=Nat.lt_of_lt_of_le (Heap.lt_size e) I.ok.bsz
       exact absurd (Nat.lt_of_lt_of_le this q) (Nat.lt_irrefl _)
   · intro b hb hm
     rcases List.mem_cons.mp (I.mK b hm) with q | q
     · exact (hf b hb).2.1 q
     · exact (hf b hb).2.2.1 q
 have hD:(pushCells ((s.heap.push { cls:=.type "list",data:=.seq ([]:List Value).toArray }).push { cls:=.type "dict",data:=.dict #[] }) scope.names).get? s.heap.objs.size=some { cls:=.type "list",data:=.seq ([]:List Value).toArray }:=
   pushCells_keeps _ _ _ _ (Heap.get?_push_of_some _ (Heap.get?_push_size _ rfl))
 have fr:∀ a,s.heap.objs.size<=a->a ≠ s.heap.objs.size->(upd H s.heap.objs.size (.lst [])) a=none:=λa h1 h2=>by rw [aF h2]; exact I.hok.fresh h1
 refine ⟨ok,rfl,I.bare,Un.laid kp (Nat.le_refl _) (I.hok.fresh (Nat.le_refl _)),⟨λ_=>none,?_,λi x v e1 e2 e3=>?_⟩,λx d e=>?_,?_,λx d e=>?_,λp hp=>absurd (show p ∈ ([]:List (Addr × Obj)) from hp) (by simp),?_,?_⟩
 · have:=Heap.Ns.new (s.heap.push { cls:=.type "list",data:=.seq ([]:List Value).toArray }) (.type "dict")
   rw [Heap.size_push] at this
   exact this.keeps (pushCells_keeps _ _)
 · by_cases hi:i < caps.length
   · rw [List.getElem?_append_left (by unfold fE; rw [List.length_map]; exact hi)] at e2
     unfold fE at e2
     rw [List.getElem?_map] at e2
     cases hc:caps[i]? with
     | none=>rw [hc] at e2; cases e2
     | some o=>
       rw [hc] at e2
       cases o with
       | none=>cases e2
       | some j=>
         have e2':(σ[j]?).join=some v:=Option.some.inj e2
         have e4:σ[j]?=some (some v):=by
           cases q:σ[j]? with
           | none=>rw [q] at e2'; cases e2'
           | some y=>rw [q] at e2'; exact congrArg some e2'
         obtain ⟨x',g1,g2,g3⟩:=c.cap i j hc
         rw [show (aB X s H scope N fp).N=N from rfl,g1] at e1
         cases e1
         have hkc:=c.fre _ g3 rfl
         obtain ⟨m,_,hl⟩:=I.loc
         obtain ⟨u,ru,look⟩:=hl j x v g2 e4 (.inr (.inl hkc))
         refine ⟨u,ru,?_⟩
         rcases look with ⟨k,_⟩ | ⟨k,d,hd,hcell⟩
         · rw [hkc] at k; cases k
         · have e5:(aB X s H scope N fp).env.cells.lookup x=some d:=by
             show (cellsFrom _ scope.names _).lookup x=_
             rw [iI _ _ _ x (c.one x g3)]
             exact cD X.env scope.names [] x d (λy e z=>by simp at z) hd (.inl g3)
           have hcell':Heap.IsCell (pushCells ((s.heap.push { cls:=.type "list",data:=.seq ([]:List Value).toArray }).push { cls:=.type "dict",data:=.dict #[] }) scope.names) d (some u):=by
             obtain ⟨o,q1,q2⟩:=hcell
             exact ⟨o,kp _ _ q1,q2⟩
           refine .inr ⟨?_,d,e5,hcell'⟩
           rcases e3 with e3 | e3 | e3
           · exfalso
             rcases dC (λy hy=>c.fre _ hy rfl) I.ok.kind (show (scope.names.map _).lookup x=some .local from e3) with q | q
             · have q1:=c.loc _ q rfl
               exact c.noboth x g3 q
             · cases q.2
           · exact .inl e3
           · exact .inr e3
   · exfalso
     obtain ⟨z,z1,z2⟩:=c.acc
     have hl:i < N.length:=(List.getElem?_eq_some_iff.mp e1).1
     have:i=caps.length:=by have:=c.len; omega
     subst this
     rw [show (aB X s H scope N fp).N=N from rfl,z1] at e1
     cases e1
     exact z2 e3
 · rw [show (aB X s H scope N fp).env.cells=cellsFrom (s.heap.objs.size + 1 + 1) scope.names (cu X.env scope.names []) from rfl,<- sz2] at e
   refine jM scope.names _ _ (λy d' q=>?_) x d e
   obtain ⟨v,o,q1,q2⟩:=I.cell y d' (hcl y d' q)
   exact ⟨v,o,Heap.get?_push_of_some _ (Heap.get?_push_of_some _ q1),q2⟩
 · exact fr _ (Nat.le_succ _) (Nat.succ_ne_self _)
 · rcases cel x d e with q | q
   · exact fr d (by omega) (by intro z; omega)
   · rw [aF (Nat.ne_of_lt (oldc x d q))]; exact I.freeC x d q
 · exact I.hok.laid kp (Nat.le_refl _) ⟨Nat.zero_le _,[],0,.nil,hD⟩
 · rw [List.length_append]
   unfold fE
   rw [List.length_map,show (aB X s H scope N fp).N=N from rfl,c.len]
   rfl
end
noncomputable def PTs (X:Cx) (ifs:List Expr) (t:TT):Prop:=
 ∀ (pins:List (Addr × Obj)) (s:Shared) (σ:L2.St) (H:Hp) (Q:Bool->Hp->Prop),Inv X pins σ H s->t σ H Q ->
   wpAny (model X.prog X.w) X.A (forIn ifs true λc r=>if r=true then do let ok <- isTrue c X.env (eval c X.env); pure (ForInStep.yield ok) else pure (ForInStep.yield r)) (TP X pins σ Q) X.xe s
section
variable {prog:Program} {w:World} {A:Around} {R:Result->Shared->Prop} {s:Shared}
theorem gI {elt target iter:Expr} {ifs:List Expr} {scope:Scope} {pos:Pos} {it acc:Value} {env:PySem.Env} (Iv:Nat->Shared->Prop)
   (step:∀ n s,Iv n s->wpAny (model prog w) A (pyNext it) (λr s₁=>match r with
     | none=>R (.ok .next) s₁
     | some v=>wpAny (model prog w) A (letOwnedTupleGo target it v) (λ_ s₀=>wpAny (model prog w) A (assign target env v) (λ_ s₂=>
         wpAny (model prog w) A (forIn ifs true λc r=>if r=true then do let ok <- isTrue c env (eval c env); pure (ForInStep.yield ok) else pure (ForInStep.yield r)) (λok s₃=>
           if ok=true then wpAny (model prog w) A (eval elt env) (λx s₄=>
             wpAny (model prog w) A (call (.builtin "list.append") [acc,x]) (λ_ s₅=>∃ m,m < n/\Iv m s₅) (λ_ _=>False) s₄) (λ_ _=>False) s₃
           else ∃ m,m < n/\Iv m s₃) (λ_ _=>False) s₂) (λ_ _=>False) s₀) (λ_ _=>False) s₁) (λ_ _=>False) s)
   (n:Nat) (h:Iv n s):codeAny (model prog w) A (.compLoop (.ListComp elt [⟨target,iter,ifs,0⟩] scope pos) 0 it acc env) R s:=by
 have no:∀ {α:Type} {t:Sem α} {Q:α->Shared->Prop} {s:Shared} {E:Value->Shared->Prop},wpAny (model prog w) A t Q (λ_ _=>False) s->wpAny (model prog w) A t Q E s:=λh=>wpAny_mono h (λ_ _ q=>q) λ_ _ q=>q.elim
 refine codeAny_loop rfl Iv (λn s hI=>?_) n h
 show wpAny _ A (Sem.onRaise (compTurn (.ListComp elt [⟨target,iter,ifs,0⟩] scope pos) 0 it acc env) (λx=>do noteFrame x env; theTreesLotGoes x)) _ _ s
 refine wpAny_noted ?_
 rw [compTurn_list]
 refine wpAny_bind (wpAny_standAt (wpAny_bind (thn (no (step n s hI)) λr s₁ h₁=>?_)))
 cases r with
 | none=>exact wpAny_pure h₁
 | some v=>
   refine wpAny_bind (thn (no h₁) λ_ s₀ h₀=>wpAny_bind (thn (no h₀) λ_ s₂ h₂=>wpAny_bind (thn (no h₂) λok s₃ h₃=>?_)))
   cases ok with
   | false=>exact wpAny_pure ⟨rfl,h₃⟩
   | true=>exact wpAny_bind (wpAny_bind (thn (no h₃) λx s₄ h₄=>wpAny_bind (thn (no h₄) λ_ s₅ h₅=>wpAny_pure (wpAny_pure ⟨rfl,h₅⟩))))
end
theorem n4 {X:Cx} {kd:Bool} {pins:List (Addr × Obj)} {σ:L2.St} {H:Hp} {s:Shared} {scope:Scope} {N:List Str} {fp:List Addr} (h:Ck kd X) (I:Inv X pins σ H s):Ck kd (aB X s H scope N fp):=by
 rcases h with h | ⟨hk,q,o,u,vs,e1,e2,e3,e4⟩
 · exact .inl h
 · exact .inr ⟨hk,q,o,u,vs,e1,I.base.frzs q o u e2,e3,e4⟩
noncomputable def eG (In:TG->TT->TE->Prop) (caps:List (Option Nat)) (wi:TI):TE:=λσ H Q=>wi σ H λJ H1=>∃ g tt te,In g tt te/\∀ D,H1 D=none ->
 ∃ Z:Nat->Nat->L2.St->Hp->Prop,(∃ m,Z 0 m (fE σ caps++[some (.ref D)]) (upd H1 D (.lst [])))/\∀ i m σ' H',Z i m σ' H' ->
   (J.stop i H'/\Q (.ref D) H')\/(J.go i H'/\∀ x H2,J.yld i H' x H2->g x σ' H2 λσ2 H3=>tt σ2 H3 λb H4=>
     if b=true then te σ2 H4 λv H5=>∃ vs m',H5 D=some (.lst vs)/\vs.length < sizeLine/\m' < m/\Z (i + 1) m' σ2 (upd H5 D (.lst (vs++[v]))) else ∃ m',m' < m/\Z (i + 1) m' σ2 H4)
theorem di {X:Cx} {elt tg iter:Expr} {ifs:List Expr} {scope:Scope} {N:List Str} {caps:List (Option Nat)} {pos:Pos} {wi:TI} {In:TG->TT->TE->Prop} (c:dH X scope N caps) (hi:PI X tg iter wi)
   (hs:∀ x,foldedSetIterable iter X.env x=pure x)
   (hin:∀ g tt te,In g tt te->∀ s H fp,PG (aB X s H scope N fp) tg g/\PTs (aB X s H scope N fp) ifs tt/\PE (aB X s H scope N fp) elt te) :
   PE X (.ListComp elt [⟨tg,iter,ifs,0⟩] scope pos) (eG In caps wi):=by
 intro pins s σ H Q I h
 rw [eval_ListComp]
 have hcl:=nA (eY I c)
 refine wpAny_comprehension_free (use:=none) (g:=⟨tg,iter,ifs,0⟩) (gs:=[]) rfl hs hcl c.kind c.loc ?_
 show wpAny _ _ (eval iter X.env) _ _ s
 refine thn (hi pins s σ H _ I h) λv s1 h1=>thn h1 λitv s2 h2=>?_
 obtain ⟨kd,it,fp,tn,J,H2,e,I2,hck,T,st2,f2,g,tt,te,hI,q⟩:=h2
 have hc:=n4 (scope:=scope) (N:=N) (fp:=fp) hck I2
 subst e
 obtain ⟨Z,⟨m0,z0⟩,turn⟩:=q s2.heap.objs.size (I2.hok.fresh (Nat.le_refl _))
 have ho:∀ b ∈ fp,∃ o,s2.heap.get? b=some o:=λb hb=>let ⟨o,e,_⟩:=T.obj _ _ st2 b hb; ⟨o,e⟩
 have I4:=kM (scope:=scope) (N:=N) (caps:=caps) I2 f2 ho c
 obtain ⟨hg,ht,he⟩:=hin g tt te hI s2 H2 fp
 refine wpAny_newObj_type (jG ?_) (by show 0<=sizeLine; decide)
 have hC:(s2.heap.push { cls:=.type "list",dict:=none,data:=.seq ([]:List Value).toArray }).objs.size=s2.heap.objs.size + 1:=Heap.size_push ..
 dsimp only
 rw [hC]
 have kp:∀ b o,s2.heap.get? b=some o->(pushCells ((s2.heap.push { cls:=.type "list",data:=.seq ([]:List Value).toArray }).push { cls:=.type "dict",data:=.dict #[] }) scope.names).get? b=some o:=λb o e=>
   pushCells_keeps _ _ b o (Heap.get?_push_of_some _ (Heap.get?_push_of_some _ e))
 have st4:tn 0 (pushCells ((s2.heap.push { cls:=.type "list",data:=.seq ([]:List Value).toArray }).push { cls:=.type "dict",data:=.dict #[] }) scope.names):=T.keep _ _ _ st2 λb _ o e=>kp b o e
 have stat:∀ {H':Hp},(∀ b ∈ fp,H' b=none)->∀ b ∈ fp,jb (aB X s2 H2 scope N fp) [] H' b:=λhn b hb=>
   ⟨hn b hb,(I4.ok.exf b hb).1,I4.ok.exfs b hb,.inl hb,(I4.ok.exf b hb).2,λp hp=>absurd (show p ∈ ([]:List (Addr × Obj)) from hp) (by simp)⟩
 have fr4:∀ b ∈ fp,(upd H2 s2.heap.objs.size (.lst [])) b=none:=λb hb=>by
   obtain ⟨o,e⟩:=ho b hb
   rw [aF (Nat.ne_of_lt (Heap.lt_size e))]; exact (f2 b hb).1
 have loop:codeAny (model X.prog X.w) X.A (.compLoop (.ListComp elt [⟨tg,iter,ifs,0⟩] scope pos) 0 (.ref it) (.ref s2.heap.objs.size) (aB X s2 H2 scope N fp).env)
     (compPost (model X.prog X.w) X.A X.xe none (EP X pins σ Q) (.ref s2.heap.objs.size) (s2.heap.objs.size + 1))
     { s2 with heap:=pushCells ((s2.heap.push { cls:=.type "list",data:=.seq ([]:List Value).toArray }).push { cls:=.type "dict",data:=.dict #[] }) scope.names }:=by
   refine gI (λn s'=>∃ i σ' H',Inv (aB X s2 H2 scope N fp) [] σ' H' s'/\tn i s'.heap/\(∀ b ∈ fp,H' b=none)/\Z i n σ' H') ?_ m0 ⟨0,_,_,I4,st4,fr4,z0⟩
   rintro n s3 ⟨i,σ3,H3,I3,st3,fr3,w3⟩
   rcases turn i n σ3 H3 w3 with ⟨stop,qn⟩ | ⟨go,step⟩
   · refine thn (T.done (aB X s2 H2 scope N fp) rfl rfl rfl hc i [] s3 σ3 H3 _ I3 (stat fr3) st3 stop) λr s5 ⟨hr,I5⟩=>?_
     subst hr
     obtain ⟨m,hn,_⟩:=id I5.loc
     refine ⟨m,hn,λh' sb=>⟨.ref s2.heap.objs.size,H3,?_,rfl,qn⟩⟩
     have lt:∀ b o,s2.heap.get? b=some o->b ≠ s2.heap.objs.size + 1:=λb o e=>Nat.ne_of_lt (Nat.lt_succ_of_lt (Heap.lt_size e))
     have u:=I5.base
     have u':Un (frs X.stack) fp H2 H3 s2.heap h':=⟨λb o e n1 n2 n3=>(sb.2 b (lt b o e)).trans (u.keep b o e n1 n2 n3),λb o e n1 n2 n3=>let ⟨sl,z⟩:=u.slot b o e n1 n2 n3; ⟨sl,(sb.2 b (lt b o e)).trans z⟩,
       u.free,λb o e n1=>let ⟨o',z⟩:=u.there b o e n1; ⟨o',(sb.2 b (lt b o e)).trans z⟩,u.tups,u.frzs,u.tbls⟩
     have fC:H3 (s2.heap.objs.size + 1)=none:=I5.free
     refine I2.uH (s':={ s5 with heap:=h' }) I5.os u' (λb o e=>(I5.hok b o e).iz (λd v hd z=>(sb.2 d ?_).trans z) (λ_ z=>z) λ_ _ z=>z) I5.bare λb hb=>⟨(f2 b hb).2.2.2.1,(f2 b hb).2.1,(f2 b hb).2.2.2.2.1,(f2 b hb).2.2.2.2.2⟩
     rcases hd with hd | hd
     · rw [hd]; exact aJ e fC
     · exact aJ hd fC
   · refine thn (T.item (aB X s2 H2 scope N fp) rfl rfl rfl hc i [] s3 σ3 H3 _ I3 (stat fr3) st3 go) λr s4 ⟨u,hr,h4⟩=>?_
     subst hr
     refine thn h4 λ_ s5 ⟨x,H5,I5,r5,y5,st5,fr5⟩=>?_
     have I5':=I5.pinned (stat fr5) (T.obj _ _ st5)
     refine thn (hg _ s5 σ3 H5 x u _ I5' r5 (step x H5 y5)) λ_ s6 ⟨σ6,H6,I6,q6⟩=>?_
     have again:∀ {s7:Shared} {σ7:L2.St} {H7:Hp} {m':Nat},Inv (aB X s2 H2 scope N fp) ([]++eP fp s5.heap) σ7 H7 s7->m' < n->Z (i + 1) m' σ7 H7 ->
         ∃ m,m < n/\∃ i σ' H',Inv (aB X s2 H2 scope N fp) [] σ' H' s7/\tn i s7.heap/\(∀ b ∈ fp,H' b=none)/\Z i m σ' H':=λ{s7 σ7 H7 m'} I7 hm z7=>by
       refine ⟨m',hm,i + 1,σ7,H7,I7.df,T.keep _ _ _ st5 λb hb o e=>(I7.pin (b,o) (List.mem_append_right _ (List.mem_append_right _ (bN hb e)))).1,λb hb=>?_,z7⟩
       obtain ⟨o,e,d⟩:=T.obj _ _ st5 b hb
       exact (I7.pin (b,o) (List.mem_append_right _ (List.mem_append_right _ (bN hb e)))).2.1
     refine thn (ht _ s6 σ6 H6 _ I6 q6) λok s7 ⟨H7,I7,q7⟩=>?_
     cases ok with
     | false=>
       rw [if_neg (by decide)] at q7
       obtain ⟨m',hm,z7⟩:=q7
       exact again I7 hm z7
     | true=>
       rw [if_pos rfl] at q7
       refine thn (he _ s7 σ6 H7 _ I7 q7) λv' s8 ⟨v,H8,I8,r8,vs,m',q8,l8,hm,z8⟩=>?_
       refine thn (fT (X:=aB X s2 H2 scope N fp) _ s8 σ6 H8 (.ref s2.heap.objs.size) [v] (.ref s2.heap.objs.size) [v'] (λ_ H9=>H9=upd H8 s2.heap.objs.size (.lst (vs++[v]))) I8 rfl (.cons r8 .nil) ⟨_,vs,v,rfl,rfl,q8,l8,rfl⟩) λ_ s9 ⟨_,H9,I9,_,e9⟩=>?_
       subst e9
       exact again I9 hm z8
 exact codeAny_compStart_list loop (T.self _ 0 _ _ _ st4 loop)
theorem lG {X:Cx} {gT:TG} {y:Str} {py spos:Pos} {elt tg iter:Expr} {ifs:List Expr} {scope:Scope} {N:List Str} {caps:List (Option Nat)} {pos:Pos} {wi:TI} {In:TG->TT->TE->Prop} (hT:PG X (.Name y py) gT) (c:dH X scope N caps) (hi:PI X tg iter wi)
   (hs:∀ x,foldedSetIterable iter X.env x=pure x)
   (hin:∀ g tt te,In g tt te->∀ s H fp,PG (aB X s H scope N fp) tg g/\PTs (aB X s H scope N fp) ifs tt/\PE (aB X s H scope N fp) elt te)
   (hsw:swapsWith (.ListComp elt [⟨tg,iter,ifs,0⟩] scope pos) (some (.Name y py)) spos.line X.env=pure true) :
   PS X (.Assign [.Name y py] (.ListComp elt [⟨tg,iter,ifs,0⟩] scope pos) spos) (wk (eG In caps wi) gT):=by
 intro pins s σ H D I h
 rw [exec_Assign_Name_used _ _ _ _ hsw]
 refine wpAny_bind (wpAny_standAt (wpAny_bind ?_))
 show wpAny _ _ (do let _ <- comprehension (.ListComp elt [⟨tg,iter,ifs,0⟩] scope pos) scope X.env _ (newList []) false _ (some (assign (.Name y py) X.env))) _ _ s
 refine wpAny_bind ?_
 have hcl:=nA (eY I c)
 refine wpAny_comprehension_free (use:=some (assign (.Name y py) X.env)) (Q:=λ_ s'=>wpAny (model X.prog X.w) X.A (pure ()) (λ_ s''=>wpAny (model X.prog X.w) X.A (pure Flow.next) (SP X pins D) X.xe s'') X.xe s') (g:=⟨tg,iter,ifs,0⟩) (gs:=[]) rfl hs hcl c.kind c.loc ?_
 show wpAny _ _ (eval iter X.env) _ _ s
 refine thn (hi pins s σ H _ I h) λv s1 h1=>thn h1 λitv s2 h2=>?_
 obtain ⟨kd,it,fp,tn,J,H2,e,I2,hck,T,st2,f2,g,tt,te,hI,q⟩:=h2
 have hc:=n4 (scope:=scope) (N:=N) (fp:=fp) hck I2
 subst e
 obtain ⟨Z,⟨m0,z0⟩,turn⟩:=q s2.heap.objs.size (I2.hok.fresh (Nat.le_refl _))
 have ho:∀ b ∈ fp,∃ o,s2.heap.get? b=some o:=λb hb=>let ⟨o,e,_⟩:=T.obj _ _ st2 b hb; ⟨o,e⟩
 have I4:=kM (scope:=scope) (N:=N) (caps:=caps) I2 f2 ho c
 obtain ⟨hg,ht,he⟩:=hin g tt te hI s2 H2 fp
 refine wpAny_newObj_type (jG ?_) (by show 0<=sizeLine; decide)
 have hC:(s2.heap.push { cls:=.type "list",dict:=none,data:=.seq ([]:List Value).toArray }).objs.size=s2.heap.objs.size + 1:=Heap.size_push ..
 dsimp only
 rw [hC]
 have kp:∀ b o,s2.heap.get? b=some o->(pushCells ((s2.heap.push { cls:=.type "list",data:=.seq ([]:List Value).toArray }).push { cls:=.type "dict",data:=.dict #[] }) scope.names).get? b=some o:=λb o e=>
   pushCells_keeps _ _ b o (Heap.get?_push_of_some _ (Heap.get?_push_of_some _ e))
 have st4:tn 0 (pushCells ((s2.heap.push { cls:=.type "list",data:=.seq ([]:List Value).toArray }).push { cls:=.type "dict",data:=.dict #[] }) scope.names):=T.keep _ _ _ st2 λb _ o e=>kp b o e
 have stat:∀ {H':Hp},(∀ b ∈ fp,H' b=none)->∀ b ∈ fp,jb (aB X s2 H2 scope N fp) [] H' b:=λhn b hb=>
   ⟨hn b hb,(I4.ok.exf b hb).1,I4.ok.exfs b hb,.inl hb,(I4.ok.exf b hb).2,λp hp=>absurd (show p ∈ ([]:List (Addr × Obj)) from hp) (by simp)⟩
 have fr4:∀ b ∈ fp,(upd H2 s2.heap.objs.size (.lst [])) b=none:=λb hb=>by
   obtain ⟨o,e⟩:=ho b hb
   rw [aF (Nat.ne_of_lt (Heap.lt_size e))]; exact (f2 b hb).1
 have loop:codeAny (model X.prog X.w) X.A (.compLoop (.ListComp elt [⟨tg,iter,ifs,0⟩] scope pos) 0 (.ref it) (.ref s2.heap.objs.size) (aB X s2 H2 scope N fp).env)
     (compPost (model X.prog X.w) X.A X.xe (some (assign (.Name y py) X.env)) (λ_ s'=>wpAny (model X.prog X.w) X.A (pure ()) (λ_ s''=>wpAny (model X.prog X.w) X.A (pure Flow.next) (SP X pins D) X.xe s'') X.xe s') (.ref s2.heap.objs.size) (s2.heap.objs.size + 1))
     { s2 with heap:=pushCells ((s2.heap.push { cls:=.type "list",data:=.seq ([]:List Value).toArray }).push { cls:=.type "dict",data:=.dict #[] }) scope.names }:=by
   refine gI (λn s'=>∃ i σ' H',Inv (aB X s2 H2 scope N fp) [] σ' H' s'/\tn i s'.heap/\(∀ b ∈ fp,H' b=none)/\Z i n σ' H') ?_ m0 ⟨0,_,_,I4,st4,fr4,z0⟩
   rintro n s3 ⟨i,σ3,H3,I3,st3,fr3,w3⟩
   rcases turn i n σ3 H3 w3 with ⟨stop,qn⟩ | ⟨go,step⟩
   · refine thn (T.done (aB X s2 H2 scope N fp) rfl rfl rfl hc i [] s3 σ3 H3 _ I3 (stat fr3) st3 stop) λr s5 ⟨hr,I5⟩=>?_
     subst hr
     obtain ⟨m,hn,_⟩:=id I5.loc
     have I6:Inv X pins σ H3 s5:=by
       have lt:∀ b o,s2.heap.get? b=some o->b ≠ s2.heap.objs.size + 1:=λb o e=>Nat.ne_of_lt (Nat.lt_succ_of_lt (Heap.lt_size e))
       have u:=I5.base
       have u':Un (frs X.stack) fp H2 H3 s2.heap s5.heap:=⟨λb o e n1 n2 n3=>u.keep b o e n1 n2 n3,λb o e n1 n2 n3=>u.slot b o e n1 n2 n3,u.free,λb o e n1=>u.there b o e n1,u.tups,u.frzs,u.tbls⟩
       exact I2.uH (s':=s5) I5.os u' I5.hok I5.bare λb hb=>⟨(f2 b hb).2.2.2.1,(f2 b hb).2.1,(f2 b hb).2.2.2.2.1,(f2 b hb).2.2.2.2.2⟩
     have fC:H3 (s2.heap.objs.size + 1)=none:=I5.free
     have fk:jb X pins H3 (s2.heap.objs.size + 1):=I2.kI (Nat.le_succ _) fC
     obtain ⟨oC,es,ep,hoC,hdC,rC⟩:=id hn
     have hpin:=I6.pinned (fp:=[s2.heap.objs.size + 1]) (λb hb=>by rw [List.mem_singleton.mp hb]; exact fk) (λb hb=>by rw [List.mem_singleton.mp hb]; exact ⟨oC,hoC,λv z=>by rw [hdC] at z; cases z⟩)
     have hmem:(s2.heap.objs.size + 1,oC) ∈ eP [s2.heap.objs.size + 1] s5.heap:=bN (List.mem_singleton_self _) hoC
     refine thn (hT _ s5 σ H3 (.ref s2.heap.objs.size) (.ref s2.heap.objs.size) _ hpin rfl qn) λ_ s6 ⟨σ6,H6,I7,q7⟩=>?_
     obtain ⟨p1,p2,p3,p4,p5⟩:=I7.pin _ (List.mem_append_right _ (List.mem_append_right _ hmem))
     refine ⟨m,⟨oC,es,ep,p1,hdC,rC⟩,λh' sb=>wpAny_pure (wpAny_pure ?_)⟩
     refine ⟨σ6,H6,?_,q7⟩
     exact (I7.df).turned (t':=s6.toks) (it:=s2.heap.objs.size + 1) (λb o hb e=>(sb.2 b hb).trans e) p2 p3 fk.2.2.2.1 fk.2.2.2.2.1 fk.2.2.2.2.2
   · refine thn (T.item (aB X s2 H2 scope N fp) rfl rfl rfl hc i [] s3 σ3 H3 _ I3 (stat fr3) st3 go) λr s4 ⟨u,hr,h4⟩=>?_
     subst hr
     refine thn h4 λ_ s5 ⟨x,H5,I5,r5,y5,st5,fr5⟩=>?_
     have I5':=I5.pinned (stat fr5) (T.obj _ _ st5)
     refine thn (hg _ s5 σ3 H5 x u _ I5' r5 (step x H5 y5)) λ_ s6 ⟨σ6,H6,I6,q6⟩=>?_
     have again:∀ {s7:Shared} {σ7:L2.St} {H7:Hp} {m':Nat},Inv (aB X s2 H2 scope N fp) ([]++eP fp s5.heap) σ7 H7 s7->m' < n->Z (i + 1) m' σ7 H7 ->
         ∃ m,m < n/\∃ i σ' H',Inv (aB X s2 H2 scope N fp) [] σ' H' s7/\tn i s7.heap/\(∀ b ∈ fp,H' b=none)/\Z i m σ' H':=λ{s7 σ7 H7 m'} I7 hm z7=>by
       refine ⟨m',hm,i + 1,σ7,H7,I7.df,T.keep _ _ _ st5 λb hb o e=>(I7.pin (b,o) (List.mem_append_right _ (List.mem_append_right _ (bN hb e)))).1,λb hb=>?_,z7⟩
       obtain ⟨o,e,d⟩:=T.obj _ _ st5 b hb
       exact (I7.pin (b,o) (List.mem_append_right _ (List.mem_append_right _ (bN hb e)))).2.1
     refine thn (ht _ s6 σ6 H6 _ I6 q6) λok s7 ⟨H7,I7,q7⟩=>?_
     cases ok with
     | false=>
       rw [if_neg (by decide)] at q7
       obtain ⟨m',hm,z7⟩:=q7
       exact again I7 hm z7
     | true=>
       rw [if_pos rfl] at q7
       refine thn (he _ s7 σ6 H7 _ I7 q7) λv' s8 ⟨v,H8,I8,r8,vs,m',q8,l8,hm,z8⟩=>?_
       refine thn (fT (X:=aB X s2 H2 scope N fp) _ s8 σ6 H8 (.ref s2.heap.objs.size) [v] (.ref s2.heap.objs.size) [v'] (λ_ H9=>H9=upd H8 s2.heap.objs.size (.lst (vs++[v]))) I8 rfl (.cons r8 .nil) ⟨_,vs,v,rfl,rfl,q8,l8,rfl⟩) λ_ s9 ⟨_,H9,I9,_,e9⟩=>?_
       subst e9
       exact again I9 hm z8
 exact codeAny_compStart_list loop (T.self _ 0 _ _ _ st4 loop)
end Ev
namespace Hy
open PySem PySem.Spec PyProof.Rows L2
open Ev (D Den ax)
open Classical in
noncomputable def hd (H:Hp) (M:Addr->Prop):Hp:=λb=>if M b then none else H b
theorem aG {H:Hp} {M:Addr->Prop} {b:Addr} {o:HO}:hd H M b=some o ↔ ¬ M b/\H b=some o:=by
 unfold hd
 by_cases h:M b
 · rw [if_pos h]; exact ⟨λz=>(nomatch z),λz=>absurd h z.1⟩
 · rw [if_neg h]; exact ⟨λz=>⟨h,z⟩,λz=>z.2⟩
theorem aA {H H':Hp} {M M':Addr->Prop} (e:aq H H') (m:∀ b,M' b->M b):aq (hd H M) (hd H' M'):=λb _ h=>aG.mpr ⟨λz=>(aG.mp h).1 (m b z),e b _ (aG.mp h).2⟩
theorem aU {H:Hp} {M:Addr->Prop}:aq (hd H M) H:=λ_ _ h=>(aG.mp h).2
inductive Nd where
 | d (x:D) | l (xs:List Nd) | t (xs:List Nd)
structure Ex where
 p:PySem.W.Frag->Hp->HO->Addr->Prop
 mono:∀ {K:PySem.W.Frag} {G G':Hp} {o:HO} {a:Addr},aq G G'->p K G o a->p K G' o a
 ext:∀ {K:PySem.W.Frag} {G:Hp} {o:HO} {a:Addr},p K G o a->(∃ φ,o=.ext φ)\/(∃ ob φ,o=.frz ob (.ext φ))\/∃ kvs,o=.dK kvs\/∃ ob,o=.frz ob (.dK kvs)
inductive Sl where
 | un | d (x:D) | o (xs:List D) | n (t:Nd) | x (E:Ex)
mutual
inductive cI (K:PySem.W.Frag) (G H:Hp):V->List Addr->Nd->Prop where
 | d {u:V} {x:D} (h:Den K G u x):cI K G H u [] (.d x)
 | l {a:Addr} {vs:List V} {bs:List Addr} {xs:List Nd} (h:H a=some (.lst vs)) (r:aV K G H vs bs xs):cI K G H (.ref a) (a :: bs) (.l xs)
 | t {a:Addr} {vs:List V} {bs:List Addr} {xs:List Nd} (h:H a=some (.tup vs)) (r:aV K G H vs bs xs):cI K G H (.ref a) (a :: bs) (.t xs)
inductive aV (K:PySem.W.Frag) (G H:Hp):List V->List Addr->List Nd->Prop where
 | nil:aV K G H [] [] []
 | cons {v:V} {vs:List V} {b1 b2:List Addr} {s:Nd} {ss:List Nd} (h:cI K G H v b1 s) (r:aV K G H vs b2 ss):aV K G H (v :: vs) (b1++b2) (s :: ss)
end
noncomputable def cn (K:PySem.W.Frag) (G H:Hp) (v:Option V) (bs:List Addr):Sl->Prop
 | .un=>bs=[]
 | .d x=>bs=[]/\∃ u,v=some u/\Den K G u x
 | .o xs=>∃ a vs,bs=[a]/\v=some (.ref a)/\H a=some (.lst vs)/\ax K G vs xs
 | .n t=>bs.Nodup/\∃ u,v=some u/\cI K G H u bs t
 | .x E=>∃ a o,bs=[a]/\v=some (.ref a)/\H a=some o/\E.p K G o a
section
variable {K:PySem.W.Frag} {G G' H H':Hp}
mutual
theorem cI.frame (g:aq G G'):∀ {u:V} {bs:List Addr} {t:Nd},(∀ b ∈ bs,H' b=H b)->cI K G H u bs t->cI K G' H' u bs t
 | _,_,_,_,.d h=>.d (h.mono g)
 | _,_,_,e,.l h r=>.l (by rw [e _ (List.mem_cons_self ..)]; exact h) (aV.frame g (λb hb=>e b (List.mem_cons_of_mem _ hb)) r)
 | _,_,_,e,.t h r=>.t (by rw [e _ (List.mem_cons_self ..)]; exact h) (aV.frame g (λb hb=>e b (List.mem_cons_of_mem _ hb)) r)
theorem aV.frame (g:aq G G'):∀ {vs:List V} {bs:List Addr} {xs:List Nd},(∀ b ∈ bs,H' b=H b)->aV K G H vs bs xs->aV K G' H' vs bs xs
 | _,_,_,_,.nil=>.nil
 | _,_,_,e,.cons h r=>.cons (cI.frame g (λb hb=>e b (List.mem_append_left _ hb)) h) (aV.frame g (λb hb=>e b (List.mem_append_right _ hb)) r)
end
mutual
theorem cI.some_of:∀ {u:V} {bs:List Addr} {t:Nd},cI K G H u bs t->∀ b ∈ bs,∃ o,H b=some o
 | _,_,_,.d _,_,z=>nomatch z
 | _,_,_,.l h r,b,z=>(List.mem_cons.mp z).elim (λe=>e ▸ ⟨_,h⟩) λz=>aV.some_of r b z
 | _,_,_,.t h r,b,z=>(List.mem_cons.mp z).elim (λe=>e ▸ ⟨_,h⟩) λz=>aV.some_of r b z
theorem aV.some_of:∀ {vs:List V} {bs:List Addr} {xs:List Nd},aV K G H vs bs xs->∀ b ∈ bs,∃ o,H b=some o
 | _,_,_,.nil,_,z=>nomatch z
 | _,_,_,.cons h r,b,z=>(List.mem_append.mp z).elim (λz=>cI.some_of h b z) λz=>aV.some_of r b z
end
theorem cI.mono (g:aq G G') (e:aq H H') {u:V} {bs:List Addr} {t:Nd} (h:cI K G H u bs t):cI K G' H' u bs t:=h.frame g λb hb=>by
 obtain ⟨o,q⟩:=h.some_of b hb
 rw [q,e b o q]
theorem cn.mono (g:aq G G') (e:aq H H') {v:Option V} {bs:List Addr}:∀ {s:Sl},cn K G H v bs s->cn K G' H' v bs s
 | .un,h=>h
 | .d _,⟨h,u,e1,h2⟩=>⟨h,u,e1,h2.mono g⟩
 | .o _,⟨a,vs,h1,h2,h3,h4⟩=>⟨a,vs,h1,h2,e _ _ h3,h4.mono g⟩
 | .n _,⟨h0,u,h1,h2⟩=>⟨h0,u,h1,h2.mono g e⟩
 | .x E,⟨a,o,h1,h2,h3,h4⟩=>⟨a,o,h1,h2,e _ _ h3,E.mono g h4⟩
end
noncomputable def own (A:Addr->Prop) (B:Nat->List Addr) (b:Addr):Prop:=A b\/∃ i,b ∈ B i
noncomputable def vw (C:Bool) (A:Addr->Prop) (B:Nat->List Addr):Addr->Prop:=match C with
 | true=>own A B
 | false=>A
structure Sta (K:PySem.W.Frag) (A:Addr->Prop) (H₀:Hp) (τ:List Sl) (B:Nat->List Addr) (σ:L2.St) (H:Hp):Prop where
 same:aq H₀ H
 len:σ.length=τ.length
 sl:∀ i s,τ[i]?=some s->cn K (hd H (own A B)) H (σ[i]?).join (B i) s
 fr:∀ i b,b ∈ B i->H₀ b=none
 uq:∀ i j b,b ∈ B i->b ∈ B j->i=j
 ad:∀ b,A b->∃ o,H₀ b=some o
 bd:∀ i b,b ∈ B i->∃ o,H b=some o
noncomputable def upB (B:Nat->List Addr) (i:Nat) (bs:List Addr):Nat->List Addr:=λj=>if j=i then bs else B j
section
variable {K:PySem.W.Frag} {A:Addr->Prop} {H₀ H H':Hp} {τ:List Sl} {B:Nat->List Addr} {σ:L2.St}
theorem Sta.dm (S:Sta K A H₀ τ B σ H) (b:Addr) (h:own A B b):∃ o,H b=some o:=h.elim (λz=>let ⟨o,q⟩:=S.ad b z; ⟨o,S.same _ _ q⟩) λ⟨i,z⟩=>S.bd i b z
theorem Sta.mono (S:Sta K A H₀ τ B σ H) (e:aq H H'):Sta K A H₀ τ B σ H' where
 same:=S.same.trans e
 len:=S.len
 sl:=λi s h=>(S.sl i s h).mono (aA e λ_ z=>z) e
 fr:=S.fr
 uq:=S.uq
 ad:=S.ad
 bd:=λi b h=>let ⟨o,q⟩:=S.bd i b h; ⟨o,e _ _ q⟩
theorem bG {i j:Nat} {bs:List Addr} {b:Addr} (h:b ∈ upB B i bs j):(j=i/\b ∈ bs)\/(j ≠ i/\b ∈ B j):=by
 unfold upB at h
 by_cases e:j=i
 · rw [if_pos e] at h; exact .inl ⟨e,h⟩
 · rw [if_neg e] at h; exact .inr ⟨e,h⟩
theorem Sta.set (S:Sta K A H₀ τ B σ H) (e:aq H H') {i:Nat} {v:V} {s:Sl} {bs:List Addr} (hf:∀ b ∈ bs,H b=none/\∃ o,H' b=some o) (h:cn K (hd H' λb=>own A B b\/b ∈ bs) H' (some v) bs s) :
   Sta K A H₀ (τ.set i s) (upB B i bs) (σ.set i (some v)) H':=by
 have sub:∀ b,own A (upB B i bs) b->own A B b\/b ∈ bs:=λb z=>z.elim (λz=>.inl (.inl z)) λ⟨j,z⟩=>(bG z).elim (λz=>.inr z.2) λz=>.inl (.inr ⟨j,z.2⟩)
 have some_of:∀ b j,b ∈ B j->∃ o,H b=some o:=λb j z=>S.dm b (.inr ⟨j,z⟩)
 refine ⟨S.same.trans e,by rw [List.length_set,List.length_set,S.len],λj t hj=>?_,λj b hb=>?_,λj k b h1 h2=>?_,S.ad,λj b hb=>?_⟩
 · by_cases ej:j=i
   · subst ej
     have hl:j < τ.length:=by
       have:=(List.getElem?_eq_some_iff.mp hj).1
       rwa [List.length_set] at this
     rw [List.getElem?_set_self hl] at hj
     cases hj
     rw [List.getElem?_set_self (by rw [S.len]; exact hl)]
     unfold upB
     rw [if_pos rfl]
     exact h.mono (aA (aq.refl _) sub) (aq.refl _)
   · rw [List.getElem?_set_ne (λz=>ej z.symm)] at hj
     rw [List.getElem?_set_ne (λz=>ej z.symm)]
     unfold upB
     rw [if_neg ej]
     have q:=S.sl j t hj
     refine q.mono (λb o z=>?_) e
     obtain ⟨z1,z2⟩:=aG.mp z
     refine aG.mpr ⟨λy=>?_,e _ _ z2⟩
     rcases sub b y with y | y
     · exact z1 y
     · rw [(hf b y).1] at z2; cases z2
 · rcases bG hb with ⟨_,z⟩ | ⟨_,z⟩
   · exact S.same.free (hf b z).1
   · exact S.fr j b z
 · rcases bG h1 with ⟨e1,z1⟩ | ⟨e1,z1⟩ <;> rcases bG h2 with ⟨e2,z2⟩ | ⟨e2,z2⟩
   · exact e1.trans e2.symm
   · obtain ⟨o,q⟩:=some_of b k z2; rw [(hf b z1).1] at q; cases q
   · obtain ⟨o,q⟩:=some_of b j z1; rw [(hf b z2).1] at q; cases q
   · exact S.uq j k b z1 z2
 · rcases bG hb with ⟨_,z⟩ | ⟨_,z⟩
   · exact (hf b z).2
   · obtain ⟨o,q⟩:=S.bd j b z; exact ⟨o,e _ _ q⟩
theorem Sta.less (S:Sta K A H₀ τ B σ H) {i:Nat} {s:Sl} {bs:List Addr} (hb:∀ b ∈ bs,b ∈ B i) (h:∀ G:Hp,aq (hd H (own A B)) G->(∀ b o,b ∈ B i->b ∉ bs->H b=some o->G b=some o)->cn K G H (σ[i]?).join bs s):Sta K A H₀ (τ.set i s) (upB B i bs) σ H:=by
 have sub:∀ b,own A (upB B i bs) b->own A B b:=λb z=>z.elim .inl λ⟨j,z⟩=>(bG z).elim (λz=>.inr ⟨i,hb b z.2⟩) λz=>.inr ⟨j,z.2⟩
 refine ⟨S.same,by rw [List.length_set,S.len],λj t hj=>?_,λj b h=>?_,λj k b h1 h2=>?_,S.ad,λj b h=>(bG h).elim (λz=>S.bd i b (hb b z.2)) λz=>S.bd j b z.2⟩
 · by_cases ej:j=i
   · subst ej
     have hl:j < τ.length:=by
       have:=(List.getElem?_eq_some_iff.mp hj).1
       rwa [List.length_set] at this
     rw [List.getElem?_set_self hl] at hj
     cases hj
     unfold upB
     rw [if_pos rfl]
     refine h _ (aA (aq.refl _) sub) λb o z1 z2 z3=>aG.mpr ⟨λy=>?_,z3⟩
     rcases y with y | ⟨m,y⟩
     · obtain ⟨_,q⟩:=S.ad b y
       rw [S.fr j b z1] at q; cases q
     · rcases bG y with ⟨e,y⟩ | ⟨e,y⟩
       · exact z2 y
       · exact e (S.uq m j b y z1)
   · rw [List.getElem?_set_ne (λz=>ej z.symm)] at hj
     unfold upB
     rw [if_neg ej]
     exact (S.sl j t hj).mono (aA (aq.refl _) sub) (aq.refl _)
 · rcases bG h with ⟨e,z⟩ | ⟨_,z⟩
   · exact S.fr i b (hb b z)
   · exact S.fr j b z
 · rcases bG h1 with ⟨e1,z1⟩ | ⟨e1,z1⟩ <;> rcases bG h2 with ⟨e2,z2⟩ | ⟨e2,z2⟩
   · exact e1.trans e2.symm
   · exact absurd (S.uq k i b z2 (hb b z1)) e2
   · exact absurd (S.uq j i b z1 (hb b z2)) e1
   · exact S.uq j k b z1 z2
end
end Hy
namespace Hy
open PySem PySem.Spec PyProof.Rows L2
open Ev (D Den ax aE aH av bD aK)
noncomputable def Fr (H H':Hp) (bs:List Addr):Prop:=∀ b ∈ bs,H b=none/\∃ o,H' b=some o
noncomputable def dE (K:PySem.W.Frag) (C:Bool) (τ:List Sl) (s:Sl):TE:=λσ H Q=>∃ A H₀ B,Sta K A H₀ τ B σ H /\
 ∀ v H' bs,aq H H'->Fr H H' bs->cn K (hd H' λb=>vw C A B b\/b ∈ bs) H' (some v) bs s->Q v H'
noncomputable def dA (K:PySem.W.Frag) (C:Bool) (τ:List Sl) (ds:List D):TA:=λσ H Q=>∃ A H₀ B,Sta K A H₀ τ B σ H /\
 ∀ vs H',aq H H'->ax K (hd H' (vw C A B)) vs ds->Q vs H'
noncomputable def dT (K:PySem.W.Frag) (τ:List Sl) (c:Bool):TT:=λσ H Q=>∃ A H₀ B,Sta K A H₀ τ B σ H/\∀ H',aq H H'->Q c H'
structure Po where
 nx:List Sl->Prop
 rt:Sl->Prop
 bk:List Sl->Prop:=λ_=>False
 ct:List Sl->Prop:=λ_=>False
 xc:Hp->Prop:=λ_=>True
structure Meets (K:PySem.W.Frag) (A:Addr->Prop) (H₀:Hp) (N:Po) (D:Ends):Prop where
 nx:∀ τ B σ H,N.nx τ->Sta K A H₀ τ B σ H->D.nx σ H
 bk:∀ τ B σ H,N.bk τ->Sta K A H₀ τ B σ H->D.bk σ H
 ct:∀ τ B σ H,N.ct τ->Sta K A H₀ τ B σ H->D.ct σ H
 rt:∀ v H bs s,N.rt s->aq H₀ H->Fr H₀ H bs->cn K (hd H λb=>A b\/b ∈ bs) H (some v) bs s->D.rt v H
 xc:∀ H,aq H₀ H->N.xc H
noncomputable def dS (K:PySem.W.Frag) (τ:List Sl) (N:Po):TS:=λD σ H=>∃ A H₀ B,Sta K A H₀ τ B σ H/\Meets K A H₀ N D
theorem peW {X:Cx} {e:Expr} {t t':TE} (h:PE X e t) (f:∀ σ H Q,t' σ H Q->t σ H Q):PE X e t':=λpins s σ H Q I q=>h pins s σ H Q I (f σ H Q q)
theorem ptW {X:Cx} {e:Expr} {t t':TT} (h:PT X e t) (f:∀ σ H Q,t' σ H Q->t σ H Q):PT X e t':=λpins s σ H Q I q=>h pins s σ H Q I (f σ H Q q)
theorem pwW {X:Cx} {e:Expr} {t t':TT} (h:PW X e t) (f:∀ σ H Q,t' σ H Q->t σ H Q):PW X e t':=λwh pins s σ H Q I q=>h wh pins s σ H Q I (f σ H Q q)
theorem paW {X:Cx} {e:List Expr} {t t':TA} (h:PA X e t) (f:∀ σ H Q,t' σ H Q->t σ H Q):PA X e t':=λp pins s σ H Q I q=>h p pins s σ H Q I (f σ H Q q)
theorem psW {X:Cx} {e:Stmt} {t t':TS} (h:PS X e t) (f:∀ D σ H,t' D σ H->t D σ H):PS X e t':=λpins s σ H D I q=>h pins s σ H D I (f D σ H q)
theorem qE {X:Cx} {e:List Stmt} {t t':TS} (h:PSs X e t) (f:∀ D σ H,t' D σ H->t D σ H):PSs X e t':=λpins s σ H D I q=>h pins s σ H D I (f D σ H q)
section
variable {K:PySem.W.Frag} {C:Bool} {τ:List Sl} {A:Addr->Prop} {H₀ H H':Hp} {B:Nat->List Addr} {σ:L2.St} {x y z:D} {Q:VK}
theorem mv {b:Addr} (h:vw C A B b):own A B b:=by
 cases C with
 | true=>exact h
 | false=>exact .inl h
theorem Sta.vd (S:Sta K A H₀ τ B σ H) (b:Addr) (h:vw C A B b):∃ o,H b=some o:=S.dm b (mv h)
theorem aW (S:Sta K A H₀ τ B σ H) (k:∀ v H',aq H H'->Den K (hd H' (vw C A B)) v x->Q v H'):dE K C τ (.d x) σ H Q:=
 ⟨A,H₀,B,S,λv H' bs e _ ⟨hb,u,eu,h⟩=>by
   cases eu
   exact k v H' e (h.mono (aA (aq.refl _) λ_ z=>.inl z))⟩
theorem eU (h:dE K C τ (.d x) σ H Q):∃ A H₀ B,Sta K A H₀ τ B σ H/\∀ v H',aq H H'->Den K (hd H' (vw C A B)) v x->Q v H':=by
 obtain ⟨A,H₀,B,S,k⟩:=h
 exact ⟨A,H₀,B,S,λv H' e d=>k v H' [] e (λ_ z=>nomatch z) ⟨rfl,v,rfl,d.mono (aA (aq.refl _) λ_ z=>z.elim id λz=>nomatch z)⟩⟩
theorem eA {ds:List D} {Q:List V->Hp->Prop} (S:Sta K A H₀ τ B σ H) (k:∀ vs H',aq H H'->ax K (hd H' (vw C A B)) vs ds->Q vs H'):dA K C τ ds σ H Q:=⟨A,H₀,B,S,k⟩
theorem l4 {M:Addr->Prop} {p:Addr} {o:HO} (hM:∀ b,M b->∃ o,H b=some o) (hp:H p=none):hd (upd H p o) M p=some o:=
 aG.mpr ⟨λz=>(by obtain ⟨o,q⟩:=hM p z; rw [hp] at q; cases q),aL⟩
mutual
noncomputable def ndD:Nd->D
 | .d x=>x
 | .l xs=>.lst (uf xs)
 | .t xs=>.tup (uf xs)
noncomputable def uf:List Nd->List D
 | []=>[]
 | x :: xs=>ndD x :: uf xs
end
noncomputable def fzD:Sl->Option D
 | .un=>none
 | .d x=>some x
 | .o xs=>some (.lst xs)
 | .n t=>some (ndD t)
 | .x _=>none
mutual
theorem cI.den {G G':Hp} (g:aq G G'):∀ {u:V} {bs:List Addr} {t:Nd},(∀ b ∈ bs,∀ o,H b=some o->G' b=some o)->cI K G H u bs t->Den K G' u (ndD t)
 | _,_,_,_,.d h=>h.mono g
 | _,_,_,e,.l h r=>.lst (SqL.of (e _ (List.mem_cons_self ..) _ h)) (aV.den g (λb hb=>e b (List.mem_cons_of_mem _ hb)) r)
 | _,_,_,e,.t h r=>.tup (SqT.of (e _ (List.mem_cons_self ..) _ h)) (aV.den g (λb hb=>e b (List.mem_cons_of_mem _ hb)) r)
theorem aV.den {G G':Hp} (g:aq G G'):∀ {vs:List V} {bs:List Addr} {xs:List Nd},(∀ b ∈ bs,∀ o,H b=some o->G' b=some o)->aV K G H vs bs xs->ax K G' vs (uf xs)
 | _,_,_,_,.nil=>.nil
 | _,_,_,e,.cons h r=>.cons (cI.den g (λb hb=>e b (List.mem_append_left _ hb)) h) (aV.den g (λb hb=>e b (List.mem_append_right _ hb)) r)
end
theorem cn.den {G G':Hp} {v:Option V} {bs:List Addr} {s:Sl} (h:cn K G H v bs s) (g:aq G G') (hv:∀ b ∈ bs,∀ o,H b=some o->G' b=some o) (e:fzD s=some x):∃ u,v=some u/\Den K G' u x:=by
 cases s with
 | un=>cases e
 | d y=>cases e; obtain ⟨_,u,e,q⟩:=h; exact ⟨u,e,q.mono g⟩
 | o xs=>
   cases e
   obtain ⟨a,vs,rfl,h2,h3,h4⟩:=h
   exact ⟨_,h2,.lst (SqL.of (hv a (List.mem_cons_self ..) _ h3)) (h4.mono g)⟩
 | n t=>
   cases e
   obtain ⟨_,u,e,q⟩:=h
   exact ⟨u,e,q.den g hv⟩
 | x E=>cases e
theorem slot_of {i:Nat} {u:V} (h:(σ[i]?).join=some u):σ[i]?=some (some u):=by
 cases e:σ[i]? with
 | none=>rw [e] at h; cases h
 | some o=>rw [e] at h; exact congrArg some h
end
section
variable {X:Cx} {C:Bool} {τ:List Sl} {x y z:D} {a b e:Expr} {es:List Expr} {pos:Pos}
theorem aa (i:Nat) {n:Str} {x:D} (h:τ[i]?=some (.d x):=by rfl) (hN:X.N[i]?=some n:=by rfl) (hv:Vis X.env.scope n:=by first | exact Or.inl rfl | exact Or.inr (Or.inl rfl) | exact Or.inr (Or.inr rfl))
   (hd:(n == ("__debug__" : Str))=false:=by decide) (hcd:(n == ("__classdict__" : Str))=false:=by decide):PE X (.Name n pos) (dE X.K C τ (.d x)):=peW (cX hN hv hd hcd) λσ H Q q=>by
 obtain ⟨A,H₀,B,S,k⟩:=eU q
 obtain ⟨_,u,e,d⟩:=S.sl i _ h
 exact ⟨u,slot_of e,k u H (aq.refl _) (d.mono (aA (aq.refl _) λ_ z=>mv z))⟩
theorem vk (i:Nat) {n:Str} {s:Sl} {x:D} (h:τ[i]?=some s:=by rfl) (hx:fzD s=some x:=by rfl) (hN:X.N[i]?=some n:=by rfl) (hv:Vis X.env.scope n:=by first | exact Or.inl rfl | exact Or.inr (Or.inl rfl) | exact Or.inr (Or.inr rfl))
   (hd:(n == ("__debug__" : Str))=false:=by decide) (hcd:(n == ("__classdict__" : Str))=false:=by decide):PE X (.Name n pos) (dE X.K false τ (.d x)):=peW (cX hN hv hd hcd) λσ H Q q=>by
 obtain ⟨A,H₀,B,S,k⟩:=eU q
 obtain ⟨u,e,d⟩:=(S.sl i _ h).den (G':=Hy.hd H A) (aA (aq.refl _) λ_ z=>.inl z) (λb hb o ho=>aG.mpr ⟨λz=>(by obtain ⟨_,q⟩:=S.ad b z; rw [S.fr i b hb] at q; cases q),ho⟩) hx
 exact ⟨u,slot_of e,k u H (aq.refl _) d⟩
theorem nP {v:V} (h:PE X e (tC v)) (d:∀ H,Den X.K H v x):PE X e (dE X.K C τ (.d x)):=peW h λσ H Q q=>by
 obtain ⟨A,H₀,B,S,k⟩:=eU q
 exact k v H (aq.refl _) (d _)
theorem af {i j}:PE X (.Constant (.int i) j pos) (dE X.K C τ (.d (.int i))):=nP mL λ_=>.int
theorem tm {b j}:PE X (.Constant (.bool b) j pos) (dE X.K C τ (.d (.bl b))):=nP xj λ_=>.bl
theorem rT {j}:PE X (.Constant .none j pos) (dE X.K C τ (.d .non)):=nP wO λ_=>.non
theorem vG {n:Str} {i:Int} (hm:∃ t,X.mg n=some (.int i t)) (hg:Gl X n:=by rfl) (hd:(n == ("__debug__" : Str))=false:=by decide):PE X (.Name n pos) (dE X.K C τ (.d (.int i))):=by
 obtain ⟨t,hm⟩:=hm
 exact nP (tu (v:=.int i) hg hm ⟨t,rfl⟩ hd) λ_=>.int
theorem ba {s:Sl} (h:PE X e (dE X.K C τ s)) (hx:fzD s=some x:=by rfl):PE X e (dE X.K C τ (.d x)):=peW h λσ H Q q=>by
 obtain ⟨A,H₀,B,S,k⟩:=eU q
 refine ⟨A,H₀,B,S,λv H' bs e hf q=>?_⟩
 have vd:=S.vd (C:=C)
 obtain ⟨u,e1,d⟩:=q.den (G':=Hy.hd H' (vw C A B)) (aA (aq.refl _) λ_ z=>.inl z) (λb hb o ho=>aG.mpr ⟨λz=>(by obtain ⟨_,q⟩:=vd b z; rw [(hf b hb).1] at q; cases q),ho⟩) hx
 cases e1
 exact k v H' e d
noncomputable def flat:D->Bool
 | .tup _=>false
 | .lst _=>false
 | .box _=>false
 | _=>true
theorem ij {K:PySem.W.Frag} {G G':Hp} {v:V} (h:Den K G v x) (f:flat x=true):Den K G' v x:=by
 cases h with
 | non=>exact .non
 | bl=>exact .bl
 | int=>exact .int
 | str=>exact .str
 | tup _ _=>cases f
 | lst _ _=>cases f
 | box _=>cases f
noncomputable def cx (X:Cx) (f:Value->Value->Sem Value) (x y z:D):Prop:=∃ r:R2,OpR X f r /\
 ∀ (M:Addr->Prop) (v w:V) (H:Hp) (Q:VK),(∀ b,M b->∃ o,H b=some o)->Den X.K (hd H M) v x->Den X.K (hd H M) w y->(∀ u H',aq H H'->Den X.K (hd H' M) u z->Q u H')->r v w H Q
theorem two {r:R2} (hr:∀ (M:Addr->Prop) (v w:V) (H:Hp) (Q:VK),(∀ b,M b->∃ o,H b=some o)->Den X.K (hd H M) v x->Den X.K (hd H M) w y->(∀ u H',aq H H'->Den X.K (hd H' M) u z->Q u H')->r v w H Q) :
   ∀ σ H Q,dE X.K C τ (.d z) σ H Q->tOp r (dE X.K C τ (.d x)) (dE X.K C τ (.d y)) σ H Q:=by
 intro σ H Q h
 obtain ⟨A,H₀,B,S,k⟩:=eU h
 refine aW S λv H1 e1 d1=>aW (S.mono e1) λw H2 e2 d2=>hr (vw C A B) v w H2 Q ((S.mono e1).mono e2).vd (d1.mono (aA e2 λ_ z=>z)) d2 λu H' e3 d3=>k u H' (e1.trans (e2.trans e3)) d3
theorem aw {op:Operator} (ha:PE X a (dE X.K C τ (.d x))) (hb:PE X b (dE X.K C τ (.d y))) (ho:cx X (binaryOp op) x y z):PE X (.BinOp a op b pos) (dE X.K C τ (.d z)):=by
 obtain ⟨r,h1,h2⟩:=ho
 exact peW (uD h1 ha hb) (two h2)
theorem hW {op:CmpOp} (ha:PE X a (dE X.K C τ (.d x))) (hb:PE X b (dE X.K C τ (.d y))) (ho:cx X (compareOp op) x y z) (hm:behindInMarks op b=false:=by first | exact pN _ | rfl):PE X (.Compare a [op] [b] pos) (dE X.K C τ (.d z)):=by
 obtain ⟨r,h1,h2⟩:=ho
 exact peW (sZ h1 ha hb hm) (two h2)
theorem rg {t:TE} {c:Bool} (h:∀ σ H Q,dE X.K false τ (.d (.bl c)) σ H Q->t σ H Q):∀ σ H Q,dT X.K τ c σ H Q->t σ H λx H'=>∃ k,x=.bl k/\Q k H':=λσ H Q ⟨A,H₀,B,S,k⟩=>
 h σ H _ (aW S λv H' e d=>by cases d; exact ⟨c,rfl,k H' e⟩)
theorem bb {op:CmpOp} {c:Bool} (ha:PE X a (dE X.K false τ (.d x))) (hb:PE X b (dE X.K false τ (.d y))) (ho:cx X (compareOp op) x y (.bl c)) (hm:behindInMarks op b=false:=by first | exact pN _ | rfl):PT X (.Compare a [op] [b] pos) (dT X.K τ c):=by
 obtain ⟨r,h1,h2⟩:=ho
 exact ptW (sI h1 ha hb hm) (rg (two h2))
theorem bY {c:Bool} (h:PE X e (dE X.K false τ (.d (.bl c)))) (he:∀ whole,isTrue e X.env whole=(do let v <- whole; standAt e.pos; holding [v] (truthy v)):=by intro _; rfl):PT X e (dT X.K τ c):=
 ptW (vj h he) (rg λ_ _ _ q=>q)
theorem jz {g:Int->Int->V} {P:Int->Int->Prop} {i j:Int} (hc:P i j) (hz:∀ K H,Den K H (g i j) z):∀ (M:Addr->Prop) (v w:V) (H:Hp) (Q:VK),(∀ b,M b->∃ o,H b=some o)->Den X.K (hd H M) v (.int i)->Den X.K (hd H M) w (.int j) ->
   (∀ u H',aq H H'->Den X.K (hd H' M) u z->Q u H')->rI P g v w H Q:=λ_ v w H Q _ d1 d2 k=>by
 cases d1
 cases d2
 exact ⟨i,j,rfl,rfl,hc,k _ H (aq.refl _) (hz _ _)⟩
theorem gn {g:Int->Int->V} {i j:Int} (hz:∀ K H,Den K H (g i j) z):∀ (M:Addr->Prop) (v w:V) (H:Hp) (Q:VK),(∀ b,M b->∃ o,H b=some o)->Den X.K (hd H M) v (.int i)->Den X.K (hd H M) w (.int j) ->
   (∀ u H',aq H H'->Den X.K (hd H' M) u z->Q u H')->rI0 g v w H Q:=λ_ v w H Q _ d1 d2 k=>by
 cases d1
 cases d2
 exact ⟨i,j,rfl,rfl,k _ H (aq.refl _) (hz _ _)⟩
variable {i j:Int}
theorem bS:cx X (binaryOp .Add) (.int i) (.int j) (.int (i + j)):=⟨_,wA,gn λ_ _=>.int⟩
theorem eF:cx X (binaryOp .Sub) (.int i) (.int j) (.int (i - j)):=⟨_,vc,gn λ_ _=>.int⟩
theorem uJ:cx X (binaryOp .BitAnd) (.int i) (.int j) (.int (Builtin.bitAnd i j)):=⟨_,va,gn λ_ _=>.int⟩
theorem yJ:cx X (binaryOp .BitOr) (.int i) (.int j) (.int (Builtin.bitOr i j)):=⟨_,w6,gn λ_ _=>.int⟩
theorem aE.ok' {i j:Int} (h:aE i j):IntMulOk i j:=by
 have b:∀ {k:Int} {n:Nat},k.natAbs.log2 < n->Builtin.Int.intBits k<=n:=λ{k n} q=>by
   unfold Builtin.Int.intBits
   split
   · exact Nat.zero_le _
   · exact q
 rcases h with h | h | ⟨h1,h2⟩
 · exact .of_left (b h)
 · exact .of_right (b h)
 · exact .of_bits (Nat.le_trans (b h1) (by decide)) (Nat.le_trans (b h2) (by decide))
theorem aS (h:aE i j):cx X (binaryOp .Mult) (.int i) (.int j) (.int (i * j)):=⟨rI aE λi j=>.int (i * j),opI λ_ _ _ _ _ _ _ hc q=>mul_int q (aE.ok' hc),jz h λ_ _=>.int⟩
theorem bB (h:aH j):cx X (binaryOp .FloorDiv) (.int i) (.int j) (.int (i.fdiv j)):=⟨rI (λ_ j=>aH j) λi j=>.int (i.fdiv j),opI λ_ _ _ _ _ _ _ hc q=>floordiv_int hc.1 q (.inl (PyProof.noPylong_of_log2 hc.2)),jz h λ_ _=>.int⟩
theorem b5 (h:j ≠ 0):cx X (binaryOp .Mod) (.int i) (.int j) (.int (i.fmod j)):=⟨_,tG,jz h λ_ _=>.int⟩
theorem iV (h:tT i j):cx X (binaryOp .Pow) (.int i) (.int j) (.int (i ^ j.toNat)):=⟨_,vA,jz h λ_ _=>.int⟩
theorem uT (h:tT i j):cx X (binaryOp .LShift) (.int i) (.int j) (.int (i * 2 ^ j.toNat)):=⟨_,wz,jz h λ_ _=>.int⟩
theorem uR (h:0<=j):cx X (binaryOp .RShift) (.int i) (.int j) (.int (i / 2 ^ j.toNat)):=⟨_,v9,jz h λ_ _=>.int⟩
theorem si:cx X (compareOp .Lt) (.int i) (.int j) (.bl (decide (i < j))):=⟨_,ya,gn λ_ _=>.bl⟩
theorem yc:cx X (compareOp .LtE) (.int i) (.int j) (.bl (decide (i<=j))):=⟨_,xv,gn λ_ _=>.bl⟩
theorem vF:cx X (compareOp .Gt) (.int i) (.int j) (.bl (decide (j < i))):=⟨_,xT,gn λ_ _=>.bl⟩
theorem tw:cx X (compareOp .GtE) (.int i) (.int j) (.bl (decide (j<=i))):=⟨_,xJ,gn λ_ _=>.bl⟩
theorem gu:cx X (compareOp .Eq) (.int i) (.int j) (.bl (decide (i=j))):=⟨_,xp,λ_ v w H Q _ d1 d2 k=>by
 cases d1
 cases d2
 exact ⟨rfl,by rw [show decide (V.int i=V.int j)=decide (i=j) by simp]; exact k _ H (aq.refl _) .bl⟩⟩
theorem mV:cx X (compareOp .NotEq) (.int i) (.int j) (.bl (!decide (i=j))):=⟨_,yg,λ_ v w H Q _ d1 d2 k=>by
 cases d1
 cases d2
 exact ⟨rfl,by rw [show decide (V.int i=V.int j)=decide (i=j) by simp]; exact k _ H (aq.refl _) .bl⟩⟩
theorem sA (h:PE X a (dE X.K C τ (.d (.int i)))):PE X (.UnaryOp .USub a pos) (dE X.K C τ (.d (.int (-i)))):=peW (xQ wH h) λσ H Q q=>by
 obtain ⟨A,H₀,B,S,k⟩:=eU q
 refine aW S λv H1 e1 d1=>?_
 cases d1
 exact ⟨i,rfl,k _ H1 e1 .int⟩
theorem xf {e:Expr}:PE X e λ_ _ _=>False:=λ_ _ _ _ _ _ h=>h.elim
theorem pw_no {e:Expr}:PW X e λ_ _ _=>False:=λ_ _ _ _ _ _ _ h=>h.elim
variable {p q:Bool} {c:Expr} {rest:List Expr}
theorem jk {op} {s:Sl} (h:PE X a (dE X.K C τ s)):PE X (.BoolOp op [a] pos) (dE X.K C τ s):=we h
theorem iM (ha:PE X a (dE X.K C τ (.d (.bl p)))) (hb:p=true->PE X (.BoolOp .And (b :: rest) pos) (dE X.K C τ (.d (.bl q)))):PE X (.BoolOp .And (a :: b :: rest) pos) (dE X.K C τ (.d (.bl (p && q)))):=by
 cases p with
 | false=>
   refine peW (qK ha xf) λσ H Q z=>?_
   obtain ⟨A,H₀,B,S,k⟩:=eU z
   exact aW S λv H' e d=>by cases d; exact ⟨_,rfl,k _ H' e .bl⟩
 | true=>
   refine peW (qK ha (hb rfl)) λσ H Q z=>?_
   obtain ⟨A,H₀,B,S,k⟩:=eU z
   exact aW S λv H' e d=>by cases d; exact ⟨_,rfl,aW (S.mono e) λv H2 e2 d2=>k v H2 (e.trans e2) d2⟩
theorem uK (ha:PE X a (dE X.K C τ (.d (.bl p)))):PE X (.UnaryOp .Not a pos) (dE X.K C τ (.d (.bl (!p)))):=peW (vV ha) λσ H Q z=>by
 obtain ⟨A,H₀,B,S,k⟩:=eU z
 exact aW S λv H' e d=>by cases d; exact ⟨_,rfl,k _ H' e .bl⟩
theorem gk (ha:PT X a (dT X.K τ p)):PW X (.BoolOp .Or [a] pos) (dT X.K τ p):=pw_or1 ha
theorem gq (ha:PT X a (dT X.K τ p)) (hb:p=false->PW X (.BoolOp .Or (b :: rest) pos) (dT X.K τ q)):PW X (.BoolOp .Or (a :: b :: rest) pos) (dT X.K τ (p || q)):=by
 cases p with
 | true=>exact pwW (pw_or ha pw_no) λσ H Q ⟨A,H₀,B,S,k⟩=>⟨A,H₀,B,S,λH' e=>tM (k H' e)⟩
 | false=>exact pwW (pw_or ha (hb rfl)) λσ H Q ⟨A,H₀,B,S,k⟩=>⟨A,H₀,B,S,λH' e=>uk (⟨A,H₀,B,S.mono e,λH2 e2=>k H2 (e.trans e2)⟩)⟩
theorem bZ (ha:PT X a (dT X.K τ p)):PT X (.UnaryOp .Not a pos) (dT X.K τ (!p)):=ptW (vP ha) λσ H Q ⟨A,H₀,B,S,k⟩=>⟨A,H₀,B,S,λH' e=>k H' e⟩
theorem tQ {op op':CmpOp} (ha:PE X a (dE X.K C τ (.d x))) (hb:PE X b (dE X.K C τ (.d y))) (hc:PE X c (dE X.K C τ (.d z))) (h1:cx X (compareOp op) x y (.bl p)) (h2:cx X (compareOp op') y z (.bl q))
   (hm:lastMarks [op,op'] [b,c]=false:=by with_unfolding_all rfl):PE X (.Compare a [op,op'] [b,c] pos) (dE X.K C τ (.d (.bl (p && q))))/\(C=false->PT X (.Compare a [op,op'] [b,c] pos) (dT X.K τ (p && q))):=by
 obtain ⟨r,o1,k1⟩:=h1
 obtain ⟨r',o2,k2⟩:=h2
 have key:∀ σ H Q,dE X.K C τ (.d (.bl (p && q))) σ H Q->mw r r' (dE X.K C τ (.d x)) (dE X.K C τ (.d y)) (dE X.K C τ (.d z)) σ H Q:=λσ H Q h=>by
   obtain ⟨A,H₀,B,S,k⟩:=eU h
   refine aW S λv H1 e1 d1=>aW (S.mono e1) λw H2 e2 d2=>k1 (vw C A B) v w H2 _ ((S.mono e1).mono e2).vd (d1.mono (aA e2 λ_ z=>z)) d2 λu H3 e3 d3=>?_
   cases d3
   refine ⟨p,rfl,?_⟩
   cases p with
   | false=>exact uk (k _ H3 (e1.trans (e2.trans e3)) .bl)
   | true=>exact tM (aW (((S.mono e1).mono e2).mono e3) λw' H4 e4 d4=>k2 (vw C A B) w w' H4 Q ((((S.mono e1).mono e2).mono e3).mono e4).vd (d2.mono (aA (e3.trans e4) λ_ z=>z)) d4 λu H5 e5 d5=>k u H5 (e1.trans (e2.trans (e3.trans (e4.trans e5)))) d5)
 exact ⟨peW (qj o1 o2 ha hb hc hm) key,λhC=>by subst hC; exact ptW (pS o1 o2 ha hb hc hm) (rg key)⟩
theorem ag:PA X [] (dA X.K C τ []):=paW fZ λσ H Q ⟨A,H₀,B,S,k⟩=>k [] H (aq.refl _) .nil
theorem ae {ds:List D} (ha:PE X e (dE X.K C τ (.d x))) (hr:PA X es (dA X.K C τ ds)) (hs:starEach (e :: es) X.env=(false,eval e X.env) :: starEach es X.env:=by rfl):PA X (e :: es) (dA X.K C τ (x :: ds)):=paW (cR ha hr hs) λσ H Q ⟨A,H₀,B,S,k⟩=>
 aW S λv H1 e1 d1=>eA (S.mono e1) λvs H2 e2 d2=>k _ H2 (e1.trans e2) (.cons (d1.mono (aA e2 λ_ z=>z)) d2)
theorem jj {ds:List D} {m} (h:PA X es (dA X.K C τ ds)) (hl:Nat.ble ds.length 1000=true:=by rfl):PE X (.Tuple es m pos) (dE X.K C τ (.d (.tup ds))):=peW (wL h) λσ H Q q=>by
 obtain ⟨A,H₀,B,S,k⟩:=eU q
 refine eA S λvs H1 e1 d1=>⟨by rw [d1.length]; exact Nat.le_of_lt (jB (Nat.le_of_ble_eq_true hl)),λp hp=>k _ _ (e1.trans (av hp _)) ?_⟩
 exact .tup (SqT.of (l4 (S.mono e1).vd hp)) (d1.mono (aA (av hp _) λ_ z=>z))
theorem fb {ds:List D} (h:PA X es (dA X.K C τ ds)) (hl:Nat.ble ds.length 1000=true:=by rfl):PE X (.List es pos) (dE X.K C τ (.o ds)):=peW (wx h) λσ H Q ⟨A,H₀,B,S,k⟩=>
 eA S λvs H1 e1 d1=>⟨by rw [d1.length]; exact Nat.le_of_lt (jB (Nat.le_of_ble_eq_true hl)),λp hp=>k _ _ [p] (e1.trans (av hp _)) (λb hb=>by
   obtain rfl:=List.mem_singleton.mp hb
   exact ⟨e1.free hp,_,aL⟩) ⟨p,vs,rfl,rfl,aL,d1.mono λb o z=>by
     obtain ⟨z1,z2⟩:=aG.mp z
     refine aG.mpr ⟨λy=>?_,av hp _ _ _ z2⟩
     rcases y with y | y
     · exact z1 y
     · rw [List.mem_singleton.mp y] at z2; rw [hp] at z2; cases z2⟩⟩
end
noncomputable def spD (K:PySem.W.Frag) (Φ:List D->Sl->Prop):Sp:=λvs H Q _=>∃ A ds s,(∀ b,A b->∃ o,H b=some o)/\ax K (hd H A) vs ds/\Φ ds s /\
 ∀ v H' bs,aq H H'->Fr H H' bs->cn K (hd H' λb=>A b\/b ∈ bs) H' (some v) bs s->Q v H'
noncomputable def Cal (P:Program) (w:World) (K:PySem.W.Frag) (mg:Str->Option Value) (base:Heap) (k:Nat) (n:Str) (Φ:List D->Sl->Prop):Prop:=
 ∃ f fd ps,aR P w K mg base CX0 k f fd ps (spD K Φ)/\mg n=some (.ref f)/\PySem.W.keepIn K (.ref f)=true/\Binds K fd ps []
theorem Cal.mono {P:Program} {w:World} {K:PySem.W.Frag} {mg:Str->Option Value} {base:Heap} {j k:Nat} {n:Str} {Φ:List D->Sl->Prop} (c:Cal P w K mg base j n Φ) (h:j<=k):Cal P w K mg base k n Φ:=
 let ⟨f,fd,ps,F,r⟩:=c; ⟨f,fd,ps,F.mono h,r⟩
noncomputable def aj:List Str:=["len","abs","max","min","int","bool","list","tuple","str","isinstance","range","enumerate","all","zip","sorted","sum","any","reversed"]
structure Bk (X:Cx) (k:Nat):Prop where
 room:dM k X.A
 calm:X.calm=true
 blt:∀ x ∈ aj,X.mg x=none
 po:PassesOwn (model X.prog X.w) X.A X.env X.xe
section
variable {X:Cx} {C:Bool} {τ:List Sl} {x y z:D} {a b e:Expr} {es:List Expr} {pos p:Pos} {k:Nat} {s:Sl} {ds:List D} {i j:Int}
theorem x_call {n:Str} {Φ:List D->Sl->Prop} (B:Bk X k) (c:Cal X.prog X.w X.K X.mg X.base k n Φ) (ha:PA X (e :: es) (dA X.K C τ ds)) (h:Φ ds s) (hg:Gl X n:=by rfl) (hdb:(n == ("__debug__" : Str))=false:=by decide)
   (he:starEach (e :: es) X.env=(false,eval e X.env) :: starEach es X.env:=by rfl) (hpl:(backTo pos (starEach es X.env)).any (·.1)=false:=by rfl):PE X (.Call (.Name n p) (e :: es) [] pos) (dE X.K C τ s):=by
 obtain ⟨f,fd,ps,F,hm,hk,hb⟩:=c
 refine peW (tE F B.room hg hm hk hb .nil xi ha hdb he hpl) λσ H Q ⟨A,H₀,B,S,q⟩=>eA S λvs H1 e1 d1=>?_
 rw [List.append_nil]
 exact ⟨vw C A B,ds,s,(S.mono e1).vd,d1,h,λv H' bs e2 hf h2=>q v H' bs (e1.trans e2) (λb hb=>⟨e1.free (hf b hb).1,(hf b hb).2⟩) h2⟩
noncomputable def ff (X:Cx) (f:Value) (ds:List D) (s:Sl):Prop:=∃ r:List V->Hp->VK->Prop,dg X f r /\
 ∀ (M:Addr->Prop) (vs:List V) (H:Hp) (Q:VK),(∀ b,M b->∃ o,H b=some o)->ax X.K (hd H M) vs ds->(∀ u H' bs,aq H H'->Fr H H' bs->cn X.K (hd H' λb=>M b\/b ∈ bs) H' (some u) bs s->Q u H')->r vs H Q
theorem rq {r:List V->Hp->VK->Prop} (hr:∀ (M:Addr->Prop) (vs:List V) (H:Hp) (Q:VK),(∀ b,M b->∃ o,H b=some o)->ax X.K (hd H M) vs ds->(∀ u H' bs,aq H H'->Fr H H' bs->cn X.K (hd H' λb=>M b\/b ∈ bs) H' (some u) bs s->Q u H')->r vs H Q) :
   ∀ σ H Q,dE X.K C τ s σ H Q->tCB r (dA X.K C τ ds) σ H Q:=λσ H Q ⟨A,H₀,B,S,q⟩=>
 eA S λvs H1 e1 d1=>hr (vw C A B) vs H1 Q (S.mono e1).vd d1 λv H' bs e2 hf h2=>q v H' bs (e1.trans e2) (λb hb=>⟨e1.free (hf b hb).1,(hf b hb).2⟩) h2
theorem bg {n:Str} {id:String} (B:Bk X k) (ha:PA X (e :: es) (dA X.K C τ ds)) (c:ff X (.builtin id) ds s) (hn:n ∈ aj:=by decide) (hg:Gl X n:=by rfl) (hv:bootBuiltins n=some (.builtin id):=by decide +kernel) (h1:n ≠ "__name__":=by decide) (hdb:(n == ("__debug__" : Str))=false:=by decide)
   (he:starEach (e :: es) X.env=(false,eval e X.env) :: starEach es X.env:=by rfl) (hpl:(backTo pos (starEach es X.env)).any (·.1)=false:=by rfl):PE X (.Call (.Name n p) (e :: es) [] pos) (dE X.K C τ s):=by
 obtain ⟨r,h1,h2⟩:=c
 exact peW (lO h1 hg (B.blt _ hn) hv ha (by assumption) hdb he hpl) (rq h2)
theorem yD {n:Str} {T:String} (B:Bk X k) (ha:PA X (e :: es) (dA X.K C τ ds)) (c:ff X (.type T) ds s) (hn:n ∈ aj:=by decide) (hg:Gl X n:=by rfl) (hv:bootBuiltins n=some (.type T):=by decide +kernel) (h1:n ≠ "__name__":=by decide) (hdb:(n == ("__debug__" : Str))=false:=by decide)
   (he:starEach (e :: es) X.env=(false,eval e X.env) :: starEach es X.env:=by rfl) (hpl:(backTo pos (starEach es X.env)).any (·.1)=false:=by rfl):PE X (.Call (.Name n p) (e :: es) [] pos) (dE X.K C τ s):=by
 obtain ⟨r,h1,h2⟩:=c
 exact peW (oG h1 hg (B.blt _ hn) hv ha (by assumption) hdb he hpl) (rq h2)
theorem gd {K:PySem.W.Frag} {H:Hp} {M:Addr->Prop} {v:V} (h:Den K (hd H M) v x):cn K (hd H λb=>M b\/b ∈ ([]:List Addr)) H (some v) [] (.d x):=⟨rfl,v,rfl,h.mono (aA (aq.refl _) λ_ z=>z.elim id λz=>nomatch z)⟩
theorem dh {H H':Hp}:Fr H H' []:=λ_ z=>nomatch z
theorem hV {xs:List D}:ff X (.builtin "len") [.lst xs] (.d (.int xs.length)):=⟨_,fo,λM vs H Q _ d q=>by
 cases d with
 | cons d r=>
   cases r
   cases d with
   | lst h r=>
     refine ⟨_,_,rfl,.inl (aK aU h),?_⟩
     rw [r.length]
     exact q _ H [] (aq.refl _) dh (gd .int)⟩
theorem rn {xs:List D}:ff X (.builtin "len") [.tup xs] (.d (.int xs.length)):=⟨_,fo,λM vs H Q _ d q=>by
 cases d with
 | cons d r=>
   cases r
   cases d with
   | tup h r=>
     refine ⟨_,_,rfl,.inr (bD aU h),?_⟩
     rw [r.length]
     exact q _ H [] (aq.refl _) dh (gd .int)⟩
noncomputable def mz (i:Int):Int:=if i < 0 then -i else i
theorem jH:ff X (.builtin "abs") [.int i] (.d (.int (mz i))):=⟨_,q9,λM vs H Q _ d q=>by
 cases d with
 | cons d r=>
   cases r
   cases d
   exact ⟨_,rfl,q _ H [] (aq.refl _) dh (gd .int)⟩⟩
theorem xK (hc:X.calm=true):ff X (.builtin "max") [.int i,.int j] (.d (.int (if j > i then j else i))):=⟨_,px hc,λM vs H Q _ d q=>by
 cases d with
 | cons d r=>
   cases r with
   | cons d' r=>
     cases r
     cases d
     cases d'
     exact ⟨_,_,rfl,q _ H [] (aq.refl _) dh (gd .int)⟩⟩
theorem uQ (hc:X.calm=true):ff X (.builtin "min") [.int i,.int j] (.d (.int (if j < i then j else i))):=⟨_,oZ hc,λM vs H Q _ d q=>by
 cases d with
 | cons d r=>
   cases r with
   | cons d' r=>
     cases r
     cases d
     cases d'
     exact ⟨_,_,rfl,q _ H [] (aq.refl _) dh (gd .int)⟩⟩
theorem m5 {K:PySem.W.Frag} {H:Hp} {M:Addr->Prop} {p:Addr} {vs:List V} {xs:List D} (hp:H p=none) (d:ax K (hd H M) vs xs) :
   aq H (upd H p (.lst vs))/\Fr H (upd H p (.lst vs)) [p]/\cn K (hd (upd H p (.lst vs)) λb=>M b\/b ∈ [p]) (upd H p (.lst vs)) (some (.ref p)) [p] (.o xs):=
 ⟨av hp _,λb hb=>by
   obtain rfl:=List.mem_singleton.mp hb
   exact ⟨hp,_,aL⟩,p,vs,rfl,rfl,aL,d.mono λb o z=>by
     obtain ⟨z1,z2⟩:=aG.mp z
     refine aG.mpr ⟨λy=>?_,av hp _ _ _ z2⟩
     rcases y with y | y
     · exact z1 y
     · rw [List.mem_singleton.mp y] at z2; rw [hp] at z2; cases z2⟩
theorem vL {xs:List D}:ff X (.type "list") [.lst xs] (.o xs):=⟨_,j4,λM vs H Q _ d q=>by
 cases d with
 | cons d r=>
   cases r
   cases d with
   | lst h r=>
     refine ⟨_,_,rfl,.inl (aK aU h),λp hp=>?_⟩
     obtain ⟨z1,z2,z3⟩:=m5 (K:=X.K) (M:=M) hp r
     exact q _ _ [p] z1 z2 z3⟩
theorem rA {K:PySem.W.Frag} {H:Hp} {vs:List V} {ds:List D} {i:Int} {d:D} (r:ax K H vs ds) (h:atI ds i=some d):∃ v,atI vs i=some v/\Den K H v d:=by
 unfold atI at h ⊢
 rw [r.length]
 cases e:ixN ds.length i with
 | none=>rw [e] at h; cases h
 | some j=>rw [e] at h; exact r.get h
noncomputable def vX (X:Cx) (x y z:D):Prop:=∃ r:R2,IxR X r /\
 ∀ (M:Addr->Prop) (v w:V) (H:Hp) (Q:VK),(∀ b,M b->∃ o,H b=some o)->Den X.K (hd H M) v x->Den X.K (hd H M) w y->(∀ u H',aq H H'->Den X.K (hd H' M) u z->Q u H')->r v w H Q
theorem aM (ha:PE X a (dE X.K C τ (.d x))) (hb:PE X b (dE X.K C τ (.d y))) (ho:vX X x y z) (hs:n9 b:=by exact λ_ _=>rfl):PE X (.Subscript a b pos) (dE X.K C τ (.d z)):=by
 obtain ⟨r,h1,h2⟩:=ho
 exact peW (wZ h1 ha hb hs) (two h2)
theorem aQ {xs:List D} (h:atI xs i=some z):vX X (.lst xs) (.int i) z:=⟨_,uz,λM v w H Q _ d1 d2 q=>by
 cases d2
 cases d1 with
 | lst hs r=>
   obtain ⟨v,e,d⟩:=rA r h
   exact ⟨_,_,_,_,rfl,rfl,aK aU hs,e,q _ H (aq.refl _) d⟩⟩
theorem bh {xs:List D} (h:atI xs i=some z):vX X (.tup xs) (.int i) z:=⟨_,wo,λM v w H Q _ d1 d2 q=>by
 cases d2
 cases d1 with
 | tup hs r=>
   obtain ⟨v,e,d⟩:=rA r h
   exact ⟨_,_,_,_,rfl,rfl,bD aU hs,e,q _ H (aq.refl _) d⟩⟩
noncomputable def dO (K:PySem.W.Frag) (τ:List Sl) (c:Option Int):TO:=λσ H Q=>∃ A H₀ B,Sta K A H₀ τ B σ H/\∀ H',aq H H'->Q c H'
theorem xI {e:Option Expr} {t t':TO} (h:PO X e t) (f:∀ σ H Q,t' σ H Q->t σ H Q):PO X e t':=λpins s σ H Q I q=>h pins s σ H Q I (f σ H Q q)
theorem sa:PO X none (dO X.K τ none):=xI tI λσ H Q ⟨A,H₀,B,S,k⟩=>k H (aq.refl _)
theorem dY (h:PE X e (dE X.K false τ (.d (.int i)))):PO X (some e) (dO X.K τ (some i)):=xI (ub h) λσ H Q ⟨A,H₀,B,S,k⟩=>aW S λv H1 e1 d1=>by
 cases d1
 exact ⟨_,rfl,k H1 e1⟩
noncomputable def cutD (xs:List D) (lo hi:Option Int):List D:=(xs.drop (HT.sIx xs.length 0 lo)).take (HT.sIx xs.length xs.length hi - HT.sIx xs.length 0 lo)
theorem rS {lo hi:Option Expr} {l u:Option Int} {xs:List D} {p2:Pos} (ha:PE X a (dE X.K C τ (.d (.lst xs)))) (hl:PO X lo (dO X.K τ l)) (hu:PO X hi (dO X.K τ u)):PE X (.Subscript a (.Slice lo hi none p2) pos) (dE X.K C τ (.o (cutD xs l u))):=
 peW (pX tZ ha hl hu) λσ H Q ⟨A,H₀,B,S,k⟩=>aW S λv H1 e1 d1=>⟨A,H₀,B,S.mono e1,λH2 e2=>⟨A,H₀,B,(S.mono e1).mono e2,λH3 e3=>by
   cases d1 with
   | @lst _ ws _ h r=>
     have h:=aK (e2.trans e3) (aK aU h)
     refine ⟨_,_,rfl,h,λp hp=>?_⟩
     have r:=r.mono (aA (e2.trans e3) λ_ z=>z)
     have r':ax X.K (hd H3 (vw C A B)) (oX ws l u) (cutD xs l u):=by
       unfold oX cutD
       rw [r.length]
       exact (r.drop _).take _
     obtain ⟨z1,z2,z3⟩:=m5 (K:=X.K) hp r'
     exact k _ _ [p] (e1.trans (e2.trans (e3.trans z1))) (λb hb=>⟨(e1.trans (e2.trans e3)).free (z2 b hb).1,(z2 b hb).2⟩) z3⟩⟩
inductive Ty where
 | int | bool | str | list | tuple
noncomputable def tyN:Ty->String
 | .int=>"int" | .bool=>"bool" | .str=>"str" | .list=>"list" | .tuple=>"tuple"
noncomputable def xF:D->String
 | .non=>"NoneType" | .bl _=>"bool" | .int _=>"int" | .str _=>"str" | .tup _=>"tuple" | .lst _=>"list" | .box _=>"dict"
noncomputable def jc:Ty->D->Bool
 | .int,.int _=>true
 | .int,.bl _=>true
 | .bool,.bl _=>true
 | .str,.str _=>true
 | .list,.lst _=>true
 | .tuple,.tup _=>true
 | _,_=>false
theorem vC (K:PySem.W.Frag) (d:D) (t:Ty):PySem.W.kitOne K (.type (xF d)) (.type (tyN t))=some (jc t d):=by
 cases d <;> cases t <;> (show PySem.W.kitOne K (.type _) (.type _)=some _) <;> with_unfolding_all rfl
theorem wN (t:Ty):dg X (.builtin "isinstance") (λxs H Q=>∃ G x d,aq G H/\xs=[x,.ty (tyN t)]/\Den X.K G x d/\Q (.bl (jc t d)) H):=by
 intro pins s σ H xs us Q I r q
 obtain ⟨G,x,d,sg,rfl,dx,q⟩:=q
 obtain ⟨u,w,rfl,rx,rt⟩:∃ u w,us=[u,w]/\RelV x u/\RelV (.ty (tyN t)) w:=by
   cases r with
   | cons r1 r=>cases r with
     | cons r2 r=>cases r; exact ⟨_,_,rfl,r1,r2⟩
 cases (show w=Value.type (tyN t) from rt)
 have kt:=vC X.K d t
 have fin:∀ tk,EP X pins σ Q (.bool (jc t d)) { s with toks:=tk }:=λtk=>⟨.bl _,H,I.tok _,rfl,q⟩
 cases dx with
 | non=>cases (show u=Value.none from rx); exact PySem.W.kia_one PySem.W.kitx_none I.kIn True.intro kt (λz=>nomatch z) fin
 | bl=>cases (show u=Value.bool _ from rx); exact PySem.W.kia_one PySem.W.kitx_bool I.kIn True.intro kt (λz=>nomatch z) fin
 | int=>obtain ⟨t',z⟩:=(show ∃ t,u=Value.int _ t from rx); cases z; exact PySem.W.kia_one PySem.W.kitx_int I.kIn True.intro kt (λz=>nomatch z) fin
 | str=>obtain ⟨t',z⟩:=(show ∃ t,u=Value.str _ t from rx); cases z; exact PySem.W.kia_one PySem.W.kitx_str I.kIn True.intro kt (λz=>nomatch z) fin
 | tup h r1=>
   cases (show u=Value.ref _ from rx)
   obtain ⟨its,_,⟨o,h1,h2,_⟩,_⟩:=I.tuple (bD sg h)
   exact PySem.W.kia_one PySem.W.kitx_tuple I.kIn ⟨o,h1,h2⟩ kt (λz=>nomatch z) fin
 | lst h r1=>
   cases (show u=Value.ref _ from rx)
   obtain ⟨its,_,⟨o,n,h1,h2,_⟩,_⟩:=I.list (aK sg h)
   exact PySem.W.kia_one PySem.W.kitx_list I.kIn ⟨o,h1,h2⟩ kt (λz=>nomatch z) fin
 | @box a x h=>
   cases (show u=Value.ref _ from rx)
   obtain ⟨o',h1,h2⟩:=x.isd h
   obtain ⟨o,h3,h4⟩:=h2 _ _ _ _ (I.hok a _ (sg _ _ h1))
   exact PySem.W.kia_one PySem.W.kitx_dict I.kIn ⟨o,h3,h4⟩ kt (λz=>nomatch z) fin
theorem fG {n:Str} {q:Pos} (t:Ty) (B:Bk X k) (ha:PE X a (dE X.K false τ (.d x))) (hn:n ∈ aj:=by decide) (ht:bootBuiltins n=some (.type (tyN t)):=by decide +kernel) (hg:Gl X "isinstance":=by rfl) (hg':Gl X n:=by rfl) (h1:n ≠ "__name__":=by decide) (hdb:(n == ("__debug__" : Str))=false:=by decide)
   (he:starEach [a,.Name n q] X.env=(false,eval a X.env) :: starEach [.Name n q] X.env:=by rfl) (hpl:(backTo pos (starEach [.Name n q] X.env)).any (·.1)=false:=by rfl):PE X (.Call (.Name "isinstance" p) [a,.Name n q] [] pos) (dE X.K C τ (.d (.bl (jc t x)))):=by
 refine peW (lO (wN t) hg (B.blt _ (by decide)) (by decide +kernel) (cR ha (cR (ug (v:=.ty (tyN t)) hg' (B.blt _ hn) ht rfl h1 hdb) fZ) he) (by decide) (by decide) he hpl) λσ H Q q=>?_
 obtain ⟨A,H₀,B,S,k⟩:=eU q
 exact aW S λv H1 e1 d1=>⟨_,v,x,aU,rfl,d1,k _ H1 e1 .bl⟩
end
section
variable {K:PySem.W.Frag} {A:Addr->Prop} {H₀ H H':Hp} {τ:List Sl} {B:Nat->List Addr} {σ:L2.St}
theorem Sta.put (S:Sta K A H₀ τ B σ H) {i:Nat} {a:Addr} {xs ys:List D} {vs:List V} (hi:τ[i]?=some (.o xs)) (hB:B i=[a]) (d:ax K (hd H (own A B)) vs ys):Sta K A H₀ (τ.set i (.o ys)) B σ (upd H a (.lst vs)):=by
 have ha:own A B a:=.inr ⟨i,by rw [hB]; exact List.mem_singleton.mpr rfl⟩
 have ne:∀ b,b ≠ a->upd H a (.lst vs) b=H b:=λb h=>aF h
 have sm:aq (hd H (own A B)) (hd (upd H a (.lst vs)) (own A B)):=λb o z=>by
   obtain ⟨z1,z2⟩:=aG.mp z
   exact aG.mpr ⟨z1,by rw [ne b (λe=>z1 (e ▸ ha))]; exact z2⟩
 have f0:H₀ a=none:=S.fr i a (by rw [hB]; exact List.mem_singleton.mpr rfl)
 have hs:aq H₀ (upd H a (.lst vs)):=λb o z=>by rw [ne b (λe=>by rw [e,f0] at z; cases z)]; exact S.same b o z
 refine ⟨hs,by rw [List.length_set,S.len],λj t hj=>?_,S.fr,S.uq,S.ad,λj b hb=>?_⟩
 · by_cases ej:j=i
   · subst ej
     have hl:=(List.getElem?_eq_some_iff.mp hi).1
     rw [List.getElem?_set_self hl] at hj
     cases hj
     obtain ⟨a',vs',e1,e2,_,_⟩:=S.sl j _ hi
     rw [hB] at e1
     cases e1
     exact ⟨a,vs,hB,e2,aL,d.mono sm⟩
   · rw [List.getElem?_set_ne (λz=>ej z.symm)] at hj
     have q:=S.sl j t hj
     have off:∀ b ∈ B j,b ≠ a:=λb hb e=>ej (S.uq j i a (e ▸ hb) (by rw [hB]; exact List.mem_singleton.mpr rfl))
     cases t with
     | un=>exact q
     | d x=>obtain ⟨z,u,e,d⟩:=q; exact ⟨z,u,e,d.mono sm⟩
     | o zs=>
       obtain ⟨c,ws,z1,z2,z3,z4⟩:=q
       exact ⟨c,ws,z1,z2,by rw [ne c (off c (by rw [z1]; exact List.mem_singleton.mpr rfl))]; exact z3,z4.mono sm⟩
     | n t=>
       obtain ⟨z0,u,z1,z2⟩:=q
       exact ⟨z0,u,z1,z2.frame sm λb hb=>ne b (off b hb)⟩
     | x E=>
       obtain ⟨c,o,z1,z2,z3,z4⟩:=q
       exact ⟨c,o,z1,z2,by rw [ne c (off c (by rw [z1]; exact List.mem_singleton.mpr rfl))]; exact z3,E.mono sm z4⟩
 · by_cases e:b=a
   · subst e; exact ⟨_,aL⟩
   · rw [ne b e]; exact S.bd j b hb
theorem Sta.fz (S:Sta K A H₀ τ B σ H) {i:Nat} {s:Sl} {x:D} (hi:τ[i]?=some s) (hx:fzD s=some x):Sta K A H₀ (τ.set i (.d x)) (upB B i []) σ H:=
 S.less (λ_ z=>nomatch z) λG g hv=>by
   obtain ⟨u,e,d⟩:=(S.sl i s hi).den (G':=G) g (λb hb o ho=>hv b o hb (λz=>nomatch z) ho) hx
   exact ⟨rfl,u,e,d⟩
theorem Sta.un (S:Sta K A H₀ τ B σ H) (i:Nat):Sta K A H₀ (τ.set i .un) (upB B i []) σ H:=S.less (λ_ z=>nomatch z) λG g hv=>rfl
end
section
variable {X:Cx} {C:Bool} {τ:List Sl} {x y z:D} {a b e c:Expr} {es:List Expr} {pos p:Pos} {k:Nat} {s:Sl} {ds:List D} {N:Po} {st:Stmt} {rest body els:List Stmt}
theorem aX (h:N.nx τ):PSs X [] (dS X.K τ N):=qE uc λD σ H ⟨A,H₀,B,S,M⟩=>M.nx τ B σ H h S
theorem bM {M:List Sl->Prop} (h1:PS X st (dS X.K τ { N with nx:=M })) (h2:∀ τ',M τ'->PSs X rest (dS X.K τ' N)):PSs X (st :: rest) (dS X.K τ N):=by
 have h:PSs X rest λD σ H=>∃ τ',M τ'/\dS X.K τ' N D σ H:=λpins s σ H D I ⟨τ',m,q⟩=>h2 τ' m pins s σ H D I q
 exact qE (qv h1 h) λD σ H ⟨A,H₀,B,S,Me⟩=>⟨A,H₀,B,S,λτ' B' σ' H' m S'=>⟨τ',m,A,H₀,B',S',Me⟩,Me.bk,Me.ct,Me.rt,Me.xc⟩
theorem yt (i:Nat) {s:Sl} {x:D} (h:PSs X rest (dS X.K (τ.set i (.d x)) N)) (hi:τ[i]?=some s:=by rfl) (hx:fzD s=some x:=by rfl):PSs X rest (dS X.K τ N):=qE h λD σ H ⟨A,H₀,B,S,Me⟩=>⟨A,H₀,_,S.fz hi hx,Me⟩
theorem ay (i:Nat) {n:Str} {p:Pos} (hN:X.N.Nodup) (he:PE X e (dE X.K true τ s)) (hr:PSs X rest (dS X.K (τ.set i s) N)) (hi:X.N[i]?=some n:=by rfl) (hx:Loc X.env.scope n:=by first | exact .inl rfl | exact .inr rfl) (hs:swapsWith e (some (.Name n p)) pos.line X.env=pure false:=by rfl)
   (hf:X.fn n=true\/X.env.scope.names.lookup n=some .local:=by first | exact .inl rfl | exact .inr rfl | assumption):PSs X (.Assign [.Name n p] e pos :: rest) (dS X.K τ N):=
 bM (M:=(·=τ.set i s)) (psW (wd hN hi hx he hs hf) λD σ H ⟨A,H₀,B,S,Me⟩=>⟨A,H₀,B,S,λv H' bs e hf h=>Me.nx _ _ _ _ rfl (S.set e hf h)⟩) λ_ e=>e ▸ hr
theorem gR (he:PE X e (dE X.K true τ s)) (hr:PSs X rest (dS X.K τ N)) (hs:swapsWith e none pos.line X.env=pure false:=by rfl):PSs X (.Expr e pos :: rest) (dS X.K τ N):=
 bM (M:=(·=τ)) (psW (gF he hs) λD σ H ⟨A,H₀,B,S,Me⟩=>⟨A,H₀,B,S,λv H' bs e hf h=>Me.nx _ _ _ _ rfl (S.mono e)⟩) λ_ e=>e ▸ hr
theorem aI (he:PE X e (dE X.K false τ s)) (h:N.rt s):PSs X (.Return (some e) pos :: rest) (dS X.K τ N):=
 bM (M:=λ_=>False) (psW (sk he) λD σ H ⟨A,H₀,B,S,Me⟩=>⟨A,H₀,B,S,λv H' bs e hf q=>Me.rt v H' bs s h (S.same.trans e) (λb hb=>⟨S.same.free (hf b hb).1,(hf b hb).2⟩) q⟩) λ_ e=>e.elim
theorem qm (i:Nat) {n:Str} (h:N.rt s) (hi:τ[i]?=some s:=by rfl) (h0:s ≠ .un:=by exact nofun) (hN:X.N[i]?=some n:=by rfl) (hv:Vis X.env.scope n:=by first | exact Or.inl rfl | exact Or.inr (Or.inl rfl) | exact Or.inr (Or.inr rfl))
   (hd:(n == ("__debug__" : Str))=false:=by decide) (hcd:(n == ("__classdict__" : Str))=false:=by decide):PSs X (.Return (some (.Name n p)) pos :: rest) (dS X.K τ N):=
 bM (M:=λ_=>False) (psW (sk (cX hN hv hd hcd)) λD σ H ⟨A,H₀,B,S,Me⟩=>by
   have q:=S.sl i s hi
   obtain ⟨u,e⟩:∃ u,(σ[i]?).join=some u:=by
     cases s with
     | un=>exact absurd rfl h0
     | d x=>obtain ⟨_,u,e,_⟩:=q; exact ⟨u,e⟩
     | o xs=>obtain ⟨_,_,_,e,_⟩:=q; exact ⟨_,e⟩
     | n t=>obtain ⟨_,u,e,_⟩:=q; exact ⟨u,e⟩
     | x E=>obtain ⟨_,_,_,e,_⟩:=q; exact ⟨_,e⟩
   rw [e] at q
   exact ⟨u,slot_of e,Me.rt u H (B i) s h S.same (λb hb=>⟨S.fr i b hb,S.bd i b hb⟩) (q.mono (aA (aq.refl _) λb z=>z.elim .inl λz=>.inr ⟨i,z⟩) (aq.refl _))⟩) λ_ e=>e.elim
theorem uI {H H':Hp} {σ:L2.St} {D:Ends} {A:Addr->Prop} {H₀:Hp} {B:Nat->List Addr} (S:Sta X.K A H₀ τ B σ H) (Me:Meets X.K A H₀ N D) (e:aq H H'):dS X.K τ N D σ H':=⟨A,H₀,B,S.mono e,Me⟩
theorem yk {t:Bool} (hc:PT X c (dT X.K τ t)) (ha:t=true->PSs X body (dS X.K τ N)) (hb:t=false->PSs X els (dS X.K τ N)):PS X (.If c body els pos) (dS X.K τ N):=by
 cases t with
 | true=>exact psW (uF hc (ha rfl) ji) λD σ H ⟨A,H₀,B,S,Me⟩=>⟨A,H₀,B,S,λH' e=>tM (uI S Me e)⟩
 | false=>exact psW (uF hc ji (hb rfl)) λD σ H ⟨A,H₀,B,S,Me⟩=>⟨A,H₀,B,S,λH' e=>uk (uI S Me e)⟩
theorem mr {t:Bool} {M:List Sl->Prop} (hc:PT X c (dT X.K τ t)) (ha:t=true->PSs X body (dS X.K τ { N with nx:=M })) (hb:t=false->PSs X els (dS X.K τ { N with nx:=M })) (hr:∀ τ',M τ'->PSs X rest (dS X.K τ' N)):PSs X (.If c body els pos :: rest) (dS X.K τ N):=
 bM (yk hc ha hb) hr
theorem dD {t:Bool} (hc:PT X c (dT X.K τ t)) (ha:t=true->PSs X body (dS X.K τ { N with nx:=λ_=>False })) (hr:t=false->PSs X rest (dS X.K τ N)):PSs X (.If c body [] pos :: rest) (dS X.K τ N):=by
 cases t with
 | true=>exact mr (M:=λ_=>False) hc ha (λz=>nomatch z) λ_ z=>z.elim
 | false=>exact mr (M:=(·=τ)) hc (λz=>nomatch z) (λ_=>aX rfl) λ_ e=>e ▸ hr rfl
theorem cJ {t:Bool} (hc:PT X c (dT X.K τ t)) (ht:t=false) (hr:PSs X rest (dS X.K τ N)):PSs X (.If c body [] pos :: rest) (dS X.K τ N):=dD hc (λz=>by rw [ht] at z; cases z) λ_=>hr
theorem qG (i:Nat) {n:Str} {xs:List D} {ap cp:Pos} (he:PE X e (dE X.K true τ (.d x))) (hl:xs.length < 1000000) (hr:PSs X rest (dS X.K (τ.set i (.o (xs++[x]))) N)) (hi:τ[i]?=some (.o xs):=by rfl) (hN:X.N[i]?=some n:=by rfl)
   (hv:Vis X.env.scope n:=by first | exact Or.inl rfl | exact Or.inr (Or.inl rfl) | exact Or.inr (Or.inr rfl)) (hd:(n == ("__debug__" : Str))=false:=by decide) (hcd:(n == ("__classdict__" : Str))=false:=by decide)
   (hfew:((backTo cp (starEach [e] X.env)).all (λx=>!x.1) && (backToKw cp (keywordEach [] X.env)).all (λx=>x.1.isSome) && decide (([e]:List Expr).length + ([]:List Keyword).length + (if ([]:List Keyword).isEmpty then 0 else 1) < 30))=true:=by rfl)
   (hline:(ap.endLine == cp.line)=true:=by rfl) (hst:starEach [e] X.env=(false,eval e X.env) :: starEach [] X.env:=by rfl) (hpl:(backTo cp (starEach [] X.env)).any (·.1)=false:=by rfl)
   (hs:swapsWith (.Call (.Attribute (.Name n p) "append" ap) [e] [] cp) none pos.line X.env=pure false:=by rfl) (hbase:attributeBase (.Name n p) "append" X.env (eval (.Name n p) X.env)=eval (.Name n p) X.env:=by rfl) :
   PSs X (.Expr (.Call (.Attribute (.Name n p) "append" ap) [e] [] cp) pos :: rest) (dS X.K τ N):=
 bM (M:=(·=τ.set i (.o (xs++[x])))) (psW (gF (nF PySem.F.plainAttrs_list PySem.F.slot_list_append PySem.F.type_list_append fT (cX hN hv hd hcd) (cR he fZ hst) hbase hfew hline hst hpl) hs) λD σ H ⟨A,H₀,B,S,Me⟩=>by
   obtain ⟨l,vs,hb,e1,e2,d⟩:=S.sl i _ hi
   refine ⟨_,slot_of e1,.inl ⟨rfl,_,SqL.of e2⟩,aW S λv H1 e3 d1=>⟨l,vs,v,rfl,rfl,e3 _ _ e2,by rw [d.length]; exact Nat.lt_trans hl (by decide),?_⟩⟩
   exact Me.nx _ _ _ _ rfl ((S.mono e3).put hi hb ((d.mono (aA e3 λ_ z=>z)).append (.cons d1 .nil)))) λ_ e=>e ▸ hr
theorem nV {K:PySem.W.Frag} {H:Hp}:∀ {vs:List V} {ds:List D} {v:V} {d:D} (j:Nat),ax K H vs ds->Den K H v d->ax K H (vs.set j v) (ds.set j d)
 | _,_,_,_,_,.nil,_=>.nil
 | _,_,_,_,0,.cons _ r,h=>.cons h r
 | _,_,_,_,j + 1,.cons h' r,h=>.cons h' (nV j r h)
theorem xC (i:Nat) {n:Str} {xs:List D} {m:Int} {j:Nat} {ix:Expr} {sp:Pos} (hx:PE X ix (dE X.K false τ (.d (.int m)))) (he:PE X e (dE X.K true τ (.d x))) (hj:ixN xs.length m=some j) (hr:PSs X rest (dS X.K (τ.set i (.o (xs.set j x))) N)) (hi:τ[i]?=some (.o xs):=by rfl) (hN:X.N[i]?=some n:=by rfl)
   (hv:Vis X.env.scope n:=by first | exact Or.inl rfl | exact Or.inr (Or.inl rfl) | exact Or.inr (Or.inr rfl)) (hd:(n == ("__debug__" : Str))=false:=by decide) (hcd:(n == ("__classdict__" : Str))=false:=by decide)
   (hs:swapsWithSole [.Subscript (.Name n p) ix sp] e pos.line X.env=pure false:=by rfl) (hw:swappedStores [.Subscript (.Name n p) ix sp] e X.env=pure none:=by rfl) (h1:(assignEach [.Subscript (.Name n p) ix sp] X.env).map (·.2)=[assign (.Subscript (.Name n p) ix sp) X.env]:=by rfl)
   (ha:∀ v,assign (.Subscript (.Name n p) ix sp) X.env v=(do
     let ov <- holding [v] (eval (.Name n p) X.env)
     let iv <- holding [v,ov] (eval ix X.env)
     standAt sp
     holding [v,ov,iv] (setItem ov iv v)
     release [v,ov,iv] []):=by intro _; rfl) :
   PSs X (.Assign [.Subscript (.Name n p) ix sp] e pos :: rest) (dS X.K τ N):=
 bM (M:=(·=τ.set i (.o (xs.set j x)))) (psW (rF he (v5 (cX hN hv hd hcd) hx set_list ha) hs hw h1) λD σ H ⟨A,H₀,B,S,Me⟩=>aW S λv H1 e1 d1=>by
   obtain ⟨l,vs,hb,f1,f2,d⟩:=(S.mono e1).sl i _ hi
   refine ⟨_,slot_of f1,aW (S.mono e1) λw H2 e2 d2=>?_⟩
   cases d2
   refine ⟨l,vs,m,j,rfl,rfl,e2 _ _ f2,by rw [d.length]; exact hj,?_⟩
   exact Me.nx _ _ _ _ rfl (((S.mono e1).mono e2).put hi hb (nV j (d.mono (aA e2 λ_ z=>z)) (d1.mono (aA e2 λ_ z=>z))))) λ_ e=>e ▸ hr
end
end Hy
namespace Hy
open PySem PySem.Spec PyProof.Rows L2
open Ev (D Den ax av bD aK Ite Itz Itv xS vB wJ oi ma pT aB fE dH PTs di eG)
noncomputable def Yl (K:PySem.W.Frag) (J:L2.It) (xs:List D) (G:Hp):Prop:=∀ H,aq G H->(∀ i,xs.length<=i->J.stop i H)/\∀ (i:Nat) (h:i < xs.length),J.go i H /\
 ∀ x H',J.yld i H x H'->aq H H'/\∀ M:Addr->Prop,(∀ b,M b->∃ o,H b=some o)->aq G (hd H M)->Den K (hd H' M) x xs[i]
noncomputable def dI (K:PySem.W.Frag) (τ:List Sl) (xs:List D):TI:=λσ H R=>∃ A H₀ B,Sta K A H₀ τ B σ H/\∀ J H',aq H H'->Yl K J xs (hd H' (own A B))->R J H'
noncomputable def dG (K:PySem.W.Frag) (τ:List Sl) (x:D) (τ':List Sl):TG:=λv σ H Q=>∃ A H₀ B,Sta K A H₀ τ B σ H/\Den K (hd H (own A B)) v x/\∀ σ' B',Sta K A H₀ τ' B' σ' H->Q σ' H
theorem piW {X:Cx} {tg e:Expr} {t t':TI} (h:PI X tg e t) (f:∀ σ H Q,t' σ H Q->t σ H Q):PI X tg e t':=λpins s σ H Q I q=>h pins s σ H Q I (f σ H Q q)
theorem pgW {X:Cx} {e:Expr} {t t':TG} (h:PG X e t) (f:∀ v σ H Q,t' v σ H Q->t v σ H Q):PG X e t':=λpins s σ H v u Q I r q=>h pins s σ H v u Q I r (f v σ H Q q)
section
variable {K:PySem.W.Frag} {G:Hp} {a:Addr} {vs:List V} {xs:List D}
theorem sP (h:SqL K G a vs) (r:ax K G vs xs):Yl K (Itl K a) xs G:=by
 intro H sg
 have hl:=r.length
 refine ⟨λi hi=>⟨vs,aK sg h,by omega⟩,λi hi=>?_⟩
 obtain ⟨v,hv,dv⟩:=r.get (List.getElem?_eq_getElem hi)
 refine ⟨⟨vs,v,aK sg h,hv⟩,λx H' ⟨e1,e2⟩=>?_⟩
 subst e1
 have ex:x=v:=by have:=e2 vs (aK sg h); rw [hv] at this; exact (Option.some.inj this).symm
 subst ex
 exact ⟨aq.refl _,λM _ sv=>dv.mono sv⟩
noncomputable def gw (lo:Int) (n:Nat):List D:=(List.range n).map λk=>D.int (lo + (k:Nat))
theorem az (lo:Int) (n:Nat):(gw lo n).length=n:=by simp [gw]
theorem fm (lo:Int) (n i:Nat) (h:i < (gw lo n).length):(gw lo n)[i]=.int (lo + (i:Nat)):=by simp [gw]
theorem qS (lo:Int) (n:Nat):Yl K (Itr lo n) (gw lo n) G:=by
 intro H sg
 refine ⟨λi hi=>by rw [az] at hi; exact hi,λi hi=>?_⟩
 have hi':i < n:=by rw [az] at hi; exact hi
 refine ⟨hi',λx H' ⟨e1,e2⟩=>?_⟩
 subst e1 e2
 refine ⟨aq.refl _,λM _ sv=>?_⟩
 rw [fm]
 exact .int
noncomputable def kC (xs:List D):List D:=(List.range xs.length).map λi=>D.tup [.int (i:Nat),xs.getD i .non]
theorem fh (xs:List D):(kC xs).length=xs.length:=by simp [kC]
theorem nr (xs:List D) (i:Nat) (h:i < (kC xs).length):(kC xs)[i]=.tup [.int (i:Nat),xs.getD i .non]:=by simp [kC]
theorem wV (h:SqL K G a vs) (r:ax K G vs xs):Yl K (Ite K a) (kC xs) G:=by
 intro H sg
 have hl:=r.length
 have el:=fh xs
 refine ⟨λi hi=>⟨vs,aK sg h,by omega⟩,λi hi=>?_⟩
 have hi':i < xs.length:=by omega
 obtain ⟨v,hv,dv⟩:=r.get (List.getElem?_eq_getElem hi')
 refine ⟨⟨vs,v,aK sg h,hv⟩,λy H' ⟨p,x,hp,e0,e1,e2⟩=>?_⟩
 subst e0 e1
 have ex:x=v:=by have:=e2 vs (aK sg h); rw [hv] at this; exact (Option.some.inj this).symm
 subst ex
 refine ⟨av hp _,λM hM sv=>?_⟩
 rw [nr,show xs.getD i .non=xs[i] by simp [List.getD,hi']]
 exact .tup (SqT.of (l4 hM hp)) (.cons .int (.cons (dv.mono (sv.trans (aA (av hp _) λ_ z=>z))) .nil))
end
section
variable {X:Cx} {C:Bool} {τ:List Sl} {x y z:D} {a b e c tg it:Expr} {es:List Expr} {pos p q:Pos} {k:Nat} {s:Sl} {xs:List D} {N:Po} {st:Stmt} {rest body els:List Stmt}
theorem aT (h:PE X it (dE X.K true τ (.d (.lst xs)))) (hc:X.calm=true:=by first | rfl | assumption):PI X tg it (dI X.K τ xs):=piW (ur hc h) λσ H R ⟨A,H₀,B,S,k⟩=>aW S λv H1 e1 d1=>by
 cases d1 with
 | lst h r=>exact ⟨_,rfl,⟨_,aK aU h⟩,k _ H1 e1 (sP h r)⟩
theorem fw {n:Int} (B:Bk X k) (h:PE X a (dE X.K false τ (.d (.int n)))) (h1:-(2 ^ 62)<=n) (h2:n < 2 ^ 62) (hg:Gl X "range":=by rfl) (hs:starEach [a] X.env=[(false,eval a X.env)]:=by rfl):PI X tg (.Call (.Name "range" p) [a] [] pos) (dI X.K τ (gw 0 n.toNat)):=
 piW (oY (.inl B.calm) hg (B.blt _ (by decide)) (ae h ag hs) hs) λσ H R ⟨A,H₀,B,S,k⟩=>eA S λvs H1 e1 d1=>by
   cases d1 with
   | cons d r=>
     cases r
     cases d
     exact ⟨n,rfl,h1,h2,k _ H1 e1 (qS 0 _)⟩
theorem kB {m n:Int} (B:Bk X k) (h:PE X a (dE X.K false τ (.d (.int m)))) (h':PE X b (dE X.K false τ (.d (.int n)))) (h1:-(2 ^ 62)<=m/\m < 2 ^ 62/\-(2 ^ 62)<=n/\n < 2 ^ 62) (hg:Gl X "range":=by rfl) (hs:starEach [a,b] X.env=[(false,eval a X.env),(false,eval b X.env)]:=by rfl)
   (hs2:starEach [b] X.env=[(false,eval b X.env)]:=by rfl):PI X tg (.Call (.Name "range" p) [a,b] [] pos) (dI X.K τ (gw m (n - m).toNat)):=
 piW (pz (.inl B.calm) hg (B.blt _ (by decide)) (ae h (ae h' ag hs2) (by rw [hs,hs2])) hs hs2) λσ H R ⟨A,H₀,B,S,k⟩=>eA S λvs H1 e1 d1=>by
   cases d1 with
   | cons d r=>
     cases r with
     | cons d' r=>
       cases r
       cases d
       cases d'
       exact ⟨m,n,rfl,h1,k _ H1 e1 (qS m _)⟩
theorem yd {ts:List Expr} {m:Nat} {tp:Pos} (B:Bk X k) (h:PE X a (dE X.K true τ (.d (.lst xs)))) (hg:Gl X "enumerate":=by rfl) (hs:starEach [a] X.env=[(false,eval a X.env)]:=by rfl):PI X (.Tuple ts m tp) (.Call (.Name "enumerate" p) [a] [] pos) (dI X.K τ (kC xs)):=
 piW (oi B.calm hg (B.blt _ (by decide)) (ae h ag hs) hs) λσ H R ⟨A,H₀,B,S,k⟩=>eA S λvs H1 e1 d1=>by
   cases d1 with
   | cons d r=>
     cases r
     cases d with
     | lst h r=>exact ⟨_,rfl,⟨_,aK aU h⟩,k _ H1 e1 (wV h r)⟩
theorem vE (i:Nat) {n:Str} (hN:X.N.Nodup) (hi:X.N[i]?=some n:=by rfl) (hx:Loc X.env.scope n:=by first | exact .inl rfl | exact .inr rfl) (hf:X.fn n=true\/X.env.scope.names.lookup n=some .local:=by first | exact .inl rfl | exact .inr rfl | assumption):PG X (.Name n p) (dG X.K τ x (τ.set i (.d x))):=
 pgW (fj (i:=i) hN hi hx hf) λv σ H Q ⟨A,H₀,B,S,d,k⟩=>k _ _ (S.set (aq.refl _) (bs:=[]) (λ_ z=>nomatch z) (gd d))
theorem uE (i j:Nat) {n m:Str} {p2 pt:Pos} {md:Nat} (hc:X.calm=true) (hN:X.N.Nodup) (hi:X.N[i]?=some n:=by rfl) (hj:X.N[j]?=some m:=by rfl) (hx:Loc X.env.scope n:=by first | exact .inl rfl | exact .inr rfl) (hy:Loc X.env.scope m:=by first | exact .inl rfl | exact .inr rfl)
   (hf:X.fn n=true\/X.env.scope.names.lookup n=some .local:=by first | exact .inl rfl | exact .inr rfl | assumption) (hf':X.fn m=true\/X.env.scope.names.lookup m=some .local:=by first | exact .inl rfl | exact .inr rfl | assumption) :
   PG X (.Tuple [.Name n p,.Name m p2] md pt) (dG X.K τ (.tup [x,y]) ((τ.set i (.d x)).set j (.d y))):=by
 refine pgW (rh hc (iT (fj (i:=i) hN hi hx hf) (iT (fj (i:=j) hN hj hy hf') m9))) λv σ H Q ⟨A,H₀,B,S,d,k⟩=>?_
 cases d with
 | tup h r=>
   cases r with
   | cons d1 r=>
     cases r with
     | cons d2 r=>
       cases r
       have S1:=S.set (i:=i) (aq.refl _) (bs:=[]) (λ_ z=>nomatch z) (gd d1)
       have sub:∀ b,own A (upB B i []) b->own A B b:=λb z=>z.elim .inl λ⟨j,z⟩=>(bG z).elim (λz=>nomatch z.2) λz=>.inr ⟨j,z.2⟩
       exact ⟨_,_,rfl,bD aU h,rfl,_,_,rfl,_,_,rfl,rfl,k _ _ (S1.set (i:=j) (aq.refl _) (bs:=[]) (λ_ z=>nomatch z) (gd (d2.mono (aA (aq.refl _) sub))))⟩
theorem Sta.base {K:PySem.W.Frag} {A:Addr->Prop} {H₀ H:Hp} {τ:List Sl} {B:Nat->List Addr} {σ:L2.St} (S:Sta K A H₀ τ B σ H):aq H₀ (hd H λb=>∃ i,b ∈ B i)/\Sta K A (hd H λb=>∃ i,b ∈ B i) τ B σ H:=by
 have s0:aq H₀ (hd H λb=>∃ i,b ∈ B i):=λb o h=>aG.mpr ⟨λ⟨i,z⟩=>(by rw [S.fr i b z] at h; cases h),S.same _ _ h⟩
 exact ⟨s0,aU,S.len,S.sl,λi b hb=>by
   cases e:hd H (λb=>∃ i,b ∈ B i) b with
   | none=>rfl
   | some o=>exact absurd ⟨i,hb⟩ (aG.mp e).1,S.uq,λb hb=>let ⟨o,q⟩:=S.ad b hb; ⟨o,s0 _ _ q⟩,S.bd⟩
theorem Sta.back {K:PySem.W.Frag} {A:Addr->Prop} {H₀ G H:Hp} {τ:List Sl} {B:Nat->List Addr} {σ:L2.St} (S:Sta K A G τ B σ H) (s:aq H₀ G) (ad:∀ b,A b->∃ o,H₀ b=some o):Sta K A H₀ τ B σ H:=
 ⟨s.trans S.same,S.len,S.sl,λi b hb=>s.free (S.fr i b hb),S.uq,ad,S.bd⟩
theorem uP {M:Nat->List Sl->Prop} {T:Nat->List Sl->List Sl} (B:Bk X k) (hi:PI X tg it (dI X.K τ xs)) (h0:M 0 τ) (hg:∀ i (h:i < xs.length) τ',M i τ'->PG X tg (dG X.K τ' xs[i] (T i τ')))
   (hb:∀ i,i < xs.length->∀ τ',M i τ'->PSs X body (dS X.K (T i τ') { N with nx:=M (i + 1),ct:=M (i + 1),bk:=N.nx })) (hn:∀ τ',M xs.length τ'->N.nx τ')
   (hs:∀ x,foldedSetIterable it X.env x=pure x:=by intro _; rfl):PS X (.For tg it body [] pos) (dS X.K τ N):=by
 have hg':PG X tg λv σ H Q=>∃ (i:Nat) (h:i < xs.length) (τ':List Sl),M i τ'/\dG X.K τ' xs[i] (T i τ') v σ H Q:=λpins s σ H v u Q I r ⟨i,h,τ',m,q⟩=>hg i h τ' m pins s σ H v u Q I r q
 have hb':PSs X body λD σ H=>∃ i τ',i < xs.length/\M i τ'/\dS X.K (T i τ') { N with nx:=M (i + 1),ct:=M (i + 1),bk:=N.nx } D σ H:=λpins s σ H D I ⟨i,τ',h,m,q⟩=>hb i h τ' m pins s σ H D I q
 refine psW (vm B.po hi hg' hb' hs) λD σ H ⟨A,H₀,B,S,Me⟩=>⟨A,H₀,B,S,λJ H1 e1 yl=>?_⟩
 obtain ⟨s0,S1⟩:=(S.mono e1).base
 have sub:∀ {H'},aq (hd H1 λb=>∃ i,b ∈ B i) H'->aq (hd H1 (own A B)) H':=λe=>(aA (aq.refl _) λ_ z=>.inr z).trans e
 refine ⟨λi m σ' H'=>m=xs.length - i/\i<=xs.length/\∃ τ' B',M i τ'/\Sta X.K A (hd H1 λb=>∃ i,b ∈ B i) τ' B' σ' H',⟨xs.length,rfl,Nat.zero_le _,τ,B,h0,S1⟩,?_⟩
 rintro i m σ' H' ⟨rfl,hi,τ',B',hM,S'⟩
 obtain ⟨y1,y2⟩:=yl H' (sub S'.same)
 by_cases hlt:i < xs.length
 · obtain ⟨g,y⟩:=y2 i hlt
   refine .inr ⟨g,λσ2 H2=>∃ τ2 B2,M (i + 1) τ2/\Sta X.K A (hd H1 λb=>∃ i,b ∈ B i) τ2 B2 σ2 H2,λσ2 H2 q=>⟨xs.length - (i + 1),by omega,rfl,hlt,q⟩,λx H2 hy=>?_⟩
   obtain ⟨e2,dx⟩:=y x H2 hy
   have S2:=S'.mono e2
   refine ⟨i,hlt,τ',hM,A,_,B',S2,dx (own A B') S'.dm ?_,λσ3 B3 S3=>⟨i,τ',hlt,hM,A,_,B3,S3,?_⟩⟩
   · intro b o z
     obtain ⟨z1,z2⟩:=aG.mp z
     have z3:hd H1 (λb=>∃ i,b ∈ B i) b=some o:=aG.mpr ⟨λy=>z1 (.inr y),z2⟩
     refine aG.mpr ⟨λy=>?_,S'.same _ _ z3⟩
     rcases y with y | ⟨l,y⟩
     · exact z1 (.inl y)
     · rw [S'.fr l b y] at z3; cases z3
   · exact ⟨λτ3 B3 σ3 H3 m S3=>⟨τ3,B3,m,S3⟩,λτ3 B3 σ3 H3 m S3=>Me.nx τ3 B3 σ3 H3 m (S3.back s0 S.ad),λτ3 B3 σ3 H3 m S3=>⟨τ3,B3,m,S3⟩,
       λv H3 bs s3 hr e3 hf q=>Me.rt v H3 bs s3 hr (s0.trans e3) (λb hb=>⟨s0.free (hf b hb).1,(hf b hb).2⟩) q,λH3 e3=>Me.xc H3 (s0.trans e3)⟩
 · have e:i=xs.length:=by omega
   subst e
   exact .inl ⟨y1 _ (Nat.le_refl _),Me.nx τ' B' σ' H' (hn τ' hM) (S'.back s0 S.ad)⟩
theorem cM (j:Nat) {n:Str} (M:Nat->List Sl->Prop) {g:Nat->D} (B:Bk X k) (hN:X.N.Nodup) (hi:PI X (.Name n p) it (dI X.K τ xs)) (hx:∀ i (h:i < xs.length),xs[i]=g i) (h0:M 0 τ)
   (hb:∀ i,i < xs.length->∀ τ',M i τ'->PSs X body (dS X.K (τ'.set j (.d (g i))) { N with nx:=M (i + 1),ct:=M (i + 1),bk:=λ_=>False }))
   (hr:∀ τ',M xs.length τ'->PSs X rest (dS X.K τ' N)) (hs:∀ x,foldedSetIterable it X.env x=pure x:=by intro _; rfl) (hi':X.N[j]?=some n:=by rfl) (hl:Loc X.env.scope n:=by first | exact .inl rfl | exact .inr rfl)
   (hf:X.fn n=true\/X.env.scope.names.lookup n=some .local:=by first | exact .inl rfl | exact .inr rfl | assumption):PSs X (.For (.Name n p) it body [] pos :: rest) (dS X.K τ N):=
 bM (M:=M xs.length) (uP (M:=M) (T:=λi τ'=>τ'.set j (.d (g i))) B hi h0 (λi h τ' m=>by rw [hx i h]; exact vE j hN hi' hl hf)
   (λi h τ' m=>qE (hb i h τ' m) λD σ H ⟨A,H₀,B,S,Me⟩=>⟨A,H₀,B,S,Me.nx,λ_ _ _ _ z=>z.elim,Me.ct,Me.rt,Me.xc⟩) (λ_ m=>m) hs) hr
theorem uZ (j l:Nat) {n m:Str} {p2 pt:Pos} {md:Nat} (M:Nat->List Sl->Prop) {g g':Nat->D} (B:Bk X k) (hN:X.N.Nodup) (hi:PI X (.Tuple [.Name n p,.Name m p2] md pt) it (dI X.K τ xs)) (hx:∀ i (h:i < xs.length),xs[i]=.tup [g i,g' i]) (h0:M 0 τ)
   (hb:∀ i,i < xs.length->∀ τ',M i τ'->PSs X body (dS X.K ((τ'.set j (.d (g i))).set l (.d (g' i))) { N with nx:=M (i + 1),ct:=M (i + 1),bk:=λ_=>False }))
   (hr:∀ τ',M xs.length τ'->PSs X rest (dS X.K τ' N)) (hs:∀ x,foldedSetIterable it X.env x=pure x:=by intro _; rfl) (hi':X.N[j]?=some n:=by rfl) (hj':X.N[l]?=some m:=by rfl) (hl:Loc X.env.scope n:=by first | exact .inl rfl | exact .inr rfl) (hl':Loc X.env.scope m:=by first | exact .inl rfl | exact .inr rfl)
   (hf:X.fn n=true\/X.env.scope.names.lookup n=some .local:=by first | exact .inl rfl | exact .inr rfl | assumption) (hf':X.fn m=true\/X.env.scope.names.lookup m=some .local:=by first | exact .inl rfl | exact .inr rfl | assumption):PSs X (.For (.Tuple [.Name n p,.Name m p2] md pt) it body [] pos :: rest) (dS X.K τ N):=
 bM (M:=M xs.length) (uP (M:=M) (T:=λi τ'=>(τ'.set j (.d (g i))).set l (.d (g' i))) B hi h0 (λi h τ' m=>by rw [hx i h]; exact uE j l B.calm hN hi' hj' hl hl' hf hf')
   (λi h τ' m=>qE (hb i h τ' m) λD σ H ⟨A,H₀,B,S,Me⟩=>⟨A,H₀,B,S,Me.nx,λ_ _ _ _ z=>z.elim,Me.ct,Me.rt,Me.xc⟩) (λ_ m=>m) hs) hr
theorem fH {n:Nat} (i:Nat) (h:i < (gw 0 n).length):(gw 0 n)[i]=.int (i:Nat):=by rw [fm,Int.zero_add]
theorem uL {bs:List Int} (i:Nat) (h:i < (bs.map D.int).length):(bs.map D.int)[i]=.int (bs.getD i 0):=by
 have:i < bs.length:=by simpa using h
 simp [this]
theorem xV {bs:List Int} (i:Nat) (h:i < (kC (bs.map D.int)).length):(kC (bs.map D.int))[i]=.tup [.int (i:Nat),.int (bs.getD i 0)]:=by
 have:i < bs.length:=by rw [fh] at h; simpa using h
 rw [nr]
 simp [this]
end
end Hy
namespace Hy
open PySem PySem.Spec PyProof.Rows L2
open Ev (D Den ax av bD aK aB fE dH PTs di eG lG)
noncomputable def slot:List Str->Str->Option Nat
 | [],_=>none
 | y :: r,x=>if x=y then some 0 else (slot r x).map (· + 1)
theorem slot_get:∀ {N:List Str} {x:Str} {i:Nat},slot N x=some i->N[i]?=some x
 | [],_,_,h=>by cases h
 | y :: r,x,i,h=>by
   unfold slot at h
   split at h
   · cases h; rename_i e; rw [e]; rfl
   · cases e:slot r x with
     | none=>rw [e] at h; cases h
     | some j=>rw [e] at h; cases h; simpa using slot_get e
noncomputable def rH (scope sc:Scope):Scope:={ scope with names:=scope.names.map λ(n,k)=>if (k == .free && sc.kind == .function && sc.names.lookup n == some .cell) then (n,.cell) else (n,k) }
noncomputable def bNm (scope:Scope):List Str:=(scope.names.filter λp=>(p.2 == .local || p.2 == .cell || p.2 == .free) && p.1 != (".0" : Str)).map (·.1)
noncomputable def bCp (No:List Str) (scope:Scope):List (Option Nat):=(bNm scope).map λx=>if (x,NameKind.free) ∈ scope.names then slot No x else none
noncomputable def bOk (sc scope:Scope):Bool:=
 scope.kind == .function && scope.names.all (λp=>p.2 != .local || scope.names.lookup p.1 == some .local) && scope.names.all (λp=>p.2 != .free || sc.names.lookup p.1 == some .cell)
   && scope.names.all (λp=>p.2 != .free || (!decide ((p.1,NameKind.cell) ∈ scope.names) && !decide ((p.1,NameKind.local) ∈ scope.names))) && decide (bNm scope++[("#" : Str)]).Nodup
   && (rH scope sc).names.all (λp=>p.1 != ("#" : Str))
theorem su {a b:Bool} (h:(a && b)=true):a=true/\b=true:=by rw [Bool.and_eq_true] at h; exact h
theorem qe {x:Str} {q:NameKind}:∀ {names:List (Str × NameKind)},names.lookup x=some q->(x,q) ∈ names
 | (y,k) :: r,h=>by
   rw [List.lookup_cons] at h
   split at h
   · rename_i e; cases h; rw [eq_of_beq e]; exact List.mem_cons_self ..
   · exact List.mem_cons_of_mem _ (qe h)
theorem gG {X:Cx} {scope:Scope} (h:bOk X.env.scope scope=true):dH X scope (bNm scope++[("#" : Str)]) (bCp X.N scope)/\(bNm scope++[("#" : Str)]).Nodup:=by
 unfold bOk at h
 obtain ⟨h,h6⟩:=su h
 obtain ⟨h,h5⟩:=su h
 obtain ⟨h,h4⟩:=su h
 obtain ⟨h,h3⟩:=su h
 obtain ⟨h1,h2⟩:=su h
 rw [List.all_eq_true] at h2 h3 h4 h6
 refine ⟨⟨eq_of_beq h1,λx hx hk=>?_,λx hx hk=>?_,λx hx hm=>?_,λx hx hm=>?_,?_,λj i hj=>?_,?_⟩,of_decide_eq_true h5⟩
 · have:=h2 x hx; rw [hk] at this; simpa using this
 · have:=h3 x hx; rw [hk] at this; show X.env.scope.names.lookup x.1=_; simpa using this
 · have:=h4 _ hx; simp [hm] at this
 · have:=h4 _ hx; simp [hm] at this
 · unfold bCp; rw [List.length_append,List.length_map]; rfl
 · unfold bCp at hj
   rw [List.getElem?_map] at hj
   cases e:(bNm scope)[j]? with
   | none=>rw [e] at hj; cases hj
   | some x=>
     rw [e] at hj
     simp only [Option.map_some,Option.some.injEq] at hj
     split at hj
     · exact ⟨x,by rw [List.getElem?_append_left (List.getElem?_eq_some_iff.mp e).1]; exact e,slot_get hj,by assumption⟩
     · cases hj
 · refine ⟨("#" : Str),?_,λhv=>?_⟩
   · unfold bCp; rw [List.length_map,List.getElem?_append_right (Nat.le_refl _),Nat.sub_self]; rfl
   · have key:∀ q,(rH scope X.env.scope).names.lookup ("#" : Str) ≠ some q:=λq hq=>by
       have:=h6 _ (qe hq)
       simp at this
     rcases hv with hv | hv | hv <;> exact key _ hv
noncomputable abbrev cpX (X:Cx) (s:Shared) (H:Hp) (scope:Scope) (fp:List Addr):Cx:=aB X s H scope (bNm scope++[("#" : Str)]) fp
theorem Bk.comp {X:Cx} {k:Nat} (B:Bk X k) (s:Shared) (H:Hp) (scope:Scope) (fp:List Addr):Bk (cpX X s H scope fp) k:=⟨B.room,B.calm,B.blt,PassesOwn.never⟩
noncomputable def b8 (τ:List Sl) (caps:List (Option Nat)):List Sl:=caps.map λo=>match o with
 | some i=>match τ[i]? with
   | some (.d x)=>.d x
   | _=>.un
 | none=>.un
theorem nR {X:Cx}:PTs X [] λ_ H Q=>Q true H:=λpins s σ H Q I q=>by
 show wpAny _ _ (pure true) _ _ _
 exact wpAny_pure ⟨H,I,q⟩
section
variable {X:Cx} {C:Bool} {τ:List Sl} {x y z:D} {a b e c tg it elt:Expr} {es ifs:List Expr} {pos p q:Pos} {k:Nat} {xs:List D} {scope:Scope}
structure Cmp (X:Cx) (elt tg it:Expr) (ifs:List Expr) (scope:Scope) (τ:List Sl) (ys:List D):Prop where
 ex:∃ (In:TG->TT->TE->Prop) (caps:List (Option Nat)) (N:List Str) (wi:TI),dH X scope N caps/\PI X tg it wi/\(∀ g tt te,In g tt te->∀ s H fp,PG (aB X s H scope N fp) tg g/\PTs (aB X s H scope N fp) ifs tt/\PE (aB X s H scope N fp) elt te) /\
   ∀ C σ H Q,dE X.K C τ (.o ys) σ H Q->eG In caps wi σ H Q
 hs:∀ x,foldedSetIterable it X.env x=pure x
theorem cA {ys:List D} (h:Cmp X elt tg it ifs scope τ ys):PE X (.ListComp elt [⟨tg,it,ifs,0⟩] scope pos) (dE X.K C τ (.o ys)):=by
 obtain ⟨In,caps,N,wi,h1,h2,h3,h4⟩:=h.ex
 exact peW (di h1 h2 h.hs h3) (h4 C)
theorem gZ (i:Nat) {n:Str} {p spos:Pos} {rest:List Stmt} {N:Po} {ys:List D} {s:Sl} (hN:X.N.Nodup) (h:Cmp X elt tg it ifs scope τ ys) (hz:s=.o ys\/s=.d (.lst ys)) (hr:PSs X rest (dS X.K (τ.set i s) N)) (hi:X.N[i]?=some n:=by rfl) (hx:Loc X.env.scope n:=by first | exact .inl rfl | exact .inr rfl)
   (hsw:swapsWith (.ListComp elt [⟨tg,it,ifs,0⟩] scope pos) (some (.Name n p)) spos.line X.env=pure true:=by rfl) (hf:X.fn n=true\/X.env.scope.names.lookup n=some .local:=by first | exact .inl rfl | exact .inr rfl | assumption) :
   PSs X (.Assign [.Name n p] (.ListComp elt [⟨tg,it,ifs,0⟩] scope pos) spos :: rest) (dS X.K τ N):=by
 obtain ⟨In,caps,N',wi,h1,h2,h3,h4⟩:=h.ex
 have h5:∀ σ H Q,dE X.K true τ s σ H Q->eG In caps wi σ H Q:=by
   rcases hz with rfl | rfl
   · exact h4 true
   · intro σ H Q q
     obtain ⟨A,H₀,B,S,k⟩:=eU q
     refine h4 true σ H Q ⟨A,H₀,B,S,λv H' bs e hf q=>?_⟩
     obtain ⟨u,e1,d⟩:=q.den (G':=Hy.hd H' (vw true A B)) (aA (aq.refl _) λ_ z=>.inl z) (λb hb o ho=>aG.mpr ⟨λz=>(by obtain ⟨_,q⟩:=S.vd (C:=true) b z; rw [(hf b hb).1] at q; cases q),ho⟩) rfl
     cases e1
     exact k v H' e d
 exact bM (M:=(·=τ.set i s)) (psW (lG (fj (i:=i) hN hi hx hf) h1 h2 h.hs h3 hsw) λD σ H ⟨A,H₀,B,S,Me⟩=>h5 _ _ _ ⟨A,H₀,B,S,λv H' bs e hf h=>Me.nx _ _ _ _ rfl (S.set e hf h)⟩) λ_ e=>e ▸ hr
theorem mW {T:Nat->List Sl} {t:Nat->Bool} {f:Nat->D} (hc:bOk X.env.scope scope=true) (hi:PI X tg it (dI X.K τ xs)) (hT:∀ i,(T i).length=(b8 τ (bCp X.N scope)++[Sl.un]).length/\∀ (l:Nat) (x:D),(b8 τ (bCp X.N scope)++[Sl.un])[l]?=some (.d x)->(T i)[l]?=some (.d x))
   (hg:∀ i (h:i < xs.length) s H fp,PG (cpX X s H scope fp) tg (dG X.K (b8 τ (bCp X.N scope)++[Sl.un]) xs[i] (T i)))
   (ht:∀ i,i < xs.length->∀ s H fp,PTs (cpX X s H scope fp) ifs (dT X.K (T i) (t i)))
   (he:∀ i,i < xs.length->t i=true->∀ s H fp,PE (cpX X s H scope fp) elt (dE X.K true (T i) (.d (f i)))) (hl:xs.length < 1000000) (hs:∀ x,foldedSetIterable it X.env x=pure x:=by intro _; rfl) :
   Cmp X elt tg it ifs scope τ (((List.range xs.length).filter t).map f):=by
 obtain ⟨cap,_⟩:=gG hc
 generalize hτ:b8 τ (bCp X.N scope)++[Sl.un]=τb at *
 refine ⟨⟨λg tt te=>g=(λv σ H Q=>∃ (i:Nat) (h:i < xs.length),dG X.K τb xs[i] (T i) v σ H Q)/\tt=(λσ H Q=>∃ i,i < xs.length/\dT X.K (T i) (t i) σ H Q)/\te=(λσ H Q=>∃ i,i < xs.length/\t i=true/\dE X.K true (T i) (.d (f i)) σ H Q),_,_,_,cap,hi,?_,?_⟩,hs⟩
 · rintro g tt te ⟨rfl,rfl,rfl⟩ s H fp
   exact ⟨λpins s' σ H' v u Q I r ⟨i,h,q⟩=>hg i h s H fp pins s' σ H' v u Q I r q,λpins s' σ H' Q I ⟨i,h,q⟩=>ht i h s H fp pins s' σ H' Q I q,λpins s' σ H' Q I ⟨i,h,h',q⟩=>he i h h' s H fp pins s' σ H' Q I q⟩
 rintro C σ H Q ⟨A,H₀,B,S,kk⟩
 refine ⟨A,H₀,B,S,λJ H1 e1 yl=>⟨_,_,_,⟨rfl,rfl,rfl⟩,λD hD=>?_⟩⟩
 have S1:=S.mono e1
 have nD:¬ own A B D:=λz=>by obtain ⟨o,q⟩:=S1.dm D z; rw [hD] at q; cases q
 have noN:∀ (l:Nat) (t:Nd),τb[l]?=some (.n t)->0 ≠ 0:=λl t h=>by
   exfalso
   rw [<- hτ] at h
   have:=List.mem_of_getElem? h
   rcases List.mem_append.mp this with z | z
   · unfold b8 at z
     obtain ⟨o,_,ho⟩:=List.mem_map.mp z
     split at ho
     · split at ho <;> cases ho
     · cases ho
   · cases List.mem_singleton.mp z
 have slots:∀ {σ':L2.St} {H':Hp},aq H1 H'->(∃ o,H' D=some o)->σ'.length=τb.length->(∀ (l:Nat) (s:Sl),τb[l]?=some s->cn X.K (hd H' λb=>own A B b\/b=D) H' (σ'[l]?).join [] s)->Sta X.K (λb=>own A B b\/b=D) H' τb (λ_=>[]) σ' H':=λ{σ' H'} e1 e2 e3 e4=>
   ⟨aq.refl _,e3,λl s h=>(e4 l s h).mono (aA (aq.refl _) λ_ z=>z.elim id λ⟨_,z⟩=>(nomatch z)) (aq.refl _),λ_ _ z=>(nomatch z),λ_ _ _ z=>(nomatch z),λb z=>z.elim (λz=>let ⟨o,q⟩:=S1.dm b z; ⟨o,e1 _ _ q⟩) λz=>z ▸ e2,λ_ _ z=>(nomatch z)⟩
 refine ⟨λi m σ' H'=>m=xs.length - i/\i<=xs.length/\aq H1 H'/\(∃ vs,H' D=some (.lst vs)/\vs.length<=i/\ax X.K (hd H' λb=>own A B b\/b=D) vs (((List.range i).filter t).map f)) /\
   σ'.length=τb.length/\∀ (l:Nat) (s:Sl),τb[l]?=some s->cn X.K (hd H' λb=>own A B b\/b=D) H' (σ'[l]?).join [] s,⟨xs.length,rfl,Nat.zero_le _,av hD _,⟨[],aL,Nat.le_refl _,.nil⟩,?_,λl s h=>?_⟩,?_⟩
 · rw [<- hτ]; unfold fE b8; rw [List.length_append,List.length_append,List.length_map,List.length_map]; rfl
 · have hv:aq (hd H (own A B)) (hd (upd H1 D (.lst [])) λb=>own A B b\/b=D):=λb o z=>by
     obtain ⟨z1,z2⟩:=aG.mp z
     have z2:=e1 _ _ z2
     have ne:b ≠ D:=λz=>by rw [z,hD] at z2; cases z2
     exact aG.mpr ⟨λy=>y.elim z1 ne,by rw [aF ne]; exact z2⟩
   cases s with
   | un=>rfl
   | d x=>
     rw [<- hτ] at h
     have hlt:l < (bCp X.N scope).length:=by
       rcases Nat.lt_or_ge l (bCp X.N scope).length with h' | h'
       · exact h'
       · exfalso
         rw [List.getElem?_append_right (by unfold b8; rw [List.length_map]; exact h')] at h
         cases e:l - (b8 τ (bCp X.N scope)).length with
         | zero=>rw [e] at h; cases h
         | succ n=>rw [e] at h; cases h
     rw [List.getElem?_append_left (by unfold b8; rw [List.length_map]; exact hlt)] at h
     rw [List.getElem?_append_left (by unfold fE; rw [List.length_map]; exact hlt)]
     unfold b8 at h
     unfold fE
     rw [List.getElem?_map] at h ⊢
     cases e:(bCp X.N scope)[l]? with
     | none=>rw [e] at h; cases h
     | some o=>
       rw [e] at h
       cases o with
       | none=>cases h
       | some i=>
         simp only [Option.map_some,Option.some.injEq] at h
         split at h
         · rename_i x' hx'
           cases h
           obtain ⟨_,u,eu,d⟩:=S.sl i _ hx'
           exact ⟨rfl,u,by simpa using eu,d.mono hv⟩
         · cases h
   | o xs'=>
     exfalso
     rw [<- hτ] at h
     have:=List.mem_of_getElem? h
     rcases List.mem_append.mp this with z | z
     · unfold b8 at z
       obtain ⟨o,_,ho⟩:=List.mem_map.mp z
       split at ho
       · split at ho <;> cases ho
       · cases ho
     · cases List.mem_singleton.mp z
   | n t'=>
     exfalso
     rw [<- hτ] at h
     have:=List.mem_of_getElem? h
     rcases List.mem_append.mp this with z | z
     · unfold b8 at z
       obtain ⟨o,_,ho⟩:=List.mem_map.mp z
       split at ho
       · split at ho <;> cases ho
       · cases ho
     · cases List.mem_singleton.mp z
   | x E'=>
     exfalso
     rw [<- hτ] at h
     have:=List.mem_of_getElem? h
     rcases List.mem_append.mp this with z | z
     · unfold b8 at z
       obtain ⟨o,_,ho⟩:=List.mem_map.mp z
       split at ho
       · split at ho <;> cases ho
       · cases ho
     · cases List.mem_singleton.mp z
 rintro i m σ' H' ⟨rfl,hi,e2,⟨vs,hv1,hv2,hv3⟩,hlen,hsl⟩
 obtain ⟨y1,y2⟩:=yl H' (aU.trans e2)
 by_cases hlt:i < xs.length
 · obtain ⟨g,y⟩:=y2 i hlt
   refine .inr ⟨g,λx H2 hy=>?_⟩
   obtain ⟨e3,dx⟩:=y x H2 hy
   have S2:Sta X.K (λb=>own A B b\/b=D) H' τb (λ_=>[]) σ' H':=slots e2 ⟨_,hv1⟩ hlen hsl
   have o0:∀ b,own (λb=>own A B b\/b=D) (λ_=>([]:List Addr)) b->own A B b\/b=D:=λb z=>z.elim id λ⟨_,z⟩=>(nomatch z)
   have dx':=dx _ S2.dm (λb o z=>by
     obtain ⟨z1,z2⟩:=aG.mp z
     exact aG.mpr ⟨λy=>(o0 b y).elim z1 λy=>(by rw [y,hD] at z2; cases z2),e2 _ _ z2⟩)
   refine ⟨i,hlt,_,_,_,S2.mono e3,dx',λσ2 B2 S3=>?_⟩
   have hB2:∀ j b,b ∈ B2 j->b ≠ D:=λj b hb z=>by
     have:=S3.fr j b hb
     rw [z,hv1] at this
     cases this
   have back:∀ {H5:Hp},aq H2 H5->σ2.length=τb.length/\∀ (l:Nat) (s:Sl),τb[l]?=some s->cn X.K (hd H5 λb=>own A B b\/b=D) H5 (σ2[l]?).join [] s:=λ{H5} e5=>by
     refine ⟨S3.len.trans (hT i).1,λl s h=>?_⟩
     cases s with
     | un=>rfl
     | d x=>
       obtain ⟨_,u,eu,d⟩:=S3.sl l _ ((hT i).2 l x h)
       exact ⟨rfl,u,eu,d.mono (aA e5 λ_ z=>.inl z)⟩
     | o xs'=>exact absurd (hsl l _ h) (λ⟨_,_,z,_⟩=>(nomatch z))
     | n t'=>exact absurd rfl (noN l t' h)
     | x E'=>exact absurd (hsl l _ h) (λ⟨_,_,z,_⟩=>(nomatch z))
   refine ⟨i,hlt,_,_,_,S3,λH4 e4=>?_⟩
   cases ht:t i with
   | false=>
     rw [if_neg Bool.false_ne_true]
     obtain ⟨b1,b2⟩:=back e4
     refine ⟨xs.length - (i + 1),by omega,rfl,hlt,e2.trans (e3.trans e4),⟨vs,e4 _ _ (e3 _ _ hv1),by omega,?_⟩,b1,b2⟩
     rw [List.range_succ,List.filter_append,List.map_append,List.filter_cons,ht]
     simpa using hv3.mono (aA (e3.trans e4) λ_ z=>z)
   | true=>
     rw [if_pos rfl]
     refine ⟨i,hlt,ht,aW (S3.mono e4) λv H5 e5 d5=>?_⟩
     have e6:=e3.trans (e4.trans e5)
     have hv5:=e6 _ _ hv1
     refine ⟨vs,xs.length - (i + 1),hv5,Nat.lt_trans (Nat.lt_of_le_of_lt hv2 (Nat.lt_trans hlt hl)) (by decide),by omega,rfl,hlt,?_,?_⟩
     · intro b o z
       have ne:b ≠ D:=λy=>by rw [y,hD] at z; cases z
       rw [aF ne]
       exact e6 _ _ (e2 _ _ z)
     have sm:aq (hd H5 λb=>own A B b\/b=D) (hd (upd H5 D (.lst (vs++[v]))) λb=>own A B b\/b=D):=λb o z=>by
       obtain ⟨z1,z2⟩:=aG.mp z
       exact aG.mpr ⟨z1,by rw [aF λy=>z1 (.inr y)]; exact z2⟩
     obtain ⟨b1,b2⟩:=back (e4.trans e5)
     refine ⟨⟨vs++[v],aL,by rw [List.length_append]; exact Nat.succ_le_succ hv2,?_⟩,b1,λl s h=>?_⟩
     · rw [List.range_succ,List.filter_append,List.map_append,List.filter_cons,ht,if_pos rfl]
       refine ax.append (hv3.mono ((aA e6 λ_ z=>z).trans sm)) (.cons (d5.mono ((aA (aq.refl _) λ_ z=>.inl z).trans sm)) .nil)
     · cases s with
       | un=>rfl
       | d x=>obtain ⟨z1,u,eu,d⟩:=b2 l _ h; exact ⟨z1,u,eu,d.mono sm⟩
       | o xs'=>exact absurd (hsl l _ h) (λ⟨_,_,z,_⟩=>(nomatch z))
       | n t'=>exact absurd rfl (noN l t' h)
       | x E'=>exact absurd (hsl l _ h) (λ⟨_,_,z,_⟩=>(nomatch z))
 · have e:i=xs.length:=by omega
   subst e
   refine .inl ⟨y1 _ (Nat.le_refl _),kk _ _ [D] (e1.trans e2) (λb hb=>?_) ⟨D,vs,rfl,rfl,hv1,hv3.mono (aA (aq.refl _) λb z=>z.elim (λz=>.inl (mv z)) λz=>.inr (List.mem_singleton.mp z))⟩⟩
   obtain rfl:=List.mem_singleton.mp hb
   exact ⟨e1.free hD,_,hv1⟩
theorem cmp (j:Nat) {n:Str} {g f:Nat->D} (B:Bk X k) (hi:PI X (.Name n p) it (dI X.K τ xs)) (hx:∀ i (h:i < xs.length),xs[i]=g i) (hl:xs.length < 1000000)
   (he:∀ i,i < xs.length->∀ s H fp,PE (cpX X s H scope fp) elt (dE X.K true ((b8 τ (bCp X.N scope)++[Sl.un]).set j (.d (g i))) (.d (f i))))
   (hc:bOk X.env.scope scope=true:=by kernel_rfl) (hu:(b8 τ (bCp X.N scope)++[Sl.un])[j]?=some .un:=by rfl) (hN:(bNm scope++[("#" : Str)])[j]?=some n:=by rfl) (hv:∀ s H fp,Loc (cpX X s H scope fp).env.scope n:=by intro _ _ _; first | exact .inl rfl | exact .inr rfl)
   (hf:∀ s H fp,(cpX X s H scope fp).fn n=true\/(cpX X s H scope fp).env.scope.names.lookup n=some .local:=by intro _ _ _; first | exact .inr rfl | exact .inl rfl) (hs:∀ x,foldedSetIterable it X.env x=pure x:=by intro _; rfl) :
   Cmp X elt (.Name n p) it [] scope τ ((List.range xs.length).map f):=by
 have h:=mW (T:=λi=>(b8 τ (bCp X.N scope)++[Sl.un]).set j (.d (g i))) (t:=λ_=>true) (f:=f) (elt:=elt) (ifs:=[]) hc hi (λi=>⟨List.length_set,λl x h=>?_⟩) (λi h s H fp=>?_) (λi h s H fp=>?_) (λi h _ s H fp=>he i h s H fp) hl hs
 · rwa [List.filter_eq_self.mpr λ_ _=>rfl] at h
 · rw [List.getElem?_set_ne (λz=>by rw [<- z,hu] at h; cases h)]
   exact h
 · rw [hx i h]
   exact vE j (gG hc).2 hN (hv s H fp) (hf s H fp)
 · exact λpins s' σ H' Q I ⟨A,H₀,B,S,q⟩=>nR pins s' σ H' Q I (q H' (aq.refl _))
end
section
variable {P:Program} {w:World} {K:PySem.W.Frag} {mg:Str->Option Value} {base:Heap}
noncomputable def wg (N:List Str) (ds:List D):List Sl:=ds.map .d++List.replicate (N.length - ds.length) .un
noncomputable abbrev Xc (P:Program) (w:World) (K:PySem.W.Frag) (mg:Str->Option Value) (base:Heap) (N:List Str) (qual:Str) (st:Stmt) (f:Addr) (cdv:Value) (A:Around) (outer:List Env) (s:Shared) (H:Hp) (E:XK):Cx:=(mF CX0 P w K mg base N qual (ah st) f cdv A outer s H E).nox
theorem fnD {x qual:Str} {st:Stmt} {f:Addr} {fd:FuncData} {N ps:List Str} {k:Nat} {Φ:List D->Sl->Prop} (F:Fun K x qual st f fd) (S:au N ps (ah st)) (hb:∀ x ∈ aj,mg x=none) (len:∀ ds r,Φ ds r->ds.length=ps.length)
   (body:∀ ds r,Φ ds r->∀ cdv A outer s H E,Bk (Xc P w K mg base N qual st f cdv A outer s H E) k->PSs (Xc P w K mg base N qual st f cdv A outer s H E) (bL st) (dS K (wg N ds) { nx:=λ_=>r=.d .non,rt:=λr'=>r'=r })) :
   aR P w K mg base CX0 (k + 1) f fd ps (spD K Φ):=by
 refine F.ok S (λvs H Q E ⟨A,ds,r,_,d,h,_⟩=>d.length.trans (len ds r h)) λcdv A outer s H vs Q E hr ⟨A',ds,r,ha,d,h,q⟩=>⟨_,body ds r h cdv A outer s H E ⟨hr,rfl,hb,PassesOwn.never⟩,A',H,λ_=>[],⟨aq.refl _,?_,λi s hi=>?_,λ_ _ z=>(nomatch z),λ_ _ _ z=>(nomatch z),ha,λ_ _ z=>(nomatch z)⟩,λτ B σ H' h S=>?_,λ_ _ _ _ h=>h.elim,λ_ _ _ _ h=>h.elim,λv H' bs s h e hf z=>?_,λ_ _=>trivial⟩
 · unfold L2.start wg
   simp [d.length]
 · have hl:=d.length
   unfold wg at hi
   unfold L2.start
   by_cases hlt:i < ds.length
   · rw [List.getElem?_append_left (by simpa using hlt),List.getElem?_map,List.getElem?_eq_getElem hlt] at hi
     cases hi
     obtain ⟨v,e,dv⟩:=d.get (List.getElem?_eq_getElem hlt)
     refine ⟨rfl,v,?_,dv.mono (aA (aq.refl _) λ_ z=>z.elim id λ⟨_,z⟩=>(nomatch z))⟩
     rw [List.getElem?_append_left (by simpa [hl] using hlt),List.getElem?_map,e]
     rfl
   · rw [List.getElem?_append_right (by simpa using hlt),List.getElem?_replicate] at hi
     split at hi
     · cases hi; rfl
     · cases hi
 · obtain rfl:=(h:r=_)
   exact q .non H' [] S.same dh (gd .non)
 · obtain rfl:=(h:s=r)
   exact q v H' bs e hf z
theorem tU {K:PySem.W.Frag} {Φ:List D->Sl->Prop} (hΦ:∀ ns:List Int,ns.length<=63->Φ [.lst (ns.map .int)] (.d (.bl true))) (H:Hp) (a:Addr) (ns:List Int) (hl:ns.length<=63) (hS:SqL K H a (ns.map V.int)):spD K Φ [.ref a] H (λv _=>v=.bl true) λ_ _ _=>False:=by
 have hh:hd H (λ_=>False)=H:=by funext b; unfold hd; rw [if_neg id]
 refine ⟨λ_=>False,_,_,λ_ z=>z.elim,.cons (.lst (vs:=ns.map V.int) (by rw [hh]; exact hS) ?_) .nil,hΦ ns hl,λv H' bs _ _ h=>?_⟩
 · clear hl hS
   induction ns with
   | nil=>exact .nil
   | cons n ns ih=>exact .cons .int ih
 · obtain ⟨_,u,e,d⟩:=h
   cases e
   cases d
   rfl
end
end Hy
namespace Hy
open PySem PySem.Spec PyProof.Rows L2
open Ev (D Den ax aE aH av bD aK)
section
variable {X:Cx} {C:Bool} {τ:List Sl} {x y z:D} {a b e:Expr} {es:List Expr} {pos p:Pos} {k:Nat} {s:Sl} {ds:List D} {i j:Int}
theorem ie {K:PySem.W.Frag} {H:Hp}:∀ {vs:List V} {ns:List Int},ax K H vs (ns.map .int)->vs=ns.map V.int
 | _,[],h=>by cases h; rfl
 | _,n :: ns,h=>by
   cases h with
   | cons d r=>cases d; rw [ie r]; rfl
theorem iK:∀ {ns:List Int} {us:List Value},Vals (ns.map V.int) us->∃ xs:List (Int × Tok),us=xs.map (λp=>Value.int p.1 p.2)/\xs.map (·.1)=ns
 | [],_,h=>by cases h; exact ⟨[],rfl,rfl⟩
 | n :: ns,_,h=>by
   cases h with
   | cons rv rs=>
     obtain ⟨xs,rfl,rfl⟩:=iK rs
     obtain ⟨t,rfl⟩:=(show ∃ t,_=Value.int n t from rv)
     exact ⟨(n,t) :: xs,rfl,rfl⟩
theorem qN (hc:X.calm=true):dg X (.builtin "sum") (λxs H Q=>∃ (p:Addr) (ns:List Int),xs=[.ref p]/\SqL X.K H p (ns.map V.int)/\Q (.int ns.sum) H):=by
 intro pins s σ H xs us Q I r q
 obtain ⟨p,ns,rfl,h,q⟩:=q
 obtain ⟨u,rfl,ru⟩:∃ u,us=[u]/\RelV (.ref p) u:=by
   cases r with
   | cons r1 r=>cases r; exact ⟨_,rfl,r1⟩
 cases (show u=Value.ref _ from ru)
 obtain ⟨its,rv,pl,hz⟩:=I.list h
 obtain ⟨xs,rfl,hx⟩:=iK rv
 refine sum_intListG (xs:=xs.toArray) (I.ok.hd hc) (by have:=pl.isList; simpa [intItems] using this) λh' tk t' k=>?_
 refine ⟨.int ns.sum,H,I.kept k,⟨t',?_⟩,q⟩
 rw [List.size_toArray,preSum_eq,List.take_of_length_le (by simp),hx]
theorem xG (hc:X.calm=true) (ns:List Int) {xs:List D} (hx:xs=ns.map .int):ff X (.builtin "sum") [.lst xs] (.d (.int ns.sum)):=⟨_,qN hc,λM vs H Q _ d q=>by
 subst hx
 cases d with
 | cons d r=>
   cases r
   cases d with
   | lst h r=>
     cases ie r
     exact ⟨_,_,rfl,aK aU h,q _ H [] (aq.refl _) dh (gd .int)⟩⟩
theorem sG:OpR X (binaryOp .Add) (λx y H Q=>∃ l b xs zs,x=.ref l/\y=.ref b/\SqL X.K H l xs/\SqL X.K H b zs/\xs.length + zs.length<=sizeLine/\∀ p,H p=none->Q (.ref p) (upd H p (.lst (xs++zs)))):=by
 intro pins s σ H x y v u Q I rx ry h
 obtain ⟨l,b,xs,zs,rfl,rfl,hH,hB,hz,q⟩:=h
 cases rx
 cases ry
 obtain ⟨its,r,pl,_⟩:=I.list hH
 obtain ⟨its2,r2,pl2,_⟩:=I.list hB
 have hl:=r.length
 have hl2:=r2.length
 obtain ⟨⟨cls,dd,data,sl⟩,ho,hc,n,hd⟩:=pl.isList
 obtain ⟨⟨cls2,dd2,data2,sl2⟩,ho2,hc2,n2,hd2⟩:=pl2.isList
 simp only at hc hd hc2 hd2
 subst hc hd hc2 hd2
 have e:its.toArray++its2.toArray=(its++its2).toArray:=by simp
 refine concat_meets ⟨_,ho,rfl⟩ ⟨_,ho2,rfl⟩ noFill_list_add seq_list_add PySem.F.slot_list_add PySem.F.entry_list_add (PySem.F.args_list_add_2 _ _) (list_addW l b its.toArray its2.toArray n n2 dd dd2 sl sl2 (by rw [List.size_toArray,List.size_toArray]; omega)) ⟨ho,ho2,?_⟩
 rw [e]
 exact ⟨.ref _,_,I.yF (t':=s.toks) (r.append r2) (by rw [List.length_append]; omega),rfl,q _ I.fresh⟩
theorem uW {xs ys:List D} (ha:PE X a (dE X.K C τ (.d (.lst xs)))) (hb:PE X b (dE X.K C τ (.d (.lst ys)))) (hl:xs.length + ys.length < 1000000):PE X (.BinOp a .Add b pos) (dE X.K C τ (.o (xs++ys))):=peW (uD sG ha hb) λσ H Q ⟨A,H₀,B,S,k⟩=>
 aW S λv H1 e1 d1=>aW (S.mono e1) λw H2 e2 d2=>by
   cases d1 with
   | lst h1 r1=>cases d2 with
     | lst h2 r2=>
       refine ⟨_,_,_,_,rfl,rfl,aK (aU.trans e2) h1,aK aU h2,by rw [r1.length,r2.length]; exact Nat.le_of_lt (Nat.lt_trans hl (by decide)),λp hp=>?_⟩
       obtain ⟨z1,z2,z3⟩:=m5 (K:=X.K) hp ((r1.mono (aA e2 λ_ z=>z)).append r2)
       exact k _ _ [p] (e1.trans (e2.trans z1)) (λb hb=>⟨(e1.trans e2).free (z2 b hb).1,(z2 b hb).2⟩) z3
theorem mkL (h:i.natAbs < 2 ^ 60):aE i j:=.inl (by
 rcases Nat.eq_zero_or_pos i.natAbs with z | z
 · rw [z]; decide
 · exact Nat.lt_trans ((Nat.log2_lt (by omega)).mpr h) (by decide))
theorem mkR (h:j.natAbs < 2 ^ 60):aE i j:=.inr (.inl (by
 rcases Nat.eq_zero_or_pos j.natAbs with z | z
 · rw [z]; decide
 · exact Nat.lt_trans ((Nat.log2_lt (by omega)).mpr h) (by decide)))
theorem mkD (h0:j ≠ 0) (h:j.natAbs < 2 ^ 62):aH j:=⟨h0,Nat.lt_trans ((Nat.log2_lt (by omega)).mpr h) (by decide)⟩
end
theorem aD {α:Type} {xs:List α} {i:Nat} {x:α} (h:xs[i]?=some x):atI xs (i:Int)=some x:=by
 unfold atI ixN
 have:=(List.getElem?_eq_some_iff.mp h).1
 rw [if_pos (by omega),if_pos (by omega)]
 simpa using h
theorem gK {ns:List Int} {i:Int} (h0:0<=i) (h:i.toNat < ns.length):atI (ns.map D.int) i=some (.int (ns.getD i.toNat 0)):=by
 obtain ⟨n,rfl⟩:=Int.eq_ofNat_of_zero_le h0
 exact aD (by
   have h:n < ns.length:=h
   simp [h])
theorem pZ {xs:List D} (n:Nat):cutD xs none (some (n:Int))=xs.take n:=by
 unfold cutD
 rw [HT.ua,HT.pV,List.drop_zero,Nat.sub_zero]
 rcases Nat.le_total n xs.length with h | h
 · rw [Nat.min_eq_left h]
 · rw [Nat.min_eq_right h,List.take_of_length_le (Nat.le_refl _),List.take_of_length_le h]
theorem getD_none {α:Type} {xs:List α} {i:Nat} {d:α} (h:xs.length<=i):xs.getD i d=d:=by simp [List.getD,h]
theorem ex1 {α:Type} {p:α->Prop} {a:α} (h:p a):∃ a,p a:=⟨a,h⟩
theorem ex3 {α:Type} {p:α->α->α->Prop} {a b c:α} (h:p a b c):∃ a b c,p a b c:=⟨a,b,c,h⟩
end Hy
namespace Hy
open PySem PySem.Spec PyProof.Rows L2
open Ev (D Den ax)
noncomputable def Dfn (K:PySem.W.Frag) (x:Str) (st:Stmt) (f:Addr):Prop:=PySem.W.nsIn K mainGlobals x=some (some (.ref f))/\(∃ oc od kV dc pm an cd ct sl,K.lookup f=some ⟨oc,od,.func (PySem.W.fnOf x x (cg st) (bL st) (ah st) .none kV dc pm an cd ct),sl⟩/\PySem.W.codeIn K cd x=true)/\PySem.W.keepIn K (.ref f)=true
noncomputable def BdA (x:Str) (st:Stmt) (ps:List Str):Prop:=∀ (kV dc pm:Value) (an:Option Addr) (cd ct:Value) (us:List Value),us.length=ps.length->bindArgs (PySem.W.fnOf x x (cg st) (bL st) (ah st) .none kV dc pm an cd ct) ⟨us,[]⟩=pure (ps.zip us)
noncomputable def nsL (K:PySem.W.Frag):List Str->Prop
 | []=>True
 | x :: r=>PySem.W.nsIn K mainGlobals x=some none/\nsL K r
section
variable {P:Program} {w:World} {K:PySem.W.Frag} {h:Heap} {mg:Str->Option Value} {base:Heap} {x:Str} {st:Stmt} {f:Addr} {ps:List Str} {k:Nat} {Φ:List D->Sl->Prop}
theorem Dfn.of {oc:Value} {od an:Option Addr} {kV dc pm cd ct:Value} {sl:Array (Option Value)} (a:PySem.W.nsIn K mainGlobals x=some (some (.ref f))) (l:K.lookup f=some ⟨oc,od,.func (PySem.W.fnOf x x (cg st) (bL st) (ah st) .none kV dc pm an cd ct),sl⟩) (c:PySem.W.codeIn K cd x=true) (k:PySem.W.keepIn K (.ref f)=true):Dfn K x st f:=⟨a,⟨_,_,_,_,_,_,_,_,_,l,c⟩,k⟩
theorem nsL.none (X:K.In h) (G:h.Ns mainGlobals mg):∀ {l:List Str},nsL K l->∀ x ∈ l,mg x=none
 | _ :: _,z,x,m=>by
   rcases List.mem_cons.mp m with rfl | m
   · exact PySem.W.mg_none_of X G z.1
   · exact nsL.none X G z.2 x m
theorem Dfn.fn (d:Dfn K x st f) (X:K.In h) (G:h.Ns mainGlobals mg) (b:BdA x st ps):∃ fd,Fun K x x st f fd/\mg x=some (.ref f)/\PySem.W.keepIn K (.ref f)=true/\Binds K fd ps []:=by
 obtain ⟨a,⟨oc,od,kV,dc,pm,an,cd,ct,sl,l,c'⟩,q⟩:=d
 have F:=mO l c' q
 exact ⟨_,F,PySem.W.mg_of X G a,q,F.binds (b kV dc pm an cd ct)⟩
theorem Dfn.cal (d:Dfn K x st f) (X:K.In h) (G:h.Ns mainGlobals mg) (b:BdA x st ps) (o:∀ fd,Fun K x x st f fd->aR P w K mg base CX0 k f fd ps (spD K Φ)):Cal P w K mg base k x Φ:=by
 obtain ⟨fd,F,h1,h2,h3⟩:=d.fn X G b
 exact ⟨f,fd,ps,o fd F,h1,h2,h3⟩
end
theorem bd1 {Q:List Value->Prop} (h:∀ a,Q [a]):∀ us:List Value,us.length=1->Q us:=λus e=>match us,e with | [a],_=>h a
theorem bd2 {Q:List Value->Prop} (h:∀ a b,Q [a,b]):∀ us:List Value,us.length=2->Q us:=λus e=>match us,e with | [a,b],_=>h a b
theorem bd3 {Q:List Value->Prop} (h:∀ a b c,Q [a,b,c]):∀ us:List Value,us.length=3->Q us:=λus e=>match us,e with | [a,b,c],_=>h a b c
theorem bd4 {Q:List Value->Prop} (h:∀ a b c d,Q [a,b,c,d]):∀ us:List Value,us.length=4->Q us:=λus e=>match us,e with | [a,b,c,d],_=>h a b c d
end Hy
namespace Hy
open PySem PySem.Spec PyProof.Rows L2
open Ev (D Den ax av bD aK)
noncomputable def nC (H:Hp):List Nat->V->V->Prop
 | [],u,v=>v=u
 | i :: p,u,v=>∃ a vs w,u=.ref a/\(H a=some (.lst vs)\/H a=some (.tup vs))/\vs[i]?=some w/\nC H p w v
theorem nC.mono {H H':Hp} (e:aq H H'):∀ {p:List Nat} {u v:V},nC H p u v->nC H' p u v
 | [],_,_,h=>h
 | _ :: _,_,_,⟨a,vs,w,h1,h2,h3,h4⟩=>⟨a,vs,w,h1,h2.elim (λz=>.inl (e _ _ z)) (λz=>.inr (e _ _ z)),h3,h4.mono e⟩
section
variable {K:PySem.W.Frag} {G H:Hp}
theorem cn.frame {G' H':Hp} (g:aq G G') {v:Option V} {bs:List Addr}:∀ {s:Sl},(∀ b ∈ bs,H' b=H b)->cn K G H v bs s->cn K G' H' v bs s
 | .un,_,h=>h
 | .d _,_,⟨h,u,e1,h2⟩=>⟨h,u,e1,h2.mono g⟩
 | .o _,e,⟨a,vs,h1,h2,h3,h4⟩=>⟨a,vs,h1,h2,by rw [e a (by rw [h1]; exact List.mem_cons_self ..)]; exact h3,h4.mono g⟩
 | .n _,e,⟨h0,u,h1,h2⟩=>⟨h0,u,h1,h2.frame g e⟩
 | .x E,e,⟨a,o,h1,h2,h3,h4⟩=>⟨a,o,h1,h2,by rw [e a (by rw [h1]; exact List.mem_cons_self ..)]; exact h3,E.mono g h4⟩
end
noncomputable def xZ:Sl->Option Nd
 | .un=>none
 | .d x=>some (.d x)
 | .o xs=>some (.l (xs.map .d))
 | .n t=>some t
 | .x _=>none
section
variable {K:PySem.W.Frag} {G H:Hp}
theorem qo:∀ {vs:List V} {xs:List D},ax K G vs xs->aV K G H vs [] (xs.map .d)
 | _,_,.nil=>.nil
 | _,_,.cons h r=>.cons (b1:=[]) (b2:=[]) (.d h) (qo r)
theorem cn.nd {v:V} {bs:List Addr} {s:Sl} {c:Nd} (h:cn K G H (some v) bs s) (e:xZ s=some c):cI K G H v bs c/\bs.Nodup:=by
 cases s with
 | un=>cases e
 | d x=>cases e; obtain ⟨rfl,u,eu,d⟩:=h; cases eu; exact ⟨.d d,List.nodup_nil⟩
 | o xs=>cases e; obtain ⟨a,vs,rfl,e2,h3,h4⟩:=h; cases e2; exact ⟨.l h3 (qo h4),by simp⟩
 | n t=>cases e; obtain ⟨h0,u,eu,h2⟩:=h; cases eu; exact ⟨h2,h0⟩
 | x E=>cases e
theorem Sta.nd {A:Addr->Prop} {H₀:Hp} {τ:List Sl} {B:Nat->List Addr} {σ:L2.St} (S:Sta K A H₀ τ B σ H) {i:Nat} {s:Sl} {c:Nd} (hi:τ[i]?=some s) (hc:xZ s=some c):Sta K A H₀ (τ.set i (.n c)) (upB B i (B i)) σ H:=
 S.less (λ_ z=>z) λG' g _=>by
   have q:=S.sl i s hi
   obtain ⟨u,e⟩:∃ u,(σ[i]?).join=some u:=by
     cases s with
     | un=>cases hc
     | d x=>obtain ⟨_,u,e,_⟩:=q; exact ⟨u,e⟩
     | o xs=>obtain ⟨_,_,_,e,_⟩:=q; exact ⟨_,e⟩
     | n t=>obtain ⟨_,u,e,_⟩:=q; exact ⟨u,e⟩
     | x E=>cases hc
   rw [e] at q ⊢
   obtain ⟨q1,q2⟩:=q.nd hc
   exact ⟨q2,u,rfl,q1.frame g λ_ _=>rfl⟩
end
section
variable {X:Cx} {C:Bool} {τ:List Sl} {x y z:D} {a b e o ix:Expr} {es:List Expr} {pos p q:Pos} {k:Nat} {s:Sl} {N:Po} {rest:List Stmt} {i:Nat} {t c:Nd} {pt:List Nat} {xs:List Nd} {j:Int} {m:Nat}
end
end Hy
namespace Ev
open PySem PySem.Spec PyProof.Rows L2
noncomputable def bad:Str:=⟨#[0x110000]⟩
mutual
noncomputable def eqD:D->D->Bool
 | .non,.non=>true
 | .bl a,.bl b=>a == b
 | .bl a,.int j=>(if a then 1 else 0) == j
 | .int i,.bl b=>i == (if b then 1 else 0)
 | .int a,.int b=>a == b
 | .str a,.str b=>a == b
 | .tup xs,.tup ys=>kE xs ys
 | .lst xs,.lst ys=>kE xs ys
 | .box _,.box _=>true
 | .box _,.str b=>bad == b
 | .str a,.box _=>a == bad
 | .box _,.non | .box _,.bl _ | .box _,.int _ | .box _,.tup _ | .box _,.lst _=>false
 | .non,.box _ | .bl _,.box _ | .int _,.box _ | .tup _,.box _ | .lst _,.box _=>false
 | .non,.bl _ | .non,.int _ | .non,.str _ | .non,.tup _ | .non,.lst _=>false
 | .bl _,.non | .bl _,.str _ | .bl _,.tup _ | .bl _,.lst _=>false
 | .int _,.non | .int _,.str _ | .int _,.tup _ | .int _,.lst _=>false
 | .str _,.non | .str _,.bl _ | .str _,.int _ | .str _,.tup _ | .str _,.lst _=>false
 | .tup _,.non | .tup _,.bl _ | .tup _,.int _ | .tup _,.str _ | .tup _,.lst _=>false
 | .lst _,.non | .lst _,.bl _ | .lst _,.int _ | .lst _,.str _ | .lst _,.tup _=>false
noncomputable def kE:List D->List D->Bool
 | [],[]=>true
 | x :: xs,y :: ys=>eqD x y && kE xs ys
 | [],_ :: _=>false
 | _ :: _,[]=>false
end
mutual
noncomputable def toP:D->PyData
 | .non=>.none
 | .bl b=>.bool b
 | .int i=>.int i
 | .str x=>.str x
 | .tup xs=>.tuple (eo xs)
 | .lst xs=>.list (eo xs)
 | .box _=>.str bad
noncomputable def eo:List D->List PyData
 | []=>[]
 | x :: xs=>toP x :: eo xs
end
mutual
noncomputable def cln:D->Bool
 | .str x=>PyData.strOk x
 | .tup xs=>iQ xs
 | .lst xs=>iQ xs
 | .box _=>false
 | .non | .bl _ | .int _=>true
noncomputable def iQ:List D->Bool
 | []=>true
 | x :: xs=>cln x && iQ xs
end
mutual
noncomputable def dep:D->Nat
 | .tup xs=>kn xs + 1
 | .lst xs=>kn xs + 1
 | .non | .bl _ | .int _ | .str _ | .box _=>0
noncomputable def kn:List D->Nat
 | []=>0
 | x :: xs=>max (dep x) (kn xs)
end
noncomputable def kh (x:D):Prop:=cln x=true/\dep x<=64
noncomputable instance (x:D):Decidable (kh x):=inferInstanceAs (Decidable (_/\_))
mutual
theorem kq:∀ x y:D,PyData.eqv (toP x) (toP y)=eqD x y
 | .non,y=>by cases y <;> simp [toP,PyData.eqv,eqD]
 | .bl a,y=>by cases y <;> simp [toP,PyData.eqv,eqD]
 | .int a,y=>by cases y <;> simp [toP,PyData.eqv,eqD]
 | .str a,y=>by cases y <;> simp [toP,PyData.eqv,eqD]
 | .tup xs,.tup ys=>by simp only [toP,PyData.eqv,eqD]; exact gW xs ys
 | .lst xs,.lst ys=>by simp only [toP,PyData.eqv,eqD]; exact gW xs ys
 | .tup xs,.non=>by simp [toP,PyData.eqv,eqD]
 | .tup xs,.bl _=>by simp [toP,PyData.eqv,eqD]
 | .tup xs,.int _=>by simp [toP,PyData.eqv,eqD]
 | .tup xs,.str _=>by simp [toP,PyData.eqv,eqD]
 | .tup xs,.lst _=>by simp [toP,PyData.eqv,eqD]
 | .lst xs,.non=>by simp [toP,PyData.eqv,eqD]
 | .lst xs,.bl _=>by simp [toP,PyData.eqv,eqD]
 | .lst xs,.int _=>by simp [toP,PyData.eqv,eqD]
 | .lst xs,.str _=>by simp [toP,PyData.eqv,eqD]
 | .lst xs,.tup _=>by simp [toP,PyData.eqv,eqD]
 | .tup xs,.box _=>by simp [toP,PyData.eqv,eqD]
 | .lst xs,.box _=>by simp [toP,PyData.eqv,eqD]
 | .box _,y=>by cases y <;> simp [toP,PyData.eqv,eqD]
theorem gW:∀ xs ys:List D,PyData.eqvAll (eo xs) (eo ys)=kE xs ys
 | [],[]=>by simp [eo,PyData.eqvAll,kE]
 | [],_ :: _=>by simp [eo,PyData.eqvAll,kE]
 | _ :: _,[]=>by simp [eo,PyData.eqvAll,kE]
 | x :: xs,y :: ys=>by simp only [eo,PyData.eqvAll,kE]; rw [kq x y,gW xs ys]
end
mutual
theorem nZ:∀ x:D,(toP x).canLay0=cln x
 | .non=>by simp [toP,PyData.canLay0,cln]
 | .bl _=>by simp [toP,PyData.canLay0,cln]
 | .int _=>by simp [toP,PyData.canLay0,cln]
 | .str _=>by simp [toP,PyData.canLay0,cln]
 | .tup xs=>by simp only [toP,PyData.canLay0,cln]; exact iF xs
 | .lst xs=>by simp only [toP,PyData.canLay0,cln]; exact iF xs
 | .box _=>by simp only [toP,PyData.canLay0,cln]; decide +kernel
theorem iF:∀ xs:List D,PyData.canLayAll0 (eo xs)=iQ xs
 | []=>by simp [eo,PyData.canLayAll0,iQ]
 | x :: xs=>by simp only [eo,PyData.canLayAll0,iQ]; rw [nZ x,iF xs]
end
mutual
theorem nO:∀ x:D,(toP x).depth=dep x
 | .non=>by simp [toP,PyData.depth,dep]
 | .bl _=>by simp [toP,PyData.depth,dep]
 | .int _=>by simp [toP,PyData.depth,dep]
 | .str _=>by simp [toP,PyData.depth,dep]
 | .tup xs=>by simp only [toP,PyData.depth,dep]; rw [hX xs]
 | .lst xs=>by simp only [toP,PyData.depth,dep]; rw [hX xs]
 | .box _=>by simp [toP,PyData.depth,dep]
theorem hX:∀ xs:List D,PyData.depthAll (eo xs)=kn xs
 | []=>by simp [eo,PyData.depthAll,kn]
 | x :: xs=>by simp only [eo,PyData.depthAll,kn]; rw [nO x,hX xs]
end
theorem eJ {x:D} (h:kh x):SeqAt.shaped (toP x)=true:=by
 unfold SeqAt.shaped
 rw [nZ,nO,h.1,Bool.true_and]
 exact decide_eq_true h.2
section
variable {X:Cx} {pins:List (Addr × Obj)} {σ:L2.St} {H G:Hp} {s:Shared}
mutual
theorem fg (I:Inv X pins σ H s) (e:aq G H):∀ {v:V} {d:D} {u:Value},Den X.K G v d->RelV v u->cln d=true->∃ as,Reads s.heap u (toP d) as
 | _,_,_,.non,r,_=>by cases r; exact ⟨_,.none⟩
 | _,_,_,.bl,r,_=>by cases r; exact ⟨_,.bool _⟩
 | _,_,_,.int,r,_=>by obtain ⟨t,rfl⟩:=r; exact ⟨_,.int _ _⟩
 | _,_,_,.str,r,_=>by obtain ⟨t,rfl⟩:=r; exact ⟨_,.str _ _⟩
 | _,_,_,.tup h q,r,c=>by
   cases r
   obtain ⟨its,rv,⟨o,h1,h2,n,h3⟩,_⟩:=I.tuple (bD e h)
   obtain ⟨as,z⟩:=fO I e q rv (by rw [cln] at c; exact c)
   exact ⟨_,.tuple h1 h2 h3 (by simpa using z)⟩
 | _,_,_,.lst h q,r,c=>by
   cases r
   obtain ⟨its,rv,⟨o,n,h1,h2,_,h3⟩,_⟩:=I.list (aK e h)
   obtain ⟨as,z⟩:=fO I e q rv (by rw [cln] at c; exact c)
   exact ⟨_,.list h1 h2 h3 (by simpa using z)⟩
 | _,_,_,.box _,_,c=>by rw [cln] at c; cases c
theorem fO (I:Inv X pins σ H s) (e:aq G H):∀ {vs:List V} {ds:List D} {us:List Value},ax X.K G vs ds->Vals vs us->iQ ds=true->∃ as,ReadsAll s.heap us (eo ds) as
 | _,_,_,.nil,.nil,_=>⟨_,.nil⟩
 | _,_,_,.cons h q,.cons r rs,c=>by
   rw [iQ,Bool.and_eq_true] at c
   obtain ⟨as,z⟩:=fg I e h r c.1
   obtain ⟨bs,z'⟩:=fO I e q rs c.2
   exact ⟨_,.cons z z'⟩
end
end
end Ev
namespace Hy
open PySem PySem.Spec PyProof.Rows L2
open Ev (D Den ax av bD aK Itz Itv vB wJ ma pT eqD kh fg eJ kq)
section
variable {X:Cx} {C:Bool} {τ:List Sl} {x y z:D} {a b e c tg it elt:Expr} {es ifs:List Expr} {pos p q:Pos} {k:Nat} {s:Sl} {N:Po} {rest body:List Stmt} {ds xs ys:List D} {i j:Int} {scope:Scope}
theorem nX (M:Nat->Bool->List Sl->Prop) (B:Bk X k) (h0:∃ n t,M n t τ) (hc:∀ n t τ',M n t τ'->PT X c (dT X.K τ' t)) (hb:∀ n τ',M n true τ'->PSs X body (dS X.K τ' { N with nx:=λτ2=>∃ m t,m < n/\M m t τ2,ct:=λτ2=>∃ m t,m < n/\M m t τ2,bk:=λ_=>False }))
   (hr:∀ n τ',M n false τ'->PSs X rest (dS X.K τ' N)):PSs X (.While c body [] pos :: rest) (dS X.K τ N):=by
 have hc':PT X c λσ H Q=>∃ n t τ',M n t τ'/\dT X.K τ' t σ H Q:=λpins s σ H Q I ⟨n,t,τ',m,q⟩=>hc n t τ' m pins s σ H Q I q
 have hb':PSs X body λD σ H=>∃ n τ',M n true τ'/\dS X.K τ' { N with nx:=λτ2=>∃ m t,m < n/\M m t τ2,ct:=λτ2=>∃ m t,m < n/\M m t τ2,bk:=λ_=>False } D σ H:=λpins s σ H D I ⟨n,τ',m,q⟩=>hb n τ' m pins s σ H D I q
 refine bM (M:=λτ'=>∃ n,M n false τ') (psW (qD B.po hc' hb') λD σ H ⟨A,H₀,B,S,Me⟩=>⟨λm σ' H'=>∃ t τ' B',M m t τ'/\Sta X.K A H₀ τ' B' σ' H',?_,?_⟩) λτ' h=>let ⟨n,h⟩:=h; hr n τ' h
 · obtain ⟨n,t,h0⟩:=h0
   exact ⟨n,t,τ,B,h0,S⟩
 rintro m σ' H' ⟨t,τ',B',hM,S'⟩
 refine ⟨m,t,τ',hM,A,H₀,B',S',λH1 e1=>?_⟩
 cases t with
 | false=>exact uk (Me.nx τ' B' σ' H1 ⟨m,hM⟩ (S'.mono e1))
 | true=>
   refine tM ⟨λσ2 H2=>∃ τ2 B2,(∃ n t,n < m/\M n t τ2)/\Sta X.K A H₀ τ2 B2 σ2 H2,λσ2 H2 ⟨τ2,B2,⟨n,t,l,q⟩,S2⟩=>⟨n,l,t,τ2,B2,q,S2⟩,m,τ',hM,A,H₀,B',S'.mono e1,?_⟩
   exact ⟨λτ2 B2 σ2 H2 m S2=>⟨τ2,B2,m,S2⟩,λ_ _ _ _ z=>z.elim,λτ2 B2 σ2 H2 m S2=>⟨τ2,B2,m,S2⟩,Me.rt,Me.xc⟩
noncomputable def fN (xs ys:List D):List D:=(xs.zip ys).map λp=>.tup [p.1,p.2]
theorem cj:(fN xs ys).length=min xs.length ys.length:=by simp [fN]
theorem tO (i:Nat) (h:i < (fN xs ys).length):(fN xs ys)[i]=.tup [xs.getD i .non,ys.getD i .non]:=by
 rw [cj] at h
 simp [fN,show i < xs.length by omega,show i < ys.length by omega]
theorem wb {K:PySem.W.Frag} {G:Hp} {a b:Addr} {vs ws:List V} (h:SqL K G a vs) (r:ax K G vs xs) (h':SqL K G b ws) (r':ax K G ws ys):Yl K (Itz K a b) (fN xs ys) G:=by
 intro H sg
 have hl:=r.length
 have hl':=r'.length
 refine ⟨λi hi=>⟨vs,ws,aK sg h,aK sg h',by rw [cj] at hi; omega⟩,λi hi=>?_⟩
 have hi':=hi
 rw [cj] at hi'
 obtain ⟨v,hv,dv⟩:=r.get (List.getElem?_eq_getElem (show i < xs.length by omega))
 obtain ⟨w,hw,dw⟩:=r'.get (List.getElem?_eq_getElem (show i < ys.length by omega))
 refine ⟨⟨vs,ws,v,w,aK sg h,aK sg h',hv,hw⟩,λy H' ⟨p,x1,x2,hp,e0,e1,e2,e3⟩=>?_⟩
 subst e0 e1
 have ex:x1=v:=by have:=e2 vs (aK sg h); rw [hv] at this; exact (Option.some.inj this).symm
 have ey:x2=w:=by have:=e3 ws (aK sg h'); rw [hw] at this; exact (Option.some.inj this).symm
 subst ex ey
 refine ⟨av hp _,λM hM sv=>?_⟩
 rw [tO,show xs.getD i .non=xs[i] by simp [show i < xs.length by omega],show ys.getD i .non=ys[i] by simp [show i < ys.length by omega]]
 have up:=sv.trans (aA (av hp (.tup [x1,x2])) λ_ z=>z)
 exact .tup (SqT.of (l4 hM hp)) (.cons (dv.mono up) (.cons (dw.mono up) .nil))
theorem nL {ts:List Expr} {m:Nat} {tp:Pos} (B:Bk X k) (h:PE X a (dE X.K true τ (.d (.lst xs)))) (h':PE X b (dE X.K true τ (.d (.lst ys)))) (hg:Gl X "zip":=by rfl) (hs:starEach [a,b] X.env=(false,eval a X.env) :: starEach [b] X.env:=by rfl) (hs2:starEach [b] X.env=[(false,eval b X.env)]:=by rfl) :
   PI X (.Tuple ts m tp) (.Call (.Name "zip" p) [a,b] [] pos) (dI X.K τ (fN xs ys)):=
 piW (ma B.calm hg (B.blt _ (by decide)) (ae h (ae h' ag hs2) hs) hs hs2) λσ H R ⟨A,H₀,B,S,k⟩=>eA S λvs H1 e1 d1=>by
   cases d1 with
   | cons d r=>
     cases r with
     | cons d' r=>
       cases r
       cases d with
       | lst h r=>cases d' with
         | lst h' r'=>exact ⟨_,_,rfl,⟨_,aK aU h⟩,⟨_,aK aU h'⟩,k _ H1 e1 (wb h r h' r')⟩
theorem ve (hu:X.A.units + 64 < cLine):OpR X (compareOp .NotEq) (λx y H Q=>∃ G d e,aq G H/\Den X.K G x d/\Den X.K G y e/\kh d/\kh e/\Q (.bl (!eqD d e)) H):=by
 intro pins s σ H x y v u Q I rx ry ⟨G,d,e,sg,dx,dy,o1,o2,q⟩
 obtain ⟨as,r1⟩:=fg I sg dx rx o1.1
 obtain ⟨bs,r2⟩:=fg I sg dy ry o2.1
 exact ne_dataH r1 r2 (eJ o1) (eJ o2) hu ⟨.bl _,H,I,by rw [kq]; rfl,q⟩
theorem xN (B:Bk X k) (h1:kh x) (h2:kh y):cx X (compareOp .NotEq) x y (.bl (!eqD x y)):=⟨_,ve B.room.units,λM v w H Q _ d1 d2 q=>⟨_,x,y,aU,d1,d2,h1,h2,q _ H (aq.refl _) .bl⟩⟩
variable {u v:Str}
theorem gh:∀ {bs:List Bool} {us:List Value},Vals (bs.map V.bl) us->us=bs.map Value.bool
 | [],_,h=>by cases h; rfl
 | b :: bs,_,h=>by
   cases h with
   | cons rv rs=>rw [gh rs,show _=Value.bool b from rv]; rfl
theorem sx (hc:X.calm=true):dg X (.builtin "all") (λxs H Q=>∃ (p:Addr) (bs:List Bool),xs=[.ref p]/\SqL X.K H p (bs.map V.bl)/\Q (.bl (bs.all id)) H):=by
 intro pins s σ H xs us Q I r q
 obtain ⟨p,bs,rfl,h,q⟩:=q
 obtain ⟨u,rfl,ru⟩:∃ u,us=[u]/\RelV (.ref p) u:=by
   cases r with
   | cons r1 r=>cases r; exact ⟨_,rfl,r1⟩
 cases (show u=Value.ref _ from ru)
 obtain ⟨its,rv,pl,hz⟩:=I.list h
 obtain rfl:=gh rv
 have lt:∀ a,s.heap.IsList a (bs.map Value.bool).toArray->a ≠ s.heap.objs.size:=λa ⟨o,z,_⟩=>Nat.ne_of_lt (Heap.lt_size z)
 refine call_all_walk (wpAny_pyIter_list pl.isList ⟨_,_,_,_,_,_,λi=>(bs.map Value.bool)[i]? == some (Value.bool true),rfl,Walks.list (A:=X.A.in1) (I.ok.hd hc) _ _ (lt _ pl.isList) (bs.map Value.bool).toArray,⟨⟨_,Heap.get?_push_size _ rfl,rfl,rfl⟩,?_⟩,λi v s' Q' E' hP hQ=>?_,λh' tk hk=>?_⟩)
 · obtain ⟨o,z1,z2⟩:=pl.isList
   exact ⟨o,Heap.get?_push_of_some _ z1,z2⟩
 · have hP':(bs.map Value.bool)[i]?=some v:=by simpa using hP
   obtain ⟨c,_,rfl⟩:=List.mem_map.mp (List.mem_of_getElem? hP')
   refine wpAny_truthy_bool ?_
   have hQ:Q' ((bs.map Value.bool)[i]? == some (Value.bool true)) s':=hQ
   rw [hP'] at hQ
   cases c
   · exact hQ
   · exact hQ
 · refine ⟨.bl (bs.all id),H,I.kept (t':=tk) λb' o z=>?_,?_,q⟩
   · refine hk b' o (λhm=>?_) (Heap.get?_push_of_some _ z)
     have:b'=s.heap.objs.size:=by simpa using hm
     exact absurd (Heap.lt_size z) (by rw [this]; exact Nat.lt_irrefl _)
   · have e:∀ bs:List Bool,bs.all id=(List.range (bs.map Value.bool).toArray.size).all λi=>(bs.map Value.bool)[i]? == some (Value.bool true):=λbs=>by
       rw [List.size_toArray,List.length_map]
       induction bs with
       | nil=>rfl
       | cons b bs ih=>
         rw [List.all_cons,ih,List.length_cons,List.range_succ_eq_map,List.all_cons,List.all_map]
         congr 1
         cases b <;> rfl
     rw [e]; rfl
theorem nJ {K:PySem.W.Frag} {H:Hp}:∀ {vs:List V} {bs:List Bool},ax K H vs (bs.map .bl)->vs=bs.map V.bl
 | _,[],h=>by cases h; rfl
 | _,_ :: _,h=>by
   cases h with
   | cons d r=>cases d; rw [nJ r]; rfl
theorem ly (hc:X.calm=true) (bs:List Bool) (hx:xs=bs.map .bl):ff X (.builtin "all") [.lst xs] (.d (.bl (bs.all id))):=⟨_,sx hc,λM vs H Q _ d q=>by
 subst hx
 cases d with
 | cons d r=>
   cases r
   cases d with
   | lst h r=>
     cases nJ r
     exact ⟨_,_,rfl,aK aU h,q _ H [] (aq.refl _) dh (gd .bl)⟩⟩
end
end Hy
namespace Hy
open PySem PySem.Spec PyProof.Rows L2
open Ev (D Den ax av bD aK aB fE dH PTs di eG)
section
variable {X:Cx} {C:Bool} {τ:List Sl} {x y z:D} {a b e c tg it elt o:Expr} {es ifs:List Expr} {pos p q:Pos} {k:Nat} {s:Sl} {N:Po} {rest body:List Stmt} {ds xs ys:List D} {i j:Int} {scope:Scope}
end
section
variable {X:Cx} {C:Bool} {τ τ':List Sl} {x y z:D} {a b e c tg it elt o ix:Expr} {es ifs:List Expr} {pos p q:Pos} {k:Nat} {s:Sl} {N:Po} {rest body:List Stmt} {ds xs ys:List D} {i:Nat} {j:Int} {scope:Scope}
noncomputable def dGs (K:PySem.W.Frag) (τ:List Sl) (xs:List D) (τ':List Sl):TGs:=λvs σ H Q=>∃ A H₀ B,Sta K A H₀ τ B σ H/\ax K (hd H (own A B)) vs xs/\∀ σ' B',Sta K A H₀ τ' B' σ' H->Q σ' H
theorem xB {es:List Expr} {t t':TGs} (h:PGs X es t) (f:∀ v σ H Q,t' v σ H Q->t v σ H Q):PGs X es t':=λpins s σ H v u Q I r q=>h pins s σ H v u Q I r (f v σ H Q q)
theorem vS:PGs X [] (dGs X.K τ [] τ):=xB m9 λv σ H Q ⟨A,H₀,B,S,d,k⟩=>by
 cases d
 exact ⟨rfl,k σ B S⟩
theorem nK (i:Nat) {n:Str} (hN:X.N.Nodup) (h:PGs X es (dGs X.K (τ.set i (.d x)) xs τ')) (hi:X.N[i]?=some n:=by rfl) (hx:Loc X.env.scope n:=by first | exact .inl rfl | exact .inr rfl) (hf:X.fn n=true\/X.env.scope.names.lookup n=some .local:=by first | exact .inl rfl | exact .inr rfl | assumption):PGs X (.Name n p :: es) (dGs X.K τ (x :: xs) τ'):=
 xB (iT (fj (i:=i) hN hi hx hf) h) λv σ H Q ⟨A,H₀,B,S,d,k⟩=>by
   cases d with
   | cons d r=>
     have sub:∀ b,own A (upB B i []) b->own A B b:=λb z=>z.elim .inl λ⟨j,z⟩=>(bG z).elim (λz=>nomatch z.2) λz=>.inr ⟨j,z.2⟩
     exact ⟨_,_,rfl,A,H₀,_,S.set (aq.refl _) (bs:=[]) (λ_ z=>nomatch z) (gd d),r.mono (aA (aq.refl _) sub),k⟩
theorem w5 {m:Nat} (hc:X.calm=true) (h:PGs X es (dGs X.K τ xs τ')) (hl:(assignEach es X.env).length=xs.length:=by rfl) (hst:(assignEach es X.env).findIdx? (·.1)=none:=by rfl):PG X (.Tuple es m pos) (dG X.K τ (.tup xs) τ'):=
 pgW (rh (n:=xs.length) hc h hl hst) λv σ H Q ⟨A,H₀,B,S,d,k⟩=>by
   cases d with
   | tup h r=>exact ⟨_,_,rfl,bD aU h,r.length,A,H₀,B,S,r,k⟩
theorem wU {m:Nat} (he:PE X e (dE X.K true τ (.d x))) (hg:PG X (.Tuple es m p) (dG X.K τ x τ')) (hr:PSs X rest (dS X.K τ' N)) (hs:swapsWithSole [.Tuple es m p] e pos.line X.env=pure false:=by rfl) (hw:swappedStores [.Tuple es m p] e X.env=pure none:=by rfl)
   (h1:(assignEach [.Tuple es m p] X.env).map (·.2)=[assign (.Tuple es m p) X.env]:=by rfl):PSs X (.Assign [.Tuple es m p] e pos :: rest) (dS X.K τ N):=
 bM (M:=(·=τ')) (psW (rF he hg hs hw h1) λD σ H ⟨A,H₀,B,S,Me⟩=>aW S λv H1 e1 d1=>⟨A,H₀,B,S.mono e1,d1,λσ' B' S'=>Me.nx _ _ _ _ rfl S'⟩) λ_ e=>e ▸ hr
theorem yq (T:Nat->List Sl) {f:Nat->D} (B:Bk X k) (hi:PI X tg it (dI X.K τ xs)) (hl:xs.length < 1000000) (hT:∀ i,(T i).length=(b8 τ (bCp X.N scope)++[Sl.un]).length/\∀ (l:Nat) (x:D),(b8 τ (bCp X.N scope)++[Sl.un])[l]?=some (.d x)->(T i)[l]?=some (.d x))
   (hg:∀ i (h:i < xs.length) s H fp,PG (cpX X s H scope fp) tg (dG X.K (b8 τ (bCp X.N scope)++[.un]) xs[i] (T i)))
   (he:∀ i,i < xs.length->∀ s H fp,PE (cpX X s H scope fp) elt (dE X.K true (T i) (.d (f i)))) (hc:bOk X.env.scope scope=true:=by kernel_rfl) (hs:∀ x,foldedSetIterable it X.env x=pure x:=by intro _; rfl) :
   Cmp X elt tg it [] scope τ ((List.range xs.length).map f):=by
 have h:=mW (T:=T) (t:=λ_=>true) (f:=f) (elt:=elt) (ifs:=[]) hc hi hT hg (λi h s H fp=>λpins s' σ H' Q I ⟨A,H₀,B,S,q⟩=>nR pins s' σ H' Q I (q H' (aq.refl _))) (λi h _ s H fp=>he i h s H fp) hl hs
 rwa [List.filter_eq_self.mpr λ_ _=>rfl] at h
theorem tR {c:Expr} {t:TT} (h:PT X c t):PTs X [c] t:=λpins s σ H Q I q=>wpAny_tests_one (h pins s σ H Q I q)
theorem uM (j:Nat) {n:Str} {g f:Nat->D} {t:Nat->Bool} (B:Bk X k) (hi:PI X (.Name n p) it (dI X.K τ xs)) (hx:∀ i (h:i < xs.length),xs[i]=g i) (hl:xs.length < 1000000)
   (ht:∀ i,i < xs.length->∀ s H fp,PT (cpX X s H scope fp) c (dT X.K ((b8 τ (bCp X.N scope)++[Sl.un]).set j (.d (g i))) (t i)))
   (he:∀ i,i < xs.length->t i=true->∀ s H fp,PE (cpX X s H scope fp) elt (dE X.K true ((b8 τ (bCp X.N scope)++[Sl.un]).set j (.d (g i))) (.d (f i))))
   (hc:bOk X.env.scope scope=true:=by kernel_rfl) (hu:(b8 τ (bCp X.N scope)++[Sl.un])[j]?=some .un:=by rfl) (hN:(bNm scope++[("#" : Str)])[j]?=some n:=by rfl) (hv:∀ s H fp,Loc (cpX X s H scope fp).env.scope n:=by intro _ _ _; first | exact .inl rfl | exact .inr rfl)
   (hf:∀ s H fp,(cpX X s H scope fp).fn n=true\/(cpX X s H scope fp).env.scope.names.lookup n=some .local:=by intro _ _ _; first | exact .inr rfl | exact .inl rfl) (hs:∀ x,foldedSetIterable it X.env x=pure x:=by intro _; rfl) :
   Cmp X elt (.Name n p) it [c] scope τ (((List.range xs.length).filter t).map f):=by
 refine mW (T:=λi=>(b8 τ (bCp X.N scope)++[Sl.un]).set j (.d (g i))) (t:=t) (f:=f) (elt:=elt) (ifs:=[c]) hc hi (λi=>⟨List.length_set,λl x h=>?_⟩) (λi h s H fp=>?_) (λi h s H fp=>tR (ht i h s H fp)) he hl hs
 · rw [List.getElem?_set_ne (λz=>by rw [<- z,hu] at h; cases h)]
   exact h
 · rw [hx i h]
   exact vE j (gG hc).2 hN (hv s H fp) (hf s H fp)
end
section
variable {X:Cx} {C:Bool} {τ τ':List Sl} {x y z:D} {a b e c tg it elt o ix:Expr} {es ifs:List Expr} {pos p q:Pos} {k:Nat} {s:Sl} {N:Po} {rest body:List Stmt} {ds xs ys:List D} {i:Nat} {scope:Scope}
theorem tS (j l:Nat) {n m:Str} {p2 pt:Pos} {md:Nat} {g g' f:Nat->D} (B:Bk X k) (hi:PI X (.Tuple [.Name n p,.Name m p2] md pt) it (dI X.K τ xs)) (hx:∀ i (h:i < xs.length),xs[i]=.tup [g i,g' i]) (hl:xs.length < 1000000)
   (he:∀ i,i < xs.length->∀ s H fp,PE (cpX X s H scope fp) elt (dE X.K true (((b8 τ (bCp X.N scope)++[Sl.un]).set j (.d (g i))).set l (.d (g' i))) (.d (f i))))
   (hc:bOk X.env.scope scope=true:=by kernel_rfl) (hu:(b8 τ (bCp X.N scope)++[Sl.un])[j]?=some .un:=by rfl) (hu':(b8 τ (bCp X.N scope)++[Sl.un])[l]?=some .un:=by rfl) (hN:(bNm scope++[("#" : Str)])[j]?=some n:=by rfl) (hN':(bNm scope++[("#" : Str)])[l]?=some m:=by rfl) (hv:∀ s H fp,Loc (cpX X s H scope fp).env.scope n:=by intro _ _ _; first | exact .inl rfl | exact .inr rfl) (hv':∀ s H fp,Loc (cpX X s H scope fp).env.scope m:=by intro _ _ _; first | exact .inl rfl | exact .inr rfl)
   (hf:∀ s H fp,(cpX X s H scope fp).fn n=true\/(cpX X s H scope fp).env.scope.names.lookup n=some .local:=by intro _ _ _; first | exact .inr rfl | exact .inl rfl) (hf':∀ s H fp,(cpX X s H scope fp).fn m=true\/(cpX X s H scope fp).env.scope.names.lookup m=some .local:=by intro _ _ _; first | exact .inr rfl | exact .inl rfl) (hs:∀ x,foldedSetIterable it X.env x=pure x:=by intro _; rfl) :
   Cmp X elt (.Tuple [.Name n p,.Name m p2] md pt) it [] scope τ ((List.range xs.length).map f):=
 yq (λi=>((b8 τ (bCp X.N scope)++[Sl.un]).set j (.d (g i))).set l (.d (g' i))) B hi hl (λi=>⟨by rw [List.length_set,List.length_set],λr x h=>by
     rw [List.getElem?_set_ne (λz=>by rw [<- z,hu'] at h; cases h),List.getElem?_set_ne (λz=>by rw [<- z,hu] at h; cases h)]
     exact h⟩)
   (λi h s H fp=>by rw [hx i h]; exact uE j l (B.comp s H scope fp).calm (gG hc).2 hN hN' (hv s H fp) (hv' s H fp) (hf s H fp) (hf' s H fp)) he hc hs
end
end Hy
namespace Hy
open PySem PySem.Spec PyProof.Rows L2
open Ev (D Den ax av bD aK)
section
variable {X:Cx} {C:Bool} {τ:List Sl} {x y z:D} {a b e o ix:Expr} {es:List Expr} {pos p q:Pos} {k:Nat} {s:Sl} {N:Po} {rest:List Stmt} {i j:Nat} {t c:Nd} {pt:List Nat} {xs:List Nd} {m:Nat}
end
end Hy
namespace Hy
open PySem PySem.Spec PyProof.Rows L2
open Ev (D Den ax)
theorem _root_.L2.Fun.u0 {K:PySem.W.Frag} {x qual:Str} {st:Stmt} {f T:Addr} {fd:FuncData} {ps:List Str} {c:Value} {d:Option Addr} {items:Array Value} {n:Nat} {sl:Array (Option Value)} (_:L2.Fun K x qual st f fd) (hd:fd.defaults=.ref T) (lT:K.lookup T=some ⟨c,d,.seq items n,sl⟩)
   (h:∀ us:List Value,us.length=ps.length->∃ k,bindArgs fd ⟨us,[]⟩=seqItems? fd.defaults >>= k/\k (some items)=pure (ps.zip us)):L2.Binds K fd ps []:=λs us X hl=>by
 rw [List.append_nil] at hl ⊢
 obtain ⟨k,h1,h2⟩:=h us hl
 exact .of_defaults hd (X _ _ lT) rfl h1 h2
noncomputable def qV (K:PySem.W.Frag) (x:Str) (st:Stmt) (f:Addr) (i:Int):Prop:=PySem.W.nsIn K mainGlobals x=some (some (.ref f))/\(∃ oc od kV dc pm an cd ct sl T td tl tc tt tn,K.lookup f=some ⟨oc,od,.func (PySem.W.fnOf x x (cg st) (bL st) (ah st) (.ref T) kV dc pm an cd ct),sl⟩/\PySem.W.codeIn K cd x=true/\K.lookup T=some ⟨tc,td,.seq #[.int i tt] tn,tl⟩)/\PySem.W.keepIn K (.ref f)=true
section
variable {P:Program} {w:World} {K:PySem.W.Frag} {h:Heap} {mg:Str->Option Value} {base:Heap} {x:Str} {st:Stmt} {f:Addr} {ps:List Str} {k:Nat} {Φ:List D->Sl->Prop} {i:Int}
theorem qV.of {oc tc:Value} {od an td:Option Addr} {kV dc pm cd ct:Value} {sl tl:Array (Option Value)} {T:Addr} {tt:Tok} {tn:Nat} (a:PySem.W.nsIn K mainGlobals x=some (some (.ref f))) (l:K.lookup f=some ⟨oc,od,.func (PySem.W.fnOf x x (cg st) (bL st) (ah st) (.ref T) kV dc pm an cd ct),sl⟩) (c:PySem.W.codeIn K cd x=true) (d:K.lookup T=some ⟨tc,td,.seq #[.int i tt] tn,tl⟩) (k:PySem.W.keepIn K (.ref f)=true):qV K x st f i:=⟨a,⟨_,_,_,_,_,_,_,_,_,_,_,_,_,_,_,l,c,d⟩,k⟩
theorem qV.cal (d:qV K x st f i) (X:K.In h) (G:h.Ns mainGlobals mg) (b:∀ (T:Addr) (tt:Tok) (kV dc pm:Value) (an:Option Addr) (cd ct:Value) (us:List Value),us.length=ps.length->∃ k,bindArgs (PySem.W.fnOf x x (cg st) (bL st) (ah st) (.ref T) kV dc pm an cd ct) ⟨us,[]⟩=seqItems? (.ref T) >>= k/\k (some #[.int i tt])=pure (ps.zip us))
   (o:∀ fd,Fun K x x st f fd->aR P w K mg base CX0 k f fd ps (spD K Φ)):Cal P w K mg base k x Φ:=by
 obtain ⟨a,⟨oc,od,kV,dc,pm,an,cd,ct,sl,T,td,tl,tc,tt,tn,l,c',dt⟩,q⟩:=d
 have F:=mO l c' q
 exact ⟨f,_,ps,o _ F,PySem.W.mg_of X G a,q,F.u0 rfl dt (b T tt kV dc pm an cd ct)⟩
end
mutual
noncomputable def oV:Nd->Bool
 | .d x=>flat x
 | .l xs=>lR xs
 | .t xs=>lR xs
noncomputable def lR:List Nd->Bool
 | []=>true
 | x :: xs=>oV x && lR xs
end
noncomputable def tD:Sl->Bool
 | .un=>true
 | .d x=>flat x
 | .o xs=>xs.all flat
 | .n t=>oV t
 | .x _=>false
section
variable {K:PySem.W.Frag} {G G' H:Hp}
mutual
theorem cI.fl:∀ {u:V} {bs:List Addr} {t:Nd},cI K G H u bs t->oV t=true->cI K G' H u bs t
 | _,_,_,.d h,f=>.d (ij h (by rw [oV] at f; exact f))
 | _,_,_,.l h r,f=>.l h (aV.fl r (by rw [oV] at f; exact f))
 | _,_,_,.t h r,f=>.t h (aV.fl r (by rw [oV] at f; exact f))
theorem aV.fl:∀ {vs:List V} {bs:List Addr} {ts:List Nd},aV K G H vs bs ts->lR ts=true->aV K G' H vs bs ts
 | _,_,_,.nil,_=>.nil
 | _,_,_,.cons h r,f=>by
   rw [lR,Bool.and_eq_true] at f
   exact .cons (cI.fl h f.1) (aV.fl r f.2)
end
theorem om:∀ {vs:List V} {xs:List D},ax K G vs xs->xs.all flat=true->ax K G' vs xs
 | _,_,.nil,_=>.nil
 | _,_,.cons h r,f=>by
   rw [List.all_cons,Bool.and_eq_true] at f
   exact .cons (ij h f.1) (om r f.2)
theorem cn.fl {v:Option V} {bs:List Addr}:∀ {s:Sl},cn K G H v bs s->tD s=true->cn K G' H v bs s
 | .un,h,_=>h
 | .d _,⟨h,u,e1,h2⟩,f=>⟨h,u,e1,ij h2 f⟩
 | .o _,⟨a,vs,h1,h2,h3,h4⟩,f=>⟨a,vs,h1,h2,h3,om h4 f⟩
 | .n _,⟨h0,u,h1,h2⟩,f=>⟨h0,u,h1,h2.fl f⟩
end
theorem r6 {X:Cx} {C C':Bool} {τ:List Sl} {e:Expr} {s s0:Sl} {x:D} (i:Nat) (h:PE X e (dE X.K C' (τ.set i (.d x)) s)) (f:tD s=true) (hi:τ[i]?=some s0:=by rfl) (hx:fzD s0=some x:=by rfl):PE X e (dE X.K C τ s):=
 peW h λσ H Q ⟨A,H₀,B,S,k⟩=>⟨A,H₀,_,S.fz hi hx,λv H' bs e fr q=>k v H' bs e fr (q.fl f)⟩
noncomputable def But (d:Addr) (H H':Hp):Prop:=∀ b o,b ≠ d->H b=some o->H' b=some o
theorem But.same {H H':Hp} {d:Addr} (e:aq H H'):But d H H':=λb o _ h=>e b o h
theorem But.trans {H H1 H2:Hp} {d:Addr} (a:But d H H1) (b:But d H1 H2):But d H H2:=λc o n h=>b c o n (a c o n h)
theorem But.hd {H H':Hp} {d:Addr} {M:Addr->Prop} (e:But d H H') (h:M d):aq (Hy.hd H M) (Hy.hd H' M):=λb o z=>by
 obtain ⟨z1,z2⟩:=aG.mp z
 exact aG.mpr ⟨z1,e b o (λy=>z1 (y ▸ h)) z2⟩
noncomputable def Hid (M:Addr->Prop) (H:Hp) (d:Addr):Prop:=M d/\∀ b,M b->∃ o,H b=some o
theorem Hid.but {M:Addr->Prop} {H H':Hp} {d:Addr} (h:Hid M H d) (e:But d H H') (hd:∃ o,H' d=some o):Hid M H' d:=⟨h.1,λb z=>by
 by_cases q:b=d
 · rw [q]; exact hd
 · obtain ⟨o,y⟩:=h.2 b z
   exact ⟨o,e b o q y⟩⟩
theorem Hid.same {M:Addr->Prop} {H H':Hp} {d:Addr} (h:Hid M H d) (e:aq H H'):Hid M H' d:=⟨h.1,λb z=>let ⟨o,y⟩:=h.2 b z; ⟨o,e b o y⟩⟩
noncomputable def wR (P:Program) (w:World) (K:PySem.W.Frag) (mg:Str->Option Value) (base:Heap) (k:Nat) (n:Str) (sp:Sp):Prop:=
 ∃ f fd ps,aR P w K mg base CX0 k f fd ps sp/\mg n=some (.ref f)/\PySem.W.keepIn K (.ref f)=true/\Binds K fd ps []
theorem wR.mono {P:Program} {w:World} {K:PySem.W.Frag} {mg:Str->Option Value} {base:Heap} {j k:Nat} {n:Str} {sp:Sp} (c:wR P w K mg base j n sp) (h:j<=k):wR P w K mg base k n sp:=
 let ⟨f,fd,ps,F,r⟩:=c; ⟨f,fd,ps,F.mono h,r⟩
section
variable {K:PySem.W.Frag} {A:Addr->Prop} {H₀ H H':Hp} {τ:List Sl} {B:Nat->List Addr} {σ:L2.St}
theorem Sta.hid (S:Sta K A H₀ τ B σ H) {i:Nat} {a:Addr} (hB:B i=[a]):Hid (own A B) H a:=⟨.inr ⟨i,by rw [hB]; exact List.mem_singleton.mpr rfl⟩,S.dm⟩
theorem Sta.but (S:Sta K A H₀ τ B σ H) {i:Nat} {a:Addr} {E E':Ex} {o':HO} (hi:τ[i]?=some (.x E)) (hB:B i=[a]) (e:But a H H') (ho:H' a=some o') (d:E'.p K (hd H' (own A B)) o' a):Sta K A H₀ (τ.set i (.x E')) B σ H':=by
 have sm:aq (hd H (own A B)) (hd H' (own A B)):=e.hd (S.hid hB).1
 have f0:H₀ a=none:=S.fr i a (by rw [hB]; exact List.mem_singleton.mpr rfl)
 have hs:aq H₀ H':=λb o z=>e b o (λq=>by rw [q,f0] at z; cases z) (S.same b o z)
 refine ⟨hs,by rw [List.length_set,S.len],λj t hj=>?_,S.fr,S.uq,S.ad,λj b hb=>((S.hid hB).but e ⟨_,ho⟩).2 b (.inr ⟨j,hb⟩)⟩
 by_cases ej:j=i
 · subst ej
   have hl:=(List.getElem?_eq_some_iff.mp hi).1
   rw [List.getElem?_set_self hl] at hj
   cases hj
   obtain ⟨a',o,e1,e2,_,_⟩:=S.sl j _ hi
   rw [hB] at e1
   cases e1
   exact ⟨a,o',hB,e2,ho,d⟩
 · rw [List.getElem?_set_ne (λz=>ej z.symm)] at hj
   have off:∀ b ∈ B j,b ≠ a:=λb hb e=>ej (S.uq j i a (e ▸ hb) (by rw [hB]; exact List.mem_singleton.mpr rfl))
   have ne:∀ b ∈ B j,H' b=H b:=λb hb=>by
     obtain ⟨o,q⟩:=S.bd j b hb
     rw [q]
     exact e b o (off b hb) q
   exact (S.sl j t hj).frame sm ne
end
section
variable {X:Cx} {τ:List Sl} {x y z:D} {a b e c:Expr} {es:List Expr} {pos p q:Pos} {k:Nat} {s:Sl} {ds:List D} {N:Po} {rest body:List Stmt}
end
section
variable {P:Program} {w:World} {K:PySem.W.Frag} {mg:Str->Option Value} {base:Heap}
end
section
variable {X:Cx} {τ:List Sl} {es:List Expr} {pos p q pr:Pos} {k:Nat} {s:Sl} {ds:List D} {N:Po} {rest:List Stmt}
end
end Hy
namespace Hy
open PySem PySem.Spec PyProof.Rows L2
open Ev (D Den ax aE aH av bD aK)
section
variable {X:Cx} {i:Int}
theorem vQ {ns:List Int}:cx X (compareOp .NotIn) (.int i) (.lst (ns.map .int)) (.bl (!ns.any λw=>decide (w=i))):=⟨_,j9,λM x' y' H Q _ d1 d2 q=>by
 cases d1
 cases d2 with
 | @lst ad vs _ h r=>
   cases ie r
   refine ⟨_,_,rfl,.inl (aK aU h),rfl,?_,?_⟩
   · rw [List.all_map,List.all_eq_true]; intro _ _; rfl
   · have e:(ns.any λw=>decide (w=i))=inV (.int i) (ns.map V.int):=by unfold inV; rw [List.any_map]; congr 1
     rw [if_pos rfl]
     rw [e] at q
     exact q _ H (aq.refl _) .bl⟩
end
end Hy
namespace Su
open PySem PyProof.Rows HT
open PySem.SeqAt
open PySem.AutoSeq1 (wpAny_loadPart')
open PySem.MeetsSeq PySem.MeetsSeq2 PySem.MeetsSeq3
theorem pd (t:Bool) (x y:Value):keyLt' (tuples' t) x y=(do
   let xs <- Builtin.List.listItems x; let ys <- Builtin.List.listItems y
   for ((p,q),i) in (xs.toList.zip ys.toList).zipIdx do
     if !(<- eqBool p q) then return <- oneLt' (t && i == 0) p q
   return xs.size < ys.size):=rfl
section
variable {prog:Program} {w:World} {A:Around} {E:Value->Shared->Prop} {s:Shared}
theorem mh {b:Bool} {a c:Int} {t u:Tok} {Q:Bool->Shared->Prop} (h:Q (decide (a < c)) s):wpAny (model prog w) A (oneLt' b (.int a t) (.int c u)) Q E s:=by
 cases b with
 | true=>exact oneLt_int h
 | false=>
   rw [oneLt'_eq]
   simp only [Bool.false_eq_true,if_false]
   exact wpAny_bind (r9 A s a t c u prog w E _ (wpAny_truthy_bool h))
theorem lZ {l b:Addr} {items items2:Array Value} {n n2:Nat} {dd dd2:Option Addr} {sl sl2:Array (Option Value)} {ns ms:List Int} {t:Bool} {Q:Bool->Shared->Prop} (hl:s.heap.get? l=some { cls:=.type "tuple",dict:=dd,data:=.seq items n,slots:=sl }) (hb:s.heap.get? b=some { cls:=.type "tuple",dict:=dd2,data:=.seq items2 n2,slots:=sl2 })
   (hi:IntsAre items.toList ns) (hj:IntsAre items2.toList ms) (h:Q (lexLt ns ms) s):wpAny (model prog w) A (keyLt' (tuples' t) (.ref l) (.ref b)) Q E s:=by
 rw [pd]
 have z1:items.size=ns.length:=by rw [<- hi.length]; simp
 have z2:items2.size=ms.length:=by rw [<- hj.length]; simp
 refine wpAny_bind (listItems_at hl rfl ?_)
 refine wpAny_bind (listItems_at hb rfl ?_)
 refine wpAny_bind (wpAny_forIn_list _ (λrest (b:Option Bool × Unit) s'=>b.1=none/\s'=s/\∃ (vs ws:List Value) (ns' ms':List Int) (k:Nat),rest=(vs.zip ws).zipIdx k /\
     IntsAre vs ns'/\IntsAre ws ms'/\ns'.length + items2.size=ms'.length + items.size/\Q (lexLt ns' ms') s) _ ?turn ?fin _ _ ?init)
 case turn=>
   rintro ⟨⟨y,x⟩,i⟩ rest b s' ⟨hb',rfl,vs,ws,ns',ms',k,hz,hvi,hwi,hlen,hR⟩
   cases hvi with
   | nil=>rw [List.zip_nil_left] at hz; cases hz
   | cons a t hvi'=>
     cases hwi with
     | nil=>rw [List.zip_nil_right] at hz; cases hz
     | cons c u hwi'=>
       rw [List.zip_cons_cons,List.zipIdx_cons] at hz
       injection hz with hyx hrest
       injection hyx with hy hx
       injection hy with hy hy2
       subst hy hy2
       rw [me] at hR
       simp only [List.length_cons] at hlen
       obtain ⟨e,he,hiff⟩:=rZ A s' a t c u
       refine wpAny_bind (he prog w _ _ ?_)
       cases e with
       | true=>
         rw [if_pos (hiff.mp rfl)] at hR
         wp_walk
         exact ⟨rfl,rfl,_,_,_,_,_,hrest,hvi',hwi',by omega,hR⟩
       | false=>
         rw [if_neg (λq=>absurd (hiff.mpr q) Bool.false_ne_true)] at hR
         simp only [Bool.not_false,if_true]
         refine wpAny_bind (mh ?_)
         exact wpAny_pure (wpAny_pure hR)
 case fin=>
   rintro ⟨b1,b2⟩ s' ⟨hb',rfl,vs,ws,ns',ms',k,hz,hvi,hwi,hlen,hR⟩
   simp only at hb'
   subst hb'
   have hv:lexLt ns' ms'=decide (items.size < items2.size):=by
     cases hvi with
     | nil=>
       cases hwi with
       | nil=>
         simp only [List.length_nil] at hlen
         rw [i3]
         exact (decide_eq_false (by omega)).symm
       | cons c u hw=>
         simp only [List.length_nil,List.length_cons] at hlen
         rw [iA]
         exact (decide_eq_true (by omega)).symm
     | cons a t hv=>
       cases hwi with
       | nil=>
         simp only [List.length_nil,List.length_cons] at hlen
         rw [gL]
         exact (decide_eq_false (by omega)).symm
       | cons c u hw=>
         rw [List.zip_cons_cons] at hz
         cases hz
   rw [hv] at hR
   exact wpAny_pure hR
 case init=>exact ⟨rfl,rfl,items.toList,items2.toList,ns,ms,0,rfl,hi,hj,by omega,h⟩
noncomputable def oM (h:Heap) (l:Addr) (ns:List Int):Prop:=∃ items n dd sl,h.get? l=some { cls:=.type "tuple",dict:=dd,data:=.seq items n,slots:=sl }/\IntsAre items.toList ns/\ns ≠ []
theorem oM.keep {h h':Heap} {l:Addr} {ns:List Int} (k:∀ o,h.get? l=some o->h'.get? l=some o):oM h l ns->oM h' l ns:=λ⟨items,n,dd,sl,ho,r⟩=>⟨items,n,dd,sl,k _ ho,r⟩
theorem oM.lt {l b:Addr} {ns ms:List Int} (hl:oM s.heap l ns) (hb:oM s.heap b ms) (E:Value->Shared->Prop) (Q:Bool->Shared->Prop) (h:Q (lexLt ns ms) s):wpAny (model prog w) A (keyLt' (tuples' true) (.ref l) (.ref b)) Q E s:=by
 obtain ⟨items,n,dd,sl,ho,hi,_⟩:=hl
 obtain ⟨items2,n2,dd2,sl2,ho2,hi2,_⟩:=hb
 exact lZ ho ho2 hi hi2 h
end
end Su
namespace Hy
open PySem PySem.Spec PyProof.Rows L2
open Ev (D Den ax aE aH av bD aK)
section
variable {X:Cx} {C:Bool} {τ:List Sl} {x y z:D} {a b e:Expr} {es:List Expr} {pos p:Pos} {k:Nat} {s:Sl} {ds xs ys:List D} {i j:Int} {N:Po} {rest:List Stmt}
end
section
variable {X:Cx} {C:Bool} {τ:List Sl} {x y z:D} {a b e:Expr} {es:List Expr} {pos p:Pos} {k:Nat} {s:Sl} {ds xs ys:List D} {N:Po} {rest:List Stmt}
theorem xt (i:Nat) {n:Str} {ap cp:Pos} (he:PE X e (dE X.K true τ (.o ys))) (hl:xs.length + ys.length < 1000000) (hr:PSs X rest (dS X.K (τ.set i (.o (xs++ys))) N)) (hi:τ[i]?=some (.o xs):=by rfl) (hN:X.N[i]?=some n:=by rfl)
   (hv:Vis X.env.scope n:=by first | exact Or.inl rfl | exact Or.inr (Or.inl rfl) | exact Or.inr (Or.inr rfl)) (hd:(n == ("__debug__" : Str))=false:=by decide) (hcd:(n == ("__classdict__" : Str))=false:=by decide)
   (hfew:((backTo cp (starEach [e] X.env)).all (λx=>!x.1) && (backToKw cp (keywordEach [] X.env)).all (λx=>x.1.isSome) && decide (([e]:List Expr).length + ([]:List Keyword).length + (if ([]:List Keyword).isEmpty then 0 else 1) < 30))=true:=by rfl)
   (hline:(ap.endLine == cp.line)=true:=by rfl) (hst:starEach [e] X.env=(false,eval e X.env) :: starEach [] X.env:=by rfl) (hpl:(backTo cp (starEach [] X.env)).any (·.1)=false:=by rfl)
   (hs:swapsWith (.Call (.Attribute (.Name n p) "extend" ap) [e] [] cp) none pos.line X.env=pure false:=by rfl) (hbase:attributeBase (.Name n p) "extend" X.env (eval (.Name n p) X.env)=eval (.Name n p) X.env:=by rfl) :
   PSs X (.Expr (.Call (.Attribute (.Name n p) "extend" ap) [e] [] cp) pos :: rest) (dS X.K τ N):=
 bM (M:=(·=τ.set i (.o (xs++ys)))) (psW (gF (nF PySem.F.plainAttrs_list PySem.F.slot_list_extend PySem.F.type_list_extend oy (cX hN hv hd hcd) (cR he fZ hst) hbase hfew hline hst hpl) hs) λD σ H ⟨A,H₀,B,S,Me⟩=>by
   obtain ⟨l,vs,hb,e1,e2,d⟩:=S.sl i _ hi
   refine ⟨_,slot_of e1,.inl ⟨rfl,_,SqL.of e2⟩,A,H₀,B,S,λv H1 bs e3 fr ⟨l2,ws,eb,ev,h2,d2⟩=>?_⟩
   cases ev
   have lim:1000000<=sizeLine:=by decide
   refine ⟨l,l2,vs,ws,rfl,rfl,e3 _ _ e2,h2,by rw [d.length,d2.length]; omega,?_⟩
   exact Me.nx _ _ _ _ rfl ((S.mono e3).put hi hb ((d.mono (aA e3 λ_ z=>z)).append (d2.mono (aA (aq.refl _) λ_ z=>.inl z))))) λ_ e=>e ▸ hr
end
end Hy
namespace Hy
open PySem PySem.Spec PyProof.Rows L2
open Ev (D Den ax av bD aK)
section
variable {X:Cx}
theorem q0 {α:Type}:∀ (its:List α) (k:Nat) (y:α),k<=its.length->its.insertIdx k y=its.take k++[y]++its.drop k
 | _,0,_,_=>rfl
 | a :: r,k + 1,y,h=>by
   rw [List.insertIdx_succ_cons,q0 r k y (by simpa using h)]
   rfl
theorem vx {its:List Value} {k:Nat} {y:Value} (h:k<=its.length):(its.toArray.extract 0 k).push y++its.toArray.extract k=(its.insertIdx k y).toArray:=by
 apply Array.toList_inj.mp
 simp only [Array.toList_append,Array.toList_push,Array.toList_extract,List.extract_eq_drop_take,List.drop_zero,Nat.sub_zero,List.size_toArray]
 rw [q0 its k y h]
 congr 1
 exact List.take_of_length_le (by rw [List.length_drop]; exact Nat.le_refl _)
noncomputable def uh:V->List V->Hp->VK->Prop:=λx vs H Q=>∃ l xs,∃ i:Int,∃ y,x=.ref l/\vs=[.int i,y]/\H l=some (.lst xs)/\0<=i/\i.toNat<=xs.length/\xs.length < sizeLine/\Q .non (upd H l (.lst (xs.insertIdx i.toNat y)))
theorem oO:MtM X "list.insert" uh:=by
 intro pins s σ H x vs v us Q I rx rv h
 obtain ⟨l,xs,i,y,rfl,rfl,hH,h0,h1,h2,q⟩:=h
 cases rx
 obtain ⟨u,w,rfl,ru,rw'⟩:=rv.two
 obtain ⟨t,rfl⟩:=ru
 obtain ⟨z,its,n,r,hl,e⟩:=I.rO hH
 have hi:i < 2 ^ 63:=by have:=Int.toNat_of_nonneg h0; have:sizeLine < 2 ^ 62:=(by decide); omega
 have hf:Builtin.List.listFitsIndex i=true:=by
   unfold Builtin.List.listFitsIndex
   rw [Bool.and_eq_true]
   exact ⟨decide_eq_true (by omega),decide_eq_true hi⟩
 refine call_meets PySem.F.slot_list_insert ⟨_,e,rfl⟩ PySem.F.entry_list_insert (PySem.F.args_list_insert_3 _ _ _) (PySem.AutoSeq1.list_insert_list_int_val_1 l its.toArray n i t w (by simp [hf]) (by rw [List.size_toArray]; omega)) ⟨e,?_⟩
 have vi:∀ {xs:List V} {us:List Value} (k:Nat) {a:V} {b:Value},Vals xs us->RelV a b->Vals (xs.insertIdx k a) (us.insertIdx k b):=λ{xs us} k {a b} r ra=>by
   induction k generalizing xs us with
   | zero=>exact .cons ra r
   | succ k ih=>cases r with
     | nil=>exact .nil
     | cons r1 r2=>exact .cons r1 (ih r2)
 refine ⟨.non,_,I.uy (its':=its.insertIdx i.toNat w) hH e ?_ (vi _ r rw') ?_,rfl,q⟩
 · show (its.toArray.extract 0 (if i < 0 then (i + (its.toArray.size:Int)).toNat else min i.toNat its.toArray.size)).push w++its.toArray.extract (if i < 0 then (i + (its.toArray.size:Int)).toNat else min i.toNat its.toArray.size)=_
   rw [if_neg (by omega),List.size_toArray,Nat.min_eq_left (by omega)]
   exact vx (by omega)
 · rw [List.length_insertIdx_of_le_length h1]; omega
end
theorem aV.ins {K:PySem.W.Frag} {G H:Hp} {v:V} {x:D} (h:Den K G v x):∀ {vs:List V} {bs:List Addr} {xs:List Nd} (k:Nat),k<=xs.length->aV K G H vs bs xs->aV K G H (vs.insertIdx k v) bs (xs.insertIdx k (.d x))
 | _,_,_,0,_,r=>aV.cons (b1:=[]) (.d h) r
 | _,_,_,k + 1,hk,.nil=>absurd hk (Nat.not_succ_le_zero _)
 | _,_,_,k + 1,hk,.cons h1 r=>by
   rw [List.insertIdx_succ_cons,List.insertIdx_succ_cons]
   exact .cons h1 (aV.ins h k (by simpa using hk) r)
section
variable {X:Cx} {C:Bool} {τ:List Sl} {x y z:D} {a b e f o ix:Expr} {es:List Expr} {pos p q:Pos} {k:Nat} {s:Sl} {N:Po} {rest:List Stmt} {i:Nat} {t c:Nd} {pt:List Nat} {xs:List Nd} {j:Int} {m:Nat}
end
end Hy
namespace L2
open PySem PySem.Spec PyProof.Rows
section
variable {κ:Type} [DecidableEq κ]
noncomputable def cW (kvs:List (κ × V)) (k:κ):Option V:=(kvs.find? λkv=>decide (kv.1=k)).map (·.2)
noncomputable def putK (kvs:List (κ × V)) (k:κ) (v:V):List (κ × V):=
 if (kvs.any λkv=>decide (kv.1=k))=true then kvs.map (λkv=>if kv.1=k then (kv.1,v) else kv) else kvs++[(k,v)]
theorem bz {p:κ × V} {r:List (κ × V)} {k:κ} (e:p.1=k):cW (p :: r) k=some p.2:=by simp [cW,List.find?_cons,e]
theorem bu {p:κ × V} {r:List (κ × V)} {k:κ} (e:¬ p.1=k):cW (p :: r) k=cW r k:=by simp [cW,List.find?_cons,e]
theorem iG (k:κ):∀ kvs:List (κ × V),(kvs.any λkv=>decide (kv.1=k))=(cW kvs k).isSome
 | []=>rfl
 | p :: r=>by
   rw [List.any_cons]
   by_cases e:p.1=k
   · simp only [bz e,decide_eq_true e,Bool.true_or,Option.isSome_some]
   · rw [bu e,decide_eq_false e,Bool.false_or]; exact iG k r
theorem kO (k j:κ) (y:V):∀ kvs:List (κ × V),cW (kvs.map λkv=>if kv.1=k then (kv.1,y) else kv) j=(cW kvs j).map λx=>if j=k then y else x
 | []=>rfl
 | p :: r=>by
   have ih:=kO k j y r
   rw [List.map_cons]
   by_cases h:p.1=k
   · rw [if_pos h]
     by_cases e:p.1=j
     · rw [bz (p:=(p.1,y)) e,bz e,Option.map_some,if_pos (e.symm.trans h)]
     · rw [bu (p:=(p.1,y)) e,bu e,ih]
   · rw [if_neg h]
     by_cases e:p.1=j
     · rw [bz (p:=p) e,bz e,Option.map_some,if_neg (λz=>h (e.trans z))]
     · rw [bu (p:=p) e,bu e,ih]
theorem jI (k j:κ) (y:V):∀ kvs:List (κ × V),cW kvs k=none->cW (kvs++[(k,y)]) j=if j=k then some y else cW kvs j
 | [],_=>by
   by_cases e:k=j
   · rw [if_pos e.symm]; exact bz (p:=(k,y)) e
   · rw [if_neg (λz=>e z.symm)]; exact bu (p:=(k,y)) e
 | p :: r,hn=>by
   rw [List.cons_append]
   have hk:¬ p.1=k:=λz=>by rw [bz z] at hn; cases hn
   rw [bu hk] at hn
   have ih:=jI k j y r hn
   by_cases e:p.1=j
   · rw [bz e,bz e,if_neg (λz=>hk (e.trans z))]
   · rw [bu e,bu e,ih]
theorem qY (kvs:List (κ × V)) (k j:κ) (y:V):cW (putK kvs k y) j=if j=k then some y else cW kvs j:=by
 unfold putK
 by_cases a:(kvs.any λkv=>decide (kv.1=k))=true
 · rw [if_pos a,kO]
   rw [iG] at a
   by_cases e:j=k
   · obtain ⟨x,hx⟩:=Option.isSome_iff_exists.mp a
     rw [if_pos e,e,hx,Option.map_some,if_pos rfl]
   · rw [if_neg e]
     cases cW kvs j with
     | none=>rfl
     | some x=>rw [Option.map_some,if_neg e]
 · rw [if_neg a]
   refine jI k j y kvs ?_
   rw [iG] at a
   cases q:cW kvs k with
   | none=>rfl
   | some x=>rw [q] at a; exact (a rfl).elim
theorem gj (kvs:List (κ × V)) (k:κ) (v:V):(putK kvs k v).length<=kvs.length + 1:=by
 unfold putK
 split
 · rw [List.length_map]; omega
 · rw [List.length_append,List.length_cons,List.length_nil]; omega
theorem kA.getD {o:Option V} {u:Option Value} {d:V} {d':Value} (r:kA o u) (rd:RelV d d'):RelV (o.getD d) (u.getD d'):=by
 cases o with
 | none=>cases u with
   | none=>exact rd
   | some _=>exact (show False from r).elim
 | some _=>cases u with
   | none=>exact (show False from r).elim
   | some _=>exact r
theorem KV.val {kvs:List (κ × V)} {vs:List (κ × Value)} (r:KV kvs vs) (k:κ):kA (cW kvs k) (valueAt vs k):=by
 unfold KV at r
 induction r with
 | nil=>exact True.intro
 | @cons p q ps qs h t ih=>
   obtain ⟨h1,h2⟩:=h
   by_cases e:p.1=k
   · have e':q.1=k:=h1.symm.trans e
     have b:valueAt (q :: qs) k=some q.2:=by simp [valueAt,List.find?_cons,e']
     rw [bz e,b]; exact h2
   · have e':¬ q.1=k:=λz=>e (h1.trans z)
     have b:valueAt (q :: qs) k=valueAt qs k:=by simp [valueAt,List.find?_cons,e']
     rw [bu e,b]; exact ih
theorem KV.any {kvs:List (κ × V)} {vs:List (κ × Value)} (r:KV kvs vs) (k:κ):(kvs.any λkv=>decide (kv.1=k))=vs.any λkv=>decide (kv.1=k):=by
 unfold KV at r
 induction r with
 | nil=>rfl
 | cons h t ih=>rw [List.any_cons,List.any_cons,ih,h.1]
theorem KV.yv {kvs:List (κ × V)} {vs:List (κ × Value)} (r:KV kvs vs) (k:κ) {y:V} {u:Value} (ry:RelV y u) :
   KV (kvs.map λkv=>if kv.1=k then (kv.1,y) else kv) (vs.map λkv=>if kv.1=k then (kv.1,u) else kv):=by
 unfold KV at r ⊢
 induction r with
 | nil=>exact .nil
 | @cons p q ps qs h t ih=>
   rw [List.map_cons,List.map_cons]
   refine .cons ?_ ih
   obtain ⟨h1,h2⟩:=h
   by_cases e:p.1=k
   · rw [if_pos e,if_pos (h1.symm.trans e)]; exact ⟨h1,ry⟩
   · rw [if_neg e,if_neg (λz=>e (h1.trans z))]; exact ⟨h1,h2⟩
theorem KV.put {kvs:List (κ × V)} {vs:List (κ × Value)} (r:KV kvs vs) (k:κ) {y:V} {u:Value} (ry:RelV y u):KV (putK kvs k y) (stored vs k u):=by
 unfold putK stored
 rw [r.any k]
 by_cases e:(vs.any λkv=>decide (kv.1=k))=true
 · rw [if_pos e,if_pos e]; exact r.yv k ry
 · rw [if_neg e,if_neg e]; exact Paired.snoc r ⟨rfl,ry⟩
theorem KV.keys {kvs:List (κ × V)} {vs:List (κ × Value)} (r:KV kvs vs):kvs.map (·.1)=vs.map (·.1):=by
 unfold KV at r
 induction r with
 | nil=>rfl
 | cons h t ih=>rw [List.map_cons,List.map_cons,ih,h.1]
theorem KV.length {kvs:List (κ × V)} {vs:List (κ × Value)} (r:KV kvs vs):kvs.length=vs.length:=Paired.length r
end
theorem ng {P:Program} {w:World} {k:Key} {u:Value} (r:RelV (kV k) u):(bC P w).is k u=true:=by
 cases k with
 | inl i=>obtain ⟨t,e⟩:=(show ∃ t,u=Value.int i t from r); subst e; exact lK P w i t
 | inr x=>obtain ⟨t,e⟩:=(show ∃ t,u=Value.str x t from r); subst e; exact kQ P w x t
noncomputable abbrev KT (H:Hp):List (List Key × V)->List (List Key × Addr × Value)->Prop:=Paired λp q=>p.1=q.1/\H q.2.1=some (.tup (p.1.map kV))/\RelV p.2 q.2.2
theorem KT.val {H:Hp} {kvs:List (List Key × V)} {xs:List (List Key × Addr × Value)} (r:KT H kvs xs) (k:List Key):kA (cW kvs k) ((atKey xs k).map (·.2)):=by
 induction r with
 | nil=>exact True.intro
 | @cons p q ps qs h t ih=>
   obtain ⟨h1,_,h2⟩:=h
   by_cases e:p.1=k
   · have e':q.1=k:=h1.symm.trans e
     have b:atKey (q :: qs) k=some q.2:=by simp [atKey,List.find?_cons,e']
     rw [bz e,b]; exact h2
   · have e':¬ q.1=k:=λz=>e (h1.trans z)
     have b:atKey (q :: qs) k=atKey qs k:=by simp [atKey,List.find?_cons,e']
     rw [bu e,b]; exact ih
theorem KT.keeps {H H':Hp} {kvs:List (List Key × V)} {xs:List (List Key × Addr × Value)} (r:KT H kvs xs) (ht:∀ b ys,H b=some (.tup ys)->H' b=some (.tup ys)):KT H' kvs xs:=
 Paired.u4 r λ_ _ z=>⟨z.1,ht _ _ z.2.1,z.2.2⟩
section
variable {P:Program} {w:World} {H:Hp} {h:Heap} {a:Addr}
theorem xY {u:HO} (ok:HOk P w H h) (e:Rd H a u):bo P w H h a u:=e.ok ok
theorem lj {kvs:List (Key × V)} (ok:HOk P w H h) (e:Rd H a (.dK kvs)):kvs.length<=sizeLine/\(a == sysModules)=false/\∃ vs,KV kvs vs/\h.DictOf (bC P w) a vs:=
 show bo P w H h a (.dK kvs) from xY ok e
theorem rX {kvs:List (Key × V)} (ok:HOk P w H h) (e:H a=some (.dK kvs)):kvs.length<=sizeLine/\(a == sysModules)=false/\∃ vs,KV kvs vs/\h.DictOf (bC P w) a vs:=lj ok (.inl e)
end
noncomputable def mX (H:Hp) (a:Addr) (y:V) (r:Option V):Prop:=∃ kvs k,Rd H a (.dK kvs)/\y=kV k/\r=cW kvs k
noncomputable def uC (H:Hp) (a:Addr) (y v:V) (H':Hp):Prop:=∃ kvs k,H a=some (.dK kvs)/\y=kV k/\kvs.length < sizeLine/\H'=upd H a (.dK (putK kvs k v))
theorem mX.k {H:Hp} {a:Addr} {kvs:List (Key × V)} {k:Key} (e:H a=some (.dK kvs)):mX H a (kV k) (cW kvs k):=⟨kvs,k,.inl e,rfl,rfl⟩
theorem uC.k {H:Hp} {a:Addr} {kvs:List (Key × V)} {k:Key} {v:V} (e:H a=some (.dK kvs)) (hl:kvs.length < sizeLine):uC H a (kV k) v (upd H a (.dK (putK kvs k v))):=⟨kvs,k,e,rfl,hl,rfl⟩
section
variable {X:Cx} {pins:List (Addr × Obj)} {σ:St} {H:Hp} {s:Shared} {a:Addr} {y v:V} {u r:Value} {o:Option V} {A:Around} {E:Value->Shared->Prop}
theorem Inv.big (I:Inv X pins σ H s):sysModules < s.heap.objs.size:=by
 have h:mainGlobals < s.heap.objs.size:=(I.mod.glob.keeps I.bk).lt
 exact Nat.lt_trans (by decide) h
theorem oE {Q:Value->Shared->Prop} (hu:A.units + 1 < cLine) (I:Inv X pins σ H s) (g:mX H a y (some v)) (ry:RelV y u) (h:∀ w' s',Inv X pins σ H s'->RelV v w'->Q w' s') :
   wpAny (model X.prog X.w) A (getItem (.ref a) u) Q E s:=by
 obtain ⟨kvs,k,e,ey,l⟩:=g
 subst ey
 obtain ⟨z,hd,vs,rel,dd⟩:=lj I.hok e
 obtain ⟨w',hw,rw'⟩:=kA.some_of (v:=v) (o:=valueAt vs k) (by rw [l]; exact rel.val k)
 exact wpAny_getItem_of (ng ry) dd.mapOf hw (h w' _ (I.tok _) rw')
theorem fu {h':Heap} {t':Nat} {ob:HO} (I:Inv X pins σ H s) (mu:Mut (H a)) (hs:Heap.SameBut a s.heap h') (he:∃ q,h'.get? a=some q) (new:bo X.prog X.w (upd H a ob) h' a ob) :
   Inv X pins σ (upd H a ob) { s with heap:=h',toks:=t' }:=
 I.write (x:=a) (e:=a) mu (.inl rfl) (λb q hb z=>(hs.2 b hb).trans z) he new
theorem l9 {P:Program} {w:World} {H':Hp} {h':Heap} {kvs:List (Key × V)} {vs:List (Key × Value)} (z:kvs.length<=sizeLine) (hd:(a == sysModules)=false) (rel:KV kvs vs) (dd:h'.DictOf (bC P w) a vs) :
   bo P w H' h' a (.dK kvs):=⟨z,hd,vs,rel,dd⟩
theorem pC {H':Hp} {Q:Unit->Shared->Prop} (hu:A.units + 1 < cLine) (I:Inv X pins σ H s) (g:uC H a y v H') (ry:RelV y u) (rv:RelV v r) (h:∀ s',Inv X pins σ H' s'->Q () s') :
   wpAny (model X.prog X.w) A (setItem (.ref a) u r) Q E s:=by
 obtain ⟨kvs,k,e,ey,l,eH⟩:=g
 subst ey eH
 obtain ⟨z,hd,vs,rel,dd⟩:=rX I.hok e
 have hz:vs.length<=sizeLine:=by rw [<- rel.length]; exact z
 have hl:(putK kvs k v).length<=sizeLine:=by have:=gj kvs k v; omega
 refine wpAny_setItem_pairs (hsz:=hz) (ng ry) dd λh' dd' hs=>h _ ?_
 have he:∃ q,h'.get? a=some q:=let ⟨q,_,_,hq,_⟩:=dd'; ⟨q,hq⟩
 exact fu I (by rw [e]; exact True.intro) hs he (l9 hl hd (rel.put k rv) dd')
end
section
variable {X:Cx} {pins:List (Addr × Obj)} {σ:St} {H:Hp} {s:Shared} {a:Addr} {kvs:List (Key × V)} {k:Key} {u:Value} {A:Around} {E:Value->Shared->Prop}
end
noncomputable def pg (i:Expr):Prop:=∀ ov iv,subscripted i false ov iv=operate [ov,iv] (getItem ov iv)
theorem oo {prog:Program} {w:World} {A:Around} {E:Value->Shared->Prop} {s:Shared} {env:Env} {value slice:Expr} {pos:Pos} {T id:String} {Q:Value->Shared->Prop}
   (hl:typeLookup (.type T) "__getitem__" = pure (some (.builtin id))) (hs:pg slice)
   (h:wpAny (model prog w) A (eval value env) (λo s₁=>wpAny (model prog w) A (eval slice env) (λi s₂=>s₂.TypeIs o T/\wpAny (model prog w) A (getItem o i) Q E s₂) E s₁) E s) :
   wpAny (model prog w) A (eval (.Subscript value slice pos) env) Q E s:=by
 refine Subscript_ (wpAny_mono h (λo s₁ h₁=>wpAny_mono h₁ (λi s₂ h₂=>?_) λ_ _ x=>x) λ_ _ x=>x)
 obtain ⟨hT,h₂⟩:=h₂
 unfold subscriptTail
 refine wpAny_bind ?_
 rw [getitemInPython_of_ne hT.not_modules]
 refine wpAny_bind (wpAny_specialOf hT hl ?_)
 have fin:wpAny (model prog w) A (subscripted slice false o i) (λr s₃=>wpAny (model prog w) A (letTemporaryGo value o r >>= λ_=>pure r) Q E s₃) E s₂:=by
   rw [hs o i]
   exact wpAny_operating (wpAny_mono h₂ (λr s₃ h₃=>wpAny_bind (wpAny_letTemporaryGo (wpAny_pure h₃))) λ_ _ x=>x)
 first
   | exact wpAny_pure (wpAny_bind fin)
   | exact wpAny_bind (wpAny_pure (wpAny_bind fin))
   | exact wpAny_bind fin
theorem kN {X:Cx} {pins:List (Addr × Obj)} {σ:St} {H:Hp} {s:Shared} {a:Addr} {y:V} {o:Option V} (I:Inv X pins σ H s) (g:mX H a y o):s.TypeIs (.ref a) "dict":=by
 obtain ⟨kvs,k,e,_,_⟩:=g
 obtain ⟨_,_,vs,_,dd⟩:=lj I.hok e
 exact dd.typeIs
noncomputable def xk (td ty:TE):TE:=λσ H Q=>td σ H λx H1=>ty σ H1 λy H2=>∃ a v,x=.ref a/\mX H2 a y (some v)/\Q v H2
noncomputable def xa (td ty tv:TE):TS:=λD σ H=>tv σ H λv H1=>td σ H1 λx H2=>ty σ H2 λy H3=>∃ a H4,x=.ref a/\uC H3 a y v H4/\D.nx σ H4
section
variable {X:Cx} {o i e value:Expr} {pos pos' tpos:Pos} {td ty tv:TE}
theorem sT (hu:X.A.units + 1 < cLine) (ho:PE X o td) (hi:PE X i ty) (hs:pg i):PE X (.Subscript o i pos) (xk td ty):=by
 intro pins s σ H Q I h
 refine oo PySem.F.slot_dict_getitem.lookup hs (thn (ho pins s σ H _ I h) λu s1 ⟨x,H1,I1,rx,q1⟩=>thn (hi pins s1 σ H1 _ I1 q1) λiv s2 ⟨y,H2,I2,ry,a,v,ex,g,q2⟩=>?_)
 subst ex
 obtain rfl:u=Value.ref a:=rx
 exact ⟨kN I2 g,oE hu I2 g ry λw' s3 I3 rw'=>⟨v,H2,I3,rw',q2⟩⟩
theorem ue (hu:X.A.units + 1 < cLine) (ho:PE X o td) (hi:PE X i ty) (hv:PE X value tv) (hs:swapsWith value (some (.Subscript o i pos')) pos.line X.env=pure false) :
   PS X (.Assign [.Subscript o i pos'] value pos) (xa td ty tv):=by
 intro pins s σ H D I h
 refine wpAny_Assign_Subscript (thn (hv pins s σ H _ I h) λr s1 ⟨v,H1,I1,rv,q1⟩=>thn (ho pins s1 σ H1 _ I1 q1) λu s2 ⟨x,H2,I2,rx,q2⟩=>thn (hi pins s2 σ H2 _ I2 q2) λiv s3 ⟨y,H3,I3,ry,a,H4,ex,g,q3⟩=>?_) hs
 subst ex
 obtain rfl:u=Value.ref a:=rx
 exact pC hu I3 g ry rv λs4 I4=>⟨σ,H4,I4,q3⟩
end
theorem lh {P:Program} {w:World} {H:Hp} (h:Heap) (hb:sysModules < h.objs.size):bo P w H (h.push { cls:=.type "dict",data:=.dict #[] }) h.objs.size (.dK []):=
 ⟨Nat.zero_le _,beq_eq_false_iff_ne.mpr (Ne.symm (Nat.ne_of_lt hb)),[],.nil,Heap.DictOf.new h⟩
noncomputable def wX:TE:=λ_ H Q=>∀ p,H p=none->Q (.ref p) (upd H p (.dK []))
section
variable {X:Cx} {pos:Pos}
theorem so:PE X (.Dict [] [] pos) wX:=λpins s σ H Q I h=>
 wpAny_Dict_empty ⟨.ref s.heap.objs.size,_,I.laid (a:=s.heap.objs.size) (o:=.dK []) (t':=s.toks) (λ_ _ q=>Heap.get?_push_of_some _ q) (Nat.le_refl _) (lh s.heap I.big),rfl,h _ (I.hok.fresh (Nat.le_refl _))⟩
end
noncomputable def mU:List (TE × TE)->St->Hp->(List (V × V)->Hp->Prop)->Prop
 | [],_,H,Q=>Q [] H
 | (tk,tv) :: r,σ,H,Q=>tk σ H λx H1=>tv σ H1 λy H2=>mU r σ H2 λps H3=>Q ((x,y) :: ps) H3
noncomputable abbrev VV:List (V × V)->List (Value × Value)->Prop:=Paired λp q=>RelV p.1 q.1/\RelV p.2 q.2
noncomputable def PPs (X:Cx) (pos:Pos) (keys:List (Option Expr)) (values:List Expr) (trs:List (TE × TE)):Prop:=
 ∀ (pins:List (Addr × Obj)) (s:Shared) (σ:St) (H:Hp) (Q:List (V × V)->Hp->Prop),Inv X pins σ H s->mU trs σ H Q ->
   wpAny (model X.prog X.w) X.A (evalPairs (pairTrees keys values X.env pos)) (λvs s'=>∃ ps H',Inv X pins σ H' s'/\VV ps vs/\Q ps H') X.xe s
theorem sO {X:Cx} {pos:Pos}:PPs X pos [] [] []:=λpins s σ H Q I h=>pairTrees_nil_walk ⟨[],H,I,.nil,h⟩
theorem rK {X:Cx} {pos:Pos} {k v:Expr} {ks:List (Option Expr)} {vs:List Expr} {tk tv:TE} {trs:List (TE × TE)} (hk:PE X k tk) (hv:PE X v tv) (hr:PPs X pos ks vs trs) :
   PPs X pos (some k :: ks) (v :: vs) ((tk,tv) :: trs):=λpins s σ H Q I h=>
 pairTrees_cons_walk (thn (hk pins s σ H _ I h) λu s1 ⟨x,H1,I1,rx,q1⟩=>thn (hv pins s1 σ H1 _ I1 q1) λw2 s2 ⟨y,H2,I2,ry,q2⟩=>
   thn (hr pins s2 σ H2 _ I2 q2) λws s3 ⟨ps,H3,I3,rel,q3⟩=>⟨(x,y) :: ps,H3,I3,.cons ⟨rx,ry⟩ rel,q3⟩)
noncomputable def gb (kvs more:List (Key × V)):List (Key × V):=more.foldl (λacc kv=>putK acc kv.1 kv.2) kvs
theorem KV.merge:∀ {more:List (Key × V)} {rs:List (Key × Value)} {kvs:List (Key × V)} {vs:List (Key × Value)},KV more rs->KV kvs vs->KV (gb kvs more) (merged vs rs):=by
 intro more rs kvs vs r
 unfold KV at r
 induction r generalizing kvs vs with
 | nil=>intro q; exact q
 | @cons p q ps qs h t ih=>
   intro r0
   have e:KV (putK kvs p.1 p.2) (stored vs q.1 q.2):=by
     have:=r0.put p.1 h.2
     rw [<- h.1]; exact this
   exact ih e
theorem eE:∀ (more kvs:List (Key × V)),(gb kvs more).length<=kvs.length + more.length
 | [],kvs=>by show kvs.length<=kvs.length + 0; omega
 | p :: r,kvs=>by
   have h1:=eE r (putK kvs p.1 p.2)
   have h2:=gj kvs p.1 p.2
   show (gb (putK kvs p.1 p.2) r).length<=_
   rw [List.length_cons]; omega
theorem il {P:Program} {w:World}:∀ {kvs:List (Key × V)} {ws:List (Value × Value)},VV (kvs.map λkv=>(kV kv.1,kv.2)) ws->∃ rs,Carries (bC P w) ws rs/\KV kvs rs
 | [],_,r=>by rw [List.map_nil] at r; cases r; exact ⟨[],True.intro,.nil⟩
 | p :: kvs,_,r=>by
   rw [List.map_cons] at r
   cases r with
   | @cons a b as bs h t=>
     obtain ⟨rs,c,q⟩:=il (P:=P) (w:=w) t
     obtain ⟨b1,b2⟩:=b
     exact ⟨(p.1,b2) :: rs,⟨ng h.1,rfl,c⟩,.cons ⟨rfl,h.2⟩ q⟩
noncomputable def xn (trs:List (TE × TE)):TE:=λσ H Q=>∀ p,H p=none->mU trs σ (upd H p (.dK [])) λps H2=>H2 p=some (.dK [])/\∃ kvs:List (Key × V),ps=kvs.map (λkv=>(kV kv.1,kv.2))/\kvs.length<=15/\Q (.ref p) (upd H2 p (.dK (gb [] kvs)))
theorem sW {X:Cx} {pos:Pos} {keys:List (Option Expr)} {values:List Expr} {trs:List (TE × TE)} (h:PPs X pos keys values trs) (hall:keys.all (·.isSome)=true) (hl:keys.length=values.length) (h0:keys ≠ [])
   (h15:keys.length<=15):PE X (.Dict keys values pos) (xn trs):=by
 intro pins s σ H Q I q
 have hn:=I.hok.fresh (Nat.le_refl s.heap.objs.size)
 have I1:=I.laid (a:=s.heap.objs.size) (o:=.dK []) (h':=s.heap.push { cls:=.type "dict",data:=.dict #[] }) (t':=s.toks) (λ_ _ q=>Heap.get?_push_of_some _ q) (Nat.le_refl _) (lh s.heap I.big)
 refine wpAny_Dict_walk (knd:=bC X.prog X.w) hall hl h0 h15 (thn (h pins _ σ _ _ I1 (q _ hn)) λws s2 ⟨ps,H2,I2,rel,e,kvs,ep,lk,q2⟩=>?_)
 subst ep
 obtain ⟨rs,c,rk⟩:=il (P:=X.prog) (w:=X.w) rel
 obtain ⟨z,hd,vs0,r0,dd⟩:=rX I2.hok e
 cases r0
 refine ⟨rs,c,dd,λh' dd' hs=>⟨.ref s.heap.objs.size,_,?_,rfl,q2⟩⟩
 have hz:(gb [] kvs).length<=sizeLine:=by
   have h1:=eE kvs []
   rw [List.length_nil] at h1
   rw [sizeLine_eq]; omega
 have he:∃ q,h'.get? s.heap.objs.size=some q:=let ⟨q,_,_,hq,_⟩:=dd'; ⟨q,hq⟩
 exact fu I2 (by rw [e]; exact True.intro) hs he (l9 hz hd (rk.merge .nil) dd')
structure M2 (X:Cx) (o:Expr) (m:Str) (apos:Pos) (e f:Expr) (cpos:Pos):Prop where
 base:attributeBase o m X.env (eval o X.env)=eval o X.env
 few:((backTo cpos (starEach [e,f] X.env)).all (λx=>!x.1) && (backToKw cpos (keywordEach [] X.env)).all (λx=>x.1.isSome)
   && decide (([e,f]:List Expr).length + ([]:List Keyword).length + (if ([]:List Keyword).isEmpty then 0 else 1) < 30))=true
 line:(apos.endLine == cpos.line)=true
 trees:backTo cpos (starEach [e,f] X.env)=[(false,eval e X.env),(false,eval f X.env)]
noncomputable def IsD (H:Hp) (a:Addr):Prop:=∃ kvs,Rd H a (.dK kvs)
theorem wG {X:Cx} {pins:List (Addr × Obj)} {σ:St} {H:Hp} {s:Shared} {a:Addr} (I:Inv X pins σ H s) (d:IsD H a) :
   s.TypeIs (.ref a) "dict" /\ (∀ b,Value.ref a=.ref b->∃ ob,s.heap.get? b=some ob/\ob.dict=none)/\(a == sysModules)=false:=by
 obtain ⟨kvs,e⟩:=d
 obtain ⟨_,hd,vs,_,dd⟩:=lj I.hok e
 refine ⟨dd.typeIs,λb q=>?_,hd⟩
 cases q
 obtain ⟨ob,_,_,h1,h2,_⟩:=dd
 exact ⟨ob,h1,h2.2.1⟩
section
variable {X:Cx} {pins:List (Addr × Obj)} {σ:St} {H:Hp} {s:Shared} {a:Addr} {y d:V} {u r:Value} {o:Option V} {A:Around} {E:Value->Shared->Prop}
theorem wj {Q:Value->Shared->Prop} (hu:A.units + 1 < cLine) (I:Inv X pins σ H s) (g:mX H a y o) (ry:RelV y u) (rd:RelV d r) (h:∀ w' s',Inv X pins σ H s'->RelV (o.getD d) w'->Q w' s') :
   wpAny (model X.prog X.w) A (call (.builtin "dict.get") [.ref a,u,r]) Q E s:=by
 obtain ⟨kvs,k,e,ey,l⟩:=g
 subst ey
 obtain ⟨z,hd,vs,rel,dd⟩:=lj I.hok e
 refine call_meetsIn PySem.F.slot_dict_get dd.typeIs PySem.F.entry_dict_get (PySem.F.args_dict_get_3 _ _ _) (meets_dict_get_default (bC X.prog X.w) a (ng ry) hd r) ⟨_,dd.mapOf,h _ _ (I.tok _) ?_⟩
 rw [l]
 exact (rel.val k).getD rd
end
noncomputable def wW (td ty tx:TE):TE:=λσ H Q=>td σ H λx H1=>∃ a,x=.ref a/\IsD H1 a/\ty σ H1 λy H2=>tx σ H2 λz H3=>∃ o,mX H3 a y o/\Q (o.getD z) H3
section
variable {X:Cx} {o e f:Expr} {apos cpos:Pos} {td ty tx:TE}
theorem pU (hu:X.A.units + 1 < cLine) (ho:PE X o td) (he:PE X e ty) (hf:PE X f tx) (m:M2 X o "get" apos e f cpos):PE X (.Call (.Attribute o "get" apos) [e,f] [] cpos) (wW td ty tx):=by
 intro pins s σ H Q I h
 refine wpAny_Call_method m.base m.few m.line PySem.F.plainAttrs_dict PySem.F.slot_dict_get PySem.F.type_dict_get (thn (ho pins s σ H _ I h) λu s1 ⟨x,H1,I1,rx,a,ex,d,q1⟩=>?_)
 subst ex
 obtain rfl:u=Value.ref a:=rx
 obtain ⟨t1,t2,_⟩:=wG I1 d
 refine ⟨t1,t2,?_⟩
 rw [m.trees]
 refine Calls.callWith_builtin rfl (Calls.evalArgs_plain (Calls.spliced_cons (thn (he pins s1 σ H1 _ I1 q1) λiv s2 ⟨y,H2,I2,ry,q2⟩=>
   Calls.spliced_cons (thn (hf pins s2 σ H2 _ I2 q2) λfv s3 ⟨z,H3,I3,rz,ov,g,q3⟩=>Calls.spliced_nil ?_))))
 exact wj hu I3 g ry rz λw' s4 I4 rw'=>⟨_,H3,I4,rw',q3⟩
end
end L2
namespace L2
open PySem PySem.Spec PyProof.Rows PySem.SeqAt
section
variable {P:Program} {w:World} {A:Around} {E:Value->Shared->Prop} {s:Shared}
noncomputable def HK (P:Program) (w:World) (A:Around) (h:Heap) (v:Value) (x:Int) (d:Nat):Prop:=
 ∀ (s:Shared) (E:Value->Shared->Prop) (Q:Int->Shared->Prop),s.heap=h->Q x { s with toks:=s.toks + d }->wpAny (model P w) A (pyHash v) Q E s
end
noncomputable abbrev x6:=Int × Int × Bool
noncomputable def isN (h:Heap) (k:x6) (a:Addr):Prop:=∃ t c t',IsTup h a #[.int k.1 t,.ref c]/\IsTup h c #[.int k.2.1 t',.bool k.2.2]
theorem nE {h:Heap} {a:Addr} {x y:Array Value} (p:IsTup h a x) (q:IsTup h a y):x=y:=by
 obtain ⟨o,ho,_,n,hd⟩:=p
 obtain ⟨o',ho',_,n',hd'⟩:=q
 rw [ho] at ho'; cases ho'
 rw [hd] at hd'; cases hd'; rfl
theorem isN.inj {h:Heap} {a:Addr} {x y:x6} (p:isN h x a) (q:isN h y a):x=y:=by
 obtain ⟨t,c,t',h1,h2⟩:=p
 obtain ⟨u,d,u',g1,g2⟩:=q
 have e:=nE h1 g1
 simp only [Array.mk.injEq,List.cons.injEq,Value.int.injEq,Value.ref.injEq,and_true] at e
 obtain ⟨⟨e1,_⟩,rfl⟩:=e
 have e:=nE h2 g2
 simp only [Array.mk.injEq,List.cons.injEq,Value.int.injEq,Value.bool.injEq,and_true] at e
 obtain ⟨⟨e2,_⟩,e3⟩:=e
 obtain ⟨_,_,_⟩:=x
 obtain ⟨_,_,_⟩:=y
 simp_all
structure IK (P:Program) (w:World) (K:Type) [DecidableEq K] where
 is:Heap->K->Value->Prop
 hash:K->Int
 draws:K->Nat
 dep:Nat
 inj:∀ {h:Heap} {v:Value} {x y:K},is h x v->is h y v->x=y
 keeps:∀ {h h':Heap} {k:K} {v:Value} {d:Addr} {o:Obj} {es ep},is h k v->h.get? d=some o->o.data=.dict es ep->Heap.SameBut d h h'->is h' k v
 hk:∀ {A:Around} {h:Heap} {k:K} {v:Value},is h k v->A.units + dep < cLine->HK P w A h v (hash k) (draws k)
 eq:∀ {A:Around} {s:Shared} {x y:K} {u v:Value},is s.heap x u->is s.heap y v->A.units + dep < cLine->EqAt A s u v (decide (x=y))
 quiet:∀ {s:Shared} {k:K} {v:Value} {n:Nat},dep < n->is s.heap k v->∀ A E Q,Q true s->wpAny (model P w) A (eqIsQuiet n v) Q E s
section
variable {P:Program} {w:World}
variable {K K':Type} [DecidableEq K] [DecidableEq K']
noncomputable def kindOf (a:IK P w K) (hd:a.dep<=7):HeapKind P w K where
 is:=λh k p=>a.is h k (.ref p)
 hash:=a.hash
 draws:=a.draws
 room:=λA=>A.units + 8 < cLine
 inj:=a.inj
 keeps:=a.keeps
 pyHash:=λ{A E s k p Q} hu hk h=>a.hk hk (by omega) s E Q rfl h
 eqBool:=λ{A E s x y p p' Q} hu hx hy h=>a.eq hx hy (by omega) _ _ _ _ h
 quiet:=λ{A E s k p Q} hk h=>a.quiet (by omega) hk A E Q h
end
inductive gY {K:Type} (R:K->Value->Prop):List K->List Value->Prop where
 | nil:gY R [] []
 | cons {x:K} {v:Value} {xs:List K} {vs:List Value} (h:R x v) (r:gY R xs vs):gY R (x :: xs) (v :: vs)
section
variable {K:Type}
theorem gY.mono {R S:K->Value->Prop} (f:∀ x v,R x v->S x v):∀ {xs:List K} {vs:List Value},gY R xs vs->gY S xs vs
 | _,_,.nil=>.nil
 | _,_,.cons h r=>.cons (f _ _ h) (r.mono f)
theorem gY.inj {R:K->Value->Prop} (f:∀ x y v,R x v->R y v->x=y):∀ {xs ys:List K} {vs:List Value},gY R xs vs->gY R ys vs->xs=ys
 | _,_,_,.nil,.nil=>rfl
 | _,_,_,.cons h r,.cons g q=>by rw [f _ _ _ h g,r.inj f q]
theorem gY.mem {R:K->Value->Prop}:∀ {xs:List K} {vs:List Value},gY R xs vs->∀ v ∈ vs,∃ x,R x v
 | _,_,.nil,_,h=>nomatch h
 | _,_,.cons h r,v,hv=>(List.mem_cons.mp hv).elim (λz=>⟨_,z ▸ h⟩) (r.mem v)
end
section
variable {P:Program} {w:World} {K:Type} [DecidableEq K]
end
end L2
namespace Ev
open PySem PySem.Spec PyProof.Rows L2
structure KD (K:Type) [DecidableEq K] where
 ik:∀ (P:Program) (w:World),IK P w K
 dep:Nat
 dep_ok:∀ P w,(ik P w).dep=dep
 toD:K->D
 den:∀ {X:Cx} {pins:List (Addr × Obj)} {σ:L2.St} {H:Hp} {s:Shared} {v:V} {u:Value} {k:K},Inv X pins σ H s->Den X.K H v (toD k)->RelV v u->(ik X.prog X.w).is s.heap k u
section
variable {K K':Type} [DecidableEq K] [DecidableEq K']
noncomputable abbrev NEs (K:Type):=List (K × Addr × Value)
noncomputable def kd (a:KD K) (hd:a.dep<=7) (P:Program) (w:World):HeapKind P w K:=kindOf (a.ik P w) (by rw [a.dep_ok]; exact hd)
variable {a:KD K} {hd:a.dep<=7}
noncomputable def dNk (a:KD K) (hd:a.dep<=7) (P:Program) (w:World) (p:Addr) (xs:NEs K):HO:=.ext λh=>(p == sysModules)=false/\∃ o es ep,h.get? p=some o/\o.ExactDict/\o.data=.dict es ep/\es.toList=xs.map (entryOfKey (kd a hd P w))/\(xs.map (·.1)).Nodup
structure dF (a:KD K) (hd:a.dep<=7) (P:Program) (w:World) (F:PySem.W.Frag) (H:Hp) (d:Addr) (xs:NEs K):Prop where
 at_:H d=some (dNk a hd P w d xs)
 key:∀ x ∈ xs,Den F H (.ref x.2.1) (a.toD x.1)
variable {X:Cx} {pins:List (Addr × Obj)} {σ:L2.St} {H:Hp} {s:Shared} {d b:Addr} {xs:NEs K} {k:K} {A:Around} {E:Value->Shared->Prop}
theorem key_is (I:Inv X pins σ H s) (q:Den X.K H (.ref b) (a.toD k)):(kd a hd X.prog X.w).is s.heap k b:=a.den I q rfl
theorem iX (I:Inv X pins σ H s) (D:dF a hd X.prog X.w X.K H d xs):(d == sysModules)=false/\s.heap.DictOfH (kd a hd X.prog X.w) d xs:=by
 obtain ⟨⟨h0,o,es,ep,h1,h2,h3,h4,h5⟩,_⟩:=(show bo X.prog X.w H s.heap d (dNk a hd X.prog X.w d xs) from I.hok d _ D.at_)
 exact ⟨h0,o,es,ep,h1,h2,h3,h4,λx hx=>key_is I (D.key x hx),h5⟩
noncomputable def yb (a:KD K) (hd:a.dep<=7) (P:Program) (w:World) (F:PySem.W.Frag) (td ty:TE):TE:=λσ H Q=>td σ H λx H1=>ty σ H1 λy H2=>∃ d b k xs p v,x=.ref d/\y=.ref b/\dF a hd P w F H2 d xs/\Den F H2 (.ref b) (a.toD k)/\atKey xs k=some p/\RelV v p.2/\Q v H2
noncomputable def xq (a:KD K) (hd:a.dep<=7) (P:Program) (w:World) (F:PySem.W.Frag) (ty td:TE):TE:=λσ H Q=>ty σ H λy H1=>td σ H1 λx H2=>∃ d b k xs,x=.ref d/\y=.ref b/\dF a hd P w F H2 d xs/\Den F H2 (.ref b) (a.toD k)/\Q (.bl (!(atKey xs k).isSome)) H2
noncomputable def xA (a:KD K) (hd:a.dep<=7) (P:Program) (w:World) (F:PySem.W.Frag) (td ty tv:TE):TS:=λD σ H=>tv σ H λv H1=>td σ H1 λx H2=>ty σ H2 λy H3=>∃ d b k xs,x=.ref d/\y=.ref b/\dF a hd P w F H3 d xs/\Den F H3 (.ref b) (a.toD k)/\xs.length<=sizeLine/\∀ u,RelV v u->D.nx σ (upd H3 d (dNk a hd P w d (storedH xs k b u)))
noncomputable def xw (a:KD K) (hd:a.dep<=7) (P:Program) (w:World):TE:=λ_ H Q=>∀ p,H p=none->Q (.ref p) (upd H p (dNk a hd P w p []))
variable {o i e value:Expr} {pos pos':Pos} {td ty tv:TE}
theorem kH (hu:X.A.units + 16 < cLine) (ho:PE X o td) (hi:PE X i ty) (hs:pg i):PE X (.Subscript o i pos) (yb a hd X.prog X.w X.K td ty):=by
 intro pins s σ H Q I h
 refine oo PySem.F.slot_dict_getitem.lookup hs (thn (ho pins s σ H _ I h) λu s1 ⟨x,H1,I1,rx,q1⟩=>thn (hi pins s1 σ H1 _ I1 q1) λiv s2 ⟨y,H2,I2,ry,d,b,k,xs,p,v,ex,ey,D,g,hp,rv,q2⟩=>?_)
 subst ex ey
 obtain rfl:u=Value.ref d:=rx
 obtain rfl:iv=Value.ref b:=ry
 obtain ⟨_,dd⟩:=iX I2 D
 exact ⟨dd.typeIs,wpAny_getItem_heap (show X.A.units + 1 + 8 < cLine by omega) (key_is I2 g) dd hp ⟨v,H2,I2.tok _,rv,q2⟩⟩
theorem ow (hu:X.A.units + 16 < cLine) (hi:PE X i ty) (ho:PE X o td):PC X .NotIn i o (xq a hd X.prog X.w X.K ty td):=by
 intro pins s σ H Q I h
 refine thn (hi pins s σ H _ I h) λiv s1 ⟨y,H1,I1,ry,q1⟩=>thn (ho pins s1 σ H1 _ I1 q1) λu s2 ⟨x,H2,I2,rx,d,b,k,xs,ex,ey,D,g,q2⟩=>?_
 subst ex ey
 obtain rfl:u=Value.ref d:=rx
 obtain rfl:iv=Value.ref b:=ry
 obtain ⟨hd',dd⟩:=iX I2 D
 exact wpAny_notIn_heap (show X.A.units + 1 + 8 < cLine by omega) (key_is I2 g) hd' dd ⟨.bl _,H2,I2.tok _,rfl,q2⟩
theorem n5 (hu:X.A.units + 16 < cLine) (ho:PE X o td) (hi:PE X i ty) (hv:PE X value tv) (hs:swapsWith value (some (.Subscript o i pos')) pos.line X.env=pure false) :
   PS X (.Assign [.Subscript o i pos'] value pos) (xA a hd X.prog X.w X.K td ty tv):=by
 intro pins s σ H D I h
 refine wpAny_Assign_Subscript (thn (hv pins s σ H _ I h) λr s1 ⟨v,H1,I1,rv,q1⟩=>thn (ho pins s1 σ H1 _ I1 q1) λu s2 ⟨x,H2,I2,rx,q2⟩=>thn (hi pins s2 σ H2 _ I2 q2) λiv s3 ⟨y,H3,I3,ry,d,b,k,xs,ex,ey,D',g,hl,q3⟩=>?_) hs
 subst ex ey
 obtain rfl:u=Value.ref d:=rx
 obtain rfl:iv=Value.ref b:=ry
 obtain ⟨hd',dd⟩:=iX I3 D'
 refine wpAny_setItem_heap (hsz:=hl) (show X.A.units + 1 + 8 < cLine by omega) (key_is I3 g) dd λh' dd' hs=>⟨σ,_,?_,q3 r rv⟩
 obtain ⟨q,es,ep,hq,h2,h3,h4,_,h5⟩:=dd'
 refine fu I3 (by rw [D'.at_]; exact True.intro) hs ⟨q,hq⟩ ⟨⟨hd',q,es,ep,hq,h2,h3,h4,h5⟩,⟨q,hq⟩,λa1 a2 ⟨z0,o,es,ep,z1,z2⟩ hk=>⟨z0,o,es,ep,hk o z1,z2⟩⟩
theorem nc:PE X (.Dict [] [] pos) (xw a hd X.prog X.w):=λpins s σ H Q I h=>
 wpAny_Dict_empty ⟨.ref s.heap.objs.size,_,I.laid (a:=s.heap.objs.size) (o:=dNk a hd X.prog X.w s.heap.objs.size []) (t':=s.toks) (λ_ _ q=>Heap.get?_push_of_some _ q) (Nat.le_refl _)
   ⟨⟨beq_eq_false_iff_ne.mpr (Ne.symm (Nat.ne_of_lt I.big)),_,#[],0,Heap.get?_push_size _ rfl,⟨rfl,rfl,rfl⟩,rfl,rfl,List.nodup_nil⟩,⟨_,Heap.get?_push_size _ rfl⟩,λa1 a2 ⟨z0,o,es,ep,z1,z2⟩ hk=>⟨z0,o,es,ep,hk o z1,z2⟩⟩,rfl,h _ (I.hok.fresh (Nat.le_refl _))⟩
end
end Ev
namespace Hy
open PySem PySem.Spec PyProof.Rows L2
open Ev (D Den ax KD NEs dNk dF)
section
variable {K:Type} [DecidableEq K]
inductive EnK (a:KD K) (F:PySem.W.Frag) (G:Hp):NEs K->List (K × D)->Prop where
 | nil:EnK a F G [] []
 | cons {k:K} {b:Addr} {u:Value} {v:V} {x:D} {xs:NEs K} {m:List (K × D)} (hk:Den F G (.ref b) (a.toD k)) (hr:RelV v u) (hv:Den F G v x) (r:EnK a F G xs m):EnK a F G ((k,b,u) :: xs) ((k,x) :: m)
variable {a:KD K} {F:PySem.W.Frag} {G G':Hp}
theorem EnK.mono (e:aq G G'):∀ {xs:NEs K} {m:List (K × D)},EnK a F G xs m->EnK a F G' xs m
 | _,_,.nil=>.nil
 | _,_,.cons h1 h2 h3 r=>.cons (h1.mono e) h2 (h3.mono e) (r.mono e)
theorem EnK.key:∀ {xs:NEs K} {m:List (K × D)},EnK a F G xs m->∀ x ∈ xs,Den F G (.ref x.2.1) (a.toD x.1)
 | _,_,.nil,_,h=>nomatch h
 | _,_,.cons h _ _ r,x,hx=>(List.mem_cons.mp hx).elim (λz=>z ▸ h) (r.key x)
end
end Hy
namespace Hy
open PySem PySem.Spec PyProof.Rows L2
open Ev (D Den ax KD NEs dNk dF av kH nc n5 ow)
section
variable {K:Type} [DecidableEq K] {a:KD K} {hd:a.dep<=7} {X:Cx} {C:Bool} {τ:List Sl} {x:D} {b e ix:Expr} {pos p q:Pos} {k:Nat} {N:Po} {rest:List Stmt} {m:List (K × D)} {key:K}
end
section
variable {K:PySem.W.Frag} {A:Addr->Prop} {H₀ H H':Hp} {τ:List Sl} {B:Nat->List Addr} {σ:L2.St}
theorem Sta.x5 (S:Sta K A H₀ τ B σ H) {i:Nat} {a:Addr} {E E':Ex} {o':HO} (hi:τ[i]?=some (.x E)) (hB:B i=[a]) (d:E'.p K (hd H (own A B)) o' a):Sta K A H₀ (τ.set i (.x E')) B σ (upd H a o'):=by
 have ha:own A B a:=.inr ⟨i,by rw [hB]; exact List.mem_singleton.mpr rfl⟩
 have ne:∀ b,b ≠ a->upd H a o' b=H b:=λb h=>aF h
 have sm:aq (hd H (own A B)) (hd (upd H a o') (own A B)):=λb o z=>by
   obtain ⟨z1,z2⟩:=aG.mp z
   exact aG.mpr ⟨z1,by rw [ne b (λe=>z1 (e ▸ ha))]; exact z2⟩
 have f0:H₀ a=none:=S.fr i a (by rw [hB]; exact List.mem_singleton.mpr rfl)
 have hs:aq H₀ (upd H a o'):=λb o z=>by rw [ne b (λe=>by rw [e,f0] at z; cases z)]; exact S.same b o z
 refine ⟨hs,by rw [List.length_set,S.len],λj t hj=>?_,S.fr,S.uq,S.ad,λj b hb=>?_⟩
 · by_cases ej:j=i
   · subst ej
     have hl:=(List.getElem?_eq_some_iff.mp hi).1
     rw [List.getElem?_set_self hl] at hj
     cases hj
     obtain ⟨a',o,e1,e2,_,_⟩:=S.sl j _ hi
     rw [hB] at e1
     cases e1
     exact ⟨a,o',hB,e2,aL,E'.mono sm d⟩
   · rw [List.getElem?_set_ne (λz=>ej z.symm)] at hj
     have off:∀ b ∈ B j,b ≠ a:=λb hb e=>ej (S.uq j i a (e ▸ hb) (by rw [hB]; exact List.mem_singleton.mpr rfl))
     have q:=S.sl j t hj
     cases t with
     | un=>exact q
     | d x=>obtain ⟨z,u,e,d⟩:=q; exact ⟨z,u,e,d.mono sm⟩
     | o zs=>
       obtain ⟨c,ws,z1,z2,z3,z4⟩:=q
       exact ⟨c,ws,z1,z2,by rw [ne c (off c (by rw [z1]; exact List.mem_singleton.mpr rfl))]; exact z3,z4.mono sm⟩
     | n t=>
       obtain ⟨z0,u,z1,z2⟩:=q
       exact ⟨z0,u,z1,z2.frame sm λb hb=>ne b (off b hb)⟩
     | x E=>
       obtain ⟨c,o,z1,z2,z3,z4⟩:=q
       exact ⟨c,o,z1,z2,by rw [ne c (off c (by rw [z1]; exact List.mem_singleton.mpr rfl))]; exact z3,E.mono sm z4⟩
 · by_cases e:b=a
   · subst e; exact ⟨_,aL⟩
   · rw [ne b e]; exact S.bd j b hb
end
section
variable {K:Type} [DecidableEq K] {a:KD K} {hd:a.dep<=7} {X:Cx} {C:Bool} {τ:List Sl} {x:D} {b e ix:Expr} {pos p q sp:Pos} {k:Nat} {N:Po} {rest:List Stmt} {m:List (K × D)} {key:K}
end
end Hy
namespace Ev
open PySem PySem.Spec PyProof.Rows L2
section
variable {K:Type} [DecidableEq K] {a:KD K} {hd:a.dep<=7} {X:Cx} {o i e f:Expr} {pos apos cpos:Pos} {td ty tx tk tv:TE}
noncomputable def vZ (a:KD K) (hd:a.dep<=7) (P:Program) (w:World) (F:PySem.W.Frag) (td ty tx:TE):TE:=λσ H Q=>td σ H λx H1=>∃ d φ,x=.ref d/\H1 d=some (.ext φ)/\(∀ h,φ h->∃ o,h.get? d=some o/\o.ExactDict)/\ty σ H1 λy H2=>tx σ H2 λz H3=>∃ b k xs,y=.ref b/\dF a hd P w F H3 d xs/\Den F H3 (.ref b) (a.toD k) /\
 ((∃ p v,atKey xs k=some p/\RelV v p.2/\Q v H3)\/(atKey xs k=none/\Q z H3))
theorem sC (hu:X.A.units + 16 < cLine) (ho:PE X o td) (he:PE X e ty) (hf:PE X f tx) (m:M2 X o "get" apos e f cpos):PE X (.Call (.Attribute o "get" apos) [e,f] [] cpos) (vZ a hd X.prog X.w X.K td ty tx):=by
 intro pins s σ H Q I h
 refine wpAny_Call_method m.base m.few m.line PySem.F.plainAttrs_dict PySem.F.slot_dict_get PySem.F.type_dict_get (thn (ho pins s σ H _ I h) λu s1 ⟨x,H1,I1,rx,d,φ,ex,hφ,hx,q1⟩=>?_)
 subst ex
 obtain rfl:u=Value.ref d:=rx
 obtain ⟨ob,g1,g2⟩:=hx _ (show bo X.prog X.w H1 s1.heap d (.ext φ) from I1.hok d _ hφ).1
 refine ⟨⟨ob,g1,g2.1⟩,λc e=>(by cases e; exact ⟨ob,g1,g2.2.1⟩),?_⟩
 rw [m.trees]
 refine Calls.callWith_builtin rfl (Calls.evalArgs_plain (Calls.spliced_cons (thn (he pins s1 σ H1 _ I1 q1) λiv s2 ⟨y,H2,I2,ry,q2⟩=>
   Calls.spliced_cons (thn (hf pins s2 σ H2 _ I2 q2) λfv s3 ⟨z,H3,I3,rz,b,k,xs,ey,D,g,q3⟩=>Calls.spliced_nil ?_))))
 subst ey
 obtain rfl:iv=Value.ref b:=ry
 obtain ⟨hd',dd⟩:=iX I3 D
 refine call_meetsIn PySem.F.slot_dict_get dd.typeIs PySem.F.entry_dict_get (PySem.F.args_dict_get_3 _ _ _) (meetsH_dict_get_default (kd a hd X.prog X.w) d b hd' fv) ⟨show X.A.units + 1 + 8 < cLine by omega,k,xs,key_is I3 g,dd,?_⟩
 rcases q3 with ⟨p,v,ha,rv,q⟩ | ⟨ha,q⟩
 · rw [ha]
   exact ⟨v,H3,I3.tok _,rv,q⟩
 · rw [ha]
   exact ⟨z,H3,I3.tok _,rz,q⟩
theorem vJ (hu:X.A.units + 16 < cLine):OpR X (compareOp .In) (λy x H Q=>∃ d b k xs,x=.ref d/\y=.ref b/\dF a hd X.prog X.w X.K H d xs/\Den X.K H (.ref b) (a.toD k)/\Q (.bl (atKey xs k).isSome) H):=by
 intro pins s σ H x y v u Q I rx ry h
 obtain ⟨d,b,k,xs,rfl,rfl,D,g,q⟩:=h
 cases rx
 cases ry
 obtain ⟨hd',dd⟩:=iX I D
 exact wpAny_in_heap (show X.A.units + 1 + 8 < cLine by omega) (key_is I g) hd' dd ⟨.bl _,H,I.tok _,rfl,q⟩
theorem tF (hu:X.A.units + 16 < cLine):OpR X (compareOp .NotIn) (λy x H Q=>∃ d b k xs,x=.ref d/\y=.ref b/\dF a hd X.prog X.w X.K H d xs/\Den X.K H (.ref b) (a.toD k)/\Q (.bl (!(atKey xs k).isSome)) H):=by
 intro pins s σ H x y v u Q I rx ry h
 obtain ⟨d,b,k,xs,rfl,rfl,D,g,q⟩:=h
 cases rx
 cases ry
 obtain ⟨hd',dd⟩:=iX I D
 exact wpAny_notIn_heap (show X.A.units + 1 + 8 < cLine by omega) (key_is I g) hd' dd ⟨.bl _,H,I.tok _,rfl,q⟩
noncomputable def xr (a:KD K) (hd:a.dep<=7) (P:Program) (w:World) (F:PySem.W.Frag) (tk tv:TE):TE:=λσ H Q=>∀ p,H p=none->tk σ (upd H p (dNk a hd P w p [])) λy H1=>tv σ H1 λv H2=>∃ b k,y=.ref b/\H2 p=some (dNk a hd P w p [])/\Den F H2 (.ref b) (a.toD k)/\∀ u,RelV v u->Q (.ref p) (upd H2 p (dNk a hd P w p (storedH [] k b u)))
theorem sX (hu:X.A.units + 16 < cLine) (hk:PE X e tk) (hv:PE X f tv):PE X (.Dict [some e] [f] pos) (xr a hd X.prog X.w X.K tk tv):=λpins s σ H Q I h=>by
 refine wpAny_Dict_any rfl rfl (by simp) (show 1<=15 by decide) (pairTrees_cons_walk ?_)
 have I0:=I.laid (a:=s.heap.objs.size) (o:=dNk a hd X.prog X.w s.heap.objs.size []) (t':=s.toks) (h':=s.heap.push { cls:=.type "dict",data:=.dict #[] }) (λ_ _ q=>Heap.get?_push_of_some _ q) (Nat.le_refl _)
   ⟨⟨beq_eq_false_iff_ne.mpr (Ne.symm (Nat.ne_of_lt I.big)),_,#[],0,Heap.get?_push_size _ rfl,⟨rfl,rfl,rfl⟩,rfl,rfl,List.nodup_nil⟩,⟨_,Heap.get?_push_size _ rfl⟩,λa1 a2 ⟨z0,o,es,ep,z1,z2⟩ hk=>⟨z0,o,es,ep,hk o z1,z2⟩⟩
 refine thn (hk _ _ σ _ _ I0 (h _ (I.hok.fresh (Nat.le_refl _)))) λkv s1 ⟨y,H1,I1,ry,q1⟩=>thn (hv _ s1 σ H1 _ I1 q1) λvv s2 ⟨v,H2,I2,rv,b,k,ey,hp,g,q2⟩=>pairTrees_nil_walk ?_
 subst ey
 obtain rfl:kv=Value.ref b:=ry
 have D:dF a hd X.prog X.w X.K H2 s.heap.objs.size []:=⟨hp,λ_ z=>nomatch z⟩
 obtain ⟨hd',dd⟩:=iX I2 D
 unfold storeAll
 rw [List.forIn_cons]
 refine wpAny_bind (wpAny_bind (wpAny_dictSet_heap (hsz:=Nat.zero_le _) (show X.A.units + 8 < cLine by omega) (key_is I2 g) dd λh' dd' hs=>wpAny_pure ?_))
 dsimp only
 rw [List.forIn_nil]
 refine wpAny_pure ?_
 obtain ⟨q,es,ep,hq,h2,h3,h4,_,h5⟩:=dd'
 refine ⟨.ref s.heap.objs.size,_,fu (ob:=dNk a hd X.prog X.w s.heap.objs.size (storedH [] k b vv)) I2 (by rw [hp]; exact True.intro) hs ⟨q,hq⟩ ⟨⟨hd',q,es,ep,hq,h2,h3,h4,h5⟩,⟨q,hq⟩,λa1 a2 ⟨z0,o,es,ep,z1,z2⟩ hk=>⟨z0,o,es,ep,hk o z1,z2⟩⟩,rfl,q2 vv rv⟩
end
end Ev
namespace Hy
open PySem PySem.Spec PyProof.Rows L2
open Ev (D Den ax KD NEs dNk dF Bx av kH sC sX vJ tF)
section
variable {K:Type} [DecidableEq K] {a:KD K} {hd:a.dep<=7} {X:Cx} {C:Bool} {τ:List Sl} {x y:D} {b e f o ix:Expr} {pos p q apos cpos:Pos} {k:Nat} {N:Po} {rest:List Stmt} {m:List (K × D)} {key:K}
end
end Hy
namespace Ev
open PySem PySem.Spec PyProof.Rows L2
open PySem.Builtin.Range (rangeFitsLong rangeSize)
noncomputable def fq (n:Int):Obj:={ cls:=.type "range_iterator",data:=.fields #[rawInt (0 + (rangeSize 0 n 1 - 1) * 1),rawInt (rangeSize 0 n 1),rawInt (-1)] }
theorem fits_of {i:Int} (h1:-(2 ^ 62)<=i) (h2:i<=2 ^ 62):rangeFitsLong i=true:=by
 unfold rangeFitsLong
 rw [Bool.and_eq_true,decide_eq_true_iff,decide_eq_true_iff]
 omega
theorem qz {n:Int} (h:0<=n):rangeSize 0 n 1=n:=by
 rw [rangeSize_one]
 split <;> omega
theorem vH {n:Int} (h0:0<=n) (h1:n < 2 ^ 62):(rangeFitsLong 0 && rangeFitsLong n && rangeFitsLong 1 && rangeFitsLong (-1) && rangeFitsLong (0 - 1) && rangeFitsLong (rangeSize 0 n 1))=true:=by
 rw [qz h0,fits_of (i:=n) (by omega) (by omega)]
 decide
theorem pD (r:Addr) (n:Int) (t u v:Tok) (hs:(rangeFitsLong 0 && rangeFitsLong n && rangeFitsLong 1 && rangeFitsLong (-1) && rangeFitsLong (0 - 1) && rangeFitsLong (rangeSize 0 n 1))=true) :
   Meets (Builtin.«range.__reversed__» ⟨[.ref r],[]⟩) (λ_ R s=>IsRange s.heap r 0 n 1 t u v/\R (.ok (.ret (Value.ref s.heap.objs.size))) { s with heap:=s.heap.push (fq n),toks:=s.toks }):=
 .of_wp λprog w A R s h=>by
   obtain ⟨hp,g,d,tk,os⟩:=s
   obtain ⟨hl,h⟩:=h
   have hs':(!(rangeFitsLong 0 && rangeFitsLong n && rangeFitsLong 1 && rangeFitsLong (-1) && rangeFitsLong (0 - 1) && rangeFitsLong (rangeSize 0 n 1)))=false:=by rw [hs]; rfl
   wp_walk
   rw [if_neg (by rw [hs]; decide),if_pos hs]
   exact wpAny_bind (wpAny_newObj_type (wpAny_pure ⟨_,rfl,h⟩))
section
variable {prog:Program} {w:World} {A:Around} {E:Value->Shared->Prop} {s:Shared}
theorem hZ {r:Addr} {n:Int} {t u v:Tok} {Q:Value->Shared->Prop} (hr:IsRange s.heap r 0 n 1 t u v) (h0:0<=n) (h1:n < 2 ^ 62)
   (h:Q (.ref s.heap.objs.size) { s with heap:=s.heap.push (fq n) }):wpAny (model prog w) A (call (.builtin "range.__reversed__") [.ref r]) Q E s:=
 call_meets F.slot_range_reversed ⟨_,hr,rfl⟩ F.entry_range_reversed (F.args_range_reversed_1 _) (pD r n t u v (vH h0 h1)) ⟨hr,h⟩
theorem jV {r:Addr} {n:Int} {t u v:Tok} {Q₁:Value->Shared->Prop} (hr:IsRange s.heap r 0 n 1 t u v) (h0:0<=n) (h1:n < 2 ^ 62)
   (h:Q₁ (.ref s.heap.objs.size) { s with heap:=s.heap.push (fq n) }) :
   codeAny (model prog w) A (.call (.builtin "reversed.__new__") ⟨[.type "reversed",.ref r],[]⟩) (wants Q₁ E) s:=by
 have hT:s.TypeIs (.ref r) "range":=⟨_,hr,rfl⟩
 refine codeAny_of_tree ?_
 refine wpAny_bind (wpAny_of_eq (F.newCall_reversed_1 _) (wpAny_pure ⟨plainId_quiet F.plain_reversed_new _,codeAny_builtin F.entry_reversed_new ?_⟩))
 rw [Around.under_plainId F.plain_reversed_new _]
 unfold Builtin.«reversed.__new__»
 refine wpAny_bind (wpAny_of_eq (newClass_reversed _) ?_)
 try dsimp only
 refine wpAny_bind (wpAny_of_eq (a:=()) (by first | rfl | kernel_rfl) ?_)
 refine wpAny_bind (wpAny_of_eq (a:=()) (by first | rfl | kernel_rfl) ?_)
 try dsimp only
 refine wpAny_bind (wpAny_specialOf hT F.slot_range_reversed.lookup ?_)
 try dsimp only
 refine wpAny_bind (wpAny_of_eq (F.slot_range_reversed.bind _) ?_)
 try dsimp only
 first
 | rw [if_neg (show ¬ ((Value.builtin "range.__reversed__" == Value.none)=true) from Bool.false_ne_true)]
 | (show wpAny _ _ (if (Value.builtin "range.__reversed__" == Value.none)=true then _ else _) _ _ _; rw [if_neg (show ¬ ((Value.builtin "range.__reversed__" == Value.none)=true) from Bool.false_ne_true)])
 refine wpAny_bind (wpAny_rule ?_)
 refine wpAny_bind (m:=runValue (.call (.builtin "range.__reversed__") ⟨[.ref r],[]⟩)) (show wpAny _ _ (call (.builtin "range.__reversed__") [.ref r]) _ _ _ from hZ hr h0 h1 ?_)
 first
 | exact wpAny_pure h
 | exact wpAny_bind (wpAny_pure (wpAny_pure h))
theorem gy:isSubtype (.type "range_iterator") (.type "reversed")=pure false:=by rw [isSubtype_type]; kernel_rfl
theorem iW {r:Addr} {n:Int} {t u v:Tok} {Q:Value->Shared->Prop} (hr:IsRange s.heap r 0 n 1 t u v) (h0:0<=n) (h1:n < 2 ^ 62)
   (h:Q (.ref s.heap.objs.size) { s with heap:=s.heap.push (fq n) }):wpAny (model prog w) A (call (.type "reversed") [.ref r]) Q E s:=by
 refine callType_other (U:="range_iterator") (Q₁:=λobj s₁=>obj=.ref s.heap.objs.size/\s₁={ s with heap:=s.heap.push (fq n) }) (by decide +kernel) F.create_reversed ⟨_,_,F.mro_reversed⟩ F.made_reversed gy (F.typeCall_reversed_1 _) (jV hr h0 h1 ⟨rfl,rfl⟩) ?_
 rintro obj s₁ ⟨rfl,rfl⟩
 exact ⟨⟨_,Heap.get?_push_size _ rfl,rfl⟩,h⟩
end
noncomputable def Itd (n:Nat):L2.It:=⟨λi _=>i < n,λi H x H'=>H'=H/\x=.int ((n:Int) - 1 - i),λi _=>n<=i⟩
theorem tW {P:Program} {w:World} {K:PySem.W.Frag} {tg:Expr} (it:Addr) (n:Nat):Turn P w K false tg (Itd n) [it] it (λi h=>i<=n/\IsRangeIter h it ((n:Int) - 1 + (i:Nat) * (-1)) ((n:Int) - (i:Nat)) (-1)) where
 mem:=by simp
 obj:=λi h st b hb=>by
   have e:b=it:=by simpa using hb
   subst e
   exact ⟨_,st.2,λv z=>by
     have z':Data.fields _=Data.cell v:=z
     cases z'⟩
 keep:=λi h h' st k=>⟨st.1,k it (by simp) _ st.2⟩
 item:=by
   intro X hP hw hK hc i pins s σ H E I hf st hg
   subst hP hw hK
   obtain ⟨f0,f1,f2,f3,f4,f5⟩:=hf it (by simp)
   have W:=Walks.range (prog:=X.prog) (w:=X.w) (I.ok.hd hc.calm) it ((n:Int) - 1) (-1) n
   refine W.item i s _ _ hg st.2 λv h' tk hv st' kk=>?_
   obtain ⟨t,rfl⟩:=hv
   have I1:Inv X pins σ H { s with heap:=h',toks:=tk }:=I.turned (λb o hb e=>kk b o (by simpa using hb) e) f0 f1 f3 f4 f5
   refine ⟨_,rfl,lV (s:={ s with heap:=h',toks:=tk }) (n:="range_iterator") st' rfl rfl (by decide) ⟨.int ((n:Int) - 1 - i),H,I1,⟨t,?_⟩,⟨rfl,rfl⟩,⟨hg,st'⟩,λb hb=>(hf b hb).1⟩⟩
   rw [Int.mul_neg,Int.mul_one,<- Int.sub_eq_add_neg]
 done:=by
   intro X hP hw hK hc i pins s σ H E I hf st hg
   subst hP hw hK
   obtain ⟨f0,f1,f2,f3,f4,f5⟩:=hf it (by simp)
   have hg:n<=i:=hg
   obtain rfl:i=n:=Nat.le_antisymm st.1 hg
   have W:=Walks.range (prog:=X.prog) (w:=X.w) (I.ok.hd hc.calm) it ((i:Int) - 1) (-1) i
   exact W.done s _ _ st.2 λh' tk kk=>⟨rfl,I.turned (λb o hb e=>kk b o (by simpa using hb) e) f0 f1 f3 f4 f5⟩
 self:=λ_ _ _ _ _ st h=>wpAny_pyIter_rangeiter st.2 h
section
variable {X:Cx} {tg:Expr}
noncomputable def iDn (ta:TA):TI:=λσ H R=>ta σ H λvs H1=>∃ n:Nat,vs=[.int n]/\n < 1000/\R (Itd n) H1
theorem uO {a:Expr} {ta:TA} {p p' pos pos':Pos} (hc:X.calm=true) (hg:Gl X "reversed") (hm:X.mg "reversed" = none) (hg':Gl X "range") (hm':X.mg "range" = none) (ha:PA X [a] ta) (hs':starEach [a] X.env=[(false,eval a X.env)]:=by rfl)
   (hs:starEach [.Call (.Name "range" p') [a] [] pos'] X.env=[(false,eval (.Call (.Name "range" p') [a] [] pos') X.env)]:=by rfl):PI X tg (.Call (.Name "reversed" p) [.Call (.Name "range" p') [a] [] pos'] [] pos) (iDn ta):=by
 intro pins s σ H R I h
 refine Call_ (cZ I hg hm lu (PyProof.Rows.callWith_type1 ?_ hs rfl))
 rw [hs]
 refine Calls.spliced_cons (Call_ (cZ I hg' hm' boot_range (PyProof.Rows.callWith_type1 (thn (ha pos' pins s σ H _ I h) λus s1 ⟨vs,H1,I1,r1,n,e,hn,q⟩=>?_) hs' rfl)))
 subst e
 cases r1 with
 | cons r rr=>
   cases rr
   obtain ⟨t,rfl⟩:=r
   refine call_range_1 (Calls.spliced_nil ?_)
   have I2:Inv X pins σ H1 { s1 with heap:=s1.heap.push { cls:=.type "range",data:=.fields #[.int 0 s1.toks,.int n t,.int 1 (s1.toks + 1)] },toks:=s1.toks + 1 + 1 }:=I1.kept λb o e=>Heap.get?_push_of_some _ e
   refine iW (IsRange.new ..) (by omega) (by omega) ?_
   have z:rangeSize 0 (n:Int) 1=n:=qz (by omega)
   have st:(Heap.push (s1.heap.push { cls:=.type "range",data:=.fields #[.int 0 s1.toks,.int n t,.int 1 (s1.toks + 1)] }) (fq n)).get? (s1.heap.push { cls:=.type "range",data:=.fields #[.int 0 s1.toks,.int n t,.int 1 (s1.toks + 1)] }).objs.size=some (fq n):=Heap.get?_push_size _ rfl
   have st':IsRangeIter (Heap.push (s1.heap.push { cls:=.type "range",data:=.fields #[.int 0 s1.toks,.int n t,.int 1 (s1.toks + 1)] }) (fq n)) (s1.heap.push { cls:=.type "range",data:=.fields #[.int 0 s1.toks,.int n t,.int 1 (s1.toks + 1)] }).objs.size ((n:Int) - 1 + ((0:Nat):Int) * (-1)) ((n:Int) - ((0:Nat):Int)) (-1):=by
     unfold IsRangeIter
     rw [st,fq,z]
     congr 6
     all_goals (simp)
   refine wpAny_pyIter_rangeiter (x:=(n:Int) - 1 + ((0:Nat):Int) * (-1)) (left:=(n:Int) - ((0:Nat):Int)) (step:=-1) st' ?_
   refine ⟨false,_,[(s1.heap.push { cls:=.type "range",data:=.fields #[.int 0 s1.toks,.int n t,.int 1 (s1.toks + 1)] }).objs.size],_,_,H1,rfl,I2.kept (t':=s1.toks + 1 + 1) λb o e=>Heap.get?_push_of_some _ e,.inl hc,tW _ n,⟨Nat.zero_le _,st'⟩,λb hb=>?_,q⟩
   have e:b=(s1.heap.push { cls:=.type "range",data:=.fields #[.int 0 s1.toks,.int n t,.int 1 (s1.toks + 1)] }).objs.size:=by simpa using hb
   subst e
   exact I2.kI (Nat.le_refl _) (I2.hok.fresh (Nat.le_refl _))
end
end Ev
namespace Ev
open PySem PySem.Spec PyProof.Rows L2
noncomputable def cq (kv:List (Int × Int)):List (Key × V):=kv.map λp=>(.inl p.1,.int p.2)
noncomputable def Itk (a:Addr) (o:Obj) (kv:List (Int × Int)):L2.It:=
 ⟨λi H=>i < kv.length/\H a=some (.frz o (.dK (cq kv))),λi H x H'=>H'=H/\∃ p,kv[i]?=some p/\x=.int p.1,λi H=>kv.length<=i/\H a=some (.frz o (.dK (cq kv)))⟩
theorem qu {X:Cx} {pins:List (Addr × Obj)} {σ:L2.St} {H:Hp} {s:Shared} {a:Addr} {o:Obj} {kvs:List (Key × V)} {es:Array DictEntry} {ep:Nat} (I:Inv X pins σ H s) (h:H a=some (.frz o (.dK kvs))) (hd:o.data=.dict es ep) :
   ∃ vs,KV kvs vs/\s.heap.DictAt (bC X.prog X.w) a vs ep:=by
 obtain ⟨e,_,_,vs,rel,o',es',ep',e',r⟩:=(show bo X.prog X.w H s.heap a (.frz o (.dK kvs)) from I.hok a _ h)
 rw [e] at e'; cases e'
 have z:=r.2.1
 rw [hd] at z
 injection z with z1 z2
 subst z1 z2
 exact ⟨vs,rel,o,es,e,r⟩
theorem oP {P:Program} {w:World} {K:PySem.W.Frag} {tg:Expr} (a it:Addr) (o:Obj) (kv:List (Int × Int)) (es:Array DictEntry) (ep:Nat) (hd:o.data=.dict es ep) :
   Turn P w K false tg (Itk a o kv) [it] it (λi h=>i<=kv.length/\h.IsKeyIter it a i kv.length ep) where
 mem:=by simp
 obj:=λi h st b hb=>by
   have e:b=it:=by simpa using hb
   subst e
   obtain ⟨o,e,c,d⟩:=st.2
   exact ⟨o,e,λv z=>by rw [d] at z; cases z⟩
 keep:=λi h h' st k=>⟨st.1,st.2.at λo e=>k it (by simp) o e⟩
 item:=by
   intro X hP hw hK hc i pins s σ H E I hf st hg
   subst hP hw hK
   obtain ⟨hi,ha⟩:=hg
   obtain ⟨f0,f1,f2,f3,f4,f5⟩:=hf it (by simp)
   obtain ⟨vs,rel,dd⟩:=qu I ha hd
   have hl:kv.length=vs.length:=by rw [<- rel.length,cq,List.length_map]
   have st2:=st.2
   rw [hl] at st2
   have hx:vs[i]?=some vs[i]:=by simp [show i < vs.length by omega]
   have kk:=congrArg (λl=>l[i]?) rel.keys
   simp only [cq,List.map_map,List.getElem?_map,hx,List.getElem?_eq_getElem hi,Option.map_some,Function.comp] at kk
   have kk:=Option.some.inj kk
   refine wpAny_pyNext_dict_item st2 dd hx λkey h' hk st' sb=>?_
   have hk:(bC X.prog X.w).is (Sum.inl kv[i].fst) key=true:=by rw [kk]; exact hk
   obtain ⟨t,rfl⟩:=Value.isInt_shape (show Value.isInt _ key=true from hk)
   have I1:Inv X pins σ H { s with heap:=h' }:=I.turned (t':=s.toks) (λb o hb e=>(sb.2 b hb).trans e) f0 f1 f3 f4 f5
   obtain ⟨o',e,c,d⟩:=id st'
   refine ⟨_,rfl,lV (s:={ s with heap:=h' }) e c d (by decide) ⟨.int kv[i].1,H,I1,⟨t,rfl⟩,⟨rfl,_,List.getElem?_eq_getElem hi,rfl⟩,⟨hi,by rw [hl]; exact st'⟩,λb hb=>(hf b hb).1⟩⟩
 done:=by
   intro X hP hw hK hc i pins s σ H E I hf st hg
   subst hP hw hK
   obtain ⟨hi,ha⟩:=hg
   obtain ⟨f0,f1,f2,f3,f4,f5⟩:=hf it (by simp)
   obtain ⟨vs,rel,dd⟩:=qu I ha hd
   have hl:kv.length=vs.length:=by rw [<- rel.length,cq,List.length_map]
   have st2:=st.2
   rw [hl] at st2
   exact wpAny_pyNext_dict_end (I.ok.hd hc.calm) st2 dd (List.getElem?_eq_none (by omega)) λh' eb=>⟨rfl,I.turned (t':=s.toks) (λb o hb e=>eb b o hb e) f0 f1 f3 f4 f5⟩
 self:=λ_ _ _ _ _ st h=>wpAny_pyIter_keyiter st.2 h
section
variable {X:Cx} {tg:Expr}
noncomputable def rE (tl:TE):TI:=λσ H R=>tl σ H λx H1=>∃ a o kv,x=.ref a/\H1 a=some (.frz o (.dK (cq kv)))/\R (Itk a o kv) H1
theorem lW {l:Expr} {tl:TE} (hc:X.calm=true) (hl:PE X l tl):PI X tg l (rE tl):=by
 intro pins s σ H R I h
 refine thn (hl pins s σ H _ I h) λu s1 ⟨x,H1,I1,r1,a,o,kv,ex,ha,q⟩=>?_
 subst ex
 cases r1
 obtain ⟨e,ok⟩:=(show bo X.prog X.w H1 s1.heap a (.frz o (.dK (cq kv))) from I1.hok a _ ha)
 obtain ⟨z,hd,vs,rel,o',es,ep,e',r⟩:=ok
 rw [e] at e'
 cases e'
 refine wpAny_pyIter_dict hd (show s1.heap.DictAt (bC X.prog X.w) a vs ep from ⟨o,es,e,r⟩) ?_
 have hv:vs.length=kv.length:=by rw [<- rel.length,cq,List.length_map]
 refine ⟨false,s1.heap.objs.size,[s1.heap.objs.size],_,_,H1,rfl,I1.kept (t':=s1.toks) λb o e=>Heap.get?_push_of_some _ e,.inl hc,oP a _ o kv es ep r.2.1,⟨Nat.zero_le _,?_⟩,λb hb=>?_,q⟩
 · rw [<- hv]
   exact ⟨_,Heap.get?_push_size _ rfl,rfl,rfl⟩
 · have e:b=s1.heap.objs.size:=by simpa using hb
   subst e
   exact I1.kI (Nat.le_refl _) (I1.hok.fresh (Nat.le_refl _))
end
end Ev
namespace Hy
open PySem PySem.Spec PyProof.Rows L2
open Ev (D Den ax Bx av cq Itk rE lW Itd iDn uO)
noncomputable def er (kv:List (Int × Int)) (k v:Int):List (Int × Int):=
 if (kv.any λp=>decide (p.1=k))=true then kv.map (λp=>if p.1=k then (p.1,v) else p) else kv++[(k,v)]
noncomputable def bH (kv:List (Int × Int)) (k:Int):Option Int:=(kv.find? λp=>decide (p.1=k)).map (·.2)
theorem ui (kv:List (Int × Int)) (k:Int):((cq kv).any λp=>decide (p.1=.inl k))=kv.any λp=>decide (p.1=k):=by
 unfold cq
 rw [List.any_map]
 congr 1
 funext p
 simp
theorem nh (kv:List (Int × Int)) (k v:Int):putK (cq kv) (.inl k) (.int v)=cq (er kv k v):=by
 unfold putK er
 rw [ui]
 by_cases h:(kv.any λp=>decide (p.1=k))=true
 · rw [if_pos h,if_pos h]
   unfold cq
   rw [List.map_map,List.map_map]
   refine List.map_congr_left λp _=>?_
   simp only [Function.comp]
   by_cases z:p.1=k
   · rw [if_pos (congrArg Sum.inl z),if_pos z]
   · rw [if_neg (λy=>z (Sum.inl.inj y)),if_neg z]
 · rw [if_neg h,if_neg h]
   unfold cq
   rw [List.map_append]
   rfl
theorem fB:∀ (kv:List (Int × Int)) (k:Int),cW (cq kv) (.inl k)=(bH kv k).map V.int
 | [],_=>rfl
 | p :: r,k=>by
   unfold bH
   by_cases z:p.1=k
   · rw [List.find?_cons_of_pos (by simp [z])]
     exact bz (p:=(Sum.inl p.1,V.int p.2)) (congrArg Sum.inl z)
   · rw [List.find?_cons_of_neg (by simp [z])]
     exact (bu (p:=(Sum.inl p.1,V.int p.2)) (λy=>z (Sum.inl.inj y))).trans (fB r k)
theorem sH (kv:List (Int × Int)) (k v:Int):(er kv k v).length<=kv.length + 1:=by
 unfold er
 split
 · rw [List.length_map]; omega
 · rw [List.length_append,List.length_cons,List.length_nil]; omega
noncomputable def exZ (m:List (Int × Int)):Ex where
 p:=λ_ _ o _=>o=.dK (cq m)
 mono:=λ_ h=>h
 ext:=λh=>.inr (.inr ⟨_,.inl h⟩)
noncomputable def exF (ob:Obj) (m:List (Int × Int)):Ex where
 p:=λ_ _ o _=>o=.frz ob (.dK (cq m))
 mono:=λ_ h=>h
 ext:=λh=>.inr (.inr ⟨_,.inr ⟨_,h⟩⟩)
noncomputable def bxZ (m:List (Int × Int)):Bx where
 p:=λ_ H d=>∃ o,H d=some (.frz o (.dK (cq m)))
 mono:=λe ⟨o,h⟩=>⟨o,e _ _ h⟩
 isd:=λ⟨o,h⟩=>⟨_,h,λP w H' h z=>by
   obtain ⟨_,_,_,vs,_,ob,_,_,z1,z2,_⟩:=z
   exact ⟨ob,z1,z2.1⟩⟩
section
variable {K:PySem.W.Frag} {A:Addr->Prop} {H₀ H:Hp} {τ:List Sl} {B:Nat->List Addr} {σ:L2.St} {m:List (Int × Int)} {i:Nat}
theorem Sta.dz (S:Sta K A H₀ τ B σ H) (hi:τ[i]?=some (.x (exZ m))):∃ d,(σ[i]?).join=some (.ref d)/\B i=[d]/\H d=some (.dK (cq m)):=by
 obtain ⟨d,o,h1,h2,h3,h4⟩:=S.sl i _ hi
 cases (show o=_ from h4)
 exact ⟨d,h2,h1,h3⟩
theorem Sta.fzF {ob:Obj} (S:Sta K A H₀ τ B σ H) (hi:τ[i]?=some (.x (exF ob m))):Sta K A H₀ (τ.set i (.d (.box (bxZ m)))) (upB B i []) σ H:=
 S.less (λ_ z=>nomatch z) λG g hv=>by
   obtain ⟨d,o,h1,h2,h3,h4⟩:=S.sl i _ hi
   cases (show o=_ from h4)
   exact ⟨rfl,_,h2,.box ⟨ob,hv d _ (by rw [h1]; exact List.mem_singleton.mpr rfl) (λz=>nomatch z) h3⟩⟩
end
section
variable {X:Cx} {C:Bool} {τ:List Sl} {x y:D} {a b e f o ix tg:Expr} {pos p q apos cpos sp:Pos} {k:Nat} {N:Po} {rest:List Stmt} {m:List (Int × Int)} {key v n:Int}
theorem x9 {xs:List D} {n:Nat} (h:xs.length=n):ff X (.builtin "len") [.lst xs] (.d (.int n)):=h ▸ hV
theorem uw {n:Str}:pg (.Name n p):=λ_ _=>rfl
theorem rl {op:Operator}:pg (.BinOp a op b p):=λ_ _=>rfl
theorem vt:PE X (.Dict [] [] pos) (dE X.K C τ (.x (exZ []))):=peW so λσ H Q ⟨A,H₀,B,S,k⟩=>λp hp=>k (.ref p) _ [p] (av hp _) (λb hb=>by rw [List.mem_singleton.mp hb]; exact ⟨hp,_,aL⟩) ⟨p,_,rfl,rfl,aL,rfl⟩
theorem vD {j l:Nat}:PE X (.Dict [some (.Constant (.int key) j p)] [.Constant (.int v) l q] pos) (dE X.K C τ (.x (exZ [(key,v)]))):=peW (sW (rK mL mL sO) rfl rfl (by simp) (by show (1:Nat)<=15; decide)) λσ H Q ⟨A,H₀,B,S,k⟩=>λp hp=>by
 refine ⟨aL,[(.inl key,.int v)],rfl,(by show (1:Nat)<=15; decide),?_⟩
 have e:upd (upd H p (.dK [])) p (.dK (gb [] [(Sum.inl key,V.int v)]))=upd H p (.dK (cq [(key,v)])):=by
   funext b
   unfold upd
   split <;> rfl
 rw [e]
 exact k (.ref p) _ [p] (av hp _) (λb hb=>by rw [List.mem_singleton.mp hb]; exact ⟨hp,_,aL⟩) ⟨p,_,rfl,rfl,aL,rfl⟩
theorem uV (i:Nat) (h:PSs X rest (dS X.K (τ.set i (.d (.box (bxZ m)))) N)) (hi:τ[i]?=some (.x (exZ m)):=by rfl):PSs X rest (dS X.K τ N):=by
 intro pins s σ H D I ⟨A,H₀,B,S,Me⟩
 obtain ⟨d,h1,h2,h3⟩:=S.dz hi
 obtain ⟨z,hd,vs,rel,dd⟩:=rX I.hok h3
 obtain ⟨o,es,ep,e,r⟩:=id dd
 have I2:Inv X pins σ (upd H d (.frz o (.dK (cq m)))) s:=fu (t':=s.toks) (h':=s.heap) I (by rw [h3]; exact True.intro) (.refl _ _) ⟨o,e⟩ ⟨e,l9 z hd rel dd⟩
 have hl:=(List.getElem?_eq_some_iff.mp hi).1
 have S2:=S.x5 (E':=exF o m) hi h2 rfl
 have S3:=S2.fzF (ob:=o) (m:=m) (List.getElem?_set_self hl)
 rw [List.set_set] at S3
 exact h pins s σ _ D I2 ⟨A,H₀,_,S3,Me⟩
theorem qX (hu:X.A.units + 1 < cLine) (hb:PE X b (dE X.K C τ (.d (.box (bxZ m))))) (hk:PE X ix (dE X.K C τ (.d (.int key)))) (hx:bH m key=some v) (hs:pg ix):PE X (.Subscript b ix pos) (dE X.K C τ (.d (.int v))):=
 peW (sT hu hb hk hs) λσ H Q q=>by
   obtain ⟨A,H₀,B,S,kk⟩:=eU q
   refine aW S λu H1 e1 d1=>aW (S.mono e1) λy H2 e2 dy=>?_
   cases dy
   cases d1.mono (aA e2 λ_ z=>z) with
   | box h=>
     obtain ⟨o,g⟩:=h
     exact ⟨_,.int v,rfl,⟨_,.inl key,.inr ⟨o,aU _ _ g⟩,rfl,by rw [fB,hx]; rfl⟩,kk _ H2 (e1.trans e2) .int⟩
theorem tX (i:Nat) {nm:Str} (hu:X.A.units + 1 < cLine) (hi:τ[i]?=some (.x (exZ m))) (hk:PE X e (dE X.K false τ (.d (.int key)))) (hx:PE X f (dE X.K false τ (.d (.int v)))) (m2:M2 X (.Name nm p) "get" apos e f cpos:=by exact ⟨rfl,rfl,rfl,rfl⟩) (hN:X.N[i]?=some nm:=by rfl)
   (hv:Vis X.env.scope nm:=by first | exact Or.inl rfl | exact Or.inr (Or.inl rfl) | exact Or.inr (Or.inr rfl)) (hd1:(nm == ("__debug__" : Str))=false:=by decide) (hcd:(nm == ("__classdict__" : Str))=false:=by decide):PE X (.Call (.Attribute (.Name nm p) "get" apos) [e,f] [] cpos) (dE X.K C τ (.d (.int ((bH m key).getD v)))):=
 peW (pU hu (cX (i:=i) hN hv hd1 hcd) hk hx m2) λσ H Q q=>by
   obtain ⟨A,H₀,B,S,kk⟩:=eU q
   obtain ⟨d,h1,h2,h3⟩:=S.dz hi
   refine ⟨_,slot_of h1,d,rfl,⟨_,.inl h3⟩,aW S λy H2 e2 dy=>aW (S.mono e2) λz H3 e3 dz=>?_⟩
   cases dy
   cases dz
   refine ⟨_,⟨_,.inl key,.inl ((e2.trans e3) _ _ h3),rfl,rfl⟩,?_⟩
   have e:(cW (cq m) (.inl key)).getD (.int v)=V.int ((bH m key).getD v):=by rw [fB]; cases bH m key <;> rfl
   rw [e]
   exact kk _ H3 (e2.trans e3) .int
theorem vN (i:Nat) {nm:Str} (hu:X.A.units + 1 < cLine) (hi:τ[i]?=some (.x (exZ m))) (hk:PE X ix (dE X.K true τ (.d (.int key)))) (he:PE X e (dE X.K true τ (.d (.int v)))) (hl:m.length < sizeLine)
   (hn:PSs X rest (dS X.K (τ.set i (.x (exZ (er m key v)))) N)) (hN:X.N[i]?=some nm:=by rfl)
   (hv:Vis X.env.scope nm:=by first | exact Or.inl rfl | exact Or.inr (Or.inl rfl) | exact Or.inr (Or.inr rfl)) (hd1:(nm == ("__debug__" : Str))=false:=by decide) (hcd:(nm == ("__classdict__" : Str))=false:=by decide)
   (hs:swapsWith e (some (.Subscript (.Name nm p) ix sp)) pos.line X.env=pure false:=by rfl):PSs X (.Assign [.Subscript (.Name nm p) ix sp] e pos :: rest) (dS X.K τ N):=
 bM (M:=(·=τ.set i (.x (exZ (er m key v))))) (psW (ue hu (cX (i:=i) hN hv hd1 hcd) hk he hs) λD σ H ⟨A,H₀,B,S,Me⟩=>aW S λu H1 e1 d1=>by
   cases d1
   have S1:=S.mono e1
   obtain ⟨d,g1,_⟩:=S1.dz hi
   refine ⟨_,slot_of g1,aW S1 λy H2 e2 dy=>?_⟩
   cases dy
   have S2:=S1.mono e2
   obtain ⟨d',h1,h2,h3⟩:=S2.dz hi
   rw [g1] at h1
   cases h1
   refine ⟨d,_,rfl,⟨_,.inl key,h3,rfl,by unfold cq; rw [List.length_map]; exact hl,rfl⟩,?_⟩
   rw [nh]
   exact Me.nx _ _ _ _ rfl (S2.x5 hi h2 rfl)) λ_ e=>e ▸ hn
theorem ud (h:PE X e (dE X.K true τ (.d (.box (bxZ m))))) (hc:X.calm=true:=by first | rfl | assumption):PI X tg e (dI X.K τ (m.map λp=>.int p.1)):=piW (lW hc h) λσ H R ⟨A,H₀,B,S,k⟩=>aW S λv H1 e1 d1=>by
 cases d1 with
 | box h=>
   obtain ⟨o,g⟩:=h
   refine ⟨_,o,m,rfl,aU _ _ g,k _ H1 e1 λH2 sg=>⟨λi hi=>⟨by simpa using hi,sg _ _ g⟩,λi hi=>⟨⟨by simpa using hi,sg _ _ g⟩,λx H' ⟨eH,p,hp,ex⟩=>?_⟩⟩⟩
   subst eH ex
   refine ⟨aq.refl _,λM _ _=>?_⟩
   have hi':i < m.length:=by simpa using hi
   rw [List.getElem?_eq_getElem hi'] at hp
   cases hp
   rw [List.getElem_map]
   exact .int
theorem sM {m:List (Int × Int)}:∀ i (h:i < (m.map λp=>D.int p.1).length),(m.map λp=>D.int p.1)[i]=.int (m.getD i (0,0)).1:=λi h=>by
 have:i < m.length:=by simpa using h
 simp [this]
noncomputable def dnD (n:Nat):List D:=(List.range n).map λi:Nat=>.int ((n:Int) - 1 - (i:Int))
theorem e8 (n:Nat):(dnD n).length=n:=by simp [dnD]
theorem yw {n:Nat}:∀ i (h:i < (dnD n).length),(dnD n)[i]=.int ((n - 1 - i:Nat):Int):=λi h=>by
 rw [e8] at h
 simp only [dnD,List.getElem_map,List.getElem_range]
 congr 1
 omega
theorem yR {n:Nat} {p' pos':Pos} (B:Bk X k) (h:PE X a (dE X.K false τ (.d (.int n)))) (hn:n < 1000) (hg:Gl X "reversed":=by rfl) (hg':Gl X "range":=by rfl) (hs':starEach [a] X.env=[(false,eval a X.env)]:=by rfl)
   (hs:starEach [.Call (.Name "range" p') [a] [] pos'] X.env=[(false,eval (.Call (.Name "range" p') [a] [] pos') X.env)]:=by rfl):PI X tg (.Call (.Name "reversed" p) [.Call (.Name "range" p') [a] [] pos'] [] pos) (dI X.K τ (dnD n)):=
 piW (uO B.calm hg (B.blt _ (by decide)) hg' (B.blt _ (by decide)) (ae h ag hs') hs' hs) λσ H R ⟨A,H₀,B,S,k⟩=>eA S λvs H1 e1 d1=>by
   cases d1 with
   | cons d r=>
     cases r
     cases d
     refine ⟨n,rfl,hn,k _ H1 e1 λH2 sg=>⟨λi hi=>by rw [e8] at hi; exact hi,λi hi=>⟨by rw [e8] at hi; exact hi,λx H' ⟨eH,ex⟩=>?_⟩⟩⟩
     subst eH ex
     refine ⟨aq.refl _,λM _ _=>?_⟩
     simp only [dnD,List.getElem_map,List.getElem_range]
     exact .int
end
end Hy
namespace Hy
open PySem PySem.Spec PyProof.Rows L2
open Ev (D Den ax av aB fE dH PTs di eG)
noncomputable def jN (ns:List Int):List Int:=ns.mergeSort λa b=>decide (a<=b)
theorem nY (ns:List Int):(jN ns).Pairwise (·<=·):=by
 have:=List.pairwise_mergeSort (le:=λa b:Int=>decide (a<=b)) (λa b c=>by simp only [decide_eq_true_eq]; omega) (λa b=>by simp only [Bool.or_eq_true,decide_eq_true_eq]; omega) ns
 exact this.imp λh=>of_decide_eq_true h
theorem eh (ns:List Int):(jN ns).Perm ns:=List.mergeSort_perm ns _
theorem u7 {ns ns':List Int} (p:ns'.Perm ns) (h:ns'.Pairwise (·<=·)):ns'=jN ns:=
 List.Perm.eq_of_pairwise (λa b _ _ h1 h2=>by omega) h (nY ns) (p.trans (eh ns).symm)
theorem da:∀ {us:List Value} {ns:List Int},IntsAre us ns->Vals (ns.map V.int) us
 | _,_,.nil=>.nil
 | _,_,.cons n t r=>.cons ⟨t,rfl⟩ (da r)
theorem jF:∀ {us:List Value} {ns:List Int},Vals (ns.map V.int) us->IntsAre us ns
 | [],[],_=>.nil
 | [],_ :: _,h=>nomatch h
 | _ :: _,[],h=>nomatch h
 | u :: us,n :: ns,h=>by
   cases h with
   | cons h1 h2=>
     obtain ⟨t,rfl⟩:=h1
     exact .cons n t (jF h2)
theorem lS {K:PySem.W.Frag} {G:Hp}:∀ ns:List Int,ax K G (ns.map V.int) (ns.map .int)
 | []=>.nil
 | _ :: ns=>.cons .int (lS ns)
theorem fQ {K:PySem.W.Frag} {G:Hp}:∀ {vs:List V} {ns:List Int},ax K G vs (ns.map .int)->vs=ns.map V.int
 | _,[],.nil=>rfl
 | _,n :: ns,.cons h r=>by cases h; rw [fQ r]; rfl
section
variable {X:Cx}
theorem pA:dg X (.builtin "sorted") (λxs H Q=>∃ p ns,xs=[.ref p]/\SqL X.K H p (ns.map V.int)/\ns.length < 64/\∀ q,H q=none->Q (.ref q) (upd H q (.lst ((jN ns).map V.int)))):=by
 intro pins s σ H xs us Q I r q
 obtain ⟨p,ns,rfl,hp,hl,q⟩:=q
 obtain ⟨u,rfl,ru⟩:=vals1 r
 cases (show u=Value.ref _ from ru)
 obtain ⟨its,rv,pl,hz⟩:=I.list hp
 have hln:its.length=ns.length:=by rw [<- rv.length,List.length_map]
 refine PyProof.Rows.sorted_ints pl.isList (jF rv) (by omega) λout ns' a1 a2 a3=>?_
 obtain ⟨c,hc'⟩:=PyProof.Rows.sortedAll_at s.heap its out
 have en:=u7 a2 a3
 subst en
 refine ⟨.ref (s.heap.objs.size + 1),upd H (s.heap.objs.size + 1) (.lst ((jN ns).map V.int)),I.laid (t':=s.toks) (λb o z=>PyProof.Rows.sortedAll_old z) (Nat.le_succ _) (show bo X.prog X.w _ _ _ (.lst ((jN ns).map V.int)) from ⟨?_,out.toList,c,da a1,?_⟩),rfl,q _ (I.hok.fresh (Nat.le_succ _))⟩
 · rw [List.length_map,jN,List.length_mergeSort]
   have:(64:Nat)<=sizeLine:=by decide
   omega
 · rw [hc']
end
section
variable {X:Cx} {C:Bool} {τ:List Sl} {e it:Expr} {pos p q p2 pos2 tp ip vp rp ap cp p1:Pos} {k:Nat} {N:Po} {rest:List Stmt} {scope:Scope}
theorem wm {ns:List Int} (h:ns.length < 64):ff X (.builtin "sorted") [.lst (ns.map .int)] (.o ((jN ns).map .int)):=⟨_,pA,λM vs H Q _ d q=>by
 cases d with
 | cons d r=>
   cases r
   cases d with
   | lst h1 r=>
     have e:=fQ r
     subst e
     refine ⟨_,ns,rfl,Ev.aK aU h1,h,λp hp=>q _ _ [p] (av hp _) (λb hb=>by rw [List.mem_singleton.mp hb]; exact ⟨hp,_,aL⟩) ⟨p,_,rfl,rfl,aL,lS _⟩⟩⟩
theorem pK {α β:Type} (g:α->β):∀ (xs:List α) (i:Nat),(xs.eraseIdx i).map g=(xs.map g).eraseIdx i
 | [],_=>rfl
 | _ :: _,0=>rfl
 | x :: xs,i + 1=>by rw [List.map_cons,List.eraseIdx_cons_succ,List.eraseIdx_cons_succ,List.map_cons,pK g xs i]
end
end Hy
namespace Hy
open PySem PySem.Spec PyProof.Rows L2
open Ev (D Den ax av)
theorem jA {K:PySem.W.Frag} {H:Hp}:∀ {vs:List V} {ds:List D} (j:Nat),ax K H vs ds->ax K H (vs.eraseIdx j) (ds.eraseIdx j)
 | _,_,_,.nil=>.nil
 | _,_,0,.cons _ r=>r
 | _,_,j + 1,.cons h r=>.cons h (jA j r)
theorem nG {K:PySem.W.Frag} {H:Hp} {v:V} {x:D} (h:Den K H v x):∀ {vs:List V} {ds:List D} (j:Nat),ax K H vs ds->ax K H (vs.insertIdx j v) (ds.insertIdx j x)
 | _,_,0,r=>.cons h r
 | _,_,_ + 1,.nil=>.nil
 | _,_,j + 1,.cons h1 r=>.cons h1 (nG h j r)
section
variable {X:Cx} {τ:List Sl} {a b:Expr} {pos p q:Pos} {N:Po} {rest:List Stmt}
theorem x8 (i:Nat) {n:Str} {xs:List D} {ap cp ap2 cp2:Pos} {k j:Nat} (x:D) (ha:PE X a (dE X.K false τ (.d (.int (k:Nat))))) (hb:PE X b (dE X.K false τ (.d (.int (j:Nat))))) (hj:xs[j]?=some x) (hk:k < xs.length) (hl:xs.length < 1000000) (hr:PSs X rest (dS X.K (τ.set i (.o ((xs.eraseIdx j).insertIdx k x))) N)) (hi:τ[i]?=some (.o xs):=by rfl) (hN:X.N[i]?=some n:=by rfl)
   (hv:Vis X.env.scope n:=by first | exact Or.inl rfl | exact Or.inr (Or.inl rfl) | exact Or.inr (Or.inr rfl)) (hd:(n == ("__debug__" : Str))=false:=by decide) (hcd:(n == ("__classdict__" : Str))=false:=by decide)
   (hfew:((backTo cp (starEach [a,.Call (.Attribute (.Name n q) "pop" ap2) [b] [] cp2] X.env)).all (λx=>!x.1) && (backToKw cp (keywordEach [] X.env)).all (λx=>x.1.isSome) && decide (([a,.Call (.Attribute (.Name n q) "pop" ap2) [b] [] cp2]:List Expr).length + ([]:List Keyword).length + (if ([]:List Keyword).isEmpty then 0 else 1) < 30))=true:=by rfl)
   (hline:(ap.endLine == cp.line)=true:=by rfl) (hst:starEach [a,.Call (.Attribute (.Name n q) "pop" ap2) [b] [] cp2] X.env=(false,eval a X.env) :: starEach [.Call (.Attribute (.Name n q) "pop" ap2) [b] [] cp2] X.env:=by rfl)
   (hst2:starEach [.Call (.Attribute (.Name n q) "pop" ap2) [b] [] cp2] X.env=(false,eval (.Call (.Attribute (.Name n q) "pop" ap2) [b] [] cp2) X.env) :: starEach [] X.env:=by rfl) (hpl:(backTo cp (starEach [.Call (.Attribute (.Name n q) "pop" ap2) [b] [] cp2] X.env)).any (·.1)=false:=by rfl)
   (hs:swapsWith (.Call (.Attribute (.Name n p) "insert" ap) [a,.Call (.Attribute (.Name n q) "pop" ap2) [b] [] cp2] [] cp) none pos.line X.env=pure false:=by rfl) (hbase:attributeBase (.Name n p) "insert" X.env (eval (.Name n p) X.env)=eval (.Name n p) X.env:=by rfl)
   (hfew2:((backTo cp2 (starEach [b] X.env)).all (λx=>!x.1) && (backToKw cp2 (keywordEach [] X.env)).all (λx=>x.1.isSome) && decide (([b]:List Expr).length + ([]:List Keyword).length + (if ([]:List Keyword).isEmpty then 0 else 1) < 30))=true:=by rfl) (hline2:(ap2.endLine == cp2.line)=true:=by rfl)
   (hst3:starEach [b] X.env=(false,eval b X.env) :: starEach [] X.env:=by rfl) (hpl2:(backTo cp2 (starEach [] X.env)).any (·.1)=false:=by rfl) (hbase2:attributeBase (.Name n q) "pop" X.env (eval (.Name n q) X.env)=eval (.Name n q) X.env:=by rfl) :
   PSs X (.Expr (.Call (.Attribute (.Name n p) "insert" ap) [a,.Call (.Attribute (.Name n q) "pop" ap2) [b] [] cp2] [] cp) pos :: rest) (dS X.K τ N):=
 bM (M:=(·=τ.set i (.o ((xs.eraseIdx j).insertIdx k x)))) (psW (gF (nF PySem.F.plainAttrs_list PySem.F.slot_list_insert PySem.F.type_list_insert oO (cX hN hv hd hcd)
     (cR ha (cR (nF PySem.F.plainAttrs_list PySem.F.slot_list_pop PySem.F.type_list_pop pO (cX hN hv hd hcd) (cR hb fZ hst3) hbase2 hfew2 hline2 hst3 hpl2) fZ hst2) hst) hbase hfew hline hst hpl) hs) λDn σ H ⟨A,H₀,B,S,Me⟩=>by
   obtain ⟨l,vs,hbb,e1,e2,d⟩:=S.sl i _ hi
   have hjl:j < xs.length:=(List.getElem?_eq_some_iff.mp hj).1
   refine ⟨_,slot_of e1,.inl ⟨rfl,_,SqL.of e2⟩,aW S λw1 H1 f1 g1=>?_⟩
   cases g1
   have S1:=S.mono f1
   refine ⟨_,slot_of e1,.inl ⟨rfl,_,SqL.of (f1 _ _ e2)⟩,aW S1 λw2 H2 f2 g2=>?_⟩
   cases g2
   have S2:=S1.mono f2
   obtain ⟨l',vs',hb',e1',e2',d'⟩:=S2.sl i _ hi
   rw [e1] at e1'
   cases e1'
   have hln:=d'.length
   obtain ⟨v,hv1,dv⟩:=d'.get hj
   refine ⟨l,vs',(j:Int),j,v,rfl,rfl,e2',by omega,by omega,PySem.StrLaws.seqIndex_nonneg (by omega) (by omega),hv1,?_⟩
   have hel:(vs'.eraseIdx j).length=xs.length - 1:=by rw [List.length_eraseIdx_of_lt (by omega),hln]
   refine ⟨l,vs'.eraseIdx j,(k:Int),v,rfl,rfl,aL,by omega,by rw [Int.toNat_natCast]; omega,by rw [hel]; have:sizeLine > 1000000:=(by decide); omega,?_⟩
   rw [Int.toNat_natCast]
   have eu:upd (upd H2 l (.lst (vs'.eraseIdx j))) l (.lst ((vs'.eraseIdx j).insertIdx k v))=upd H2 l (.lst ((vs'.eraseIdx j).insertIdx k v)):=by
     funext z
     unfold upd
     split <;> rfl
   rw [eu]
   exact Me.nx _ _ _ _ rfl (S2.put hi hb' (nG dv k (jA j d')))) λ_ e=>e ▸ hr
end
noncomputable def iw (a:Int) (as:List Int):Int:=as.foldl (λm x=>if x > m then x else m) a
theorem kf:∀ (as:List Int) (a:Int),iw a as ∈ a :: as/\∀ x ∈ a :: as,x<=iw a as
 | [],a=>⟨List.mem_cons_self ..,λx hx=>by rw [List.mem_singleton.mp hx]; exact Int.le_refl _⟩
 | b :: as,a=>by
   obtain ⟨h1,h2⟩:=kf as (if b > a then b else a)
   have e:iw a (b :: as)=iw (if b > a then b else a) as:=rfl
   rw [e]
   have h3:=h2 _ (List.mem_cons_self ..)
   have h4:a<=(if b > a then b else a)/\b<=(if b > a then b else a):=by split <;> omega
   refine ⟨?_,λx hx=>?_⟩
   · rcases List.mem_cons.mp h1 with z | z
     · rw [z]
       split
       · exact List.mem_cons_of_mem _ (List.mem_cons_self ..)
       · exact List.mem_cons_self ..
     · exact List.mem_cons_of_mem _ (List.mem_cons_of_mem _ z)
   · rcases List.mem_cons.mp hx with z | z
     · rw [z]; exact Int.le_trans h4.1 h3
     · rcases List.mem_cons.mp z with z | z
       · rw [z]; exact Int.le_trans h4.2 h3
       · exact h2 x (List.mem_cons_of_mem _ z)
theorem sN {a M:Int} {as:List Int} (h1:M ∈ a :: as) (h2:∀ x ∈ a :: as,x<=M):iw a as=M:=by
 obtain ⟨z1,z2⟩:=kf as a
 exact Int.le_antisymm (h2 _ z1) (z2 _ h1)
theorem iB:∀ {us:List Value} {ns:List Int},Vals (ns.map V.int) us->∃ xs:List (Int × Tok),us=xs.map (λp=>Value.int p.1 p.2)/\xs.map (·.1)=ns
 | [],[],_=>⟨[],rfl,rfl⟩
 | [],_ :: _,h=>nomatch h
 | _ :: _,[],h=>nomatch h
 | u :: us,n :: ns,h=>by
   cases h with
   | cons h1 h2=>
     obtain ⟨t,rfl⟩:=h1
     obtain ⟨xs,rfl,rfl⟩:=iB h2
     exact ⟨(n,t) :: xs,rfl,rfl⟩
section
variable {X:Cx}
theorem oU (hc:X.calm=true):dg X (.builtin "max") (λxs H Q=>∃ p a as,xs=[.ref p]/\SqL X.K H p ((a :: as).map V.int)/\Q (.int (iw a as)) H):=by
 intro pins s σ H vs us Q I r q
 obtain ⟨p,a,as,rfl,h1,q⟩:=q
 obtain ⟨u,rfl,ru⟩:=vals1 r
 cases (show u=Value.ref _ from ru)
 obtain ⟨its,rv,p,hz⟩:=I.list h1
 obtain ⟨xs,rfl,hx⟩:=iB (ns:=a :: as) rv
 have hlen:0 < xs.length:=by have:=congrArg List.length hx; simp only [List.length_map,List.length_cons] at this; omega
 refine max_intList (xs:=xs.toArray) (I.ok.hd hc) (by have:=p.isList; simpa [intItems] using this) (by simpa using hlen) λv h' tk hv k=>?_
 obtain ⟨g1,g2⟩:=argBest_gt (numAt xs.toArray) (xs.toArray.size - 1)
 rw [List.size_toArray] at g1 g2 hv
 revert hv g1 g2
 generalize argBest (λi j=>decide (numAt xs.toArray i > numAt xs.toArray j)) (xs.length - 1)=b
 intro hv g1 g2
 have nat:∀ i (w:Int × Tok),xs[i]?=some w->numAt xs.toArray i=w.1:=λi w e=>by simp [numAt,e]
 obtain ⟨w,hw⟩:∃ w,xs[b]?=some w:=⟨xs[b]'(by omega),List.getElem?_eq_getElem _⟩
 have ev:v=Value.int w.1 w.2:=by
   simp only [intItems,Array.getElem?_map,List.getElem?_toArray,hw,Option.map_some,Option.some.injEq] at hv
   exact hv.symm
 have em:iw a as=w.1:=by
   refine sN (by rw [<- hx]; exact List.mem_map.mpr ⟨w,List.mem_of_getElem? hw,rfl⟩) λx hx'=>?_
   rw [<- hx] at hx'
   obtain ⟨y,hy,rfl⟩:=List.mem_map.mp hx'
   obtain ⟨i,hi,e⟩:=List.getElem_of_mem hy
   have:=g2 i (by omega)
   rw [nat i y (by rw [List.getElem?_eq_getElem hi,e]),nat b w hw] at this
   exact this
 exact ⟨.int (iw a as),H,I.kept k,⟨w.2,by rw [em,ev]⟩,q⟩
theorem wC (hc:X.calm=true) (a:Int) (as:List Int) {xs:List D} (hx:xs=(a :: as).map .int):ff X (.builtin "max") [.lst xs] (.d (.int (iw a as))):=⟨_,oU hc,λM vs H Q _ d q=>by
 subst hx
 cases d with
 | cons d r=>
   cases r
   cases d with
   | lst h1 r=>
     have e:=fQ r
     subst e
     exact ⟨_,a,as,rfl,Ev.aK aU h1,q _ H [] (aq.refl _) dh (gd .int)⟩⟩
end
end Hy
namespace K13
open PySem PySem.Spec PyProof.Rows L2 Hy
noncomputable def top (i:Nat):Stmt:=PySem.Challenge.pw_signsmooth_k13_whole_products_by_choices.main.body.getD i (.Pass ⟨0,0,0,0⟩)
theorem oR:au ["_law_script","_law_k"] ["_law_script","_law_k"] (ah (top 41)):=⟨rfl,rfl,rfl,by decide +kernel,rfl,by decide +kernel,by decide +kernel⟩
theorem fI:au ["_law_cell_here","_law_bases","_law_row","_law_base","_law_k","_law_mixed"] ["_law_cell_here","_law_bases"] (ah (top 42)):=⟨rfl,rfl,rfl,by decide +kernel,rfl,by decide +kernel,by decide +kernel⟩
theorem eZ:au ["_law_one","_law_other","_law_rest_here"] ["_law_one","_law_other"] (ah (top 44)):=⟨rfl,rfl,rfl,by decide +kernel,rfl,by decide +kernel,by decide +kernel⟩
theorem jm:au ["_law_top","_law_bottom","_law_common"] ["_law_top","_law_bottom"] (ah (top 45)):=⟨rfl,rfl,rfl,by decide +kernel,rfl,by decide +kernel,by decide +kernel⟩
theorem gi:au ["_law_kind","_law_part","_law_top"] ["_law_kind","_law_part"] (ah (top 46)):=⟨rfl,rfl,rfl,by decide +kernel,rfl,by decide +kernel,by decide +kernel⟩
theorem ia:au ["_law_cell_here","_law_many","_law_wide","_law_kind","_law_base","_law_parts"] ["_law_cell_here","_law_many","_law_wide","_law_kind"] (ah (top 47)):=⟨rfl,rfl,rfl,by decide +kernel,rfl,by decide +kernel,by decide +kernel⟩
theorem iC:au ["_law_bits","_law_many","_law_size","_law_choice","_law_more"] ["_law_bits","_law_many","_law_size"] (ah (top 55)):=⟨rfl,rfl,rfl,by decide +kernel,rfl,by decide +kernel,by decide +kernel⟩
theorem fF:au ["_law_many","_law_size","_law_made_here","_law_k","_law_longer","_law_choice","_law_first_here"] ["_law_many","_law_size"] (ah (top 52)):=⟨rfl,rfl,rfl,by decide +kernel,rfl,by decide +kernel,by decide +kernel⟩
theorem jq:au ["_law_table_here","_law_rows_here","_law_all_bottoms","_law_row","_law_factor","_law_number_here"] ["_law_table_here"] (ah (top 50)):=⟨rfl,rfl,rfl,by decide +kernel,rfl,by decide +kernel,by decide +kernel⟩
theorem kX:au ["_law_rows_here","_law_sums","_law_row","_law_longer","_law_mask","_law_behind_it","_law_j","_law_key","_law_sign"] ["_law_rows_here"] (ah (top 51)):=⟨rfl,rfl,rfl,by decide +kernel,rfl,by decide +kernel,by decide +kernel⟩
theorem g8:au ["_law_table_here","_law_rows_here","_law_columns","_law_whole_here","_law_bottoms"] ["_law_table_here","_law_rows_here","_law_columns"] (ah (top 53)):=⟨rfl,rfl,rfl,by decide +kernel,rfl,by decide +kernel,by decide +kernel⟩
theorem lJ:au ["_law_one","_law_other","_law_rows_here","_law_columns","_law_top","_law_bottom","_law_middle","_law_left","_law_right","_law_more","_law_common"] ["_law_one","_law_other","_law_rows_here","_law_columns"] (ah (top 54)):=⟨rfl,rfl,rfl,by decide +kernel,rfl,by decide +kernel,by decide +kernel⟩
theorem oD:au ["_law_cell_here","_law_used"] ["_law_cell_here","_law_used"] (ah (top 43)):=⟨rfl,rfl,rfl,by decide +kernel,rfl,by decide +kernel,by decide +kernel⟩
theorem mT:au ["_law_thing"] ["_law_thing"] (ah (top 48)):=⟨rfl,rfl,rfl,by decide +kernel,rfl,by decide +kernel,by decide +kernel⟩
theorem iy:au ["_law_found","_law_top","_law_bottom"] ["_law_found","_law_top","_law_bottom"] (ah (top 49)):=⟨rfl,rfl,rfl,by decide +kernel,rfl,by decide +kernel,by decide +kernel⟩
theorem fU:au ["thing"] ["thing"] (ah (top 15)):=⟨rfl,rfl,rfl,by decide +kernel,rfl,by decide +kernel,by decide +kernel⟩
theorem kW:au ["thing"] ["thing"] (ah (top 8)):=⟨rfl,rfl,rfl,by decide +kernel,rfl,by decide +kernel,by decide +kernel⟩
theorem cO:au ["one","other","greater","lesser","rest"] ["one","other"] (ah (top 10)):=⟨rfl,rfl,rfl,by decide +kernel,rfl,by decide +kernel,by decide +kernel⟩
theorem iS:au ["thing"] ["thing"] (ah (top 9)):=⟨rfl,rfl,rfl,by decide +kernel,rfl,by decide +kernel,by decide +kernel⟩
theorem pe:au ["thing"] ["thing"] (ah (top 16)):=⟨rfl,rfl,rfl,by decide +kernel,rfl,by decide +kernel,by decide +kernel⟩
theorem kS:au ["thing"] ["thing"] (ah (top 17)):=⟨rfl,rfl,rfl,by decide +kernel,rfl,by decide +kernel,by decide +kernel⟩
theorem jd:au ["thing"] ["thing"] (ah (top 20)):=⟨rfl,rfl,rfl,by decide +kernel,rfl,by decide +kernel,by decide +kernel⟩
theorem jZ:au ["numbers"] ["numbers"] (ah (top 19)):=⟨rfl,rfl,rfl,by decide +kernel,rfl,by decide +kernel,by decide +kernel⟩
theorem km:au ["thing","many"] ["thing","many"] (ah (top 18)):=⟨rfl,rfl,rfl,by decide +kernel,rfl,by decide +kernel,by decide +kernel⟩
theorem gA:au ["rows","columns","many_rows","many_columns"] ["rows","columns","many_rows","many_columns"] (ah (top 21)):=⟨rfl,rfl,rfl,by decide +kernel,rfl,by decide +kernel,by decide +kernel⟩
theorem iO:au ["table"] ["table"] (ah (top 29)):=⟨rfl,rfl,rfl,by decide +kernel,rfl,by decide +kernel,by decide +kernel⟩
theorem cC:au ["top","bottom","divisor"] ["top","bottom"] (ah (top 11)):=⟨rfl,rfl,rfl,by decide +kernel,rfl,by decide +kernel,by decide +kernel⟩
theorem lE:au ["top","bottom"] ["top","bottom"] (ah (top 12)):=⟨rfl,rfl,rfl,by decide +kernel,rfl,by decide +kernel,by decide +kernel⟩
theorem gm:au ["row","scale","number"] ["row"] (ah (top 30)):=⟨rfl,rfl,rfl,by decide +kernel,rfl,by decide +kernel,by decide +kernel⟩
theorem d0:au ["grid","k","i"] ["grid","k"] (ah (top 35)):=⟨rfl,rfl,rfl,by decide +kernel,rfl,by decide +kernel,by decide +kernel⟩
theorem hJ:au ["row","pivot_row","k","last","pivot","factor"] ["row","pivot_row","k","last"] (ah (top 36)):=⟨rfl,rfl,rfl,by decide +kernel,rfl,by decide +kernel,by decide +kernel⟩
theorem ck:au ["rows","grid","many","sign","last","k","at","i"] ["rows"] (ah (top 34)):=⟨rfl,rfl,rfl,by decide +kernel,rfl,by decide +kernel,by decide +kernel⟩
theorem cP:au ["numbers","found","number"] ["numbers"] (ah (top 33)):=⟨rfl,rfl,rfl,by decide +kernel,rfl,by decide +kernel,by decide +kernel⟩
theorem jP:au ["row","scale"] ["row","scale"] (ah (top 31)):=⟨rfl,rfl,rfl,by decide +kernel,rfl,by decide +kernel,by decide +kernel⟩
theorem ja:au ["table","scales"] ["table","scales"] (ah (top 32)):=⟨rfl,rfl,rfl,by decide +kernel,rfl,by decide +kernel,by decide +kernel⟩
theorem b6:au ["table","scales"] ["table"] (ah (top 28)):=⟨rfl,rfl,rfl,by decide +kernel,rfl,by decide +kernel,by decide +kernel⟩
theorem pG:au ["things","places"] ["things","places"] (ah (top 22)):=⟨rfl,rfl,rfl,by decide +kernel,rfl,by decide +kernel,by decide +kernel⟩
theorem oK:au ["table","rows","columns"] ["table","rows","columns"] (ah (top 23)):=⟨rfl,rfl,rfl,by decide +kernel,rfl,by decide +kernel,by decide +kernel⟩
theorem rW:au ["table","rows","columns"] ["table","rows","columns"] (ah (top 27)):=⟨rfl,rfl,rfl,by decide +kernel,rfl,by decide +kernel,by decide +kernel⟩
theorem jS:au ["table","j"] ["table","j"] (ah (top 25)):=⟨rfl,rfl,rfl,by decide +kernel,rfl,by decide +kernel,by decide +kernel⟩
theorem jh:au ["table"] ["table"] (ah (top 24)):=⟨rfl,rfl,rfl,by decide +kernel,rfl,by decide +kernel,by decide +kernel⟩
theorem eR:au ["numbers","others"] ["numbers","others"] (ah (top 39)):=⟨rfl,rfl,rfl,by decide +kernel,rfl,by decide +kernel,by decide +kernel⟩
theorem dW:au ["row","whole_columns","scales","row_scale","numbers"] ["row","whole_columns","scales"] (ah (top 38)):=⟨rfl,rfl,rfl,by decide +kernel,rfl,by decide +kernel,by decide +kernel⟩
theorem iu:au ["one","other","columns","scales","whole_columns"] ["one","other"] (ah (top 37)):=⟨rfl,rfl,rfl,by decide +kernel,rfl,by decide +kernel,by decide +kernel⟩
theorem qZ:au ["_law_script","_law_k","_law_cell_here","_law_parts","_law_sizes","_law_kinds","_law_one","_law_other","_law_size","_law_rows_here","_law_columns","_law_due_here"] ["_law_script"] (ah (top 56)):=⟨rfl,rfl,rfl,by decide +kernel,rfl,by decide +kernel,by decide +kernel⟩
end K13
namespace K13
open PySem PySem.Spec PyProof.Rows L2 Hy
open Ev (D Den ax aE aH)
noncomputable def ar (f:Nat->Rat):Nat->Rat
 | 0=>0
 | n + 1=>ar f n + f n
theorem ak {f g:Nat->Rat}:∀ {n:Nat},(∀ k < n,f k=g k)->ar f n=ar g n
 | 0,_=>rfl
 | n + 1,h=>by rw [ar,ar,ak λk hk=>h k (by omega),h n (by omega)]
theorem bj (c:Rat) (f:Nat->Rat):∀ n:Nat,c * ar f n=ar (λk=>c * f k) n
 | 0=>Rat.mul_zero c
 | n + 1=>by rw [ar,ar,Rat.mul_add,bj c f n]
theorem dR (c:Rat) (f:Nat->Rat):∀ n:Nat,ar f n * c=ar (λk=>f k * c) n
 | 0=>Rat.zero_mul c
 | n + 1=>by rw [ar,ar,Rat.add_mul,dR c f n]
theorem fL (f g:Nat->Rat):∀ n:Nat,ar (λk=>f k + g k) n=ar f n + ar g n
 | 0=>(Rat.add_zero 0).symm
 | n + 1=>by rw [ar,ar,ar,fL f g n]; grind
theorem fW:∀ n:Nat,ar (λ_=>0) n=0
 | 0=>rfl
 | n + 1=>by rw [ar,fW n,Rat.add_zero]
theorem cB (f:Nat->Nat->Rat) (m:Nat):∀ n:Nat,ar (λk=>ar (λl=>f k l) m) n=ar (λl=>ar (λk=>f k l) n) m
 | 0=>by simp only [ar]; exact (fW m).symm
 | n + 1=>by simp only [ar]; rw [cB f m n,<- fL]
noncomputable def dq (i j:Nat):Rat:=if i=j then 1 else 0
theorem kL (A:Nat->Rat) (j:Nat):∀ n:Nat,n<=j->ar (λk=>A k * dq k j) n=0
 | 0,_=>rfl
 | n + 1,h=>by
   rw [ar,kL A j n (by omega),dq,if_neg (by omega),Rat.mul_zero,Rat.add_zero]
theorem de (A:Nat->Rat) (j:Nat):∀ n:Nat,j < n->ar (λk=>A k * dq k j) n=A j
 | n + 1,h=>by
   rw [ar]
   by_cases e:j=n
   · subst e
     rw [kL A j j (Nat.le_refl _),dq,if_pos rfl,Rat.mul_one,Rat.zero_add]
   · rw [de A j n (by omega),dq,if_neg (by omega),Rat.mul_zero,Rat.add_zero]
theorem ju (f:Nat->Int):∀ n:Nat,((((List.range n).map f).sum:Int):Rat)=ar (λk=>(f k:Rat)) n
 | 0=>rfl
 | n + 1=>by
   rw [List.range_succ,List.map_append,List.sum_append,Rat.intCast_add,ju f n,ar]
   simp
noncomputable def skp (i r:Nat):Nat:=if r < i then r else r + 1
noncomputable def minor (M:Nat->Nat->Rat) (i r c:Nat):Rat:=M (skp i r) (c + 1)
noncomputable def sgn (i:Nat):Rat:=if i % 2=0 then 1 else -1
theorem dZ (i:Nat):sgn (i + 1)=-sgn i:=by
 unfold sgn
 by_cases h:i % 2=0
 · rw [if_pos h,if_neg (by omega)]
 · rw [if_neg h,if_pos (by omega)]
   rfl
theorem pP (i:Nat):sgn i * sgn i=1:=by
 unfold sgn
 split <;> grind
noncomputable def det:Nat->(Nat->Nat->Rat)->Rat
 | 0,_=>1
 | n + 1,M=>ar (λi=>sgn i * M i 0 * det n (minor M i)) (n + 1)
theorem j5 {i r n:Nat} (h:r < n):skp i r < n + 1:=by unfold skp; split <;> omega
theorem u6 (i r:Nat):skp i r ≠ i:=by unfold skp; split <;> omega
theorem aC:∀ {n:Nat} {M M':Nat->Nat->Rat},(∀ i < n,∀ j < n,M i j=M' i j)->det n M=det n M'
 | 0,_,_,_=>rfl
 | n + 1,M,M',h=>by
   unfold det
   refine ak λi hi=>?_
   rw [h i hi 0 (by omega),aC (M:=minor M i) (M':=minor M' i) λr hr c hc=>h _ (j5 hr) _ (by omega)]
noncomputable def ao (M:Nat->Nat->Rat) (p:Nat) (v:Nat->Rat) (r c:Nat):Rat:=if r=p then v c else M r c
noncomputable def c8 (M:Nat->Nat->Rat) (q:Nat) (v:Nat->Rat) (r c:Nat):Rat:=if c=q then v r else M r c
noncomputable def un (i p:Nat):Nat:=if p < i then p else p - 1
theorem eW (M:Nat->Nat->Rat) (p:Nat) (v:Nat->Rat):minor (ao M p v) p=minor M p:=by
 funext r c
 unfold minor ao
 rw [if_neg (u6 p r)]
theorem dP (M:Nat->Nat->Rat) {i p:Nat} (h:i ≠ p) (v:Nat->Rat):minor (ao M p v) i=ao (minor M i) (un i p) λc=>v (c + 1):=by
 funext r c
 unfold minor ao
 have:skp i r=p ↔ r=un i p:=by unfold skp un; split <;> split <;> omega
 by_cases q:skp i r=p
 · rw [if_pos q,if_pos (this.mp q)]
 · rw [if_neg q,if_neg λz=>q (this.mpr z)]
theorem nq:∀ {n:Nat} (M:Nat->Nat->Rat) {p:Nat},p < n->∀ (a b:Rat) (x y:Nat->Rat),det n (ao M p λc=>a * x c + b * y c)=a * det n (ao M p x) + b * det n (ao M p y)
 | 0,_,_,h,_,_,_,_=>absurd h (Nat.not_lt_zero _)
 | n + 1,M,p,hp,a,b,x,y=>by
   unfold det
   rw [bj,bj,<- fL]
   refine ak λi hi=>?_
   by_cases h:i=p
   · subst h
     rw [eW,eW,eW]
     simp only [ao,if_pos rfl]
     grind
   · rw [dP M h,dP M h,dP M h,nq (minor M i) (show un i p < n by unfold un; split <;> omega) a b]
     simp only [ao,if_neg h]
     grind
theorem qk {f:Nat->Rat} {p:Nat} (h0:∀ i,i ≠ p->i ≠ p + 1->f i=0) (h:f p + f (p + 1)=0):∀ n,p + 1 < n->ar f n=0:=by
 have z:∀ n,n<=p->ar f n=0:=by
   intro n
   induction n with
   | zero=>intro _; rfl
   | succ n ih=>intro hn; rw [ar,ih (by omega),h0 n (by omega) (by omega),Rat.add_zero]
 intro n
 induction n with
 | zero=>intro hn; omega
 | succ n ih=>
   intro hn
   rw [ar]
   by_cases q:n=p + 1
   · subst q
     rw [ar,z p (Nat.le_refl _),Rat.zero_add]
     exact h
   · rw [ih (by omega),h0 n (by omega) q,Rat.add_zero]
theorem cb {f:Nat->Rat} {n:Nat} (h:∀ i < n,f i=0):ar f n=0:=by
 rw [ak h]; exact fW n
theorem kx:∀ {n:Nat} {M:Nat->Nat->Rat} {p:Nat},p + 1 < n->(∀ c < n,M p c=M (p + 1) c)->det n M=0
 | 0,_,_,h,_=>absurd h (Nat.not_lt_zero _)
 | n + 1,M,p,hp,h=>by
   unfold det
   let f:Nat->Rat:=λi=>if i < n + 1 then sgn i * M i 0 * det n (minor M i) else 0
   have e:ar (λi=>sgn i * M i 0 * det n (minor M i)) (n + 1)=ar f (n + 1):=ak λi hi=>by simp only [f]; rw [if_pos hi]
   rw [e]
   refine qk (p:=p) (λi h1 h2=>?_) ?_ _ hp
   · simp only [f]
     by_cases hi:i < n + 1
     · rw [if_pos hi]
       have:det n (minor M i)=0:=by
         by_cases q:i < p
         · refine kx (p:=p - 1) (by omega) λc hc=>?_
           unfold minor skp
           rw [if_neg (by omega),if_neg (by omega),show p - 1 + 1=p by omega]
           exact h (c + 1) (by omega)
         · refine kx (p:=p) (by omega) λc hc=>?_
           unfold minor skp
           rw [if_pos (by omega),if_pos (by omega)]
           exact h (c + 1) (by omega)
       rw [this,Rat.mul_zero]
     · rw [if_neg hi]
   · simp only [f]
     rw [if_pos (by omega),if_pos hp,dZ,<- h 0 (by omega)]
     have:det n (minor M p)=det n (minor M (p + 1)):=aC λr hr c hc=>by
       unfold minor skp
       by_cases q:r < p
       · rw [if_pos q,if_pos (by omega)]
       · rw [if_neg q]
         by_cases q2:r=p
         · subst q2
           rw [if_pos (by omega)]
           exact (h (c + 1) (by omega)).symm
         · rw [if_neg (by omega)]
     rw [this]
     grind
structure ML (n:Nat) (f:(Nat->Nat->Rat)->Rat):Prop where
 cong:∀ {M M':Nat->Nat->Rat},(∀ i < n,∀ j < n,M i j=M' i j)->f M=f M'
 lin:∀ (M:Nat->Nat->Rat) {p:Nat},p < n->∀ (a b:Rat) (x y:Nat->Rat),f (ao M p λc=>a * x c + b * y c)=a * f (ao M p x) + b * f (ao M p y)
 alt:∀ {M:Nat->Nat->Rat} {p:Nat},p + 1 < n->(∀ c < n,M p c=M (p + 1) c)->f M=0
theorem eV (n:Nat):ML n (det n):=⟨aC,nq,kx⟩
section
variable {n:Nat} {f:(Nat->Nat->Rat)->Rat}
theorem bF (M:Nat->Nat->Rat) (p:Nat):ao M p (M p)=M:=by
 funext r c
 unfold ao
 split
 · rename_i h; rw [h]
 · rfl
theorem bP {M:Nat->Nat->Rat} {p:Nat} {v:Nat->Rat}:ao M p v p=v:=by funext c; unfold ao; rw [if_pos rfl]
theorem bO {M:Nat->Nat->Rat} {p r:Nat} {v:Nat->Rat} (h:r ≠ p):ao M p v r=M r:=by funext c; unfold ao; rw [if_neg h]
theorem aZ {M:Nat->Nat->Rat} {p q:Nat} {v u:Nat->Rat} (h:p ≠ q):ao (ao M p v) q u=ao (ao M q u) p v:=by
 funext r c
 unfold ao
 by_cases h1:r=q
 · rw [if_pos h1,if_neg λz=>h (z.symm.trans h1),if_pos h1]
 · rw [if_neg h1,if_neg h1]
theorem ML.add (h:ML n f) (M:Nat->Nat->Rat) {p:Nat} (hp:p < n) (x y:Nat->Rat):f (ao M p λc=>x c + y c)=f (ao M p x) + f (ao M p y):=by
 have:=h.lin M hp 1 1 x y
 simp only [Rat.one_mul] at this
 exact this
theorem ML.nb (h:ML n f) (M:Nat->Nat->Rat) {p:Nat} (hp:p + 1 < n) (x y:Nat->Rat):f (ao (ao M p x) (p + 1) y)=-f (ao (ao M p y) (p + 1) x):=by
 have z:∀ u:Nat->Rat,f (ao (ao M p u) (p + 1) u)=0:=λu=>h.alt hp λc _=>by rw [bP,bO (by omega),bP]
 have e:=z λc=>x c + y c
 rw [h.add _ hp] at e
 rw [aZ (by omega),h.add _ (show p < n by omega),aZ (M:=M) (p:=p) (q:=p + 1) (v:=λc=>x c + y c) (u:=y) (by omega),h.add _ (show p < n by omega)] at e
 rw [aZ (M:=M) (p:=p + 1) (q:=p) (v:=x) (u:=x) (by omega),z x,aZ (M:=M) (p:=p + 1) (q:=p) (v:=y) (u:=y) (by omega),z y,aZ (M:=M) (p:=p + 1) (q:=p) (v:=x) (u:=y) (by omega),aZ (M:=M) (p:=p + 1) (q:=p) (v:=y) (u:=x) (by omega)] at e
 grind
theorem ML.two (h:ML n f):∀ (d:Nat) (M:Nat->Nat->Rat) (p:Nat),p + 1 + d < n->M p=M (p + 1 + d)->f M=0
 | 0,M,p,hp,e=>h.alt hp λc _=>by rw [e]
 | d + 1,M,p,hp,e=>by
   have s:=h.nb M (p:=p + 1 + d) (by omega) (M (p + 1 + d)) (M (p + 1 + d + 1))
   rw [bF,bF] at s
   rw [s,ML.two h d _ p (by omega) (by rw [bO (by omega),bO (by omega),bO (by omega),bP]; exact e)]
   rfl
theorem ML.same (h:ML n f) {M:Nat->Nat->Rat} {p q:Nat} (hp:p < n) (hq:q < n) (hpq:p ≠ q) (e:M p=M q):f M=0:=by
 rcases Nat.lt_or_lt_of_ne hpq with z | z
 · exact h.two (q - p - 1) M p (by omega) (by rw [show p + 1 + (q - p - 1)=q by omega]; exact e)
 · exact h.two (p - q - 1) M q (by omega) (by rw [show q + 1 + (p - q - 1)=p by omega]; exact e.symm)
theorem ML.swap (h:ML n f) {M:Nat->Nat->Rat} {p q:Nat} (hp:p < n) (hq:q < n) (hpq:p ≠ q) (x y:Nat->Rat):f (ao (ao M p x) q y)=-f (ao (ao M p y) q x):=by
 have z:∀ u:Nat->Rat,f (ao (ao M p u) q u)=0:=λu=>h.same hp hq hpq (by rw [bP,bO hpq,bP])
 have e:=z λc=>x c + y c
 have c1:∀ u v:Nat->Rat,ao (ao M q u) p v=ao (ao M p v) q u:=λu v=>aZ λz=>hpq z.symm
 rw [h.add _ hq,aZ hpq,h.add _ hp,aZ (M:=M) (p:=p) (q:=q) (v:=λc=>x c + y c) (u:=y) hpq,h.add _ hp,c1,c1,c1,c1,z x,z y] at e
 grind
theorem ML.yr (h:ML n f) (M:Nat->Nat->Rat) {p:Nat} (hp:p < n):f (ao M p λ_=>0)=0:=by
 have:=h.lin M hp 0 0 (λ_=>0) (λ_=>0)
 simp only [Rat.zero_mul,Rat.add_zero] at this
 exact this
theorem ML.sum (h:ML n f) (M:Nat->Nat->Rat) {p:Nat} (hp:p < n) (v:Nat->Rat) (e:Nat->Nat->Rat):∀ m,f (ao M p λj=>ar (λc=>v c * e c j) m)=ar (λc=>v c * f (ao M p (e c))) m
 | 0=>h.yr M hp
 | m + 1=>by
   have:=h.lin M hp 1 (v m) (λj=>ar (λc=>v c * e c j) m) (e m)
   simp only [Rat.one_mul] at this
   rw [ar,<- ML.sum h M hp v e m]
   exact this
theorem ML.comb (h:ML n f) (M:Nat->Nat->Rat) {p k:Nat} (hp:p < n) (hk:k<=p) (d:Rat) (β:Nat->Rat):f (ao M p λj=>d * M p j + ar (λi=>β i * M i j) k)=d * f M:=by
 have e:=h.lin M hp d 1 (M p) (λj=>ar (λi=>β i * M i j) k)
 simp only [Rat.one_mul] at e
 rw [e,bF,h.sum M hp β M k,cb,Rat.add_zero]
 intro i hi
 rw [h.same (p:=i) (q:=p) (by omega) hp (by omega) (by rw [bO (by omega),bP]),Rat.mul_zero]
end
noncomputable def idQ (i j:Nat):Rat:=if i=j then 1 else 0
noncomputable def un1 (σ:Nat->Nat) (i j:Nat):Rat:=if σ i=j then 1 else 0
theorem rG:∀ (m:Nat) (σ:Nat->Nat),(∀ i < m + 1,σ i < m)->∃ i j,i < j/\j < m + 1/\σ i=σ j
 | 0,σ,h=>absurd (h 0 (by decide)) (Nat.not_lt_zero _)
 | m + 1,σ,h=>by
   by_cases q:∃ i,i < m + 1/\σ i=σ (m + 1)
   · obtain ⟨i,hi,e⟩:=q
     exact ⟨i,m + 1,hi,by omega,e⟩
   · have q':∀ i < m + 1,σ i ≠ σ (m + 1):=λi hi z=>q ⟨i,hi,z⟩
     obtain ⟨i,j,h1,h2,e⟩:=rG m (λi=>if σ (m + 1) < σ i then σ i - 1 else σ i) λi hi=>by
       have a:=h i (by omega)
       have b:=h (m + 1) (by omega)
       have c:=q' i hi
       split <;> omega
     refine ⟨i,j,h1,by omega,?_⟩
     have a:=q' i (by omega)
     have b:=q' j h2
     split at e <;> split at e <;> omega
theorem uj {n k:Nat} {σ:Nat->Nat} (h:∀ i < n,σ i < n) (hk:k < n) (hn:∀ i < n,σ i ≠ k):∃ i j,i < j/\j < n/\σ i=σ j:=by
 obtain ⟨m,rfl⟩:∃ m,n=m + 1:=⟨n - 1,by omega⟩
 obtain ⟨i,j,h1,h2,e⟩:=rG m (λi=>if k < σ i then σ i - 1 else σ i) λi hi=>by
   have a:=h i hi
   have b:=hn i hi
   split <;> omega
 refine ⟨i,j,h1,h2,?_⟩
 have a:=hn i (by omega)
 have b:=hn j h2
 split at e <;> split at e <;> omega
section
variable {n:Nat} {h:(Nat->Nat->Rat)->Rat}
theorem ML.qO (H:ML n h) (h0:h idQ=0):∀ (d k:Nat),k + d=n->∀ σ:Nat->Nat,(∀ i < n,σ i < n)->(∀ i < k,σ i=i)->h (un1 σ)=0
 | 0,k,hk,σ,_,hf=>by
   rw [<- h0]
   exact H.cong λi hi j _=>by unfold un1 idQ; rw [hf i (by omega)]
 | d + 1,k,hk,σ,hs,hf=>by
   by_cases q:∃ j,k<=j/\j < n/\σ j=k
   · obtain ⟨j,h1,h2,h3⟩:=q
     by_cases z:j=k
     · subst z
       exact ML.qO H h0 d (j + 1) (by omega) σ hs λi hi=>by
         by_cases y:i=j
         · rw [y]; exact h3
         · exact hf i (by omega)
     · have e:un1 σ=ao (ao (un1 σ) k (un1 σ k)) j (un1 σ j):=by rw [bF,bF]
       have e2:ao (ao (un1 σ) k (un1 σ j)) j (un1 σ k)=un1 λi=>if i=j then σ k else if i=k then σ j else σ i:=by
         funext r c
         have zk:¬ k=j:=λy=>z y.symm
         by_cases y1:r=j <;> by_cases y2:r=k <;> simp [ao,un1,y1,y2,zk]
       rw [e,H.swap (by omega) h2 (λy=>z y.symm),e2,ML.qO H h0 d (k + 1) (by omega) _ (λi hi=>?_) (λi hi=>?_)]
       · rfl
       · split
         · exact hs k (by omega)
         · split
           · exact hs j h2
           · exact hs i hi
       · rw [if_neg (by omega)]
         by_cases y:i=k
         · rw [if_pos y,h3,y]
         · rw [if_neg y]
           exact hf i (by omega)
   · obtain ⟨i,j,h1,h2,e⟩:=uj hs (show k < n by omega) λi hi z=>by
       by_cases y:i < k
       · have:=hf i y
         omega
       · exact q ⟨i,by omega,hi,z⟩
     exact H.same (p:=i) (q:=j) (by omega) h2 (by omega) (by funext c; unfold un1; rw [e])
noncomputable def ke (k:Nat) (M:Nat->Nat->Rat) (σ:Nat->Nat) (i j:Nat):Rat:=if i < k then M i j else un1 σ i j
theorem ML.xP (H:ML n h) (h0:h idQ=0) (M:Nat->Nat->Rat):∀ (k:Nat),k<=n->∀ σ:Nat->Nat,(∀ i < n,σ i < n)->h (ke k M σ)=0
 | 0,_,σ,hs=>by
   rw [<- ML.qO H h0 n 0 (by omega) σ hs λi hi=>absurd hi (Nat.not_lt_zero _)]
   exact H.cong λi _ j _=>by unfold ke; rw [if_neg (Nat.not_lt_zero _)]
 | k + 1,hk,σ,hs=>by
   have e:h (ke (k + 1) M σ)=h (ao (ke k M σ) k λj=>ar (λc=>M k c * idQ c j) n):=H.cong λi hi j hj=>by
     unfold ao ke
     by_cases y:i=k
     · subst y
       rw [if_pos (by omega),if_pos rfl]
       exact (de (M i) j n hj).symm
     · rw [if_neg y]
       by_cases z:i < k
       · rw [if_pos (by omega),if_pos z]
       · rw [if_neg (by omega),if_neg z]
   rw [e,H.sum _ (by omega),cb]
   intro c hc
   have e2:ao (ke k M σ) k (idQ c)=ke k M λi=>if i=k then c else σ i:=by
     funext r j
     by_cases y:r=k <;> simp [ao,ke,un1,idQ,y]
   rw [e2,ML.xP H h0 M k (by omega) _ (λi hi=>?_),Rat.mul_zero]
   split
   · exact hc
   · exact hs i hi
theorem ML.zero (H:ML n h) (h0:h idQ=0) (M:Nat->Nat->Rat):h M=0:=by
 rw [<- ML.xP H h0 M n (Nat.le_refl _) (λi=>i) λi hi=>hi]
 exact H.cong λi hi j _=>by unfold ke; rw [if_pos hi]
end
theorem qy:minor idQ 0=idQ:=by
 funext r c
 unfold minor idQ skp
 rw [if_neg (Nat.not_lt_zero _)]
 by_cases h:r=c
 · rw [if_pos (by omega),if_pos h]
 · rw [if_neg (by omega),if_neg h]
theorem mJ:∀ n,det n idQ=1
 | 0=>rfl
 | n + 1=>by
   unfold det
   rw [ak (g:=λi=>det n (minor idQ i) * idQ i 0) λi hi=>?_]
   · have:=de (λi=>det n (minor idQ i)) 0 (n + 1) (by omega)
     have e:(λi=>det n (minor idQ i) * idQ i 0)=λk=>(λi=>det n (minor idQ i)) k * dq k 0:=rfl
     rw [e,this,qy,mJ n]
   · by_cases z:i=0
     · subst z
       show 1 * 1 * _=_ * 1
       grind
     · unfold idQ
       rw [if_neg z]
       grind
theorem ML.uniq {n:Nat} {f:(Nat->Nat->Rat)->Rat} (F:ML n f) (M:Nat->Nat->Rat):f M=det n M * f idQ:=by
 have D:=eV n
 have H:ML n λM=>f M - det n M * f idQ:=by
   refine ⟨λ{M M'} e=>?_,λM p hp a b x y=>?_,λ{M p} hp e=>?_⟩
   · rw [F.cong e,D.cong e]
   · rw [F.lin M hp,D.lin M hp]
     grind
   · rw [F.alt hp e,D.alt hp e]
     grind
 have:=H.zero (by rw [mJ]; grind) M
 grind
theorem lC:∀ {n:Nat} (M:Nat->Nat->Rat) {q:Nat},q < n->∀ (a b:Rat) (x y:Nat->Rat),det n (c8 M q λc=>a * x c + b * y c)=a * det n (c8 M q x) + b * det n (c8 M q y)
 | 0,_,_,h,_,_,_,_=>absurd h (Nat.not_lt_zero _)
 | n + 1,M,q,hq,a,b,x,y=>by
   unfold det
   rw [bj,bj,<- fL]
   refine ak λi hi=>?_
   cases q with
   | zero=>
     have e:∀ v,minor (c8 M 0 v) i=minor M i:=λv=>by
       funext r c
       unfold minor c8
       rw [if_neg (by omega)]
     rw [e,e,e]
     simp only [c8,if_true]
     grind
   | succ q=>
     have e:∀ v,minor (c8 M (q + 1) v) i=c8 (minor M i) q λr=>v (skp i r):=λv=>by
       funext r c
       unfold minor c8
       by_cases z:c=q
       · rw [if_pos (by omega),if_pos z]
       · rw [if_neg (by omega),if_neg z]
     rw [e,e,e,lC (minor M i) (show q < n by omega) a b]
     have z:¬ (0=q + 1):=by omega
     simp only [c8,if_neg z]
     grind
theorem jD (g:Nat->Rat) (i:Nat):∀ n,i<=n->ar (λj=>g (skp i j)) n=ar g (n + 1) - g i
 | 0,h=>by
   have:i=0:=by omega
   subst this
   show (0:Rat)=0 + g 0 - g 0
   grind
 | n + 1,h=>by
   by_cases q:i=n + 1
   · subst q
     have e:ar (λj=>g (skp (n + 1) j)) (n + 1)=ar g (n + 1):=ak λk hk=>by unfold skp; rw [if_pos hk]
     rw [e,ar.eq_2 g (n + 1)]
     grind
   · rw [ar,jD g i n (by omega),ar.eq_2 g (n + 1)]
     have:skp i n=n + 1:=by unfold skp; rw [if_neg (by omega)]
     rw [this]
     grind
theorem pI {n:Nat} {G:Nat->Nat->Rat} (h:∀ i < n,∀ j < n,G i j=-G j i):ar (λi=>ar (λj=>G i j) n) n=0:=by
 have e:ar (λi=>ar (λj=>G i j) n) n=-1 * ar (λi=>ar (λj=>G i j) n) n:=by
   conv=>lhs; rw [cB]
   rw [bj]
   refine ak λi hi=>?_
   rw [bj]
   refine ak λj hj=>?_
   rw [h j hj i hi]
   grind
 grind
theorem ux {i j r:Nat} (h:i < j):skp i (skp (j - 1) r)=skp j (skp i r):=by
 unfold skp
 split <;> split <;> (try split) <;> (try split) <;> omega
theorem lA:∀ {n:Nat} {M:Nat->Nat->Rat} {q:Nat},q + 1 < n->(∀ r < n,M r q=M r (q + 1))->det n M=0
 | 0,_,_,h,_=>absurd h (Nat.not_lt_zero _)
 | 1,_,_,h,_=>by omega
 | n + 2,M,q + 1,hq,h=>by
   rw [det]
   refine cb λi hi=>?_
   rw [lA (M:=minor M i) (q:=q) (by omega) λr hr=>h _ (j5 hr),Rat.mul_zero]
 | n + 2,M,0,hq,h=>by
   let D:Nat->Nat->Rat:=λi j=>det n λr c=>M (skp i (skp j r)) (c + 2)
   let G:Nat->Nat->Rat:=λi j=>if i < j then -(sgn i * sgn j * M i 0 * M j 0 * D i (j - 1)) else if j < i then sgn i * sgn j * M i 0 * M j 0 * D i j else 0
   have inner:∀ i < n + 2,sgn i * M i 0 * det (n + 1) (minor M i)=ar (λj=>G i j) (n + 2):=λi hi=>by
     have e:ar (λj=>G i j) (n + 2)=ar (λj=>G i (skp i j)) (n + 1):=by
       have g0:G i i=0:=by simp only [G]; rw [if_neg (Nat.lt_irrefl i),if_neg (Nat.lt_irrefl i)]
       rw [jD (λj=>G i j) i (n + 1) (by omega),g0]
       grind
     rw [e,det,bj]
     refine ak λj hj=>?_
     have m0:minor M i j 0=M (skp i j) 0:=(h _ (j5 hj)).symm
     have mm:det n (minor (minor M i) j)=D i j:=rfl
     rw [m0,mm]
     simp only [G]
     by_cases z:j < i
     · have s:skp i j=j:=by unfold skp; rw [if_pos z]
       rw [s,if_neg (by omega),if_pos z]
       grind
     · have s:skp i j=j + 1:=by unfold skp; rw [if_neg z]
       rw [s,if_pos (by omega),dZ,show j + 1 - 1=j by omega]
       grind
   rw [det,ak inner]
   refine pI λi hi j hj=>?_
   have sy:∀ {i j:Nat},i < j->D i (j - 1)=D j i:=λ{i j} z=>by
     simp only [D]
     congr 1
     funext r c
     rw [ux z]
   simp only [G]
   rcases Nat.lt_trichotomy i j with z | z | z
   · rw [if_pos z,if_neg (by omega),if_pos z,sy z]
     grind
   · subst z
     rw [if_neg (Nat.lt_irrefl _),if_neg (Nat.lt_irrefl _)]
     rfl
   · rw [if_neg (by omega),if_pos z,if_pos z,sy z]
     grind
theorem iN (n:Nat) (M:Nat->Nat->Rat):det n (λi j=>M j i)=det n M:=by
 have H:ML n λM=>det n λi j=>M j i:=by
   refine ⟨λ{M M'} e=>aC λi hi j hj=>e j hj i hi,λM p hp a b x y=>?_,λ{M p} hp e=>lA hp λr hr=>e r hr⟩
   exact lC (λi j=>M j i) hp a b x y
 have u:=H.uniq M
 have i1:(det n λi j=>idQ j i)=1:=by
   rw [<- mJ n]
   congr 1
   funext i j
   unfold idQ
   by_cases z:i=j
   · rw [if_pos z,if_pos z.symm]
   · rw [if_neg z,if_neg λy=>z y.symm]
 simp only [i1,Rat.mul_one] at u
 exact u
noncomputable def mulQ (n:Nat) (F H:Nat->Nat->Rat) (i j:Nat):Rat:=ar (λk=>F i k * H k j) n
theorem ek (m:Nat):∀ (k:Nat) (M:Nat->Nat->Rat),(∀ i,k<=i->i < k + m->∀ j < k,M i j=0)->det (k + m) M=det k M * det m λi j=>M (k + i) (k + j)
 | 0,M,_=>by
   rw [Nat.zero_add]
   show det m M=1 * _
   rw [Rat.one_mul]
   congr 1
   funext i j
   rw [Nat.zero_add,Nat.zero_add]
 | k + 1,M,h=>by
   have a:k + 1 + m=(k + m) + 1:=by omega
   rw [a,det,det,dR]
   have tail:∀ t,ar (λi=>sgn i * M i 0 * det (k + m) (minor M i)) (k + 1 + t)=ar (λi=>sgn i * M i 0 * det (k + m) (minor M i)) (k + 1)\/¬ t<=m:=by
     intro t
     induction t with
     | zero=>exact .inl rfl
     | succ t ih=>
       by_cases q:t + 1<=m
       · rcases ih with ih | ih
         · refine .inl ?_
           rw [show k + 1 + (t + 1)=(k + 1 + t) + 1 by omega,ar,ih,h (k + 1 + t) (by omega) (by omega) 0 (by omega)]
           grind
         · omega
       · exact .inr q
   rcases tail m with e | e
   · rw [show k + m + 1=k + 1 + m by omega,e]
     refine ak λi hi=>?_
     rw [ek m k (minor M i) λr h1 h2 c hc=>?_]
     · have:(λr c=>minor M i (k + r) (k + c))=λr c=>M (k + 1 + r) (k + 1 + c):=by
         funext r c
         unfold minor skp
         rw [if_neg (by omega),show k + r + 1=k + 1 + r by omega,show k + c + 1=k + 1 + c by omega]
       rw [this]
       grind
     · unfold minor skp
       rw [if_neg (by omega)]
       exact h _ (by omega) (by omega) _ (by omega)
   · exact absurd (Nat.le_refl m) e
theorem iE {n k:Nat} (d:Rat) (β:Nat->Nat->Rat) (M:Nat->Nat->Rat):∀ t,k + t<=n->det n (λi j=>if k<=i/\i < k + t then d * M i j + ar (λa=>β i a * M a j) k else M i j)=d ^ t * det n M
 | 0,_=>by
   rw [Rat.pow_zero,Rat.one_mul]
   congr 1
   funext i j
   have n0:¬ (k<=i/\i < k + 0):=by omega
   rw [if_neg n0]
 | t + 1,h=>by
   have ih:=iE (n:=n) (k:=k) d β M t (by omega)
   have c:=(eV n).comb (λi j=>if k<=i/\i < k + t then d * M i j + ar (λa=>β i a * M a j) k else M i j) (p:=k + t) (k:=k) (by omega) (by omega) d (β (k + t))
   rw [ih] at c
   rw [Rat.pow_succ,Rat.mul_comm (d ^ t) d,Rat.mul_assoc,<- c]
   congr 1
   funext i j
   unfold ao
   by_cases q:i=k + t
   · subst q
     have n1:¬ (k<=k + t/\k + t < k + t):=by omega
     have p1:k<=k + t/\k + t < k + (t + 1):=by omega
     rw [if_pos p1,if_pos rfl]
     dsimp only
     rw [if_neg n1]
     congr 1
     exact ak λa ha=>by
       have na:¬ (k<=a/\a < k + t):=by omega
       rw [if_neg na]
   · rw [if_neg q]
     dsimp only
     by_cases z:k<=i/\i < k + t
     · rw [if_pos (by omega),if_pos z]
     · rw [if_neg (by omega),if_neg z]
theorem se {d:Rat} (h:d ≠ 0):∀ t:Nat,d ^ t ≠ 0
 | 0=>by rw [Rat.pow_zero]; exact λz=>by cases z
 | t + 1=>by
   rw [Rat.pow_succ]
   intro z
   rcases Rat.mul_eq_zero.mp z with y | y
   · exact se h t y
   · exact h y
noncomputable def bm (Y:Nat->Nat->Rat) (k p q:Nat):Rat:=det (k + 1) λr c=>Y (if r < k then r else p) (if c < k then c else q)
noncomputable def bc (Y:Nat->Nat->Rat) (k p i:Nat):Rat:=det (k + 1) (ao (λr c=>Y (if c < k then c else p) r) k (idQ i))
theorem gD (M:Nat->Nat->Rat):det 1 M=M 0 0:=by
 show 0 + 1 * M 0 0 * 1=M 0 0
 grind
theorem sV (M:Nat->Nat->Rat):det 2 M=M 0 0 * M 1 1 - M 0 1 * M 1 0:=by
 show 0 + 1 * M 0 0 * det 1 (minor M 0) + -1 * M 1 0 * det 1 (minor M 1)=_
 rw [gD,gD]
 show 0 + 1 * M 0 0 * M 1 1 + -1 * M 1 0 * M 0 1=_
 grind
section
variable {Y:Nat->Nat->Rat} {k p q:Nat}
theorem rm:bm Y k p q=det k Y * Y p q + ar (λi=>bc Y k p i * Y i q) k:=by
 have e:bm Y k p q=det (k + 1) (ao (λr c=>Y (if c < k then c else p) r) k λr=>ar (λc=>Y (if c < k then c else p) q * idQ c r) (k + 1)):=by
   unfold bm
   rw [<- iN]
   refine aC λi hi j hj=>?_
   unfold ao
   by_cases z:i=k
   · subst z
     rw [if_pos rfl,if_neg (Nat.lt_irrefl _)]
     exact (de (λc=>Y (if c < i then c else p) q) j (i + 1) hj).symm
   · rw [if_neg z,if_pos (show i < k by omega)]
 have last:det (k + 1) (ao (λr c=>Y (if c < k then c else p) r) k (idQ k))=det k Y:=by
   rw [ek 1 k _ λi h1 h2 j hj=>?_,gD]
   · have e1:ao (λr c=>Y (if c < k then c else p) r) k (idQ k) (k + 0) (k + 0)=1:=by
       unfold ao idQ
       rw [if_pos (Nat.add_zero k),if_pos (Nat.add_zero k).symm]
     rw [e1,Rat.mul_one,<- iN]
     refine aC λi hi j hj=>?_
     unfold ao
     rw [if_neg (by omega)]
     dsimp only
     rw [if_pos hi]
   · have:i=k:=by omega
     subst this
     unfold ao idQ
     rw [if_pos rfl,if_neg (by omega)]
 rw [e,(eV (k + 1)).sum _ (Nat.lt_succ_self k),ar,last,if_neg (Nat.lt_irrefl _),Rat.add_comm,Rat.mul_comm (Y p q)]
 congr 1
 exact ak λi hi=>by rw [if_pos hi,Rat.mul_comm]; rfl
theorem nQ (h:q < k):bm Y k p q=0:=by
 unfold bm
 rw [<- iN]
 refine (eV (k + 1)).same (p:=q) (q:=k) (by omega) (by omega) (by omega) ?_
 funext r
 rw [if_pos h,if_neg (Nat.lt_irrefl _)]
theorem sR:bm Y k k k=det (k + 1) Y:=by
 refine aC λi hi j hj=>?_
 have:∀ r,r < k + 1->(if r < k then r else k)=r:=λr hr=>by split <;> omega
 rw [this i hi,this j hj]
theorem sU {i j:Nat} (h0:det k Y ≠ 0):det k Y * bm Y (k + 1) i j=bm Y k k k * bm Y k i j - bm Y k k j * bm Y k i k:=by
 let W:Nat->Nat->Rat:=λr c=>Y (if r < k + 1 then r else i) (if c < k + 1 then c else j)
 have e:=iE (n:=k + 2) (k:=k) (det k Y) (λr a=>bc Y k (if r < k + 1 then r else i) a) W 2 (Nat.le_refl _)
 have ent:∀ r c,(if k<=r/\r < k + 2 then det k Y * W r c + ar (λa=>bc Y k (if r < k + 1 then r else i) a * W a c) k else W r c)=if k<=r/\r < k + 2 then bm Y k (if r < k + 1 then r else i) (if c < k + 1 then c else j) else W r c:=λr c=>by
   by_cases z:k<=r/\r < k + 2
   · rw [if_pos z,if_pos z,rm]
     congr 1
     exact ak λa ha=>by simp only [W]; rw [if_pos (show a < k + 1 by omega)]
   · rw [if_neg z,if_neg z]
 simp only [ent] at e
 rw [ek 2 k _ λr h1 h2 c hc=>?_,sV] at e
 · have a0:k<=k + 0/\k + 0 < k + 2:=by omega
   have a1:k<=k + 1/\k + 1 < k + 2:=by omega
   have b0:k + 0 < k + 1:=by omega
   have b1:¬ k + 1 < k + 1:=by omega
   rw [if_pos a0,if_pos a1,if_pos a0,if_pos a1,if_pos b0,if_neg b1,if_pos b0,if_neg b1,Nat.add_zero] at e
   have dk:(det k λr c=>if k<=r/\r < k + 2 then bm Y k (if r < k + 1 then r else i) (if c < k + 1 then c else j) else W r c)=det k Y:=aC λr hr c hc=>by
     rw [if_neg (by omega)]
     simp only [W]
     rw [if_pos (by omega),if_pos (by omega)]
   rw [dk] at e
   have dw:det (k + 2) W=bm Y (k + 1) i j:=rfl
   rw [dw] at e
   have c:=Rat.inv_mul_cancel (det k Y) h0
   have p2:det k Y ^ 2=det k Y * det k Y:=by rw [Rat.pow_succ,Rat.pow_succ,Rat.pow_zero,Rat.one_mul]
   rw [p2] at e
   have e2:(det k Y)⁻¹ * (det k Y * det k Y * bm Y (k + 1) i j)=(det k Y)⁻¹ * (det k Y * (bm Y k k k * bm Y k i j - bm Y k k j * bm Y k i k)):=congrArg _ e.symm
   rw [Rat.mul_assoc,<- Rat.mul_assoc,c,Rat.one_mul,<- Rat.mul_assoc,c,Rat.one_mul] at e2
   exact e2
 · rw [if_pos ⟨h1,h2⟩,if_pos (show c < k + 1 by omega)]
   exact nQ hc
theorem tJ {n:Nat} (h0:det k Y ≠ 0) (hk:k < n) (h:∀ p,k<=p->p < n->bm Y k p k=0):det n Y=0:=by
 have e:=iE (n:=n) (k:=k) (det k Y) (λr a=>bc Y k r a) Y (n - k) (by omega)
 have ent:∀ r c,(if k<=r/\r < k + (n - k) then det k Y * Y r c + ar (λa=>bc Y k r a * Y a c) k else Y r c)=if k<=r/\r < k + (n - k) then bm Y k r c else Y r c:=λr c=>by
   by_cases z:k<=r/\r < k + (n - k)
   · rw [if_pos z,if_pos z,rm]
   · rw [if_neg z,if_neg z]
 simp only [ent] at e
 have z:(det n λr c=>if k<=r/\r < k + (n - k) then bm Y k r c else Y r c)=0:=by
   obtain ⟨m,hm⟩:∃ m,n=k + (m + 1):=⟨n - k - 1,by omega⟩
   subst hm
   rw [ek (m + 1) k _ λr h1 h2 c hc=>?_]
   · have:det (m + 1) (λi j=>if k<=k + i/\k + i < k + (k + (m + 1) - k) then bm Y k (k + i) (k + j) else Y (k + i) (k + j))=0:=by
       rw [det]
       refine cb λi hi=>?_
       rw [if_pos (by omega),Nat.add_zero,h (k + i) (by omega) (by omega)]
       grind
     rw [this,Rat.mul_zero]
   · rw [if_pos (by omega)]
     exact nQ hc
 rw [z] at e
 rcases Rat.mul_eq_zero.mp e.symm with y | y
 · exact absurd y (se h0 _)
 · exact y
noncomputable def rho (k m r:Nat):Nat:=if r < k then r else if r=k then k + m else if r<=k + m then r - 1 else r
theorem gH {n:Nat}:∀ (m:Nat) (Y:Nat->Nat->Rat),k + m < n->(det n λr=>Y (rho k m r))=sgn m * det n Y
 | 0,Y,_=>by
   have:(λr=>Y (rho k 0 r))=Y:=by
     funext r
     congr 1
     unfold rho
     split
     · rfl
     · split
       · omega
       · split <;> omega
   rw [this]
   show _=1 * _
   rw [Rat.one_mul]
 | m + 1,Y,h=>by
   have ih:=gH (n:=n) m (ao (ao Y (k + m) (Y (k + m + 1))) (k + m + 1) (Y (k + m))) (by omega)
   have s:=(eV n).nb Y (p:=k + m) (by omega) (Y (k + m + 1)) (Y (k + m))
   rw [bF,bF] at s
   rw [s] at ih
   rw [dZ]
   have e:(λr=>ao (ao Y (k + m) (Y (k + m + 1))) (k + m + 1) (Y (k + m)) (rho k m r))=λr=>Y (rho k (m + 1) r):=by
     funext r
     by_cases z:rho k m r=k + m + 1
     · rw [z,bP]
       congr 1
       unfold rho at z ⊢
       split at z
       · omega
       · split at z
         · omega
         · split at z
           · omega
           · rename_i a b c
             rw [if_neg a,if_neg b,if_pos (by omega)]
             omega
     · rw [bO z]
       by_cases y:rho k m r=k + m
       · rw [y,bP]
         congr 1
         unfold rho at y z ⊢
         split at y
         · omega
         · split at y
           · rename_i a b
             rw [if_neg a,if_pos b]
             omega
           · split at y
             · omega
             · omega
       · rw [bO y]
         congr 1
         unfold rho at y z ⊢
         split at y
         · rename_i a
           rw [if_pos a,if_pos a]
         · rename_i a
           rw [if_neg a] at z
           split at y
           · omega
           · rename_i b
             rw [if_neg b] at z
             rw [if_neg a,if_neg b,if_neg a,if_neg b]
             split at y
             · rename_i c
               rw [if_pos c,if_pos (by omega)]
             · rename_i c
               rw [if_neg c] at z
               rw [if_neg c,if_neg (by omega)]
   rw [e] at ih
   rw [ih]
   grind
theorem wK {m:Nat}:bm (λr=>Y (rho k m r)) k p q=bm Y k (rho k m p) q:=by
 refine aC λr hr c hc=>?_
 dsimp only
 congr 1
 by_cases z:r < k
 · rw [if_pos z,if_pos z]
   unfold rho
   rw [if_pos z]
 · rw [if_neg z,if_neg z]
theorem jE {m:Nat}:(det k λr=>Y (rho k m r))=det k Y:=aC λr hr c hc=>by
 unfold rho
 rw [if_pos hr]
end
noncomputable def ZB (b:Nat) (x:Rat):Prop:=∃ z:Int,x=(z:Rat)/\z.natAbs<=2 ^ b
theorem ZB.mono {b c:Nat} {x:Rat} (h:ZB b x) (hc:b<=c):ZB c x:=by
 obtain ⟨z,e,l⟩:=h
 exact ⟨z,e,Nat.le_trans l (Nat.pow_le_pow_right (by decide) hc)⟩
theorem ZB.mul {b c:Nat} {x y:Rat} (h:ZB b x) (g:ZB c y):ZB (b + c) (x * y):=by
 obtain ⟨u,rfl,l⟩:=h
 obtain ⟨v,rfl,k⟩:=g
 exact ⟨u * v,(Rat.intCast_mul u v).symm,by rw [Int.natAbs_mul,Nat.pow_add]; exact Nat.mul_le_mul l k⟩
theorem ZB.sgn (i:Nat):ZB 0 (sgn i):=by
 show ZB 0 (if i % 2=0 then 1 else -1)
 split
 · exact ⟨1,rfl,by decide⟩
 · exact ⟨-1,rfl,by decide⟩
theorem ZB.sum {b:Nat} {f:Nat->Rat}:∀ {n:Nat},(∀ i < n,ZB b (f i))->∃ z:Int,ar f n=(z:Rat)/\z.natAbs<=n * 2 ^ b
 | 0,_=>⟨0,rfl,Nat.zero_le _⟩
 | n + 1,h=>by
   obtain ⟨u,e,l⟩:=ZB.sum λi hi=>h i (Nat.lt_succ_of_lt hi)
   obtain ⟨v,e',l'⟩:=h n (Nat.lt_succ_self n)
   refine ⟨u + v,by rw [ar,e,e',Rat.intCast_add],?_⟩
   rw [Nat.succ_mul]
   exact Nat.le_trans (Int.natAbs_add_le _ _) (Nat.add_le_add l l')
theorem mQ {b:Nat}:∀ {n:Nat} {M:Nat->Nat->Rat},n<=8->(∀ i < n,∀ j < n,ZB b (M i j))->ZB (n * (b + 3)) (det n M)
 | 0,_,_,_=>⟨1,rfl,Nat.one_le_two_pow⟩
 | n + 1,M,hn,h=>by
   obtain ⟨z,e,l⟩:=ZB.sum (b:=b + n * (b + 3)) (f:=λi=>sgn i * M i 0 * det n (minor M i)) (n:=n + 1) λi hi=>by
     have:=((ZB.sgn i).mul (h i hi 0 (by omega))).mul (mQ (n:=n) (M:=minor M i) (by omega) λr hr c hc=>h _ (j5 hr) _ (by omega))
     exact this.mono (by omega)
   refine ⟨z,e,Nat.le_trans l ?_⟩
   rw [show (n + 1) * (b + 3)=3 + (b + n * (b + 3)) by rw [Nat.succ_mul]; omega,Nat.pow_add 2 3]
   exact Nat.mul_le_mul_right _ (by omega)
noncomputable def iR (s:Nat->Rat):Nat->Rat
 | 0=>1
 | n + 1=>iR s n * s n
theorem js {n:Nat} (s:Nat->Rat) (M:Nat->Nat->Rat):∀ t,t<=n->det n (λi j=>if i < t then s i * M i j else M i j)=iR s t * det n M
 | 0,_=>by
   rw [iR,Rat.one_mul]
   exact aC λi _ j _=>if_neg (Nat.not_lt_zero _)
 | t + 1,h=>by
   have ih:=js (n:=n) s M t (by omega)
   have c:=(eV n).comb (λi j=>if i < t then s i * M i j else M i j) (p:=t) (k:=0) (by omega) (Nat.zero_le _) (s t) (λ_=>0)
   rw [ih] at c
   rw [iR,Rat.mul_comm (iR s t),Rat.mul_assoc,<- c]
   refine aC λi _ j _=>?_
   unfold ao
   by_cases q:i=t
   · subst q
     rw [if_pos (Nat.lt_succ_self i),if_pos rfl]
     dsimp only
     rw [if_neg (Nat.lt_irrefl i)]
     show _=_ + 0
     rw [Rat.add_zero]
   · rw [if_neg q]
     dsimp only
     by_cases z:i < t
     · rw [if_pos (by omega),if_pos z]
     · rw [if_neg (by omega),if_neg z]
theorem ZB.num {b:Nat} {x:Rat} (h:ZB b x):x=(x.num:Rat)/\x.num.natAbs<=2 ^ b:=by
 obtain ⟨z,rfl,l⟩:=h
 rw [Rat.num_intCast]
 exact ⟨rfl,l⟩
noncomputable def mn (k:Int) (j:Nat):Bool:=decide (Builtin.bitAnd (k / 2 ^ j) 1=1)
noncomputable def kJ (k:Int) (j:Nat):Int:=Builtin.bitOr k (1 * 2 ^ j)
noncomputable def sgZ (b:Int):Int:=1 - 2 * b.fmod 2
noncomputable def i8 (row:List Int) (k v:Int) (j:Nat) (s:Int × List (Int × Int)):Int × List (Int × Int):=
 if mn k j then (s.1 + 1,s.2) else (s.1,er s.2 (kJ k j) ((bH s.2 (kJ k j)).getD 0 + sgZ s.1 * row.getD j 0 * v))
noncomputable def cv (n:Nat) (row:List Int) (k v:Int) (kv:List (Int × Int)):Nat->Int × List (Int × Int)
 | 0=>(0,kv)
 | c + 1=>i8 row k v (n - 1 - c) (cv n row k v kv c)
noncomputable def bA (n:Nat) (row:List Int) (kv:List (Int × Int)):Nat->List (Int × Int)
 | 0=>[]
 | t + 1=>(cv n row (kv.getD t (0,0)).1 ((bH kv (kv.getD t (0,0)).1).getD 0) (bA n row kv t) n).2
noncomputable def bV (Ms:List (List Int)):Nat->List (Int × Int)
 | 0=>[(0,1)]
 | i + 1=>bA Ms.length (Ms.getD i []) (bV Ms i) (bV Ms i).length
noncomputable def lim:Nat:=2 ^ 3900
noncomputable def okZ (Ms:List (List Int)):Prop:=Ms.length<=7/\(∀ r ∈ Ms,r.length=Ms.length/\∀ x ∈ r,x.natAbs < lim)/\∀ i,i < Ms.length->∀ p ∈ bV Ms i,p.2.natAbs < lim
noncomputable def vM (Ms:List (List Int)):Option Int:=open Classical in if okZ Ms then bH (bV Ms Ms.length) (2 ^ Ms.length - 1) else none
theorem gN (m:Nat) (Y:Nat->Nat->Rat):det (m + 1) Y=ar (λc=>sgn (m + c) * Y m c * det m λr q=>Y r (skp c q)) (m + 1):=by
 have e1:=gH (k:=0) (n:=m + 1) m Y (by omega)
 have e2:=iN (m + 1) λr=>Y (rho 0 m r)
 rw [det] at e2
 have r0:rho 0 m 0=m:=by unfold rho; rw [if_neg (by omega),if_pos rfl]; omega
 have rs:∀ r,r < m->rho 0 m (r + 1)=r:=λr hr=>by
   unfold rho
   rw [if_neg (by omega),if_neg (by omega),if_pos (by omega)]
   omega
 have e3:ar (λc=>sgn c * Y m c * det m λr q=>Y r (skp c q)) (m + 1)=sgn m * det (m + 1) Y:=by
   rw [<- e1,<- e2]
   refine ak λc _=>?_
   rw [r0,<- iN m]
   congr 1
   exact aC λr hr q hq=>by
     unfold minor
     dsimp only
     rw [rs q hq]
 have sm:∀ c,sgn (m + c)=sgn m * sgn c:=λc=>by
   induction c with
   | zero=>rw [Nat.add_zero,show sgn 0=1 from rfl,Rat.mul_one]
   | succ c ih=>rw [<- Nat.add_assoc,dZ,ih,dZ]; grind
 have:ar (λc=>sgn (m + c) * Y m c * det m λr q=>Y r (skp c q)) (m + 1)=sgn m * ar (λc=>sgn c * Y m c * det m λr q=>Y r (skp c q)) (m + 1):=by
   rw [bj]
   refine ak λc _=>?_
   rw [sm]
   grind
 rw [this,e3,<- Rat.mul_assoc,pP,Rat.one_mul]
noncomputable def aO (M:Nat->Nat->Rat) (L:List Nat):Rat:=det L.length λr c=>M r (L.getD c 0)
theorem mq {M:Nat->Nat->Rat} {L:List Nat} {m:Nat} (h:L.length=m + 1):aO M L=ar (λc=>sgn (m - c) * M m (L.getD c 0) * aO M (L.eraseIdx c)) (m + 1):=by
 unfold aO
 rw [h,gN]
 refine ak λc hc=>?_
 have e1:sgn (m + c)=sgn (m - c):=by
   unfold sgn
   by_cases z:(m + c) % 2=0
   · rw [if_pos z,if_pos (by omega)]
   · rw [if_neg z,if_neg (by omega)]
 have e2:(L.eraseIdx c).length=m:=by rw [List.length_eraseIdx_of_lt (by omega)]; omega
 rw [e1,e2]
 refine congrArg (λx=>sgn (m - c) * M m (L.getD c 0) * x) (aC λr _ q hq=>?_)
 rw [List.getD_eq_getElem?_getD,List.getD_eq_getElem?_getD,List.getElem?_eraseIdx]
 unfold skp
 split <;> rfl
noncomputable def cols (n S:Nat):List Nat:=(List.range n).filter λj=>S.testBit j
theorem dN {n S j:Nat}:j ∈ cols n S ↔ j < n/\S.testBit j=true:=by
 unfold cols
 rw [List.mem_filter,List.mem_range]
theorem ou {n S j:Nat} (hj:j < n) (h:S.testBit j=false):cols n (S ||| 2 ^ j)=(cols j S)++j :: ((List.range (n - (j + 1))).map (j + 1 + ·)).filter (λk=>S.testBit k):=by
 unfold cols
 obtain ⟨d,rfl⟩:=Nat.exists_eq_add_of_le (show j + 1<=n from hj)
 rw [List.range_add,List.range_succ,List.filter_append,List.filter_append,show j + 1 + d - (j + 1)=d by omega,List.append_assoc]
 have lo:(List.range j).filter (λk=>(S ||| 2 ^ j).testBit k)=(List.range j).filter λk=>S.testBit k:=List.filter_congr λk hk=>by
   have:=List.mem_range.mp hk
   rw [Nat.testBit_or,Nat.testBit_two_pow_of_ne (by omega),Bool.or_false]
 have hi:((List.range d).map (j + 1 + ·)).filter (λk=>(S ||| 2 ^ j).testBit k)=((List.range d).map (j + 1 + ·)).filter λk=>S.testBit k:=List.filter_congr λk hk=>by
   obtain ⟨q,_,rfl⟩:=List.mem_map.mp hk
   rw [Nat.testBit_or,Nat.testBit_two_pow_of_ne (by omega),Bool.or_false]
 rw [lo,hi,List.filter_cons_of_pos (by rw [Nat.testBit_or,Nat.testBit_two_pow_self,Bool.or_true]),List.filter_nil]
 rfl
noncomputable def above (n j S:Nat):List Nat:=((List.range (n - (j + 1))).map (j + 1 + ·)).filter λk=>S.testBit k
theorem gQ {n S j:Nat} (hj:j < n) (h:S.testBit j=false):cols n S=cols j S++above n j S:=by
 unfold cols above
 obtain ⟨d,rfl⟩:=Nat.exists_eq_add_of_le (show j + 1<=n from hj)
 rw [List.range_add,List.range_succ,List.filter_append,List.filter_append,show j + 1 + d - (j + 1)=d by omega,List.filter_cons_of_neg (by rw [h]; decide),List.filter_nil,List.append_nil]
theorem d8 {n S j:Nat} (hj:j < n) (h:S.testBit j=false):(cols n (S ||| 2 ^ j)).length=(cols n S).length + 1/\(cols n (S ||| 2 ^ j)).getD (cols j S).length 0=j/\(cols n (S ||| 2 ^ j)).eraseIdx (cols j S).length=cols n S/\(cols n S).length - (cols j S).length=(above n j S).length/\(cols j S).length<=(cols n S).length:=by
 rw [ou hj h,gQ hj h]
 refine ⟨by simp only [List.length_append,List.length_cons]; rfl,?_,?_,by rw [List.length_append]; omega,by rw [List.length_append]; omega⟩
 · rw [List.getD_eq_getElem?_getD,List.getElem?_append_right (Nat.le_refl _),Nat.sub_self]
   rfl
 · rw [List.eraseIdx_append_of_length_le (Nat.le_refl _),Nat.sub_self]
   rfl
theorem oI (n S:Nat):cols (n + 1) S=if S.testBit n then cols n S++[n] else cols n S:=by
 unfold cols
 rw [List.range_succ,List.filter_append]
 cases h:S.testBit n with
 | true=>rw [List.filter_cons_of_pos h,List.filter_nil,if_pos rfl]
 | false=>rw [List.filter_cons_of_neg (by rw [h]; decide),List.filter_nil,List.append_nil,if_neg (by decide)]
theorem lH (G:Nat->Nat->Rat) (S:Nat):∀ n,ar (λc=>G c ((cols n S).getD c 0)) (cols n S).length=ar (λj=>if S.testBit j then G (cols j S).length j else 0) n
 | 0=>rfl
 | n + 1=>by
   rw [oI,ar,<- lH G S n]
   cases h:S.testBit n with
   | true=>
     rw [if_pos rfl,if_pos rfl,List.length_append,List.length_singleton,ar]
     have e1:(cols n S++[n]).getD (cols n S).length 0=n:=by
       rw [List.getD_eq_getElem?_getD,List.getElem?_append_right (Nat.le_refl _),Nat.sub_self]
       rfl
     rw [e1]
     refine congrArg (· + G (cols n S).length n) (ak λc hc=>?_)
     rw [List.getD_eq_getElem?_getD,List.getElem?_append_left hc,<- List.getD_eq_getElem?_getD]
   | false=>rw [if_neg (by decide),if_neg (by decide),Rat.add_zero]
theorem fK {S j:Nat} (h:S.testBit j=true):(S ^^^ 2 ^ j).testBit j=false/\(S ^^^ 2 ^ j) ||| 2 ^ j=S/\∀ k,k ≠ j->(S ^^^ 2 ^ j).testBit k=S.testBit k:=by
 have a:∀ k,k ≠ j->(S ^^^ 2 ^ j).testBit k=S.testBit k:=λk hk=>by rw [Nat.testBit_xor,Nat.testBit_two_pow_of_ne (Ne.symm hk),Bool.xor_false]
 have b:(S ^^^ 2 ^ j).testBit j=false:=by rw [Nat.testBit_xor,Nat.testBit_two_pow_self,h]; rfl
 refine ⟨b,Nat.eq_of_testBit_eq λk=>?_,a⟩
 rw [Nat.testBit_or]
 by_cases z:k=j
 · subst z
   rw [Nat.testBit_two_pow_self,Bool.or_true,h]
 · rw [a k z,Nat.testBit_two_pow_of_ne (Ne.symm z),Bool.or_false]
theorem jx {M:Nat->Nat->Rat} {n m S:Nat} (h:(cols n S).length=m + 1):aO M (cols n S)=ar (λj=>if S.testBit j then sgn (above n j S).length * M m j * aO M (cols n (S ^^^ 2 ^ j)) else 0) n:=by
 rw [mq h,<- h,lH (λc j=>sgn (m - c) * M m j * aO M ((cols n S).eraseIdx c)) S n]
 refine ak λj hj=>?_
 cases hb:S.testBit j with
 | false=>rfl
 | true=>
   rw [if_pos rfl,if_pos rfl]
   obtain ⟨b1,b2,b3⟩:=fK hb
   obtain ⟨c1,c2,c3,c4,c5⟩:=d8 hj b1
   rw [b2] at c1 c2 c3
   have l1:cols j (S ^^^ 2 ^ j)=cols j S:=List.filter_congr λk hk=>b3 k (by have:=List.mem_range.mp hk; omega)
   have l2:above n j (S ^^^ 2 ^ j)=above n j S:=List.filter_congr λk hk=>by
     obtain ⟨q,_,rfl⟩:=List.mem_map.mp hk
     exact b3 _ (by omega)
   rw [l1] at c3 c4
   rw [l2] at c4
   rw [c3,<- c4,show (cols n (S ^^^ 2 ^ j)).length=m by omega]
theorem xl (S j:Nat):mn (S:Int) j=S.testBit j:=by
 unfold mn
 have e:(S:Int) / 2 ^ j=((S / 2 ^ j:Nat):Int):=by simp
 rw [e,PyProof.Rows.bitAnd_pp (Int.natCast_nonneg _) (by decide),Int.toNat_natCast,Nat.testBit_eq_decide_div_mod_eq]
 have:(S / 2 ^ j) &&& (1:Int).toNat=S / 2 ^ j % 2:=by show (S / 2 ^ j) &&& 1=_; rw [Nat.and_one_is_mod]
 rw [this]
 congr 1
 rw [eq_iff_iff]
 omega
theorem xo (S j:Nat):kJ (S:Int) j=((S ||| 2 ^ j:Nat):Int):=by
 unfold kJ
 have e:(1:Int) * 2 ^ j=((2 ^ j:Nat):Int):=by simp
 rw [e]
 generalize 2 ^ j=y
 unfold Builtin.bitOr
 have h1:¬ (0<=Builtin.bitNot (S:Int)):=by unfold Builtin.bitNot; omega
 have h2:¬ (0<=Builtin.bitNot (y:Int)):=by unfold Builtin.bitNot; omega
 rw [PyProof.Rows.bitAnd_nn h1 h2]
 have h3:∀ x:Int,Builtin.bitNot (Builtin.bitNot x)=x:=λx=>by unfold Builtin.bitNot; omega
 rw [h3,h3,h3,Int.toNat_natCast,Int.toNat_natCast]
theorem yB (k:Nat):((sgZ (k:Int):Int):Rat)=sgn k:=by
 unfold sgZ sgn
 rw [Int.fmod_eq_emod_of_nonneg _ (by decide)]
 by_cases h:k % 2=0
 · rw [if_pos h,show (k:Int) % 2=0 by omega]; rfl
 · rw [if_neg h,show (k:Int) % 2=1 by omega]; rfl
theorem jK (kv:List (Int × Int)) (k v j:Int):bH (er kv k v) j=if j=k then some v else bH kv j:=by
 have e:=qY (Ev.cq kv) (Sum.inl k) (Sum.inl j) (V.int v)
 rw [nh,fB,fB] at e
 by_cases h:j=k
 · rw [if_pos (congrArg Sum.inl h)] at e
   rw [if_pos h]
   cases z:bH (er kv k v) j with
   | none=>rw [z] at e; cases e
   | some x=>rw [z] at e; cases e; rfl
 · rw [if_neg (λz=>h (Sum.inl.inj z))] at e
   rw [if_neg h]
   cases z:bH (er kv k v) j <;> cases z':bH kv j <;> rw [z,z'] at e <;> cases e <;> rfl
theorem kY (kv:List (Int × Int)) (k v:Int):(er kv k v).map (·.1)=if (kv.any λp=>decide (p.1=k))=true then kv.map (·.1) else kv.map (·.1)++[k]:=by
 unfold er
 split
 · rw [List.map_map]
   refine List.map_congr_left λp _=>?_
   simp only [Function.comp]
   split <;> rfl
 · rw [List.map_append]; rfl
theorem vn {kv:List (Int × Int)} {k v:Int} (h:(kv.map (·.1)).Nodup):((er kv k v).map (·.1)).Nodup:=by
 rw [kY]
 split
 · exact h
 · rename_i z
   rw [List.nodup_append]
   refine ⟨h,by simp,λa ha b hb e=>z ?_⟩
   obtain ⟨p,hp,rfl⟩:=List.mem_map.mp ha
   rw [List.mem_singleton] at hb
   exact List.any_eq_true.mpr ⟨p,hp,decide_eq_true (e.trans hb)⟩
theorem tN {kv:List (Int × Int)} {k v x:Int} (h:x ∈ (er kv k v).map (·.1)):x=k\/x ∈ kv.map (·.1):=by
 rw [kY] at h
 split at h
 · exact .inr h
 · rcases List.mem_append.mp h with h | h
   · exact .inr h
   · exact .inl (List.mem_singleton.mp h)
theorem mE:∀ {kv:List (Int × Int)} {q:Int × Int},(kv.map (·.1)).Nodup->q ∈ kv->bH kv q.1=some q.2
 | p :: t,q,h,hq=>by
   rw [List.map_cons,List.nodup_cons] at h
   unfold bH
   by_cases z:p.1=q.1
   · rw [List.find?_cons_of_pos (by simp [z])]
     rcases List.mem_cons.mp hq with e | hq
     · rw [e]; rfl
     · exact absurd (List.mem_map.mpr ⟨q,hq,z.symm⟩) h.1
   · rw [List.find?_cons_of_neg (by simp [z])]
     rcases List.mem_cons.mp hq with e | hq
     · exact absurd (by rw [e]) z
     · exact mE h.2 hq
theorem qw:∀ {kv:List (Int × Int)} {k v:Int},bH kv k=some v->(k,v) ∈ kv
 | p :: t,k,v,h=>by
   unfold bH at h
   by_cases z:p.1=k
   · rw [List.find?_cons_of_pos (by simp [z])] at h
     cases h
     rw [<- z]
     exact List.mem_cons_self ..
   · rw [List.find?_cons_of_neg (by simp [z])] at h
     exact List.mem_cons_of_mem _ (qw h)
noncomputable def gv (kv:List (Int × Int)) (k:Int):Rat:=(((bH kv k).getD 0:Int):Rat)
theorem wa (kv:List (Int × Int)) (k j x:Int):gv (er kv k ((bH kv k).getD 0 + x)) j=gv kv j + if j=k then (x:Rat) else 0:=by
 unfold gv
 rw [jK]
 by_cases h:j=k
 · rw [if_pos h,if_pos h,h,Option.getD_some,Rat.intCast_add]
 · rw [if_neg h,if_neg h,Rat.add_zero]
theorem mM {n j S:Nat} (h:j + 1 < n):(above n j S).length=(if S.testBit (j + 1) then 1 else 0) + (above n (j + 1) S).length:=by
 unfold above
 obtain ⟨d,rfl⟩:=Nat.exists_eq_add_of_le (show j + 2<=n from h)
 rw [show j + 2 + d - (j + 1)=d + 1 by omega,show j + 2 + d - (j + 1 + 1)=d by omega,List.range_succ_eq_map,List.map_cons,List.map_map,List.filter_cons]
 have e:(List.range d).map ((j + 1 + ·) ∘ Nat.succ)=(List.range d).map (j + 1 + 1 + ·):=List.map_congr_left λk _=>by simp only [Function.comp]; omega
 rw [e,Nat.add_zero]
 split
 · rw [List.length_cons]; omega
 · omega
theorem l3 {n S:Nat}:(above (n + 1) n S).length=0:=by
 unfold above
 rw [show n + 1 - (n + 1)=0 by omega]
 rfl
theorem iH (g:Nat->Rat):∀ n,ar g (n + 1)=g 0 + ar (λk=>g (k + 1)) n
 | 0=>by simp only [ar,Rat.add_zero,Rat.zero_add]
 | n + 1=>by
   rw [ar,iH g n,ar,Rat.add_assoc]
theorem kT (f:Nat->Rat):∀ n,ar (λt=>f (n - 1 - t)) n=ar f n
 | 0=>rfl
 | n + 1=>by
   rw [iH,ar,Rat.add_comm,show n + 1 - 1 - 0=n by omega,<- kT f n]
   refine congrArg (· + f n) (ak λk hk=>?_)
   rw [show n + 1 - 1 - (k + 1)=n - 1 - k by omega]
noncomputable def my (n S:Nat):Nat->Nat
 | 0=>0
 | c + 1=>my n S c + if S.testBit (n - 1 - c) then 1 else 0
theorem jy {n S:Nat}:∀ c,c < n->my n S c=(above n (n - 1 - c) S).length
 | 0,h=>by
   obtain ⟨m,rfl⟩:=Nat.exists_eq_succ_of_ne_zero (show n ≠ 0 by omega)
   rw [show m.succ - 1 - 0=m by omega,l3]
   rfl
 | c + 1,h=>by
   rw [my,jy c (by omega),mM (n:=n) (j:=n - 1 - (c + 1)) (by omega),show n - 1 - (c + 1) + 1=n - 1 - c by omega]
   omega
noncomputable def evQ (n:Nat) (row:List Int) (S:Nat) (v:Rat) (T:Int) (j:Nat):Rat:=if S.testBit j then 0 else if T=((S ||| 2 ^ j:Nat):Int) then sgn (above n j S).length * ((row.getD j 0:Int):Rat) * v else 0
structure CI (n S:Nat) (row:List Int) (v:Int) (lk:List (Int × Int)) (c:Nat) (r:Int × List (Int × Int)):Prop where
 cnt:r.1=(my n S c:Nat)
 val:∀ T,gv r.2 T=gv lk T + ar (λt=>evQ n row S v T (n - 1 - t)) c
 key:∀ x ∈ r.2.map (·.1),x ∈ lk.map (·.1)\/∃ j,j < n/\S.testBit j=false/\x=((S ||| 2 ^ j:Nat):Int)
 nd:(r.2.map (·.1)).Nodup
 old:∀ T,bH lk T ≠ none->bH r.2 T ≠ none
 new:∀ t < c,S.testBit (n - 1 - t)=false->bH r.2 ((S ||| 2 ^ (n - 1 - t):Nat):Int) ≠ none
theorem ny {n S:Nat} {row:List Int} {v:Int} {lk:List (Int × Int)} (hn:(lk.map (·.1)).Nodup):∀ c,c<=n->CI n S row v lk c (cv n row (S:Int) v lk c)
 | 0,_=>⟨rfl,λT=>by rw [ar,Rat.add_zero]; rfl,λx h=>.inl h,hn,λ_ h=>h,λt h=>by omega⟩
 | c + 1,hc=>by
   obtain ⟨h1,h2,h3,h4,h5,h6⟩:=ny (n:=n) (S:=S) (row:=row) (v:=v) hn c (by omega)
   rw [cv,i8,xl,xo]
   generalize cv n row (S:Int) v lk c=r at h1 h2 h3 h4 h5 h6 ⊢
   cases hb:S.testBit (n - 1 - c) with
   | true=>
     rw [if_pos rfl]
     refine ⟨by dsimp only; rw [h1,my,hb,if_pos rfl]; omega,λT=>?_,h3,h4,h5,λt ht hf=>?_⟩
     · rw [ar,evQ,if_pos hb,Rat.add_zero]; exact h2 T
     · rcases Nat.lt_or_ge t c with z | z
       · exact h6 t z hf
       · obtain rfl:t=c:=by omega
         rw [hb] at hf; cases hf
   | false=>
     rw [if_neg (by decide)]
     refine ⟨by dsimp only; rw [h1,my,hb]; rfl,λT=>?_,λx hx=>?_,vn h4,λT hT=>?_,λt ht hf=>?_⟩
     · dsimp only
       have e:evQ n row S v T (n - 1 - c)=if T=((S ||| 2 ^ (n - 1 - c):Nat):Int) then sgn (my n S c) * ((row.getD (n - 1 - c) 0:Int):Rat) * v else 0:=by
         unfold evQ
         rw [if_neg (by rw [hb]; decide),<- jy (n:=n) (S:=S) c (by omega)]
       rw [wa,h2,ar,<- Rat.add_assoc,e,h1,Rat.intCast_mul,Rat.intCast_mul,yB]
     · rcases tN hx with e | e
       · exact .inr ⟨n - 1 - c,by omega,hb,e⟩
       · exact h3 x e
     · dsimp only
       rw [jK]
       split
       · exact nofun
       · exact h5 T hT
     · dsimp only
       rw [jK]
       split
       · exact nofun
       · rename_i z
         rcases Nat.lt_or_ge t c with y | y
         · exact h6 t y hf
         · obtain rfl:t=c:=by omega
           exact absurd rfl z
structure MI (n:Nat) (row:List Int) (Sf:Nat->Nat) (vf:Nat->Rat) (t:Nat) (r:List (Int × Int)):Prop where
 val:∀ T,gv r T=ar (λs=>ar (evQ n row (Sf s) (vf s) T) n) t
 key:∀ x ∈ r.map (·.1),∃ s < t,∃ j,j < n/\(Sf s).testBit j=false/\x=((Sf s ||| 2 ^ j:Nat):Int)
 nd:(r.map (·.1)).Nodup
 new:∀ s < t,∀ j < n,(Sf s).testBit j=false->bH r ((Sf s ||| 2 ^ j:Nat):Int) ≠ none
theorem lF {n:Nat} {row:List Int} {kv:List (Int × Int)} {Sf:Nat->Nat} (hS:∀ s < kv.length,(kv.getD s (0,0)).1=(Sf s:Int)):∀ t,t<=kv.length->MI n row Sf (λs=>gv kv (Sf s)) t (bA n row kv t)
 | 0,_=>⟨λT=>rfl,λx h=>by simp [bA] at h,by simp [bA],λs h=>by omega⟩
 | t + 1,ht=>by
   obtain ⟨h1,h2,h3,h4⟩:=lF (n:=n) (row:=row) hS t (by omega)
   rw [bA,hS t (by omega)]
   generalize bA n row kv t=r at h1 h2 h3 h4 ⊢
   obtain ⟨_,c2,c3,c4,c5,c6⟩:=ny (n:=n) (S:=Sf t) (row:=row) (v:=(bH kv (Sf t:Int)).getD 0) h3 n (Nat.le_refl _)
   refine ⟨λT=>?_,λx hx=>?_,c4,λs hs j hj hf=>?_⟩
   · rw [c2,h1,ar,kT (evQ n row (Sf t) _ T)]
     rfl
   · rcases c3 x hx with e | ⟨j,e⟩
     · obtain ⟨s,hs,e⟩:=h2 x e
       exact ⟨s,by omega,e⟩
     · exact ⟨t,by omega,j,e⟩
   · rcases Nat.lt_or_ge s t with z | z
     · exact c5 _ (h4 s z j hj hf)
     · obtain rfl:s=t:=by omega
       have:=c6 (n - 1 - j) (by omega)
       rw [show n - 1 - (n - 1 - j)=j by omega] at this
       exact this hf
structure RI (n i:Nat) (M:Nat->Nat->Rat) (kv:List (Int × Int)):Prop where
 key:∀ x ∈ kv.map (·.1),∃ S:Nat,x=(S:Int)/\S < 2 ^ n/\(cols n S).length=i
 nd:(kv.map (·.1)).Nodup
 all:∀ S:Nat,S < 2 ^ n->(cols n S).length=i->bH kv (S:Int) ≠ none/\gv kv (S:Int)=aO M (cols n S)
theorem rQ {S T j:Nat} (h:S.testBit j=false) (e:T=S ||| 2 ^ j):T.testBit j=true/\S=T ^^^ 2 ^ j:=by
 have h1:T.testBit j=true:=by rw [e,Nat.testBit_or,Nat.testBit_two_pow_self,Bool.or_true]
 refine ⟨h1,Nat.eq_of_testBit_eq λk=>?_⟩
 obtain ⟨b1,_,b3⟩:=fK h1
 by_cases z:k=j
 · subst z; rw [h,b1]
 · rw [b3 k z,e,Nat.testBit_or,Nat.testBit_two_pow_of_ne (Ne.symm z),Bool.or_false]
theorem RI.step {n i:Nat} {M:Nat->Nat->Rat} {kv:List (Int × Int)} {row:List Int} (h:RI n i M kv) (hr:∀ j < n,((row.getD j 0:Int):Rat)=M i j):RI n (i + 1) M (bA n row kv kv.length):=by
 have hS:∀ s < kv.length,(kv.getD s (0,0)).1=((kv.getD s (0,0)).1.toNat:Int)/\(kv.getD s (0,0)).1.toNat < 2 ^ n/\(cols n (kv.getD s (0,0)).1.toNat).length=i:=λs hs=>by
   have hm:kv.getD s (0,0) ∈ kv:=by rw [List.getD_eq_getElem?_getD,List.getElem?_eq_getElem hs]; exact List.getElem_mem hs
   obtain ⟨S,e1,e2,e3⟩:=h.key _ (List.mem_map.mpr ⟨_,hm,rfl⟩)
   rw [e1,Int.toNat_natCast]
   exact ⟨rfl,e2,e3⟩
 obtain ⟨m1,m2,m3,m4⟩:=lF (n:=n) (row:=row) (kv:=kv) (Sf:=λs=>(kv.getD s (0,0)).1.toNat) (λs hs=>(hS s hs).1) kv.length (Nat.le_refl _)
 have off:∀ {T j:Nat},T < 2 ^ n->(cols n T).length=i + 1->j < n->T.testBit j=true->T ^^^ 2 ^ j < 2 ^ n/\(cols n (T ^^^ 2 ^ j)).length=i/\∃ s < kv.length,(kv.getD s (0,0)).1.toNat=T ^^^ 2 ^ j:=λ{T j} hT hl hj hb=>by
   obtain ⟨b1,b2,_⟩:=fK hb
   have l1:T ^^^ 2 ^ j < 2 ^ n:=Nat.xor_lt_two_pow hT (Nat.pow_lt_pow_right (by decide) hj)
   have l2:=(d8 hj b1).1
   rw [b2,hl] at l2
   refine ⟨l1,by omega,?_⟩
   obtain ⟨q,_⟩:=h.all _ l1 (by omega)
   cases z:bH kv ((T ^^^ 2 ^ j:Nat):Int) with
   | none=>exact absurd z q
   | some v=>
     obtain ⟨s,hs⟩:=List.getElem?_of_mem (qw z)
     refine ⟨s,(List.getElem?_eq_some_iff.mp hs).1,?_⟩
     rw [List.getD_eq_getElem?_getD,hs]
     show (((T ^^^ 2 ^ j:Nat):Int)).toNat=_
     rw [Int.toNat_natCast]
 refine ⟨λx hx=>?_,m3,λT hT hl=>⟨?_,?_⟩⟩
 · obtain ⟨s,hs,j,hj,hf,rfl⟩:=m2 x hx
   obtain ⟨_,e2,e3⟩:=hS s hs
   exact ⟨_,rfl,Nat.or_lt_two_pow e2 (Nat.pow_lt_pow_right (by decide) hj),by rw [(d8 hj hf).1,e3]⟩
 · obtain ⟨j,hj⟩:=List.exists_mem_of_length_pos (l:=cols n T) (by omega)
   obtain ⟨hj,hb⟩:=dN.mp hj
   obtain ⟨_,_,s,hs,e⟩:=off hT hl hj hb
   obtain ⟨b1,b2,_⟩:=fK hb
   have:=m4 s hs j hj
   try dsimp only at this
   rw [e,b2] at this
   exact this b1
 · rw [m1,cB (λs j=>evQ n row (kv.getD s (0,0)).1.toNat (gv kv ((kv.getD s (0,0)).1.toNat:Int)) (T:Int) j) n kv.length,jx hl]
   refine ak λj hj=>?_
   cases hb:T.testBit j with
   | false=>
     rw [if_neg (by decide)]
     refine cb λs hs=>?_
     unfold evQ
     cases hf:(kv.getD s (0,0)).1.toNat.testBit j with
     | true=>rw [if_pos rfl]
     | false=>
       rw [if_neg (by decide),if_neg λz=>?_]
       have:=(rQ hf (Int.ofNat.inj z)).1
       rw [hb] at this; cases this
   | true=>
     rw [if_pos rfl]
     obtain ⟨l1,l2,s0,hs0,e0⟩:=off hT hl hj hb
     obtain ⟨b1,b2,b3⟩:=fK hb
     have ea:above n j (T ^^^ 2 ^ j)=above n j T:=List.filter_congr λk hk=>by
       obtain ⟨q,_,rfl⟩:=List.mem_map.mp hk
       exact b3 _ (by omega)
     rw [<- (h.all _ l1 l2).2,<- hr j hj,<- ea,<- de (λ_=>sgn (above n j (T ^^^ 2 ^ j)).length * ((row.getD j 0:Int):Rat) * gv kv ((T ^^^ 2 ^ j:Nat):Int)) s0 kv.length hs0]
     refine ak λs hs=>?_
     unfold evQ dq
     by_cases z:s=s0
     · subst z
       rw [e0,b1,b2,if_neg (by decide),if_pos rfl,if_pos rfl,Rat.mul_one]
     · rw [if_neg z,Rat.mul_zero]
       cases hf:(kv.getD s (0,0)).1.toNat.testBit j with
       | true=>rw [if_pos rfl]
       | false=>
         rw [if_neg (by decide),if_neg λy=>z ?_]
         have e1:=(rQ hf (Int.ofNat.inj y)).2
         have e2:(kv.map (·.1))[s]?=(kv.map (·.1))[s0]?:=by
           have g:∀ s < kv.length,(kv.map (·.1))[s]?=some (kv.getD s (0,0)).1:=λs hs=>by
             rw [List.getElem?_map,List.getD_eq_getElem?_getD,List.getElem?_eq_getElem hs]; rfl
           rw [g s hs,g s0 hs0,(hS s hs).1,(hS s0 hs0).1,e1,e0]
         exact (List.getElem?_inj (by rw [List.length_map]; exact hs) h.nd).mp e2
theorem RI.zero (n:Nat) (M:Nat->Nat->Rat):RI n 0 M [(0,1)]:=by
 have c0:∀ S:Nat,S < 2 ^ n->(cols n S).length=0->S=0:=λS hS h=>Nat.eq_of_testBit_eq λk=>by
   rw [Nat.zero_testBit]
   rcases Nat.lt_or_ge k n with z | z
   · cases hb:S.testBit k with
     | false=>rfl
     | true=>
       have:=dN.mpr ⟨z,hb⟩
       rw [List.length_eq_zero_iff.mp h] at this
       cases this
   · exact Nat.testBit_lt_two_pow (Nat.lt_of_lt_of_le hS (Nat.pow_le_pow_right (by decide) z))
 refine ⟨λx hx=>⟨0,?_,Nat.two_pow_pos n,?_⟩,by simp,λS hS h=>?_⟩
 · simpa using hx
 · unfold cols
   rw [List.filter_eq_nil_iff.mpr λa _=>by rw [Nat.zero_testBit]; decide]
   rfl
 · obtain rfl:=c0 S hS h
   refine ⟨nofun,?_⟩
   rw [aO,h]
   rfl
theorem gE {n:Nat} {M:Nat->Nat->Rat} {Ms:List (List Int)} (hl:Ms.length=n) (hM:∀ i < n,∀ j < n,(((Ms.getD i []).getD j 0:Int):Rat)=M i j):∀ i,i<=n->RI n i M (bV Ms i)
 | 0,_=>RI.zero n M
 | i + 1,h=>by
   rw [bV,hl]
   exact (gE hl hM i (by omega)).step (hM i (by omega))
theorem uo {n b:Nat} {M:Nat->Nat->Rat} (hn:n<=7) (hM:∀ i < n,∀ j < n,ZB b (M i j)) {S:Nat}:ZB (n * (b + 3)) (aO M (cols n S)):=by
 unfold aO
 have hl:(cols n S).length<=n:=by
   have:=List.length_filter_le (λj=>S.testBit j) (List.range n)
   rw [List.length_range] at this
   exact this
 refine (mQ (b:=b) (by omega) λi hi j hj=>hM i (by omega) _ ?_).mono (Nat.mul_le_mul_right _ hl)
 rw [List.getD_eq_getElem?_getD,List.getElem?_eq_getElem hj]
 exact (dN.mp (List.getElem_mem hj)).1
set_option exponentiation.threshold 4000 in
theorem wF {n b:Nat} {M:Nat->Nat->Rat} {Ms:List (List Int)} (hn:n<=7) (hl:Ms.length=n) (hr:∀ r ∈ Ms,r.length=n/\∀ x ∈ r,x.natAbs<=2 ^ b) (hM:∀ i < n,∀ j < n,(((Ms.getD i []).getD j 0:Int):Rat)=M i j) (hb:n * (b + 3)<=3800) (hb':b<=3800) :
   ∃ d:Int,vM Ms=some d/\(d:Rat)=det n M:=by
 have zb:∀ i < n,∀ j < n,ZB b (M i j):=λi hi j hj=>by
   have h1:i < Ms.length:=by omega
   have h2:Ms.getD i [] ∈ Ms:=by rw [List.getD_eq_getElem?_getD,List.getElem?_eq_getElem h1]; exact List.getElem_mem h1
   refine ⟨_,(hM i hi j hj).symm,(hr _ h2).2 _ ?_⟩
   have h3:j < (Ms.getD i []).length:=by rw [(hr _ h2).1]; exact hj
   rw [List.getD_eq_getElem?_getD (l:=Ms.getD i []),List.getElem?_eq_getElem h3]
   exact List.getElem_mem h3
 have lm:∀ {x c:Nat},x<=2 ^ c->c<=3800->x < lim:=λ{x c} h hc=>Nat.lt_of_le_of_lt h (Nat.pow_lt_pow_right (by decide) (by omega))
 have ok:okZ Ms:=by
   refine ⟨by omega,λr h=>⟨by rw [hl]; exact (hr r h).1,λx hx=>lm ((hr r h).2 x hx) hb'⟩,λi hi p hp=>?_⟩
   have R:=gE hl hM i (by omega)
   obtain ⟨S,e1,e2,e3⟩:=R.key _ (List.mem_map.mpr ⟨p,hp,rfl⟩)
   have e4:=(R.all S e2 e3).2
   rw [<- e1] at e4
   unfold gv at e4
   rw [mE R.nd hp,Option.getD_some] at e4
   obtain ⟨z,e5,e6⟩:=uo (S:=S) hn zb
   rw [e5] at e4
   rw [Rat.intCast_inj.mp e4]
   exact lm e6 hb
 have R:=gE hl hM n (Nat.le_refl _)
 have bits:cols n (2 ^ n - 1)=List.range n:=List.filter_eq_self.mpr λk hk=>by
   rw [Nat.testBit_two_pow_sub_one]
   exact decide_eq_true (List.mem_range.mp hk)
 have p2:=Nat.two_pow_pos n
 obtain ⟨q1,q2⟩:=R.all (2 ^ n - 1) (by omega) (by rw [bits,List.length_range])
 have e1:((2 ^ n - 1:Nat):Int)=2 ^ n - 1:=by rw [Int.natCast_sub p2]; simp
 unfold vM
 rw [if_pos ok,hl,<- e1]
 cases z:bH (bV Ms n) ((2 ^ n - 1:Nat):Int) with
 | none=>exact absurd z q1
 | some d=>
   refine ⟨d,rfl,?_⟩
   unfold gv at q2
   rw [z,Option.getD_some] at q2
   rw [q2,aO,bits,List.length_range]
   refine aC λi hi j hj=>?_
   rw [List.getD_eq_getElem?_getD,List.getElem?_range hj]
   rfl
section
variable {P:Program} {w:World} {K:PySem.W.Frag} {mg:Str->Option Value} {base:Heap} {k:Nat} {f:Addr} {fd:FuncData} {qual:Str}
end
noncomputable def iY:Int->List Int->List Int
 | _,[]=>[]
 | c,b :: r=>c.fmod b :: iY (c.fdiv b) r
noncomputable def sL (c:Int) (bs:List Int):Int:=bs.foldl (λc b=>c.fdiv b) c
noncomputable def wu (c:Int) (k:Nat) (b:Int):Int:=(((((c * 48271 + (k:Int) * k * 69621 + (k:Int) * 16807 + 11).fmod 2147483647) * 40692 + c + 31 * (k:Int)).fmod 2147483399).fdiv 7).fmod b
noncomputable def sQ (c:Int) (bs:List Int):List Int:=(List.range bs.length).map λk=>wu c k (bs.getD k 0)
noncomputable def nums (c:Int) (bs:List Int):List Int:=if (10:Int) ^ (18:Int).toNat<=mz c then iY c bs else sQ c bs
theorem jw:∀ (bs:List Int) (c b:Int),iY c (bs++[b])=iY c bs++[(sL c bs).fmod b]
 | [],_,_=>rfl
 | a :: bs,c,b=>by rw [List.cons_append,iY,iY,jw bs]; rfl
theorem hU:∀ (bs:List Int) (c:Int),(iY c bs).length=bs.length
 | [],_=>rfl
 | _ :: bs,c=>congrArg (· + 1) (hU bs _)
theorem lM (c:Int) (bs:List Int):(nums c bs).length=bs.length:=by
 unfold nums
 split
 · exact hU bs c
 · simp [sQ]
theorem nM:∀ (bs:List Int) (c:Int),(∀ b ∈ bs,0 < b)->∀ (i:Nat),i < bs.length->0<=(iY c bs).getD i 0/\(iY c bs).getD i 0 < bs.getD i 0
 | b :: bs,c,h,0,_=>by
   have:=h b (List.mem_cons_self ..)
   exact ⟨Int.fmod_nonneg_of_pos c this,Int.fmod_lt_of_pos c this⟩
 | b :: bs,c,h,i + 1,hi=>by
   have:=nM bs (c.fdiv b) (λx hx=>h x (List.mem_cons_of_mem _ hx)) i (by simpa using hi)
   simpa [iY] using this
theorem uA {c:Int} {bs:List Int} (h:∀ b ∈ bs,0 < b) {i:Nat} (hi:i < bs.length):0<=(nums c bs).getD i 0/\(nums c bs).getD i 0 < bs.getD i 0:=by
 unfold nums
 split
 · exact nM bs c h i hi
 · have hp:0 < bs.getD i 0:=h _ (by simp [hi])
   have e:(sQ c bs).getD i 0=wu c i (bs.getD i 0):=by simp [sQ,hi]
   rw [e]
   exact ⟨Int.fmod_nonneg_of_pos _ hp,Int.fmod_lt_of_pos _ hp⟩
theorem take_snoc {α:Type} {xs:List α} {i:Nat} (d:α) (h:i < xs.length):xs.take (i + 1)=xs.take i++[xs.getD i d]:=by
 rw [List.take_add_one,List.getElem?_eq_getElem h]
 simp [h]
theorem sE {b:Int} (h0:0 < b) (h:b < 2 ^ 60):0 < b/\aH b:=⟨h0,mkD (by omega) (by omega)⟩
noncomputable def cQ (ds:List D) (r:Sl):Prop:=∃ (c:Int) (bs:List Int),ds=[.int c,.lst (bs.map .int)]/\bs.length<=10000/\(∀ b ∈ bs,0 < b/\aH b)/\r=.o ((nums c bs).map .int)
section
variable {P:Program} {w:World} {K:PySem.W.Frag} {mg:Str->Option Value} {base:Heap} {k:Nat} {f:Addr} {fd:FuncData} {qual:Str}
theorem kl (F:Fun K "_law_numbers" qual (top 42) f fd) (hb:∀ x ∈ aj,mg x=none):aR P w K mg base CX0 (k + 1) f fd ["_law_cell_here","_law_bases"] (spD K cQ):=by
 refine fnD F fI hb (by rintro _ _ ⟨_,_,rfl,_⟩; rfl) ?_
 rintro _ _ ⟨c,bs,rfl,hl,hbs,rfl⟩ cdv A outer s H E b
 have nd:=fI.nd
 have hp:∀ i,i < bs.length->0 < bs.getD i 0/\aH (bs.getD i 0):=λi hi=>hbs _ (by simp [hi])
 refine ay 2 nd (fb ag) ?_
 refine dD (bb (bg b (ae (aa 0) ag) jH) (aw af af (iV ⟨by decide,by decide,by decide⟩)) tw) (λh=>?_) λh=>?_
 · refine cM 3 (λi τ=>∃ s3,τ=[.d (.int (sL c (bs.take i))),.d (.lst (bs.map .int)),.o ((iY c (bs.take i)).map .int),s3,.un,.un]) b nd (aT (aa 1)) uL ⟨_,rfl⟩ (λi hi τ h=>?_) λτ h=>?_
   · obtain ⟨s3,rfl⟩:=h
     have hi:i < bs.length:=by simpa using hi
     obtain ⟨p1,p2⟩:=hp i hi
     refine qG 2 (aw (aa 0) (aa 3) (b5 (by omega))) ?_ ?_
     · rw [List.length_map,hU,List.length_take]; omega
     refine ay 0 nd (aw (aa 0) (aa 3) (bB p2)) (aX ?_)
     apply ex1
     show [Sl.d (.int ((sL c (bs.take i)).fdiv (bs.getD i 0))),_,Sl.o _,_,_,_]=_
     rw [take_snoc 0 hi,jw,List.map_append]
     unfold sL
     rw [List.foldl_append]
     rfl
   · obtain ⟨s3,rfl⟩:=h
     refine qm 2 ?_
     rw [List.length_map,List.take_of_length_le (Nat.le_refl _)]
     unfold nums
     rw [if_pos (of_decide_eq_true h)]
 · refine uZ 4 3 (λi τ=>∃ s3 s4 s5,τ=[.d (.int c),.d (.lst (bs.map .int)),.o (((List.range i).map λk=>wu c k (bs.getD k 0)).map .int),s3,s4,s5]) b nd (yd b (aa 1)) xV ⟨_,_,_,rfl⟩ (λi hi τ h=>?_) λτ h=>?_
   · obtain ⟨s3,s4,s5,rfl⟩:=h
     have hi:i < bs.length:=by rw [fh,List.length_map] at hi; exact hi
     obtain ⟨p1,p2⟩:=hp i hi
     refine ay 5 nd (aw (aw (aw (aw (aw (aa 0) af (aS (mkR (by decide)))) (aw (aw (aa 4) (aa 4) (aS (mkL (by omega)))) af (aS (mkR (by decide)))) bS) (aw (aa 4) af (aS (mkR (by decide)))) bS) af bS) af (b5 (by decide))) ?_
     refine qG 2 (aw (aw (aw (aw (aw (aw (aa 5) af (aS (mkR (by decide)))) (aa 0) bS) (aw af (aa 4) (aS (mkL (by decide)))) bS) af (b5 (by decide))) af (bB (mkD (by decide) (by decide)))) (aa 3) (b5 (by omega))) ?_ (aX ?_)
     · rw [List.length_map,List.length_map,List.length_range]; omega
     apply ex3
     rw [List.range_succ,List.map_append,List.map_append]
     rfl
   · obtain ⟨s3,s4,s5,rfl⟩:=h
     refine qm 2 ?_
     rw [fh,List.length_map]
     unfold nums
     rw [if_neg (of_decide_eq_false h)]
     rfl
end
set_option exponentiation.threshold 4000 in
theorem oe {i:Int} (h:i.natAbs < lim):i.natAbs.log2 < 1000000:=by
 rcases Nat.eq_zero_or_pos i.natAbs with h0 | hp
 · rw [h0]; decide
 · exact Nat.lt_of_lt_of_le ((Nat.log2_lt (by omega)).mpr h) (by decide)
theorem lI (b:Int):sgZ b=1\/sgZ b=-1:=by
 unfold sgZ
 rw [Int.fmod_eq_emod_of_nonneg _ (by decide)]
 omega
theorem iZ (n:Nat) (row:List Int) (k v:Int) (kv:List (Int × Int)):∀ c,(cv n row k v kv c).2.length<=kv.length + c
 | 0=>Nat.le_refl _
 | c + 1=>by
   have:=iZ n row k v kv c
   rw [cv,i8]
   split
   · dsimp only; omega
   · have:=sH (cv n row k v kv c).2 (kJ k (n - 1 - c)) ((bH (cv n row k v kv c).2 (kJ k (n - 1 - c))).getD 0 + sgZ (cv n row k v kv c).1 * row.getD (n - 1 - c) 0 * v)
     dsimp only
     omega
theorem fV (n:Nat) (row:List Int) (kv:List (Int × Int)):∀ t,(bA n row kv t).length<=t * n
 | 0=>by rw [bA,List.length_nil]; omega
 | t + 1=>by
   have h1:=fV n row kv t
   have h2:=iZ n row (kv.getD t (0,0)).1 ((bH kv (kv.getD t (0,0)).1).getD 0) (bA n row kv t) n
   rw [bA,Nat.succ_mul]
   omega
theorem lP (Ms:List (List Int)):∀ i,(bV Ms i).length<=Ms.length ^ i
 | 0=>Nat.le_refl 1
 | i + 1=>by
   rw [bV,Nat.pow_succ]
   exact Nat.le_trans (fV _ _ _ _) (Nat.mul_le_mul_right _ (lP Ms i))
noncomputable def dtR (r:List Int):D:=.lst (r.map .int)
noncomputable def dtZ (Ms:List (List Int)):Int:=(bH (bV Ms Ms.length) (2 ^ Ms.length - 1)).getD 0
structure Dt (n b:Nat) (Ms:List (List Int)):Prop where
 n7:n<=7
 len:Ms.length=n
 row:∀ r ∈ Ms,r.length=n/\∀ x ∈ r,x.natAbs<=2 ^ b
 b1:n * (b + 3)<=3800
 b2:b<=3800
noncomputable def dtM (Ms:List (List Int)) (i j:Nat):Rat:=(((Ms.getD i []).getD j 0:Int):Rat)
theorem Dt.ok {n b:Nat} {Ms:List (List Int)} (h:Dt n b Ms):okZ Ms/\bH (bV Ms n) (2 ^ n - 1)=some (dtZ Ms)/\((dtZ Ms:Int):Rat)=det n (dtM Ms):=by
 obtain ⟨d,e1,e2⟩:=wF (M:=dtM Ms) h.n7 h.len h.row (λ_ _ _ _=>rfl) h.b1 h.b2
 unfold vM at e1
 split at e1
 · rename_i ok
   have e3:dtZ Ms=d:=by unfold dtZ; rw [e1]; rfl
   rw [h.len] at e1
   exact ⟨ok,by rw [e3]; exact e1,by rw [e3]; exact e2⟩
 · cases e1
theorem Dt.ri {n b:Nat} {Ms:List (List Int)} (h:Dt n b Ms) (i:Nat) (hi:i<=n):RI n i (dtM Ms) (bV Ms i):=gE h.len (λ_ _ _ _=>rfl) i hi
theorem atR {row:List Int} {j:Nat} (h:j < row.length):atI (row.map D.int) (j:Int)=some (.int (row.getD j 0)):=gK (i:=(j:Int)) (by omega) (by omega)
noncomputable def jX (ds:List D) (r:Sl):Prop:=∃ (n b:Nat) (Ms:List (List Int)),ds=[.lst (Ms.map dtR)]/\Dt n b Ms/\r=.d (.int (dtZ Ms))
theorem xW {Ms:List (List Int)}:∀ i (h:i < (Ms.map dtR).length),(Ms.map dtR)[i]=dtR (Ms.getD i []):=λi h=>by
 have:i < Ms.length:=by simpa using h
 simp [this]
section
variable {P:Program} {w:World} {K:PySem.W.Frag} {mg:Str->Option Value} {base:Heap} {k:Nat} {f:Addr} {fd:FuncData} {qual:Str}
set_option exponentiation.threshold 4000 in
set_option maxHeartbeats 1000000 in
theorem rB (F:Fun K "_law_det" qual (top 51) f fd) (hb:∀ x ∈ aj,mg x=none):aR P w K mg base CX0 (k + 1) f fd ["_law_rows_here"] (spD K jX):=by
 refine fnD F kX hb (by rintro _ _ ⟨_,_,_,rfl,_⟩; rfl) ?_
 rintro _ _ ⟨n,b0,Ms,rfl,h,rfl⟩ cdv A outer s H E b
 have nd:=kX.nd
 obtain ⟨ok,eD,_⟩:=h.ok
 have hu:(Xc P w K mg base _ qual (top 51) f cdv A outer s H E).A.units + 1 < cLine:=Nat.lt_of_le_of_lt (Nat.add_le_add_left (by decide) _) b.room.units
 have hlen:(Ms.map dtR).length=n:=by rw [List.length_map,h.len]
 have lim7:∀ i,i<=n->(bV Ms i).length<=823543:=λi hi=>Nat.le_trans (lP Ms i) (by
   rw [h.len]
   exact Nat.le_trans (Nat.pow_le_pow_left h.n7 i) (Nat.pow_le_pow_right (by decide) (Nat.le_trans hi h.n7)))
 refine ay 1 nd vD (uV 1 ?_)
 refine cM 2 (g:=λi=>dtR (Ms.getD i [])) (λi τ=>i<=n/\∃ s2 s3 s4 s5 s6 s7 s8,τ=[.d (.lst (Ms.map dtR)),.d (.box (bxZ (bV Ms i))),s2,s3,s4,s5,s6,s7,s8]) b nd (aT (aa 0)) xW ⟨Nat.zero_le _,.un,.un,.un,.un,.un,.un,.un,rfl⟩ (λi hi τ z=>?_) λτ z=>?_
 · obtain ⟨_,s2,s3,s4,s5,s6,s7,s8,rfl⟩:=z
   have hi:i < n:=by rw [hlen] at hi; exact hi
   have hm:Ms.getD i [] ∈ Ms:=by rw [List.getD_eq_getElem?_getD,List.getElem?_eq_getElem (by rw [h.len]; exact hi)]; exact List.getElem_mem _
   have hrow:=h.row _ hm
   have hlim:∀ x ∈ Ms.getD i [],x.natAbs < lim:=(ok.2.1 _ hm).2
   have R:=h.ri i (by omega)
   have hkv:=ok.2.2 i (by rw [h.len]; exact hi)
   have hl7:=lim7 i (by omega)
   have eN:bV Ms (i + 1)=bA n (Ms.getD i []) (bV Ms i) (bV Ms i).length:=by rw [bV,h.len]
   rw [eN]
   generalize bV Ms i=kv at R hkv hl7 ⊢
   generalize Ms.getD i []=row at hm hrow hlim ⊢
   refine ay 3 nd vt ?_
   refine cM 4 (g:=λt=>.int (kv.getD t (0,0)).1) (λt τ=>∃ s4 s5 s6 s7 s8,τ=[.d (.lst (Ms.map dtR)),.d (.box (bxZ kv)),.d (dtR row),.x (exZ (bA n row kv t)),s4,s5,s6,s7,s8]) b nd (ud (aa 1)) sM ⟨s4,s5,s6,s7,s8,rfl⟩ (λt ht τ z=>?_) λτ z=>?_
   · obtain ⟨s4,s5,s6,s7,s8,rfl⟩:=z
     have ht:t < kv.length:=by simpa using ht
     have hq:kv.getD t (0,0) ∈ kv:=by rw [List.getD_eq_getElem?_getD,List.getElem?_eq_getElem ht]; exact List.getElem_mem ht
     have hg:bH kv (kv.getD t (0,0)).1=some (kv.getD t (0,0)).2:=mE R.nd hq
     have hv:=hkv _ hq
     have hml:=fV n row kv t
     have hml2:t * n<=823543 * 7:=Nat.mul_le_mul (by omega) h.n7
     have eM:bA n row kv (t + 1)=(cv n row (kv.getD t (0,0)).1 (kv.getD t (0,0)).2 (bA n row kv t) n).2:=by rw [bA,hg]; rfl
     rw [eM]
     generalize bA n row kv t=lk at hml ⊢
     generalize (kv.getD t (0,0)).1=m at hg ⊢
     generalize (kv.getD t (0,0)).2=v at hg hv ⊢
     refine ay 5 nd af ?_
     refine cM 6 (g:=λc=>.int ((n - 1 - c:Nat):Int)) (λc τ=>∃ s6 s7 s8,τ=[.d (.lst (Ms.map dtR)),.d (.box (bxZ kv)),.d (dtR row),.x (exZ (cv n row m v lk c).2),.d (.int m),.d (.int (cv n row m v lk c).1),s6,s7,s8]) b nd (yR (n:=n) b (bg b (ae (aa 0) ag) (x9 hlen)) (by have:=h.n7; omega)) yw ⟨s6,s7,s8,rfl⟩ (λc hc τ z=>?_) λτ z=>?_
     · obtain ⟨s6,s7,s8,rfl⟩:=z
       have hc:c < n:=by rw [e8] at hc; exact hc
       have n7:=h.n7
       have hcl:=iZ n row m v lk c
       have hj:n - 1 - c < row.length:=by rw [hrow.1]; omega
       have eC:cv n row m v lk (c + 1)=i8 row m v (n - 1 - c) (cv n row m v lk c):=rfl
       rw [eC]
       generalize cv n row m v lk c=st at hcl ⊢
       generalize n - 1 - c=j at hj ⊢
       have j7:j < 7:=by have:=hrow.1; omega
       refine mr (M:=λτ=>∃ s6 s7 s8,τ=[.d (.lst (Ms.map dtR)),.d (.box (bxZ kv)),.d (dtR row),.x (exZ (i8 row m v j st).2),.d (.int m),.d (.int (i8 row m v j st).1),s6,s7,s8]) (bb (aw (aw (aa 4) (aa 6) (uR (by omega))) af uJ) af gu) (λz=>?_) (λz=>?_) λτ z=>by
         obtain ⟨s6,s7,s8,rfl⟩:=z
         exact aX ⟨s6,s7,s8,rfl⟩
       · have z:mn m j=true:=by
           unfold mn
           rw [Int.toNat_natCast] at z
           exact z
         have e:i8 row m v j st=(st.1 + 1,st.2):=by unfold i8; rw [if_pos z]
         rw [e]
         exact ay 5 nd (aw (aa 5) af bS) (aX ⟨_,_,_,rfl⟩)
       · have z:mn m j=false:=by
           unfold mn
           rw [Int.toNat_natCast] at z
           exact z
         have e:i8 row m v j st=(st.1,er st.2 (kJ m j) ((bH st.2 (kJ m j)).getD 0 + sgZ st.1 * row.getD j 0 * v)):=by unfold i8; rw [if_neg (by rw [z]; decide)]
         have hx:(row.getD j 0).natAbs < lim:=hlim _ (by rw [List.getD_eq_getElem?_getD,List.getElem?_eq_getElem hj]; exact List.getElem_mem hj)
         have s1:aE (sgZ st.1) (row.getD j 0):=mkL (by rcases lI st.1 with h | h <;> rw [h] <;> decide)
         have s2:aE (sgZ st.1 * row.getD j 0) v:=by
           refine .inr (.inr ⟨oe ?_,oe hv⟩)
           rw [Int.natAbs_mul]
           rcases lI st.1 with h | h <;> rw [h] <;> simpa using hx
         rw [e]
         refine ay 7 nd (aw (aa 4) (aw af (aa 6) (uT ⟨by omega,by omega,by decide⟩)) yJ) ?_
         rw [Int.toNat_natCast]
         show PSs _ _ (dS K [.d (.lst (Ms.map dtR)),.d (.box (bxZ kv)),.d (dtR row),.x (exZ st.2),.d (.int m),.d (.int st.1),.d (.int (j:Nat)),.d (.int (kJ m j)),_] _)
         refine ay 8 nd (aw af (aw af (aw (aa 5) af (b5 (by decide))) (aS (mkL (by decide)))) eF) ?_
         refine vN 3 hu rfl (aa 7) (aw (tX 3 hu rfl (aa 7) af) (aw (aw (aa 8) (aM (aa 2) (aa 6) (aQ (atR hj))) (aS s1)) (qX hu (aa 1) (aa 4) hg uw) (aS s2)) bS) ?_ (aX ⟨_,_,_,rfl⟩)
         have:sizeLine > 10000000:=by decide
         omega
     · obtain ⟨s6,s7,s8,rfl⟩:=z
       rw [e8]
       exact aX ⟨_,_,_,_,_,rfl⟩
   · obtain ⟨s4,s5,s6,s7,s8,rfl⟩:=z
     rw [List.length_map]
     exact uV 3 (ay 1 nd (aa 3) (aX ⟨hi,_,_,_,_,_,_,_,rfl⟩))
 · obtain ⟨_,s2,s3,s4,s5,s6,s7,s8,rfl⟩:=z
   rw [hlen]
   refine aI (qX hu (aa 1) (aw (aw af (bg b (ae (aa 0) ag) (x9 hlen)) (uT ⟨by omega,by have:=h.n7; omega,by decide⟩)) af eF) ?_ rl) rfl
   rw [Int.toNat_natCast,Int.one_mul]
   exact eD
end
noncomputable def frD (q:Rat):D:=.tup [.int q.num,.int (q.den:Nat)]
theorem nN (x:Rat):x * (((x.den:Nat):Int):Rat)=(x.num:Rat):=by
 have h:mkRat x.num x.den=x:=by rw [<- Rat.normalize_eq_mkRat x.den_nz]; exact Rat.normalize_self x
 rw [Rat.mkRat_eq_div] at h
 have hd:((x.den:Nat):Rat) ≠ 0:=λz=>x.den_nz (Rat.natCast_eq_zero_iff.mp z)
 rw [Rat.intCast_natCast]
 conv=>lhs; lhs; rw [<- h]
 exact Rat.div_mul_cancel hd
theorem gg {t b:Int} {x:Rat} (hb:0 < b) (h:(t:Rat)=x * (b:Rat)):x.num=t / (Int.gcd t b:Int)/\((x.den:Nat):Int)=b / (Int.gcd t b:Int):=by
 have hb0:((b.toNat:Nat):Rat) ≠ 0:=λz=>by have:=Rat.natCast_eq_zero_iff.mp z; omega
 have hbb:((b:Int):Rat)=((b.toNat:Nat):Rat):=by rw [<- Rat.intCast_natCast,Int.toNat_of_nonneg (by omega)]
 have e:x=mkRat t b.toNat:=by
   rw [Rat.mkRat_eq_div,h,hbb,Rat.mul_div_cancel hb0]
 have g:b.toNat.gcd t.natAbs=Int.gcd t b:=by
   rw [Int.gcd,Nat.gcd_comm,show b.natAbs=b.toNat by omega]
 have nz:¬ b.toNat=0:=by omega
 constructor
 · rw [e,Rat.num_mkRat,if_neg nz,g]
 · rw [e,Rat.den_mkRat,if_neg nz,g,Int.natCast_ediv,Int.toNat_of_nonneg (by omega)]
theorem den_pos (q:Rat):0 < ((q.den:Nat):Int):=by have:=q.den_pos; omega
theorem vy {b:Int} (hb:0 < b):(b:Rat) ≠ 0:=λz=>by have:=Rat.intCast_eq_zero_iff.mp z; omega
noncomputable def Bd (n:Nat) (i:Int):Prop:=i.natAbs < 2 ^ n
theorem Bd.mono {m n:Nat} {i:Int} (h:Bd m i) (hm:m<=n):Bd n i:=Nat.lt_of_lt_of_le h (Nat.pow_le_pow_right (by decide) hm)
theorem Bd.log {n:Nat} {i:Int} (h:Bd n i) (hn:0 < n):i.natAbs.log2 < n:=by
 rcases Nat.eq_zero_or_pos i.natAbs with z | z
 · rw [z]; exact hn
 · exact (Nat.log2_lt (by omega)).mpr h
theorem Bd.mul {m n:Nat} {i j:Int} (h:Bd m i) (g:Bd n j):Bd (m + n) (i * j):=by
 unfold Bd at *
 rw [Int.natAbs_mul,Nat.pow_add]
 rcases Nat.eq_zero_or_pos j.natAbs with z | z
 · rw [z,Nat.mul_zero]; exact Nat.mul_pos (Nat.two_pow_pos m) (Nat.two_pow_pos n)
 · exact Nat.lt_of_lt_of_le (Nat.mul_lt_mul_of_pos_right h z) (Nat.mul_le_mul_left _ (Nat.le_of_lt g))
theorem Bd.add {n:Nat} {i j:Int} (h:Bd n i) (g:Bd n j):Bd (n + 1) (i + j):=by
 unfold Bd at *
 rw [Nat.pow_succ]
 omega
theorem Bd.neg {n:Nat} {i:Int} (h:Bd n i):Bd n (-i):=by unfold Bd at *; rwa [Int.natAbs_neg]
theorem Bd.sub {n:Nat} {i j:Int} (h:Bd n i) (g:Bd n j):Bd (n + 1) (i - j):=by rw [Int.sub_eq_add_neg]; exact h.add g.neg
theorem Bd.aE {m n:Nat} {i j:Int} (h:Bd m i) (g:Bd n j) (hm:m<=1000000) (hn:n<=1000000):aE i j:=
 .inr (.inr ⟨(h.mono (Nat.le_succ_of_le hm)).log (by omega) |> λz=>by
   rcases Nat.eq_zero_or_pos i.natAbs with q | q
   · rw [q]; decide
   · exact Nat.lt_of_lt_of_le ((Nat.log2_lt (by omega)).mpr h) hm,by
   rcases Nat.eq_zero_or_pos j.natAbs with q | q
   · rw [q]; decide
   · exact Nat.lt_of_lt_of_le ((Nat.log2_lt (by omega)).mpr g) hn⟩)
theorem Bd.aH {n:Nat} {j:Int} (h:Bd n j) (h0:j ≠ 0) (hn:n<=9000):aH j:=⟨h0,Nat.lt_of_lt_of_le ((Nat.log2_lt (by omega)).mpr h) hn⟩
theorem Bd.of_dvd {n:Nat} {i j:Int} (h:Bd n j) (hd:i ∣ j) (h0:j ≠ 0):Bd n i:=Nat.lt_of_le_of_lt (Nat.le_of_dvd (by omega) (Int.natAbs_dvd_natAbs.mpr hd)) h
theorem Bd.ediv {n:Nat} {i:Int} (h:Bd n i) (j:Int):Bd n (i / j):=Nat.lt_of_le_of_lt (Int.natAbs_ediv_le_natAbs i j) h
theorem Bd.gcd {n:Nat} {i j:Int} (h:Bd n j) (h0:j ≠ 0):Bd n (Int.gcd i j:Int):=h.of_dvd (Int.gcd_dvd_right ..) h0
theorem eK {i j:Int} (h0:j ≠ 0):(Int.gcd i j:Int) ≠ 0:=λz=>h0 (by have:=Int.gcd_eq_zero_iff.mp (Int.ofNat_eq_zero.mp z); exact this.2)
theorem bW {i j:Int} (t:Int):t.fdiv (Int.gcd i j:Int)=t / (Int.gcd i j:Int):=Int.fdiv_eq_ediv_of_nonneg _ (Int.natCast_nonneg _)
structure Sq (n:Nat) (q:Rat):Prop where
 num:Bd n q.num
 den:Bd n (q.den:Nat)
theorem Sq.mono {m n:Nat} {q:Rat} (h:Sq m q) (hm:m<=n):Sq n q:=⟨h.num.mono hm,h.den.mono hm⟩
noncomputable def whl (x:D):Bool:=jc .int x && !jc .bool x
noncomputable def cE (ds:List D) (r:Sl):Prop:=∃ x,ds=[x]/\r=.d (.bl (whl x))
noncomputable def bf (ds:List D) (r:Sl):Prop:=∃ a b:Int,ds=[.int a,.int b]/\r=.d (.int (Int.gcd a b:Int))
theorem fA (i:Int):mz i=(i.natAbs:Int):=by unfold mz; omega
noncomputable def pB:D->Bool
 | .tup [.int a,.int b]=>decide (1<=b) && decide ((Int.gcd a b:Int)=1)
 | _=>false
theorem tf (q:Rat):pB (frD q)=true:=by
 have h1:=den_pos q
 have h2:Int.gcd q.num (q.den:Nat)=1:=q.reduced
 show (decide ((1:Int)<=(q.den:Nat)) && decide ((Int.gcd q.num (q.den:Nat):Int)=1))=true
 rw [h2,decide_eq_true (show (1:Int)<=(q.den:Nat) by omega)]
 rfl
theorem sr {xs:List D} (h:xs.length ≠ 2):pB (.tup xs)=false:=by
 unfold pB
 split
 · rename_i e; cases e; exact absurd rfl h
 · rfl
noncomputable def cV (ds:List D) (r:Sl):Prop:=∃ x,ds=[x]/\r=.d (.bl (pB x))
noncomputable def bT (ds:List D) (r:Sl):Prop:=∃ (t b:Int) (q:Rat),ds=[.int t,.int b]/\0 < b/\Bd 8999 b/\(t:Rat)=q * (b:Rat)/\r=.d (frD q)
noncomputable def dn (ds:List D) (r:Sl):Prop:=∃ (t b:Int) (q:Rat),ds=[.int t,.int b]/\0 < b/\Bd 8999 b/\(t:Rat)=q * (b:Rat)/\r=.d (frD q)
noncomputable def bK (ds:List D) (r:Sl):Prop:=∃ xs,ds=[.lst xs]/\r=.d (.bl (decide ((1:Int)<=(xs.length:Nat)) && decide (((xs.length:Nat):Int)<=7)))
section
variable {P:Program} {w:World} {K:PySem.W.Frag} {mg:Str->Option Value} {base:Heap} {k:Nat} {f:Addr} {fd:FuncData} {qual:Str}
theorem kZ (F:Fun K "is_whole" qual (top 8) f fd) (hb:∀ x ∈ aj,mg x=none):aR P w K mg base CX0 (k + 1) f fd ["thing"] (spD K cE):=by
 refine fnD F kW hb (by rintro _ _ ⟨_,rfl,_⟩; rfl) ?_
 rintro _ _ ⟨x,rfl,rfl⟩ cdv A outer s H E b
 exact aI (iM (fG .int b (aa 0)) λh=>(jk (uK (fG .bool b (aa 0))))) rfl
theorem fJ (F:Fun K "common_divisor" qual (top 10) f fd) (hb:∀ x ∈ aj,mg x=none):aR P w K mg base CX0 (k + 1) f fd ["one","other"] (spD K bf):=by
 refine fnD F cO hb (by rintro _ _ ⟨_,_,rfl,_⟩; rfl) ?_
 rintro _ _ ⟨x,y,rfl,rfl⟩ cdv A outer s H E b
 have nd:=cO.nd
 refine ay 2 nd (bg b (ae (aa 0) ag) jH) (ay 3 nd (bg b (ae (aa 1) ag) jH) ?_)
 rw [fA,fA]
 refine nX (λn t τ=>∃ (g:Nat) (s4:Sl),Nat.gcd g n=Int.gcd x y/\t=(!decide ((n:Int)=0))/\τ=[.d (.int x),.d (.int y),.d (.int g),.d (.int n),s4]) b ⟨_,_,_,_,rfl,rfl,rfl⟩ (λn t τ h=>?_) (λn τ h=>?_) λn τ h=>?_
 · obtain ⟨g,s4,_,rfl,rfl⟩:=h
   exact bb (aa 3) af mV
 · obtain ⟨g,s4,hg,ht,rfl⟩:=h
   have hl:n ≠ 0:=λz=>by simp [z] at ht
   have e:(g:Int).fmod n=((g % n:Nat):Int):=by rw [Int.fmod_eq_emod_of_nonneg _ (by omega)]; rfl
   refine ay 4 nd (aw (aa 2) (aa 3) (b5 (by omega))) ?_
   rw [e]
   refine ay 2 nd (aa 3) (ay 3 nd (aa 4) (aX ⟨g % n,_,Nat.mod_lt g (Nat.pos_of_ne_zero hl),n,_,?_,rfl,rfl⟩))
   rw [<- hg,Nat.gcd_comm n,<- Nat.gcd_rec,Nat.gcd_comm]
 · obtain ⟨g,s4,hg,ht,rfl⟩:=h
   have hl:n=0:=by simpa using ht
   refine aI (aa 2) ?_
   rw [<- hg,hl,Nat.gcd_zero_right]
theorem ir (F:Fun K "is_fraction" qual (top 9) f fd) (hb:∀ x ∈ aj,mg x=none) (c_is_whole:Cal P w K mg base k "is_whole" cE) (c_common_divisor:Cal P w K mg base k "common_divisor" bf):aR P w K mg base CX0 (k + 1) f fd ["thing"] (spD K cV):=by
 refine fnD F iS hb (by rintro _ _ ⟨_,rfl,_⟩; rfl) ?_
 rintro _ _ ⟨x,rfl,rfl⟩ cdv A outer s H E b
 by_cases ht:jc .tuple x=true
 · obtain ⟨xs,rfl⟩:∃ xs,x=.tup xs:=by cases x <;> first | exact ⟨_,rfl⟩ | cases ht
   refine dD (PW.pt (gq (bZ (bY (fG .tuple b (aa 0)))) λh=>(gk (bb (bg b (ae (aa 0) ag) rn) af mV)))) (λh=>?_) λh=>?_
   · refine aI tm ?_
     have h:(!decide ((xs.length:Int)=2))=true:=h
     have:xs.length ≠ 2:=λz=>by rw [z] at h; cases h
     rw [sr this]
   · have h:(!decide ((xs.length:Int)=2))=false:=h
     have h2:xs.length=2:=by simp at h; omega
     obtain ⟨u,v,rfl⟩:∃ u v,xs=[u,v]:=by
       match xs,h2 with
       | [u,v],_=>exact ⟨u,v,rfl⟩
     refine dD (PW.pt (gq (bZ (bY (x_call b c_is_whole (ae (aM (aa 0) af (bh (aD (i:=0) rfl))) ag) ⟨_,rfl,rfl⟩))) λh=>(gk (bZ (bY (x_call b c_is_whole (ae (aM (aa 0) af (bh (aD (i:=1) rfl))) ag) ⟨_,rfl,rfl⟩)))))) (λh=>?_) λh=>?_
     · refine aI tm ?_
       have:pB (.tup [u,v])=false:=by cases u <;> cases v <;> first | rfl | cases h
       rw [this]
     · obtain ⟨i,j,rfl,rfl⟩:∃ i j,u=.int i/\v=.int j:=by cases u <;> cases v <;> first | exact ⟨_,_,rfl,rfl⟩ | cases h
       exact aI (iM (hW (aM (aa 0) af (bh (aD (i:=1) rfl))) af tw) λh=>(jk (hW (x_call b c_common_divisor (ae (aM (aa 0) af (bh (aD (i:=0) rfl))) (ae (aM (aa 0) af (bh (aD (i:=1) rfl))) ag)) ⟨_,_,rfl,rfl⟩) af gu))) rfl
 · have e:jc .tuple x=false:=by simpa using ht
   have ef:pB x=false:=by cases x <;> first | rfl | cases e
   refine dD (PW.pt (gq (q:=true) (bZ (bY (fG .tuple b (aa 0)))) λh=>(by rw [e] at h; cases h))) (λh=>?_) λh=>?_
   · refine aI tm ?_
     rw [ef]
   · rw [Bool.or_true] at h; cases h
theorem eO (F:Fun K "in_lowest_terms" qual (top 11) f fd) (hb:∀ x ∈ aj,mg x=none) (c_common_divisor:Cal P w K mg base k "common_divisor" bf):aR P w K mg base CX0 (k + 1) f fd ["top","bottom"] (spD K bT):=by
 refine fnD F cC hb (by rintro _ _ ⟨_,_,_,rfl,_⟩; rfl) ?_
 rintro _ _ ⟨t,c,q,rfl,h0,h1,hq,rfl⟩ cdv A outer s H E b
 have nd:=cC.nd
 refine ay 2 nd (x_call b c_common_divisor (ae (aa 0) (ae (aa 1) ag)) ⟨_,_,rfl,rfl⟩) ?_
 have dv:aH (Int.gcd t c:Int):=(h1.gcd (by omega)).aH (eK (by omega)) (by decide)
 obtain ⟨e1,e2⟩:=gg h0 hq
 refine cJ (bb (aa 1) af si) (decide_eq_false (by omega)) (aI (jj (ae (aw (aa 0) (aa 2) (bB dv)) (ae (aw (aa 1) (aa 2) (bB dv)) ag))) ?_)
 rw [bW,bW,<- e1,<- e2]
 rfl
theorem lQ (F:Fun K "fraction" qual (top 12) f fd) (hb:∀ x ∈ aj,mg x=none) (c_in_lowest_terms:Cal P w K mg base k "in_lowest_terms" bT) (c_is_whole:Cal P w K mg base k "is_whole" cE):aR P w K mg base CX0 (k + 1) f fd ["top","bottom"] (spD K dn):=by
 refine fnD F lE hb (by rintro _ _ ⟨_,_,_,rfl,_⟩; rfl) ?_
 rintro _ _ ⟨t,c,q,rfl,h0,h1,hq,rfl⟩ cdv A outer s H E b
 refine cJ (PW.pt (gq (bZ (bY (x_call b c_is_whole (ae (aa 0) ag) ⟨_,rfl,rfl⟩))) λh=>(gk (bZ (bY (x_call b c_is_whole (ae (aa 1) ag) ⟨_,rfl,rfl⟩)))))) rfl ?_
 refine cJ (bb (aa 1) af gu) (decide_eq_false (by omega)) ?_
 exact aI (x_call b c_in_lowest_terms (ae (aa 0) (ae (aa 1) ag)) ⟨t,c,q,rfl,h0,h1,hq,rfl⟩) rfl
theorem fX (F:Fun K "is_short_list" qual (top 15) f fd) (hb:∀ x ∈ aj,mg x=none) (y_MOST:∃ t,mg "MOST" = some (.int 7 t)):aR P w K mg base CX0 (k + 1) f fd ["thing"] (spD K bK):=by
 refine fnD F fU hb (by rintro _ _ ⟨_,rfl,_⟩; rfl) ?_
 rintro _ _ ⟨xs,rfl,rfl⟩ cdv A outer s H E b
 exact aI (iM (fG .list b (aa 0)) λh=>(jk (tQ af (bg b (ae (aa 0) ag) hV) (vG y_MOST) yc yc).1)) rfl
end
noncomputable def rwQ (r:List Rat):D:=.lst (r.map frD)
noncomputable def tbQ (M:List (List Rat)):D:=.lst (M.map rwQ)
structure Tq (R C:Nat) (M:List (List Rat)):Prop where
 r1:1<=R
 r7:R<=7
 c1:1<=C
 c7:C<=7
 len:M.length=R
 row:∀ r ∈ M,r.length=C
theorem bQ {α:Type} {f:α->D} {xs:List α} (d:α):∀ i (h:i < (xs.map f).length),(xs.map f)[i]=f (xs.getD i d):=λi h=>by
 have:i < xs.length:=by simpa using h
 simp [this]
theorem cH {α:Type} {f:α->D} {xs:List α} (d:α) {i:Nat} (h:i < xs.length):atI (xs.map f) (i:Int)=some (f (xs.getD i d)):=aD (by simp [h])
theorem aP {α:Type} {xs:List α} {d:α} {i:Nat} (h:i < xs.length):xs.getD i d ∈ xs:=by simp [h]
theorem Tq.at_ {R C:Nat} {M:List (List Rat)} (h:Tq R C M) {i:Nat} (hi:i < R):(M.getD i []).length=C:=h.row _ (aP (by rw [h.len]; exact hi))
theorem pQ (n:Nat) (f:Nat->Bool) (h:∀ i,i < n->f i=true):((List.range n).map f).all id=true:=by
 rw [List.all_map,List.all_eq_true]
 intro i hi
 exact h i (List.mem_range.mp hi)
structure Qs (d v:Nat) (q:Rat):Prop where
 den:Bd d (q.den:Nat)
 val:q.num.natAbs<=2 ^ v * q.den
theorem cS {X:Cx} {xs:List D} {n:Nat} (h:xs.length=n):ff X (.builtin "len") [.lst xs] (.d (.int n)):=h ▸ hV
theorem cf {α:Type} (f:α->D) (xs:List α) (d:α) {m:Nat} (h:m=xs.length):(List.range m).map (λi=>f (xs.getD i d))=xs.map f:=by
 subst h
 refine List.ext_getElem (by simp) λi h1 h2=>?_
 have:i < xs.length:=by simpa using h2
 simp [this]
theorem rD {m:Int} {n:Nat} (i:Nat) (h:i < (gw m n).length):(gw m n)[i]=.int (m + (i:Nat)):=fm m n i h
noncomputable def ib (ds:List D) (r:Sl):Prop:=∃ q:List Rat,ds=[rwQ q]/\1<=q.length/\q.length<=7/\r=.d (.bl true)
noncomputable def eI (ds:List D) (r:Sl):Prop:=∃ (R C:Nat) (M:List (List Rat)),ds=[tbQ M]/\Tq R C M/\r=.d (.bl true)
noncomputable def cw (ds:List D) (r:Sl):Prop:=∃ (R C:Nat) (M:List (List Rat)),ds=[tbQ M]/\Tq R C M/\r=.d .non
structure Pk (n:Nat) (ps:List Int):Prop where
 len:ps.length<=1000
 at_:∀ i,i < ps.length->0<=ps.getD i 0/\ps.getD i 0 < n
noncomputable def pkL {α:Type} (xs:List α) (ps:List Int) (d:α):List α:=ps.map λp=>xs.getD p.toNat d
noncomputable def iL (ds:List D) (r:Sl):Prop:=∃ (q:List Rat) (ps:List Int),ds=[rwQ q,.lst (ps.map .int)]/\Pk q.length ps/\r=.o ((pkL q ps 0).map frD)
theorem nk {α:Type} {f:α->D} {xs:List α} (d:α) {p:Int} (h:0<=p/\p < xs.length):atI (xs.map f) p=some (f (xs.getD p.toNat d)):=by
 obtain ⟨n,rfl⟩:=Int.eq_ofNat_of_zero_le h.1
 rw [Int.toNat_natCast]
 exact cH d (by omega)
theorem sj {α:Type} (f:α->D) (xs:List α) (ps:List Int) (d:α) {m:Nat} (h:m=ps.length):(List.range m).map (λi=>f (xs.getD (ps.getD i 0).toNat d))=(pkL xs ps d).map f:=by
 unfold pkL
 rw [List.map_map]
 exact cf (λp:Int=>f (xs.getD p.toNat d)) ps 0 h
noncomputable def chM (M:List (List Rat)) (rs cs:List Int):List (List Rat):=rs.map λr=>pkL (M.getD r.toNat []) cs 0
noncomputable def i0 (ds:List D) (r:Sl):Prop:=∃ (R C:Nat) (M:List (List Rat)) (rs cs:List Int),ds=[tbQ M,.lst (rs.map .int),.lst (cs.map .int)]/\Tq R C M/\Pk R rs/\Pk C cs/\r=.o ((chM M rs cs).map rwQ)
section
variable {P:Program} {w:World} {K:PySem.W.Frag} {mg:Str->Option Value} {base:Heap} {k:Nat} {f:Addr} {fd:FuncData} {qual:Str}
theorem oB (F:Fun K "is_row" qual (top 16) f fd) (hb:∀ x ∈ aj,mg x=none) (c_is_short_list:Cal P w K mg base k "is_short_list" bK) (c_is_fraction:Cal P w K mg base k "is_fraction" cV):aR P w K mg base CX0 (k + 1) f fd ["thing"] (spD K ib):=by
 refine fnD F pe hb (by rintro _ _ ⟨_,rfl,_⟩; rfl) ?_
 rintro _ _ ⟨q,rfl,h1,h7,rfl⟩ cdv A outer s H E b
 refine aI (iM (x_call b c_is_short_list (ae (aa 0) ag) ⟨_,rfl,rfl⟩) λh=>(jk (bg b (ae (ba (cA (cmp 0 (f:=λ_=>.bl true) b (aT (aa 0)) (bQ (f:=frD) (xs:=q) 0) (by rw [List.length_map]; omega) λi hi s0 H0 fp=>(x_call (b.comp s0 H0 _ fp) c_is_fraction (ae (aa 0) ag) ⟨_,rfl,by rw [tf]⟩)))) ag) (ly b.calm ((List.range (q.map frD).length).map λ_=>true) (by rw [List.map_map]; rfl))))) ?_
 rw [List.length_map,decide_eq_true (by omega),decide_eq_true (by omega),pQ _ _ λ_ _=>rfl]
 rfl
theorem k8 (F:Fun K "is_table" qual (top 17) f fd) (hb:∀ x ∈ aj,mg x=none) (c_is_short_list:Cal P w K mg base k "is_short_list" bK) (c_is_row:Cal P w K mg base k "is_row" ib):aR P w K mg base CX0 (k + 1) f fd ["thing"] (spD K eI):=by
 refine fnD F kS hb (by rintro _ _ ⟨_,_,_,rfl,_⟩; rfl) ?_
 rintro _ _ ⟨R,C,M,rfl,t,rfl⟩ cdv A outer s H E b
 have hl:(M.map rwQ).length=R:=by rw [List.length_map,t.len]
 have r1:=t.r1
 have r7:=t.r7
 have c1:=t.c1
 have c7:=t.c7
 refine cJ (PW.pt (gq (bZ (bY (x_call b c_is_short_list (ae (aa 0) ag) ⟨_,rfl,rfl⟩))) λh=>(gk (bZ (bY (bg b (ae (ba (cA (cmp 0 (f:=λ_=>.bl true) b (aT (aa 0)) (bQ (f:=rwQ) (xs:=M) []) (by rw [hl]; omega) λi hi s0 H0 fp=>(x_call (b.comp s0 H0 _ fp) c_is_row (ae (aa 0) ag) ⟨_,rfl,?_,?_,rfl⟩)))) ag) (ly b.calm ((List.range (M.map rwQ).length).map λ_=>true) (by rw [List.map_map]; rfl)))))))) ?_ ?_
 · rw [t.at_ (by rw [hl] at hi; exact hi)]; exact c1
 · rw [t.at_ (by rw [hl] at hi; exact hi)]; exact c7
 · rw [hl,decide_eq_true (by omega),decide_eq_true (by omega),pQ _ _ λ_ _=>rfl]; rfl
 have e0:atI (M.map rwQ) 0=some (rwQ (M.getD 0 [])):=cH [] (i:=0) (by rw [t.len]; omega)
 refine aI (bg b (ae (ba (cA (cmp 0 (f:=λ_=>.bl (decide ((C:Int)=(C:Int)))) b (aT (aa 0)) (bQ (f:=rwQ) (xs:=M) []) (by rw [hl]; omega) λi hi s0 H0 fp=>(hW (bg (b.comp s0 H0 _ fp) (ae (aa 0) ag) (cS (n:=C) (by rw [List.length_map]; exact t.at_ (by rw [hl] at hi; exact hi)))) (bg (b.comp s0 H0 _ fp) (ae (aM (aa 1) af (aQ e0)) ag) (cS (n:=C) (by rw [List.length_map]; exact t.at_ (by omega)))) gu)))) ag) (ly b.calm ((List.range (M.map rwQ).length).map λ_=>decide ((C:Int)=(C:Int))) (by rw [List.map_map]; rfl))) ?_
 rw [pQ _ _ λ_ _=>decide_eq_true rfl]
theorem i5 (F:Fun K "look_table" qual (top 20) f fd) (hb:∀ x ∈ aj,mg x=none) (c_is_table:Cal P w K mg base k "is_table" eI):aR P w K mg base CX0 (k + 1) f fd ["thing"] (spD K cw):=by
 refine fnD F jd hb (by rintro _ _ ⟨_,_,_,rfl,_⟩; rfl) ?_
 rintro _ _ ⟨R,C,M,rfl,t,rfl⟩ cdv A outer s H E b
 exact cJ (bZ (bY (x_call b c_is_table (ae (aa 0) ag) ⟨R,C,M,rfl,t,rfl⟩))) rfl (aX rfl)
theorem oH (F:Fun K "picked" qual (top 22) f fd) (hb:∀ x ∈ aj,mg x=none):aR P w K mg base CX0 (k + 1) f fd ["things","places"] (spD K iL):=by
 refine fnD F pG hb (by rintro _ _ ⟨_,_,rfl,_⟩; rfl) ?_
 rintro _ _ ⟨q,ps,rfl,h,rfl⟩ cdv A outer s H E b
 refine aI (cA (cmp 0 (f:=λi=>frD (q.getD (ps.getD i 0).toNat 0)) b (aT (aa 1)) (bQ (f:=D.int) (xs:=ps) 0) (by rw [List.length_map]; have:=h.len; omega) λi hi s0 H0 fp=>(aM (aa 1) (aa 0) (aQ (nk 0 (h.at_ i (by simpa using hi))))))) ?_
 rw [sj frD q ps 0 (List.length_map ..)]
theorem oW (F:Fun K "chosen" qual (top 23) f fd) (hb:∀ x ∈ aj,mg x=none) (c_picked:Cal P w K mg base k "picked" iL):aR P w K mg base CX0 (k + 1) f fd ["table","rows","columns"] (spD K i0):=by
 refine fnD F oK hb (by rintro _ _ ⟨_,_,_,_,_,rfl,_⟩; rfl) ?_
 rintro _ _ ⟨R,C,M,rs,cs,rfl,t,hr,hc,rfl⟩ cdv A outer s H E b
 refine aI (cA (cmp 0 (f:=λi=>rwQ (pkL (M.getD (rs.getD i 0).toNat []) cs 0)) b (aT (aa 1)) (bQ (f:=D.int) (xs:=rs) 0) (by rw [List.length_map]; have:=hr.len; omega) λi hi s0 H0 fp=>?_)) ?_
 · have hi:=hr.at_ i (by simpa using hi)
   exact ba (x_call (b.comp s0 H0 _ fp) c_picked (ae (aM (aa 2) (aa 0) (aQ (nk [] (by rw [t.len]; exact hi)))) (ae (aa 1) ag)) ⟨_,cs,rfl,by rw [t.at_ (by omega)]; exact hc,rfl⟩)
 · refine congrArg Sl.o ((cf (λr:Int=>rwQ (pkL (M.getD r.toNat []) cs 0)) rs 0 (List.length_map ..)).trans ?_)
   unfold chM
   rw [List.map_map]
   rfl
end
noncomputable def scS (s:Int) (q:Rat):Int:=s / (Int.gcd s (q.den:Nat):Int) * (q.den:Nat)
noncomputable def scL (r:List Rat):Int:=r.foldl scS 1
theorem vo {s:Int} (hs:0 < s) (q:Rat):0 < scS s q/\s ∣ scS s q/\((q.den:Nat):Int) ∣ scS s q:=by
 have hq:=den_pos q
 have g0:0 < (Int.gcd s (q.den:Nat):Int):=by
   have:=eK (i:=s) (j:=(q.den:Nat)) (by omega)
   have:=Int.natCast_nonneg (Int.gcd s (q.den:Nat))
   omega
 have d1:(Int.gcd s (q.den:Nat):Int) ∣ s:=Int.gcd_dvd_left ..
 have d2:(Int.gcd s (q.den:Nat):Int) ∣ ((q.den:Nat):Int):=Int.gcd_dvd_right ..
 have p1:0 < s / (Int.gcd s (q.den:Nat):Int):=Int.ediv_pos_of_pos_of_dvd hs (by omega) d1
 refine ⟨Int.mul_pos p1 hq,?_,Int.dvd_mul_left ..⟩
 obtain ⟨k,hk⟩:=d2
 refine ⟨k,?_⟩
 unfold scS
 conv=>lhs; rhs; rw [hk]
 rw [<- Int.mul_assoc,Int.ediv_mul_cancel d1]
theorem lU (r:List Rat) (q:Rat):scL (r++[q])=scS (scL r) q:=by unfold scL; rw [List.foldl_append]; rfl
theorem ml:∀ (r:List Rat) (s:Int),0 < s->0 < r.foldl scS s/\s ∣ r.foldl scS s/\∀ q ∈ r,((q.den:Nat):Int) ∣ r.foldl scS s
 | [],s,h=>⟨h,Int.dvd_refl _,λ_ z=>nomatch z⟩
 | q :: r,s,h=>by
   obtain ⟨a1,a2,a3⟩:=vo h q
   obtain ⟨b1,b2,b3⟩:=ml r _ a1
   exact ⟨b1,Int.dvd_trans a2 b2,λx hx=>(List.mem_cons.mp hx).elim (λe=>by rw [e]; exact Int.dvd_trans a3 b2) (b3 x)⟩
theorem cK (r:List Rat):0 < scL r/\∀ q ∈ r,((q.den:Nat):Int) ∣ scL r:=⟨(ml r 1 (by decide)).1,(ml r 1 (by decide)).2.2⟩
theorem qp {d:Nat}:∀ (r:List Rat) (s:Int) (n:Nat),Bd n s->(∀ q ∈ r,Bd d (q.den:Nat))->Bd (n + r.length * d) (r.foldl scS s)
 | [],s,n,h,_=>by simpa using h
 | q :: r,s,n,h,hd=>by
   have h1:Bd (n + d) (scS s q):=(h.ediv _).mul (hd q (List.mem_cons_self ..))
   have:=qp r _ _ h1 λx hx=>hd x (List.mem_cons_of_mem _ hx)
   rw [List.length_cons,Nat.succ_mul]
   rwa [show n + d + r.length * d=n + (r.length * d + d) by omega] at this
theorem bU {d:Nat} {r:List Rat} (h:∀ q ∈ r,Bd d (q.den:Nat)):Bd (1 + r.length * d) (scL r):=qp r 1 1 (by unfold Bd; decide) h
noncomputable def cF (ds:List D) (r:Sl):Prop:=∃ (q:List Rat) (d:Nat),ds=[rwQ q]/\q.length<=1000/\(∀ x ∈ q,Bd d (x.den:Nat))/\1 + q.length * d<=8999/\d<=8999/\r=.d (.int (scL q))
noncomputable def whR (r:List Rat) (s:Int):List Int:=r.map λq=>q.num * (s / (q.den:Nat))
theorem u3 {q:Rat} {s:Int} (h:((q.den:Nat):Int) ∣ s):((q.num * (s / (q.den:Nat)):Int):Rat)=q * (s:Rat):=by
 obtain ⟨k,rfl⟩:=h
 have:=den_pos q
 rw [Int.mul_ediv_cancel_left _ (by omega),Rat.intCast_mul,Rat.intCast_mul,<- Rat.mul_assoc,nN]
theorem qt {d v n:Nat} {q:Rat} {s:Int} (hq:Qs d v q) (h:((q.den:Nat):Int) ∣ s) (hs:Bd n s):Bd (v + n) (q.num * (s / (q.den:Nat))):=by
 obtain ⟨k,rfl⟩:=h
 have hd:=den_pos q
 rw [Int.mul_ediv_cancel_left _ (by omega)]
 unfold Bd at hs ⊢
 rw [Int.natAbs_mul,Nat.pow_add]
 rw [Int.natAbs_mul,Int.natAbs_natCast] at hs
 have h1:q.num.natAbs * k.natAbs<=2 ^ v * q.den * k.natAbs:=Nat.mul_le_mul_right _ hq.val
 rw [Nat.mul_assoc] at h1
 exact Nat.lt_of_le_of_lt h1 (Nat.mul_lt_mul_of_pos_left hs (Nat.two_pow_pos v))
noncomputable def cN (ds:List D) (r:Sl):Prop:=∃ (q:List Rat) (s:Int) (n:Nat),ds=[rwQ q,.int s]/\q.length<=1000/\(∀ x ∈ q,Sq n x)/\n<=8999/\Bd 8999 s/\r=.o ((whR q s).map .int)
noncomputable def prZ (ns:List Int):Int:=ns.foldl (· * ·) 1
theorem iq (ns:List Int) (n:Int):prZ (ns++[n])=prZ ns * n:=by unfold prZ; rw [List.foldl_append]; rfl
theorem pM {d:Nat}:∀ (r:List Int) (s:Int) (n:Nat),Bd n s->(∀ q ∈ r,Bd d q)->Bd (n + r.length * d) (r.foldl (· * ·) s)
 | [],s,n,h,_=>by simpa using h
 | q :: r,s,n,h,hd=>by
   have:=pM r _ _ (h.mul (hd q (List.mem_cons_self ..))) λx hx=>hd x (List.mem_cons_of_mem _ hx)
   rw [List.length_cons,Nat.succ_mul]
   rwa [show n + d + r.length * d=n + (r.length * d + d) by omega] at this
theorem ku {d:Nat} {r:List Int} (h:∀ q ∈ r,Bd d q):Bd (1 + r.length * d) (prZ r):=pM r 1 1 (by unfold Bd; decide) h
theorem og:∀ (r:List Int) (s:Int),0 < s->(∀ q ∈ r,0 < q)->0 < r.foldl (· * ·) s
 | [],_,h,_=>h
 | q :: r,s,h,hq=>og r _ (Int.mul_pos h (hq q (List.mem_cons_self ..))) λx hx=>hq x (List.mem_cons_of_mem _ hx)
theorem um {r:List Int} (h:∀ q ∈ r,0 < q):0 < prZ r:=og r 1 (by decide) h
noncomputable def b7 (ds:List D) (r:Sl):Prop:=∃ (q:List Int) (d:Nat),ds=[.lst (q.map .int)]/\(∀ x ∈ q,Bd d x)/\1 + q.length * d<=900000/\d<=900000/\r=.d (.int (prZ q))
noncomputable def cT (ds:List D) (r:Sl):Prop:=∃ (R:Nat) (M:List (List Rat)),ds=[tbQ M]/\Tq R R M/\r=.d .non
section
variable {P:Program} {w:World} {K:PySem.W.Frag} {mg:Str->Option Value} {base:Heap} {k:Nat} {f:Addr} {fd:FuncData} {qual:Str}
theorem kP (F:Fun K "scale_of" qual (top 30) f fd) (hb:∀ x ∈ aj,mg x=none) (c_common_divisor:Cal P w K mg base k "common_divisor" bf):aR P w K mg base CX0 (k + 1) f fd ["row"] (spD K cF):=by
 refine fnD F gm hb (by rintro _ _ ⟨_,_,rfl,_⟩; rfl) ?_
 rintro _ _ ⟨q,d,rfl,hl,hd,hb1,hd1,rfl⟩ cdv A outer s H E b
 have nd:=gm.nd
 refine ay 1 nd af ?_
 refine cM 2 (g:=λi=>frD (q.getD i 0)) (λi τ=>i<=q.length/\∃ s2,τ=[.d (rwQ q),.d (.int (scL (q.take i))),s2]) b nd (aT (aa 0)) (bQ (f:=frD) (xs:=q) 0) ⟨Nat.zero_le _,.un,rfl⟩ (λi hi τ h=>?_) λτ h=>?_
 · obtain ⟨_,s2,rfl⟩:=h
   have hi:i < q.length:=by simpa using hi
   have mm:=aP (d:=(0:Rat)) hi
   have hs:=(cK (q.take i)).1
   have bs:Bd (1 + q.length * d) (scL (q.take i)):=(bU λx hx=>hd x (List.mem_of_mem_take hx)).mono (by
     have:(q.take i).length * d<=q.length * d:=Nat.mul_le_mul_right _ (by rw [List.length_take]; omega)
     omega)
   have et:q.take (i + 1)=q.take i++[q.getD i 0]:=by rw [List.take_succ,List.getElem?_eq_getElem hi]; simp [hi]
   rw [et,lU]
   generalize scL (q.take i)=sc at hs bs ⊢
   generalize q.getD i 0=x at mm ⊢
   have hx:=den_pos x
   have dv:aH (Int.gcd sc (x.den:Nat):Int):=((hd x mm).gcd (by omega)).aH (eK (by omega)) (by omega)
   refine ay 1 nd (aw (aw (aa 1) (x_call b c_common_divisor (ae (aa 1) (ae (aM (aa 2) af (bh (aD (i:=1) rfl))) ag)) ⟨_,_,rfl,rfl⟩) (bB dv)) (aM (aa 2) af (bh (aD (i:=1) rfl))) (aS ?_)) (aX ⟨hi,.d (frD x),?_⟩)
   · rw [bW]; exact (bs.ediv _).aE (hd x mm) (by omega) (by omega)
   · rw [bW]; rfl
 · obtain ⟨_,s2,rfl⟩:=h
   rw [List.length_map,List.take_length]
   exact aI (aa 1) rfl
theorem kF (F:Fun K "whole_row" qual (top 31) f fd) (hb:∀ x ∈ aj,mg x=none):aR P w K mg base CX0 (k + 1) f fd ["row","scale"] (spD K cN):=by
 refine fnD F jP hb (by rintro _ _ ⟨_,_,_,rfl,_⟩; rfl) ?_
 rintro _ _ ⟨q,s0,n,rfl,hl,hq,hn,hs,rfl⟩ cdv A outer s H E b
 refine aI (cA (cmp 0 (f:=λi=>.int ((q.getD i 0).num * (s0.fdiv ((q.getD i 0).den:Nat)))) b (aT (aa 0)) (bQ (f:=frD) (xs:=q) 0) (by rw [List.length_map]; omega) λi hi s1 H0 fp=>?_)) ?_
 · have sq:=hq _ (aP (d:=(0:Rat)) (by simpa using hi))
   generalize q.getD i 0=x at sq ⊢
   have hx:=den_pos x
   have e:s0.fdiv (x.den:Nat)=s0 / (x.den:Nat):=Int.fdiv_eq_ediv_of_nonneg _ (by omega)
   exact aw (aM (aa 0) af (bh (aD (i:=0) rfl))) (aw (aa 1) (aM (aa 0) af (bh (aD (i:=1) rfl))) (bB (sq.den.aH (by omega) (by omega)))) (aS (by rw [e]; exact sq.num.aE (hs.ediv _) (by omega) (by omega)))
 · refine congrArg Sl.o ((cf (λx:Rat=>D.int (x.num * (s0.fdiv (x.den:Nat)))) q 0 (List.length_map ..)).trans ?_)
   unfold whR
   rw [List.map_map]
   refine List.map_congr_left λx _=>?_
   simp only [Function.comp]
   rw [Int.fdiv_eq_ediv_of_nonneg _ (by have:=den_pos x; omega)]
theorem e7 (F:Fun K "product_of_all" qual (top 33) f fd) (hb:∀ x ∈ aj,mg x=none):aR P w K mg base CX0 (k + 1) f fd ["numbers"] (spD K b7):=by
 refine fnD F cP hb (by rintro _ _ ⟨_,_,rfl,_⟩; rfl) ?_
 rintro _ _ ⟨q,d,rfl,hd,hb1,hd1,rfl⟩ cdv A outer s H E b
 have nd:=cP.nd
 refine ay 1 nd af ?_
 refine cM 2 (g:=λi=>.int (q.getD i 0)) (λi τ=>i<=q.length/\∃ s2,τ=[.d (.lst (q.map .int)),.d (.int (prZ (q.take i))),s2]) b nd (aT (aa 0)) (bQ (f:=D.int) (xs:=q) 0) ⟨Nat.zero_le _,.un,rfl⟩ (λi hi τ h=>?_) λτ h=>?_
 · obtain ⟨_,s2,rfl⟩:=h
   have hi:i < q.length:=by simpa using hi
   have mm:=aP (d:=(0:Int)) hi
   have bs:Bd (1 + q.length * d) (prZ (q.take i)):=(ku λx hx=>hd x (List.mem_of_mem_take hx)).mono (by
     have:(q.take i).length * d<=q.length * d:=Nat.mul_le_mul_right _ (by rw [List.length_take]; omega)
     omega)
   have et:q.take (i + 1)=q.take i++[q.getD i 0]:=by rw [List.take_succ,List.getElem?_eq_getElem hi]; simp [hi]
   rw [et,iq]
   exact ay 1 nd (aw (aa 1) (aa 2) (aS (bs.aE (hd _ mm) (by omega) (by omega)))) (aX ⟨hi,_,rfl⟩)
 · obtain ⟨_,s2,rfl⟩:=h
   rw [List.length_map,List.take_length]
   exact aI (aa 1) rfl
theorem iJ (F:Fun K "look_square" qual (top 29) f fd) (hb:∀ x ∈ aj,mg x=none):aR P w K mg base CX0 (k + 1) f fd ["table"] (spD K cT):=by
 refine fnD F iO hb (by rintro _ _ ⟨_,_,rfl,_⟩; rfl) ?_
 rintro _ _ ⟨R,M,rfl,t,rfl⟩ cdv A outer s H E b
 have r1:=t.r1
 have e0:atI (M.map rwQ) 0=some (rwQ (M.getD 0 [])):=cH [] (i:=0) (by rw [t.len]; omega)
 refine cJ (bb (bg b (ae (aa 0) ag) (cS (n:=R) (by rw [List.length_map]; exact t.len))) (bg b (ae (aM (aa 0) af (aQ e0)) ag) (cS (n:=R) (by rw [List.length_map]; exact t.at_ (by omega)))) mV) ?_ (aX rfl)
 rw [decide_eq_true rfl]; rfl
end
noncomputable def whM (M:List (List Rat)) (ss:List Int):List (List Int):=(List.range M.length).map λi=>whR (M.getD i []) (ss.getD i 0)
theorem j2 {α β:Type} {f:α->D} {g:β->D} {xs:List α} {ys:List β} (d:α) (e:β) (i:Nat) (h:i < (fN (xs.map f) (ys.map g)).length):(fN (xs.map f) (ys.map g))[i]=.tup [f (xs.getD i d),g (ys.getD i e)]:=by
 rw [cj,List.length_map,List.length_map] at h
 have h1:i < xs.length:=by omega
 have h2:i < ys.length:=by omega
 simp [fN,h1,h2]
noncomputable def cy (ds:List D) (r:Sl):Prop:=∃ (M:List (List Rat)) (ss:List Int) (n:Nat),ds=[tbQ M,.lst (ss.map .int)]/\M.length=ss.length/\M.length<=1000/\(∀ r ∈ M,r.length<=1000/\∀ x ∈ r,Sq n x)/\n<=8999/\(∀ s ∈ ss,Bd 8999 s)/\r=.o ((whM M ss).map dtR)
noncomputable def pvF (G:List (List Int)) (k:Nat):Nat->Option Nat
 | 0=>none
 | t + 1=>match pvF G k t with
   | some i=>some i
   | none=>if (G.getD (k + t) []).getD k 0 ≠ 0 then some (k + t) else none
noncomputable def pvP (G:List (List Int)) (k:Nat):Option Nat:=pvF G k (G.length - k)
noncomputable def pvD:Option Nat->D
 | none=>.non
 | some i=>.int (i:Nat)
theorem lN {G:List (List Int)} {k:Nat}:∀ t,pvF G k t=none->∀ i,i < t->(G.getD (k + i) []).getD k 0=0
 | t + 1,h,i,hi=>by
   rw [pvF] at h
   cases e:pvF G k t with
   | some j=>rw [e] at h; cases h
   | none=>
     rw [e] at h
     have h:(if (G.getD (k + t) []).getD k 0 ≠ 0 then some (k + t) else none)=none:=h
     by_cases z:i < t
     · exact lN t e i z
     · obtain rfl:i=t:=by omega
       by_cases y:(G.getD (k + i) []).getD k 0=0
       · exact y
       · rw [if_pos y] at h; cases h
theorem lD {G:List (List Int)} {k:Nat}:∀ t j,pvF G k t=some j->k<=j/\j < k + t/\(G.getD j []).getD k 0 ≠ 0
 | t + 1,j,h=>by
   rw [pvF] at h
   cases e:pvF G k t with
   | some i=>
     rw [e] at h
     cases h
     have:=lD t _ e
     exact ⟨this.1,by omega,this.2.2⟩
   | none=>
     rw [e] at h
     have h:(if (G.getD (k + t) []).getD k 0 ≠ 0 then some (k + t) else none)=some j:=h
     split at h
     · rename_i y
       cases h
       exact ⟨by omega,by omega,y⟩
     · cases h
theorem la {G:List (List Int)} {k:Nat} {t j:Nat} (h:pvF G k t=some j):∀ u,pvF G k (t + u)=some j
 | 0=>h
 | u + 1=>by rw [<- Nat.add_assoc,pvF,la h u]
noncomputable def cU (ds:List D) (r:Sl):Prop:=∃ (n:Nat) (G:List (List Int)) (k:Nat),ds=[.lst (G.map dtR),.int (k:Nat)]/\G.length=n/\n<=1000/\(∀ r ∈ G,r.length=n)/\k < n/\r=.d (pvD (pvP G k))
noncomputable def clR (r p:List Int) (k:Nat) (l:Int) (n:Nat):List Int:=(List.range n).map λj=>((r.getD j 0 * p.getD k 0) - (p.getD j 0 * r.getD k 0)).fdiv l
noncomputable def gf (ds:List D) (r:Sl):Prop:=∃ (n:Nat) (q p:List Int) (k:Nat) (l:Int) (B:Nat),ds=[dtR q,dtR p,.int (k:Nat),.int l]/\q.length=n/\p.length=n/\n<=1000/\k < n/\(∀ x ∈ q,Bd B x)/\(∀ x ∈ p,Bd B x)/\B<=900000/\l ≠ 0/\Bd 8999 l/\r=.o ((clR q p k l n).map .int)
section
variable {P:Program} {w:World} {K:PySem.W.Frag} {mg:Str->Option Value} {base:Heap} {k:Nat} {f:Addr} {fd:FuncData} {qual:Str}
theorem jf (F:Fun K "whole_rows" qual (top 32) f fd) (hb:∀ x ∈ aj,mg x=none) (c_whole_row:Cal P w K mg base k "whole_row" cN):aR P w K mg base CX0 (k + 1) f fd ["table","scales"] (spD K cy):=by
 refine fnD F ja hb (by rintro _ _ ⟨_,_,_,rfl,_⟩; rfl) ?_
 rintro _ _ ⟨M,ss,n,rfl,hl,h1,hM,hn,hs,rfl⟩ cdv A outer s H E b
 have zl:(fN (M.map rwQ) (ss.map D.int)).length=M.length:=by rw [cj,List.length_map,List.length_map]; omega
 refine aI (cA (tS 0 1 (g:=λi=>rwQ (M.getD i [])) (g':=λi=>.int (ss.getD i 0)) (f:=λi=>dtR (whR (M.getD i []) (ss.getD i 0))) b (nL b (aa 0) (aa 1)) (j2 [] 0) (by rw [zl]; omega) λi hi s0 H0 fp=>?_)) ?_
 · rw [zl] at hi
   obtain ⟨g1,g2⟩:=hM _ (aP (d:=[]) hi)
   exact ba (x_call (b.comp s0 H0 _ fp) c_whole_row (ae (aa 0) (ae (aa 1) ag)) ⟨_,_,n,rfl,g1,g2,hn,hs _ (aP (by omega)),rfl⟩)
 · unfold whM
   rw [zl,List.map_map]
   rfl
theorem iP (F:Fun K "pivot_place" qual (top 35) f fd) (hb:∀ x ∈ aj,mg x=none):aR P w K mg base CX0 (k + 1) f fd ["grid","k"] (spD K cU):=by
 refine fnD F d0 hb (by rintro _ _ ⟨_,_,_,rfl,_⟩; rfl) ?_
 rintro _ _ ⟨n,G,k0,rfl,hG,h1,hr,hk,rfl⟩ cdv A outer s H E b
 have nd:=d0.nd
 refine cM 2 (λi τ=>pvF G k0 i=none/\∃ s2,τ=[.d (.lst (G.map dtR)),.d (.int (k0:Nat)),s2]) b nd (kB b (aa 1) (bg b (ae (aa 0) ag) (cS (n:=n) (by rw [List.length_map]; exact hG))) (by omega)) rD ⟨rfl,.un,rfl⟩ (λi hi τ h=>?_) λτ h=>?_
 · obtain ⟨h0,s2,rfl⟩:=h
   rw [az] at hi
   have hi':k0 + i < n:=by omega
   have e:((k0:Int) + (i:Int))=((k0 + i:Nat):Int):=by omega
   rw [e]
   have a1:atI (G.map dtR) ((k0 + i:Nat):Int)=some (dtR (G.getD (k0 + i) [])):=cH [] (by omega)
   have hl:(G.getD (k0 + i) []).length=n:=hr _ (aP (by omega))
   have a2:atI ((G.getD (k0 + i) []).map D.int) (k0:Int)=some (.int ((G.getD (k0 + i) []).getD k0 0)):=atR (by omega)
   refine dD (bb (aM (aM (aa 0) (aa 2) (aQ a1)) (aa 1) (aQ a2)) af mV) (λz=>?_) λz=>?_
   · refine aI (aa 2) ?_
     have z:(!decide ((G.getD (k0 + i) []).getD k0 0=0))=true:=z
     have z:(G.getD (k0 + i) []).getD k0 0 ≠ 0:=by simpa using z
     have e1:pvF G k0 (i + 1)=some (k0 + i):=by rw [pvF,h0]; exact if_pos z
     have e2:pvP G k0=some (k0 + i):=by
       unfold pvP
       have:=la e1 (G.length - k0 - (i + 1))
       rwa [show i + 1 + (G.length - k0 - (i + 1))=G.length - k0 by omega] at this
     rw [e2]
     rfl
   · refine aX ⟨?_,_,rfl⟩
     have z:(!decide ((G.getD (k0 + i) []).getD k0 0=0))=false:=z
     have z:(G.getD (k0 + i) []).getD k0 0=0:=by simpa using z
     rw [pvF,h0]
     exact if_neg (λy=>y z)
 · obtain ⟨h0,s2,rfl⟩:=h
   rw [az] at h0
   refine aI rT ?_
   have:pvP G k0=none:=by
     unfold pvP
     rw [hG,<- h0]
     congr 1
     omega
   rw [this]
   rfl
theorem l7 (F:Fun K "cleared" qual (top 36) f fd) (hb:∀ x ∈ aj,mg x=none):aR P w K mg base CX0 (k + 1) f fd ["row","pivot_row","k","last"] (spD K gf):=by
 refine fnD F hJ hb (by rintro _ _ ⟨_,_,_,_,_,_,rfl,_⟩; rfl) ?_
 rintro _ _ ⟨n,q,p,k0,l,B,rfl,hq,hp,hn,hk,bq,bp,hB,hl,bl,rfl⟩ cdv A outer s H E b
 have nd:=hJ.nd
 have zl:(fN (q.map D.int) (p.map D.int)).length=n:=by rw [cj,List.length_map,List.length_map]; omega
 refine ay 4 nd (aM (aa 1) (aa 2) (aQ (atR (by omega)))) ?_
 refine ay 5 nd (aM (aa 0) (aa 2) (aQ (atR (by omega)))) ?_
 refine aI (cA (tS 0 1 (g:=λi=>.int (q.getD i 0)) (g':=λi=>.int (p.getD i 0)) (f:=λj=>.int (((q.getD j 0 * p.getD k0 0) - (p.getD j 0 * q.getD k0 0)).fdiv l)) b (nL b (aa 0) (aa 1)) (j2 0 0) (by rw [zl]; omega) λi hi s0 H0 fp=>?_)) ?_
 · rw [zl] at hi
   have m1:=bq _ (aP (d:=(0:Int)) (show i < q.length by omega))
   have m2:=bp _ (aP (d:=(0:Int)) (show k0 < p.length by omega))
   have m3:=bp _ (aP (d:=(0:Int)) (show i < p.length by omega))
   have m4:=bq _ (aP (d:=(0:Int)) (show k0 < q.length by omega))
   exact aw (aw (aw (aa 0) (aa 4) (aS (m1.aE m2 (by omega) (by omega)))) (aw (aa 1) (aa 2) (aS (m3.aE m4 (by omega) (by omega)))) eF) (aa 3) (bB (bl.aH hl (by decide)))
 · unfold clR
   rw [zl,List.map_map]
   rfl
end
theorem uX {α β:Type} (g:α->β) (x:α):∀ (m:Nat) (ys:List α),(ys.map g).insertIdx m (g x)=(ys.insertIdx m x).map g
 | 0,_=>rfl
 | m + 1,[]=>rfl
 | m + 1,y :: ys=>by rw [List.map_cons,List.insertIdx_succ_cons,List.insertIdx_succ_cons,List.map_cons,uX g x m ys]
theorem mD {α:Type} (d:α) {G:List α} {k m:Nat} (h:k + m < G.length) (i:Nat):((G.eraseIdx (k + m)).insertIdx k (G.getD (k + m) d)).getD i d=G.getD (rho k m i) d:=by
 have hl:(G.eraseIdx (k + m)).length=G.length - 1:=List.length_eraseIdx_of_lt h
 simp only [List.getD_eq_getElem?_getD]
 rw [List.getElem?_insertIdx]
 unfold rho
 by_cases h1:i < k
 · rw [if_pos h1,if_pos h1,List.getElem?_eraseIdx_of_lt (by omega)]
 · rw [if_neg h1,if_neg h1]
   by_cases h2:i=k
   · rw [if_pos h2,if_pos h2,if_pos (by omega)]
     rw [List.getElem?_eq_getElem h]
     rfl
   · rw [if_neg h2,if_neg h2,List.getElem?_eraseIdx]
     by_cases h3:i<=k + m
     · rw [if_pos h3,if_pos (by omega)]
     · rw [if_neg h3,if_neg (by omega),show i - 1 + 1=i by omega]
theorem jQ {k m n i:Nat} (h:k + m < n) (hi:i < n):rho k m i < n/\(k<=i->k<=rho k m i):=by
 unfold rho
 repeat' split
 all_goals omega
theorem uG {n b k p q:Nat} {Y:Nat->Nat->Rat} (hY:∀ i < n,∀ j < n,ZB b (Y i j)) (hk:k < n) (hp:p < n) (hq:q < n) (h7:n<=7):ZB ((k + 1) * (b + 3)) (bm Y k p q):=by
 unfold bm
 exact mQ (by omega) λr hr c hc=>hY _ (by split <;> omega) _ (by split <;> omega)
theorem rj {B c:Nat} {x:Rat} {z:Int} (h:ZB c x) (e:(z:Rat)=x) (hc:c < B):Bd B z:=by
 obtain ⟨y,e1,e2⟩:=h
 rw [e1] at e
 rw [Rat.intCast_inj.mp e]
 exact Nat.lt_of_le_of_lt e2 (Nat.pow_lt_pow_right (by decide) hc)
structure WI (n b:Nat) (M:Nat->Nat->Rat) (k:Nat) (G:List (List Int)) (s l:Int) (Y:Nat->Nat->Rat):Prop where
 zb:∀ i < n,∀ j < n,ZB b (Y i j)
 dt:det n M=(s:Rat) * det n Y
 sg:s=1\/s=-1
 last:(l:Rat)=det k Y
 nz:det k Y ≠ 0
 len:G.length=n
 row:∀ i,i < n->(G.getD i []).length=n
 ent:∀ i,k<=i->i < n->∀ j,j < n->(((G.getD i []).getD j 0:Int):Rat)=bm Y k i j
theorem WI.zero {n b:Nat} {Ms:List (List Int)} (h1:Ms.length=n) (hr:∀ r ∈ Ms,r.length=n/\∀ x ∈ r,x.natAbs<=2 ^ b):WI n b (dtM Ms) 0 Ms 1 1 (dtM Ms):=by
 have rw':∀ i,i < n->(Ms.getD i []).length=n:=λi hi=>(hr _ (aP (by omega))).1
 refine ⟨λi hi j hj=>⟨_,rfl,(hr _ (aP (d:=[]) (show i < Ms.length by omega))).2 _ (aP (d:=(0:Int)) (by rw [rw' i hi]; exact hj))⟩,?_,.inl rfl,rfl,by show (1:Rat) ≠ 0; decide,h1,rw',λi _ hi j hj=>?_⟩
 · rw [show ((1:Int):Rat)=1 from rfl,Rat.one_mul]
 · unfold bm
   rw [gD]
   rfl
theorem WI.rot {n b k m:Nat} {M Y:Nat->Nat->Rat} {G:List (List Int)} {s l:Int} (W:WI n b M k G s l Y) (h:k + m < n):WI n b M k ((G.eraseIdx (k + m)).insertIdx k (G.getD (k + m) [])) (if m % 2=1 then -s else s) l (λr=>Y (rho k m r)):=by
 have hG:k + m < G.length:=by rw [W.len]; exact h
 have e:=gH (k:=k) (n:=n) m Y h
 refine ⟨λi hi j hj=>W.zb _ (jQ h hi).1 j hj,?_,?_,?_,?_,?_,λi hi=>?_,λi ki hi j hj=>?_⟩
 · rw [e,W.dt]
   unfold sgn
   by_cases z:m % 2=1
   · rw [if_pos z,if_neg (by omega),Rat.intCast_neg]
     simp [Rat.neg_mul,Rat.mul_neg]
   · rw [if_neg z,if_pos (by omega),Rat.one_mul]
 · rcases W.sg with z | z <;> rw [z] <;> split <;> first | exact .inl rfl | exact .inr rfl
 · rw [jE]; exact W.last
 · rw [jE]; exact W.nz
 · rw [List.length_insertIdx_of_le_length (by rw [List.length_eraseIdx_of_lt hG]; omega),List.length_eraseIdx_of_lt hG,W.len]; omega
 · rw [mD [] hG]; exact W.row _ (jQ h hi).1
 · rw [mD [] hG,wK]
   exact W.ent _ ((jQ h hi).2 ki) (jQ h hi).1 j hj
theorem WI.clear {n b k:Nat} {M Y:Nat->Nat->Rat} {G:List (List Int)} {s l:Int} (W:WI n b M k G s l Y) (h:k < n) (h7:n<=7) {i:Nat} (ki:k < i) (hi:i < n) {j:Nat} (hj:j < n):(((clR (G.getD i []) (G.getD k []) k l n).getD j 0:Int):Rat)=bm Y (k + 1) i j:=by
 have g0:(clR (G.getD i []) (G.getD k []) k l n).getD j 0=(((G.getD i []).getD j 0 * (G.getD k []).getD k 0) - ((G.getD k []).getD j 0 * (G.getD i []).getD k 0)).fdiv l:=by
   unfold clR
   simp [hj]
 obtain ⟨z,e1,_⟩:=uG (k:=k + 1) (p:=i) (q:=j) W.zb (by omega) hi hj h7
 have st:=sU (Y:=Y) (k:=k) (i:=i) (j:=j) W.nz
 rw [<- W.ent k (Nat.le_refl _) h k h,<- W.ent i (by omega) hi j hj,<- W.ent k (Nat.le_refl _) h j hj,<- W.ent i (by omega) hi k h,e1,<- W.last] at st
 have st':l * z=(G.getD k []).getD k 0 * (G.getD i []).getD j 0 - (G.getD k []).getD j 0 * (G.getD i []).getD k 0:=by
   apply Rat.intCast_inj.mp
   rw [Rat.intCast_mul,Rat.intCast_sub,Rat.intCast_mul,Rat.intCast_mul]
   exact st
 have l0:l ≠ 0:=λq=>W.nz (by rw [<- W.last,q]; rfl)
 rw [g0,Int.mul_comm ((G.getD i []).getD j 0),<- st',e1,Int.mul_fdiv_cancel_left _ l0]
theorem WI.next {n b k:Nat} {M Y:Nat->Nat->Rat} {G G':List (List Int)} {s l:Int} (W:WI n b M k G s l Y) (h:k < n) (h7:n<=7) (hp:(G.getD k []).getD k 0 ≠ 0) (hl:G'.length=n) (hG:∀ i,i < n->G'.getD i []=if k < i then clR (G.getD i []) (G.getD k []) k l n else G.getD i []):WI n b M (k + 1) G' s ((G.getD k []).getD k 0) Y:=by
 have e:=W.ent k (Nat.le_refl _) h k h
 rw [sR] at e
 refine ⟨W.zb,W.dt,W.sg,e,λz=>hp (by rw [z] at e; exact Rat.intCast_eq_zero_iff.mp e),hl,λi hi=>?_,λi ki hi j hj=>?_⟩
 · rw [hG i hi]
   split
   · unfold clR; simp
   · exact W.row i hi
 · rw [hG i hi,if_pos (by omega)]
   exact W.clear h h7 (by omega) hi hj
theorem WI.no {n b k:Nat} {M Y:Nat->Nat->Rat} {G:List (List Int)} {s l:Int} (W:WI n b M k G s l Y) (h:k < n) (hz:∀ i,i < n - k->(G.getD (k + i) []).getD k 0=0):det n M=0:=by
 rw [W.dt,tJ W.nz h λp kp hp=>?_,Rat.mul_zero]
 rw [<- W.ent p kp hp k h,<- show k + (p - k)=p by omega,hz (p - k) (by omega)]
 rfl
theorem WI.bd {n b k:Nat} {M Y:Nat->Nat->Rat} {G:List (List Int)} {s l:Int} (W:WI n b M k G s l Y) (h7:n<=7) (hb:n * (b + 3)<=8998) {i:Nat} (ki:k<=i) (hi:i < n):∀ x ∈ G.getD i [],Bd 8999 x:=λx hx=>by
 obtain ⟨j,hj,rfl⟩:=List.getElem_of_mem hx
 have hj':j < n:=by rw [<- W.row i hi]; exact hj
 have e:=W.ent i ki hi j hj'
 have e2:(G.getD i []).getD j 0=(G.getD i [])[j]:=by rw [List.getD_eq_getElem?_getD (l:=G.getD i []),List.getElem?_eq_getElem hj]; rfl
 rw [e2] at e
 refine rj (uG W.zb (by omega) hi hj' h7) e ?_
 have:(k + 1) * (b + 3)<=n * (b + 3):=Nat.mul_le_mul_right _ (by omega)
 omega
theorem WI.lbd {n b k:Nat} {M Y:Nat->Nat->Rat} {G:List (List Int)} {s l:Int} (W:WI n b M k G s l Y) (hk:k<=n) (h7:n<=7) (hb:n * (b + 3)<=8998):Bd 8999 l:=by
 refine rj (mQ (b:=b) (n:=k) (M:=Y) (by omega) λi hi j hj=>W.zb i (by omega) j (by omega)) W.last ?_
 have:k * (b + 3)<=n * (b + 3):=Nat.mul_le_mul_right _ hk
 omega
noncomputable def wdZ (Ms:List (List Int)):Int:=(det Ms.length (dtM Ms)).num
theorem lL {Ms:List (List Int)} {z:Int} (h:(z:Rat)=det Ms.length (dtM Ms)):wdZ Ms=z:=by unfold wdZ; rw [<- h]; rfl
noncomputable def bJ (ds:List D) (r:Sl):Prop:=∃ (n b:Nat) (Ms:List (List Int)),ds=[.lst (Ms.map dtR)]/\Ms.length=n/\n<=7/\(∀ r ∈ Ms,r.length=n/\∀ x ∈ r,x.natAbs<=2 ^ b)/\n * (b + 3)<=8998/\r=.d (.int (wdZ Ms))
theorem sh {X:Cx} {o:Option Nat}:cx X (compareOp .Is) (pvD o) .non (.bl o.isNone):=⟨_,vO,λ_ v w H Q _ d1 d2 k=>by
 cases d2
 cases o with
 | none=>cases d1; exact ⟨rfl,by rw [decide_eq_true rfl]; exact k _ H (aq.refl _) .bl⟩
 | some i=>cases d1; exact ⟨rfl,by rw [decide_eq_false (by intro z; cases z)]; exact k _ H (aq.refl _) .bl⟩⟩
theorem ye (o:Option Nat):tD (.d (pvD o))=true:=by cases o <;> rfl
theorem tV (ns:List Int):tD (.o (ns.map .int))=true:=by
 show (ns.map D.int).all flat=true
 rw [List.all_map,List.all_eq_true]
 intro _ _
 rfl
theorem x4 {n m:Nat} (h:m < n):ixN n (m:Int)=some m:=by
 unfold ixN
 rw [if_pos (by omega),if_pos (by omega)]
 simp
section
variable {P:Program} {w:World} {K:PySem.W.Frag} {mg:Str->Option Value} {base:Heap} {k:Nat} {f:Addr} {fd:FuncData} {qual:Str}
set_option maxHeartbeats 1000000 in
theorem d9 (F:Fun K "whole_determinant" qual (top 34) f fd) (hb:∀ x ∈ aj,mg x=none) (c_pivot_place:Cal P w K mg base k "pivot_place" cU) (c_cleared:Cal P w K mg base k "cleared" gf):aR P w K mg base CX0 (k + 1) f fd ["rows"] (spD K bJ):=by
 refine fnD F ck hb (by rintro _ _ ⟨_,_,_,rfl,_⟩; rfl) ?_
 rintro _ _ ⟨n,b0,Ms,rfl,hl,h7,hr,hb0,rfl⟩ cdv A outer s H E b
 have nd:=ck.nd
 refine ay 1 nd (yD b (ae (aa 0) ag) vL) ?_
 refine ay 2 nd (bg b (ae (aa 0) ag) (cS (n:=n) (by rw [List.length_map]; exact hl))) ?_
 refine ay 3 nd af ?_
 refine ay 4 nd af ?_
 refine cM 5 (λi τ=>i<=n/\∃ G sg l Y s5 s6 s7,WI n b0 (dtM Ms) i G sg l Y/\τ=[.d (.lst (Ms.map dtR)),.o (G.map dtR),.d (.int (n:Nat)),.d (.int sg),.d (.int l),s5,s6,s7]) b nd (fw b (aa 2) (by omega) (by omega)) fH ⟨Nat.zero_le _,Ms,1,1,_,.un,.un,.un,WI.zero hl hr,rfl⟩ (λi hi τ h=>?_) λτ h=>?_
 · obtain ⟨_,G,sg,l,Y,s5,s6,s7,W,rfl⟩:=h
   have hi:i < n:=by rw [az] at hi; omega
   have gr:∀ r ∈ G,r.length=n:=λr hr'=>by
     obtain ⟨j,hj,rfl⟩:=List.getElem_of_mem hr'
     have:=W.row j (by rw [<- W.len]; exact hj)
     simpa [hj] using this
   refine ay 6 nd (r6 1 (C':=true) (s:=.d (pvD (pvP G i))) (x_call b c_pivot_place (ae (aa 1) (ae (aa 5) ag)) ⟨n,G,i,rfl,W.len,by omega,gr,hi,rfl⟩) (ye _)) ?_
   cases ep:pvP G i with
   | none=>
     refine dD (bb (aa 6) rT (sh (o:=none))) (λ_=>?_) λz=>by cases z
     refine aI af ?_
     unfold pvP at ep
     rw [W.len] at ep
     have:=W.no hi (lN _ ep)
     have:wdZ Ms=0:=lL (by rw [hl]; exact this.symm)
     rw [this]
   | some j=>
     unfold pvP at ep
     obtain ⟨kj,jn,hp⟩:=lD _ _ ep
     rw [W.len] at jn
     obtain ⟨m,rfl⟩:∃ m,j=i + m:=⟨j - i,by omega⟩
     have him:i + m < n:=by omega
     refine cJ (bb (aa 6) rT (sh (o:=some (i + m)))) rfl ?_
     have W2:=W.rot him
     refine mr (M:=λτ=>τ=[.d (.lst (Ms.map dtR)),.o (G.map dtR),.d (.int (n:Nat)),.d (.int (if m % 2=1 then -sg else sg)),.d (.int l),.d (.int (i:Nat)),.d (.int ((i + m:Nat):Int)),s7]) (bb (aw (aw (aa 6) (aa 5) eF) af (b5 (by decide))) af gu) (λz=>?_) (λz=>?_) ?_
     · have z:=of_decide_eq_true z
       have:m % 2=1:=by rw [Int.fmod_eq_emod_of_nonneg _ (by decide)] at z; omega
       rw [if_pos this]
       exact ay 3 nd (sA (aa 3)) (aX rfl)
     · have z:=of_decide_eq_false z
       have:¬ m % 2=1:=by rw [Int.fmod_eq_emod_of_nonneg _ (by decide)] at z; omega
       rw [if_neg this]
       exact aX rfl
     rintro _ rfl
     have hiG:i + m < G.length:=by rw [W.len]; exact him
     have hxj:(G.map dtR)[i + m]?=some (dtR (G.getD (i + m) [])):=by simp [hiG]
     refine x8 1 (k:=i) (j:=i + m) (dtR (G.getD (i + m) [])) (aa 5) (aa 6) hxj (by rw [List.length_map,W.len]; exact hi) (by rw [List.length_map,W.len]; omega) ?_
     have em:((G.map dtR).eraseIdx (i + m)).insertIdx i (dtR (G.getD (i + m) []))=((G.eraseIdx (i + m)).insertIdx i (G.getD (i + m) [])).map dtR:=by rw [<- pK,uX]
     rw [em]
     have hp2:(((G.eraseIdx (i + m)).insertIdx i (G.getD (i + m) [])).getD i []).getD i 0 ≠ 0:=by
       rw [mD [] (by rw [W.len]; exact him)]
       unfold rho
       rw [if_neg (by omega),if_pos rfl]
       exact hp
     generalize (G.eraseIdx (i + m)).insertIdx i (G.getD (i + m) [])=G2 at W2 hp2 ⊢
     generalize (if m % 2=1 then -sg else sg)=sg2 at W2 ⊢
     have l0:l ≠ 0:=λq=>W2.nz (by rw [<- W2.last,q]; rfl)
     refine cM 7 (g:=λt=>.int (((i:Int) + 1) + (t:Nat))) (λt τ=>∃ G3 s7,G3.length=n/\(∀ j,j < n->G3.getD j []=if i < j/\j < i + 1 + t then clR (G2.getD j []) (G2.getD i []) i l n else G2.getD j [])/\τ=[.d (.lst (Ms.map dtR)),.o (G3.map dtR),.d (.int (n:Nat)),.d (.int sg2),.d (.int l),.d (.int (i:Nat)),.d (.int ((i + m:Nat):Int)),s7]) b nd (kB b (aw (aa 5) af bS) (aa 2) (by omega)) rD ⟨G2,s7,W2.len,λj _=>by rw [if_neg (by omega)],rfl⟩ (λt ht τ h=>?_) λτ h=>?_
     · obtain ⟨G3,s7,g1,g2,rfl⟩:=h
       rw [az] at ht
       have hit:i + 1 + t < n:=by omega
       have ei:((i:Int) + 1) + (t:Nat)=((i + 1 + t:Nat):Int):=by omega
       rw [ei]
       have r3:G3.getD (i + 1 + t) []=G2.getD (i + 1 + t) []:=by rw [g2 _ hit,if_neg (by omega)]
       have r4:G3.getD i []=G2.getD i []:=by rw [g2 i hi,if_neg (by omega)]
       have a1:atI (G3.map dtR) ((i + 1 + t:Nat):Int)=some (dtR (G2.getD (i + 1 + t) [])):=by rw [<- r3]; exact cH [] (by omega)
       have a2:atI (G3.map dtR) (i:Int)=some (dtR (G2.getD i [])):=by rw [<- r4]; exact cH [] (by omega)
       refine xC 1 (xs:=G3.map dtR) (j:=i + 1 + t) (x:=dtR (clR (G2.getD (i + 1 + t) []) (G2.getD i []) i l n)) (aa 7) (ba (r6 1 (C':=true) (s:=.o ((clR (G2.getD (i + 1 + t) []) (G2.getD i []) i l n).map .int)) (x_call b c_cleared (ae (aM (aa 1) (aa 7) (aQ a1)) (ae (aM (aa 1) (aa 5) (aQ a2)) (ae (aa 5) (ae (aa 4) ag)))) ⟨n,_,_,i,l,8999,rfl,W2.row _ hit,W2.row _ hi,by omega,hi,W2.bd h7 hb0 (by omega) hit,W2.bd h7 hb0 (Nat.le_refl _) hi,by decide,l0,W2.lbd (by omega) h7 hb0,rfl⟩) (tV _))) (x4 (by rw [List.length_map,g1]; exact hit)) (aX ⟨G3.set (i + 1 + t) (clR (G2.getD (i + 1 + t) []) (G2.getD i []) i l n),.d (.int ((i + 1 + t:Nat):Int)),by rw [List.length_set]; exact g1,λj hj=>?_,by rw [List.map_set]; rfl⟩)
       by_cases z:j=i + 1 + t
       · subst z
         rw [if_pos (by omega)]
         simp [g1,hit]
       · have:(G3.set (i + 1 + t) (clR (G2.getD (i + 1 + t) []) (G2.getD i []) i l n)).getD j []=G3.getD j []:=by
           simp [List.getD_eq_getElem?_getD,List.getElem?_set_ne (Ne.symm z)]
         rw [this,g2 j hj]
         by_cases y:i < j/\j < i + 1 + t
         · rw [if_pos y,if_pos (by omega)]
         · rw [if_neg y,if_neg (by omega)]
     · obtain ⟨G3,s7,g1,g2,rfl⟩:=h
       rw [az] at g2
       have r4:G3.getD i []=G2.getD i []:=by rw [g2 i hi,if_neg (by omega)]
       have a2:atI (G3.map dtR) (i:Int)=some (dtR (G2.getD i [])):=by rw [<- r4]; exact cH [] (by omega)
       have W3:=W2.next (G':=G3) hi h7 hp2 g1 λj hj=>by
         rw [g2 j hj]
         by_cases y:i < j
         · rw [if_pos (by omega),if_pos y]
         · rw [if_neg (by omega),if_neg y]
       exact ay 4 nd (r6 1 (C':=true) (s:=.d (.int ((G2.getD i []).getD i 0))) (aM (aM (aa 1) (aa 5) (aQ a2)) (aa 5) (aQ (atR (by rw [W2.row i hi]; exact hi)))) rfl) (aX ⟨hi,G3,sg2,_,_,_,_,_,W3,rfl⟩)
 · obtain ⟨_,G,sg,l,Y,s5,s6,s7,W,rfl⟩:=h
   rw [az,Int.toNat_natCast] at W
   refine aI (aw (aa 3) (aa 4) (aS (mkL (by rcases W.sg with z | z <;> rw [z] <;> decide)))) ?_
   rw [lL (z:=sg * l) (by rw [hl,Rat.intCast_mul,W.last,W.dt])]
end
noncomputable def je (c:List Int):Int:=c.getD (c.length - 1) 0
noncomputable def lea (t:Nat) (c:List Int):Int:=if 0 < t then je c + 1 else 0
noncomputable def onC (n t:Nat) (c:List Int):List (List Int):=(List.range ((n:Int) - lea t c).toNat).map λk=>c++[lea t c + (k:Nat)]
noncomputable def chs (n:Nat):Nat->List (List Int)
 | 0=>[[]]
 | t + 1=>(chs n t).flatMap (onC n t)
structure Chs (n t:Nat) (c:List Int):Prop where
 len:c.length=t
 at_:∀ i,i < t->0<=c.getD i 0/\c.getD i 0 < n
theorem gX {c:List Int} {x:Int} {i:Nat}:(c++[x]).getD i 0=if i < c.length then c.getD i 0 else if i=c.length then x else 0:=by
 by_cases h:i < c.length
 · rw [if_pos h]; simp [List.getD,List.getElem?_append_left h]
 · rw [if_neg h]
   by_cases e:i=c.length
   · subst e; simp
   · rw [if_neg e]
     simp [List.getD]
     rw [List.getElem?_eq_none (by simp; omega)]
     rfl
theorem mf {n t:Nat} {c:List Int} (h:Chs n t c):0<=lea t c/\lea t c<=n:=by
 unfold lea
 by_cases ht:0 < t
 · have:=h.at_ (t - 1) (by omega)
   rw [if_pos ht,je,h.len]
   omega
 · rw [if_neg ht]; omega
theorem dX (n:Nat):∀ t,∀ c ∈ chs n t,Chs n t c
 | 0,c,h=>by
   rw [chs,List.mem_singleton] at h
   subst h
   exact ⟨rfl,λi hi=>absurd hi (by omega)⟩
 | t + 1,c,h=>by
   rw [chs,List.mem_flatMap] at h
   obtain ⟨d,hd,hc⟩:=h
   have ih:=dX n t d hd
   have hl:=mf ih
   unfold onC at hc
   obtain ⟨k,hk,rfl⟩:=List.mem_map.mp hc
   rw [List.mem_range] at hk
   refine ⟨by rw [List.length_append,ih.len]; rfl,λi hi=>?_⟩
   rw [gX,ih.len]
   by_cases e:i < t
   · rw [if_pos e]; exact ih.at_ i e
   · rw [if_neg e,if_pos (by omega)]; omega
theorem j0 {n t:Nat} {c:List Int} (h:Chs n t c):(onC n t c).length<=n:=by
 have:=mf h
 simp [onC]
 omega
theorem gP {α β:Type} (f:α->List β) (m:Nat):∀ xs:List α,(∀ x ∈ xs,(f x).length<=m)->(xs.flatMap f).length<=xs.length * m
 | [],_=>by simp
 | x :: xs,h=>by
   rw [List.flatMap_cons,List.length_append,List.length_cons,Nat.succ_mul]
   have:=h x (List.mem_cons_self ..)
   have:=gP f m xs λy hy=>h y (List.mem_cons_of_mem _ hy)
   omega
theorem m8 {n:Nat} (hn:n<=7):∀ t,(chs n t).length<=7 ^ t
 | 0=>by simp [chs]
 | t + 1=>by
   rw [chs]
   have:=gP (onC n t) 7 (chs n t) λc hc=>Nat.le_trans (j0 (dX n t c hc)) hn
   have:=m8 hn t
   rw [Nat.pow_succ]
   omega
theorem vI {α:Type} {xs:List α} {i:Nat} {d:α} (h:i < xs.length):xs.getD i d ∈ xs:=by simp [h]
theorem nu {c:List Int} (h:c ≠ []):atI (c.map D.int) (-1)=some (.int (je c)):=by
 have hl:0 < c.length:=List.length_pos_iff.mpr h
 unfold atI ixN je
 rw [if_neg (by decide),if_pos (by rw [List.length_map]; omega),List.length_map]
 simp only [Option.bind_some]
 have e:(-1 + (c.length:Int)).toNat=c.length - 1:=by omega
 rw [e]
 simp [(by omega:c.length - 1 < c.length)]
structure ChO (m:Int) (ns:List Int):Prop where
 ne:ns ≠ []
 up:∀ i,i + 1 < ns.length->ns.getD i 0 < ns.getD (i + 1) 0
 lo:0<=ns.getD 0 0
 hi:je ns < m
 len:ns.length<=1000
noncomputable def ed (ds:List D) (r:Sl):Prop:=∃ ns:List Int,ds=[.lst (ns.map .int)]/\(∀ i,i + 1 < ns.length->ns.getD i 0 < ns.getD (i + 1) 0)/\ns.length<=1000/\r=.d (.bl true)
theorem qx (n:Nat) (f:Nat->Bool) (h:∀ i,i < n->f i=true):((List.range n).map f).all id=true:=by
 rw [List.all_map,List.all_eq_true]
 intro i hi
 exact h i (List.mem_range.mp hi)
noncomputable def dU (ds:List D) (r:Sl):Prop:=∃ (ns:List Int) (m:Int),ds=[.lst (ns.map .int),.int m]/\ChO m ns/\r=.d (.bl true)
noncomputable def cG (ds:List D) (r:Sl):Prop:=∃ (ns ms:List Int) (m n:Int),ds=[.lst (ns.map .int),.lst (ms.map .int),.int m,.int n]/\ChO m ns/\ChO n ms/\r=.d .non
section
variable {P:Program} {w:World} {K:PySem.W.Frag} {mg:Str->Option Value} {base:Heap} {k:Nat} {f:Addr} {fd:FuncData} {qual:Str}
theorem j8 (F:Fun K "is_rising" qual (top 19) f fd) (hb:∀ x ∈ aj,mg x=none):aR P w K mg base CX0 (k + 1) f fd ["numbers"] (spD K ed):=by
 refine fnD F jZ hb (by rintro _ _ ⟨_,rfl,_⟩; rfl) ?_
 rintro _ _ ⟨ns,rfl,up,hl,rfl⟩ cdv A outer s H E b
 have el:(((ns.map D.int).length:Int) - 1).toNat=ns.length - 1:=by rw [List.length_map]; omega
 refine aI (bg b (ae (ba (cA (cmp 0 (g:=λi=>.int (1 + (i:Nat))) (f:=λi=>.bl (decide (ns.getD i 0 < ns.getD (i + 1) 0))) b (kB b af (bg b (ae (aa 0) ag) hV) (by rw [List.length_map]; omega)) (λi h=>fm 1 _ i h) (by rw [az]; omega) λi hi s0 H0 fp=>?_))) ag) (ly b.calm ((List.range (ns.length - 1)).map λi=>decide (ns.getD i 0 < ns.getD (i + 1) 0)) (by rw [az,el,List.map_map]; rfl))) ?_
 · have hi:i < ns.length - 1:=by rw [az,el] at hi; exact hi
   have k0:atI (ns.map D.int) (1 + (i:Int) - 1)=some (.int (ns.getD i 0)):=by
     have e:(1 + (i:Int) - 1).toNat=i:=by omega
     have:=gK (ns:=ns) (i:=1 + (i:Int) - 1) (by omega) (by omega)
     rw [e] at this
     exact this
   have k1:atI (ns.map D.int) (1 + (i:Int))=some (.int (ns.getD (i + 1) 0)):=by
     have e:(1 + (i:Int)).toNat=i + 1:=by omega
     have:=gK (ns:=ns) (i:=1 + (i:Int)) (by omega) (by omega)
     rw [e] at this
     exact this
   exact hW (aM (aa 1) (aw (aa 0) af eF) (aQ k0)) (aM (aa 1) (aa 0) (aQ k1)) si
 · rw [qx (ns.length - 1) (λi=>decide (ns.getD i 0 < ns.getD (i + 1) 0)) λi hi=>decide_eq_true (up i (by omega))]
theorem kr (F:Fun K "is_choice" qual (top 18) f fd) (hb:∀ x ∈ aj,mg x=none) (c_is_rising:Cal P w K mg base k "is_rising" ed) (c_is_whole:Cal P w K mg base k "is_whole" cE):aR P w K mg base CX0 (k + 1) f fd ["thing","many"] (spD K dU):=by
 refine fnD F km hb (by rintro _ _ ⟨_,_,rfl,_⟩; rfl) ?_
 rintro _ _ ⟨ns,m,rfl,h,rfl⟩ cdv A outer s H E b
 have hl:=h.len
 have l0:0 < ns.length:=List.length_pos_iff.mpr h.ne
 refine cJ (PW.pt (gq (bZ (bY (x_call b c_is_whole (ae (aa 1) ag) ⟨_,rfl,rfl⟩))) λh=>(gq (bZ (bY (fG .list b (aa 0)))) λh=>(gk (bb (bg b (ae (aa 0) ag) hV) af gu))))) ?_ ?_
 · rw [decide_eq_false (by rw [List.length_map]; omega)]; rfl
 refine cJ (bZ (bY (bg b (ae (ba (cA (cmp 0 (f:=λl=>.bl true) b (aT (aa 0)) uL (by rw [List.length_map]; omega) λl hl s0 H0 fp=>(x_call (b.comp s0 H0 _ fp) c_is_whole (ae (aa 0) ag) ⟨_,rfl,rfl⟩)))) ag) (ly b.calm ((List.range ns.length).map λ_=>true) (by rw [List.length_map,List.map_map]; rfl))))) ?_ ?_
 · rw [qx ns.length (λ_=>true) λ_ _=>rfl]; rfl
 refine aI (iM (x_call b c_is_rising (ae (aa 0) ag) ⟨ns,rfl,h.up,hl,rfl⟩) λ_=>(iM (hW (aM (aa 0) af (aQ (gK (ns:=ns) (i:=0) (by decide) l0))) af tw) λ_=>(jk (hW (aM (aa 0) (sA af) (aQ (nu h.ne))) (aa 1) si)))) ?_
 rw [decide_eq_true (show ns.getD (0:Int).toNat 0 ≥ 0 from h.lo),decide_eq_true h.hi]
 rfl
theorem gx (F:Fun K "look_choices" qual (top 21) f fd) (hb:∀ x ∈ aj,mg x=none) (c_is_choice:Cal P w K mg base k "is_choice" dU):aR P w K mg base CX0 (k + 1) f fd ["rows","columns","many_rows","many_columns"] (spD K cG):=by
 refine fnD F gA hb (by rintro _ _ ⟨_,_,_,_,rfl,_⟩; rfl) ?_
 rintro _ _ ⟨ns,ms,m,n,rfl,h1,h2,rfl⟩ cdv A outer s H E b
 refine cJ (bZ (bY (x_call b c_is_choice (ae (aa 0) (ae (aa 2) ag)) ⟨ns,m,rfl,h1,rfl⟩))) rfl ?_
 exact cJ (bZ (bY (x_call b c_is_choice (ae (aa 1) (ae (aa 3) ag)) ⟨ms,n,rfl,h2,rfl⟩))) rfl (aX rfl)
end
noncomputable def qM (M:List (List Rat)) (i j:Nat):Rat:=(M.getD i []).getD j 0
structure Bz (m d v:Nat):Prop where
 b1:1 + m * d<=8999
 b2:m * (v + (1 + m * d) + 3)<=8998
 b3:1 + m * (1 + m * d)<=8999
 b4:v + d<=8999
theorem Qs.sq {d v:Nat} {q:Rat} (h:Qs d v q):Sq (v + d) q:=by
 refine ⟨?_,h.den.mono (by omega)⟩
 have h1:=h.den
 unfold Bd at h1 ⊢
 rw [Int.natAbs_natCast] at h1
 rw [Nat.pow_add]
 exact Nat.lt_of_le_of_lt h.val (Nat.mul_lt_mul_of_pos_left h1 (Nat.two_pow_pos v))
theorem nW (ns:List Int):∀ t,t<=ns.length->((prZ (ns.take t):Int):Rat)=iR (λi=>((ns.getD i 0:Int):Rat)) t
 | 0,_=>rfl
 | t + 1,h=>by
   have et:ns.take (t + 1)=ns.take t++[ns.getD t 0]:=by rw [List.take_succ,List.getElem?_eq_getElem (by omega)]; simp [show t < ns.length by omega]
   rw [et,iq,Rat.intCast_mul,nW ns t (by omega),iR]
theorem wB {M:List (List Rat)} {ss:List Int} {i j:Nat} (hi:i < M.length) (hj:j < (M.getD i []).length):((whM M ss).getD i []).getD j 0=((M.getD i []).getD j 0).num * (ss.getD i 0 / (((M.getD i []).getD j 0).den:Nat)):=by
 have e:(whM M ss).getD i []=whR (M.getD i []) (ss.getD i 0):=by unfold whM; simp [hi]
 rw [e]
 unfold whR
 rw [List.getD_eq_getElem?_getD,List.getElem?_map,List.getElem?_eq_getElem hj,List.getD_eq_getElem?_getD (l:=M.getD i []),List.getElem?_eq_getElem hj]
 rfl
theorem sD {R d v:Nat} {M:List (List Rat)} (t:Tq R R M) (hq:∀ r ∈ M,∀ x ∈ r,Qs d v x) (z:Bz R d v):(whM M (M.map scL)).length=R/\(∀ r ∈ whM M (M.map scL),r.length=R/\∀ x ∈ r,x.natAbs<=2 ^ (v + (1 + R * d)))/\0 < prZ (M.map scL)/\Bd 8999 (prZ (M.map scL))/\((wdZ (whM M (M.map scL)):Int):Rat)=det R (qM M) * ((prZ (M.map scL):Int):Rat):=by
 have l1:(whM M (M.map scL)).length=R:=by unfold whM; simp [t.len]
 have sc:∀ i,i < R->(M.map scL).getD i 0=scL (M.getD i []):=λi hi=>by simp [show i < M.length by rw [t.len]; exact hi]
 have rowm:∀ r ∈ whM M (M.map scL),r.length=R/\∀ x ∈ r,x.natAbs<=2 ^ (v + (1 + R * d)):=λr hr=>by
   unfold whM at hr
   obtain ⟨i,hi,rfl⟩:=List.mem_map.mp hr
   rw [List.mem_range,t.len] at hi
   have mi:M.getD i [] ∈ M:=aP (by rw [t.len]; exact hi)
   refine ⟨by unfold whR; rw [List.length_map]; exact t.at_ hi,λx hx=>?_⟩
   unfold whR at hx
   obtain ⟨q,hq',rfl⟩:=List.mem_map.mp hx
   rw [sc i hi]
   have:=bU (d:=d) (r:=M.getD i []) λx hx=>(hq _ mi x hx).den
   rw [t.at_ hi] at this
   exact Nat.le_of_lt (qt (hq _ mi q hq') ((cK _).2 q hq') this)
 have bs:∀ s ∈ M.map scL,0 < s/\Bd (1 + R * d) s:=λs hs=>by
   obtain ⟨r,hr,rfl⟩:=List.mem_map.mp hs
   have:=bU (d:=d) (r:=r) λx hx=>(hq _ hr x hx).den
   rw [t.row r hr] at this
   exact ⟨(cK r).1,this⟩
 have bp:=ku (d:=1 + R * d) (r:=M.map scL) λs hs=>(bs s hs).2
 rw [List.length_map,t.len] at bp
 refine ⟨l1,rowm,um λs hs=>(bs s hs).1,bp.mono z.b3,?_⟩
 have zb:∀ i < R,∀ j < R,ZB (v + (1 + R * d)) (dtM (whM M (M.map scL)) i j):=λi hi j hj=>by
   have mi:=aP (xs:=whM M (M.map scL)) (d:=[]) (i:=i) (by rw [l1]; exact hi)
   exact ⟨_,rfl,(rowm _ mi).2 _ (aP (by rw [(rowm _ mi).1]; exact hj))⟩
 obtain ⟨w,e1,_⟩:=mQ (n:=R) (by have:=t.r7; omega) zb
 have e2:wdZ (whM M (M.map scL))=w:=lL (by rw [l1,e1])
 rw [e2,<- e1]
 have pr:=nW (M.map scL) R (by rw [List.length_map,t.len]; exact Nat.le_refl _)
 rw [List.take_of_length_le (by rw [List.length_map,t.len]; exact Nat.le_refl _)] at pr
 rw [pr,Rat.mul_comm,<- js (n:=R) _ (qM M) R (Nat.le_refl _)]
 refine aC λi hi j hj=>?_
 rw [if_pos hi]
 have hj':j < (M.getD i []).length:=by rw [t.at_ hi]; exact hj
 unfold dtM
 rw [wB (by rw [t.len]; exact hi) hj',sc i hi,u3 ((cK _).2 _ (aP hj')),Rat.mul_comm]
 rfl
noncomputable def bE (ds:List D) (r:Sl):Prop:=∃ (R d v:Nat) (M:List (List Rat)),ds=[tbQ M]/\Tq R R M/\(∀ r ∈ M,∀ x ∈ r,Qs d v x)/\Bz R d v/\r=.d (frD (det R (qM M)))
theorem ChO.bd {m:Int} {ns:List Int} (h:ChO m ns):∀ i,i < ns.length->0<=ns.getD i 0/\ns.getD i 0 < m:=by
 have lo:∀ i,i < ns.length->0<=ns.getD i 0:=λi=>by
   induction i with
   | zero=>exact λ_=>h.lo
   | succ i ih=>exact λhi=>by have:=ih (by omega); have:=h.up i hi; omega
 have hi:∀ d i,i + d + 1=ns.length->ns.getD i 0 < m:=λd=>by
   induction d with
   | zero=>exact λi e=>by have:=h.hi; unfold je at this; rwa [show ns.length - 1=i by omega] at this
   | succ d ih=>exact λi e=>by have:=ih (i + 1) (by omega); have:=h.up i (by omega); omega
 exact λi hi'=>⟨lo i hi',hi (ns.length - 1 - i) i (by omega)⟩
theorem jL {R C m:Nat} {M:List (List Rat)} {rs cs:List Int} (t:Tq R C M) (hr:ChO R rs) (hc:ChO C cs) (l1:rs.length=m) (l2:cs.length=m) (m7:m<=7):Tq m m (chM M rs cs):=by
 have m1:1<=m:=by
   rcases Nat.eq_zero_or_pos m with z | z
   · exact absurd (List.length_eq_zero_iff.mp (l1.trans z)) hr.ne
   · exact z
 refine ⟨m1,m7,m1,m7,by unfold chM; rw [List.length_map,l1],λr hr'=>?_⟩
 unfold chM at hr'
 obtain ⟨x,_,rfl⟩:=List.mem_map.mp hr'
 unfold pkL
 rw [List.length_map,l2]
theorem mS {M:List (List Rat)} {rs cs:List Int} {a b:Nat} (ha:a < rs.length) (hb:b < cs.length):qM (chM M rs cs) a b=qM M (rs.getD a 0).toNat (cs.getD b 0).toNat:=by
 unfold qM chM pkL
 simp [ha,hb]
theorem jY {R C d v:Nat} {M:List (List Rat)} {rs cs:List Int} (t:Tq R C M) (hr:ChO R rs) (hc:ChO C cs) (hq:∀ r ∈ M,∀ x ∈ r,Qs d v x):∀ r ∈ chM M rs cs,∀ x ∈ r,Qs d v x:=λr hr' x hx=>by
 unfold chM at hr'
 obtain ⟨p,hp,rfl⟩:=List.mem_map.mp hr'
 unfold pkL at hx
 obtain ⟨q,hq',rfl⟩:=List.mem_map.mp hx
 obtain ⟨a,ha,rfl⟩:=List.getElem_of_mem hp
 obtain ⟨c,hc',rfl⟩:=List.getElem_of_mem hq'
 have b1:=hr.bd a ha
 have b2:=hc.bd c hc'
 have e1:rs.getD a 0=rs[a]:=by simp [ha]
 have e2:cs.getD c 0=cs[c]:=by simp [hc']
 rw [e1] at b1
 rw [e2] at b2
 exact hq _ (aP (by rw [t.len]; omega)) _ (aP (by rw [t.at_ (by omega)]; omega))
theorem ChO.pk {m:Nat} {ns:List Int} (h:ChO m ns):Pk m ns:=⟨h.len,h.bd⟩
noncomputable def mnQ (M:List (List Rat)) (rs cs:List Int):Rat:=det rs.length λa b=>qM M (rs.getD a 0).toNat (cs.getD b 0).toNat
noncomputable def ky (ds:List D) (r:Sl):Prop:=∃ (R C m d v:Nat) (M:List (List Rat)) (rs cs:List Int),ds=[tbQ M,.lst (rs.map .int),.lst (cs.map .int)]/\Tq R C M/\ChO R rs/\ChO C cs/\rs.length=m/\cs.length=m/\m<=7/\(∀ r ∈ M,∀ x ∈ r,Qs d v x)/\Bz m d v/\r=.d (frD (mnQ M rs cs))
noncomputable def jU (ns ms:List Int):List Int:=(List.range (min ns.length ms.length)).map λi=>ns.getD i 0 * ms.getD i 0
noncomputable def bX (ds:List D) (r:Sl):Prop:=∃ (ns ms:List Int) (B:Nat),ds=[dtR ns,dtR ms]/\ns.length<=1000/\(∀ x ∈ ns,Bd B x)/\(∀ x ∈ ms,Bd B x)/\B<=900000/\r=.d (.int (jU ns ms).sum)
section
variable {P:Program} {w:World} {K:PySem.W.Frag} {mg:Str->Option Value} {base:Heap} {k:Nat} {f:Addr} {fd:FuncData} {qual:Str}
theorem dJ (F:Fun K "square_determinant" qual (top 28) f fd) (hb:∀ x ∈ aj,mg x=none) (c_look_square:Cal P w K mg base k "look_square" cT) (c_fraction:Cal P w K mg base k "fraction" dn) (c_scale_of:Cal P w K mg base k "scale_of" cF) (c_whole_determinant:Cal P w K mg base k "whole_determinant" bJ) (c_product_of_all:Cal P w K mg base k "product_of_all" b7) (c_whole_rows:Cal P w K mg base k "whole_rows" cy):aR P w K mg base CX0 (k + 1) f fd ["table"] (spD K bE):=by
 refine fnD F b6 hb (by rintro _ _ ⟨_,_,_,_,rfl,_⟩; rfl) ?_
 rintro _ _ ⟨R,d,v,M,rfl,t,hq,z,rfl⟩ cdv A outer s H E b
 have nd:=b6.nd
 have r7:=t.r7
 obtain ⟨o1,o2,o3,o4,o5⟩:=sD t hq z
 refine gR (x_call b c_look_square (ae (aa 0) ag) ⟨R,M,rfl,t,rfl⟩) ?_
 refine gZ 1 nd (s:=.d (.lst ((M.map scL).map .int))) (cmp 0 (g:=λi=>rwQ (M.getD i [])) (f:=λi=>.int (scL (M.getD i []))) b (aT (aa 0)) (bQ (f:=rwQ) (xs:=M) []) (by rw [List.length_map,t.len]; omega) λi hi s0 H0 fp=>(x_call (b.comp s0 H0 _ fp) c_scale_of (ae (aa 0) ag) ⟨_,d,rfl,?_,?_,?_,?_,rfl⟩)) (.inr ?_) ?_
 · rw [t.at_ (by simpa [t.len] using hi)]; omega
 · exact λx hx=>(hq _ (aP (by simpa using hi)) x hx).den
 · rw [t.at_ (by simpa [t.len] using hi)]; exact z.b1
 · have:=z.b4; omega
 · exact congrArg (λl=>Sl.d (D.lst l)) (((cf (λr:List Rat=>D.int (scL r)) M [] (List.length_map ..)).trans (by rw [List.map_map]; rfl)).symm)
 refine aI (x_call b c_fraction (ae (x_call b c_whole_determinant (ae (ba (x_call b c_whole_rows (ae (aa 0) (ae (aa 1) ag)) ⟨M,M.map scL,v + d,rfl,by rw [List.length_map],by rw [t.len]; omega,λr hr=>⟨by rw [t.row r hr]; omega,λx hx=>(hq r hr x hx).sq⟩,z.b4,?_,rfl⟩)) ag) ⟨R,v + (1 + R * d),_,rfl,o1,r7,o2,z.b2,rfl⟩) (ae (x_call b c_product_of_all (ae (aa 1) ag) ⟨M.map scL,1 + R * d,rfl,?_,?_,?_,rfl⟩) ag)) ⟨_,_,det R (qM M),rfl,o3,o4,o5,rfl⟩) rfl
 · intro s hs
   obtain ⟨r,hr,rfl⟩:=List.mem_map.mp hs
   have:=bU (d:=d) (r:=r) λx hx=>(hq _ hr x hx).den
   rw [t.row r hr] at this
   exact this.mono z.b1
 · intro s hs
   obtain ⟨r,hr,rfl⟩:=List.mem_map.mp hs
   have:=bU (d:=d) (r:=r) λx hx=>(hq _ hr x hx).den
   rw [t.row r hr] at this
   exact this
 · rw [List.length_map,t.len]; have:=z.b3; omega
 · have:=z.b1; omega
theorem rR (F:Fun K "minor" qual (top 27) f fd) (hb:∀ x ∈ aj,mg x=none) (c_look_table:Cal P w K mg base k "look_table" cw) (c_look_choices:Cal P w K mg base k "look_choices" cG) (c_square_determinant:Cal P w K mg base k "square_determinant" bE) (c_chosen:Cal P w K mg base k "chosen" i0):aR P w K mg base CX0 (k + 1) f fd ["table","rows","columns"] (spD K ky):=by
 refine fnD F rW hb (by rintro _ _ ⟨_,_,_,_,_,_,_,_,rfl,_⟩; rfl) ?_
 rintro _ _ ⟨R,C,m,d,v,M,rs,cs,rfl,t,hr,hc,l1,l2,m7,hq,z,rfl⟩ cdv A outer s H E b
 have r1:=t.r1
 have e0:atI (M.map rwQ) 0=some (rwQ (M.getD 0 [])):=cH [] (i:=0) (by rw [t.len]; omega)
 refine gR (x_call b c_look_table (ae (aa 0) ag) ⟨R,C,M,rfl,t,rfl⟩) ?_
 refine gR (x_call b c_look_choices (ae (aa 1) (ae (aa 2) (ae (bg b (ae (aa 0) ag) (cS (n:=R) (by rw [List.length_map]; exact t.len))) (ae (bg b (ae (aM (aa 0) af (aQ e0)) ag) (cS (n:=C) (by rw [List.length_map]; exact t.at_ (by omega)))) ag)))) ⟨rs,cs,R,C,rfl,hr,hc,rfl⟩) ?_
 refine aI (x_call b c_square_determinant (ae (ba (x_call b c_chosen (ae (aa 0) (ae (aa 1) (ae (aa 2) ag))) ⟨R,C,M,rs,cs,rfl,t,hr.pk,hc.pk,rfl⟩)) ag) ⟨m,d,v,chM M rs cs,rfl,jL t hr hc l1 l2 m7,jY t hr hc hq,z,rfl⟩) ?_
 unfold mnQ
 rw [l1,aC λa ha b hb'=>mS (M:=M) (rs:=rs) (cs:=cs) (by omega) (by omega)]
theorem eX (F:Fun K "sum_of_products" qual (top 39) f fd) (hb:∀ x ∈ aj,mg x=none):aR P w K mg base CX0 (k + 1) f fd ["numbers","others"] (spD K bX):=by
 refine fnD F eR hb (by rintro _ _ ⟨_,_,_,rfl,_⟩; rfl) ?_
 rintro _ _ ⟨ns,ms,B,rfl,hl,h1,h2,hB,rfl⟩ cdv A outer s H E b
 have zl:(fN (ns.map D.int) (ms.map D.int)).length=min ns.length ms.length:=by rw [cj,List.length_map,List.length_map]
 refine aI (bg b (ae (ba (cA (tS 0 1 (g:=λi=>.int (ns.getD i 0)) (g':=λi=>.int (ms.getD i 0)) (f:=λi=>.int (ns.getD i 0 * ms.getD i 0)) b (nL b (aa 0) (aa 1)) (j2 0 0) (by rw [zl]; omega) λi hi s0 H0 fp=>?_))) ag) (xG b.calm (jU ns ms) ?_)) rfl
 · rw [zl] at hi
   exact aw (aa 0) (aa 1) (aS ((h1 _ (aP (by omega))).aE (h2 _ (aP (by omega))) (by omega) (by omega)))
 · unfold jU
   rw [zl,List.map_map]
   rfl
end
noncomputable def mj (t:List (List Rat)) (j:Nat):List Rat:=t.map λr=>r.getD j 0
noncomputable def dQ (ds:List D) (r:Sl):Prop:=∃ (R C:Nat) (t:List (List Rat)) (j:Nat),ds=[tbQ t,.int (j:Nat)]/\Tq R C t/\j < C/\r=.o ((mj t j).map frD)
noncomputable def bI (t:List (List Rat)) (C:Nat):List (List Rat):=(List.range C).map (mj t)
theorem fD {R C:Nat} {t:List (List Rat)} (h:Tq R C t):Tq C R (bI t C):=⟨h.c1,h.c7,h.r1,h.r7,by simp [bI],λr hr=>by
 unfold bI at hr
 obtain ⟨j,_,rfl⟩:=List.mem_map.mp hr
 unfold mj
 rw [List.length_map,h.len]⟩
theorem rM {R C:Nat} {t:List (List Rat)} (h:Tq R C t) {i j:Nat} (hi:i < R) (hj:j < C):qM (bI t C) j i=qM t i j:=by
 have:i < t.length:=by rw [h.len]; exact hi
 unfold qM bI mj
 simp [hj,this]
theorem k5 {R C d v:Nat} {t:List (List Rat)} (h:Tq R C t) (hq:∀ r ∈ t,∀ x ∈ r,Qs d v x):∀ r ∈ bI t C,∀ x ∈ r,Qs d v x:=λr hr x hx=>by
 unfold bI at hr
 obtain ⟨j,hj,rfl⟩:=List.mem_map.mp hr
 rw [List.mem_range] at hj
 unfold mj at hx
 obtain ⟨q,hq',rfl⟩:=List.mem_map.mp hx
 exact hq q hq' _ (aP (by rw [h.row q hq']; exact hj))
noncomputable def dB (ds:List D) (r:Sl):Prop:=∃ (R C:Nat) (t:List (List Rat)),ds=[tbQ t]/\Tq R C t/\r=.o ((bI t C).map rwQ)
noncomputable def dj (q c:List Rat):Rat:=ar (λk=>q.getD k 0 * c.getD k 0) q.length
theorem w9 (a s b t:Rat):a * s * (b * t)=a * b * (s * t):=by rw [Rat.mul_assoc,<- Rat.mul_assoc s b t,Rat.mul_comm s b,Rat.mul_assoc b s t,<- Rat.mul_assoc a b]
theorem uS {d v:Nat} {q:Rat} {s:Int} (hq:Qs d v q) (h:((q.den:Nat):Int) ∣ s):(q.num * (s / (q.den:Nat))).natAbs<=2 ^ v * s.natAbs:=by
 obtain ⟨k,rfl⟩:=h
 have hd:=den_pos q
 rw [Int.mul_ediv_cancel_left _ (by omega),Int.natAbs_mul,Int.natAbs_mul,Int.natAbs_natCast,<- Nat.mul_assoc]
 exact Nat.mul_le_mul_right _ hq.val
theorem kg {q:List Rat} {s:Int} {i:Nat} (h:i < q.length):(whR q s).getD i 0=(q.getD i 0).num * (s / ((q.getD i 0).den:Nat)):=by unfold whR; simp [h]
theorem qJ {B:Nat} {f:Nat->Int}:∀ n,(∀ i < n,(f i).natAbs<=B)->((List.range n).map f).sum.natAbs<=n * B
 | 0,_=>by simp
 | n + 1,h=>by
   rw [List.range_succ,List.map_append,List.sum_append]
   have h1:=qJ n λi hi=>h i (by omega)
   have h2:=h n (by omega)
   rw [Nat.succ_mul]
   simp only [List.map_cons,List.map_nil,List.sum_cons,List.sum_nil,Int.add_zero]
   omega
theorem rY {K d v:Nat} {q c:List Rat} (h1:q.length=K) (h2:c.length=K) (k7:K<=7) (hq:∀ x ∈ q,Qs d v x) (hc:∀ x ∈ c,Qs d v x):(((jU (whR q (scL q)) (whR c (scL c))).sum:Int):Rat)=dj q c * ((scL q * scL c:Int):Rat)/\Qs (2 + 2 * (K * d)) (2 * v + 3) (dj q c):=by
 obtain ⟨p1,d1⟩:=cK q
 obtain ⟨p2,d2⟩:=cK c
 have l1:(whR q (scL q)).length=K:=by unfold whR; rw [List.length_map,h1]
 have l2:(whR c (scL c)).length=K:=by unfold whR; rw [List.length_map,h2]
 have e:(((jU (whR q (scL q)) (whR c (scL c))).sum:Int):Rat)=dj q c * ((scL q * scL c:Int):Rat):=by
   unfold jU dj
   rw [l1,l2,Nat.min_self,ju,h1,dR]
   refine ak λi hi=>?_
   have mi:=aP (xs:=q) (d:=(0:Rat)) (i:=i) (by omega)
   have ni:=aP (xs:=c) (d:=(0:Rat)) (i:=i) (by omega)
   rw [kg (by omega),kg (by omega),Rat.intCast_mul,u3 (d1 _ mi),u3 (d2 _ ni),Rat.intCast_mul]
   exact w9 _ _ _ _
 refine ⟨e,?_⟩
 have S0:0 < scL q * scL c:=Int.mul_pos p1 p2
 obtain ⟨f1,f2⟩:=gg S0 e
 have b1:=bU (d:=d) (r:=q) λx hx=>(hq x hx).den
 have b2:=bU (d:=d) (r:=c) λx hx=>(hc x hx).den
 rw [h1] at b1
 rw [h2] at b2
 refine ⟨?_,?_⟩
 · rw [f2]
   exact ((b1.mul b2).ediv _).mono (by omega)
 · have zl:(jU (whR q (scL q)) (whR c (scL c))).sum.natAbs<=K * (2 ^ v * (scL q).natAbs * (2 ^ v * (scL c).natAbs)):=by
     unfold jU
     rw [l1,l2,Nat.min_self]
     refine qJ K λi hi=>?_
     have mi:=aP (xs:=q) (d:=(0:Rat)) (i:=i) (by omega)
     have ni:=aP (xs:=c) (d:=(0:Rat)) (i:=i) (by omega)
     rw [kg (by omega),kg (by omega),Int.natAbs_mul]
     exact Nat.mul_le_mul (uS (hq _ mi) (d1 _ mi)) (uS (hc _ ni) (d2 _ ni))
   generalize (jU (whR q (scL q)) (whR c (scL c))).sum=z at f1 f2 zl
   generalize hS:scL q * scL c=S at f1 f2 S0
   have sS:(scL q).natAbs * (scL c).natAbs=S.natAbs:=by rw [<- hS,Int.natAbs_mul]
   generalize hg:(Int.gcd z S:Int)=g at f1 f2
   have g0:0 < g:=by
     have:=eK (i:=z) (j:=S) (by omega)
     rw [hg] at this
     have:=Int.natCast_nonneg (Int.gcd z S)
     omega
   have gz:g ∣ z:=by rw [<- hg]; exact Int.gcd_dvd_left ..
   have gS:g ∣ S:=by rw [<- hg]; exact Int.gcd_dvd_right ..
   have ez:(dj q c).num * g=z:=by rw [f1]; exact Int.ediv_mul_cancel gz
   have eS:((dj q c).den:Int) * g=S:=by rw [f2]; exact Int.ediv_mul_cancel gS
   have nz:(dj q c).num.natAbs * g.natAbs=z.natAbs:=by rw [<- Int.natAbs_mul,ez]
   have nS:(dj q c).den * g.natAbs=S.natAbs:=by rw [<- eS,Int.natAbs_mul,Int.natAbs_natCast]
   have key:(dj q c).num.natAbs * g.natAbs<=2 ^ (2 * v + 3) * (dj q c).den * g.natAbs:=by
     rw [nz,Nat.mul_assoc,nS,<- sS]
     refine Nat.le_trans zl ?_
     have e3:(2:Nat) ^ (2 * v + 3)=2 ^ v * 2 ^ v * 8:=by rw [Nat.pow_add,Nat.two_mul,Nat.pow_add]
     rw [e3]
     have:K * (2 ^ v * (scL q).natAbs * (2 ^ v * (scL c).natAbs))=K * (2 ^ v * 2 ^ v * ((scL q).natAbs * (scL c).natAbs)):=by
       congr 1
       rw [Nat.mul_mul_mul_comm]
     rw [this,Nat.mul_comm (2 ^ v * 2 ^ v) 8,Nat.mul_assoc 8]
     exact Nat.mul_le_mul_right _ (by omega)
   exact Nat.le_of_mul_le_mul_right key (by omega)
noncomputable def cY (ds:List D) (r:Sl):Prop:=∃ (K d v:Nat) (q:List Rat) (cl:List (List Rat)),ds=[rwQ q,.lst ((whM cl (cl.map scL)).map dtR),.lst ((cl.map scL).map .int)]/\q.length=K/\K<=7/\(∀ x ∈ q,Qs d v x)/\cl.length<=1000/\(∀ c ∈ cl,c.length=K/\∀ x ∈ c,Qs d v x)/\2 + 2 * (K * d)<=8999/\v + (1 + K * d)<=8999/\v + d<=8999/\r=.o ((cl.map (dj q)).map frD)
noncomputable def pdM (A B:List (List Rat)) (C:Nat):List (List Rat):=A.map λr=>(bI B C).map (dj r)
theorem wY {R K C:Nat} {A B:List (List Rat)} (h1:Tq R K A) (h2:Tq K C B):Tq R C (pdM A B C):=⟨h1.r1,h1.r7,h2.c1,h2.c7,by unfold pdM; rw [List.length_map,h1.len],λr hr=>by
 unfold pdM at hr
 obtain ⟨x,_,rfl⟩:=List.mem_map.mp hr
 rw [List.length_map]
 exact (fD h2).len⟩
theorem v8 {R K C:Nat} {A B:List (List Rat)} (h1:Tq R K A) (h2:Tq K C B) {i j:Nat} (hi:i < R) (hj:j < C):qM (pdM A B C) i j=mulQ K (qM A) (qM B) i j:=by
 have a1:i < A.length:=by rw [h1.len]; exact hi
 have e:qM (pdM A B C) i j=dj (A.getD i []) ((bI B C).getD j []):=by
   have a2:j < (bI B C).length:=by rw [(fD h2).len]; exact hj
   unfold qM pdM
   simp [a1,a2]
 rw [e]
 unfold dj mulQ
 rw [h1.at_ hi]
 refine ak λk hk=>?_
 rw [<- rM h2 hk hj]
 rfl
theorem wc {R K C d v:Nat} {A B:List (List Rat)} (h1:Tq R K A) (h2:Tq K C B) (q1:∀ r ∈ A,∀ x ∈ r,Qs d v x) (q2:∀ r ∈ B,∀ x ∈ r,Qs d v x):∀ r ∈ pdM A B C,∀ x ∈ r,Qs (2 + 2 * (K * d)) (2 * v + 3) x:=λr hr x hx=>by
 unfold pdM at hr
 obtain ⟨a,ha,rfl⟩:=List.mem_map.mp hr
 obtain ⟨c,hc,rfl⟩:=List.mem_map.mp hx
 exact (rY (h1.row a ha) ((fD h2).row c hc) h1.c7 (q1 a ha) (k5 h2 q2 c hc)).2
noncomputable def gc (ds:List D) (r:Sl):Prop:=∃ (R K C d v:Nat) (A B:List (List Rat)),ds=[tbQ A,tbQ B]/\Tq R K A/\Tq K C B/\(∀ r ∈ A,∀ x ∈ r,Qs d v x)/\(∀ r ∈ B,∀ x ∈ r,Qs d v x)/\2 + 2 * (K * d)<=8999/\v + (1 + K * d)<=8999/\v + d<=8999/\r=.o ((pdM A B C).map rwQ)
section
variable {P:Program} {w:World} {K:PySem.W.Frag} {mg:Str->Option Value} {base:Heap} {k:Nat} {f:Addr} {fd:FuncData} {qual:Str}
theorem jT (F:Fun K "column_of" qual (top 25) f fd) (hb:∀ x ∈ aj,mg x=none):aR P w K mg base CX0 (k + 1) f fd ["table","j"] (spD K dQ):=by
 refine fnD F jS hb (by rintro _ _ ⟨_,_,_,_,rfl,_⟩; rfl) ?_
 rintro _ _ ⟨R,C,t,j,rfl,h,hj,rfl⟩ cdv A outer s H E b
 have r7:=h.r7
 refine aI (cA (cmp 0 (g:=λi=>rwQ (t.getD i [])) (f:=λi=>frD ((t.getD i []).getD j 0)) b (aT (aa 0)) (bQ (f:=rwQ) (xs:=t) []) (by rw [List.length_map,h.len]; omega) λi hi s0 H0 fp=>(aM (aa 0) (aa 1) (aQ (cH (f:=frD) (xs:=t.getD i []) 0 (i:=j) ?_))))) ?_
 · rw [h.at_ (by rw [List.length_map,h.len] at hi; exact hi)]; exact hj
 · refine congrArg Sl.o ((cf (λr:List Rat=>frD (r.getD j 0)) t [] (List.length_map ..)).trans ?_)
   unfold mj
   rw [List.map_map]
   rfl
theorem i7 (F:Fun K "columns_of" qual (top 24) f fd) (hb:∀ x ∈ aj,mg x=none) (c_column_of:Cal P w K mg base k "column_of" dQ):aR P w K mg base CX0 (k + 1) f fd ["table"] (spD K dB):=by
 refine fnD F jh hb (by rintro _ _ ⟨_,_,_,rfl,_⟩; rfl) ?_
 rintro _ _ ⟨R,C,t,rfl,h,rfl⟩ cdv A outer s H E b
 have r1:=h.r1
 have c7:=h.c7
 have e0:atI (t.map rwQ) 0=some (rwQ (t.getD 0 [])):=cH [] (i:=0) (by rw [h.len]; omega)
 refine aI (cA (cmp 0 (f:=λj=>rwQ (mj t j)) b (fw (n:=(C:Nat)) b (bg b (ae (aM (aa 0) af (aQ e0)) ag) (cS (n:=C) (by rw [List.length_map]; exact h.at_ (by omega)))) (by omega) (by omega)) fH (by rw [az]; omega) λj hj s0 H0 fp=>ba (x_call (b.comp s0 H0 _ fp) c_column_of (ae (aa 1) (ae (aa 0) ag)) ⟨R,C,t,j,rfl,h,by rw [az] at hj; omega,rfl⟩))) ?_
 unfold bI
 rw [az,Int.toNat_natCast,List.map_map]
 rfl
theorem g9 (F:Fun K "product_row" qual (top 38) f fd) (hb:∀ x ∈ aj,mg x=none) (c_scale_of:Cal P w K mg base k "scale_of" cF) (c_whole_row:Cal P w K mg base k "whole_row" cN) (c_fraction:Cal P w K mg base k "fraction" dn) (c_sum_of_products:Cal P w K mg base k "sum_of_products" bX):aR P w K mg base CX0 (k + 1) f fd ["row","whole_columns","scales"] (spD K cY):=by
 refine fnD F dW hb (by rintro _ _ ⟨_,_,_,_,_,rfl,_⟩; rfl) ?_
 rintro _ _ ⟨K0,d,v,q,cl,rfl,hk,k7,hq,hl,hc,z1,z2,z3,rfl⟩ cdv A outer s H E b
 have nd:=dW.nd
 have bq:=bU (d:=d) (r:=q) λx hx=>(hq x hx).den
 rw [hk] at bq
 have pq:=(cK q).1
 have lw:(whM cl (cl.map scL)).length=cl.length:=by simp [whM]
 have zl:(fN ((whM cl (cl.map scL)).map dtR) ((cl.map scL).map D.int)).length=cl.length:=by rw [cj,List.length_map,List.length_map,List.length_map,lw,Nat.min_self]
 refine ay 3 nd (x_call b c_scale_of (ae (aa 0) ag) ⟨q,d,rfl,by omega,λx hx=>(hq x hx).den,by rw [hk]; omega,by omega,rfl⟩) ?_
 refine ay 4 nd (ba (x_call b c_whole_row (ae (aa 0) (ae (aa 3) ag)) ⟨q,scL q,v + d,rfl,by omega,λx hx=>(hq x hx).sq,z3,bq.mono (by omega),rfl⟩)) ?_
 refine aI (cA (tS 0 1 (g:=λi=>dtR (whR (cl.getD i []) (scL (cl.getD i [])))) (g':=λi=>.int (scL (cl.getD i []))) (f:=λi=>frD (dj q (cl.getD i []))) b (nL b (aa 1) (aa 2)) (λi hi=>?_) (by rw [zl]; omega) λi hi s0 H0 fp=>?_)) ?_
 · have hi':i < cl.length:=by rw [zl] at hi; exact hi
   rw [j2 [] 0 i hi]
   have e1:(cl.map scL).getD i 0=scL (cl.getD i []):=by simp [hi']
   have e2:(whM cl (cl.map scL)).getD i []=whR (cl.getD i []) ((cl.map scL).getD i 0):=by unfold whM; simp [hi']
   rw [e2,e1]
 · rw [zl] at hi
   have mi:=aP (xs:=cl) (d:=[]) hi
   generalize cl.getD i []=c at mi ⊢
   obtain ⟨lc,qc⟩:=hc c mi
   obtain ⟨o1,o2⟩:=rY hk lc k7 hq qc
   have pc:=(cK c).1
   have bc:=bU (d:=d) (r:=c) λx hx=>(qc x hx).den
   rw [lc] at bc
   refine x_call (b.comp s0 H0 _ fp) c_fraction (ae (x_call (b.comp s0 H0 _ fp) c_sum_of_products (ae (aa 2) (ae (aa 0) ag)) ⟨whR q (scL q),whR c (scL c),8999,rfl,by unfold whR; rw [List.length_map]; omega,λx hx=>?_,λx hx=>?_,by decide,rfl⟩) (ae (aw (aa 3) (aa 1) (aS (bq.aE bc (by omega) (by omega)))) ag)) ⟨_,_,dj q c,rfl,Int.mul_pos pq pc,(bq.mul bc).mono (by omega),o1,rfl⟩
   · unfold whR at hx
     obtain ⟨y,hy,rfl⟩:=List.mem_map.mp hx
     exact (qt (hq y hy) ((cK q).2 y hy) bq).mono z2
   · unfold whR at hx
     obtain ⟨y,hy,rfl⟩:=List.mem_map.mp hx
     exact (qt (qc y hy) ((cK c).2 y hy) bc).mono z2
 · rw [zl]
   refine congrArg Sl.o ((cf (λc:List Rat=>frD (dj q c)) cl [] rfl).trans ?_)
   rw [List.map_map]
   rfl
theorem mP (F:Fun K "product" qual (top 37) f fd) (hb:∀ x ∈ aj,mg x=none) (c_look_table:Cal P w K mg base k "look_table" cw) (c_columns_of:Cal P w K mg base k "columns_of" dB) (c_whole_rows:Cal P w K mg base k "whole_rows" cy) (c_scale_of:Cal P w K mg base k "scale_of" cF) (c_product_row:Cal P w K mg base k "product_row" cY):aR P w K mg base CX0 (k + 1) f fd ["one","other"] (spD K gc):=by
 refine fnD F iu hb (by rintro _ _ ⟨_,_,_,_,_,_,_,rfl,_⟩; rfl) ?_
 rintro _ _ ⟨R,K0,C,d,v,A0,B,rfl,h1,h2,q1,q2,z1,z2,z3,rfl⟩ cdv A outer s H E b
 have nd:=iu.nd
 have r1:=h1.r1
 have r7:=h1.r7
 have k7:=h1.c7
 have c7:=h2.c7
 have hT:=fD h2
 have qT:=k5 h2 q2
 have e0:atI (A0.map rwQ) 0=some (rwQ (A0.getD 0 [])):=cH [] (i:=0) (by rw [h1.len]; omega)
 refine gR (x_call b c_look_table (ae (aa 0) ag) ⟨R,K0,A0,rfl,h1,rfl⟩) ?_
 refine gR (x_call b c_look_table (ae (aa 1) ag) ⟨K0,C,B,rfl,h2,rfl⟩) ?_
 refine cJ (bb (bg b (ae (aM (aa 0) af (aQ e0)) ag) (cS (n:=K0) (by rw [List.length_map]; exact h1.at_ (by omega)))) (bg b (ae (aa 1) ag) (cS (n:=K0) (by rw [List.length_map]; exact h2.len))) mV) (by rw [decide_eq_true rfl]; rfl) ?_
 refine ay 2 nd (ba (x_call b c_columns_of (ae (aa 1) ag) ⟨K0,C,B,rfl,h2,rfl⟩)) ?_
 refine ay 3 nd (s:=.d (.lst (((bI B C).map scL).map .int))) (ba (cA (cmp 0 (g:=λi=>rwQ ((bI B C).getD i [])) (f:=λi=>.int (scL ((bI B C).getD i []))) b (aT (aa 2)) (bQ (f:=rwQ) (xs:=bI B C) []) (by rw [List.length_map,hT.len]; omega) λi hi s0 H0 fp=>(x_call (b.comp s0 H0 _ fp) c_scale_of (ae (aa 0) ag) ⟨_,d,rfl,?_,?_,?_,?_,rfl⟩))) ?hx) ?_
 · rw [hT.at_ (by simpa [hT.len] using hi)]; omega
 · exact λx hx=>(qT _ (aP (by simpa using hi)) x hx).den
 · rw [hT.at_ (by simpa [hT.len] using hi)]; omega
 · omega
 case hx=>exact congrArg (λl=>some (D.lst l)) ((cf (λr:List Rat=>D.int (scL r)) (bI B C) [] (List.length_map ..)).trans (by rw [List.map_map]; rfl))
 refine ay 4 nd (ba (x_call b c_whole_rows (ae (aa 2) (ae (aa 3) ag)) ⟨bI B C,(bI B C).map scL,v + d,rfl,by rw [List.length_map],by rw [hT.len]; omega,λr hr=>⟨by rw [hT.row r hr]; omega,λx hx=>(qT r hr x hx).sq⟩,z3,?_,rfl⟩)) ?_
 · intro s hs
   obtain ⟨r,hr,rfl⟩:=List.mem_map.mp hs
   have:=bU (d:=d) (r:=r) λx hx=>(qT _ hr x hx).den
   rw [hT.row r hr] at this
   exact this.mono (by omega)
 refine aI (cA (cmp 0 (g:=λi=>rwQ (A0.getD i [])) (f:=λi=>rwQ ((bI B C).map (dj (A0.getD i [])))) b (aT (aa 0)) (bQ (f:=rwQ) (xs:=A0) []) (by rw [List.length_map,h1.len]; omega) λi hi s0 H0 fp=>ba (x_call (b.comp s0 H0 _ fp) c_product_row (ae (aa 0) (ae (aa 2) (ae (aa 1) ag))) ⟨K0,d,v,_,bI B C,rfl,?_,k7,?_,by rw [hT.len]; omega,λc hc=>⟨hT.row c hc,qT c hc⟩,z1,z2,z3,rfl⟩))) ?_
 · exact h1.at_ (by simpa [h1.len] using hi)
 · exact q1 _ (aP (by simpa using hi))
 · refine congrArg Sl.o ((cf (λr:List Rat=>rwQ ((bI B C).map (dj r))) A0 [] (List.length_map ..)).trans ?_)
   unfold pdM
   rw [List.map_map]
   rfl
end
noncomputable def bR (ds:List D) (r:Sl):Prop:=∃ a b:Int,ds=[.int a,.int b]/\r=.d (.int (Int.gcd a b:Int))
noncomputable def iU (ds:List D) (r:Sl):Prop:=∃ (t b:Int) (q:Rat),ds=[.int t,.int b]/\0 < b/\Bd 8999 b/\(t:Rat)=q * (b:Rat)/\r=.d (frD q)
noncomputable def gO (ds:List D) (r:Sl):Prop:=∃ (ns:List Int) (k:Nat),ds=[.lst (ns.map .int),.int k]/\r=.d (.int (ns.getD k 0))
noncomputable def whw (x:D):Bool:=jc .int x && !jc .bool x
noncomputable def fY (ds:List D) (r:Sl):Prop:=∃ x,ds=[x]/\r=.d (.bl (whw x))
noncomputable def c9 (ds:List D) (r:Sl):Prop:=∃ q:Rat,ds=[frD q,.int q.num,.int (q.den:Nat)]/\Sq 9000 q/\r=.d (.bl true)
theorem u9 (q:Rat):(Int.gcd q.num (q.den:Nat):Int)=1:=by
 have:Nat.gcd q.num.natAbs q.den=1:=q.reduced
 rw [Int.gcd,Int.natAbs_natCast,this]
 rfl
noncomputable def rsZ (c u:Int):Int:=if decide ((10:Int) ^ Int.toNat 18<=mz c)=true then c.fdiv u else c + u
noncomputable def gM (ds:List D) (r:Sl):Prop:=∃ c u:Int,ds=[.int c,.int u]/\0 < u/\u < 2 ^ 60/\r=.d (.int (rsZ c u))
theorem Qs.of {t b:Int} {q:Rat} {d v:Nat} (hb:0 < b) (h:(t:Rat)=q * (b:Rat)) (hd:Bd d b) (hv:t.natAbs<=2 ^ v):Qs d v q:=by
 obtain ⟨e1,e2⟩:=gg hb h
 refine ⟨by rw [e2]; exact hd.ediv _,?_⟩
 have g:=Int.gcd_dvd_left (a:=t) (b:=b)
 have h1:q.num.natAbs<=t.natAbs:=by rw [e1]; exact Int.natAbs_ediv_le_natAbs ..
 exact Nat.le_trans h1 (Nat.le_trans hv (Nat.le_mul_of_pos_right _ q.den_pos))
noncomputable def nmT (kd:Nat) (p:Int):Int:=if kd=1 then p.fmod 5 - 2 else if kd=3 then (p.fdiv 2).fmod (10 ^ 40) * (1 - 2 * p.fmod 2) else if kd=2 then p.fmod 10 else p.fmod 19 - 9
noncomputable def nmB (kd:Nat) (p:Int):Int:=if kd=1 then 1 else if kd=3 then 1 + (p.fdiv (2 * 10 ^ 40)).fmod (10 ^ 40 - 1) else if kd=2 then 1 + (p.fdiv 10).fmod 6 else 1 + (p.fdiv 19).fmod 6
noncomputable def nmQ (kd:Nat) (p:Int):Rat:=if kd=1 then ((p.fmod 5 - 2:Int):Rat) else ((nmT kd p:Int):Rat) / ((nmB kd p:Int):Rat)
noncomputable def kD (kd:Nat):Nat:=if kd=3 then 133 else 3
noncomputable def kV (kd:Nat):Nat:=if kd=3 then 133 else 4
theorem fmn {a b:Int} (h:0 < b):0<=a.fmod b/\a.fmod b < b:=⟨Int.fmod_nonneg_of_pos a h,Int.fmod_lt_of_pos a h⟩
theorem jW {kd:Nat} (p:Int):0 < nmB kd p/\Bd (kD kd) (nmB kd p):=by
 unfold nmB kD
 by_cases h1:kd=1
 · rw [if_pos h1,if_neg (by omega)]; exact ⟨by decide,by unfold Bd; decide⟩
 · rw [if_neg h1]
   by_cases h3:kd=3
   · rw [if_pos h3,if_pos h3]
     have:=fmn (a:=p.fdiv (2 * 10 ^ 40)) (b:=10 ^ 40 - 1) (by decide)
     refine ⟨by omega,?_⟩
     unfold Bd
     have:(10:Int) ^ 40 < 2 ^ 133:=by decide
     have e:((2 ^ 133:Nat):Int)=2 ^ 133:=by decide
     omega
   · rw [if_neg h3,if_neg h3]
     by_cases h2:kd=2
     · rw [if_pos h2]
       have:=fmn (a:=p.fdiv 10) (b:=6) (by decide)
       exact ⟨by omega,by unfold Bd; omega⟩
     · rw [if_neg h2]
       have:=fmn (a:=p.fdiv 19) (b:=6) (by decide)
       exact ⟨by omega,by unfold Bd; omega⟩
theorem vb {kd:Nat} (p:Int):(nmT kd p).natAbs<=2 ^ kV kd:=by
 unfold nmT kV
 by_cases h1:kd=1
 · rw [if_pos h1,if_neg (by omega)]
   have:=fmn (a:=p) (b:=5) (by decide)
   omega
 · rw [if_neg h1]
   by_cases h3:kd=3
   · rw [if_pos h3,if_pos h3]
     have h4:=fmn (a:=p.fdiv 2) (b:=10 ^ 40) (by decide)
     have h5:=fmn (a:=p) (b:=2) (by decide)
     have:(10:Int) ^ 40 < 2 ^ 133:=by decide
     have e:((2 ^ 133:Nat):Int)=2 ^ 133:=by decide
     rw [Int.natAbs_mul,show (1 - 2 * p.fmod 2).natAbs=1 by omega,Nat.mul_one]
     omega
   · rw [if_neg h3,if_neg h3]
     by_cases h2:kd=2
     · rw [if_pos h2]
       have:=fmn (a:=p) (b:=10) (by decide)
       omega
     · rw [if_neg h2]
       have:=fmn (a:=p) (b:=19) (by decide)
       omega
theorem qI {kd:Nat} (p:Int):((nmT kd p:Int):Rat)=nmQ kd p * ((nmB kd p:Int):Rat):=by
 unfold nmQ
 by_cases h1:kd=1
 · rw [if_pos h1]
   unfold nmT nmB
   rw [if_pos h1,if_pos h1]
   exact (Rat.mul_one _).symm
 · rw [if_neg h1]
   exact (Rat.div_mul_cancel (vy (jW p).1)).symm
theorem yh {kd:Nat} (p:Int):Qs (kD kd) (kV kd) (nmQ kd p):=Qs.of (jW p).1 (qI p) (jW p).2 (vb p)
noncomputable def eQ (ds:List D) (r:Sl):Prop:=∃ (kd:Nat) (p:Int),ds=[.int (kd:Nat),.int p]/\kd < 4/\r=.d (frD (nmQ kd p))
theorem m40:aE ((2:Int) * 10 ^ 40) (10 ^ 40):=(show Bd 140 ((2:Int) * 10 ^ 40) by unfold Bd; decide).aE (show Bd 140 ((10:Int) ^ 40) by unfold Bd; decide) (by decide) (by decide)
theorem yy:aH ((2:Int) * 10 ^ 40):=(show Bd 140 ((2:Int) * 10 ^ 40) by unfold Bd; decide).aH (by decide) (by decide)
section
variable {P:Program} {w:World} {K:PySem.W.Frag} {mg:Str->Option Value} {base:Heap} {k:Nat} {f:Addr} {fd:FuncData} {qual:Str}
theorem j1 (F:Fun K "_law_divisor" qual (top 44) f fd) (hb:∀ x ∈ aj,mg x=none):aR P w K mg base CX0 (k + 1) f fd ["_law_one","_law_other"] (spD K bR):=by
 refine fnD F eZ hb (by rintro _ _ ⟨_,_,rfl,_⟩; rfl) ?_
 rintro _ _ ⟨x,y,rfl,rfl⟩ cdv A outer s H E b
 have nd:=eZ.nd
 refine ay 0 nd (bg b (ae (aa 0) ag) jH) (ay 1 nd (bg b (ae (aa 1) ag) jH) ?_)
 rw [fA,fA]
 refine nX (λn t τ=>∃ (g:Nat) (s2:Sl),Nat.gcd g n=Int.gcd x y/\t=(decide ((0:Int) < n))/\τ=[.d (.int g),.d (.int n),s2]) b ⟨_,_,_,_,rfl,rfl,rfl⟩ (λn t τ h=>?_) (λn τ h=>?_) λn τ h=>?_
 · obtain ⟨g,s2,_,rfl,rfl⟩:=h
   exact bb (aa 1) af vF
 · obtain ⟨g,s2,hg,ht,rfl⟩:=h
   have hl:n ≠ 0:=λz=>by simp [z] at ht
   have e:(g:Int).fmod n=((g % n:Nat):Int):=by rw [Int.fmod_eq_emod_of_nonneg _ (by omega)]; rfl
   refine ay 2 nd (aw (aa 0) (aa 1) (b5 (by omega))) ?_
   rw [e]
   refine ay 0 nd (aa 1) (ay 1 nd (aa 2) (aX ⟨g % n,_,Nat.mod_lt g (Nat.pos_of_ne_zero hl),n,_,?_,rfl,rfl⟩))
   rw [<- hg,Nat.gcd_comm n,<- Nat.gcd_rec,Nat.gcd_comm]
 · obtain ⟨g,s2,hg,ht,rfl⟩:=h
   have hl:n=0:=by have:=of_decide_eq_false ht.symm; omega
   refine aI (aa 0) ?_
   rw [<- hg,hl,Nat.gcd_zero_right]
theorem o9 (F:Fun K "_law_made" qual (top 45) f fd) (hb:∀ x ∈ aj,mg x=none) (c_l_divisor:Cal P w K mg base k "_law_divisor" bR):aR P w K mg base CX0 (k + 1) f fd ["_law_top","_law_bottom"] (spD K iU):=by
 refine fnD F jm hb (by rintro _ _ ⟨_,_,_,rfl,_⟩; rfl) ?_
 rintro _ _ ⟨t,c,q,rfl,h0,h1,hq,rfl⟩ cdv A outer s H E b
 have nd:=jm.nd
 have dv:aH (Int.gcd t c:Int):=(h1.gcd (by omega)).aH (eK (by omega)) (by decide)
 obtain ⟨e1,e2⟩:=gg h0 hq
 refine ay 2 nd (x_call b c_l_divisor (ae (aa 0) (ae (aa 1) ag)) ⟨_,_,rfl,rfl⟩) (aI (jj (ae (aw (aa 0) (aa 2) (bB dv)) (ae (aw (aa 1) (aa 2) (bB dv)) ag))) ?_)
 rw [bW,bW,<- e1,<- e2]
 rfl
theorem oN (F:Fun K "_law_cell" qual (top 41) f fd) (hb:∀ x ∈ aj,mg x=none):aR P w K mg base CX0 (k + 1) f fd ["_law_script","_law_k"] (spD K gO):=by
 refine fnD F oR hb (by rintro _ _ ⟨_,_,rfl,_⟩; rfl) ?_
 rintro _ _ ⟨ns,n,rfl,rfl⟩ cdv A outer s H E b
 refine dD (bb (aa 1) (bg b (ae (aa 0) ag) hV) si) (λh=>?_) λh=>?_
 · have h:=of_decide_eq_true h
   rw [List.length_map] at h
   exact aI (aM (aa 0) (aa 1) (aQ (gK (by omega) (by omega)))) rfl
 · have h:=of_decide_eq_false h
   rw [List.length_map] at h
   refine aI af ?_
   show Sl.d (.int 0)=_
   rw [getD_none (by omega)]
theorem mN (F:Fun K "_law_whole" qual (top 48) f fd) (hb:∀ x ∈ aj,mg x=none):aR P w K mg base CX0 (k + 1) f fd ["_law_thing"] (spD K fY):=by
 refine fnD F mT hb (by rintro _ _ ⟨_,rfl,_⟩; rfl) ?_
 rintro _ _ ⟨x,rfl,rfl⟩ cdv A outer s H E b
 exact aI (iM (fG .int b (aa 0)) λh=>(jk (uK (fG .bool b (aa 0))))) rfl
theorem iD (F:Fun K "_law_is_number" qual (top 49) f fd) (hb:∀ x ∈ aj,mg x=none) (c_l_whole:Cal P w K mg base k "_law_whole" fY) (c_l_divisor:Cal P w K mg base k "_law_divisor" bR):aR P w K mg base CX0 (k + 1) f fd ["_law_found","_law_top","_law_bottom"] (spD K c9):=by
 refine fnD F iy hb (by rintro _ _ ⟨_,rfl,_⟩; rfl) ?_
 rintro _ _ ⟨q,rfl,hq,rfl⟩ cdv A outer s H E b
 refine cJ (PW.pt (gq (bZ (bY (fG .tuple b (aa 0)))) λh=>(gq (bb (bg b (ae (aa 0) ag) rn) af mV) λh=>(gq (bZ (bY (x_call b c_l_whole (ae (aM (aa 0) af (bh (aD (i:=0) rfl))) ag) ⟨_,rfl,rfl⟩))) λh=>(gk (bZ (bY (x_call b c_l_whole (ae (aM (aa 0) af (bh (aD (i:=1) rfl))) ag) ⟨_,rfl,rfl⟩)))))))) rfl ?_
 refine cJ (PW.pt (gq (bb (aM (aa 0) af (bh (aD (i:=1) rfl))) af si) λh=>(gk (bb (x_call b c_l_divisor (ae (aM (aa 0) af (bh (aD (i:=0) rfl))) (ae (aM (aa 0) af (bh (aD (i:=1) rfl))) ag)) ⟨_,_,rfl,rfl⟩) af mV)))) ?_ ?_
 · rw [u9,decide_eq_false (show ¬ ((q.den:Nat):Int) < 1 by have:=den_pos q; omega)]
   rfl
 refine aI (hW (aw (aM (aa 0) af (bh (aD (i:=0) rfl))) (aa 2) (aS (hq.num.aE hq.den (by decide) (by decide)))) (aw (aa 1) (aM (aa 0) af (bh (aD (i:=1) rfl))) (aS (hq.num.aE hq.den (by decide) (by decide)))) gu) ?_
 rw [decide_eq_true rfl]
theorem oA (F:Fun K "_law_rest" qual (top 43) f fd) (hb:∀ x ∈ aj,mg x=none):aR P w K mg base CX0 (k + 1) f fd ["_law_cell_here","_law_used"] (spD K gM):=by
 refine fnD F oD hb (by rintro _ _ ⟨_,_,rfl,_⟩; rfl) ?_
 rintro _ _ ⟨c,u,rfl,h0,h1,rfl⟩ cdv A outer s H E b
 refine dD (bb (bg b (ae (aa 0) ag) jH) (aw af af (iV ⟨by decide,by decide,by decide⟩)) tw) (λh=>?_) λh=>?_
 · refine aI (aw (aa 0) (aa 1) (bB (mkD (by omega) (by omega)))) ?_
   unfold rsZ
   rw [if_pos (show decide ((10:Int) ^ Int.toNat 18<=mz c)=true from h)]
 · refine aI (aw (aa 0) (aa 1) bS) ?_
   unfold rsZ
   rw [if_neg (λz=>by rw [show decide ((10:Int) ^ Int.toNat 18<=mz c)=false from h] at z; cases z)]
theorem kU (F:Fun K "_law_number" qual (top 46) f fd) (hb:∀ x ∈ aj,mg x=none) (c_l_made:Cal P w K mg base k "_law_made" iU):aR P w K mg base CX0 (k + 1) f fd ["_law_kind","_law_part"] (spD K eQ):=by
 refine fnD F gi hb (by rintro _ _ ⟨_,_,rfl,_⟩; rfl) ?_
 rintro _ _ ⟨kd,p,rfl,h4,rfl⟩ cdv A outer s H E b
 have nd:=gi.nd
 obtain ⟨b0,b1⟩:=jW (kd:=kd) p
 have b2:Bd 8999 (nmB kd p):=b1.mono (by unfold kD; split <;> decide)
 have hm:=qI (kd:=kd) p
 refine dD (bb (aa 0) af gu) (λh=>?_) λh=>?_
 · have h1:kd=1:=by have:=of_decide_eq_true h; omega
   refine aI (jj (ae (aw (aw (aa 1) af (b5 (by decide))) af eF) (ae af ag))) ?_
   unfold nmQ
   rw [if_pos h1]
   rfl
 have n1:¬ kd=1:=by have:=of_decide_eq_false h; omega
 refine dD (bb (aa 0) af gu) (λh=>?_) λh=>?_
 · have h3:kd=3:=by have:=of_decide_eq_true h; omega
   have eT:nmT kd p=(p.fdiv 2).fmod (10 ^ 40) * (1 - 2 * p.fmod 2):=by unfold nmT; rw [if_neg n1,if_pos h3]
   have eB:nmB kd p=1 + (p.fdiv (2 * 10 ^ 40)).fmod (10 ^ 40 - 1):=by unfold nmB; rw [if_neg n1,if_pos h3]
   rw [eT] at hm
   rw [eB] at hm b0 b2
   refine ay 2 nd (aw (aw (aw (aa 1) af (bB (mkD (by decide) (by decide)))) (aw af af (iV ⟨by decide,by decide,by decide⟩)) (b5 (by decide))) (aw af (aw af (aw (aa 1) af (b5 (by decide))) (aS (mkL (by decide)))) eF) (aS (mkR ?_))) ?_
   · have:=fmn (a:=p) (b:=2) (by decide); omega
   exact aI (x_call b c_l_made (ae (aa 2) (ae (aw af (aw (aw (aa 1) (aw af (aw af af (iV ⟨by decide,by decide,by decide⟩)) (aS (mkL (by decide)))) (bB yy)) (aw (aw af af (iV ⟨by decide,by decide,by decide⟩)) af eF) (b5 (by decide))) bS) ag)) ⟨_,_,nmQ kd p,rfl,b0,b2,hm,rfl⟩) rfl
 have n3:¬ kd=3:=by have:=of_decide_eq_false h; omega
 refine dD (bb (aa 0) af gu) (λh=>?_) λh=>?_
 · have h2:kd=2:=by have:=of_decide_eq_true h; omega
   have eT:nmT kd p=p.fmod 10:=by unfold nmT; rw [if_neg n1,if_neg n3,if_pos h2]
   have eB:nmB kd p=1 + (p.fdiv 10).fmod 6:=by unfold nmB; rw [if_neg n1,if_neg n3,if_pos h2]
   rw [eT] at hm
   rw [eB] at hm b0 b2
   exact aI (x_call b c_l_made (ae (aw (aa 1) af (b5 (by decide))) (ae (aw af (aw (aw (aa 1) af (bB (mkD (by decide) (by decide)))) af (b5 (by decide))) bS) ag)) ⟨_,_,nmQ kd p,rfl,b0,b2,hm,rfl⟩) rfl
 · have n2:¬ kd=2:=by have:=of_decide_eq_false h; omega
   have eT:nmT kd p=p.fmod 19 - 9:=by unfold nmT; rw [if_neg n1,if_neg n3,if_neg n2]
   have eB:nmB kd p=1 + (p.fdiv 19).fmod 6:=by unfold nmB; rw [if_neg n1,if_neg n3,if_neg n2]
   rw [eT] at hm
   rw [eB] at hm b0 b2
   exact aI (x_call b c_l_made (ae (aw (aw (aa 1) af (b5 (by decide))) af eF) (ae (aw af (aw (aw (aa 1) af (bB (mkD (by decide) (by decide)))) af (b5 (by decide))) bS) ag)) ⟨_,_,nmQ kd p,rfl,b0,b2,hm,rfl⟩) rfl
end
noncomputable def tlB (kd:Nat):Int:=if kd=0 then 114 else if kd=1 then 5 else if kd=2 then 60 else 2 * 10 ^ 40 * 10 ^ 40
noncomputable def tlP (c:Int) (n kd:Nat):List Int:=nums c (List.replicate n (tlB kd))
noncomputable def tlM (c:Int) (R C kd:Nat):List (List Rat):=(List.range R).map λi=>(List.range C).map λj=>nmQ kd ((tlP c (R * C) kd).getD (C * i + j) 0)
theorem xm {kd:Nat} (h:kd < 4):atI [D.int 114,.int 5,.int 60,.int (2 * 10 ^ 40 * 10 ^ 40)] (kd:Int)=some (.int (tlB kd)):=by
 rcases (by omega:kd=0\/kd=1\/kd=2\/kd=3) with rfl | rfl | rfl | rfl <;> rfl
theorem wy {kd:Nat}:0 < tlB kd/\aH (tlB kd):=by
 unfold tlB
 split
 · exact sE (by decide) (by decide)
 · split
   · exact sE (by decide) (by decide)
   · split
     · exact sE (by decide) (by decide)
     · exact ⟨by decide,(show Bd 280 ((2:Int) * 10 ^ 40 * 10 ^ 40) by unfold Bd; decide +kernel).aH (by decide) (by decide)⟩
theorem qf {c:Int} {R C kd:Nat} (h1:1<=R) (h2:R<=7) (h3:1<=C) (h4:C<=7):Tq R C (tlM c R C kd):=⟨h1,h2,h3,h4,by simp [tlM],λr hr=>by
 unfold tlM at hr
 obtain ⟨i,_,rfl⟩:=List.mem_map.mp hr
 simp⟩
theorem pR {c:Int} {R C kd:Nat}:∀ r ∈ tlM c R C kd,∀ x ∈ r,Qs (kD kd) (kV kd) x:=λr hr x hx=>by
 unfold tlM at hr
 obtain ⟨i,_,rfl⟩:=List.mem_map.mp hr
 obtain ⟨j,_,rfl⟩:=List.mem_map.mp hx
 exact yh _
noncomputable def fR (ds:List D) (r:Sl):Prop:=∃ (c:Int) (R C kd:Nat),ds=[.int c,.int (R:Nat),.int (C:Nat),.int (kd:Nat)]/\R<=7/\C<=7/\kd < 4/\r=.o ((tlM c R C kd).map rwQ)
section
variable {P:Program} {w:World} {K:PySem.W.Frag} {mg:Str->Option Value} {base:Heap} {k:Nat} {f:Addr} {fd:FuncData} {qual:Str}
set_option maxHeartbeats 4000000 in
theorem mH (F:Fun K "_law_table" qual (top 47) f fd) (hb:∀ x ∈ aj,mg x=none) (c_l_numbers:Cal P w K mg base k "_law_numbers" cQ) (c_l_number:Cal P w K mg base k "_law_number" eQ):aR P w K mg base CX0 (k + 1) f fd ["_law_cell_here","_law_many","_law_wide","_law_kind"] (spD K fR):=by
 refine fnD F ia hb (by rintro _ _ ⟨_,_,_,_,rfl,_⟩; rfl) ?_
 rintro _ _ ⟨c,R,C,kd,rfl,r7,c7,k4,rfl⟩ cdv A outer s H E b
 have nd:=ia.nd
 have rc:R * C<=49:=Nat.mul_le_mul r7 c7
 have eRC:(R:Int) * (C:Int)=((R * C:Nat):Int):=by rw [Int.natCast_mul]
 refine ay 4 nd (aM (ba (fb (ae af (ae af (ae af (ae (aw (aw af (aw af af (iV ⟨by decide,by decide,by decide⟩)) (aS (mkL (by decide)))) (aw af af (iV ⟨by decide,by decide,by decide⟩)) (aS m40)) ag)))))) (aa 3) (aQ (xm k4))) ?_
 refine ay 5 nd (ba (x_call b c_l_numbers (ae (aa 0) (ae (ba (cA (cmp 0 (f:=λ_=>.int (tlB kd)) b (fw (n:=((R * C:Nat):Int)) b (by rw [<- eRC]; exact aw (aa 1) (aa 2) (aS (mkL (by omega)))) (by omega) (by omega)) fH (by rw [az]; omega) λi hi s0 H0 fp=>(aa 1)))) ag)) ⟨c,List.replicate (R * C) (tlB kd),?_,?_,?_,rfl⟩)) ?_
 · rw [az,Int.toNat_natCast,List.map_replicate]
   refine congrArg (λl=>[D.int c,D.lst l]) (List.ext_getElem (by simp) λi h1 h2=>by simp)
 · rw [List.length_replicate]; omega
 · intro x hx
   rw [(List.mem_replicate.mp hx).2]
   exact wy
 have lp:(tlP c (R * C) kd).length=R * C:=by unfold tlP; rw [lM,List.length_replicate]
 refine aI (cA (cmp 0 (f:=λi=>rwQ ((List.range C).map λj=>nmQ kd ((tlP c (R * C) kd).getD (C * i + j) 0))) b (fw b (aa 1) (by omega) (by omega)) fH (by rw [az]; omega) λi hi s0 H0 fp=>?_)) ?_
 · rw [az,Int.toNat_natCast] at hi
   refine ba (cA (cmp 0 (f:=λj=>frD (nmQ kd ((tlP c (R * C) kd).getD (C * i + j) 0))) (b.comp s0 H0 _ fp) (fw (b.comp s0 H0 _ fp) (aa 3) (by omega) (by omega)) fH (by rw [az]; omega) λj hj s1 H1 fp1=>?_)) ?_
   · rw [az,Int.toNat_natCast] at hj
     have h1:C * i + j < R * C:=by
       have:C * (i + 1)<=C * R:=Nat.mul_le_mul_left _ (by omega)
       rw [Nat.mul_succ,Nat.mul_comm C R] at this
       omega
     have e:(C:Int) * (i:Int) + (j:Int)=((C * i + j:Nat):Int):=by rw [Int.natCast_add,Int.natCast_mul]
     refine x_call ((b.comp s0 H0 _ fp).comp s1 H1 _ fp1) c_l_number (ae (aa 2) (ae (aM (aa 3) (aw (aw (aa 4) (aa 1) (aS (mkL (by omega)))) (aa 0) bS) (aQ ?_)) ag)) ⟨kd,_,rfl,k4,rfl⟩
     rw [e]
     exact atR (show C * i + j < (tlP c (R * C) kd).length by rw [lp]; exact h1)
   · rw [az,Int.toNat_natCast]
     refine congrArg (λl=>some (D.lst l)) ?_
     rw [List.map_map]
     rfl
 · unfold tlM
   rw [az,Int.toNat_natCast,List.map_map]
   rfl
end
theorem xM {s:Int} (hs:0 < s) (q:Rat):(s * (q.den:Nat)) / (Int.gcd s (q.den:Nat):Int)=scS s q:=by
 unfold scS
 have d1:(Int.gcd s (q.den:Nat):Int) ∣ s:=Int.gcd_dvd_left ..
 rw [Int.mul_comm s,Int.mul_ediv_assoc _ d1,Int.mul_comm]
noncomputable def ic (ds:List D) (r:Sl):Prop:=∃ (R C d v:Nat) (M:List (List Rat)),ds=[tbQ M]/\Tq R C M/\(∀ r ∈ M,∀ x ∈ r,Qs d v x)/\1 + C * d<=8999/\v + d<=8999/\r=.d (.tup [.lst ((whM M (M.map scL)).map dtR),.int (prZ (M.map scL))])
theorem qQ {M:List (List Rat)} {i:Nat} (h:i < M.length):((List.range (i + 1)).map λi=>whR (M.getD i []) (scL (M.getD i [])))=((List.range i).map λi=>whR (M.getD i []) (scL (M.getD i [])))++[whR (M.getD i []) (scL (M.getD i []))]:=by
 rw [List.range_succ,List.map_append]
 rfl
theorem uv (M:List (List Rat)):(List.range M.length).map (λi=>whR (M.getD i []) (scL (M.getD i [])))=whM M (M.map scL):=by
 unfold whM
 refine List.map_congr_left λi hi=>?_
 have:i < M.length:=List.mem_range.mp hi
 simp [this]
section
variable {P:Program} {w:World} {K:PySem.W.Frag} {mg:Str->Option Value} {base:Heap} {k:Nat} {f:Addr} {fd:FuncData} {qual:Str}
set_option maxHeartbeats 1000000 in
theorem pE (F:Fun K "_law_rows" qual (top 50) f fd) (hb:∀ x ∈ aj,mg x=none) (c_l_divisor:Cal P w K mg base k "_law_divisor" bR):aR P w K mg base CX0 (k + 1) f fd ["_law_table_here"] (spD K ic):=by
 refine fnD F jq hb (by rintro _ _ ⟨_,_,_,_,_,rfl,_⟩; rfl) ?_
 rintro _ _ ⟨R,C,d,v,M,rfl,t,hq,z1,z2,rfl⟩ cdv A outer s H E b
 have nd:=jq.nd
 have r7:=t.r7
 have c7:=t.c7
 refine ay 1 nd (fb ag) ?_
 refine ay 2 nd af ?_
 refine cM 3 (g:=λi=>rwQ (M.getD i [])) (λi τ=>i<=M.length/\∃ s3 s4 s5,τ=[.d (tbQ M),.o (((List.range i).map λi=>whR (M.getD i []) (scL (M.getD i []))).map dtR),.d (.int (prZ ((M.map scL).take i))),s3,s4,s5]) b nd (aT (aa 0)) (bQ (f:=rwQ) (xs:=M) []) ⟨Nat.zero_le _,.un,.un,.un,rfl⟩ (λi hi τ h=>?_) λτ h=>?_
 · obtain ⟨_,s3,s4,s5,rfl⟩:=h
   have hi:i < M.length:=by simpa using hi
   have mi:=aP (xs:=M) (d:=[]) hi
   have hiR:i < R:=by rw [<- t.len]; exact hi
   have hC:=t.at_ hiR
   have qr:=hq _ mi
   rw [qQ hi]
   have et:(M.map scL).take (i + 1)=(M.map scL).take i++[scL (M.getD i [])]:=by
     rw [List.take_succ,List.getElem?_map,List.getElem?_eq_getElem hi]
     simp [hi]
   rw [et,iq]
   have bpr:Bd (1 + R * 8999) (prZ ((M.map scL).take i)):=(ku (d:=8999) λx hx=>by
     obtain ⟨r,hr,rfl⟩:=List.mem_map.mp (List.mem_of_mem_take hx)
     have:=bU (d:=d) (r:=r) λx hx=>(hq r hr x hx).den
     rw [t.row r hr] at this
     exact this.mono z1).mono (by
       have:((M.map scL).take i).length<=R:=by rw [List.length_take,List.length_map,t.len]; omega
       have:=Nat.mul_le_mul_right 8999 this
       omega)
   generalize prZ ((M.map scL).take i)=pr at bpr ⊢
   generalize hg:((List.range i).map λi=>whR (M.getD i []) (scL (M.getD i [])))=Gs
   have lGs:Gs.length=i:=by rw [<- hg]; simp
   generalize M.getD i []=row at mi hC qr ⊢
   refine ay 4 nd af ?_
   refine cM 5 (g:=λj=>frD (row.getD j 0)) (λj τ=>j<=row.length/\∃ s5,τ=[.d (tbQ M),.o (Gs.map dtR),.d (.int pr),.d (rwQ row),.d (.int (scL (row.take j))),s5]) b nd (aT (aa 3)) (bQ (f:=frD) (xs:=row) 0) ⟨Nat.zero_le _,s5,rfl⟩ (λj hj τ h=>?_) λτ h=>?_
   · obtain ⟨_,s5,rfl⟩:=h
     have hj:j < row.length:=by simpa using hj
     have mm:=aP (d:=(0:Rat)) hj
     have hs:=(cK (row.take j)).1
     have bs:Bd (1 + C * d) (scL (row.take j)):=(bU λx hx=>(qr x (List.mem_of_mem_take hx)).den).mono (by
       have:(row.take j).length * d<=C * d:=Nat.mul_le_mul_right _ (by rw [List.length_take]; omega)
       omega)
     have et:row.take (j + 1)=row.take j++[row.getD j 0]:=by rw [List.take_succ,List.getElem?_eq_getElem hj]; simp [hj]
     rw [et,lU]
     generalize scL (row.take j)=sc at hs bs ⊢
     generalize row.getD j 0=x at mm ⊢
     have hx:=den_pos x
     have sd:=(qr x mm).den
     have dv:aH (Int.gcd sc (x.den:Nat):Int):=(sd.gcd (by omega)).aH (eK (by omega)) (by omega)
     refine ay 4 nd (aw (aw (aa 4) (aM (aa 5) af (bh (aD (i:=1) rfl))) (aS (bs.aE sd (by omega) (by omega)))) (x_call b c_l_divisor (ae (aa 4) (ae (aM (aa 5) af (bh (aD (i:=1) rfl))) ag)) ⟨_,_,rfl,rfl⟩) (bB dv)) (aX ⟨hj,.d (frD x),?_⟩)
     rw [bW,xM hs]
     rfl
   · obtain ⟨_,s5,rfl⟩:=h
     rw [List.length_map,List.take_length]
     have br:=bU (d:=d) (r:=row) λx hx=>(qr x hx).den
     rw [hC] at br
     refine qG 1 (x:=dtR (whR row (scL row))) (ba (cA (cmp 0 (g:=λj=>frD (row.getD j 0)) (f:=λj=>.int ((row.getD j 0).num * ((scL row).fdiv ((row.getD j 0).den:Nat)))) b (aT (aa 3)) (bQ (f:=frD) (xs:=row) 0) (by rw [List.length_map]; omega) λj hj s0 H0 fp=>?_)) ?hx) ?_ ?_
     · have sq:=(qr _ (aP (d:=(0:Rat)) (show j < row.length by simpa using hj))).sq
       generalize row.getD j 0=x at sq ⊢
       have hx:=den_pos x
       have e:(scL row).fdiv (x.den:Nat)=scL row / (x.den:Nat):=Int.fdiv_eq_ediv_of_nonneg _ (by omega)
       exact aw (aM (aa 0) af (bh (aD (i:=0) rfl))) (aw (aa 1) (aM (aa 0) af (bh (aD (i:=1) rfl))) (bB (sq.den.aH (by omega) (by omega)))) (aS (by rw [e]; exact sq.num.aE (br.ediv _) (by omega) (by omega)))
     case hx=>
       refine congrArg (λl=>some (D.lst l)) ((cf (λx:Rat=>D.int (x.num * ((scL row).fdiv (x.den:Nat)))) row 0 (List.length_map ..)).trans ?_)
       unfold whR
       rw [List.map_map]
       refine List.map_congr_left λx _=>?_
       simp only [Function.comp]
       rw [Int.fdiv_eq_ediv_of_nonneg _ (by have:=den_pos x; omega)]
     · rw [List.length_map,lGs]; omega
     · refine ay 2 nd (aw (aa 2) (aa 4) (aS (bpr.aE br (by omega) (by omega)))) (aX ⟨hi,.d (rwQ row),.d (.int (scL row)),s5,?_⟩)
       rw [List.map_append]
       rfl
 · obtain ⟨_,s3,s4,s5,rfl⟩:=h
   rw [List.length_map,uv,List.take_of_length_le (by rw [List.length_map]; exact Nat.le_refl _)]
   exact aI (jj (ae (vk 1) (ae (aa 2) ag))) rfl
end
noncomputable def lsD (c:List Int):D:=.lst (c.map .int)
noncomputable def pL (cs:List (List Int)):D:=.lst (cs.map lsD)
theorem xg {cs:List (List Int)}:∀ i (h:i < (cs.map lsD).length),(cs.map lsD)[i]=lsD (cs.getD i []):=λi h=>by
 have:i < cs.length:=by simpa using h
 simp [this]
theorem rL (c:List Int):Ev.eqD (lsD c) (.lst [])=decide (c=[]):=by
 cases c with
 | nil=>rfl
 | cons a c=>show Ev.eqD (.lst (.int a :: c.map .int)) (.lst [])=_; rw [Ev.eqD,Ev.kE]; rfl
theorem qW:∀ r:List Int,Ev.iQ (r.map D.int)=true/\Ev.kn (r.map D.int)=0
 | []=>by simp [Ev.iQ,Ev.kn]
 | x :: r=>by
   obtain ⟨h1,h2⟩:=qW r
   rw [List.map_cons,Ev.iQ,Ev.kn,h1,h2]
   simp [Ev.cln,Ev.dep]
theorem ls_eq (c:List Int):Ev.kh (lsD c):=by
 obtain ⟨h1,h2⟩:=qW c
 unfold lsD Ev.kh
 simp only [Ev.cln,Ev.dep,h1,h2]
 exact ⟨trivial,by omega⟩
noncomputable def ec (ds:List D) (r:Sl):Prop:=∃ n t:Nat,ds=[.int (n:Nat),.int (t:Nat)]/\n<=7/\t<=7/\r=.d (pL (chs n t))
noncomputable def lmZ (M:List (List Rat)) (rs cs:List Int):Int:=dtZ (whM (chM M rs cs) ((chM M rs cs).map scL))
noncomputable def lmB (M:List (List Rat)) (rs cs:List Int):Int:=prZ ((chM M rs cs).map scL)
structure Lz (m d v:Nat):Prop where
 z:Bz m d v
 b:m * (v + (1 + m * d) + 3)<=3800
 b':v + (1 + m * d)<=3800
theorem qd {R C m d v:Nat} {M:List (List Rat)} {rs cs:List Int} (t:Tq R C M) (hr:ChO R rs) (hc:ChO C cs) (l1:rs.length=m) (l2:cs.length=m) (m7:m<=7) (hq:∀ r ∈ M,∀ x ∈ r,Qs d v x) (z:Lz m d v):Dt m (v + (1 + m * d)) (whM (chM M rs cs) ((chM M rs cs).map scL))/\0 < lmB M rs cs/\Bd (1 + m * (1 + m * d)) (lmB M rs cs)/\((lmZ M rs cs:Int):Rat)=mnQ M rs cs * ((lmB M rs cs:Int):Rat)/\Bd 3801 (lmZ M rs cs):=by
 have tq:=jL t hr hc l1 l2 m7
 have qq:=jY t hr hc hq
 obtain ⟨o1,o2,o3,o4,o5⟩:=sD tq qq z.z
 have hD:Dt m (v + (1 + m * d)) (whM (chM M rs cs) ((chM M rs cs).map scL)):=⟨m7,o1,o2,z.b,z.b'⟩
 have e:=hD.ok.2.2
 have ew:dtZ (whM (chM M rs cs) ((chM M rs cs).map scL))=wdZ (whM (chM M rs cs) ((chM M rs cs).map scL)):=(lL (by rw [o1]; exact e)).symm
 have zb:ZB (m * (v + (1 + m * d) + 3)) (det m (dtM (whM (chM M rs cs) ((chM M rs cs).map scL)))):=mQ (by omega) λi hi j hj=>by
   have mi:=aP (xs:=whM (chM M rs cs) ((chM M rs cs).map scL)) (d:=[]) (i:=i) (by rw [o1]; exact hi)
   exact ⟨_,rfl,(o2 _ mi).2 _ (aP (by rw [(o2 _ mi).1]; exact hj))⟩
 refine ⟨hD,o3,?_,?_,rj zb e (by have:=z.b; omega)⟩
 · have:=ku (d:=1 + m * d) (r:=(chM M rs cs).map scL) λs hs=>by
     obtain ⟨r,hr',rfl⟩:=List.mem_map.mp hs
     have:=bU (d:=d) (r:=r) λx hx=>(qq _ hr' x hx).den
     rw [tq.row r hr'] at this
     exact this
   rw [List.length_map,tq.len] at this
   exact this
 · unfold lmZ lmB
   rw [ew,o5]
   unfold mnQ
   rw [l1,aC λa ha b hb'=>mS (M:=M) (rs:=rs) (cs:=cs) (by omega) (by omega)]
noncomputable def fP (ds:List D) (r:Sl):Prop:=∃ (R C m d v:Nat) (M:List (List Rat)) (rs cs:List Int),ds=[tbQ M,.lst (rs.map .int),.lst (cs.map .int)]/\Tq R C M/\ChO R rs/\ChO C cs/\rs.length=m/\cs.length=m/\m<=7/\(∀ r ∈ M,∀ x ∈ r,Qs d v x)/\Lz m d v/\r=.d (.tup [.int (lmZ M rs cs),.int (lmB M rs cs)])
section
variable {P:Program} {w:World} {K:PySem.W.Frag} {mg:Str->Option Value} {base:Heap} {k:Nat} {f:Addr} {fd:FuncData} {qual:Str}
theorem kz (F:Fun K "_law_choices" qual (top 52) f fd) (hb:∀ x ∈ aj,mg x=none):aR P w K mg base CX0 (k + 1) f fd ["_law_many","_law_size"] (spD K ec):=by
 refine fnD F fF hb (by rintro _ _ ⟨_,_,rfl,_⟩; rfl) ?_
 rintro _ _ ⟨n,t,rfl,hn,ht,rfl⟩ cdv A outer s H E b
 have nd:=fF.nd
 refine ay 2 nd (ba (fb (ae (ba (fb ag)) ag))) ?_
 refine cM 3 (λi τ=>∃ s3 s4 s5 s6,τ=[.d (.int n),.d (.int t),.d (pL (chs n i)),s3,s4,s5,s6]) b nd (fw b (aa 1) (by omega) (by omega)) fH ⟨.un,.un,.un,.un,rfl⟩ (λi hi τ h=>?_) λτ h=>?_
 · obtain ⟨s3,s4,s5,s6,rfl⟩:=h
   have hi:i < t:=by rw [az] at hi; omega
   have l1:=m8 hn i
   have l2:7 ^ i<=7 ^ 6:=Nat.pow_le_pow_right (by decide) (by omega)
   refine ay 4 nd (fb ag) ?_
   refine cM 5 (g:=λl=>lsD ((chs n i).getD l [])) (λl τ=>∃ s5 s6,τ=[.d (.int n),.d (.int t),.d (pL (chs n i)),.d (.int (i:Nat)),.o ((((chs n i).take l).flatMap (onC n i)).map lsD),s5,s6]) b nd (aT (aa 2)) xg ⟨s5,s6,rfl⟩ (λl hl τ h=>?_) λτ h=>?_
   · obtain ⟨s5,s6,rfl⟩:=h
     have hl:l < (chs n i).length:=by simpa using hl
     have ok:=dX n i _ (vI (d:=[]) hl)
     have hle:=mf ok
     have len1:=gP (onC n i) 7 ((chs n i).take l) λc hc=>Nat.le_trans (j0 (dX n i c (List.mem_of_mem_take hc))) hn
     rw [List.length_take] at len1
     have len2:=j0 ok
     refine ay 6 nd af ?_
     refine mr (M:=λτ=>τ=[.d (.int n),.d (.int t),.d (pL (chs n i)),.d (.int (i:Nat)),.o ((((chs n i).take l).flatMap (onC n i)).map lsD),.d (lsD ((chs n i).getD l [])),.d (.int (lea i ((chs n i).getD l [])))]) (bb (aa 5) (ba (fb ag)) (xN b (ls_eq _) (by decide +kernel))) (λh=>?_) (λh=>?_) ?_
     · have h:(!Ev.eqD (lsD ((chs n i).getD l [])) (.lst []))=true:=h
       rw [rL] at h
       have h:(chs n i).getD l [] ≠ []:=by simpa using h
       have h0:0 < i:=by
         rcases Nat.eq_zero_or_pos i with z | z
         · exact absurd (List.length_eq_zero_iff.mp (ok.len.trans z)) h
         · exact z
       rw [show lea i ((chs n i).getD l [])=je ((chs n i).getD l []) + 1 from if_pos h0]
       exact ay 6 nd (aw (aM (aa 5) (sA af) (aQ (nu h))) af bS) (aX rfl)
     · have h:(!Ev.eqD (lsD ((chs n i).getD l [])) (.lst []))=false:=h
       rw [rL] at h
       have h:(chs n i).getD l []=[]:=by simpa using h
       have h0:¬ 0 < i:=by have:=ok.len; rw [h] at this; simp at this; omega
       rw [show lea i ((chs n i).getD l [])=0 from if_neg h0]
       exact aX rfl
     rintro _ rfl
     refine xt 4 (cA (cmp 0 (f:=λk=>lsD (((chs n i).getD l [])++[lea i ((chs n i).getD l []) + (k:Nat)])) b (kB b (aa 6) (aa 0) ⟨by omega,by omega,by omega,by omega⟩) (λk hk=>fm _ _ k hk) (by rw [az]; omega) λk hk s0 H0 fp=>?_)) ?_ (aX ⟨.d (lsD ((chs n i).getD l [])),.d (.int (lea i ((chs n i).getD l []))),?_⟩)
     · have e:lsD (((chs n i).getD l [])++[lea i ((chs n i).getD l []) + (k:Nat)])=.lst ((((chs n i).getD l []).map D.int)++[.int (lea i ((chs n i).getD l []) + (k:Nat))]):=by unfold lsD; rw [List.map_append]; rfl
       rw [e]
       exact ba (uW (aa 1) (ba (fb (ae (aa 0) ag))) (by rw [List.length_map,ok.len]; show _ + 1 < _; omega))
     · rw [List.length_map,List.length_map,List.length_range,az]; omega
     · rw [take_snoc [] hl,List.flatMap_append,List.map_append,az]
       show [_,_,_,_,Sl.o (_++(List.range ((n:Int) - lea i ((chs n i).getD l [])).toNat).map _),_,_]=_
       simp [onC]
   · obtain ⟨s5,s6,rfl⟩:=h
     refine yt 4 (ay 2 nd (aa 4) (aX ⟨.d (.int (i:Nat)),.d (pL (chs n (i + 1))),s5,s6,?_⟩))
     rw [List.length_map,List.take_of_length_le (Nat.le_refl _)]
     rfl
 · obtain ⟨s3,s4,s5,s6,rfl⟩:=h
   rw [az,Int.toNat_natCast]
   exact aI (aa 2) rfl
theorem mG (F:Fun K "_law_minor" qual (top 53) f fd) (hb:∀ x ∈ aj,mg x=none) (c_l_rows:Cal P w K mg base k "_law_rows" ic) (c_l_det:Cal P w K mg base k "_law_det" jX):aR P w K mg base CX0 (k + 1) f fd ["_law_table_here","_law_rows_here","_law_columns"] (spD K fP):=by
 refine fnD F g8 hb (by rintro _ _ ⟨_,_,_,_,_,_,_,_,rfl,_⟩; rfl) ?_
 rintro _ _ ⟨R,C,m,d,v,M,rs,cs,rfl,t,hr,hc,l1,l2,m7,hq,z,rfl⟩ cdv A outer s H E b
 have nd:=g8.nd
 have tq:=jL t hr hc l1 l2 m7
 have qq:=jY t hr hc hq
 obtain ⟨hD,_⟩:=qd t hr hc l1 l2 m7 hq z
 refine wU (x_call b c_l_rows (ae (ba (cA (cmp 0 (g:=λi=>.int (rs.getD i 0)) (f:=λi=>rwQ (pkL (M.getD (rs.getD i 0).toNat []) cs 0)) b (aT (aa 1)) (bQ (f:=D.int) (xs:=rs) 0) (by rw [List.length_map]; omega) λi hi s0 H0 fp=>?_)) ?hx) ag) ⟨m,m,d,v,chM M rs cs,rfl,tq,qq,z.z.b1,z.z.b4,rfl⟩) (w5 b.calm (nK 3 nd (nK 4 nd vS))) ?_
 · have hi:=hr.bd i (by simpa using hi)
   have ai:atI (M.map rwQ) (rs.getD i 0)=some (rwQ (M.getD (rs.getD i 0).toNat [])):=nk [] (by rw [t.len]; exact hi)
   refine ba (cA (cmp 0 (g:=λj=>.int (cs.getD j 0)) (f:=λj=>frD ((M.getD (rs.getD i 0).toNat []).getD (cs.getD j 0).toNat 0)) (b.comp s0 H0 _ fp) (aT (aa 1)) (bQ (f:=D.int) (xs:=cs) 0) (by rw [List.length_map]; omega) λj hj s1 H1 fp1=>?_)) ?_
   · have hj:=hc.bd j (by simpa using hj)
     exact aM (aM (aa 2) (aa 1) (aQ ai)) (aa 0) (aQ (nk (f:=frD) 0 (by rw [t.at_ (by omega)]; exact hj)))
   · exact congrArg (λl=>some (D.lst l)) (sj frD (M.getD (rs.getD i 0).toNat []) cs 0 (List.length_map ..))
 case hx=>
   refine congrArg (λl=>some (D.lst l)) ((cf (λr:Int=>rwQ (pkL (M.getD r.toNat []) cs 0)) rs 0 (List.length_map ..)).trans ?_)
   unfold chM
   rw [List.map_map]
   rfl
 exact aI (jj (ae (x_call b c_l_det (ae (aa 3) ag) ⟨m,_,_,rfl,hD,rfl⟩) (ae (aa 4) ag))) rfl
end
theorem eL (f:Nat->Rat) (a:Nat):∀ b,ar f (a + b)=ar f a + ar (λi=>f (a + i)) b
 | 0=>by rw [Nat.add_zero]; exact (Rat.add_zero _).symm
 | b + 1=>by
   rw [<- Nat.add_assoc,ar,eL f a b,ar,Rat.add_assoc]
theorem gC {S K:Nat} (h:S < 2 ^ K):2 ^ K + S=2 ^ K ^^^ S:=by
 have q:=Nat.two_pow_add_eq_or_of_lt h 1
 rw [Nat.mul_one] at q
 rw [q]
 refine Nat.eq_of_testBit_eq λi=>?_
 rw [Nat.testBit_or,Nat.testBit_xor]
 by_cases e:K=i
 · subst e
   rw [Nat.testBit_two_pow_self,Nat.testBit_lt_two_pow h]
   rfl
 · rw [Nat.testBit_two_pow_of_ne e]
   cases S.testBit i <;> rfl
theorem kc:∀ {K j:Nat} (h:Nat->Rat),j < K->ar (λS=>h (S ^^^ 2 ^ j)) (2 ^ K)=ar h (2 ^ K)
 | K + 1,j,h,hj=>by
   have e2:2 ^ (K + 1)=2 ^ K + 2 ^ K:=by rw [Nat.pow_succ]; omega
   rw [e2,eL,eL]
   by_cases e:j=K
   · subst e
     have a1:ar (λS=>h (S ^^^ 2 ^ j)) (2 ^ j)=ar (λS=>h (2 ^ j + S)) (2 ^ j):=ak λS hS=>by rw [gC hS,Nat.xor_comm]
     have a2:ar (λS=>h ((2 ^ j + S) ^^^ 2 ^ j)) (2 ^ j)=ar h (2 ^ j):=ak λS hS=>by rw [gC hS,Nat.xor_comm (2 ^ j) S,Nat.xor_assoc,Nat.xor_self,Nat.xor_zero]
     rw [a1,a2,Rat.add_comm]
   · have hj':j < K:=by omega
     have a2:ar (λS=>h ((2 ^ K + S) ^^^ 2 ^ j)) (2 ^ K)=ar (λS=>h (2 ^ K + (S ^^^ 2 ^ j))) (2 ^ K):=ak λS hS=>by
       have:S ^^^ 2 ^ j < 2 ^ K:=Nat.xor_lt_two_pow hS (Nat.pow_lt_pow_right (by decide) hj')
       rw [gC hS,gC this,Nat.xor_assoc]
     rw [a2,kc h hj',kc (λS=>h (2 ^ K + S)) hj']
theorem lY {n:Nat} (M:Nat->Nat->Rat):det n (λr c=>M c r)=det n M:=iN n M
theorem rV {K k S m:Nat} {M:Nat->Nat->Rat} (hk:k < K) (hl:(cols K S).length=m):aO M (cols K S++[k])=if S.testBit k=true then 0 else sgn (above K k S).length * aO M (cols K (S ^^^ 2 ^ k)):=by
 have ln:(cols K S++[k]).length=m + 1:=by rw [List.length_append,hl]; rfl
 by_cases hb:S.testBit k=true
 · rw [if_pos hb]
   obtain ⟨i,hi,ei⟩:=List.getElem_of_mem (dN.mpr ⟨hk,hb⟩)
   unfold aO
   rw [ln,<- lY]
   refine ML.same (eV (m + 1)) (p:=i) (q:=m) (by omega) (by omega) (by omega) ?_
   funext c
   have e1:(cols K S++[k]).getD i 0=k:=by rw [List.getD_eq_getElem?_getD,List.getElem?_append_left hi,List.getElem?_eq_getElem hi,ei]; rfl
   have e2:(cols K S++[k]).getD m 0=k:=by rw [List.getD_eq_getElem?_getD,List.getElem?_append_right (by omega),hl,Nat.sub_self]; rfl
   show M c ((cols K S++[k]).getD i 0)=M c ((cols K S++[k]).getD m 0)
   rw [e1,e2]
 · have hb':S.testBit k=false:=by simpa using hb
   rw [if_neg hb]
   have ex:S ^^^ 2 ^ k=S ||| 2 ^ k:=by
     refine Nat.eq_of_testBit_eq λi=>?_
     rw [Nat.testBit_or,Nat.testBit_xor]
     by_cases e:k=i
     · subst e; rw [hb',Nat.testBit_two_pow_self]; rfl
     · rw [Nat.testBit_two_pow_of_ne e]; cases S.testBit i <;> rfl
   have s1:=gQ hk hb'
   have s2:=ou hk hb'
   rw [ex,s2]
   have pa:(cols k S).length + (above K k S).length=m:=by rw [<- List.length_append,<- s1,hl]
   have ln2:((cols k S)++k :: above K k S).length=m + 1:=by rw [List.length_append,List.length_cons]; omega
   show aO M (cols K S++[k])=sgn (above K k S).length * aO M ((cols k S)++k :: above K k S)
   unfold aO
   rw [ln,ln2,<- lY,<- lY (λr c=>M r (((cols k S)++k :: above K k S).getD c 0))]
   have dr:=gH (k:=(cols k S).length) (n:=m + 1) (above K k S).length (λc r=>M r ((cols K S++[k]).getD c 0)) (by omega)
   have e:(det (m + 1) λc r=>M r (((cols k S)++k :: above K k S).getD c 0))=det (m + 1) λc=>(λc r=>M r ((cols K S++[k]).getD c 0)) (rho (cols k S).length (above K k S).length c):=by
     refine aC λc hc r hr=>?_
     show M r _=M r _
     congr 1
     rw [s1]
     simp only [List.getD_eq_getElem?_getD]
     unfold rho
     by_cases h1:c < (cols k S).length
     · rw [if_pos h1,List.getElem?_append_left h1,List.append_assoc,List.getElem?_append_left h1]
     · rw [if_neg h1]
       by_cases h2:c=(cols k S).length
       · rw [if_pos h2,h2,List.getElem?_append_right (Nat.le_refl _),Nat.sub_self,List.getElem?_append_right (by rw [List.length_append]; omega),List.length_append,Nat.sub_self]
         rfl
       · rw [if_neg h2,if_pos (by omega),List.getElem?_append_right (by omega),List.getElem?_append_left (by rw [List.length_append]; omega),List.getElem?_append_right (by omega),show c - (cols k S).length=(c - 1 - (cols k S).length) + 1 by omega,List.getElem?_cons_succ]
   rw [e,dr,<- Rat.mul_assoc,pP,Rat.one_mul]
theorem mlc (a b c:Rat):a * (b * c)=b * (a * c):=by rw [<- Rat.mul_assoc,Rat.mul_comm a b,Rat.mul_assoc]
noncomputable def cbS (K m:Nat) (A B:Nat->Nat->Rat):Rat:=ar (λS=>if (cols K S).length=m then aO A (cols K S) * aO B (cols K S) else 0) (2 ^ K)
theorem pf {K S:Nat} (hS:S < 2 ^ K) (h:(cols K S).length=0):S=0:=Nat.eq_of_testBit_eq λk=>by
 rw [Nat.zero_testBit]
 rcases Nat.lt_or_ge k K with z | z
 · cases hb:S.testBit k with
   | false=>rfl
   | true=>
     have:=dN.mpr ⟨z,hb⟩
     rw [List.length_eq_zero_iff.mp h] at this
     cases this
 · exact Nat.testBit_lt_two_pow (Nat.lt_of_lt_of_le hS (Nat.pow_le_pow_right (by decide) z))
theorem lq {f:Nat->Rat}:∀ n,0 < n->(∀ i,0 < i->i < n->f i=0)->ar f n=f 0
 | 1,_,_=>by rw [ar,ar]; exact Rat.zero_add _
 | n + 2,_,h=>by rw [ar,lq (n + 1) (by omega) λi h0 hi=>h i h0 (by omega),h (n + 1) (by omega) (by omega),Rat.add_zero]
theorem fM (K:Nat):∀ (m:Nat) (A B:Nat->Nat->Rat),det m (λi j=>ar (λk=>A i k * B j k) K)=cbS K m A B
 | 0,A,B=>by
   unfold cbS
   have c0:cols K 0=[]:=List.filter_eq_nil_iff.mpr λa _=>by rw [Nat.zero_testBit]; decide
   rw [lq _ (Nat.two_pow_pos K) λS h0 hS=>if_neg λz=>by have:=pf hS z; omega,if_pos (by rw [c0]; rfl),c0]
   show (1:Rat)=1 * 1
   rw [Rat.mul_one]
 | m + 1,A,B=>by
   have step:∀ S,(cols K S).length=m->∀ k,k < K->ar (λc=>sgn (m + c) * B c k * aO (λq l=>B (skp c q) l) (cols K S)) (m + 1)=aO B (cols K S++[k]):=λS hS k hk=>by
     have ln:(cols K S++[k]).length=m + 1:=by rw [List.length_append,hS]; rfl
     unfold aO
     rw [ln,<- lY (λr c=>B r ((cols K S++[k]).getD c 0)),gN,hS]
     refine ak λc hc=>?_
     have e2:(cols K S++[k]).getD m 0=k:=by rw [List.getD_eq_getElem?_getD,List.getElem?_append_right (by omega),hS,Nat.sub_self]; rfl
     rw [e2,<- lY]
     congr 1
     refine aC λr hr q hq=>?_
     have e3:(cols K S++[k]).getD r 0=(cols K S).getD r 0:=by simp only [List.getD_eq_getElem?_getD]; rw [List.getElem?_append_left (by omega)]
     rw [e3]
   rw [gN]
   have h1:∀ c,c < m + 1->sgn (m + c) * ar (λk=>A m k * B c k) K * det m (λr q=>ar (λk=>A r k * B (skp c q) k) K)=ar (λk=>ar (λS=>if (cols K S).length=m then A m k * aO A (cols K S) * (sgn (m + c) * B c k * aO (λq l=>B (skp c q) l) (cols K S)) else 0) (2 ^ K)) K:=λc hc=>by
     rw [fM K m A (λq k=>B (skp c q) k),bj,dR]
     refine ak λk hk=>?_
     unfold cbS
     rw [bj]
     refine ak λS hS=>?_
     split
     · simp only [Rat.mul_assoc,Rat.mul_comm,mlc]
     · rw [Rat.mul_zero]
   refine (ak h1).trans ((cB _ _ _).trans ?_)
   unfold cbS
   have h2:∀ S,S < 2 ^ K->(if (cols K S).length=m + 1 then aO A (cols K S) * aO B (cols K S) else 0)=ar (λj=>if (cols K S).length=m + 1/\S.testBit j=true then sgn (above K j S).length * A m j * aO A (cols K (S ^^^ 2 ^ j)) * aO B (cols K S) else 0) K:=λS hS=>by
     by_cases z:(cols K S).length=m + 1
     · rw [if_pos z,jx (M:=A) z,dR]
       refine ak λj hj=>?_
       by_cases y:S.testBit j=true
       · rw [if_pos y,if_pos ⟨z,y⟩]
       · rw [if_neg y,if_neg λw=>y w.2,Rat.zero_mul]
     · rw [if_neg z,cb λj _=>if_neg λw=>z w.1]
   refine Eq.trans ?_ ((ak h2).trans (cB _ _ _)).symm
   refine ak λk hk=>?_
   refine (cB _ _ _).trans (Eq.trans ?_ (kc (j:=k) _ hk))
   refine ak λS hS=>?_
   by_cases z:(cols K S).length=m
   · have e1:∀ c,(if (cols K S).length=m then A m k * aO A (cols K S) * (sgn (m + c) * B c k * aO (λq l=>B (skp c q) l) (cols K S)) else 0)=A m k * aO A (cols K S) * (sgn (m + c) * B c k * aO (λq l=>B (skp c q) l) (cols K S)):=λc=>if_pos z
     rw [ak λc _=>e1 c,<- bj,step S z k hk,rV hk z]
     by_cases y:S.testBit k=true
     · have nb:(S ^^^ 2 ^ k).testBit k=false:=by rw [Nat.testBit_xor,y,Nat.testBit_two_pow_self]; rfl
       rw [if_pos y,Rat.mul_zero,if_neg λw=>by rw [nb] at w; exact absurd w.2 (by decide)]
     · have y':S.testBit k=false:=by simpa using y
       have nb:(S ^^^ 2 ^ k).testBit k=true:=by rw [Nat.testBit_xor,y',Nat.testBit_two_pow_self]; rfl
       have bx:(S ^^^ 2 ^ k) ^^^ 2 ^ k=S:=by rw [Nat.xor_assoc,Nat.xor_self,Nat.xor_zero]
       have or':S ^^^ 2 ^ k=S ||| 2 ^ k:=by
         refine Nat.eq_of_testBit_eq λi=>?_
         rw [Nat.testBit_or,Nat.testBit_xor]
         by_cases e:k=i
         · subst e; rw [y',Nat.testBit_two_pow_self]; rfl
         · rw [Nat.testBit_two_pow_of_ne e]; cases S.testBit i <;> rfl
       have lx:(cols K (S ^^^ 2 ^ k)).length=m + 1:=by rw [or',(d8 hk y').1,z]
       have ab:(above K k (S ^^^ 2 ^ k)).length=(above K k S).length:=by
         unfold above
         congr 1
         refine List.filter_congr λi hi=>?_
         obtain ⟨j,_,rfl⟩:=List.mem_map.mp hi
         rw [Nat.testBit_xor,Nat.testBit_two_pow_of_ne (by omega),Bool.xor_false]
       rw [if_neg y,if_pos ⟨lx,nb⟩,bx,ab]
       simp only [Rat.mul_assoc,Rat.mul_comm,mlc]
   · rw [cb λc _=>if_neg z,if_neg]
     rintro ⟨w1,w2⟩
     apply z
     have y':S.testBit k=false:=by
       cases e:S.testBit k with
       | false=>rfl
       | true=>rw [Nat.testBit_xor,e,Nat.testBit_two_pow_self] at w2; cases w2
     have or':S ^^^ 2 ^ k=S ||| 2 ^ k:=by
       refine Nat.eq_of_testBit_eq λi=>?_
       rw [Nat.testBit_or,Nat.testBit_xor]
       by_cases e:k=i
       · subst e; rw [y',Nat.testBit_two_pow_self]; rfl
       · rw [Nat.testBit_two_pow_of_ne e]; cases S.testBit i <;> rfl
     rw [or',(d8 hk y').1] at w1
     omega
section
variable {P:Program} {w:World} {K:PySem.W.Frag} {mg:Str->Option Value} {base:Heap} {k:Nat} {f:Addr} {fd:FuncData} {qual:Str}
end
noncomputable def cL:List Rat->Rat
 | []=>0
 | a :: l=>a + cL l
theorem hE:∀ (l r:List Rat),cL (l++r)=cL l + cL r
 | [],r=>(Rat.zero_add _).symm
 | a :: l,r=>by show a + cL (l++r)=a + cL l + cL r; rw [hE l r,Rat.add_assoc]
theorem pv {l r:List Rat} (h:l.Perm r):cL l=cL r:=by
 induction h with
 | nil=>rfl
 | cons a _ ih=>show a + _=a + _; rw [ih]
 | swap a b l=>show b + (a + cL l)=a + (b + cL l); rw [<- Rat.add_assoc,Rat.add_comm b a,Rat.add_assoc]
 | trans _ _ h1 h2=>exact h1.trans h2
theorem lX (g:Nat->Rat) (p:Nat->Bool):∀ n,cL (((List.range n).filter p).map g)=ar (λS=>if p S=true then g S else 0) n
 | 0=>rfl
 | n + 1=>by
   rw [List.range_succ,List.filter_append,List.map_append,hE,lX g p n,ar]
   congr 1
   by_cases h:p n=true
   · rw [if_pos h,List.filter_cons_of_pos h]; show g n + 0=g n; exact Rat.add_zero _
   · rw [if_neg h,List.filter_cons_of_neg h]; rfl
theorem qg:∀ K,K < 7->∀ m,m < 8->(((chs K m).map λc=>c.map Int.toNat).isPerm (((List.range (2 ^ K)).filter λS=>(cols K S).length == m).map (cols K)))=true:=by decide +kernel
theorem oj:∀ K,K < 7->∀ m,m < 8->(chs K m).length<=20/\(K<=3->(chs K m).length<=3):=by decide +kernel
noncomputable def tmQ (A B:List (List Rat)) (rs cs c:List Int):Rat:=mnQ A rs c * mnQ B c cs
theorem wq {R K C m:Nat} {A B:List (List Rat)} {rs cs:List Int} (h1:Tq R K A) (h2:Tq K C B) (hr:ChO R rs) (hc:ChO C cs) (l1:rs.length=m) (l2:cs.length=m) (hK:K<=6) (m7:m<=7):mnQ (pdM A B C) rs cs=cL ((chs K m).map (tmQ A B rs cs)):=by
 have e1:mnQ (pdM A B C) rs cs=cbS K m (λa k=>qM A (rs.getD a 0).toNat k) (λb k=>qM B k (cs.getD b 0).toNat):=by
   rw [<- fM]
   unfold mnQ
   rw [l1]
   refine aC λa ha b hb=>?_
   have b1:=hr.bd a (by omega)
   have b2:=hc.bd b (by omega)
   rw [v8 h1 h2 (by omega) (by omega)]
   rfl
 rw [e1]
 unfold cbS
 have e2:(λS=>if (cols K S).length=m then aO (λa k=>qM A (rs.getD a 0).toNat k) (cols K S) * aO (λb k=>qM B k (cs.getD b 0).toNat) (cols K S) else 0)=λS=>if ((cols K S).length == m)=true then (λL=>aO (λa k=>qM A (rs.getD a 0).toNat k) L * aO (λb k=>qM B k (cs.getD b 0).toNat) L) (cols K S) else 0:=by
   funext S
   by_cases z:(cols K S).length=m
   · rw [if_pos z,if_pos (by simpa using z)]
   · rw [if_neg z,if_neg (by simpa using z)]
 rw [e2,<- lX (λS=>(λL=>aO (λa k=>qM A (rs.getD a 0).toNat k) L * aO (λb k=>qM B k (cs.getD b 0).toNat) L) (cols K S)) (λS=>(cols K S).length == m)]
 have pp:=List.isPerm_iff.mp (qg K (by omega) m (by omega))
 have pp2:=pp.map λL=>aO (λa k=>qM A (rs.getD a 0).toNat k) L * aO (λb k=>qM B k (cs.getD b 0).toNat) L
 rw [List.map_map,List.map_map] at pp2
 refine (pv pp2).symm.trans ?_
 congr 1
 refine List.map_congr_left λc hc'=>?_
 have lc:c.length=m:=(dX K m c hc').len
 have gt:∀ i,i < m->(c.map Int.toNat).getD i 0=(c.getD i 0).toNat:=λi hi=>by simp [show i < c.length by omega]
 simp only [Function.comp]
 unfold tmQ mnQ aO
 rw [List.length_map,lc,l1]
 congr 1
 · exact aC λa ha b hb=>by rw [gt b hb]
 · rw [<- iN]
   exact aC λa ha b hb=>by rw [gt a ha]
theorem sY {K m:Nat} {c:List Int} (h1:1<=m) (m7:m<=7) (h:c ∈ chs K m):ChO K c:=by
 have ok:=dX K m c h
 have up:∀ t,∀ c ∈ chs K t,∀ i,i + 1 < t->c.getD i 0 < c.getD (i + 1) 0:=λt=>by
   induction t with
   | zero=>intro c _ i hi; omega
   | succ t ih=>
     intro c hc i hi
     rw [chs,List.mem_flatMap] at hc
     obtain ⟨d,hd,hc⟩:=hc
     have okd:=dX K t d hd
     unfold onC at hc
     obtain ⟨k,hk,rfl⟩:=List.mem_map.mp hc
     rw [gX,gX,okd.len]
     by_cases e:i + 1 < t
     · rw [if_pos (by omega),if_pos e]; exact ih d hd i e
     · rw [if_pos (by omega),if_neg e,if_pos (by omega)]
       unfold lea
       rw [if_pos (by omega),je,okd.len,show t - 1=i by omega]
       omega
 have l:=ok.len
 refine ⟨λz=>by rw [z] at l; simp at l; omega,λi hi=>up m c h i (by omega),(ok.at_ 0 (by omega)).1,?_,by omega⟩
 unfold je
 rw [l]
 exact (ok.at_ (m - 1) (by omega)).2
noncomputable def kG (ds:List D) (r:Sl):Prop:=∃ (R K C m d v:Nat) (A B:List (List Rat)) (rs cs:List Int),ds=[tbQ A,tbQ B,.lst (rs.map .int),.lst (cs.map .int)]/\Tq R K A/\Tq K C B/\ChO R rs/\ChO C cs/\rs.length=m/\cs.length=m/\m<=7/\(∀ r ∈ A,∀ x ∈ r,Qs d v x)/\(∀ r ∈ B,∀ x ∈ r,Qs d v x)/\Lz m d v/\1 + (chs K m).length * (2 * (1 + m * (1 + m * d)))<=8999/\r=.d (frD (cL ((chs K m).map (tmQ A B rs cs))))
theorem pw (l:List Rat) {i:Nat} (h:i < l.length):cL (l.take (i + 1))=cL (l.take i) + l.getD i 0:=by
 rw [List.take_succ,List.getElem?_eq_getElem h,hE]
 congr 1
 show l[i] + 0=_
 rw [Rat.add_zero]
 simp [h]
section
variable {P:Program} {w:World} {K:PySem.W.Frag} {mg:Str->Option Value} {base:Heap} {k:Nat} {f:Addr} {fd:FuncData} {qual:Str}
set_option maxHeartbeats 1000000 in
theorem rf (F:Fun K "_law_due" qual (top 54) f fd) (hb:∀ x ∈ aj,mg x=none) (c_l_choices:Cal P w K mg base k "_law_choices" ec) (c_l_minor:Cal P w K mg base k "_law_minor" fP) (c_l_divisor:Cal P w K mg base k "_law_divisor" bR):aR P w K mg base CX0 (k + 1) f fd ["_law_one","_law_other","_law_rows_here","_law_columns"] (spD K kG):=by
 refine fnD F lJ hb (by rintro _ _ ⟨_,_,_,_,_,_,_,_,_,_,rfl,_⟩; rfl) ?_
 rintro _ _ ⟨R,K0,C,m,d,v,A0,B,rs,cs,rfl,h1,h2,hr,hc,l1,l2,m7,q1,q2,z,zb,rfl⟩ cdv A outer s H E b
 have nd:=lJ.nd
 have m1:1<=m:=by
   rcases Nat.eq_zero_or_pos m with y | y
   · exact absurd (List.length_eq_zero_iff.mp (l1.trans y)) hr.ne
   · exact y
 generalize he:1 + m * (1 + m * d)=e0 at zb
 have e9:e0<=9000:=by have:=z.z.b3; omega
 refine ay 4 nd af ?_
 refine ay 5 nd af ?_
 refine cM 6 (g:=λl=>lsD ((chs K0 m).getD l [])) (λi τ=>i<=(chs K0 m).length/\Bd (1 + i * (2 * e0)) ((cL (((chs K0 m).map (tmQ A0 B rs cs)).take i)).den:Nat)/\Bd (7700 + i * (2 * e0 + 1)) (cL (((chs K0 m).map (tmQ A0 B rs cs)).take i)).num/\∃ s6 s7 s8 s9 s10,τ=[.d (tbQ A0),.d (tbQ B),.d (.lst (rs.map .int)),.d (.lst (cs.map .int)),.d (.int (cL (((chs K0 m).map (tmQ A0 B rs cs)).take i)).num),.d (.int ((cL (((chs K0 m).map (tmQ A0 B rs cs)).take i)).den:Nat)),s6,s7,s8,s9,s10]) b nd (aT (x_call b c_l_choices (ae (bg b (ae (aa 1) ag) (cS (n:=K0) (by rw [List.length_map]; exact h2.len))) (ae (bg b (ae (aa 2) ag) (cS (n:=m) (by rw [List.length_map]; exact l1))) ag)) ⟨K0,m,rfl,h1.c7,m7,rfl⟩)) xg ⟨Nat.zero_le _,?_,?_,.un,.un,.un,.un,.un,rfl⟩ (λi hi τ h=>?_) λτ h=>?_
 · show Bd _ (((0:Rat).den:Nat):Int); exact Bd.mono (m:=1) (by unfold Bd; decide) (by omega)
 · show Bd _ ((0:Rat).num); exact Bd.mono (m:=1) (by unfold Bd; decide) (by omega)
 · obtain ⟨_,bd,bn,s6,s7,s8,s9,s10,rfl⟩:=h
   have hi:i < (chs K0 m).length:=by simpa using hi
   have mc:=aP (xs:=chs K0 m) (d:=[]) hi
   have lc:=(dX K0 m _ mc).len
   have cc:=sY m1 m7 mc
   have est:cL (((chs K0 m).map (tmQ A0 B rs cs)).take (i + 1))=cL (((chs K0 m).map (tmQ A0 B rs cs)).take i) + tmQ A0 B rs cs ((chs K0 m).getD i []):=by
     rw [pw _ (by rw [List.length_map]; exact hi)]
     congr 1
     simp [hi]
   rw [est]
   generalize (chs K0 m).getD i []=c at mc lc cc ⊢
   generalize cL (((chs K0 m).map (tmQ A0 B rs cs)).take i)=S at bd bn ⊢
   obtain ⟨_,p1,bb1,e1,bz1⟩:=qd h1 hr cc l1 lc m7 q1 z
   obtain ⟨_,p2,bb2,e2,bz2⟩:=qd h2 cc hc lc l2 m7 q2 z
   rw [he] at bb1 bb2
   refine ay 7 nd (x_call b c_l_minor (ae (aa 0) (ae (aa 2) (ae (aa 6) ag))) ⟨R,K0,m,d,v,A0,rs,c,rfl,h1,hr,cc,l1,lc,m7,q1,z,rfl⟩) ?_
   refine ay 8 nd (x_call b c_l_minor (ae (aa 1) (ae (aa 6) (ae (aa 3) ag))) ⟨K0,C,m,d,v,B,c,cs,rfl,h2,cc,hc,lc,l2,m7,q2,z,rfl⟩) ?_
   generalize lmZ A0 rs c=lz at e1 bz1 ⊢
   generalize lmB A0 rs c=lb at p1 bb1 e1 ⊢
   generalize lmZ B c cs=rz at e2 bz2 ⊢
   generalize lmB B c cs=rb at p2 bb2 e2 ⊢
   have hit:i * (2 * e0) + 2 * e0<=(chs K0 m).length * (2 * e0):=by rw [<- Nat.succ_mul]; exact Nat.mul_le_mul_right _ hi
   have bm:=bb1.mul bb2
   have bt1:=bn.mul bm
   have bt2:=(bz1.mul bz2).mul bd
   have i9:i * (2 * e0 + 1)<=100000:=by
     have a1:i * (2 * e0 + 1)=i * (2 * e0) + i:=by rw [Nat.mul_succ]
     have a2:i<=i * (2 * e0):=Nat.le_mul_of_pos_right _ (by omega)
     omega
   have n1:(i + 1) * (2 * e0 + 1)=i * (2 * e0 + 1) + (2 * e0 + 1):=Nat.succ_mul ..
   have n2:(i + 1) * (2 * e0)=i * (2 * e0) + 2 * e0:=Nat.succ_mul ..
   have n3:i * (2 * e0 + 1)=i * (2 * e0) + i:=by rw [Nat.mul_succ]
   have bt:=(bt1.mono (n:=7700 + i * (2 * e0 + 1) + 2 * e0) (by omega)).add (bt2.mono (n:=7700 + i * (2 * e0 + 1) + 2 * e0) (by omega))
   have bbm:=bd.mul bm
   have hd:=den_pos S
   have pos:0 < ((S.den:Nat):Int) * (lb * rb):=Int.mul_pos hd (Int.mul_pos p1 p2)
   have eq:((S.num * (lb * rb) + lz * rz * (S.den:Nat):Int):Rat)=(S + tmQ A0 B rs cs c) * ((((S.den:Nat):Int) * (lb * rb):Int):Rat):=by
     rw [Rat.intCast_add,Rat.intCast_mul,Rat.intCast_mul,Rat.intCast_mul,Rat.intCast_mul,Rat.intCast_mul,<- nN S,e1,e2]
     unfold tmQ
     rw [Rat.add_mul]
     congr 1
     · rw [Rat.mul_assoc,Rat.intCast_mul]
     · rw [w9,Rat.mul_assoc,Rat.mul_comm (((lb:Int):Rat) * ((rb:Int):Rat)),Rat.intCast_mul]
   obtain ⟨g1,g2⟩:=gg pos eq
   refine ay 9 nd (aw (aM (aa 7) af (bh (aD (i:=1) rfl))) (aM (aa 8) af (bh (aD (i:=1) rfl))) (aS (bb1.aE bb2 (by omega) (by omega)))) ?_
   refine ay 4 nd (aw (aw (aa 4) (aa 9) (aS (bn.aE bm (by omega) (by omega)))) (aw (aw (aM (aa 7) af (bh (aD (i:=0) rfl))) (aM (aa 8) af (bh (aD (i:=0) rfl))) (aS (bz1.aE bz2 (by decide) (by decide)))) (aa 5) (aS ((bz1.mul bz2).aE bd (by decide) (by omega)))) bS) ?_
   refine ay 5 nd (aw (aa 5) (aa 9) (aS (bd.aE bm (by omega) (by omega)))) ?_
   refine ay 10 nd (x_call b c_l_divisor (ae (aa 4) (ae (aa 5) ag)) ⟨_,_,rfl,rfl⟩) ?_
   have dv:aH (Int.gcd (S.num * (lb * rb) + lz * rz * (S.den:Nat)) (((S.den:Nat):Int) * (lb * rb)):Int):=((bbm.mono (n:=8999) (by omega)).gcd (by omega)).aH (eK (by omega)) (by decide)
   refine ay 4 nd (aw (aa 4) (aa 10) (bB dv)) ?_
   refine ay 5 nd (aw (aa 5) (aa 10) (bB dv)) (aX ⟨hi,?_,?_,.d (lsD c),.d (.tup [.int lz,.int lb]),.d (.tup [.int rz,.int rb]),.d (.int (lb * rb)),.d (.int (Int.gcd (S.num * (lb * rb) + lz * rz * (S.den:Nat)) (((S.den:Nat):Int) * (lb * rb)):Int)),?_⟩)
   · rw [g2]; exact (bbm.ediv _).mono (by omega)
   · rw [g1]; exact (bt.ediv _).mono (by omega)
   · rw [g1,g2,bW,bW]; rfl
 · obtain ⟨_,bd,bn,s6,s7,s8,s9,s10,rfl⟩:=h
   rw [List.length_map,List.take_of_length_le (by rw [List.length_map]; exact Nat.le_refl _)]
   exact aI (jj (ae (aa 4) (ae (aa 5) ag))) rfl
end
noncomputable def fcL (b n s:Nat):List Int:=(((List.range n).filter λk=>decide (Builtin.bitAnd ((b:Int) / 2 ^ k) 1=1)).map λk:Nat=>(k:Int)).take s
noncomputable def fmL (b n s:Nat):List Int:=((List.range n).filter λk=>!((fcL b n s).any λw=>decide (w=((k:Nat):Int)))).map λk:Nat=>(k:Int)
noncomputable def frL (b n s:Nat):List Int:=fcL b n s++(fmL b n s).take (s - (fcL b n s).length)
noncomputable def ndB:List Int->Bool
 | []=>true
 | a :: l=>(!l.any λx=>decide (x=a)) && ndB l
theorem rJ:∀ {l:List Int},ndB l=true->l.Nodup
 | [],_=>List.nodup_nil
 | a :: l,h=>by
   rw [ndB,Bool.and_eq_true] at h
   refine List.nodup_cons.mpr ⟨λz=>?_,rJ h.2⟩
   have:(l.any λx=>decide (x=a))=true:=List.any_eq_true.mpr ⟨a,z,decide_eq_true rfl⟩
   rw [this] at h
   exact absurd h.1 (by decide)
noncomputable def frB (b n s:Nat):Bool:=!(decide (1<=s) && decide (s<=n)) || (decide ((frL b n s).length=s) && (decide ((fcL b n s).length<=s) && (ndB (frL b n s) && (frL b n s).all λx=>decide (0<=x) && decide (x < (n:Int)))))
theorem vY:∀ b,b < 128->∀ n,n < 7->∀ s,s < 7->frB b n s=true:=by decide +kernel
theorem uU (b:Nat) (hb:b < 128) (n:Nat) (hn:n < 7) (s:Nat) (hs:s < 7) (h1:1<=s) (h2:s<=n):(frL b n s).length=s/\(fcL b n s).length<=s/\(frL b n s).Nodup/\∀ x ∈ frL b n s,0<=x/\x < (n:Int):=by
 have h:=vY b hb n hn s hs
 unfold frB at h
 rw [decide_eq_true h1,decide_eq_true h2] at h
 simp only [Bool.and_true,Bool.not_true,Bool.false_or,Bool.and_eq_true,decide_eq_true_eq,List.all_eq_true] at h
 exact ⟨h.1,h.2.1,rJ h.2.2.1,h.2.2.2⟩
noncomputable def frC (b n s:Nat):List Int:=jN (frL b n s)
theorem rP {b n s:Nat} (hb:b < 128) (hn:n < 7) (h1:1<=s) (hs:s<=n):ChO n (frC b n s)/\(frC b n s).length=s:=by
 obtain ⟨l,_,nd,bd⟩:=uU b hb n hn s (by omega) h1 hs
 have ll:(frC b n s).length=s:=by unfold frC; rw [(eh _).length_eq,l]
 have nd':(frC b n s).Nodup:=(eh _).nodup_iff.mpr nd
 have bd':∀ x ∈ frC b n s,0<=x/\x < (n:Int):=λx hx=>bd x ((eh _).mem_iff.mp hx)
 have le:=nY (frL b n s)
 refine ⟨⟨λz=>by rw [z] at ll; simp at ll; omega,λa ha=>?_,(bd' _ (aP (by omega))).1,?_,by omega⟩,ll⟩
 · have h1:a < (frC b n s).length:=by omega
   have g:=List.pairwise_iff_getElem.mp le a (a + 1) h1 ha (by omega)
   have ne:=List.pairwise_iff_getElem.mp nd' a (a + 1) h1 ha (by omega)
   have e1:(frC b n s).getD a 0=(frC b n s)[a]:=by simp [h1]
   have e2:(frC b n s).getD (a + 1) 0=(frC b n s)[a + 1]:=by simp [ha]
   rw [e1,e2]
   have g:(frC b n s)[a]<=(frC b n s)[a + 1]:=g
   omega
 · unfold je
   exact (bd' _ (aP (by omega))).2
noncomputable def fS (ds:List D) (r:Sl):Prop:=∃ b n s:Nat,ds=[.int (b:Nat),.int (n:Nat),.int (s:Nat)]/\b < 128/\n < 7/\1<=s/\s<=n/\r=.o ((frC b n s).map .int)
section
variable {P:Program} {w:World} {K:PySem.W.Frag} {mg:Str->Option Value} {base:Heap} {k:Nat} {f:Addr} {fd:FuncData} {qual:Str}
theorem mZ (F:Fun K "_law_first" qual (top 55) f fd) (hb:∀ x ∈ aj,mg x=none):aR P w K mg base CX0 (k + 1) f fd ["_law_bits","_law_many","_law_size"] (spD K fS):=by
 refine fnD F iC hb (by rintro _ _ ⟨_,_,_,rfl,_⟩; rfl) ?_
 rintro _ _ ⟨b0,n,s0,rfl,h1,h2,h3,h4,rfl⟩ cdv A outer s H E b
 have nd:=iC.nd
 obtain ⟨l,lf,_,_⟩:=uU b0 h1 n h2 s0 (by omega) h3 h4
 have lm:(fmL b0 n s0).length<=n:=by
   unfold fmL
   rw [List.length_map]
   exact Nat.le_trans (List.length_filter_le _ _) (by rw [List.length_range]; exact Nat.le_refl _)
 refine ay 3 nd (s:=.d (.lst ((fcL b0 n s0).map .int))) (ba (rS (ba (cA (uM 0 (t:=λk=>decide (Builtin.bitAnd ((b0:Int) / 2 ^ k) 1=1)) (f:=λk=>.int (k:Nat)) b (fw b (aa 1) (by omega) (by omega)) fH (by rw [az]; omega) (λk hk s0 H0 fp=>bb (aw (aw (aa 1) (aa 0) (uR (by omega))) af uJ) af gu) λk hk _ s0 H0 fp=>aa 0))) sa (dY (aa 2))) ?hx) ?_
 case hx=>
   refine congrArg (λl=>some (D.lst l)) ?_
   rw [pZ,az,Int.toNat_natCast]
   unfold fcL
   rw [<- List.map_take,<- List.map_take,List.map_map]
   rfl
 refine gZ 4 nd (s:=.d (.lst ((fmL b0 n s0).map .int))) (uM 0 (t:=λk=>!((fcL b0 n s0).any λw=>decide (w=((k:Nat):Int)))) (f:=λk=>.int (k:Nat)) b (fw b (aa 1) (by omega) (by omega)) fH (by rw [az]; omega) (λk hk s1 H0 fp=>bb (aa 0) (aa 1) vQ) λk hk _ s1 H0 fp=>aa 0) (.inr ?_) ?_
 · rw [az,Int.toNat_natCast]
   unfold fmL
   rw [List.map_map]
   rfl
 have e1:(s0:Int) - ((fcL b0 n s0).length:Nat)=((s0 - (fcL b0 n s0).length:Nat):Int):=by omega
 have e2:(fcL b0 n s0).map D.int++Hy.cutD ((fmL b0 n s0).map D.int) none (some ((s0:Int) - ((fcL b0 n s0).length:Nat)))=(frL b0 n s0).map D.int:=by
   rw [e1,pZ,<- List.map_take,<- List.map_append]
   rfl
 refine aI (bg b (ae (ba (x:=.lst ((frL b0 n s0).map .int)) (uW (aa 3) (ba (rS (aa 4) sa (dY (aw (aa 2) (bg b (ae (aa 3) ag) (cS (n:=(fcL b0 n s0).length) (List.length_map ..))) eF)))) ?_) (congrArg (λl=>some (D.lst l)) e2)) ag) (wm (by omega))) rfl
 have:=congrArg List.length e2
 rw [List.length_append,List.length_map,List.length_map] at this
 rw [List.length_map]
 omega
end
theorem xy {R C m d v:Nat} {M:List (List Rat)} {rs cs:List Int} (t:Tq R C M) (hr:ChO R rs) (hc:ChO C cs) (l1:rs.length=m) (l2:cs.length=m) (m7:m<=7) (hq:∀ r ∈ M,∀ x ∈ r,Qs d v x) (z:Bz m d v):Sq 9000 (mnQ M rs cs):=by
 have tq:=jL t hr hc l1 l2 m7
 obtain ⟨o1,o2,o3,o4,o5⟩:=sD tq (jY t hr hc hq) z
 have zb:ZB (m * (v + (1 + m * d) + 3)) (det m (dtM (whM (chM M rs cs) ((chM M rs cs).map scL)))):=mQ (by omega) λi hi j hj=>by
   have mi:=aP (xs:=whM (chM M rs cs) ((chM M rs cs).map scL)) (d:=[]) (i:=i) (by rw [o1]; exact hi)
   exact ⟨_,rfl,(o2 _ mi).2 _ (aP (by rw [(o2 _ mi).1]; exact hj))⟩
 obtain ⟨w,e1,e2⟩:=zb
 have ew:wdZ (whM (chM M rs cs) ((chM M rs cs).map scL))=w:=lL (by rw [o1,e1])
 have e:mnQ M rs cs=det m (qM (chM M rs cs)):=by
   unfold mnQ
   rw [l1,aC λa ha b hb'=>mS (M:=M) (rs:=rs) (cs:=cs) (by omega) (by omega)]
 rw [<- e,ew] at o5
 obtain ⟨g1,g2⟩:=gg o3 o5
 have bw:Bd 8999 w:=Nat.lt_of_le_of_lt e2 (Nat.pow_lt_pow_right (by decide) (by have:=z.b2; omega))
 exact ⟨by rw [g1]; exact (bw.ediv _).mono (by decide),by rw [g2]; exact (o4.ediv _).mono (by decide)⟩
theorem Qs.mono {d v d' v':Nat} {q:Rat} (h:Qs d v q) (hd:d<=d') (hv:v<=v'):Qs d' v' q:=⟨h.den.mono hd,Nat.le_trans h.val (Nat.mul_le_mul_right _ (Nat.pow_le_pow_right (by decide) hv))⟩
noncomputable def szB (K m d v T:Nat):Bool:=decide (2 + 2 * (K * d)<=8999) && (decide (v + (1 + K * d)<=8999) && (decide (v + d<=8999) && (decide (1 + m * (2 + 2 * (K * d))<=8999) && (decide (m * ((2 * v + 3) + (1 + m * (2 + 2 * (K * d))) + 3)<=8998) && (decide (1 + m * (1 + m * (2 + 2 * (K * d)))<=8999) && (decide ((2 * v + 3) + (2 + 2 * (K * d))<=8999) && (decide (1 + m * d<=8999) && (decide (m * (v + (1 + m * d) + 3)<=3800) && (decide (1 + m * (1 + m * d)<=8999) && (decide (v + (1 + m * d)<=3800) && decide (1 + T * (2 * (1 + m * (1 + m * d)))<=8999)))))))))))
theorem szA:∀ K,K < 7->∀ m,m < 7->szB K m 3 4 20=true:=by decide +kernel
theorem szC:∀ K,K < 4->∀ m,m < 4->szB K m 133 133 3=true:=by decide +kernel
structure Fit (K m d v:Nat):Prop where
 p1:2 + 2 * (K * d)<=8999
 p2:v + (1 + K * d)<=8999
 p3:v + d<=8999
 z:Bz m (2 + 2 * (K * d)) (2 * v + 3)
 l:Lz m d v
 c:1 + (chs K m).length * (2 * (1 + m * (1 + m * d)))<=8999
theorem qi {K m d v T:Nat} (h:szB K m d v T=true) (hT:(chs K m).length<=T):Fit K m d v:=by
 unfold szB at h
 simp only [Bool.and_eq_true,decide_eq_true_eq] at h
 obtain ⟨a1,a2,a3,a4,a5,a6,a7,a8,a9,a10,a11,a12⟩:=h
 exact ⟨a1,a2,a3,⟨a4,a5,a6,a7⟩,⟨⟨a8,by omega,a10,a3⟩,a9,a11⟩,Nat.le_trans (Nat.add_le_add_left (Nat.mul_le_mul_right _ hT) _) a12⟩
theorem v7 {R K C m a b:Nat} {A B:List (List Rat)} (hm:1<=m) (mR:m<=R) (h6:R<=6/\K<=6/\C<=6) (hk:(a < 3/\b < 3)\/(R<=3/\K<=3/\C<=3)) (qa:∀ r ∈ A,∀ x ∈ r,Qs (kD a) (kV a) x) (qb:∀ r ∈ B,∀ x ∈ r,Qs (kD b) (kV b) x):∃ d v,Fit K m d v/\(∀ r ∈ A,∀ x ∈ r,Qs d v x)/\∀ r ∈ B,∀ x ∈ r,Qs d v x:=by
 have le:∀ k,kD k<=133/\kV k<=133:=λk=>by unfold kD kV; constructor <;> split <;> decide
 rcases hk with ⟨h1,h2⟩ | ⟨h1,h2,h3⟩
 · have e:∀ k,k < 3->kD k=3/\kV k=4:=λk hk=>by unfold kD kV; rw [if_neg (by omega),if_neg (by omega)]; exact ⟨rfl,rfl⟩
   rw [(e a h1).1,(e a h1).2] at qa
   rw [(e b h2).1,(e b h2).2] at qb
   exact ⟨3,4,qi (szA K (by omega) m (by omega)) (oj K (by omega) m (by omega)).1,qa,qb⟩
 · exact ⟨133,133,qi (szC K (by omega) m (by omega)) ((oj K (by omega) m (by omega)).2 h2),λr hr x hx=>(qa r hr x hx).mono (le a).1 (le a).2,λr hr x hx=>(qb r hr x hx).mono (le b).1 (le b).2⟩
noncomputable def nB (ds:List D) (r:Sl):Prop:=∃ ns:List Int,ns.length<=63/\ds=[.lst (ns.map .int)]/\r=.d (.bl true)
theorem v3 {ps:List Int} (h:ps.length=12):∃ p0 p1 p2 p3 p4 p5 p6 p7 p8 p9 p10 p11,ps=[p0,p1,p2,p3,p4,p5,p6,p7,p8,p9,p10,p11]:=by
 match ps,h with
 | [p0,p1,p2,p3,p4,p5,p6,p7,p8,p9,p10,p11],_=>exact ⟨p0,p1,p2,p3,p4,p5,p6,p7,p8,p9,p10,p11,rfl⟩
noncomputable def sf:List Int:=[8,4,4,4,6,6,6,4,4,128,128,6]
section
variable {P:Program} {w:World} {K:PySem.W.Frag} {mg:Str->Option Value} {base:Heap} {k:Nat} {f:Addr} {fd:FuncData} {qual:Str}
set_option maxHeartbeats 4000000 in
theorem wD (F:Fun K "law" qual (top 56) f fd) (hb:∀ x ∈ aj,mg x=none) (c_l_cell:Cal P w K mg base k "_law_cell" gO) (c_l_numbers:Cal P w K mg base k "_law_numbers" cQ) (c_l_table:Cal P w K mg base k "_law_table" fR) (c_l_first:Cal P w K mg base k "_law_first" fS) (c_l_due:Cal P w K mg base k "_law_due" kG) (c_l_rest:Cal P w K mg base k "_law_rest" gM) (c_l_is_number:Cal P w K mg base k "_law_is_number" c9) (c_minor:Cal P w K mg base k "minor" ky) (c_product:Cal P w K mg base k "product" gc):aR P w K mg base CX0 (k + 1) f fd ["_law_script"] (spD K nB):=by
 refine fnD F qZ hb (by rintro _ _ ⟨_,_,rfl,_⟩; rfl) ?_
 rintro _ _ ⟨ns,hn,rfl,rfl⟩ cdv A outer s H E b
 have nd:=qZ.nd
 have hN:∃ N:Nat,(if (if ((ns.map D.int).length:Int) < 6 then ((ns.map D.int).length:Int) else 6) > 1 then (if ((ns.map D.int).length:Int) < 6 then ((ns.map D.int).length:Int) else 6) else 1)=(N:Nat)/\N<=6:=by
   refine ⟨(if (if ((ns.map D.int).length:Int) < 6 then ((ns.map D.int).length:Int) else 6) > 1 then (if ((ns.map D.int).length:Int) < 6 then ((ns.map D.int).length:Int) else 6) else 1).toNat,?_,?_⟩
   · repeat' split
     all_goals omega
   · repeat' split
     all_goals omega
 obtain ⟨N,eN,N6⟩:=hN
 refine cM 1 (λi τ=>∃ s1 s2 s3 s4 s5 s6 s7 s8 s9 s10 s11,τ=[.d (.lst (ns.map .int)),s1,s2,s3,s4,s5,s6,s7,s8,s9,s10,s11]) b nd (fw (n:=(N:Nat)) b (by rw [<- eN]; exact bg b (ae af (ae (bg b (ae af (ae (bg b (ae (aa 0) ag) hV) ag)) (uQ b.calm)) ag)) (xK b.calm)) (by omega) (by omega)) fH ⟨.un,.un,.un,.un,.un,.un,.un,.un,.un,.un,.un,rfl⟩ (λi hi τ h=>?_) λτ h=>?_
 · obtain ⟨s1,s2,s3,s4,s5,s6,s7,s8,s9,s10,s11,rfl⟩:=h
   refine ay 2 nd (x_call b c_l_cell (ae (aa 0) (ae (aa 1) ag)) ⟨ns,i,rfl,rfl⟩) ?_
   generalize ns.getD i 0=c
   have pb:∀ b ∈ sf,0 < b/\aH b:=λb hb=>sE (by revert b; decide) (by revert b; decide)
   have pb':∀ b ∈ sf,0 < b:=λb hb=>(pb b hb).1
   refine ay 3 nd (ba (x_call b c_l_numbers (ae (aa 2) (ae (ba (fb (ae af (ae af (ae af (ae af (ae af (ae af (ae af (ae af (ae af (ae af (ae af (ae af ag)))))))))))))) ag)) ⟨c,sf,rfl,by decide,pb,rfl⟩)) ?_
   have len12:(nums c sf).length=12:=lM ..
   have lt:=λi (h:i < 12)=>uA (c:=c) pb' (i:=i) h
   generalize nums c sf=ps at len12 lt
   obtain ⟨p0,p1,p2,p3,p4,p5,p6,p7,p8,p9,p10,p11,rfl⟩:=v3 len12
   have t1:0<=p1/\p1 < 4:=lt 1 (by decide)
   have t2:0<=p2/\p2 < 4:=lt 2 (by decide)
   have t3:0<=p3/\p3 < 4:=lt 3 (by decide)
   have t4:0<=p4/\p4 < 6:=lt 4 (by decide)
   have t5:0<=p5/\p5 < 6:=lt 5 (by decide)
   have t6:0<=p6/\p6 < 6:=lt 6 (by decide)
   have t7:0<=p7/\p7 < 4:=lt 7 (by decide)
   have t8:0<=p8/\p8 < 4:=lt 8 (by decide)
   have t9:0<=p9/\p9 < 128:=lt 9 (by decide)
   have t10:0<=p10/\p10 < 128:=lt 10 (by decide)
   have t11:0<=p11/\p11 < 6:=lt 11 (by decide)
   clear lt len12
   have sl3:∀ x y z:Int,(List.range 3).map (λi=>D.int (1 + [x,y,z].getD i 0))=[D.int (1 + x),.int (1 + y),.int (1 + z)]:=λ_ _ _=>rfl
   refine gZ 4 nd (s:=.d (.lst [.int (1 + p1),.int (1 + p2),.int (1 + p3)])) (cmp 0 (xs:=[.int p1,.int p2,.int p3]) (g:=λi=>.int ([p1,p2,p3].getD i 0)) (f:=λi=>.int (1 + [p1,p2,p3].getD i 0)) b (aT (ba (x:=.lst [.int p1,.int p2,.int p3]) (rS (aa 3) (dY af) (dY af)) rfl)) (bQ (f:=D.int) (xs:=[p1,p2,p3]) 0) (by show (3:Nat) < 1000000; decide) λi hi s0 H0 fp=>(aw af (aa 0) bS)) (.inr rfl) ?_
   refine mr (M:=λτ=>∃ R K C:Nat,(1<=R/\R<=6)/\(1<=K/\K<=6)/\(1<=C/\C<=6)/\τ=[.d (.lst (ns.map .int)),.d (.int (i:Nat)),.d (.int c),.d (.lst ([p0,p1,p2,p3,p4,p5,p6,p7,p8,p9,p10,p11].map .int)),.d (.lst [.int (R:Nat),.int (K:Nat),.int (C:Nat)]),s5,s6,s7,s8,s9,s10,s11]) (bb (aM (aa 3) af (aQ (aD (i:=0) rfl))) af gu) (λh=>?_) (λh=>?_) ?_
   · refine gZ 4 nd (s:=.d (.lst [.int (1 + p4),.int (1 + p5),.int (1 + p6)])) (cmp 0 (xs:=[.int p4,.int p5,.int p6]) (g:=λi=>.int ([p4,p5,p6].getD i 0)) (f:=λi=>.int (1 + [p4,p5,p6].getD i 0)) b (aT (ba (x:=.lst [.int p4,.int p5,.int p6]) (rS (aa 3) (dY af) (dY af)) rfl)) (bQ (f:=D.int) (xs:=[p4,p5,p6]) 0) (by show (3:Nat) < 1000000; decide) λi hi s0 H0 fp=>(aw af (aa 0) bS)) (.inr rfl) ?_
     refine aX ⟨(1 + p4).toNat,(1 + p5).toNat,(1 + p6).toNat,by omega,by omega,by omega,?_⟩
     rw [Int.toNat_of_nonneg (by omega),Int.toNat_of_nonneg (by omega),Int.toNat_of_nonneg (by omega)]
     rfl
   · refine aX ⟨(1 + p1).toNat,(1 + p2).toNat,(1 + p3).toNat,by omega,by omega,by omega,?_⟩
     rw [Int.toNat_of_nonneg (by omega),Int.toNat_of_nonneg (by omega),Int.toNat_of_nonneg (by omega)]
     rfl
   rintro _ ⟨R,K0,C,hR,hK,hC,rfl⟩
   refine ay 5 nd (s:=.d (.lst [.int p7,.int p8])) (ba (rS (aa 3) (dY af) (dY af)) rfl) ?_
   refine mr (M:=λτ=>∃ a b:Nat,a < 4/\b < 4/\((a < 3/\b < 3)\/(R<=3/\K0<=3/\C<=3))/\τ=[.d (.lst (ns.map .int)),.d (.int (i:Nat)),.d (.int c),.d (.lst ([p0,p1,p2,p3,p4,p5,p6,p7,p8,p9,p10,p11].map .int)),.d (.lst [.int (R:Nat),.int (K0:Nat),.int (C:Nat)]),.d (.lst [.int (a:Nat),.int (b:Nat)]),s6,s7,s8,s9,s10,s11]) (PW.pt (gq (bb (bg b (ae (aa 4) ag) (wC b.calm (R:Nat) [(K0:Int),(C:Int)] rfl)) af vF) λh=>(gk (bb (aa 1) af vF)))) (λh=>?_) (λh=>?_) ?_
   · have f7:=fmn (a:=p7) (b:=3) (by decide)
     have f8:=fmn (a:=p8) (b:=3) (by decide)
     refine gZ 5 nd (s:=.d (.lst [.int (p7.fmod 3),.int (p8.fmod 3)])) (cmp 0 (xs:=[.int p7,.int p8]) (g:=λi=>.int ([p7,p8].getD i 0)) (f:=λi=>.int (([p7,p8].getD i 0).fmod 3)) b (aT (aa 5)) (bQ (f:=D.int) (xs:=[p7,p8]) 0) (by show (2:Nat) < 1000000; decide) λi hi s0 H0 fp=>(aw (aa 0) af (b5 (by decide)))) (.inr rfl) ?_
     refine aX ⟨(p7.fmod 3).toNat,(p8.fmod 3).toNat,by omega,by omega,.inl (by omega),?_⟩
     rw [Int.toNat_of_nonneg f7.1,Int.toNat_of_nonneg f8.1]
     rfl
   · have h:(decide (iw (R:Int) [(K0:Int),(C:Int)] > 3) || decide (((i:Nat):Int) > 0))=false:=h
     have h1:¬ iw (R:Int) [(K0:Int),(C:Int)] > 3:=by
       rw [Bool.or_eq_false_iff] at h
       exact of_decide_eq_false h.1
     have mx:=(kf [(K0:Int),(C:Int)] (R:Int)).2
     have x1:=mx (R:Int) (by simp)
     have x2:=mx (K0:Int) (by simp)
     have x3:=mx (C:Int) (by simp)
     refine aX ⟨p7.toNat,p8.toNat,by omega,by omega,.inr (by omega),?_⟩
     rw [Int.toNat_of_nonneg t7.1,Int.toNat_of_nonneg t8.1]
     rfl
   rintro _ ⟨ka,kb,ka4,kb4,hk,rfl⟩
   refine ay 6 nd (ba (x_call b c_l_table (ae (x_call b c_l_rest (ae (aa 2) (ae af ag)) ⟨_,_,rfl,by decide,by decide,rfl⟩) (ae (aM (aa 4) af (aQ (aD (i:=0) rfl))) (ae (aM (aa 4) af (aQ (aD (i:=1) rfl))) (ae (aM (aa 5) af (aQ (aD (i:=0) rfl))) ag)))) ⟨_,R,K0,ka,rfl,by omega,by omega,ka4,rfl⟩)) ?_
   refine ay 7 nd (ba (x_call b c_l_table (ae (aw (x_call b c_l_cell (ae (aa 0) (ae (aw (aa 1) af bS) ag)) ⟨ns,i + 1,rfl,rfl⟩) af bS) (ae (aM (aa 4) af (aQ (aD (i:=1) rfl))) (ae (aM (aa 4) af (aQ (aD (i:=2) rfl))) (ae (aM (aa 5) af (aQ (aD (i:=1) rfl))) ag)))) ⟨_,K0,C,kb,rfl,by omega,by omega,kb4,rfl⟩)) ?_
   have tA:=qf (c:=rsZ c 173946175488) (R:=R) (C:=K0) (kd:=ka) (by omega) (by omega) (by omega) (by omega)
   have tB:=qf (c:=ns.getD (i + 1) 0 + 1) (R:=K0) (C:=C) (kd:=kb) (by omega) (by omega) (by omega) (by omega)
   have qA:=pR (c:=rsZ c 173946175488) (R:=R) (C:=K0) (kd:=ka)
   have qB:=pR (c:=ns.getD (i + 1) 0 + 1) (R:=K0) (C:=C) (kd:=kb)
   generalize tlM (rsZ c 173946175488) R K0 ka=MA at tA qA ⊢
   generalize tlM (ns.getD (i + 1) 0 + 1) K0 C kb=MB at tB qB ⊢
   have hmin:∃ q:Nat,(if (C:Int) < (R:Int) then (C:Int) else (R:Int))=(q:Nat)/\1<=q/\q<=R/\q<=C:=by
     by_cases y:(C:Int) < (R:Int)
     · exact ⟨C,by rw [if_pos y],by omega,by omega,by omega⟩
     · exact ⟨R,by rw [if_neg y],by omega,by omega,by omega⟩
   obtain ⟨q,eq,q1,qR,qC⟩:=hmin
   have f11:=fmn (a:=p11) (b:=(q:Int)) (by omega)
   obtain ⟨m,em⟩:∃ m:Nat,1 + p11.fmod (q:Int)=(m:Nat):=⟨(1 + p11.fmod (q:Int)).toNat,by omega⟩
   have m1:1<=m:=by omega
   have mR:m<=R:=by omega
   have mC:m<=C:=by omega
   refine ay 8 nd (s:=.d (.int (m:Nat))) (by rw [<- em,<- eq]; exact aw af (aw (aM (aa 3) af (aQ (aD (i:=11) rfl))) (bg b (ae (aM (aa 4) af (aQ (aD (i:=0) rfl))) (ae (aM (aa 4) af (aQ (aD (i:=2) rfl))) ag)) (uQ b.calm)) (b5 (by rw [eq]; omega))) bS) ?_
   obtain ⟨b9,e9⟩:=Int.eq_ofNat_of_zero_le t9.1
   obtain ⟨b10,e10⟩:=Int.eq_ofNat_of_zero_le t10.1
   subst e9 e10
   obtain ⟨cr,lr⟩:=rP (b:=b9) (n:=R) (s:=m) (by omega) (by omega) m1 mR
   obtain ⟨cc,lc⟩:=rP (b:=b10) (n:=C) (s:=m) (by omega) (by omega) m1 mC
   refine ay 9 nd (ba (x_call b c_l_first (ae (aM (aa 3) af (aQ (aD (i:=9) rfl))) (ae (aM (aa 4) af (aQ (aD (i:=0) rfl))) (ae (aa 8) ag))) ⟨b9,R,m,rfl,by omega,by omega,m1,mR,rfl⟩)) ?_
   refine ay 10 nd (ba (x_call b c_l_first (ae (aM (aa 3) af (aQ (aD (i:=10) rfl))) (ae (aM (aa 4) af (aQ (aD (i:=2) rfl))) (ae (aa 8) ag))) ⟨b10,C,m,rfl,by omega,by omega,m1,mC,rfl⟩)) ?_
   generalize frC b9 R m=rs at cr lr ⊢
   generalize frC b10 C m=cs at cc lc ⊢
   obtain ⟨d,v,ft,qA',qB'⟩:=v7 m1 mR ⟨by omega,by omega,by omega⟩ hk qA qB
   have m7:m<=7:=by omega
   refine ay 11 nd (x_call b c_l_due (ae (aa 6) (ae (aa 7) (ae (aa 9) (ae (aa 10) ag)))) ⟨R,K0,C,m,d,v,MA,MB,rs,cs,rfl,tA,tB,cr,cc,lr,lc,m7,qA',qB',ft.l,ft.c,rfl⟩) ?_
   have tP:=wY tA tB
   have qP:=wc tA tB qA' qB'
   rw [<- wq tA tB cr cc lr lc (by omega) m7]
   have sq:=xy tP cr cc lr lc m7 qP ft.z
   exact cJ (bZ (bY (x_call b c_l_is_number (ae (x_call b c_minor (ae (ba (x_call b c_product (ae (aa 6) (ae (aa 7) ag)) ⟨R,K0,C,d,v,MA,MB,rfl,tA,tB,qA',qB',ft.p1,ft.p2,ft.p3,rfl⟩)) (ae (aa 9) (ae (aa 10) ag))) ⟨R,C,m,_,_,pdM MA MB C,rs,cs,rfl,tP,cr,cc,lr,lc,m7,qP,ft.z,rfl⟩) (ae (aM (aa 11) af (bh (aD (i:=0) rfl))) (ae (aM (aa 11) af (bh (aD (i:=1) rfl))) ag))) ⟨_,rfl,sq,rfl⟩))) rfl (aX ⟨_,_,_,_,_,_,_,_,_,_,_,rfl⟩)
 · obtain ⟨s1,s2,s3,s4,s5,s6,s7,s8,s9,s10,s11,rfl⟩:=h
   exact aI tm rfl
end
end K13
namespace K13
open PySem PySem.Spec PyProof.Rows L2 Hy
set_option maxHeartbeats 0 in
theorem all_mk {l:PySem.W.OpenLaw} {w:World} {K:PySem.W.Frag} {h:Heap} {mg:Str->Option Value} {fa f0 f1 f2 f3 f4 f5 f6 f7 f8 f9 f10 f11 f12 f13 f14 f15 f16 f17 f18 f19 f20 f21 f22 f23 f24 f25 f26 f27 f28 f29 f30 f31 f32 f33 f34 f35 f36 f37 f38 f39 f40 f41 f42 f43 f44:Addr} {t0:Tok} (X:K.In h) (G:h.Ns mainGlobals mg) (hfa:mg "law" = some (.ref fa))
   (h0:Dfn K "_law_cell" (top 41) f0) (h1:Dfn K "_law_numbers" (top 42) f1) (h2:Dfn K "_law_divisor" (top 44) f2) (h3:Dfn K "_law_made" (top 45) f3) (h4:Dfn K "_law_number" (top 46) f4) (h5:Dfn K "_law_table" (top 47) f5) (h6:Dfn K "_law_first" (top 55) f6) (h7:Dfn K "_law_choices" (top 52) f7) (h8:Dfn K "_law_rows" (top 50) f8) (h9:Dfn K "_law_det" (top 51) f9) (h10:Dfn K "_law_minor" (top 53) f10) (h11:Dfn K "_law_due" (top 54) f11) (h12:Dfn K "_law_rest" (top 43) f12) (h13:Dfn K "_law_whole" (top 48) f13) (h14:Dfn K "_law_is_number" (top 49) f14) (h15:Dfn K "is_short_list" (top 15) f15) (h16:Dfn K "is_whole" (top 8) f16) (h17:Dfn K "common_divisor" (top 10) f17) (h18:Dfn K "is_fraction" (top 9) f18) (h19:Dfn K "is_row" (top 16) f19) (h20:Dfn K "is_table" (top 17) f20) (h21:Dfn K "look_table" (top 20) f21) (h22:Dfn K "is_rising" (top 19) f22) (h23:Dfn K "is_choice" (top 18) f23) (h24:Dfn K "look_choices" (top 21) f24) (h25:Dfn K "look_square" (top 29) f25) (h26:Dfn K "in_lowest_terms" (top 11) f26) (h27:qV K "fraction" (top 12) f27 (1)) (h28:Dfn K "scale_of" (top 30) f28) (h29:Dfn K "pivot_place" (top 35) f29) (h30:Dfn K "cleared" (top 36) f30) (h31:Dfn K "whole_determinant" (top 34) f31) (h32:Dfn K "product_of_all" (top 33) f32) (h33:Dfn K "whole_row" (top 31) f33) (h34:Dfn K "whole_rows" (top 32) f34) (h35:Dfn K "square_determinant" (top 28) f35) (h36:Dfn K "picked" (top 22) f36) (h37:Dfn K "chosen" (top 23) f37) (h38:Dfn K "minor" (top 27) f38) (h39:Dfn K "column_of" (top 25) f39) (h40:Dfn K "columns_of" (top 24) f40) (h41:Dfn K "sum_of_products" (top 39) f41) (h42:Dfn K "product_row" (top 38) f42) (h43:Dfn K "product" (top 37) f43) (h44:Dfn K "law" (top 56) f44) (hz:nsL K aj) (z0:PySem.W.nsIn K mainGlobals "MOST" = some (some (.int 7 t0))) :
   ∃ fd:FuncData,(∀ (s:Shared) (v:Value),BindsTo s fd ⟨[v],[]⟩ [("_law_script",v)])/\∀ base:Heap,K.In base->base.Ns mainGlobals mg->aR l.prog w K mg base CX0 7 fa fd ["_law_script"] (spD K nB):=by
 have hb:=hz.none X G
 have y_MOST:∃ t,mg "MOST" = some (.int 7 t):=⟨_,PySem.W.mg_of X G z0⟩
 obtain ⟨a,⟨oc,od,kV,dc,pm,an,cd,ct,sl,l0,c⟩,r⟩:=h44
 cases hfa.symm.trans (PySem.W.mg_of X G a)
 refine ⟨PySem.W.fnOf "law" "law" (cg (top 56)) (bL (top 56)) (ah (top 56)) .none kV dc pm an cd ct,λs v=>.of_eq rfl,λbase _ _=>?_⟩
 have c_l_cell:Cal l.prog w K mg base 1 "_law_cell" gO:=h0.cal (ps:=["_law_script","_law_k"]) X G (λ_ _ _ _ _ _=>Hy.bd2 λ_ _=>rfl) λ_ F=>oN (k:=0) F hb
 have c_l_numbers:Cal l.prog w K mg base 1 "_law_numbers" cQ:=h1.cal (ps:=["_law_cell_here","_law_bases"]) X G (λ_ _ _ _ _ _=>Hy.bd2 λ_ _=>rfl) λ_ F=>kl (k:=0) F hb
 have c_l_divisor:Cal l.prog w K mg base 1 "_law_divisor" bR:=h2.cal (ps:=["_law_one","_law_other"]) X G (λ_ _ _ _ _ _=>Hy.bd2 λ_ _=>rfl) λ_ F=>j1 (k:=0) F hb
 have c_l_made:Cal l.prog w K mg base 2 "_law_made" iU:=h3.cal (ps:=["_law_top","_law_bottom"]) X G (λ_ _ _ _ _ _=>Hy.bd2 λ_ _=>rfl) λ_ F=>o9 (k:=1) F hb c_l_divisor
 have c_l_number:Cal l.prog w K mg base 3 "_law_number" eQ:=h4.cal (ps:=["_law_kind","_law_part"]) X G (λ_ _ _ _ _ _=>Hy.bd2 λ_ _=>rfl) λ_ F=>kU (k:=2) F hb c_l_made
 have c_l_table:Cal l.prog w K mg base 4 "_law_table" fR:=h5.cal (ps:=["_law_cell_here","_law_many","_law_wide","_law_kind"]) X G (λ_ _ _ _ _ _=>Hy.bd4 λ_ _ _ _=>rfl) λ_ F=>mH (k:=3) F hb (c_l_numbers.mono (by decide)) c_l_number
 have c_l_first:Cal l.prog w K mg base 1 "_law_first" fS:=h6.cal (ps:=["_law_bits","_law_many","_law_size"]) X G (λ_ _ _ _ _ _=>Hy.bd3 λ_ _ _=>rfl) λ_ F=>mZ (k:=0) F hb
 have c_l_choices:Cal l.prog w K mg base 1 "_law_choices" ec:=h7.cal (ps:=["_law_many","_law_size"]) X G (λ_ _ _ _ _ _=>Hy.bd2 λ_ _=>rfl) λ_ F=>kz (k:=0) F hb
 have c_l_rows:Cal l.prog w K mg base 2 "_law_rows" ic:=h8.cal (ps:=["_law_table_here"]) X G (λ_ _ _ _ _ _=>Hy.bd1 λ_=>rfl) λ_ F=>pE (k:=1) F hb c_l_divisor
 have c_l_det:Cal l.prog w K mg base 1 "_law_det" jX:=h9.cal (ps:=["_law_rows_here"]) X G (λ_ _ _ _ _ _=>Hy.bd1 λ_=>rfl) λ_ F=>rB (k:=0) F hb
 have c_l_minor:Cal l.prog w K mg base 3 "_law_minor" fP:=h10.cal (ps:=["_law_table_here","_law_rows_here","_law_columns"]) X G (λ_ _ _ _ _ _=>Hy.bd3 λ_ _ _=>rfl) λ_ F=>mG (k:=2) F hb c_l_rows (c_l_det.mono (by decide))
 have c_l_due:Cal l.prog w K mg base 4 "_law_due" kG:=h11.cal (ps:=["_law_one","_law_other","_law_rows_here","_law_columns"]) X G (λ_ _ _ _ _ _=>Hy.bd4 λ_ _ _ _=>rfl) λ_ F=>rf (k:=3) F hb (c_l_choices.mono (by decide)) c_l_minor (c_l_divisor.mono (by decide))
 have c_l_rest:Cal l.prog w K mg base 1 "_law_rest" gM:=h12.cal (ps:=["_law_cell_here","_law_used"]) X G (λ_ _ _ _ _ _=>Hy.bd2 λ_ _=>rfl) λ_ F=>oA (k:=0) F hb
 have c_l_whole:Cal l.prog w K mg base 1 "_law_whole" fY:=h13.cal (ps:=["_law_thing"]) X G (λ_ _ _ _ _ _=>Hy.bd1 λ_=>rfl) λ_ F=>mN (k:=0) F hb
 have c_l_is_number:Cal l.prog w K mg base 2 "_law_is_number" c9:=h14.cal (ps:=["_law_found","_law_top","_law_bottom"]) X G (λ_ _ _ _ _ _=>Hy.bd3 λ_ _ _=>rfl) λ_ F=>iD (k:=1) F hb c_l_whole c_l_divisor
 have c_is_short_list:Cal l.prog w K mg base 1 "is_short_list" bK:=h15.cal (ps:=["thing"]) X G (λ_ _ _ _ _ _=>Hy.bd1 λ_=>rfl) λ_ F=>fX (k:=0) F hb y_MOST
 have c_is_whole:Cal l.prog w K mg base 1 "is_whole" cE:=h16.cal (ps:=["thing"]) X G (λ_ _ _ _ _ _=>Hy.bd1 λ_=>rfl) λ_ F=>kZ (k:=0) F hb
 have c_common_divisor:Cal l.prog w K mg base 1 "common_divisor" bf:=h17.cal (ps:=["one","other"]) X G (λ_ _ _ _ _ _=>Hy.bd2 λ_ _=>rfl) λ_ F=>fJ (k:=0) F hb
 have c_is_fraction:Cal l.prog w K mg base 2 "is_fraction" cV:=h18.cal (ps:=["thing"]) X G (λ_ _ _ _ _ _=>Hy.bd1 λ_=>rfl) λ_ F=>ir (k:=1) F hb c_is_whole c_common_divisor
 have c_is_row:Cal l.prog w K mg base 3 "is_row" ib:=h19.cal (ps:=["thing"]) X G (λ_ _ _ _ _ _=>Hy.bd1 λ_=>rfl) λ_ F=>oB (k:=2) F hb (c_is_short_list.mono (by decide)) c_is_fraction
 have c_is_table:Cal l.prog w K mg base 4 "is_table" eI:=h20.cal (ps:=["thing"]) X G (λ_ _ _ _ _ _=>Hy.bd1 λ_=>rfl) λ_ F=>k8 (k:=3) F hb (c_is_short_list.mono (by decide)) c_is_row
 have c_look_table:Cal l.prog w K mg base 5 "look_table" cw:=h21.cal (ps:=["thing"]) X G (λ_ _ _ _ _ _=>Hy.bd1 λ_=>rfl) λ_ F=>i5 (k:=4) F hb c_is_table
 have c_is_rising:Cal l.prog w K mg base 1 "is_rising" ed:=h22.cal (ps:=["numbers"]) X G (λ_ _ _ _ _ _=>Hy.bd1 λ_=>rfl) λ_ F=>j8 (k:=0) F hb
 have c_is_choice:Cal l.prog w K mg base 2 "is_choice" dU:=h23.cal (ps:=["thing","many"]) X G (λ_ _ _ _ _ _=>Hy.bd2 λ_ _=>rfl) λ_ F=>kr (k:=1) F hb c_is_rising c_is_whole
 have c_look_choices:Cal l.prog w K mg base 3 "look_choices" cG:=h24.cal (ps:=["rows","columns","many_rows","many_columns"]) X G (λ_ _ _ _ _ _=>Hy.bd4 λ_ _ _ _=>rfl) λ_ F=>gx (k:=2) F hb c_is_choice
 have c_look_square:Cal l.prog w K mg base 1 "look_square" cT:=h25.cal (ps:=["table"]) X G (λ_ _ _ _ _ _=>Hy.bd1 λ_=>rfl) λ_ F=>iJ (k:=0) F hb
 have c_in_lowest_terms:Cal l.prog w K mg base 2 "in_lowest_terms" bT:=h26.cal (ps:=["top","bottom"]) X G (λ_ _ _ _ _ _=>Hy.bd2 λ_ _=>rfl) λ_ F=>eO (k:=1) F hb c_common_divisor
 have c_fraction:Cal l.prog w K mg base 3 "fraction" dn:=h27.cal (ps:=["top","bottom"]) X G (λ_ _ _ _ _ _ _ _=>Hy.bd2 λ_ _=>⟨_,rfl,rfl⟩) λ_ F=>lQ (k:=2) F hb c_in_lowest_terms (c_is_whole.mono (by decide))
 have c_scale_of:Cal l.prog w K mg base 2 "scale_of" cF:=h28.cal (ps:=["row"]) X G (λ_ _ _ _ _ _=>Hy.bd1 λ_=>rfl) λ_ F=>kP (k:=1) F hb c_common_divisor
 have c_pivot_place:Cal l.prog w K mg base 1 "pivot_place" cU:=h29.cal (ps:=["grid","k"]) X G (λ_ _ _ _ _ _=>Hy.bd2 λ_ _=>rfl) λ_ F=>iP (k:=0) F hb
 have c_cleared:Cal l.prog w K mg base 1 "cleared" gf:=h30.cal (ps:=["row","pivot_row","k","last"]) X G (λ_ _ _ _ _ _=>Hy.bd4 λ_ _ _ _=>rfl) λ_ F=>l7 (k:=0) F hb
 have c_whole_determinant:Cal l.prog w K mg base 2 "whole_determinant" bJ:=h31.cal (ps:=["rows"]) X G (λ_ _ _ _ _ _=>Hy.bd1 λ_=>rfl) λ_ F=>d9 (k:=1) F hb c_pivot_place c_cleared
 have c_product_of_all:Cal l.prog w K mg base 1 "product_of_all" b7:=h32.cal (ps:=["numbers"]) X G (λ_ _ _ _ _ _=>Hy.bd1 λ_=>rfl) λ_ F=>e7 (k:=0) F hb
 have c_whole_row:Cal l.prog w K mg base 1 "whole_row" cN:=h33.cal (ps:=["row","scale"]) X G (λ_ _ _ _ _ _=>Hy.bd2 λ_ _=>rfl) λ_ F=>kF (k:=0) F hb
 have c_whole_rows:Cal l.prog w K mg base 2 "whole_rows" cy:=h34.cal (ps:=["table","scales"]) X G (λ_ _ _ _ _ _=>Hy.bd2 λ_ _=>rfl) λ_ F=>jf (k:=1) F hb c_whole_row
 have c_square_determinant:Cal l.prog w K mg base 4 "square_determinant" bE:=h35.cal (ps:=["table"]) X G (λ_ _ _ _ _ _=>Hy.bd1 λ_=>rfl) λ_ F=>dJ (k:=3) F hb (c_look_square.mono (by decide)) c_fraction (c_scale_of.mono (by decide)) (c_whole_determinant.mono (by decide)) (c_product_of_all.mono (by decide)) (c_whole_rows.mono (by decide))
 have c_picked:Cal l.prog w K mg base 1 "picked" iL:=h36.cal (ps:=["things","places"]) X G (λ_ _ _ _ _ _=>Hy.bd2 λ_ _=>rfl) λ_ F=>oH (k:=0) F hb
 have c_chosen:Cal l.prog w K mg base 2 "chosen" i0:=h37.cal (ps:=["table","rows","columns"]) X G (λ_ _ _ _ _ _=>Hy.bd3 λ_ _ _=>rfl) λ_ F=>oW (k:=1) F hb c_picked
 have c_minor:Cal l.prog w K mg base 6 "minor" ky:=h38.cal (ps:=["table","rows","columns"]) X G (λ_ _ _ _ _ _=>Hy.bd3 λ_ _ _=>rfl) λ_ F=>rR (k:=5) F hb c_look_table (c_look_choices.mono (by decide)) (c_square_determinant.mono (by decide)) (c_chosen.mono (by decide))
 have c_column_of:Cal l.prog w K mg base 1 "column_of" dQ:=h39.cal (ps:=["table","j"]) X G (λ_ _ _ _ _ _=>Hy.bd2 λ_ _=>rfl) λ_ F=>jT (k:=0) F hb
 have c_columns_of:Cal l.prog w K mg base 2 "columns_of" dB:=h40.cal (ps:=["table"]) X G (λ_ _ _ _ _ _=>Hy.bd1 λ_=>rfl) λ_ F=>i7 (k:=1) F hb c_column_of
 have c_sum_of_products:Cal l.prog w K mg base 1 "sum_of_products" bX:=h41.cal (ps:=["numbers","others"]) X G (λ_ _ _ _ _ _=>Hy.bd2 λ_ _=>rfl) λ_ F=>eX (k:=0) F hb
 have c_product_row:Cal l.prog w K mg base 4 "product_row" cY:=h42.cal (ps:=["row","whole_columns","scales"]) X G (λ_ _ _ _ _ _=>Hy.bd3 λ_ _ _=>rfl) λ_ F=>g9 (k:=3) F hb (c_scale_of.mono (by decide)) (c_whole_row.mono (by decide)) c_fraction (c_sum_of_products.mono (by decide))
 have c_product:Cal l.prog w K mg base 6 "product" gc:=h43.cal (ps:=["one","other"]) X G (λ_ _ _ _ _ _=>Hy.bd2 λ_ _=>rfl) λ_ F=>mP (k:=5) F hb c_look_table (c_columns_of.mono (by decide)) (c_whole_rows.mono (by decide)) (c_scale_of.mono (by decide)) (c_product_row.mono (by decide))
 exact wD (k:=6) (mO l0 c r) hb (c_l_cell.mono (by decide)) (c_l_numbers.mono (by decide)) (c_l_table.mono (by decide)) (c_l_first.mono (by decide)) (c_l_due.mono (by decide)) (c_l_rest.mono (by decide)) (c_l_is_number.mono (by decide)) c_minor c_product
theorem walk {l:PySem.W.OpenLaw} {q:Program} {loose:List Str} {XP:(Str->Option Value)->Heap->Prop} {YP:World->Heap->Prop} {d:DefRec} {K:Params->PySem.W.Frag} (hn:l.most=some 63) (hdf:d.params.defaults=[])
   (hY:∀ (w:World) (h:Heap),YP w h->(K w.params).In h)
   (F:∀ (w:World) (mg:Str->Option Value) (fa:Addr) (h:Heap),(K w.params).In h->h.Ns mainGlobals mg->mg d.name=some (.ref fa) ->
     ∃ fd:FuncData,(∀ (s:Shared) (u:Value),BindsTo s fd ⟨[u],[]⟩ [("_law_script",u)])/\∀ base:Heap,(K w.params).In base->base.Ns mainGlobals mg->aR l.prog w (K w.params) mg base CX0 7 fa fd ["_law_script"] (spD (K w.params) nB)) :
   PySem.W.WalkO q loose XP YP l.row.toRowW d [] (λf vs=>PySem.call f vs):=
 L2.uB (n:=63) (k:=7) (x:="_law_script") (CX:=λ_=>CX0) (sp:=λw=>spD (K w.params) nB) hn (by decide) hdf ⟨rfl,by decide,by decide⟩ hY F
   (λw H a ns hl _ hS=>tU (λns h=>⟨ns,h,rfl,rfl⟩) H a ns hl hS) λ_ _ _ _ _ z=>z
end K13
open PySem PySem.W PyProof.Rows
namespace PySem.W.Fast
theorem tw327117989396851354:True:=⟨⟩
theorem tw1844582910926809940:True:=⟨⟩
theorem tw1034181263046061706:True:=⟨⟩
theorem tw12267313623319213588:True:=⟨⟩
theorem tw6136358416197347909:True:=⟨⟩
theorem tw4170101134661470372:True:=⟨⟩
theorem tw8476814091925605806:True:=⟨⟩
theorem tw10618022279770222414:True:=⟨⟩
theorem tw4505858356935371071:True:=⟨⟩
theorem tw8224994276877234782:True:=⟨⟩
theorem tw14724731025763534972:True:=⟨⟩
theorem tw11122027670562561535:True:=⟨⟩
theorem tw3583495779036975338:True:=⟨⟩
theorem tw12943070431560919586:True:=⟨⟩
theorem tw9235205805522891087:True:=⟨⟩
theorem tw15602789572020019417:True:=⟨⟩
theorem tw10207997689563290789:True:=⟨⟩
theorem tw16114146107914852838:True:=⟨⟩
theorem tw14559408740851787480:True:=⟨⟩
theorem tw4274355286313895287:True:=⟨⟩
theorem tw8003070226665062410:True:=⟨⟩
theorem tw16365910412200092497:True:=⟨⟩
theorem tw4499154412230706688:True:=⟨⟩
theorem tw3894136952558432025:True:=⟨⟩
theorem tw14494463768361940321:True:=⟨⟩
theorem tw13404363958063475356:True:=⟨⟩
theorem tw1561879715707871859:True:=⟨⟩
theorem tw3625547760071939668:True:=⟨⟩
theorem tw660882683669987888:True:=⟨⟩
theorem tw3643000953503952918:True:=⟨⟩
theorem tw17860010266375429470:True:=⟨⟩
theorem tw16028027334780749882:True:=⟨⟩
theorem tw16039011011385562417:True:=⟨⟩
theorem tw17499632335925934957:True:=⟨⟩
theorem tw12674339755002443576:True:=⟨⟩
theorem tw9634300618151718850:True:=⟨⟩
theorem tw13936086329581867138:True:=⟨⟩
theorem tw8527430072871044499:True:=⟨⟩
theorem tw2304921076925106816:True:=⟨⟩
theorem tw508693896020292642:True:=⟨⟩
theorem tw2285077724263761182:True:=⟨⟩
theorem tw12315854161530873395:True:=⟨⟩
theorem tw1086056775390400408:True:=⟨⟩
theorem tw16776654755207775959:True:=⟨⟩
theorem tw3855208483504948780:True:=⟨⟩
theorem tw12782989367778170159:True:=⟨⟩
theorem tw15063174870125048481:True:=⟨⟩
theorem tw2218517815588705117:True:=⟨⟩
theorem tw14360956597585221238:True:=⟨⟩
theorem tw8377112615069396296:True:=⟨⟩
theorem tw15671222376488195895:True:=⟨⟩
theorem tw3084082555976806510:True:=⟨⟩
theorem tw6518852655722687497:True:=⟨⟩
theorem tw16791336598439015944:True:=⟨⟩
theorem tw10694920382739660458:True:=⟨⟩
end PySem.W.Fast
set_option maxRecDepth 100000 in
set_option maxHeartbeats 0 in
theorem PySem.Challenge.cw_signsmooth_k13_whole_products_by_choices_holds : PySem.Challenge.rw_signsmooth_k13_whole_products_by_choices.Holds := by
 w_on; o_law; k_head; (case hw=>w_witness2)
 k_fill
 refine K13.walk (l:=PySem.Challenge.rw_signsmooth_k13_whole_products_by_choices) rfl rfl (λw h Y=>PySem.W.kIn_of Y) ?F
 case F=>
   intro w mg fa h KX G hmg
   refine' K13.all_mk KX G hmg (.of ?_ ?_ ?_ ?_) (.of ?_ ?_ ?_ ?_) (.of ?_ ?_ ?_ ?_) (.of ?_ ?_ ?_ ?_) (.of ?_ ?_ ?_ ?_) (.of ?_ ?_ ?_ ?_) (.of ?_ ?_ ?_ ?_) (.of ?_ ?_ ?_ ?_) (.of ?_ ?_ ?_ ?_) (.of ?_ ?_ ?_ ?_) (.of ?_ ?_ ?_ ?_) (.of ?_ ?_ ?_ ?_) (.of ?_ ?_ ?_ ?_) (.of ?_ ?_ ?_ ?_) (.of ?_ ?_ ?_ ?_) (.of ?_ ?_ ?_ ?_) (.of ?_ ?_ ?_ ?_) (.of ?_ ?_ ?_ ?_) (.of ?_ ?_ ?_ ?_) (.of ?_ ?_ ?_ ?_) (.of ?_ ?_ ?_ ?_) (.of ?_ ?_ ?_ ?_) (.of ?_ ?_ ?_ ?_) (.of ?_ ?_ ?_ ?_) (.of ?_ ?_ ?_ ?_) (.of ?_ ?_ ?_ ?_) (.of ?_ ?_ ?_ ?_) (.of ?_ ?_ ?_ ?_ ?_) (.of ?_ ?_ ?_ ?_) (.of ?_ ?_ ?_ ?_) (.of ?_ ?_ ?_ ?_) (.of ?_ ?_ ?_ ?_) (.of ?_ ?_ ?_ ?_) (.of ?_ ?_ ?_ ?_) (.of ?_ ?_ ?_ ?_) (.of ?_ ?_ ?_ ?_) (.of ?_ ?_ ?_ ?_) (.of ?_ ?_ ?_ ?_) (.of ?_ ?_ ?_ ?_) (.of ?_ ?_ ?_ ?_) (.of ?_ ?_ ?_ ?_) (.of ?_ ?_ ?_ ?_) (.of ?_ ?_ ?_ ?_) (.of ?_ ?_ ?_ ?_) (.of ?_ ?_ ?_ ?_) ⟨?_,?_,?_,?_,?_,?_,?_,?_,?_,?_,?_,?_,?_,?_,?_,?_,?_,?_,trivial⟩ ?_
   all_goals try k_is
#print axioms PySem.Challenge.cw_signsmooth_k13_whole_products_by_choices_holds
