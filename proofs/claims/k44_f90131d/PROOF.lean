import PyProof.Rows.All
import Wide.All
import OpenK.AllK
import Wide.FinOn
import Lean
import PyProof.EqAt
import PyProof.EqKinds
import PyProof.TupleCall
import PyProof.DictKeyH
import PyProof.DictFindH
import PySem.Challenge.RW_signsmooth_k44_papers_refused
set_option genSizeOf false
set_option bootstrap.genMatcherCode false
set_option Elab.async false
set_option linter.all false
set_option maxRecDepth 100000
set_option exponentiation.threshold 4000
namespace Hx
open PySem PySem.Spec PyProof.Rows
theorem jj:entryFor table "proto.unchain" = some Builtin.«proto.unchain»:=entryFor_of_tree (by kernel_rfl)
section
variable {prog:Program} {w:World} {A:Around} {E:Value->Shared->Prop} {s:Shared}
theorem lW {α:Type} {a h:Addr} {oa oh:Obj} {us vs:Array Value} {Q:α->Shared->Prop} (hh:A.handled=some (.ref h)) (hne:h ≠ a) (ha:s.heap.get? a=some oa) (hda:oa.data=.fields us) (hsz:2 < us.size)
   (ho:s.heap.get? h=some oh) (hd:oh.data=.fields vs) (h2:vs[2]?=some .none)
   (q:E (.ref a) { s with heap:=s.heap.update a (Obj.mapFields (·.setIfInBounds 2 (.ref h))) }):wpAny (model prog w) A (raiseNew (.ref a):Sem α) Q E s:=by
 unfold raiseNew; refine wpAny_bind (wpAny_handled ?_); rw [hh]
 dsimp only
 rw [if_pos (show (Value.ref h != Value.ref a)=true by simp [hne])]
 refine wpAny_bind (wpAny_holding (wpAny_runValue (codeAny_builtin jj ?_)))
 unfold Builtin.«proto.unchain»
 dsimp only
 refine wpAny_bind (wpAny_field ho hd h2 ?_)
 rw [if_pos (show (Value.none == Value.none)=true by decide)]
 refine wpAny_pure ?_
 show wpAny _ A (do let _ <- updateField a 2 (.ref h); throw (Value.ref a)) _ _ _
 unfold updateField
 refine wpAny_bind (wpAny_bind (wpAny_load ha ?_))
 rw [hda]
 dsimp only
 rw [if_pos hsz]
 exact wpAny_update ha (wpAny_throw q)
theorem l3 {r h:Addr} {v left step:Int} {oh:Obj} {vs:Array Value} {Q:Option Value->Shared->Prop} (hh:A.handled=some (.ref h)) (ho:s.heap.get? h=some oh) (hd:oh.data=.fields vs) (h2:vs[2]?=some .none)
   (hr:IsRangeIter s.heap r v left step) (hl:left<=0) (k:∀ h',Heap.ExtBut r s.heap h'->Q none { s with heap:=h' }):wpAny (model prog w) A (pyNext (.ref r)) Q E s:=by
 have ty:s.TypeIs (.ref r) "range_iterator":=⟨_,hr,rfl⟩
 have hlt:=Heap.lt_size ho
 have fl:∀ {α:Type} {B:Around} {F:Value->Shared->Prop} {R:α->Shared->Prop} (i:Nat) (y:Int) {f:Value->Sem α},(#[rawInt v,rawInt left,rawInt step]:Array Value)[i]?=some (rawInt y)->wpAny (model prog w) B (f (rawInt y)) R F s->wpAny (model prog w) B (field (.ref r) i >>= f) R F s:=by
   intro α B F R i y f e q
   exact wpAny_bind (wpAny_field hr rfl e q)
 unfold pyNext
 refine wpAny_bind (wpAny_attempt (wpAny_callSpecial?_slot (name:=Str.ofString "__next__") ty F.slot_range_iterator_next (wpAny_call_entry F.slot_range_iterator_next ty F.entry_range_iterator_next (fl 0 v rfl (fl 1 left rfl (fl 2 step rfl ?_))) (F.args_range_iterator_next_1 _))))
 show wpAny (model prog w) A.in1 (if left<=0 then _ else _) _ _ s
 rw [if_pos hl]
 refine wpAny_bind (wpAny_rule (wpAny_bind ?_))
 show wpAny _ _ (do let e <- newExc (.type "StopIteration") []; _) _ _ _
 refine wpAny_bind ?_
 simp only [newExc,newTuple]
 refine wpAny_bind (wpAny_newObj_type (wpAny_bind (m:=firstArgMember _ _) (wpAny_of_eq (a:=.none) (by first | rfl | (simp only [firstArgMember]; rfl)) (wpAny_newObj_type ?_ (by size_fits)))) (by size_fits))
 have hg:((s.heap.push { cls:=.type "tuple",data:=.seq ([]:List Value).toArray }).push { cls:=.type "StopIteration",data:=.fields (#[Value.ref s.heap.objs.size,.none,.none,.none,.bool false,.none]++ownMembersOf (.type "StopIteration") []) }).get? (s.heap.push { cls:=.type "tuple",data:=.seq ([]:List Value).toArray }).objs.size
     = some { cls:=.type "StopIteration",data:=.fields (#[Value.ref s.heap.objs.size,.none,.none,.none,.bool false,.none]++ownMembersOf (.type "StopIteration") []) }:=Heap.get?_push_size _ rfl
 refine lW (h:=h) (A:=A.in1) hh ?_ hg rfl (by rw [Array.size_append]; exact Nat.lt_of_lt_of_le (by decide:2 < 6) (Nat.le_add_right _ _)) (Heap.get?_push_of_some _ (Heap.get?_push_of_some _ ho)) hd h2 ?_
 · intro z
   rw [Heap.size_push] at z
   exact absurd hlt (by rw [z]; exact Nat.not_lt.mpr (Nat.le_succ _))
 have hu:=Heap.get?_update_self (Obj.mapFields (·.setIfInBounds 2 (.ref h))) hg rfl
 refine wpAny_bind (wpAny_isInstance (T:="StopIteration") (b:=true) ⟨_,hu,rfl⟩ isSubtype_stop ?_)
 refine wpAny_pure (k _ λb o hb e=>?_)
 have bl:=Heap.lt_size e
 rw [Heap.get?_update_other _ _ (by intro z; rw [Heap.size_push] at z; exact absurd bl (by rw [<- z]; exact Nat.not_lt.mpr (Nat.le_succ _)))]
 exact Heap.get?_push_of_some _ (Heap.get?_push_of_some _ e)
end
end Hx
set_option linter.all false
set_option maxRecDepth 100000
namespace L2
open PySem PySem.Spec PyProof.Rows
noncomputable abbrev Key:=Sum Int Str
noncomputable def sO:Key->Value->Bool
 | .inl k,v=>Value.isInt k v
 | .inr x,v=>Value.isStrOf x v
noncomputable def xl (w:World):Key->Int
 | .inl k=>hashInt k
 | .inr x=>hashStr w x
theorem a6:∀ {k:Key} {v:Value},sO k v=true->(∃ i t,k=Sum.inl i/\v=Value.int i t)\/(∃ x t,k=Sum.inr x/\v=Value.str x t)
 | .inl i,v,h=>by
   obtain ⟨t,e⟩:=Value.isInt_shape (k:=i) (v:=v) h
   exact .inl ⟨i,t,rfl,e⟩
 | .inr x,v,h=>by
   obtain ⟨t,e⟩:=Value.isStrOf_shape (x:=x) (v:=v) h
   exact .inr ⟨x,t,rfl,e⟩
theorem uj (a b:Int):decide ((Sum.inl a:Key)=Sum.inl b)=(a == b):=by
 by_cases e:a=b
 · subst e; simp
 · have h:¬ (Sum.inl a:Key)=Sum.inl b:=λq=>e (Sum.inl.inj q)
   rw [decide_eq_false h]
   exact (beq_eq_false_iff_ne.mpr e).symm
theorem um (a b:Str):decide ((Sum.inr a:Key)=Sum.inr b)=decide (a=b):=by
 by_cases e:a=b
 · subst e; simp
 · have h:¬ (Sum.inr a:Key)=Sum.inr b:=λq=>e (Sum.inr.inj q)
   rw [decide_eq_false h,decide_eq_false e]
theorem ux (a:Int) (b:Str):decide ((Sum.inl a:Key)=Sum.inr b)=false:=decide_eq_false (λq=>nomatch q)
theorem uC (a:Str) (b:Int):decide ((Sum.inr a:Key)=Sum.inl b)=false:=decide_eq_false (λq=>nomatch q)
noncomputable def nK (prog:Program) (w:World):PySem.KeyKind prog w Key where
 is:=sO
 hash:=xl w
 inj:=λv a b ha hb=>by
   rcases a6 ha with ⟨i,t,rfl,rfl⟩ | ⟨x,t,rfl,rfl⟩
   · rcases a6 hb with ⟨j,u,rfl,e⟩ | ⟨y,u,rfl,e⟩
     · injection e with e1 _; rw [e1]
     · exact nomatch e
   · rcases a6 hb with ⟨j,u,rfl,e⟩ | ⟨y,u,rfl,e⟩
     · exact nomatch e
     · injection e with e1 _; rw [e1]
 byValue:=λk v h=>by
   rcases a6 h with ⟨i,t,rfl,rfl⟩ | ⟨x,t,rfl,rfl⟩ <;> rfl
 pyHash:=λhv h=>by
   rcases a6 hv with ⟨i,t,rfl,rfl⟩ | ⟨x,t,rfl,rfl⟩
   · exact wpAny_pyHash_int h
   · exact wpAny_pyHash_str h
 eqBool:=λhu hv h=>by
   rcases a6 hu with ⟨i,t,rfl,rfl⟩ | ⟨x,t,rfl,rfl⟩
   · rcases a6 hv with ⟨j,u,rfl,rfl⟩ | ⟨y,u,rfl,rfl⟩
     · rw [uj] at h; exact wpAny_eqBool_int h
     · rw [ux] at h; exact SeqAt.EqAt.int_str i t y u _ _ _ _ h
   · rcases a6 hv with ⟨j,u,rfl,rfl⟩ | ⟨y,u,rfl,rfl⟩
     · rw [uC] at h; exact SeqAt.EqAt.str_int x t j u _ _ _ _ h
     · rw [um] at h; exact wpAny_eqBool_str h
 «strs»:=λk x t v h=>by
   rcases a6 h with ⟨i,u,rfl,e⟩ | ⟨y,u,rfl,e⟩
   · exact nomatch e
   · injection e with e1 _
     subst e1
     cases v <;> rfl
inductive V where
 | non | bl (b:Bool) | int (i:Int) | str (x:Str) | byt (b:Array UInt8) | flt (b:UInt64) | ref (a:Addr) | ty (n:String)
 deriving DecidableEq
noncomputable def RelV:V->Value->Prop
 | .non,u=>u=Value.none
 | .bl b,u=>u=Value.bool b
 | .int i,u=>∃ t,u=Value.int i t
 | .str x,u=>∃ t,u=Value.str x t
 | .byt b,u=>∃ t,u=Value.bytes b t
 | .flt b,u=>∃ t,u=Value.float b t
 | .ref a,u=>u=Value.ref a
 | .ty n,u=>u=Value.type n
noncomputable abbrev Vals:List V->List Value->Prop:=Paired RelV
theorem Vals.length {xs:List V} {us:List Value} (r:Vals xs us):xs.length=us.length:=Paired.length r
theorem Vals.get:∀ {xs:List V} {us:List Value} {i:Nat} {x:V},Vals xs us->xs[i]?=some x->∃ u,us[i]?=some u/\RelV x u
 | _,_,_,_,.nil,e=>by simp at e
 | _,_,0,_,.cons r _,e=>by simp at e; subst e; exact ⟨_,rfl,r⟩
 | _,_,i + 1,x,.cons _ t,e=>by
   obtain ⟨u,h1,h2⟩:=Vals.get (i:=i) (x:=x) t (by simpa using e)
   exact ⟨u,by simpa using h1,h2⟩
theorem Vals.set {x:V} {u:Value} (r:RelV x u):∀ {xs:List V} {us:List Value} (i:Nat),Vals xs us->Vals (xs.set i x) (us.set i u)
 | _,_,_,.nil=>.nil
 | _,_,0,.cons _ t=>.cons r t
 | _,_,i + 1,.cons q t=>.cons q (Vals.set r i t)
theorem Vals.append:∀ {xs ys:List V} {us ws:List Value},Vals xs us->Vals ys ws->Vals (xs++ys) (us++ws)
 | _,_,_,_,.nil,s=>s
 | _,_,_,_,.cons r t,s=>.cons r (Vals.append t s)
theorem Vals.take:∀ {xs:List V} {us:List Value} (n:Nat),Vals xs us->Vals (xs.take n) (us.take n)
 | _,_,0,_=>.nil
 | _,_,_ + 1,.nil=>.nil
 | _,_,n + 1,.cons r t=>.cons r (Vals.take n t)
theorem Vals.drop:∀ {xs:List V} {us:List Value} (n:Nat),Vals xs us->Vals (xs.drop n) (us.drop n)
 | _,_,0,r=>r
 | _,_,_ + 1,.nil=>.nil
 | _,_,n + 1,.cons _ t=>Vals.drop n t
noncomputable def vG:Option V->Option Value->Prop
 | some v,some u=>RelV v u
 | none,none=>True
 | _,_=>False
noncomputable def KV {κ:Type}:List (κ × V)->List (κ × Value)->Prop:=Paired λ(p:κ × V) (q:κ × Value)=>p.1=q.1/\RelV p.2 q.2
noncomputable def kV:Key->V
 | .inl i=>.int i
 | .inr x=>.str x
inductive HO where
 | lst (xs:List V)
 | tup (xs:List V)
 | dK (kvs:List (Key × V)) | dT (kvs:List (List Key × V))
 | set (S:Int->Bool) (n:Nat)
 | ins (C dx:Addr) (fs:List (Str × V))
 | own (x:Addr)
 | xd (fs:List (Str × V))
 | met (f x:Addr)
 | rng (lo hi:Int)
 | frz (o:Obj) (u:HO)
 | tbl (ps:Array Value)
 | ext (φ:Heap->Prop)
noncomputable abbrev Hp:=Addr->Option HO
noncomputable def upd (H:Hp) (a:Addr) (o:HO):Hp:=λb=>if b=a then some o else H b
theorem aV {H:Hp} {a:Addr} {o:HO}:upd H a o a=some o:=by unfold upd; rw [if_pos rfl]
theorem az {H:Hp} {a b:Addr} {o:HO} (h:b ≠ a):upd H a o b=H b:=by unfold upd; rw [if_neg h]
theorem aA {H:Hp} {a b:Addr} {o:HO} (h:H a=some o) (h':H b=none):a ≠ b:=by
 intro e; subst e; rw [h] at h'; cases h'
section
variable (P:Program) (w:World)
noncomputable def bW (H:Hp) (h:Heap) (a:Addr):HO->Prop
 | .lst xs=>xs.length<=sizeLine/\∃ (its:List Value) (n:Nat),Vals xs its/\h.get? a=some { cls:=.type "list",data:=.seq its.toArray n }
 | .tup xs=>xs.length<=sizeLine/\∃ its:List Value,Vals xs its/\IsTup h a its.toArray
 | .dK kvs=>kvs.length<=sizeLine/\(a == sysModules)=false/\∃ vs,KV kvs vs/\h.DictOf (nK P w) a vs
 | .dT kvs=>kvs.length<=sizeLine/\(a == sysModules)=false/\∃ xs:List (List Key × Addr × Value),
     Paired (λ(p:List Key × V) (q:List Key × Addr × Value)=>p.1=q.1/\H q.2.1=some (.tup (p.1.map kV))/\RelV p.2 q.2.2) kvs xs /\
     ∃ o es ep,h.get? a=some o/\o.ExactDict/\o.data=.dict es ep/\es.toList=xs.map (entryOfKey (tupleKind (nK P w)))/\(xs.map (·.1)).Nodup
 | .set S n=>h.SetOf (intKind P w) a S n
 | .ins C dx fs=>H dx=some (.own a)/\fs.length<=1000/\dx ≠ a/\h.get? a=some (PySem.W.instObj C dx) /\
     ∃ mA,h.Ns1 dx mA/\(∀ f,vG (fs.lookup f) (mA f))/\PySem.Within mA (fs.map (·.1))
 | .own _=>∃ o,h.get? a=some o
 | .xd fs=>∃ mA,h.Ns1 a mA/\∀ f,vG (fs.lookup f) (mA f)
 | .rng lo hi=>∃ t u v,h.get? a=some { cls:=.type "range",data:=.fields #[.int lo t,.int hi u,.int 1 v] }
 | .frz o u=>h.get? a=some o/\bW H h a u
 | .tbl ps=>h.get? a=some { cls:=.none,data:=.fields ps }
 | .met f x=>h.get? a=some (PySem.W.methodObj (.ref f) (.ref x))
 | .ext φ=>φ h/\(∃ o,h.get? a=some o)/\∀ h1 h2:Heap,φ h1->(∀ o,h1.get? a=some o->h2.get? a=some o)->φ h2
noncomputable def HOk (H:Hp) (h:Heap):Prop:=∀ a o,H a=some o->bW P w H h a o
end
section
variable {P:Program} {w:World} {H H':Hp} {h h':Heap} {a:Addr} {o:HO}
theorem bW.lt (x:bW P w H h a o):a < h.objs.size:=by
 cases o with
 | lst xs=>obtain ⟨_,_,_,_,e⟩:=x; exact Heap.lt_size e
 | tup xs=>obtain ⟨_,_,_,p⟩:=x; exact p.lt
 | dK kvs=>obtain ⟨_,_,_,_,o,_,_,e,_⟩:=x; exact Heap.lt_size e
 | dT kvs=>obtain ⟨_,_,_,_,o,_,_,e,_⟩:=x; exact Heap.lt_size e
 | set S n=>obtain ⟨o,_,_,_,e,_⟩:=x; exact Heap.lt_size e
 | ins C dx fs=>obtain ⟨_,_,_,e,_⟩:=x; exact Heap.lt_size e
 | own y=>obtain ⟨_,e⟩:=x; exact Heap.lt_size e
 | xd fs=>obtain ⟨_,⟨_,_,_,e,_⟩,_⟩:=x; exact Heap.lt_size e
 | rng lo hi=>obtain ⟨_,_,_,e⟩:=x; exact Heap.lt_size e
 | frz ob u=>obtain ⟨e,_⟩:=x; exact Heap.lt_size e
 | tbl ps=>exact Heap.lt_size (show h.get? a=some _ from x)
 | met f y=>exact Heap.lt_size (show h.get? a=some _ from x)
 | ext φ=>obtain ⟨_,⟨_,e⟩,_⟩:=x; exact Heap.lt_size e
theorem Paired.vH {α β:Type} {F G:α->β->Prop}:∀ {l₁:List α} {l₂:List β},Paired F l₁ l₂->(∀ a b,F a b->G a b)->Paired G l₁ l₂
 | _,_,.nil,_=>.nil
 | _,_,.cons r t,f=>.cons (f _ _ r) (Paired.vH t f)
theorem bW.dR (x:bW P w H h a o) (k:∀ b u,(b=a\/H b=some (.own a))->h.get? b=some u->h'.get? b=some u)
   (ho:∀ b,H b=some (.own a)->H' b=some (.own a)) (ht:∀ b xs,H b=some (.tup xs)->H' b=some (.tup xs)):bW P w H' h' a o:=by
 induction o with
 | lst xs=>obtain ⟨z,its,n,r,e⟩:=x; exact ⟨z,its,n,r,k _ _ (.inl rfl) e⟩
 | tup xs=>obtain ⟨z,its,r,ob,e,c⟩:=x; exact ⟨z,its,r,ob,k _ _ (.inl rfl) e,c⟩
 | dK kvs=>obtain ⟨z,y,vs,r,ob,es,ep,e,c⟩:=x; exact ⟨z,y,vs,r,ob,es,ep,k _ _ (.inl rfl) e,c⟩
 | dT kvs=>
   obtain ⟨z,y,xs,r,ob,es,ep,e,c⟩:=x
   exact ⟨z,y,xs,Paired.vH r λp q z=>⟨z.1,ht _ _ z.2.1,z.2.2⟩,ob,es,ep,k _ _ (.inl rfl) e,c⟩
 | set S n=>obtain ⟨ob,es,ep,t,e,c⟩:=x; exact ⟨ob,es,ep,t,k _ _ (.inl rfl) e,c⟩
 | ins C dx fs=>
   obtain ⟨d,z,ne,e,mA,⟨od,es,ep,e2,c⟩,r⟩:=x
   exact ⟨ho _ d,z,ne,k _ _ (.inl rfl) e,mA,⟨od,es,ep,k _ _ (.inr d) e2,c⟩,r⟩
 | own y=>obtain ⟨ob,e⟩:=x; exact ⟨ob,k _ _ (.inl rfl) e⟩
 | xd fs=>obtain ⟨mA,⟨od,es,ep,e,c⟩,r⟩:=x; exact ⟨mA,⟨od,es,ep,k _ _ (.inl rfl) e,c⟩,r⟩
 | rng lo hi=>obtain ⟨t,u,v,e⟩:=x; exact ⟨t,u,v,k _ _ (.inl rfl) e⟩
 | frz ob u ih=>obtain ⟨e,q⟩:=x; exact ⟨k _ _ (.inl rfl) e,ih q⟩
 | tbl ps=>
   have e:h.get? a=some { cls:=.none,data:=.fields ps }:=x
   show h'.get? a=some { cls:=.none,data:=.fields ps }
   exact k a _ (.inl rfl) e
 | met f y=>
   have e:h.get? a=some (PySem.W.methodObj (.ref f) (.ref y)):=x
   show h'.get? a=some (PySem.W.methodObj (.ref f) (.ref y))
   exact k a _ (.inl rfl) e
 | ext φ=>obtain ⟨p,⟨o,e⟩,st⟩:=x; exact ⟨st _ _ p λo q=>k _ _ (.inl rfl) q,⟨o,k _ _ (.inl rfl) e⟩,st⟩
theorem HOk.lt (x:HOk P w H h) (e:H a=some o):a < h.objs.size:=(x a o e).lt
theorem HOk.fresh (x:HOk P w H h) (e:h.objs.size<=a):H a=none:=by
 cases q:H a with
 | none=>rfl
 | some u=>exact absurd (Nat.lt_of_lt_of_le (x.lt q) e) (Nat.lt_irrefl _)
theorem HOk.kept (x:HOk P w H h) (k:∀ b u,h.get? b=some u->h'.get? b=some u):HOk P w H h':=λa o e=>
 (x a o e).dR (λb u _ q=>k b u q) (λ_ q=>q) λ_ _ q=>q
theorem HOk.laid (x:HOk P w H h) (k:∀ b u,h.get? b=some u->h'.get? b=some u) (hp:h.objs.size<=a) (new:bW P w (upd H a o) h' a o):HOk P w (upd H a o) h':=λb u e=>by
 have hn:=x.fresh hp
 by_cases hb:b=a
 · subst hb; rw [aV] at e; cases e; exact new
 · rw [az hb] at e
   exact (x b u e).dR (λc v _ q=>k c v q) (λc q=>by rw [az (aA q hn)]; exact q) λc xs q=>by rw [az (aA q hn)]; exact q
end
noncomputable def Rd (H:Hp) (a:Addr) (u:HO):Prop:=H a=some u\/∃ o,H a=some (.frz o u)
theorem Rd.ok {P:Program} {w:World} {H:Hp} {h:Heap} {a:Addr} {u:HO} (r:Rd H a u) (x:HOk P w H h):bW P w H h a u:=by
 rcases r with r | ⟨o,r⟩
 · exact x a u r
 · obtain ⟨_,q⟩:=x a _ r
   exact q
noncomputable def Mut:Option HO->Prop
 | some (.lst _)=>True
 | some (.dK _)=>True
 | some (.dT _)=>True
 | some (.set _ _)=>True
 | some (.ins _ _ _)=>True
 | some (.ext _)=>True
 | _=>False
section
variable {P:Program} {w:World} {H:Hp} {h h':Heap} {x e:Addr} {o':HO}
theorem HOk.write (ok:HOk P w H h) (mu:Mut (H x)) (he:e=x\/H e=some (.own x)) (k:∀ b u,b ≠ e->h.get? b=some u->h'.get? b=some u) (heo:∃ u,h'.get? e=some u)
   (new:bW P w (upd H x o') h' x o'):HOk P w (upd H x o') h':=λb u q=>by
 have nown:∀ c y,H c=some (.own y)->c ≠ x:=λc y r z=>by subst z; rw [r] at mu; exact mu
 have ntup:∀ c xs,H c=some (.tup xs)->c ≠ x:=λc xs r z=>by subst z; rw [r] at mu; exact mu
 by_cases hb:b=x
 · subst hb; rw [aV] at q; cases q; exact new
 · rw [az hb] at q
   by_cases hbe:b=e
   · have q':H b=some (.own x):=by
       rcases he with z | z
       · exact absurd (hbe.trans z) hb
       · rw [hbe]; exact z
     rw [q] at q'; cases q'
     obtain ⟨v,hv⟩:=heo
     exact ⟨v,by rw [hbe]; exact hv⟩
   · refine (ok b u q).dR (λc v hc r=>k c v ?_ r) (λc r=>by rw [az (nown c b r)]; exact r) λc xs r=>by rw [az (ntup c xs r)]; exact r
     rcases hc with rfl | hc
     · exact hbe
     · rintro rfl
       rcases he with z | z
       · exact nown c b hc z
       · rw [hc] at z; cases z; exact hb rfl
end
structure Un (fs ex:List Addr) (H H':Hp) (h h':Heap):Prop where
 keep:∀ b o,h.get? b=some o->H b=none->b ∉ fs->b ∉ ex->h'.get? b=some o
 slot:∀ b o,h.get? b=some o->H b=none->b ∈ fs->b ∉ ex->∃ sl,h'.get? b=some { o with slots:=sl }
 free:∀ b o,h.get? b=some o->H b=none->b ∉ ex->H' b=none
 there:∀ b o,h.get? b=some o->b ∉ ex->∃ o',h'.get? b=some o'
 tups:∀ b xs,H b=some (.tup xs)->H' b=some (.tup xs)
 frzs:∀ b o u,H b=some (.frz o u)->H' b=some (.frz o u)
 tbls:∀ b ps,H b=some (.tbl ps)->∃ more,H' b=some (.tbl (ps++more))
section
variable {fs fs' ex ex':List Addr} {H H1 H2:Hp} {h h1 h2 h':Heap} {a x e:Addr} {o:HO}
theorem Un.any (u:Un fs ex H H1 h h1) {b:Addr} {ob:Obj} (q:h.get? b=some ob) (n:H b=none) (hx:b ∉ ex):∃ sl,h1.get? b=some { ob with slots:=sl }:=by
 by_cases hb:b ∈ fs
 · exact u.slot b ob q n hb hx
 · exact ⟨ob.slots,u.keep b ob q n hb hx⟩
theorem Un.kept (k:∀ b u,h.get? b=some u->h'.get? b=some u):Un fs ex H H h h':=
 ⟨λb ob q _ _ _=>k b ob q,λb ob q _ _ _=>⟨ob.slots,k b ob q⟩,λ_ _ _ n _=>n,λb ob q _=>⟨ob,k b ob q⟩,λ_ _ q=>q,λ_ _ _ q=>q,λ_ ps q=>⟨#[],by rw [q]; simp⟩⟩
theorem Un.refl:Un fs ex H H h h:=Un.kept λ_ _ q=>q
theorem Un.laid (k:∀ b u,h.get? b=some u->h'.get? b=some u) (hp:h.objs.size<=a) (hn:H a=none):Un fs ex H (upd H a o) h h' where
 keep:=λb u q _ _ _=>k b u q
 slot:=λb u q _ _ _=>⟨u.slots,k b u q⟩
 free:=λb u q n _=>by rw [az (Nat.ne_of_lt (Nat.lt_of_lt_of_le (Heap.lt_size q) hp))]; exact n
 there:=λb u q _=>⟨u,k b u q⟩
 tups:=λb xs q=>by rw [az (aA q hn)]; exact q
 frzs:=λb u xs q=>by rw [az (aA q hn)]; exact q
 tbls:=λb ps q=>⟨#[],by rw [az (aA q hn),q]; simp⟩
theorem Un.write (mu:Mut (H x)) (he:e=x\/H e=some (.own x)) (k:∀ b u,b ≠ e->h.get? b=some u->h'.get? b=some u) (heo:∃ u,h'.get? e=some u):Un fs ex H (upd H x o) h h':=by
 have hx:∀ b,H b=none->b ≠ x:=λb n z=>by subst z; rw [n] at mu; exact mu
 have hb:∀ b,H b=none->b ≠ e:=λb n z=>by
   subst z
   rcases he with r | r
   · exact hx b n r
   · rw [n] at r; cases r
 have hm:∀ b u,H b=some u->¬ Mut (some u)->b ≠ x:=λb u q nm z=>by subst z; rw [q] at mu; exact nm mu
 refine ⟨λb u q n _ _=>k b u (hb b n) q,λb u q n _ _=>⟨u.slots,k b u (hb b n) q⟩,λb u q n _=>by rw [az (hx b n)]; exact n,λb u q _=>?_,
   λb xs q=>by rw [az (hm b _ q λz=>z)]; exact q,λb u xs q=>by rw [az (hm b _ q λz=>z)]; exact q,λb ps q=>⟨#[],by rw [az (hm b _ q λz=>z),q]; simp⟩⟩
 by_cases hbe:b=e
 · subst hbe; exact heo
 · exact ⟨u,k b u hbe q⟩
end
noncomputable def trk (h:Heap) (H:Hp):List Addr:=(List.range h.objs.size).filter λa=>(H a).isSome
noncomputable def ki (h:Heap) (H:Hp):Heap:=PySem.W.hideAll h (trk h H)
theorem oD (h:Heap) (H:Hp):(ki h H).objs.size=h.objs.size:=PySem.W.hideAll_size _ _
theorem pO {h:Heap} {H:Hp} {b:Addr} {o:Obj} (e:h.get? b=some o) (n:H b=none):(ki h H).get? b=some o:=
 PySem.W.hideAll_get _ e λhm=>by
   have q:(H b).isSome=true:=(List.mem_filter.mp hm).2
   rw [n] at q; simp at q
theorem rk {h:Heap} {H:Hp} {b:Addr} {o:Obj} (e:(ki h H).get? b=some o):h.get? b=some o/\H b=none:=by
 have e':h.get? b=some o:=PySem.W.of_hideAll (trk h H) e
 refine ⟨e',?_⟩
 cases q:H b with
 | none=>rfl
 | some x=>
   have hm:b ∈ trk h H:=List.mem_filter.mpr ⟨List.mem_range.mpr (Heap.lt_size e'),by simp [q]⟩
   have z:(ki h H).get? b=none:=PySem.W.hideAll_none (trk h H) hm
   rw [z] at e; cases e
noncomputable def rM (g h:Heap) (L:Addr):List (Addr × Obj):=(List.range h.objs.size).filterMap λa=>if a=L\/(g.get? a).isSome=true then none else (h.get? a).map λo=>(a,o)
noncomputable def rest (g h:Heap) (L d:Addr):List (Addr × Obj):=(rM g h L).filter λp=>decide (p.1 ≠ d)
structure Mod (K:PySem.W.Frag) (mg:Str->Option Value) (base:Heap):Prop where
 kin:K.In base
 glob:base.Ns mainGlobals mg
 blt:∃ mb,base.Ns builtinsNs mb/\∀ x:Str,x ≠ "__name__" -> mb x=bootBuiltins x
 nolimit:base.NoLimit
structure Cx where
 prog:Program
 w:World
 K:PySem.W.Frag
 mg:Str->Option Value
 base:Heap
 A:Around
 N:List Str
 s₀:Shared
 H₀:Hp
 env:Env
 outer:List Env
 stack:List Env
 ex:List Addr
 fn:Str->Bool
 calm:Bool
 pn:List (Addr × Obj)
 xe:Value->Shared->Prop
noncomputable def frs (l:List Env):List Addr:=l.filterMap (·.frame)
noncomputable abbrev Cx.fs (X:Cx):List Addr:=frs X.outer
noncomputable def Vis (sc:Scope) (x:Str):Prop:=sc.names.lookup x=some .local\/sc.names.lookup x=some .cell\/sc.names.lookup x=some .free
noncomputable def Loc (sc:Scope) (x:Str):Prop:=sc.names.lookup x=some .local\/sc.names.lookup x=some .cell
noncomputable def Look (env:Env) (h:Heap) (m:Str->Option Value) (x:Str) (u:Value):Prop:=
 (env.kindOf x=some .local/\m x=some u)\/((env.kindOf x=some .cell\/env.kindOf x=some .free)/\∃ c,env.cells.lookup x=some c/\h.IsCell c (some u))
structure Cx.Ok (X:Cx):Prop where
 mod:Mod X.K X.mg X.base
 kind:X.env.scope.kind=.function
 glob:X.env.globals=mainGlobals
 blt:X.env.builtins=builtinsNs
 above:X.s₀.heap.objs.size<=X.env.locals
 inj:∀ x y c,X.env.cells.lookup x=some c->X.env.cells.lookup y=some c->x=y
 has:∀ x,(X.env.kindOf x=some .cell\/X.env.kindOf x=some .free)->∃ c,X.env.cells.lookup x=some c
 cab:∀ x c,X.fn x=true->X.env.cells.lookup x=some c->X.s₀.heap.objs.size<=c
 hd:X.calm=true->X.A.handled=none
 frames:X.A.frames=some X.stack
 stk:X.stack=X.outer\/(X.stack=X.env :: X.outer/\X.env.frame=some X.env.locals)
 exf:∀ b ∈ X.ex,b ≠ X.env.locals/\∀ x c,X.env.cells.lookup x=some c->c ≠ b
 bs:∀ b o,X.base.get? b=some o->X.s₀.heap.get? b=some o/\X.H₀ b=none
 bsz:X.base.objs.size<=X.s₀.heap.objs.size
 noex:∀ b o,X.base.get? b=some o->b ∉ X.ex
 exfs:∀ b ∈ X.ex,b ∉ X.fs
 gE:X.s₀.heap.FunFrames X.base X.outer
 frf:∀ b ∈ X.fs,X.H₀ b=none
structure Inv (X:Cx) (pins:List (Addr × Obj)) (σ:List (Option V)) (H:Hp) (s:Shared):Prop where
 ok:X.Ok
 os:s.os=X.s₀.os
 bare:AllBare s.gens
 base:Un X.fs X.ex X.H₀ H X.s₀.heap s.heap
 loc:∃ m,s.heap.Ns X.env.locals m/\∀ (i:Nat) (x:Str) (v:V),X.N[i]?=some x->σ[i]?=some (some v)->Vis X.env.scope x->∃ u,RelV v u/\Look X.env s.heap m x u
 cell:∀ x c,X.env.cells.lookup x=some c->∃ v,s.heap.IsCell c v
 free:H X.env.locals=none
 freeC:∀ x c,X.env.cells.lookup x=some c->H c=none
 pin:∀ p ∈ X.pn++pins,s.heap.get? p.1=some p.2/\H p.1=none/\p.1 ≠ X.env.locals/\p.1 ∉ X.fs/\∀ v,p.2.data ≠ .cell v
 hok:HOk X.prog X.w H s.heap
 len:σ.length=X.N.length
section
variable {X:Cx} {pins:List (Addr × Obj)} {σ:List (Option V)} {H H':Hp} {s:Shared} {h':Heap}
theorem Cx.Ok.xi (ok:X.Ok) {b:Addr} {o:Obj} (e:X.base.get? b=some o):b ∉ X.fs:=λhb=>by
 have:=(ok.gE.mem hb).1
 rw [e] at this; cases this
theorem Inv.bs (I:Inv X pins σ H s):∀ b o,X.base.get? b=some o->s.heap.get? b=some o/\H b=none:=λb o e=>
 ⟨I.base.keep b o (I.ok.bs b o e).1 (I.ok.bs b o e).2 (I.ok.xi e) (I.ok.noex b o e),I.base.free b o (I.ok.bs b o e).1 (I.ok.bs b o e).2 (I.ok.noex b o e)⟩
theorem Inv.bk (I:Inv X pins σ H s):∀ b o,X.base.get? b=some o->s.heap.get? b=some o:=λb o e=>(I.bs b o e).1
theorem Inv.mod (I:Inv X pins σ H s):Mod X.K X.mg X.base:=I.ok.mod
theorem Inv.kIn (I:Inv X pins σ H s):X.K.In s.heap:=I.ok.mod.kin.keeps I.bk
theorem Inv.lt (I:Inv X pins σ H s):X.env.locals < s.heap.objs.size:=let ⟨_,hn,_⟩:=I.loc; hn.lt
theorem Inv.sz (I:Inv X pins σ H s):X.s₀.heap.objs.size<=s.heap.objs.size:=Nat.le_trans I.ok.above (Nat.le_of_lt I.lt)
theorem Inv.xf (I:Inv X pins σ H s) {a:Addr} (h:s.heap.objs.size<=a):a ∉ X.fs:=λhb=>by
 obtain ⟨_,o,ho,_⟩:=I.ok.gE.mem hb
 exact absurd (Nat.lt_of_lt_of_le (Heap.lt_size ho) (Nat.le_trans I.sz h)) (Nat.lt_irrefl _)
theorem Inv.cne (I:Inv X pins σ H s):∀ x c,X.env.cells.lookup x=some c->c ≠ X.env.locals:=λx c e z=>by
 obtain ⟨v,o,ho,hd⟩:=I.cell x c e
 obtain ⟨m,⟨o',es,ep,ho',hd',_⟩,_⟩:=I.loc
 rw [z,ho'] at ho; cases ho; rw [hd'] at hd; cases hd
theorem Inv.gE (I:Inv X pins σ H s):s.heap.FunFrames X.base X.outer:=by
 have all:∀ (l:List Env),(∀ b ∈ frs l,b ∈ X.fs)->X.s₀.heap.FunFrames X.base l->s.heap.FunFrames X.base l:=by
   intro l
   induction l with
   | nil=>intro _ _; trivial
   | cons env r ih=>
     intro hs hl
     obtain ⟨hk,⟨L,o,hf,hn,ho,hd⟩,hr⟩:=hl
     have hL:L ∈ X.fs:=hs L (by unfold frs; rw [List.filterMap_cons,hf]; exact List.mem_cons_self)
     obtain ⟨sl,e⟩:=I.base.slot L o ho (I.ok.frf L hL) hL λz=>I.ok.exfs L z hL
     exact ⟨hk,⟨L,_,hf,hn,e,hd⟩,ih (λb hb=>hs b (by unfold frs; rw [List.filterMap_cons,hf]; exact List.mem_cons_of_mem _ hb)) hr⟩
 exact all X.outer (λ_ hb=>hb) I.ok.gE
theorem Inv.stack (I:Inv X pins σ H s):s.heap.FunFrames X.base X.stack:=by
 rcases I.ok.stk with e | ⟨e,hf⟩
 · rw [e]; exact I.gE
 · rw [e]
   obtain ⟨m,hn,_⟩:=I.loc
   refine .cons (by rw [I.ok.kind]; decide) hf hn ?_ I.gE
   exact Heap.get?_none_of_le (Nat.le_trans I.ok.bsz I.ok.above)
theorem Inv.i6 (I:Inv X pins σ H s):∀ b ∈ frs X.stack,b ∈ X.env.locals :: X.fs:=λb hb=>by
 rcases I.ok.stk with e | ⟨e,hf⟩
 · rw [e] at hb; exact List.mem_cons_of_mem _ hb
 · rw [e] at hb
   unfold frs at hb
   rw [List.filterMap_cons,hf] at hb
   exact hb
theorem Inv.gm (I:Inv X pins σ H s):∀ b ∈ frs X.stack,H b=none:=λb hb=>by
 rcases List.mem_cons.mp (I.i6 b hb) with e | hb
 · rw [e]; exact I.free
 · obtain ⟨_,o,ho,_⟩:=I.ok.gE.mem hb
   exact I.base.free b o ho (I.ok.frf b hb) λz=>I.ok.exfs b z hb
theorem Inv.step {g':Array GenState} {t':Nat} {d':Drawn} {ch:List Addr} (I:Inv X pins σ H s)
   (hch:∀ b ∈ ch,(b ∈ X.ex\/X.s₀.heap.objs.size<=b)/\b ≠ X.env.locals/\(∀ x c,X.env.cells.lookup x=some c->c ≠ b)/\∀ p ∈ X.pn++pins,p.1 ≠ b)
   (keep:∀ b o,b ≠ X.env.locals->b ∉ X.fs->b ∉ ch->s.heap.get? b=some o->H b=none->h'.get? b=some o)
   (slot:∀ b o,b ≠ X.env.locals->b ∈ X.fs->b ∉ ch->s.heap.get? b=some o->H b=none->∃ sl,h'.get? b=some { o with slots:=sl }) (free:∀ b o,b ∉ ch->s.heap.get? b=some o->H b=none->H' b=none)
   (there:∀ b o,b ∉ ch->s.heap.get? b=some o->∃ o',h'.get? b=some o')
   (tups:∀ b xs,H b=some (.tup xs)->H' b=some (.tup xs)) (frzs:∀ b o u,H b=some (.frz o u)->H' b=some (.frz o u)) (tbls:∀ b ps,H b=some (.tbl ps)->∃ more,H' b=some (.tbl (ps++more)))
   (ns:∀ m,s.heap.Ns X.env.locals m->h'.Ns X.env.locals m) (hok:HOk X.prog X.w H' h') (hg:AllBare g') :
   Inv X pins σ H' { s with heap:=h',gens:=g',drawn:=d',toks:=t' }:=by
 have neL:∀ b o,X.s₀.heap.get? b=some o->b ≠ X.env.locals:=λb o e=>Nat.ne_of_lt (Nat.lt_of_lt_of_le (Heap.lt_size e) I.ok.above)
 have neC:∀ b o,X.s₀.heap.get? b=some o->b ∉ X.ex->b ∉ ch:=λb o e hx hb=>by
   rcases (hch b hb).1 with z | z
   · exact hx z
   · exact absurd (Nat.lt_of_lt_of_le (Heap.lt_size e) z) (Nat.lt_irrefl _)
 have cellK:∀ x c,X.env.cells.lookup x=some c->∀ v,s.heap.IsCell c v->h'.IsCell c v:=λx c e v ⟨o,ho,hd⟩=>by
   have nch:c ∉ ch:=λz=>(hch c z).2.2.1 x c e rfl
   by_cases hc:c ∈ X.fs
   · obtain ⟨sl,q⟩:=slot c o (I.cne x c e) hc nch ho (I.freeC x c e)
     exact ⟨_,q,hd⟩
   · exact ⟨o,keep c o (I.cne x c e) hc nch ho (I.freeC x c e),hd⟩
 refine ⟨I.ok,I.os,hg,⟨λb o e n hb hx=>?_,λb o e n hb hx=>?_,λb o e n hx=>?_,λb o e hx=>?_,λb xs e=>tups b xs (I.base.tups b xs e),λb o xs e=>frzs b o xs (I.base.frzs b o xs e),λb ps e=>?_⟩,?_,λx c e=>?_,?_,λx c e=>?_,λp hp=>?_,hok,I.len⟩
 · exact keep b o (neL b o e) hb (neC b o e hx) (I.base.keep b o e n hb hx) (I.base.free b o e n hx)
 · obtain ⟨sl,e1⟩:=I.base.slot b o e n hb hx
   obtain ⟨sl',e2⟩:=slot b _ (neL b o e) hb (neC b o e hx) e1 (I.base.free b o e n hx)
   exact ⟨sl',e2⟩
 · obtain ⟨o',e1⟩:=I.base.there b o e hx
   exact free b o' (neC b o e hx) e1 (I.base.free b o e n hx)
 · obtain ⟨o',e1⟩:=I.base.there b o e hx
   exact there b o' (neC b o e hx) e1
 · obtain ⟨m1,e1⟩:=I.base.tbls b ps e
   obtain ⟨m2,e2⟩:=tbls b _ e1
   exact ⟨m1++m2,by rw [e2,Array.append_assoc]⟩
 · obtain ⟨m,hn,hl⟩:=I.loc
   refine ⟨m,ns m hn,λi x v e1 e2 e3=>?_⟩
   obtain ⟨u,r,l⟩:=hl i x v e1 e2 e3
   refine ⟨u,r,?_⟩
   rcases l with l | ⟨k,c,e,z⟩
   · exact .inl l
   · exact .inr ⟨k,c,e,cellK x c e _ z⟩
 · obtain ⟨v,z⟩:=I.cell x c e
   exact ⟨v,cellK x c e v z⟩
 · obtain ⟨m,⟨o,_,_,ho,_⟩,_⟩:=I.loc
   exact free _ o (λz=>(hch _ z).2.1 rfl) ho I.free
 · obtain ⟨v,o,ho,hd⟩:=I.cell x c e
   exact free c o (λz=>(hch c z).2.2.1 x c e rfl) ho (I.freeC x c e)
 · obtain ⟨e,n,ne,nf,d⟩:=I.pin p hp
   have nch:p.1 ∉ ch:=λz=>(hch p.1 z).2.2.2 p hp rfl
   exact ⟨keep p.1 p.2 ne nf nch e n,free p.1 p.2 nch e n,ne,nf,d⟩
theorem Inv.un {t':Nat} (I:Inv X pins σ H s) (u:Un X.fs [] H H' s.heap h') (hok:HOk X.prog X.w H' h'):Inv X pins σ H' { s with heap:=h',toks:=t' }:=by
 obtain ⟨m,⟨o,es,ep,ho,r⟩,_⟩:=id I.loc
 obtain ⟨sl,hL⟩:=u.any ho I.free (by simp)
 exact I.step (g':=s.gens) (d':=s.drawn) (ch:=[]) (λ_ z=>nomatch z) (λb o _ hb _ e n=>u.keep b o e n hb (by simp)) (λb o _ hb _ e n=>u.slot b o e n hb (by simp)) (λb o _ e n=>u.free b o e n (by simp)) (λb o _ e=>u.there b o e (by simp)) u.tups u.frzs u.tbls (λm' hm=>by
   obtain ⟨o',es',ep',ho',r'⟩:=hm
   rw [ho] at ho'; cases ho'
   exact ⟨_,es',ep',hL,r'⟩) hok I.bare
theorem Inv.call {g':Array GenState} {t':Nat} {d':Drawn} {ch:List Addr} (I:Inv X pins σ H s) (u:Un (frs X.stack) ch H H' s.heap h') (hok:HOk X.prog X.w H' h') (hg:AllBare g')
   (hch:∀ b ∈ ch,(b ∈ X.ex\/X.s₀.heap.objs.size<=b)/\b ≠ X.env.locals/\(∀ x c,X.env.cells.lookup x=some c->c ≠ b)/\∀ p ∈ X.pn++pins,p.1 ≠ b) :
   Inv X pins σ H' { s with heap:=h',gens:=g',drawn:=d',toks:=t' }:=by
 obtain ⟨m,⟨o,es,ep,ho,r⟩,_⟩:=id I.loc
 obtain ⟨sl,hL⟩:=u.any ho I.free λz=>(hch _ z).2.1 rfl
 exact I.step (ch:=ch) hch (λb o hL hb hc e n=>u.keep b o e n (λz=>(List.mem_cons.mp (I.i6 b z)).elim hL hb) hc) (λb o _ _ hc e n=>u.any e n hc) (λb o hc e n=>u.free b o e n hc) (λb o hc e=>u.there b o e hc) u.tups u.frzs u.tbls (λm' hm=>by
   obtain ⟨o',es',ep',ho',r'⟩:=hm
   rw [ho] at ho'; cases ho'
   exact ⟨_,es',ep',hL,r'⟩) hok hg
theorem Inv.turned {t':Nat} {it:Addr} (I:Inv X pins σ H s) (k:∀ b o,b ≠ it->s.heap.get? b=some o->h'.get? b=some o) (hn:H it=none) (hL:it ≠ X.env.locals)
   (h1:it ∈ X.ex\/X.s₀.heap.objs.size<=it) (h2:∀ x c,X.env.cells.lookup x=some c->c ≠ it) (h3:∀ p ∈ X.pn++pins,p.1 ≠ it):Inv X pins σ H { s with heap:=h',toks:=t' }:=by
 have nit:∀ b u,H b=some u->b ≠ it:=λb u e z=>by rw [z,hn] at e; cases e
 refine I.step (g':=s.gens) (d':=s.drawn) (ch:=[it]) (λb hb=>?_) (λb o _ _ hc e _=>k b o (λz=>hc (by simp [z])) e) (λb o _ _ hc e _=>⟨o.slots,k b o (λz=>hc (by simp [z])) e⟩) (λ_ _ _ _ n=>n)
   (λb o hc e=>⟨o,k b o (λz=>hc (by simp [z])) e⟩) (λ_ _ e=>e) (λ_ _ _ e=>e) (λb ps e=>⟨#[],by rw [e]; simp⟩) (λm hm=>?_) (λb u e=>?_) I.bare
 · have e:b=it:=by simpa using hb
   subst e
   exact ⟨h1,hL,h2,h3⟩
 · obtain ⟨o,es,ep,ho,r⟩:=hm
   exact ⟨o,es,ep,k _ o (Ne.symm hL) ho,r⟩
 · refine (I.hok b u e).dR (λc v hc q=>k c v ?_ q) (λ_ q=>q) λ_ _ q=>q
   rcases hc with z | z
   · rw [z]; exact nit b u e
   · exact nit c _ z
theorem Inv.tok (I:Inv X pins σ H s) (t:Nat):Inv X pins σ H { s with toks:=t }:=I.un (h':=s.heap) (t':=t) Un.refl I.hok
theorem Inv.kept {t':Nat} (I:Inv X pins σ H s) (k:∀ b u,s.heap.get? b=some u->h'.get? b=some u):Inv X pins σ H { s with heap:=h',toks:=t' }:=I.un (Un.kept k) (I.hok.kept k)
theorem Inv.laid {a:Addr} {o:HO} {t':Nat} (I:Inv X pins σ H s) (k:∀ b u,s.heap.get? b=some u->h'.get? b=some u) (hp:s.heap.objs.size<=a) (new:bW X.prog X.w (upd H a o) h' a o) :
   Inv X pins σ (upd H a o) { s with heap:=h',toks:=t' }:=I.un (Un.laid k hp (I.hok.fresh hp)) (I.hok.laid k hp new)
theorem Inv.write {x e:Addr} {o:HO} {t':Nat} (I:Inv X pins σ H s) (mu:Mut (H x)) (he:e=x\/H e=some (.own x)) (k:∀ b u,b ≠ e->s.heap.get? b=some u->h'.get? b=some u) (heo:∃ u,h'.get? e=some u)
   (new:bW X.prog X.w (upd H x o) h' x o):Inv X pins σ (upd H x o) { s with heap:=h',toks:=t' }:=I.un (Un.write mu he k heo) (I.hok.write mu he k heo new)
theorem Inv.nX {pins':List (Addr × Obj)} (I:Inv X pins σ H s) (h:∀ p ∈ pins',s.heap.get? p.1=some p.2/\H p.1=none/\p.1 ≠ X.env.locals/\p.1 ∉ X.fs/\∀ v,p.2.data ≠ .cell v):Inv X pins' σ H s:=
 ⟨I.ok,I.os,I.bare,I.base,I.loc,I.cell,I.free,I.freeC,λp hp=>(List.mem_append.mp hp).elim (λz=>I.pin p (List.mem_append_left _ z)) (h p),I.hok,I.len⟩
theorem iA {N:List Str} (hN:N.Nodup) {i j:Nat} {x:Str} (a:N[i]?=some x) (b:N[j]?=some x):i=j:=by
 obtain ⟨h1,e1⟩:=List.getElem?_eq_some_iff.mp a
 obtain ⟨h2,e2⟩:=List.getElem?_eq_some_iff.mp b
 exact (List.getElem_inj hN).mp (e1.trans e2.symm)
theorem oM {M:Model} {A:Around} {E:Value->Shared->Prop} {i:Nat} {x:Str} {v:V} {u:Value} {Q:Unit->Shared->Prop} (I:Inv X pins σ H s) (hN:X.N.Nodup) (hi:X.N[i]?=some x) (hx:Loc X.env.scope x) (r:RelV v u)
   (h:∀ s',Inv X pins (σ.set i (some v)) H s'->(∃ a,Heap.SameBut a s.heap s'.heap/\(a=X.env.locals\/X.env.cells.lookup x=some a))->Q () s') (hf:X.fn x=true\/X.env.scope.names.lookup x=some .local:=by first | exact .inl rfl | exact .inr rfl | assumption):wpAny M A (storeName X.env x u) Q E s:=by
 obtain ⟨m,hn,hl⟩:=id I.loc
 have hcls:(X.env.scope.kind == .class || (X.env.scope.kind == .module && X.env.locals != X.env.globals))=false:=by rw [I.ok.kind]; rfl
 have hiσ:i < σ.length:=by rw [I.len]; exact (List.getElem?_eq_some_iff.mp hi).1
 have cne:=I.cne
 have tracked:∀ {a:Addr} {h':Heap},(∃ o,s.heap.get? a=some o/\H a=none)->Heap.SameBut a s.heap h'->HOk X.prog X.w H h':=λ{a h'} ha hs b ob e=>by
   obtain ⟨_,_,hfree⟩:=ha
   refine (I.hok b ob e).dR (λc w' hc q=>(hs.2 c ?_).trans q) (λ_ q=>q) λ_ _ q=>q
   rintro rfl
   rcases hc with rfl | hc
   · rw [hfree] at e; cases e
   · rw [hfree] at hc; cases hc
 rcases hx with hk | hk
 · refine wpAny_storeName_local hk hn (λh' hn' hs=>?_) hcls
   obtain ⟨oL,_,_,hoL,_⟩:=id hn
   refine h _ ⟨I.ok,I.os,I.bare,⟨λb o e n hb hx=>?_,λb o e n hb hx=>?_,I.base.free,λb o e hx=>?_,I.base.tups,I.base.frzs,I.base.tbls⟩,⟨_,hn',λj y v' e1 e2 e3=>?_⟩,λy c e=>?_,I.free,I.freeC,λp hp=>?_,tracked ⟨oL,hoL,I.free⟩ hs,by simpa using I.len⟩ ⟨_,hs,.inl rfl⟩
   · exact (hs.2 b (Nat.ne_of_lt (Nat.lt_of_lt_of_le (Heap.lt_size e) I.ok.above))).trans (I.base.keep b o e n hb hx)
   · obtain ⟨sl,e1⟩:=I.base.slot b o e n hb hx
     exact ⟨sl,(hs.2 b (Nat.ne_of_lt (Nat.lt_of_lt_of_le (Heap.lt_size e) I.ok.above))).trans e1⟩
   · obtain ⟨o',e1⟩:=I.base.there b o e hx
     exact ⟨o',(hs.2 b (Nat.ne_of_lt (Nat.lt_of_lt_of_le (Heap.lt_size e) I.ok.above))).trans e1⟩
   · by_cases hj:j=i
     · subst hj
       rw [hi] at e1; cases e1
       rw [List.getElem?_set_self hiσ] at e2
       cases e2
       exact ⟨u,r,.inl ⟨hk,by simp⟩⟩
     · rw [List.getElem?_set_ne (Ne.symm hj)] at e2
       obtain ⟨u',r',q⟩:=hl j y v' e1 e2 e3
       refine ⟨u',r',?_⟩
       rcases q with ⟨k,e⟩ | ⟨k,c,e,z⟩
       · refine .inl ⟨k,?_⟩
         have:y ≠ x:=λe=>hj (iA hN e1 (e ▸ hi))
         simp [this,e]
       · exact .inr ⟨k,c,e,z.sameBut hs (cne y c e)⟩
   · obtain ⟨w',z⟩:=I.cell y c e
     exact ⟨w',z.sameBut hs (cne y c e)⟩
   · obtain ⟨e,n,ne,nf,d⟩:=I.pin p hp
     exact ⟨(hs.2 p.1 ne).trans e,n,ne,nf,d⟩
 · have hfn:X.fn x=true:=by
     rcases hf with z | z
     · exact z
     · rw [z] at hk; cases hk
   obtain ⟨c,hc⟩:=I.ok.has x (.inl hk)
   obtain ⟨w',z⟩:=I.cell x c hc
   refine wpAny_storeName_cell I.ok.kind hk hc z (λh' hc' hs=>?_)
   obtain ⟨oc,hoc,hocd⟩:=id z
   refine h { s with heap:=h' } ⟨I.ok,I.os,I.bare,⟨λb o e n hb hx=>?_,λb o e n hb hx=>?_,I.base.free,λb o e hx=>?_,I.base.tups,I.base.frzs,I.base.tbls⟩,⟨m,hn.sameBut hs (Ne.symm (cne x c hc)),λj y v' e1 e2 e3=>?_⟩,λy c' e=>?_,I.free,I.freeC,λp hp=>?_,tracked ⟨oc,hoc,I.freeC x c hc⟩ hs,by simpa using I.len⟩ ⟨c,hs,.inr hc⟩
   · exact (hs.2 b (Nat.ne_of_lt (Nat.lt_of_lt_of_le (Heap.lt_size e) (I.ok.cab x c hfn hc)))).trans (I.base.keep b o e n hb hx)
   · obtain ⟨sl,e1⟩:=I.base.slot b o e n hb hx
     exact ⟨sl,(hs.2 b (Nat.ne_of_lt (Nat.lt_of_lt_of_le (Heap.lt_size e) (I.ok.cab x c hfn hc)))).trans e1⟩
   · obtain ⟨o',e1⟩:=I.base.there b o e hx
     exact ⟨o',(hs.2 b (Nat.ne_of_lt (Nat.lt_of_lt_of_le (Heap.lt_size e) (I.ok.cab x c hfn hc)))).trans e1⟩
   · by_cases hj:j=i
     · subst hj
       rw [hi] at e1; cases e1
       rw [List.getElem?_set_self hiσ] at e2
       cases e2
       exact ⟨u,r,.inr ⟨.inl hk,c,hc,hc'⟩⟩
     · rw [List.getElem?_set_ne (Ne.symm hj)] at e2
       obtain ⟨u',r',q⟩:=hl j y v' e1 e2 e3
       refine ⟨u',r',?_⟩
       rcases q with q | ⟨k,c',e,z'⟩
       · exact .inl q
       · refine .inr ⟨k,c',e,z'.sameBut hs ?_⟩
         rintro rfl
         exact hj (iA hN e1 (I.ok.inj _ _ _ e hc ▸ hi))
   · by_cases hcc:c'=c
     · subst hcc; exact ⟨_,hc'⟩
     · obtain ⟨w2,z2⟩:=I.cell y c' e
       exact ⟨w2,z2.sameBut hs hcc⟩
   · obtain ⟨e,n,ne,nf,d⟩:=I.pin p hp
     refine ⟨(hs.2 p.1 ?_).trans e,n,ne,nf,d⟩
     intro q
     rw [q,hoc] at e
     have q':oc=p.2:=Option.some.inj e
     exact d w' (by rw [<- q']; exact hocd)
theorem fX {M:Model} {A:Around} {E:Value->Shared->Prop} {i:Nat} {x:Str} {v:V} {u:Value} {Q:Unit->Shared->Prop} (I:Inv X pins σ H s) (hN:X.N.Nodup) (hi:X.N[i]?=some x) (hx:Loc X.env.scope x) (r:RelV v u)
   (h:∀ s',Inv X pins (σ.set i (some v)) H s'->Q () s') (hf:X.fn x=true\/X.env.scope.names.lookup x=some .local:=by first | exact .inl rfl | exact .inr rfl | assumption):wpAny M A (storeName X.env x u) Q E s:=
 oM I hN hi hx r (λs' I' _=>h s' I') hf
theorem Inv.jD {s':Shared} {ch:List Addr} (I:Inv X pins σ H s) (ho:s'.os=s.os) (u:Un (frs X.stack) ch H H' s.heap s'.heap) (hok:HOk X.prog X.w H' s'.heap) (hg:AllBare s'.gens)
   (hch:∀ b ∈ ch,(b ∈ X.ex\/X.s₀.heap.objs.size<=b)/\b ≠ X.env.locals/\(∀ x c,X.env.cells.lookup x=some c->c ≠ b)/\∀ p ∈ X.pn++pins,p.1 ≠ b):Inv X pins σ H' s':=by
 obtain ⟨h',g',d',t',o'⟩:=s'
 have e:o'=s.os:=ho
 subst e
 exact I.call (g':=g') (t':=t') (d':=d') u hok hg hch
end
noncomputable abbrev XK:=Value->Option Addr->Hp->Prop
noncomputable abbrev St:=List (Option V)
noncomputable abbrev VK:=V->Hp->Prop
noncomputable abbrev TE:=St->Hp->VK->Prop
noncomputable abbrev TT:=St->Hp->(Bool->Hp->Prop)->Prop
noncomputable abbrev TA:=St->Hp->(List V->Hp->Prop)->Prop
structure Ends where
 nx:St->Hp->Prop
 rt:VK
 bk:St->Hp->Prop:=λ_ _=>False
 ct:St->Hp->Prop:=λ_ _=>False
noncomputable abbrev TS:=Ends->St->Hp->Prop
noncomputable def EP (X:Cx) (pins:List (Addr × Obj)) (σ:St) (Q:VK) (u:Value) (s':Shared):Prop:=∃ v H',Inv X pins σ H' s'/\RelV v u/\Q v H'
noncomputable def TP (X:Cx) (pins:List (Addr × Obj)) (σ:St) (Q:Bool->Hp->Prop) (b:Bool) (s':Shared):Prop:=∃ H',Inv X pins σ H' s'/\Q b H'
noncomputable def AP (X:Cx) (pins:List (Addr × Obj)) (σ:St) (Q:List V->Hp->Prop) (us:List Value) (s':Shared):Prop:=∃ vs H',Inv X pins σ H' s'/\Vals vs us/\Q vs H'
noncomputable def SP (X:Cx) (pins:List (Addr × Obj)) (D:Ends) (f:Flow) (s':Shared):Prop:=
 match f with
 | .next=>∃ σ' H',Inv X pins σ' H' s'/\D.nx σ' H'
 | .brk=>∃ σ' H',Inv X pins σ' H' s'/\D.bk σ' H'
 | .cont=>∃ σ' H',Inv X pins σ' H' s'/\D.ct σ' H'
 | .ret u=>∃ v σ' H',Inv X pins σ' H' s'/\RelV v u/\D.rt v H'
noncomputable def PE (X:Cx) (e:Expr) (t:TE):Prop:=
 ∀ (pins:List (Addr × Obj)) (s:Shared) (σ:St) (H:Hp) (Q:VK),Inv X pins σ H s->t σ H Q->wpAny (model X.prog X.w) X.A (eval e X.env) (EP X pins σ Q) X.xe s
noncomputable def PT (X:Cx) (e:Expr) (t:TT):Prop:=
 ∀ (pins:List (Addr × Obj)) (s:Shared) (σ:St) (H:Hp) (Q:Bool->Hp->Prop),Inv X pins σ H s->t σ H Q->wpAny (model X.prog X.w) X.A (isTrue e X.env (eval e X.env)) (TP X pins σ Q) X.xe s
noncomputable def PW (X:Cx) (e:Expr) (t:TT):Prop:=
 ∀ (whole:Sem Value) (pins:List (Addr × Obj)) (s:Shared) (σ:St) (H:Hp) (Q:Bool->Hp->Prop),Inv X pins σ H s->t σ H Q->wpAny (model X.prog X.w) X.A (isTrue e X.env whole) (TP X pins σ Q) X.xe s
theorem PW.pt {X:Cx} {e:Expr} {t:TT} (h:PW X e t):PT X e t:=h _
noncomputable def PA (X:Cx) (es:List Expr) (t:TA):Prop:=
 ∀ (pos:Pos) (pins:List (Addr × Obj)) (s:Shared) (σ:St) (H:Hp) (Q:List V->Hp->Prop),Inv X pins σ H s->t σ H Q->wpAny (model X.prog X.w) X.A (spliced (backTo pos (starEach es X.env))) (AP X pins σ Q) X.xe s
noncomputable def PS (X:Cx) (st:Stmt) (t:TS):Prop:=
 ∀ (pins:List (Addr × Obj)) (s:Shared) (σ:St) (H:Hp) (D:Ends),Inv X pins σ H s->t D σ H->wpAny (model X.prog X.w) X.A (exec st X.env) (SP X pins D) X.xe s
noncomputable def PSs (X:Cx) (st:List Stmt) (t:TS):Prop:=
 ∀ (pins:List (Addr × Obj)) (s:Shared) (σ:St) (H:Hp) (D:Ends),Inv X pins σ H s->t D σ H->wpAny (model X.prog X.w) X.A (execs st X.env) (SP X pins D) X.xe s
theorem thn {α:Type} {t:Sem α} {Q Q':α->Shared->Prop} {M:Model} {A:Around} {E:Value->Shared->Prop} {s:Shared} (h:wpAny M A t Q E s) (hQ:∀ a s,Q a s->Q' a s):wpAny M A t Q' E s:=wpAny_mono h hQ λ_ _ x=>x
section
variable {X:Cx}
theorem bin {a b:Expr} {ta tb:TE} (ha:PE X a ta) (hb:PE X b tb) {pins:List (Addr × Obj)} {s:Shared} {σ:St} {H:Hp} {R:V->V->Hp->Prop} (I:Inv X pins σ H s) (h:ta σ H λx H1=>tb σ H1 λy H2=>R x y H2)
   {α:Type} {Q:α->Shared->Prop} {f:Value->Value->Sem α}
   (hf:∀ v u s2 x y H2,Inv X pins σ H2 s2->RelV x v->RelV y u->R x y H2->wpAny (model X.prog X.w) X.A (f v u) Q X.xe s2) :
   wpAny (model X.prog X.w) X.A (eval a X.env) (λv s₁=>wpAny (model X.prog X.w) X.A (eval b X.env) (λu s₂=>wpAny (model X.prog X.w) X.A (f v u) Q X.xe s₂) X.xe s₁) X.xe s:=by
 refine thn (ha pins s σ H _ I h) λv s1 ⟨x,H1,I1,r1,q1⟩=>?_
 refine thn (hb pins s1 σ H1 _ I1 q1) λu s2 ⟨y,H2,I2,r2,q2⟩=>?_
 exact hf v u s2 x y H2 I2 r1 r2 q2
noncomputable def xh (i:Nat):TE:=λσ H Q=>∃ v,σ[i]?=some (some v)/\Q v H
noncomputable def tC (v:V):TE:=λ_ H Q=>Q v H
theorem cK {i:Nat} {x:Str} {pos:Pos} (hN:X.N[i]?=some x) (hv:Vis X.env.scope x) (hd:(x == ("__debug__" : Str))=false:=by decide) (hcd:(x == ("__classdict__" : Str))=false:=by decide):PE X (.Name x pos) (xh i):=by
 intro pins s σ H Q I h
 obtain ⟨v,e,h⟩:=h
 obtain ⟨m,hn,hl⟩:=I.loc
 obtain ⟨u,r,l⟩:=hl i x v hN e hv
 have fin:EP X pins σ Q u s:=⟨v,H,I,r,h⟩
 rcases l with ⟨hk,hm⟩ | ⟨hk,c,hc,hcell⟩
 · exact wpAny_Name (wpAny_loadName_local I.ok.kind hk hn hm fin) hd
 · rcases hk with hk | hk
   · exact wpAny_Name (wpAny_loadName_cell I.ok.kind hk hc hcell fin) hd
   · exact wpAny_Name (wpAny_loadName_free I.ok.kind hk hc hcell fin hcd) hd
theorem tP {i j pos}:PE X (.Constant (.int i) j pos) (tC (.int i)):=λ_ _ _ H _ I h=>wpAny_Constant_int ⟨.int i,H,I.tok _,⟨_,rfl⟩,h⟩
theorem vF {b j pos}:PE X (.Constant (.bool b) j pos) (tC (.bl b)):=λ_ _ _ H _ I h=>Constant_bool ⟨.bl b,H,I,rfl,h⟩
theorem uB {j pos}:PE X (.Constant .none j pos) (tC .non):=λ_ _ _ H _ I h=>Constant_none ⟨.non,H,I,rfl,h⟩
theorem uS {x j pos}:PE X (.Constant (.str x) j pos) (tC (.str x)):=λ_ _ _ H _ I h=>Calls.Constant_str ⟨.str x,H,I.tok _,⟨_,rfl⟩,h⟩
noncomputable def Gl (X:Cx) (x:Str):Prop:=X.env.kindOf x=some .globalImplicit
theorem fZ {E:Value->Shared->Prop} {pins:List (Addr × Obj)} {s:Shared} {σ:St} {H:Hp} {x:Str} {u:Value} {pos:Pos} {Q:Value->Shared->Prop} (I:Inv X pins σ H s) (hg:Gl X x) (hm:X.mg x=some u) (h:Q u s)
   (hd:(x == ("__debug__" : Str))=false:=by decide):wpAny (model X.prog X.w) X.A (eval (.Name x pos) X.env) Q E s:=
 Calls.Name_function_global I.ok.kind hg (Calls.loadGlobal_global (by rw [I.ok.glob]; exact I.mod.glob.keeps I.bk) hm h) hd
theorem eO {E:Value->Shared->Prop} {pins:List (Addr × Obj)} {s:Shared} {σ:St} {H:Hp} {x:Str} {u:Value} {pos:Pos} {Q:Value->Shared->Prop} (I:Inv X pins σ H s) (hg:Gl X x) (hm:X.mg x=none) (hv:bootBuiltins x=some u) (h:Q u s)
   (hn:x ≠ "__name__":=by decide) (hd:(x == ("__debug__" : Str))=false:=by decide):wpAny (model X.prog X.w) X.A (eval (.Name x pos) X.env) Q E s:=by
 obtain ⟨mb,h1,h2⟩:=I.mod.blt
 exact Calls.Name_function_global I.ok.kind hg (Calls.loadGlobal_builtin (by rw [I.ok.glob]; exact I.mod.glob.keeps I.bk) hm (by rw [I.ok.blt]; exact h1.keeps I.bk) ((h2 x hn).trans hv) h) hd
theorem mY {x:Str} {v:V} {u:Value} {pos:Pos} (hg:Gl X x) (hm:X.mg x=some u) (r:RelV v u) (hd:(x == ("__debug__" : Str))=false:=by decide):PE X (.Name x pos) (tC v):=
 λ_ _ _ H _ I h=>fZ I hg hm ⟨v,H,I,r,h⟩ hd
theorem nP {x:Str} {v:V} {u:Value} {pos:Pos} (hg:Gl X x) (hm:X.mg x=none) (hv:bootBuiltins x=some u) (r:RelV v u) (hn:x ≠ "__name__":=by decide) (hd:(x == ("__debug__" : Str))=false:=by decide):PE X (.Name x pos) (tC v):=
 λ_ _ _ H _ I h=>eO I hg hm hv ⟨v,H,I,r,h⟩ hn hd
variable {a b:Expr} {ta tb:TE} {pos:Pos}
noncomputable def PC (X:Cx) (op:CmpOp) (a b:Expr) (t:TE):Prop:=
 ∀ (pins:List (Addr × Obj)) (s:Shared) (σ:St) (H:Hp) (Q:VK),Inv X pins σ H s->t σ H Q ->
   wpAny (model X.prog X.w) X.A (eval a X.env) (λv s₁=>wpAny (model X.prog X.w) X.A (eval b X.env) (λu s₂=>wpAny (model X.prog X.w) X.A (compareOp op v u) (EP X pins σ Q) X.xe s₂) X.xe s₁) X.xe s
theorem oZ (b:Expr) {op:CmpOp} (h:op ≠ .In) (h2:op ≠ .NotIn):behindInMarks op b=false:=by
 have e1:(op == CmpOp.In)=false:=by cases op <;> first | rfl | exact absurd rfl h
 have e2:(op == CmpOp.NotIn)=false:=by cases op <;> first | rfl | exact absurd rfl h2
 cases b <;> simp [behindInMarks,e1,e2]
noncomputable def tB (t:TE):TT:=λσ H Q=>t σ H λx H1=>∃ c,x=.bl c/\Q c H1
theorem wK {op:CmpOp} {t:TE} (h:PC X op a b t) (h1:behindInMarks op b=false:=by first | exact oZ _ (by decide) (by decide) | rfl):PT X (.Compare a [op] [b] pos) (tB t):=by
 intro pins s σ H Q I hw
 refine wpAny_isTrue_Compare1 (thn (h pins s σ H _ I hw) λv s1 h1=>thn h1 λu s2 h2=>thn h2 λc s3 ⟨x,H1,I1,r1,q1⟩=>?_) h1
 obtain ⟨d,rfl,q⟩:=q1
 cases r1
 exact wpAny_truthy_bool ⟨H1,I1,q⟩
theorem u6 {e:Expr} {t:TE} (h:PE X e t) (he:∀ whole,isTrue e X.env whole=(do let v <- whole; standAt e.pos; holding [v] (truthy v)):=by intro _; rfl):PT X e (tB t):=by
 intro pins s σ H Q I hw
 refine isTrue_plain (thn (h pins s σ H _ I hw) λv s1 ⟨x,H1,I1,r1,q1⟩=>?_) (he _)
 obtain ⟨d,rfl,q⟩:=q1
 cases r1
 exact wpAny_truthy_bool ⟨H1,I1,q⟩
variable {tA tB':TT} {rest:List Expr}
noncomputable def xb (t u:TT):TT:=λσ H Q=>t σ H λc H1=>if c=true then u σ H1 Q else Q false H1
noncomputable def tOr (t u:TT):TT:=λσ H Q=>t σ H λc H1=>if c=true then Q true H1 else u σ H1 Q
noncomputable def xn (t:TT):TT:=λσ H Q=>t σ H λc H1=>Q (!c) H1
theorem pw_and1 (ha:PT X a tA):PW X (.BoolOp .And [a] pos) tA:=by
 intro wh pins s σ H Q I h
 refine isTrue_and (thn (ha pins s σ H Q I h) λc s1 e=>?_)
 cases c with
 | true=>exact isTrue_and_nil e
 | false=>exact e
theorem pw_or1 (ha:PT X a tA):PW X (.BoolOp .Or [a] pos) tA:=by
 intro wh pins s σ H Q I h
 refine isTrue_or (thn (ha pins s σ H Q I h) λc s1 e=>?_)
 cases c with
 | false=>exact isTrue_or_nil e
 | true=>exact e
theorem pw_and (ha:PT X a tA) (hb:PW X (.BoolOp .And (b :: rest) pos) tB'):PW X (.BoolOp .And (a :: b :: rest) pos) (xb tA tB'):=by
 intro wh pins s σ H Q I h
 refine isTrue_and (thn (ha pins s σ H _ I h) λc s1 ⟨H1,I1,q1⟩=>?_)
 cases c with
 | true=>exact hb wh pins s1 σ H1 Q I1 q1
 | false=>exact ⟨H1,I1,q1⟩
theorem pw_or (ha:PT X a tA) (hb:PW X (.BoolOp .Or (b :: rest) pos) tB'):PW X (.BoolOp .Or (a :: b :: rest) pos) (tOr tA tB'):=by
 intro wh pins s σ H Q I h
 refine isTrue_or (thn (ha pins s σ H _ I h) λc s1 ⟨H1,I1,q1⟩=>?_)
 cases c with
 | true=>exact ⟨H1,I1,q1⟩
 | false=>exact hb wh pins s1 σ H1 Q I1 q1
theorem tK (ha:PT X a tA):PT X (.UnaryOp .Not a pos) (xn tA):=by
 intro pins s σ H Q I h
 exact isTrue_not (ha pins s σ H (λc H1=>Q (!c) H1) I h)
noncomputable def vM (ta tb:TE):TE:=λσ H Q=>ta σ H λx H1=>∃ c,x=.bl c/\if c=true then tb σ H1 Q else Q (.bl false) H1
noncomputable def vA (ta:TE):TE:=λσ H Q=>ta σ H λx H1=>∃ c,x=.bl c/\Q (.bl (!c)) H1
theorem ud {op} {t:TE} (h:PE X a t):PE X (.BoolOp op [a] pos) t:=λpins s σ H Q I hw=>BoolOp_one (h pins s σ H Q I hw)
theorem pB (ha:PE X a ta) (hb:PE X (.BoolOp .And (b :: rest) pos) tb):PE X (.BoolOp .And (a :: b :: rest) pos) (vM ta tb):=by
 intro pins s σ H Q I h
 refine BoolOp_and (thn (ha pins s σ H _ I h) λv s1 ⟨x,H1,I1,r1,q1⟩=>?_)
 obtain ⟨c,rfl,q1⟩:=q1
 cases r1
 refine wpAny_truthy_bool ?_
 cases c with
 | true=>exact hb pins s1 σ H1 Q I1 q1
 | false=>exact ⟨.bl false,H1,I1,rfl,q1⟩
theorem tV (ha:PE X a ta):PE X (.UnaryOp .Not a pos) (vA ta):=by
 intro pins s σ H Q I h
 refine UnaryOp_ (thn (ha pins s σ H _ I h) λv s1 ⟨x,H1,I1,r1,q1⟩=>?_)
 obtain ⟨c,rfl,q1⟩:=q1
 cases r1
 exact not_of (wpAny_truthy_bool ⟨.bl (!c),H1,I1,rfl,q1⟩)
noncomputable def tIf (t:TT) (ta tb:TE):TE:=λσ H Q=>t σ H λc H1=>if c=true then ta σ H1 Q else tb σ H1 Q
theorem k8 {c:Expr} (hc:PT X c tA) (ha:PE X a ta) (hb:PE X b tb):PE X (.IfExp c a b pos) (tIf tA ta tb):=by
 intro pins s σ H Q I h
 refine wpAny_IfExp (thn (hc pins s σ H _ I h) λd s1 ⟨H1,I1,q1⟩=>?_)
 cases d with
 | true=>exact ha pins s1 σ H1 Q I1 q1
 | false=>exact hb pins s1 σ H1 Q I1 q1
end
noncomputable def SqL (K:PySem.W.Frag) (H:Hp) (a:Addr) (xs:List V):Prop:=
 Rd H a (.lst xs) \/
   ∃ (o:Obj) (its:Array Value) (n:Nat),K.lookup a=some o/\o.cls=.type "list" /\ o.dict=none/\o.data=.seq its n/\its.size<=sizeLine/\Vals xs its.toList
noncomputable def SqT (K:PySem.W.Frag) (H:Hp) (a:Addr) (xs:List V):Prop:=
 Rd H a (.tup xs) \/
   ∃ (o:Obj) (its:Array Value) (n:Nat),K.lookup a=some o/\o.cls=.type "tuple" /\ o.data=.seq its n/\its.size<=sizeLine/\Vals xs its.toList
noncomputable def wV:Value->Option V
 | .none=>some .non
 | .bool b=>some (.bl b)
 | .int i _=>some (.int i)
 | .str x _=>some (.str x)
 | .bytes b _=>some (.byt b)
 | .float b _=>some (.flt b)
 | .ref a=>some (.ref a)
 | .type n=>some (.ty n)
 | _=>none
theorem RelV.abs {x:V} {u:Value} (r:RelV x u):wV u=some x:=by
 cases x with
 | non=>cases r; rfl
 | bl _=>cases r; rfl
 | int _=>obtain ⟨t,rfl⟩:=r; rfl
 | str _=>obtain ⟨t,rfl⟩:=r; rfl
 | byt _=>obtain ⟨t,rfl⟩:=r; rfl
 | flt _=>obtain ⟨t,rfl⟩:=r; rfl
 | ref _=>cases r; rfl
 | ty _=>cases r; rfl
theorem RelV.inj {x y:V} {u:Value} (r:RelV x u) (q:RelV y u):x=y:=Option.some.inj (r.abs.symm.trans q.abs)
theorem Vals.inj:∀ {xs ys:List V} {us:List Value},Vals xs us->Vals ys us->xs=ys
 | _,_,_,.nil,.nil=>rfl
 | _,_,_,.cons r t,.cons r' t'=>by rw [r.inj r',Vals.inj t t']
section
variable {X:Cx} {pins:List (Addr × Obj)} {σ:St} {H:Hp} {s:Shared} {a:Addr} {xs ys:List V}
theorem SqL.of {K:PySem.W.Frag} (h:H a=some (.lst xs)):SqL K H a xs:=.inl (.inl h)
theorem SqT.of {K:PySem.W.Frag} (h:H a=some (.tup xs)):SqT K H a xs:=.inl (.inl h)
theorem Inv.list (I:Inv X pins σ H s) (h:SqL X.K H a xs):∃ its:List Value,Vals xs its/\PlainL s.heap a its.toArray/\xs.length<=sizeLine:=by
 rcases h with h | ⟨o,its,n,hk,hc,hd,hs,hz,r⟩
 · obtain ⟨z,its,n,r,e⟩:=h.ok I.hok
   exact ⟨its,r,⟨_,n,e,rfl,rfl,rfl⟩,z⟩
 · refine ⟨its.toList,r,⟨o,n,I.kIn a o hk,hc,hd,by simpa using hs⟩,?_⟩
   have e:=r.length
   simp only [Array.length_toList] at e
   omega
theorem Inv.tuple (I:Inv X pins σ H s) (h:SqT X.K H a xs):∃ its:List Value,Vals xs its/\IsTup s.heap a its.toArray/\xs.length<=sizeLine:=by
 rcases h with h | ⟨o,its,n,hk,hc,hs,hz,r⟩
 · obtain ⟨z,its,r,p⟩:=h.ok I.hok
   exact ⟨its,r,p,z⟩
 · refine ⟨its.toList,r,⟨o,I.kIn a o hk,hc,n,by simpa using hs⟩,?_⟩
   have e:=r.length
   simp only [Array.length_toList] at e
   omega
theorem Inv.eE (I:Inv X pins σ H s) (h:SqL X.K H a xs) (h':SqL X.K H a ys):xs=ys:=by
 obtain ⟨its,r,⟨o,n,e,_,_,d⟩,_⟩:=I.list h
 obtain ⟨its',r',⟨o',n',e',_,_,d'⟩,_⟩:=I.list h'
 rw [e] at e'; cases e'
 rw [d] at d'
 injection d' with d1 _
 have:its=its':=by simpa using congrArg Array.toList d1
 subst this
 exact r.inj r'
end
noncomputable abbrev Cx.gI (X:Cx) (E:Value->Shared->Prop):Cx:={ X with xe:=E }
noncomputable abbrev Cx.nox (X:Cx):Cx:=X.gI λ_ _=>False
theorem Cx.Ok.gI {X:Cx} (ok:X.Ok) (E:Value->Shared->Prop):(X.gI E).Ok:=
 ⟨ok.mod,ok.kind,ok.glob,ok.blt,ok.above,ok.inj,ok.has,ok.cab,ok.hd,ok.frames,ok.stk,ok.exf,ok.bs,ok.bsz,ok.noex,ok.exfs,ok.gE,ok.frf⟩
theorem Cx.Ok.cH {X:Cx} {E:Value->Shared->Prop} (ok:(X.gI E).Ok):X.Ok:=
 ⟨ok.mod,ok.kind,ok.glob,ok.blt,ok.above,ok.inj,ok.has,ok.cab,ok.hd,ok.frames,ok.stk,ok.exf,ok.bs,ok.bsz,ok.noex,ok.exfs,ok.gE,ok.frf⟩
section
variable {X:Cx} {pins:List (Addr × Obj)} {σ:St} {H:Hp} {s:Shared} {E:Value->Shared->Prop}
theorem Inv.gI (I:Inv X pins σ H s) (E:Value->Shared->Prop):Inv (X.gI E) pins σ H s:=⟨I.ok.gI E,I.os,I.bare,I.base,I.loc,I.cell,I.free,I.freeC,I.pin,I.hok,I.len⟩
theorem Inv.cH (I:Inv (X.gI E) pins σ H s):Inv X pins σ H s:=⟨I.ok.cH,I.os,I.bare,I.base,I.loc,I.cell,I.free,I.freeC,I.pin,I.hok,I.len⟩
theorem SP.cH {D:Ends} {f:Flow} {s':Shared} (h:SP (X.gI E) pins D f s'):SP X pins D f s':=by
 cases f with
 | next=>obtain ⟨σ',H',I,q⟩:=h; exact ⟨σ',H',I.cH,q⟩
 | brk=>obtain ⟨σ',H',I,q⟩:=h; exact ⟨σ',H',I.cH,q⟩
 | cont=>obtain ⟨σ',H',I,q⟩:=h; exact ⟨σ',H',I.cH,q⟩
 | ret u=>obtain ⟨v,σ',H',I,r,q⟩:=h; exact ⟨v,σ',H',I.cH,r,q⟩
theorem PE.nox {e:Expr} {t:TE} (h:PE X.nox e t):PE X e t:=λpins s σ H Q I hw=>
 wpAny_mono (h pins s σ H Q (I.gI _) hw) (λ_ _ ⟨v,H',I',r,q⟩=>⟨v,H',I'.cH,r,q⟩) λ_ _ z=>False.elim z
theorem PT.nox {e:Expr} {t:TT} (h:PT X.nox e t):PT X e t:=λpins s σ H Q I hw=>
 wpAny_mono (h pins s σ H Q (I.gI _) hw) (λ_ _ ⟨H',I',q⟩=>⟨H',I'.cH,q⟩) λ_ _ z=>False.elim z
theorem PSs.nox {st:List Stmt} {t:TS} (h:PSs X.nox st t):PSs X st t:=λpins s σ H D I hw=>
 wpAny_mono (h pins s σ H D (I.gI _) hw) (λ_ _ q=>q.cH) λ_ _ z=>False.elim z
end
section
variable {X:Cx} {st:Stmt} {rest:List Stmt} {t u:TS} {e:Expr} {te:TE} {pos:Pos}
noncomputable def vq:TS:=λD σ H=>D.nx σ H
noncomputable def xg (t u:TS):TS:=λD σ H=>t { D with nx:=u D } σ H
theorem rF:PSs X [] vq:=λ_ _ σ H _ I h=>wpAny_execs_nil ⟨σ,H,I,h⟩
theorem pq (h1:PS X st t) (h2:PSs X rest u):PSs X (st :: rest) (xg t u):=by
 intro pins s σ H D I h
 refine wpAny_execs_cons (thn (h1 pins s σ H { D with nx:=u D } I h) λf s1 q=>?_)
 cases f with
 | next=>
   obtain ⟨σ',H',I',q⟩:=q
   exact h2 pins s1 σ' H' D I' q
 | ret v=>exact q
 | brk=>exact q
 | cont=>exact q
theorem r6 (h1:PS X st t):PSs X [st] t:=by
 intro pins s σ H D I h
 refine wpAny_execs_cons (thn (h1 pins s σ H D I h) λf s1 q=>?_)
 cases f with
 | next=>exact wpAny_execs_nil q
 | ret v=>exact q
 | brk=>exact q
 | cont=>exact q
theorem Inv.quiet {pins:List (Addr × Obj)} {σ:St} {H:Hp} {s:Shared} (I:Inv X pins σ H s):interactive X.env=false:=by simp [interactive,I.ok.kind]
noncomputable def vI (te:TE):TS:=λD σ H=>te σ H λ_ H1=>D.nx σ H1
theorem il (he:PE X e te) (hs:swapsWith e none pos.line X.env=pure false:=by rfl):PS X (.Expr e pos) (vI te):=by
 intro pins s σ H D I h
 exact wpAny_Expr_any (thn (he pins s σ H _ I h) λv s1 ⟨x,H1,I1,r1,q1⟩=>⟨σ,H1,I1,q1⟩) I.quiet hs
noncomputable def w8 (te:TE):TS:=λD σ H=>te σ H D.rt
theorem kA (he:PE X e te):PS X (.Return (some e) pos) (w8 te):=by
 intro pins s σ H D I h
 exact wpAny_Return_some (thn (he pins s σ H _ I h) λv s1 ⟨x,H1,I1,r1,q1⟩=>⟨x,σ,H1,I1,r1,q1⟩)
noncomputable def wZ (c:TT) (t u:TS):TS:=λD σ H=>c σ H λb H1=>if b=true then t D σ H1 else u D σ H1
theorem sT {c:Expr} {a b:List Stmt} {tc:TT} (hc:PT X c tc) (ha:PSs X a t) (hb:PSs X b u):PS X (.If c a b pos) (wZ tc t u):=by
 intro pins s σ H D I h
 refine wpAny_If (thn (hc pins s σ H _ I h) λd s1 ⟨H1,I1,q1⟩=>?_)
 cases d with
 | true=>exact ha pins s1 σ H1 D I1 q1
 | false=>exact hb pins s1 σ H1 D I1 q1
noncomputable def ui:TS:=λ_ _ _=>False
theorem jN {sts:List Stmt}:PSs X sts ui:=λ_ _ _ _ _ _ h=>h.elim
end
noncomputable abbrev TG:=V->St->Hp->(St->Hp->Prop)->Prop
noncomputable abbrev TGs:=List V->St->Hp->(St->Hp->Prop)->Prop
noncomputable def PG (X:Cx) (target:Expr) (t:TG):Prop:=
 ∀ (pins:List (Addr × Obj)) (s:Shared) (σ:St) (H:Hp) (v:V) (u:Value) (Q:St->Hp->Prop),Inv X pins σ H s->RelV v u->t v σ H Q ->
   wpAny (model X.prog X.w) X.A (assign target X.env u) (λ_ s'=>∃ σ' H',Inv X pins σ' H' s'/\Q σ' H') X.xe s
noncomputable def PGs (X:Cx) (ts:List Expr) (t:TGs):Prop:=
 ∀ (pins:List (Addr × Obj)) (s:Shared) (σ:St) (H:Hp) (vs:List V) (us:List Value) (Q:St->Hp->Prop),Inv X pins σ H s->Vals vs us->t vs σ H Q ->
   wpAny (model X.prog X.w) X.A (assignInOrder ((assignEach ts X.env).map (·.2)) us) (λ_ s'=>∃ σ' H',Inv X pins σ' H' s'/\Q σ' H') X.xe s
noncomputable abbrev t5:=V->V->V->Hp->(Hp->Prop)->Prop
noncomputable def vX (X:Cx) (t:t5):Prop:=
 ∀ (pins:List (Addr × Obj)) (s:Shared) (σ:St) (H:Hp) (o i v:V) (ov iv u:Value) (Q:Hp->Prop),Inv X pins σ H s->RelV o ov->RelV i iv->RelV v u->t o i v H Q ->
   wpAny (model X.prog X.w) X.A (setItem ov iv u) (λ_ s'=>∃ H',Inv X pins σ H' s'/\Q H') X.xe s
section
variable {X:Cx} {pos:Pos}
noncomputable def sN (i:Nat):TG:=λv σ H Q=>Q (σ.set i (some v)) H
theorem fY {i:Nat} {x:Str} (hN:X.N.Nodup) (hi:X.N[i]?=some x) (hx:Loc X.env.scope x) (hf:X.fn x=true\/X.env.scope.names.lookup x=some .local:=by first | exact .inl rfl | exact .inr rfl | assumption):PG X (.Name x pos) (sN i):=by
 intro pins s σ H v u Q I r h
 exact wpAny_assign_Name (fX I hN hi hx r (λs' I'=>⟨_,H,I',h⟩) hf)
noncomputable def wR:TGs:=λvs σ H Q=>vs=[]/\Q σ H
noncomputable def wb (t:TG) (u:TGs):TGs:=λvs σ H Q=>∃ v r,vs=v :: r/\t v σ H λσ' H'=>u r σ' H' Q
theorem mT:PGs X [] wR:=by
 intro pins s σ H vs us Q I r h
 obtain ⟨e,h⟩:=h
 subst e
 cases r
 exact assignInOrder_nil ⟨σ,H,I,h⟩
theorem iH {e:Expr} {es:List Expr} {t:TG} {u:TGs} (h1:PG X e t) (h2:PGs X es u)
   (hs:(assignEach (e :: es) X.env).map (·.2)=assign e X.env :: (assignEach es X.env).map (·.2):=by rfl):PGs X (e :: es) (wb t u):=by
 intro pins s σ H vs us Q I r h
 obtain ⟨v,vr,e1,h⟩:=h
 subst e1
 cases r with
 | cons r rr=>
   rw [hs]
   refine assignInOrder_cons (thn (h1 pins s σ H _ _ _ I r h) λ_ s1 ⟨σ1,H1,I1,q1⟩=>?_)
   exact h2 pins s1 σ1 H1 _ _ Q I1 rr q1
noncomputable def wL (K:PySem.W.Frag) (n:Nat) (t:TGs):TG:=λv σ H Q=>∃ a xs,v=.ref a/\SqT K H a xs/\xs.length=n/\t xs σ H Q
theorem px {es:List Expr} {k:Nat} {t:TGs} {n:Nat} (hc:X.calm=true) (h:PGs X es t)
   (hn:(assignEach es X.env).length=n:=by rfl) (hst:(assignEach es X.env).findIdx? (·.1)=none:=by rfl):PG X (.Tuple es k pos) (wL X.K n t):=by
 intro pins s σ H v u Q I r hw
 obtain ⟨a,xs,e1,hq,hl,hw⟩:=hw
 subst e1
 cases r
 obtain ⟨its,rv,ht,hz⟩:=I.tuple hq
 refine assign_Tuple_tuple (I.ok.hd hc) ht (by simp [hn,<- hl,rv.length]) hst λh' hx=>?_
 have I1:Inv X pins σ H { s with heap:=h' }:=I.kept (t':=s.toks) λb o e=>hx b o (Nat.ne_of_lt (Heap.lt_size e)) e
 exact h pins _ σ H xs _ Q I1 (by simpa using rv) hw
noncomputable def w6 (to ti:TE) (t:t5):TG:=λv σ H Q=>to σ H λo H1=>ti σ H1 λi H2=>t o i v H2 λH3=>Q σ H3
theorem u5 {o i:Expr} {to ti:TE} {t:t5} (ho:PE X o to) (hi:PE X i ti) (hs:vX X t)
   (ha:∀ v,assign (.Subscript o i pos) X.env v=(do
     let ov <- holding [v] (eval o X.env)
     let iv <- holding [v,ov] (eval i X.env)
     standAt pos
     holding [v,ov,iv] (setItem ov iv v)
     release [v,ov,iv] []):=by intro _; rfl):PG X (.Subscript o i pos) (w6 to ti t):=by
 intro pins s σ H v u Q I r h
 rw [ha]
 refine wpAny_bind (wpAny_holding (thn (ho pins s σ H _ I h) λov s1 ⟨x,H1,I1,r1,q1⟩=>?_))
 refine wpAny_bind (wpAny_holding (thn (hi pins s1 σ H1 _ I1 q1) λiv s2 ⟨y,H2,I2,r2,q2⟩=>?_))
 refine wpAny_bind (wpAny_standAt (wpAny_bind (wpAny_holding (thn (hs pins s2 σ H2 x y v ov iv u _ I2 r1 r2 r q2) λ_ s3 ⟨H3,I3,q3⟩=>?_))))
 exact wpAny_release ⟨σ,H3,I3,q3⟩
noncomputable def tm (te:TE) (g:TG):TS:=λD σ H=>te σ H λx H1=>g x σ H1 D.nx
theorem pG {tg e:Expr} {te:TE} {g:TG} (he:PE X e te) (hg:PG X tg g) (hs:swapsWithSole [tg] e pos.line X.env=pure false:=by rfl) (hw:swappedStores [tg] e X.env=pure none:=by rfl)
   (h1:(assignEach [tg] X.env).map (·.2)=[assign tg X.env]:=by rfl):PS X (.Assign [tg] e pos) (tm te g):=by
 intro pins s σ H D I h
 refine wpAny_Assign_stores (thn (he pins s σ H _ I h) λv s1 ⟨x,H1,I1,r1,q1⟩=>?_) hs hw
 rw [h1]
 exact thn (hg pins s1 σ H1 x v _ I1 r1 q1) λ_ s2 q=>q
theorem ue {i:Nat} {x:Str} {e:Expr} {te:TE} {pos':Pos} (hN:X.N.Nodup) (hi:X.N[i]?=some x) (hx:Loc X.env.scope x) (he:PE X e te) (hs:swapsWith e (some (.Name x pos')) pos.line X.env=pure false:=by rfl) (hf:X.fn x=true\/X.env.scope.names.lookup x=some .local:=by first | exact .inl rfl | exact .inr rfl | assumption) :
   PS X (.Assign [.Name x pos'] e pos) (tm te (sN i)):=by
 intro pins s σ H D I h
 refine wpAny_Assign_Name (thn (he pins s σ H _ I h) λv s1 ⟨y,H1,I1,r1,q1⟩=>?_) hs
 exact fX I1 hN hi hx r1 (λs2 I2=>⟨_,H1,I2,q1⟩) hf
end
section
variable {X:Cx} {pos:Pos}
noncomputable def tN (c:TT) (tb:TS):TS:=λD σ H=>∃ W:Nat->St->Hp->Prop,(∃ m,W m σ H)/\∀ m σ H,W m σ H ->
 c σ H λb H1=>if b=true then ∃ N:St->Hp->Prop,(∀ σ' H',N σ' H'->∃ m',m' < m/\W m' σ' H')/\tb { D with nx:=N,ct:=N,bk:=D.nx } σ H1 else D.nx σ H1
theorem pk {c:Expr} {body:List Stmt} {tc:TT} {tb:TS} (hp:PassesOwn (model X.prog X.w) X.A X.env X.xe) (hc:PT X c tc) (hb:PSs X body tb):PS X (.While c body [] pos) (tN tc tb):=by
 intro pins s σ H D I h
 obtain ⟨W,⟨m0,w0⟩,turn⟩:=h
 refine wpAny_While (codeAny_whileLoop (λn s'=>∃ σ' H',Inv X pins σ' H' s'/\W n σ' H') ?_ m0 ⟨σ,H,I,w0⟩)
 rintro n s1 ⟨σ1,H1,I1,w1⟩
 refine wpAny_passesOwn hp (thn (hc pins s1 σ1 H1 _ I1 (turn n σ1 H1 w1)) λb s2 ⟨H2,I2,q2⟩=>?_)
 cases b with
 | true=>
   obtain ⟨N,hN,q2⟩:=q2
   rw [if_pos rfl]
   refine wpAny_passesOwn hp (thn (hb pins s2 σ1 H2 _ I2 q2) λf s3 q3=>?_)
   cases f with
   | next=>
     obtain ⟨σ3,H3,I3,n3⟩:=q3
     obtain ⟨m',hm,w3⟩:=hN σ3 H3 n3
     exact ⟨m',hm,σ3,H3,I3,w3⟩
   | cont=>
     obtain ⟨σ3,H3,I3,n3⟩:=q3
     obtain ⟨m',hm,w3⟩:=hN σ3 H3 n3
     exact ⟨m',hm,σ3,H3,I3,w3⟩
   | brk=>exact q3
   | ret v=>exact q3
 | false=>
   rw [if_neg Bool.false_ne_true]
   exact wpAny_execs_nil ⟨σ1,H2,I2,q2⟩
end
structure It where
 go:Nat->Hp->Prop
 yld:Nat->Hp->V->Hp->Prop
 stop:Nat->Hp->Prop
noncomputable def jd (X:Cx) (pins:List (Addr × Obj)) (H:Hp) (b:Addr):Prop:=
 H b=none/\b ≠ X.env.locals/\b ∉ X.fs/\(b ∈ X.ex\/X.s₀.heap.objs.size<=b)/\(∀ x c,X.env.cells.lookup x=some c->c ≠ b)/\∀ p ∈ X.pn++pins,p.1 ≠ b
theorem Inv.mG {X:Cx} {pins:List (Addr × Obj)} {σ:St} {H H':Hp} {s:Shared} {b:Addr} (I:Inv X pins σ H s) (hb:s.heap.objs.size<=b) (hn:H' b=none):jd X pins H' b:=by
 refine ⟨hn,Nat.ne_of_gt (Nat.lt_of_lt_of_le I.lt hb),I.xf hb,.inr (Nat.le_trans I.sz hb),λx c e z=>?_,λp hp z=>?_⟩
 · obtain ⟨v,q⟩:=I.cell x c e
   exact absurd (Nat.lt_of_lt_of_le q.lt (by rw [z]; exact hb)) (Nat.lt_irrefl _)
 · exact absurd (Nat.lt_of_lt_of_le (Heap.lt_size (I.pin p hp).1) (by rw [z]; exact hb)) (Nat.lt_irrefl _)
noncomputable def xo (X:Cx):Prop:=∃ h o u vs,X.A.handled=some (.ref h)/\X.H₀ h=some (.frz o u)/\o.data=.fields vs/\vs[2]?=some .none
noncomputable def Ck (kd:Bool) (X:Cx):Prop:=X.calm=true\/(kd=true/\xo X)
theorem Ck.calm {X:Cx} (h:Ck false X):X.calm=true:=h.resolve_right λz=>nomatch z.1
structure Turn (P:Program) (w:World) (K:PySem.W.Frag) (kd:Bool) (tg:Expr) (J:It) (fp:List Addr) (it:Addr) (tn:Nat->Heap->Prop):Prop where
 mem:it ∈ fp
 obj:∀ i h,tn i h->∀ b ∈ fp,∃ o,h.get? b=some o/\∀ v,o.data ≠ .cell v
 keep:∀ i h h',tn i h->(∀ b ∈ fp,∀ o,h.get? b=some o->h'.get? b=some o)->tn i h'
 item:∀ (X:Cx),X.prog=P->X.w=w->X.K=K->Ck kd X->∀ (i:Nat) (pins:List (Addr × Obj)) (s:Shared) (σ:St) (H:Hp) (E:Value->Shared->Prop),Inv X pins σ H s->(∀ b ∈ fp,jd X pins H b)->tn i s.heap->J.go i H ->
   wpAny (model P w) X.A (pyNext (.ref it)) (λr s1=>∃ u,r=some u /\
     wpAny (model P w) X.A (letOwnedTupleGo tg (.ref it) u) (λ_ s2=>∃ x H',Inv X pins σ H' s2/\RelV x u/\J.yld i H x H'/\tn (i + 1) s2.heap/\∀ b ∈ fp,H' b=none) E s1) E s
 done:∀ (X:Cx),X.prog=P->X.w=w->X.K=K->Ck kd X->∀ (i:Nat) (pins:List (Addr × Obj)) (s:Shared) (σ:St) (H:Hp) (E:Value->Shared->Prop),Inv X pins σ H s->(∀ b ∈ fp,jd X pins H b)->tn i s.heap->J.stop i H ->
   wpAny (model P w) X.A (pyNext (.ref it)) (λr s1=>r=none/\Inv X pins σ H s1) E s
 self:∀ (A:Around) (i:Nat) (s:Shared) (Q:Value->Shared->Prop) (E:Value->Shared->Prop),tn i s.heap->Q (.ref it) s->wpAny (model P w) A (pyIter (.ref it)) Q E s
noncomputable abbrev TI:=St->Hp->(It->Hp->Prop)->Prop
noncomputable def PIE (X:Cx) (pins:List (Addr × Obj)) (σ:St) (tg:Expr) (R:It->Hp->Prop) (itv:Value) (s2:Shared):Prop:=
 ∃ (kd:Bool) (it:Addr) (fp:List Addr) (tn:Nat->Heap->Prop) (J:It) (H':Hp),itv=.ref it/\Inv X pins σ H' s2/\Ck kd X/\Turn X.prog X.w X.K kd tg J fp it tn/\tn 0 s2.heap/\(∀ b ∈ fp,jd X pins H' b)/\R J H'
noncomputable def PI (X:Cx) (tg iter:Expr) (wi:TI):Prop:=
 ∀ (pins:List (Addr × Obj)) (s:Shared) (σ:St) (H:Hp) (R:It->Hp->Prop),Inv X pins σ H s->wi σ H R ->
   wpAny (model X.prog X.w) X.A (eval iter X.env) (λv s1=>wpAny (model X.prog X.w) X.A (pyIter v) (PIE X pins σ tg R) X.xe s1) X.xe s
theorem pw {M:Model} {A:Around} {E:Value->Shared->Prop} {s:Shared} {tg:Expr} {it:Addr} {u:Value} {o:Obj} {n:String} {vs:Array Value} {Q:Unit->Shared->Prop} (ho:s.heap.get? it=some o) (hc:o.cls=.type n) (hd:o.data=.fields vs)
   (hn:["enumerate","zip","dict_itemiterator","dict_reverseitemiterator","odict_iterator","itertools.zip_longest","itertools.pairwise"].contains n=false) (hQ:Q () s):wpAny M A (letOwnedTupleGo tg (.ref it) u) Q E s:=by
 unfold letOwnedTupleGo
 cases tg <;> first
   | exact wpAny_pure hQ
   | (cases u <;> first
       | exact wpAny_pure hQ
       | (refine wpAny_bind (wpAny_load ho ?_)
          rw [hc,hd]
          show wpAny M A (if (["enumerate","zip","dict_itemiterator","dict_reverseitemiterator","odict_iterator","itertools.zip_longest","itertools.pairwise"].contains n && vs[0]? == some (rawInt _))=true then _ else _) Q E s
          rw [if_neg (by intro h; rw [hn,Bool.false_and] at h; cases h)]
          exact wpAny_pure hQ))
noncomputable def Itl (K:PySem.W.Frag) (a:Addr):It:=
 ⟨λi H=>∃ xs x,SqL K H a xs/\xs[i]?=some x,λi H x H'=>H'=H/\∀ xs,SqL K H a xs->xs[i]?=some x,λi H=>∃ xs,SqL K H a xs/\xs.length<=i⟩
noncomputable def Itr (lo:Int) (n:Nat):It:=⟨λi _=>i < n,λi H x H'=>H'=H/\x=.int (lo + i),λi _=>n<=i⟩
theorem oJ {P:Program} {w:World} {K:PySem.W.Frag} {tg:Expr} (a it:Addr):Turn P w K false tg (Itl K a) [it] it (λi h=>h.IsListIter it a i) where
 mem:=by simp
 obj:=λi h st b hb=>by
   have e:b=it:=by simpa using hb
   subst e
   obtain ⟨o,e,c,d⟩:=st
   exact ⟨o,e,λv z=>by rw [d] at z; cases z⟩
 keep:=λi h h' st k=>st.at λo e=>k it (by simp) o e
 item:=by
   intro X hP hw hK hc i pins s σ H E I hf st hg
   subst hP hw hK
   obtain ⟨xs,x,hq,hx⟩:=hg
   obtain ⟨its,rv,p,hz⟩:=I.list hq
   obtain ⟨u,hu,ru⟩:=rv.get hx
   obtain ⟨f0,f1,f2,f3,f4,f5⟩:=hf it (by simp)
   refine wpAny_pyNext_list_item st p.isList (x:=u) (by simpa using hu) λh' st' sb=>?_
   have I1:Inv X pins σ H { s with heap:=h' }:=I.turned (t':=s.toks) (λb o hb e=>(sb.2 b hb).trans e) f0 f1 f3 f4 f5
   obtain ⟨o,e,c,d⟩:=id st'
   exact ⟨u,rfl,pw (s:={ s with heap:=h' }) e c d (by decide) ⟨x,H,I1,ru,⟨rfl,λys hy=>by rw [I.eE hy hq]; exact hx⟩,st',λb hb=>(hf b hb).1⟩⟩
 done:=by
   intro X hP hw hK hc i pins s σ H E I hf st hg
   subst hP hw hK
   obtain ⟨xs,hq,hx⟩:=hg
   obtain ⟨its,rv,p,hz⟩:=I.list hq
   obtain ⟨f0,f1,f2,f3,f4,f5⟩:=hf it (by simp)
   have hl:=rv.length
   exact wpAny_pyNext_list_end (I.ok.hd hc.calm) st p.isList (by simp; omega) λh' eb=>⟨rfl,I.turned (t':=s.toks) (λb o hb e=>eb b o hb e) f0 f1 f3 f4 f5⟩
 self:=λ_ _ _ _ _ st h=>wpAny_pyIter_listiter st h
theorem mF {P:Program} {w:World} {K:PySem.W.Frag} {tg:Expr} (it:Addr) (lo:Int) (n:Nat):Turn P w K true tg (Itr lo n) [it] it (λi h=>IsRangeIter h it (lo + (i:Nat) * 1) ((n:Int) - (i:Nat)) 1) where
 mem:=by simp
 obj:=λi h st b hb=>by
   have e:b=it:=by simpa using hb
   subst e
   exact ⟨_,st,λv z=>by
     have z':Data.fields _=Data.cell v:=z
     cases z'⟩
 keep:=λi h h' st k=>k it (by simp) _ st
 item:=by
   intro X hP hw hK hc i pins s σ H E I hf st hg
   subst hP hw hK
   obtain ⟨f0,f1,f2,f3,f4,f5⟩:=hf it (by simp)
   refine wpAny_pyNext_range_item st (by have:i < n:=hg; omega) λh' st0 sb=>?_
   have st':IsRangeIter h' it (lo + ((i + 1:Nat):Int) * 1) ((n:Int) - ((i + 1:Nat):Int)) 1:=by
     have e1:lo + ((i + 1:Nat):Int) * 1=lo + (i:Nat) * 1 + 1:=by omega
     have e2:(n:Int) - ((i + 1:Nat):Int)=(n:Int) - (i:Nat) - 1:=by omega
     rw [e1,e2]; exact st0
   have I1:Inv X pins σ H { s with heap:=h',toks:=s.toks + 1 }:=I.turned (λb o hb e=>(sb.2 b hb).trans e) f0 f1 f3 f4 f5
   refine ⟨_,rfl,pw (s:={ s with heap:=h',toks:=s.toks + 1 }) (n:="range_iterator") st' rfl rfl (by decide) ⟨.int (lo + i),H,I1,⟨s.toks,?_⟩,⟨rfl,rfl⟩,st',λb hb=>(hf b hb).1⟩⟩
   rw [Int.mul_one]
 done:=by
   intro X hP hw hK hc i pins s σ H E I hf st hg
   subst hP hw hK
   obtain ⟨f0,f1,f2,f3,f4,f5⟩:=hf it (by simp)
   rcases hc with hc | ⟨_,q,o,u,vs,e1,e2,e3,e4⟩
   · exact wpAny_pyNext_range_end (I.ok.hd hc) st (by have:n<=i:=hg; omega) λh' eb=>⟨rfl,I.turned (t':=s.toks) (λb o hb e=>eb b o hb e) f0 f1 f3 f4 f5⟩
   · have e5:=I.hok q _ (I.base.frzs q o u e2)
     exact Hx.l3 e1 e5.1 e3 e4 st (by have:n<=i:=hg; omega) λh' eb=>⟨rfl,I.turned (t':=s.toks) (λb o hb e=>eb b o hb e) f0 f1 f3 f4 f5⟩
 self:=λ_ _ _ _ _ st h=>wpAny_pyIter_rangeiter st h
section
variable {X:Cx} {tg:Expr}
noncomputable def vx (K:PySem.W.Frag) (tl:TE):TI:=λσ H R=>tl σ H λx H1=>∃ a,x=.ref a/\(∃ xs,SqL K H1 a xs)/\R (Itl K a) H1
theorem rm {l:Expr} {tl:TE} (hc:X.calm=true) (hl:PE X l tl):PI X tg l (vx X.K tl):=by
 intro pins s σ H R I h
 refine thn (hl pins s σ H _ I h) λv s1 ⟨x,H1,I1,r1,q1⟩=>?_
 obtain ⟨a,e,⟨xs,hq⟩,q⟩:=q1
 subst e
 cases r1
 obtain ⟨its,rv,p,hz⟩:=I1.list hq
 refine wpAny_pyIter_list p.isList ?_
 refine ⟨false,s1.heap.objs.size,[s1.heap.objs.size],_,_,H1,rfl,I1.kept (t':=s1.toks) λb o e=>Heap.get?_push_of_some _ e,.inl hc,oJ a _,⟨_,Heap.get?_push_size _ rfl,rfl,rfl⟩,λb hb=>?_,q⟩
 have e:b=s1.heap.objs.size:=by simpa using hb
 subst e
 exact I1.mG (Nat.le_refl _) (I1.hok.fresh (Nat.le_refl _))
theorem lU {pins:List (Addr × Obj)} {σ:St} {H:Hp} {s:Shared} {R:It->Hp->Prop} {E:Value->Shared->Prop} {lo hi:Int} {t u v:Tok} {tk:Nat} (hc:Ck true X) (I:Inv X pins σ H s) (h1:-(2 ^ 62)<=lo) (h2:lo < 2 ^ 62) (h3:-(2 ^ 62)<=hi) (h4:hi < 2 ^ 62)
   (q:R (Itr lo (hi - lo).toNat) H):wpAny (model X.prog X.w) X.A (pyIter (.ref s.heap.objs.size)) (PIE X pins σ tg R) E { s with heap:=s.heap.push { cls:=.type "range",data:=.fields #[.int lo t,.int hi u,.int 1 v] },toks:=tk }:=by
 refine wpAny_pyIter_range (IsRange.new ..) (small_one h1 h2 h3 h4) ?_
 have I1:Inv X pins σ H { s with heap:=s.heap.push { cls:=.type "range",data:=.fields #[.int lo t,.int hi u,.int 1 v] },toks:=tk }:=I.kept λb o e=>Heap.get?_push_of_some _ e
 refine ⟨true,(s.heap.push { cls:=.type "range",data:=.fields #[.int lo t,.int hi u,.int 1 v] }).objs.size,[(s.heap.push { cls:=.type "range",data:=.fields #[.int lo t,.int hi u,.int 1 v] }).objs.size],_,_,H,rfl,
   I1.kept (t':=tk) λb o e=>Heap.get?_push_of_some _ e,hc,mF _ lo (hi - lo).toNat,?_,λb hb=>?_,q⟩
 · have e1:lo + ((0:Nat):Int) * 1=lo:=by simp
   have e2:(((hi - lo).toNat:Nat):Int) - ((0:Nat):Int)=Builtin.Range.rangeSize lo hi 1:=by rw [rangeSize_one]; split <;> omega
   show IsRangeIter _ _ (lo + ((0:Nat):Int) * 1) ((((hi - lo).toNat:Nat):Int) - ((0:Nat):Int)) 1
   rw [e1,e2]
   exact Heap.get?_push_size _ rfl
 · have e:b=(s.heap.push { cls:=.type "range",data:=.fields #[.int lo t,.int hi u,.int 1 v] }).objs.size:=by simpa using hb
   subst e
   exact I1.mG (Nat.le_refl _) (I1.hok.fresh (Nat.le_refl _))
noncomputable def vo (ta:TA):TI:=λσ H R=>ta σ H λvs H1=>∃ j:Int,vs=[.int j]/\-(2 ^ 62)<=j/\j < 2 ^ 62/\R (Itr 0 j.toNat) H1
noncomputable def vt (ta:TA):TI:=λσ H R=>ta σ H λvs H1=>∃ i j:Int,vs=[.int i,.int j]/\(-(2 ^ 62)<=i/\i < 2 ^ 62/\-(2 ^ 62)<=j/\j < 2 ^ 62)/\R (Itr i (j - i).toNat) H1
theorem jM {a:Expr} {ta:TA} {p pos:Pos} (hc:Ck true X) (hg:Gl X "range") (hm:X.mg "range" = none) (ha:PA X [a] ta) (hs:starEach [a] X.env=[(false,eval a X.env)]:=by rfl):PI X tg (.Call (.Name "range" p) [a] [] pos) (vo ta):=by
 intro pins s σ H R I h
 refine Call_ (eO I hg hm boot_range (PyProof.Rows.callWith_type1 (thn (ha pos pins s σ H _ I h) λus s1 ⟨vs,H1,I1,r1,q1⟩=>?_) hs rfl))
 obtain ⟨j,e,q1,q2,q⟩:=q1
 subst e
 cases r1 with
 | cons r rr=>
   cases rr
   obtain ⟨t,rfl⟩:=r
   exact call_range_1 (lU hc I1 (by omega) (by omega) q1 q2 (by simpa using q))
theorem og {a b:Expr} {ta:TA} {p pos:Pos} (hc:Ck true X) (hg:Gl X "range") (hm:X.mg "range" = none) (ha:PA X [a,b] ta) (hs:starEach [a,b] X.env=[(false,eval a X.env),(false,eval b X.env)]:=by rfl) (hs2:starEach [b] X.env=[(false,eval b X.env)]:=by rfl) :
   PI X tg (.Call (.Name "range" p) [a,b] [] pos) (vt ta):=by
 intro pins s σ H R I h
 refine Call_ (eO I hg hm boot_range (PyProof.Rows.callWith_type1 (thn (ha pos pins s σ H _ I h) λus s1 ⟨vs,H1,I1,r1,q1⟩=>?_) (by rw [hs,hs2]) (by rw [hs2]; rfl)))
 obtain ⟨i,j,e,⟨q1,q2,q3,q4⟩,q⟩:=q1
 subst e
 cases r1 with
 | cons r rr=>
   cases rr with
   | cons r' rr=>
     cases rr
     obtain ⟨t,rfl⟩:=r
     obtain ⟨t',rfl⟩:=r'
     exact call_range_2 (lU hc I1 q1 q2 q3 q4 q)
noncomputable def wY (wi:TI) (g:TG) (tb:TS):TS:=λD σ H=>wi σ H λJ H1=>∃ W:Nat->Nat->St->Hp->Prop,(∃ m,W 0 m σ H1)/\∀ i m σ H,W i m σ H ->
 (J.stop i H/\D.nx σ H)\/(J.go i H/\∃ N:St->Hp->Prop,(∀ σ' H',N σ' H'->∃ m',m' < m/\W (i + 1) m' σ' H')/\∀ x H',J.yld i H x H'->g x σ H' λσ2 H2=>tb { D with nx:=N,ct:=N,bk:=D.nx } σ2 H2)
noncomputable def fM (fp:List Addr) (h:Heap):List (Addr × Obj):=fp.filterMap λb=>(h.get? b).map λo=>(b,o)
theorem bE {fp:List Addr} {h:Heap} {b:Addr} {o:Obj} (hb:b ∈ fp) (e:h.get? b=some o):(b,o) ∈ fM fp h:=List.mem_filterMap.mpr ⟨b,hb,by rw [e]; rfl⟩
theorem oi {fp:List Addr} {h:Heap} {p:Addr × Obj} (hp:p ∈ fM fp h):p.1 ∈ fp/\h.get? p.1=some p.2:=by
 obtain ⟨b,hb,e⟩:=List.mem_filterMap.mp hp
 cases q:h.get? b with
 | none=>rw [q] at e; cases e
 | some o=>
   rw [q] at e
   have e':(b,o)=p:=Option.some.inj e
   subst e'
   exact ⟨hb,q⟩
theorem Inv.pinned {pins:List (Addr × Obj)} {σ:St} {H:Hp} {s:Shared} {fp:List Addr} (I:Inv X pins σ H s) (hf:∀ b ∈ fp,jd X pins H b) (ho:∀ b ∈ fp,∃ o,s.heap.get? b=some o/\∀ v,o.data ≠ .cell v):Inv X (pins++fM fp s.heap) σ H s:=
 I.nX λp hp=>(List.mem_append.mp hp).elim (λz=>I.pin p (List.mem_append_right _ z)) λz=>by
   obtain ⟨hb,e⟩:=oi z
   obtain ⟨f0,f1,f2,_⟩:=hf p.1 hb
   obtain ⟨o,e',d⟩:=ho p.1 hb
   rw [e] at e'; cases e'
   exact ⟨e,f0,f1,f2,d⟩
theorem Inv.cQ {pins pl:List (Addr × Obj)} {σ:St} {H:Hp} {s:Shared} (I:Inv X (pins++pl) σ H s):Inv X pins σ H s:=I.nX λp hp=>I.pin p (List.mem_append_right _ (List.mem_append_left _ hp))
theorem uA {iter:Expr} {body:List Stmt} {wi:TI} {g:TG} {tb:TS} {pos:Pos} (hp:PassesOwn (model X.prog X.w) X.A X.env X.xe) (hi:PI X tg iter wi) (hg:PG X tg g) (hb:PSs X body tb)
   (hs:∀ x,foldedSetIterable iter X.env x=pure x:=by intro _; rfl):PS X (.For tg iter body [] pos) (wY wi g tb):=by
 intro pins s σ H D I h
 refine wpAny_For (thn (hi pins s σ H _ I h) λv s1 h1=>thn h1 λitv s2 h2=>?_) hs
 obtain ⟨kd,it,fp,tn,J,H2,e,I2,hc,T,st2,f2,W,⟨m0,w0⟩,turn⟩:=h2
 subst e
 have stat:∀ {H':Hp},(∀ b ∈ fp,H' b=none)->∀ b ∈ fp,jd X pins H' b:=λhn b hb=>⟨hn b hb,(f2 b hb).2⟩
 refine codeAny_forLoop_any (λn s'=>∃ i σ' H',Inv X pins σ' H' s'/\tn i s'.heap/\(∀ b ∈ fp,H' b=none)/\W i n σ' H') ?_ m0 ⟨0,σ,H2,I2,st2,λb hb=>(f2 b hb).1,w0⟩
 rintro n s3 ⟨i,σ3,H3,I3,st3,fr3,w3⟩
 rcases turn i n σ3 H3 w3 with ⟨stop,qn⟩ | ⟨go,N,hN,step⟩
 · refine wpAny_passesOwn hp (thn (T.done X rfl rfl rfl hc i pins s3 σ3 H3 X.xe I3 (stat fr3) st3 stop) λr s4 ⟨hr,I4⟩=>?_)
   subst hr
   exact wpAny_execs_nil ⟨σ3,H3,I4,qn⟩
 · refine wpAny_passesOwn hp (thn (T.item X rfl rfl rfl hc i pins s3 σ3 H3 X.xe I3 (stat fr3) st3 go) λr s4 ⟨u,hr,h4⟩=>?_)
   subst hr
   refine wpAny_passesOwn hp (thn h4 λ_ s5 ⟨x,H5,I5,r5,y5,st5,fr5⟩=>?_)
   have I5':=I5.pinned (stat fr5) (T.obj _ _ st5)
   refine wpAny_passesOwn hp (thn (hg _ s5 σ3 H5 x u _ I5' r5 (step x H5 y5)) λ_ s6 ⟨σ6,H6,I6,q6⟩=>?_)
   refine wpAny_passesOwn hp (thn (hb _ s6 σ6 H6 _ I6 q6) λf s7 q7=>?_)
   have again:∀ {σ7:St} {H7:Hp},Inv X (pins++fM fp s5.heap) σ7 H7 s7->N σ7 H7->∃ m,m < n/\∃ i σ' H',Inv X pins σ' H' s7/\tn i s7.heap/\(∀ b ∈ fp,H' b=none)/\W i m σ' H':=λ{σ7 H7} I7 n7=>by
     obtain ⟨m',hm,w7⟩:=hN σ7 H7 n7
     refine ⟨m',hm,i + 1,σ7,H7,I7.cQ,T.keep _ _ _ st5 λb hb o e=>(I7.pin (b,o) (List.mem_append_right _ (List.mem_append_right _ (bE hb e)))).1,λb hb=>?_,w7⟩
     obtain ⟨o,e,d⟩:=T.obj _ _ st5 b hb
     exact (I7.pin (b,o) (List.mem_append_right _ (List.mem_append_right _ (bE hb e)))).2.1
   cases f with
   | next=>obtain ⟨σ7,H7,I7,n7⟩:=q7; exact again I7 n7
   | cont=>obtain ⟨σ7,H7,I7,n7⟩:=q7; exact again I7 n7
   | brk=>obtain ⟨σ7,H7,I7,q7⟩:=q7; exact ⟨σ7,H7,I7.cQ,q7⟩
   | ret v=>obtain ⟨x7,σ7,H7,I7,r7,q7⟩:=q7; exact ⟨x7,σ7,H7,I7.cQ,r7,q7⟩
end
noncomputable abbrev R2:=V->V->Hp->VK->Prop
noncomputable def OpR (X:Cx) (f:Value->Value->Sem Value) (r:R2):Prop:=
 ∀ (pins:List (Addr × Obj)) (s:Shared) (σ:St) (H:Hp) (x y:V) (v u:Value) (Q:VK),Inv X pins σ H s->RelV x v->RelV y u->r x y H Q ->
   wpAny (model X.prog X.w) X.A (f v u) (EP X pins σ Q) X.xe s
noncomputable def UnR (X:Cx) (f:Value->Sem Value) (r:V->Hp->VK->Prop):Prop:=
 ∀ (pins:List (Addr × Obj)) (s:Shared) (σ:St) (H:Hp) (x:V) (v:Value) (Q:VK),Inv X pins σ H s->RelV x v->r x H Q ->
   wpAny (model X.prog X.w) X.A (f v) (EP X pins σ Q) X.xe s
noncomputable def dN (X:Cx) (f:Value) (r:List V->Hp->VK->Prop):Prop:=
 ∀ (pins:List (Addr × Obj)) (s:Shared) (σ:St) (H:Hp) (xs:List V) (us:List Value) (Q:VK),Inv X pins σ H s->Vals xs us->r xs H Q ->
   wpAny (model X.prog X.w) X.A (call f us) (EP X pins σ Q) X.xe s
noncomputable def tOp (r:R2) (ta tb:TE):TE:=λσ H Q=>ta σ H λx H1=>tb σ H1 λy H2=>r x y H2 Q
noncomputable def tUn (r:V->Hp->VK->Prop) (ta:TE):TE:=λσ H Q=>ta σ H λx H1=>r x H1 Q
noncomputable def rI (C:Int->Int->Prop) (g:Int->Int->V):R2:=λx y H Q=>∃ i j,x=.int i/\y=.int j/\C i j/\Q (g i j) H
noncomputable def rI0 (g:Int->Int->V):R2:=λx y H Q=>∃ i j,x=.int i/\y=.int j/\Q (g i j) H
noncomputable def rU (g:Int->V):V->Hp->VK->Prop:=λx H Q=>∃ i,x=.int i/\Q (g i) H
section
variable {X:Cx} {a b c:Expr} {ta tb tc:TE} {pos:Pos}
theorem tf (ha:PE X a ta) (hb:PE X b tb) {pins:List (Addr × Obj)} {s:Shared} {σ:St} {H:Hp} {R:V->V->Hp->Prop} (I:Inv X pins σ H s)
   (h:ta σ H λx H1=>tb σ H1 λy H2=>R x y H2) {Q:Value->Shared->Prop} {f:Value->Value->Sem Value}
   (hf:∀ v u s2 x y H2,Inv X pins σ H2 s2->RelV x v->RelV y u->R x y H2->wpAny (model X.prog X.w) X.A (f v u) Q X.xe s2) :
   wpAny (model X.prog X.w) X.A (eval a X.env) (λv s₁=>wpAny (model X.prog X.w) X.A (eval b X.env) (λu s₂=>wpAny (model X.prog X.w) X.A (f v u) Q X.xe s₂) X.xe s₁) X.xe s:=by
 refine thn (ha pins s σ H _ I h) λv s1 ⟨x,H1,I1,r1,q1⟩=>?_
 refine thn (hb pins s1 σ H1 _ I1 q1) λu s2 ⟨y,H2,I2,r2,q2⟩=>?_
 exact hf v u s2 x y H2 I2 r1 r2 q2
theorem pd {op:Operator} {r:R2} (ho:OpR X (binaryOp op) r) (ha:PE X a ta) (hb:PE X b tb):PE X (.BinOp a op b pos) (tOp r ta tb):=by
 intro pins s σ H Q I h
 exact wpAny_BinOp (tf ha hb I h λv u s2 x y H2 I2 rx ry q=>ho pins s2 σ H2 x y v u Q I2 rx ry q)
theorem vg {op:UnaryOp} {r:V->Hp->VK->Prop} (ho:UnR X (unaryOp op) r) (ha:PE X a ta):PE X (.UnaryOp op a pos) (tUn r ta):=by
 intro pins s σ H Q I h
 exact UnaryOp_ (thn (ha pins s σ H _ I h) λv s1 ⟨x,H1,I1,r1,q1⟩=>ho pins s1 σ H1 x v Q I1 r1 q1)
theorem opI {f:Value->Value->Sem Value} {C:Int->Int->Prop} {g:Int->Int->Int}
   (rule:∀ (i j:Int) (t u:Tok) (s:Shared) (Q:Value->Shared->Prop) (E:Value->Shared->Prop),C i j->Q (.int (g i j) s.toks) { s with toks:=s.toks + 1 }->wpAny (model X.prog X.w) X.A (f (.int i t) (.int j u)) Q E s) :
   OpR X f (rI C λi j=>.int (g i j)):=by
 intro pins s σ H x y v u Q I rx ry h
 obtain ⟨i,j,rfl,rfl,hc,q⟩:=h
 obtain ⟨t,rfl⟩:=rx
 obtain ⟨t',rfl⟩:=ry
 exact rule i j t t' s _ _ hc ⟨.int (g i j),H,I.tok _,⟨_,rfl⟩,q⟩
theorem vv {f:Value->Value->Sem Value} {g:Int->Int->Int}
   (rule:∀ (i j:Int) (t u:Tok) (s:Shared) (Q:Value->Shared->Prop) (E:Value->Shared->Prop),Q (.int (g i j) s.toks) { s with toks:=s.toks + 1 }->wpAny (model X.prog X.w) X.A (f (.int i t) (.int j u)) Q E s) :
   OpR X f (rI0 λi j=>.int (g i j)):=by
 intro pins s σ H x y v u Q I rx ry h
 obtain ⟨i,j,rfl,rfl,q⟩:=h
 obtain ⟨t,rfl⟩:=rx
 obtain ⟨t',rfl⟩:=ry
 exact rule i j t t' s _ _ ⟨.int (g i j),H,I.tok _,⟨_,rfl⟩,q⟩
theorem rL {f:Value->Value->Sem Value} {g:Int->Int->Bool}
   (rule:∀ (i j:Int) (t u:Tok) (s:Shared) (Q:Value->Shared->Prop) (E:Value->Shared->Prop),Q (.bool (g i j)) s->wpAny (model X.prog X.w) X.A (f (.int i t) (.int j u)) Q E s) :
   OpR X f (rI0 λi j=>.bl (g i j)):=by
 intro pins s σ H x y v u Q I rx ry h
 obtain ⟨i,j,rfl,rfl,q⟩:=h
 obtain ⟨t,rfl⟩:=rx
 obtain ⟨t',rfl⟩:=ry
 exact rule i j t t' s _ _ ⟨.bl (g i j),H,I,rfl,q⟩
noncomputable def vU (i j:Int):Prop:=0<=j/\j<=1000000/\i.natAbs < 2 ^ 64
theorem uu:OpR X (binaryOp .Add) (rI0 λi j=>.int (i + j)):=vv λ_ _ _ _ _ _ _ q=>add_int q
theorem tM:OpR X (binaryOp .Sub) (rI0 λi j=>.int (i - j)):=vv λ_ _ _ _ _ _ _ q=>sub_int q
theorem se:OpR X (binaryOp .Mod) (rI (λ_ j=>j ≠ 0) λi j=>.int (i.fmod j)):=opI λ_ _ _ _ _ _ _ hc q=>mod_int' hc q
theorem tR:OpR X (binaryOp .Pow) (rI vU λi j=>.int (i ^ j.toNat)):=opI λ_ _ _ _ _ _ _ hc q=>pow_int_small hc.1 hc.2.1 hc.2.2 q
theorem unI {f:Value->Sem Value} {g:Int->Int}
   (rule:∀ (i:Int) (t:Tok) (s:Shared) (Q:Value->Shared->Prop) (E:Value->Shared->Prop),Q (.int (g i) s.toks) { s with toks:=s.toks + 1 }->wpAny (model X.prog X.w) X.A (f (.int i t)) Q E s) :
   UnR X f (rU λi=>.int (g i)):=by
 intro pins s σ H x v Q I rx h
 obtain ⟨i,rfl,q⟩:=h
 obtain ⟨t,rfl⟩:=rx
 exact rule i t s _ _ ⟨.int (g i),H,I.tok _,⟨_,rfl⟩,q⟩
theorem t6:UnR X (unaryOp .USub) (rU λi=>.int (-i)):=unI λ_ _ _ _ _ q=>neg_int q
end
noncomputable def vk:V->V->Bool
 | .non,.non=>true | .non,.int _=>true | .int _,.non=>true | .non,.bl _=>true | .bl _,.non=>true | .non,.str _=>true | .str _,.non=>true
 | .int _,.int _=>true | .bl _,.bl _=>true | .str _,.str _=>true | .byt _,.byt _=>true
 | .int _,.str _=>true | .str _,.int _=>true | .bl _,.str _=>true | .str _,.bl _=>true
 | _,_=>false
noncomputable def rEq:R2:=λx y H Q=>vk x y=true/\Q (.bl (decide (x=y))) H
noncomputable def rNe:R2:=λx y H Q=>vk x y=true/\Q (.bl (!decide (x=y))) H
theorem mZ {i j:Int}:decide (V.int i=V.int j)=(i == j):=by
 rw [Bool.eq_iff_iff]
 simp
theorem o3 {i j:Bool}:decide (V.bl i=V.bl j)=(i == j):=by
 rw [Bool.eq_iff_iff]
 simp
theorem n4 {i j:Str}:decide (V.str i=V.str j)=(i == j):=by
 rw [Bool.eq_iff_iff]
 simp
theorem nR {i j:Array UInt8}:decide (V.byt i=V.byt j)=(i.toList == j.toList):=by
 rw [Bool.eq_iff_iff]
 cases i
 cases j
 simp
section
variable {X:Cx} {a b c:Expr} {ta tb tc:TE} {pos:Pos}
theorem aO {pins:List (Addr × Obj)} {σ:St} {H:Hp} {s:Shared} {Q:VK} {k k':Bool} (I:Inv X pins σ H s) (q:Q (.bl k) H) (e:k=k'):EP X pins σ Q (.bool k') s:=by
 subst e
 exact ⟨.bl k,H,I,rfl,q⟩
theorem sL:OpR X (compareOp .Eq) rEq:=by
 intro pins s σ H x y v u Q I rx ry h
 obtain ⟨hs,q⟩:=h
 cases x with
 | non=>
   cases rx
   cases y with
   | non=>cases ry; exact PySem.EqNone.eq_none_none (aO I q (by simp))
   | bl j=>cases ry; exact PySem.EqNone.eq_none_bool (aO I q (by simp))
   | int j=>obtain ⟨t',rfl⟩:=ry; exact PySem.EqNone.eq_none_int (aO I q (by simp))
   | str j=>obtain ⟨t',rfl⟩:=ry; exact PySem.EqNone.eq_none_str (aO I q (by simp))
   | _=>exact absurd (show false=true from hs) Bool.false_ne_true
 | bl i=>
   cases rx
   cases y with
   | non=>cases ry; exact PySem.EqNone.eq_bool_none (aO I q (by simp))
   | bl j=>cases ry; exact eq_bool (aO I q o3)
   | str j=>obtain ⟨t',rfl⟩:=ry; exact PySem.EqMixed.eq_bool_str (aO I q (by simp))
   | _=>exact absurd (show false=true from hs) Bool.false_ne_true
 | int i=>
   obtain ⟨t,rfl⟩:=rx
   cases y with
   | non=>cases ry; exact PySem.EqNone.eq_int_none (aO I q (by simp))
   | int j=>obtain ⟨t',rfl⟩:=ry; exact eq_int (aO I q mZ)
   | str j=>obtain ⟨t',rfl⟩:=ry; exact PySem.EqMixed.eq_int_str (aO I q (by simp))
   | _=>exact absurd (show false=true from hs) Bool.false_ne_true
 | str i=>
   obtain ⟨t,rfl⟩:=rx
   cases y with
   | non=>cases ry; exact PySem.EqNone.eq_str_none (aO I q (by simp))
   | bl j=>cases ry; exact PySem.EqMixed.eq_str_bool (aO I q (by simp))
   | int j=>obtain ⟨t',rfl⟩:=ry; exact PySem.EqMixed.eq_str_int (aO I q (by simp))
   | str j=>obtain ⟨t',rfl⟩:=ry; exact eq_str (aO I q n4)
   | _=>exact absurd (show false=true from hs) Bool.false_ne_true
 | byt i=>
   obtain ⟨t,rfl⟩:=rx
   cases y with
   | byt j=>obtain ⟨t',rfl⟩:=ry; exact PySem.W.eq_bytes (aO I q nR)
   | _=>exact absurd (show false=true from hs) Bool.false_ne_true
 | _=>cases y <;> exact absurd (show false=true from hs) Bool.false_ne_true
theorem sW:OpR X (compareOp .NotEq) rNe:=by
 intro pins s σ H x y v u Q I rx ry h
 obtain ⟨hs,q⟩:=h
 cases x with
 | non=>
   cases rx
   cases y with
   | non=>cases ry; exact PySem.EqNone.ne_none_none (aO I q (by simp))
   | bl j=>cases ry; exact PySem.EqNone.ne_none_bool (aO I q (by simp))
   | int j=>obtain ⟨t',rfl⟩:=ry; exact PySem.EqNone.ne_none_int (aO I q (by simp))
   | str j=>obtain ⟨t',rfl⟩:=ry; exact PySem.EqNone.ne_none_str (aO I q (by simp))
   | _=>exact absurd (show false=true from hs) Bool.false_ne_true
 | bl i=>
   cases rx
   cases y with
   | non=>cases ry; exact PySem.EqNone.ne_bool_none (aO I q (by simp))
   | bl j=>cases ry; exact ne_bool (aO I q (congrArg not o3))
   | str j=>obtain ⟨t',rfl⟩:=ry; exact PySem.EqMixed.ne_bool_str (aO I q (by simp))
   | _=>exact absurd (show false=true from hs) Bool.false_ne_true
 | int i=>
   obtain ⟨t,rfl⟩:=rx
   cases y with
   | non=>cases ry; exact PySem.EqNone.ne_int_none (aO I q (by simp))
   | int j=>obtain ⟨t',rfl⟩:=ry; exact ne_int (aO I q (congrArg not mZ))
   | str j=>obtain ⟨t',rfl⟩:=ry; exact PySem.EqMixed.ne_int_str (aO I q (by simp))
   | _=>exact absurd (show false=true from hs) Bool.false_ne_true
 | str i=>
   obtain ⟨t,rfl⟩:=rx
   cases y with
   | non=>cases ry; exact PySem.EqNone.ne_str_none (aO I q (by simp))
   | bl j=>cases ry; exact PySem.EqMixed.ne_str_bool (aO I q (by simp))
   | int j=>obtain ⟨t',rfl⟩:=ry; exact PySem.EqMixed.ne_str_int (aO I q (by simp))
   | str j=>obtain ⟨t',rfl⟩:=ry; exact ne_str (aO I q (congrArg not n4))
   | _=>exact absurd (show false=true from hs) Bool.false_ne_true
 | byt i=>
   obtain ⟨t,rfl⟩:=rx
   cases y with
   | byt j=>obtain ⟨t',rfl⟩:=ry; exact PySem.W.ne_bytes (aO I q (congrArg not nR))
   | _=>exact absurd (show false=true from hs) Bool.false_ne_true
 | _=>cases y <;> exact absurd (show false=true from hs) Bool.false_ne_true
theorem vz:OpR X (compareOp .Lt) (rI0 λi j=>.bl (decide (i < j))):=rL λ_ _ _ _ _ _ _ q=>lt_int q
theorem vY:OpR X (compareOp .LtE) (rI0 λi j=>.bl (decide (i<=j))):=rL λ_ _ _ _ _ _ _ q=>le_int q
theorem v9:OpR X (compareOp .Gt) (rI0 λi j=>.bl (decide (j < i))):=rL λ_ _ _ _ _ _ _ q=>gt_int q
theorem vy:OpR X (compareOp .GtE) (rI0 λi j=>.bl (decide (j<=i))):=rL λ_ _ _ _ _ _ _ q=>ge_int q
theorem qZ (b:Expr) {op:CmpOp} (h:op ≠ .In:=by decide) (h2:op ≠ .NotIn:=by decide):behindInMarks op b=false:=by
 have e1:(op == CmpOp.In)=false:=by cases op <;> first | rfl | exact absurd rfl h
 have e2:(op == CmpOp.NotIn)=false:=by cases op <;> first | rfl | exact absurd rfl h2
 cases b <;> simp [behindInMarks,e1,e2]
theorem rq {op:CmpOp} {r:R2} (ho:OpR X (compareOp op) r) (ha:PE X a ta) (hb:PE X b tb) (hm:behindInMarks op b=false):PE X (.Compare a [op] [b] pos) (tOp r ta tb):=by
 intro pins s σ H Q I h
 exact wpAny_Compare1 (tf ha hb I h λv u s2 x y H2 I2 rx ry q=>ho pins s2 σ H2 x y v u Q I2 rx ry q) hm
noncomputable def sF (t:TE):TT:=λσ H Q=>t σ H λx H'=>∃ k,x=.bl k/\Q k H'
theorem rG {op:CmpOp} {r:R2} (ho:OpR X (compareOp op) r) (ha:PE X a ta) (hb:PE X b tb) (hm:behindInMarks op b=false):PT X (.Compare a [op] [b] pos) (sF (tOp r ta tb)):=by
 intro pins s σ H Q I h
 refine wpAny_isTrue_Compare1 (thn (ha pins s σ H _ I h) λv s1 ⟨x,H1,I1,r1,q1⟩=>thn (hb pins s1 σ H1 _ I1 q1) λu s2 ⟨y,H2,I2,r2,q2⟩=>
   thn (ho pins s2 σ H2 x y v u _ I2 r1 r2 q2) λc s3 ⟨z,H3,I3,r3,k,e,q3⟩=>?_) hm
 subst e
 cases r3
 exact wpAny_truthy_bool ⟨H3,I3,q3⟩
noncomputable def mC (r r':R2) (ta tb tc:TE):TE:=λσ H Q=>ta σ H λx H1=>tb σ H1 λy H2=>r x y H2 λz H3=>∃ k,z=.bl k /\
 (if k=true then tc σ H3 λw' H4=>r' y w' H4 Q else Q (.bl false) H3)
theorem qE {op op':CmpOp} {r r':R2} (ho:OpR X (compareOp op) r) (ho':OpR X (compareOp op') r') (ha:PE X a ta) (hb:PE X b tb) (hc:PE X c tc)
   (hm:lastMarks [op,op'] [b,c]=false:=by with_unfolding_all rfl):PE X (.Compare a [op,op'] [b,c] pos) (mC r r' ta tb tc):=by
 intro pins s σ H Q I h
 refine Compare_chain (thn (ha pins s σ H _ I h) λv s1 ⟨x,H1,I1,r1,q1⟩=>chain_link (thn (hb pins s1 σ H1 _ I1 q1) λu s2 ⟨y,H2,I2,r2,q2⟩=>
   thn (ho pins s2 σ H2 x y v u _ I2 r1 r2 q2) λd s3 ⟨z,H3,I3,r3,k,e,q3⟩=>?_)) hm
 subst e
 cases r3
 refine wpAny_truthy_bool ?_
 cases k with
 | false=>exact ite_ff ⟨.bl false,H3,I3,rfl,q3⟩
 | true=>exact ite_tt (chain_last (thn (hc pins s3 σ H3 _ I3 q3) λw' s4 ⟨z',H4,I4,r4,q4⟩=>ho' pins s4 σ H4 y z' u w' Q I4 r2 r4 q4))
theorem qY {op op':CmpOp} {r r':R2} (ho:OpR X (compareOp op) r) (ho':OpR X (compareOp op') r') (ha:PE X a ta) (hb:PE X b tb) (hc:PE X c tc)
   (hm:lastMarks [op,op'] [b,c]=false:=by with_unfolding_all rfl):PT X (.Compare a [op,op'] [b,c] pos) (sF (mC r r' ta tb tc)):=by
 intro pins s σ H Q I h
 refine isTrue_chain (thn (ha pins s σ H _ I h) λv s1 ⟨x,H1,I1,r1,q1⟩=>test_link (thn (hb pins s1 σ H1 _ I1 q1) λu s2 ⟨y,H2,I2,r2,q2⟩=>
   thn (ho pins s2 σ H2 x y v u _ I2 r1 r2 q2) λd s3 ⟨z,H3,I3,r3,k,e,q3⟩=>?_)) hm
 subst e
 cases r3
 refine wpAny_truthy_bool ?_
 cases k with
 | false=>
   obtain ⟨k',e',q'⟩:=q3
   cases e'
   exact ite_ff ⟨H3,I3,q'⟩
 | true=>
   refine ite_tt (test_last (thn (hc pins s3 σ H3 _ I3 q3) λw' s4 ⟨z',H4,I4,r4,q4⟩=>thn (ho' pins s4 σ H4 y z' u w' _ I4 r2 r4 q4) λd' s5 ⟨z2,H5,I5,r5,k2,e2,q5⟩=>?_))
   subst e2
   cases r5
   exact wpAny_truthy_bool ⟨H5,I5,q5⟩
theorem kq:(sizeLine:Nat) < 2 ^ 63:=by rw [sizeLine_eq]; decide
theorem vals1 {x:V} {us:List Value} (r:Vals [x] us):∃ u,us=[u]/\RelV x u:=by
 cases r with
 | cons r1 r2=>cases r2; exact ⟨_,rfl,r1⟩
theorem vals2 {x y:V} {us:List Value} (r:Vals [x,y] us):∃ u w',us=[u,w']/\RelV x u/\RelV y w':=by
 cases r with
 | cons r1 r2=>
   cases r2 with
   | cons r3 r4=>cases r4; exact ⟨_,_,rfl,r1,r3⟩
theorem qg:dN X (.builtin "abs") (λxs H Q=>∃ i,xs=[.int i]/\Q (.int (if i < 0 then -i else i)) H):=by
 intro pins s σ H xs us Q I r h
 obtain ⟨i,rfl,q⟩:=h
 obtain ⟨u,rfl,t,rfl⟩:=vals1 r
 exact call_abs_int λu tk=>⟨.int (if i < 0 then -i else i),H,I.tok _,⟨_,rfl⟩,q⟩
theorem oy (hc:X.calm=true):dN X (.builtin "max") (λxs H Q=>∃ i j,xs=[.int i,.int j]/\Q (.int (if j > i then j else i)) H):=by
 intro pins s σ H xs us Q I r h
 obtain ⟨i,j,rfl,q⟩:=h
 obtain ⟨u,w',rfl,⟨t,rfl⟩,⟨t',rfl⟩⟩:=vals2 r
 refine max_two_ints (I.ok.hd hc) λh' tk k=>⟨_,H,I.kept k,?_,q⟩
 by_cases hj:j > i
 · rw [if_pos hj,if_pos hj]; exact ⟨_,rfl⟩
 · rw [if_neg hj,if_neg hj]; exact ⟨_,rfl⟩
theorem oX:dN X (.type "int") (λxs H Q=>(∃ i,xs=[.int i]/\Q (.int i) H)\/∃ k,xs=[.bl k]/\Q (.int (if k then 1 else 0)) H):=by
 intro pins s σ H xs us Q I r h
 rcases h with ⟨i,rfl,q⟩ | ⟨k,rfl,q⟩
 · obtain ⟨u,rfl,t,rfl⟩:=vals1 r
   exact call_int_int ⟨.int i,H,I,⟨_,rfl⟩,q⟩
 · obtain ⟨u,rfl,r1⟩:=vals1 r
   cases r1
   exact call_int_bool ⟨.int (if k then 1 else 0),H,I.tok _,⟨_,rfl⟩,q⟩
end
section
variable {prog:Program} {w:World} {A:Around} {E:Value->Shared->Prop} {s:Shared} {K:PySem.W.Frag} {x dx C f:Addr} {mA:Str->Option Value} {name:Str} {v:Value}
end
section
variable {P:Program} {w:World} {H H':Hp} {h h':Heap} {a C dx:Addr} {fs fs':List (Str × V)}
end
section
variable {X:Cx} {pins:List (Addr × Obj)} {σ:St} {H:Hp} {s:Shared} {a C dx:Addr} {fs:List (Str × V)} {f:Str} {v:V} {A:Around} {E:Value->Shared->Prop}
end
section
variable {X:Cx} {o e value:Expr} {f:Str} {pos pos' tpos:Pos} {ta tv:TE}
end
section
variable {X:Cx} {pins:List (Addr × Obj)} {σ:St} {H:Hp} {s:Shared} {A:Around} {E:Value->Shared->Prop} {Q:Value->Shared->Prop} {c:Value} {b:Bool}
end
structure cZ (k:Nat) (A:Around):Prop where
 hd:A.handled=none
 dp:A.depth + 3 * k + 5 < recursionLimit
 un:A.units + 16 * k + 200 < cLine
theorem cZ.mono {j k:Nat} {A:Around} (r:cZ k A) (h:j<=k):cZ j A:=⟨r.hd,by have:=r.dp; omega,by have:=r.un; omega⟩
theorem cZ.deeper {k:Nat} {A:Around} (r:cZ (k + 1) A) (env:Env):cZ k (A.deeper env):=
 ⟨r.hd,by have:=r.dp; show A.depth + 1 + 3 * k + 5 < _; omega,by have:=r.un; show A.units + 3 + 16 * k + 200 < _; omega⟩
theorem cZ.depth {k:Nat} {A:Around} (r:cZ k A):A.depth < recursionLimit:=by have:=r.dp; omega
theorem cZ.units {k:Nat} {A:Around} (r:cZ k A):A.units + 64 < cLine:=by have:=r.un; omega
noncomputable def w9:TA:=λ_ H Q=>Q [] H
noncomputable def vK (ta:TE) (tr:TA):TA:=λσ H Q=>ta σ H λx H1=>tr σ H1 λxs H2=>Q (x :: xs) H2
section
variable {X:Cx} {e:Expr} {es:List Expr} {te:TE} {t:TA} {pos:Pos}
theorem fJ:PA X [] w9:=λ_ _ _ _ H Q I h=>Calls.spliced_nil ⟨[],H,I,.nil,h⟩
theorem bP (ha:PE X e te) (hr:PA X es t) (hs:starEach (e :: es) X.env=(false,eval e X.env) :: starEach es X.env:=by rfl):PA X (e :: es) (vK te t):=by
 intro pos pins s σ H Q I h
 rw [hs]
 show wpAny _ _ (spliced ((false,eval e X.env) :: backTo pos (starEach es X.env))) _ _ s
 refine Calls.spliced_cons (thn (ha pins s σ H _ I h) λu s1 ⟨x,H1,I1,r1,q1⟩=>?_)
 exact thn (hr pos pins s1 σ H1 _ I1 q1) λus s2 ⟨xs,H2,I2,r2,q2⟩=>⟨x :: xs,H2,I2,.cons r1 r2,q2⟩
noncomputable def wN (t:TA):TE:=λσ H Q=>t σ H λxs H1=>xs.length<=sizeLine/\∀ p,H1 p=none->Q (.ref p) (upd H1 p (.tup xs))
noncomputable def xk (t:TA):TE:=λσ H Q=>t σ H λxs H1=>xs.length<=sizeLine/\∀ p,H1 p=none->Q (.ref p) (upd H1 p (.lst xs))
theorem tY {x1} (h:PA X es t):PE X (.Tuple es x1 pos) (wN t):=by
 intro pins s σ H Q I hq
 refine wpAny_Tuple_spliced (thn (h pos pins s σ H _ I hq) λus s1 ⟨xs,H1,I1,r,z,q⟩=>⟨by rw [<- r.length]; exact z,?_⟩)
 have hf:H1 s1.heap.objs.size=none:=I1.hok.fresh (Nat.le_refl _)
 refine ⟨.ref s1.heap.objs.size,upd H1 s1.heap.objs.size (.tup xs),I1.laid (t':=s1.toks) (λb u e=>Heap.get?_push_of_some _ e) (Nat.le_refl _) ?_,rfl,q _ hf⟩
 exact ⟨z,us,r,⟨_,Heap.get?_push_size _ rfl,rfl,_,rfl⟩⟩
theorem uF (h:PA X es t):PE X (.List es pos) (xk t):=by
 intro pins s σ H Q I hq
 refine wpAny_List_spliced (thn (h pos pins s σ H _ I hq) λus s1 ⟨xs,H1,I1,r,z,q⟩=>⟨by rw [<- r.length]; exact z,?_⟩)
 have hf:H1 s1.heap.objs.size=none:=I1.hok.fresh (Nat.le_refl _)
 refine ⟨.ref s1.heap.objs.size,upd H1 s1.heap.objs.size (.lst xs),I1.laid (t':=s1.toks) (λb u e=>Heap.get?_push_of_some _ e) (Nat.le_refl _) ?_,rfl,q _ hf⟩
 exact ⟨z,us,0,r,Heap.get?_push_size _ rfl⟩
end
noncomputable abbrev Sp:=List V->Hp->VK->XK->Prop
noncomputable abbrev CXT:=List Env->Hp->Shared->XK->Value->Shared->Prop
structure qH (P:Program) (w:World) (K:PySem.W.Frag) (mg:Str->Option Value) (base:Heap) (A:Around) (outer:List Env) (s:Shared) (H:Hp):Prop where
 frames:A.frames=some outer
 mod:Mod K mg base
 bs:∀ b o,base.get? b=some o->s.heap.get? b=some o/\H b=none
 bsz:base.objs.size<=s.heap.objs.size
 gE:s.heap.FunFrames base outer
 frf:∀ b ∈ frs outer,H b=none
 hok:HOk P w H s.heap
 bare:AllBare s.gens
noncomputable def CE (outer:List Env) (P:Program) (w:World) (H:Hp) (s:Shared) (Q:VK) (u:Value) (s':Shared):Prop:=
 ∃ v H',s'.os=s.os/\AllBare s'.gens/\Un (frs outer) [] H H' s.heap s'.heap/\HOk P w H' s'.heap/\RelV v u/\Q v H'
noncomputable def CR (CX:CXT) (outer:List Env) (P:Program) (w:World) (H:Hp) (s:Shared) (Q:VK) (E:XK) (r:Result) (s':Shared):Prop:=
 match r with
 | .ok (.ret u)=>CE outer P w H s Q u s'
 | .ok _=>False
 | .error e=>CX outer H s E e s'
structure aJ (P:Program) (w:World) (K:PySem.W.Frag) (mg:Str->Option Value) (base:Heap) (CX:CXT) (k:Nat) (f:Addr) (fd:FuncData) (ps:List Str) (sp:Sp):Prop where
 len:∀ vs H Q E,sp vs H Q E->vs.length=ps.length
 run:∀ (A:Around) (outer:List Env) (s:Shared) (H:Hp) (args:Args) (us:List Value) (vs:List V) (Q:VK) (E:XK),cZ k A->qH P w K mg base A outer s H->BindsTo s fd args (ps.zip us)->Vals vs us->sp vs H Q E ->
   codeAny (model P w) A (.call (.ref f) args) (CR CX outer P w H s Q E) s
theorem aJ.mono {P:Program} {w:World} {K:PySem.W.Frag} {mg:Str->Option Value} {base:Heap} {CX:CXT} {j k:Nat} {f:Addr} {fd:FuncData} {ps:List Str} {sp:Sp} (F:aJ P w K mg base CX j f fd ps sp) (h:j<=k) :
   aJ P w K mg base CX k f fd ps sp:=⟨F.len,λA outer s H args us vs Q E hr=>F.run A outer s H args us vs Q E (hr.mono h)⟩
section
variable {X:Cx} {pins:List (Addr × Obj)} {σ:St} {H:Hp} {s s':Shared}
theorem Inv.vN (I:Inv X pins σ H s):qH X.prog X.w X.K X.mg X.base X.A X.stack s H:=
 ⟨I.ok.frames,I.ok.mod,I.bs,Nat.le_trans I.ok.bsz I.sz,I.stack,I.gm,I.hok,I.bare⟩
theorem Inv.after {Q:VK} {u:Value} (I:Inv X pins σ H s) (h:CE X.stack X.prog X.w H s Q u s'):EP X pins σ Q u s':=by
 obtain ⟨v,H',os,bare,un,hok,r,q⟩:=h
 obtain ⟨hh,g,d,t,os'⟩:=s'
 obtain rfl:os'=s.os:=os
 exact ⟨v,H',I.call (h':=hh) (g':=g) (d':=d) (t':=t) (ch:=[]) un hok bare (λb z=>absurd z (by simp)),r,q⟩
end
noncomputable def wD (sp:Sp) (dvs:List V) (E:XK) (t:TA):TE:=λσ H Q=>t σ H λvs H1=>sp (vs++dvs) H1 Q E
noncomputable def Binds (K:PySem.W.Frag) (fd:FuncData) (ps:List Str) (ds:List Value):Prop:=
 ∀ (s:Shared) (us:List Value),K.In s.heap->(us++ds).length=ps.length->BindsTo s fd ⟨us,[]⟩ (ps.zip (us++ds))
theorem Binds.all {K:PySem.W.Frag} {fd:FuncData} {ps:List Str} (h:∀ us:List Value,us.length=ps.length->bindArgs fd ⟨us,[]⟩=pure (ps.zip us)):Binds K fd ps []:=λs us _ hl=>by
 rw [List.append_nil] at hl ⊢
 exact .of_eq (h us hl)
noncomputable def Passes (CX:CXT) (X:Cx) (E:XK):Prop:=∀ (pins:List (Addr × Obj)) (σ:St) (H:Hp) (s:Shared) (e:Value) (s':Shared),Inv X pins σ H s->CX X.stack H s E e s'->X.xe e s'
section
variable {X:Cx} {CX:CXT} {k:Nat} {f C:Addr} {fd:FuncData} {ps:List Str} {sp:Sp} {dvs:List V} {ds:List Value} {E:XK} {x m:Str} {p pos apos:Pos} {e o:Expr} {es:List Expr} {ta:TE} {t:TA}
theorem tT {pins:List (Addr × Obj)} {σ:St} {H:Hp} {s:Shared} {Q:VK} {us:List Value} {vs:List V} (F:aJ X.prog X.w X.K X.mg X.base CX k f fd ps sp) (hr:cZ k X.A) (hb:Binds X.K fd ps ds) (hd:Vals dvs ds) (hx:Passes CX X E)
   (I:Inv X pins σ H s) (r:Vals vs us) (h:sp (vs++dvs) H Q E):wpAny (model X.prog X.w) X.A (call (.ref f) us) (EP X pins σ Q) X.xe s:=by
 have r2:Vals (vs++dvs) (us++ds):=r.append hd
 have hl:(us++ds).length=ps.length:=by rw [<- r2.length]; exact F.len _ _ _ _ h
 refine wpAny_call (codeAny_mono (F.run X.A X.stack s H ⟨us,[]⟩ (us++ds) (vs++dvs) Q E hr I.vN (hb s us I.kIn hl) r2 h) λr s' hq=>?_)
 cases r with
 | error e=>exact hx pins σ H s e s' I hq
 | ok fl=>
   cases fl with
   | ret u=>exact I.after hq
   | next=>exact False.elim hq
   | brk=>exact False.elim hq
   | cont=>exact False.elim hq
theorem nG (F:aJ X.prog X.w X.K X.mg X.base CX k f fd ps sp) (hr:cZ k X.A) (hg:Gl X x) (hm:X.mg x=some (.ref f)) (hk:PySem.W.keepIn X.K (.ref f)=true) (hb:Binds X.K fd ps ds) (hd:Vals dvs ds) (hx:Passes CX X E)
   (ha:PA X (e :: es) t) (hdb:(x == ("__debug__" : Str))=false:=by decide) (he:starEach (e :: es) X.env=(false,eval e X.env) :: starEach es X.env:=by rfl) (hpl:(backTo pos (starEach es X.env)).any (·.1)=false:=by rfl) :
   PE X (.Call (.Name x p) (e :: es) [] pos) (wD sp dvs E t):=by
 intro pins s σ H Q I h
 refine wpAny_Call_Name_kw (fZ I hg hm ?_ hdb)
 refine PySem.W.callWith_K (h₀:=X.base) I.ok.mod.kin hk (thn (ha pos pins s σ H _ I h) λus s1 ⟨vs,H1,I1,r,q⟩=>⟨I1.kIn,?_⟩) he hpl
 exact tT F hr hb hd hx I1 r q
end
section
variable {X:Cx} {CX:CXT} {k:Nat} {f C:Addr} {fd:FuncData} {ps ks:List Str} {sp:Sp} {E:XK} {x m:Str} {p pos apos kpos:Pos} {e o:Expr} {es:List Expr} {kws:List Keyword} {te ta:TE} {t tk:TA} {nm:Option Str}
variable {g:List Value->List Value->List Value} {gV:List V->List V->List V}
end
structure aq (N P:List Str) (sc:Scope):Prop where
 kind:sc.kind=.function
 co:sc.isCoroutine=false
 gen:sc.isGenerator=false
 nd:N.Nodup
 pre:N.take P.length=P
 par:∀ x ∈ P,sc.names.lookup x=some .local\/sc.names.lookup x=some .cell
 nofree:∀ y ∈ sc.names,y.2 ≠ .free
theorem jC {kindOf:Str->Option NameKind} {x:Str}:∀ {binds:List (Str × Value)} {m:Str->Option Value},(∀ v,(x,v) ∉ binds)->bindL kindOf binds m x=m x
 | [],_,_=>rfl
 | (n,v) :: r,m,h=>by
   unfold bindL
   rw [jC λw hw=>h w (List.mem_cons_of_mem _ hw)]
   split
   · have:x ≠ n:=by rintro rfl; exact h v List.mem_cons_self
     simp [this]
   · rfl
theorem jR {kindOf:Str->Option NameKind} {x:Str}:∀ {binds:List (Str × Value)} {m:Str->Option Value},(∀ v,(x,v) ∉ binds)->bindC kindOf binds m x=m x
 | [],_,_=>rfl
 | (n,v) :: r,m,h=>by
   unfold bindC
   rw [jR λw hw=>h w (List.mem_cons_of_mem _ hw)]
   split
   · rfl
   · have:x ≠ n:=by rintro rfl; exact h v List.mem_cons_self
     simp [this]
theorem jt {kindOf:Str->Option NameKind} {x:Str} {v:Value}:∀ {P:List Str} {vs:List Value} {i:Nat} {m:Str->Option Value},P.Nodup->P[i]?=some x->vs[i]?=some v->kindOf x=some .local ->
   bindL kindOf (P.zip vs) m x=some v
 | [],_,_,_,_,h,_,_=>by simp at h
 | _ :: _,[],_,_,_,_,h,_=>by simp at h
 | p :: P,w :: vs,0,m,nd,h1,h2,hk=>by
   simp at h1 h2; subst h1; subst h2
   show bindL kindOf ((p,w) :: P.zip vs) m p=_
   unfold bindL
   rw [jC λv hv=>(List.nodup_cons.mp nd).1 (List.of_mem_zip hv).1,if_pos hk]
   simp
 | p :: P,w :: vs,i + 1,m,nd,h1,h2,hk=>by
   show bindL kindOf ((p,w) :: P.zip vs) m x=_
   unfold bindL
   exact jt (i:=i) (List.nodup_cons.mp nd).2 (by simpa using h1) (by simpa using h2) hk
theorem jA {kindOf:Str->Option NameKind} {x:Str} {v:Value}:∀ {P:List Str} {vs:List Value} {i:Nat} {m:Str->Option Value},P.Nodup->P[i]?=some x->vs[i]?=some v->kindOf x ≠ some .local ->
   bindC kindOf (P.zip vs) m x=some v
 | [],_,_,_,_,h,_,_=>by simp at h
 | _ :: _,[],_,_,_,_,h,_=>by simp at h
 | p :: P,w :: vs,0,m,nd,h1,h2,hk=>by
   simp at h1 h2; subst h1; subst h2
   show bindC kindOf ((p,w) :: P.zip vs) m p=_
   unfold bindC
   rw [jR λv hv=>(List.nodup_cons.mp nd).1 (List.of_mem_zip hv).1,if_neg hk]
   simp
 | p :: P,w :: vs,i + 1,m,nd,h1,h2,hk=>by
   show bindC kindOf ((p,w) :: P.zip vs) m x=_
   unfold bindC
   exact jA (i:=i) (List.nodup_cons.mp nd).2 (by simpa using h1) (by simpa using h2) hk
noncomputable def start (N:List Str) (vs:List V):St:=vs.map some++List.replicate (N.length - vs.length) none
noncomputable def iB (CX:CXT) (P:Program) (w:World) (K:PySem.W.Frag) (mg:Str->Option Value) (base:Heap) (N:List Str) (qual:Str) (scope:Scope) (f:Addr) (cd:Value) (A:Around) (outer:List Env) (s:Shared) (H:Hp) (E:XK):Cx where
 prog:=P
 w:=w
 K:=K
 mg:=mg
 base:=base
 A:=A.deeper (envOfC qual scope s.heap.objs.size f cd)
 N:=N
 s₀:=s
 H₀:=H
 env:=envOfC qual scope s.heap.objs.size f cd
 outer:=outer
 stack:=envOfC qual scope s.heap.objs.size f cd :: outer
 ex:=[]
 calm:=true
 fn:=λ_=>true
 pn:=[]
 xe:=λe s'=>wpAny (model P w) (A.deeper (envOfC qual scope s.heap.objs.size f cd)) (leaving (envOfC qual scope s.heap.objs.size f cd) e) (λ_ s''=>CX outer H s E e s'') (λe' s''=>CX outer H s E e' s'') s'
theorem la {sc:Scope} {n:Nat} {x:Str} (h:sc.names.lookup x=some .cell):∃ c,(cellsFrom n sc.names []).lookup x=some c:=by
 have q:=PySem.W.cellsFrom_some sc.names n [] (.inl h)
 exact Option.isSome_iff_exists.mp q
theorem jO {CX:CXT} {P:Program} {w:World} {K:PySem.W.Frag} {mg:Str->Option Value} {base:Heap} {N ps:List Str} {qual:Str} {scope:Scope} {f:Addr} {cd:Value} {A:Around} {outer:List Env} {s s1:Shared} {H:Hp} {E:XK} {us:List Value} {vs:List V}
   (S:aq N ps scope) {cm:Bool} (hd:cm=true->A.handled=none) (e0:qH P w K mg base A outer s H) (hl:vs.length=ps.length) (r:Vals vs us)
   (x:InCallC s s.heap.objs.size (bindL (envOfC qual scope s.heap.objs.size f cd).kindOf (ps.zip us) λ_=>none) (cellsFrom (s.heap.objs.size + 1) scope.names []) (bindC (envOfC qual scope s.heap.objs.size f cd).kindOf (ps.zip us) λ_=>none) s1) :
   Inv { iB CX P w K mg base N qual scope f cd A outer s H E with calm:=cm } [] (start N vs) H s1:=by
 have hpl:ps.length<=N.length:=by have:=congrArg List.length S.pre; rw [List.length_take] at this; omega
 obtain ⟨h1,tk,rfl,hk⟩:=x.done
 have noA:∀ b:Addr,b ∉ (iB CX P w K mg base N qual scope f cd A outer s H E).ex:=λb z=>absurd (show b ∈ ([]:List Addr) from z) (by simp)
 refine ⟨⟨e0.mod,S.kind,rfl,rfl,Nat.le_refl _,λy z c h1 h2=>?_,λy hy=>?_,λy c _ h=>?_,hd,Around.frames_deeper e0.frames,.inr ⟨rfl,rfl⟩,λb z=>absurd z (noA b),e0.bs,e0.bsz,λb _ _=>noA b,λb z=>absurd z (noA b),e0.gE,e0.frf⟩,
   rfl,e0.bare,Un.kept hk,⟨_,x.toInCall.ns,λi y v h1 h2 h3=>?_⟩,λy c h=>⟨_,x.cell y c h⟩,e0.hok.fresh (Nat.le_refl _),λy c h=>?_,λp hp=>absurd (show p ∈ ([]:List (Addr × Obj)) from hp) (by simp),e0.hok.kept hk,?_⟩
 · exact name_of_addr x.apart (PySem.mem_of_lookup h1) (PySem.mem_of_lookup h2)
 · have hy:scope.names.lookup y=some .cell\/scope.names.lookup y=some .free:=hy
   rcases hy with hy | hy
   · exact la hy
   · exact absurd rfl (S.nofree _ (PySem.mem_of_lookup hy))
 · exact Nat.le_of_lt (x.above y c (PySem.mem_of_lookup h))
 · have hi:i < vs.length:=by
     unfold start at h2
     by_cases hi:i < vs.length
     · exact hi
     · rw [List.getElem?_append_right (by simpa using hi)] at h2
       rw [List.getElem?_replicate] at h2
       split at h2 <;> cases h2
   have ha:vs[i]?=some v:=by
     unfold start at h2
     rw [List.getElem?_append_left (by simpa using hi),List.getElem?_map] at h2
     cases e:vs[i]? with
     | none=>rw [e] at h2; cases h2
     | some a=>rw [e] at h2; cases h2; rfl
   obtain ⟨u,hu,rv⟩:=r.get ha
   have hp:ps[i]?=some y:=by
     rw [<- S.pre,List.getElem?_take_of_lt (by omega)]; exact h1
   have ndP:ps.Nodup:=by rw [<- S.pre]; exact S.nd.sublist (List.take_sublist _ _)
   refine ⟨u,rv,?_⟩
   rcases S.par y (List.mem_of_getElem? hp) with k | k
   · exact .inl ⟨k,jt ndP hp hu k⟩
   · obtain ⟨c,e⟩:=la (n:=s.heap.objs.size + 1) k
     refine .inr ⟨.inl k,c,e,?_⟩
     have q:=x.cell y c e
     rw [jA ndP hp hu (by show scope.names.lookup y ≠ _; rw [k]; decide)] at q
     exact q
 · exact e0.hok.fresh (Nat.le_of_lt (x.above y c (PySem.mem_of_lookup h)))
 · unfold start
   show _=N.length
   rw [List.length_append,List.length_map,List.length_replicate]
   omega
theorem sY {CX:CXT} {P:Program} {w:World} {K:PySem.W.Frag} {mg:Str->Option Value} {base:Heap} {k:Nat} {f:Addr} {name qual:Str} {params:Arguments} {body:List Stmt} {scope:Scope} {dV kV doc pm cdv ct oc:Value} {an od:Option Addr}
   {osl:Array (Option Value)} {N ps:List Str} {sp:Sp} (lk:K.lookup f=some ⟨oc,od,.func (PySem.W.fnOf name qual params body scope dV kV doc pm an cdv ct),osl⟩) (hcd:PySem.W.codeIn K cdv qual=true) (S:aq N ps scope)
   (len:∀ vs H Q E,sp vs H Q E->vs.length=ps.length)
   (hbody:∀ (A:Around) (outer:List Env) (s:Shared) (H:Hp) (vs:List V) (Q:VK) (E:XK),cZ k (A.deeper (envOfC qual scope s.heap.objs.size f cdv))->sp vs H Q E ->
     ∃ t,PSs (iB CX P w K mg base N qual scope f cdv A outer s H E) body t/\t { nx:=λ_ H'=>Q .non H',rt:=Q } (start N vs) H) :
   aJ P w K mg base CX (k + 1) f (PySem.W.fnOf name qual params body scope dV kV doc pm an cdv ct) ps sp:=by
 refine ⟨len,λA outer s H args us vs Q E hr e0 hb r hsp=>?_⟩
 have hl:=len _ _ _ _ hsp
 have KX:K.In s.heap:=e0.mod.kin.keeps λb o e=>(e0.bs b o e).1
 have lim:s.heap.NoLimit:=e0.mod.nolimit.keeps λb o e=>(e0.bs b o e).1
 have hkind:∀ y ∈ ps.zip us,scope.names.lookup y.1=some .local\/(scope.names.lookup y.1=some .cell/\((cellsFrom (s.heap.objs.size + 1) scope.names []).lookup y.1).isSome=true):=λ⟨n,v⟩ hy=>by
   rcases S.par n (List.of_mem_zip hy).1 with q | q
   · exact .inl q
   · exact .inr ⟨q,PySem.W.cellsFrom_some _ _ _ (.inl q)⟩
 refine codeAny_call_function hr.depth (KX _ _ lk) rfl S.co S.gen rfl (PySem.W.codeRec_of KX hcd) (hb _ _ _ _ ?_)
 refine wpAny_newFunctionEnv_cells S.kind hkind λenv he s1 x=>?_
 subst he
 refine ⟨lim.keeps x.toInCall.keep,codeAny_func ?_⟩
 obtain ⟨t,ht,hq⟩:=hbody A outer s H vs Q E (hr.deeper _) hsp
 have I:Inv (iB CX P w K mg base N qual scope f cdv A outer s H E) [] (start N vs) H s1:=jO (cm:=true) S (λ_=>hr.hd) e0 hl r x
 refine wpAny_mono (ht [] s1 (start N vs) H _ I hq) (λfl s' hs=>?_) λe s' hs=>hs
 have fin:∀ {σ':St} {H':Hp} {v:V} {u:Value},Inv (iB CX P w K mg base N qual scope f cdv A outer s H E) [] σ' H' s'->RelV v u->Q v H'->CE outer P w H s Q u s':=
   λ{σ' H' v u} J rv q=>⟨v,H',J.os,J.bare,J.base,J.hok,rv,q⟩
 cases fl with
 | ret u=>
   obtain ⟨v,σ',H',J,rv,q⟩:=hs
   exact fin J rv q
 | next=>
   obtain ⟨σ',H',J,q⟩:=hs
   exact fin (v:=V.non) (u:=Value.none) J rfl q
 | brk=>
   obtain ⟨_,_,_,q⟩:=hs
   exact False.elim q
 | cont=>
   obtain ⟨_,_,_,q⟩:=hs
   exact False.elim q
section
variable {X:Cx} {x:Str} {p pos:Pos} {e:Expr} {es:List Expr} {t:TA} {id T:String} {r:List V->Hp->VK->Prop}
noncomputable def tCB (r:List V->Hp->VK->Prop) (t:TA):TE:=λσ H Q=>t σ H λvs H1=>r vs H1 Q
theorem eF (hc:dN X (.builtin id) r) (hg:Gl X x) (hm:X.mg x=none) (hv:bootBuiltins x=some (.builtin id)) (ha:PA X (e :: es) t) (hn:x ≠ "__name__":=by decide) (hdb:(x == ("__debug__" : Str))=false:=by decide)
   (he:starEach (e :: es) X.env=(false,eval e X.env) :: starEach es X.env:=by rfl) (hpl:(backTo pos (starEach es X.env)).any (·.1)=false:=by rfl):PE X (.Call (.Name x p) (e :: es) [] pos) (tCB r t):=by
 intro pins s σ H Q I h
 refine wpAny_Call_Name_kw (eO I hg hm hv ?_ hn hdb)
 exact PyProof.Rows.callWith_builtin1 (thn (ha pos pins s σ H _ I h) λus s1 ⟨vs,H1,I1,r1,q1⟩=>hc pins s1 σ H1 vs us Q I1 r1 q1) he hpl
theorem oB (hc:dN X (.type T) r) (hg:Gl X x) (hm:X.mg x=none) (hv:bootBuiltins x=some (.type T)) (ha:PA X (e :: es) t) (hn:x ≠ "__name__":=by decide) (hdb:(x == ("__debug__" : Str))=false:=by decide)
   (he:starEach (e :: es) X.env=(false,eval e X.env) :: starEach es X.env:=by rfl) (hpl:(backTo pos (starEach es X.env)).any (·.1)=false:=by rfl):PE X (.Call (.Name x p) (e :: es) [] pos) (tCB r t):=by
 intro pins s σ H Q I h
 refine wpAny_Call_Name_kw (eO I hg hm hv ?_ hn hdb)
 exact PyProof.Rows.callWith_type1 (thn (ha pos pins s σ H _ I h) λus s1 ⟨vs,H1,I1,r1,q1⟩=>hc pins s1 σ H1 vs us Q I1 r1 q1) he hpl
end
end L2
namespace HT
open PySem PyProof.Rows
section
open PySem.SeqAt
open PySem.AutoSeq1 (wpAny_loadPart')
open PySem.MeetsSeq PySem.MeetsSeq2 PySem.MeetsSeq3
end
section
variable {prog:Program} {w:World} {A:Around} {E:Value->Shared->Prop} {s:Shared}
noncomputable def sIx (n d:Nat):Option Int->Nat
 | none=>d
 | some v=>if v < 0 then (v + (n:Int)).toNat else min v.toNat n
theorem qQ (n d:Nat):sIx n d none=d:=rfl
theorem kI (n d k:Nat):sIx n d (some (k:Int))=min k n:=by
 show (if (k:Int) < 0 then ((k:Int) + (n:Int)).toNat else min (k:Int).toNat n)=min k n
 rw [if_neg (by omega),Int.toNat_natCast]
end
end HT
namespace L2
open PySem PySem.Spec PyProof.Rows
noncomputable abbrev TO:=St->Hp->(Option Int->Hp->Prop)->Prop
noncomputable def PO (X:Cx) (e:Option Expr) (t:TO):Prop:=
 ∀ (pins:List (Addr × Obj)) (s:Shared) (σ:St) (H:Hp) (Q:Option Int->Hp->Prop),Inv X pins σ H s->t σ H Q ->
   wpAny (model X.prog X.w) X.A (evalPart e X.env) (λu s'=>∃ o H',Inv X pins σ H' s'/\IsPart u o/\Q o H') X.xe s
noncomputable def rb:TO:=λ_ H Q=>Q none H
noncomputable def vm (t:TE):TO:=λσ H Q=>t σ H λx H1=>∃ i,x=.int i/\Q (some i) H1
section
variable {X:Cx} {e:Expr} {te:TE} {lo hi:Option Expr} {tl th:TO} {pos p2:Pos}
theorem r9:PO X none rb:=by
 intro pins s σ H Q I h
 rw [evalPart_none]
 exact wpAny_pure ⟨none,H,I,.none,h⟩
theorem rB (h:PE X e te):PO X (some e) (vm te):=by
 intro pins s σ H Q I hw
 rw [evalPart_some]
 refine thn (h pins s σ H _ I hw) λu s1 ⟨x,H1,I1,r1,q1⟩=>?_
 obtain ⟨i,rfl,q⟩:=q1
 obtain ⟨t,rfl⟩:=r1
 exact ⟨some i,H1,I1,.int i t,q⟩
noncomputable def SlR (X:Cx) (r:V->Option Int->Option Int->Hp->VK->Prop):Prop:=
 ∀ (pins:List (Addr × Obj)) (s:Shared) (σ:St) (H:Hp) (x:V) (v vl vu:Value) (lo hi:Option Int) (sl:Addr) (Q:VK),Inv X pins σ H s->RelV x v->s.heap.IsSliceOf sl vl vu .none->IsPart vl lo->IsPart vu hi->r x lo hi H Q ->
   ∃ T id,typeLookup (.type T) "__getitem__" = pure (some (.builtin id))/\s.TypeIs v T/\wpAny (model X.prog X.w) X.A (getItem v (.ref sl)) (EP X pins σ Q) X.xe s
noncomputable def tSl (r:V->Option Int->Option Int->Hp->VK->Prop) (te:TE) (tl th:TO):TE:=λσ H Q=>te σ H λx H1=>tl σ H1 λl H2=>th σ H2 λu H3=>r x l u H3 Q
theorem qK {r:V->Option Int->Option Int->Hp->VK->Prop} (hr:SlR X r) (he:PE X e te) (hl:PO X lo tl) (hu:PO X hi th):PE X (.Subscript e (.Slice lo hi none p2) pos) (tSl r te tl th):=by
 intro pins s σ H Q I h
 refine Subscript_ (thn (he pins s σ H _ I h) λv s1 ⟨x,H1,I1,r1,q1⟩=>?_)
 refine wpAny_Slice (thn (hl pins s1 σ H1 _ I1 q1) λvl s2 ⟨l,H2,I2,pl,q2⟩=>thn (hu pins s2 σ H2 _ I2 q2) λvu s3 ⟨u,H3,I3,pu,q3⟩=>?_)
 rw [evalPart_none]
 refine wpAny_pure ?_
 have I4:Inv X pins σ H3 { s3 with heap:=s3.heap.push { cls:=.type "slice",data:=.fields #[vl,vu,.none] } }:=I3.kept (t':=s3.toks) λb ob q=>Heap.get?_push_of_some _ q
 obtain ⟨T,id,hT,ht,hg⟩:=hr pins { s3 with heap:=s3.heap.push { cls:=.type "slice",data:=.fields #[vl,vu,.none] } } σ H3 x v vl vu l u s3.heap.objs.size Q I4 r1 (Heap.IsSliceOf.new ..) pl pu q3
 show wpAny (model X.prog X.w) X.A (subscriptTail e (.Slice lo hi none p2) v (.ref s3.heap.objs.size)) (EP X pins σ Q) X.xe { s3 with heap:=s3.heap.push { cls:=.type "slice",data:=.fields #[vl,vu,.none] } }
 exact tail_any (ops:=[.ref s3.heap.objs.size,v]) ht hT hg (by with_unfolding_all rfl)
noncomputable def oE (xs:List V) (lo hi:Option Int):List V:=(xs.drop (HT.sIx xs.length 0 lo)).take (HT.sIx xs.length xs.length hi - HT.sIx xs.length 0 lo)
theorem lx (xs:List V) (lo hi:Option Int):(oE xs lo hi).length<=xs.length:=by
 unfold oE
 rw [List.length_take,List.length_drop]
 omega
end
noncomputable def ixN (n:Nat) (i:Int):Option Nat:=if 0<=i then (if i < n then some i.toNat else none) else if -(n:Int)<=i then some (i + n).toNat else none
noncomputable def atI {α:Type} (xs:List α) (i:Int):Option α:=(ixN xs.length i).bind λj=>xs[j]?
theorem nh {n:Nat} {i:Int} {j:Nat} (h:ixN n i=some j):seqIndex? i n=some j/\j < n/\-(n:Int)<=i/\i < n:=by
 unfold ixN at h
 by_cases h0:0<=i
 · rw [if_pos h0] at h
   by_cases h1:i < n
   · rw [if_pos h1] at h
     have e:i.toNat=j:=Option.some.inj h
     exact ⟨by rw [seqIndex_of h0 h1,e],by omega,by omega,h1⟩
   · rw [if_neg h1] at h; cases h
 · rw [if_neg h0] at h
   by_cases h1:-(n:Int)<=i
   · rw [if_pos h1] at h
     have e:(i + n).toNat=j:=Option.some.inj h
     exact ⟨by rw [seqIndex_neg (by omega) h1,e],by omega,h1,by omega⟩
   · rw [if_neg h1] at h; cases h
theorem mX {α:Type} {xs:List α} {i:Int} {v:α} (h:atI xs i=some v):∃ j,seqIndex? i xs.length=some j/\xs[j]?=some v/\j < xs.length/\-(xs.length:Int)<=i/\i < xs.length:=by
 unfold atI at h
 cases e:ixN xs.length i with
 | none=>rw [e] at h; cases h
 | some j=>
   rw [e] at h
   obtain ⟨h1,h2,h3,h4⟩:=nh e
   exact ⟨j,h1,h,h2,h3,h4⟩
noncomputable def kv (b:Expr):Prop:=∀ o i,subscripted b false o i=operate [o,i] (getItem o i)
noncomputable def IxR (X:Cx) (r:R2):Prop:=
 ∀ (value slice:Expr) (pins:List (Addr × Obj)) (s:Shared) (σ:St) (H:Hp) (x y:V) (v u:Value) (Q:VK),Inv X pins σ H s->RelV x v->RelV y u->r x y H Q ->
   subscripted slice false v u=operate [v,u] (getItem v u)->wpAny (model X.prog X.w) X.A (subscriptTail value slice v u) (EP X pins σ Q) X.xe s
noncomputable def MtR (X:Cx) (id:String) (r:V->List V->Hp->VK->Prop):Prop:=
 ∀ (pins:List (Addr × Obj)) (s:Shared) (σ:St) (H:Hp) (x:V) (xs:List V) (v:Value) (us:List Value) (Q:VK),Inv X pins σ H s->RelV x v->Vals xs us->r x xs H Q ->
   wpAny (model X.prog X.w) X.A (call (.builtin id) (v :: us)) (EP X pins σ Q) X.xe s
section
variable {X:Cx} {a b:Expr} {ta tb:TE} {pos:Pos}
theorem sM {r:R2} (hr:IxR X r) (ha:PE X a ta) (hb:PE X b tb) (hs:kv b):PE X (.Subscript a b pos) (tOp r ta tb):=by
 intro pins s σ H Q I h
 exact Subscript_ (tf ha hb I h λv u s2 x y H2 I2 rx ry q=>hr a b pins s2 σ H2 x y v u Q I2 rx ry q (hs _ _))
noncomputable def wJ (K:PySem.W.Frag):R2:=λx y H Q=>∃ p xs i v,x=.ref p/\y=.int i/\SqL K H p xs/\atI xs i=some v/\Q v H
noncomputable def wX (K:PySem.W.Frag):R2:=λx y H Q=>∃ p xs i v,x=.ref p/\y=.int i/\SqT K H p xs/\atI xs i=some v/\Q v H
theorem nF:IxR X (wJ X.K):=by
 intro value slice pins s σ H x y v u Q I rx ry h hs
 obtain ⟨p,xs,i,z,rfl,rfl,hq,he,q⟩:=h
 cases rx
 obtain ⟨t,rfl⟩:=ry
 obtain ⟨its,r,pl,hz⟩:=I.list hq
 obtain ⟨j,h1,h2,h3,h4,h5⟩:=mX he
 obtain ⟨w,ew,rw'⟩:=r.get h2
 have hl:=r.length
 have hn:=kq
 have fin:EP X pins σ Q w s:=⟨z,H,I,rw',q⟩
 by_cases h0:0<=i
 · have hj:i.toNat=j:=by
     rw [seqIndex_of h0 h5] at h1
     exact Option.some.inj h1
   exact item_listR pl.isList h0 (by omega) (by rw [hj]; simpa using ew) fin hs
 · have hj:(i + (its.toArray.size:Int)).toNat=j:=by
     rw [seqIndex_neg (by omega) h4] at h1
     rw [List.size_toArray,<- hl]
     exact Option.some.inj h1
   exact subscriptTail_builtinR (x:=w) pl.isList.typeIs slot_list_getitem.lookup
     (wpAny_getItem_list_neg (Q:=λr s'=>r=w/\EP X pins σ Q r s') pl.isList (by omega) (by rw [List.size_toArray] <;> omega) (by omega) (by rw [hj]; simpa using ew) ⟨rfl,fin⟩) hs
theorem uG:IxR X (wX X.K):=by
 intro value slice pins s σ H x y v u Q I rx ry h hs
 obtain ⟨p,xs,i,z,rfl,rfl,hq,he,q⟩:=h
 cases rx
 obtain ⟨t,rfl⟩:=ry
 obtain ⟨its,r,pl,hz⟩:=I.tuple hq
 obtain ⟨j,h1,h2,h3,h4,h5⟩:=mX he
 obtain ⟨w,ew,rw'⟩:=r.get h2
 have hl:=r.length
 have hn:=kq
 have fin:EP X pins σ Q w s:=⟨z,H,I,rw',q⟩
 exact subscriptTail_builtinR (x:=w) pl.typeIs slot_tuple_getitem.lookup
   (getItem_tuple (j:=j) (Q:=λr s'=>r=w/\EP X pins σ Q r s') pl (by omega) (by omega) (by rw [List.size_toArray,<- hl]; exact h1) (by simpa using ew) ⟨rfl,fin⟩) hs
theorem mr (its:List Value) (n j:Nat) (u:Value):Obj.mapSeq (·.setIfInBounds j u) { cls:=.type "list",data:=.seq its.toArray n }={ cls:=.type "list",data:=.seq (its.set j u).toArray n }:=by
 simp [Obj.mapSeq]
theorem Inv.lst {pins:List (Addr × Obj)} {σ:St} {H:Hp} {s:Shared} {p:Addr} {xs:List V} (I:Inv X pins σ H s) (h:H p=some (.lst xs)) :
   ∃ (its:List Value) (n:Nat),Vals xs its/\s.heap.get? p=some { cls:=.type "list",data:=.seq its.toArray n }/\xs.length<=sizeLine:=by
 obtain ⟨z,its,n,r,e⟩:=I.hok p _ h
 exact ⟨its,n,r,e,z⟩
theorem Inv.tJ {pins:List (Addr × Obj)} {σ:St} {H:Hp} {s:Shared} {p:Addr} {xs ys:List V} {its its':List Value} {n n':Nat} {f:Obj->Obj} (I:Inv X pins σ H s) (h:H p=some (.lst xs))
   (ho:s.heap.get? p=some { cls:=.type "list",data:=.seq its.toArray n }) (hf:f { cls:=.type "list",data:=.seq its.toArray n }={ cls:=.type "list",data:=.seq its'.toArray n' }) (r:Vals ys its') (hz:ys.length<=sizeLine) (t:Nat) :
   Inv X pins σ (upd H p (.lst ys)) { s with heap:=s.heap.update p f,toks:=t }:=by
 have e:(s.heap.update p f).get? p=some { cls:=.type "list",data:=.seq its'.toArray n' }:=by
   rw [Heap.get?_update_self f ho (by rw [hf] <;> rfl),hf]
 refine I.write (x:=p) (e:=p) (by rw [h]; trivial) (.inl rfl) (λb u hb q=>(Heap.get?_update_other _ _ (Ne.symm hb)).trans q) ⟨_,e⟩ ?_
 exact ⟨hz,its',n',r,e⟩
noncomputable def vi:V->V->V->Hp->(Hp->Prop)->Prop:=λo i v H Q=>∃ p xs k j,o=.ref p/\i=.int k/\H p=some (.lst xs)/\ixN xs.length k=some j/\Q (upd H p (.lst (xs.set j v)))
theorem set_list:vX X vi:=by
 intro pins s σ H o i v ov iv u Q I ro ri rv h
 obtain ⟨p,xs,k,j,rfl,rfl,hp,hj,q⟩:=h
 cases ro
 obtain ⟨t,rfl⟩:=ri
 obtain ⟨its,n,r,ho,hz⟩:=I.lst hp
 obtain ⟨h1,h2,h3,h4⟩:=nh hj
 have hl:=r.length
 have hn:=kq
 have I':Inv X pins σ (upd H p (.lst (xs.set j v))) { s with heap:=s.heap.update p (Obj.mapSeq (·.setIfInBounds j u)) }:=
   I.tJ hp ho (mr its n j u) (r.set rv j) (by rw [List.length_set]; exact hz) s.toks
 by_cases h0:0<=k
 · have hk:k.toNat=j:=by
     rw [seqIndex_of h0 h4] at h1
     exact Option.some.inj h1
   exact PySem.W.ki_setAt ho h0 (by omega) (by rw [List.size_toArray,<- hl]; exact h4) (by rw [hk]; exact ⟨_,I',q⟩)
 · have hk:(k + (its.toArray.size:Int)).toNat=j:=by
     rw [seqIndex_neg (by omega) h3] at h1
     rw [List.size_toArray,<- hl]
     exact Option.some.inj h1
   exact PySem.W.ki_setBack ho (by omega) (by rw [List.size_toArray,<- hl]; exact h3) (by omega) (by rw [hk]; exact ⟨_,I',q⟩)
theorem ku (lo hi:Option Int) (n:Nat):(sliceBounds lo hi none n).1=((HT.sIx n 0 lo:Nat):Int)/\(sliceBounds lo hi none n).2.1=((HT.sIx n n hi:Nat):Int)/\(sliceBounds lo hi none n).2.2=1:=by
 refine ⟨?_,?_,rfl⟩
 · cases lo with
   | none=>simp [sliceBounds,HT.sIx]
   | some i=>
     simp only [sliceBounds,HT.sIx,Option.getD_none,show (1:Int) > 0 by decide,if_true]
     by_cases h:i < 0
     · simp only [h,if_true] <;> omega
     · simp only [h,if_false] <;> omega
 · cases hi with
   | none=>simp [sliceBounds,HT.sIx]
   | some i=>
     simp only [sliceBounds,HT.sIx,Option.getD_none,show (1:Int) > 0 by decide,if_true]
     by_cases h:i < 0
     · simp only [h,if_true] <;> omega
     · simp only [h,if_false] <;> omega
theorem ja (its:List Value) (lo hi:Option Int):slicePick its.toArray lo hi none=((its.drop (HT.sIx its.length 0 lo)).take (HT.sIx its.length its.length hi - HT.sIx its.length 0 lo)).toArray:=by
 obtain ⟨h1,h2,h3⟩:=ku lo hi its.toArray.size
 unfold slicePick
 rw [h1,h2,h3]
 simp only [sliceRange_one,pick_run,List.size_toArray] <;> rfl
noncomputable def xm (K:PySem.W.Frag):V->Option Int->Option Int->Hp->VK->Prop:=λx lo hi H Q=>∃ a xs,x=.ref a/\SqL K H a xs/\∀ p,H p=none->Q (.ref p) (upd H p (.lst (oE xs lo hi)))
theorem sd:SlR X (xm X.K):=by
 intro pins s σ H x v vl vu lo hi sl Q I rx hs pl pu h
 obtain ⟨a,xs,rfl,hx,q⟩:=h
 cases rx
 obtain ⟨its,r,ht,hz⟩:=I.list hx
 have hlen:=r.length
 refine ⟨"list",_,slot_list_getitem.lookup,ht.isList.typeIs,?_⟩
 refine wpAny_getItem_list_slice ht.isList hs pl pu .none (by simp) ?_ (by rw [List.size_toArray] <;> omega)
 rw [ja,<- hlen]
 refine ⟨.ref s.heap.objs.size,_,I.laid (t':=s.toks) (o:=.lst (oE xs lo hi)) (λb ob q=>Heap.get?_push_of_some _ q) (Nat.le_refl _) ?_,rfl,q _ (I.hok.fresh (Nat.le_refl _))⟩
 exact ⟨Nat.le_trans (lx xs lo hi) hz,_,0,(r.drop (HT.sIx xs.length 0 lo)).take (HT.sIx xs.length xs.length hi - HT.sIx xs.length 0 lo),Heap.get?_push_size _ rfl⟩
noncomputable def gZ:V->Bool
 | .non=>true
 | .bl _=>true
 | .int _=>true
 | .str _=>true
 | _=>false
noncomputable def eqV:V->V->Bool
 | .non,.non=>true
 | .bl a,.bl b=>a == b
 | .bl a,.int b=>(if a then 1 else 0) == b
 | .int a,.bl b=>a == (if b then 1 else 0)
 | .int a,.int b=>a == b
 | .str a,.str b=>a == b
 | _,_=>false
theorem uI {A:Around} {s:Shared} {y x:V} {u v:Value} (ry:RelV y u) (rx:RelV x v) (fy:gZ y=true) (fx:gZ x=true):SeqAt.EqAt A s u v (eqV y x):=by
 cases y with
 | non=>
   cases ry
   cases x with
   | non=>cases rx; exact SeqAt.EqAt.same _
   | bl b=>cases rx; exact SeqAt.EqAt.none_bool b
   | int b=>obtain ⟨t,rfl⟩:=rx; exact SeqAt.EqAt.none_int b t
   | str b=>obtain ⟨t,rfl⟩:=rx; exact SeqAt.EqAt.none_str b t
   | _=>exact absurd (show false=true from fx) Bool.false_ne_true
 | bl a=>
   cases ry
   cases x with
   | non=>cases rx; exact SeqAt.EqAt.bool_none a
   | bl b=>cases rx; exact SeqAt.EqAt.bool_bool a b
   | int b=>obtain ⟨t,rfl⟩:=rx; exact SeqAt.EqAt.bool_int a b t
   | str b=>obtain ⟨t,rfl⟩:=rx; exact SeqAt.EqAt.bool_str a b t
   | _=>exact absurd (show false=true from fx) Bool.false_ne_true
 | int a=>
   obtain ⟨t',rfl⟩:=ry
   cases x with
   | non=>cases rx; exact SeqAt.EqAt.int_none a t'
   | bl b=>cases rx; exact SeqAt.EqAt.int_bool a t' b
   | int b=>obtain ⟨t,rfl⟩:=rx; exact SeqAt.EqAt.int_int a t' b t
   | str b=>obtain ⟨t,rfl⟩:=rx; exact SeqAt.EqAt.int_str a t' b t
   | _=>exact absurd (show false=true from fx) Bool.false_ne_true
 | str a=>
   obtain ⟨t',rfl⟩:=ry
   cases x with
   | non=>cases rx; exact SeqAt.EqAt.str_none a t'
   | bl b=>cases rx; exact SeqAt.EqAt.str_bool a t' b
   | int b=>obtain ⟨t,rfl⟩:=rx; exact SeqAt.EqAt.str_int a t' b t
   | str b=>obtain ⟨t,rfl⟩:=rx; exact SeqAt.EqAt.str_str a t' b t
   | _=>exact absurd (show false=true from fx) Bool.false_ne_true
 | _=>exact absurd (show false=true from fy) Bool.false_ne_true
noncomputable def eqU (x:V) (u:Value):Bool:=match u with
 | .none=>eqV .non x
 | .bool b=>eqV (.bl b) x
 | .int i _=>eqV (.int i) x
 | .str z _=>eqV (.str z) x
 | _=>false
theorem p8 {x y:V} {u:Value} (r:RelV y u) (f:gZ y=true):eqU x u=eqV y x:=by
 cases y with
 | non=>cases r; rfl
 | bl b=>cases r; rfl
 | int i=>obtain ⟨t,rfl⟩:=r; rfl
 | str z=>obtain ⟨t,rfl⟩:=r; rfl
 | _=>exact absurd (show false=true from f) Bool.false_ne_true
theorem gg {x:V}:∀ {xs:List V} {us:List Value},Vals xs us->xs.all gZ=true->us.any (eqU x)=xs.any λy=>eqV y x
 | _,_,.nil,_=>rfl
 | y :: xs,u :: us,.cons r t,f=>by
   rw [List.all_cons,Bool.and_eq_true] at f
   rw [List.any_cons,List.any_cons,p8 r f.1,gg t f.2]
theorem eU {A:Around} {s:Shared} {x:V} {v:Value} (rx:RelV x v) (fx:gZ x=true):∀ {xs:List V} {us:List Value},Vals xs us->xs.all gZ=true->∀ u ∈ us,SeqAt.EqAt A s u v (eqU x u)
 | _,_,.nil,_=>λu hu=>by cases hu
 | y :: xs,u :: us,.cons r t,f=>λu' hu=>by
   rw [List.all_cons,Bool.and_eq_true] at f
   rcases List.mem_cons.mp hu with rfl | hu
   · rw [p8 r f.1]; exact uI r rx f.1 fx
   · exact eU rx fx t f.2 u' hu
noncomputable def inV (x:V) (xs:List V):Bool:=xs.any λy=>eqV y x
noncomputable def rIn (K:PySem.W.Frag) (neg:Bool):R2:=λx y H Q=>∃ p xs,y=.ref p/\(SqL K H p xs\/SqT K H p xs)/\gZ x=true/\xs.all gZ=true/\Q (.bl (if neg then !inV x xs else inV x xs)) H
theorem jB:OpR X (compareOp .In) (rIn X.K false):=by
 intro pins s σ H x y v u Q I rx ry h
 obtain ⟨p,xs,rfl,hq,fx,fs,q⟩:=h
 cases ry
 rcases hq with hq | hq
 · obtain ⟨its,r,pl,hz⟩:=I.list hq
   refine SeqAt.in_listAt (eqU x) pl.isList (λw hw=>eU rx fx r fs w (by simpa using hw)) ⟨.bl _,H,I,rfl,?_⟩
   rw [show its.toArray.any (eqU x)=its.any (eqU x) by simp,gg r fs]
   exact q
 · obtain ⟨its,r,pl,hz⟩:=I.tuple hq
   refine SeqAt.in_tupleAt (eqU x) pl (λw hw=>eU rx fx r fs w (by simpa using hw)) ⟨.bl _,H,I,rfl,?_⟩
   rw [show its.toArray.any (eqU x)=its.any (eqU x) by simp,gg r fs]
   exact q
theorem j8:OpR X (compareOp .NotIn) (rIn X.K true):=by
 intro pins s σ H x y v u Q I rx ry h
 obtain ⟨p,xs,rfl,hq,fx,fs,q⟩:=h
 cases ry
 rcases hq with hq | hq
 · obtain ⟨its,r,pl,hz⟩:=I.list hq
   refine SeqAt.notIn_listAt (eqU x) pl.isList (λw hw=>eU rx fx r fs w (by simpa using hw)) ⟨.bl _,H,I,rfl,?_⟩
   rw [show its.toArray.any (eqU x)=its.any (eqU x) by simp,gg r fs]
   exact q
 · obtain ⟨its,r,pl,hz⟩:=I.tuple hq
   refine SeqAt.notIn_tupleAt (eqU x) pl (λw hw=>eU rx fx r fs w (by simpa using hw)) ⟨.bl _,H,I,rfl,?_⟩
   rw [show its.toArray.any (eqU x)=its.any (eqU x) by simp,gg r fs]
   exact q
theorem gr:dN X (.builtin "len") (λxs H Q=>∃ p ys,xs=[.ref p]/\(SqL X.K H p ys\/SqT X.K H p ys)/\Q (.int ys.length) H):=by
 intro pins s σ H xs us Q I r h
 obtain ⟨p,ys,rfl,hq,q⟩:=h
 obtain ⟨u,rfl,rx⟩:=vals1 r
 cases rx
 have hn:=kq
 rcases hq with hq | hq
 · obtain ⟨its,r',pl,hz⟩:=I.list hq
   have hlen:=r'.length
   exact Calls.call_len_list pl.isList (by simp only [List.size_toArray] <;> omega) ⟨.int ys.length,H,I.tok _,⟨s.toks + 1,by rw [List.size_toArray,hlen]⟩,q⟩
 · obtain ⟨its,r',pl,hz⟩:=I.tuple hq
   have hlen:=r'.length
   exact len_tuple pl (by simp only [List.size_toArray] <;> omega) ⟨.int ys.length,H,I.tok _,⟨s.toks + 1,by rw [List.size_toArray,hlen]⟩,q⟩
theorem kn:dN X (.type "list") (λxs H Q=>∃ p ys,xs=[.ref p]/\(SqL X.K H p ys\/SqT X.K H p ys)/\∀ l,H l=none->Q (.ref l) (upd H l (.lst ys))):=by
 intro pins s σ H xs us Q I r h
 obtain ⟨p,ys,rfl,hq,q⟩:=h
 obtain ⟨u,rfl,rx⟩:=vals1 r
 cases rx
 have fin:∀ (its:List Value),Vals ys its->ys.length<=sizeLine->∀ (h':Heap) (c':Nat),(∀ b o',s.heap.get? b=some o'->h'.get? b=some o') ->
     h'.get? s.heap.objs.size=some { cls:=.type "list",dict:=none,data:=.seq its.toArray c',slots:=#[] }->EP X pins σ Q (.ref s.heap.objs.size) { s with heap:=h' }:=λits r' hz h' c' kp e=>
   ⟨.ref s.heap.objs.size,_,I.laid (t':=s.toks) kp (Nat.le_refl _) (show bW X.prog X.w _ h' _ (.lst ys) from ⟨hz,its,c',r',e⟩),rfl,q _ (I.hok.fresh (Nat.le_refl _))⟩
 rcases hq with hq | hq
 · obtain ⟨its,r',pl,hz⟩:=I.list hq
   have hlen:=r'.length
   obtain ⟨o,ho,hc,n,hd⟩:=pl.isList
   exact call_list_seq p (.inl rfl) ho hc hd (λh' c' kp e=>fin its r' hz h' c' kp e) (by simp only [List.size_toArray] <;> omega)
 · obtain ⟨its,r',pl,hz⟩:=I.tuple hq
   have hlen:=r'.length
   obtain ⟨o,ho,hc,n,hd⟩:=pl
   exact call_list_seq p (.inr rfl) ho hc hd (λh' c' kp e=>fin its r' hz h' c' kp e) (by simp only [List.size_toArray] <;> omega)
theorem jo:dN X (.type "tuple") (λxs H Q=>∃ p ys,xs=[.ref p]/\((SqL X.K H p ys/\∀ l,H l=none->Q (.ref l) (upd H l (.tup ys)))\/(SqT X.K H p ys/\Q (.ref p) H))):=by
 intro pins s σ H xs us Q I r h
 obtain ⟨p,ys,rfl,h⟩:=h
 obtain ⟨u,rfl,rx⟩:=vals1 r
 cases rx
 rcases h with ⟨hq,q⟩ | ⟨hq,q⟩
 · obtain ⟨its,r',pl,hz⟩:=I.list hq
   have hlen:=r'.length
   refine call_tuple_list pl.isList (λh' kp=>?_) (by simp only [List.size_toArray] <;> omega)
   have I1:Inv X pins σ H { s with heap:=h' }:=I.kept (t':=s.toks) kp
   have I2:Inv X pins σ (upd H h'.objs.size (.tup ys)) { s with heap:=h'.push { cls:=.type "tuple",data:=.seq its.toArray } }:=
     I1.laid (t':=s.toks) (λb o e=>Heap.get?_push_of_some _ e) (Nat.le_refl _) (show bW X.prog X.w _ _ _ (.tup ys) from ⟨hz,its,r',IsTup.new _ _⟩)
   exact ⟨.ref h'.objs.size,_,I2,rfl,q _ (I1.hok.fresh (Nat.le_refl _))⟩
 · obtain ⟨its,r',pl,hz⟩:=I.tuple hq
   exact call_tuple_same pl ⟨.ref p,H,I,rfl,q⟩
noncomputable def tyV (K:PySem.W.Frag) (T:String) (x:V) (H:Hp):Prop:=match x with
 | .str _=>T = "str"
 | .int _=>T = "int"
 | .ref p=>(T = "list" /\ ∃ xs,SqL K H p xs)\/(T = "tuple" /\ ∃ o,K.lookup p=some o/\o.cls=.type "tuple" /\ o.dict=none) \/
     (T = "dict" /\ ((∃ kvs,H p=some (.dK kvs))\/∃ kvs,H p=some (.dT kvs)))\/(T = "set" /\ ∃ S n,H p=some (.set S n))
 | _=>False
theorem uv {pins:List (Addr × Obj)} {σ:St} {H:Hp} {s:Shared} {T:String} {x:V} {v:Value} (I:Inv X pins σ H s) (r:RelV x v) (ty:tyV X.K T x H) :
   s.TypeIs v T/\∀ a,v=.ref a->∃ ob,s.heap.get? a=some ob/\ob.dict=none:=by
 cases x with
 | str z=>
   obtain ⟨t,rfl⟩:=r
   cases (show T = "str" from ty)
   exact ⟨typeIs_str s z t,λ_ e=>nomatch e⟩
 | int i=>
   obtain ⟨t,rfl⟩:=r
   cases (show T = "int" from ty)
   exact ⟨typeIs_int s i t,λ_ e=>nomatch e⟩
 | ref p=>
   cases r
   rcases ty with ⟨rfl,xs,hq⟩ | ⟨rfl,o,hk,hc,hd⟩ | ⟨rfl,hk⟩ | ⟨rfl,S,n,hk⟩
   · obtain ⟨its,_,pl,_⟩:=I.list hq
     refine ⟨pl.isList.typeIs,λa e=>?_⟩
     cases e
     obtain ⟨o,n,e,c,hd,_⟩:=pl
     exact ⟨o,e,hd⟩
   · refine ⟨⟨o,I.kIn p o hk,hc⟩,λa e=>?_⟩
     cases e
     exact ⟨o,I.kIn _ o hk,hd⟩
   · have z:∃ o,s.heap.get? p=some o/\o.ExactDict:=by
       rcases hk with ⟨kvs,hk⟩ | ⟨kvs,hk⟩
       · obtain ⟨_,_,_,_,o,_,_,e,ex,_⟩:=I.hok p _ hk
         exact ⟨o,e,ex⟩
       · obtain ⟨_,_,_,_,o,_,_,e,ex,_⟩:=I.hok p _ hk
         exact ⟨o,e,ex⟩
     obtain ⟨o,e,ex⟩:=z
     refine ⟨⟨o,e,ex.1⟩,λa e2=>?_⟩
     cases e2
     exact ⟨o,e,ex.2.1⟩
   · obtain ⟨o,_,_,_,e,ex,_⟩:=I.hok p _ hk
     refine ⟨⟨o,e,ex.1⟩,λa e2=>?_⟩
     cases e2
     exact ⟨o,e,ex.2.1⟩
 | _=>exact False.elim ty
noncomputable def tBM (K:PySem.W.Frag) (T:String) (r:V->List V->Hp->VK->Prop) (to:TE) (t:TA):TE:=λσ H Q=>to σ H λx H1=>tyV K T x H1/\t σ H1 λxs H2=>r x xs H2 Q
variable {o e:Expr} {es:List Expr} {to:TE} {t:TA} {name:Str} {apos cpos:Pos} {T id:String} {r:V->List V->Hp->VK->Prop}
theorem sC (pa:PlainAttrs T) (slot:Slot T name id) (hty:typeOf (.builtin id)=pure (.type "method_descriptor")) (hm:MtR X id r) (ho:PE X o to) (ha:PA X (e :: es) t)
   (hbase:attributeBase o name X.env (eval o X.env)=eval o X.env:=by rfl)
   (hfew:((backTo cpos (starEach (e :: es) X.env)).all (λx=>!x.1) && (backToKw cpos (keywordEach [] X.env)).all (λx=>x.1.isSome)
     && decide ((e :: es).length + ([]:List Keyword).length + (if ([]:List Keyword).isEmpty then 0 else 1) < 30))=true:=by rfl)
   (hline:(apos.endLine == cpos.line)=true:=by rfl) (hs:starEach (e :: es) X.env=(false,eval e X.env) :: starEach es X.env:=by rfl) (hplain:(backTo cpos (starEach es X.env)).any (·.1)=false:=by rfl) :
   PE X (.Call (.Attribute o name apos) (e :: es) [] cpos) (tBM X.K T r to t):=by
 intro pins s σ H Q I h
 refine wpAny_Call_method_late hbase hfew hline rfl (thn (ho pins s σ H _ I h) λv s1 ⟨x,H1,I1,r1,ty,q1⟩=>?_)
 obtain ⟨h1,h2⟩:=uv I1 r1 ty
 refine ⟨T,id,pa,slot,hty,h1,h2,?_⟩
 have hA:=ha cpos pins s1 σ H1 _ I1 q1
 rw [hs] at hA ⊢
 refine Calls.callWith_builtin (by show (false || (backTo cpos (starEach es X.env)).any (·.1))=false; rw [hplain] <;> rfl) (Calls.evalArgs_plain ?_)
 exact thn hA λus s2 ⟨vs,H2,I2,r2,q2⟩=>hm pins s2 σ H2 x vs v us Q I2 r1 r2 q2
end
noncomputable def MtM (X:Cx) (id:String) (r:V->List V->Hp->VK->Prop):Prop:=
 ∀ (pins:List (Addr × Obj)) (s:Shared) (σ:St) (H:Hp) (x:V) (xs:List V) (v:Value) (us:List Value) (Q:VK),Inv X pins σ H s->RelV x v->Vals xs us->r x xs H Q ->
   wpAny (model X.prog X.w) X.A (call (.builtin id) (v :: us)) (EP X pins σ Q) X.xe s
theorem Vals.one:∀ {x:V} {us:List Value},Vals [x] us->∃ u,us=[u]/\RelV x u
 | _,_,.cons r .nil=>⟨_,rfl,r⟩
theorem Vals.two:∀ {x y:V} {us:List Value},Vals [x,y] us->∃ u v,us=[u,v]/\RelV x u/\RelV y v
 | _,_,_,.cons r (.cons q .nil)=>⟨_,_,rfl,r,q⟩
theorem Vals.eraseIdx:∀ {xs:List V} {us:List Value} (i:Nat),Vals xs us->Vals (xs.eraseIdx i) (us.eraseIdx i)
 | _,_,_,.nil=>.nil
 | _,_,0,.cons _ t=>t
 | _,_,i + 1,.cons r t=>.cons r (Vals.eraseIdx i t)
theorem Vals.rep {xs:List V} {us:List Value} (h:Vals xs us):∀ k:Nat,Vals (List.replicate k xs).flatten (List.replicate k us).flatten
 | 0=>.nil
 | k + 1=>by
   rw [List.replicate_succ,List.replicate_succ,List.flatten_cons,List.flatten_cons]
   exact Vals.append h (Vals.rep h k)
theorem jP {α:Type}:∀ (l:List α) (i:Nat),(l.eraseIdx i).length<=l.length
 | [],_=>Nat.le_refl _
 | _ :: _,0=>Nat.le_succ _
 | _ :: r,i + 1=>Nat.succ_le_succ (jP r i)
theorem foldl_rep (its:List Value):∀ (k:Nat) (acc:List Value),
   List.foldl (λx1 x2=>x1++x2) acc.toArray (List.replicate k its.toArray)=(acc++(List.replicate k its).flatten).toArray
 | 0,acc=>by simp
 | k + 1,acc=>by
   have e:acc.toArray++its.toArray=(acc++its).toArray:=by simp
   have e2:(acc++its)++(List.replicate k its).flatten=acc++(List.replicate (k + 1) its).flatten:=by
     rw [List.replicate_succ,List.flatten_cons,List.append_assoc]
   rw [<- e2,<- foldl_rep its k (acc++its),<- e,List.replicate_succ,List.foldl_cons]
section
variable {X:Cx} {pins:List (Addr × Obj)} {σ:St} {H:Hp} {s:Shared} {l b:Addr} {xs ys zs:List V}
theorem Inv.vc {its its':List Value} {n:Nat} {f:Array Value->Array Value} {t':Nat} (I:Inv X pins σ H s) (hH:H l=some (.lst xs))
   (e:s.heap.get? l=some { cls:=.type "list",data:=.seq its.toArray n }) (hf:f its.toArray=its'.toArray) (hv:Vals ys its') (hz:ys.length<=sizeLine) :
   Inv X pins σ (upd H l (.lst ys)) { s with heap:=s.heap.update l (Obj.mapSeq f),toks:=t' }:=by
 have q:=PySem.IsL.update e f
 rw [hf] at q
 refine I.write (x:=l) (e:=l) (by rw [hH]; exact trivial) (.inl rfl) (λb' u hb hu=>(Heap.get?_update_other s.heap (Obj.mapSeq f) (Ne.symm hb)).trans hu) ⟨_,q⟩ ?_
 exact ⟨hz,its',_,hv,q⟩
theorem Inv.wA {its:List Value} {t':Nat} (I:Inv X pins σ H s) (hv:Vals ys its) (hz:ys.length<=sizeLine) :
   Inv X pins σ (upd H s.heap.objs.size (.lst ys)) { s with heap:=s.heap.push { cls:=.type "list",data:=.seq its.toArray },toks:=t' }:=
 I.laid (λ_ _ q=>Heap.get?_push_of_some _ q) (Nat.le_refl _) ⟨hz,its,0,hv,Heap.get?_push_size _ rfl⟩
theorem Inv.fresh (I:Inv X pins σ H s):H s.heap.objs.size=none:=I.hok.fresh (Nat.le_refl _)
theorem Inv.wq (I:Inv X pins σ H s) (hH:H l=some (.lst xs)):xs.length<=sizeLine/\∃ (its:List Value) (n:Nat),Vals xs its/\xs.length=its.length/\s.heap.get? l=some { cls:=.type "list",data:=.seq its.toArray n }:=by
 obtain ⟨z,its,n,r,e⟩:=I.hok l _ hH
 exact ⟨z,its,n,r,r.length,e⟩
theorem qR {n:Nat} (h:n<=sizeLine):Builtin.List.listTooLong n=false:=by
 unfold Builtin.List.listTooLong
 exact decide_eq_false (by omega)
end
section
variable {X:Cx}
noncomputable def rd:V->List V->Hp->VK->Prop:=λx vs H Q=>∃ l xs y,x=.ref l/\vs=[y]/\H l=some (.lst xs)/\xs.length < sizeLine/\Q .non (upd H l (.lst (xs++[y])))
theorem gJ:MtM X "list.append" rd:=by
 intro pins s σ H x vs v us Q I rx rv h
 obtain ⟨l,xs,y,rfl,rfl,hH,hz,q⟩:=h
 cases rx
 obtain ⟨u,rfl,ru⟩:=rv.one
 obtain ⟨z,its,n,r,hl,e⟩:=I.wq hH
 refine call_meets F.slot_list_append ⟨_,e,rfl⟩ F.entry_list_append (F.args_list_append_2 _ _) (PySem.list_append l its.toArray n u (by rw [List.size_toArray]; omega)) ⟨e,?_⟩
 refine ⟨.non,_,I.vc (its':=its++[u]) hH e (by simp) (r.append (.cons ru .nil)) ?_,rfl,q⟩
 rw [List.length_append,List.length_singleton]
 omega
noncomputable def uo:V->List V->Hp->VK->Prop:=λx vs H Q=>∃ l xs i k y,x=.ref l/\vs=[.int i]/\H l=some (.lst xs)/\-(2 ^ 63)<=i/\i < 2 ^ 63/\seqIndex? i xs.length=some k/\xs[k]?=some y/\Q y (upd H l (.lst (xs.eraseIdx k)))
theorem qp:MtM X "list.pop" uo:=by
 intro pins s σ H x vs v us Q I rx rv h
 obtain ⟨l,xs,i,k,y,rfl,rfl,hH,h1,h2,hk,hy,q⟩:=h
 cases rx
 obtain ⟨u,rfl,ru⟩:=rv.one
 obtain ⟨t,rfl⟩:=ru
 obtain ⟨z,its,n,r,hl,e⟩:=I.wq hH
 obtain ⟨w,hw,rw'⟩:=r.get hy
 refine call_meets F.slot_list_pop ⟨_,e,rfl⟩ F.entry_list_pop (F.args_list_pop_2 _ _)
   (MeetsSeq.list_pop_at l its.toArray n i t k w (fitsIndex_both h1 h2) (by rw [List.size_toArray,<- hl]; exact hk) (by rw [<- Array.getElem?_toList]; exact hw) (by rw [List.size_toArray]; omega)) ⟨e,?_⟩
 refine ⟨y,_,I.vc (its':=its.eraseIdx k) hH e ?_ (r.eraseIdx k) ?_,rw',q⟩
 · show its.toArray.eraseIdxIfInBounds k=(its.eraseIdx k).toArray
   rw [List.eraseIdxIfInBounds_toArray]
 · have:=jP xs k
   omega
theorem len_rep {α:Type} (xs:List α) (k:Nat):(List.replicate k xs).flatten.length=k * xs.length:=by
 induction k with
 | zero=>simp
 | succ k ih=>rw [List.replicate_succ,List.flatten_cons,List.length_append,ih,Nat.succ_mul,Nat.add_comm]
end
section
variable {prog:Program} {w:World} {A:Around} {E:Value->Shared->Prop} {s:Shared}
end
section
variable {X:Cx}
end
end L2
namespace Att
open PySem PySem.W PySem.Calls PyProof.Rows
theorem g8 {P:Params} {h:Heap}:∀ (ns:List Int) (vs:List Value),WellAll P h vs (ns.map WData.int)->IntsAre vs ns:=by
 intro ns
 induction ns with
 | nil=>
   intro vs w
   rw [List.map_nil] at w
   cases w
   exact .nil
 | cons n ns ih=>
   intro vs w
   rw [List.map_cons] at w
   cases w with
   | cons a b=>
     cases a
     exact .cons _ _ (ih _ b)
theorem oH {l:OpenLaw} {n:Nat} (hn:l.most=some n) {P:Params} {h:Heap} {args:List WData} {vals:List Value}
   (hpre:l.row.toRowW.claim.pre args=true) (hwl:WellAll P h vals args) :
   ∃ a vs ns,vals=[Value.ref a]/\args=[WData.list (ns.map WData.int)]/\h.get? a=some { cls:=.type "list",data:=.seq vs.toArray }/\IntsAre vs ns/\ns.length<=n:=by
 have hsh:WShape.hasAll [] args [.list .int]=true:=(pre_splitW hpre).1
 have hc:l.pre.holds [] { args:=args }=true:=(pre_splitW hpre).2
 obtain ⟨d,r,rfl,h1,h2⟩:=hasAllW_cons hsh
 obtain rfl:=hasAllW_nil h2
 obtain ⟨xs,rfl,h3⟩:=hasW_list h1
 obtain ⟨ns,rfl⟩:=items_int h3
 have hlen:ns.length<=n:=by
   unfold OpenLaw.pre at hc
   have h4:(WTm.not (.lt (.lit (.int (n:Int))) (.len (.arg 0)))).holds [] { args:=[.list (ns.map .int)] }=true:=by
     have h4:=(holds_andW hc).1
     rw [hn] at h4
     exact h4
   have h5:=condW_of h4 (w_not (w_lt w_lit (w_len_list (w_arg rfl))))
   rw [List.length_map] at h5
   refine Nat.le_of_not_lt λq=>?_
   have q':(n:Int) < ((ns.length:Nat):Int):=by omega
   first
     | (rw [decide_eq_true q'] at h5; exact absurd h5 (by decide))
     | (simp at h5; omega)
 cases hwl with
 | cons w1 w2=>
   cases w2
   cases w1 with
   | list ho hall=>exact ⟨_,_,ns,rfl,rfl,ho,g8 ns _ hall,hlen⟩
theorem oY (l:OpenLaw) (args:List WData):l.row.toRowW.claim.post args (.bool true) args=true:=
 postW_of (r:=l.row.toRowW) (X:=(true == true))
   (show WShape.has [] (.bool true) .bool=true by first | rfl | decide | simp [WShape.has,WShape.arms,WShape.armsAll])
   (show (WTm.eq .res (.lit (.bool true))).value [] { args:=args,res:=some (.bool true),after:=args }=some (.bool (true == true)) from w_eq_bool (w_res rfl) w_lit) rfl
theorem kZ {l:OpenLaw} {n:Nat} {q:Program} {loose:List Str} {XP:(Str->Option Value)->Heap->Prop} {YP:World->Heap->Prop} {d:DefRec}
   (hn:l.most=some n) (hdf:d.params.defaults=[])
   (call:∀ (w:World) (s₀ s₁:Shared) (mg mb:Str->Option Value) (fa:Addr) (o:Obj) (pm cd doc:Value) (a:Addr) (vs:List Value) (ns:List Int),
     Ground q loose [] XP w s₀ mg mb s₁.heap->YP w s₁.heap ->
     s₁.heap.get? fa=some o->o.data=.func (docDef d.name d.params d.body d.scope pm cd doc)->s₁.heap.CodeRec cd d.name->mg d.name=some (.ref fa) ->
     s₁.heap.get? a=some { cls:=.type "list",data:=.seq vs.toArray }->IntsAre vs ns->ns.length<=n->s₁.gens=#[] ->
     codeAny (model l.prog w) callerA (.call (.ref fa) ⟨[.ref a],[]⟩) (λr s'=>r=.ok (.ret (.bool true))/\OldK s₁.heap s'.heap/\s'.os=s₁.os/\AllBare s'.gens) s₁) :
   WalkO q loose XP YP l.row.toRowW d [] (λf vs=>PySem.call f vs):=by
 intro w s₀ s₁ mg mb G Y fa o pm cd doc dV kV ho hd hcd hD hmg hg args vals as hpre hlay hrd hwl hlo
 obtain rfl:dV=.none:=Dflts.none hD hdf
 obtain rfl:kV=.none:=Dflts.noKw hD
 obtain ⟨a,vs,ns,rfl,rfl,hobj,hints,hlen⟩:=oH hn hpre hwl
 refine enter_call (codeAny_mono (call w s₀ s₁ mg mb fa o pm cd doc a vs ns G Y ho (fd_plain hd) hcd hmg hobj hints hlen hg) λr s' hq=>?_)
 obtain ⟨rfl,h2,h3,h4⟩:=hq
 exact ⟨.inl ⟨.bool true,.bool true,[],rfl,λ_=>rfl,.bool true,oY l _,λ_=>⟨List.Pairwise.nil,λ_ hm=>(nomatch hm)⟩⟩,h2,h3,h4⟩
section
variable {prog:Program} {w:World} {A:Around} {E:Value->Shared->Prop} {s:Shared} {K:Frag}
end
end Att
namespace L2
open PySem PySem.Spec PyProof.Rows
theorem jS:∀ {vs:List Value} {ns:List Int},IntsAre vs ns->Vals (ns.map V.int) vs
 | _,_,.nil=>.nil
 | _,_,.cons n t h=>.cons ⟨t,rfl⟩ (jS h)
noncomputable def uV (H:Hp):Prop:=∀ b,H b=none\/∃ o xs,H b=some (.frz o (.lst xs))
theorem qh {P:Program} {w:World} {K:PySem.W.Frag} {mg mb:Str->Option Value} {CX:CXT} {k:Nat} {fa a:Addr} {fd:FuncData} {x:Str} {sp:Sp} {s₁:Shared} {vs:List Value} {ns:List Int}
   (KX:K.In s₁.heap) (hns:s₁.heap.Ns mainGlobals mg) (hb:s₁.heap.Ns builtinsNs mb) (hbb:∀ x:Str,x ≠ "__name__" -> mb x=bootBuiltins x) (hlim:s₁.heap.NoLimit) (hg:s₁.gens=#[])
   (ha:s₁.heap.get? a=some { cls:=.type "list",data:=.seq vs.toArray }) (hi:IntsAre vs ns) (hl:ns.length<=sizeLine) (hr:cZ k callerA)
   (F:∀ base:Heap,K.In base->base.Ns mainGlobals mg->aJ P w K mg base CX k fa fd [x] sp) (hbind:∀ (s:Shared) (u:Value),BindsTo s fd ⟨[u],[]⟩ [(x,u)])
   (hsp:∀ H:Hp,uV H->SqL K H a (ns.map V.int)->sp [.ref a] H (λv _=>v=.bl true) λ_ _ _=>False)
   (hCX:∀ H e s',CX [] H s₁ (λ_ _ _=>False) e s'->False) :
   codeAny (model P w) callerA (.call (.ref fa) ⟨[.ref a],[]⟩) (λr s'=>r=.ok (.ret (.bool true))/\OldK s₁.heap s'.heap/\s'.os=s₁.os/\AllBare s'.gens) s₁:=by
 have rv:=jS hi
 have lenV:=hi.length
 have core:∀ H:Hp,uV H->SqL K H a (ns.map V.int)->HOk P w H s₁.heap->(∀ b,H b ≠ none->b=a)->(H a ≠ none->K.lookup a=none) ->
     codeAny (model P w) callerA (.call (.ref fa) ⟨[.ref a],[]⟩) (λr s'=>r=.ok (.ret (.bool true))/\OldK s₁.heap s'.heap/\s'.os=s₁.os/\AllBare s'.gens) s₁:=by
   intro H hO hS hok hA hK
   have base_of:∀ {b:Addr} {o:Obj},s₁.heap.get? b=some o->H b=none->(ki s₁.heap H).get? b=some o:=λe n=>pO e n
   have noA:∀ {b:Addr} {o:Obj} {es:Array DictEntry} {ep:Nat},s₁.heap.get? b=some o->o.data=.dict es ep->H b=none:=λ{b o es ep} e d=>by
     cases q:H b with
     | none=>rfl
     | some u=>
       have e':b=a:=hA b (by rw [q]; simp)
       subst e'
       rw [ha] at e; cases e
       have d':Data.seq vs.toArray _=Data.dict es ep:=d
       cases d'
   have nsK:∀ {b:Addr} {m:Str->Option Value},s₁.heap.Ns b m->(ki s₁.heap H).Ns b m:=λ{b m} ⟨o,es,ep,e,d,r⟩=>⟨o,es,ep,base_of e (noA e d),d,r⟩
   have hKb:K.In (ki s₁.heap H):=λb o e=>base_of (KX b o e) (by
     cases q:H b with
     | none=>rfl
     | some u=>
       have e':b=a:=hA b (by rw [q]; simp)
       subst e'
       rw [hK (by rw [q]; simp)] at e; cases e)
   have hM:Mod K mg (ki s₁.heap H):=⟨hKb,nsK hns,⟨mb,nsK hb,hbb⟩,let ⟨mc,h1,h2⟩:=hlim; ⟨mc,nsK h1,h2⟩⟩
   have e0:qH P w K mg (ki s₁.heap H) callerA [] s₁ H:=⟨rfl,hM,λb o e=>rk e,Nat.le_of_eq (oD _ _),trivial,λb hb=>absurd (show b ∈ ([]:List Addr) from hb) (by simp),hok,.of_eq hg⟩
   refine codeAny_mono ((F _ hKb (nsK hns)).run callerA [] s₁ H ⟨[.ref a],[]⟩ [.ref a] [.ref a] _ _ hr e0 (hbind s₁ (.ref a)) (.cons rfl .nil) (hsp H hO hS)) λr s' h=>?_
   cases r with
   | error e=>exact (hCX H e s' h).elim
   | ok fl=>
     cases fl with
     | next=>exact False.elim h
     | brk=>exact False.elim h
     | cont=>exact False.elim h
     | ret u=>
       obtain ⟨v,H',os,bare,un,hok',r',q⟩:=h
       have q':v=.bl true:=q
       subst q'
       obtain rfl:u=Value.bool true:=r'
       refine ⟨rfl,OldK.of_keep λb o e=>?_,os,bare⟩
       cases q:H b with
       | none=>exact un.keep b o e q (by intro z; exact absurd (show b ∈ ([]:List Addr) from z) (by simp)) (by simp)
       | some u=>
         rcases hO b with z | ⟨ob,xs,z⟩
         · rw [q] at z; cases z
         · have z2:=un.frzs b ob _ z
           obtain ⟨e1,_⟩:=hok b _ z
           obtain ⟨e2,_⟩:=hok' b _ z2
           rw [e] at e1; cases e1
           exact e2
 cases hk:K.lookup a with
 | some o=>
   have e:=KX a o hk
   rw [ha] at e
   cases e
   refine core (λ_=>none) (λ_=>.inl rfl) (.inr ⟨_,vs.toArray,_,hk,rfl,rfl,rfl,by rw [List.size_toArray,lenV]; exact hl,by simpa using rv⟩) (λb u z=>by have z':(none:Option HO)=some u:=z; cases z') (λb z=>absurd rfl z) λz=>absurd rfl z
 | none=>
   refine core (λb=>if b=a then some (.frz { cls:=.type "list",data:=.seq vs.toArray } (.lst (ns.map V.int))) else none) (λb=>?_) (.inl (.inr ⟨{ cls:=.type "list",data:=.seq vs.toArray },if_pos rfl⟩)) (λb u z=>?_) (λb z=>?_) λ_=>hk
   · by_cases hb:b=a
     · exact .inr ⟨_,_,if_pos hb⟩
     · exact .inl (if_neg hb)
   · by_cases hb:b=a
     · have z':=(if_pos hb).symm.trans z
       cases z'
       subst hb
       exact ⟨ha,by rw [List.length_map]; exact hl,vs,_,rv,ha⟩
     · have z':=(if_neg hb).symm.trans z
       cases z'
   · by_cases hb:b=a
     · exact hb
     · exact absurd (if_neg hb) z
theorem rA {l:PySem.W.OpenLaw} {n k:Nat} {q:Program} {loose:List Str} {XP:(Str->Option Value)->Heap->Prop} {YP:World->Heap->Prop} {d:DefRec} {K:Params->PySem.W.Frag} {CX:World->CXT} {sp:World->Sp} {x:Str}
   (hn:l.most=some n) (hn2:n<=sizeLine) (hdf:d.params.defaults=[]) (hr:cZ k callerA)
   (hY:∀ (w:World) (h:Heap),YP w h->(K w.params).In h)
   (F:∀ (w:World) (mg:Str->Option Value) (fa:Addr) (h:Heap),(K w.params).In h->h.Ns mainGlobals mg->mg d.name=some (.ref fa) ->
     ∃ fd:FuncData,(∀ (s:Shared) (u:Value),BindsTo s fd ⟨[u],[]⟩ [(x,u)]) /\
       ∀ base:Heap,(K w.params).In base->base.Ns mainGlobals mg->aJ l.prog w (K w.params) mg base (CX w) k fa fd [x] (sp w))
   (hsp:∀ (w:World) (H:Hp) (a:Addr) (ns:List Int),ns.length<=n->uV H->SqL (K w.params) H a (ns.map V.int)->sp w [.ref a] H (λv _=>v=.bl true) λ_ _ _=>False)
   (hCX:∀ (w:World) (H:Hp) (s:Shared) (e:Value) (s':Shared),CX w [] H s (λ_ _ _=>False) e s'->False) :
   PySem.W.WalkO q loose XP YP l.row.toRowW d [] (λf vs=>PySem.call f vs):=by
 refine Att.kZ hn hdf λw s₀ s₁ mg mb fa o pm cd doc a vs ns G Y ho hd hcd hmg hobj hints hlen hg=>?_
 have KX:=hY w _ Y
 obtain ⟨fd,hb,hF⟩:=F w mg fa _ KX G.T.g hmg
 exact qh KX G.T.g G.T.b G.T.builtins G.T.nolimit hg hobj hints (Nat.le_trans hlen hn2) hr hF hb (λH hO hS=>hsp w H a ns hlen hO hS) λH e s'=>hCX w H s₁ e s'
noncomputable def bO (s:Stmt):Arguments:=match s with
 | .FunctionDef _ a _ _ _ _ _ _ _ _=>a
 | _=>{ posonlyargs:=[],args:=[],vararg:=none,kwonlyargs:=[],kw_defaults:=[],kwarg:=none,defaults:=[] }
noncomputable def bp (s:Stmt):List Stmt:=match s with
 | .FunctionDef _ _ b _ _ _ _ _ _ _=>b
 | _=>[]
noncomputable def ai (s:Stmt):Scope:=match s with
 | .FunctionDef _ _ _ _ _ _ sc _ _ _=>sc
 | _=>{ kind:=.function,names:=[],isGenerator:=false,isCoroutine:=false }
noncomputable abbrev CX0:CXT:=λ_ _ _ _ _ _=>False
noncomputable abbrev E0:XK:=λ_ _ _=>False
theorem wz {X:Cx}:Passes CX0 X E0:=λ_ _ _ _ _ _ _ h=>h.elim
structure Fun (K:PySem.W.Frag) (x qual:Str) (st:Stmt) (f:Addr) (fd:FuncData):Prop where
 ex:∃ (oc:Value) (od:Option Addr) (dV kV doc pm:Value) (an:Option Addr) (cdv ct:Value) (osl:Array (Option Value)),
   fd=PySem.W.fnOf x qual (bO st) (bp st) (ai st) dV kV doc pm an cdv ct/\K.lookup f=some ⟨oc,od,.func fd,osl⟩/\PySem.W.codeIn K cdv qual=true
 kp:PySem.W.keepIn K (.ref f)=true
section
variable {P:Program} {w:World} {K:PySem.W.Frag} {mg:Str->Option Value} {base:Heap}
theorem Fun.ok {x qual:Str} {st:Stmt} {f:Addr} {fd:FuncData} {N ps:List Str} {k:Nat} {sp:Sp} (F:Fun K x qual st f fd) (S:aq N ps (ai st)) (len:∀ vs H Q E,sp vs H Q E->vs.length=ps.length)
   (hbody:∀ (cdv:Value) (A:Around) (outer:List Env) (s:Shared) (H:Hp) (vs:List V) (Q:VK) (E:XK),cZ k (A.deeper (envOfC qual (ai st) s.heap.objs.size f cdv))->sp vs H Q E ->
     ∃ t,PSs (iB CX0 P w K mg base N qual (ai st) f cdv A outer s H E).nox (bp st) t/\t { nx:=λ_ H'=>Q .non H',rt:=Q } (start N vs) H):aJ P w K mg base CX0 (k + 1) f fd ps sp:=by
 obtain ⟨oc,od,dV,kV,doc,pm,an,cdv,ct,osl,rfl,lk,hcd⟩:=F.ex
 refine sY lk hcd S len λA outer s H vs Q E hr hsp=>?_
 obtain ⟨t,h,q⟩:=hbody cdv A outer s H vs Q E hr hsp
 exact ⟨t,h.nox,q⟩
theorem Fun.binds {x qual:Str} {st:Stmt} {f:Addr} {fd:FuncData} {ps:List Str} (_:Fun K x qual st f fd) (h:∀ us:List Value,us.length=ps.length->bindArgs fd ⟨us,[]⟩=pure (ps.zip us)):Binds K fd ps []:=.all h
theorem l6 {x qual:Str} {st:Stmt} {f:Addr} {oc:Value} {od an:Option Addr} {osl:Array (Option Value)} {dV kV doc pm cdv ct:Value} (l:K.lookup f=some ⟨oc,od,.func (PySem.W.fnOf x qual (bO st) (bp st) (ai st) dV kV doc pm an cdv ct),osl⟩)
   (c:PySem.W.codeIn K cdv qual=true) (k:PySem.W.keepIn K (.ref f)=true):Fun K x qual st f (PySem.W.fnOf x qual (bO st) (bp st) (ai st) dV kV doc pm an cdv ct):=⟨⟨oc,od,dV,kV,doc,pm,an,cdv,ct,osl,rfl,l,c⟩,k⟩
end
theorem jz {n:Nat} (h:n<=1000):n < sizeLine:=Nat.lt_of_le_of_lt h (by decide)
section
variable {X:Cx}
end
theorem oj {A B:Prop} (h:B):if false=true then A else B:=by
 rw [if_neg Bool.false_ne_true]
 exact h
theorem mz {A B:Prop} (h:A):if true=true then A else B:=by
 rw [if_pos rfl]
 exact h
noncomputable def ao (H H':Hp):Prop:=∀ b o,H b=some o->H' b=some o
theorem ao.refl (H:Hp):ao H H:=λ_ _ h=>h
theorem ao.trans {H H1 H2:Hp} (a:ao H H1) (b:ao H1 H2):ao H H2:=λc o h=>b c o (a c o h)
theorem ao.free {H H':Hp} (e:ao H H') {l:Addr} (h:H' l=Option.none):H l=Option.none:=by
 cases q:H l with
 | none=>rfl
 | some o=>
   rw [e l o q] at h
   cases h
theorem ao.seq {K:PySem.W.Frag} {H H':Hp} {a:Addr} {xs:List V} (e:ao H H') (h:SqL K H a xs):SqL K H' a xs:=by
 rcases h with (h | ⟨o,h⟩) | h
 · exact .inl (.inl (e _ _ h))
 · exact .inl (.inr ⟨o,e _ _ h⟩)
 · exact .inr h
end L2
set_option linter.all false
set_option maxRecDepth 100000
namespace Hx
open PySem PySem.Spec PyProof.Rows
noncomputable def Fly (old:Addr->Prop) (e C:Addr) (fl:Value) (h:Heap):Prop:=
 ∃ oe vs T oT ts,(¬ old e/\∀ b,old b->∃ u,h.get? b=some u)/\h.get? e=some oe/\(oe.cls=.ref C/\oe.dict=none)/\oe.data=.fields vs/\vs[2]?=some .none/\vs[1]?=some (.ref T)/\¬ old T/\T ≠ e/\h.get? T=some oT/\oT.data=.fields ts/\ts[3]?=some fl
structure Kp (old:Addr->Prop) (fs:List Addr) (h h':Heap):Prop where
 keep:∀ b o,old b->b ∉ fs->h.get? b=some o->h'.get? b=some o
 slot:∀ b o,old b->h.get? b=some o->∃ sl,h'.get? b=some { o with slots:=sl }
theorem pe (f:Array Value->Array Value) (o:Obj):(Obj.mapFields f o).dict=o.dict:=by
 obtain ⟨c,d,dt,sl⟩:=o
 cases dt <;> rfl
theorem Kp.trans {old:Addr->Prop} {fs:List Addr} {h h1 h2:Heap} (a:Kp old fs h h1) (b:Kp old fs h1 h2):Kp old fs h h2:=
 ⟨λx o q n e=>b.keep x o q n (a.keep x o q n e),λx o q e=>let ⟨_,e1⟩:=a.slot x o q e; let ⟨sl,e2⟩:=b.slot x _ q e1; ⟨sl,e2⟩⟩
theorem Kp.of {old:Addr->Prop} {fs:List Addr} {h h':Heap} (k:∀ b o,old b->h.get? b=some o->h'.get? b=some o):Kp old fs h h':=⟨λb o q _ e=>k b o q e,λb o q e=>⟨o.slots,k b o q e⟩⟩
section
variable {M:Model} {A:Around} {E:Value->Shared->Prop} {s:Shared}
theorem jx {old:Addr->Prop} {base:Heap} {env:Env} {outer:List Env} {L e C:Addr} {oe:Obj} {vs:Array Value} {head:Value} {more:Bool} {Q:Unit->Shared->Prop} (fr:A.frames=some (env :: outer)) (ff:s.heap.FunFrames base (env :: outer)) (fl:env.frame=some L)
   (he:s.heap.get? e=some oe) (hc:oe.cls=.ref C/\oe.dict=none) (hd:oe.data=.fields vs) (h1:1 < vs.size) (h2:vs[2]?=some .none) (l1:¬ old e/\∀ b,old b->∃ u,s.heap.get? b=some u)
   (k:∀ h',Kp old ((env :: outer).filterMap (·.frame)) s.heap h'->Fly old e C (rawInt L) h'->Q () { s with heap:=h' }) :
   wpAny M A (do let f <- frameOf env; let p <- entryPlaceOf L more; let t <- EntryCells.newEntry head f .none (rawInt L) .none p; setField (.ref e) 1 t) Q E s:=by
 have ne:e ∉ (env :: outer).filterMap (·.frame):=λm=>by
   obtain ⟨_,o,g,d⟩:=ff.mem m
   rw [he] at g; cases g
   exact d vs hd
 refine wpAny_bind (wpAny_frameOf_fun fr ff fl λg1 sl=>wpAny_bind (wpAny_entryPlaceOf λp hp=>?_))
 unfold EntryCells.newEntry newFields
 refine wpAny_bind (wpAny_newObj_type ?_ (hp.sizeOk5 _ _ _ _ _))
 have e1:g1.get? e=some oe:=(sl.2.1 e ne).trans he
 have lT:¬ old g1.objs.size:=λz=>by
   obtain ⟨u,g⟩:=l1.2 _ z
   have:=Heap.lt_size g
   rw [<- sl.1] at this
   exact Nat.lt_irrefl _ this
 generalize hT:({ cls:=.type "traceback",dict:=none,data:=.fields ([head,.ref L,.none,rawInt L,.none]++(if p.isEmpty then List.replicate 6 Value.none else p)).toArray }:Obj)=oT
 have e2:(g1.push oT).get? e=some oe:=Heap.get?_push_of_some oT e1
 refine wpAny_setField e2 hd h1 ?_
 have nT:g1.objs.size ≠ e:=Nat.ne_of_gt (Heap.lt_size e1)
 have d3:=Obj.data_mapFields hd (·.setIfInBounds 1 (Value.ref g1.objs.size))
 have dR:∀ b o,old b->g1.get? b=some o->((g1.push oT).update e (Obj.mapFields (·.setIfInBounds 1 (Value.ref g1.objs.size)))).get? b=some o:=λb o q g=>by
   rw [Heap.get?_update_other _ _ (show e ≠ b from λz=>l1.1 (by rw [z]; exact q))]
   exact Heap.get?_push_of_some oT g
 refine k _ ⟨λb o q n g=>dR b o q ((sl.2.1 b n).trans g),λb o q g=>?_⟩ ?_
 · obtain ⟨z,w⟩:=sl.2.2 b o g
   exact ⟨z,dR b _ q w⟩
 · refine ⟨_,_,g1.objs.size,oT,_,⟨l1.1,λb q=>?_⟩,Heap.get?_update_self _ e2 (Obj.isFreed_of_fields d3),⟨(Obj.cls_mapFields _ _).trans hc.1,(pe _ _).trans hc.2⟩,d3,?_,?_,lT,nT,?_,by rw [<- hT],?_⟩
   · obtain ⟨u,g⟩:=l1.2 b q
     obtain ⟨z,w⟩:=sl.2.2 b u g
     exact ⟨_,dR b _ q w⟩
   · rw [Array.getElem?_setIfInBounds_ne (by decide)]; exact h2
   · simp [h1]
   · rw [Heap.get?_update_other _ _ (Ne.symm nT)]
     exact Heap.get?_push_size g1 (by rw [<- hT]; rfl)
   · first | (simp; done) | (rcases hp with rfl | ⟨_,_,_,_,_,_,_,rfl⟩ <;> simp)
theorem mv {old:Addr->Prop} {base:Heap} {env:Env} {outer:List Env} {L e C:Addr} {oe:Obj} {vs:Array Value} {Q:Unit->Shared->Prop} (fr:A.frames=some (env :: outer)) (ff:s.heap.FunFrames base (env :: outer)) (fl:env.frame=some L)
   (he:s.heap.get? e=some oe) (hc:oe.cls=.ref C/\oe.dict=none) (hd:oe.data=.fields vs) (h1:vs[1]?=some .none) (h2:vs[2]?=some .none) (l1:¬ old e/\∀ b,old b->∃ u,s.heap.get? b=some u)
   (k:∀ h',Kp old ((env :: outer).filterMap (·.frame)) s.heap h'->Fly old e C (rawInt L) h'->Q () { s with heap:=h' }):wpAny M A (noteFrame (.ref e) env) Q E s:=by
 unfold noteFrame
 simp only [fl]
 refine wpAny_bind (wpAny_field he hd h1 ?_)
 rw [if_neg (by decide)]
 exact jx fr ff fl he hc hd (Array.getElem?_eq_some_iff.mp h1).1 h2 l1 k
theorem jU {old:Addr->Prop} {base:Heap} {env:Env} {outer:List Env} {L e C:Addr} {Q:Unit->Shared->Prop} (fr:A.frames=some (env :: outer)) (ff:s.heap.FunFrames base (env :: outer)) (fl:env.frame=some L) (y:Fly old e C .none s.heap)
   (k:∀ h',Kp old ((env :: outer).filterMap (·.frame)) s.heap h'->Fly old e C (rawInt L) h'->Q () { s with heap:=h' }):wpAny M A (noteFrame (.ref e) env) Q E s:=by
 obtain ⟨oe,vs,T,oT,ts,l1,he,hc,hd,h2,h1,lT,nT,gT,dT,h3⟩:=y
 unfold noteFrame
 simp only [fl]
 refine wpAny_bind (wpAny_field he hd h1 ?_)
 rw [if_pos (by simp)]
 refine wpAny_bind (wpAny_field gT dT h3 ?_)
 rw [if_neg (by simp [rawInt])]
 refine wpAny_bind (wpAny_setField gT dT (Array.getElem?_eq_some_iff.mp h3).1 ?_)
 have oth:∀ b,b ≠ T->(s.heap.update T (Obj.mapFields (·.setIfInBounds 3 Value.none))).get? b=s.heap.get? b:=λb n=>Heap.get?_update_other _ _ (Ne.symm n)
 have kp:Kp old ((env :: outer).filterMap (·.frame)) s.heap (s.heap.update T (Obj.mapFields (·.setIfInBounds 3 Value.none))):=Kp.of λb o q g=>(oth b λz=>lT (z ▸ q)).trans g
 refine jx (base:=base) fr (ff.of_keeps λb o g d=>⟨o,(oth b λz=>?_).trans g,rfl⟩) fl ((oth e (Ne.symm nT)).trans he) hc hd (Array.getElem?_eq_some_iff.mp h1).1 h2 ⟨l1.1,λb q=>let ⟨u,g⟩:=l1.2 b q; ⟨u,(oth b λz=>lT (z ▸ q)).trans g⟩⟩ λh' a y'=>k h' (kp.trans a) y'
 rw [z,gT] at g; cases g
 exact d ts dT
theorem land {old:Addr->Prop} {fs:List Addr} {e C:Addr} {f:Value} {Q:Unit->Shared->Prop} (y:Fly old e C f s.heap) (k:∀ h',Kp old fs s.heap h'->Fly old e C .none h'->Q () { s with heap:=h' }):wpAny M A (setFlight (.ref e) none) Q E s:=by
 obtain ⟨oe,vs,T,oT,ts,l1,he,hc,hd,h2,h1,lT,nT,gT,dT,h3⟩:=y
 have z3:=(Array.getElem?_eq_some_iff.mp h3).1
 refine wpAny_setFlight_none he hd h1 gT dT z3 ?_
 have oth:∀ b,b ≠ T->(s.heap.update T (Obj.mapFields (·.setIfInBounds 3 Value.none))).get? b=s.heap.get? b:=λb n=>Heap.get?_update_other _ _ (Ne.symm n)
 refine k _ (Kp.of λb o q g=>(oth b λz=>lT (z ▸ q)).trans g) ?_
 exact ⟨oe,vs,T,_,_,⟨l1.1,λb q=>let ⟨u,g⟩:=l1.2 b q; ⟨u,(oth b λz=>lT (z ▸ q)).trans g⟩⟩,(oth e (Ne.symm nT)).trans he,hc,hd,h2,h1,lT,nT,Heap.get?_update_self _ gT (Obj.isFreed_of_fields (Obj.data_mapFields dT _)),Obj.data_mapFields dT _,by simp [z3]⟩
theorem kQ {old:Addr->Prop} {base:Heap} {env:Env} {outer:List Env} {L e C:Addr} {oe:Obj} {vs:Array Value} {Q:Unit->Shared->Prop} (fr:A.frames=some (env :: outer)) (ff:s.heap.FunFrames base (env :: outer)) (fl:env.frame=some L)
   (he:s.heap.get? e=some oe) (hc:oe.cls=.ref C/\oe.dict=none) (hd:oe.data=.fields vs) (h1:vs[1]?=some .none) (h2:vs[2]?=some .none) (l1:¬ old e/\∀ b,old b->∃ u,s.heap.get? b=some u)
   (k:∀ h',Kp old ((env :: outer).filterMap (·.frame)) s.heap h'->Fly old e C .none h'->Q () { s with heap:=h' }):wpAny M A (leaving env (.ref e)) Q E s:=by
 unfold leaving
 refine wpAny_bind (mv fr ff fl he hc hd h1 h2 l1 λh' a y=>?_)
 exact land (s:={ s with heap:=h' }) y λh'' b y'=>k h'' (a.trans b) y'
theorem mf {old:Addr->Prop} {base:Heap} {env:Env} {outer:List Env} {L e C:Addr} {Q:Unit->Shared->Prop} (fr:A.frames=some (env :: outer)) (ff:s.heap.FunFrames base (env :: outer)) (fl:env.frame=some L) (y:Fly old e C .none s.heap)
   (k:∀ h',Kp old ((env :: outer).filterMap (·.frame)) s.heap h'->Fly old e C .none h'->Q () { s with heap:=h' }):wpAny M A (leaving env (.ref e)) Q E s:=by
 unfold leaving
 refine wpAny_bind (jU fr ff fl y λh' a y'=>?_)
 exact land (s:={ s with heap:=h' }) y' λh'' b y2=>k h'' (a.trans b) y2
theorem Fly.at {old:Addr->Prop} {e C:Addr} {f:Value} {h:Heap} (y:Fly old e C f h):∃ o vs,h.get? e=some o/\(o.cls=.ref C/\o.dict=none)/\o.data=.fields vs/\vs[2]?=some .none/\¬ old e:=by
 obtain ⟨oe,vs,T,oT,ts,l1,he,hc,hd,h2,_⟩:=y
 exact ⟨oe,vs,he,hc,hd,h2,l1.1⟩
end
end Hx
namespace Hx
open PySem PySem.Spec PySem.Calls PyProof.Rows PySem.W
structure cI (K:Frag) (D:Addr):Prop where
 cls:(clsIn K D).isSome=true
 ga:findIn K (.ref D) "__getattribute__" = some (some (.builtin "BaseException.__getattribute__"))
 gt:findIn K (.ref D) "__getattr__" = some none
 at_:findIn K (.ref D) "__class__" = some (some (.builtin "object.__class__"))
 get:specialIn K (.builtin "object.__class__") "__get__" = some (some (.builtin "getset_descriptor.__get__"))
 tk:takesIn K (.builtin "object.__class__")=some true
 obj:mroIn K D (.type "object")=some true
 exc:mroIn K D (.type "BaseException")=some true
section
variable {prog:Program} {w:World} {A:Around} {E:Value->Shared->Prop} {s:Shared} {K:Frag} {x D:Addr} {ox:Obj}
theorem rK:builtinKind "BaseException.__getattribute__" = some .slot:=by decide +kernel
theorem pJ:splitId "BaseException.__getattribute__" = some ("BaseException","__getattribute__"):=by decide +kernel
theorem kS (c:cI K D):findObj K D none "__class__" = some (.bind (.builtin "getset_descriptor.__get__") (.builtin "object.__class__")):=by
 obtain ⟨cd,h⟩:=Option.isSome_iff_exists.mp c.cls
 unfold findObj
 rw [h,Option.bind_some,c.at_,Option.bind_some]
 simp [c.get,c.tk]
theorem qO {tk:Tok} {R:Result->Shared->Prop} (c:cI K D) (X:K.In s.heap) (I:InstAt s.heap x ox D none) (q:R (.ok (.ret (.ref D))) s) :
   wpAny (model prog w) A (Builtin.«object.__getattribute__» ⟨[.ref x,.str "__class__" tk],[]⟩) (λfin s'=>match fin with | .done f=>R (.ok f) s' | .again _=>False) E s:=by
 have lt:=I.type (M:=model prog w)
 have L3:=looks_find (M:=model prog w) X I (kS c)
 unfold Builtin.«object.__getattribute__»
 refine wpAny_bind (wpAny_pure ?_)
 dsimp only
 refine wpAny_bind (wpAny_pure ?_)
 refine wpAny_bind (lt.here (wpAny_bind (L3.here ?_)))
 dsimp only
 show wpAny _ _ (do let v <- holding [.builtin "object.__class__"] (call (.builtin "getset_descriptor.__get__") [.builtin "object.__class__",.ref x,.ref D]); ret v) _ _ _
 refine wpAny_bind (wpAny_holding (wpAny_call (class_get X I c.obj ?_)))
 exact wpAny_pure q
theorem rn (a b:Value):argsOk "BaseException.__getattribute__" ⟨a :: [b],[]⟩:=PySem.F.args_bexc_ga a b
theorem qF {tk:Tok} {Q:Unit->Shared->Prop} (L4:Looks (model prog w) s.heap (isInstance (.ref x) (.type "BaseException")) true) (q:Q () s):wpAny (model prog w) A (checkBuiltinCall "BaseException.__getattribute__" ⟨Value.ref x :: [.str "__class__" tk],[]⟩) Q E s:=
 check_slot (M:=model prog w) (A:=A) (E:=E) (s:=s) (i:="BaseException.__getattribute__") (owner:="BaseException") (n:="__getattribute__") (self:=.ref x) (rest:=[.str "__class__" tk]) (kw:=[]) (Q:=Q) rK pJ L4 (rn _ _) q
theorem rR {tk:Tok} {R:Result->Shared->Prop} (c:cI K D) (X:K.In s.heap) (I:InstAt s.heap x ox D none) (q:R (.ok (.ret (.ref D))) s) :
   codeAny (model prog w) A (.call (.builtin "BaseException.__getattribute__") ⟨[.ref x,.str "__class__" tk],[]⟩) R s:=by
 refine codeAny_call_builtin PySem.F.attr_ValueError.ga.plain PySem.F.entry_bexc_ga (qF ((I.type (M:=model prog w)).andThen (looks_mroIn X c.exc)) ?_)
 refine wpAny_mono (qO (R:=R) (E:=λe s'=>R (.error e) s') c X I q) (λfin s' z=>?_) λ_ _ z=>z
 cases fin with
 | done f=>exact z
 | again c'=>exact z.elim
theorem oO {Q:Option Value->Shared->Prop} (c:cI K D) (X:K.In s.heap) (I:InstAt s.heap x ox D none) (q:Q (some (.ref D)) { s with toks:=s.toks + 1 }):wpAny (model prog w) A (getAttr? (.ref x) "__class__") Q E s:=by
 obtain ⟨hh,g,d,t,os⟩:=s
 have lt:=I.type (M:=model prog w)
 have lg:=looks_findIn (M:=model prog w) X c.ga; have lh:=looks_findIn (M:=model prog w) X c.gt
 have L3:=looks_find (M:=model prog w) X I (kS c)
 have L4:Looks (model prog w) hh (isInstance (.ref x) (.type "BaseException")) true:=lt.andThen (looks_mroIn X c.exc)
 unfold getAttr? getAttrBy? getAttrBy; refine wpAny_bind (wpAny_mkText (wpAny_bind (wpAny_attempt (wpAny_holding (wpAny_bind (lt.at (wpAny_bind (lg.at ?_))))))))
 dsimp only
 have no:(Value.builtin "BaseException.__getattribute__" == Value.builtin "object.__getattribute__")=false:=by decide +kernel
 rw [no,Bool.and_false,if_neg Bool.false_ne_true]
 unfold getAttrByItsOwn hookBefore
 rw [if_pos (show onTheHeap (Value.ref D)=true from rfl)]
 refine wpAny_bind (lh.at (wpAny_bind (wpAny_attempt (wpAny_holding ?_))))
 unfold callGetattribute boundAndCalled
 rw [if_neg (show ¬ ((false && onTheHeap (Value.builtin "BaseException.__getattribute__"))=true) by decide),PySem.F.attr_ValueError.ga.bind]
 refine wpAny_bind (wpAny_pure ?_)
 show wpAny (model prog w) A (call (.builtin "BaseException.__getattribute__") [.ref x,.str "__class__" t]) _ _ _
 refine wpAny_call (rR c X I ?_)
 exact handed_on rfl (wpAny_pure q)
theorem pN (c:cI K D):KitX K (.ref x) (.ref D) (λh=>∃ ox,InstAt h x ox D none) where
 ty:=λ_ _ _ ⟨_,I⟩=>I.type
 it:=λ_ _ X _=>by
   obtain ⟨cd,h⟩:=Option.isSome_iff_exists.mp c.cls
   unfold clsIn at h
   split at h
   · rename_i ho
     intro B R F s1 kp z
     unfold isType loadHead; exact wpAny_bind (wpAny_loadPart (kp _ _ (X _ _ ho)) (wpAny_pure z))
   · cases h
 ne:=λg t od xs m ws X e=>by
   obtain ⟨cd,h⟩:=Option.isSome_iff_exists.mp c.cls
   refine Bool.eq_false_iff.mpr λq=>(?_:False)
   obtain rfl:D=t:=Value.ref.inj (beq_iff_eq.mp q)
   unfold clsIn at h
   split at h
   · rename_i ho
     cases (X _ _ ho).symm.trans e
   · cases h
 ca:=λX ⟨_,I⟩ k=>oO c X I k
end
end Hx
namespace Hx
open PySem PySem.Spec PySem.Calls PyProof.Rows PySem.W L2
noncomputable def nsO (o:Obj):Bool:=match o.data with | .dict es _=>es.toList.all (λe=>match e.key with | .str _ _=>true | _=>false) | _=>false
noncomputable abbrev bmV:List Value:=[.type "ValueError",.type "Exception",.type "BaseException",.type "object"]
structure ug (K:Frag) (C S:Addr):Prop where
 obj:∃ nm q N bs hdct sn sub ab col dd k0 k1 k2 k3 k5 oN,K.lookup C=some (excClassObj nm q C N bs (.ref S :: bmV) hdct sn sub ab col dd k0 k1 k2 k3 k5 "ValueError.__new__")/\K.lookup N=some oN/\nsO oN=true/\nsIn K N "__init__" = some none
 sup:∃ c0 dd cd sl oN,K.lookup S=some ⟨c0,dd,.cls cd,sl⟩/\K.lookup cd.ns=some oN/\nsO oN=true/\nsIn K cd.ns "__init__" = some none
 at_:cI K C
theorem vR {K:Frag} {h:Heap} {N:Addr} {o:Obj} {x:Str} (X:K.In h) (e:K.lookup N=some o) (n:nsO o=true) (i:nsIn K N x=some none):∃ m,h.Ns N m/\m x=none:=by
 have e':=X _ _ e
 have q:h.isNs N=true:=by
   unfold Heap.isNs
   rw [e']
   obtain ⟨c,d,dt,sl⟩:=o
   cases dt with
   | dict es ep=>
     show es.all _=true
     rw [<- Array.all_toList]
     exact n
   | _=>cases n
 refine ⟨_,.of_isNs q,?_⟩
 unfold nsIn at i
 rw [e] at i
 unfold Heap.nsMap
 rw [e']
 obtain ⟨c,d,dt,sl⟩:=o
 cases dt with
 | dict es ep=>
   dsimp only at i ⊢
   unfold nsFind findBy
   rw [<- Array.find?_toList]
   split at i
   · cases i
   · rename_i z
     rw [z]; rfl
 | _=>rfl
section
variable {X:Cx} {x:Str} {C S:Addr} {np cpos pos:Pos} {e:Expr} {es:List Expr} {t:TA}
theorem pf (hc:X.calm=true) (hg:Gl X x) (hm:X.mg x=some (.ref C)) (O:ug X.K C S) (ha:PA X (e :: es) t) (hdb:(x == ("__debug__" : Str))=false)
   (he:starEach (e :: es) X.env=(false,eval e X.env) :: starEach es X.env) (hpl:(backTo cpos (starEach es X.env)).any (·.1)=false) :
   PS X (.Raise (some (.Call (.Name x np) (e :: es) [] cpos)) none pos) (λ_ σ H=>t σ H λvs H1=>vs.length<=sizeLine/\∀ pins s us,Inv X pins σ H1 s->∀ h' a,Heap.MadeExcOf s.heap h' a (.ref C) us->X.xe (.ref a) { s with heap:=h' }):=by
 intro pins s σ H D I q
 obtain ⟨nm,qn,N,bs,hdct,sn,sub,ab,col,dd,k0,k1,k2,k3,k5,oN,hC,hN,hn,hi⟩:=O.obj
 obtain ⟨c0,dd',cd,sl,oS,hS,hNS,hnS,hiS⟩:=O.sup
 obtain ⟨mN,nN,iN⟩:=vR I.mod.kin hN hn hi
 obtain ⟨mS,nS,iS⟩:=vR I.mod.kin hNS hnS hiS
 refine wpAny_Raise_call_subU (C:=C) (nm:=nm) (q:=qn) (N:=N) (bs:=bs) (bm:=.ref S :: bmV) (hdct:=hdct) (sn:=sn) (sub:=sub) (ab:=ab) (col:=col) (dd:=dd) (k0:=k0) (k1:=k1) (k2:=k2) (k3:=k3) (k5:=k5) (mN:=mN) PySem.F.excBase_ValueError (by decide) PySem.F.excBase_ValueError
   (by rw [List.contains_cons]; rw [show bmV.contains (.type "BaseException")=true by decide]; rw [Bool.or_true]) (I.ok.hd hc) (by rw [he]; exact hpl) iN (fZ I hg hm ⟨rfl,?_⟩ hdb)
 rw [he]
 refine Calls.evalArgs_plain ?_
 have q':=ha cpos pins s σ H _ I q
 rw [he] at q'
 refine thn q' λus s1 ⟨vs,H1,I1,r1,l1,q1⟩=>?_
 exact ⟨rfl,by rw [<- r1.length]; exact l1,I1.kIn _ _ hC,nN.keeps I1.bk,.own (I1.kIn _ _ hS) (nS.keeps I1.bk) iS .base,λh' a m=>q1 pins s1 us I1 h' a m⟩
end
section
variable {fs fs' ch:List Addr} {H H1:Hp} {h h1 h2:Heap} {old:Addr->Prop} {P:Program} {w:World} {a:Addr}
theorem nH (u:Un fs ch H H1 h h1) (k:Kp old fs' h1 h2) (ho:∀ b o,h.get? b=some o->old b) (hf:∀ b o,h.get? b=some o->b ∈ fs'->b ∈ fs):Un fs ch H H1 h h2 where
 keep:=λb o e n nf nx=>k.keep b o (ho b o e) (λz=>nf (hf b o e z)) (u.keep b o e n nf nx)
 slot:=λb o e n f nx=>let ⟨_,z⟩:=u.slot b o e n f nx; let ⟨sl,z2⟩:=k.slot b _ (ho b o e) z; ⟨sl,z2⟩
 free:=u.free
 there:=λb o e nx=>let ⟨o',z⟩:=u.there b o e nx; let ⟨_,z2⟩:=k.slot b o' (ho b o e) z; ⟨_,z2⟩
 tups:=u.tups
 frzs:=u.frzs
 tbls:=u.tbls
theorem km (x:HOk P w H h1) (k:Kp old fs h1 h2) (q:∀ b o,H b=some o->old b/\b ∉ fs):HOk P w H h2:=λb o e=>by
 refine (x b o e).dR (λd v hd z=>?_) (λ_ z=>z) λ_ _ z=>z
 rcases hd with rfl | hd
 · exact k.keep _ v (q _ _ e).1 (q _ _ e).2 z
 · exact k.keep d v (q _ _ hd).1 (q _ _ hd).2 z
theorem tu {o:Obj} {x:HO} (u:Un fs [] H H1 h h2) (ha:h.get? a=none) (hn:H1 a=none):Un fs [] H (upd H1 a (.frz o x)) h h2 where
 keep:=u.keep
 slot:=u.slot
 free:=λb ob e n nx=>by
   rw [az (λz=>by rw [z,ha] at e; cases e)]
   exact u.free b ob e n nx
 there:=u.there
 tups:=λb xs e=>by have z:=u.tups b xs e; rw [az (aA z hn)]; exact z
 frzs:=λb ob v e=>by have z:=u.frzs b ob v e; rw [az (aA z hn)]; exact z
 tbls:=λb ps e=>by obtain ⟨m,z⟩:=u.tbls b ps e; exact ⟨m,by rw [az (aA z hn)]; exact z⟩
theorem sx {o:Obj} (x:HOk P w H h) (hn:H a=none) (e:h.get? a=some o):HOk P w (upd H a (.frz o (.ext λ_=>True))) h:=λb ob z=>by
 by_cases hb:b=a
 · subst hb
   rw [aV] at z; cases z
   exact ⟨e,trivial,⟨o,e⟩,λ_ _ _ _=>trivial⟩
 · rw [az hb] at z
   exact (x b ob z).dR (λ_ _ _ q=>q) (λc q=>by rw [az (aA q hn)]; exact q) λc xs q=>by rw [az (aA q hn)]; exact q
end
theorem there {P:Program} {w:World} {H:Hp} {h:Heap} {a:Addr} {o:HO} (x:bW P w H h a o):∃ u,h.get? a=some u:=by
 cases o with
 | lst xs=>obtain ⟨_,_,_,_,e⟩:=x; exact ⟨_,e⟩
 | tup xs=>obtain ⟨_,_,_,o,e,_⟩:=x; exact ⟨_,e⟩
 | dK kvs=>obtain ⟨_,_,_,_,o,_,_,e,_⟩:=x; exact ⟨_,e⟩
 | dT kvs=>obtain ⟨_,_,_,_,o,_,_,e,_⟩:=x; exact ⟨_,e⟩
 | set S n=>obtain ⟨o,_,_,_,e,_⟩:=x; exact ⟨_,e⟩
 | ins C dx fs=>obtain ⟨_,_,_,e,_⟩:=x; exact ⟨_,e⟩
 | own y=>exact x
 | xd fs=>obtain ⟨_,⟨o,_,_,e,_⟩,_⟩:=x; exact ⟨_,e⟩
 | met f y=>exact ⟨_,x⟩
 | rng lo hi=>obtain ⟨_,_,_,e⟩:=x; exact ⟨_,e⟩
 | frz o u=>exact ⟨_,x.1⟩
 | tbl ps=>exact ⟨_,x⟩
 | ext φ=>exact x.2.1
noncomputable def CXe (P:Program) (w:World) (cl:Nat->Addr):CXT:=λouter H s E e s'=>∃ a c H',∃ old:Addr->Prop,e=.ref a/\s'.os=s.os/\AllBare s'.gens/\Un (frs outer) [] H H' s.heap s'.heap/\HOk P w H' s'.heap/\Fly old a (cl c) .none s'.heap /\
 (∀ b o,s.heap.get? b=some o->old b)/\(∀ b o,H' b=some o->old b)/\E (.ref (cl c)) none H'
section
variable {P:Program} {w:World} {K:Frag} {mg:Str->Option Value} {base:Heap} {N:List Str} {qual:Str} {scope:Scope} {f:Addr} {cd:Value} {A:Around} {outer:List Env} {s0:Shared} {H0:Hp} {E:XK} {cl:Nat->Addr}
noncomputable abbrev cxE (P:Program) (w:World) (K:Frag) (mg:Str->Option Value) (base:Heap) (N:List Str) (qual:Str) (scope:Scope) (f:Addr) (cd:Value) (A:Around) (outer:List Env) (s0:Shared) (H0:Hp) (E:XK) (cl:Nat->Addr):Cx:=iB (CXe P w cl) P w K mg base N qual scope f cd A outer s0 H0 E
theorem ly {pins:List (Addr × Obj)} {σ:L2.St} {H:Hp} {s:Shared} {c:Nat} (I:Inv (cxE P w K mg base N qual scope f cd A outer s0 H0 E cl) pins σ H s) (q:E (.ref (cl c)) none H) {h':Heap} {a:Addr} {us:List Value} (m:Heap.MadeExcOf s.heap h' a (.ref (cl c)) us) :
   (cxE P w K mg base N qual scope f cd A outer s0 H0 E cl).xe (.ref a) { s with heap:=h' }:=by
 obtain ⟨t,he,_,_⟩:=m.there
 have kp:∀ b o,s.heap.get? b=some o->h'.get? b=some o:=m.keeps
 refine kQ (old:=λb=>∃ o,s.heap.get? b=some o) (base:=base) (s:={ s with heap:=h' }) I.ok.frames (I.stack.of_keeps λb o g _=>⟨o,kp b o g,rfl⟩) rfl he ⟨rfl,rfl⟩ rfl rfl rfl ⟨λ⟨o,z⟩=>(by rw [m.new] at z; cases z),λb ⟨o,z⟩=>⟨o,kp b o z⟩⟩ λh2 k y=>?_
 have k0:Kp (λb=>∃ o,s.heap.get? b=some o) (frs (cxE P w K mg base N qual scope f cd A outer s0 H0 E cl).stack) s.heap h2:=(Kp.of λb o _ z=>kp b o z).trans k
 refine ⟨a,c,H,_,rfl,I.os,I.bare,nH I.base k0 (λb o e=>I.base.there b o e (by intro z; exact absurd (show b ∈ ([]:List Addr) from z) (by simp))) (λb o e z=>?_),km I.hok k0 λb o e=>⟨?_,λz=>?_⟩,y,λb o e=>I.base.there b o e (by intro z; exact absurd (show b ∈ ([]:List Addr) from z) (by simp)),λb o e=>?_,q⟩
 · rcases List.mem_cons.mp (I.i6 b z) with z | z
   · exact absurd (Heap.lt_size e) (by rw [z]; exact Nat.lt_irrefl _)
   · exact z
 · exact there (I.hok b o e)
 · rw [I.gm b z] at e; cases e
 · exact there (I.hok b o e)
theorem oA {Ex:Nat->Hp->Prop} (hE:∀ c H,Ex c H->E (.ref (cl c)) none H):Passes (CXe P w cl) (cxE P w K mg base N qual scope f cd A outer s0 H0 E cl) (λC _ H'=>∃ c,C=.ref (cl c)/\Ex c H'):=by
 intro pins σ H s e s' I ⟨a,c,H',old,he,os,bare,un,hok,y,o1,o2,c',ec,q⟩
 subst he
 have ec:cl c=cl c':=Value.ref.inj ec
 have I':Inv (cxE P w K mg base N qual scope f cd A outer s0 H0 E cl) pins σ H' s':=I.jD os un hok bare λb z=>absurd z (by simp)
 have oth:∀ b o,s0.heap.get? b=some o->old b:=λb o e=>by
   obtain ⟨u,g⟩:=I.base.there b o e (by intro z; exact absurd (show b ∈ ([]:List Addr) from z) (by simp))
   exact o1 b u g
 refine mf (base:=base) I'.ok.frames I'.stack rfl y λh2 k y2=>?_
 refine ⟨a,c',H',old,rfl,I'.os,I'.bare,nH I'.base k oth (λb o e z=>?_),km I'.hok k λb o e=>⟨o2 b o e,λz=>?_⟩,by rw [<- ec]; exact y2,oth,o2,hE c' H' q⟩
 · rcases List.mem_cons.mp (I'.i6 b z) with z | z
   · exact absurd (Heap.lt_size e) (by rw [z]; exact Nat.lt_irrefl _)
   · exact z
 · have:=I'.gm b z
   rw [this] at e; cases e
end
noncomputable abbrev XH (X:Cx) (a:Addr):Cx:={ X with A:=X.A.mark (some (.ref a)),calm:=false,xe:=λ_ _=>False }
section
variable {X:Cx} {pins:List (Addr × Obj)} {σ:L2.St} {H:Hp} {s:Shared} {a:Addr}
theorem rN (ok:X.Ok):(XH X a).Ok:=⟨ok.mod,ok.kind,ok.glob,ok.blt,ok.above,ok.inj,ok.has,ok.cab,(λz=>nomatch z),ok.frames,ok.stk,ok.exf,ok.bs,ok.bsz,ok.noex,ok.exfs,ok.gE,ok.frf⟩
theorem kU (I:Inv X pins σ H s):Inv (XH X a) pins σ H s:=⟨rN I.ok,I.os,I.bare,I.base,I.loc,I.cell,I.free,I.freeC,I.pin,I.hok,I.len⟩
theorem mx (ok:X.Ok) (I:Inv (XH X a) pins σ H s):Inv X pins σ H s:=⟨ok,I.os,I.bare,I.base,I.loc,I.cell,I.free,I.freeC,I.pin,I.hok,I.len⟩
noncomputable abbrev XP (X:Cx) (pins:List (Addr × Obj)) (E:Value->Shared->Prop):Cx:={ X with pn:=X.pn++pins,xe:=E }
theorem vS {E:Value->Shared->Prop} (ok:X.Ok):(XP X pins E).Ok:=⟨ok.mod,ok.kind,ok.glob,ok.blt,ok.above,ok.inj,ok.has,ok.cab,ok.hd,ok.frames,ok.stk,ok.exf,ok.bs,ok.bsz,ok.noex,ok.exfs,ok.gE,ok.frf⟩
theorem uc {E:Value->Shared->Prop} (I:Inv X pins σ H s):Inv (XP X pins E) [] σ H s:=⟨vS I.ok,I.os,I.bare,I.base,I.loc,I.cell,I.free,I.freeC,λp hp=>I.pin p (by simpa using hp),I.hok,I.len⟩
theorem eM {E:Value->Shared->Prop} {pl:List (Addr × Obj)} (ok:X.Ok) (I:Inv (XP X pins E) pl σ H s):Inv X pins σ H s:=⟨ok,I.os,I.bare,I.base,I.loc,I.cell,I.free,I.freeC,λp hp=>I.pin p (List.mem_append_left _ hp),I.hok,I.len⟩
theorem rW {E:Value->Shared->Prop} {D:Ends} {f:Flow} (ok:X.Ok) (h:SP (XP X pins E) [] D f s):SP X pins D f s:=by
 cases f with
 | next=>obtain ⟨σ',H',I,q⟩:=h; exact ⟨σ',H',eM ok I,q⟩
 | brk=>obtain ⟨σ',H',I,q⟩:=h; exact ⟨σ',H',eM ok I,q⟩
 | cont=>obtain ⟨σ',H',I,q⟩:=h; exact ⟨σ',H',eM ok I,q⟩
 | ret u=>obtain ⟨v,σ',H',I,r,q⟩:=h; exact ⟨v,σ',H',eM ok I,r,q⟩
theorem uH {E:Value->Shared->Prop} {M:Model} {A:Around} {i:Nat} {n:Str} {v:V} {Q:Unit->Shared->Prop} (I:Inv X pins σ H s) (hN:X.N.Nodup) (hi:X.N[i]?=some n) (hn:X.env.scope.names.lookup n=some .local) (hv:σ[i]?=some (some v))
   (k:∀ s',Inv X pins (σ.set i none) H s'->Q () s'):wpAny M A (unbindName X.env n) Q E s:=by
 obtain ⟨m,ns,look⟩:=id I.loc
 obtain ⟨u,_,lu⟩:=look i n v hi hv (.inl hn)
 have mu:m n=some u:=by
   rcases lu with z | ⟨z | z,_⟩
   · exact z.2
   · have z:X.env.scope.names.lookup n=some .cell:=z
     rw [hn] at z; cases z
   · have z:X.env.scope.names.lookup n=some .free:=z
     rw [hn] at z; cases z
 have hcls:(X.env.scope.kind == .class || (X.env.scope.kind == .module && X.env.locals != X.env.globals))=false:=by rw [I.ok.kind]; rfl
 refine wpAny_unbindName_local hn ns mu hcls λh' x ns' sb=>?_
 obtain ⟨oL,_,_,gL,_⟩:=id ns
 have far:∀ b o,X.s₀.heap.get? b=some o->h'.get? b=s.heap.get? b:=λb o e=>sb.2 b (Nat.ne_of_lt (Nat.lt_of_lt_of_le (Heap.lt_size e) I.ok.above))
 refine k { s with heap:=h' } ⟨I.ok,I.os,I.bare,⟨λb o e n0 nf nx=>(far b o e).trans (I.base.keep b o e n0 nf nx),λb o e n0 f nx=>?_,I.base.free,λb o e nx=>?_,I.base.tups,I.base.frzs,I.base.tbls⟩,⟨_,ns',λj y w e1 e2 e3=>?_⟩,λy c e=>?_,I.free,I.freeC,λp hp=>?_,λb ob e=>?_,by simpa using I.len⟩
 · obtain ⟨sl,z⟩:=I.base.slot b o e n0 f nx
   exact ⟨sl,(far b o e).trans z⟩
 · obtain ⟨o',z⟩:=I.base.there b o e nx
   exact ⟨o',(far b o e).trans z⟩
 · have hj:j ≠ i:=λz=>by
     subst z
     rw [List.getElem?_set_self (by rw [I.len]; exact (List.getElem?_eq_some_iff.mp hi).1)] at e2
     cases e2
   rw [List.getElem?_set_ne (Ne.symm hj)] at e2
   obtain ⟨u',r',q⟩:=look j y w e1 e2 e3
   refine ⟨u',r',?_⟩
   have ne:y ≠ n:=λe=>hj (iA hN e1 (e ▸ hi))
   rcases q with ⟨z,e⟩ | ⟨z,c,e,g⟩
   · exact .inl ⟨z,by simp [ne,e]⟩
   · exact .inr ⟨z,c,e,g.sameBut sb (I.cne y c e)⟩
 · obtain ⟨w,z⟩:=I.cell y c e
   exact ⟨w,z.sameBut sb (I.cne y c e)⟩
 · obtain ⟨e,n0,ne,nf,d⟩:=I.pin p hp
   exact ⟨(sb.2 p.1 ne).trans e,n0,ne,nf,d⟩
 · refine (I.hok b ob e).dR (λc w hc q=>(sb.2 c ?_).trans q) (λ_ q=>q) λ_ _ q=>q
   rcases hc with rfl | hc
   · exact aA e I.free
   · exact aA hc I.free
end
noncomputable def pZ (o:Obj) (C:Addr):Prop:=(o.cls=.ref C/\o.dict=none)/\∃ vs,o.data=.fields vs/\vs[2]?=some .none
noncomputable abbrev oK (o:Obj):HO:=.frz o (.ext λ_=>True)
section
variable {X:Cx} {cl:Nat->Addr} {ks:List Nat} {n sm:Str} {i:Nat} {S:Addr} {ret:Expr} {psm pr ph pos:Pos} {body:List Stmt} {tb:(Nat->Hp->Prop)->TS} {tr:Addr->Obj->TE}
noncomputable def ExH (ks:List Nat) (cl:Nat->Addr) (i:Nat) (tr:Addr->Obj->TE) (D:Ends):Nat->Hp->Prop:=λc H=>c ∈ ks/\∀ (σ:L2.St) a o,i < σ.length->H a=none->pZ o (cl c)->tr a o (σ.set i (some (.ref a))) (upd H a (oK o)) D.rt
theorem sZ (hst:X.stack=X.env :: X.outer/\X.env.frame=some X.env.locals) (nd:X.N.Nodup) (hi:X.N[i]?=some n) (hn:X.env.scope.names.lookup n=some .local) (hgS:Gl X sm) (hmS:X.mg sm=some (.ref S)) (hdb:(sm == ("__debug__" : Str))=false)
   (hx:∀ c ∈ ks,exmOne X.K (.ref (cl c)) (.ref S)=some true) (hr:∀ a o,PE (XH X a) ret (tr a o)) {pins:List (Addr × Obj)} {σ:L2.St} {H:Hp} {s s':Shared} {e:Value} {D:Ends} (I:Inv X pins σ H s)
   (h:CXe X.prog X.w cl X.stack H s (λC _ H'=>∃ c,C=.ref (cl c)/\ExH ks cl i tr D c H') e s') :
   wpAny (model X.prog X.w) X.A (noteFrame e X.env) (λ_ s2=>wpAny (model X.prog X.w) X.A (setFlight e none) (λ_ s3=>wpAny (model X.prog X.w) X.A (handleBy e X.env [.ExceptHandler (some (.Name sm psm)) (some n) [.Return (some ret) pr] ph]) (SP X pins D) X.xe s3) X.xe s2) X.xe s':=by
 obtain ⟨a,c0,H2,old,rfl,os,bare,un,hok,y,o1,o2,c,ec,hc,q⟩:=h
 have ec:cl c0=cl c:=Value.ref.inj ec
 rw [ec] at y
 have I':Inv X pins σ H2 s':=I.jD os un hok bare λb z=>absurd z (by simp)
 have fr:X.A.frames=some (X.env :: X.outer):=by rw [<- hst.1]; exact I.ok.frames
 have ff:s'.heap.FunFrames X.base (X.env :: X.outer):=by rw [<- hst.1]; exact I'.stack
 have efs:(X.env :: X.outer).filterMap (·.frame)=frs X.stack:=by rw [hst.1]; rfl
 have tk:∀ b o,H2 b=some o->old b/\b ∉ frs X.stack:=λb o e=>⟨o2 b o e,λz=>by rw [I'.gm b z] at e; cases e⟩
 have na:s.heap.get? a=none:=by
   cases g:s.heap.get? a with
   | none=>rfl
   | some o=>exact absurd (o1 a o g) y.at.choose_spec.choose_spec.2.2.2.2
 have Ha:H2 a=none:=by
   cases g:H2 a with
   | none=>rfl
   | some o=>exact absurd (o2 a o g) y.at.choose_spec.choose_spec.2.2.2.2
 have at_:∀ {h4:Heap},Kp old (frs X.stack) s'.heap h4->Inv X pins σ H2 { s' with heap:=h4 }:=λ{h4} k=>I.jD (s':={ s' with heap:=h4 }) os (nH un k o1 λ_ _ _ z=>z) (km hok k tk) bare λb z=>absurd z (by simp)
 refine jU fr ff hst.2 y λh3 k3 y3=>?_
 rw [efs] at k3
 refine land (s:={ s' with heap:=h3 }) (fs:=frs X.stack) y3 λh4 k4 y4=>?_
 have k4:=k3.trans k4
 have I4:=at_ k4
 have no:∀ {α:Type} {t:Sem α} {Q:α->Shared->Prop} {A:Around} {s:Shared} {E:Value->Shared->Prop},wpAny (model X.prog X.w) A t Q (λ_ _=>False) s->wpAny (model X.prog X.w) A t Q E s:=λh=>wpAny_mono h (λ_ _ q=>q) λ_ _ q=>q.elim
 refine wpAny_handleBy_cons (codeAny_handlers_test (no (fZ (X:=XH X a) (kU I4) hgS hmS ?_ hdb))) (by intro z; cases z)
 obtain ⟨oe,vs,ge,hce,hde,h2e,_⟩:=y4.at
 have LT:Looks (model X.prog X.w) h4 (typeOf (.ref a)) (.ref (cl c)):=hce.1 ▸ (Looks.ld ge).andThen .now
 refine (exm_one I4.kIn LT (hx c hc)).here ?_
 refine codeAny_handlers_suite_as (land (s:={ s' with heap:=h4 }) (fs:=frs X.stack) y4 λh5 k5 y5=>?_)
 obtain ⟨o5,vs5,g5,hc5,hd5,h25,_⟩:=y5.at
 have k5:=k4.trans k5
 have I5:Inv X pins σ (upd H2 a (oK o5)) { s' with heap:=h5 }:=I.jD (s':={ s' with heap:=h5 }) os (tu (nH un k5 o1 λ_ _ _ z=>z) na Ha) (sx (km hok k5 tk) Ha g5) bare λb z=>absurd z (by simp)
 refine fX (X:=XH X a) (kU I5) nd hi (.inl hn) (v:=.ref a) rfl (λs6 I6=>?_) (.inr hn)
 refine no (thn (r6 (kA (hr a o5)) pins s6 _ _ { nx:=λ_ _=>False,rt:=D.rt } I6 (q σ a o5 (by rw [I.len]; exact (List.getElem?_eq_some_iff.mp hi).1) Ha ⟨hc5,vs5,hd5,h25⟩)) λf s7 q7=>?_)
 cases f with
 | next=>obtain ⟨_,_,_,z⟩:=q7; exact z.elim
 | brk=>obtain ⟨_,_,_,z⟩:=q7; exact z.elim
 | cont=>obtain ⟨_,_,_,z⟩:=q7; exact z.elim
 | ret u=>
   obtain ⟨v,σ7,H7,I7,r7,z7⟩:=q7
   have I7:=mx I.ok I7
   refine wpAny_bind (wpAny_bindName (fX I7 nd hi (.inl hn) (v:=.non) rfl (λs8 I8=>?_) (.inr hn)))
   unfold unbindBehindTheSuite
   refine wpAny_onRaise (uH I8 nd hi hn (v:=.non) (List.getElem?_set_self (by rw [I7.len]; exact (List.getElem?_eq_some_iff.mp hi).1)) λs9 I9=>?_)
   exact ⟨v,_,H7,I9,r7,z7⟩
theorem t8 (hst:X.stack=X.env :: X.outer/\X.env.frame=some X.env.locals) (nd:X.N.Nodup) (hi:X.N[i]?=some n) (hn:X.env.scope.names.lookup n=some .local) (hgS:Gl X sm) (hmS:X.mg sm=some (.ref S)) (hdb:(sm == ("__debug__" : Str))=false)
   (hx:∀ c ∈ ks,exmOne X.K (.ref (cl c)) (.ref S)=some true) (hr:∀ a o,PE (XH X a) ret (tr a o))
   (hb:∀ (Ex:Nat->Hp->Prop) (pins:List (Addr × Obj)) (E:Value->Shared->Prop),Passes (CXe X.prog X.w cl) (XP X pins E) (λC _ H'=>∃ c,C=.ref (cl c)/\Ex c H')->PSs (XP X pins E) body (tb Ex)) :
   PS X (.Try body [.ExceptHandler (some (.Name sm psm)) (some n) [.Return (some ret) pr] ph] [] [] pos) (λD σ H=>tb (ExH ks cl i tr D) D σ H):=by
 intro pins s σ H D I h
 refine wpAny_Try_except ?_
 refine wpAny_mono (hb (ExH ks cl i tr D) pins (λe s1=>wpAny (model X.prog X.w) X.A (noteFrame e X.env) (λ_ s2=>wpAny (model X.prog X.w) X.A (setFlight e none) (λ_ s3=>wpAny (model X.prog X.w) X.A (handleBy e X.env [.ExceptHandler (some (.Name sm psm)) (some n) [.Return (some ret) pr] ph]) (SP X pins D) X.xe s3) X.xe s2) X.xe s1)
   (λpl σ1 H1 s1 e s2 I1 z=>sZ hst nd hi hn hgS hmS hdb hx hr (eM I.ok I1) z) [] s σ H D (uc I) h) (λf s1 q=>?_) λ_ _ z=>z
 have q:=rW I.ok q
 cases f with
 | next=>exact wpAny_execs_nil q
 | _=>exact q
end
end Hx
namespace Ev
open PySem PySem.Spec PyProof.Rows L2
structure Bx where
 p:PySem.W.Frag->Hp->Addr->Prop
 mono:∀ {K:PySem.W.Frag} {H H':Hp} {a:Addr},ao H H'->p K H a->p K H' a
 isd:∀ {K:PySem.W.Frag} {H:Hp} {a:Addr},p K H a->∃ o:HO,H a=some o/\∀ (P:Program) (w:World) (H':Hp) (h:Heap),bW P w H' h a o->∃ ob,h.get? a=some ob/\ob.cls=.type "dict"
inductive D where
 | non | bl (b:Bool) | int (i:Int) | str (x:Str) | tup (xs:List D) | lst (xs:List D) | box (x:Bx)
noncomputable instance:Inhabited D:=⟨.non⟩
mutual
inductive Den (K:PySem.W.Frag) (H:Hp):V->D->Prop where
 | non:Den K H .non .non
 | bl {b:Bool}:Den K H (.bl b) (.bl b)
 | int {i:Int}:Den K H (.int i) (.int i)
 | str {x:Str}:Den K H (.str x) (.str x)
 | tup {a:Addr} {vs:List V} {ds:List D} (h:SqT K H a vs) (r:ax K H vs ds):Den K H (.ref a) (.tup ds)
 | lst {a:Addr} {vs:List V} {ds:List D} (h:SqL K H a vs) (r:ax K H vs ds):Den K H (.ref a) (.lst ds)
 | box {a:Addr} {x:Bx} (h:x.p K H a):Den K H (.ref a) (.box x)
inductive ax (K:PySem.W.Frag) (H:Hp):List V->List D->Prop where
 | nil:ax K H [] []
 | cons {v:V} {d:D} {vs:List V} {ds:List D} (h:Den K H v d) (r:ax K H vs ds):ax K H (v :: vs) (d :: ds)
end
section
variable {K:PySem.W.Frag} {H H':Hp}
theorem bc (e:ao H H') {a:Addr} {xs:List V} (h:SqT K H a xs):SqT K H' a xs:=by
 rcases h with (h | ⟨o,h⟩) | h
 · exact .inl (.inl (e _ _ h))
 · exact .inl (.inr ⟨o,e _ _ h⟩)
 · exact .inr h
theorem aL (e:ao H H') {a:Addr} {xs:List V} (h:SqL K H a xs):SqL K H' a xs:=e.seq h
mutual
theorem Den.mono (e:ao H H'):∀ {v:V} {d:D},Den K H v d->Den K H' v d
 | _,_,.non=>.non
 | _,_,.bl=>.bl
 | _,_,.int=>.int
 | _,_,.str=>.str
 | _,_,.tup h r=>.tup (bc e h) (ax.mono e r)
 | _,_,.lst h r=>.lst (aL e h) (ax.mono e r)
 | _,_,.box (x:=x) h=>.box (x.mono e h)
theorem ax.mono (e:ao H H'):∀ {vs:List V} {ds:List D},ax K H vs ds->ax K H' vs ds
 | _,_,.nil=>.nil
 | _,_,.cons h r=>.cons (Den.mono e h) (ax.mono e r)
end
theorem ax.length:∀ {vs:List V} {ds:List D},ax K H vs ds->vs.length=ds.length
 | _,_,.nil=>rfl
 | _,_,.cons _ r=>congrArg (· + 1) r.length
theorem ax.get:∀ {vs:List V} {ds:List D} {i:Nat} {d:D},ax K H vs ds->ds[i]?=some d->∃ v,vs[i]?=some v/\Den K H v d
 | _,_,_,_,.nil,e=>by simp at e
 | _,_,0,_,.cons h _,e=>by simp at e; subst e; exact ⟨_,rfl,h⟩
 | _,_,i + 1,d,.cons _ r,e=>by
   obtain ⟨v,h1,h2⟩:=ax.get (i:=i) (d:=d) r (by simpa using e)
   exact ⟨v,by simpa using h1,h2⟩
theorem ax.append:∀ {xs ys:List V} {ds es:List D},ax K H xs ds->ax K H ys es->ax K H (xs++ys) (ds++es)
 | _,_,_,_,.nil,s=>s
 | _,_,_,_,.cons h r,s=>.cons h (ax.append r s)
theorem ax.take:∀ {xs:List V} {ds:List D} (n:Nat),ax K H xs ds->ax K H (xs.take n) (ds.take n)
 | _,_,0,_=>.nil
 | _,_,_ + 1,.nil=>.nil
 | _,_,n + 1,.cons h r=>.cons h (ax.take n r)
theorem ax.drop:∀ {xs:List V} {ds:List D} (n:Nat),ax K H xs ds->ax K H (xs.drop n) (ds.drop n)
 | _,_,0,r=>r
 | _,_,_ + 1,.nil=>.nil
 | _,_,n + 1,.cons _ r=>ax.drop n r
end
noncomputable def aM (i j:Int):Prop:=i.natAbs.log2 < 64\/j.natAbs.log2 < 64\/(i.natAbs.log2 < 1000000/\j.natAbs.log2 < 1000000)
noncomputable def aG (j:Int):Prop:=j ≠ 0/\j.natAbs.log2 < 9000
theorem aw {H:Hp} {p:Addr} (h:H p=none) (o:HO):ao H (upd H p o):=λb u q=>by rw [az (aA q h)]; exact q
noncomputable def Ite (K:PySem.W.Frag) (a:Addr):L2.It:=
 ⟨λi H=>∃ xs x,SqL K H a xs/\xs[i]?=some x,λi H v H'=>∃ p x,H p=none/\v=.ref p/\H'=upd H p (.tup [.int (i:Nat),x])/\∀ xs,SqL K H a xs->xs[i]?=some x,λi H=>∃ xs,SqL K H a xs/\xs.length<=i⟩
theorem oq {P:Program} {w:World} {K:PySem.W.Frag} {ts:List Expr} {q:Nat} {tp:Pos} (a e it:Addr) (hne:e ≠ it) :
   Turn P w K false (.Tuple ts q tp) (Ite K a) [e,it] e (λi h=>(∃ old,IsEnum h e it (i:Nat) old)/\h.IsListIter it a i) where
 mem:=by simp
 obj:=λi h st b hb=>by
   obtain ⟨⟨old,h1⟩,o,h2,h3,h4⟩:=st
   rcases List.mem_cons.mp hb with rfl | hb
   · exact ⟨_,h1,λv z=>nomatch z⟩
   · have z:b=it:=by simpa using hb
     subst z
     exact ⟨o,h2,λv z=>by rw [h4] at z; cases z⟩
 keep:=λi h h' st k=>by
   obtain ⟨⟨old,h1⟩,o,h2,h3,h4⟩:=st
   exact ⟨⟨old,k e (by simp) _ h1⟩,o,k it (by simp) o h2,h3,h4⟩
 item:=by
   intro X hP hw hK hc i pins s σ H E I hf st hg
   subst hP hw hK
   obtain ⟨xs,x,hq,hx⟩:=hg
   obtain ⟨its,rv,p,hz⟩:=I.list hq
   obtain ⟨u,hu,ru⟩:=rv.get hx
   obtain ⟨⟨old,h1⟩,h2⟩:=st
   have fe:=hf e (by simp)
   have fi:=hf it (by simp)
   refine wpAny_pyNext_enum_item h1 h2 p.isList (x:=u) (by simpa using hu) hne λh' g1 g2 g3 g4 g5=>⟨_,rfl,?_⟩
   refine wpAny_letOwnedTupleGo_enum (s:={ s with heap:=h',toks:=s.toks + 1 }) g1 λh2' k1 k2=>?_
   have hn:H s.heap.objs.size=none:=I.hok.fresh (Nat.le_refl _)
   have le1:e < s.heap.objs.size:=Heap.lt_size h1
   have le2:it < s.heap.objs.size:=by obtain ⟨o,z,_⟩:=h2; exact Heap.lt_size z
   have kp:∀ b o,b ≠ e->b ≠ it->s.heap.get? b=some o->h2'.get? b=some o:=λb o b1 b2 z=>(k2.2 b b1).trans (g5 b o b1 b2 z)
   have nt:h2'.get? s.heap.objs.size=some { cls:=.type "tuple",data:=.seq #[.int (i:Nat) s.toks,u] }:=(k2.2 _ (Nat.ne_of_gt le1)).trans g3
   have ne1:∀ b v,H b=some v->b ≠ e:=λb v z q=>by rw [q,fe.1] at z; cases z
   have ne2:∀ b v,H b=some v->b ≠ it:=λb v z q=>by rw [q,fi.1] at z; cases z
   have hok0:HOk X.prog X.w H h2':=λb v z=>(I.hok b v z).dR (λc v' hc' q=>kp c v' (by
       rcases hc' with hc' | hc'
       · rw [hc']; exact ne1 b v z
       · exact ne1 c _ hc') (by
       rcases hc' with hc' | hc'
       · rw [hc']; exact ne2 b v z
       · exact ne2 c _ hc') q) (λ_ q=>q) λ_ _ q=>q
   have hok1:HOk X.prog X.w (upd H s.heap.objs.size (.tup [.int (i:Nat),x])) h2':=λb v z=>by
     by_cases hb:b=s.heap.objs.size
     · subst hb
       rw [aV] at z; cases z
       exact ⟨(by show 2<=sizeLine; decide),[.int (i:Nat) s.toks,u],.cons ⟨_,rfl⟩ (.cons ru .nil),_,nt,rfl,_,rfl⟩
     · rw [az hb] at z
       exact (hok0 b v z).dR (λc v' _ q=>q) (λc q=>by rw [az (aA q hn)]; exact q) λc ys q=>by rw [az (aA q hn)]; exact q
   have I1:Inv X pins σ (upd H s.heap.objs.size (.tup [.int (i:Nat),x])) { s with heap:=h2',toks:=s.toks + 1 }:=by
     refine I.step (g':=s.gens) (d':=s.drawn) (ch:=[e,it]) (λb hb=>?_) (λb o _ _ hc' z _=>kp b o (λq=>hc' (by simp [q])) (λq=>hc' (by simp [q])) z)
       (λb o _ _ hc' z _=>⟨o.slots,kp b o (λq=>hc' (by simp [q])) (λq=>hc' (by simp [q])) z⟩)
       (λb o hc' z n=>by rw [az (Nat.ne_of_lt (Heap.lt_size z))]; exact n) (λb o hc' z=>⟨o,kp b o (λq=>hc' (by simp [q])) (λq=>hc' (by simp [q])) z⟩)
       (λb ys z=>by rw [az (aA z hn)]; exact z) (λb o u z=>by rw [az (aA z hn)]; exact z) (λb ps z=>⟨#[],by rw [az (aA z hn),z]; simp⟩) (λm hm=>?_) hok1 I.bare
     · rcases List.mem_cons.mp hb with rfl | hb
       · exact ⟨fe.2.2.2.1,fe.2.1,fe.2.2.2.2.1,fe.2.2.2.2.2⟩
       · have z:b=it:=by simpa using hb
         subst z
         exact ⟨fi.2.2.2.1,fi.2.1,fi.2.2.2.2.1,fi.2.2.2.2.2⟩
     · obtain ⟨o,es,ep,ho,r⟩:=hm
       exact ⟨o,es,ep,kp _ o (Ne.symm fe.2.1) (Ne.symm fi.2.1) ho,r⟩
   refine ⟨.ref s.heap.objs.size,_,I1,rfl,⟨s.heap.objs.size,x,hn,rfl,rfl,λys hy=>by rw [I.eE hy hq]; exact hx⟩,⟨⟨_,k1⟩,?_⟩,λb hb=>?_⟩
   · obtain ⟨o,z1,z2,z3⟩:=g2
     exact ⟨o,(k2.2 it (Ne.symm hne)).trans z1,z2,z3⟩
   · rcases List.mem_cons.mp hb with rfl | hb
     · rw [az (Nat.ne_of_lt le1)]; exact fe.1
     · have z:b=it:=by simpa using hb
       subst z
       rw [az (Nat.ne_of_lt le2)]; exact fi.1
 done:=by
   intro X hP hw hK hc i pins s σ H E I hf st hg
   subst hP hw hK
   obtain ⟨xs,hq,hx⟩:=hg
   obtain ⟨its,rv,p,hz⟩:=I.list hq
   obtain ⟨⟨old,h1⟩,h2⟩:=st
   obtain ⟨f0,f1,f2,f3,f4,f5⟩:=hf it (by simp)
   have hl:=rv.length
   exact wpAny_pyNext_enum_end (I.ok.hd hc.calm) h1 h2 p.isList (by simp; omega) λh' eb=>⟨rfl,I.turned (t':=s.toks) (λb o hb z=>eb b o hb z) f0 f1 f3 f4 f5⟩
 self:=λ_ _ _ _ _ st h=>by
   obtain ⟨⟨old,h1⟩,_⟩:=st
   exact wpAny_pyIter_enum h1 h
section
variable {X:Cx}
noncomputable def v5 (K:PySem.W.Frag) (ta:TA):TI:=λσ H R=>ta σ H λvs H1=>∃ a,vs=[.ref a]/\(∃ xs,SqL K H1 a xs)/\R (Ite K a) H1
theorem oP:bootBuiltins "enumerate" = some (.type "enumerate"):=by decide +kernel
theorem nZ {ts:List Expr} {q:Nat} {tp:Pos} {a:Expr} {ta:TA} {p pos:Pos} (hc:X.calm=true) (hg:Gl X "enumerate") (hm:X.mg "enumerate" = none) (ha:PA X [a] ta) (hs:starEach [a] X.env=[(false,eval a X.env)]) :
   PI X (.Tuple ts q tp) (.Call (.Name "enumerate" p) [a] [] pos) (v5 X.K ta):=by
 intro pins s σ H R I h
 refine Call_ (eO I hg hm oP (PyProof.Rows.callWith_type1 (thn (ha pos pins s σ H _ I h) λus s1 ⟨vs,H1,I1,r1,q1⟩=>?_) hs rfl))
 obtain ⟨l,e,⟨xs,hq⟩,q⟩:=q1
 subst e
 obtain ⟨u,rfl,ru⟩:=vals1 r1
 cases ru
 obtain ⟨its,rv,pl,hz⟩:=I1.list hq
 refine call_enumerate_list pl.isList λh' g1 g2 g3 g4=>?_
 refine wpAny_pyIter_enum (s:={ s1 with heap:=h' }) g1 ?_
 have I2:Inv X pins σ H1 { s1 with heap:=h' }:=I1.kept (t':=s1.toks) g4
 have n1:H1 (s1.heap.objs.size + 1)=none:=I1.hok.fresh (by omega)
 have n2:H1 s1.heap.objs.size=none:=I1.hok.fresh (Nat.le_refl _)
 refine ⟨false,s1.heap.objs.size + 1,[s1.heap.objs.size + 1,s1.heap.objs.size],_,_,H1,rfl,I2,.inl hc,oq l (s1.heap.objs.size + 1) s1.heap.objs.size (Nat.succ_ne_self _),⟨⟨_,g1⟩,g2⟩,λb hb=>?_,q⟩
 rcases List.mem_cons.mp hb with rfl | hb
 · exact I1.mG (by omega) n1
 · have z:b=s1.heap.objs.size:=by simpa using hb
   subst z
   exact I1.mG (Nat.le_refl _) n2
end
noncomputable def Itz (K:PySem.W.Frag) (a b:Addr):L2.It:=
 ⟨λi H=>∃ xs ys x y,SqL K H a xs/\SqL K H b ys/\xs[i]?=some x/\ys[i]?=some y,
  λi H v H'=>∃ p x y,H p=none/\v=.ref p/\H'=upd H p (.tup [x,y])/\(∀ xs,SqL K H a xs->xs[i]?=some x)/\∀ ys,SqL K H b ys->ys[i]?=some y,
  λi H=>∃ xs ys,SqL K H a xs/\SqL K H b ys/\(xs.length<=i\/ys.length<=i)⟩
noncomputable def zSt (a b z TI TO i1 i2:Addr) (i:Nat) (h:Heap):Prop:=
 IsZip h z TI TO .none/\IsPair h TI (.ref i1) (.ref i2)/\(∃ u v,IsPair h TO u v)/\h.IsListIter i1 a i/\h.IsListIter i2 b i
theorem ju {h:Heap} {a b z TI TO i1 i2:Addr} {i:Nat} {xs ys:Array Value} (n:TI ≠ TO) (m:i1 ≠ i2) (s:zSt a b z TI TO i1 i2 i h) (l1:h.IsList a xs) (l2:h.IsList b ys):ZipApart z TI TO i1 i2 a b:=by
 obtain ⟨h1,h2,⟨u,v,h3⟩,⟨o4,h4,c4,d4⟩,⟨o5,h5,c5,d5⟩⟩:=s
 obtain ⟨o6,h6,c6,n6,d6⟩:=l1
 obtain ⟨o7,h7,c7,n7,d7⟩:=l2
 have kk:∀ {x y:Addr} {o p:Obj},h.get? x=some o->h.get? y=some p->o.cls ≠ p.cls->x ≠ y:=λe1 e2 c q=>by subst q; rw [e1] at e2; cases e2; exact c rfl
 have cz:∀ {s t:String},s ≠ t->Value.type s ≠ Value.type t:=λn q=>n (by cases q; rfl)
 refine ⟨kk h2 h1 (cz (by decide)),kk h3 h1 (cz (by decide)),kk h4 h1 ?_,kk h5 h1 ?_,n,kk h2 h4 ?_,kk h2 h5 ?_,kk h3 h4 ?_,kk h3 h5 ?_,m,kk h6 h1 ?_,kk h6 h3 ?_,kk h6 h4 ?_,kk h6 h5 ?_,kk h7 h1 ?_,kk h7 h3 ?_,kk h7 h4 ?_,kk h7 h5 ?_⟩
 all_goals first | (rw [c4]; exact cz (by decide)) | (rw [c5]; exact cz (by decide)) | (rw [c6]; exact cz (by decide)) | (rw [c7]; exact cz (by decide)) | (rw [c6,c4]; exact cz (by decide)) | (rw [c6,c5]; exact cz (by decide)) | (rw [c7,c4]; exact cz (by decide)) | (rw [c7,c5]; exact cz (by decide))
theorem qG {P:Program} {w:World} {K:PySem.W.Frag} {ts:List Expr} {q:Nat} {tp:Pos} (a b z TI TO i1 i2:Addr) (nT:TI ≠ TO) (nI:i1 ≠ i2) :
   Turn P w K false (.Tuple ts q tp) (Itz K a b) [z,TI,TO,i1,i2] z (zSt a b z TI TO i1 i2) where
 mem:=by simp
 obj:=λi h st c hb=>by
   obtain ⟨h1,h2,⟨u,v,h3⟩,⟨o4,h4,c4,d4⟩,⟨o5,h5,c5,d5⟩⟩:=st
   simp only [List.mem_cons,List.not_mem_nil,or_false] at hb
   rcases hb with rfl | rfl | rfl | rfl | rfl
   · exact ⟨_,h1,λv z=>nomatch z⟩
   · exact ⟨_,h2,λv z=>nomatch z⟩
   · exact ⟨_,h3,λv z=>nomatch z⟩
   · exact ⟨_,h4,λv z=>by rw [d4] at z; cases z⟩
   · exact ⟨_,h5,λv z=>by rw [d5] at z; cases z⟩
 keep:=λi h h' st k=>by
   obtain ⟨h1,h2,⟨u,v,h3⟩,⟨o4,h4,c4,d4⟩,⟨o5,h5,c5,d5⟩⟩:=st
   exact ⟨k z (by simp) _ h1,k TI (by simp) _ h2,⟨u,v,k TO (by simp) _ h3⟩,⟨o4,k i1 (by simp) _ h4,c4,d4⟩,⟨o5,k i2 (by simp) _ h5,c5,d5⟩⟩
 item:=by
   intro X hP hw hK hc i pins s σ H E I hf st hg
   subst hP hw hK
   obtain ⟨xs,ys,x,y,hq1,hq2,hx,hy⟩:=hg
   obtain ⟨its1,rv1,p1,hz1⟩:=I.list hq1
   obtain ⟨its2,rv2,p2,hz2⟩:=I.list hq2
   obtain ⟨u1,hu1,ru1⟩:=rv1.get hx
   obtain ⟨u2,hu2,ru2⟩:=rv2.get hy
   have D:=ju nT nI st p1.isList p2.isList
   obtain ⟨h1,h2,⟨u,v,h3⟩,h4,h5⟩:=st
   refine wpAny_pyNext_zip_item D h1 h2 h3 h4 h5 p1.isList p2.isList (x:=u1) (y:=u2) (by simpa using hu1) (by simpa using hu2) λh' g1 g2 g3 g4 g5 g6 g7=>⟨_,rfl,?_⟩
   refine wpAny_letOwnedTupleGo_zip (s:={ s with heap:=h' }) g1 λh2' k1 k2=>?_
   have hn:H s.heap.objs.size=none:=I.hok.fresh (Nat.le_refl _)
   have le1:z < s.heap.objs.size:=Heap.lt_size h1
   have lt2:TI < s.heap.objs.size:=Heap.lt_size h2
   have lt3:TO < s.heap.objs.size:=Heap.lt_size h3
   have lt4:i1 < s.heap.objs.size:=by obtain ⟨o,z,_⟩:=h4; exact Heap.lt_size z
   have lt5:i2 < s.heap.objs.size:=by obtain ⟨o,z,_⟩:=h5; exact Heap.lt_size z
   have kp:∀ c o,c ≠ z->c ≠ TO->c ≠ i1->c ≠ i2->s.heap.get? c=some o->h2'.get? c=some o:=λc o b1 b2 b3 b4 e=>(k2.2 c b1).trans (g7 c o b1 b2 b3 b4 e)
   have nt:IsPair h2' s.heap.objs.size u1 u2:=(k2.2 _ (Nat.ne_of_gt le1)).trans g5
   have ne:∀ c,c ∈ [z,TI,TO,i1,i2]->∀ d v,H d=some v->d ≠ c:=λc hc d v e q=>by
     have:=(hf c hc).1
     rw [q,this] at e; cases e
   have hok0:HOk X.prog X.w H h2':=λd v e=>(I.hok d v e).dR (λc v' hc' q=>kp c v'
       (by rcases hc' with hc' | hc'
           · rw [hc']; exact ne z (by simp) d v e
           · exact ne z (by simp) c _ hc')
       (by rcases hc' with hc' | hc'
           · rw [hc']; exact ne TO (by simp) d v e
           · exact ne TO (by simp) c _ hc')
       (by rcases hc' with hc' | hc'
           · rw [hc']; exact ne i1 (by simp) d v e
           · exact ne i1 (by simp) c _ hc')
       (by rcases hc' with hc' | hc'
           · rw [hc']; exact ne i2 (by simp) d v e
           · exact ne i2 (by simp) c _ hc') q) (λ_ q=>q) λ_ _ q=>q
   have hok1:HOk X.prog X.w (upd H s.heap.objs.size (.tup [x,y])) h2':=λd v e=>by
     by_cases hb:d=s.heap.objs.size
     · subst hb
       rw [aV] at e; cases e
       exact ⟨(by show 2<=sizeLine; decide),[u1,u2],.cons ru1 (.cons ru2 .nil),_,nt,rfl,_,rfl⟩
     · rw [az hb] at e
       exact (hok0 d v e).dR (λc v' _ q=>q) (λc q=>by rw [az (aA q hn)]; exact q) λc ys q=>by rw [az (aA q hn)]; exact q
   have I1:Inv X pins σ (upd H s.heap.objs.size (.tup [x,y])) { s with heap:=h2' }:=by
     refine I.step (t':=s.toks) (g':=s.gens) (d':=s.drawn) (ch:=[z,TO,i1,i2]) (λc hb=>?_) (λc o _ _ hc' e _=>kp c o (λq=>hc' (by simp [q])) (λq=>hc' (by simp [q])) (λq=>hc' (by simp [q])) (λq=>hc' (by simp [q])) e)
       (λc o _ _ hc' e _=>⟨o.slots,kp c o (λq=>hc' (by simp [q])) (λq=>hc' (by simp [q])) (λq=>hc' (by simp [q])) (λq=>hc' (by simp [q])) e⟩)
       (λc o hc' e n=>by rw [az (Nat.ne_of_lt (Heap.lt_size e))]; exact n) (λc o hc' e=>⟨o,kp c o (λq=>hc' (by simp [q])) (λq=>hc' (by simp [q])) (λq=>hc' (by simp [q])) (λq=>hc' (by simp [q])) e⟩)
       (λc ys e=>by rw [az (aA e hn)]; exact e) (λc o u e=>by rw [az (aA e hn)]; exact e) (λc ps e=>⟨#[],by rw [az (aA e hn),e]; simp⟩) (λm hm=>?_) hok1 I.bare
     · have hb':c ∈ [z,TI,TO,i1,i2]:=by
         simp only [List.mem_cons,List.not_mem_nil,or_false] at hb ⊢
         rcases hb with h | h | h | h <;> simp [h]
       have fe:=hf c hb'
       exact ⟨fe.2.2.2.1,fe.2.1,fe.2.2.2.2.1,fe.2.2.2.2.2⟩
     · obtain ⟨o,es,ep,ho,r⟩:=hm
       exact ⟨o,es,ep,kp _ o (Ne.symm (hf z (by simp)).2.1) (Ne.symm (hf TO (by simp)).2.1) (Ne.symm (hf i1 (by simp)).2.1) (Ne.symm (hf i2 (by simp)).2.1) ho,r⟩
   refine ⟨.ref s.heap.objs.size,_,I1,rfl,⟨s.heap.objs.size,x,y,hn,rfl,rfl,λzs hy'=>by rw [I.eE hy' hq1]; exact hx,λzs hy'=>by rw [I.eE hy' hq2]; exact hy⟩,⟨k1,?_,⟨u1,u2,(k2.2 TO D.TOz).trans g2⟩,?_,?_⟩,λc hb=>?_⟩
   · exact kp TI _ D.TIz D.TITO D.TIi1 D.TIi2 h2
   · obtain ⟨o,z1,z2,z3⟩:=g3
     exact ⟨o,(k2.2 i1 D.i1z).trans z1,z2,z3⟩
   · obtain ⟨o,z1,z2,z3⟩:=g4
     exact ⟨o,(k2.2 i2 D.i2z).trans z1,z2,z3⟩
   · have fc:=(hf c hb).1
     have lt:c < s.heap.objs.size:=by
       simp only [List.mem_cons,List.not_mem_nil,or_false] at hb
       rcases hb with rfl | rfl | rfl | rfl | rfl <;> assumption
     rw [az (Nat.ne_of_lt lt)]
     exact fc
 done:=by
   intro X hP hw hK hc i pins s σ H E I hf st hg
   subst hP hw hK
   obtain ⟨xs,ys,hq1,hq2,hx⟩:=hg
   obtain ⟨its1,rv1,p1,hz1⟩:=I.list hq1
   obtain ⟨its2,rv2,p2,hz2⟩:=I.list hq2
   have D:=ju nT nI st p1.isList p2.isList
   obtain ⟨h1,h2,⟨u,v,h3⟩,h4,h5⟩:=st
   have hl1:=rv1.length
   have hl2:=rv2.length
   refine wpAny_pyNext_zip_end (I.ok.hd hc.calm) D h1 h2 h3 h4 h5 p1.isList p2.isList (by
     rcases hx with hx | hx
     · left; simp; omega
     · right; simp; omega) λh' eb=>⟨rfl,?_⟩
   have ne:∀ c,c ∈ [z,TI,TO,i1,i2]->∀ d v,H d=some v->d ≠ c:=λc hc d v e q=>by
     have:=(hf c hc).1
     rw [q,this] at e; cases e
   have hok0:HOk X.prog X.w H h':=λd v e=>(I.hok d v e).dR (λc v' hc' q=>eb c v'
       (by rcases hc' with hc' | hc'
           · rw [hc']; exact ne z (by simp) d v e
           · exact ne z (by simp) c _ hc')
       (by rcases hc' with hc' | hc'
           · rw [hc']; exact ne TO (by simp) d v e
           · exact ne TO (by simp) c _ hc')
       (by rcases hc' with hc' | hc'
           · rw [hc']; exact ne i1 (by simp) d v e
           · exact ne i1 (by simp) c _ hc')
       (by rcases hc' with hc' | hc'
           · rw [hc']; exact ne i2 (by simp) d v e
           · exact ne i2 (by simp) c _ hc') q) (λ_ q=>q) λ_ _ q=>q
   refine I.step (t':=s.toks) (g':=s.gens) (d':=s.drawn) (ch:=[z,TO,i1,i2]) (λc hb=>?_) (λc o _ _ hc' e _=>eb c o (λq=>hc' (by simp [q])) (λq=>hc' (by simp [q])) (λq=>hc' (by simp [q])) (λq=>hc' (by simp [q])) e)
       (λc o _ _ hc' e _=>⟨o.slots,eb c o (λq=>hc' (by simp [q])) (λq=>hc' (by simp [q])) (λq=>hc' (by simp [q])) (λq=>hc' (by simp [q])) e⟩)
       (λc o hc' e n=>n) (λc o hc' e=>⟨o,eb c o (λq=>hc' (by simp [q])) (λq=>hc' (by simp [q])) (λq=>hc' (by simp [q])) (λq=>hc' (by simp [q])) e⟩)
       (λc ys e=>e) (λc o u e=>e) (λc ps e=>⟨#[],by rw [e]; simp⟩) (λm hm=>?_) hok0 I.bare
   · have hb':c ∈ [z,TI,TO,i1,i2]:=by
       simp only [List.mem_cons,List.not_mem_nil,or_false] at hb ⊢
       rcases hb with h | h | h | h <;> simp [h]
     have fe:=hf c hb'
     exact ⟨fe.2.2.2.1,fe.2.1,fe.2.2.2.2.1,fe.2.2.2.2.2⟩
   · obtain ⟨o,es,ep,ho,r⟩:=hm
     exact ⟨o,es,ep,eb _ o (Ne.symm (hf z (by simp)).2.1) (Ne.symm (hf TO (by simp)).2.1) (Ne.symm (hf i1 (by simp)).2.1) (Ne.symm (hf i2 (by simp)).2.1) ho,r⟩
 self:=λ_ _ _ _ _ st h=>wpAny_pyIter_zip st.1 h
section
variable {X:Cx}
noncomputable def tQ (K:PySem.W.Frag) (ta:TA):TI:=λσ H R=>ta σ H λvs H1=>∃ a b,vs=[.ref a,.ref b]/\(∃ xs,SqL K H1 a xs)/\(∃ ys,SqL K H1 b ys)/\R (Itz K a b) H1
theorem mq {ts:List Expr} {q:Nat} {tp:Pos} {a b:Expr} {ta:TA} {p pos:Pos} (hc:X.calm=true) (hg:Gl X "zip") (hm:X.mg "zip" = none) (ha:PA X [a,b] ta) (hs:starEach [a,b] X.env=(false,eval a X.env) :: starEach [b] X.env) (hs2:starEach [b] X.env=[(false,eval b X.env)]) :
   PI X (.Tuple ts q tp) (.Call (.Name "zip" p) [a,b] [] pos) (tQ X.K ta):=by
 intro pins s σ H R I h
 refine Call_ (eO I hg hm boot_zip (PyProof.Rows.callWith_type1 (thn (ha pos pins s σ H _ I h) λus s1 ⟨vs,H1,I1,r1,q1⟩=>?_) hs (by rw [hs2]; rfl)))
 obtain ⟨l,l',e,⟨xs,hq1⟩,⟨ys,hq2⟩,q⟩:=q1
 subst e
 obtain ⟨u,u',rfl,ru,ru'⟩:=vals2 r1
 cases ru
 cases ru'
 obtain ⟨its1,rv1,pl1,hz1⟩:=I1.list hq1
 obtain ⟨its2,rv2,pl2,hz2⟩:=I1.list hq2
 refine call_zip_2 pl1.isList pl2.isList λh' g1 g2 g3 g4 g5 g6 g7=>?_
 refine wpAny_pyIter_zip (s:={ s1 with heap:=h' }) g1 ?_
 have I2:Inv X pins σ H1 { s1 with heap:=h' }:=I1.kept (t':=s1.toks) g7
 have nn:∀ j,H1 (s1.heap.objs.size + j)=none:=λj=>I1.hok.fresh (by omega)
 refine ⟨false,s1.heap.objs.size + 4,[s1.heap.objs.size + 4,s1.heap.objs.size + 2,s1.heap.objs.size + 3,s1.heap.objs.size,s1.heap.objs.size + 1],_,_,H1,rfl,I2,.inl hc,qG l l' (s1.heap.objs.size + 4) (s1.heap.objs.size + 2) (s1.heap.objs.size + 3) s1.heap.objs.size (s1.heap.objs.size + 1) (by simp) (Ne.symm (Nat.succ_ne_self _)),⟨g1,g2,⟨_,_,g3⟩,g4,g5⟩,λc hb=>?_,q⟩
 have hb':∃ j,c=s1.heap.objs.size + j:=by
   simp only [List.mem_cons,List.not_mem_nil,or_false] at hb
   rcases hb with h | h | h | h | h
   · exact ⟨_,h⟩
   · exact ⟨_,h⟩
   · exact ⟨_,h⟩
   · exact ⟨0,h⟩
   · exact ⟨_,h⟩
 obtain ⟨j,rfl⟩:=hb'
 exact I1.mG (Nat.le_add_right _ _) (nn j)
end
noncomputable def Itv (K:PySem.W.Frag) (a:Addr) (n:Nat):L2.It:=
 ⟨λi H=>i < n/\∃ xs x,SqL K H a xs/\xs[n - 1 - i]?=some x,λi H x H'=>H'=H/\∀ xs,SqL K H a xs->xs[n - 1 - i]?=some x,λi _=>n<=i⟩
theorem pE {P:Program} {w:World} {K:PySem.W.Frag} {tg:Expr} (a it:Addr) (n:Nat) :
   Turn P w K false tg (Itv K a n) [it] it (λi h=>i<=n/\h.IsRevIter it a ((n:Int) - 1 - (i:Int))) where
 mem:=by simp
 obj:=λi h st b hb=>by
   have e:b=it:=by simpa using hb
   subst e
   obtain ⟨o,e,c,d⟩:=st.2
   exact ⟨o,e,λv z=>by rw [d] at z; cases z⟩
 keep:=λi h h' st k=>⟨st.1,st.2.at λo e=>k it (by simp) o e⟩
 item:=by
   intro X hP hw hK hc i pins s σ H E I hf st hg
   subst hP hw hK
   obtain ⟨hi,xs,x,hq,hx⟩:=hg
   obtain ⟨its,rv,p,hz⟩:=I.list hq
   obtain ⟨u,hu,ru⟩:=rv.get hx
   obtain ⟨f0,f1,f2,f3,f4,f5⟩:=hf it (by simp)
   have st2:=st.2
   rw [show (n:Int) - 1 - (i:Int)=((n - 1 - i:Nat):Int) by omega] at st2
   refine wpAny_pyNext_rev_item st2 p.isList (x:=u) (by simpa using hu) λh' st' sb=>?_
   have I1:Inv X pins σ H { s with heap:=h' }:=I.turned (t':=s.toks) (λb o hb e=>(sb.2 b hb).trans e) f0 f1 f3 f4 f5
   obtain ⟨o,e,c,d⟩:=id st'
   refine ⟨u,rfl,pw (s:={ s with heap:=h' }) e c d (by decide) ⟨x,H,I1,ru,⟨rfl,λys hy=>by rw [I.eE hy hq]; exact hx⟩,⟨hi,?_⟩,λb hb=>(hf b hb).1⟩⟩
   rw [show (n:Int) - 1 - ((i + 1:Nat):Int)=((n - 1 - i:Nat):Int) - 1 by omega]
   exact st'
 done:=by
   intro X hP hw hK hc i pins s σ H E I hf st hg
   subst hP hw hK
   obtain ⟨f0,f1,f2,f3,f4,f5⟩:=hf it (by simp)
   have st2:=st.2
   have hg:n<=i:=hg
   rw [show (n:Int) - 1 - (i:Int)=-1 by have:=st.1; omega] at st2
   exact wpAny_pyNext_rev_end (I.ok.hd hc.calm) st2 λh' eb=>⟨rfl,I.turned (t':=s.toks) (λb o hb e=>eb b o hb e) f0 f1 f3 f4 f5⟩
 self:=λ_ _ _ _ _ st h=>wpAny_pyIter_revIter st.2 h
section
variable {X:Cx} {tg:Expr}
noncomputable def u4 (K:PySem.W.Frag) (ta:TA):TI:=λσ H R=>ta σ H λvs H1=>∃ a xs,vs=[.ref a]/\SqL K H1 a xs/\R (Itv K a xs.length) H1
theorem pI:bootBuiltins "reversed" = some (.type "reversed"):=by decide +kernel
theorem my {a:Expr} {ta:TA} {p pos:Pos} (hc:X.calm=true) (hg:Gl X "reversed") (hm:X.mg "reversed" = none) (ha:PA X [a] ta) (hs:starEach [a] X.env=[(false,eval a X.env)]):PI X tg (.Call (.Name "reversed" p) [a] [] pos) (u4 X.K ta):=by
 intro pins s σ H R I h
 refine Call_ (eO I hg hm pI (PyProof.Rows.callWith_type1 (thn (ha pos pins s σ H _ I h) λus s1 ⟨vs,H1,I1,r1,q1⟩=>?_) hs rfl))
 obtain ⟨l,xs,e,hq,q⟩:=q1
 subst e
 obtain ⟨u,rfl,ru⟩:=vals1 r1
 cases ru
 obtain ⟨its,rv,pl,hz⟩:=I1.list hq
 have hl:=rv.length
 refine call_reversed_list pl.isList ?_
 have st:({ s1 with heap:=s1.heap.push (revObj l ((its.toArray.size:Int) - 1)) }:Shared).heap.IsRevIter s1.heap.objs.size l ((its.toArray.size:Int) - 1):=⟨_,Heap.get?_push_size _ rfl,rfl,rfl⟩
 refine wpAny_pyIter_revIter st ?_
 refine ⟨false,s1.heap.objs.size,[s1.heap.objs.size],_,_,H1,rfl,I1.kept (t':=s1.toks) (λb o e=>Heap.get?_push_of_some _ e),.inl hc,pE l _ xs.length,⟨Nat.zero_le _,?_⟩,λb hb=>?_,q⟩
 · rw [show (xs.length:Int) - 1 - ((0:Nat):Int)=(its.toArray.size:Int) - 1 by rw [List.size_toArray,<- hl]; omega]
   exact st
 · have e:b=s1.heap.objs.size:=by simpa using hb
   subst e
   exact I1.mG (Nat.le_refl _) (I1.hok.fresh (Nat.le_refl _))
end
theorem qx:∀ (names:List (Str × NameKind)) (n:Nat) (acc:List (Str × Addr)) (x:Str) (c:Addr),(cellsFrom n names acc).lookup x=some c->n<=c\/acc.lookup x=some c
 | [],_,_,_,_,h=>.inr h
 | (y,k) :: r,n,acc,x,c,h=>by
   unfold cellsFrom at h
   split at h
   · rcases qx r (n + 1) _ x c h with q | q
     · exact .inl (by omega)
     · rw [List.lookup_cons] at q
       split at q
       · cases q; exact .inl (Nat.le_refl _)
       · exact .inr q
   · exact qx r n acc x c h
theorem iJ:∀ (names:List (Str × NameKind)) (n:Nat) (acc:List (Str × Addr)) (x:Str),(x,NameKind.cell) ∉ names->(cellsFrom n names acc).lookup x=acc.lookup x
 | [],_,_,_,_=>rfl
 | (y,k) :: r,n,acc,x,h=>by
   have h1:(x,NameKind.cell) ∉ r:=λz=>h (List.mem_cons_of_mem _ z)
   unfold cellsFrom
   split
   · rename_i hk
     rw [iJ r _ _ x h1,List.lookup_cons]
     have:(x == y)=false:=by
       rw [beq_eq_false_iff_ne]
       rintro rfl
       exact h (by rw [eq_of_beq hk]; exact List.mem_cons_self)
     rw [this]
   · exact iJ r n acc x h1
theorem kr:∀ (names:List (Str × NameKind)) (n:Nat) (acc:List (Str × Addr)) (x:Str),(x,NameKind.cell) ∈ names->∃ c,(cellsFrom n names acc).lookup x=some c/\n<=c
 | (y,k) :: r,n,acc,x,h=>by
   unfold cellsFrom
   by_cases hr:(x,NameKind.cell) ∈ r
   · split
     · obtain ⟨c,e,l⟩:=kr r (n + 1) ((y,n) :: acc) x hr
       exact ⟨c,e,by omega⟩
     · exact kr r n acc x hr
   · rcases List.mem_cons.mp h with q | q
     · cases q
       rw [if_pos (by rfl),iJ r _ _ _ hr]
       exact ⟨n,by simp [List.lookup_cons],Nat.le_refl _⟩
     · exact absurd q hr
theorem mi:∀ (names:List (Str × NameKind)) (n:Nat) (acc:List (Str × Addr)),(∀ x c,acc.lookup x=some c->c < n)->(∀ x y c,acc.lookup x=some c->acc.lookup y=some c->x=y) ->
   ∀ x y c,(cellsFrom n names acc).lookup x=some c->(cellsFrom n names acc).lookup y=some c->x=y
 | [],_,_,_,h=>h
 | (z,k) :: r,n,acc,hl,h=>by
   unfold cellsFrom
   split
   · refine mi r (n + 1) _ (λx c e=>?_) (λx y c e1 e2=>?_)
     · rw [List.lookup_cons] at e
       split at e
       · cases e; exact Nat.lt_succ_self _
       · exact Nat.lt_succ_of_lt (hl x c e)
     · rw [List.lookup_cons] at e1 e2
       split at e1
       · rename_i q1
         cases e1
         split at e2
         · rename_i q2
           exact (eq_of_beq q1).trans (eq_of_beq q2).symm
         · exact absurd (hl y _ e2) (Nat.lt_irrefl _)
       · split at e2
         · cases e2
           exact absurd (hl x _ e1) (Nat.lt_irrefl _)
         · exact h x y c e1 e2
   · exact mi r n acc hl h
theorem jW:∀ (names:List (Str × NameKind)) (h:Heap) (acc:List (Str × Addr)),(∀ x c,acc.lookup x=some c->∃ v,h.IsCell c v)->∀ x c,(cellsFrom h.objs.size names acc).lookup x=some c->∃ v,(pushCells h names).IsCell c v
 | [],_,_,ha,x,c,e=>ha x c e
 | (z,k) :: r,h,acc,ha,x,c,e=>by
   unfold cellsFrom at e
   unfold pushCells
   split at e
   · rename_i hk
     rw [if_pos hk]
     refine jW r _ ((z,h.objs.size) :: acc) (λy d q=>?_) x c (by rw [Heap.size_push]; exact e)
     rw [List.lookup_cons] at q
     split at q
     · cases q
       exact ⟨none,_,Heap.get?_push_size _ rfl,rfl⟩
     · obtain ⟨v,o,ho,hd⟩:=ha y d q
       exact ⟨v,o,Heap.get?_push_of_some _ ho,hd⟩
   · rename_i hk
     rw [if_neg hk]
     exact jW r h acc ha x c e
noncomputable def bX (env:PySem.Env):List (Str × NameKind)->List (Str × Addr)->List (Str × Addr)
 | [],acc=>acc
 | (n,k) :: r,acc=>if k == .free then (match env.cells.lookup n with | some c=>bX env r ((n,c) :: acc) | none=>bX env r acc) else bX env r acc
theorem iP (env:PySem.Env):∀ (names:List (Str × NameKind)) (acc:List (Str × Addr)),(∀ x ∈ names,x.2=.free->∃ c,env.cells.lookup x.1=some c) ->
   (forIn (m:=Sem) names acc λx cs=>do
     let (name,kind):=x
     if kind == .free then do
       let c <- cellOf env name
       pure (ForInStep.yield ((name,c) :: cs))
     else pure (ForInStep.yield cs))=pure (bX env names acc)
 | [],acc,_=>rfl
 | (n,k) :: r,acc,h=>by
   rw [List.forIn_cons]
   unfold bX
   by_cases hk:(k == .free)=true
   · obtain ⟨c,hc⟩:=h (n,k) List.mem_cons_self (eq_of_beq hk)
     simp only [hk,if_true,cellOf,hc,pure_bind]
     exact iP env r _ λx hx=>h x (List.mem_cons_of_mem _ hx)
   · simp only [hk,Bool.false_eq_true,if_false,pure_bind]
     exact iP env r _ λx hx=>h x (List.mem_cons_of_mem _ hx)
theorem nJ {env:PySem.Env} {scope:Scope} (h:∀ x ∈ scope.names,x.2=.free->∃ c,env.cells.lookup x.1=some c):closureFor scope env=pure (bX env scope.names []):=by
 unfold closureFor
 have:=iP env scope.names [] h
 simp only [bind_pure]
 exact this
theorem dF (env:PySem.Env):∀ (names:List (Str × NameKind)) (acc:List (Str × Addr)) (x:Str) (c:Addr),(∀ y d,acc.lookup y=some d->env.cells.lookup y=some d)->(bX env names acc).lookup x=some c->env.cells.lookup x=some c
 | [],_,x,c,ha,h=>ha x c h
 | (n,k) :: r,acc,x,c,ha,h=>by
   unfold bX at h
   split at h
   · split at h
     · rename_i c' hc
       refine dF env r _ x c (λy d q=>?_) h
       rw [List.lookup_cons] at q
       split at q
       · rename_i qq
         cases q
         rw [eq_of_beq qq]; exact hc
       · exact ha y d q
     · exact dF env r acc x c ha h
   · exact dF env r acc x c ha h
theorem cu (env:PySem.Env):∀ (names:List (Str × NameKind)) (acc:List (Str × Addr)) (x:Str) (c:Addr),(∀ y d,acc.lookup y=some d->env.cells.lookup y=some d)->env.cells.lookup x=some c->((x,NameKind.free) ∈ names\/acc.lookup x=some c)->(bX env names acc).lookup x=some c
 | [],_,x,c,_,_,h=>h.elim (λz=>absurd z (by simp)) id
 | (n,k) :: r,acc,x,c,ha,hc,h=>by
   unfold bX
   split
   · split
     · rename_i c' hc'
       refine cu env r _ x c (λy d q=>?_) hc ?_
       · rw [List.lookup_cons] at q
         split at q
         · rename_i qq
           cases q
           rw [eq_of_beq qq]; exact hc'
         · exact ha y d q
       · by_cases q:x=n
         · subst q
           rw [hc] at hc'; cases hc'
           exact .inr (by simp [List.lookup_cons])
         · rcases h with h | h
           · rcases List.mem_cons.mp h with z | z
             · cases z; exact absurd rfl q
             · exact .inl z
           · refine .inr ?_
             rw [List.lookup_cons,beq_eq_false_iff_ne.mpr q]
             exact h
     · rename_i hc'
       refine cu env r acc x c ha hc ?_
       rcases h with h | h
       · rcases List.mem_cons.mp h with z | z
         · cases z; rw [hc] at hc'; cases hc'
         · exact .inl z
       · exact .inr h
   · rename_i hk
     refine cu env r acc x c ha hc ?_
     rcases h with h | h
     · rcases List.mem_cons.mp h with z | z
       · cases z; exact absurd rfl hk
       · exact .inl z
     · exact .inr h
theorem jI {M:Model} {A:Around} {E:Value->Shared->Prop} {s:Shared} {scope:Scope} {cl:List (Str × Addr)} {env:PySem.Env} {Q:PySem.Env->Shared->Prop}
   (h:Q (newEnv scope s.heap.objs.size env.globals (cellsFrom (s.heap.objs.size + 1) scope.names cl) env.qual none .none (some env) builtinsNs) { s with heap:=pushCells (s.heap.push { cls:=.type "dict",data:=.dict #[] }) scope.names }) :
   wpAny M A (newFunctionEnv scope env.globals cl [] env.qual none .none (some env)) Q E s:=by
 simp only [newFunctionEnv,Option.isSome_some,if_true]
 refine wpAny_bind (wpAny_alloc ?_)
 refine wpAny_bind (wpAny_layCells _ (λname kind cells=>by cases hkc:kind == NameKind.cell <;> simp [hkc]) _ _ _ _ ?_)
 rw [show ({ s with heap:=s.heap.push { cls:=.type "dict",data:=.dict #[] } }:Shared).heap.objs.size=s.heap.objs.size + 1 from Heap.size_push ..]
 exact wpAny_bind (wpAny_pure (wpAny_pure h))
noncomputable def aF (X:Cx) (s:Shared) (H:Hp) (scope:Scope) (N:List Str) (fp:List Addr):Cx:=
 { prog:=X.prog,w:=X.w,K:=X.K,mg:=X.mg,base:=X.base,A:=X.A,N:=N,s₀:=s,H₀:=H
   env:=compEnvC scope (cellsFrom (s.heap.objs.size + 1 + 1) scope.names (bX X.env scope.names [])) (s.heap.objs.size + 1) X.env
   outer:=X.stack,stack:=X.stack,ex:=fp,fn:=λx=>decide ((x,NameKind.cell) ∈ scope.names),calm:=X.calm,pn:=[],xe:=λ_ _=>False }
noncomputable def d0 (σ:L2.St) (caps:List (Option Nat)):L2.St:=caps.map λo=>o.bind λi=>(σ[i]?).join
structure cR (X:Cx) (scope:Scope) (N:List Str) (caps:List (Option Nat)):Prop where
 kind:scope.kind=.function
 loc:∀ x ∈ scope.names,x.2=.local->scope.names.lookup x.1=some .local
 fre:∀ x ∈ scope.names,x.2=.free->X.env.kindOf x.1=some .cell
 one:∀ x,(x,NameKind.free) ∈ scope.names->(x,NameKind.cell) ∉ scope.names
 noboth:∀ x,(x,NameKind.free) ∈ scope.names->(x,NameKind.local) ∉ scope.names
 len:N.length=caps.length + 1
 cap:∀ (j i:Nat),caps[j]?=some (some i)->∃ x,N[j]?=some x/\X.N[i]?=some x/\(x,NameKind.free) ∈ scope.names
 acc:∃ z,N[caps.length]?=some z/\¬ Vis (relabel scope X.env) z
section
variable {X:Cx} {pins:List (Addr × Obj)} {σ:L2.St} {H:Hp} {s:Shared} {scope:Scope} {N:List Str} {caps:List (Option Nat)} {fp:List Addr}
theorem dk {env:PySem.Env} {x:Str} {names:List (Str × NameKind)} (h:∀ y,(y,NameKind.free) ∈ names->env.kindOf y=some .cell) (hk:env.scope.kind=.function) {k:NameKind}
   (e:(names.map λ(n,k)=>if (k == NameKind.free && env.scope.kind == .function && env.kindOf n == some .cell) then (n,NameKind.cell) else (n,k)).lookup x=some k) :
   (x,k) ∈ names\/((x,NameKind.free) ∈ names/\k=.cell):=by
 induction names with
 | nil=>cases e
 | cons p r ih=>
   obtain ⟨n,q⟩:=p
   rw [List.map_cons] at e
   have hr:∀ y,(y,NameKind.free) ∈ r->env.kindOf y=some .cell:=λy hy=>h y (List.mem_cons_of_mem _ hy)
   have sub:((x,k) ∈ r\/((x,NameKind.free) ∈ r/\k=.cell))->(x,k) ∈ (n,q) :: r\/((x,NameKind.free) ∈ (n,q) :: r/\k=.cell):=λz=>
     z.elim (λy=>.inl (List.mem_cons_of_mem _ y)) λy=>.inr ⟨List.mem_cons_of_mem _ y.1,y.2⟩
   dsimp only at e
   split at e
   · rename_i c
     rw [List.lookup_cons] at e
     split at e
     · rename_i qq
       cases e
       rw [Bool.and_eq_true,Bool.and_eq_true] at c
       rw [eq_of_beq qq,eq_of_beq c.1.1]
       exact .inr ⟨List.mem_cons_self,rfl⟩
     · exact sub (ih hr e)
   · rename_i c
     rw [List.lookup_cons] at e
     split at e
     · rename_i qq
       cases e
       rw [eq_of_beq qq]
       exact .inl List.mem_cons_self
     · exact sub (ih hr e)
theorem fK (I:Inv X pins σ H s) (c:cR X scope N caps):∀ x ∈ scope.names,x.2=.free->∃ d,X.env.cells.lookup x.1=some d:=λx hx hf=>I.ok.has x.1 (.inl (c.fre x hx hf))
theorem kT (I:Inv X pins σ H s) (hf:∀ b ∈ fp,jd X pins H b) (ho:∀ b ∈ fp,∃ o,s.heap.get? b=some o) (c:cR X scope N caps) :
   Inv (aF X s H scope N fp) [] (d0 σ caps++[some (.ref s.heap.objs.size)]) (upd H s.heap.objs.size (.lst []))
     { s with heap:=pushCells ((s.heap.push { cls:=.type "list",data:=.seq ([]:List Value).toArray }).push { cls:=.type "dict",data:=.dict #[] }) scope.names }:=by
 have hcl:∀ x d,(bX X.env scope.names []).lookup x=some d->X.env.cells.lookup x=some d:=λx d=>dF X.env scope.names [] x d (λy d z=>by simp at z)
 have kp:∀ b o,s.heap.get? b=some o->(pushCells ((s.heap.push { cls:=.type "list",data:=.seq ([]:List Value).toArray }).push { cls:=.type "dict",data:=.dict #[] }) scope.names).get? b=some o:=λb o e=>
   pushCells_keeps _ _ b o (Heap.get?_push_of_some _ (Heap.get?_push_of_some _ e))
 have sz2:((s.heap.push { cls:=.type "list",data:=.seq ([]:List Value).toArray }).push { cls:=.type "dict",data:=.dict #[] }).objs.size=s.heap.objs.size + 1 + 1:=by rw [Heap.size_push,Heap.size_push]
 have oldc:∀ x d,X.env.cells.lookup x=some d->d < s.heap.objs.size:=λx d e=>by
   obtain ⟨v,o,q,_⟩:=I.cell x d e
   exact Heap.lt_size q
 have cel:∀ x d,(aF X s H scope N fp).env.cells.lookup x=some d->s.heap.objs.size + 1 + 1<=d\/X.env.cells.lookup x=some d:=λx d e=>by
   rcases qx _ _ _ x d e with q | q
   · exact .inl q
   · exact .inr (hcl x d q)
 have ok:(aF X s H scope N fp).Ok:=by
   refine ⟨I.ok.mod,c.kind,I.ok.glob,I.ok.blt,Nat.le_succ _,?_,?_,?_,I.ok.hd,I.ok.frames,.inl rfl,?_,I.bs,Nat.le_trans I.ok.bsz I.sz,?_,?_,I.stack,I.gm⟩
   · exact mi _ _ _ (λx d e=>Nat.lt_of_lt_of_le (oldc x d (hcl x d e)) (by omega)) λx y d e1 e2=>I.ok.inj x y d (hcl x d e1) (hcl y d e2)
   · intro x hx
     have hfk:∀ y,(y,NameKind.free) ∈ scope.names->X.env.kindOf y=some .cell:=λy hy=>c.fre _ hy rfl
     have fre:(x,NameKind.free) ∈ scope.names->∃ d,(aF X s H scope N fp).env.cells.lookup x=some d:=λhm=>by
       obtain ⟨d,hd⟩:=fK I c _ hm rfl
       exact ⟨d,by
         show (cellsFrom _ scope.names _).lookup x=_
         rw [iJ _ _ _ x (c.one x hm)]
         exact cu X.env scope.names [] x d (λy e z=>by simp at z) hd (.inl hm)⟩
     have own:(x,NameKind.cell) ∈ scope.names->∃ d,(aF X s H scope N fp).env.cells.lookup x=some d:=λhm=>by
       obtain ⟨d,e,_⟩:=kr scope.names (s.heap.objs.size + 1 + 1) (bX X.env scope.names []) x hm
       exact ⟨d,e⟩
     rcases hx with hx | hx
     · rcases dk hfk I.ok.kind (show (scope.names.map _).lookup x=some .cell from hx) with q | q
       · exact own q
       · exact fre q.1
     · rcases dk hfk I.ok.kind (show (scope.names.map _).lookup x=some .free from hx) with q | q
       · exact fre q
       · exact fre q.1
   · intro x d hfn e
     have hm:(x,NameKind.cell) ∈ scope.names:=of_decide_eq_true hfn
     obtain ⟨d',e',l⟩:=kr scope.names (s.heap.objs.size + 1 + 1) (bX X.env scope.names []) x hm
     have e2:(cellsFrom (s.heap.objs.size + 1 + 1) scope.names (bX X.env scope.names [])).lookup x=some d:=e
     rw [e'] at e2; cases e2
     exact Nat.le_trans (Nat.le_trans (Nat.le_succ _) (Nat.le_succ _)) l
   · intro b hb
     obtain ⟨o,q⟩:=ho b hb
     have bl:=Heap.lt_size q
     refine ⟨λz=>?_,λx d e z=>?_⟩
     · have z':b=s.heap.objs.size + 1:=z
       rw [z'] at bl
       exact absurd bl (Nat.not_lt.mpr (Nat.le_succ _))
     · subst z
       rcases cel x d e with q | q
       · exact absurd (Nat.lt_of_lt_of_le bl (Nat.le_trans (Nat.le_trans (Nat.le_succ _) (Nat.le_succ _)) q)) (Nat.lt_irrefl _)
       · exact (hf d hb).2.2.2.2.1 x d q rfl
   · intro b o e hb
     rcases (hf b hb).2.2.2.1 with q | q
     · exact I.ok.noex b o e q
     · have:=Nat.lt_of_lt_of_le (Heap.lt_size e) I.ok.bsz
       exact absurd (Nat.lt_of_lt_of_le this q) (Nat.lt_irrefl _)
   · intro b hb hm
     rcases List.mem_cons.mp (I.i6 b hm) with q | q
     · exact (hf b hb).2.1 q
     · exact (hf b hb).2.2.1 q
 have hD:(pushCells ((s.heap.push { cls:=.type "list",data:=.seq ([]:List Value).toArray }).push { cls:=.type "dict",data:=.dict #[] }) scope.names).get? s.heap.objs.size=some { cls:=.type "list",data:=.seq ([]:List Value).toArray }:=
   pushCells_keeps _ _ _ _ (Heap.get?_push_of_some _ (Heap.get?_push_size _ rfl))
 have fr:∀ a,s.heap.objs.size<=a->a ≠ s.heap.objs.size->(upd H s.heap.objs.size (.lst [])) a=none:=λa h1 h2=>by rw [az h2]; exact I.hok.fresh h1
 refine ⟨ok,rfl,I.bare,Un.laid kp (Nat.le_refl _) (I.hok.fresh (Nat.le_refl _)),⟨λ_=>none,?_,λi x v e1 e2 e3=>?_⟩,λx d e=>?_,?_,λx d e=>?_,λp hp=>absurd (show p ∈ ([]:List (Addr × Obj)) from hp) (by simp),?_,?_⟩
 · have:=Heap.Ns.new (s.heap.push { cls:=.type "list",data:=.seq ([]:List Value).toArray }) (.type "dict")
   rw [Heap.size_push] at this
   exact this.keeps (pushCells_keeps _ _)
 · by_cases hi:i < caps.length
   · rw [List.getElem?_append_left (by unfold d0; rw [List.length_map]; exact hi)] at e2
     unfold d0 at e2
     rw [List.getElem?_map] at e2
     cases hc:caps[i]? with
     | none=>rw [hc] at e2; cases e2
     | some o=>
       rw [hc] at e2
       cases o with
       | none=>cases e2
       | some j=>
         have e2':(σ[j]?).join=some v:=Option.some.inj e2
         have e4:σ[j]?=some (some v):=by
           cases q:σ[j]? with
           | none=>rw [q] at e2'; cases e2'
           | some y=>rw [q] at e2'; exact congrArg some e2'
         obtain ⟨x',g1,g2,g3⟩:=c.cap i j hc
         rw [show (aF X s H scope N fp).N=N from rfl,g1] at e1
         cases e1
         have hkc:=c.fre _ g3 rfl
         obtain ⟨m,_,hl⟩:=I.loc
         obtain ⟨u,ru,look⟩:=hl j x v g2 e4 (.inr (.inl hkc))
         refine ⟨u,ru,?_⟩
         rcases look with ⟨k,_⟩ | ⟨k,d,hd,hcell⟩
         · rw [hkc] at k; cases k
         · have e5:(aF X s H scope N fp).env.cells.lookup x=some d:=by
             show (cellsFrom _ scope.names _).lookup x=_
             rw [iJ _ _ _ x (c.one x g3)]
             exact cu X.env scope.names [] x d (λy e z=>by simp at z) hd (.inl g3)
           have hcell':Heap.IsCell (pushCells ((s.heap.push { cls:=.type "list",data:=.seq ([]:List Value).toArray }).push { cls:=.type "dict",data:=.dict #[] }) scope.names) d (some u):=by
             obtain ⟨o,q1,q2⟩:=hcell
             exact ⟨o,kp _ _ q1,q2⟩
           refine .inr ⟨?_,d,e5,hcell'⟩
           rcases e3 with e3 | e3 | e3
           · exfalso
             rcases dk (λy hy=>c.fre _ hy rfl) I.ok.kind (show (scope.names.map _).lookup x=some .local from e3) with q | q
             · have q1:=c.loc _ q rfl
               exact c.noboth x g3 q
             · cases q.2
           · exact .inl e3
           · exact .inr e3
   · exfalso
     obtain ⟨z,z1,z2⟩:=c.acc
     have hl:i < N.length:=(List.getElem?_eq_some_iff.mp e1).1
     have:i=caps.length:=by have:=c.len; omega
     subst this
     rw [show (aF X s H scope N fp).N=N from rfl,z1] at e1
     cases e1
     exact z2 e3
 · rw [show (aF X s H scope N fp).env.cells=cellsFrom (s.heap.objs.size + 1 + 1) scope.names (bX X.env scope.names []) from rfl,<- sz2] at e
   refine jW scope.names _ _ (λy d' q=>?_) x d e
   obtain ⟨v,o,q1,q2⟩:=I.cell y d' (hcl y d' q)
   exact ⟨v,o,Heap.get?_push_of_some _ (Heap.get?_push_of_some _ q1),q2⟩
 · exact fr _ (Nat.le_succ _) (Nat.succ_ne_self _)
 · rcases cel x d e with q | q
   · exact fr d (by omega) (by intro z; omega)
   · rw [az (Nat.ne_of_lt (oldc x d q))]; exact I.freeC x d q
 · exact I.hok.laid kp (Nat.le_refl _) ⟨Nat.zero_le _,[],0,.nil,hD⟩
 · rw [List.length_append]
   unfold d0
   rw [List.length_map,show (aF X s H scope N fp).N=N from rfl,c.len]
   rfl
end
noncomputable def PTs (X:Cx) (ifs:List Expr) (t:TT):Prop:=
 ∀ (pins:List (Addr × Obj)) (s:Shared) (σ:L2.St) (H:Hp) (Q:Bool->Hp->Prop),Inv X pins σ H s->t σ H Q ->
   wpAny (model X.prog X.w) X.A (forIn ifs true λc r=>if r=true then do let ok <- isTrue c X.env (eval c X.env); pure (ForInStep.yield ok) else pure (ForInStep.yield r)) (TP X pins σ Q) X.xe s
section
variable {prog:Program} {w:World} {A:Around} {R:Result->Shared->Prop} {s:Shared}
theorem iq {elt target iter:Expr} {ifs:List Expr} {scope:Scope} {pos:Pos} {it acc:Value} {env:PySem.Env} (Iv:Nat->Shared->Prop)
   (step:∀ n s,Iv n s->wpAny (model prog w) A (pyNext it) (λr s₁=>match r with
     | none=>R (.ok .next) s₁
     | some v=>wpAny (model prog w) A (letOwnedTupleGo target it v) (λ_ s₀=>wpAny (model prog w) A (assign target env v) (λ_ s₂=>
         wpAny (model prog w) A (forIn ifs true λc r=>if r=true then do let ok <- isTrue c env (eval c env); pure (ForInStep.yield ok) else pure (ForInStep.yield r)) (λok s₃=>
           if ok=true then wpAny (model prog w) A (eval elt env) (λx s₄=>
             wpAny (model prog w) A (call (.builtin "list.append") [acc,x]) (λ_ s₅=>∃ m,m < n/\Iv m s₅) (λ_ _=>False) s₄) (λ_ _=>False) s₃
           else ∃ m,m < n/\Iv m s₃) (λ_ _=>False) s₂) (λ_ _=>False) s₀) (λ_ _=>False) s₁) (λ_ _=>False) s)
   (n:Nat) (h:Iv n s):codeAny (model prog w) A (.compLoop (.ListComp elt [⟨target,iter,ifs,0⟩] scope pos) 0 it acc env) R s:=by
 have no:∀ {α:Type} {t:Sem α} {Q:α->Shared->Prop} {s:Shared} {E:Value->Shared->Prop},wpAny (model prog w) A t Q (λ_ _=>False) s->wpAny (model prog w) A t Q E s:=λh=>wpAny_mono h (λ_ _ q=>q) λ_ _ q=>q.elim
 refine codeAny_loop rfl Iv (λn s hI=>?_) n h
 show wpAny _ A (Sem.onRaise (compTurn (.ListComp elt [⟨target,iter,ifs,0⟩] scope pos) 0 it acc env) (λx=>do noteFrame x env; theTreesLotGoes x)) _ _ s
 refine wpAny_noted ?_
 rw [compTurn_list]
 refine wpAny_bind (wpAny_standAt (wpAny_bind (thn (no (step n s hI)) λr s₁ h₁=>?_)))
 cases r with
 | none=>exact wpAny_pure h₁
 | some v=>
   refine wpAny_bind (thn (no h₁) λ_ s₀ h₀=>wpAny_bind (thn (no h₀) λ_ s₂ h₂=>wpAny_bind (thn (no h₂) λok s₃ h₃=>?_)))
   cases ok with
   | false=>exact wpAny_pure ⟨rfl,h₃⟩
   | true=>exact wpAny_bind (wpAny_bind (thn (no h₃) λx s₄ h₄=>wpAny_bind (thn (no h₄) λ_ s₅ h₅=>wpAny_pure (wpAny_pure ⟨rfl,h₅⟩))))
end
theorem n9 {X:Cx} {kd:Bool} {pins:List (Addr × Obj)} {σ:L2.St} {H:Hp} {s:Shared} {scope:Scope} {N:List Str} {fp:List Addr} (h:Ck kd X) (I:Inv X pins σ H s):Ck kd (aF X s H scope N fp):=by
 rcases h with h | ⟨hk,q,o,u,vs,e1,e2,e3,e4⟩
 · exact .inl h
 · exact .inr ⟨hk,q,o,u,vs,e1,I.base.frzs q o u e2,e3,e4⟩
noncomputable def dJ (In:TG->TT->TE->Prop) (caps:List (Option Nat)) (wi:TI):TE:=λσ H Q=>wi σ H λJ H1=>∃ g tt te,In g tt te/\∀ D,H1 D=none ->
 ∃ Z:Nat->Nat->L2.St->Hp->Prop,(∃ m,Z 0 m (d0 σ caps++[some (.ref D)]) (upd H1 D (.lst [])))/\∀ i m σ' H',Z i m σ' H' ->
   (J.stop i H'/\Q (.ref D) H')\/(J.go i H'/\∀ x H2,J.yld i H' x H2->g x σ' H2 λσ2 H3=>tt σ2 H3 λb H4=>
     if b=true then te σ2 H4 λv H5=>∃ vs m',H5 D=some (.lst vs)/\vs.length < sizeLine/\m' < m/\Z (i + 1) m' σ2 (upd H5 D (.lst (vs++[v]))) else ∃ m',m' < m/\Z (i + 1) m' σ2 H4)
theorem b7 {X:Cx} {elt tg iter:Expr} {ifs:List Expr} {scope:Scope} {N:List Str} {caps:List (Option Nat)} {pos:Pos} {wi:TI} {In:TG->TT->TE->Prop} (c:cR X scope N caps) (hi:PI X tg iter wi)
   (hs:∀ x,foldedSetIterable iter X.env x=pure x)
   (hin:∀ g tt te,In g tt te->∀ s H fp,PG (aF X s H scope N fp) tg g/\PTs (aF X s H scope N fp) ifs tt/\PE (aF X s H scope N fp) elt te) :
   PE X (.ListComp elt [⟨tg,iter,ifs,0⟩] scope pos) (dJ In caps wi):=by
 intro pins s σ H Q I h
 rw [eval_ListComp]
 have hcl:=nJ (fK I c)
 refine wpAny_comprehension_free (use:=none) (g:=⟨tg,iter,ifs,0⟩) (gs:=[]) rfl hs hcl c.kind c.loc ?_
 show wpAny _ _ (eval iter X.env) _ _ s
 refine thn (hi pins s σ H _ I h) λv s1 h1=>thn h1 λitv s2 h2=>?_
 obtain ⟨kd,it,fp,tn,J,H2,e,I2,hck,T,st2,f2,g,tt,te,hI,q⟩:=h2
 have hc:=n9 (scope:=scope) (N:=N) (fp:=fp) hck I2
 subst e
 obtain ⟨Z,⟨m0,z0⟩,turn⟩:=q s2.heap.objs.size (I2.hok.fresh (Nat.le_refl _))
 have ho:∀ b ∈ fp,∃ o,s2.heap.get? b=some o:=λb hb=>let ⟨o,e,_⟩:=T.obj _ _ st2 b hb; ⟨o,e⟩
 have I4:=kT (scope:=scope) (N:=N) (caps:=caps) I2 f2 ho c
 obtain ⟨hg,ht,he⟩:=hin g tt te hI s2 H2 fp
 refine wpAny_newObj_type (jI ?_) (by show 0<=sizeLine; decide)
 have hC:(s2.heap.push { cls:=.type "list",dict:=none,data:=.seq ([]:List Value).toArray }).objs.size=s2.heap.objs.size + 1:=Heap.size_push ..
 dsimp only
 rw [hC]
 have kp:∀ b o,s2.heap.get? b=some o->(pushCells ((s2.heap.push { cls:=.type "list",data:=.seq ([]:List Value).toArray }).push { cls:=.type "dict",data:=.dict #[] }) scope.names).get? b=some o:=λb o e=>
   pushCells_keeps _ _ b o (Heap.get?_push_of_some _ (Heap.get?_push_of_some _ e))
 have st4:tn 0 (pushCells ((s2.heap.push { cls:=.type "list",data:=.seq ([]:List Value).toArray }).push { cls:=.type "dict",data:=.dict #[] }) scope.names):=T.keep _ _ _ st2 λb _ o e=>kp b o e
 have stat:∀ {H':Hp},(∀ b ∈ fp,H' b=none)->∀ b ∈ fp,jd (aF X s2 H2 scope N fp) [] H' b:=λhn b hb=>
   ⟨hn b hb,(I4.ok.exf b hb).1,I4.ok.exfs b hb,.inl hb,(I4.ok.exf b hb).2,λp hp=>absurd (show p ∈ ([]:List (Addr × Obj)) from hp) (by simp)⟩
 have fr4:∀ b ∈ fp,(upd H2 s2.heap.objs.size (.lst [])) b=none:=λb hb=>by
   obtain ⟨o,e⟩:=ho b hb
   rw [az (Nat.ne_of_lt (Heap.lt_size e))]; exact (f2 b hb).1
 have loop:codeAny (model X.prog X.w) X.A (.compLoop (.ListComp elt [⟨tg,iter,ifs,0⟩] scope pos) 0 (.ref it) (.ref s2.heap.objs.size) (aF X s2 H2 scope N fp).env)
     (compPost (model X.prog X.w) X.A X.xe none (EP X pins σ Q) (.ref s2.heap.objs.size) (s2.heap.objs.size + 1))
     { s2 with heap:=pushCells ((s2.heap.push { cls:=.type "list",data:=.seq ([]:List Value).toArray }).push { cls:=.type "dict",data:=.dict #[] }) scope.names }:=by
   refine iq (λn s'=>∃ i σ' H',Inv (aF X s2 H2 scope N fp) [] σ' H' s'/\tn i s'.heap/\(∀ b ∈ fp,H' b=none)/\Z i n σ' H') ?_ m0 ⟨0,_,_,I4,st4,fr4,z0⟩
   rintro n s3 ⟨i,σ3,H3,I3,st3,fr3,w3⟩
   rcases turn i n σ3 H3 w3 with ⟨stop,qn⟩ | ⟨go,step⟩
   · refine thn (T.done (aF X s2 H2 scope N fp) rfl rfl rfl hc i [] s3 σ3 H3 _ I3 (stat fr3) st3 stop) λr s5 ⟨hr,I5⟩=>?_
     subst hr
     obtain ⟨m,hn,_⟩:=id I5.loc
     refine ⟨m,hn,λh' sb=>⟨.ref s2.heap.objs.size,H3,?_,rfl,qn⟩⟩
     have lt:∀ b o,s2.heap.get? b=some o->b ≠ s2.heap.objs.size + 1:=λb o e=>Nat.ne_of_lt (Nat.lt_succ_of_lt (Heap.lt_size e))
     have u:=I5.base
     have u':Un (frs X.stack) fp H2 H3 s2.heap h':=⟨λb o e n1 n2 n3=>(sb.2 b (lt b o e)).trans (u.keep b o e n1 n2 n3),λb o e n1 n2 n3=>let ⟨sl,z⟩:=u.slot b o e n1 n2 n3; ⟨sl,(sb.2 b (lt b o e)).trans z⟩,
       u.free,λb o e n1=>let ⟨o',z⟩:=u.there b o e n1; ⟨o',(sb.2 b (lt b o e)).trans z⟩,u.tups,u.frzs,u.tbls⟩
     have fC:H3 (s2.heap.objs.size + 1)=none:=I5.free
     refine I2.jD (s':={ s5 with heap:=h' }) I5.os u' (λb o e=>(I5.hok b o e).dR (λd v hd z=>(sb.2 d ?_).trans z) (λ_ z=>z) λ_ _ z=>z) I5.bare λb hb=>⟨(f2 b hb).2.2.2.1,(f2 b hb).2.1,(f2 b hb).2.2.2.2.1,(f2 b hb).2.2.2.2.2⟩
     rcases hd with hd | hd
     · rw [hd]; exact aA e fC
     · exact aA hd fC
   · refine thn (T.item (aF X s2 H2 scope N fp) rfl rfl rfl hc i [] s3 σ3 H3 _ I3 (stat fr3) st3 go) λr s4 ⟨u,hr,h4⟩=>?_
     subst hr
     refine thn h4 λ_ s5 ⟨x,H5,I5,r5,y5,st5,fr5⟩=>?_
     have I5':=I5.pinned (stat fr5) (T.obj _ _ st5)
     refine thn (hg _ s5 σ3 H5 x u _ I5' r5 (step x H5 y5)) λ_ s6 ⟨σ6,H6,I6,q6⟩=>?_
     have again:∀ {s7:Shared} {σ7:L2.St} {H7:Hp} {m':Nat},Inv (aF X s2 H2 scope N fp) ([]++fM fp s5.heap) σ7 H7 s7->m' < n->Z (i + 1) m' σ7 H7 ->
         ∃ m,m < n/\∃ i σ' H',Inv (aF X s2 H2 scope N fp) [] σ' H' s7/\tn i s7.heap/\(∀ b ∈ fp,H' b=none)/\Z i m σ' H':=λ{s7 σ7 H7 m'} I7 hm z7=>by
       refine ⟨m',hm,i + 1,σ7,H7,I7.cQ,T.keep _ _ _ st5 λb hb o e=>(I7.pin (b,o) (List.mem_append_right _ (List.mem_append_right _ (bE hb e)))).1,λb hb=>?_,z7⟩
       obtain ⟨o,e,d⟩:=T.obj _ _ st5 b hb
       exact (I7.pin (b,o) (List.mem_append_right _ (List.mem_append_right _ (bE hb e)))).2.1
     refine thn (ht _ s6 σ6 H6 _ I6 q6) λok s7 ⟨H7,I7,q7⟩=>?_
     cases ok with
     | false=>
       rw [if_neg (by decide)] at q7
       obtain ⟨m',hm,z7⟩:=q7
       exact again I7 hm z7
     | true=>
       rw [if_pos rfl] at q7
       refine thn (he _ s7 σ6 H7 _ I7 q7) λv' s8 ⟨v,H8,I8,r8,vs,m',q8,l8,hm,z8⟩=>?_
       refine thn (gJ (X:=aF X s2 H2 scope N fp) _ s8 σ6 H8 (.ref s2.heap.objs.size) [v] (.ref s2.heap.objs.size) [v'] (λ_ H9=>H9=upd H8 s2.heap.objs.size (.lst (vs++[v]))) I8 rfl (.cons r8 .nil) ⟨_,vs,v,rfl,rfl,q8,l8,rfl⟩) λ_ s9 ⟨_,H9,I9,_,e9⟩=>?_
       subst e9
       exact again I9 hm z8
 exact codeAny_compStart_list loop (T.self _ 0 _ _ _ st4 loop)
theorem lz {X:Cx} {gT:TG} {y:Str} {py spos:Pos} {elt tg iter:Expr} {ifs:List Expr} {scope:Scope} {N:List Str} {caps:List (Option Nat)} {pos:Pos} {wi:TI} {In:TG->TT->TE->Prop} (hT:PG X (.Name y py) gT) (c:cR X scope N caps) (hi:PI X tg iter wi)
   (hs:∀ x,foldedSetIterable iter X.env x=pure x)
   (hin:∀ g tt te,In g tt te->∀ s H fp,PG (aF X s H scope N fp) tg g/\PTs (aF X s H scope N fp) ifs tt/\PE (aF X s H scope N fp) elt te)
   (hsw:swapsWith (.ListComp elt [⟨tg,iter,ifs,0⟩] scope pos) (some (.Name y py)) spos.line X.env=pure true) :
   PS X (.Assign [.Name y py] (.ListComp elt [⟨tg,iter,ifs,0⟩] scope pos) spos) (tm (dJ In caps wi) gT):=by
 intro pins s σ H D I h
 rw [exec_Assign_Name_used _ _ _ _ hsw]
 refine wpAny_bind (wpAny_standAt (wpAny_bind ?_))
 show wpAny _ _ (do let _ <- comprehension (.ListComp elt [⟨tg,iter,ifs,0⟩] scope pos) scope X.env _ (newList []) false _ (some (assign (.Name y py) X.env))) _ _ s
 refine wpAny_bind ?_
 have hcl:=nJ (fK I c)
 refine wpAny_comprehension_free (use:=some (assign (.Name y py) X.env)) (Q:=λ_ s'=>wpAny (model X.prog X.w) X.A (pure ()) (λ_ s''=>wpAny (model X.prog X.w) X.A (pure Flow.next) (SP X pins D) X.xe s'') X.xe s') (g:=⟨tg,iter,ifs,0⟩) (gs:=[]) rfl hs hcl c.kind c.loc ?_
 show wpAny _ _ (eval iter X.env) _ _ s
 refine thn (hi pins s σ H _ I h) λv s1 h1=>thn h1 λitv s2 h2=>?_
 obtain ⟨kd,it,fp,tn,J,H2,e,I2,hck,T,st2,f2,g,tt,te,hI,q⟩:=h2
 have hc:=n9 (scope:=scope) (N:=N) (fp:=fp) hck I2
 subst e
 obtain ⟨Z,⟨m0,z0⟩,turn⟩:=q s2.heap.objs.size (I2.hok.fresh (Nat.le_refl _))
 have ho:∀ b ∈ fp,∃ o,s2.heap.get? b=some o:=λb hb=>let ⟨o,e,_⟩:=T.obj _ _ st2 b hb; ⟨o,e⟩
 have I4:=kT (scope:=scope) (N:=N) (caps:=caps) I2 f2 ho c
 obtain ⟨hg,ht,he⟩:=hin g tt te hI s2 H2 fp
 refine wpAny_newObj_type (jI ?_) (by show 0<=sizeLine; decide)
 have hC:(s2.heap.push { cls:=.type "list",dict:=none,data:=.seq ([]:List Value).toArray }).objs.size=s2.heap.objs.size + 1:=Heap.size_push ..
 dsimp only
 rw [hC]
 have kp:∀ b o,s2.heap.get? b=some o->(pushCells ((s2.heap.push { cls:=.type "list",data:=.seq ([]:List Value).toArray }).push { cls:=.type "dict",data:=.dict #[] }) scope.names).get? b=some o:=λb o e=>
   pushCells_keeps _ _ b o (Heap.get?_push_of_some _ (Heap.get?_push_of_some _ e))
 have st4:tn 0 (pushCells ((s2.heap.push { cls:=.type "list",data:=.seq ([]:List Value).toArray }).push { cls:=.type "dict",data:=.dict #[] }) scope.names):=T.keep _ _ _ st2 λb _ o e=>kp b o e
 have stat:∀ {H':Hp},(∀ b ∈ fp,H' b=none)->∀ b ∈ fp,jd (aF X s2 H2 scope N fp) [] H' b:=λhn b hb=>
   ⟨hn b hb,(I4.ok.exf b hb).1,I4.ok.exfs b hb,.inl hb,(I4.ok.exf b hb).2,λp hp=>absurd (show p ∈ ([]:List (Addr × Obj)) from hp) (by simp)⟩
 have fr4:∀ b ∈ fp,(upd H2 s2.heap.objs.size (.lst [])) b=none:=λb hb=>by
   obtain ⟨o,e⟩:=ho b hb
   rw [az (Nat.ne_of_lt (Heap.lt_size e))]; exact (f2 b hb).1
 have loop:codeAny (model X.prog X.w) X.A (.compLoop (.ListComp elt [⟨tg,iter,ifs,0⟩] scope pos) 0 (.ref it) (.ref s2.heap.objs.size) (aF X s2 H2 scope N fp).env)
     (compPost (model X.prog X.w) X.A X.xe (some (assign (.Name y py) X.env)) (λ_ s'=>wpAny (model X.prog X.w) X.A (pure ()) (λ_ s''=>wpAny (model X.prog X.w) X.A (pure Flow.next) (SP X pins D) X.xe s'') X.xe s') (.ref s2.heap.objs.size) (s2.heap.objs.size + 1))
     { s2 with heap:=pushCells ((s2.heap.push { cls:=.type "list",data:=.seq ([]:List Value).toArray }).push { cls:=.type "dict",data:=.dict #[] }) scope.names }:=by
   refine iq (λn s'=>∃ i σ' H',Inv (aF X s2 H2 scope N fp) [] σ' H' s'/\tn i s'.heap/\(∀ b ∈ fp,H' b=none)/\Z i n σ' H') ?_ m0 ⟨0,_,_,I4,st4,fr4,z0⟩
   rintro n s3 ⟨i,σ3,H3,I3,st3,fr3,w3⟩
   rcases turn i n σ3 H3 w3 with ⟨stop,qn⟩ | ⟨go,step⟩
   · refine thn (T.done (aF X s2 H2 scope N fp) rfl rfl rfl hc i [] s3 σ3 H3 _ I3 (stat fr3) st3 stop) λr s5 ⟨hr,I5⟩=>?_
     subst hr
     obtain ⟨m,hn,_⟩:=id I5.loc
     have I6:Inv X pins σ H3 s5:=by
       have lt:∀ b o,s2.heap.get? b=some o->b ≠ s2.heap.objs.size + 1:=λb o e=>Nat.ne_of_lt (Nat.lt_succ_of_lt (Heap.lt_size e))
       have u:=I5.base
       have u':Un (frs X.stack) fp H2 H3 s2.heap s5.heap:=⟨λb o e n1 n2 n3=>u.keep b o e n1 n2 n3,λb o e n1 n2 n3=>u.slot b o e n1 n2 n3,u.free,λb o e n1=>u.there b o e n1,u.tups,u.frzs,u.tbls⟩
       exact I2.jD (s':=s5) I5.os u' I5.hok I5.bare λb hb=>⟨(f2 b hb).2.2.2.1,(f2 b hb).2.1,(f2 b hb).2.2.2.2.1,(f2 b hb).2.2.2.2.2⟩
     have fC:H3 (s2.heap.objs.size + 1)=none:=I5.free
     have fk:jd X pins H3 (s2.heap.objs.size + 1):=I2.mG (Nat.le_succ _) fC
     obtain ⟨oC,es,ep,hoC,hdC,rC⟩:=id hn
     have hpin:=I6.pinned (fp:=[s2.heap.objs.size + 1]) (λb hb=>by rw [List.mem_singleton.mp hb]; exact fk) (λb hb=>by rw [List.mem_singleton.mp hb]; exact ⟨oC,hoC,λv z=>by rw [hdC] at z; cases z⟩)
     have hmem:(s2.heap.objs.size + 1,oC) ∈ fM [s2.heap.objs.size + 1] s5.heap:=bE (List.mem_singleton_self _) hoC
     refine thn (hT _ s5 σ H3 (.ref s2.heap.objs.size) (.ref s2.heap.objs.size) _ hpin rfl qn) λ_ s6 ⟨σ6,H6,I7,q7⟩=>?_
     obtain ⟨p1,p2,p3,p4,p5⟩:=I7.pin _ (List.mem_append_right _ (List.mem_append_right _ hmem))
     refine ⟨m,⟨oC,es,ep,p1,hdC,rC⟩,λh' sb=>wpAny_pure (wpAny_pure ?_)⟩
     refine ⟨σ6,H6,?_,q7⟩
     exact (I7.cQ).turned (t':=s6.toks) (it:=s2.heap.objs.size + 1) (λb o hb e=>(sb.2 b hb).trans e) p2 p3 fk.2.2.2.1 fk.2.2.2.2.1 fk.2.2.2.2.2
   · refine thn (T.item (aF X s2 H2 scope N fp) rfl rfl rfl hc i [] s3 σ3 H3 _ I3 (stat fr3) st3 go) λr s4 ⟨u,hr,h4⟩=>?_
     subst hr
     refine thn h4 λ_ s5 ⟨x,H5,I5,r5,y5,st5,fr5⟩=>?_
     have I5':=I5.pinned (stat fr5) (T.obj _ _ st5)
     refine thn (hg _ s5 σ3 H5 x u _ I5' r5 (step x H5 y5)) λ_ s6 ⟨σ6,H6,I6,q6⟩=>?_
     have again:∀ {s7:Shared} {σ7:L2.St} {H7:Hp} {m':Nat},Inv (aF X s2 H2 scope N fp) ([]++fM fp s5.heap) σ7 H7 s7->m' < n->Z (i + 1) m' σ7 H7 ->
         ∃ m,m < n/\∃ i σ' H',Inv (aF X s2 H2 scope N fp) [] σ' H' s7/\tn i s7.heap/\(∀ b ∈ fp,H' b=none)/\Z i m σ' H':=λ{s7 σ7 H7 m'} I7 hm z7=>by
       refine ⟨m',hm,i + 1,σ7,H7,I7.cQ,T.keep _ _ _ st5 λb hb o e=>(I7.pin (b,o) (List.mem_append_right _ (List.mem_append_right _ (bE hb e)))).1,λb hb=>?_,z7⟩
       obtain ⟨o,e,d⟩:=T.obj _ _ st5 b hb
       exact (I7.pin (b,o) (List.mem_append_right _ (List.mem_append_right _ (bE hb e)))).2.1
     refine thn (ht _ s6 σ6 H6 _ I6 q6) λok s7 ⟨H7,I7,q7⟩=>?_
     cases ok with
     | false=>
       rw [if_neg (by decide)] at q7
       obtain ⟨m',hm,z7⟩:=q7
       exact again I7 hm z7
     | true=>
       rw [if_pos rfl] at q7
       refine thn (he _ s7 σ6 H7 _ I7 q7) λv' s8 ⟨v,H8,I8,r8,vs,m',q8,l8,hm,z8⟩=>?_
       refine thn (gJ (X:=aF X s2 H2 scope N fp) _ s8 σ6 H8 (.ref s2.heap.objs.size) [v] (.ref s2.heap.objs.size) [v'] (λ_ H9=>H9=upd H8 s2.heap.objs.size (.lst (vs++[v]))) I8 rfl (.cons r8 .nil) ⟨_,vs,v,rfl,rfl,q8,l8,rfl⟩) λ_ s9 ⟨_,H9,I9,_,e9⟩=>?_
       subst e9
       exact again I9 hm z8
 exact codeAny_compStart_list loop (T.self _ 0 _ _ _ st4 loop)
end Ev
namespace Hy
open PySem PySem.Spec PyProof.Rows L2
open Ev (D Den ax)
open Classical in
noncomputable def hd (H:Hp) (M:Addr->Prop):Hp:=λb=>if M b then none else H b
theorem aD {H:Hp} {M:Addr->Prop} {b:Addr} {o:HO}:hd H M b=some o ↔ ¬ M b/\H b=some o:=by
 unfold hd
 by_cases h:M b
 · rw [if_pos h]; exact ⟨λz=>(nomatch z),λz=>absurd h z.1⟩
 · rw [if_neg h]; exact ⟨λz=>⟨h,z⟩,λz=>z.2⟩
theorem aB {H H':Hp} {M M':Addr->Prop} (e:ao H H') (m:∀ b,M' b->M b):ao (hd H M) (hd H' M'):=λb _ h=>aD.mpr ⟨λz=>(aD.mp h).1 (m b z),e b _ (aD.mp h).2⟩
theorem aR {H:Hp} {M:Addr->Prop}:ao (hd H M) H:=λ_ _ h=>(aD.mp h).2
inductive Nd where
 | d (x:D) | l (xs:List Nd) | t (xs:List Nd)
structure Ex where
 p:PySem.W.Frag->Hp->HO->Addr->Prop
 mono:∀ {K:PySem.W.Frag} {G G':Hp} {o:HO} {a:Addr},ao G G'->p K G o a->p K G' o a
 ext:∀ {K:PySem.W.Frag} {G:Hp} {o:HO} {a:Addr},p K G o a->(∃ φ,o=.ext φ)\/(∃ ob φ,o=.frz ob (.ext φ))\/∃ kvs,o=.dK kvs\/∃ ob,o=.frz ob (.dK kvs)
inductive Sl where
 | un | d (x:D) | o (xs:List D) | n (t:Nd) | x (E:Ex)
mutual
inductive cV (K:PySem.W.Frag) (G H:Hp):V->List Addr->Nd->Prop where
 | d {u:V} {x:D} (h:Den K G u x):cV K G H u [] (.d x)
 | l {a:Addr} {vs:List V} {bs:List Addr} {xs:List Nd} (h:H a=some (.lst vs)) (r:a5 K G H vs bs xs):cV K G H (.ref a) (a :: bs) (.l xs)
 | t {a:Addr} {vs:List V} {bs:List Addr} {xs:List Nd} (h:H a=some (.tup vs)) (r:a5 K G H vs bs xs):cV K G H (.ref a) (a :: bs) (.t xs)
inductive a5 (K:PySem.W.Frag) (G H:Hp):List V->List Addr->List Nd->Prop where
 | nil:a5 K G H [] [] []
 | cons {v:V} {vs:List V} {b1 b2:List Addr} {s:Nd} {ss:List Nd} (h:cV K G H v b1 s) (r:a5 K G H vs b2 ss):a5 K G H (v :: vs) (b1++b2) (s :: ss)
end
noncomputable def cj (K:PySem.W.Frag) (G H:Hp) (v:Option V) (bs:List Addr):Sl->Prop
 | .un=>bs=[]
 | .d x=>bs=[]/\∃ u,v=some u/\Den K G u x
 | .o xs=>∃ a vs,bs=[a]/\v=some (.ref a)/\H a=some (.lst vs)/\ax K G vs xs
 | .n t=>bs.Nodup/\∃ u,v=some u/\cV K G H u bs t
 | .x E=>∃ a o,bs=[a]/\v=some (.ref a)/\H a=some o/\E.p K G o a
section
variable {K:PySem.W.Frag} {G G' H H':Hp}
mutual
theorem cV.frame (g:ao G G'):∀ {u:V} {bs:List Addr} {t:Nd},(∀ b ∈ bs,H' b=H b)->cV K G H u bs t->cV K G' H' u bs t
 | _,_,_,_,.d h=>.d (h.mono g)
 | _,_,_,e,.l h r=>.l (by rw [e _ (List.mem_cons_self ..)]; exact h) (a5.frame g (λb hb=>e b (List.mem_cons_of_mem _ hb)) r)
 | _,_,_,e,.t h r=>.t (by rw [e _ (List.mem_cons_self ..)]; exact h) (a5.frame g (λb hb=>e b (List.mem_cons_of_mem _ hb)) r)
theorem a5.frame (g:ao G G'):∀ {vs:List V} {bs:List Addr} {xs:List Nd},(∀ b ∈ bs,H' b=H b)->a5 K G H vs bs xs->a5 K G' H' vs bs xs
 | _,_,_,_,.nil=>.nil
 | _,_,_,e,.cons h r=>.cons (cV.frame g (λb hb=>e b (List.mem_append_left _ hb)) h) (a5.frame g (λb hb=>e b (List.mem_append_right _ hb)) r)
end
mutual
theorem cV.some_of:∀ {u:V} {bs:List Addr} {t:Nd},cV K G H u bs t->∀ b ∈ bs,∃ o,H b=some o
 | _,_,_,.d _,_,z=>nomatch z
 | _,_,_,.l h r,b,z=>(List.mem_cons.mp z).elim (λe=>e ▸ ⟨_,h⟩) λz=>a5.some_of r b z
 | _,_,_,.t h r,b,z=>(List.mem_cons.mp z).elim (λe=>e ▸ ⟨_,h⟩) λz=>a5.some_of r b z
theorem a5.some_of:∀ {vs:List V} {bs:List Addr} {xs:List Nd},a5 K G H vs bs xs->∀ b ∈ bs,∃ o,H b=some o
 | _,_,_,.nil,_,z=>nomatch z
 | _,_,_,.cons h r,b,z=>(List.mem_append.mp z).elim (λz=>cV.some_of h b z) λz=>a5.some_of r b z
end
theorem cV.mono (g:ao G G') (e:ao H H') {u:V} {bs:List Addr} {t:Nd} (h:cV K G H u bs t):cV K G' H' u bs t:=h.frame g λb hb=>by
 obtain ⟨o,q⟩:=h.some_of b hb
 rw [q,e b o q]
theorem cj.mono (g:ao G G') (e:ao H H') {v:Option V} {bs:List Addr}:∀ {s:Sl},cj K G H v bs s->cj K G' H' v bs s
 | .un,h=>h
 | .d _,⟨h,u,e1,h2⟩=>⟨h,u,e1,h2.mono g⟩
 | .o _,⟨a,vs,h1,h2,h3,h4⟩=>⟨a,vs,h1,h2,e _ _ h3,h4.mono g⟩
 | .n _,⟨h0,u,h1,h2⟩=>⟨h0,u,h1,h2.mono g e⟩
 | .x E,⟨a,o,h1,h2,h3,h4⟩=>⟨a,o,h1,h2,e _ _ h3,E.mono g h4⟩
end
noncomputable def own (A:Addr->Prop) (B:Nat->List Addr) (b:Addr):Prop:=A b\/∃ i,b ∈ B i
noncomputable def vw (C:Bool) (A:Addr->Prop) (B:Nat->List Addr):Addr->Prop:=match C with
 | true=>own A B
 | false=>A
structure Sta (K:PySem.W.Frag) (A:Addr->Prop) (H₀:Hp) (τ:List Sl) (B:Nat->List Addr) (σ:L2.St) (H:Hp):Prop where
 same:ao H₀ H
 len:σ.length=τ.length
 sl:∀ i s,τ[i]?=some s->cj K (hd H (own A B)) H (σ[i]?).join (B i) s
 fr:∀ i b,b ∈ B i->H₀ b=none
 uq:∀ i j b,b ∈ B i->b ∈ B j->i=j
 ad:∀ b,A b->∃ o,H₀ b=some o
 bd:∀ i b,b ∈ B i->∃ o,H b=some o
noncomputable def upB (B:Nat->List Addr) (i:Nat) (bs:List Addr):Nat->List Addr:=λj=>if j=i then bs else B j
section
variable {K:PySem.W.Frag} {A:Addr->Prop} {H₀ H H':Hp} {τ:List Sl} {B:Nat->List Addr} {σ:L2.St}
theorem Sta.dm (S:Sta K A H₀ τ B σ H) (b:Addr) (h:own A B b):∃ o,H b=some o:=h.elim (λz=>let ⟨o,q⟩:=S.ad b z; ⟨o,S.same _ _ q⟩) λ⟨i,z⟩=>S.bd i b z
theorem Sta.mono (S:Sta K A H₀ τ B σ H) (e:ao H H'):Sta K A H₀ τ B σ H' where
 same:=S.same.trans e
 len:=S.len
 sl:=λi s h=>(S.sl i s h).mono (aB e λ_ z=>z) e
 fr:=S.fr
 uq:=S.uq
 ad:=S.ad
 bd:=λi b h=>let ⟨o,q⟩:=S.bd i b h; ⟨o,e _ _ q⟩
theorem bz {i j:Nat} {bs:List Addr} {b:Addr} (h:b ∈ upB B i bs j):(j=i/\b ∈ bs)\/(j ≠ i/\b ∈ B j):=by
 unfold upB at h
 by_cases e:j=i
 · rw [if_pos e] at h; exact .inl ⟨e,h⟩
 · rw [if_neg e] at h; exact .inr ⟨e,h⟩
theorem Sta.set (S:Sta K A H₀ τ B σ H) (e:ao H H') {i:Nat} {v:V} {s:Sl} {bs:List Addr} (hf:∀ b ∈ bs,H b=none/\∃ o,H' b=some o) (h:cj K (hd H' λb=>own A B b\/b ∈ bs) H' (some v) bs s) :
   Sta K A H₀ (τ.set i s) (upB B i bs) (σ.set i (some v)) H':=by
 have sub:∀ b,own A (upB B i bs) b->own A B b\/b ∈ bs:=λb z=>z.elim (λz=>.inl (.inl z)) λ⟨j,z⟩=>(bz z).elim (λz=>.inr z.2) λz=>.inl (.inr ⟨j,z.2⟩)
 have some_of:∀ b j,b ∈ B j->∃ o,H b=some o:=λb j z=>S.dm b (.inr ⟨j,z⟩)
 refine ⟨S.same.trans e,by rw [List.length_set,List.length_set,S.len],λj t hj=>?_,λj b hb=>?_,λj k b h1 h2=>?_,S.ad,λj b hb=>?_⟩
 · by_cases ej:j=i
   · subst ej
     have hl:j < τ.length:=by
       have:=(List.getElem?_eq_some_iff.mp hj).1
       rwa [List.length_set] at this
     rw [List.getElem?_set_self hl] at hj
     cases hj
     rw [List.getElem?_set_self (by rw [S.len]; exact hl)]
     unfold upB
     rw [if_pos rfl]
     exact h.mono (aB (ao.refl _) sub) (ao.refl _)
   · rw [List.getElem?_set_ne (λz=>ej z.symm)] at hj
     rw [List.getElem?_set_ne (λz=>ej z.symm)]
     unfold upB
     rw [if_neg ej]
     have q:=S.sl j t hj
     refine q.mono (λb o z=>?_) e
     obtain ⟨z1,z2⟩:=aD.mp z
     refine aD.mpr ⟨λy=>?_,e _ _ z2⟩
     rcases sub b y with y | y
     · exact z1 y
     · rw [(hf b y).1] at z2; cases z2
 · rcases bz hb with ⟨_,z⟩ | ⟨_,z⟩
   · exact S.same.free (hf b z).1
   · exact S.fr j b z
 · rcases bz h1 with ⟨e1,z1⟩ | ⟨e1,z1⟩ <;> rcases bz h2 with ⟨e2,z2⟩ | ⟨e2,z2⟩
   · exact e1.trans e2.symm
   · obtain ⟨o,q⟩:=some_of b k z2; rw [(hf b z1).1] at q; cases q
   · obtain ⟨o,q⟩:=some_of b j z1; rw [(hf b z2).1] at q; cases q
   · exact S.uq j k b z1 z2
 · rcases bz hb with ⟨_,z⟩ | ⟨_,z⟩
   · exact (hf b z).2
   · obtain ⟨o,q⟩:=S.bd j b z; exact ⟨o,e _ _ q⟩
theorem Sta.less (S:Sta K A H₀ τ B σ H) {i:Nat} {s:Sl} {bs:List Addr} (hb:∀ b ∈ bs,b ∈ B i) (h:∀ G:Hp,ao (hd H (own A B)) G->(∀ b o,b ∈ B i->b ∉ bs->H b=some o->G b=some o)->cj K G H (σ[i]?).join bs s):Sta K A H₀ (τ.set i s) (upB B i bs) σ H:=by
 have sub:∀ b,own A (upB B i bs) b->own A B b:=λb z=>z.elim .inl λ⟨j,z⟩=>(bz z).elim (λz=>.inr ⟨i,hb b z.2⟩) λz=>.inr ⟨j,z.2⟩
 refine ⟨S.same,by rw [List.length_set,S.len],λj t hj=>?_,λj b h=>?_,λj k b h1 h2=>?_,S.ad,λj b h=>(bz h).elim (λz=>S.bd i b (hb b z.2)) λz=>S.bd j b z.2⟩
 · by_cases ej:j=i
   · subst ej
     have hl:j < τ.length:=by
       have:=(List.getElem?_eq_some_iff.mp hj).1
       rwa [List.length_set] at this
     rw [List.getElem?_set_self hl] at hj
     cases hj
     unfold upB
     rw [if_pos rfl]
     refine h _ (aB (ao.refl _) sub) λb o z1 z2 z3=>aD.mpr ⟨λy=>?_,z3⟩
     rcases y with y | ⟨m,y⟩
     · obtain ⟨_,q⟩:=S.ad b y
       rw [S.fr j b z1] at q; cases q
     · rcases bz y with ⟨e,y⟩ | ⟨e,y⟩
       · exact z2 y
       · exact e (S.uq m j b y z1)
   · rw [List.getElem?_set_ne (λz=>ej z.symm)] at hj
     unfold upB
     rw [if_neg ej]
     exact (S.sl j t hj).mono (aB (ao.refl _) sub) (ao.refl _)
 · rcases bz h with ⟨e,z⟩ | ⟨_,z⟩
   · exact S.fr i b (hb b z)
   · exact S.fr j b z
 · rcases bz h1 with ⟨e1,z1⟩ | ⟨e1,z1⟩ <;> rcases bz h2 with ⟨e2,z2⟩ | ⟨e2,z2⟩
   · exact e1.trans e2.symm
   · exact absurd (S.uq k i b z2 (hb b z1)) e2
   · exact absurd (S.uq j i b z1 (hb b z2)) e1
   · exact S.uq j k b z1 z2
end
end Hy
namespace Hy
open PySem PySem.Spec PyProof.Rows L2
open Ev (D Den ax aM aG aw bc aL)
noncomputable def Fr (H H':Hp) (bs:List Addr):Prop:=∀ b ∈ bs,H b=none/\∃ o,H' b=some o
noncomputable def dE (K:PySem.W.Frag) (C:Bool) (τ:List Sl) (s:Sl):TE:=λσ H Q=>∃ A H₀ B,Sta K A H₀ τ B σ H /\
 ∀ v H' bs,ao H H'->Fr H H' bs->cj K (hd H' λb=>vw C A B b\/b ∈ bs) H' (some v) bs s->Q v H'
noncomputable def dA (K:PySem.W.Frag) (C:Bool) (τ:List Sl) (ds:List D):TA:=λσ H Q=>∃ A H₀ B,Sta K A H₀ τ B σ H /\
 ∀ vs H',ao H H'->ax K (hd H' (vw C A B)) vs ds->Q vs H'
noncomputable def dT (K:PySem.W.Frag) (τ:List Sl) (c:Bool):TT:=λσ H Q=>∃ A H₀ B,Sta K A H₀ τ B σ H/\∀ H',ao H H'->Q c H'
structure Po where
 nx:List Sl->Prop
 rt:Sl->Prop
 bk:List Sl->Prop:=λ_=>False
 ct:List Sl->Prop:=λ_=>False
 xc:Hp->Prop:=λ_=>True
structure Meets (K:PySem.W.Frag) (A:Addr->Prop) (H₀:Hp) (N:Po) (D:Ends):Prop where
 nx:∀ τ B σ H,N.nx τ->Sta K A H₀ τ B σ H->D.nx σ H
 bk:∀ τ B σ H,N.bk τ->Sta K A H₀ τ B σ H->D.bk σ H
 ct:∀ τ B σ H,N.ct τ->Sta K A H₀ τ B σ H->D.ct σ H
 rt:∀ v H bs s,N.rt s->ao H₀ H->Fr H₀ H bs->cj K (hd H λb=>A b\/b ∈ bs) H (some v) bs s->D.rt v H
 xc:∀ H,ao H₀ H->N.xc H
noncomputable def dS (K:PySem.W.Frag) (τ:List Sl) (N:Po):TS:=λD σ H=>∃ A H₀ B,Sta K A H₀ τ B σ H/\Meets K A H₀ N D
theorem peW {X:Cx} {e:Expr} {t t':TE} (h:PE X e t) (f:∀ σ H Q,t' σ H Q->t σ H Q):PE X e t':=λpins s σ H Q I q=>h pins s σ H Q I (f σ H Q q)
theorem ptW {X:Cx} {e:Expr} {t t':TT} (h:PT X e t) (f:∀ σ H Q,t' σ H Q->t σ H Q):PT X e t':=λpins s σ H Q I q=>h pins s σ H Q I (f σ H Q q)
theorem pwW {X:Cx} {e:Expr} {t t':TT} (h:PW X e t) (f:∀ σ H Q,t' σ H Q->t σ H Q):PW X e t':=λwh pins s σ H Q I q=>h wh pins s σ H Q I (f σ H Q q)
theorem paW {X:Cx} {e:List Expr} {t t':TA} (h:PA X e t) (f:∀ σ H Q,t' σ H Q->t σ H Q):PA X e t':=λp pins s σ H Q I q=>h p pins s σ H Q I (f σ H Q q)
theorem psW {X:Cx} {e:Stmt} {t t':TS} (h:PS X e t) (f:∀ D σ H,t' D σ H->t D σ H):PS X e t':=λpins s σ H D I q=>h pins s σ H D I (f D σ H q)
theorem oG {X:Cx} {e:List Stmt} {t t':TS} (h:PSs X e t) (f:∀ D σ H,t' D σ H->t D σ H):PSs X e t':=λpins s σ H D I q=>h pins s σ H D I (f D σ H q)
section
variable {K:PySem.W.Frag} {C:Bool} {τ:List Sl} {A:Addr->Prop} {H₀ H H':Hp} {B:Nat->List Addr} {σ:L2.St} {x y z:D} {Q:VK}
theorem iV {b:Addr} (h:vw C A B b):own A B b:=by
 cases C with
 | true=>exact h
 | false=>exact .inl h
theorem Sta.vd (S:Sta K A H₀ τ B σ H) (b:Addr) (h:vw C A B b):∃ o,H b=some o:=S.dm b (iV h)
theorem ba (S:Sta K A H₀ τ B σ H) (k:∀ v H',ao H H'->Den K (hd H' (vw C A B)) v x->Q v H'):dE K C τ (.d x) σ H Q:=
 ⟨A,H₀,B,S,λv H' bs e _ ⟨hb,u,eu,h⟩=>by
   cases eu
   exact k v H' e (h.mono (aB (ao.refl _) λ_ z=>.inl z))⟩
theorem eH (h:dE K C τ (.d x) σ H Q):∃ A H₀ B,Sta K A H₀ τ B σ H/\∀ v H',ao H H'->Den K (hd H' (vw C A B)) v x->Q v H':=by
 obtain ⟨A,H₀,B,S,k⟩:=h
 exact ⟨A,H₀,B,S,λv H' e d=>k v H' [] e (λ_ z=>nomatch z) ⟨rfl,v,rfl,d.mono (aB (ao.refl _) λ_ z=>z.elim id λz=>nomatch z)⟩⟩
theorem cY {ds:List D} {Q:List V->Hp->Prop} (S:Sta K A H₀ τ B σ H) (k:∀ vs H',ao H H'->ax K (hd H' (vw C A B)) vs ds->Q vs H'):dA K C τ ds σ H Q:=⟨A,H₀,B,S,k⟩
theorem kl {M:Addr->Prop} {p:Addr} {o:HO} (hM:∀ b,M b->∃ o,H b=some o) (hp:H p=none):hd (upd H p o) M p=some o:=
 aD.mpr ⟨λz=>(by obtain ⟨o,q⟩:=hM p z; rw [hp] at q; cases q),aV⟩
mutual
noncomputable def ndD:Nd->D
 | .d x=>x
 | .l xs=>.lst (kH xs)
 | .t xs=>.tup (kH xs)
noncomputable def kH:List Nd->List D
 | []=>[]
 | x :: xs=>ndD x :: kH xs
end
noncomputable def fzD:Sl->Option D
 | .un=>none
 | .d x=>some x
 | .o xs=>some (.lst xs)
 | .n t=>some (ndD t)
 | .x _=>none
mutual
theorem cV.den {G G':Hp} (g:ao G G'):∀ {u:V} {bs:List Addr} {t:Nd},(∀ b ∈ bs,∀ o,H b=some o->G' b=some o)->cV K G H u bs t->Den K G' u (ndD t)
 | _,_,_,_,.d h=>h.mono g
 | _,_,_,e,.l h r=>.lst (SqL.of (e _ (List.mem_cons_self ..) _ h)) (a5.den g (λb hb=>e b (List.mem_cons_of_mem _ hb)) r)
 | _,_,_,e,.t h r=>.tup (SqT.of (e _ (List.mem_cons_self ..) _ h)) (a5.den g (λb hb=>e b (List.mem_cons_of_mem _ hb)) r)
theorem a5.den {G G':Hp} (g:ao G G'):∀ {vs:List V} {bs:List Addr} {xs:List Nd},(∀ b ∈ bs,∀ o,H b=some o->G' b=some o)->a5 K G H vs bs xs->ax K G' vs (kH xs)
 | _,_,_,_,.nil=>.nil
 | _,_,_,e,.cons h r=>.cons (cV.den g (λb hb=>e b (List.mem_append_left _ hb)) h) (a5.den g (λb hb=>e b (List.mem_append_right _ hb)) r)
end
theorem cj.den {G G':Hp} {v:Option V} {bs:List Addr} {s:Sl} (h:cj K G H v bs s) (g:ao G G') (hv:∀ b ∈ bs,∀ o,H b=some o->G' b=some o) (e:fzD s=some x):∃ u,v=some u/\Den K G' u x:=by
 cases s with
 | un=>cases e
 | d y=>cases e; obtain ⟨_,u,e,q⟩:=h; exact ⟨u,e,q.mono g⟩
 | o xs=>
   cases e
   obtain ⟨a,vs,rfl,h2,h3,h4⟩:=h
   exact ⟨_,h2,.lst (SqL.of (hv a (List.mem_cons_self ..) _ h3)) (h4.mono g)⟩
 | n t=>
   cases e
   obtain ⟨_,u,e,q⟩:=h
   exact ⟨u,e,q.den g hv⟩
 | x E=>cases e
theorem slot_of {i:Nat} {u:V} (h:(σ[i]?).join=some u):σ[i]?=some (some u):=by
 cases e:σ[i]? with
 | none=>rw [e] at h; cases h
 | some o=>rw [e] at h; exact congrArg some h
end
section
variable {X:Cx} {C:Bool} {τ:List Sl} {x y z:D} {a b e:Expr} {es:List Expr} {pos:Pos}
theorem ae (i:Nat) {n:Str} {x:D} (h:τ[i]?=some (.d x):=by rfl) (hN:X.N[i]?=some n:=by rfl) (hv:Vis X.env.scope n:=by first | exact Or.inl rfl | exact Or.inr (Or.inl rfl) | exact Or.inr (Or.inr rfl))
   (hd:(n == ("__debug__" : Str))=false:=by decide) (hcd:(n == ("__classdict__" : Str))=false:=by decide):PE X (.Name n pos) (dE X.K C τ (.d x)):=peW (cK hN hv hd hcd) λσ H Q q=>by
 obtain ⟨A,H₀,B,S,k⟩:=eH q
 obtain ⟨_,u,e,d⟩:=S.sl i _ h
 exact ⟨u,slot_of e,k u H (ao.refl _) (d.mono (aB (ao.refl _) λ_ z=>iV z))⟩
theorem j9 (i:Nat) {n:Str} {s:Sl} {x:D} (h:τ[i]?=some s:=by rfl) (hx:fzD s=some x:=by rfl) (hN:X.N[i]?=some n:=by rfl) (hv:Vis X.env.scope n:=by first | exact Or.inl rfl | exact Or.inr (Or.inl rfl) | exact Or.inr (Or.inr rfl))
   (hd:(n == ("__debug__" : Str))=false:=by decide) (hcd:(n == ("__classdict__" : Str))=false:=by decide):PE X (.Name n pos) (dE X.K false τ (.d x)):=peW (cK hN hv hd hcd) λσ H Q q=>by
 obtain ⟨A,H₀,B,S,k⟩:=eH q
 obtain ⟨u,e,d⟩:=(S.sl i _ h).den (G':=Hy.hd H A) (aB (ao.refl _) λ_ z=>.inl z) (λb hb o ho=>aD.mpr ⟨λz=>(by obtain ⟨_,q⟩:=S.ad b z; rw [S.fr i b hb] at q; cases q),ho⟩) hx
 exact ⟨u,slot_of e,k u H (ao.refl _) d⟩
theorem lr {v:V} (h:PE X e (tC v)) (d:∀ H,Den X.K H v x):PE X e (dE X.K C τ (.d x)):=peW h λσ H Q q=>by
 obtain ⟨A,H₀,B,S,k⟩:=eH q
 exact k v H (ao.refl _) (d _)
theorem af {i j}:PE X (.Constant (.int i) j pos) (dE X.K C τ (.d (.int i))):=lr tP λ_=>.int
theorem b5 {b j}:PE X (.Constant (.bool b) j pos) (dE X.K C τ (.d (.bl b))):=lr vF λ_=>.bl
theorem v7 {j}:PE X (.Constant .none j pos) (dE X.K C τ (.d .non)):=lr uB λ_=>.non
theorem aN {s j}:PE X (.Constant (.str s) j pos) (dE X.K C τ (.d (.str s))):=lr uS λ_=>.str
theorem gB {n:Str} {i:Int} (hm:∃ t,X.mg n=some (.int i t)) (hg:Gl X n:=by rfl) (hd:(n == ("__debug__" : Str))=false:=by decide):PE X (.Name n pos) (dE X.K C τ (.d (.int i))):=by
 obtain ⟨t,hm⟩:=hm
 exact lr (mY (v:=.int i) hg hm ⟨t,rfl⟩ hd) λ_=>.int
theorem aQ {s:Sl} (h:PE X e (dE X.K C τ s)) (hx:fzD s=some x:=by rfl):PE X e (dE X.K C τ (.d x)):=peW h λσ H Q q=>by
 obtain ⟨A,H₀,B,S,k⟩:=eH q
 refine ⟨A,H₀,B,S,λv H' bs e hf q=>?_⟩
 have vd:=S.vd (C:=C)
 obtain ⟨u,e1,d⟩:=q.den (G':=Hy.hd H' (vw C A B)) (aB (ao.refl _) λ_ z=>.inl z) (λb hb o ho=>aD.mpr ⟨λz=>(by obtain ⟨_,q⟩:=vd b z; rw [(hf b hb).1] at q; cases q),ho⟩) hx
 cases e1
 exact k v H' e d
noncomputable def flat:D->Bool
 | .tup _=>false
 | .lst _=>false
 | .box _=>false
 | _=>true
theorem qB {K:PySem.W.Frag} {G G':Hp} {v:V} (h:Den K G v x) (f:flat x=true):Den K G' v x:=by
 cases h with
 | non=>exact .non
 | bl=>exact .bl
 | int=>exact .int
 | str=>exact .str
 | tup _ _=>cases f
 | lst _ _=>cases f
 | box _=>cases f
theorem xp (h:PE X e (dE X.K false τ (.d x))) (f:flat x=true:=by rfl):PE X e (dE X.K C τ (.d x)):=peW h λσ H Q q=>by
 obtain ⟨A,H₀,B,S,k⟩:=eH q
 exact ba S λv H' e d=>k v H' e (qB d f)
noncomputable def bZ (X:Cx) (f:Value->Value->Sem Value) (x y z:D):Prop:=∃ r:R2,OpR X f r /\
 ∀ (M:Addr->Prop) (v w:V) (H:Hp) (Q:VK),(∀ b,M b->∃ o,H b=some o)->Den X.K (hd H M) v x->Den X.K (hd H M) w y->(∀ u H',ao H H'->Den X.K (hd H' M) u z->Q u H')->r v w H Q
theorem two {r:R2} (hr:∀ (M:Addr->Prop) (v w:V) (H:Hp) (Q:VK),(∀ b,M b->∃ o,H b=some o)->Den X.K (hd H M) v x->Den X.K (hd H M) w y->(∀ u H',ao H H'->Den X.K (hd H' M) u z->Q u H')->r v w H Q) :
   ∀ σ H Q,dE X.K C τ (.d z) σ H Q->tOp r (dE X.K C τ (.d x)) (dE X.K C τ (.d y)) σ H Q:=by
 intro σ H Q h
 obtain ⟨A,H₀,B,S,k⟩:=eH h
 refine ba S λv H1 e1 d1=>ba (S.mono e1) λw H2 e2 d2=>hr (vw C A B) v w H2 Q ((S.mono e1).mono e2).vd (d1.mono (aB e2 λ_ z=>z)) d2 λu H' e3 d3=>k u H' (e1.trans (e2.trans e3)) d3
theorem av {op:Operator} (ha:PE X a (dE X.K C τ (.d x))) (hb:PE X b (dE X.K C τ (.d y))) (ho:bZ X (binaryOp op) x y z):PE X (.BinOp a op b pos) (dE X.K C τ (.d z)):=by
 obtain ⟨r,h1,h2⟩:=ho
 exact peW (pd h1 ha hb) (two h2)
theorem bI {op:CmpOp} (ha:PE X a (dE X.K C τ (.d x))) (hb:PE X b (dE X.K C τ (.d y))) (ho:bZ X (compareOp op) x y z) (hm:behindInMarks op b=false:=by first | exact qZ _ | rfl):PE X (.Compare a [op] [b] pos) (dE X.K C τ (.d z)):=by
 obtain ⟨r,h1,h2⟩:=ho
 exact peW (rq h1 ha hb hm) (two h2)
theorem pM {t:TE} {c:Bool} (h:∀ σ H Q,dE X.K false τ (.d (.bl c)) σ H Q->t σ H Q):∀ σ H Q,dT X.K τ c σ H Q->t σ H λx H'=>∃ k,x=.bl k/\Q k H':=λσ H Q ⟨A,H₀,B,S,k⟩=>
 h σ H _ (ba S λv H' e d=>by cases d; exact ⟨c,rfl,k H' e⟩)
theorem aH {op:CmpOp} {c:Bool} (ha:PE X a (dE X.K false τ (.d x))) (hb:PE X b (dE X.K false τ (.d y))) (ho:bZ X (compareOp op) x y (.bl c)) (hm:behindInMarks op b=false:=by first | exact qZ _ | rfl):PT X (.Compare a [op] [b] pos) (dT X.K τ c):=by
 obtain ⟨r,h1,h2⟩:=ho
 exact ptW (rG h1 ha hb hm) (pM (two h2))
theorem aI {c:Bool} (h:PE X e (dE X.K false τ (.d (.bl c)))) (he:∀ whole,isTrue e X.env whole=(do let v <- whole; standAt e.pos; holding [v] (truthy v)):=by intro _; rfl):PT X e (dT X.K τ c):=
 ptW (u6 h he) (pM λ_ _ _ q=>q)
theorem mM {g:Int->Int->V} {P:Int->Int->Prop} {i j:Int} (hc:P i j) (hz:∀ K H,Den K H (g i j) z):∀ (M:Addr->Prop) (v w:V) (H:Hp) (Q:VK),(∀ b,M b->∃ o,H b=some o)->Den X.K (hd H M) v (.int i)->Den X.K (hd H M) w (.int j) ->
   (∀ u H',ao H H'->Den X.K (hd H' M) u z->Q u H')->rI P g v w H Q:=λ_ v w H Q _ d1 d2 k=>by
 cases d1
 cases d2
 exact ⟨i,j,rfl,rfl,hc,k _ H (ao.refl _) (hz _ _)⟩
theorem jG {g:Int->Int->V} {i j:Int} (hz:∀ K H,Den K H (g i j) z):∀ (M:Addr->Prop) (v w:V) (H:Hp) (Q:VK),(∀ b,M b->∃ o,H b=some o)->Den X.K (hd H M) v (.int i)->Den X.K (hd H M) w (.int j) ->
   (∀ u H',ao H H'->Den X.K (hd H' M) u z->Q u H')->rI0 g v w H Q:=λ_ v w H Q _ d1 d2 k=>by
 cases d1
 cases d2
 exact ⟨i,j,rfl,rfl,k _ H (ao.refl _) (hz _ _)⟩
variable {i j:Int}
theorem aZ:bZ X (binaryOp .Add) (.int i) (.int j) (.int (i + j)):=⟨_,uu,jG λ_ _=>.int⟩
theorem d8:bZ X (binaryOp .Sub) (.int i) (.int j) (.int (i - j)):=⟨_,tM,jG λ_ _=>.int⟩
theorem aM.ok' {i j:Int} (h:aM i j):IntMulOk i j:=by
 have b:∀ {k:Int} {n:Nat},k.natAbs.log2 < n->Builtin.Int.intBits k<=n:=λ{k n} q=>by
   unfold Builtin.Int.intBits
   split
   · exact Nat.zero_le _
   · exact q
 rcases h with h | h | ⟨h1,h2⟩
 · exact .of_left (b h)
 · exact .of_right (b h)
 · exact .of_bits (Nat.le_trans (b h1) (by decide)) (Nat.le_trans (b h2) (by decide))
theorem a4 (h:aM i j):bZ X (binaryOp .Mult) (.int i) (.int j) (.int (i * j)):=⟨rI aM λi j=>.int (i * j),opI λ_ _ _ _ _ _ _ hc q=>mul_int q (aM.ok' hc),mM h λ_ _=>.int⟩
theorem bf (h:aG j):bZ X (binaryOp .FloorDiv) (.int i) (.int j) (.int (i.fdiv j)):=⟨rI (λ_ j=>aG j) λi j=>.int (i.fdiv j),opI λ_ _ _ _ _ _ _ hc q=>floordiv_int hc.1 q (.inl (PyProof.noPylong_of_log2 hc.2)),mM h λ_ _=>.int⟩
theorem bj (h:j ≠ 0):bZ X (binaryOp .Mod) (.int i) (.int j) (.int (i.fmod j)):=⟨_,se,mM h λ_ _=>.int⟩
theorem gY (h:vU i j):bZ X (binaryOp .Pow) (.int i) (.int j) (.int (i ^ j.toNat)):=⟨_,tR,mM h λ_ _=>.int⟩
theorem pV:bZ X (compareOp .Lt) (.int i) (.int j) (.bl (decide (i < j))):=⟨_,vz,jG λ_ _=>.bl⟩
theorem lV:bZ X (compareOp .LtE) (.int i) (.int j) (.bl (decide (i<=j))):=⟨_,vY,jG λ_ _=>.bl⟩
theorem q9:bZ X (compareOp .Gt) (.int i) (.int j) (.bl (decide (j < i))):=⟨_,v9,jG λ_ _=>.bl⟩
theorem qN:bZ X (compareOp .GtE) (.int i) (.int j) (.bl (decide (j<=i))):=⟨_,vy,jG λ_ _=>.bl⟩
theorem cO:bZ X (compareOp .Eq) (.int i) (.int j) (.bl (decide (i=j))):=⟨_,sL,λ_ v w H Q _ d1 d2 k=>by
 cases d1
 cases d2
 exact ⟨rfl,by rw [show decide (V.int i=V.int j)=decide (i=j) by simp]; exact k _ H (ao.refl _) .bl⟩⟩
theorem iG:bZ X (compareOp .NotEq) (.int i) (.int j) (.bl (!decide (i=j))):=⟨_,sW,λ_ v w H Q _ d1 d2 k=>by
 cases d1
 cases d2
 exact ⟨rfl,by rw [show decide (V.int i=V.int j)=decide (i=j) by simp]; exact k _ H (ao.refl _) .bl⟩⟩
theorem sE (h:PE X a (dE X.K C τ (.d (.int i)))):PE X (.UnaryOp .USub a pos) (dE X.K C τ (.d (.int (-i)))):=peW (vg t6 h) λσ H Q q=>by
 obtain ⟨A,H₀,B,S,k⟩:=eH q
 refine ba S λv H1 e1 d1=>?_
 cases d1
 exact ⟨i,rfl,k _ H1 e1 .int⟩
theorem qi {e:Expr}:PE X e λ_ _ _=>False:=λ_ _ _ _ _ _ h=>h.elim
theorem pw_no {e:Expr}:PW X e λ_ _ _=>False:=λ_ _ _ _ _ _ _ h=>h.elim
variable {p q:Bool} {c:Expr} {rest:List Expr}
theorem cy {op} {s:Sl} (h:PE X a (dE X.K C τ s)):PE X (.BoolOp op [a] pos) (dE X.K C τ s):=ud h
theorem bh (ha:PE X a (dE X.K C τ (.d (.bl p)))) (hb:p=true->PE X (.BoolOp .And (b :: rest) pos) (dE X.K C τ (.d (.bl q)))):PE X (.BoolOp .And (a :: b :: rest) pos) (dE X.K C τ (.d (.bl (p && q)))):=by
 cases p with
 | false=>
   refine peW (pB ha qi) λσ H Q z=>?_
   obtain ⟨A,H₀,B,S,k⟩:=eH z
   exact ba S λv H' e d=>by cases d; exact ⟨_,rfl,k _ H' e .bl⟩
 | true=>
   refine peW (pB ha (hb rfl)) λσ H Q z=>?_
   obtain ⟨A,H₀,B,S,k⟩:=eH z
   exact ba S λv H' e d=>by cases d; exact ⟨_,rfl,ba (S.mono e) λv H2 e2 d2=>k v H2 (e.trans e2) d2⟩
theorem vj (ha:PE X a (dE X.K C τ (.d (.bl p)))):PE X (.UnaryOp .Not a pos) (dE X.K C τ (.d (.bl (!p)))):=peW (tV ha) λσ H Q z=>by
 obtain ⟨A,H₀,B,S,k⟩:=eH z
 exact ba S λv H' e d=>by cases d; exact ⟨_,rfl,k _ H' e .bl⟩
theorem mD (ha:PT X a (dT X.K τ p)):PW X (.BoolOp .And [a] pos) (dT X.K τ p):=pw_and1 ha
theorem bC (ha:PT X a (dT X.K τ p)):PW X (.BoolOp .Or [a] pos) (dT X.K τ p):=pw_or1 ha
theorem pH (ha:PT X a (dT X.K τ p)) (hb:p=true->PW X (.BoolOp .And (b :: rest) pos) (dT X.K τ q)):PW X (.BoolOp .And (a :: b :: rest) pos) (dT X.K τ (p && q)):=by
 cases p with
 | false=>exact pwW (pw_and ha pw_no) λσ H Q ⟨A,H₀,B,S,k⟩=>⟨A,H₀,B,S,λH' e=>oj (k H' e)⟩
 | true=>exact pwW (pw_and ha (hb rfl)) λσ H Q ⟨A,H₀,B,S,k⟩=>⟨A,H₀,B,S,λH' e=>mz (⟨A,H₀,B,S.mono e,λH2 e2=>k H2 (e.trans e2)⟩)⟩
theorem a8 (ha:PT X a (dT X.K τ p)) (hb:p=false->PW X (.BoolOp .Or (b :: rest) pos) (dT X.K τ q)):PW X (.BoolOp .Or (a :: b :: rest) pos) (dT X.K τ (p || q)):=by
 cases p with
 | true=>exact pwW (pw_or ha pw_no) λσ H Q ⟨A,H₀,B,S,k⟩=>⟨A,H₀,B,S,λH' e=>mz (k H' e)⟩
 | false=>exact pwW (pw_or ha (hb rfl)) λσ H Q ⟨A,H₀,B,S,k⟩=>⟨A,H₀,B,S,λH' e=>oj (⟨A,H₀,B,S.mono e,λH2 e2=>k H2 (e.trans e2)⟩)⟩
theorem aK (ha:PT X a (dT X.K τ p)):PT X (.UnaryOp .Not a pos) (dT X.K τ (!p)):=ptW (tK ha) λσ H Q ⟨A,H₀,B,S,k⟩=>⟨A,H₀,B,S,λH' e=>k H' e⟩
theorem pK {s:Sl} (hc:PT X c (dT X.K τ p)) (ha:p=true->PE X a (dE X.K C τ s)) (hb:p=false->PE X b (dE X.K C τ s)):PE X (.IfExp c a b pos) (dE X.K C τ s):=by
 have fin:∀ {σ H H' Q} {A:Addr->Prop} {H₀ B},Sta X.K A H₀ τ B σ H->(∀ v H' bs,ao H H'->Fr H H' bs->cj X.K (hd H' λb=>vw C A B b\/b ∈ bs) H' (some v) bs s->Q v H')->ao H H'->dE X.K C τ s σ H' Q:=λS k e=>
   ⟨_,_,_,S.mono e,λv H2 bs e2 hf h=>k v H2 bs (e.trans e2) (λb hb=>⟨e.free (hf b hb).1,(hf b hb).2⟩) h⟩
 cases p with
 | true=>exact peW (k8 hc (ha rfl) qi) λσ H Q ⟨A,H₀,B,S,k⟩=>⟨A,H₀,B,S,λH' e=>mz (fin S k e)⟩
 | false=>exact peW (k8 hc qi (hb rfl)) λσ H Q ⟨A,H₀,B,S,k⟩=>⟨A,H₀,B,S,λH' e=>oj (fin S k e)⟩
theorem ie {op op':CmpOp} (ha:PE X a (dE X.K C τ (.d x))) (hb:PE X b (dE X.K C τ (.d y))) (hc:PE X c (dE X.K C τ (.d z))) (h1:bZ X (compareOp op) x y (.bl p)) (h2:bZ X (compareOp op') y z (.bl q))
   (hm:lastMarks [op,op'] [b,c]=false:=by with_unfolding_all rfl):PE X (.Compare a [op,op'] [b,c] pos) (dE X.K C τ (.d (.bl (p && q))))/\(C=false->PT X (.Compare a [op,op'] [b,c] pos) (dT X.K τ (p && q))):=by
 obtain ⟨r,o1,k1⟩:=h1
 obtain ⟨r',o2,k2⟩:=h2
 have key:∀ σ H Q,dE X.K C τ (.d (.bl (p && q))) σ H Q->mC r r' (dE X.K C τ (.d x)) (dE X.K C τ (.d y)) (dE X.K C τ (.d z)) σ H Q:=λσ H Q h=>by
   obtain ⟨A,H₀,B,S,k⟩:=eH h
   refine ba S λv H1 e1 d1=>ba (S.mono e1) λw H2 e2 d2=>k1 (vw C A B) v w H2 _ ((S.mono e1).mono e2).vd (d1.mono (aB e2 λ_ z=>z)) d2 λu H3 e3 d3=>?_
   cases d3
   refine ⟨p,rfl,?_⟩
   cases p with
   | false=>exact oj (k _ H3 (e1.trans (e2.trans e3)) .bl)
   | true=>exact mz (ba (((S.mono e1).mono e2).mono e3) λw' H4 e4 d4=>k2 (vw C A B) w w' H4 Q ((((S.mono e1).mono e2).mono e3).mono e4).vd (d2.mono (aB (e3.trans e4) λ_ z=>z)) d4 λu H5 e5 d5=>k u H5 (e1.trans (e2.trans (e3.trans (e4.trans e5)))) d5)
 exact ⟨peW (qE o1 o2 ha hb hc hm) key,λhC=>by subst hC; exact ptW (qY o1 o2 ha hb hc hm) (pM key)⟩
theorem ag:PA X [] (dA X.K C τ []):=paW fJ λσ H Q ⟨A,H₀,B,S,k⟩=>k [] H (ao.refl _) .nil
theorem aa {ds:List D} (ha:PE X e (dE X.K C τ (.d x))) (hr:PA X es (dA X.K C τ ds)) (hs:starEach (e :: es) X.env=(false,eval e X.env) :: starEach es X.env:=by rfl):PA X (e :: es) (dA X.K C τ (x :: ds)):=paW (bP ha hr hs) λσ H Q ⟨A,H₀,B,S,k⟩=>
 ba S λv H1 e1 d1=>cY (S.mono e1) λvs H2 e2 d2=>k _ H2 (e1.trans e2) (.cons (d1.mono (aB e2 λ_ z=>z)) d2)
theorem bH {ds:List D} {m} (h:PA X es (dA X.K C τ ds)) (hl:Nat.ble ds.length 1000=true:=by rfl):PE X (.Tuple es m pos) (dE X.K C τ (.d (.tup ds))):=peW (tY h) λσ H Q q=>by
 obtain ⟨A,H₀,B,S,k⟩:=eH q
 refine cY S λvs H1 e1 d1=>⟨by rw [d1.length]; exact Nat.le_of_lt (jz (Nat.le_of_ble_eq_true hl)),λp hp=>k _ _ (e1.trans (aw hp _)) ?_⟩
 exact .tup (SqT.of (kl (S.mono e1).vd hp)) (d1.mono (aB (aw hp _) λ_ z=>z))
theorem bG {ds:List D} (h:PA X es (dA X.K C τ ds)) (hl:Nat.ble ds.length 1000=true:=by rfl):PE X (.List es pos) (dE X.K C τ (.o ds)):=peW (uF h) λσ H Q ⟨A,H₀,B,S,k⟩=>
 cY S λvs H1 e1 d1=>⟨by rw [d1.length]; exact Nat.le_of_lt (jz (Nat.le_of_ble_eq_true hl)),λp hp=>k _ _ [p] (e1.trans (aw hp _)) (λb hb=>by
   obtain rfl:=List.mem_singleton.mp hb
   exact ⟨e1.free hp,_,aV⟩) ⟨p,vs,rfl,rfl,aV,d1.mono λb o z=>by
     obtain ⟨z1,z2⟩:=aD.mp z
     refine aD.mpr ⟨λy=>?_,aw hp _ _ _ z2⟩
     rcases y with y | y
     · exact z1 y
     · rw [List.mem_singleton.mp y] at z2; rw [hp] at z2; cases z2⟩⟩
end
noncomputable def spD (K:PySem.W.Frag) (Φ:List D->Sl->Prop):Sp:=λvs H Q _=>∃ A ds s,(∀ b,A b->∃ o,H b=some o)/\ax K (hd H A) vs ds/\Φ ds s /\
 ∀ v H' bs,ao H H'->Fr H H' bs->cj K (hd H' λb=>A b\/b ∈ bs) H' (some v) bs s->Q v H'
noncomputable def Cal (P:Program) (w:World) (K:PySem.W.Frag) (mg:Str->Option Value) (base:Heap) (k:Nat) (n:Str) (Φ:List D->Sl->Prop):Prop:=
 ∃ f fd ps,aJ P w K mg base CX0 k f fd ps (spD K Φ)/\mg n=some (.ref f)/\PySem.W.keepIn K (.ref f)=true/\Binds K fd ps []
theorem Cal.mono {P:Program} {w:World} {K:PySem.W.Frag} {mg:Str->Option Value} {base:Heap} {j k:Nat} {n:Str} {Φ:List D->Sl->Prop} (c:Cal P w K mg base j n Φ) (h:j<=k):Cal P w K mg base k n Φ:=
 let ⟨f,fd,ps,F,r⟩:=c; ⟨f,fd,ps,F.mono h,r⟩
noncomputable def aj:List Str:=["len","abs","max","min","int","bool","list","tuple","str","isinstance","range","enumerate","all","zip","sorted","sum","any","reversed"]
structure Bk (X:Cx) (k:Nat):Prop where
 room:cZ k X.A
 calm:X.calm=true
 blt:∀ x ∈ aj,X.mg x=none
 po:PassesOwn (model X.prog X.w) X.A X.env X.xe
section
variable {X:Cx} {C:Bool} {τ:List Sl} {x y z:D} {a b e:Expr} {es:List Expr} {pos p:Pos} {k:Nat} {s:Sl} {ds:List D} {i j:Int}
theorem x_call {n:Str} {Φ:List D->Sl->Prop} (B:Bk X k) (c:Cal X.prog X.w X.K X.mg X.base k n Φ) (ha:PA X (e :: es) (dA X.K C τ ds)) (h:Φ ds s) (hg:Gl X n:=by rfl) (hdb:(n == ("__debug__" : Str))=false:=by decide)
   (he:starEach (e :: es) X.env=(false,eval e X.env) :: starEach es X.env:=by rfl) (hpl:(backTo pos (starEach es X.env)).any (·.1)=false:=by rfl):PE X (.Call (.Name n p) (e :: es) [] pos) (dE X.K C τ s):=by
 obtain ⟨f,fd,ps,F,hm,hk,hb⟩:=c
 refine peW (nG F B.room hg hm hk hb .nil wz ha hdb he hpl) λσ H Q ⟨A,H₀,B,S,q⟩=>cY S λvs H1 e1 d1=>?_
 rw [List.append_nil]
 exact ⟨vw C A B,ds,s,(S.mono e1).vd,d1,h,λv H' bs e2 hf h2=>q v H' bs (e1.trans e2) (λb hb=>⟨e1.free (hf b hb).1,(hf b hb).2⟩) h2⟩
noncomputable def iW (X:Cx) (f:Value) (ds:List D) (s:Sl):Prop:=∃ r:List V->Hp->VK->Prop,dN X f r /\
 ∀ (M:Addr->Prop) (vs:List V) (H:Hp) (Q:VK),(∀ b,M b->∃ o,H b=some o)->ax X.K (hd H M) vs ds->(∀ u H' bs,ao H H'->Fr H H' bs->cj X.K (hd H' λb=>M b\/b ∈ bs) H' (some u) bs s->Q u H')->r vs H Q
theorem mK {r:List V->Hp->VK->Prop} (hr:∀ (M:Addr->Prop) (vs:List V) (H:Hp) (Q:VK),(∀ b,M b->∃ o,H b=some o)->ax X.K (hd H M) vs ds->(∀ u H' bs,ao H H'->Fr H H' bs->cj X.K (hd H' λb=>M b\/b ∈ bs) H' (some u) bs s->Q u H')->r vs H Q) :
   ∀ σ H Q,dE X.K C τ s σ H Q->tCB r (dA X.K C τ ds) σ H Q:=λσ H Q ⟨A,H₀,B,S,q⟩=>
 cY S λvs H1 e1 d1=>hr (vw C A B) vs H1 Q (S.mono e1).vd d1 λv H' bs e2 hf h2=>q v H' bs (e1.trans e2) (λb hb=>⟨e1.free (hf b hb).1,(hf b hb).2⟩) h2
theorem aW {n:Str} {id:String} (B:Bk X k) (ha:PA X (e :: es) (dA X.K C τ ds)) (c:iW X (.builtin id) ds s) (hn:n ∈ aj:=by decide) (hg:Gl X n:=by rfl) (hv:bootBuiltins n=some (.builtin id):=by decide +kernel) (h1:n ≠ "__name__":=by decide) (hdb:(n == ("__debug__" : Str))=false:=by decide)
   (he:starEach (e :: es) X.env=(false,eval e X.env) :: starEach es X.env:=by rfl) (hpl:(backTo pos (starEach es X.env)).any (·.1)=false:=by rfl):PE X (.Call (.Name n p) (e :: es) [] pos) (dE X.K C τ s):=by
 obtain ⟨r,h1,h2⟩:=c
 exact peW (eF h1 hg (B.blt _ hn) hv ha (by assumption) hdb he hpl) (mK h2)
theorem rD {n:Str} {T:String} (B:Bk X k) (ha:PA X (e :: es) (dA X.K C τ ds)) (c:iW X (.type T) ds s) (hn:n ∈ aj:=by decide) (hg:Gl X n:=by rfl) (hv:bootBuiltins n=some (.type T):=by decide +kernel) (h1:n ≠ "__name__":=by decide) (hdb:(n == ("__debug__" : Str))=false:=by decide)
   (he:starEach (e :: es) X.env=(false,eval e X.env) :: starEach es X.env:=by rfl) (hpl:(backTo pos (starEach es X.env)).any (·.1)=false:=by rfl):PE X (.Call (.Name n p) (e :: es) [] pos) (dE X.K C τ s):=by
 obtain ⟨r,h1,h2⟩:=c
 exact peW (oB h1 hg (B.blt _ hn) hv ha (by assumption) hdb he hpl) (mK h2)
theorem gA {K:PySem.W.Frag} {H:Hp} {M:Addr->Prop} {v:V} (h:Den K (hd H M) v x):cj K (hd H λb=>M b\/b ∈ ([]:List Addr)) H (some v) [] (.d x):=⟨rfl,v,rfl,h.mono (aB (ao.refl _) λ_ z=>z.elim id λz=>nomatch z)⟩
theorem c8 {H H':Hp}:Fr H H' []:=λ_ z=>nomatch z
theorem bY {xs:List D}:iW X (.builtin "len") [.lst xs] (.d (.int xs.length)):=⟨_,gr,λM vs H Q _ d q=>by
 cases d with
 | cons d r=>
   cases r
   cases d with
   | lst h r=>
     refine ⟨_,_,rfl,.inl (aL aR h),?_⟩
     rw [r.length]
     exact q _ H [] (ao.refl _) c8 (gA .int)⟩
theorem bU {xs:List D}:iW X (.builtin "len") [.tup xs] (.d (.int xs.length)):=⟨_,gr,λM vs H Q _ d q=>by
 cases d with
 | cons d r=>
   cases r
   cases d with
   | tup h r=>
     refine ⟨_,_,rfl,.inr (bc aR h),?_⟩
     rw [r.length]
     exact q _ H [] (ao.refl _) c8 (gA .int)⟩
noncomputable def rY (i:Int):Int:=if i < 0 then -i else i
theorem lP:iW X (.builtin "abs") [.int i] (.d (.int (rY i))):=⟨_,qg,λM vs H Q _ d q=>by
 cases d with
 | cons d r=>
   cases r
   cases d
   exact ⟨_,rfl,q _ H [] (ao.refl _) c8 (gA .int)⟩⟩
theorem wG (hc:X.calm=true):iW X (.builtin "max") [.int i,.int j] (.d (.int (if j > i then j else i))):=⟨_,oy hc,λM vs H Q _ d q=>by
 cases d with
 | cons d r=>
   cases r with
   | cons d' r=>
     cases r
     cases d
     cases d'
     exact ⟨_,_,rfl,q _ H [] (ao.refl _) c8 (gA .int)⟩⟩
theorem vC {c:Bool}:iW X (.type "int") [.bl c] (.d (.int (if c then 1 else 0))):=⟨_,oX,λM vs H Q _ d q=>by
 cases d with
 | cons d r=>
   cases r
   cases d
   exact .inr ⟨_,rfl,q _ H [] (ao.refl _) c8 (gA .int)⟩⟩
theorem j4 {K:PySem.W.Frag} {H:Hp} {M:Addr->Prop} {p:Addr} {vs:List V} {xs:List D} (hp:H p=none) (d:ax K (hd H M) vs xs) :
   ao H (upd H p (.lst vs))/\Fr H (upd H p (.lst vs)) [p]/\cj K (hd (upd H p (.lst vs)) λb=>M b\/b ∈ [p]) (upd H p (.lst vs)) (some (.ref p)) [p] (.o xs):=
 ⟨aw hp _,λb hb=>by
   obtain rfl:=List.mem_singleton.mp hb
   exact ⟨hp,_,aV⟩,p,vs,rfl,rfl,aV,d.mono λb o z=>by
     obtain ⟨z1,z2⟩:=aD.mp z
     refine aD.mpr ⟨λy=>?_,aw hp _ _ _ z2⟩
     rcases y with y | y
     · exact z1 y
     · rw [List.mem_singleton.mp y] at z2; rw [hp] at z2; cases z2⟩
theorem qT {xs:List D}:iW X (.type "list") [.lst xs] (.o xs):=⟨_,kn,λM vs H Q _ d q=>by
 cases d with
 | cons d r=>
   cases r
   cases d with
   | lst h r=>
     refine ⟨_,_,rfl,.inl (aL aR h),λp hp=>?_⟩
     obtain ⟨z1,z2,z3⟩:=j4 (K:=X.K) (M:=M) hp r
     exact q _ _ [p] z1 z2 z3⟩
theorem mh {K:PySem.W.Frag} {H:Hp} {vs:List V} {ds:List D} {i:Int} {d:D} (r:ax K H vs ds) (h:atI ds i=some d):∃ v,atI vs i=some v/\Den K H v d:=by
 unfold atI at h ⊢
 rw [r.length]
 cases e:ixN ds.length i with
 | none=>rw [e] at h; cases h
 | some j=>rw [e] at h; exact r.get h
noncomputable def tS (X:Cx) (x y z:D):Prop:=∃ r:R2,IxR X r /\
 ∀ (M:Addr->Prop) (v w:V) (H:Hp) (Q:VK),(∀ b,M b->∃ o,H b=some o)->Den X.K (hd H M) v x->Den X.K (hd H M) w y->(∀ u H',ao H H'->Den X.K (hd H' M) u z->Q u H')->r v w H Q
theorem ar (ha:PE X a (dE X.K C τ (.d x))) (hb:PE X b (dE X.K C τ (.d y))) (ho:tS X x y z) (hs:kv b:=by exact λ_ _=>rfl):PE X (.Subscript a b pos) (dE X.K C τ (.d z)):=by
 obtain ⟨r,h1,h2⟩:=ho
 exact peW (sM h1 ha hb hs) (two h2)
theorem aP {xs:List D} (h:atI xs i=some z):tS X (.lst xs) (.int i) z:=⟨_,nF,λM v w H Q _ d1 d2 q=>by
 cases d2
 cases d1 with
 | lst hs r=>
   obtain ⟨v,e,d⟩:=mh r h
   exact ⟨_,_,_,_,rfl,rfl,aL aR hs,e,q _ H (ao.refl _) d⟩⟩
theorem ak {xs:List D} (h:atI xs i=some z):tS X (.tup xs) (.int i) z:=⟨_,uG,λM v w H Q _ d1 d2 q=>by
 cases d2
 cases d1 with
 | tup hs r=>
   obtain ⟨v,e,d⟩:=mh r h
   exact ⟨_,_,_,_,rfl,rfl,bc aR hs,e,q _ H (ao.refl _) d⟩⟩
theorem fb (n:Nat) {nm:Str} {xs:List D} (hb:PE X b (dE X.K false τ (.d (.int i)))) (hz:atI xs i=some z) (h:τ[n]?=some (.o xs):=by rfl) (hs:kv b:=by exact λ_ _=>rfl) (hN:X.N[n]?=some nm:=by rfl)
   (hv:Vis X.env.scope nm:=by first | exact Or.inl rfl | exact Or.inr (Or.inl rfl) | exact Or.inr (Or.inr rfl)) (hd:(nm == ("__debug__" : Str))=false:=by decide) (hcd:(nm == ("__classdict__" : Str))=false:=by decide):PE X (.Subscript (.Name nm p) b pos) (dE X.K C τ (.d z)):=
 peW (sM nF (cK (i:=n) hN hv hd hcd) hb hs) λσ H Q q=>by
   obtain ⟨A,H₀,B,S,k⟩:=eH q
   obtain ⟨l,vs,hb,e1,e2,d⟩:=S.sl n _ h
   refine ⟨_,slot_of e1,ba S λw H1 e3 d1=>?_⟩
   cases d1
   obtain ⟨v,e4,d4⟩:=mh d hz
   exact ⟨l,vs,i,v,rfl,rfl,SqL.of (e3 _ _ e2),e4,k v H1 e3 (d4.mono (aB e3 λ_ z=>iV z))⟩
noncomputable def dO (K:PySem.W.Frag) (τ:List Sl) (c:Option Int):TO:=λσ H Q=>∃ A H₀ B,Sta K A H₀ τ B σ H/\∀ H',ao H H'->Q c H'
theorem wx {e:Option Expr} {t t':TO} (h:PO X e t) (f:∀ σ H Q,t' σ H Q->t σ H Q):PO X e t':=λpins s σ H Q I q=>h pins s σ H Q I (f σ H Q q)
theorem i4:PO X none (dO X.K τ none):=wx r9 λσ H Q ⟨A,H₀,B,S,k⟩=>k H (ao.refl _)
theorem fD (h:PE X e (dE X.K false τ (.d (.int i)))):PO X (some e) (dO X.K τ (some i)):=wx (rB h) λσ H Q ⟨A,H₀,B,S,k⟩=>ba S λv H1 e1 d1=>by
 cases d1
 exact ⟨_,rfl,k H1 e1⟩
noncomputable def cutD (xs:List D) (lo hi:Option Int):List D:=(xs.drop (HT.sIx xs.length 0 lo)).take (HT.sIx xs.length xs.length hi - HT.sIx xs.length 0 lo)
theorem oz {lo hi:Option Expr} {l u:Option Int} {xs:List D} {p2:Pos} (ha:PE X a (dE X.K C τ (.d (.lst xs)))) (hl:PO X lo (dO X.K τ l)) (hu:PO X hi (dO X.K τ u)):PE X (.Subscript a (.Slice lo hi none p2) pos) (dE X.K C τ (.o (cutD xs l u))):=
 peW (qK sd ha hl hu) λσ H Q ⟨A,H₀,B,S,k⟩=>ba S λv H1 e1 d1=>⟨A,H₀,B,S.mono e1,λH2 e2=>⟨A,H₀,B,(S.mono e1).mono e2,λH3 e3=>by
   cases d1 with
   | @lst _ ws _ h r=>
     have h:=aL (e2.trans e3) (aL aR h)
     refine ⟨_,_,rfl,h,λp hp=>?_⟩
     have r:=r.mono (aB (e2.trans e3) λ_ z=>z)
     have r':ax X.K (hd H3 (vw C A B)) (oE ws l u) (cutD xs l u):=by
       unfold oE cutD
       rw [r.length]
       exact (r.drop _).take _
     obtain ⟨z1,z2,z3⟩:=j4 (K:=X.K) hp r'
     exact k _ _ [p] (e1.trans (e2.trans (e3.trans z1))) (λb hb=>⟨(e1.trans (e2.trans e3)).free (z2 b hb).1,(z2 b hb).2⟩) z3⟩⟩
inductive Ty where
 | int | bool | str | list | tuple
noncomputable def tyN:Ty->String
 | .int=>"int" | .bool=>"bool" | .str=>"str" | .list=>"list" | .tuple=>"tuple"
noncomputable def wF:D->String
 | .non=>"NoneType" | .bl _=>"bool" | .int _=>"int" | .str _=>"str" | .tup _=>"tuple" | .lst _=>"list" | .box _=>"dict"
noncomputable def cL:Ty->D->Bool
 | .int,.int _=>true
 | .int,.bl _=>true
 | .bool,.bl _=>true
 | .str,.str _=>true
 | .list,.lst _=>true
 | .tuple,.tup _=>true
 | _,_=>false
theorem tH (K:PySem.W.Frag) (d:D) (t:Ty):PySem.W.kitOne K (.type (wF d)) (.type (tyN t))=some (cL t d):=by
 cases d <;> cases t <;> (show PySem.W.kitOne K (.type _) (.type _)=some _) <;> with_unfolding_all rfl
theorem tw (t:Ty):dN X (.builtin "isinstance") (λxs H Q=>∃ G x d,ao G H/\xs=[x,.ty (tyN t)]/\Den X.K G x d/\Q (.bl (cL t d)) H):=by
 intro pins s σ H xs us Q I r q
 obtain ⟨G,x,d,sg,rfl,dx,q⟩:=q
 obtain ⟨u,w,rfl,rx,rt⟩:∃ u w,us=[u,w]/\RelV x u/\RelV (.ty (tyN t)) w:=by
   cases r with
   | cons r1 r=>cases r with
     | cons r2 r=>cases r; exact ⟨_,_,rfl,r1,r2⟩
 cases (show w=Value.type (tyN t) from rt)
 have kt:=tH X.K d t
 have fin:∀ tk,EP X pins σ Q (.bool (cL t d)) { s with toks:=tk }:=λtk=>⟨.bl _,H,I.tok _,rfl,q⟩
 cases dx with
 | non=>cases (show u=Value.none from rx); exact PySem.W.kia_one PySem.W.kitx_none I.kIn True.intro kt (λz=>nomatch z) fin
 | bl=>cases (show u=Value.bool _ from rx); exact PySem.W.kia_one PySem.W.kitx_bool I.kIn True.intro kt (λz=>nomatch z) fin
 | int=>obtain ⟨t',z⟩:=(show ∃ t,u=Value.int _ t from rx); cases z; exact PySem.W.kia_one PySem.W.kitx_int I.kIn True.intro kt (λz=>nomatch z) fin
 | str=>obtain ⟨t',z⟩:=(show ∃ t,u=Value.str _ t from rx); cases z; exact PySem.W.kia_one PySem.W.kitx_str I.kIn True.intro kt (λz=>nomatch z) fin
 | tup h r1=>
   cases (show u=Value.ref _ from rx)
   obtain ⟨its,_,⟨o,h1,h2,_⟩,_⟩:=I.tuple (bc sg h)
   exact PySem.W.kia_one PySem.W.kitx_tuple I.kIn ⟨o,h1,h2⟩ kt (λz=>nomatch z) fin
 | lst h r1=>
   cases (show u=Value.ref _ from rx)
   obtain ⟨its,_,⟨o,n,h1,h2,_⟩,_⟩:=I.list (aL sg h)
   exact PySem.W.kia_one PySem.W.kitx_list I.kIn ⟨o,h1,h2⟩ kt (λz=>nomatch z) fin
 | @box a x h=>
   cases (show u=Value.ref _ from rx)
   obtain ⟨o',h1,h2⟩:=x.isd h
   obtain ⟨o,h3,h4⟩:=h2 _ _ _ _ (I.hok a _ (sg _ _ h1))
   exact PySem.W.kia_one PySem.W.kitx_dict I.kIn ⟨o,h3,h4⟩ kt (λz=>nomatch z) fin
theorem br {n:Str} {q:Pos} (t:Ty) (B:Bk X k) (ha:PE X a (dE X.K false τ (.d x))) (hn:n ∈ aj:=by decide) (ht:bootBuiltins n=some (.type (tyN t)):=by decide +kernel) (hg:Gl X "isinstance":=by rfl) (hg':Gl X n:=by rfl) (h1:n ≠ "__name__":=by decide) (hdb:(n == ("__debug__" : Str))=false:=by decide)
   (he:starEach [a,.Name n q] X.env=(false,eval a X.env) :: starEach [.Name n q] X.env:=by rfl) (hpl:(backTo pos (starEach [.Name n q] X.env)).any (·.1)=false:=by rfl):PE X (.Call (.Name "isinstance" p) [a,.Name n q] [] pos) (dE X.K C τ (.d (.bl (cL t x)))):=by
 refine peW (eF (tw t) hg (B.blt _ (by decide)) (by decide +kernel) (bP ha (bP (nP (v:=.ty (tyN t)) hg' (B.blt _ hn) ht rfl h1 hdb) fJ) he) (by decide) (by decide) he hpl) λσ H Q q=>?_
 obtain ⟨A,H₀,B,S,k⟩:=eH q
 exact ba S λv H1 e1 d1=>⟨_,v,x,aR,rfl,d1,k _ H1 e1 .bl⟩
end
section
variable {K:PySem.W.Frag} {A:Addr->Prop} {H₀ H H':Hp} {τ:List Sl} {B:Nat->List Addr} {σ:L2.St}
theorem Sta.put (S:Sta K A H₀ τ B σ H) {i:Nat} {a:Addr} {xs ys:List D} {vs:List V} (hi:τ[i]?=some (.o xs)) (hB:B i=[a]) (d:ax K (hd H (own A B)) vs ys):Sta K A H₀ (τ.set i (.o ys)) B σ (upd H a (.lst vs)):=by
 have ha:own A B a:=.inr ⟨i,by rw [hB]; exact List.mem_singleton.mpr rfl⟩
 have ne:∀ b,b ≠ a->upd H a (.lst vs) b=H b:=λb h=>az h
 have sm:ao (hd H (own A B)) (hd (upd H a (.lst vs)) (own A B)):=λb o z=>by
   obtain ⟨z1,z2⟩:=aD.mp z
   exact aD.mpr ⟨z1,by rw [ne b (λe=>z1 (e ▸ ha))]; exact z2⟩
 have f0:H₀ a=none:=S.fr i a (by rw [hB]; exact List.mem_singleton.mpr rfl)
 have hs:ao H₀ (upd H a (.lst vs)):=λb o z=>by rw [ne b (λe=>by rw [e,f0] at z; cases z)]; exact S.same b o z
 refine ⟨hs,by rw [List.length_set,S.len],λj t hj=>?_,S.fr,S.uq,S.ad,λj b hb=>?_⟩
 · by_cases ej:j=i
   · subst ej
     have hl:=(List.getElem?_eq_some_iff.mp hi).1
     rw [List.getElem?_set_self hl] at hj
     cases hj
     obtain ⟨a',vs',e1,e2,_,_⟩:=S.sl j _ hi
     rw [hB] at e1
     cases e1
     exact ⟨a,vs,hB,e2,aV,d.mono sm⟩
   · rw [List.getElem?_set_ne (λz=>ej z.symm)] at hj
     have q:=S.sl j t hj
     have off:∀ b ∈ B j,b ≠ a:=λb hb e=>ej (S.uq j i a (e ▸ hb) (by rw [hB]; exact List.mem_singleton.mpr rfl))
     cases t with
     | un=>exact q
     | d x=>obtain ⟨z,u,e,d⟩:=q; exact ⟨z,u,e,d.mono sm⟩
     | o zs=>
       obtain ⟨c,ws,z1,z2,z3,z4⟩:=q
       exact ⟨c,ws,z1,z2,by rw [ne c (off c (by rw [z1]; exact List.mem_singleton.mpr rfl))]; exact z3,z4.mono sm⟩
     | n t=>
       obtain ⟨z0,u,z1,z2⟩:=q
       exact ⟨z0,u,z1,z2.frame sm λb hb=>ne b (off b hb)⟩
     | x E=>
       obtain ⟨c,o,z1,z2,z3,z4⟩:=q
       exact ⟨c,o,z1,z2,by rw [ne c (off c (by rw [z1]; exact List.mem_singleton.mpr rfl))]; exact z3,E.mono sm z4⟩
 · by_cases e:b=a
   · subst e; exact ⟨_,aV⟩
   · rw [ne b e]; exact S.bd j b hb
theorem Sta.fz (S:Sta K A H₀ τ B σ H) {i:Nat} {s:Sl} {x:D} (hi:τ[i]?=some s) (hx:fzD s=some x):Sta K A H₀ (τ.set i (.d x)) (upB B i []) σ H:=
 S.less (λ_ z=>nomatch z) λG g hv=>by
   obtain ⟨u,e,d⟩:=(S.sl i s hi).den (G':=G) g (λb hb o ho=>hv b o hb (λz=>nomatch z) ho) hx
   exact ⟨rfl,u,e,d⟩
end
section
variable {X:Cx} {C:Bool} {τ:List Sl} {x y z:D} {a b e c:Expr} {es:List Expr} {pos p:Pos} {k:Nat} {s:Sl} {ds:List D} {N:Po} {st:Stmt} {rest body els:List Stmt}
theorem aX (h:N.nx τ):PSs X [] (dS X.K τ N):=oG rF λD σ H ⟨A,H₀,B,S,M⟩=>M.nx τ B σ H h S
theorem bu {M:List Sl->Prop} (h1:PS X st (dS X.K τ { N with nx:=M })) (h2:∀ τ',M τ'->PSs X rest (dS X.K τ' N)):PSs X (st :: rest) (dS X.K τ N):=by
 have h:PSs X rest λD σ H=>∃ τ',M τ'/\dS X.K τ' N D σ H:=λpins s σ H D I ⟨τ',m,q⟩=>h2 τ' m pins s σ H D I q
 exact oG (pq h1 h) λD σ H ⟨A,H₀,B,S,Me⟩=>⟨A,H₀,B,S,λτ' B' σ' H' m S'=>⟨τ',m,A,H₀,B',S',Me⟩,Me.bk,Me.ct,Me.rt,Me.xc⟩
theorem gC (i:Nat) {s:Sl} {x:D} (h:PSs X rest (dS X.K (τ.set i (.d x)) N)) (hi:τ[i]?=some s:=by rfl) (hx:fzD s=some x:=by rfl):PSs X rest (dS X.K τ N):=oG h λD σ H ⟨A,H₀,B,S,Me⟩=>⟨A,H₀,_,S.fz hi hx,Me⟩
theorem aE (i:Nat) {n:Str} {p:Pos} (hN:X.N.Nodup) (he:PE X e (dE X.K true τ s)) (hr:PSs X rest (dS X.K (τ.set i s) N)) (hi:X.N[i]?=some n:=by rfl) (hx:Loc X.env.scope n:=by first | exact .inl rfl | exact .inr rfl) (hs:swapsWith e (some (.Name n p)) pos.line X.env=pure false:=by rfl)
   (hf:X.fn n=true\/X.env.scope.names.lookup n=some .local:=by first | exact .inl rfl | exact .inr rfl | assumption):PSs X (.Assign [.Name n p] e pos :: rest) (dS X.K τ N):=
 bu (M:=(·=τ.set i s)) (psW (ue hN hi hx he hs hf) λD σ H ⟨A,H₀,B,S,Me⟩=>⟨A,H₀,B,S,λv H' bs e hf h=>Me.nx _ _ _ _ rfl (S.set e hf h)⟩) λ_ e=>e ▸ hr
theorem pz (he:PE X e (dE X.K true τ s)) (hr:PSs X rest (dS X.K τ N)) (hs:swapsWith e none pos.line X.env=pure false:=by rfl):PSs X (.Expr e pos :: rest) (dS X.K τ N):=
 bu (M:=(·=τ)) (psW (il he hs) λD σ H ⟨A,H₀,B,S,Me⟩=>⟨A,H₀,B,S,λv H' bs e hf h=>Me.nx _ _ _ _ rfl (S.mono e)⟩) λ_ e=>e ▸ hr
theorem au (he:PE X e (dE X.K false τ s)) (h:N.rt s):PSs X (.Return (some e) pos :: rest) (dS X.K τ N):=
 bu (M:=λ_=>False) (psW (kA he) λD σ H ⟨A,H₀,B,S,Me⟩=>⟨A,H₀,B,S,λv H' bs e hf q=>Me.rt v H' bs s h (S.same.trans e) (λb hb=>⟨S.same.free (hf b hb).1,(hf b hb).2⟩) q⟩) λ_ e=>e.elim
theorem pA (i:Nat) {n:Str} (h:N.rt s) (hi:τ[i]?=some s:=by rfl) (h0:s ≠ .un:=by exact nofun) (hN:X.N[i]?=some n:=by rfl) (hv:Vis X.env.scope n:=by first | exact Or.inl rfl | exact Or.inr (Or.inl rfl) | exact Or.inr (Or.inr rfl))
   (hd:(n == ("__debug__" : Str))=false:=by decide) (hcd:(n == ("__classdict__" : Str))=false:=by decide):PSs X (.Return (some (.Name n p)) pos :: rest) (dS X.K τ N):=
 bu (M:=λ_=>False) (psW (kA (cK hN hv hd hcd)) λD σ H ⟨A,H₀,B,S,Me⟩=>by
   have q:=S.sl i s hi
   obtain ⟨u,e⟩:∃ u,(σ[i]?).join=some u:=by
     cases s with
     | un=>exact absurd rfl h0
     | d x=>obtain ⟨_,u,e,_⟩:=q; exact ⟨u,e⟩
     | o xs=>obtain ⟨_,_,_,e,_⟩:=q; exact ⟨_,e⟩
     | n t=>obtain ⟨_,u,e,_⟩:=q; exact ⟨u,e⟩
     | x E=>obtain ⟨_,_,_,e,_⟩:=q; exact ⟨_,e⟩
   rw [e] at q
   exact ⟨u,slot_of e,Me.rt u H (B i) s h S.same (λb hb=>⟨S.fr i b hb,S.bd i b hb⟩) (q.mono (aB (ao.refl _) λb z=>z.elim .inl λz=>.inr ⟨i,z⟩) (ao.refl _))⟩) λ_ e=>e.elim
theorem sP {H H':Hp} {σ:L2.St} {D:Ends} {A:Addr->Prop} {H₀:Hp} {B:Nat->List Addr} (S:Sta X.K A H₀ τ B σ H) (Me:Meets X.K A H₀ N D) (e:ao H H'):dS X.K τ N D σ H':=⟨A,H₀,B,S.mono e,Me⟩
theorem wW {t:Bool} (hc:PT X c (dT X.K τ t)) (ha:t=true->PSs X body (dS X.K τ N)) (hb:t=false->PSs X els (dS X.K τ N)):PS X (.If c body els pos) (dS X.K τ N):=by
 cases t with
 | true=>exact psW (sT hc (ha rfl) jN) λD σ H ⟨A,H₀,B,S,Me⟩=>⟨A,H₀,B,S,λH' e=>mz (sP S Me e)⟩
 | false=>exact psW (sT hc jN (hb rfl)) λD σ H ⟨A,H₀,B,S,Me⟩=>⟨A,H₀,B,S,λH' e=>oj (sP S Me e)⟩
theorem hZ {t:Bool} {M:List Sl->Prop} (hc:PT X c (dT X.K τ t)) (ha:t=true->PSs X body (dS X.K τ { N with nx:=M })) (hb:t=false->PSs X els (dS X.K τ { N with nx:=M })) (hr:∀ τ',M τ'->PSs X rest (dS X.K τ' N)):PSs X (.If c body els pos :: rest) (dS X.K τ N):=
 bu (wW hc ha hb) hr
theorem aU {t:Bool} (hc:PT X c (dT X.K τ t)) (ha:t=true->PSs X body (dS X.K τ { N with nx:=λ_=>False })) (hr:t=false->PSs X rest (dS X.K τ N)):PSs X (.If c body [] pos :: rest) (dS X.K τ N):=by
 cases t with
 | true=>exact hZ (M:=λ_=>False) hc ha (λz=>nomatch z) λ_ z=>z.elim
 | false=>exact hZ (M:=(·=τ)) hc (λz=>nomatch z) (λ_=>aX rfl) λ_ e=>e ▸ hr rfl
theorem bQ {t:Bool} (hc:PT X c (dT X.K τ t)) (ht:t=false) (hr:PSs X rest (dS X.K τ N)):PSs X (.If c body [] pos :: rest) (dS X.K τ N):=aU hc (λz=>by rw [ht] at z; cases z) λ_=>hr
theorem n5 (i:Nat) {n:Str} {xs:List D} {ap cp:Pos} (he:PE X e (dE X.K true τ (.d x))) (hl:xs.length < 1000000) (hr:PSs X rest (dS X.K (τ.set i (.o (xs++[x]))) N)) (hi:τ[i]?=some (.o xs):=by rfl) (hN:X.N[i]?=some n:=by rfl)
   (hv:Vis X.env.scope n:=by first | exact Or.inl rfl | exact Or.inr (Or.inl rfl) | exact Or.inr (Or.inr rfl)) (hd:(n == ("__debug__" : Str))=false:=by decide) (hcd:(n == ("__classdict__" : Str))=false:=by decide)
   (hfew:((backTo cp (starEach [e] X.env)).all (λx=>!x.1) && (backToKw cp (keywordEach [] X.env)).all (λx=>x.1.isSome) && decide (([e]:List Expr).length + ([]:List Keyword).length + (if ([]:List Keyword).isEmpty then 0 else 1) < 30))=true:=by rfl)
   (hline:(ap.endLine == cp.line)=true:=by rfl) (hst:starEach [e] X.env=(false,eval e X.env) :: starEach [] X.env:=by rfl) (hpl:(backTo cp (starEach [] X.env)).any (·.1)=false:=by rfl)
   (hs:swapsWith (.Call (.Attribute (.Name n p) "append" ap) [e] [] cp) none pos.line X.env=pure false:=by rfl) (hbase:attributeBase (.Name n p) "append" X.env (eval (.Name n p) X.env)=eval (.Name n p) X.env:=by rfl) :
   PSs X (.Expr (.Call (.Attribute (.Name n p) "append" ap) [e] [] cp) pos :: rest) (dS X.K τ N):=
 bu (M:=(·=τ.set i (.o (xs++[x])))) (psW (il (sC PySem.F.plainAttrs_list PySem.F.slot_list_append PySem.F.type_list_append gJ (cK hN hv hd hcd) (bP he fJ hst) hbase hfew hline hst hpl) hs) λD σ H ⟨A,H₀,B,S,Me⟩=>by
   obtain ⟨l,vs,hb,e1,e2,d⟩:=S.sl i _ hi
   refine ⟨_,slot_of e1,.inl ⟨rfl,_,SqL.of e2⟩,ba S λv H1 e3 d1=>⟨l,vs,v,rfl,rfl,e3 _ _ e2,by rw [d.length]; exact Nat.lt_trans hl (by decide),?_⟩⟩
   exact Me.nx _ _ _ _ rfl ((S.mono e3).put hi hb ((d.mono (aB e3 λ_ z=>z)).append (.cons d1 .nil)))) λ_ e=>e ▸ hr
theorem nA {K:PySem.W.Frag} {H:Hp}:∀ {vs:List V} {ds:List D} {v:V} {d:D} (j:Nat),ax K H vs ds->Den K H v d->ax K H (vs.set j v) (ds.set j d)
 | _,_,_,_,_,.nil,_=>.nil
 | _,_,_,_,0,.cons _ r,h=>.cons h r
 | _,_,_,_,j + 1,.cons h' r,h=>.cons h' (nA j r h)
theorem jy (i:Nat) {n:Str} {xs:List D} {m:Int} {j:Nat} {ix:Expr} {sp:Pos} (hx:PE X ix (dE X.K false τ (.d (.int m)))) (he:PE X e (dE X.K true τ (.d x))) (hj:ixN xs.length m=some j) (hr:PSs X rest (dS X.K (τ.set i (.o (xs.set j x))) N)) (hi:τ[i]?=some (.o xs):=by rfl) (hN:X.N[i]?=some n:=by rfl)
   (hv:Vis X.env.scope n:=by first | exact Or.inl rfl | exact Or.inr (Or.inl rfl) | exact Or.inr (Or.inr rfl)) (hd:(n == ("__debug__" : Str))=false:=by decide) (hcd:(n == ("__classdict__" : Str))=false:=by decide)
   (hs:swapsWithSole [.Subscript (.Name n p) ix sp] e pos.line X.env=pure false:=by rfl) (hw:swappedStores [.Subscript (.Name n p) ix sp] e X.env=pure none:=by rfl) (h1:(assignEach [.Subscript (.Name n p) ix sp] X.env).map (·.2)=[assign (.Subscript (.Name n p) ix sp) X.env]:=by rfl)
   (ha:∀ v,assign (.Subscript (.Name n p) ix sp) X.env v=(do
     let ov <- holding [v] (eval (.Name n p) X.env)
     let iv <- holding [v,ov] (eval ix X.env)
     standAt sp
     holding [v,ov,iv] (setItem ov iv v)
     release [v,ov,iv] []):=by intro _; rfl) :
   PSs X (.Assign [.Subscript (.Name n p) ix sp] e pos :: rest) (dS X.K τ N):=
 bu (M:=(·=τ.set i (.o (xs.set j x)))) (psW (pG he (u5 (cK hN hv hd hcd) hx set_list ha) hs hw h1) λD σ H ⟨A,H₀,B,S,Me⟩=>ba S λv H1 e1 d1=>by
   obtain ⟨l,vs,hb,f1,f2,d⟩:=(S.mono e1).sl i _ hi
   refine ⟨_,slot_of f1,ba (S.mono e1) λw H2 e2 d2=>?_⟩
   cases d2
   refine ⟨l,vs,m,j,rfl,rfl,e2 _ _ f2,by rw [d.length]; exact hj,?_⟩
   exact Me.nx _ _ _ _ rfl (((S.mono e1).mono e2).put hi hb (nA j (d.mono (aB e2 λ_ z=>z)) (d1.mono (aB e2 λ_ z=>z))))) λ_ e=>e ▸ hr
end
end Hy
namespace Hy
open PySem PySem.Spec PyProof.Rows L2
open Ev (D Den ax aw bc aL Ite Itz Itv v5 tQ u4 nZ mq my aF d0 cR PTs b7 dJ)
noncomputable def Yl (K:PySem.W.Frag) (J:L2.It) (xs:List D) (G:Hp):Prop:=∀ H,ao G H->(∀ i,xs.length<=i->J.stop i H)/\∀ (i:Nat) (h:i < xs.length),J.go i H /\
 ∀ x H',J.yld i H x H'->ao H H'/\∀ M:Addr->Prop,(∀ b,M b->∃ o,H b=some o)->ao G (hd H M)->Den K (hd H' M) x xs[i]
noncomputable def dI (K:PySem.W.Frag) (τ:List Sl) (xs:List D):TI:=λσ H R=>∃ A H₀ B,Sta K A H₀ τ B σ H/\∀ J H',ao H H'->Yl K J xs (hd H' (own A B))->R J H'
noncomputable def dG (K:PySem.W.Frag) (τ:List Sl) (x:D) (τ':List Sl):TG:=λv σ H Q=>∃ A H₀ B,Sta K A H₀ τ B σ H/\Den K (hd H (own A B)) v x/\∀ σ' B',Sta K A H₀ τ' B' σ' H->Q σ' H
theorem piW {X:Cx} {tg e:Expr} {t t':TI} (h:PI X tg e t) (f:∀ σ H Q,t' σ H Q->t σ H Q):PI X tg e t':=λpins s σ H Q I q=>h pins s σ H Q I (f σ H Q q)
theorem pgW {X:Cx} {e:Expr} {t t':TG} (h:PG X e t) (f:∀ v σ H Q,t' v σ H Q->t v σ H Q):PG X e t':=λpins s σ H v u Q I r q=>h pins s σ H v u Q I r (f v σ H Q q)
section
variable {K:PySem.W.Frag} {G:Hp} {a:Addr} {vs:List V} {xs:List D}
theorem rf (h:SqL K G a vs) (r:ax K G vs xs):Yl K (Itl K a) xs G:=by
 intro H sg
 have hl:=r.length
 refine ⟨λi hi=>⟨vs,aL sg h,by omega⟩,λi hi=>?_⟩
 obtain ⟨v,hv,dv⟩:=r.get (List.getElem?_eq_getElem hi)
 refine ⟨⟨vs,v,aL sg h,hv⟩,λx H' ⟨e1,e2⟩=>?_⟩
 subst e1
 have ex:x=v:=by have:=e2 vs (aL sg h); rw [hv] at this; exact (Option.some.inj this).symm
 subst ex
 exact ⟨ao.refl _,λM _ sv=>dv.mono sv⟩
noncomputable def fN (lo:Int) (n:Nat):List D:=(List.range n).map λk=>D.int (lo + (k:Nat))
theorem aC (lo:Int) (n:Nat):(fN lo n).length=n:=by simp [fN]
theorem j0 (lo:Int) (n i:Nat) (h:i < (fN lo n).length):(fN lo n)[i]=.int (lo + (i:Nat)):=by simp [fN]
theorem mI (lo:Int) (n:Nat):Yl K (Itr lo n) (fN lo n) G:=by
 intro H sg
 refine ⟨λi hi=>by rw [aC] at hi; exact hi,λi hi=>?_⟩
 have hi':i < n:=by rw [aC] at hi; exact hi
 refine ⟨hi',λx H' ⟨e1,e2⟩=>?_⟩
 subst e1 e2
 refine ⟨ao.refl _,λM _ sv=>?_⟩
 rw [j0]
 exact .int
noncomputable def ji (xs:List D):List D:=(List.range xs.length).map λi=>D.tup [.int (i:Nat),xs.getD i .non]
theorem gf (xs:List D):(ji xs).length=xs.length:=by simp [ji]
theorem nB (xs:List D) (i:Nat) (h:i < (ji xs).length):(ji xs)[i]=.tup [.int (i:Nat),xs.getD i .non]:=by simp [ji]
theorem uD (h:SqL K G a vs) (r:ax K G vs xs):Yl K (Ite K a) (ji xs) G:=by
 intro H sg
 have hl:=r.length
 have el:=gf xs
 refine ⟨λi hi=>⟨vs,aL sg h,by omega⟩,λi hi=>?_⟩
 have hi':i < xs.length:=by omega
 obtain ⟨v,hv,dv⟩:=r.get (List.getElem?_eq_getElem hi')
 refine ⟨⟨vs,v,aL sg h,hv⟩,λy H' ⟨p,x,hp,e0,e1,e2⟩=>?_⟩
 subst e0 e1
 have ex:x=v:=by have:=e2 vs (aL sg h); rw [hv] at this; exact (Option.some.inj this).symm
 subst ex
 refine ⟨aw hp _,λM hM sv=>?_⟩
 rw [nB,show xs.getD i .non=xs[i] by simp [List.getD,hi']]
 exact .tup (SqT.of (kl hM hp)) (.cons .int (.cons (dv.mono (sv.trans (aB (aw hp _) λ_ z=>z))) .nil))
end
section
variable {X:Cx} {C:Bool} {τ:List Sl} {x y z:D} {a b e c tg it:Expr} {es:List Expr} {pos p q:Pos} {k:Nat} {s:Sl} {xs:List D} {N:Po} {st:Stmt} {rest body els:List Stmt}
theorem bo (h:PE X it (dE X.K true τ (.d (.lst xs)))) (hc:X.calm=true:=by first | rfl | assumption):PI X tg it (dI X.K τ xs):=piW (rm hc h) λσ H R ⟨A,H₀,B,S,k⟩=>ba S λv H1 e1 d1=>by
 cases d1 with
 | lst h r=>exact ⟨_,rfl,⟨_,aL aR h⟩,k _ H1 e1 (rf h r)⟩
theorem eK {n:Int} (B:Bk X k) (h:PE X a (dE X.K false τ (.d (.int n)))) (h1:-(2 ^ 62)<=n) (h2:n < 2 ^ 62) (hg:Gl X "range":=by rfl) (hs:starEach [a] X.env=[(false,eval a X.env)]:=by rfl):PI X tg (.Call (.Name "range" p) [a] [] pos) (dI X.K τ (fN 0 n.toNat)):=
 piW (jM (.inl B.calm) hg (B.blt _ (by decide)) (aa h ag hs) hs) λσ H R ⟨A,H₀,B,S,k⟩=>cY S λvs H1 e1 d1=>by
   cases d1 with
   | cons d r=>
     cases r
     cases d
     exact ⟨n,rfl,h1,h2,k _ H1 e1 (mI 0 _)⟩
theorem tD {m n:Int} (B:Bk X k) (h:PE X a (dE X.K false τ (.d (.int m)))) (h':PE X b (dE X.K false τ (.d (.int n)))) (h1:-(2 ^ 62)<=m/\m < 2 ^ 62/\-(2 ^ 62)<=n/\n < 2 ^ 62) (hg:Gl X "range":=by rfl) (hs:starEach [a,b] X.env=[(false,eval a X.env),(false,eval b X.env)]:=by rfl)
   (hs2:starEach [b] X.env=[(false,eval b X.env)]:=by rfl):PI X tg (.Call (.Name "range" p) [a,b] [] pos) (dI X.K τ (fN m (n - m).toNat)):=
 piW (og (.inl B.calm) hg (B.blt _ (by decide)) (aa h (aa h' ag hs2) (by rw [hs,hs2])) hs hs2) λσ H R ⟨A,H₀,B,S,k⟩=>cY S λvs H1 e1 d1=>by
   cases d1 with
   | cons d r=>
     cases r with
     | cons d' r=>
       cases r
       cases d
       cases d'
       exact ⟨m,n,rfl,h1,k _ H1 e1 (mI m _)⟩
theorem sQ {ts:List Expr} {m:Nat} {tp:Pos} (B:Bk X k) (h:PE X a (dE X.K true τ (.d (.lst xs)))) (hg:Gl X "enumerate":=by rfl) (hs:starEach [a] X.env=[(false,eval a X.env)]:=by rfl):PI X (.Tuple ts m tp) (.Call (.Name "enumerate" p) [a] [] pos) (dI X.K τ (ji xs)):=
 piW (nZ B.calm hg (B.blt _ (by decide)) (aa h ag hs) hs) λσ H R ⟨A,H₀,B,S,k⟩=>cY S λvs H1 e1 d1=>by
   cases d1 with
   | cons d r=>
     cases r
     cases d with
     | lst h r=>exact ⟨_,rfl,⟨_,aL aR h⟩,k _ H1 e1 (uD h r)⟩
theorem si (i:Nat) {n:Str} (hN:X.N.Nodup) (hi:X.N[i]?=some n:=by rfl) (hx:Loc X.env.scope n:=by first | exact .inl rfl | exact .inr rfl) (hf:X.fn n=true\/X.env.scope.names.lookup n=some .local:=by first | exact .inl rfl | exact .inr rfl | assumption):PG X (.Name n p) (dG X.K τ x (τ.set i (.d x))):=
 pgW (fY (i:=i) hN hi hx hf) λv σ H Q ⟨A,H₀,B,S,d,k⟩=>k _ _ (S.set (ao.refl _) (bs:=[]) (λ_ z=>nomatch z) (gA d))
theorem sD (i j:Nat) {n m:Str} {p2 pt:Pos} {md:Nat} (hc:X.calm=true) (hN:X.N.Nodup) (hi:X.N[i]?=some n:=by rfl) (hj:X.N[j]?=some m:=by rfl) (hx:Loc X.env.scope n:=by first | exact .inl rfl | exact .inr rfl) (hy:Loc X.env.scope m:=by first | exact .inl rfl | exact .inr rfl)
   (hf:X.fn n=true\/X.env.scope.names.lookup n=some .local:=by first | exact .inl rfl | exact .inr rfl | assumption) (hf':X.fn m=true\/X.env.scope.names.lookup m=some .local:=by first | exact .inl rfl | exact .inr rfl | assumption) :
   PG X (.Tuple [.Name n p,.Name m p2] md pt) (dG X.K τ (.tup [x,y]) ((τ.set i (.d x)).set j (.d y))):=by
 refine pgW (px hc (iH (fY (i:=i) hN hi hx hf) (iH (fY (i:=j) hN hj hy hf') mT))) λv σ H Q ⟨A,H₀,B,S,d,k⟩=>?_
 cases d with
 | tup h r=>
   cases r with
   | cons d1 r=>
     cases r with
     | cons d2 r=>
       cases r
       have S1:=S.set (i:=i) (ao.refl _) (bs:=[]) (λ_ z=>nomatch z) (gA d1)
       have sub:∀ b,own A (upB B i []) b->own A B b:=λb z=>z.elim .inl λ⟨j,z⟩=>(bz z).elim (λz=>nomatch z.2) λz=>.inr ⟨j,z.2⟩
       exact ⟨_,_,rfl,bc aR h,rfl,_,_,rfl,_,_,rfl,rfl,k _ _ (S1.set (i:=j) (ao.refl _) (bs:=[]) (λ_ z=>nomatch z) (gA (d2.mono (aB (ao.refl _) sub))))⟩
theorem Sta.base {K:PySem.W.Frag} {A:Addr->Prop} {H₀ H:Hp} {τ:List Sl} {B:Nat->List Addr} {σ:L2.St} (S:Sta K A H₀ τ B σ H):ao H₀ (hd H λb=>∃ i,b ∈ B i)/\Sta K A (hd H λb=>∃ i,b ∈ B i) τ B σ H:=by
 have s0:ao H₀ (hd H λb=>∃ i,b ∈ B i):=λb o h=>aD.mpr ⟨λ⟨i,z⟩=>(by rw [S.fr i b z] at h; cases h),S.same _ _ h⟩
 exact ⟨s0,aR,S.len,S.sl,λi b hb=>by
   cases e:hd H (λb=>∃ i,b ∈ B i) b with
   | none=>rfl
   | some o=>exact absurd ⟨i,hb⟩ (aD.mp e).1,S.uq,λb hb=>let ⟨o,q⟩:=S.ad b hb; ⟨o,s0 _ _ q⟩,S.bd⟩
theorem Sta.back {K:PySem.W.Frag} {A:Addr->Prop} {H₀ G H:Hp} {τ:List Sl} {B:Nat->List Addr} {σ:L2.St} (S:Sta K A G τ B σ H) (s:ao H₀ G) (ad:∀ b,A b->∃ o,H₀ b=some o):Sta K A H₀ τ B σ H:=
 ⟨s.trans S.same,S.len,S.sl,λi b hb=>s.free (S.fr i b hb),S.uq,ad,S.bd⟩
theorem qM {M:Nat->List Sl->Prop} {T:Nat->List Sl->List Sl} (B:Bk X k) (hi:PI X tg it (dI X.K τ xs)) (h0:M 0 τ) (hg:∀ i (h:i < xs.length) τ',M i τ'->PG X tg (dG X.K τ' xs[i] (T i τ')))
   (hb:∀ i,i < xs.length->∀ τ',M i τ'->PSs X body (dS X.K (T i τ') { N with nx:=M (i + 1),ct:=M (i + 1),bk:=N.nx })) (hn:∀ τ',M xs.length τ'->N.nx τ')
   (hs:∀ x,foldedSetIterable it X.env x=pure x:=by intro _; rfl):PS X (.For tg it body [] pos) (dS X.K τ N):=by
 have hg':PG X tg λv σ H Q=>∃ (i:Nat) (h:i < xs.length) (τ':List Sl),M i τ'/\dG X.K τ' xs[i] (T i τ') v σ H Q:=λpins s σ H v u Q I r ⟨i,h,τ',m,q⟩=>hg i h τ' m pins s σ H v u Q I r q
 have hb':PSs X body λD σ H=>∃ i τ',i < xs.length/\M i τ'/\dS X.K (T i τ') { N with nx:=M (i + 1),ct:=M (i + 1),bk:=N.nx } D σ H:=λpins s σ H D I ⟨i,τ',h,m,q⟩=>hb i h τ' m pins s σ H D I q
 refine psW (uA B.po hi hg' hb' hs) λD σ H ⟨A,H₀,B,S,Me⟩=>⟨A,H₀,B,S,λJ H1 e1 yl=>?_⟩
 obtain ⟨s0,S1⟩:=(S.mono e1).base
 have sub:∀ {H'},ao (hd H1 λb=>∃ i,b ∈ B i) H'->ao (hd H1 (own A B)) H':=λe=>(aB (ao.refl _) λ_ z=>.inr z).trans e
 refine ⟨λi m σ' H'=>m=xs.length - i/\i<=xs.length/\∃ τ' B',M i τ'/\Sta X.K A (hd H1 λb=>∃ i,b ∈ B i) τ' B' σ' H',⟨xs.length,rfl,Nat.zero_le _,τ,B,h0,S1⟩,?_⟩
 rintro i m σ' H' ⟨rfl,hi,τ',B',hM,S'⟩
 obtain ⟨y1,y2⟩:=yl H' (sub S'.same)
 by_cases hlt:i < xs.length
 · obtain ⟨g,y⟩:=y2 i hlt
   refine .inr ⟨g,λσ2 H2=>∃ τ2 B2,M (i + 1) τ2/\Sta X.K A (hd H1 λb=>∃ i,b ∈ B i) τ2 B2 σ2 H2,λσ2 H2 q=>⟨xs.length - (i + 1),by omega,rfl,hlt,q⟩,λx H2 hy=>?_⟩
   obtain ⟨e2,dx⟩:=y x H2 hy
   have S2:=S'.mono e2
   refine ⟨i,hlt,τ',hM,A,_,B',S2,dx (own A B') S'.dm ?_,λσ3 B3 S3=>⟨i,τ',hlt,hM,A,_,B3,S3,?_⟩⟩
   · intro b o z
     obtain ⟨z1,z2⟩:=aD.mp z
     have z3:hd H1 (λb=>∃ i,b ∈ B i) b=some o:=aD.mpr ⟨λy=>z1 (.inr y),z2⟩
     refine aD.mpr ⟨λy=>?_,S'.same _ _ z3⟩
     rcases y with y | ⟨l,y⟩
     · exact z1 (.inl y)
     · rw [S'.fr l b y] at z3; cases z3
   · exact ⟨λτ3 B3 σ3 H3 m S3=>⟨τ3,B3,m,S3⟩,λτ3 B3 σ3 H3 m S3=>Me.nx τ3 B3 σ3 H3 m (S3.back s0 S.ad),λτ3 B3 σ3 H3 m S3=>⟨τ3,B3,m,S3⟩,
       λv H3 bs s3 hr e3 hf q=>Me.rt v H3 bs s3 hr (s0.trans e3) (λb hb=>⟨s0.free (hf b hb).1,(hf b hb).2⟩) q,λH3 e3=>Me.xc H3 (s0.trans e3)⟩
 · have e:i=xs.length:=by omega
   subst e
   exact .inl ⟨y1 _ (Nat.le_refl _),Me.nx τ' B' σ' H' (hn τ' hM) (S'.back s0 S.ad)⟩
theorem lX (j:Nat) {n:Str} (M:Nat->List Sl->Prop) {g:Nat->D} (B:Bk X k) (hN:X.N.Nodup) (hi:PI X (.Name n p) it (dI X.K τ xs)) (hx:∀ i (h:i < xs.length),xs[i]=g i) (h0:M 0 τ)
   (hb:∀ i,i < xs.length->∀ τ',M i τ'->PSs X body (dS X.K (τ'.set j (.d (g i))) { N with nx:=M (i + 1),ct:=M (i + 1),bk:=λ_=>False }))
   (hr:∀ τ',M xs.length τ'->PSs X rest (dS X.K τ' N)) (hs:∀ x,foldedSetIterable it X.env x=pure x:=by intro _; rfl) (hi':X.N[j]?=some n:=by rfl) (hl:Loc X.env.scope n:=by first | exact .inl rfl | exact .inr rfl)
   (hf:X.fn n=true\/X.env.scope.names.lookup n=some .local:=by first | exact .inl rfl | exact .inr rfl | assumption):PSs X (.For (.Name n p) it body [] pos :: rest) (dS X.K τ N):=
 bu (M:=M xs.length) (qM (M:=M) (T:=λi τ'=>τ'.set j (.d (g i))) B hi h0 (λi h τ' m=>by rw [hx i h]; exact si j hN hi' hl hf)
   (λi h τ' m=>oG (hb i h τ' m) λD σ H ⟨A,H₀,B,S,Me⟩=>⟨A,H₀,B,S,Me.nx,λ_ _ _ _ z=>z.elim,Me.ct,Me.rt,Me.xc⟩) (λ_ m=>m) hs) hr
theorem qm (j l:Nat) {n m:Str} {p2 pt:Pos} {md:Nat} (M:Nat->List Sl->Prop) {g g':Nat->D} (B:Bk X k) (hN:X.N.Nodup) (hi:PI X (.Tuple [.Name n p,.Name m p2] md pt) it (dI X.K τ xs)) (hx:∀ i (h:i < xs.length),xs[i]=.tup [g i,g' i]) (h0:M 0 τ)
   (hb:∀ i,i < xs.length->∀ τ',M i τ'->PSs X body (dS X.K ((τ'.set j (.d (g i))).set l (.d (g' i))) { N with nx:=M (i + 1),ct:=M (i + 1),bk:=λ_=>False }))
   (hr:∀ τ',M xs.length τ'->PSs X rest (dS X.K τ' N)) (hs:∀ x,foldedSetIterable it X.env x=pure x:=by intro _; rfl) (hi':X.N[j]?=some n:=by rfl) (hj':X.N[l]?=some m:=by rfl) (hl:Loc X.env.scope n:=by first | exact .inl rfl | exact .inr rfl) (hl':Loc X.env.scope m:=by first | exact .inl rfl | exact .inr rfl)
   (hf:X.fn n=true\/X.env.scope.names.lookup n=some .local:=by first | exact .inl rfl | exact .inr rfl | assumption) (hf':X.fn m=true\/X.env.scope.names.lookup m=some .local:=by first | exact .inl rfl | exact .inr rfl | assumption):PSs X (.For (.Tuple [.Name n p,.Name m p2] md pt) it body [] pos :: rest) (dS X.K τ N):=
 bu (M:=M xs.length) (qM (M:=M) (T:=λi τ'=>(τ'.set j (.d (g i))).set l (.d (g' i))) B hi h0 (λi h τ' m=>by rw [hx i h]; exact sD j l B.calm hN hi' hj' hl hl' hf hf')
   (λi h τ' m=>oG (hb i h τ' m) λD σ H ⟨A,H₀,B,S,Me⟩=>⟨A,H₀,B,S,Me.nx,λ_ _ _ _ z=>z.elim,Me.ct,Me.rt,Me.xc⟩) (λ_ m=>m) hs) hr
theorem dP {n:Nat} (i:Nat) (h:i < (fN 0 n).length):(fN 0 n)[i]=.int (i:Nat):=by rw [j0,Int.zero_add]
theorem lN {bs:List Int} (i:Nat) (h:i < (bs.map D.int).length):(bs.map D.int)[i]=.int (bs.getD i 0):=by
 have:i < bs.length:=by simpa using h
 simp [this]
theorem lM {xs:List D} (i:Nat) (h:i < xs.length):xs[i]=xs.getD i .non:=by simp [h]
theorem sX {bs:List Int} (i:Nat) (h:i < (ji (bs.map D.int)).length):(ji (bs.map D.int))[i]=.tup [.int (i:Nat),.int (bs.getD i 0)]:=by
 have:i < bs.length:=by rw [gf] at h; simpa using h
 rw [nB]
 simp [this]
end
end Hy
namespace Hy
open PySem PySem.Spec PyProof.Rows L2
open Ev (D Den ax aw bc aL aF d0 cR PTs b7 dJ lz)
noncomputable def slot:List Str->Str->Option Nat
 | [],_=>none
 | y :: r,x=>if x=y then some 0 else (slot r x).map (· + 1)
theorem slot_get:∀ {N:List Str} {x:Str} {i:Nat},slot N x=some i->N[i]?=some x
 | [],_,_,h=>by cases h
 | y :: r,x,i,h=>by
   unfold slot at h
   split at h
   · cases h; rename_i e; rw [e]; rfl
   · cases e:slot r x with
     | none=>rw [e] at h; cases h
     | some j=>rw [e] at h; cases h; simpa using slot_get e
noncomputable def qP (scope sc:Scope):Scope:={ scope with names:=scope.names.map λ(n,k)=>if (k == .free && sc.kind == .function && sc.names.lookup n == some .cell) then (n,.cell) else (n,k) }
noncomputable def bNm (scope:Scope):List Str:=(scope.names.filter λp=>(p.2 == .local || p.2 == .cell || p.2 == .free) && p.1 != (".0" : Str)).map (·.1)
noncomputable def bCp (No:List Str) (scope:Scope):List (Option Nat):=(bNm scope).map λx=>if (x,NameKind.free) ∈ scope.names then slot No x else none
noncomputable def bOk (sc scope:Scope):Bool:=
 scope.kind == .function && scope.names.all (λp=>p.2 != .local || scope.names.lookup p.1 == some .local) && scope.names.all (λp=>p.2 != .free || sc.names.lookup p.1 == some .cell)
   && scope.names.all (λp=>p.2 != .free || (!decide ((p.1,NameKind.cell) ∈ scope.names) && !decide ((p.1,NameKind.local) ∈ scope.names))) && decide (bNm scope++[("#" : Str)]).Nodup
   && (qP scope sc).names.all (λp=>p.1 != ("#" : Str))
theorem o8 {a b:Bool} (h:(a && b)=true):a=true/\b=true:=by rw [Bool.and_eq_true] at h; exact h
theorem qC {x:Str} {q:NameKind}:∀ {names:List (Str × NameKind)},names.lookup x=some q->(x,q) ∈ names
 | (y,k) :: r,h=>by
   rw [List.lookup_cons] at h
   split at h
   · rename_i e; cases h; rw [eq_of_beq e]; exact List.mem_cons_self ..
   · exact List.mem_cons_of_mem _ (qC h)
theorem eY {X:Cx} {scope:Scope} (h:bOk X.env.scope scope=true):cR X scope (bNm scope++[("#" : Str)]) (bCp X.N scope)/\(bNm scope++[("#" : Str)]).Nodup:=by
 unfold bOk at h
 obtain ⟨h,h6⟩:=o8 h
 obtain ⟨h,h5⟩:=o8 h
 obtain ⟨h,h4⟩:=o8 h
 obtain ⟨h,h3⟩:=o8 h
 obtain ⟨h1,h2⟩:=o8 h
 rw [List.all_eq_true] at h2 h3 h4 h6
 refine ⟨⟨eq_of_beq h1,λx hx hk=>?_,λx hx hk=>?_,λx hx hm=>?_,λx hx hm=>?_,?_,λj i hj=>?_,?_⟩,of_decide_eq_true h5⟩
 · have:=h2 x hx; rw [hk] at this; simpa using this
 · have:=h3 x hx; rw [hk] at this; show X.env.scope.names.lookup x.1=_; simpa using this
 · have:=h4 _ hx; simp [hm] at this
 · have:=h4 _ hx; simp [hm] at this
 · unfold bCp; rw [List.length_append,List.length_map]; rfl
 · unfold bCp at hj
   rw [List.getElem?_map] at hj
   cases e:(bNm scope)[j]? with
   | none=>rw [e] at hj; cases hj
   | some x=>
     rw [e] at hj
     simp only [Option.map_some,Option.some.injEq] at hj
     split at hj
     · exact ⟨x,by rw [List.getElem?_append_left (List.getElem?_eq_some_iff.mp e).1]; exact e,slot_get hj,by assumption⟩
     · cases hj
 · refine ⟨("#" : Str),?_,λhv=>?_⟩
   · unfold bCp; rw [List.length_map,List.getElem?_append_right (Nat.le_refl _),Nat.sub_self]; rfl
   · have key:∀ q,(qP scope X.env.scope).names.lookup ("#" : Str) ≠ some q:=λq hq=>by
       have:=h6 _ (qC hq)
       simp at this
     rcases hv with hv | hv | hv <;> exact key _ hv
noncomputable abbrev cpX (X:Cx) (s:Shared) (H:Hp) (scope:Scope) (fp:List Addr):Cx:=aF X s H scope (bNm scope++[("#" : Str)]) fp
theorem Bk.comp {X:Cx} {k:Nat} (B:Bk X k) (s:Shared) (H:Hp) (scope:Scope) (fp:List Addr):Bk (cpX X s H scope fp) k:=⟨B.room,B.calm,B.blt,PassesOwn.never⟩
noncomputable def bg (τ:List Sl) (caps:List (Option Nat)):List Sl:=caps.map λo=>match o with
 | some i=>match τ[i]? with
   | some (.d x)=>.d x
   | _=>.un
 | none=>.un
theorem kC {X:Cx}:PTs X [] λ_ H Q=>Q true H:=λpins s σ H Q I q=>by
 show wpAny _ _ (pure true) _ _ _
 exact wpAny_pure ⟨H,I,q⟩
section
variable {X:Cx} {C:Bool} {τ:List Sl} {x y z:D} {a b e c tg it elt:Expr} {es ifs:List Expr} {pos p q:Pos} {k:Nat} {xs:List D} {scope:Scope}
structure Cmp (X:Cx) (elt tg it:Expr) (ifs:List Expr) (scope:Scope) (τ:List Sl) (ys:List D):Prop where
 ex:∃ (In:TG->TT->TE->Prop) (caps:List (Option Nat)) (N:List Str) (wi:TI),cR X scope N caps/\PI X tg it wi/\(∀ g tt te,In g tt te->∀ s H fp,PG (aF X s H scope N fp) tg g/\PTs (aF X s H scope N fp) ifs tt/\PE (aF X s H scope N fp) elt te) /\
   ∀ C σ H Q,dE X.K C τ (.o ys) σ H Q->dJ In caps wi σ H Q
 hs:∀ x,foldedSetIterable it X.env x=pure x
theorem cA {ys:List D} (h:Cmp X elt tg it ifs scope τ ys):PE X (.ListComp elt [⟨tg,it,ifs,0⟩] scope pos) (dE X.K C τ (.o ys)):=by
 obtain ⟨In,caps,N,wi,h1,h2,h3,h4⟩:=h.ex
 exact peW (b7 h1 h2 h.hs h3) (h4 C)
theorem gz (i:Nat) {n:Str} {p spos:Pos} {rest:List Stmt} {N:Po} {ys:List D} {s:Sl} (hN:X.N.Nodup) (h:Cmp X elt tg it ifs scope τ ys) (hz:s=.o ys\/s=.d (.lst ys)) (hr:PSs X rest (dS X.K (τ.set i s) N)) (hi:X.N[i]?=some n:=by rfl) (hx:Loc X.env.scope n:=by first | exact .inl rfl | exact .inr rfl)
   (hsw:swapsWith (.ListComp elt [⟨tg,it,ifs,0⟩] scope pos) (some (.Name n p)) spos.line X.env=pure true:=by rfl) (hf:X.fn n=true\/X.env.scope.names.lookup n=some .local:=by first | exact .inl rfl | exact .inr rfl | assumption) :
   PSs X (.Assign [.Name n p] (.ListComp elt [⟨tg,it,ifs,0⟩] scope pos) spos :: rest) (dS X.K τ N):=by
 obtain ⟨In,caps,N',wi,h1,h2,h3,h4⟩:=h.ex
 have h5:∀ σ H Q,dE X.K true τ s σ H Q->dJ In caps wi σ H Q:=by
   rcases hz with rfl | rfl
   · exact h4 true
   · intro σ H Q q
     obtain ⟨A,H₀,B,S,k⟩:=eH q
     refine h4 true σ H Q ⟨A,H₀,B,S,λv H' bs e hf q=>?_⟩
     obtain ⟨u,e1,d⟩:=q.den (G':=Hy.hd H' (vw true A B)) (aB (ao.refl _) λ_ z=>.inl z) (λb hb o ho=>aD.mpr ⟨λz=>(by obtain ⟨_,q⟩:=S.vd (C:=true) b z; rw [(hf b hb).1] at q; cases q),ho⟩) rfl
     cases e1
     exact k v H' e d
 exact bu (M:=(·=τ.set i s)) (psW (lz (fY (i:=i) hN hi hx hf) h1 h2 h.hs h3 hsw) λD σ H ⟨A,H₀,B,S,Me⟩=>h5 _ _ _ ⟨A,H₀,B,S,λv H' bs e hf h=>Me.nx _ _ _ _ rfl (S.set e hf h)⟩) λ_ e=>e ▸ hr
theorem lZ {T:Nat->List Sl} {t:Nat->Bool} {f:Nat->D} (hc:bOk X.env.scope scope=true) (hi:PI X tg it (dI X.K τ xs)) (hT:∀ i,(T i).length=(bg τ (bCp X.N scope)++[Sl.un]).length/\∀ (l:Nat) (x:D),(bg τ (bCp X.N scope)++[Sl.un])[l]?=some (.d x)->(T i)[l]?=some (.d x))
   (hg:∀ i (h:i < xs.length) s H fp,PG (cpX X s H scope fp) tg (dG X.K (bg τ (bCp X.N scope)++[Sl.un]) xs[i] (T i)))
   (ht:∀ i,i < xs.length->∀ s H fp,PTs (cpX X s H scope fp) ifs (dT X.K (T i) (t i)))
   (he:∀ i,i < xs.length->t i=true->∀ s H fp,PE (cpX X s H scope fp) elt (dE X.K true (T i) (.d (f i)))) (hl:xs.length < 1000000) (hs:∀ x,foldedSetIterable it X.env x=pure x:=by intro _; rfl) :
   Cmp X elt tg it ifs scope τ (((List.range xs.length).filter t).map f):=by
 obtain ⟨cap,_⟩:=eY hc
 generalize hτ:bg τ (bCp X.N scope)++[Sl.un]=τb at *
 refine ⟨⟨λg tt te=>g=(λv σ H Q=>∃ (i:Nat) (h:i < xs.length),dG X.K τb xs[i] (T i) v σ H Q)/\tt=(λσ H Q=>∃ i,i < xs.length/\dT X.K (T i) (t i) σ H Q)/\te=(λσ H Q=>∃ i,i < xs.length/\t i=true/\dE X.K true (T i) (.d (f i)) σ H Q),_,_,_,cap,hi,?_,?_⟩,hs⟩
 · rintro g tt te ⟨rfl,rfl,rfl⟩ s H fp
   exact ⟨λpins s' σ H' v u Q I r ⟨i,h,q⟩=>hg i h s H fp pins s' σ H' v u Q I r q,λpins s' σ H' Q I ⟨i,h,q⟩=>ht i h s H fp pins s' σ H' Q I q,λpins s' σ H' Q I ⟨i,h,h',q⟩=>he i h h' s H fp pins s' σ H' Q I q⟩
 rintro C σ H Q ⟨A,H₀,B,S,kk⟩
 refine ⟨A,H₀,B,S,λJ H1 e1 yl=>⟨_,_,_,⟨rfl,rfl,rfl⟩,λD hD=>?_⟩⟩
 have S1:=S.mono e1
 have nD:¬ own A B D:=λz=>by obtain ⟨o,q⟩:=S1.dm D z; rw [hD] at q; cases q
 have noN:∀ (l:Nat) (t:Nd),τb[l]?=some (.n t)->0 ≠ 0:=λl t h=>by
   exfalso
   rw [<- hτ] at h
   have:=List.mem_of_getElem? h
   rcases List.mem_append.mp this with z | z
   · unfold bg at z
     obtain ⟨o,_,ho⟩:=List.mem_map.mp z
     split at ho
     · split at ho <;> cases ho
     · cases ho
   · cases List.mem_singleton.mp z
 have slots:∀ {σ':L2.St} {H':Hp},ao H1 H'->(∃ o,H' D=some o)->σ'.length=τb.length->(∀ (l:Nat) (s:Sl),τb[l]?=some s->cj X.K (hd H' λb=>own A B b\/b=D) H' (σ'[l]?).join [] s)->Sta X.K (λb=>own A B b\/b=D) H' τb (λ_=>[]) σ' H':=λ{σ' H'} e1 e2 e3 e4=>
   ⟨ao.refl _,e3,λl s h=>(e4 l s h).mono (aB (ao.refl _) λ_ z=>z.elim id λ⟨_,z⟩=>(nomatch z)) (ao.refl _),λ_ _ z=>(nomatch z),λ_ _ _ z=>(nomatch z),λb z=>z.elim (λz=>let ⟨o,q⟩:=S1.dm b z; ⟨o,e1 _ _ q⟩) λz=>z ▸ e2,λ_ _ z=>(nomatch z)⟩
 refine ⟨λi m σ' H'=>m=xs.length - i/\i<=xs.length/\ao H1 H'/\(∃ vs,H' D=some (.lst vs)/\vs.length<=i/\ax X.K (hd H' λb=>own A B b\/b=D) vs (((List.range i).filter t).map f)) /\
   σ'.length=τb.length/\∀ (l:Nat) (s:Sl),τb[l]?=some s->cj X.K (hd H' λb=>own A B b\/b=D) H' (σ'[l]?).join [] s,⟨xs.length,rfl,Nat.zero_le _,aw hD _,⟨[],aV,Nat.le_refl _,.nil⟩,?_,λl s h=>?_⟩,?_⟩
 · rw [<- hτ]; unfold d0 bg; rw [List.length_append,List.length_append,List.length_map,List.length_map]; rfl
 · have hv:ao (hd H (own A B)) (hd (upd H1 D (.lst [])) λb=>own A B b\/b=D):=λb o z=>by
     obtain ⟨z1,z2⟩:=aD.mp z
     have z2:=e1 _ _ z2
     have ne:b ≠ D:=λz=>by rw [z,hD] at z2; cases z2
     exact aD.mpr ⟨λy=>y.elim z1 ne,by rw [az ne]; exact z2⟩
   cases s with
   | un=>rfl
   | d x=>
     rw [<- hτ] at h
     have hlt:l < (bCp X.N scope).length:=by
       rcases Nat.lt_or_ge l (bCp X.N scope).length with h' | h'
       · exact h'
       · exfalso
         rw [List.getElem?_append_right (by unfold bg; rw [List.length_map]; exact h')] at h
         cases e:l - (bg τ (bCp X.N scope)).length with
         | zero=>rw [e] at h; cases h
         | succ n=>rw [e] at h; cases h
     rw [List.getElem?_append_left (by unfold bg; rw [List.length_map]; exact hlt)] at h
     rw [List.getElem?_append_left (by unfold d0; rw [List.length_map]; exact hlt)]
     unfold bg at h
     unfold d0
     rw [List.getElem?_map] at h ⊢
     cases e:(bCp X.N scope)[l]? with
     | none=>rw [e] at h; cases h
     | some o=>
       rw [e] at h
       cases o with
       | none=>cases h
       | some i=>
         simp only [Option.map_some,Option.some.injEq] at h
         split at h
         · rename_i x' hx'
           cases h
           obtain ⟨_,u,eu,d⟩:=S.sl i _ hx'
           exact ⟨rfl,u,by simpa using eu,d.mono hv⟩
         · cases h
   | o xs'=>
     exfalso
     rw [<- hτ] at h
     have:=List.mem_of_getElem? h
     rcases List.mem_append.mp this with z | z
     · unfold bg at z
       obtain ⟨o,_,ho⟩:=List.mem_map.mp z
       split at ho
       · split at ho <;> cases ho
       · cases ho
     · cases List.mem_singleton.mp z
   | n t'=>
     exfalso
     rw [<- hτ] at h
     have:=List.mem_of_getElem? h
     rcases List.mem_append.mp this with z | z
     · unfold bg at z
       obtain ⟨o,_,ho⟩:=List.mem_map.mp z
       split at ho
       · split at ho <;> cases ho
       · cases ho
     · cases List.mem_singleton.mp z
   | x E'=>
     exfalso
     rw [<- hτ] at h
     have:=List.mem_of_getElem? h
     rcases List.mem_append.mp this with z | z
     · unfold bg at z
       obtain ⟨o,_,ho⟩:=List.mem_map.mp z
       split at ho
       · split at ho <;> cases ho
       · cases ho
     · cases List.mem_singleton.mp z
 rintro i m σ' H' ⟨rfl,hi,e2,⟨vs,hv1,hv2,hv3⟩,hlen,hsl⟩
 obtain ⟨y1,y2⟩:=yl H' (aR.trans e2)
 by_cases hlt:i < xs.length
 · obtain ⟨g,y⟩:=y2 i hlt
   refine .inr ⟨g,λx H2 hy=>?_⟩
   obtain ⟨e3,dx⟩:=y x H2 hy
   have S2:Sta X.K (λb=>own A B b\/b=D) H' τb (λ_=>[]) σ' H':=slots e2 ⟨_,hv1⟩ hlen hsl
   have o0:∀ b,own (λb=>own A B b\/b=D) (λ_=>([]:List Addr)) b->own A B b\/b=D:=λb z=>z.elim id λ⟨_,z⟩=>(nomatch z)
   have dx':=dx _ S2.dm (λb o z=>by
     obtain ⟨z1,z2⟩:=aD.mp z
     exact aD.mpr ⟨λy=>(o0 b y).elim z1 λy=>(by rw [y,hD] at z2; cases z2),e2 _ _ z2⟩)
   refine ⟨i,hlt,_,_,_,S2.mono e3,dx',λσ2 B2 S3=>?_⟩
   have hB2:∀ j b,b ∈ B2 j->b ≠ D:=λj b hb z=>by
     have:=S3.fr j b hb
     rw [z,hv1] at this
     cases this
   have back:∀ {H5:Hp},ao H2 H5->σ2.length=τb.length/\∀ (l:Nat) (s:Sl),τb[l]?=some s->cj X.K (hd H5 λb=>own A B b\/b=D) H5 (σ2[l]?).join [] s:=λ{H5} e5=>by
     refine ⟨S3.len.trans (hT i).1,λl s h=>?_⟩
     cases s with
     | un=>rfl
     | d x=>
       obtain ⟨_,u,eu,d⟩:=S3.sl l _ ((hT i).2 l x h)
       exact ⟨rfl,u,eu,d.mono (aB e5 λ_ z=>.inl z)⟩
     | o xs'=>exact absurd (hsl l _ h) (λ⟨_,_,z,_⟩=>(nomatch z))
     | n t'=>exact absurd rfl (noN l t' h)
     | x E'=>exact absurd (hsl l _ h) (λ⟨_,_,z,_⟩=>(nomatch z))
   refine ⟨i,hlt,_,_,_,S3,λH4 e4=>?_⟩
   cases ht:t i with
   | false=>
     rw [if_neg Bool.false_ne_true]
     obtain ⟨b1,b2⟩:=back e4
     refine ⟨xs.length - (i + 1),by omega,rfl,hlt,e2.trans (e3.trans e4),⟨vs,e4 _ _ (e3 _ _ hv1),by omega,?_⟩,b1,b2⟩
     rw [List.range_succ,List.filter_append,List.map_append,List.filter_cons,ht]
     simpa using hv3.mono (aB (e3.trans e4) λ_ z=>z)
   | true=>
     rw [if_pos rfl]
     refine ⟨i,hlt,ht,ba (S3.mono e4) λv H5 e5 d5=>?_⟩
     have e6:=e3.trans (e4.trans e5)
     have hv5:=e6 _ _ hv1
     refine ⟨vs,xs.length - (i + 1),hv5,Nat.lt_trans (Nat.lt_of_le_of_lt hv2 (Nat.lt_trans hlt hl)) (by decide),by omega,rfl,hlt,?_,?_⟩
     · intro b o z
       have ne:b ≠ D:=λy=>by rw [y,hD] at z; cases z
       rw [az ne]
       exact e6 _ _ (e2 _ _ z)
     have sm:ao (hd H5 λb=>own A B b\/b=D) (hd (upd H5 D (.lst (vs++[v]))) λb=>own A B b\/b=D):=λb o z=>by
       obtain ⟨z1,z2⟩:=aD.mp z
       exact aD.mpr ⟨z1,by rw [az λy=>z1 (.inr y)]; exact z2⟩
     obtain ⟨b1,b2⟩:=back (e4.trans e5)
     refine ⟨⟨vs++[v],aV,by rw [List.length_append]; exact Nat.succ_le_succ hv2,?_⟩,b1,λl s h=>?_⟩
     · rw [List.range_succ,List.filter_append,List.map_append,List.filter_cons,ht,if_pos rfl]
       refine ax.append (hv3.mono ((aB e6 λ_ z=>z).trans sm)) (.cons (d5.mono ((aB (ao.refl _) λ_ z=>.inl z).trans sm)) .nil)
     · cases s with
       | un=>rfl
       | d x=>obtain ⟨z1,u,eu,d⟩:=b2 l _ h; exact ⟨z1,u,eu,d.mono sm⟩
       | o xs'=>exact absurd (hsl l _ h) (λ⟨_,_,z,_⟩=>(nomatch z))
       | n t'=>exact absurd rfl (noN l t' h)
       | x E'=>exact absurd (hsl l _ h) (λ⟨_,_,z,_⟩=>(nomatch z))
 · have e:i=xs.length:=by omega
   subst e
   refine .inl ⟨y1 _ (Nat.le_refl _),kk _ _ [D] (e1.trans e2) (λb hb=>?_) ⟨D,vs,rfl,rfl,hv1,hv3.mono (aB (ao.refl _) λb z=>z.elim (λz=>.inl (iV z)) λz=>.inr (List.mem_singleton.mp z))⟩⟩
   obtain rfl:=List.mem_singleton.mp hb
   exact ⟨e1.free hD,_,hv1⟩
theorem cmp (j:Nat) {n:Str} {g f:Nat->D} (B:Bk X k) (hi:PI X (.Name n p) it (dI X.K τ xs)) (hx:∀ i (h:i < xs.length),xs[i]=g i) (hl:xs.length < 1000000)
   (he:∀ i,i < xs.length->∀ s H fp,PE (cpX X s H scope fp) elt (dE X.K true ((bg τ (bCp X.N scope)++[Sl.un]).set j (.d (g i))) (.d (f i))))
   (hc:bOk X.env.scope scope=true:=by kernel_rfl) (hu:(bg τ (bCp X.N scope)++[Sl.un])[j]?=some .un:=by rfl) (hN:(bNm scope++[("#" : Str)])[j]?=some n:=by rfl) (hv:∀ s H fp,Loc (cpX X s H scope fp).env.scope n:=by intro _ _ _; first | exact .inl rfl | exact .inr rfl)
   (hf:∀ s H fp,(cpX X s H scope fp).fn n=true\/(cpX X s H scope fp).env.scope.names.lookup n=some .local:=by intro _ _ _; first | exact .inr rfl | exact .inl rfl) (hs:∀ x,foldedSetIterable it X.env x=pure x:=by intro _; rfl) :
   Cmp X elt (.Name n p) it [] scope τ ((List.range xs.length).map f):=by
 have h:=lZ (T:=λi=>(bg τ (bCp X.N scope)++[Sl.un]).set j (.d (g i))) (t:=λ_=>true) (f:=f) (elt:=elt) (ifs:=[]) hc hi (λi=>⟨List.length_set,λl x h=>?_⟩) (λi h s H fp=>?_) (λi h s H fp=>?_) (λi h _ s H fp=>he i h s H fp) hl hs
 · rwa [List.filter_eq_self.mpr λ_ _=>rfl] at h
 · rw [List.getElem?_set_ne (λz=>by rw [<- z,hu] at h; cases h)]
   exact h
 · rw [hx i h]
   exact si j (eY hc).2 hN (hv s H fp) (hf s H fp)
 · exact λpins s' σ H' Q I ⟨A,H₀,B,S,q⟩=>kC pins s' σ H' Q I (q H' (ao.refl _))
end
section
variable {P:Program} {w:World} {K:PySem.W.Frag} {mg:Str->Option Value} {base:Heap}
noncomputable def lq (N:List Str) (ds:List D):List Sl:=ds.map .d++List.replicate (N.length - ds.length) .un
noncomputable abbrev Xc (P:Program) (w:World) (K:PySem.W.Frag) (mg:Str->Option Value) (base:Heap) (N:List Str) (qual:Str) (st:Stmt) (f:Addr) (cdv:Value) (A:Around) (outer:List Env) (s:Shared) (H:Hp) (E:XK):Cx:=(iB CX0 P w K mg base N qual (ai st) f cdv A outer s H E).nox
theorem fnD {x qual:Str} {st:Stmt} {f:Addr} {fd:FuncData} {N ps:List Str} {k:Nat} {Φ:List D->Sl->Prop} (F:Fun K x qual st f fd) (S:aq N ps (ai st)) (hb:∀ x ∈ aj,mg x=none) (len:∀ ds r,Φ ds r->ds.length=ps.length)
   (body:∀ ds r,Φ ds r->∀ cdv A outer s H E,Bk (Xc P w K mg base N qual st f cdv A outer s H E) k->PSs (Xc P w K mg base N qual st f cdv A outer s H E) (bp st) (dS K (lq N ds) { nx:=λ_=>r=.d .non,rt:=λr'=>r'=r })) :
   aJ P w K mg base CX0 (k + 1) f fd ps (spD K Φ):=by
 refine F.ok S (λvs H Q E ⟨A,ds,r,_,d,h,_⟩=>d.length.trans (len ds r h)) λcdv A outer s H vs Q E hr ⟨A',ds,r,ha,d,h,q⟩=>⟨_,body ds r h cdv A outer s H E ⟨hr,rfl,hb,PassesOwn.never⟩,A',H,λ_=>[],⟨ao.refl _,?_,λi s hi=>?_,λ_ _ z=>(nomatch z),λ_ _ _ z=>(nomatch z),ha,λ_ _ z=>(nomatch z)⟩,λτ B σ H' h S=>?_,λ_ _ _ _ h=>h.elim,λ_ _ _ _ h=>h.elim,λv H' bs s h e hf z=>?_,λ_ _=>trivial⟩
 · unfold L2.start lq
   simp [d.length]
 · have hl:=d.length
   unfold lq at hi
   unfold L2.start
   by_cases hlt:i < ds.length
   · rw [List.getElem?_append_left (by simpa using hlt),List.getElem?_map,List.getElem?_eq_getElem hlt] at hi
     cases hi
     obtain ⟨v,e,dv⟩:=d.get (List.getElem?_eq_getElem hlt)
     refine ⟨rfl,v,?_,dv.mono (aB (ao.refl _) λ_ z=>z.elim id λ⟨_,z⟩=>(nomatch z))⟩
     rw [List.getElem?_append_left (by simpa [hl] using hlt),List.getElem?_map,e]
     rfl
   · rw [List.getElem?_append_right (by simpa using hlt),List.getElem?_replicate] at hi
     split at hi
     · cases hi; rfl
     · cases hi
 · obtain rfl:=(h:r=_)
   exact q .non H' [] S.same c8 (gA .non)
 · obtain rfl:=(h:s=r)
   exact q v H' bs e hf z
theorem rP {K:PySem.W.Frag} {Φ:List D->Sl->Prop} (hΦ:∀ ns:List Int,ns.length<=63->Φ [.lst (ns.map .int)] (.d (.bl true))) (H:Hp) (a:Addr) (ns:List Int) (hl:ns.length<=63) (hS:SqL K H a (ns.map V.int)):spD K Φ [.ref a] H (λv _=>v=.bl true) λ_ _ _=>False:=by
 have hh:hd H (λ_=>False)=H:=by funext b; unfold hd; rw [if_neg id]
 refine ⟨λ_=>False,_,_,λ_ z=>z.elim,.cons (.lst (vs:=ns.map V.int) (by rw [hh]; exact hS) ?_) .nil,hΦ ns hl,λv H' bs _ _ h=>?_⟩
 · clear hl hS
   induction ns with
   | nil=>exact .nil
   | cons n ns ih=>exact .cons .int ih
 · obtain ⟨_,u,e,d⟩:=h
   cases e
   cases d
   rfl
end
end Hy
namespace Hy
open PySem PySem.Spec PyProof.Rows L2
open Ev (D Den ax aM aG aw bc aL)
section
variable {X:Cx} {C:Bool} {τ:List Sl} {x y z:D} {a b e:Expr} {es:List Expr} {pos p:Pos} {k:Nat} {s:Sl} {ds:List D} {i j:Int}
theorem lF {K:PySem.W.Frag} {H:Hp}:∀ {vs:List V} {ns:List Int},ax K H vs (ns.map .int)->vs=ns.map V.int
 | _,[],h=>by cases h; rfl
 | _,n :: ns,h=>by
   cases h with
   | cons d r=>cases d; rw [lF r]; rfl
theorem r0:OpR X (binaryOp .Add) (λx y H Q=>∃ l b xs zs,x=.ref l/\y=.ref b/\SqL X.K H l xs/\SqL X.K H b zs/\xs.length + zs.length<=sizeLine/\∀ p,H p=none->Q (.ref p) (upd H p (.lst (xs++zs)))):=by
 intro pins s σ H x y v u Q I rx ry h
 obtain ⟨l,b,xs,zs,rfl,rfl,hH,hB,hz,q⟩:=h
 cases rx
 cases ry
 obtain ⟨its,r,pl,_⟩:=I.list hH
 obtain ⟨its2,r2,pl2,_⟩:=I.list hB
 have hl:=r.length
 have hl2:=r2.length
 obtain ⟨⟨cls,dd,data,sl⟩,ho,hc,n,hd⟩:=pl.isList
 obtain ⟨⟨cls2,dd2,data2,sl2⟩,ho2,hc2,n2,hd2⟩:=pl2.isList
 simp only at hc hd hc2 hd2
 subst hc hd hc2 hd2
 have e:its.toArray++its2.toArray=(its++its2).toArray:=by simp
 refine concat_meets ⟨_,ho,rfl⟩ ⟨_,ho2,rfl⟩ noFill_list_add seq_list_add PySem.F.slot_list_add PySem.F.entry_list_add (PySem.F.args_list_add_2 _ _) (list_addW l b its.toArray its2.toArray n n2 dd dd2 sl sl2 (by rw [List.size_toArray,List.size_toArray]; omega)) ⟨ho,ho2,?_⟩
 rw [e]
 exact ⟨.ref _,_,I.wA (t':=s.toks) (r.append r2) (by rw [List.length_append]; omega),rfl,q _ I.fresh⟩
theorem fh {xs ys:List D} (ha:PE X a (dE X.K C τ (.d (.lst xs)))) (hb:PE X b (dE X.K C τ (.d (.lst ys)))) (hl:xs.length + ys.length < 1000000):PE X (.BinOp a .Add b pos) (dE X.K C τ (.o (xs++ys))):=peW (pd r0 ha hb) λσ H Q ⟨A,H₀,B,S,k⟩=>
 ba S λv H1 e1 d1=>ba (S.mono e1) λw H2 e2 d2=>by
   cases d1 with
   | lst h1 r1=>cases d2 with
     | lst h2 r2=>
       refine ⟨_,_,_,_,rfl,rfl,aL (aR.trans e2) h1,aL aR h2,by rw [r1.length,r2.length]; exact Nat.le_of_lt (Nat.lt_trans hl (by decide)),λp hp=>?_⟩
       obtain ⟨z1,z2,z3⟩:=j4 (K:=X.K) hp ((r1.mono (aB e2 λ_ z=>z)).append r2)
       exact k _ _ [p] (e1.trans (e2.trans z1)) (λb hb=>⟨(e1.trans e2).free (z2 b hb).1,(z2 b hb).2⟩) z3
theorem mkL (h:i.natAbs < 2 ^ 60):aM i j:=.inl (by
 rcases Nat.eq_zero_or_pos i.natAbs with z | z
 · rw [z]; decide
 · exact Nat.lt_trans ((Nat.log2_lt (by omega)).mpr h) (by decide))
theorem mkR (h:j.natAbs < 2 ^ 60):aM i j:=.inr (.inl (by
 rcases Nat.eq_zero_or_pos j.natAbs with z | z
 · rw [z]; decide
 · exact Nat.lt_trans ((Nat.log2_lt (by omega)).mpr h) (by decide)))
theorem mkD (h0:j ≠ 0) (h:j.natAbs < 2 ^ 62):aG j:=⟨h0,Nat.lt_trans ((Nat.log2_lt (by omega)).mpr h) (by decide)⟩
end
theorem ah {α:Type} {xs:List α} {i:Nat} {x:α} (h:xs[i]?=some x):atI xs (i:Int)=some x:=by
 unfold atI ixN
 have:=(List.getElem?_eq_some_iff.mp h).1
 rw [if_pos (by omega),if_pos (by omega)]
 simpa using h
theorem bK {ns:List Int} {i:Int} (h0:0<=i) (h:i.toNat < ns.length):atI (ns.map D.int) i=some (.int (ns.getD i.toNat 0)):=by
 obtain ⟨n,rfl⟩:=Int.eq_ofNat_of_zero_le h0
 exact ah (by
   have h:n < ns.length:=h
   simp [h])
theorem kg {xs:List D} (n:Nat):cutD xs none (some (n:Int))=xs.take n:=by
 unfold cutD
 rw [HT.kI,HT.qQ,List.drop_zero,Nat.sub_zero]
 rcases Nat.le_total n xs.length with h | h
 · rw [Nat.min_eq_left h]
 · rw [Nat.min_eq_right h,List.take_of_length_le (Nat.le_refl _),List.take_of_length_le h]
theorem rE {xs:List D} (m n:Nat):cutD xs (some (m:Int)) (some (n:Int))=(xs.take n).drop m:=by
 unfold cutD
 rw [HT.kI,HT.kI]
 rw [<- List.drop_take]
 rcases Nat.le_total n xs.length with h | h
 · rw [Nat.min_eq_left h]
   rcases Nat.le_total m xs.length with h' | h'
   · rw [Nat.min_eq_left h']
   · rw [Nat.min_eq_right h',List.drop_eq_nil_of_le (by simp; omega),List.drop_eq_nil_of_le (by simp; omega)]
 · rw [Nat.min_eq_right h,List.take_of_length_le (Nat.le_refl _),List.take_of_length_le h]
   rcases Nat.le_total m xs.length with h' | h'
   · rw [Nat.min_eq_left h']
   · rw [Nat.min_eq_right h',List.drop_eq_nil_of_le (Nat.le_refl _),List.drop_eq_nil_of_le h']
theorem getD_none {α:Type} {xs:List α} {i:Nat} {d:α} (h:xs.length<=i):xs.getD i d=d:=by simp [List.getD,h]
theorem ex1 {α:Type} {p:α->Prop} {a:α} (h:p a):∃ a,p a:=⟨a,h⟩
theorem ex3 {α:Type} {p:α->α->α->Prop} {a b c:α} (h:p a b c):∃ a b c,p a b c:=⟨a,b,c,h⟩
end Hy
namespace Hy
open PySem PySem.Spec PyProof.Rows L2
open Ev (D Den ax)
noncomputable def Dfn (K:PySem.W.Frag) (x:Str) (st:Stmt) (f:Addr):Prop:=PySem.W.nsIn K mainGlobals x=some (some (.ref f))/\(∃ oc od kV dc pm an cd ct sl,K.lookup f=some ⟨oc,od,.func (PySem.W.fnOf x x (bO st) (bp st) (ai st) .none kV dc pm an cd ct),sl⟩/\PySem.W.codeIn K cd x=true)/\PySem.W.keepIn K (.ref f)=true
noncomputable def BdA (x:Str) (st:Stmt) (ps:List Str):Prop:=∀ (kV dc pm:Value) (an:Option Addr) (cd ct:Value) (us:List Value),us.length=ps.length->bindArgs (PySem.W.fnOf x x (bO st) (bp st) (ai st) .none kV dc pm an cd ct) ⟨us,[]⟩=pure (ps.zip us)
noncomputable def nsL (K:PySem.W.Frag):List Str->Prop
 | []=>True
 | x :: r=>PySem.W.nsIn K mainGlobals x=some none/\nsL K r
section
variable {P:Program} {w:World} {K:PySem.W.Frag} {h:Heap} {mg:Str->Option Value} {base:Heap} {x:Str} {st:Stmt} {f:Addr} {ps:List Str} {k:Nat} {Φ:List D->Sl->Prop}
theorem Dfn.of {oc:Value} {od an:Option Addr} {kV dc pm cd ct:Value} {sl:Array (Option Value)} (a:PySem.W.nsIn K mainGlobals x=some (some (.ref f))) (l:K.lookup f=some ⟨oc,od,.func (PySem.W.fnOf x x (bO st) (bp st) (ai st) .none kV dc pm an cd ct),sl⟩) (c:PySem.W.codeIn K cd x=true) (k:PySem.W.keepIn K (.ref f)=true):Dfn K x st f:=⟨a,⟨_,_,_,_,_,_,_,_,_,l,c⟩,k⟩
theorem nsL.none (X:K.In h) (G:h.Ns mainGlobals mg):∀ {l:List Str},nsL K l->∀ x ∈ l,mg x=none
 | _ :: _,z,x,m=>by
   rcases List.mem_cons.mp m with rfl | m
   · exact PySem.W.mg_none_of X G z.1
   · exact nsL.none X G z.2 x m
theorem Dfn.fn (d:Dfn K x st f) (X:K.In h) (G:h.Ns mainGlobals mg) (b:BdA x st ps):∃ fd,Fun K x x st f fd/\mg x=some (.ref f)/\PySem.W.keepIn K (.ref f)=true/\Binds K fd ps []:=by
 obtain ⟨a,⟨oc,od,kV,dc,pm,an,cd,ct,sl,l,c'⟩,q⟩:=d
 have F:=l6 l c' q
 exact ⟨_,F,PySem.W.mg_of X G a,q,F.binds (b kV dc pm an cd ct)⟩
theorem Dfn.cal (d:Dfn K x st f) (X:K.In h) (G:h.Ns mainGlobals mg) (b:BdA x st ps) (o:∀ fd,Fun K x x st f fd->aJ P w K mg base CX0 k f fd ps (spD K Φ)):Cal P w K mg base k x Φ:=by
 obtain ⟨fd,F,h1,h2,h3⟩:=d.fn X G b
 exact ⟨f,fd,ps,o fd F,h1,h2,h3⟩
end
theorem bd1 {Q:List Value->Prop} (h:∀ a,Q [a]):∀ us:List Value,us.length=1->Q us:=λus e=>match us,e with | [a],_=>h a
theorem bd2 {Q:List Value->Prop} (h:∀ a b,Q [a,b]):∀ us:List Value,us.length=2->Q us:=λus e=>match us,e with | [a,b],_=>h a b
theorem bd3 {Q:List Value->Prop} (h:∀ a b c,Q [a,b,c]):∀ us:List Value,us.length=3->Q us:=λus e=>match us,e with | [a,b,c],_=>h a b c
theorem bd4 {Q:List Value->Prop} (h:∀ a b c d,Q [a,b,c,d]):∀ us:List Value,us.length=4->Q us:=λus e=>match us,e with | [a,b,c,d],_=>h a b c d
theorem bd6 {Q:List Value->Prop} (h:∀ a b c d e f,Q [a,b,c,d,e,f]):∀ us:List Value,us.length=6->Q us:=λus e=>match us,e with | [a,b,c,d,f,g],_=>h a b c d f g
end Hy
namespace Hy
open PySem PySem.Spec PyProof.Rows L2
open Ev (D Den ax aw bc aL)
section
variable {K:PySem.W.Frag} {G H:Hp}
end
noncomputable def uJ:Sl->Option Nd
 | .un=>none
 | .d x=>some (.d x)
 | .o xs=>some (.l (xs.map .d))
 | .n t=>some t
 | .x _=>none
section
variable {K:PySem.W.Frag} {G H:Hp}
theorem ql:∀ {vs:List V} {xs:List D},ax K G vs xs->a5 K G H vs [] (xs.map .d)
 | _,_,.nil=>.nil
 | _,_,.cons h r=>.cons (b1:=[]) (b2:=[]) (.d h) (ql r)
theorem cj.nd {v:V} {bs:List Addr} {s:Sl} {c:Nd} (h:cj K G H (some v) bs s) (e:uJ s=some c):cV K G H v bs c/\bs.Nodup:=by
 cases s with
 | un=>cases e
 | d x=>cases e; obtain ⟨rfl,u,eu,d⟩:=h; cases eu; exact ⟨.d d,List.nodup_nil⟩
 | o xs=>cases e; obtain ⟨a,vs,rfl,e2,h3,h4⟩:=h; cases e2; exact ⟨.l h3 (ql h4),by simp⟩
 | n t=>cases e; obtain ⟨h0,u,eu,h2⟩:=h; cases eu; exact ⟨h2,h0⟩
 | x E=>cases e
theorem a5.snoc {v:V} {c:Nd} {b2:List Addr} (h:cV K G H v b2 c):∀ {vs:List V} {bs:List Addr} {xs:List Nd},a5 K G H vs bs xs->a5 K G H (vs++[v]) (bs++b2) (xs++[c])
 | _,_,_,.nil=>by have:=a5.cons h .nil; rw [List.append_nil] at this; exact this
 | _,_,_,.cons h1 r=>by rw [List.append_assoc]; exact .cons h1 (a5.snoc h r)
end
section
variable {X:Cx} {C:Bool} {τ:List Sl} {x y z:D} {a b e o ix:Expr} {es:List Expr} {pos p q:Pos} {k:Nat} {s:Sl} {N:Po} {rest:List Stmt} {i:Nat} {t c:Nd} {pt:List Nat} {xs:List Nd} {j:Int} {m:Nat}
end
end Hy
namespace Ev
open PySem PySem.Spec PyProof.Rows L2
noncomputable def bad:Str:=⟨#[0x110000]⟩
mutual
noncomputable def eqD:D->D->Bool
 | .non,.non=>true
 | .bl a,.bl b=>a == b
 | .bl a,.int j=>(if a then 1 else 0) == j
 | .int i,.bl b=>i == (if b then 1 else 0)
 | .int a,.int b=>a == b
 | .str a,.str b=>a == b
 | .tup xs,.tup ys=>gM xs ys
 | .lst xs,.lst ys=>gM xs ys
 | .box _,.box _=>true
 | .box _,.str b=>bad == b
 | .str a,.box _=>a == bad
 | .box _,.non | .box _,.bl _ | .box _,.int _ | .box _,.tup _ | .box _,.lst _=>false
 | .non,.box _ | .bl _,.box _ | .int _,.box _ | .tup _,.box _ | .lst _,.box _=>false
 | .non,.bl _ | .non,.int _ | .non,.str _ | .non,.tup _ | .non,.lst _=>false
 | .bl _,.non | .bl _,.str _ | .bl _,.tup _ | .bl _,.lst _=>false
 | .int _,.non | .int _,.str _ | .int _,.tup _ | .int _,.lst _=>false
 | .str _,.non | .str _,.bl _ | .str _,.int _ | .str _,.tup _ | .str _,.lst _=>false
 | .tup _,.non | .tup _,.bl _ | .tup _,.int _ | .tup _,.str _ | .tup _,.lst _=>false
 | .lst _,.non | .lst _,.bl _ | .lst _,.int _ | .lst _,.str _ | .lst _,.tup _=>false
noncomputable def gM:List D->List D->Bool
 | [],[]=>true
 | x :: xs,y :: ys=>eqD x y && gM xs ys
 | [],_ :: _=>false
 | _ :: _,[]=>false
end
mutual
noncomputable def toP:D->PyData
 | .non=>.none
 | .bl b=>.bool b
 | .int i=>.int i
 | .str x=>.str x
 | .tup xs=>.tuple (eZ xs)
 | .lst xs=>.list (eZ xs)
 | .box _=>.str bad
noncomputable def eZ:List D->List PyData
 | []=>[]
 | x :: xs=>toP x :: eZ xs
end
mutual
noncomputable def cln:D->Bool
 | .str x=>PyData.strOk x
 | .tup xs=>de xs
 | .lst xs=>de xs
 | .box _=>false
 | .non | .bl _ | .int _=>true
noncomputable def de:List D->Bool
 | []=>true
 | x :: xs=>cln x && de xs
end
mutual
noncomputable def dep:D->Nat
 | .tup xs=>dZ xs + 1
 | .lst xs=>dZ xs + 1
 | .non | .bl _ | .int _ | .str _ | .box _=>0
noncomputable def dZ:List D->Nat
 | []=>0
 | x :: xs=>max (dep x) (dZ xs)
end
noncomputable def cU (x:D):Prop:=cln x=true/\dep x<=64
noncomputable instance (x:D):Decidable (cU x):=inferInstanceAs (Decidable (_/\_))
mutual
theorem ia:∀ x y:D,PyData.eqv (toP x) (toP y)=eqD x y
 | .non,y=>by cases y <;> simp [toP,PyData.eqv,eqD]
 | .bl a,y=>by cases y <;> simp [toP,PyData.eqv,eqD]
 | .int a,y=>by cases y <;> simp [toP,PyData.eqv,eqD]
 | .str a,y=>by cases y <;> simp [toP,PyData.eqv,eqD]
 | .tup xs,.tup ys=>by simp only [toP,PyData.eqv,eqD]; exact iz xs ys
 | .lst xs,.lst ys=>by simp only [toP,PyData.eqv,eqD]; exact iz xs ys
 | .tup xs,.non=>by simp [toP,PyData.eqv,eqD]
 | .tup xs,.bl _=>by simp [toP,PyData.eqv,eqD]
 | .tup xs,.int _=>by simp [toP,PyData.eqv,eqD]
 | .tup xs,.str _=>by simp [toP,PyData.eqv,eqD]
 | .tup xs,.lst _=>by simp [toP,PyData.eqv,eqD]
 | .lst xs,.non=>by simp [toP,PyData.eqv,eqD]
 | .lst xs,.bl _=>by simp [toP,PyData.eqv,eqD]
 | .lst xs,.int _=>by simp [toP,PyData.eqv,eqD]
 | .lst xs,.str _=>by simp [toP,PyData.eqv,eqD]
 | .lst xs,.tup _=>by simp [toP,PyData.eqv,eqD]
 | .tup xs,.box _=>by simp [toP,PyData.eqv,eqD]
 | .lst xs,.box _=>by simp [toP,PyData.eqv,eqD]
 | .box _,y=>by cases y <;> simp [toP,PyData.eqv,eqD]
theorem iz:∀ xs ys:List D,PyData.eqvAll (eZ xs) (eZ ys)=gM xs ys
 | [],[]=>by simp [eZ,PyData.eqvAll,gM]
 | [],_ :: _=>by simp [eZ,PyData.eqvAll,gM]
 | _ :: _,[]=>by simp [eZ,PyData.eqvAll,gM]
 | x :: xs,y :: ys=>by simp only [eZ,PyData.eqvAll,gM]; rw [ia x y,iz xs ys]
end
mutual
theorem nj:∀ x:D,(toP x).canLay0=cln x
 | .non=>by simp [toP,PyData.canLay0,cln]
 | .bl _=>by simp [toP,PyData.canLay0,cln]
 | .int _=>by simp [toP,PyData.canLay0,cln]
 | .str _=>by simp [toP,PyData.canLay0,cln]
 | .tup xs=>by simp only [toP,PyData.canLay0,cln]; exact iI xs
 | .lst xs=>by simp only [toP,PyData.canLay0,cln]; exact iI xs
 | .box _=>by simp only [toP,PyData.canLay0,cln]; decide +kernel
theorem iI:∀ xs:List D,PyData.canLayAll0 (eZ xs)=de xs
 | []=>by simp [eZ,PyData.canLayAll0,de]
 | x :: xs=>by simp only [eZ,PyData.canLayAll0,de]; rw [nj x,iI xs]
end
mutual
theorem nQ:∀ x:D,(toP x).depth=dep x
 | .non=>by simp [toP,PyData.depth,dep]
 | .bl _=>by simp [toP,PyData.depth,dep]
 | .int _=>by simp [toP,PyData.depth,dep]
 | .str _=>by simp [toP,PyData.depth,dep]
 | .tup xs=>by simp only [toP,PyData.depth,dep]; rw [iL xs]
 | .lst xs=>by simp only [toP,PyData.depth,dep]; rw [iL xs]
 | .box _=>by simp [toP,PyData.depth,dep]
theorem iL:∀ xs:List D,PyData.depthAll (eZ xs)=dZ xs
 | []=>by simp [eZ,PyData.depthAll,dZ]
 | x :: xs=>by simp only [eZ,PyData.depthAll,dZ]; rw [nQ x,iL xs]
end
theorem cb {x:D} (h:cU x):SeqAt.shaped (toP x)=true:=by
 unfold SeqAt.shaped
 rw [nj,nQ,h.1,Bool.true_and]
 exact decide_eq_true h.2
section
variable {X:Cx} {pins:List (Addr × Obj)} {σ:L2.St} {H G:Hp} {s:Shared}
mutual
theorem cM (I:Inv X pins σ H s) (e:ao G H):∀ {v:V} {d:D} {u:Value},Den X.K G v d->RelV v u->cln d=true->∃ as,Reads s.heap u (toP d) as
 | _,_,_,.non,r,_=>by cases r; exact ⟨_,.none⟩
 | _,_,_,.bl,r,_=>by cases r; exact ⟨_,.bool _⟩
 | _,_,_,.int,r,_=>by obtain ⟨t,rfl⟩:=r; exact ⟨_,.int _ _⟩
 | _,_,_,.str,r,_=>by obtain ⟨t,rfl⟩:=r; exact ⟨_,.str _ _⟩
 | _,_,_,.tup h q,r,c=>by
   cases r
   obtain ⟨its,rv,⟨o,h1,h2,n,h3⟩,_⟩:=I.tuple (bc e h)
   obtain ⟨as,z⟩:=gN I e q rv (by rw [cln] at c; exact c)
   exact ⟨_,.tuple h1 h2 h3 (by simpa using z)⟩
 | _,_,_,.lst h q,r,c=>by
   cases r
   obtain ⟨its,rv,⟨o,n,h1,h2,_,h3⟩,_⟩:=I.list (aL e h)
   obtain ⟨as,z⟩:=gN I e q rv (by rw [cln] at c; exact c)
   exact ⟨_,.list h1 h2 h3 (by simpa using z)⟩
 | _,_,_,.box _,_,c=>by rw [cln] at c; cases c
theorem gN (I:Inv X pins σ H s) (e:ao G H):∀ {vs:List V} {ds:List D} {us:List Value},ax X.K G vs ds->Vals vs us->de ds=true->∃ as,ReadsAll s.heap us (eZ ds) as
 | _,_,_,.nil,.nil,_=>⟨_,.nil⟩
 | _,_,_,.cons h q,.cons r rs,c=>by
   rw [de,Bool.and_eq_true] at c
   obtain ⟨as,z⟩:=cM I e h r c.1
   obtain ⟨bs,z'⟩:=gN I e q rs c.2
   exact ⟨_,.cons z z'⟩
end
end
end Ev
namespace Hy
open PySem PySem.Spec PyProof.Rows L2
open Ev (D Den ax aw bc aL Itz Itv tQ u4 mq my eqD cU cM cb ia)
section
variable {X:Cx} {C:Bool} {τ:List Sl} {x y z:D} {a b e c tg it elt:Expr} {es ifs:List Expr} {pos p q:Pos} {k:Nat} {s:Sl} {N:Po} {rest body:List Stmt} {ds xs ys:List D} {i j:Int} {scope:Scope}
theorem nq (M:Nat->Bool->List Sl->Prop) (B:Bk X k) (h0:∃ n t,M n t τ) (hc:∀ n t τ',M n t τ'->PT X c (dT X.K τ' t)) (hb:∀ n τ',M n true τ'->PSs X body (dS X.K τ' { N with nx:=λτ2=>∃ m t,m < n/\M m t τ2,ct:=λτ2=>∃ m t,m < n/\M m t τ2,bk:=λ_=>False }))
   (hr:∀ n τ',M n false τ'->PSs X rest (dS X.K τ' N)):PSs X (.While c body [] pos :: rest) (dS X.K τ N):=by
 have hc':PT X c λσ H Q=>∃ n t τ',M n t τ'/\dT X.K τ' t σ H Q:=λpins s σ H Q I ⟨n,t,τ',m,q⟩=>hc n t τ' m pins s σ H Q I q
 have hb':PSs X body λD σ H=>∃ n τ',M n true τ'/\dS X.K τ' { N with nx:=λτ2=>∃ m t,m < n/\M m t τ2,ct:=λτ2=>∃ m t,m < n/\M m t τ2,bk:=λ_=>False } D σ H:=λpins s σ H D I ⟨n,τ',m,q⟩=>hb n τ' m pins s σ H D I q
 refine bu (M:=λτ'=>∃ n,M n false τ') (psW (pk B.po hc' hb') λD σ H ⟨A,H₀,B,S,Me⟩=>⟨λm σ' H'=>∃ t τ' B',M m t τ'/\Sta X.K A H₀ τ' B' σ' H',?_,?_⟩) λτ' h=>let ⟨n,h⟩:=h; hr n τ' h
 · obtain ⟨n,t,h0⟩:=h0
   exact ⟨n,t,τ,B,h0,S⟩
 rintro m σ' H' ⟨t,τ',B',hM,S'⟩
 refine ⟨m,t,τ',hM,A,H₀,B',S',λH1 e1=>?_⟩
 cases t with
 | false=>exact oj (Me.nx τ' B' σ' H1 ⟨m,hM⟩ (S'.mono e1))
 | true=>
   refine mz ⟨λσ2 H2=>∃ τ2 B2,(∃ n t,n < m/\M n t τ2)/\Sta X.K A H₀ τ2 B2 σ2 H2,λσ2 H2 ⟨τ2,B2,⟨n,t,l,q⟩,S2⟩=>⟨n,l,t,τ2,B2,q,S2⟩,m,τ',hM,A,H₀,B',S'.mono e1,?_⟩
   exact ⟨λτ2 B2 σ2 H2 m S2=>⟨τ2,B2,m,S2⟩,λ_ _ _ _ z=>z.elim,λτ2 B2 σ2 H2 m S2=>⟨τ2,B2,m,S2⟩,Me.rt,Me.xc⟩
noncomputable def gP (xs ys:List D):List D:=(xs.zip ys).map λp=>.tup [p.1,p.2]
theorem cx:(gP xs ys).length=min xs.length ys.length:=by simp [gP]
theorem kK (i:Nat) (h:i < (gP xs ys).length):(gP xs ys)[i]=.tup [xs.getD i .non,ys.getD i .non]:=by
 rw [cx] at h
 simp [gP,show i < xs.length by omega,show i < ys.length by omega]
theorem t4 {K:PySem.W.Frag} {G:Hp} {a b:Addr} {vs ws:List V} (h:SqL K G a vs) (r:ax K G vs xs) (h':SqL K G b ws) (r':ax K G ws ys):Yl K (Itz K a b) (gP xs ys) G:=by
 intro H sg
 have hl:=r.length
 have hl':=r'.length
 refine ⟨λi hi=>⟨vs,ws,aL sg h,aL sg h',by rw [cx] at hi; omega⟩,λi hi=>?_⟩
 have hi':=hi
 rw [cx] at hi'
 obtain ⟨v,hv,dv⟩:=r.get (List.getElem?_eq_getElem (show i < xs.length by omega))
 obtain ⟨w,hw,dw⟩:=r'.get (List.getElem?_eq_getElem (show i < ys.length by omega))
 refine ⟨⟨vs,ws,v,w,aL sg h,aL sg h',hv,hw⟩,λy H' ⟨p,x1,x2,hp,e0,e1,e2,e3⟩=>?_⟩
 subst e0 e1
 have ex:x1=v:=by have:=e2 vs (aL sg h); rw [hv] at this; exact (Option.some.inj this).symm
 have ey:x2=w:=by have:=e3 ws (aL sg h'); rw [hw] at this; exact (Option.some.inj this).symm
 subst ex ey
 refine ⟨aw hp _,λM hM sv=>?_⟩
 rw [kK,show xs.getD i .non=xs[i] by simp [show i < xs.length by omega],show ys.getD i .non=ys[i] by simp [show i < ys.length by omega]]
 have up:=sv.trans (aB (aw hp (.tup [x1,x2])) λ_ z=>z)
 exact .tup (SqT.of (kl hM hp)) (.cons (dv.mono up) (.cons (dw.mono up) .nil))
theorem qV {ts:List Expr} {m:Nat} {tp:Pos} (B:Bk X k) (h:PE X a (dE X.K true τ (.d (.lst xs)))) (h':PE X b (dE X.K true τ (.d (.lst ys)))) (hg:Gl X "zip":=by rfl) (hs:starEach [a,b] X.env=(false,eval a X.env) :: starEach [b] X.env:=by rfl) (hs2:starEach [b] X.env=[(false,eval b X.env)]:=by rfl) :
   PI X (.Tuple ts m tp) (.Call (.Name "zip" p) [a,b] [] pos) (dI X.K τ (gP xs ys)):=
 piW (mq B.calm hg (B.blt _ (by decide)) (aa h (aa h' ag hs2) hs) hs hs2) λσ H R ⟨A,H₀,B,S,k⟩=>cY S λvs H1 e1 d1=>by
   cases d1 with
   | cons d r=>
     cases r with
     | cons d' r=>
       cases r
       cases d with
       | lst h r=>cases d' with
         | lst h' r'=>exact ⟨_,_,rfl,⟨_,aL aR h⟩,⟨_,aL aR h'⟩,k _ H1 e1 (t4 h r h' r')⟩
theorem uZ {K:PySem.W.Frag} {G:Hp} {a:Addr} {vs:List V} (h:SqL K G a vs) (r:ax K G vs xs):Yl K (Itv K a vs.length) xs.reverse G:=by
 intro H sg
 have hl:=r.length
 refine ⟨λi hi=>by rw [List.length_reverse] at hi; show vs.length<=i; omega,λi hi=>?_⟩
 rw [List.length_reverse] at hi
 obtain ⟨v,hv,dv⟩:=r.get (List.getElem?_eq_getElem (show xs.length - 1 - i < xs.length by omega))
 rw [<- hl] at hv
 refine ⟨⟨by omega,vs,v,aL sg h,hv⟩,λx H' ⟨e1,e2⟩=>?_⟩
 subst e1
 have ex:x=v:=by have:=e2 vs (aL sg h); rw [hv] at this; exact (Option.some.inj this).symm
 subst ex
 refine ⟨ao.refl _,λM _ sv=>?_⟩
 rw [List.getElem_reverse]
 exact dv.mono sv
theorem wy (B:Bk X k) (h:PE X a (dE X.K true τ (.d (.lst xs)))) (hg:Gl X "reversed":=by rfl) (hs:starEach [a] X.env=[(false,eval a X.env)]:=by rfl):PI X tg (.Call (.Name "reversed" p) [a] [] pos) (dI X.K τ xs.reverse):=
 piW (my B.calm hg (B.blt _ (by decide)) (aa h ag hs) hs) λσ H R ⟨A,H₀,B,S,k⟩=>cY S λvs H1 e1 d1=>by
   cases d1 with
   | cons d r=>
     cases r
     cases d with
     | lst h r=>exact ⟨_,_,rfl,aL aR h,k _ H1 e1 (uZ h r)⟩
theorem tF (hu:X.A.units + 64 < cLine):OpR X (compareOp .Eq) (λx y H Q=>∃ G d e,ao G H/\Den X.K G x d/\Den X.K G y e/\cU d/\cU e/\Q (.bl (eqD d e)) H):=by
 intro pins s σ H x y v u Q I rx ry ⟨G,d,e,sg,dx,dy,o1,o2,q⟩
 obtain ⟨as,r1⟩:=cM I sg dx rx o1.1
 obtain ⟨bs,r2⟩:=cM I sg dy ry o2.1
 exact eq_dataH r1 r2 (cb o1) (cb o2) hu ⟨.bl _,H,I,by rw [ia]; rfl,q⟩
theorem uz (hu:X.A.units + 64 < cLine):OpR X (compareOp .NotEq) (λx y H Q=>∃ G d e,ao G H/\Den X.K G x d/\Den X.K G y e/\cU d/\cU e/\Q (.bl (!eqD d e)) H):=by
 intro pins s σ H x y v u Q I rx ry ⟨G,d,e,sg,dx,dy,o1,o2,q⟩
 obtain ⟨as,r1⟩:=cM I sg dx rx o1.1
 obtain ⟨bs,r2⟩:=cM I sg dy ry o2.1
 exact ne_dataH r1 r2 (cb o1) (cb o2) hu ⟨.bl _,H,I,by rw [ia]; rfl,q⟩
theorem iF (B:Bk X k) (h1:cU x) (h2:cU y):bZ X (compareOp .Eq) x y (.bl (eqD x y)):=⟨_,tF B.room.units,λM v w H Q _ d1 d2 q=>⟨_,x,y,aR,d1,d2,h1,h2,q _ H (ao.refl _) .bl⟩⟩
theorem p6 (B:Bk X k) (h1:cU x) (h2:cU y):bZ X (compareOp .NotEq) x y (.bl (!eqD x y)):=⟨_,uz B.room.units,λM v w H Q _ d1 d2 q=>⟨_,x,y,aR,d1,d2,h1,h2,q _ H (ao.refl _) .bl⟩⟩
variable {u v:Str}
theorem jK:bZ X (compareOp .Eq) (.str u) (.str v) (.bl (decide (u=v))):=⟨_,sL,λ_ v' w H Q _ d1 d2 k=>by
 cases d1
 cases d2
 exact ⟨rfl,by rw [show decide (V.str u=V.str v)=decide (u=v) by simp]; exact k _ H (ao.refl _) .bl⟩⟩
theorem kW:bZ X (compareOp .NotEq) (.str u) (.str v) (.bl (!decide (u=v))):=⟨_,sW,λ_ v' w H Q _ d1 d2 k=>by
 cases d1
 cases d2
 exact ⟨rfl,by rw [show decide (V.str u=V.str v)=decide (u=v) by simp]; exact k _ H (ao.refl _) .bl⟩⟩
theorem sH {us:List Str}:bZ X (compareOp .In) (.str u) (.tup (us.map .str)) (.bl (us.any λw=>decide (w=u))):=⟨_,jB,λM x' y' H Q _ d1 d2 q=>by
 cases d1
 cases d2 with
 | @tup ad vs _ h r=>
   have ev:vs=us.map V.str:=by
     clear h q
     induction us generalizing vs with
     | nil=>cases r; rfl
     | cons w ws ih=>
       cases r with
       | cons d r=>cases d; rw [ih r]; rfl
   subst ev
   refine ⟨_,_,rfl,.inr (bc aR h),rfl,?_,?_⟩
   · rw [List.all_map,List.all_eq_true]; intro _ _; rfl
   · rw [if_neg Bool.false_ne_true]
     unfold inV
     rw [List.any_map]
     exact q _ H (ao.refl _) (by
       have e:(us.any λw=>decide (w=u))=us.any ((λy=>eqV y (V.str u)) ∘ V.str):=by
         congr 1
       rw [e]; exact .bl)⟩
theorem gR:∀ {bs:List Bool} {us:List Value},Vals (bs.map V.bl) us->us=bs.map Value.bool
 | [],_,h=>by cases h; rfl
 | b :: bs,_,h=>by
   cases h with
   | cons rv rs=>rw [gR rs,show _=Value.bool b from rv]; rfl
theorem qL (hc:X.calm=true):dN X (.builtin "all") (λxs H Q=>∃ (p:Addr) (bs:List Bool),xs=[.ref p]/\SqL X.K H p (bs.map V.bl)/\Q (.bl (bs.all id)) H):=by
 intro pins s σ H xs us Q I r q
 obtain ⟨p,bs,rfl,h,q⟩:=q
 obtain ⟨u,rfl,ru⟩:∃ u,us=[u]/\RelV (.ref p) u:=by
   cases r with
   | cons r1 r=>cases r; exact ⟨_,rfl,r1⟩
 cases (show u=Value.ref _ from ru)
 obtain ⟨its,rv,pl,hz⟩:=I.list h
 obtain rfl:=gR rv
 have lt:∀ a,s.heap.IsList a (bs.map Value.bool).toArray->a ≠ s.heap.objs.size:=λa ⟨o,z,_⟩=>Nat.ne_of_lt (Heap.lt_size z)
 refine call_all_walk (wpAny_pyIter_list pl.isList ⟨_,_,_,_,_,_,λi=>(bs.map Value.bool)[i]? == some (Value.bool true),rfl,Walks.list (A:=X.A.in1) (I.ok.hd hc) _ _ (lt _ pl.isList) (bs.map Value.bool).toArray,⟨⟨_,Heap.get?_push_size _ rfl,rfl,rfl⟩,?_⟩,λi v s' Q' E' hP hQ=>?_,λh' tk hk=>?_⟩)
 · obtain ⟨o,z1,z2⟩:=pl.isList
   exact ⟨o,Heap.get?_push_of_some _ z1,z2⟩
 · have hP':(bs.map Value.bool)[i]?=some v:=by simpa using hP
   obtain ⟨c,_,rfl⟩:=List.mem_map.mp (List.mem_of_getElem? hP')
   refine wpAny_truthy_bool ?_
   have hQ:Q' ((bs.map Value.bool)[i]? == some (Value.bool true)) s':=hQ
   rw [hP'] at hQ
   cases c
   · exact hQ
   · exact hQ
 · refine ⟨.bl (bs.all id),H,I.kept (t':=tk) λb' o z=>?_,?_,q⟩
   · refine hk b' o (λhm=>?_) (Heap.get?_push_of_some _ z)
     have:b'=s.heap.objs.size:=by simpa using hm
     exact absurd (Heap.lt_size z) (by rw [this]; exact Nat.lt_irrefl _)
   · have e:∀ bs:List Bool,bs.all id=(List.range (bs.map Value.bool).toArray.size).all λi=>(bs.map Value.bool)[i]? == some (Value.bool true):=λbs=>by
       rw [List.size_toArray,List.length_map]
       induction bs with
       | nil=>rfl
       | cons b bs ih=>
         rw [List.all_cons,ih,List.length_cons,List.range_succ_eq_map,List.all_cons,List.all_map]
         congr 1
         cases b <;> rfl
     rw [e]; rfl
theorem nu {K:PySem.W.Frag} {H:Hp}:∀ {vs:List V} {bs:List Bool},ax K H vs (bs.map .bl)->vs=bs.map V.bl
 | _,[],h=>by cases h; rfl
 | _,_ :: _,h=>by
   cases h with
   | cons d r=>cases d; rw [nu r]; rfl
theorem e8 (hc:X.calm=true) (bs:List Bool) (hx:xs=bs.map .bl):iW X (.builtin "all") [.lst xs] (.d (.bl (bs.all id))):=⟨_,qL hc,λM vs H Q _ d q=>by
 subst hx
 cases d with
 | cons d r=>
   cases r
   cases d with
   | lst h r=>
     cases nu r
     exact ⟨_,_,rfl,aL aR h,q _ H [] (ao.refl _) c8 (gA .bl)⟩⟩
end
end Hy
namespace Hy
open PySem PySem.Spec PyProof.Rows L2
open Ev (D Den ax aw bc aL aF d0 cR PTs b7 dJ)
section
variable {X:Cx} {C:Bool} {τ:List Sl} {x y z:D} {a b e c tg it elt o:Expr} {es ifs:List Expr} {pos p q:Pos} {k:Nat} {s:Sl} {N:Po} {rest body:List Stmt} {ds xs ys:List D} {i j:Int} {scope:Scope}
theorem rV:OpR X (binaryOp .Mult) (λx y H Q=>∃ l k xs,x=.ref l/\y=.int k/\SqL X.K H l xs/\0<=k/\k < 100000/\xs.length * k.toNat<=sizeLine/\∀ p,H p=none->Q (.ref p) (upd H p (.lst (List.replicate k.toNat xs).flatten))):=by
 intro pins s σ H x y v u Q I rx ry h
 obtain ⟨l,k,xs,rfl,rfl,hH,h1,h2,hz,q⟩:=h
 cases rx
 obtain ⟨t,rfl⟩:=ry
 obtain ⟨its,r,pl,_⟩:=I.list hH
 have hl:=r.length
 obtain ⟨⟨cls,dd,data,sl⟩,e,hc,n,hd⟩:=pl.isList
 simp only at hc hd
 subst hc hd
 have hlen:its.toArray.size * k.toNat<=sizeLine:=by rw [List.size_toArray,<- hl]; exact hz
 have hcap:¬ its.toArray.size * k.toNat > (2 ^ 63 - 1) / 8:=by
   have:(sizeLine:Nat)<=(2 ^ 63 - 1) / 8:=by decide
   omega
 have hfit:¬ (!Builtin.List.listFitsIndex k)=true:=by
   rw [fitsIndex_both (by omega) (by omega)]
   exact Bool.false_ne_true
 have hlong:¬ Builtin.List.listTooLong (its.toArray.size * k.toNat)=true:=by
   rw [qR hlen]
   exact Bool.false_ne_true
 have hnew:List.foldl (λx1 x2=>x1++x2) #[] (List.replicate (if its.toArray.isEmpty=true then 0 else k.toNat) its.toArray)=(List.replicate k.toNat its).flatten.toArray:=by
   have f0:∀ m:Nat,List.foldl (λx1 x2=>x1++x2) #[] (List.replicate m its.toArray)=(List.replicate m its).flatten.toArray:=λm=>by
     have:=foldl_rep its m []
     rw [List.nil_append] at this
     exact this
   rw [f0]
   cases its with
   | nil=>simp
   | cons a r'=>rw [if_neg (by simp)]
 refine wpAny_binaryOp_repeat_ref (T:="list") (U:="int") (by decide) ⟨_,e,rfl⟩ (λs'=>typeIs_int s' k t) noFill_list_mul F.fills_int_mul F.slot_int_rmul repeat_list F.slot_int_index.lookup
   (call_meets F.slot_int_rmul (typeIs_int s k t) F.entry_int_rmul (F.args_int_rmul_2 _ _) (lm_int_rmul_list_any k t l its.toArray n dd sl)
     ⟨e,rfl,⟨_,e,rfl⟩,call_meets F.slot_list_mul ⟨_,e,rfl⟩ F.entry_list_mul (F.args_list_mul_2 _ _) (lm_list_mul_any l its.toArray n dd sl k t hfit hcap hlong) ⟨e,?_⟩⟩)
 rw [hnew]
 exact ⟨.ref _,_,I.wA (t':=s.toks) (r.rep k.toNat) (by rw [len_rep,Nat.mul_comm]; exact hz),rfl,q _ I.fresh⟩
theorem nM {K:PySem.W.Frag} {H:Hp} {vs:List V} (h:ax K H vs xs):∀ k:Nat,ax K H (List.replicate k vs).flatten (List.replicate k xs).flatten
 | 0=>.nil
 | k + 1=>by rw [List.replicate_succ,List.replicate_succ,List.flatten_cons,List.flatten_cons]; exact h.append (nM h k)
theorem wB (ha:PE X a (dE X.K C τ (.d (.lst xs)))) (hb:PE X b (dE X.K C τ (.d (.int j)))) (h0:0<=j) (h1:j < 100000) (hl:xs.length * j.toNat < 1000000):PE X (.BinOp a .Mult b pos) (dE X.K C τ (.o (List.replicate j.toNat xs).flatten)):=peW (pd rV ha hb) λσ H Q ⟨A,H₀,B,S,k⟩=>
 ba S λv H1 e1 d1=>ba (S.mono e1) λw H2 e2 d2=>by
   cases d2
   cases d1 with
   | lst h1' r1=>
     refine ⟨_,j,_,rfl,rfl,aL (aR.trans e2) h1',h0,h1,by rw [r1.length]; exact Nat.le_of_lt (Nat.lt_trans hl (by decide)),λp hp=>?_⟩
     obtain ⟨z1,z2,z3⟩:=j4 (K:=X.K) hp (nM (r1.mono (aB e2 λ_ z=>z)) j.toNat)
     exact k _ _ [p] (e1.trans (e2.trans z1)) (λb hb=>⟨(e1.trans e2).free (z2 b hb).1,(z2 b hb).2⟩) z3
end
section
variable {X:Cx} {C:Bool} {τ τ':List Sl} {x y z:D} {a b e c tg it elt o ix:Expr} {es ifs:List Expr} {pos p q:Pos} {k:Nat} {s:Sl} {N:Po} {rest body:List Stmt} {ds xs ys:List D} {i:Nat} {j:Int} {scope:Scope}
noncomputable def dGs (K:PySem.W.Frag) (τ:List Sl) (xs:List D) (τ':List Sl):TGs:=λvs σ H Q=>∃ A H₀ B,Sta K A H₀ τ B σ H/\ax K (hd H (own A B)) vs xs/\∀ σ' B',Sta K A H₀ τ' B' σ' H->Q σ' H
theorem wm {es:List Expr} {t t':TGs} (h:PGs X es t) (f:∀ v σ H Q,t' v σ H Q->t v σ H Q):PGs X es t':=λpins s σ H v u Q I r q=>h pins s σ H v u Q I r (f v σ H Q q)
theorem qS:PGs X [] (dGs X.K τ [] τ):=wm mT λv σ H Q ⟨A,H₀,B,S,d,k⟩=>by
 cases d
 exact ⟨rfl,k σ B S⟩
theorem dg (i:Nat) {n:Str} (hN:X.N.Nodup) (h:PGs X es (dGs X.K (τ.set i (.d x)) xs τ')) (hi:X.N[i]?=some n:=by rfl) (hx:Loc X.env.scope n:=by first | exact .inl rfl | exact .inr rfl) (hf:X.fn n=true\/X.env.scope.names.lookup n=some .local:=by first | exact .inl rfl | exact .inr rfl | assumption):PGs X (.Name n p :: es) (dGs X.K τ (x :: xs) τ'):=
 wm (iH (fY (i:=i) hN hi hx hf) h) λv σ H Q ⟨A,H₀,B,S,d,k⟩=>by
   cases d with
   | cons d r=>
     have sub:∀ b,own A (upB B i []) b->own A B b:=λb z=>z.elim .inl λ⟨j,z⟩=>(bz z).elim (λz=>nomatch z.2) λz=>.inr ⟨j,z.2⟩
     exact ⟨_,_,rfl,A,H₀,_,S.set (ao.refl _) (bs:=[]) (λ_ z=>nomatch z) (gA d),r.mono (aB (ao.refl _) sub),k⟩
theorem sI {m:Nat} (hc:X.calm=true) (h:PGs X es (dGs X.K τ xs τ')) (hl:(assignEach es X.env).length=xs.length:=by rfl) (hst:(assignEach es X.env).findIdx? (·.1)=none:=by rfl):PG X (.Tuple es m pos) (dG X.K τ (.tup xs) τ'):=
 pgW (px (n:=xs.length) hc h hl hst) λv σ H Q ⟨A,H₀,B,S,d,k⟩=>by
   cases d with
   | tup h r=>exact ⟨_,_,rfl,bc aR h,r.length,A,H₀,B,S,r,k⟩
theorem uY {m:Nat} (he:PE X e (dE X.K true τ (.d x))) (hg:PG X (.Tuple es m p) (dG X.K τ x τ')) (hr:PSs X rest (dS X.K τ' N)) (hs:swapsWithSole [.Tuple es m p] e pos.line X.env=pure false:=by rfl) (hw:swappedStores [.Tuple es m p] e X.env=pure none:=by rfl)
   (h1:(assignEach [.Tuple es m p] X.env).map (·.2)=[assign (.Tuple es m p) X.env]:=by rfl):PSs X (.Assign [.Tuple es m p] e pos :: rest) (dS X.K τ N):=
 bu (M:=(·=τ')) (psW (pG he hg hs hw h1) λD σ H ⟨A,H₀,B,S,Me⟩=>ba S λv H1 e1 d1=>⟨A,H₀,B,S.mono e1,d1,λσ' B' S'=>Me.nx _ _ _ _ rfl S'⟩) λ_ e=>e ▸ hr
theorem u7 (M:Nat->List Sl->Prop) (T:Nat->List Sl->List Sl) (B:Bk X k) (hi:PI X tg it (dI X.K τ xs)) (hg:∀ i (h:i < xs.length) τ',M i τ'->PG X tg (dG X.K τ' xs[i] (T i τ'))) (h0:M 0 τ)
   (hb:∀ i,i < xs.length->∀ τ',M i τ'->PSs X body (dS X.K (T i τ') { N with nx:=M (i + 1),ct:=M (i + 1),bk:=λ_=>False }))
   (hr:∀ τ',M xs.length τ'->PSs X rest (dS X.K τ' N)) (hs:∀ x,foldedSetIterable it X.env x=pure x:=by intro _; rfl):PSs X (.For tg it body [] pos :: rest) (dS X.K τ N):=
 bu (M:=M xs.length) (qM (M:=M) (T:=T) B hi h0 hg (λi h τ' m=>oG (hb i h τ' m) λD σ H ⟨A,H₀,B,S,Me⟩=>⟨A,H₀,B,S,Me.nx,λ_ _ _ _ z=>z.elim,Me.ct,Me.rt,Me.xc⟩) (λ_ m=>m) hs) hr
theorem wM (T:Nat->List Sl) {f:Nat->D} (B:Bk X k) (hi:PI X tg it (dI X.K τ xs)) (hl:xs.length < 1000000) (hT:∀ i,(T i).length=(bg τ (bCp X.N scope)++[Sl.un]).length/\∀ (l:Nat) (x:D),(bg τ (bCp X.N scope)++[Sl.un])[l]?=some (.d x)->(T i)[l]?=some (.d x))
   (hg:∀ i (h:i < xs.length) s H fp,PG (cpX X s H scope fp) tg (dG X.K (bg τ (bCp X.N scope)++[.un]) xs[i] (T i)))
   (he:∀ i,i < xs.length->∀ s H fp,PE (cpX X s H scope fp) elt (dE X.K true (T i) (.d (f i)))) (hc:bOk X.env.scope scope=true:=by kernel_rfl) (hs:∀ x,foldedSetIterable it X.env x=pure x:=by intro _; rfl) :
   Cmp X elt tg it [] scope τ ((List.range xs.length).map f):=by
 have h:=lZ (T:=T) (t:=λ_=>true) (f:=f) (elt:=elt) (ifs:=[]) hc hi hT hg (λi h s H fp=>λpins s' σ H' Q I ⟨A,H₀,B,S,q⟩=>kC pins s' σ H' Q I (q H' (ao.refl _))) (λi h _ s H fp=>he i h s H fp) hl hs
 rwa [List.filter_eq_self.mpr λ_ _=>rfl] at h
theorem rQ {c:Expr} {t:TT} (h:PT X c t):PTs X [c] t:=λpins s σ H Q I q=>wpAny_tests_one (h pins s σ H Q I q)
structure ur (X:Cx) (elt tg it:Expr) (ifs:List Expr) (scope:Scope) (τ:List Sl) (ns:List Nd):Prop where
 ex:∃ (In:TG->TT->TE->Prop) (caps:List (Option Nat)) (N:List Str) (wi:TI),cR X scope N caps/\PI X tg it wi/\(∀ g tt te,In g tt te->∀ s H fp,PG (aF X s H scope N fp) tg g/\PTs (aF X s H scope N fp) ifs tt/\PE (aF X s H scope N fp) elt te) /\
   ∀ C σ H Q,dE X.K C τ (.n (.l ns)) σ H Q->dJ In caps wi σ H Q
 hs:∀ x,foldedSetIterable it X.env x=pure x
theorem wo {ns:List Nd} (h:ur X elt tg it ifs scope τ ns):PE X (.ListComp elt [⟨tg,it,ifs,0⟩] scope pos) (dE X.K C τ (.n (.l ns))):=by
 obtain ⟨In,caps,N,wi,h1,h2,h3,h4⟩:=h.ex
 exact peW (b7 h1 h2 h.hs h3) (h4 C)
theorem rO {T:Nat->List Sl} {f:Nat->Nd} {S':Nat->Sl} (B:Bk X k) (hc:bOk X.env.scope scope=true) (hi:PI X tg it (dI X.K τ xs)) (hT:∀ i,(T i).length=(bg τ (bCp X.N scope)++[Sl.un]).length/\∀ (l:Nat) (x:D),(bg τ (bCp X.N scope)++[Sl.un])[l]?=some (.d x)->(T i)[l]?=some (.d x))
   (hg:∀ i (h:i < xs.length) s H fp,PG (cpX X s H scope fp) tg (dG X.K (bg τ (bCp X.N scope)++[.un]) xs[i] (T i)))
   (he:∀ i,i < xs.length->∀ s H fp,PE (cpX X s H scope fp) elt (dE X.K true (T i) (S' i))) (hn:∀ i,i < xs.length->uJ (S' i)=some (f i)) (hl:xs.length < 1000000) (hs:∀ x,foldedSetIterable it X.env x=pure x:=by intro _; rfl) :
   ur X elt tg it [] scope τ ((List.range xs.length).map f):=by
 obtain ⟨cap,_⟩:=eY hc
 generalize hτ:bg τ (bCp X.N scope)++[Sl.un]=τb at *
 refine ⟨⟨λg tt te=>g=(λv σ H Q=>∃ (i:Nat) (h:i < xs.length),dG X.K τb xs[i] (T i) v σ H Q)/\tt=(λσ H Q=>Q true H)/\te=(λσ H Q=>∃ i,i < xs.length/\dE X.K true (T i) (S' i) σ H Q),_,_,_,cap,hi,?_,?_⟩,hs⟩
 · rintro g tt te ⟨rfl,rfl,rfl⟩ s H fp
   exact ⟨λpins s' σ H' v u Q I r ⟨i,h,q⟩=>hg i h s H fp pins s' σ H' v u Q I r q,kC,λpins s' σ H' Q I ⟨i,h,q⟩=>he i h s H fp pins s' σ H' Q I q⟩
 rintro C σ H Q ⟨A,H₀,B,S,kk⟩
 refine ⟨A,H₀,B,S,λJ H1 e1 yl=>⟨_,_,_,⟨rfl,rfl,rfl⟩,λD hD=>?_⟩⟩
 have S1:=S.mono e1
 have flat:∀ (l:Nat) (s:Sl),τb[l]?=some s->s=.un\/∃ x,s=.d x:=λl s h=>by
   rw [<- hτ] at h
   rcases List.mem_append.mp (List.mem_of_getElem? h) with z | z
   · unfold bg at z
     obtain ⟨o,_,ho⟩:=List.mem_map.mp z
     split at ho
     · split at ho
       · exact .inr ⟨_,ho.symm⟩
       · exact .inl ho.symm
     · exact .inl ho.symm
   · exact .inl (List.mem_singleton.mp z)
 have slots:∀ {σ':L2.St} {H':Hp} {rs:List Addr},ao H1 H'->(∃ o,H' D=some o)->(∀ b ∈ rs,∃ o,H' b=some o)->σ'.length=τb.length->(∀ (l:Nat) (s:Sl),τb[l]?=some s->cj X.K (hd H' λb=>own A B b\/b=D\/b ∈ rs) H' (σ'[l]?).join [] s)->Sta X.K (λb=>own A B b\/b=D\/b ∈ rs) H' τb (λ_=>[]) σ' H':=λ{σ' H' rs} e1 e2 e5 e3 e4=>
   ⟨ao.refl _,e3,λl s h=>(e4 l s h).mono (aB (ao.refl _) λ_ z=>z.elim id λ⟨_,z⟩=>(nomatch z)) (ao.refl _),λ_ _ z=>(nomatch z),λ_ _ _ z=>(nomatch z),λb z=>z.elim (λz=>let ⟨o,q⟩:=S1.dm b z; ⟨o,e1 _ _ q⟩) λz=>z.elim (λz=>z ▸ e2) (e5 b),λ_ _ z=>(nomatch z)⟩
 refine ⟨λi m σ' H'=>m=xs.length - i/\i<=xs.length/\ao H1 H'/\(∃ vs rs,H' D=some (.lst vs)/\vs.length<=i/\a5 X.K (hd H' λb=>own A B b\/b=D\/b ∈ rs) H' vs rs ((List.range i).map f)/\(D :: rs).Nodup/\(∀ b ∈ rs,H1 b=none) /\
   σ'.length=τb.length/\∀ (l:Nat) (s:Sl),τb[l]?=some s->cj X.K (hd H' λb=>own A B b\/b=D\/b ∈ rs) H' (σ'[l]?).join [] s),⟨xs.length,rfl,Nat.zero_le _,aw hD _,[],[],aV,Nat.le_refl _,.nil,by simp,λ_ z=>(nomatch z),?_,λl s h=>?_⟩,?_⟩
 · rw [<- hτ]; unfold d0 bg; rw [List.length_append,List.length_append,List.length_map,List.length_map]; rfl
 · have hv:ao (hd H (own A B)) (hd (upd H1 D (.lst [])) λb=>own A B b\/b=D\/b ∈ ([]:List Addr)):=λb o z=>by
     obtain ⟨z1,z2⟩:=aD.mp z
     have z2:=e1 _ _ z2
     have ne:b ≠ D:=λz=>by rw [z,hD] at z2; cases z2
     exact aD.mpr ⟨λy=>y.elim z1 λy=>y.elim ne λy=>(nomatch y),by rw [az ne]; exact z2⟩
   rcases flat l s h with rfl | ⟨x,rfl⟩
   · rfl
   · rw [<- hτ] at h
     have hlt:l < (bCp X.N scope).length:=by
       rcases Nat.lt_or_ge l (bCp X.N scope).length with h' | h'
       · exact h'
       · exfalso
         rw [List.getElem?_append_right (by unfold bg; rw [List.length_map]; exact h')] at h
         cases e:l - (bg τ (bCp X.N scope)).length with
         | zero=>rw [e] at h; cases h
         | succ n=>rw [e] at h; cases h
     rw [List.getElem?_append_left (by unfold bg; rw [List.length_map]; exact hlt)] at h
     rw [List.getElem?_append_left (by unfold d0; rw [List.length_map]; exact hlt)]
     unfold bg at h
     unfold d0
     rw [List.getElem?_map] at h ⊢
     cases e:(bCp X.N scope)[l]? with
     | none=>rw [e] at h; cases h
     | some o=>
       rw [e] at h
       cases o with
       | none=>cases h
       | some i=>
         simp only [Option.map_some,Option.some.injEq] at h
         split at h
         · rename_i x' hx'
           cases h
           obtain ⟨_,u,eu,d⟩:=S.sl i _ hx'
           exact ⟨rfl,u,by simpa using eu,d.mono hv⟩
         · cases h
 rintro i m σ' H' ⟨rfl,hi,e2,vs,rs,hv1,hv2,hv3,hnd,hfr,hlen,hsl⟩
 obtain ⟨y1,y2⟩:=yl H' (aR.trans e2)
 have rsd:∀ b ∈ rs,∃ o,H' b=some o:=hv3.some_of
 by_cases hlt:i < xs.length
 · obtain ⟨g,y⟩:=y2 i hlt
   refine .inr ⟨g,λx H2 hy=>?_⟩
   obtain ⟨e3,dx⟩:=y x H2 hy
   have S2:=slots e2 ⟨_,hv1⟩ rsd hlen hsl
   have o0:∀ b,own (λb=>own A B b\/b=D\/b ∈ rs) (λ_=>([]:List Addr)) b->own A B b\/b=D\/b ∈ rs:=λb z=>z.elim id λ⟨_,z⟩=>(nomatch z)
   have dx':=dx _ S2.dm (λb o z=>by
     obtain ⟨z1,z2⟩:=aD.mp z
     exact aD.mpr ⟨λy=>(o0 b y).elim z1 λy=>y.elim (λy=>(by rw [y,hD] at z2; cases z2)) λy=>(by rw [hfr b y] at z2; cases z2),e2 _ _ z2⟩)
   refine ⟨i,hlt,_,_,_,S2.mono e3,dx',λσ2 B2 S3=>?_⟩
   refine mz ⟨i,hlt,_,_,_,S3,λv H5 bs e5 hf5 d5=>?_⟩
   obtain ⟨nv,ndv⟩:=d5.nd (hn i hlt)
   have e6:=e3.trans e5
   have hv5:=e6 _ _ hv1
   have bsD:∀ b ∈ bs,b ≠ D:=λb hb z=>by have:=(hf5 b hb).1; rw [z,e3 _ _ hv1] at this; cases this
   have bsR:∀ b ∈ bs,b ∉ rs:=λb hb z=>by obtain ⟨o,q⟩:=rsd b z; have:=(hf5 b hb).1; rw [e3 _ _ q] at this; cases this
   refine ⟨vs,xs.length - (i + 1),hv5,Nat.lt_trans (Nat.lt_of_le_of_lt hv2 (Nat.lt_trans hlt hl)) (by decide),by omega,rfl,hlt,?_,vs++[v],rs++bs,aV,by rw [List.length_append]; exact Nat.succ_le_succ hv2,?_,?_,?_,S3.len.trans (hT i).1,λl s h=>?_⟩
   · intro b o z
     have ne:b ≠ D:=λy=>by rw [y,hD] at z; cases z
     rw [az ne]
     exact e6 _ _ (e2 _ _ z)
   · rw [List.range_succ,List.map_append]
     have sm1:ao (hd H5 λb=>vw true (λb=>own A B b\/b=D\/b ∈ rs) B2 b\/b ∈ bs) (hd (upd H5 D (.lst (vs++[v]))) λb=>own A B b\/b=D\/b ∈ rs++bs):=λb o z=>by
       obtain ⟨z1,z2⟩:=aD.mp z
       refine aD.mpr ⟨λy=>z1 ?_,by rw [az (λy:b=D=>z1 (.inl (.inl (.inr (.inl y)))))]; exact z2⟩
       rcases y with y | y | y
       · exact .inl (.inl (.inl y))
       · exact .inl (.inl (.inr (.inl y)))
       · exact (List.mem_append.mp y).elim (λy=>.inl (.inl (.inr (.inr y)))) .inr
     have sm2:ao (hd H' λb=>own A B b\/b=D\/b ∈ rs) (hd (upd H5 D (.lst (vs++[v]))) λb=>own A B b\/b=D\/b ∈ rs++bs):=λb o z=>by
       obtain ⟨z1,z2⟩:=aD.mp z
       refine aD.mpr ⟨λy=>?_,by rw [az (λy:b=D=>z1 (.inr (.inl y)))]; exact e6 _ _ z2⟩
       rcases y with y | y | y
       · exact z1 (.inl y)
       · exact z1 (.inr (.inl y))
       · rcases List.mem_append.mp y with y | y
         · exact z1 (.inr (.inr y))
         · have:=(hf5 b y).1; rw [e3 _ _ z2] at this; cases this
     refine a5.snoc (nv.frame sm1 λb hb=>az (bsD b hb)) (hv3.frame sm2 λb hb=>?_)
     obtain ⟨o,q⟩:=rsd b hb
     rw [az (λz:b=D=>(List.nodup_cons.mp hnd).1 (by rw [<- z]; exact hb)),e6 _ _ q,q]
   · obtain ⟨n1,n2⟩:=List.nodup_cons.mp hnd
     refine List.nodup_cons.mpr ⟨λz=>?_,List.nodup_append.mpr ⟨n2,ndv,λx hx y hy z=>bsR y hy (z ▸ hx)⟩⟩
     exact (List.mem_append.mp z).elim n1 λz=>bsD D z rfl
   · intro b hb
     rcases List.mem_append.mp hb with z | z
     · exact hfr b z
     · exact (e2.trans e3).free (hf5 b z).1
   · rcases flat l s h with rfl | ⟨x,rfl⟩
     · rfl
     · obtain ⟨_,u,eu,d⟩:=S3.sl l _ ((hT i).2 l x h)
       refine ⟨rfl,u,eu,d.mono λb o z=>?_⟩
       obtain ⟨z1,z2⟩:=aD.mp z
       refine aD.mpr ⟨λy=>?_,by rw [az (λy:b=D=>z1 (.inl (.inr (.inl y))))]; exact e5 _ _ z2⟩
       rcases y with y | y | y
       · exact z1 (.inl (.inl y))
       · exact z1 (.inl (.inr (.inl y)))
       · rcases List.mem_append.mp y with y | y
         · exact z1 (.inl (.inr (.inr y)))
         · rw [(hf5 b y).1] at z2; cases z2
 · have e:i=xs.length:=by omega
   subst e
   refine .inl ⟨y1 _ (Nat.le_refl _),kk _ _ (D :: rs) (e1.trans e2) (λb hb=>?_) ⟨hnd,_,rfl,.l hv1 (hv3.frame (aB (ao.refl _) λb z=>?_) λ_ _=>rfl)⟩⟩
   · rcases List.mem_cons.mp hb with rfl | z
     · exact ⟨e1.free hD,_,hv1⟩
     · exact ⟨e1.free (hfr b z),rsd b z⟩
   · rcases z with z | z
     · exact .inl (iV z)
     · exact .inr ((List.mem_cons.mp z).elim .inl .inr)
theorem xj (j:Nat) {n:Str} {g:Nat->D} {f:Nat->Nd} {S':Nat->Sl} (B:Bk X k) (hi:PI X (.Name n p) it (dI X.K τ xs)) (hx:∀ i (h:i < xs.length),xs[i]=g i) (hl:xs.length < 1000000)
   (he:∀ i,i < xs.length->∀ s H fp,PE (cpX X s H scope fp) elt (dE X.K true ((bg τ (bCp X.N scope)++[Sl.un]).set j (.d (g i))) (S' i))) (hn:∀ i,i < xs.length->uJ (S' i)=some (f i))
   (hc:bOk X.env.scope scope=true:=by kernel_rfl) (hu:(bg τ (bCp X.N scope)++[Sl.un])[j]?=some .un:=by rfl) (hN:(bNm scope++[("#" : Str)])[j]?=some n:=by rfl) (hv:∀ s H fp,Loc (cpX X s H scope fp).env.scope n:=by intro _ _ _; first | exact .inl rfl | exact .inr rfl)
   (hf:∀ s H fp,(cpX X s H scope fp).fn n=true\/(cpX X s H scope fp).env.scope.names.lookup n=some .local:=by intro _ _ _; first | exact .inr rfl | exact .inl rfl) (hs:∀ x,foldedSetIterable it X.env x=pure x:=by intro _; rfl) :
   ur X elt (.Name n p) it [] scope τ ((List.range xs.length).map f):=by
 refine rO (T:=λi=>(bg τ (bCp X.N scope)++[Sl.un]).set j (.d (g i))) B hc hi (λi=>⟨List.length_set,λl x h=>?_⟩) (λi h s H fp=>?_) he hn hl hs
 · rw [List.getElem?_set_ne (λz=>by rw [<- z,hu] at h; cases h)]
   exact h
 · rw [hx i h]
   exact si j (eY hc).2 hN (hv s H fp) (hf s H fp)
end
section
variable {X:Cx} {C:Bool} {τ τ':List Sl} {x y z:D} {a b e c tg it elt o ix:Expr} {es ifs:List Expr} {pos p q:Pos} {k:Nat} {s:Sl} {N:Po} {rest body:List Stmt} {ds xs ys:List D} {i:Nat} {scope:Scope}
theorem uT (j l:Nat) {n m:Str} {p2 pt:Pos} {md:Nat} {g g' f:Nat->D} (B:Bk X k) (hi:PI X (.Tuple [.Name n p,.Name m p2] md pt) it (dI X.K τ xs)) (hx:∀ i (h:i < xs.length),xs[i]=.tup [g i,g' i]) (hl:xs.length < 1000000)
   (he:∀ i,i < xs.length->∀ s H fp,PE (cpX X s H scope fp) elt (dE X.K true (((bg τ (bCp X.N scope)++[Sl.un]).set j (.d (g i))).set l (.d (g' i))) (.d (f i))))
   (hc:bOk X.env.scope scope=true:=by kernel_rfl) (hu:(bg τ (bCp X.N scope)++[Sl.un])[j]?=some .un:=by rfl) (hu':(bg τ (bCp X.N scope)++[Sl.un])[l]?=some .un:=by rfl) (hN:(bNm scope++[("#" : Str)])[j]?=some n:=by rfl) (hN':(bNm scope++[("#" : Str)])[l]?=some m:=by rfl) (hv:∀ s H fp,Loc (cpX X s H scope fp).env.scope n:=by intro _ _ _; first | exact .inl rfl | exact .inr rfl) (hv':∀ s H fp,Loc (cpX X s H scope fp).env.scope m:=by intro _ _ _; first | exact .inl rfl | exact .inr rfl)
   (hf:∀ s H fp,(cpX X s H scope fp).fn n=true\/(cpX X s H scope fp).env.scope.names.lookup n=some .local:=by intro _ _ _; first | exact .inr rfl | exact .inl rfl) (hf':∀ s H fp,(cpX X s H scope fp).fn m=true\/(cpX X s H scope fp).env.scope.names.lookup m=some .local:=by intro _ _ _; first | exact .inr rfl | exact .inl rfl) (hs:∀ x,foldedSetIterable it X.env x=pure x:=by intro _; rfl) :
   Cmp X elt (.Tuple [.Name n p,.Name m p2] md pt) it [] scope τ ((List.range xs.length).map f):=
 wM (λi=>((bg τ (bCp X.N scope)++[Sl.un]).set j (.d (g i))).set l (.d (g' i))) B hi hl (λi=>⟨by rw [List.length_set,List.length_set],λr x h=>by
     rw [List.getElem?_set_ne (λz=>by rw [<- z,hu'] at h; cases h),List.getElem?_set_ne (λz=>by rw [<- z,hu] at h; cases h)]
     exact h⟩)
   (λi h s H fp=>by rw [hx i h]; exact sD j l (B.comp s H scope fp).calm (eY hc).2 hN hN' (hv s H fp) (hv' s H fp) (hf s H fp) (hf' s H fp)) he hc hs
theorem vV {ns ms:List Int} (i:Nat) (h:i < (gP (ns.map D.int) (ms.map D.int)).length):(gP (ns.map D.int) (ms.map D.int))[i]=.tup [.int (ns.getD i 0),.int (ms.getD i 0)]:=by
 rw [kK]
 rw [cx,List.length_map,List.length_map] at h
 simp [show i < ns.length by omega,show i < ms.length by omega]
end
end Hy
namespace Hy
open PySem PySem.Spec PyProof.Rows L2
open Ev (D Den ax aw bc aL)
section
variable {X:Cx} {C:Bool} {τ:List Sl} {x y z:D} {a b e o ix:Expr} {es:List Expr} {pos p q:Pos} {k:Nat} {s:Sl} {N:Po} {rest:List Stmt} {i j:Nat} {t c:Nd} {pt:List Nat} {xs:List Nd} {m:Nat}
end
end Hy
namespace Hy
open PySem PySem.Spec PyProof.Rows L2
open Ev (D Den ax)
theorem _root_.L2.Fun.uw {K:PySem.W.Frag} {x qual:Str} {st:Stmt} {f T:Addr} {fd:FuncData} {ps:List Str} {c:Value} {d:Option Addr} {items:Array Value} {n:Nat} {sl:Array (Option Value)} (_:L2.Fun K x qual st f fd) (hd:fd.defaults=.ref T) (lT:K.lookup T=some ⟨c,d,.seq items n,sl⟩)
   (h:∀ us:List Value,us.length=ps.length->∃ k,bindArgs fd ⟨us,[]⟩=seqItems? fd.defaults >>= k/\k (some items)=pure (ps.zip us)):L2.Binds K fd ps []:=λs us X hl=>by
 rw [List.append_nil] at hl ⊢
 obtain ⟨k,h1,h2⟩:=h us hl
 exact .of_defaults hd (X _ _ lT) rfl h1 h2
noncomputable def qr (K:PySem.W.Frag) (x:Str) (st:Stmt) (f:Addr) (i:Int):Prop:=PySem.W.nsIn K mainGlobals x=some (some (.ref f))/\(∃ oc od kV dc pm an cd ct sl T td tl tc tt tn,K.lookup f=some ⟨oc,od,.func (PySem.W.fnOf x x (bO st) (bp st) (ai st) (.ref T) kV dc pm an cd ct),sl⟩/\PySem.W.codeIn K cd x=true/\K.lookup T=some ⟨tc,td,.seq #[.int i tt] tn,tl⟩)/\PySem.W.keepIn K (.ref f)=true
section
variable {P:Program} {w:World} {K:PySem.W.Frag} {h:Heap} {mg:Str->Option Value} {base:Heap} {x:Str} {st:Stmt} {f:Addr} {ps:List Str} {k:Nat} {Φ:List D->Sl->Prop} {i:Int}
theorem qr.of {oc tc:Value} {od an td:Option Addr} {kV dc pm cd ct:Value} {sl tl:Array (Option Value)} {T:Addr} {tt:Tok} {tn:Nat} (a:PySem.W.nsIn K mainGlobals x=some (some (.ref f))) (l:K.lookup f=some ⟨oc,od,.func (PySem.W.fnOf x x (bO st) (bp st) (ai st) (.ref T) kV dc pm an cd ct),sl⟩) (c:PySem.W.codeIn K cd x=true) (d:K.lookup T=some ⟨tc,td,.seq #[.int i tt] tn,tl⟩) (k:PySem.W.keepIn K (.ref f)=true):qr K x st f i:=⟨a,⟨_,_,_,_,_,_,_,_,_,_,_,_,_,_,_,l,c,d⟩,k⟩
theorem qr.cal (d:qr K x st f i) (X:K.In h) (G:h.Ns mainGlobals mg) (b:∀ (T:Addr) (tt:Tok) (kV dc pm:Value) (an:Option Addr) (cd ct:Value) (us:List Value),us.length=ps.length->∃ k,bindArgs (PySem.W.fnOf x x (bO st) (bp st) (ai st) (.ref T) kV dc pm an cd ct) ⟨us,[]⟩=seqItems? (.ref T) >>= k/\k (some #[.int i tt])=pure (ps.zip us))
   (o:∀ fd,Fun K x x st f fd->aJ P w K mg base CX0 k f fd ps (spD K Φ)):Cal P w K mg base k x Φ:=by
 obtain ⟨a,⟨oc,od,kV,dc,pm,an,cd,ct,sl,T,td,tl,tc,tt,tn,l,c',dt⟩,q⟩:=d
 have F:=l6 l c' q
 exact ⟨f,_,ps,o _ F,PySem.W.mg_of X G a,q,F.uw rfl dt (b T tt kV dc pm an cd ct)⟩
end
section
variable {K:PySem.W.Frag} {G G' H:Hp}
end
section
variable {K:PySem.W.Frag} {A:Addr->Prop} {H₀ H H':Hp} {τ:List Sl} {B:Nat->List Addr} {σ:L2.St}
end
section
variable {X:Cx} {τ:List Sl} {x y z:D} {a b e c:Expr} {es:List Expr} {pos p q:Pos} {k:Nat} {s:Sl} {ds:List D} {N:Po} {rest body:List Stmt}
end
section
variable {P:Program} {w:World} {K:PySem.W.Frag} {mg:Str->Option Value} {base:Heap}
end
section
variable {X:Cx} {τ:List Sl} {es:List Expr} {pos p q pr:Pos} {k:Nat} {s:Sl} {ds:List D} {N:Po} {rest:List Stmt}
end
end Hy
namespace Hy
open PySem PySem.Spec PyProof.Rows L2
open Ev (D Den ax aM aG aw bc aL)
section
variable {X:Cx} {i:Int}
theorem mj {ns:List Int}:bZ X (compareOp .NotIn) (.int i) (.tup (ns.map .int)) (.bl (!ns.any λw=>decide (w=i))):=⟨_,j8,λM x' y' H Q _ d1 d2 q=>by
 cases d1
 cases d2 with
 | @tup ad vs _ h r=>
   cases lF r
   refine ⟨_,_,rfl,.inr (bc aR h),rfl,?_,?_⟩
   · rw [List.all_map,List.all_eq_true]; intro _ _; rfl
   · have e:(ns.any λw=>decide (w=i))=inV (.int i) (ns.map V.int):=by unfold inV; rw [List.any_map]; congr 1
     rw [if_pos rfl]
     rw [e] at q
     exact q _ H (ao.refl _) .bl⟩
end
end Hy
namespace Su
open PySem PyProof.Rows HT
open PySem.SeqAt
open PySem.AutoSeq1 (wpAny_loadPart')
open PySem.MeetsSeq PySem.MeetsSeq2 PySem.MeetsSeq3
section
variable {prog:Program} {w:World} {A:Around} {E:Value->Shared->Prop} {s:Shared}
end
end Su
namespace Hy
open PySem PySem.Spec PyProof.Rows L2
open Ev (D Den ax aM aG aw bc aL)
section
variable {X:Cx} {C:Bool} {τ:List Sl} {x y z:D} {a b e:Expr} {es:List Expr} {pos p:Pos} {k:Nat} {s:Sl} {ds xs ys:List D} {i j:Int} {N:Po} {rest:List Stmt}
theorem t9:iW X (.type "tuple") [.lst xs] (.d (.tup xs)):=⟨_,jo,λM vs H Q hM d q=>by
 cases d with
 | cons d r=>
   cases r
   cases d with
   | @lst a us _ h r=>
     refine ⟨_,_,rfl,.inl ⟨aL aR h,λp hp=>?_⟩⟩
     have e:=aw hp (.tup us)
     exact q _ _ [] e c8 (gA (.tup (SqT.of (kl hM hp)) (r.mono (aB e λ_ z=>z))))⟩
end
section
variable {X:Cx} {C:Bool} {τ:List Sl} {x y z:D} {a b e:Expr} {es:List Expr} {pos p:Pos} {k:Nat} {s:Sl} {ds xs ys:List D} {N:Po} {rest:List Stmt}
end
end Hy
namespace Hy
open PySem PySem.Spec PyProof.Rows L2
open Ev (D Den ax aw bc aL)
section
variable {X:Cx}
end
section
variable {X:Cx} {C:Bool} {τ:List Sl} {x y z:D} {a b e f o ix:Expr} {es:List Expr} {pos p q:Pos} {k:Nat} {s:Sl} {N:Po} {rest:List Stmt} {i:Nat} {t c:Nd} {pt:List Nat} {xs:List Nd} {j:Int} {m:Nat}
end
end Hy
namespace Hy
open PySem PySem.Spec PyProof.Rows L2
open Ev (D Den ax)
theorem u3 {es:List Expr} {m:Nat} {p:Pos} {r:List Expr} {env:Env}:starEach (.Tuple es m p :: r) env=(false,eval (.Tuple es m p) env) :: starEach r env:=rfl
theorem tZ {es:List Expr} {p:Pos} {r:List Expr} {env:Env}:starEach (.List es p :: r) env=(false,eval (.List es p) env) :: starEach r env:=rfl
theorem kM {c:Const} {m:Nat} {p:Pos} {r:List Expr} {env:Env}:starEach (.Constant c m p :: r) env=(false,eval (.Constant c m p) env) :: starEach r env:=rfl
theorem uK {a b:Expr} {o:Operator} {p:Pos} {r:List Expr} {env:Env}:starEach (.BinOp a o b p :: r) env=(false,eval (.BinOp a o b p) env) :: starEach r env:=rfl
theorem uX {a:Expr} {o:UnaryOp} {p:Pos} {r:List Expr} {env:Env}:starEach (.UnaryOp o a p :: r) env=(false,eval (.UnaryOp o a p) env) :: starEach r env:=rfl
theorem tW {a:Str} {p:Pos} {r:List Expr} {env:Env}:starEach (.Name a p :: r) env=(false,eval (.Name a p) env) :: starEach r env:=rfl
theorem tG {es:List Expr} {p:Pos} {t:Option Expr} {l:Nat} {env:Env}:swapsWith (.List es p) t l env=pure false:=rfl
theorem cc {a b:Expr} {o:Operator} {p:Pos} {t:Option Expr} {l:Nat} {env:Env}:swapsWith (.BinOp a o b p) t l env=pure false:=rfl
section
variable {X:Cx} {C:Bool} {τ:List Sl} {x:D} {ds:List D} {es r:List Expr} {a b:Expr} {m:Nat} {p pos:Pos}
structure QE (X:Cx) (e:Expr) (t:TE):Prop where
 out:PE X e t
structure QA (X:Cx) (es:List Expr) (t:TA):Prop where
 out:PA X es t
variable {xs:List D}
theorem ay:QA X [] (dA X.K C τ []):=⟨ag⟩
theorem aY (h:QA X es (dA X.K C τ ds)) (hr:QA X r (dA X.K C τ xs)) (hl:Nat.ble ds.length 1000=true:=by rfl):QA X (.Tuple es m pos :: r) (dA X.K C τ (.tup ds :: xs)):=⟨aa (bH h.out hl) hr.out u3⟩
theorem bq (h:QA X es (dA X.K C τ ds)) (hr:QA X r (dA X.K C τ xs)) (hl:Nat.ble ds.length 1000=true:=by rfl):QA X (.List es pos :: r) (dA X.K C τ (.lst ds :: xs)):=⟨aa (aQ (bG h.out hl)) hr.out tZ⟩
theorem a9 {n:Int} (hr:QA X r (dA X.K C τ xs)):QA X (.Constant (.int n) m pos :: r) (dA X.K C τ (.int n :: xs)):=⟨aa af hr.out kM⟩
theorem a7 {n:Str} (hr:QA X r (dA X.K C τ xs)):QA X (.Constant (.str n) m pos :: r) (dA X.K C τ (.str n :: xs)):=⟨aa aN hr.out kM⟩
theorem qJ (hr:QA X r (dA X.K C τ xs)):QA X (.Constant .none m pos :: r) (dA X.K C τ (.non :: xs)):=⟨aa v7 hr.out kM⟩
theorem vB {n:Bool} (hr:QA X r (dA X.K C τ xs)):QA X (.Constant (.bool n) m pos :: r) (dA X.K C τ (.bl n :: xs)):=⟨aa b5 hr.out kM⟩
theorem qs {o:Operator} (h:PE X (.BinOp a o b p) (dE X.K C τ (.d x))) (hr:QA X r (dA X.K C τ xs)):QA X (.BinOp a o b p :: r) (dA X.K C τ (x :: xs)):=⟨aa h hr.out uK⟩
theorem wt {o:UnaryOp} (h:PE X (.UnaryOp o a p) (dE X.K C τ (.d x))) (hr:QA X r (dA X.K C τ xs)):QA X (.UnaryOp o a p :: r) (dA X.K C τ (x :: xs)):=⟨aa h hr.out uX⟩
theorem dQ {n:Str} (h:PE X (.Name n p) (dE X.K C τ (.d x))) (hr:QA X r (dA X.K C τ xs)):QA X (.Name n p :: r) (dA X.K C τ (x :: xs)):=⟨aa h hr.out tW⟩
theorem sU (h:PE X a (dE X.K C τ (.d x))) (hr:QA X r (dA X.K C τ xs)) (hs:starEach (a :: r) X.env=(false,eval a X.env) :: starEach r X.env:=by rfl):QA X (a :: r) (dA X.K C τ (x :: xs)):=⟨aa h hr.out hs⟩
theorem b9 (h:QA X es (dA X.K C τ ds)) (hl:Nat.ble ds.length 1000=true:=by rfl):QE X (.List es pos) (dE X.K C τ (.o ds)):=⟨bG h.out hl⟩
theorem vQ (h:QA X es (dA X.K C τ ds)) (hl:Nat.ble ds.length 1000=true:=by rfl):QE X (.Tuple es m pos) (dE X.K C τ (.d (.tup ds))):=⟨bH h.out hl⟩
theorem ed {ys:List D} (ha:PE X a (dE X.K C τ (.d (.lst xs)))) (hb:QE X b (dE X.K C τ (.o ys))) (hl:xs.length + ys.length < 1000000):QE X (.BinOp a .Add b pos) (dE X.K C τ (.o (xs++ys))):=⟨fh ha (aQ hb.out) hl⟩
structure PQ (X:Cx) (body:List Stmt) (t:TS):Prop where
 out:PSs X body t
variable {s:Sl} {N:Po} {rest:List Stmt} {e:Expr} {y:D}
theorem cP (i:Nat) {n:Str} {p:Pos} (hN:X.N.Nodup) (he:QE X e (dE X.K true τ s)) (hr:PQ X rest (dS X.K (τ.set i s) N)) (hi:X.N[i]?=some n:=by rfl) (hx:Loc X.env.scope n:=by first | exact .inl rfl | exact .inr rfl) (hs:swapsWith e (some (.Name n p)) pos.line X.env=pure false:=by rfl)
   (hf:X.fn n=true\/X.env.scope.names.lookup n=some .local:=by first | exact .inl rfl | exact .inr rfl | assumption):PQ X (.Assign [.Name n p] e pos :: rest) (dS X.K τ N):=⟨aE i hN he.out hr.out hi hx hs hf⟩
theorem hX (i:Nat) {s:Sl} {x:D} (h:PQ X rest (dS X.K (τ.set i (.d x)) N)) (hi:τ[i]?=some s:=by rfl) (hx:fzD s=some x:=by rfl):PQ X rest (dS X.K τ N):=⟨gC i h.out hi hx⟩
theorem wj (he:PE X e (dE X.K false τ s)) (h:N.rt s):PQ X (.Return (some e) pos :: rest) (dS X.K τ N):=⟨au he h⟩
end
section
variable {P:Program} {w:World} {K:PySem.W.Frag} {mg:Str->Option Value} {base:Heap}
theorem fnQ {x qual:Str} {st:Stmt} {f:Addr} {fd:FuncData} {N ps:List Str} {k:Nat} {Φ:List D->Sl->Prop} (F:Fun K x qual st f fd) (S:aq N ps (ai st)) (hb:∀ x ∈ aj,mg x=none) (len:∀ ds r,Φ ds r->ds.length=ps.length)
   (body:∀ ds r,Φ ds r->∀ cdv A outer s H E,Bk (Xc P w K mg base N qual st f cdv A outer s H E) k->PQ (Xc P w K mg base N qual st f cdv A outer s H E) (bp st) (dS K (lq N ds) { nx:=λ_=>r=.d .non,rt:=λr'=>r'=r })) :
   aJ P w K mg base CX0 (k + 1) f fd ps (spD K Φ):=fnD F S hb len λds r h cdv A outer s H E b=>(body ds r h cdv A outer s H E b).out
end
end Hy
namespace Hy
open PySem PySem.Spec PyProof.Rows L2
open Ev (D Den ax aw)
noncomputable def ub:List Str:=["NoFraction","NoTable","NoChoice","NoSquare","NoFit","NoUndoing","NoLadder","TooMany","NoPaper","NoRow","NoStairs","NoNumber","NoCorner","NoName","NoStep","NoWeight","NoDeed","NoText","NoWord"]
noncomputable def wordOf (c:Nat):Str:=ub.getD c "else"
noncomputable def spX (K:PySem.W.Frag) (cl:Nat->Addr) (Φ:List D->Nat->Prop):Sp:=λvs H _ E=>∃ A ds c,(∀ b,A b->∃ o,H b=some o)/\ax K (hd H A) vs ds/\Φ ds c/\∀ H',ao H H'->E (.ref (cl c)) none H'
noncomputable def kJ (P:Program) (w:World) (K:PySem.W.Frag) (mg:Str->Option Value) (base:Heap) (cl:Nat->Addr) (k:Nat) (n:Str) (Φ:List D->Nat->Prop):Prop:=
 ∃ f fd ps,aJ P w K mg base (Hx.CXe P w cl) k f fd ps (spX K cl Φ)/\mg n=some (.ref f)/\PySem.W.keepIn K (.ref f)=true/\Binds K fd ps []
theorem kJ.mono {P:Program} {w:World} {K:PySem.W.Frag} {mg:Str->Option Value} {base:Heap} {cl:Nat->Addr} {j k:Nat} {n:Str} {Φ:List D->Nat->Prop} (c:kJ P w K mg base cl j n Φ) (h:j<=k):kJ P w K mg base cl k n Φ:=
 let ⟨f,fd,ps,F,r⟩:=c; ⟨f,fd,ps,F.mono h,r⟩
noncomputable def dX (K:PySem.W.Frag) (τ:List Sl) (Ex:Hp->Prop):TE:=λσ H _=>∃ A H₀ B,Sta K A H₀ τ B σ H/\∀ H',ao H₀ H'->Ex H'
noncomputable def PsX (X:Cx) (cl:Nat->Addr) (Ex:Nat->Hp->Prop):Prop:=Passes (Hx.CXe X.prog X.w cl) X (λC _ H'=>∃ c,C=.ref (cl c)/\Ex c H')
section
variable {X:Cx} {C:Bool} {τ:List Sl} {x y z:D} {a b e:Expr} {es:List Expr} {pos p np cpos:Pos} {k c:Nat} {s:Sl} {ds:List D} {N:Po} {rest body:List Stmt} {cl:Nat->Addr} {Ex:Nat->Hp->Prop} {Et:Hp->Prop}
theorem nk {n:Str} {Φ:List D->Nat->Prop} (hr:cZ k X.A) (po:PsX X cl Ex) (c0:kJ X.prog X.w X.K X.mg X.base cl k n Φ) (ha:PA X (e :: es) (dA X.K C τ ds)) (h:Φ ds c) (hg:Gl X n:=by rfl) (hdb:(n == ("__debug__" : Str))=false:=by decide)
   (he:starEach (e :: es) X.env=(false,eval e X.env) :: starEach es X.env:=by rfl) (hpl:(backTo pos (starEach es X.env)).any (·.1)=false:=by rfl):PE X (.Call (.Name n p) (e :: es) [] pos) (dX X.K τ (Ex c)):=by
 obtain ⟨f,fd,ps,F,hm,hk,hb⟩:=c0
 refine peW (nG F hr hg hm hk hb .nil po ha hdb he hpl) λσ H Q ⟨A,H₀,B,S,q⟩=>cY S λvs H1 e1 d1=>?_
 rw [List.append_nil]
 exact ⟨vw C A B,ds,c,(S.mono e1).vd,d1,h,λH' e2=>⟨c,rfl,q H' ((S.same.trans e1).trans e2)⟩⟩
theorem wU (he:PE X e (dX X.K τ N.xc)):PSs X (.Return (some e) pos :: rest) (dS X.K τ N):=
 bu (M:=λ_=>False) (psW (kA he) λD σ H ⟨A,H₀,B,S,Me⟩=>⟨A,H₀,B,S,Me.xc⟩) λ_ e=>e.elim
theorem mP (he:PE X e (dX X.K τ N.xc)) (hs:swapsWith e none pos.line X.env=pure false:=by rfl):PSs X (.Expr e pos :: rest) (dS X.K τ N):=
 bu (M:=λ_=>False) (psW (il he hs) λD σ H ⟨A,H₀,B,S,Me⟩=>⟨A,H₀,B,S,Me.xc⟩) λ_ e=>e.elim
noncomputable def Lv (X:Cx) (cl:Nat->Addr) (c:Nat) (Et:Hp->Prop):Prop:=∀ (pins:List (Addr × Obj)) (σ:L2.St) (H:Hp) (s:Shared),Inv X pins σ H s->Et H->∀ (h':Heap) (a:Addr) (us:List Value),Heap.MadeExcOf s.heap h' a (.ref (cl c)) us->X.xe (.ref a) { s with heap:=h' }
theorem mR {n:Str} {S:Addr} (hl:Lv X cl c N.xc) (hm:X.mg n=some (.ref (cl c))) (O:Hx.ug X.K (cl c) S) (ha:PA X (e :: es) (dA X.K false τ ds)) (hds:ds.length<=sizeLine:=by decide) (hc:X.calm=true:=by rfl) (hg:Gl X n:=by rfl) (hdb:(n == ("__debug__" : Str))=false:=by decide)
   (he:starEach (e :: es) X.env=(false,eval e X.env) :: starEach es X.env:=by rfl) (hpl:(backTo cpos (starEach es X.env)).any (·.1)=false:=by rfl):PSs X (.Raise (some (.Call (.Name n np) (e :: es) [] cpos)) none pos :: rest) (dS X.K τ N):=
 bu (M:=λ_=>False) (psW (Hx.pf hc hg hm O ha hdb he hpl) λD σ H ⟨A,H₀,B,S,Me⟩=>cY S λvs H1 e1 d1=>⟨by rw [d1.length]; exact hds,λpins s us I h' a m=>hl pins σ H1 s I (Me.xc H1 (S.same.trans e1)) h' a us m⟩) λ_ e=>e.elim
end
section
variable {P:Program} {w:World} {K:PySem.W.Frag} {mg:Str->Option Value} {base:Heap} {cl:Nat->Addr}
theorem w4 {N ps:List Str} {A:Addr->Prop} {H:Hp} {vs:List V} {ds:List D} (ha:∀ b,A b->∃ o,H b=some o) (d:ax K (hd H A) vs ds):Sta K A H (lq N ds) (λ_=>[]) (L2.start N vs) H:=by
 refine ⟨ao.refl _,?_,λi s hi=>?_,λ_ _ z=>(nomatch z),λ_ _ _ z=>(nomatch z),ha,λ_ _ z=>(nomatch z)⟩
 · unfold L2.start lq
   simp [d.length]
 · have hl:=d.length
   unfold lq at hi
   unfold L2.start
   by_cases hlt:i < ds.length
   · rw [List.getElem?_append_left (by simpa using hlt),List.getElem?_map,List.getElem?_eq_getElem hlt] at hi
     cases hi
     obtain ⟨v,e,dv⟩:=d.get (List.getElem?_eq_getElem hlt)
     refine ⟨rfl,v,?_,dv.mono (aB (ao.refl _) λ_ z=>z.elim id λ⟨_,z⟩=>(nomatch z))⟩
     rw [List.getElem?_append_left (by simpa [hl] using hlt),List.getElem?_map,e]
     rfl
   · rw [List.getElem?_append_right (by simpa using hlt),List.getElem?_replicate] at hi
     split at hi
     · cases hi; rfl
     · cases hi
noncomputable abbrev Xe (P:Program) (w:World) (K:PySem.W.Frag) (mg:Str->Option Value) (base:Heap) (N:List Str) (qual:Str) (st:Stmt) (f:Addr) (cdv:Value) (A:Around) (outer:List Env) (s:Shared) (H:Hp) (E:XK) (cl:Nat->Addr):Cx:=iB (Hx.CXe P w cl) P w K mg base N qual (ai st) f cdv A outer s H E
theorem fnX {x qual:Str} {st:Stmt} {f:Addr} {fd:FuncData} {N ps:List Str} {k:Nat} {Φ:List D->Nat->Prop} (F:Fun K x qual st f fd) (S:aq N ps (ai st)) (hb:∀ x ∈ aj,mg x=none) (len:∀ ds c,Φ ds c->ds.length=ps.length)
   (body:∀ ds c,Φ ds c->∀ cdv A outer s H E,cZ k (Xe P w K mg base N qual st f cdv A outer s H E cl).A->Bk (Xe P w K mg base N qual st f cdv A outer s H E cl).nox k->PsX (Xe P w K mg base N qual st f cdv A outer s H E cl) cl (λc H'=>E (.ref (cl c)) none H')->(∀ c',Lv (Xe P w K mg base N qual st f cdv A outer s H E cl) cl c' (λH'=>E (.ref (cl c')) none H')) ->
     PSs (Xe P w K mg base N qual st f cdv A outer s H E cl) (bp st) (dS K (lq N ds) { nx:=λ_=>False,rt:=λ_=>False,xc:=λH'=>E (.ref (cl c)) none H' })) :
   aJ P w K mg base (Hx.CXe P w cl) (k + 1) f fd ps (spX K cl Φ):=by
 obtain ⟨oc,od,dV,kV,doc,pm,an,cdv,ct,osl,rfl,lk,hcd⟩:=F.ex
 refine sY lk hcd S (λvs H Q E ⟨A,ds,c,_,d,h,_⟩=>d.length.trans (len ds c h)) λA outer s H vs Q E hr ⟨A',ds,c,ha,d,h,q⟩=>⟨_,body ds c h cdv A outer s H E hr ⟨hr,rfl,hb,PassesOwn.never⟩ (Hx.oA λ_ _ z=>z) (λc' pins σ H s I q h' a us m=>Hx.ly I q m),A',H,λ_=>[],w4 (ps:=ps) ha d,λ_ _ _ _ h=>h.elim,λ_ _ _ _ h=>h.elim,λ_ _ _ _ h=>h.elim,λ_ _ _ _ h=>h.elim,q⟩
end
structure sJ (k:Nat) (A:Around):Prop where
 dp:A.depth + 3 * k + 5 < recursionLimit
 un:A.units + 16 * k + 200 < cLine
noncomputable def dq (P:Program) (w:World) (K:PySem.W.Frag) (mg:Str->Option Value) (base:Heap) (cl:Nat->Addr) (k:Nat) (fw:Addr) (c:Nat):Prop:=
 ∀ (A:Around) (outer:List PySem.Env) (s:Shared) (H:Hp) (a:Addr) (o:Obj) (Q:VK),A.handled=some (.ref a)->H a=some (Hx.oK o)->Hx.pZ o (cl c)->sJ k A->qH P w K mg base A outer s H ->
   (∀ H',ao H H'->Q (.str (wordOf c)) H')->codeAny (model P w) A (.call (.ref fw) ⟨[.ref a],[]⟩) (CR CX0 outer P w H s Q E0) s
theorem dq.mono {P:Program} {w:World} {K:PySem.W.Frag} {mg:Str->Option Value} {base:Heap} {cl:Nat->Addr} {j k:Nat} {f:Addr} {c:Nat} (h:dq P w K mg base cl j f c) (q:j<=k):dq P w K mg base cl k f c:=λA outer s H a o Q h1 h2 h3 hr=>h A outer s H a o Q h1 h2 h3 ⟨by have:=hr.dp; omega,by have:=hr.un; omega⟩
section
variable {X:Cx} {C:Bool} {τ:List Sl} {e:Expr} {k c i:Nat} {N:Po} {rest body:List Stmt} {cl:Nat->Addr} {n:Str} {fw S:Addr} {p p' q psm pr ph pos:Pos}
noncomputable def trW (cl:Nat->Addr) (c i:Nat) (a:Addr) (o:Obj):TE:=λσ H Q=>H a=some (Hx.oK o)/\Hx.pZ o (cl c)/\σ[i]?=some (some (.ref a))/\∀ H',ao H H'->Q (.str (wordOf c)) H'
theorem sA {a:Addr} {o:Obj} (hg:Gl X "_law_word") (hm:X.mg "_law_word" = some (.ref fw)) (hk:PySem.W.keepIn X.K (.ref fw)=true) (hW:dq X.prog X.w X.K X.mg X.base cl k fw c) (hr:sJ k X.A)
   (hi:X.N[i]?=some n) (hn:X.env.scope.names.lookup n=some .local) (h1:(n == ("__debug__" : Str))=false) (h2:(n == ("__classdict__" : Str))=false) :
   PE (Hx.XH X a) (.Call (.Name "_law_word" p) [.Name n p'] [] q) (trW cl c i a o):=by
 intro pins s σ H Q I ⟨e1,e2,e3,z⟩
 refine wpAny_Call_Name_kw (fZ I hg hm ?_ (by decide))
 refine PySem.W.callWith_K (h₀:=X.base) I.ok.mod.kin hk (thn (bP (cK (X:=Hx.XH X a) hi (.inl hn) h1 h2) fJ rfl q pins s σ H (λvs H1=>vs=[.ref a]/\H1=H) I ⟨_,e3,rfl,rfl⟩) λus s1 ⟨vs,H1,I1,r1,e4,e5⟩=>⟨I1.kIn,?_⟩) rfl rfl
 subst e4
 subst e5
 cases r1 with
 | cons ra rr=>
   cases rr
   cases ra
   refine wpAny_call (codeAny_mono (hW (X.A.mark (some (.ref a))) X.stack s1 _ a o Q rfl e1 e2 ⟨hr.dp,hr.un⟩ I1.vN z) λres s' hq=>?_)
   cases res with
   | error e=>exact hq.elim
   | ok fl=>
     cases fl with
     | ret u=>exact I1.after hq
     | next=>exact False.elim hq
     | brk=>exact False.elim hq
     | cont=>exact False.elim hq
theorem uQ (B:Bk X k) (nd:X.N.Nodup) (hb:∀ (pins:List (Addr × Obj)) (E:Value->Shared->Prop) (Ex:Nat->Hp->Prop),PsX (Hx.XP X pins E) cl Ex->PSs (Hx.XP X pins E) body (dS X.K τ { nx:=λ_=>False,rt:=λ_=>False,xc:=Ex c })) (h:N.rt (.d (.str (wordOf c))))
   (hmS:X.mg "SmoothError" = some (.ref S)) (hx:PySem.W.exmOne X.K (.ref (cl c)) (.ref S)=some true) (hm:X.mg "_law_word" = some (.ref fw)) (hk:PySem.W.keepIn X.K (.ref fw)=true) (hW:dq X.prog X.w X.K X.mg X.base cl k fw c) (i:Nat)
   (hst:X.stack=X.env :: X.outer/\X.env.frame=some X.env.locals:=by exact ⟨rfl,rfl⟩) (hi:X.N[i]?=some n:=by rfl) (hn:X.env.scope.names.lookup n=some .local:=by rfl) (hgS:Gl X "SmoothError":=by rfl) (hg:Gl X "_law_word":=by rfl) (h1:(n == ("__debug__" : Str))=false:=by decide) (h2:(n == ("__classdict__" : Str))=false:=by decide) :
   PSs X (.Try body [.ExceptHandler (some (.Name "SmoothError" psm)) (some n) [.Return (some (.Call (.Name "_law_word" p) [.Name n p'] [] q)) pr] ph] [] [] pos :: rest) (dS X.K τ N):=by
 refine bu (M:=λ_=>False) (psW (Hx.t8 (ks:=[c]) (cl:=cl) (i:=i) (tr:=trW cl c i) (tb:=λEx=>dS X.K τ { nx:=λ_=>False,rt:=λ_=>False,xc:=Ex c }) hst nd hi hn hgS hmS (by decide) (λc' hc'=>by rw [List.mem_singleton.mp hc']; exact hx) (λa o=>sA hg hm hk hW ⟨B.room.dp,B.room.un⟩ hi hn h1 h2) λEx pins E hp=>hb pins E Ex hp) λD σ H ⟨A,H₀,B,S,Me⟩=>?_) λ_ e=>e.elim
 refine ⟨A,H₀,B,S,λ_ _ _ _ h=>h.elim,λ_ _ _ _ h=>h.elim,λ_ _ _ _ h=>h.elim,λ_ _ _ _ h=>h.elim,λH' e'=>⟨List.mem_singleton.mpr rfl,λσ' a o hl Ha ho=>⟨aV,ho,List.getElem?_set_self hl,λH2 e2=>?_⟩⟩⟩
 exact Me.rt (.str (wordOf c)) H2 [] (.d (.str (wordOf c))) h ((e'.trans (aw Ha _)).trans e2) c8 (gA .str)
end
noncomputable def exX (cl:Nat->Addr) (c:Nat):Ex where
 p:=λ_ _ o _=>∃ ob,o=Hx.oK ob/\Hx.pZ ob (cl c)
 mono:=λ_ h=>h
 ext:=λ⟨ob,h,_⟩=>.inr (.inl ⟨ob,_,h⟩)
section
variable {X:Cx} {C:Bool} {τ:List Sl} {x y z:D} {a b e c0 tg it elt:Expr} {es ifs:List Expr} {pos p q q':Pos} {k c:Nat} {cl:Nat->Addr} {xs:List D} {scope:Scope}
theorem qX {b:Bool} {v:V} {u:Value} (O:Hx.cI X.K (cl c)) (hv:∀ u',RelV v u'->u'=u) (e:PySem.W.kitOne X.K (.ref (cl c)) u=some b) :
   dN X (.builtin "isinstance") (λxs H Q=>∃ a o x,xs=[.ref a,v]/\H a=some (.frz o x)/\Hx.pZ o (cl c)/\Q (.bl b) H):=by
 rintro pins s σ H vs us Q I rv ⟨a,o,x,rfl,e2,⟨⟨e3,e4⟩,ws,e5,e6⟩,q⟩
 obtain ⟨u1,u2,rfl,r1,r2⟩:=rv.two
 cases r1
 have r2:=hv _ r2
 subst r2
 have g:=(I.hok a _ e2).1
 refine PySem.W.kia_one (Hx.pN O) I.kIn ⟨o,g,e3,?_,?_⟩ e (λz=>nomatch z) λtk=>⟨.bl b,H,I.kept (t':=tk) (λ_ _ z=>z),rfl,q⟩
 · unfold PySem.W.notCls; rw [e5]
 · rw [e4]; trivial
theorem bM (i:Nat) {n t:Str} {C0:Addr} {bb:Bool} (hm:X.mg t=some (.ref C0)) (O:Hx.cI X.K (cl c)) (hk:PySem.W.kitOne X.K (.ref (cl c)) (.ref C0)=some bb) (hbi:X.mg "isinstance" = none) (hi:τ[i]?=some (.x (exX cl c)):=by rfl) (hN:X.N[i]?=some n:=by rfl) (hg:Gl X "isinstance":=by rfl) (hgt:Gl X t:=by rfl)
   (hv:Vis X.env.scope n:=by first | exact Or.inl rfl | exact Or.inr (Or.inl rfl) | exact Or.inr (Or.inr rfl)) (h1:(n == ("__debug__" : Str))=false:=by decide) (h2:(n == ("__classdict__" : Str))=false:=by decide) (h3:(t == ("__debug__" : Str))=false:=by decide)
   (he:starEach [.Name n q,.Name t q'] X.env=(false,eval (.Name n q) X.env) :: starEach [.Name t q'] X.env:=by rfl) (hpl:(backTo pos (starEach [.Name t q'] X.env)).any (·.1)=false:=by rfl) :
   PE X (.Call (.Name "isinstance" p) [.Name n q,.Name t q'] [] pos) (dE X.K C τ (.d (.bl bb))):=by
 refine peW (eF (qX (v:=.ref C0) (u:=.ref C0) O (λ_ z=>z) hk) hg hbi (by decide +kernel) (bP (cK hN hv h1 h2) (bP (mY (v:=.ref C0) hgt hm rfl h3) fJ rfl) he) (by decide) (by decide) he hpl) λσ H Q q=>?_
 obtain ⟨A,H₀,B,S,k⟩:=eH q
 obtain ⟨d,o,h1,h2,h3,ob,rfl,ho⟩:=S.sl i _ hi
 exact ⟨_,slot_of h2,d,ob,_,rfl,h3,ho,k _ H (ao.refl _) .bl⟩
theorem we (i:Nat) {n t:Str} {T:String} {bb:Bool} (hm:X.mg t=none) (hb:bootBuiltins t=some (.type T)) (O:Hx.cI X.K (cl c)) (hk:PySem.W.kitOne X.K (.ref (cl c)) (.type T)=some bb) (hbi:X.mg "isinstance" = none) (hi:τ[i]?=some (.x (exX cl c)):=by rfl) (hN:X.N[i]?=some n:=by rfl) (hg:Gl X "isinstance":=by rfl) (hgt:Gl X t:=by rfl)
   (hv:Vis X.env.scope n:=by first | exact Or.inl rfl | exact Or.inr (Or.inl rfl) | exact Or.inr (Or.inr rfl)) (h1:(n == ("__debug__" : Str))=false:=by decide) (h2:(n == ("__classdict__" : Str))=false:=by decide) (h3:(t == ("__debug__" : Str))=false:=by decide) (h4:t ≠ "__name__":=by decide)
   (he:starEach [.Name n q,.Name t q'] X.env=(false,eval (.Name n q) X.env) :: starEach [.Name t q'] X.env:=by rfl) (hpl:(backTo pos (starEach [.Name t q'] X.env)).any (·.1)=false:=by rfl) :
   PE X (.Call (.Name "isinstance" p) [.Name n q,.Name t q'] [] pos) (dE X.K C τ (.d (.bl bb))):=by
 refine peW (eF (qX (v:=.ty T) (u:=.type T) O (λ_ z=>z) hk) hg hbi (by decide +kernel) (bP (cK hN hv h1 h2) (bP (nP (v:=.ty T) hgt hm hb rfl h4 h3) fJ rfl) he) (by decide) (by decide) he hpl) λσ H Q q=>?_
 obtain ⟨A,H₀,B,S,k⟩:=eH q
 obtain ⟨d,o,h1,h2,h3,ob,rfl,ho⟩:=S.sl i _ hi
 exact ⟨_,slot_of h2,d,ob,_,rfl,h3,ho,k _ H (ao.refl _) .bl⟩
theorem tE {n:Int} (hc:Ck true X) (hm:X.mg "range" = none) (h:PE X a (dE X.K false τ (.d (.int n)))) (h1:-(2 ^ 62)<=n) (h2:n < 2 ^ 62) (hg:Gl X "range":=by rfl) (hs:starEach [a] X.env=[(false,eval a X.env)]:=by rfl):PI X tg (.Call (.Name "range" p) [a] [] pos) (dI X.K τ (fN 0 n.toNat)):=
 piW (jM hc hg hm (aa h ag hs) hs) λσ H R ⟨A,H₀,B,S,k⟩=>cY S λvs H1 e1 d1=>by
   cases d1 with
   | cons d r=>
     cases r
     cases d
     exact ⟨n,rfl,h1,h2,k _ H1 e1 (mI 0 _)⟩
theorem uy (j:Nat) {n:Str} {g f:Nat->D} {t:Nat->Bool} (hi:PI X (.Name n p) it (dI X.K τ xs)) (hx:∀ i (h:i < xs.length),xs[i]=g i) (hl:xs.length < 1000000)
   (ht:∀ i,i < xs.length->∀ s H fp,PT (cpX X s H scope fp) c0 (dT X.K ((bg τ (bCp X.N scope)++[Sl.un]).set j (.d (g i))) (t i)))
   (he:∀ i,i < xs.length->t i=true->∀ s H fp,PE (cpX X s H scope fp) elt (dE X.K true ((bg τ (bCp X.N scope)++[Sl.un]).set j (.d (g i))) (.d (f i))))
   (hc:bOk X.env.scope scope=true:=by kernel_rfl) (hu:(bg τ (bCp X.N scope)++[Sl.un])[j]?=some .un:=by rfl) (hN:(bNm scope++[("#" : Str)])[j]?=some n:=by rfl) (hv:∀ s H fp,Loc (cpX X s H scope fp).env.scope n:=by intro _ _ _; first | exact .inl rfl | exact .inr rfl)
   (hf:∀ s H fp,(cpX X s H scope fp).fn n=true\/(cpX X s H scope fp).env.scope.names.lookup n=some .local:=by intro _ _ _; first | exact .inr rfl | exact .inl rfl) (hs:∀ x,foldedSetIterable it X.env x=pure x:=by intro _; rfl) :
   Cmp X elt (.Name n p) it [c0] scope τ (((List.range xs.length).filter t).map f):=by
 refine lZ (T:=λi=>(bg τ (bCp X.N scope)++[Sl.un]).set j (.d (g i))) (t:=t) (f:=f) (elt:=elt) (ifs:=[c0]) hc hi (λi=>⟨List.length_set,λl x h=>?_⟩) (λi h s H fp=>?_) (λi h s H fp=>rQ (ht i h s H fp)) he hl hs
 · rw [List.getElem?_set_ne (λz=>by rw [<- z,hu] at h; cases h)]
   exact h
 · rw [hx i h]
   exact si j (eY hc).2 hN (hv s H fp) (hf s H fp)
theorem ua (hm:X.mg "len" = none) (h:PE X a (dE X.K C τ (.d (.lst xs)))) (hg:Gl X "len":=by rfl) (he:starEach [a] X.env=(false,eval a X.env) :: starEach [] X.env:=by rfl) (hpl:(backTo pos (starEach [] X.env)).any (·.1)=false:=by rfl):PE X (.Call (.Name "len" p) [a] [] pos) (dE X.K C τ (.d (.int xs.length))):=by
 obtain ⟨r,h1,h2⟩:=bY (X:=X) (xs:=xs)
 exact peW (eF h1 hg hm (by decide +kernel) (aa h ag he) (by decide) (by decide) he hpl) (mK h2)
end
section
variable {P:Program} {w:World} {K:PySem.W.Frag} {mg:Str->Option Value} {base:Heap} {cl:Nat->Addr}
noncomputable abbrev Xw (P:Program) (w:World) (K:PySem.W.Frag) (mg:Str->Option Value) (base:Heap) (N:List Str) (qual:Str) (st:Stmt) (f:Addr) (cdv:Value) (A:Around) (outer:List Env) (s:Shared) (H:Hp):Cx:=({ iB CX0 P w K mg base N qual (ai st) f cdv A outer s H E0 with calm:=false }:Cx).nox
theorem fnW {qual p0:Str} {st:Stmt} {f:Addr} {fd:FuncData} {N:List Str} {k c:Nat} (F:Fun K "_law_word" qual st f fd) (S:aq N [p0] (ai st)) (hbind:Binds K fd [p0] [])
   (body:∀ cdv A outer s H,Ck true (Xw P w K mg base N qual st f cdv A outer s H)->PSs (Xw P w K mg base N qual st f cdv A outer s H) (bp st) (dS K (.x (exX cl c) :: List.replicate (N.length - 1) .un) { nx:=λ_=>False,rt:=λr=>r=.d (.str (wordOf c)) })):dq P w K mg base cl (k + 1) f c:=by
 intro A outer s H a o Q hh hH hO hr e0 q
 obtain ⟨oc,od,dV,kV,doc,pm,an,cdv,ct,osl,rfl,lk,hcd⟩:=F.ex
 have KX:K.In s.heap:=e0.mod.kin.keeps λb o e=>(e0.bs b o e).1
 have lim:s.heap.NoLimit:=e0.mod.nolimit.keeps λb o e=>(e0.bs b o e).1
 have hpl:1<=N.length:=by
   have:=congrArg List.length S.pre
   rw [List.length_take] at this
   exact Nat.le_trans (Nat.le_of_eq this.symm) (Nat.min_le_right _ _)
 refine codeAny_call_function (by have:=hr.dp; omega) (KX _ _ lk) rfl S.co S.gen rfl (PySem.W.codeRec_of KX hcd) (hbind s [.ref a] KX rfl _ _ _ _ ?_)
 refine wpAny_newFunctionEnv_cells S.kind (λ⟨n,v⟩ hy=>?_) λenv he s1 x=>?_
 · rcases S.par n (List.of_mem_zip hy).1 with z | z
   · exact .inl z
   · exact .inr ⟨z,PySem.W.cellsFrom_some _ _ _ (.inl z)⟩
 subst he
 refine ⟨lim.keeps x.toInCall.keep,codeAny_func ?_⟩
 have I:Inv { iB CX0 P w K mg base N qual (ai st) f cdv A outer s H E0 with calm:=false } [] (start N [.ref a]) H s1:=jO (cm:=false) S (λz=>nomatch z) e0 rfl (.cons rfl .nil) x
 have ck:Ck true (Xw P w K mg base N qual st f cdv A outer s H):=.inr ⟨rfl,a,o,_,hO.2.choose,hh,hH,hO.2.choose_spec.1,hO.2.choose_spec.2⟩
 have ow:∀ b,own (λ_=>False) (λi=>if i=0 then [a] else []) b ↔ b=a:=λb=>by
   refine ⟨λz=>z.elim False.elim λ⟨i,z⟩=>?_,λz=>.inr ⟨0,by simp [z]⟩⟩
   by_cases e:i=0
   · simp only [if_pos e] at z; exact List.mem_singleton.mp z
   · simp only [if_neg e] at z; cases z
 have hB:∀ i b,b ∈ (if i=0 then [a] else []:List Addr)->i=0/\b=a:=λi b z=>by
   by_cases e:i=0
   · rw [if_pos e] at z; exact ⟨e,List.mem_singleton.mp z⟩
   · rw [if_neg e] at z; cases z
 refine wpAny_mono (body cdv A outer s H ck [] s1 _ H { nx:=λ_ _=>False,rt:=λv H'=>ao (Hy.hd H (·=a)) H'/\v=.str (wordOf c) } (I.gI _) ⟨λ_=>False,Hy.hd H (·=a),λi=>if i=0 then [a] else [],⟨aR,?_,λi s hi=>?_,λi b z=>?_,λi j b z1 z2=>((hB i b z1).1).trans ((hB j b z2).1).symm,λb z=>z.elim,λi b z=>⟨Hx.oK o,by rw [(hB i b z).2]; exact hH⟩⟩,λ_ _ _ _ z=>z.elim,λ_ _ _ _ z=>z.elim,λ_ _ _ _ z=>z.elim,λv H' bs s h e hf z=>?_,λ_ _=>trivial⟩) (λfl s' hs=>?_) λe s' hs=>hs.elim
 · unfold L2.start
   simp
 · match i,hi with
   | 0,hi=>
     cases hi
     exact ⟨a,_,rfl,rfl,hH,o,rfl,hO⟩
   | i + 1,hi=>
     rw [List.getElem?_cons_succ,List.getElem?_replicate] at hi
     split at hi
     · cases hi; rfl
     · cases hi
 · rw [(hB i b z).2]
   unfold Hy.hd
   rw [if_pos rfl]
 · obtain rfl:=(h:s=.d (.str (wordOf c)))
   obtain ⟨_,u,e1,d⟩:=z
   cases e1
   cases d
   exact ⟨e,rfl⟩
 · cases fl with
   | ret u=>
     obtain ⟨v,σ',H',J,rv,z1,rfl⟩:=hs
     refine ⟨_,H',J.os,J.bare,J.base,J.hok,rv,q H' λb ob hb=>?_⟩
     by_cases e:b=a
     · subst e
       rw [hH] at hb
       cases hb
       exact J.base.frzs b _ _ hH
     · exact z1 b ob (aD.mpr ⟨e,hb⟩)
   | next=>obtain ⟨_,_,_,z⟩:=hs; exact z.elim
   | brk=>obtain ⟨_,_,_,z⟩:=hs; exact z.elim
   | cont=>obtain ⟨_,_,_,z⟩:=hs; exact z.elim
end
end Hy
namespace Hy
open PySem PySem.Spec PyProof.Rows L2
open Ev (D Den ax b7 dJ)
section
variable {X:Cx} {C:Bool} {τ:List Sl} {a e tg it elt:Expr} {es ifs:List Expr} {pos p:Pos} {Et:Hp->Prop} {scope:Scope}
end
end Hy
namespace Hy
open PySem PySem.Spec PyProof.Rows L2
open Ev (D Den ax)
section
variable {P:Program} {w:World} {K:PySem.W.Frag} {h:Heap} {mg:Str->Option Value} {base:Heap} {x:Str} {st:Stmt} {f:Addr} {ps:List Str} {k:Nat} {Φ:List D->Nat->Prop} {cl:Nat->Addr}
theorem Dfn.vL (d:Dfn K x st f) (X:K.In h) (G:h.Ns mainGlobals mg) (b:BdA x st ps) (o:∀ fd,Fun K x x st f fd->aJ P w K mg base (Hx.CXe P w cl) k f fd ps (spX K cl Φ)):kJ P w K mg base cl k x Φ:=by
 obtain ⟨fd,F,h1,h2,h3⟩:=d.fn X G b
 exact ⟨f,fd,ps,o fd F,h1,h2,h3⟩
end
theorem ml {K:PySem.W.Frag} {C D:Addr} {dd:Option Addr} {cd:ClassData} {sl:Array (Option Value)} {b:Bool} (h:(Value.ref C == Value.ref D)=false) (e:K.lookup D=some ⟨.type "type",dd,.cls cd,sl⟩) (s:PySem.W.subIn K (.ref C) (.ref D)=some b):PySem.W.kitCls K (.ref C) (.ref D)=some b/\PySem.W.kitOne K (.ref C) (.ref D)=some b:=by
 have z:PySem.W.kitCls K (.ref C) (.ref D)=some b:=by
   have c:PySem.W.clsIn K D=some cd:=by unfold PySem.W.clsIn; rw [e]
   have t:PySem.W.typeIn K (.ref D)=some (.type "type"):=by show (K.lookup D).map _=_; rw [e]; rfl
   show (if ((PySem.W.clsIn K D).isSome && PySem.W.typeIn K (.ref D) == some (.type "type"))=true then PySem.W.subIn K (.ref C) (.ref D) else none)=some b
   rw [if_pos (by rw [c,t]; simp)]
   exact s
 refine ⟨z,?_⟩
 unfold PySem.W.kitOne
 rw [if_neg (by rw [h]; decide)]
 exact z
theorem pF {K:PySem.W.Frag} {C:Addr}:PySem.W.kitOne K (.ref C) (.ref C)=some true:=by
 unfold PySem.W.kitOne
 rw [if_pos (by simp)]
theorem sa {K:PySem.W.Frag} {C:Addr} (s:PySem.W.subIn K (.ref C) (.type "ValueError")=some true):PySem.W.kitOne K (.ref C) (.type "ValueError")=some true:=by
 unfold PySem.W.kitOne
 rw [if_neg (by simp)]
 show (if PySem.W.kitMeta "ValueError" = true then PySem.W.subIn K (.ref C) (.type "ValueError") else none)=some true
 rw [if_pos (by decide +kernel)]
 exact s
theorem uP {K:PySem.W.Frag} {C S:Addr} (h:PySem.W.subIn K (.ref S) (.type "BaseException")=some true) (k:PySem.W.kitCls K (.ref C) (.ref S)=some true):PySem.W.exmOne K (.ref C) (.ref S)=some true:=by
 unfold PySem.W.exmOne
 rw [if_pos (by rw [h]; rfl)]
 exact k
end Hy
namespace Hy
open PySem PySem.Spec PyProof.Rows L2
open Ev (D Den ax bc)
section
variable {X:Cx}
noncomputable def flD:D->Bool
 | .non=>true
 | .bl _=>true
 | .int _=>true
 | .str _=>true
 | _=>false
noncomputable def inS (us:List Str):D->Bool
 | .str u=>us.any λw=>decide (w=u)
 | _=>false
theorem rj (us:List Str) (v:V) (h:∀ w,eqV (.str w) v=false):inV v (us.map V.str)=false:=by
 unfold inV
 rw [List.any_map,List.any_eq_false]
 intro w _
 show ¬ eqV (V.str w) v=true
 rw [h w]; decide
theorem vD {us:List Str} {x:D} (f:flD x=true):bZ X (compareOp .In) x (.tup (us.map .str)) (.bl (inS us x)):=by
 cases x with
 | str u=>exact sH
 | tup _=>cases f
 | lst _=>cases f
 | box _=>cases f
 | _=>
   refine ⟨_,jB,λM x' y' H Q _ d1 d2 q=>?_⟩
   cases d1
   cases d2 with
   | @tup ad vs _ h r=>
     have ev:vs=us.map V.str:=by
       clear h q
       induction us generalizing vs with
       | nil=>cases r; rfl
       | cons w ws ih=>
         cases r with
         | cons d r=>cases d; rw [ih r]; rfl
     subst ev
     refine ⟨_,_,rfl,.inr (bc aR h),rfl,?_,?_⟩
     · rw [List.all_map,List.all_eq_true]; intro _ _; rfl
     · rw [if_neg Bool.false_ne_true,rj us _ λw=>rfl]
       exact q _ H (ao.refl _) .bl
end
end Hy
namespace L2
open PySem PySem.Spec PyProof.Rows
section
variable {κ:Type} [DecidableEq κ]
end
section
variable {P:Program} {w:World} {H:Hp} {h:Heap} {a:Addr}
end
section
variable {X:Cx} {pins:List (Addr × Obj)} {σ:St} {H:Hp} {s:Shared} {a:Addr} {y v:V} {u r:Value} {o:Option V} {A:Around} {E:Value->Shared->Prop}
end
section
variable {X:Cx} {pins:List (Addr × Obj)} {σ:St} {H:Hp} {s:Shared} {a:Addr} {kvs:List (Key × V)} {k:Key} {u:Value} {A:Around} {E:Value->Shared->Prop}
end
section
variable {X:Cx} {o i e value:Expr} {pos pos' tpos:Pos} {td ty tv:TE}
end
section
variable {X:Cx} {pos:Pos}
end
section
variable {X:Cx} {pins:List (Addr × Obj)} {σ:St} {H:Hp} {s:Shared} {a:Addr} {y d:V} {u r:Value} {o:Option V} {A:Around} {E:Value->Shared->Prop}
end
section
variable {X:Cx} {o e f:Expr} {apos cpos:Pos} {td ty tx:TE}
end
end L2
namespace L2
open PySem PySem.Spec PyProof.Rows PySem.SeqAt
section
variable {P:Program} {w:World} {A:Around} {E:Value->Shared->Prop} {s:Shared}
noncomputable def HK (P:Program) (w:World) (A:Around) (h:Heap) (v:Value) (x:Int) (d:Nat):Prop:=
 ∀ (s:Shared) (E:Value->Shared->Prop) (Q:Int->Shared->Prop),s.heap=h->Q x { s with toks:=s.toks + d }->wpAny (model P w) A (pyHash v) Q E s
end
structure IK (P:Program) (w:World) (K:Type) [DecidableEq K] where
 is:Heap->K->Value->Prop
 hash:K->Int
 draws:K->Nat
 dep:Nat
 inj:∀ {h:Heap} {v:Value} {x y:K},is h x v->is h y v->x=y
 keeps:∀ {h h':Heap} {k:K} {v:Value} {d:Addr} {o:Obj} {es ep},is h k v->h.get? d=some o->o.data=.dict es ep->Heap.SameBut d h h'->is h' k v
 hk:∀ {A:Around} {h:Heap} {k:K} {v:Value},is h k v->A.units + dep < cLine->HK P w A h v (hash k) (draws k)
 eq:∀ {A:Around} {s:Shared} {x y:K} {u v:Value},is s.heap x u->is s.heap y v->A.units + dep < cLine->EqAt A s u v (decide (x=y))
 quiet:∀ {s:Shared} {k:K} {v:Value} {n:Nat},dep < n->is s.heap k v->∀ A E Q,Q true s->wpAny (model P w) A (eqIsQuiet n v) Q E s
section
variable {P:Program} {w:World}
variable {K K':Type} [DecidableEq K] [DecidableEq K']
noncomputable def kindOf (a:IK P w K) (hd:a.dep<=7):HeapKind P w K where
 is:=λh k p=>a.is h k (.ref p)
 hash:=a.hash
 draws:=a.draws
 room:=λA=>A.units + 8 < cLine
 inj:=a.inj
 keeps:=a.keeps
 pyHash:=λ{A E s k p Q} hu hk h=>a.hk hk (by omega) s E Q rfl h
 eqBool:=λ{A E s x y p p' Q} hu hx hy h=>a.eq hx hy (by omega) _ _ _ _ h
 quiet:=λ{A E s k p Q} hk h=>a.quiet (by omega) hk A E Q h
end
section
variable {K:Type}
end
section
variable {P:Program} {w:World} {K:Type} [DecidableEq K]
end
end L2
namespace Ev
open PySem PySem.Spec PyProof.Rows L2
structure KD (K:Type) [DecidableEq K] where
 ik:∀ (P:Program) (w:World),IK P w K
 dep:Nat
 dep_ok:∀ P w,(ik P w).dep=dep
 toD:K->D
 den:∀ {X:Cx} {pins:List (Addr × Obj)} {σ:L2.St} {H:Hp} {s:Shared} {v:V} {u:Value} {k:K},Inv X pins σ H s->Den X.K H v (toD k)->RelV v u->(ik X.prog X.w).is s.heap k u
section
variable {K K':Type} [DecidableEq K] [DecidableEq K']
noncomputable abbrev NEs (K:Type):=List (K × Addr × Value)
noncomputable def kd (a:KD K) (hd:a.dep<=7) (P:Program) (w:World):HeapKind P w K:=kindOf (a.ik P w) (by rw [a.dep_ok]; exact hd)
variable {a:KD K} {hd:a.dep<=7}
variable {X:Cx} {pins:List (Addr × Obj)} {σ:L2.St} {H:Hp} {s:Shared} {d b:Addr} {xs:NEs K} {k:K} {A:Around} {E:Value->Shared->Prop}
variable {o i e value:Expr} {pos pos':Pos} {td ty tv:TE}
end
end Ev
namespace Hy
open PySem PySem.Spec PyProof.Rows L2
open Ev (D Den ax KD NEs)
section
variable {K:Type} [DecidableEq K]
variable {a:KD K} {F:PySem.W.Frag} {G G':Hp}
end
end Hy
namespace Hy
open PySem PySem.Spec PyProof.Rows L2
open Ev (D Den ax KD NEs aw)
section
variable {K:Type} [DecidableEq K] {a:KD K} {hd:a.dep<=7} {X:Cx} {C:Bool} {τ:List Sl} {x:D} {b e ix:Expr} {pos p q:Pos} {k:Nat} {N:Po} {rest:List Stmt} {m:List (K × D)} {key:K}
end
section
variable {K:PySem.W.Frag} {A:Addr->Prop} {H₀ H H':Hp} {τ:List Sl} {B:Nat->List Addr} {σ:L2.St}
end
section
variable {K:Type} [DecidableEq K] {a:KD K} {hd:a.dep<=7} {X:Cx} {C:Bool} {τ:List Sl} {x:D} {b e ix:Expr} {pos p q sp:Pos} {k:Nat} {N:Po} {rest:List Stmt} {m:List (K × D)} {key:K}
end
end Hy
namespace Ev
open PySem PySem.Spec PyProof.Rows L2
section
variable {K:Type} [DecidableEq K] {a:KD K} {hd:a.dep<=7} {X:Cx} {o i e f:Expr} {pos apos cpos:Pos} {td ty tx tk tv:TE}
end
end Ev
namespace Hy
open PySem PySem.Spec PyProof.Rows L2
open Ev (D Den ax KD NEs Bx aw)
section
variable {K:Type} [DecidableEq K] {a:KD K} {hd:a.dep<=7} {X:Cx} {C:Bool} {τ:List Sl} {x y:D} {b e f o ix:Expr} {pos p q apos cpos:Pos} {k:Nat} {N:Po} {rest:List Stmt} {m:List (K × D)} {key:K}
end
end Hy
namespace Ev
open PySem PySem.Spec PyProof.Rows L2
open PySem.Builtin.Range (rangeFitsLong rangeSize)
section
variable {prog:Program} {w:World} {A:Around} {E:Value->Shared->Prop} {s:Shared}
end
section
variable {X:Cx} {tg:Expr}
end
end Ev
namespace Ev
open PySem PySem.Spec PyProof.Rows L2
section
variable {X:Cx} {tg:Expr}
end
end Ev
namespace Hy
open PySem PySem.Spec PyProof.Rows L2
open Ev (D Den ax Bx aw)
section
variable {K:PySem.W.Frag} {A:Addr->Prop} {H₀ H:Hp} {τ:List Sl} {B:Nat->List Addr} {σ:L2.St} {m:List (Int × Int)} {i:Nat}
end
section
variable {X:Cx} {C:Bool} {τ:List Sl} {x y:D} {a b e f o ix tg:Expr} {pos p q apos cpos sp:Pos} {k:Nat} {N:Po} {rest:List Stmt} {m:List (Int × Int)} {key v n:Int}
end
end Hy
namespace Hy
open PySem PySem.Spec PyProof.Rows L2
open Ev (D Den ax aw aF d0 cR PTs b7 dJ)
section
variable {X:Cx}
end
section
variable {X:Cx} {C:Bool} {τ:List Sl} {e it:Expr} {pos p q p2 oF tp ip vp rp ap cp p1:Pos} {k:Nat} {N:Po} {rest:List Stmt} {scope:Scope}
end
end Hy
namespace Hy
open PySem PySem.Spec PyProof.Rows L2
open Ev (D Den ax aw)
theorem jF {K:PySem.W.Frag} {H:Hp}:∀ {vs:List V} {ds:List D} (j:Nat),ax K H vs ds->ax K H (vs.eraseIdx j) (ds.eraseIdx j)
 | _,_,_,.nil=>.nil
 | _,_,0,.cons _ r=>r
 | _,_,j + 1,.cons h r=>.cons h (jF j r)
section
variable {X:Cx} {τ:List Sl} {a b:Expr} {pos p q:Pos} {N:Po} {rest:List Stmt}
end
section
variable {X:Cx} {τ:List Sl} {b:Expr} {pos p:Pos} {N:Po} {rest:List Stmt}
theorem uh (i:Nat) {n:Str} {xs:List D} {ap cp:Pos} {j:Nat} (hb:PE X b (dE X.K false τ (.d (.int (j:Nat))))) (hj:j < xs.length) (hl:xs.length < 1000000) (hr:PSs X rest (dS X.K (τ.set i (.o (xs.eraseIdx j))) N)) (hi:τ[i]?=some (.o xs):=by rfl) (hN:X.N[i]?=some n:=by rfl)
   (hv:Vis X.env.scope n:=by first | exact Or.inl rfl | exact Or.inr (Or.inl rfl) | exact Or.inr (Or.inr rfl)) (hd:(n == ("__debug__" : Str))=false:=by decide) (hcd:(n == ("__classdict__" : Str))=false:=by decide)
   (hfew:((backTo cp (starEach [b] X.env)).all (λx=>!x.1) && (backToKw cp (keywordEach [] X.env)).all (λx=>x.1.isSome) && decide (([b]:List Expr).length + ([]:List Keyword).length + (if ([]:List Keyword).isEmpty then 0 else 1) < 30))=true:=by rfl) (hline:(ap.endLine == cp.line)=true:=by rfl)
   (hst:starEach [b] X.env=(false,eval b X.env) :: starEach [] X.env:=by rfl) (hpl:(backTo cp (starEach [] X.env)).any (·.1)=false:=by rfl)
   (hs:swapsWith (.Call (.Attribute (.Name n p) "pop" ap) [b] [] cp) none pos.line X.env=pure false:=by rfl) (hbase:attributeBase (.Name n p) "pop" X.env (eval (.Name n p) X.env)=eval (.Name n p) X.env:=by rfl) :
   PSs X (.Expr (.Call (.Attribute (.Name n p) "pop" ap) [b] [] cp) pos :: rest) (dS X.K τ N):=
 bu (M:=(·=τ.set i (.o (xs.eraseIdx j)))) (psW (il (sC PySem.F.plainAttrs_list PySem.F.slot_list_pop PySem.F.type_list_pop qp (cK hN hv hd hcd) (bP hb fJ hst) hbase hfew hline hst hpl) hs) λDn σ H ⟨A,H₀,B,S,Me⟩=>by
   obtain ⟨l,vs,hbb,e1,e2,d⟩:=S.sl i _ hi
   refine ⟨_,slot_of e1,.inl ⟨rfl,_,SqL.of e2⟩,ba S λw1 H1 f1 g1=>?_⟩
   cases g1
   have S1:=S.mono f1
   obtain ⟨l',vs',hb',e1',e2',d'⟩:=S1.sl i _ hi
   rw [e1] at e1'
   cases e1'
   have hln:=d'.length
   obtain ⟨v,hv1,dv⟩:=d'.get (List.getElem?_eq_some_iff.mpr ⟨hj,rfl⟩)
   exact ⟨l,vs',(j:Int),j,v,rfl,rfl,e2',by omega,by omega,PySem.StrLaws.seqIndex_nonneg (by omega) (by omega),hv1,Me.nx _ _ _ _ rfl (S1.put hi hb' (jF j d'))⟩) λ_ e=>e ▸ hr
end
end Hy
namespace K44
open PySem PySem.Spec PyProof.Rows L2 Hy
noncomputable def top (i:Nat):Stmt:=PySem.Challenge.pw_signsmooth_k44_papers_refused.main.body.getD i (.Pass ⟨0,0,0,0⟩)
theorem fT:aq ["_law_cell_here","_law_bases","_law_row","_law_base","_law_k","_law_mixed"] ["_law_cell_here","_law_bases"] (ai (top 86)):=⟨rfl,rfl,rfl,by decide +kernel,rfl,by decide +kernel,by decide +kernel⟩
theorem gq:aq ["_law_one","_law_other","_law_rest"] ["_law_one","_law_other"] (ai (top 87)):=⟨rfl,rfl,rfl,by decide +kernel,rfl,by decide +kernel,by decide +kernel⟩
theorem jJ:aq ["_law_top","_law_bottom","_law_common"] ["_law_top","_law_bottom"] (ai (top 88)):=⟨rfl,rfl,rfl,by decide +kernel,rfl,by decide +kernel,by decide +kernel⟩
theorem gW:aq ["_law_kind","_law_part","_law_top"] ["_law_kind","_law_part"] (ai (top 89)):=⟨rfl,rfl,rfl,by decide +kernel,rfl,by decide +kernel,by decide +kernel⟩
theorem ir:aq ["_law_cell_here","_law_many","_law_wide","_law_kind","_law_base","_law_parts"] ["_law_cell_here","_law_many","_law_wide","_law_kind"] (ai (top 90)):=⟨rfl,rfl,rfl,by decide +kernel,rfl,by decide +kernel,by decide +kernel⟩
theorem lO:aq ["_law_cell_here","_law_many","_law_wide","_law_one","_law_ones","_law_some"] ["_law_cell_here","_law_many","_law_wide"] (ai (top 99)):=⟨rfl,rfl,rfl,by decide +kernel,rfl,by decide +kernel,by decide +kernel⟩
theorem iK:aq ["_law_cell_here","_law_most","_law_parts","_law_tracks"] ["_law_cell_here","_law_most"] (ai (top 97)):=⟨rfl,rfl,rfl,by decide +kernel,rfl,by decide +kernel,by decide +kernel⟩
theorem lj:aq ["_law_many","_law_number_here","_law_k"] ["_law_many"] (ai (top 84)):=⟨rfl,rfl,rfl,by decide +kernel,rfl,by decide +kernel,by decide +kernel⟩
theorem gS:aq ["_law_part","_law_figures","_law_ten_here"] ["_law_part","_law_figures"] (ai (top 92)):=⟨rfl,rfl,rfl,by decide +kernel,rfl,by decide +kernel,by decide +kernel⟩
theorem gU:aq ["_law_cell_here","_law_tracks","_law_rows","_law_columns","_law_many","_law_figures","_law_parts","_law_steps","_law_k","_law_word_here","_law_at"] ["_law_cell_here","_law_tracks","_law_rows","_law_columns","_law_many","_law_figures"] (ai (top 93)):=⟨rfl,rfl,rfl,by decide +kernel,rfl,by decide +kernel,by decide +kernel⟩
theorem iD:aq ["_law_one","_law_other","_law_most","_law_figures","_law_sizes_here"] ["_law_one","_law_other","_law_most","_law_figures"] (ai (top 98)):=⟨rfl,rfl,rfl,by decide +kernel,rfl,by decide +kernel,by decide +kernel⟩
theorem mL:aq ["_law_one","_law_other"] ["_law_one","_law_other"] (ai (top 95)):=⟨rfl,rfl,rfl,by decide +kernel,rfl,by decide +kernel,by decide +kernel⟩
theorem oR:aq ["_law_one","_law_other"] ["_law_one","_law_other"] (ai (top 94)):=⟨rfl,rfl,rfl,by decide +kernel,rfl,by decide +kernel,by decide +kernel⟩
theorem cg:aq ["_law_ladder_here","_law_tracks","_law_rows","_law_columns","_law_steps","_law_lines","_law_word_here","_law_k","_law_weight_here"] ["_law_ladder_here"] (ai (top 96)):=⟨rfl,rfl,rfl,by decide +kernel,rfl,by decide +kernel,by decide +kernel⟩
theorem fW:aq ["_law_ladder_here","_law_cell_here","_law_parts","_law_steps","_law_at","_law_rows","_law_columns"] ["_law_ladder_here","_law_cell_here"] (ai (top 101)):=⟨rfl,rfl,rfl,by decide +kernel,rfl,by decide +kernel,by decide +kernel⟩
theorem oV:aq ["_law_script","_law_k"] ["_law_script","_law_k"] (ai (top 85)):=⟨rfl,rfl,rfl,by decide +kernel,rfl,by decide +kernel,by decide +kernel⟩
theorem cW:aq ["thing"] ["thing"] (ai (top 31)):=⟨rfl,rfl,rfl,by decide +kernel,rfl,by decide +kernel,by decide +kernel⟩
theorem kY:aq ["thing"] ["thing"] (ai (top 22)):=⟨rfl,rfl,rfl,by decide +kernel,rfl,by decide +kernel,by decide +kernel⟩
theorem cC:aq ["one","other","greater","lesser","rest"] ["one","other"] (ai (top 25)):=⟨rfl,rfl,rfl,by decide +kernel,rfl,by decide +kernel,by decide +kernel⟩
theorem iy:aq ["thing"] ["thing"] (ai (top 24)):=⟨rfl,rfl,rfl,by decide +kernel,rfl,by decide +kernel,by decide +kernel⟩
theorem jw:aq ["thing"] ["thing"] (ai (top 32)):=⟨rfl,rfl,rfl,by decide +kernel,rfl,by decide +kernel,by decide +kernel⟩
theorem gX:aq ["thing"] ["thing"] (ai (top 33)):=⟨rfl,rfl,rfl,by decide +kernel,rfl,by decide +kernel,by decide +kernel⟩
theorem fj:aq ["thing"] ["thing"] (ai (top 36)):=⟨rfl,rfl,rfl,by decide +kernel,rfl,by decide +kernel,by decide +kernel⟩
theorem fg:aq ["thing","least","most"] ["thing","least","most"] (ai (top 23)):=⟨rfl,rfl,rfl,by decide +kernel,rfl,by decide +kernel,by decide +kernel⟩
theorem fS:aq ["thing"] ["thing"] (ai (top 58)):=⟨rfl,rfl,rfl,by decide +kernel,rfl,by decide +kernel,by decide +kernel⟩
theorem iE:aq ["thing","tracks"] ["thing","tracks"] (ai (top 59)):=⟨rfl,rfl,rfl,by decide +kernel,rfl,by decide +kernel,by decide +kernel⟩
theorem gi:aq ["thing"] ["thing"] (ai (top 60)):=⟨rfl,rfl,rfl,by decide +kernel,rfl,by decide +kernel,by decide +kernel⟩
theorem iO:aq ["thing"] ["thing"] (ai (top 61)):=⟨rfl,rfl,rfl,by decide +kernel,rfl,by decide +kernel,by decide +kernel⟩
theorem jX:aq ["table","j"] ["table","j"] (ai (top 41)):=⟨rfl,rfl,rfl,by decide +kernel,rfl,by decide +kernel,by decide +kernel⟩
theorem i9:aq ["table"] ["table"] (ai (top 40)):=⟨rfl,rfl,rfl,by decide +kernel,rfl,by decide +kernel,by decide +kernel⟩
theorem je:aq ["track","rows"] ["track","rows"] (ai (top 65)):=⟨rfl,rfl,rfl,by decide +kernel,rfl,by decide +kernel,by decide +kernel⟩
theorem cE:aq ["number","others","found","other"] ["number","others"] (ai (top 26)):=⟨rfl,rfl,rfl,by decide +kernel,rfl,by decide +kernel,by decide +kernel⟩
theorem dM:aq ["sums","weight","above","below","factor"] ["sums","weight"] (ai (top 67)):=⟨rfl,rfl,rfl,by decide +kernel,rfl,by decide +kernel,by decide +kernel⟩
theorem fo:aq ["one","other","shared","one_factor","other_factor","tops","divisor"] ["one","other"] (ai (top 68)):=⟨rfl,rfl,rfl,by decide +kernel,rfl,by decide +kernel,by decide +kernel⟩
theorem cq:aq ["top","bottom","divisor"] ["top","bottom"] (ai (top 27)):=⟨rfl,rfl,rfl,by decide +kernel,rfl,by decide +kernel,by decide +kernel⟩
theorem kO:aq ["top","bottom"] ["top","bottom"] (ai (top 28)):=⟨rfl,rfl,rfl,by decide +kernel,rfl,by decide +kernel,by decide +kernel⟩
theorem j3:aq ["sums"] ["sums"] (ai (top 66)):=⟨rfl,rfl,rfl,by decide +kernel,rfl,by decide +kernel,by decide +kernel⟩
theorem k7:aq ["step"] ["step"] (ai (top 63)):=⟨rfl,rfl,rfl,by decide +kernel,rfl,by decide +kernel,by decide +kernel⟩
theorem jr:aq ["step"] ["step"] (ai (top 62)):=⟨rfl,rfl,rfl,by decide +kernel,rfl,by decide +kernel,by decide +kernel⟩
theorem gQ:aq ["ladder","tracks","step","carried"] ["ladder"] (ai (top 64)):=⟨rfl,rfl,rfl,by decide +kernel,rfl,by decide +kernel,by decide +kernel⟩
theorem hU:aq ["table","ladder"] ["table","ladder"] (ai (top 80)):=⟨rfl,rfl,rfl,by decide +kernel,rfl,by decide +kernel,by decide +kernel⟩
theorem u9:aq ["table","row"] ["table","row"] (ai (top 75)):=⟨rfl,rfl,rfl,by decide +kernel,rfl,by decide +kernel,by decide +kernel⟩
theorem j6:aq ["table","row"] ["table","row"] (ai (top 82)):=⟨rfl,rfl,rfl,by decide +kernel,rfl,by decide +kernel,by decide +kernel⟩
theorem kf:aq ["numbers"] ["numbers"] (ai (top 35)):=⟨rfl,rfl,rfl,by decide +kernel,rfl,by decide +kernel,by decide +kernel⟩
theorem j1:aq ["thing","many"] ["thing","many"] (ai (top 34)):=⟨rfl,rfl,rfl,by decide +kernel,rfl,by decide +kernel,by decide +kernel⟩
theorem va:aq ["table","rows","columns"] ["table","rows","columns"] (ai (top 39)):=⟨rfl,rfl,rfl,by decide +kernel,rfl,by decide +kernel,by decide +kernel⟩
theorem iu:aq ["table","rows","columns"] ["table","rows","columns"] (ai (top 81)):=⟨rfl,rfl,rfl,by decide +kernel,rfl,by decide +kernel,by decide +kernel⟩
theorem kE:aq ["table","paper"] ["table","paper"] (ai (top 79)):=⟨rfl,rfl,rfl,by decide +kernel,rfl,by decide +kernel,by decide +kernel⟩
theorem i7:aq ["table","paper"] ["table","paper"] (ai (top 78)):=⟨rfl,rfl,rfl,by decide +kernel,rfl,by decide +kernel,by decide +kernel⟩
theorem jQ:aq ["_law_e","_law_named","_law_words","_law_some"] ["_law_e"] (ai (top 91)):=⟨rfl,rfl,rfl,by decide +kernel,rfl,by decide +kernel,by decide +kernel⟩
theorem gn:aq ["_law_table_here","_law_paper","_law_e"] ["_law_table_here","_law_paper"] (ai (top 100)):=⟨rfl,rfl,rfl,by decide +kernel,rfl,by decide +kernel,by decide +kernel⟩
theorem qj:aq ["_law_script","_law_k","_law_cell_here","_law_parts","_law_table_here","_law_kept","_law_odd_here","_law_ladder_here","_law_made_here","_law_other"] ["_law_script"] (ai (top 102)):=⟨rfl,rfl,rfl,by decide +kernel,rfl,by decide +kernel,by decide +kernel⟩
end K44
namespace K44
open PySem PySem.Spec PyProof.Rows L2 Hy
open Ev (D Den ax aM aG)
noncomputable def iC:Int->List Int->List Int
 | _,[]=>[]
 | c,b :: r=>c.fmod b :: iC (c.fdiv b) r
noncomputable def sr (c:Int) (bs:List Int):Int:=bs.foldl (λc b=>c.fdiv b) c
noncomputable def tU (c:Int) (k:Nat) (b:Int):Int:=(((((c * 48271 + (k:Int) * k * 69621 + (k:Int) * 16807 + 11).fmod 2147483647) * 40692 + c + 31 * (k:Int)).fmod 2147483399).fdiv 7).fmod b
noncomputable def rH (c:Int) (bs:List Int):List Int:=(List.range bs.length).map λk=>tU c k (bs.getD k 0)
noncomputable def nums (c:Int) (bs:List Int):List Int:=if (10:Int) ^ (18:Int).toNat<=rY c then iC c bs else rH c bs
theorem jE:∀ (bs:List Int) (c b:Int),iC c (bs++[b])=iC c bs++[(sr c bs).fmod b]
 | [],_,_=>rfl
 | a :: bs,c,b=>by rw [List.cons_append,iC,iC,jE bs]; rfl
theorem iU:∀ (bs:List Int) (c:Int),(iC c bs).length=bs.length
 | [],_=>rfl
 | _ :: bs,c=>congrArg (· + 1) (iU bs _)
theorem eS (c:Int) (bs:List Int):(nums c bs).length=bs.length:=by
 unfold nums
 split
 · exact iU bs c
 · simp [rH]
theorem nV:∀ (bs:List Int) (c:Int),(∀ b ∈ bs,0 < b)->∀ (i:Nat),i < bs.length->0<=(iC c bs).getD i 0/\(iC c bs).getD i 0 < bs.getD i 0
 | b :: bs,c,h,0,_=>by
   have:=h b (List.mem_cons_self ..)
   exact ⟨Int.fmod_nonneg_of_pos c this,Int.fmod_lt_of_pos c this⟩
 | b :: bs,c,h,i + 1,hi=>by
   have:=nV bs (c.fdiv b) (λx hx=>h x (List.mem_cons_of_mem _ hx)) i (by simpa using hi)
   simpa [iC] using this
theorem fV {c:Int} {bs:List Int} (h:∀ b ∈ bs,0 < b) {i:Nat} (hi:i < bs.length):0<=(nums c bs).getD i 0/\(nums c bs).getD i 0 < bs.getD i 0:=by
 unfold nums
 split
 · exact nV bs c h i hi
 · have hp:0 < bs.getD i 0:=h _ (by simp [hi])
   have e:(rH c bs).getD i 0=tU c i (bs.getD i 0):=by simp [rH,hi]
   rw [e]
   exact ⟨Int.fmod_nonneg_of_pos _ hp,Int.fmod_lt_of_pos _ hp⟩
theorem take_snoc {α:Type} {xs:List α} {i:Nat} (d:α) (h:i < xs.length):xs.take (i + 1)=xs.take i++[xs.getD i d]:=by
 rw [List.take_add_one,List.getElem?_eq_getElem h]
 simp [h]
theorem k6 {b:Int} (h0:0 < b) (h:b < 2 ^ 60):0 < b/\aG b:=⟨h0,mkD (by omega) (by omega)⟩
noncomputable def bx (ds:List D) (r:Sl):Prop:=∃ (c:Int) (bs:List Int),ds=[.int c,.lst (bs.map .int)]/\bs.length<=10000/\(∀ b ∈ bs,0 < b/\aG b)/\r=.o ((nums c bs).map .int)
noncomputable def frD (q:Rat):D:=.tup [.int q.num,.int (q.den:Nat)]
theorem eX (x:Rat):x * (((x.den:Nat):Int):Rat)=(x.num:Rat):=by
 have h:mkRat x.num x.den=x:=by rw [<- Rat.normalize_eq_mkRat x.den_nz]; exact Rat.normalize_self x
 rw [Rat.mkRat_eq_div] at h
 have hd:((x.den:Nat):Rat) ≠ 0:=λz=>x.den_nz (Rat.natCast_eq_zero_iff.mp z)
 rw [Rat.intCast_natCast]
 conv=>lhs; lhs; rw [<- h]
 exact Rat.div_mul_cancel hd
theorem du {t b:Int} {x:Rat} (hb:0 < b) (h:(t:Rat)=x * (b:Rat)):x.num=t / (Int.gcd t b:Int)/\((x.den:Nat):Int)=b / (Int.gcd t b:Int):=by
 have hb0:((b.toNat:Nat):Rat) ≠ 0:=λz=>by have:=Rat.natCast_eq_zero_iff.mp z; omega
 have hbb:((b:Int):Rat)=((b.toNat:Nat):Rat):=by rw [<- Rat.intCast_natCast,Int.toNat_of_nonneg (by omega)]
 have e:x=mkRat t b.toNat:=by
   rw [Rat.mkRat_eq_div,h,hbb,Rat.mul_div_cancel hb0]
 have g:b.toNat.gcd t.natAbs=Int.gcd t b:=by
   rw [Int.gcd,Nat.gcd_comm,show b.natAbs=b.toNat by omega]
 have nz:¬ b.toNat=0:=by omega
 constructor
 · rw [e,Rat.num_mkRat,if_neg nz,g]
 · rw [e,Rat.den_mkRat,if_neg nz,g,Int.natCast_ediv,Int.toNat_of_nonneg (by omega)]
theorem den_pos (q:Rat):0 < ((q.den:Nat):Int):=by have:=q.den_pos; omega
theorem iY {b:Int} (hb:0 < b):(b:Rat) ≠ 0:=λz=>by have:=Rat.intCast_eq_zero_iff.mp z; omega
noncomputable def Bd (n:Nat) (i:Int):Prop:=i.natAbs < 2 ^ n
theorem Bd.mono {m n:Nat} {i:Int} (h:Bd m i) (hm:m<=n):Bd n i:=Nat.lt_of_lt_of_le h (Nat.pow_le_pow_right (by decide) hm)
theorem Bd.log {n:Nat} {i:Int} (h:Bd n i) (hn:0 < n):i.natAbs.log2 < n:=by
 rcases Nat.eq_zero_or_pos i.natAbs with z | z
 · rw [z]; exact hn
 · exact (Nat.log2_lt (by omega)).mpr h
theorem Bd.mul {m n:Nat} {i j:Int} (h:Bd m i) (g:Bd n j):Bd (m + n) (i * j):=by
 unfold Bd at *
 rw [Int.natAbs_mul,Nat.pow_add]
 rcases Nat.eq_zero_or_pos j.natAbs with z | z
 · rw [z,Nat.mul_zero]; exact Nat.mul_pos (Nat.two_pow_pos m) (Nat.two_pow_pos n)
 · exact Nat.lt_of_lt_of_le (Nat.mul_lt_mul_of_pos_right h z) (Nat.mul_le_mul_left _ (Nat.le_of_lt g))
theorem Bd.aM {m n:Nat} {i j:Int} (h:Bd m i) (g:Bd n j) (hm:m<=1000000) (hn:n<=1000000):aM i j:=
 .inr (.inr ⟨(h.mono (Nat.le_succ_of_le hm)).log (by omega) |> λz=>by
   rcases Nat.eq_zero_or_pos i.natAbs with q | q
   · rw [q]; decide
   · exact Nat.lt_of_lt_of_le ((Nat.log2_lt (by omega)).mpr h) hm,by
   rcases Nat.eq_zero_or_pos j.natAbs with q | q
   · rw [q]; decide
   · exact Nat.lt_of_lt_of_le ((Nat.log2_lt (by omega)).mpr g) hn⟩)
theorem Bd.aG {n:Nat} {j:Int} (h:Bd n j) (h0:j ≠ 0) (hn:n<=9000):aG j:=⟨h0,Nat.lt_of_lt_of_le ((Nat.log2_lt (by omega)).mpr h) hn⟩
theorem Bd.of_dvd {n:Nat} {i j:Int} (h:Bd n j) (hd:i ∣ j) (h0:j ≠ 0):Bd n i:=Nat.lt_of_le_of_lt (Nat.le_of_dvd (by omega) (Int.natAbs_dvd_natAbs.mpr hd)) h
theorem Bd.ediv {n:Nat} {i:Int} (h:Bd n i) (j:Int):Bd n (i / j):=Nat.lt_of_le_of_lt (Int.natAbs_ediv_le_natAbs i j) h
theorem Bd.gcd {n:Nat} {i j:Int} (h:Bd n j) (h0:j ≠ 0):Bd n (Int.gcd i j:Int):=h.of_dvd (Int.gcd_dvd_right ..) h0
theorem mH {i j:Int} (h0:j ≠ 0):(Int.gcd i j:Int) ≠ 0:=λz=>h0 (by have:=Int.gcd_eq_zero_iff.mp (Int.ofNat_eq_zero.mp z); exact this.2)
theorem gh {i j:Int} (t:Int):t.fdiv (Int.gcd i j:Int)=t / (Int.gcd i j:Int):=Int.fdiv_eq_ediv_of_nonneg _ (Int.natCast_nonneg _)
structure Sq (n:Nat) (q:Rat):Prop where
 num:Bd n q.num
 den:Bd n (q.den:Nat)
theorem Sq.mono {m n:Nat} {q:Rat} (h:Sq m q) (hm:m<=n):Sq n q:=⟨h.num.mono hm,h.den.mono hm⟩
theorem Sq.du {n:Nat} {t b:Int} {x:Rat} (hb:0 < b) (h:(t:Rat)=x * (b:Rat)) (h1:Bd n t) (h2:Bd n b):Sq n x:=by
 obtain ⟨e1,e2⟩:=K44.du hb h
 exact ⟨by rw [e1]; exact h1.ediv _,by rw [e2]; exact h2.ediv _⟩
noncomputable def whl (x:D):Bool:=cL .int x && !cL .bool x
noncomputable def bF (ds:List D) (r:Sl):Prop:=∃ x,ds=[x]/\r=.d (.bl (whl x))
noncomputable def b8 (ds:List D) (r:Sl):Prop:=∃ i l m:Int,ds=[.int i,.int l,.int m]/\r=.d (.bl (decide (l<=i) && decide (i<=m)))
noncomputable def aT (ds:List D) (r:Sl):Prop:=∃ a b:Int,ds=[.int a,.int b]/\r=.d (.int (Int.gcd a b:Int))
theorem fU (i:Int):rY i=(i.natAbs:Int):=by unfold rY; omega
noncomputable def dW:D->Bool
 | .tup [.int a,.int b]=>decide (1<=b) && decide ((Int.gcd a b:Int)=1)
 | _=>false
theorem mO (q:Rat):dW (frD q)=true:=by
 have h1:=den_pos q
 have h2:Int.gcd q.num (q.den:Nat)=1:=q.reduced
 show (decide ((1:Int)<=(q.den:Nat)) && decide ((Int.gcd q.num (q.den:Nat):Int)=1))=true
 rw [h2,decide_eq_true (show (1:Int)<=(q.den:Nat) by omega)]
 rfl
theorem pv {xs:List D} (h:xs.length ≠ 2):dW (.tup xs)=false:=by
 unfold dW
 split
 · rename_i e; cases e; exact absurd rfl h
 · rfl
noncomputable def bt (ds:List D) (r:Sl):Prop:=∃ x,ds=[x]/\r=.d (.bl (dW x))
noncomputable def eJ (ds:List D) (r:Sl):Prop:=∃ q:Rat,ds=[frD q]/\0<=q.num/\r=.d (.bl true)
noncomputable abbrev Stp:=Str × Nat × Rat
noncomputable def stD (s:Stp):D:=.tup [.str s.1,.int (s.2.1:Nat),frD s.2.2]
noncomputable def okS (T:Nat) (s:Stp):Prop:=0<=s.2.2.num/\((s.1 = "weigh" /\ s.2.1 < T)\/((s.1 = "down" \/ s.1 = "up")/\s.2.1 + 1 < T))
noncomputable def gx (ds:List D) (r:Sl):Prop:=∃ (T:Nat) (s:Stp),ds=[stD s,.int T]/\okS T s/\r=.d (.bl true)
noncomputable def dC (T R C:Nat) (ss:List Stp):D:=.tup [.int T,.int R,.int C,.lst (ss.map stD)]
structure okL (T R C:Nat) (ss:List Stp):Prop where
 t1:1<=T
 t7:T<=7
 r1:1<=R
 rT:R<=T
 c1:1<=C
 cT:C<=T
 len:ss.length<=400
 st:∀ i,i < ss.length->okS T (ss.getD i ("weigh",0,0))
theorem wc {ss:List Stp} (i:Nat) (h:i < (ss.map stD).length):(ss.map stD)[i]=stD (ss.getD i ("weigh",0,0)):=by
 have:i < ss.length:=by simpa using h
 simp [this]
noncomputable def cD (ds:List D) (r:Sl):Prop:=∃ (T R C:Nat) (ss:List Stp),ds=[dC T R C ss]/\okL T R C ss/\r=.d (.bl true)
noncomputable def cF (ds:List D) (r:Sl):Prop:=∃ (T R C:Nat) (ss:List Stp),ds=[dC T R C ss]/\okL T R C ss/\r=.d .non
noncomputable def rgS (s:Stp):Nat:=if s.1 = "down" then s.2.1 else s.2.1 + 1
noncomputable def dD (ds:List D) (r:Sl):Prop:=∃ s:Stp,ds=[stD s]/\r=.d (.int (rgS s:Nat))
noncomputable def rgE (s:Stp):Nat:=if s.1 = "down" then s.2.1 + 1 else s.2.1
noncomputable def fA (ds:List D) (r:Sl):Prop:=∃ s:Stp,ds=[stD s]/\r=.d (.int (rgE s:Nat))
section
variable {P:Program} {w:World} {K:PySem.W.Frag} {mg:Str->Option Value} {base:Heap} {k:Nat} {f:Addr} {fd:FuncData} {qual:Str}
theorem kN (F:Fun K "_law_numbers" qual (top 86) f fd) (hb:∀ x ∈ aj,mg x=none):aJ P w K mg base CX0 (k + 1) f fd ["_law_cell_here","_law_bases"] (spD K bx):=by
 refine fnD F fT hb (by rintro _ _ ⟨_,_,rfl,_⟩; rfl) ?_
 rintro _ _ ⟨c,bs,rfl,hl,hbs,rfl⟩ cdv A outer s H E b
 have nd:=fT.nd
 have hp:∀ i,i < bs.length->0 < bs.getD i 0/\aG (bs.getD i 0):=λi hi=>hbs _ (by simp [hi])
 refine aE 2 nd (bG ag) ?_
 refine aU (aH (aW b (aa (ae 0) ag) lP) (av af af (gY ⟨by decide,by decide,by decide⟩)) qN) (λh=>?_) λh=>?_
 · refine lX 3 (λi τ=>∃ s3,τ=[.d (.int (sr c (bs.take i))),.d (.lst (bs.map .int)),.o ((iC c (bs.take i)).map .int),s3,.un,.un]) b nd (bo (ae 1)) lN ⟨_,rfl⟩ (λi hi τ h=>?_) λτ h=>?_
   · obtain ⟨s3,rfl⟩:=h
     have hi:i < bs.length:=by simpa using hi
     obtain ⟨p1,p2⟩:=hp i hi
     refine n5 2 (av (ae 0) (ae 3) (bj (by omega))) ?_ ?_
     · rw [List.length_map,iU,List.length_take]; omega
     refine aE 0 nd (av (ae 0) (ae 3) (bf p2)) (aX ?_)
     apply ex1
     show [Sl.d (.int ((sr c (bs.take i)).fdiv (bs.getD i 0))),_,Sl.o _,_,_,_]=_
     rw [take_snoc 0 hi,jE,List.map_append]
     unfold sr
     rw [List.foldl_append]
     rfl
   · obtain ⟨s3,rfl⟩:=h
     refine pA 2 ?_
     rw [List.length_map,List.take_of_length_le (Nat.le_refl _)]
     unfold nums
     rw [if_pos (of_decide_eq_true h)]
 · refine qm 4 3 (λi τ=>∃ s3 s4 s5,τ=[.d (.int c),.d (.lst (bs.map .int)),.o (((List.range i).map λk=>tU c k (bs.getD k 0)).map .int),s3,s4,s5]) b nd (sQ b (ae 1)) sX ⟨_,_,_,rfl⟩ (λi hi τ h=>?_) λτ h=>?_
   · obtain ⟨s3,s4,s5,rfl⟩:=h
     have hi:i < bs.length:=by rw [gf,List.length_map] at hi; exact hi
     obtain ⟨p1,p2⟩:=hp i hi
     refine aE 5 nd (av (av (av (av (av (ae 0) af (a4 (mkR (by decide)))) (av (av (ae 4) (ae 4) (a4 (mkL (by omega)))) af (a4 (mkR (by decide)))) aZ) (av (ae 4) af (a4 (mkR (by decide)))) aZ) af aZ) af (bj (by decide))) ?_
     refine n5 2 (av (av (av (av (av (av (ae 5) af (a4 (mkR (by decide)))) (ae 0) aZ) (av af (ae 4) (a4 (mkL (by decide)))) aZ) af (bj (by decide))) af (bf (mkD (by decide) (by decide)))) (ae 3) (bj (by omega))) ?_ (aX ?_)
     · rw [List.length_map,List.length_map,List.length_range]; omega
     apply ex3
     rw [List.range_succ,List.map_append,List.map_append]
     rfl
   · obtain ⟨s3,s4,s5,rfl⟩:=h
     refine pA 2 ?_
     rw [gf,List.length_map]
     unfold nums
     rw [if_neg (of_decide_eq_false h)]
     rfl
theorem lL (F:Fun K "is_whole" qual (top 22) f fd) (hb:∀ x ∈ aj,mg x=none):aJ P w K mg base CX0 (k + 1) f fd ["thing"] (spD K bF):=by
 refine fnD F kY hb (by rintro _ _ ⟨_,rfl,_⟩; rfl) ?_
 rintro _ _ ⟨x,rfl,rfl⟩ cdv A outer s H E b
 exact au (bh (br .int b (ae 0)) λh=>(cy (vj (br .bool b (ae 0))))) rfl
theorem jm (F:Fun K "is_between" qual (top 23) f fd) (hb:∀ x ∈ aj,mg x=none) (c_is_whole:Cal P w K mg base k "is_whole" bF):aJ P w K mg base CX0 (k + 1) f fd ["thing","least","most"] (spD K b8):=by
 refine fnD F fg hb (by rintro _ _ ⟨_,_,_,rfl,_⟩; rfl) ?_
 rintro _ _ ⟨i,l,m,rfl,rfl⟩ cdv A outer s H E b
 exact au (bh (x_call b c_is_whole (aa (ae 0) ag) ⟨_,rfl,rfl⟩) λh=>(cy (ie (ae 1) (ae 0) (ae 2) lV lV).1)) rfl
theorem gp (F:Fun K "common_divisor" qual (top 25) f fd) (hb:∀ x ∈ aj,mg x=none):aJ P w K mg base CX0 (k + 1) f fd ["one","other"] (spD K aT):=by
 refine fnD F cC hb (by rintro _ _ ⟨_,_,rfl,_⟩; rfl) ?_
 rintro _ _ ⟨x,y,rfl,rfl⟩ cdv A outer s H E b
 have nd:=cC.nd
 refine aE 2 nd (aW b (aa (ae 0) ag) lP) (aE 3 nd (aW b (aa (ae 1) ag) lP) ?_)
 rw [fU,fU]
 refine nq (λn t τ=>∃ (g:Nat) (s4:Sl),Nat.gcd g n=Int.gcd x y/\t=(!decide ((n:Int)=0))/\τ=[.d (.int x),.d (.int y),.d (.int g),.d (.int n),s4]) b ⟨_,_,_,_,rfl,rfl,rfl⟩ (λn t τ h=>?_) (λn τ h=>?_) λn τ h=>?_
 · obtain ⟨g,s4,_,rfl,rfl⟩:=h
   exact aH (ae 3) af iG
 · obtain ⟨g,s4,hg,ht,rfl⟩:=h
   have hl:n ≠ 0:=λz=>by simp [z] at ht
   have e:(g:Int).fmod n=((g % n:Nat):Int):=by rw [Int.fmod_eq_emod_of_nonneg _ (by omega)]; rfl
   refine aE 4 nd (av (ae 2) (ae 3) (bj (by omega))) ?_
   rw [e]
   refine aE 2 nd (ae 3) (aE 3 nd (ae 4) (aX ⟨g % n,_,Nat.mod_lt g (Nat.pos_of_ne_zero hl),n,_,?_,rfl,rfl⟩))
   rw [<- hg,Nat.gcd_comm n,<- Nat.gcd_rec,Nat.gcd_comm]
 · obtain ⟨g,s4,hg,ht,rfl⟩:=h
   have hl:n=0:=by simpa using ht
   refine au (ae 2) ?_
   rw [<- hg,hl,Nat.gcd_zero_right]
theorem i3 (F:Fun K "is_fraction" qual (top 24) f fd) (hb:∀ x ∈ aj,mg x=none) (c_is_whole:Cal P w K mg base k "is_whole" bF) (c_common_divisor:Cal P w K mg base k "common_divisor" aT):aJ P w K mg base CX0 (k + 1) f fd ["thing"] (spD K bt):=by
 refine fnD F iy hb (by rintro _ _ ⟨_,rfl,_⟩; rfl) ?_
 rintro _ _ ⟨x,rfl,rfl⟩ cdv A outer s H E b
 by_cases ht:cL .tuple x=true
 · obtain ⟨xs,rfl⟩:∃ xs,x=.tup xs:=by cases x <;> first | exact ⟨_,rfl⟩ | cases ht
   refine aU (PW.pt (a8 (aK (aI (br .tuple b (ae 0)))) λh=>(bC (aH (aW b (aa (ae 0) ag) bU) af iG)))) (λh=>?_) λh=>?_
   · refine au b5 ?_
     have h:(!decide ((xs.length:Int)=2))=true:=h
     have:xs.length ≠ 2:=λz=>by rw [z] at h; cases h
     rw [pv this]
   · have h:(!decide ((xs.length:Int)=2))=false:=h
     have h2:xs.length=2:=by simp at h; omega
     obtain ⟨u,v,rfl⟩:∃ u v,xs=[u,v]:=by
       match xs,h2 with
       | [u,v],_=>exact ⟨u,v,rfl⟩
     refine aU (PW.pt (a8 (aK (aI (x_call b c_is_whole (aa (ar (ae 0) af (ak (ah (i:=0) rfl))) ag) ⟨_,rfl,rfl⟩))) λh=>(bC (aK (aI (x_call b c_is_whole (aa (ar (ae 0) af (ak (ah (i:=1) rfl))) ag) ⟨_,rfl,rfl⟩)))))) (λh=>?_) λh=>?_
     · refine au b5 ?_
       have:dW (.tup [u,v])=false:=by cases u <;> cases v <;> first | rfl | cases h
       rw [this]
     · obtain ⟨i,j,rfl,rfl⟩:∃ i j,u=.int i/\v=.int j:=by cases u <;> cases v <;> first | exact ⟨_,_,rfl,rfl⟩ | cases h
       exact au (bh (bI (ar (ae 0) af (ak (ah (i:=1) rfl))) af qN) λh=>(cy (bI (x_call b c_common_divisor (aa (ar (ae 0) af (ak (ah (i:=0) rfl))) (aa (ar (ae 0) af (ak (ah (i:=1) rfl))) ag)) ⟨_,_,rfl,rfl⟩) af cO))) rfl
 · have e:cL .tuple x=false:=by simpa using ht
   have ef:dW x=false:=by cases x <;> first | rfl | cases e
   refine aU (PW.pt (a8 (q:=true) (aK (aI (br .tuple b (ae 0)))) λh=>(by rw [e] at h; cases h))) (λh=>?_) λh=>?_
   · refine au b5 ?_
     rw [ef]
   · rw [Bool.or_true] at h; cases h
theorem j5 (F:Fun K "is_weight" qual (top 58) f fd) (hb:∀ x ∈ aj,mg x=none) (c_is_fraction:Cal P w K mg base k "is_fraction" bt):aJ P w K mg base CX0 (k + 1) f fd ["thing"] (spD K eJ):=by
 refine fnD F fS hb (by rintro _ _ ⟨_,rfl,_⟩; rfl) ?_
 rintro _ _ ⟨q,rfl,h0,rfl⟩ cdv A outer s H E b
 refine au (bh (x_call b c_is_fraction (aa (ae 0) ag) ⟨_,rfl,rfl⟩) λh=>(cy (bI (ar (ae 0) af (ak (ah (i:=0) rfl))) af qN))) ?_
 rw [mO,decide_eq_true h0]
 rfl
theorem mE (F:Fun K "is_step" qual (top 59) f fd) (hb:∀ x ∈ aj,mg x=none) (c_is_between:Cal P w K mg base k "is_between" b8) (c_is_weight:Cal P w K mg base k "is_weight" eJ):aJ P w K mg base CX0 (k + 1) f fd ["thing","tracks"] (spD K gx):=by
 refine fnD F iE hb (by rintro _ _ ⟨_,_,rfl,_⟩; rfl) ?_
 rintro _ _ ⟨T,⟨u,n,q⟩,rfl,⟨h0,h1⟩,rfl⟩ cdv A outer s H E b
 refine bQ (PW.pt (a8 (aK (aI (br .tuple b (ae 0)))) λh=>(a8 (aH (aW b (aa (ae 0) ag) bU) af iG) λh=>(bC (aK (aI (x_call b c_is_weight (aa (ar (ae 0) af (ak (ah (i:=2) rfl))) ag) ⟨q,rfl,h0,rfl⟩))))))) rfl ?_
 refine aU (aH (ar (ae 0) af (ak (ah (i:=0) rfl))) aN jK) (λh=>?_) λh=>?_
 · refine au (x_call b c_is_between (aa (ar (ae 0) af (ak (ah (i:=1) rfl))) (aa af (aa (av (ae 1) af d8) ag))) ⟨_,_,_,rfl,rfl⟩) ?_
   have e:=of_decide_eq_true h
   have hn:n < T:=by
     rcases h1 with h1 | h1
     · exact h1.2
     · have:=h1.2; simp only at this; omega
   rw [decide_eq_true (show (0:Int)<=n by omega),decide_eq_true (show (n:Int)<=(T:Int) - 1 by omega)]
   rfl
 · have e:=of_decide_eq_false h
   obtain ⟨e1,e2⟩:(u = "down" \/ u = "up")/\n + 1 < T:=by
     rcases h1 with h1 | h1
     · exact absurd h1.1 e
     · exact h1
   refine au (bh (bI (ar (ae 0) af (ak (ah (i:=0) rfl))) (bH (aa aN (aa aN ag))) (sH (us:=["down","up"]))) λh=>(cy (x_call b c_is_between (aa (ar (ae 0) af (ak (ah (i:=1) rfl))) (aa af (aa (av (ae 1) af d8) ag))) ⟨_,_,_,rfl,rfl⟩))) ?_
   rw [decide_eq_true (show (0:Int)<=n by omega),decide_eq_true (show (n:Int)<=(T:Int) - 2 by omega)]
   have:(([("down" : Str),"up"]:List Str).any λw=>decide (w=u))=true:=by
     clear h e h1 h0
     rcases e1 with rfl | rfl <;> decide +kernel
   show Sl.d (.bl ((([("down" : Str),"up"]:List Str).any λw=>decide (w=u)) && _))=_
   rw [this]
   rfl
theorem kx (F:Fun K "is_ladder" qual (top 60) f fd) (hb:∀ x ∈ aj,mg x=none) (y_MOST:∃ t,mg "MOST" = some (.int 7 t)) (y_MOST_STEPS:∃ t,mg "MOST_STEPS" = some (.int 400 t)) (c_is_between:Cal P w K mg base k "is_between" b8) (c_is_step:Cal P w K mg base k "is_step" gx):aJ P w K mg base CX0 (k + 1) f fd ["thing"] (spD K cD):=by
 refine fnD F gi hb (by rintro _ _ ⟨_,_,_,_,rfl,_⟩; rfl) ?_
 rintro _ _ ⟨T,R,C,ss,rfl,h,rfl⟩ cdv A outer s H E b
 have ht:decide ((1:Int)<=T)=true/\decide ((T:Int)<=7)=true:=⟨decide_eq_true (by have:=h.t1; omega),decide_eq_true (by have:=h.t7; omega)⟩
 have hr:decide ((1:Int)<=R)=true/\decide ((R:Int)<=T)=true:=⟨decide_eq_true (by have:=h.r1; omega),decide_eq_true (by have:=h.rT; omega)⟩
 have hc:decide ((1:Int)<=C)=true/\decide ((C:Int)<=T)=true:=⟨decide_eq_true (by have:=h.c1; omega),decide_eq_true (by have:=h.cT; omega)⟩
 have hl:(ss.map stD).length=ss.length:=List.length_map ..
 have hlen:=h.len
 refine bQ (PW.pt (a8 (aK (aI (br .tuple b (ae 0)))) λh=>(a8 (aH (aW b (aa (ae 0) ag) bU) af iG) λh=>(bC (aK (aI (x_call b c_is_between (aa (ar (ae 0) af (ak (ah (i:=0) rfl))) (aa af (aa (gB y_MOST) ag))) ⟨_,_,_,rfl,rfl⟩))))))) ?_ ?_
 · rw [ht.1,ht.2]; rfl
 refine bQ (PW.pt (a8 (aK (aI (x_call b c_is_between (aa (ar (ae 0) af (ak (ah (i:=1) rfl))) (aa af (aa (ar (ae 0) af (ak (ah (i:=0) rfl))) ag))) ⟨_,_,_,rfl,rfl⟩))) λh=>(bC (aK (aI (x_call b c_is_between (aa (ar (ae 0) af (ak (ah (i:=2) rfl))) (aa af (aa (ar (ae 0) af (ak (ah (i:=0) rfl))) ag))) ⟨_,_,_,rfl,rfl⟩)))))) ?_ ?_
 · rw [hr.1,hr.2,hc.1,hc.2]; rfl
 refine bQ (PW.pt (a8 (aK (aI (br .list b (ar (ae 0) af (ak (ah (i:=3) rfl)))))) λh=>(bC (aH (aW b (aa (ar (ae 0) af (ak (ah (i:=3) rfl))) ag) bY) (gB y_MOST_STEPS) q9)))) ?_ ?_
 · rw [hl,decide_eq_false (show ¬ (400:Int) < ss.length by omega)]; rfl
 refine au (aW b (aa (aQ (cA (cmp 0 (f:=λ_=>.bl true) b (bo (ar (ae 0) af (ak (ah (i:=3) rfl)))) wc ?_ λi hi s0 H0 fp=>(x_call (b.comp s0 H0 _ fp) c_is_step (aa (ae 0) (aa (ar (ae 1) af (ak (ah (i:=0) rfl))) ag)) ⟨T,_,rfl,h.st i (by omega),rfl⟩)))) ag) (e8 b.calm ((List.range (ss.map stD).length).map λ_=>true) (by rw [List.map_map]; rfl))) ?_
 · omega
 · have:((List.range (ss.map stD).length).map λ_=>true).all id=true:=by rw [List.all_map,List.all_eq_true]; intro _ _; rfl
   rw [this]
theorem iX (F:Fun K "look_ladder" qual (top 61) f fd) (hb:∀ x ∈ aj,mg x=none) (c_is_ladder:Cal P w K mg base k "is_ladder" cD):aJ P w K mg base CX0 (k + 1) f fd ["thing"] (spD K cF):=by
 refine fnD F iO hb (by rintro _ _ ⟨_,_,_,_,rfl,_⟩; rfl) ?_
 rintro _ _ ⟨T,R,C,ss,rfl,h,rfl⟩ cdv A outer s H E b
 exact bQ (aK (aI (x_call b c_is_ladder (aa (ae 0) ag) ⟨T,R,C,ss,rfl,h,rfl⟩))) rfl (aX rfl)
theorem jl (F:Fun K "rung_start" qual (top 62) f fd) (hb:∀ x ∈ aj,mg x=none):aJ P w K mg base CX0 (k + 1) f fd ["step"] (spD K dD):=by
 refine fnD F jr hb (by rintro _ _ ⟨_,rfl,_⟩; rfl) ?_
 rintro _ _ ⟨⟨u,n,q⟩,rfl,rfl⟩ cdv A outer s H E b
 refine au (s:=.d (.int (rgS (u,n,q):Nat))) (pK (aH (ar (ae 0) af (ak (ah (i:=0) rfl))) aN jK) (λh=>?_) λh=>?_) rfl
 · rw [show rgS (u,n,q)=n from if_pos (of_decide_eq_true h)]
   exact ar (ae 0) af (ak (ah (i:=1) rfl))
 · rw [show rgS (u,n,q)=n + 1 from if_neg (of_decide_eq_false h)]
   exact av (ar (ae 0) af (ak (ah (i:=1) rfl))) af aZ
theorem lH (F:Fun K "rung_end" qual (top 63) f fd) (hb:∀ x ∈ aj,mg x=none):aJ P w K mg base CX0 (k + 1) f fd ["step"] (spD K fA):=by
 refine fnD F k7 hb (by rintro _ _ ⟨_,rfl,_⟩; rfl) ?_
 rintro _ _ ⟨⟨u,n,q⟩,rfl,rfl⟩ cdv A outer s H E b
 refine au (s:=.d (.int (rgE (u,n,q):Nat))) (pK (aH (ar (ae 0) af (ak (ah (i:=0) rfl))) aN jK) (λh=>?_) λh=>?_) rfl
 · rw [show rgE (u,n,q)=n + 1 from if_pos (of_decide_eq_true h)]
   exact av (ar (ae 0) af (ak (ah (i:=1) rfl))) af aZ
 · rw [show rgE (u,n,q)=n from if_neg (of_decide_eq_false h)]
   exact ar (ae 0) af (ak (ah (i:=1) rfl))
end
noncomputable def isW:D->Bool
 | .tup [.int a,.int b]=>(decide (1<=b) && decide ((Int.gcd a b:Int)=1)) && decide (a ≥ 0)
 | _=>false
theorem tL {x:D} (h:dW x=false):isW x=false:=by
 unfold isW
 split
 · have h:(decide _ && decide _)=false:=h
   rw [h]; rfl
 · rfl
theorem pg {x:D} (h:dW x=true):∃ a b,x=.tup [.int a,.int b]:=by
 unfold dW at h
 split at h
 · exact ⟨_,_,rfl⟩
 · cases h
noncomputable def dn (ds:List D) (r:Sl):Prop:=∃ x:D,ds=[x]/\r=.d (.bl (isW x))
noncomputable def cB:D->Int->Int->Bool
 | .int i,l,m=>decide (l<=i) && decide (i<=m)
 | _,_,_=>false
theorem qt (x:D) (l m:Int) (h:whl x=false):cB x l m=false:=by cases x <;> first | rfl | cases h
noncomputable def bN (ds:List D) (r:Sl):Prop:=∃ (x:D) (l m:Int),ds=[x,.int l,.int m]/\r=.d (.bl (cB x l m))
noncomputable def isS (T:Int):D->Bool
 | .tup [u,n,q]=>isW q && (if Ev.eqD u (.str "weigh") then cB n 0 (T - 1) else inS ["down","up"] u && cB n 0 (T - 2))
 | _=>false
theorem su {T:Int} {xs:List D} (h:xs.length ≠ 3):isS T (.tup xs)=false:=by
 unfold isS
 split
 · rename_i e; cases e; exact absurd rfl h
 · rfl
noncomputable def fI (ds:List D) (r:Sl):Prop:=∃ (x:D) (T:Int),ds=[x,.int T]/\(∀ u n q,x=.tup [u,n,q]->flD u=true/\Ev.cU u)/\r=.d (.bl (isS T x))
section
variable {P:Program} {w:World} {K:PySem.W.Frag} {mg:Str->Option Value} {base:Heap} {k:Nat} {f:Addr} {fd:FuncData} {qual:Str}
theorem jf (F:Fun K "is_weight" qual (top 58) f fd) (hb:∀ x ∈ aj,mg x=none) (c_is_fraction:Cal P w K mg base k "is_fraction" bt):aJ P w K mg base CX0 (k + 1) f fd ["thing"] (spD K dn):=by
 refine fnD F fS hb (by rintro _ _ ⟨_,rfl,_⟩; rfl) ?_
 rintro _ _ ⟨x,rfl,rfl⟩ cdv A outer s H E b
 cases hf:dW x with
 | false=>
   rw [tL hf]
   exact au (bh (p:=false) (q:=true) (x_call b c_is_fraction (aa (ae 0) ag) ⟨x,rfl,by rw [hf]⟩) λh=>nomatch h) rfl
 | true=>
   obtain ⟨i,j,rfl⟩:=pg hf
   exact au (bh (x_call b c_is_fraction (aa (ae 0) ag) ⟨_,rfl,rfl⟩) λh=>(cy (bI (ar (ae 0) af (ak (ah (i:=0) rfl))) af qN))) rfl
theorem iT (F:Fun K "is_between" qual (top 23) f fd) (hb:∀ x ∈ aj,mg x=none) (c_is_whole:Cal P w K mg base k "is_whole" bF):aJ P w K mg base CX0 (k + 1) f fd ["thing","least","most"] (spD K bN):=by
 refine fnD F fg hb (by rintro _ _ ⟨_,_,_,rfl,_⟩; rfl) ?_
 rintro _ _ ⟨x,l,m,rfl,rfl⟩ cdv A outer s H E b
 cases hw:whl x with
 | false=>
   rw [qt x l m hw]
   exact au (bh (p:=false) (q:=true) (x_call b c_is_whole (aa (ae 0) ag) ⟨x,rfl,by rw [hw]⟩) λh=>nomatch h) rfl
 | true=>
   cases x with
   | int i=>exact au (bh (x_call b c_is_whole (aa (ae 0) ag) ⟨_,rfl,rfl⟩) λh=>(cy (ie (ae 1) (ae 0) (ae 2) lV lV).1)) rfl
   | _=>cases hw
theorem lD (F:Fun K "is_step" qual (top 59) f fd) (hb:∀ x ∈ aj,mg x=none) (c_is_betweenA:Cal P w K mg base k "is_between" bN) (c_is_weight2:Cal P w K mg base k "is_weight" dn):aJ P w K mg base CX0 (k + 1) f fd ["thing","tracks"] (spD K fI):=by
 refine fnD F iE hb (by rintro _ _ ⟨_,_,rfl,_⟩; rfl) ?_
 rintro _ _ ⟨x,T,rfl,hx,rfl⟩ cdv A outer s H E b
 by_cases ht:cL .tuple x=true
 · obtain ⟨xs,rfl⟩:∃ xs,x=.tup xs:=by cases x <;> first | exact ⟨_,rfl⟩ | cases ht
   by_cases h3:xs.length=3
   · obtain ⟨u,n,q,rfl⟩:∃ u n q,xs=[u,n,q]:=by
       match xs,h3 with
       | [u,n,q],_=>exact ⟨u,n,q,rfl⟩
     obtain ⟨fu,eu⟩:=hx u n q rfl
     refine aU (PW.pt (a8 (aK (aI (br .tuple b (ae 0)))) λh=>(a8 (aH (aW b (aa (ae 0) ag) bU) af iG) λh=>(bC (aK (aI (x_call b c_is_weight2 (aa (ar (ae 0) af (ak (ah (i:=2) rfl))) ag) ⟨q,rfl,rfl⟩))))))) (λh=>?_) λh=>?_
     · refine au b5 ?_
       have h:(!isW q)=true:=h
       have:isW q=false:=by simpa using h
       show _=Sl.d (.bl (isW q && _))
       rw [this]
       rfl
     · have h:(!isW q)=false:=h
       have hw:isW q=true:=by simpa using h
       refine aU (aH (ar (ae 0) af (ak (ah (i:=0) rfl))) aN (iF b eu (by decide +kernel))) (λh=>?_) λh=>?_
       · refine au (x_call b c_is_betweenA (aa (ar (ae 0) af (ak (ah (i:=1) rfl))) (aa af (aa (av (ae 1) af d8) ag))) ⟨_,_,_,rfl,rfl⟩) ?_
         show _=Sl.d (.bl (isW q && (if Ev.eqD u (.str "weigh") then _ else _)))
         rw [hw,if_pos h]
         rfl
       · refine au (bh (bI (ar (ae 0) af (ak (ah (i:=0) rfl))) (bH (aa aN (aa aN ag))) (vD (us:=["down","up"]) fu)) λh=>(cy (x_call b c_is_betweenA (aa (ar (ae 0) af (ak (ah (i:=1) rfl))) (aa af (aa (av (ae 1) af d8) ag))) ⟨_,_,_,rfl,rfl⟩))) ?_
         show _=Sl.d (.bl (isW q && (if Ev.eqD u (.str "weigh") then _ else _)))
         rw [hw,if_neg (by rw [h]; decide)]
         rfl
   · refine aU (PW.pt (a8 (aK (aI (br .tuple b (ae 0)))) λh=>(a8 (q:=true) (aH (aW b (aa (ae 0) ag) bU) af iG) ?_))) (λh=>?_) λh=>?_
     · intro z
       have z:(!decide ((xs.length:Int)=3))=false:=z
       rw [decide_eq_false (by omega)] at z
       cases z
     · exact au b5 (by rw [su h3])
     · have z:(!decide ((xs.length:Int)=3) || true)=false:=h
       rw [Bool.or_true] at z
       cases z
 · have e:cL .tuple x=false:=by simpa using ht
   have ef:isS T x=false:=by cases x <;> first | rfl | cases e
   refine aU (PW.pt (a8 (q:=true) (aK (aI (br .tuple b (ae 0)))) λh=>(by rw [e] at h; cases h))) (λh=>?_) λh=>?_
   · refine au b5 ?_
     rw [ef]
   · rw [Bool.or_true] at h; cases h
end
noncomputable def stO (x:D):Prop:=∀ u n q,x=.tup [u,n,q]->flD u=true/\Ev.cU u
noncomputable def uL (T:Int):D->Bool
 | .lst xs=>decide (xs.length<=400) && xs.all (isS T)
 | _=>false
noncomputable def wO (r c s:D):D->Bool
 | .int T=>(cB r 1 T && cB c 1 T) && uL T s
 | _=>false
noncomputable def isL:D->Bool
 | .tup [t,r,c,s]=>cB t 1 7 && wO r c s t
 | _=>false
theorem sj {xs:List D} (h:xs.length ≠ 4):isL (.tup xs)=false:=by
 unfold isL
 split
 · rename_i e; cases e; exact absurd rfl h
 · rfl
noncomputable def di (ds:List D) (r:Sl):Prop:=∃ x:D,ds=[x]/\(∀ t r c xs,x=.tup [t,r,c,.lst xs]->∀ y ∈ xs,stO y)/\r=.d (.bl (isL x))
theorem pU {x:D} {l m:Int} (h:cB x l m=true):∃ i,x=.int i:=by cases x <;> first | exact ⟨_,rfl⟩ | cases h
section
variable {P:Program} {w:World} {K:PySem.W.Frag} {mg:Str->Option Value} {base:Heap} {k:Nat} {f:Addr} {fd:FuncData} {qual:Str}
theorem jk (F:Fun K "is_ladder" qual (top 60) f fd) (hb:∀ x ∈ aj,mg x=none) (y_MOST:∃ t,mg "MOST" = some (.int 7 t)) (y_MOST_STEPS:∃ t,mg "MOST_STEPS" = some (.int 400 t)) (c_is_betweenA:Cal P w K mg base k "is_between" bN) (c_is_step2:Cal P w K mg base k "is_step" fI):aJ P w K mg base CX0 (k + 1) f fd ["thing"] (spD K di):=by
 refine fnD F gi hb (by rintro _ _ ⟨_,rfl,_⟩; rfl) ?_
 rintro _ _ ⟨x,rfl,hx,rfl⟩ cdv A outer s H E b
 by_cases ht:cL .tuple x=true
 · obtain ⟨xs,rfl⟩:∃ xs,x=.tup xs:=by cases x <;> first | exact ⟨_,rfl⟩ | cases ht
   by_cases h4:xs.length=4
   · obtain ⟨t,r,c,z,rfl⟩:∃ t r c z,xs=[t,r,c,z]:=by
       match xs,h4 with
       | [t,r,c,z],_=>exact ⟨t,r,c,z,rfl⟩
     refine aU (PW.pt (a8 (aK (aI (br .tuple b (ae 0)))) λh=>(a8 (aH (aW b (aa (ae 0) ag) bU) af iG) λh=>(bC (aK (aI (x_call b c_is_betweenA (aa (ar (ae 0) af (ak (ah (i:=0) rfl))) (aa af (aa (gB y_MOST) ag))) ⟨_,_,_,rfl,rfl⟩))))))) (λh=>?_) λh=>?_
     · refine au b5 ?_
       have h:(!cB t 1 7)=true:=h
       have h:cB t 1 7=false:=by simpa using h
       show _=Sl.d (.bl (cB t 1 7 && _))
       rw [h]
       rfl
     · have h:(!cB t 1 7)=false:=h
       have ht:cB t 1 7=true:=by simpa using h
       obtain ⟨T,rfl⟩:=pU ht
       have eL:isL (.tup [.int T,r,c,z])=((cB r 1 T && cB c 1 T) && uL T z):=by
         show (cB (.int T) 1 7 && _)=_
         rw [ht]
         rfl
       rw [eL]
       refine aU (PW.pt (a8 (aK (aI (x_call b c_is_betweenA (aa (ar (ae 0) af (ak (ah (i:=1) rfl))) (aa af (aa (ar (ae 0) af (ak (ah (i:=0) rfl))) ag))) ⟨_,_,_,rfl,rfl⟩))) λh=>(bC (aK (aI (x_call b c_is_betweenA (aa (ar (ae 0) af (ak (ah (i:=2) rfl))) (aa af (aa (ar (ae 0) af (ak (ah (i:=0) rfl))) ag))) ⟨_,_,_,rfl,rfl⟩)))))) (λh=>?_) λh=>?_
       · refine au b5 ?_
         cases e1:cB r 1 T with
         | false=>rfl
         | true=>
           cases e2:cB c 1 T with
           | false=>rfl
           | true=>rw [e1,e2] at h; cases h
       · have hr:cB r 1 T=true:=by
           cases e1:cB r 1 T with
           | true=>rfl
           | false=>rw [e1] at h; cases h
         have hc:cB c 1 T=true:=by
           cases e1:cB c 1 T with
           | true=>rfl
           | false=>rw [hr,e1] at h; cases h
         rw [hr,hc]
         by_cases hz:cL .list z=true
         · obtain ⟨ys,rfl⟩:∃ ys,z=.lst ys:=by cases z <;> first | exact ⟨_,rfl⟩ | cases hz
           refine aU (PW.pt (a8 (aK (aI (br .list b (ar (ae 0) af (ak (ah (i:=3) rfl)))))) λh=>(bC (aH (aW b (aa (ar (ae 0) af (ak (ah (i:=3) rfl))) ag) bY) (gB y_MOST_STEPS) q9)))) (λh=>?_) λh=>?_
           · have h:decide ((ys.length:Int) > 400)=true:=h
             have:=of_decide_eq_true h
             refine au b5 ?_
             show _=Sl.d (.bl (true && (decide (ys.length<=400) && _)))
             rw [decide_eq_false (by omega)]
             rfl
           · have h:decide ((ys.length:Int) > 400)=false:=h
             have:=of_decide_eq_false h
             refine au (aW b (aa (aQ (cA (cmp 0 (f:=λl=>.bl (isS T (ys.getD l .non))) b (bo (ar (ae 0) af (ak (ah (i:=3) rfl)))) lM (by omega) λl hl s0 H0 fp=>(x_call (b.comp s0 H0 _ fp) c_is_step2 (aa (ae 0) (aa (ar (ae 1) af (ak (ah (i:=0) rfl))) ag)) ⟨_,T,rfl,?_,rfl⟩)))) ag) (e8 b.calm ((List.range ys.length).map λl=>isS T (ys.getD l .non)) (by rw [List.map_map]; rfl))) ?_
             · have:ys.getD l .non ∈ ys:=by simp [List.getD,hl]
               exact hx _ _ _ ys rfl _ this
             · show _=Sl.d (.bl (true && (decide (ys.length<=400) && ys.all (isS T))))
               rw [decide_eq_true (by omega)]
               have e:(List.range ys.length).map (λl=>isS T (ys.getD l .non))=ys.map (isS T):=by
                 refine List.ext_getElem (by simp) λl h1 h2=>?_
                 have:l < ys.length:=by simpa using h2
                 simp [this]
               rw [e,List.all_map]
               rfl
         · have e:cL .list z=false:=by simpa using hz
           have ef:uL T z=false:=by cases z <;> first | rfl | cases e
           refine aU (PW.pt (a8 (q:=true) (aK (aI (br .list b (ar (ae 0) af (ak (ah (i:=3) rfl)))))) λh=>(by rw [e] at h; cases h))) (λh=>?_) λh=>?_
           · refine au b5 ?_
             rw [ef]
             rfl
           · rw [Bool.or_true] at h; cases h
   · refine aU (PW.pt (a8 (aK (aI (br .tuple b (ae 0)))) λh=>(a8 (q:=true) (aH (aW b (aa (ae 0) ag) bU) af iG) ?_))) (λh=>?_) λh=>?_
     · intro z
       have z:(!decide ((xs.length:Int)=4))=false:=z
       rw [decide_eq_false (by omega)] at z
       cases z
     · exact au b5 (by rw [sj h4])
     · have z:(!decide ((xs.length:Int)=4) || true)=false:=h
       rw [Bool.or_true] at z
       cases z
 · have e:cL .tuple x=false:=by simpa using ht
   have ef:isL x=false:=by cases x <;> first | rfl | cases e
   refine aU (PW.pt (a8 (q:=true) (aK (aI (br .tuple b (ae 0)))) λh=>(by rw [e] at h; cases h))) (λh=>?_) λh=>?_
   · refine au b5 ?_
     rw [ef]
   · rw [Bool.or_true] at h; cases h
end
noncomputable def bJ (ds:List D) (r:Sl):Prop:=∃ (t b:Int) (q:Rat),ds=[.int t,.int b]/\0 < b/\Bd 8999 b/\(t:Rat)=q * (b:Rat)/\r=.d (frD q)
noncomputable def fL (ds:List D) (r:Sl):Prop:=∃ (t b:Int) (q:Rat),ds=[.int t,.int b]/\0 < b/\Bd 8999 b/\(t:Rat)=q * (b:Rat)/\r=.d (frD q)
noncomputable def bD (ds:List D) (r:Sl):Prop:=∃ xs,ds=[.lst xs]/\r=.d (.bl (decide ((1:Int)<=(xs.length:Nat)) && decide (((xs.length:Nat):Int)<=7)))
noncomputable def rwQ (r:List Rat):D:=.lst (r.map frD)
noncomputable def tbQ (M:List (List Rat)):D:=.lst (M.map rwQ)
structure Tq (R C:Nat) (M:List (List Rat)):Prop where
 r1:1<=R
 r7:R<=7
 c1:1<=C
 c7:C<=7
 len:M.length=R
 row:∀ r ∈ M,r.length=C
theorem nO {α:Type} {f:α->D} {xs:List α} (d:α):∀ i (h:i < (xs.map f).length),(xs.map f)[i]=f (xs.getD i d):=λi h=>by
 have:i < xs.length:=by simpa using h
 simp [this]
theorem eI {α:Type} {f:α->D} {xs:List α} (d:α) {i:Nat} (h:i < xs.length):atI (xs.map f) (i:Int)=some (f (xs.getD i d)):=ah (by simp [h])
theorem ve {α:Type} {xs:List α} {d:α} {i:Nat} (h:i < xs.length):xs.getD i d ∈ xs:=by simp [h]
theorem Tq.at_ {R C:Nat} {M:List (List Rat)} (h:Tq R C M) {i:Nat} (hi:i < R):(M.getD i []).length=C:=h.row _ (ve (by rw [h.len]; exact hi))
theorem qU (n:Nat) (f:Nat->Bool) (h:∀ i,i < n->f i=true):((List.range n).map f).all id=true:=by
 rw [List.all_map,List.all_eq_true]
 intro i hi
 exact h i (List.mem_range.mp hi)
theorem e7 {X:Cx} {xs:List D} {n:Nat} (h:xs.length=n):iW X (.builtin "len") [.lst xs] (.d (.int n)):=h ▸ bY
theorem rX {α:Type} (f:α->D) (xs:List α) (d:α) {m:Nat} (h:m=xs.length):(List.range m).map (λi=>f (xs.getD i d))=xs.map f:=by
 subst h
 refine List.ext_getElem (by simp) λi h1 h2=>?_
 have:i < xs.length:=by simpa using h2
 simp [this]
noncomputable def iw (ds:List D) (r:Sl):Prop:=∃ q:List Rat,ds=[rwQ q]/\1<=q.length/\q.length<=7/\r=.d (.bl true)
noncomputable def ft (ds:List D) (r:Sl):Prop:=∃ (R C:Nat) (M:List (List Rat)),ds=[tbQ M]/\Tq R C M/\r=.d (.bl true)
noncomputable def dz (ds:List D) (r:Sl):Prop:=∃ (R C:Nat) (M:List (List Rat)),ds=[tbQ M]/\Tq R C M/\r=.d .non
noncomputable def pb (c:List Int):Int:=c.getD (c.length - 1) 0
theorem rh {c:List Int} (h:c ≠ []):atI (c.map D.int) (-1)=some (.int (pb c)):=by
 have hl:0 < c.length:=List.length_pos_iff.mpr h
 unfold atI ixN pb
 rw [if_neg (by decide),if_pos (by rw [List.length_map]; omega),List.length_map]
 simp only [Option.bind_some]
 have e:(-1 + (c.length:Int)).toNat=c.length - 1:=by omega
 rw [e]
 simp [(by omega:c.length - 1 < c.length)]
structure ChO (m:Int) (ns:List Int):Prop where
 ne:ns ≠ []
 up:∀ i,i + 1 < ns.length->ns.getD i 0 < ns.getD (i + 1) 0
 lo:0<=ns.getD 0 0
 hi:pb ns < m
 len:ns.length<=1000
section
variable {P:Program} {w:World} {K:PySem.W.Frag} {mg:Str->Option Value} {base:Heap} {k:Nat} {f:Addr} {fd:FuncData} {qual:Str}
theorem fH (F:Fun K "in_lowest_terms" qual (top 27) f fd) (hb:∀ x ∈ aj,mg x=none) (c_common_divisor:Cal P w K mg base k "common_divisor" aT):aJ P w K mg base CX0 (k + 1) f fd ["top","bottom"] (spD K bJ):=by
 refine fnD F cq hb (by rintro _ _ ⟨_,_,_,rfl,_⟩; rfl) ?_
 rintro _ _ ⟨t,c,q,rfl,h0,h1,hq,rfl⟩ cdv A outer s H E b
 have nd:=cq.nd
 refine aE 2 nd (x_call b c_common_divisor (aa (ae 0) (aa (ae 1) ag)) ⟨_,_,rfl,rfl⟩) ?_
 have dv:aG (Int.gcd t c:Int):=(h1.gcd (by omega)).aG (mH (by omega)) (by decide)
 obtain ⟨e1,e2⟩:=du h0 hq
 refine bQ (aH (ae 1) af pV) (decide_eq_false (by omega)) (au (bH (aa (av (ae 0) (ae 2) (bf dv)) (aa (av (ae 1) (ae 2) (bf dv)) ag))) ?_)
 rw [gh,gh,<- e1,<- e2]
 rfl
theorem k9 (F:Fun K "fraction" qual (top 28) f fd) (hb:∀ x ∈ aj,mg x=none) (c_in_lowest_terms:Cal P w K mg base k "in_lowest_terms" bJ) (c_is_whole:Cal P w K mg base k "is_whole" bF):aJ P w K mg base CX0 (k + 1) f fd ["top","bottom"] (spD K fL):=by
 refine fnD F kO hb (by rintro _ _ ⟨_,_,_,rfl,_⟩; rfl) ?_
 rintro _ _ ⟨t,c,q,rfl,h0,h1,hq,rfl⟩ cdv A outer s H E b
 refine bQ (PW.pt (a8 (aK (aI (x_call b c_is_whole (aa (ae 0) ag) ⟨_,rfl,rfl⟩))) λh=>(bC (aK (aI (x_call b c_is_whole (aa (ae 1) ag) ⟨_,rfl,rfl⟩)))))) rfl ?_
 refine bQ (aH (ae 1) af cO) (decide_eq_false (by omega)) ?_
 exact au (x_call b c_in_lowest_terms (aa (ae 0) (aa (ae 1) ag)) ⟨t,c,q,rfl,h0,h1,hq,rfl⟩) rfl
theorem gF (F:Fun K "is_short_list" qual (top 31) f fd) (hb:∀ x ∈ aj,mg x=none) (y_MOST:∃ t,mg "MOST" = some (.int 7 t)):aJ P w K mg base CX0 (k + 1) f fd ["thing"] (spD K bD):=by
 refine fnD F cW hb (by rintro _ _ ⟨_,rfl,_⟩; rfl) ?_
 rintro _ _ ⟨xs,rfl,rfl⟩ cdv A outer s H E b
 exact au (bh (br .list b (ae 0)) λh=>(cy (ie af (aW b (aa (ae 0) ag) bY) (gB y_MOST) lV lV).1)) rfl
theorem ot (F:Fun K "is_row" qual (top 32) f fd) (hb:∀ x ∈ aj,mg x=none) (c_is_short_list:Cal P w K mg base k "is_short_list" bD) (c_is_fraction:Cal P w K mg base k "is_fraction" bt):aJ P w K mg base CX0 (k + 1) f fd ["thing"] (spD K iw):=by
 refine fnD F jw hb (by rintro _ _ ⟨_,rfl,_⟩; rfl) ?_
 rintro _ _ ⟨q,rfl,h1,h7,rfl⟩ cdv A outer s H E b
 refine au (bh (x_call b c_is_short_list (aa (ae 0) ag) ⟨_,rfl,rfl⟩) λh=>(cy (aW b (aa (aQ (cA (cmp 0 (f:=λ_=>.bl true) b (bo (ae 0)) (nO (f:=frD) (xs:=q) 0) (by rw [List.length_map]; omega) λi hi s0 H0 fp=>(x_call (b.comp s0 H0 _ fp) c_is_fraction (aa (ae 0) ag) ⟨_,rfl,by rw [mO]⟩)))) ag) (e8 b.calm ((List.range (q.map frD).length).map λ_=>true) (by rw [List.map_map]; rfl))))) ?_
 rw [List.length_map,decide_eq_true (by omega),decide_eq_true (by omega),qU _ _ λ_ _=>rfl]
 rfl
theorem lb (F:Fun K "is_table" qual (top 33) f fd) (hb:∀ x ∈ aj,mg x=none) (c_is_short_list:Cal P w K mg base k "is_short_list" bD) (c_is_row:Cal P w K mg base k "is_row" iw):aJ P w K mg base CX0 (k + 1) f fd ["thing"] (spD K ft):=by
 refine fnD F gX hb (by rintro _ _ ⟨_,_,_,rfl,_⟩; rfl) ?_
 rintro _ _ ⟨R,C,M,rfl,t,rfl⟩ cdv A outer s H E b
 have hl:(M.map rwQ).length=R:=by rw [List.length_map,t.len]
 have r1:=t.r1
 have r7:=t.r7
 have c1:=t.c1
 have c7:=t.c7
 refine bQ (PW.pt (a8 (aK (aI (x_call b c_is_short_list (aa (ae 0) ag) ⟨_,rfl,rfl⟩))) λh=>(bC (aK (aI (aW b (aa (aQ (cA (cmp 0 (f:=λ_=>.bl true) b (bo (ae 0)) (nO (f:=rwQ) (xs:=M) []) (by rw [hl]; omega) λi hi s0 H0 fp=>(x_call (b.comp s0 H0 _ fp) c_is_row (aa (ae 0) ag) ⟨_,rfl,?_,?_,rfl⟩)))) ag) (e8 b.calm ((List.range (M.map rwQ).length).map λ_=>true) (by rw [List.map_map]; rfl)))))))) ?_ ?_
 · rw [t.at_ (by rw [hl] at hi; exact hi)]; exact c1
 · rw [t.at_ (by rw [hl] at hi; exact hi)]; exact c7
 · rw [hl,decide_eq_true (by omega),decide_eq_true (by omega),qU _ _ λ_ _=>rfl]; rfl
 have e0:atI (M.map rwQ) 0=some (rwQ (M.getD 0 [])):=eI [] (i:=0) (by rw [t.len]; omega)
 refine au (aW b (aa (aQ (cA (cmp 0 (f:=λ_=>.bl (decide ((C:Int)=(C:Int)))) b (bo (ae 0)) (nO (f:=rwQ) (xs:=M) []) (by rw [hl]; omega) λi hi s0 H0 fp=>(bI (aW (b.comp s0 H0 _ fp) (aa (ae 0) ag) (e7 (n:=C) (by rw [List.length_map]; exact t.at_ (by rw [hl] at hi; exact hi)))) (aW (b.comp s0 H0 _ fp) (aa (ar (ae 1) af (aP e0)) ag) (e7 (n:=C) (by rw [List.length_map]; exact t.at_ (by omega)))) cO)))) ag) (e8 b.calm ((List.range (M.map rwQ).length).map λ_=>decide ((C:Int)=(C:Int))) (by rw [List.map_map]; rfl))) ?_
 rw [qU _ _ λ_ _=>decide_eq_true rfl]
theorem jg (F:Fun K "look_table" qual (top 36) f fd) (hb:∀ x ∈ aj,mg x=none) (c_is_table:Cal P w K mg base k "is_table" ft):aJ P w K mg base CX0 (k + 1) f fd ["thing"] (spD K dz):=by
 refine fnD F fj hb (by rintro _ _ ⟨_,_,_,rfl,_⟩; rfl) ?_
 rintro _ _ ⟨R,C,M,rfl,t,rfl⟩ cdv A outer s H E b
 exact bQ (aK (aI (x_call b c_is_table (aa (ae 0) ag) ⟨R,C,M,rfl,t,rfl⟩))) rfl (aX rfl)
end
noncomputable def fO (t:List (List Rat)):D:=.lst (t.map λr=>.lst (r.map frD))
theorem vb {t:List (List Rat)} (i:Nat) (h:i < (t.map λr=>D.lst (r.map frD)).length):(t.map λr=>D.lst (r.map frD))[i]=.lst ((t.getD i []).map frD):=by
 have:i < t.length:=by simpa using h
 simp [this]
theorem vf {r:List Rat} {i:Int} (h0:0<=i) (h:i.toNat < r.length):atI (r.map frD) i=some (frD (r.getD i.toNat 0)):=by
 obtain ⟨n,rfl⟩:=Int.eq_ofNat_of_zero_le h0
 exact ah (by
   have h:n < r.length:=h
   simp [h])
theorem vJ {t:List (List Rat)} {i:Int} (h0:0<=i) (h:i.toNat < t.length):atI (t.map λr=>D.lst (r.map frD)) i=some (.lst ((t.getD i.toNat []).map frD)):=by
 obtain ⟨n,rfl⟩:=Int.eq_ofNat_of_zero_le h0
 exact ah (by
   have h:n < t.length:=h
   simp [h])
noncomputable def p7 (t:List (List Rat)) (j:Nat):List Rat:=(List.range t.length).map λi=>(t.getD i []).getD j 0
noncomputable def eN (ds:List D) (r:Sl):Prop:=∃ (t:List (List Rat)) (j:Nat),ds=[fO t,.int j]/\t.length<=1000/\(∀ i,i < t.length->j < (t.getD i []).length)/\r=.o ((p7 t j).map frD)
noncomputable def nc (t:List (List Rat)) (n:Nat):List (List Rat):=(List.range n).map (p7 t)
noncomputable def o9 (t:List (List Rat)):Nd:=.l (t.map λr=>.l ((r.map frD).map .d))
noncomputable def da (ds:List D) (r:Sl):Prop:=∃ (t:List (List Rat)) (n:Nat),ds=[fO t]/\1<=t.length/\t.length<=1000/\n<=1000/\(∀ i,i < t.length->(t.getD i []).length=n)/\r=.n (o9 (nc t n))
noncomputable def smD (s:List Int × Int):D:=.tup [.lst (s.1.map .int),.int s.2]
noncomputable def iZ (k R:Nat):List Int × Int:=((List.range R).map λi=>if i=k then 1 else 0,1)
noncomputable def dH (ds:List D) (r:Sl):Prop:=∃ k R:Nat,ds=[.int k,.int R]/\R<=7/\r=.d (smD (iZ k R))
noncomputable def cG (n:Int) (ns:List Int):Int:=ns.foldl (λf o=>(Int.gcd o f:Int)) n
noncomputable def bB (ds:List D) (r:Sl):Prop:=∃ (n:Int) (ns:List Int),ds=[.int n,.lst (ns.map .int)]/\r=.d (.int (cG n ns))
structure vh (s:List Int × Int) (v:List Rat):Prop where
 len:s.1.length=v.length
 pos:0 < s.2
 val:∀ i,i < v.length->((s.1.getD i 0:Int):Rat)=v.getD i 0 * (s.2:Rat)
noncomputable def eG (ds:List D) (r:Sl):Prop:=∃ (s:List Int × Int) (v:List Rat),ds=[smD s]/\vh s v/\v.length<=1000/\Bd 8999 s.2/\r=.o (v.map frD)
theorem eP:∀ (ns:List Int) (n:Int),cG n ns ∣ n/\∀ x ∈ ns,cG n ns ∣ x
 | [],n=>⟨Int.dvd_refl n,λ_ z=>nomatch z⟩
 | y :: ns,n=>by
   obtain ⟨h1,h2⟩:=eP ns (Int.gcd y n:Int)
   refine ⟨Int.dvd_trans h1 (Int.gcd_dvd_right ..),λx hx=>?_⟩
   rcases List.mem_cons.mp hx with rfl | hx
   · exact Int.dvd_trans h1 (Int.gcd_dvd_left ..)
   · exact h2 x hx
theorem lJ {i j:Int} (h:0 < j):0 < (Int.gcd i j:Int):=by
 have:=mH (i:=i) (j:=j) (by omega)
 omega
theorem dU:∀ (ns:List Int) (n:Int),0 < n->0 < cG n ns
 | [],_,h=>h
 | y :: ns,n,h=>dU ns (Int.gcd y n:Int) (lJ h)
structure Sm (R:Nat) (P:Int) (s:List Int × Int) (v:Nat->Rat):Prop where
 len:s.1.length=R
 pos:0 < s.2
 dvd:s.2 ∣ P
 val:∀ i,i < R->((s.1.getD i 0:Int):Rat)=v i * (s.2:Rat)
theorem Sm.up {R:Nat} {P:Int} {s:List Int × Int} {v:Nat->Rat} (h:Sm R P s v) (c:Int):Sm R (P * c) s v:=⟨h.len,h.pos,Int.dvd_mul_of_dvd_left h.dvd,h.val⟩
noncomputable def wsm (s:List Int × Int) (q:Rat):List Int × Int:=(s.1.map λx=>x / cG (q.den:Nat) s.1 * (q.num / (Int.gcd q.num s.2:Int)),s.2 / (Int.gcd q.num s.2:Int) * (((q.den:Nat):Int) / cG (q.den:Nat) s.1))
theorem getD_map {f:Int->Int} {xs:List Int} {i:Nat} (h:i < xs.length):(xs.map f).getD i 0=f (xs.getD i 0):=by simp [h]
theorem getD_mem {xs:List Int} {i:Nat} (h:i < xs.length):xs.getD i 0 ∈ xs:=by simp [h]
theorem wk {a b c:Rat} (hc:c ≠ 0) (h:a * c=b * c):a=b:=by
 have:(a - b) * c=0:=by grind
 rcases Rat.mul_eq_zero.mp this with z | z
 · grind
 · exact absurd z hc
theorem oF {a b:Int} (h:0 < a * b) (ha:0 < a):0 < b:=by
 rcases Int.lt_or_le 0 b with z | z
 · exact z
 · have:=Int.mul_le_mul_of_nonneg_left z (Int.le_of_lt ha)
   rw [Int.mul_zero] at this
   omega
theorem quo {a b:Int} (h0:0 < a) (h:a ∣ b):∃ c,b=a * c/\b / a=c:=by
 obtain ⟨c,rfl⟩:=h
 exact ⟨c,rfl,Int.mul_ediv_cancel_left _ (by omega)⟩
theorem iR {R:Nat} {P:Int} {s:List Int × Int} {v:Nat->Rat} {q:Rat} (h:Sm R P s v):Sm R (P * ((q.den:Nat):Int)) (wsm s q) λi=>q * v i:=by
 obtain ⟨ns,d⟩:=s
 have hd:0 < d:=h.pos
 have hB:=dU ns (q.den:Nat) (den_pos q)
 obtain ⟨b1,b2⟩:=eP ns (q.den:Nat)
 have hG:0 < (Int.gcd q.num d:Int):=lJ hd
 obtain ⟨f,ef,qf⟩:=quo hG (Int.gcd_dvd_left q.num d)
 obtain ⟨a,ea,qa⟩:=quo hG (Int.gcd_dvd_right q.num d)
 obtain ⟨e,ee,qe⟩:=quo hB b1
 unfold wsm
 simp only
 rw [qf,qa,qe]
 generalize cG ((q.den:Nat):Int) ns=B at *
 generalize (Int.gcd q.num d:Int)=G at *
 have ap:0 < a:=oF (by rw [<- ea]; exact hd) (by assumption)
 have ep:0 < e:=oF (by rw [<- ee]; exact den_pos q) (by assumption)
 refine ⟨by rw [List.length_map]; exact h.len,Int.mul_pos ap ep,Int.mul_dvd_mul (Int.dvd_trans ⟨G,by rw [ea,Int.mul_comm]⟩ h.dvd) ⟨B,by rw [ee,Int.mul_comm]⟩,λi hi=>?_⟩
 have hi':i < ns.length:=by rw [show ns.length=R from h.len]; exact hi
 simp only
 rw [getD_map hi']
 obtain ⟨y,ey,qy⟩:=quo hB (b2 _ (getD_mem hi'))
 rw [qy]
 have hv:=h.val i hi
 simp only at hv
 rw [ey,ea] at hv
 have hq:=eX q
 rw [ef,ee] at hq
 refine wk (c:=(B:Rat) * (G:Rat)) (λz=>(Rat.mul_eq_zero.mp z).elim (iY hB) (iY hG)) ?_
 simp only [Rat.intCast_mul] at *
 grind
noncomputable def asm (s u:List Int × Int):List Int × Int:=
 let sh:Int:=(Int.gcd s.2 u.2:Int)
 let tops:=(List.range s.1.length).map λi=>s.1.getD i 0 * (u.2 / sh) + u.1.getD i 0 * (s.2 / sh)
 (tops.map λx=>x / cG sh tops,s.2 / sh * (u.2 / cG sh tops))
theorem uR {R:Nat} {P:Int} {s u:List Int × Int} {v w:Nat->Rat} (h:Sm R P s v) (g:Sm R P u w):Sm R P (asm s u) λi=>v i + w i:=by
 obtain ⟨ns,d⟩:=s
 obtain ⟨ms,e⟩:=u
 have hd:0 < d:=h.pos
 have he:0 < e:=g.pos
 have hS:0 < (Int.gcd d e:Int):=lJ he
 obtain ⟨a,ea,qa⟩:=quo hS (Int.gcd_dvd_left d e)
 obtain ⟨b,eb,qb⟩:=quo hS (Int.gcd_dvd_right d e)
 have cop:Int.gcd a b=1:=by
   have h1:=Int.gcd_ediv (Int.gcd_dvd_left d e) (Int.gcd_dvd_right d e)
   rw [qa,qb,Int.natAbs_natCast,Nat.div_self (by omega)] at h1
   exact h1
 unfold asm
 simp only
 rw [qa,qb]
 generalize hT:((List.range ns.length).map λi=>ns.getD i 0 * b + ms.getD i 0 * a)=tops
 have tl:tops.length=R:=by rw [<- hT,List.length_map,List.length_range]; exact h.len
 obtain ⟨b1,b2⟩:=eP tops (Int.gcd d e:Int)
 have hV:=dU tops _ hS
 have hVe:cG (Int.gcd d e:Int) tops ∣ e:=Int.dvd_trans b1 (Int.gcd_dvd_right d e)
 obtain ⟨c,ec,qc⟩:=quo hV hVe
 rw [qc]
 generalize cG (Int.gcd d e:Int) tops=V at *
 generalize (Int.gcd d e:Int)=S at *
 have ap:0 < a:=oF (by rw [<- ea]; exact hd) (by assumption)
 have cp:0 < c:=oF (by rw [<- ec]; exact he) (by assumption)
 refine ⟨by rw [List.length_map]; exact tl,Int.mul_pos ap cp,?_,λi hi=>?_⟩
 · obtain ⟨p1,e1⟩:=h.dvd
   obtain ⟨p2,e2⟩:=g.dvd
   simp only at e1 e2
   have e3:a * p1=b * p2:=by
     have:S * (a * p1)=S * (b * p2):=by rw [<- Int.mul_assoc,<- Int.mul_assoc,<- ea,<- eb,<- e1,<- e2]
     exact Int.eq_of_mul_eq_mul_left (by omega) this
   have e4:a ∣ p2:=by
     have:=Int.dvd_gcd_mul_iff_dvd_mul.mpr (show a ∣ b * p2 from ⟨p1,e3.symm⟩)
     rwa [cop,Int.natCast_one,Int.one_mul] at this
   obtain ⟨p3,e5⟩:=e4
   exact ⟨V * p3,by simp only; rw [e2,e5,ec]; grind⟩
 · simp only
   rw [getD_map (by omega)]
   obtain ⟨z,ez,qz⟩:=quo hV (b2 _ (getD_mem (i:=i) (by omega)))
   rw [qz]
   have et:tops.getD i 0=ns.getD i 0 * b + ms.getD i 0 * a:=by
     rw [<- hT]
     have:i < ns.length:=by rw [show ns.length=R from h.len]; exact hi
     simp [this]
   have hv:=h.val i hi
   have hw:=g.val i hi
   simp only at hv hw
   have t1:((tops.getD i 0:Int):Rat)=((ns.getD i 0:Int):Rat) * (b:Rat) + ((ms.getD i 0:Int):Rat) * (a:Rat):=by rw [et,Rat.intCast_add,Rat.intCast_mul,Rat.intCast_mul]
   rw [ez,hv,hw] at t1
   have cd:(d:Rat)=(S:Rat) * (a:Rat):=by rw [ea,Rat.intCast_mul]
   have ce:(e:Rat)=(S:Rat) * (b:Rat):=by rw [eb,Rat.intCast_mul]
   have cf:(e:Rat)=(V:Rat) * (c:Rat):=by rw [ec,Rat.intCast_mul]
   refine wk (c:=(V:Rat)) (iY hV) ?_
   rw [Rat.intCast_mul] at t1 ⊢
   grind
noncomputable def Zq (P:Int) (n:Nat) (v:Rat):Prop:=∃ z:Int,0<=z/\z<=2 ^ n/\(z:Rat)=v * (P:Rat)
structure Wq (e:Nat) (q:Rat):Prop where
 n0:0<=q.num
 sq:Sq e q
theorem p2 (m n:Nat):(2:Int) ^ (m + n)=2 ^ m * 2 ^ n:=Int.pow_add ..
theorem p0 (n:Nat):(0:Int)<=2 ^ n:=by
 have e:((2 ^ n:Nat):Int)=(2:Int) ^ n:=Int.natCast_pow ..
 rw [<- e]
 exact Int.natCast_nonneg _
theorem bd2 {n:Nat} {i:Int} (h:Bd n i):i<=2 ^ n:=by
 have h:i.natAbs < 2 ^ n:=h
 have e:((2 ^ n:Nat):Int)=(2:Int) ^ n:=Int.natCast_pow ..
 omega
theorem Zq.mul {P:Int} {n e:Nat} {v q:Rat} (h:Zq P n v) (g:Wq e q):Zq (P * ((q.den:Nat):Int)) (n + e) (q * v):=by
 obtain ⟨z,h0,h1,h2⟩:=h
 refine ⟨z * q.num,Int.mul_nonneg h0 g.n0,?_,?_⟩
 · rw [p2]; exact Int.mul_le_mul h1 (bd2 g.sq.num) g.n0 (p0 n)
 · have:=eX q
   rw [Rat.intCast_mul,Rat.intCast_mul]; grind
theorem Zq.up {P:Int} {n e:Nat} {v q:Rat} (h:Zq P n v) (g:Wq e q):Zq (P * ((q.den:Nat):Int)) (n + e) v:=by
 obtain ⟨z,h0,h1,h2⟩:=h
 have:=den_pos q
 refine ⟨z * ((q.den:Nat):Int),Int.mul_nonneg h0 (by omega),?_,?_⟩
 · rw [p2]; exact Int.mul_le_mul h1 (bd2 g.sq.den) (by omega) (p0 n)
 · rw [Rat.intCast_mul,Rat.intCast_mul]; grind
theorem Zq.add {P:Int} {n:Nat} {v w:Rat} (h:Zq P n v) (g:Zq P n w):Zq P (n + 1) (v + w):=by
 obtain ⟨z,h0,h1,h2⟩:=h
 obtain ⟨y,g0,g1,g2⟩:=g
 refine ⟨z + y,by omega,by rw [p2]; omega,?_⟩
 rw [Rat.intCast_add]; grind
theorem Zq.mono {P:Int} {m n:Nat} {v:Rat} (h:Zq P m v) (g:m<=n):Zq P n v:=by
 obtain ⟨z,h0,h1,h2⟩:=h
 refine ⟨z,h0,Int.le_trans h1 ?_,h2⟩
 exact_mod_cast Nat.pow_le_pow_right (n:=2) (by decide) g
theorem n8 {n:Nat} {i:Int} (h0:0<=i) (h:i<=2 ^ n):Bd (n + 1) i:=by
 unfold Bd
 have e:((2 ^ n:Nat):Int)=(2:Int) ^ n:=Int.natCast_pow ..
 have:=Nat.pow_succ (n:=2) (m:=n)
 have:=Nat.two_pow_pos n
 omega
theorem Zq.sq {P:Int} {m n:Nat} {v:Rat} (h:Zq P n v) (hP:0 < P) (g:P<=2 ^ m) (hm:m<=n):Sq (n + 1) v:=by
 obtain ⟨z,h0,h1,h2⟩:=h
 exact Sq.du hP h2 (n8 h0 h1) ((n8 (by omega) g).mono (by omega))
theorem Sm.bd {R:Nat} {P:Int} {s:List Int × Int} {v:Nat->Rat} {m n:Nat} (h:Sm R P s v) (hP:0 < P) (g:P<=2 ^ m) (hz:∀ i,i < R->Zq P n (v i)):Bd (m + 1) s.2/\∀ x ∈ s.1,Bd (n + 1) x:=by
 refine ⟨(n8 (by omega) g).of_dvd h.dvd (by omega),λx hx=>?_⟩
 obtain ⟨i,hi,rfl⟩:=List.getElem_of_mem hx
 have hR:i < R:=by rw [<- h.len]; exact hi
 obtain ⟨z,h0,h1,h2⟩:=hz i hR
 obtain ⟨c,ec⟩:=h.dvd
 have hv:=h.val i hR
 have eg:s.1.getD i 0=s.1[i]:=by simp [hi]
 rw [eg] at hv
 have ez:z=s.1[i] * c:=by
   apply Rat.intCast_inj.mp
   rw [h2,ec,Rat.intCast_mul,Rat.intCast_mul,hv]; grind
 rcases Int.lt_or_eq_of_le h0 with z0 | z0
 · exact (n8 h0 h1).of_dvd ⟨c,ez⟩ (by omega)
 · have cp:0 < c:=oF (by rw [<- ec]; exact hP) h.pos
   have:s.1[i]=0:=by
     rcases Int.mul_eq_zero.mp (ez.symm.trans z0.symm) with q | q
     · exact q
     · omega
   rw [this]
   exact Nat.two_pow_pos _
section
variable {P:Program} {w:World} {K:PySem.W.Frag} {mg:Str->Option Value} {base:Heap} {k:Nat} {f:Addr} {fd:FuncData} {qual:Str}
theorem ko (F:Fun K "column_of" qual (top 41) f fd) (hb:∀ x ∈ aj,mg x=none):aJ P w K mg base CX0 (k + 1) f fd ["table","j"] (spD K eN):=by
 refine fnD F jX hb (by rintro _ _ ⟨_,_,rfl,_⟩; rfl) ?_
 rintro _ _ ⟨t,j,rfl,hl,hj,rfl⟩ cdv A outer s H E b
 refine au (cA (cmp 0 (f:=λi=>frD ((t.getD i []).getD j 0)) b (bo (ae 0)) vb (by rw [List.length_map]; omega) λi hi s0 H0 fp=>(ar (ae 0) (ae 1) (aP (vf (r:=t.getD i []) (i:=(j:Int)) (by omega) (hj i (by rw [List.length_map] at hi; exact hi))))))) ?_
 rw [List.length_map]
 unfold p7
 rw [List.map_map]
 rfl
theorem jh (F:Fun K "columns_of" qual (top 40) f fd) (hb:∀ x ∈ aj,mg x=none) (c_column_of:Cal P w K mg base k "column_of" eN):aJ P w K mg base CX0 (k + 1) f fd ["table"] (spD K da):=by
 refine fnD F i9 hb (by rintro _ _ ⟨_,_,rfl,_⟩; rfl) ?_
 rintro _ _ ⟨t,n,rfl,h1,hl,hn,hj,rfl⟩ cdv A outer s H E b
 have e0:((t.getD 0 []).map frD).length=n:=by rw [List.length_map]; exact hj 0 h1
 refine au (wo (xj 0 (f:=λj=>.l (((p7 t j).map frD).map .d)) b (eK b (aW b (aa (ar (ae 0) af (aP (vJ (i:=0) (by omega) (by omega)))) ag) bY) ?_ ?_) dP ?_ (λj hjn s0 H0 fp=>(x_call (b.comp s0 H0 _ fp) c_column_of (aa (ae 1) (aa (ae 0) ag)) ⟨t,j,rfl,hl,λi hi=>?_,rfl⟩)) λj _=>rfl)) ?_
 · omega
 · simp only [Int.toNat_zero,e0]; omega
 · rw [aC]; simp only [Int.toNat_zero,e0,Int.toNat_natCast]; omega
 · rw [aC] at hjn; simp only [Int.toNat_zero,e0,Int.toNat_natCast] at hjn; rw [hj i hi]; exact hjn
 · rw [aC]
   simp only [Int.toNat_zero,e0,Int.toNat_natCast]
   unfold o9 nc
   rw [List.map_map]
   rfl
theorem jn (F:Fun K "first_sums" qual (top 65) f fd) (hb:∀ x ∈ aj,mg x=none):aJ P w K mg base CX0 (k + 1) f fd ["track","rows"] (spD K dH):=by
 refine fnD F je hb (by rintro _ _ ⟨_,_,rfl,_⟩; rfl) ?_
 rintro _ _ ⟨n,R,rfl,hR,rfl⟩ cdv A outer s H E b
 refine au (bH (aa (aQ (cA (cmp 0 (f:=λi=>.int (if i=n then 1 else 0)) b (eK b (ae 1) (by omega) (by omega)) dP (by rw [aC]; omega) λi hi s0 H0 fp=>(pK (aH (ae 0) (ae 1) cO) (λh=>?_) λh=>?_)))) (aa af ag))) ?_
 · have h:=of_decide_eq_true h
   rw [if_pos (by omega)]
   exact af
 · have h:=of_decide_eq_false h
   rw [if_neg (by omega)]
   exact af
 · rw [aC,Int.toNat_natCast]
   unfold smD iZ
   rw [List.map_map]
   rfl
theorem fR (F:Fun K "shared_divisor" qual (top 26) f fd) (hb:∀ x ∈ aj,mg x=none) (c_common_divisor:Cal P w K mg base k "common_divisor" aT):aJ P w K mg base CX0 (k + 1) f fd ["number","others"] (spD K bB):=by
 refine fnD F cE hb (by rintro _ _ ⟨_,_,rfl,_⟩; rfl) ?_
 rintro _ _ ⟨n,ns,rfl,rfl⟩ cdv A outer s H E b
 have nd:=cE.nd
 refine aE 2 nd (ae 0) ?_
 refine lX 3 (λi τ=>∃ s3,τ=[.d (.int n),.d (.lst (ns.map .int)),.d (.int (cG n (ns.take i))),s3]) b nd (bo (ae 1)) lN ⟨_,rfl⟩ (λi hi τ h=>?_) λτ h=>?_
 · obtain ⟨s3,rfl⟩:=h
   rw [List.length_map] at hi
   refine aE 2 nd (x_call b c_common_divisor (aa (ae 3) (aa (ae 2) ag)) ⟨_,_,rfl,rfl⟩) (aX ?_)
   apply ex1
   rw [take_snoc 0 hi]
   unfold cG
   rw [List.foldl_append]
   rfl
 · obtain ⟨s3,rfl⟩:=h
   refine au (ae 2) ?_
   rw [List.length_map,List.take_of_length_le (Nat.le_refl _)]
theorem kz (F:Fun K "told_sums" qual (top 66) f fd) (hb:∀ x ∈ aj,mg x=none) (c_fraction:Cal P w K mg base k "fraction" fL):aJ P w K mg base CX0 (k + 1) f fd ["sums"] (spD K eG):=by
 refine fnD F j3 hb (by rintro _ _ ⟨_,_,rfl,_⟩; rfl) ?_
 rintro _ _ ⟨⟨ns,d⟩,v,rfl,h,hl,hd,rfl⟩ cdv A outer s H E b
 have hlen:ns.length=v.length:=h.len
 refine au (cA (cmp 0 (f:=λi=>frD (v.getD i 0)) b (bo (ar (ae 0) af (ak (ah (i:=0) rfl)))) lN (by simp only [List.length_map]; omega) λi hi s0 H0 fp=>(x_call (b.comp s0 H0 _ fp) c_fraction (aa (ae 0) (aa (ar (ae 1) af (ak (ah (i:=1) rfl))) ag)) ⟨_,d,v.getD i 0,rfl,h.pos,hd,h.val i (by simp only [List.length_map] at hi; omega),rfl⟩))) ?_
 rw [List.length_map,hlen]
 congr 1
 refine List.ext_getElem (by simp) λi h1 h2=>?_
 have:i < v.length:=by simpa using h2
 simp [this]
end
noncomputable def cw (ds:List D) (r:Sl):Prop:=∃ (s:List Int × Int) (q:Rat),ds=[smD s,frD q]/\0 < s.2/\Bd 8000 s.2/\(∀ x ∈ s.1,Bd 8000 x)/\Sq 100 q/\s.1.length<=1000/\r=.d (smD (wsm s q))
theorem bV {a b:Int} (h:0 < b):a.fdiv b=a / b:=Int.fdiv_eq_ediv_of_nonneg _ (by omega)
theorem nL (ns:List Int) (g:Int->D):(List.range (ns.map D.int).length).map (λi=>g (ns.getD i 0))=ns.map g:=by
 refine List.ext_getElem (by simp) λi h1 h2=>?_
 have:i < ns.length:=by simpa using h2
 simp [this]
noncomputable def df (ds:List D) (r:Sl):Prop:=∃ s u:List Int × Int,ds=[smD s,smD u]/\0 < s.2/\Bd 8000 s.2/\0 < u.2/\Bd 8000 u.2/\(∀ x ∈ s.1,Bd 8000 x)/\(∀ x ∈ u.1,Bd 8000 x)/\s.1.length=u.1.length/\s.1.length<=1000/\r=.d (smD (asm s u))
noncomputable def fP (V:Nat->Nat->Rat) (n:Nat) (r:Nat->Rat):Nat->Nat->Rat:=λk=>if k=n then r else V k
noncomputable def stV (V:Nat->Nat->Rat) (st:Stp):Nat->Nat->Rat:=if st.1 = "weigh" then fP V st.2.1 λi=>st.2.2 * V st.2.1 i else fP V (rgE st) λi=>V (rgE st) i + st.2.2 * V (rgS st) i
noncomputable def V0 (k i:Nat):Rat:=if i=k then 1 else 0
noncomputable def fwd (ss:List Stp):Nat->Nat->Rat:=ss.foldl stV V0
theorem gw {n m:Nat} (h:m < n):ixN n (m:Int)=some m:=by
 unfold ixN
 rw [if_pos (by omega),if_pos (by omega)]
 simp
structure TrI (e T R t:Nat) (P:Int) (tr:List (List Int × Int)) (V:Nat->Nat->Rat):Prop where
 len:tr.length=T
 pos:0 < P
 le:P<=2 ^ (e * t)
 sm:∀ k,k < T->Sm R P (tr.getD k ([],1)) (V k)
 zq:∀ k,k < T->∀ i,i < R->Zq P ((e + 1) * t) (V k i)
theorem pC {α:Type} {xs:List α} {k j:Nat} {x d:α} (h:k < xs.length):(xs.set k x).getD j d=if j=k then x else xs.getD j d:=by
 by_cases e:j=k
 · subst e; simp [h]
 · simp [List.getD,e,List.getElem?_set_ne (Ne.symm e)]
theorem Zq.upn {P:Int} {e t:Nat} {v q:Rat} (h:Zq P ((e + 1) * t) v) (g:Wq e q):Zq (P * ((q.den:Nat):Int)) ((e + 1) * (t + 1)) v:=(h.up g).mono (by rw [Nat.mul_succ]; omega)
theorem TrI.put {e T R t k:Nat} {P:Int} {tr:List (List Int × Int)} {V:Nat->Nat->Rat} {q:Rat} (h:TrI e T R t P tr V) (g:Wq e q) (hk:k < T) {s':List Int × Int} {v':Nat->Rat} (hs:Sm R (P * ((q.den:Nat):Int)) s' v')
   (hz:∀ i,i < R->Zq (P * ((q.den:Nat):Int)) ((e + 1) * (t + 1)) (v' i)):TrI e T R (t + 1) (P * ((q.den:Nat):Int)) (tr.set k s') (fP V k v'):=by
 refine ⟨by rw [List.length_set]; exact h.len,Int.mul_pos h.pos (den_pos q),?_,λj hj=>?_,λj hj i hi=>?_⟩
 · rw [Nat.mul_succ,p2]
   exact Int.mul_le_mul h.le (bd2 g.sq.den) (by have:=den_pos q; omega) (p0 _)
 · rw [pC (by rw [h.len]; exact hk)]
   unfold fP
   split
   · exact hs
   · exact (h.sm j hj).up _
 · unfold fP
   split
   · exact hz i hi
   · exact (h.zq j hj i hi).upn g
theorem TrI.start {e T R:Nat}:TrI e T R 0 1 ((List.range T).map λk=>iZ k R) V0:=by
 refine ⟨by simp,by decide,by simp,λk hk=>?_,λk hk i hi=>?_⟩
 · rw [show ((List.range T).map λk=>iZ k R).getD k ([],1)=iZ k R by simp [hk]]
   refine ⟨by simp [iZ],by show (0:Int) < 1; decide,Int.dvd_refl _,λi hi=>?_⟩
   rw [show (iZ k R).1.getD i 0=if i=k then 1 else 0 by simp [iZ,hi]]
   unfold V0 iZ
   split
   · exact (Rat.one_mul _).symm
   · exact (Rat.zero_mul _).symm
 · unfold V0
   split
   · exact ⟨1,by decide,by simp,(Rat.one_mul _).symm⟩
   · exact ⟨0,by decide,by simp,(Rat.zero_mul _).symm⟩
theorem TrI.bd {e T R t:Nat} {P:Int} {tr:List (List Int × Int)} {V:Nat->Nat->Rat} (h:TrI e T R t P tr V) (hn:(e + 1) * t<=1500) {k:Nat} (hk:k < T):0 < (tr.getD k ([],1)).2/\Bd 8000 (tr.getD k ([],1)).2/\(∀ x ∈ (tr.getD k ([],1)).1,Bd 8000 x)/\(tr.getD k ([],1)).1.length=R:=by
 obtain ⟨h1,h2⟩:=(h.sm k hk).bd h.pos h.le (h.zq k hk)
 have:e * t<=(e + 1) * t:=Nat.mul_le_mul_right _ (by omega)
 exact ⟨(h.sm k hk).pos,h1.mono (by omega),λx hx=>(h2 x hx).mono (by omega),(h.sm k hk).len⟩
theorem qW {tr:List (List Int × Int)} {i:Nat} (h:i < tr.length):atI (tr.map smD) (i:Int)=some (smD (tr.getD i ([],1))):=ah (by simp [h])
theorem j7 {tr:List (List Int × Int)} {C:Nat} (h:C<=tr.length):(cutD (tr.map smD) none (some (C:Int))).length=C:=by rw [kg,List.length_take,List.length_map]; omega
theorem vE {tr:List (List Int × Int)} {C:Nat} (i:Nat) (h:i < (cutD (tr.map smD) none (some (C:Int))).length):(cutD (tr.map smD) none (some (C:Int)))[i]=smD (tr.getD i ([],1)):=by
 rw [List.getElem_of_eq (kg C)]
 rw [kg,List.length_take,List.length_map] at h
 simp [show i < tr.length by omega]
theorem Sm.sums {R:Nat} {P:Int} {s:List Int × Int} {v:Nat->Rat} (h:Sm R P s v):vh s ((List.range R).map v):=by
 refine ⟨by rw [h.len]; simp,h.pos,λi hi=>?_⟩
 have hi:i < R:=by simpa using hi
 rw [h.val i hi]
 simp [hi]
theorem pX {e T R t:Nat} {P:Int} {tr:List (List Int × Int)} {V:Nat->Nat->Rat} {n:Nat} {q:Rat} (h:TrI e T R t P tr V) (g:Wq e q) (hn:n < T):TrI e T R (t + 1) (P * ((q.den:Nat):Int)) (tr.set n (wsm (tr.getD n ([],1)) q)) (stV V ("weigh",n,q)):=by
 unfold stV
 rw [if_pos rfl]
 exact h.put g hn (iR (h.sm n hn)) λi hi=>((h.zq n hn i hi).mul g).mono (by rw [Nat.mul_succ]; omega)
theorem uU {e T R t:Nat} {P:Int} {tr:List (List Int × Int)} {V:Nat->Nat->Rat} {st:Stp} (h:TrI e T R t P tr V) (g:Wq e st.2.2) (h0:st.1 ≠ "weigh") (h1:rgS st < T) (h2:rgE st < T):TrI e T R (t + 1) (P * ((st.2.2.den:Nat):Int)) (tr.set (rgE st) (asm (tr.getD (rgE st) ([],1)) (wsm (tr.getD (rgS st) ([],1)) st.2.2))) (stV V st):=by
 unfold stV
 rw [if_neg h0]
 exact h.put g h2 (uR ((h.sm _ h2).up _) (iR (h.sm _ h1))) λi hi=>(((h.zq _ h2 i hi).up g).add ((h.zq _ h1 i hi).mul g)).mono (by rw [Nat.mul_succ]; omega)
theorem tX {T:Nat} {st:Stp} (h:okS T st) (h0:st.1 ≠ "weigh"):rgS st < T/\rgE st < T/\rgS st ≠ rgE st:=by
 obtain ⟨_,h | h⟩:=h
 · exact absurd h.1 h0
 · have:=h.2
   unfold rgS rgE
   split <;> omega
noncomputable def bR (C R:Nat) (V:Nat->Nat->Rat):List (List Rat):=(List.range R).map λi=>(List.range C).map λj=>V j i
noncomputable def fQ (ds:List D) (r:Sl):Prop:=∃ (e T R C:Nat) (ss:List Stp),ds=[dC T R C ss]/\okL T R C ss/\(∀ i,i < ss.length->Wq e (ss.getD i ("weigh",0,0)).2.2)/\(e + 1) * ss.length<=1500/\e<=100/\r=.n (o9 (bR C R (fwd ss)))
theorem oU (C R:Nat) (V:Nat->Nat->Rat):nc ((List.range C).map λj=>(List.range R).map λi=>V j i) R=bR C R V:=by
 unfold nc bR
 refine List.map_congr_left λi hi=>?_
 have hi:i < R:=List.mem_range.mp hi
 unfold p7
 rw [List.length_map,List.length_range]
 refine List.map_congr_left λj hj=>?_
 have hj:j < C:=List.mem_range.mp hj
 simp [hi,hj]
section
variable {P:Program} {w:World} {K:PySem.W.Frag} {mg:Str->Option Value} {base:Heap} {k:Nat} {f:Addr} {fd:FuncData} {qual:Str}
theorem g9 (F:Fun K "weighed_sums" qual (top 67) f fd) (hb:∀ x ∈ aj,mg x=none) (c_common_divisor:Cal P w K mg base k "common_divisor" aT) (c_shared_divisor:Cal P w K mg base k "shared_divisor" bB):aJ P w K mg base CX0 (k + 1) f fd ["sums","weight"] (spD K cw):=by
 refine fnD F dM hb (by rintro _ _ ⟨_,_,rfl,_⟩; rfl) ?_
 rintro _ _ ⟨⟨ns,d⟩,q,rfl,hd,hd2,hns,hq,hl,rfl⟩ cdv A outer s H E b
 have nd:=dM.nd
 have hd:0 < d:=hd
 have hG:0 < (Int.gcd q.num d:Int):=lJ hd
 have hB:=dU ns (q.den:Nat) (den_pos q)
 have dG:aG (Int.gcd q.num d:Int):=(Bd.gcd hd2 (by show d ≠ 0; omega)).aG (Int.ne_of_gt hG) (by decide)
 have dB:aG (cG (q.den:Nat) ns):=(hq.den.of_dvd (eP ns _).1 (Int.ne_of_gt (den_pos q))).aG (Int.ne_of_gt hB) (by decide)
 have qn:Bd 8000 (q.num / (Int.gcd q.num d:Int)):=(hq.num.ediv _).mono (by decide)
 refine aE 2 nd (x_call b c_common_divisor (aa (ar (ae 1) af (ak (ah (i:=0) rfl))) (aa (ar (ae 0) af (ak (ah (i:=1) rfl))) ag)) ⟨_,_,rfl,rfl⟩) ?_
 refine aE 3 nd (x_call b c_shared_divisor (aa (ar (ae 1) af (ak (ah (i:=1) rfl))) (aa (ar (ae 0) af (ak (ah (i:=0) rfl))) ag)) ⟨_,_,rfl,rfl⟩) ?_
 refine aE 4 nd (av (ar (ae 1) af (ak (ah (i:=0) rfl))) (ae 2) (bf dG)) ?_
 rw [bV hG]
 refine au (bH (aa (aQ (cA (cmp 0 (f:=λi=>.int (ns.getD i 0 / cG (q.den:Nat) ns * (q.num / (Int.gcd q.num d:Int)))) b (bo (ar (ae 0) af (ak (ah (i:=0) rfl)))) lN (by rw [List.length_map]; have:ns.length<=1000:=hl; omega) λi hi s0 H0 fp=>?_))) (aa (av (av (ar (ae 0) af (ak (ah (i:=1) rfl))) (ae 2) (bf dG)) (av (ar (ae 1) af (ak (ah (i:=1) rfl))) (ae 3) (bf dB)) (a4 ?_)) ag))) ?_
 · have hi:i < ns.length:=by rw [List.length_map] at hi; exact hi
   rw [<- bV hB]
   exact av (av (ae 0) (ae 1) (bf dB)) (ae 2) (a4 (by rw [bV hB]; exact ((hns _ (getD_mem hi)).ediv _).aM qn (by decide) (by decide)))
 · rw [bV hG,bV hB]
   exact (hd2.ediv _).aM (hq.den.ediv _) (by decide) (by decide)
 · rw [bV hG,bV hB,nL ns λx=>.int (x / cG (q.den:Nat) ns * (q.num / (Int.gcd q.num d:Int)))]
   unfold smD wsm
   rw [List.map_map]
   rfl
theorem jc (F:Fun K "added_sums" qual (top 68) f fd) (hb:∀ x ∈ aj,mg x=none) (c_common_divisor:Cal P w K mg base k "common_divisor" aT) (c_shared_divisor:Cal P w K mg base k "shared_divisor" bB):aJ P w K mg base CX0 (k + 1) f fd ["one","other"] (spD K df):=by
 refine fnD F fo hb (by rintro _ _ ⟨_,_,rfl,_⟩; rfl) ?_
 rintro _ _ ⟨⟨ns,d⟩,⟨ms,e⟩,rfl,hd,hd2,he,he2,hns,hms,hll,hl,rfl⟩ cdv A outer s H E b
 have nd:=fo.nd
 have hd:0 < d:=hd
 have he:0 < e:=he
 have hll:ns.length=ms.length:=hll
 have hl:ns.length<=1000:=hl
 have hS:0 < (Int.gcd d e:Int):=lJ he
 have bS:Bd 8000 (Int.gcd d e:Int):=Bd.gcd he2 (by show e ≠ 0; omega)
 have dS:aG (Int.gcd d e:Int):=bS.aG (by omega) (by decide)
 refine aE 2 nd (x_call b c_common_divisor (aa (ar (ae 0) af (ak (ah (i:=1) rfl))) (aa (ar (ae 1) af (ak (ah (i:=1) rfl))) ag)) ⟨_,_,rfl,rfl⟩) ?_
 refine aE 3 nd (av (ar (ae 1) af (ak (ah (i:=1) rfl))) (ae 2) (bf dS)) ?_
 refine aE 4 nd (av (ar (ae 0) af (ak (ah (i:=1) rfl))) (ae 2) (bf dS)) ?_
 rw [bV hS,bV hS]
 have be:Bd 8000 (e / (Int.gcd d e:Int)):=Bd.ediv he2 _
 have bd:Bd 8000 (d / (Int.gcd d e:Int)):=Bd.ediv hd2 _
 have zl:(gP (ns.map D.int) (ms.map D.int)).length=ns.length:=by rw [cx,List.length_map,List.length_map]; omega
 refine gz 5 nd (uT 0 1 (f:=λi=>.int (ns.getD i 0 * (e / (Int.gcd d e:Int)) + ms.getD i 0 * (d / (Int.gcd d e:Int)))) b (qV b (ar (ae 0) af (ak (ah (i:=0) rfl))) (ar (ae 1) af (ak (ah (i:=0) rfl)))) vV (by rw [zl]; omega) λi hi s0 H0 fp=>?_) (.inr rfl) ?_
 · have hi:i < ns.length:=by rw [zl] at hi; exact hi
   exact av (av (ae 0) (ae 2) (a4 ((hns _ (getD_mem hi)).aM be (by decide) (by decide)))) (av (ae 1) (ae 3) (a4 ((hms _ (getD_mem (xs:=ms) (by omega))).aM bd (by decide) (by decide)))) aZ
 rw [zl]
 have ec:((List.range ns.length).map λi=>D.int (ns.getD i 0 * (e / (Int.gcd d e:Int)) + ms.getD i 0 * (d / (Int.gcd d e:Int))))=((List.range ns.length).map λi=>ns.getD i 0 * (e / (Int.gcd d e:Int)) + ms.getD i 0 * (d / (Int.gcd d e:Int))).map .int:=by rw [List.map_map]; rfl
 rw [ec]
 have er:asm (ns,d) (ms,e)=((((List.range ns.length).map λi=>ns.getD i 0 * (e / (Int.gcd d e:Int)) + ms.getD i 0 * (d / (Int.gcd d e:Int)))).map λx=>x / cG (Int.gcd d e:Int) ((List.range ns.length).map λi=>ns.getD i 0 * (e / (Int.gcd d e:Int)) + ms.getD i 0 * (d / (Int.gcd d e:Int))),d / (Int.gcd d e:Int) * (e / cG (Int.gcd d e:Int) ((List.range ns.length).map λi=>ns.getD i 0 * (e / (Int.gcd d e:Int)) + ms.getD i 0 * (d / (Int.gcd d e:Int))))):=rfl
 rw [er]
 have tl:((List.range ns.length).map λi=>ns.getD i 0 * (e / (Int.gcd d e:Int)) + ms.getD i 0 * (d / (Int.gcd d e:Int))).length<=1000:=by rw [List.length_map,List.length_range]; exact hl
 generalize ((List.range ns.length).map λi=>ns.getD i 0 * (e / (Int.gcd d e:Int)) + ms.getD i 0 * (d / (Int.gcd d e:Int)))=tops at tl
 have hV:=dU tops _ hS
 have dV:aG (cG (Int.gcd d e:Int) tops):=(bS.of_dvd (eP tops _).1 (by omega)).aG (by omega) (by decide)
 refine aE 6 nd (x_call b c_shared_divisor (aa (ae 2) (aa (ae 5) ag)) ⟨_,_,rfl,rfl⟩) ?_
 refine au (bH (aa (aQ (cA (cmp 0 (f:=λi=>.int (tops.getD i 0 / cG (Int.gcd d e:Int) tops)) b (bo (ae 5)) lN (by rw [List.length_map]; omega) λi hi s0 H0 fp=>?_))) (aa (av (ae 4) (av (ar (ae 1) af (ak (ah (i:=1) rfl))) (ae 6) (bf dV)) (a4 ?_)) ag))) ?_
 · rw [<- bV hV]
   exact av (ae 0) (ae 1) (bf dV)
 · rw [bV hV]
   exact bd.aM (Bd.ediv he2 _) (by decide) (by decide)
 · rw [bV hV,nL tops λx=>.int (x / cG (Int.gcd d e:Int) tops)]
   unfold smD
   rw [List.map_map]
   rfl
theorem lG (F:Fun K "table_of" qual (top 64) f fd) (hb:∀ x ∈ aj,mg x=none) (c_look_ladder:Cal P w K mg base k "look_ladder" cF) (c_columns_of:Cal P w K mg base k "columns_of" da) (c_first_sums:Cal P w K mg base k "first_sums" dH) (c_weighed_sums:Cal P w K mg base k "weighed_sums" cw) (c_added_sums:Cal P w K mg base k "added_sums" df) (c_told_sums:Cal P w K mg base k "told_sums" eG) (c_rung_end:Cal P w K mg base k "rung_end" fA) (c_rung_start:Cal P w K mg base k "rung_start" dD):aJ P w K mg base CX0 (k + 1) f fd ["ladder"] (spD K fQ):=by
 refine fnD F gQ hb (by rintro _ _ ⟨_,_,_,_,_,rfl,_⟩; rfl) ?_
 rintro _ _ ⟨e,T,R,C,ss,rfl,h,hw,hn,he,rfl⟩ cdv A outer s H E b
 have nd:=gQ.nd
 have hT:=h.t7
 have h00:=h
 have hRT:=h.rT
 have hCT:=h.cT
 refine pz (x_call b c_look_ladder (aa (ae 0) ag) ⟨T,R,C,ss,rfl,h,rfl⟩) ?_
 refine gz 1 nd (cmp 0 (f:=λk=>smD (iZ k R)) b (eK b (ar (ae 0) af (ak (ah (i:=0) rfl))) (by omega) (by omega)) dP (by rw [aC]; omega) λi hi s0 H0 fp=>(x_call (b.comp s0 H0 _ fp) c_first_sums (aa (ae 0) (aa (ar (ae 1) af (ak (ah (i:=1) rfl))) ag)) ⟨_,R,rfl,by omega,rfl⟩)) (.inl rfl) ?_
 rw [aC,Int.toNat_natCast]
 refine lX 2 (λi τ=>∃ P tr s2 s3,TrI e T R i P tr ((ss.take i).foldl stV V0)/\τ=[.d (dC T R C ss),.o (tr.map smD),s2,s3]) b nd (bo (ar (ae 0) af (ak (ah (i:=3) rfl)))) wc ⟨1,(List.range T).map λk=>iZ k R,.un,.un,TrI.start,?_⟩ (λi hi τ h=>?_) λτ h=>?_
 · rw [List.map_map]; rfl
 · obtain ⟨P,tr,s2,s3,I,rfl⟩:=h
   have hi:i < ss.length:=by rw [List.length_map] at hi; exact hi
   have hn':(e + 1) * i<=1500:=Nat.le_trans (Nat.mul_le_mul_left _ (by omega)) hn
   have hn2:(e + 1) * (i + 1)<=1500:=Nat.le_trans (Nat.mul_le_mul_left _ (by omega)) hn
   have g:=hw i hi
   have ok:=h00.st i hi
   have nx:∀ V,(ss.take (i + 1)).foldl stV V=stV ((ss.take i).foldl stV V) (ss.getD i ("weigh",0,0)):=λV=>by rw [take_snoc (("weigh",0,0):Stp) hi,List.foldl_append]; rfl
   rw [nx]
   generalize ss.getD i ("weigh",0,0)=st at *
   obtain ⟨u,n,q⟩:=st
   have sq:Sq 100 q:=g.sq.mono he
   refine hZ (M:=λτ=>∃ P tr s2 s3,TrI e T R (i + 1) P tr (stV ((ss.take i).foldl stV V0) (u,n,q))/\τ=[.d (dC T R C ss),.o (tr.map smD),s2,s3]) (aH (ar (ae 2) af (ak (ah (i:=0) rfl))) aN jK) (λh=>?_) (λh=>?_) λτ h=>aX h
   · obtain rfl:=of_decide_eq_true h
     have hnT:n < T:=by
       rcases ok.2 with z | z
       · exact z.2
       · have:=z.2; simp only at this; omega
     obtain ⟨z1,z2,z3,z4⟩:=I.bd hn' hnT
     have hnl:n < tr.length:=by rw [I.len]; exact hnT
     refine jy 1 (xs:=tr.map smD) (j:=n) (ar (ae 2) af (ak (ah (i:=1) rfl))) (x_call b c_weighed_sums (aa (fb 1 (ar (ae 2) af (ak (ah (i:=1) rfl))) (qW hnl)) (aa (ar (ae 2) af (ak (ah (i:=2) rfl))) ag)) ⟨_,q,rfl,z1,z2,z3,sq,by omega,rfl⟩) (by rw [List.length_map]; exact gw hnl) (aX ⟨_,_,.d (stD ("weigh",n,q)),s3,pX I g hnT,?_⟩)
     rw [List.map_set]
     rfl
   · have h0:u ≠ "weigh":=of_decide_eq_false h
     obtain ⟨hS,hE,_⟩:=tX ok h0
     obtain ⟨z1,z2,z3,z4⟩:=I.bd hn' hS
     obtain ⟨y1,y2,y3,y4⟩:=I.bd hn' hE
     have lS:rgS (u,n,q) < tr.length:=by rw [I.len]; exact hS
     have lE:rgE (u,n,q) < tr.length:=by rw [I.len]; exact hE
     obtain ⟨w1,w2⟩:=(iR (q:=q) (I.sm _ hS)).bd (m:=e * (i + 1)) (n:=(e + 1) * (i + 1)) (Int.mul_pos I.pos (den_pos q)) (by rw [Nat.mul_succ,p2]; exact Int.mul_le_mul I.le (bd2 g.sq.den) (by have:=den_pos q; omega) (p0 _)) λr hr=>((I.zq _ hS r hr).mul g).mono (by rw [Nat.mul_succ]; omega)
     have w0:=(iR (q:=q) (I.sm _ hS)).pos
     have w3:=(iR (q:=q) (I.sm _ hS)).len
     have:e * (i + 1)<=(e + 1) * (i + 1):=Nat.mul_le_mul_right _ (by omega)
     refine aE 3 nd (x_call b c_weighed_sums (aa (fb 1 (x_call b c_rung_start (aa (ae 2) ag) ⟨(u,n,q),rfl,rfl⟩) (qW lS)) (aa (ar (ae 2) af (ak (ah (i:=2) rfl))) ag)) ⟨_,q,rfl,z1,z2,z3,sq,by omega,rfl⟩) ?_
     refine jy 1 (xs:=tr.map smD) (j:=rgE (u,n,q)) (x_call b c_rung_end (aa (ae 2) ag) ⟨(u,n,q),rfl,rfl⟩) (x_call b c_added_sums (aa (fb 1 (x_call b c_rung_end (aa (ae 2) ag) ⟨(u,n,q),rfl,rfl⟩) (qW lE)) (aa (ae 3) ag)) ⟨_,_,rfl,y1,y2,w0,w1.mono (by omega),y3,λx hx=>(w2 x hx).mono (by omega),by rw [y4,w3],by omega,rfl⟩) (by rw [List.length_map]; exact gw lE) (aX ⟨_,_,.d (stD (u,n,q)),.d (smD (wsm (tr.getD (rgS (u,n,q)) ([],1)) q)),uU I g h0 hS hE,?_⟩)
     rw [List.map_set]
     rfl
 · obtain ⟨P,tr,s2,s3,I,rfl⟩:=h
   rw [List.length_map,List.take_of_length_le (Nat.le_refl _)] at I
   have bds:∀ j,j < T->_:=λj hj=>I.bd hn hj
   have hCl:C<=tr.length:=by rw [I.len]; exact hCT
   refine gC 1 (au (x_call b c_columns_of (aa (aQ (cA (cmp 0 (f:=λj=>.lst (((List.range R).map (fwd ss j)).map frD)) b (bo (aQ (oz (ae 1) i4 (fD (ar (ae 0) af (ak (ah (i:=2) rfl))))))) vE (by rw [j7 hCl]; omega) λj hj s0 H0 fp=>?_))) ag) ⟨(List.range C).map λj=>(List.range R).map (fwd ss j),R,?_,?_,?_,?_,?_,rfl⟩) ?_)
   · rw [j7 hCl] at hj
     have hjT:j < T:=by omega
     exact aQ (x_call (b.comp s0 H0 _ fp) c_told_sums (aa (ae 0) ag) ⟨tr.getD j ([],1),(List.range R).map (fwd ss j),rfl,(I.sm j hjT).sums,by rw [List.length_map,List.length_range]; omega,(bds j hjT).2.1.mono (by decide),rfl⟩)
   · rw [j7 hCl]
     unfold fO
     rw [List.map_map]
     rfl
   · rw [List.length_map,List.length_range]; exact h00.c1
   · rw [List.length_map,List.length_range]; omega
   · omega
   · intro j hj
     rw [List.length_map,List.length_range] at hj
     simp [hj]
   · rw [oU]
end
structure Cls (K:PySem.W.Frag) (mg:Str->Option Value) (cl:Nat->Addr) (cs:List Nat):Prop where
 lt:∀ c ∈ cs,c < 19
 ex:∃ S,mg "SmoothError" = some (.ref S)/\∀ c ∈ cs,Hx.ug K (cl c) S/\PySem.W.exmOne K (.ref (cl c)) (.ref S)=some true
 nm:∀ c,c < 19->mg (wordOf c)=some (.ref (cl c))
 kit:∀ c ∈ cs,∀ i,i < 19->PySem.W.kitOne K (.ref (cl c)) (.ref (cl i))=some (decide (c=i))
 val:∀ c ∈ cs,PySem.W.kitOne K (.ref (cl c)) (.type "ValueError")=some true
 vn:mg "ValueError" = none
theorem vT {c:Nat} (h:c < 19):((List.range 19).filter λi=>decide (c=i)).map (λi=>D.str (wordOf i))=[.str (wordOf c)]:=by
 rcases (by omega:c=0\/c=1\/c=2\/c=3\/c=4\/c=5\/c=6\/c=7\/c=8\/c=9\/c=10\/c=11\/c=12\/c=13\/c=14\/c=15\/c=16\/c=17\/c=18) with rfl | rfl | rfl | rfl | rfl | rfl | rfl | rfl | rfl | rfl | rfl | rfl | rfl | rfl | rfl | rfl | rfl | rfl | rfl <;> rfl
noncomputable def nmD (c:Nat):List D:=[D.bl (decide (c=0)),D.bl (decide (c=1)),D.bl (decide (c=2)),D.bl (decide (c=3)),D.bl (decide (c=4)),D.bl (decide (c=5)),D.bl (decide (c=6)),D.bl (decide (c=7)),D.bl (decide (c=8)),D.bl (decide (c=9)),D.bl (decide (c=10)),D.bl (decide (c=11)),D.bl (decide (c=12)),D.bl (decide (c=13)),D.bl (decide (c=14)),D.bl (decide (c=15)),D.bl (decide (c=16)),D.bl (decide (c=17)),D.bl (decide (c=18))]
theorem wI {c i:Nat} (h:i < 19):(nmD c)[i]?=some (D.bl (decide (c=i))):=by
 rcases (by omega:i=0\/i=1\/i=2\/i=3\/i=4\/i=5\/i=6\/i=7\/i=8\/i=9\/i=10\/i=11\/i=12\/i=13\/i=14\/i=15\/i=16\/i=17\/i=18) with rfl | rfl | rfl | rfl | rfl | rfl | rfl | rfl | rfl | rfl | rfl | rfl | rfl | rfl | rfl | rfl | rfl | rfl | rfl <;> rfl
noncomputable def wdD:List D:=[D.str "NoFraction",D.str "NoTable",D.str "NoChoice",D.str "NoSquare",D.str "NoFit",D.str "NoUndoing",D.str "NoLadder",D.str "TooMany",D.str "NoPaper",D.str "NoRow",D.str "NoStairs",D.str "NoNumber",D.str "NoCorner",D.str "NoName",D.str "NoStep",D.str "NoWeight",D.str "NoDeed",D.str "NoText",D.str "NoWord"]
theorem xa {i:Nat} (h:i < 19):wdD[i]?=some (D.str (wordOf i)):=by
 rcases (by omega:i=0\/i=1\/i=2\/i=3\/i=4\/i=5\/i=6\/i=7\/i=8\/i=9\/i=10\/i=11\/i=12\/i=13\/i=14\/i=15\/i=16\/i=17\/i=18) with rfl | rfl | rfl | rfl | rfl | rfl | rfl | rfl | rfl | rfl | rfl | rfl | rfl | rfl | rfl | rfl | rfl | rfl | rfl <;> rfl
section
variable {P:Program} {w:World} {K:PySem.W.Frag} {mg:Str->Option Value} {base:Heap} {k:Nat} {f:Addr} {fd:FuncData} {qual:Str}
set_option maxHeartbeats 2000000 in
theorem oo {cl:Nat->Addr} {cs:List Nat} {c:Nat} (F:Fun K "_law_word" qual (top 91) f fd) (hb:∀ x ∈ aj,mg x=none) (hbind:Binds K fd ["_law_e"] []) (Z:Cls K mg cl cs) (hc:c ∈ cs):dq P w K mg base cl (k + 1) f c:=by
 refine fnW F jQ hbind λcdv A outer s H ck=>?_
 have nd:=jQ.nd
 have lt:=Z.lt c hc
 obtain ⟨S,hS,hx⟩:=Z.ex
 have O:Hx.cI K (cl c):=(hx c hc).1.at_
 have hbi:mg "isinstance" = none:=hb _ (by decide)
 have m0:mg "NoFraction" = some (.ref (cl 0)):=Z.nm 0 (by decide)
 have m1:mg "NoTable" = some (.ref (cl 1)):=Z.nm 1 (by decide)
 have m2:mg "NoChoice" = some (.ref (cl 2)):=Z.nm 2 (by decide)
 have m3:mg "NoSquare" = some (.ref (cl 3)):=Z.nm 3 (by decide)
 have m4:mg "NoFit" = some (.ref (cl 4)):=Z.nm 4 (by decide)
 have m5:mg "NoUndoing" = some (.ref (cl 5)):=Z.nm 5 (by decide)
 have m6:mg "NoLadder" = some (.ref (cl 6)):=Z.nm 6 (by decide)
 have m7:mg "TooMany" = some (.ref (cl 7)):=Z.nm 7 (by decide)
 have m8:mg "NoPaper" = some (.ref (cl 8)):=Z.nm 8 (by decide)
 have m9:mg "NoRow" = some (.ref (cl 9)):=Z.nm 9 (by decide)
 have m10:mg "NoStairs" = some (.ref (cl 10)):=Z.nm 10 (by decide)
 have m11:mg "NoNumber" = some (.ref (cl 11)):=Z.nm 11 (by decide)
 have m12:mg "NoCorner" = some (.ref (cl 12)):=Z.nm 12 (by decide)
 have m13:mg "NoName" = some (.ref (cl 13)):=Z.nm 13 (by decide)
 have m14:mg "NoStep" = some (.ref (cl 14)):=Z.nm 14 (by decide)
 have m15:mg "NoWeight" = some (.ref (cl 15)):=Z.nm 15 (by decide)
 have m16:mg "NoDeed" = some (.ref (cl 16)):=Z.nm 16 (by decide)
 have m17:mg "NoText" = some (.ref (cl 17)):=Z.nm 17 (by decide)
 have m18:mg "NoWord" = some (.ref (cl 18)):=Z.nm 18 (by decide)
 have kt:=Z.kit c hc
 refine aE 1 nd (bG (aa (bM 0 m0 O (kt 0 (by decide)) hbi) (aa (bM 0 m1 O (kt 1 (by decide)) hbi) (aa (bM 0 m2 O (kt 2 (by decide)) hbi) (aa (bM 0 m3 O (kt 3 (by decide)) hbi) ag))))) (gC 1 ?_)
 refine aE 1 nd (fh (ae 1) (aQ (bG (aa (bM 0 m4 O (kt 4 (by decide)) hbi) (aa (bM 0 m5 O (kt 5 (by decide)) hbi) (aa (bM 0 m6 O (kt 6 (by decide)) hbi) (aa (bM 0 m7 O (kt 7 (by decide)) hbi) ag)))))) (by show (4:Nat) + 4 < 1000000; decide)) (gC 1 ?_)
 refine aE 1 nd (fh (ae 1) (aQ (bG (aa (bM 0 m8 O (kt 8 (by decide)) hbi) (aa (bM 0 m9 O (kt 9 (by decide)) hbi) (aa (bM 0 m10 O (kt 10 (by decide)) hbi) (aa (bM 0 m11 O (kt 11 (by decide)) hbi) ag)))))) (by show (8:Nat) + 4 < 1000000; decide)) (gC 1 ?_)
 refine aE 1 nd (fh (ae 1) (aQ (bG (aa (bM 0 m12 O (kt 12 (by decide)) hbi) (aa (bM 0 m13 O (kt 13 (by decide)) hbi) (aa (bM 0 m14 O (kt 14 (by decide)) hbi) (aa (bM 0 m15 O (kt 15 (by decide)) hbi) ag)))))) (by show (12:Nat) + 4 < 1000000; decide)) (gC 1 ?_)
 refine aE 1 nd (fh (ae 1) (aQ (bG (aa (bM 0 m16 O (kt 16 (by decide)) hbi) (aa (bM 0 m17 O (kt 17 (by decide)) hbi) (aa (bM 0 m18 O (kt 18 (by decide)) hbi) ag))))) (by show (16:Nat) + 3 < 1000000; decide)) (gC 1 ?_)
 show PSs _ _ (dS K [.x (exX cl c),.d (.lst (nmD c)),.un,.un] _)
 refine aE 2 nd (bG (aa aN (aa aN (aa aN (aa aN (aa aN (aa aN (aa aN (aa aN (aa aN ag)))))))))) (gC 2 ?_)
 refine aE 2 nd (fh (ae 2) (aQ (bG (aa aN (aa aN (aa aN (aa aN (aa aN (aa aN (aa aN (aa aN (aa aN ag))))))))))) (by decide)) ?_
 refine n5 2 aN ?_ (gC 2 ?_)
 · show (18:Nat) < 1000000
   decide
 show PSs _ _ (dS K [.x (exX cl c),.d (.lst (nmD c)),.d (.lst wdD),.un] _)
 refine gz 3 nd (s:=.d (.lst [.str (wordOf c)])) (uy 0 (t:=λi=>decide (c=i)) (f:=λi=>.str (wordOf i)) (tE ck (hb _ (by decide)) af (by decide) (by decide)) dP (by rw [aC]; decide) (λi hi s0 H0 fp=>aI (ar (ae 1) (ae 0) (aP (ah (wI (by rw [aC] at hi; exact hi)))))) λi hi _ s0 H0 fp=>ar (ae 2) (ae 0) (aP (ah (xa (by rw [aC] at hi; exact hi))))) (.inr ?_) ?_
 · rw [aC]
   exact congrArg (λl=>Sl.d (D.lst l)) (vT lt).symm
 show PSs _ _ (dS K [.x (exX cl c),.d (.lst (nmD c)),.d (.lst wdD),.d (.lst [.str (wordOf c)])] _)
 refine bQ (PW.pt (a8 (aH (ua (hb _ (by decide)) (ae 3)) af iG) λh=>(bC (aK (aI (we 0 Z.vn (by decide +kernel) O (Z.val c hc) hbi)))))) rfl ?_
 exact au (ar (ae 3) af (aP (ah (i:=0) rfl))) rfl
end
end K44
namespace K44
open PySem PySem.Spec PyProof.Rows L2 Hy
open Ev (D Den ax aM aG)
open PySem.W (nsIn subIn findIn mroIn specialIn takesIn)
noncomputable def sf (K:PySem.W.Frag) (SM:Addr):Prop:=∃ dd cd sl oN,K.lookup SM=some ⟨.type "type",dd,.cls cd,sl⟩/\K.lookup cd.ns=some oN/\Hx.nsO oN=true/\nsIn K cd.ns "__init__" = some none/\subIn K (.ref SM) (.type "BaseException")=some true
theorem sf.of {K:PySem.W.Frag} {SM:Addr} {dd:Option Addr} {cd:ClassData} {sl:Array (Option Value)} {oN:Obj} (a:K.lookup SM=some ⟨.type "type",dd,.cls cd,sl⟩) (b:K.lookup cd.ns=some oN) (c:Hx.nsO oN=true) (d:nsIn K cd.ns "__init__" = some none) (e:subIn K (.ref SM) (.type "BaseException")=some true):sf K SM:=⟨_,_,_,_,a,b,c,d,e⟩
structure qD (K:PySem.W.Frag) (SM C:Addr):Prop where
 obj:∃ nm q N bs hdct sn sub ab col dd k0 k1 k2 k3 k5 oN,K.lookup C=some (excClassObj nm q C N bs (.ref SM :: Hx.bmV) hdct sn sub ab col dd k0 k1 k2 k3 k5 "ValueError.__new__")/\K.lookup N=some oN/\Hx.nsO oN=true/\nsIn K N "__init__" = some none
 ga:findIn K (.ref C) "__getattribute__" = some (some (.builtin "BaseException.__getattribute__"))
 gb:findIn K (.ref C) "__getattr__" = some none
 gc:findIn K (.ref C) "__class__" = some (some (.builtin "object.__class__"))
 gd:mroIn K C (.type "object")=some true
 ge:mroIn K C (.type "BaseException")=some true
 sS:subIn K (.ref C) (.ref SM)=some true
 nx:(Value.ref C == Value.ref SM)=false
 sV:subIn K (.ref C) (.type "ValueError")=some true
theorem qD.of {K:PySem.W.Frag} {SM C N:Addr} {nm qn:Str} {bs sub:List Value} {hd ab:Bool} {sn:List Str} {col:Option Bool} {dd:Option Addr} {ka kb kc kd ke:Option Value} {oN:Obj} (w:K.lookup C=some (excClassObj nm qn C N bs (.ref SM :: Hx.bmV) hd sn sub ab col dd ka kb kc kd ke "ValueError.__new__")) (v:K.lookup N=some oN) (o:Hx.nsO oN=true) (i:nsIn K N "__init__" = some none)
   (ga:findIn K (.ref C) "__getattribute__" = some (some (.builtin "BaseException.__getattribute__"))) (gb:findIn K (.ref C) "__getattr__" = some none) (gc:findIn K (.ref C) "__class__" = some (some (.builtin "object.__class__"))) (gd:mroIn K C (.type "object")=some true) (ge:mroIn K C (.type "BaseException")=some true)
   (sS:subIn K (.ref C) (.ref SM)=some true) (nx:(Value.ref C == Value.ref SM)=false) (sV:subIn K (.ref C) (.type "ValueError")=some true):qD K SM C:=⟨⟨_,_,_,_,_,_,_,_,_,_,_,_,_,_,_,_,w,v,o,i⟩,ga,gb,gc,gd,ge,sS,nx,sV⟩
noncomputable def wu (K:PySem.W.Frag) (C:Addr):Prop:=∃ dd cd sl,K.lookup C=some ⟨.type "type",dd,.cls cd,sl⟩
inductive Tys (K:PySem.W.Frag):List Addr->Prop
 | nil:Tys K []
 | cons {C:Addr} {Cs:List Addr} {dd:Option Addr} {cd:ClassData} {sl:Array (Option Value)} (h:K.lookup C=some ⟨.type "type",dd,.cls cd,sl⟩) (r:Tys K Cs):Tys K (C :: Cs)
inductive Nss (K:PySem.W.Frag):List Str->List Addr->Prop
 | nil:Nss K [] []
 | cons {n:Str} {ns:List Str} {C:Addr} {Cs:List Addr} (h:nsIn K mainGlobals n=some (some (.ref C))) (r:Nss K ns Cs):Nss K (n :: ns) (C :: Cs)
inductive Off (K:PySem.W.Frag) (C:Addr):List Addr->Prop
 | nil:Off K C []
 | cons {D:Addr} {Ds:List Addr} (n:(Value.ref C == Value.ref D)=false) (s:subIn K (.ref C) (.ref D)=some false) (r:Off K C Ds):Off K C (D :: Ds)
theorem Tys.at_ {K:PySem.W.Frag}:∀ {Cs:List Addr} {i:Nat},Tys K Cs->i < Cs.length->wu K (Cs.getD i 0)
 | _ :: _,0,.cons h _,_=>⟨_,_,_,h⟩
 | _ :: _,i + 1,.cons _ r,h=>Tys.at_ (i:=i) r (Nat.lt_of_succ_lt_succ h)
theorem Nss.at_ {K:PySem.W.Frag}:∀ {ns:List Str} {Cs:List Addr} {i:Nat},Nss K ns Cs->i < Cs.length->nsIn K mainGlobals (ns.getD i "")=some (some (.ref (Cs.getD i 0)))
 | _,_ :: _,0,.cons h _,_=>h
 | _,_ :: _,i + 1,.cons _ r,h=>Nss.at_ (i:=i) r (Nat.lt_of_succ_lt_succ h)
theorem Off.at_ {K:PySem.W.Frag} {C:Addr}:∀ {Ds:List Addr} {i:Nat},Off K C Ds->i < Ds.length->(Value.ref C == Value.ref (Ds.getD i 0))=false/\subIn K (.ref C) (.ref (Ds.getD i 0))=some false
 | _ :: _,0,.cons n s _,_=>⟨n,s⟩
 | _ :: _,i + 1,.cons _ _ r,h=>Off.at_ (i:=i) r (Nat.lt_of_succ_lt_succ h)
theorem wH {K:PySem.W.Frag} {h:Heap} {mg:Str->Option Value} {SM:Addr} {Cs:List Addr} {ns:List Str} {cs:List Nat} (X:K.In h) (G:h.Ns mainGlobals mg) (aS:nsIn K mainGlobals "SmoothError" = some (some (.ref SM))) (S:sf K SM) (zV:nsIn K mainGlobals "ValueError" = some none) (gG:specialIn K (.builtin "object.__class__") "__get__" = some (some (.builtin "getset_descriptor.__get__"))) (gT:takesIn K (.builtin "object.__class__")=some true) (N:Nss K ns Cs) (hn:∀ i,i < 19->wordOf i=ns.getD i "") (T:Tys K Cs) (hl:Cs.length=19)
   (R:∀ c ∈ cs,c < 19/\qD K SM (Cs.getD c 0)/\Off K (Cs.getD c 0) (Cs.take c)/\Off K (Cs.getD c 0) (Cs.drop (c + 1))):∃ cl,Cls K mg cl cs:=by
 obtain ⟨ddS,cdS,slS,oNS,lS,nS,oS,iS,bS⟩:=S
 refine ⟨λc=>Cs.getD c 0,λc hc=>(R c hc).1,⟨SM,PySem.W.mg_of X G aS,λc hc=>?_⟩,λc hc=>?_,λc hc i hi=>?_,λc hc=>sa (R c hc).2.1.sV,PySem.W.mg_none_of X G zV⟩
 · have r:=(R c hc).2.1
   obtain ⟨dd,cd,sl,w⟩:=T.at_ (i:=c) (by rw [hl]; exact (R c hc).1)
   exact ⟨⟨r.obj,⟨_,_,_,_,_,lS,nS,oS,iS⟩,⟨by unfold PySem.W.clsIn; rw [w]; rfl,r.ga,r.gb,r.gc,gG,gT,r.gd,r.ge⟩⟩,uP bS (ml r.nx lS r.sS).1⟩
 · have:=N.at_ (i:=c) (by rw [hl]; exact hc)
   rw [<- hn c hc] at this
   exact PySem.W.mg_of X G this
 · obtain ⟨c9,r,o1,o2⟩:=R c hc
   obtain ⟨dd,cd,sl,w⟩:=T.at_ (i:=i) (by rw [hl]; exact hi)
   rcases Nat.lt_trichotomy c i with z | z | z
   · obtain ⟨n,s⟩:=o2.at_ (i:=i - (c + 1)) (by rw [List.length_drop,hl]; omega)
     have e:(Cs.drop (c + 1)).getD (i - (c + 1)) 0=Cs.getD i 0:=by
       rw [List.getD,List.getD,List.getElem?_drop,show c + 1 + (i - (c + 1))=i by omega]
     rw [e] at n s
     rw [decide_eq_false (by omega)]
     exact (ml n w s).2
   · subst z
     rw [decide_eq_true rfl]
     exact pF
   · obtain ⟨n,s⟩:=o1.at_ (i:=i) (by rw [List.length_take,hl]; omega)
     have e:(Cs.take c).getD i 0=Cs.getD i 0:=by
       rw [List.getD,List.getD,List.getElem?_take,if_pos z]
     rw [e] at n s
     rw [decide_eq_false (by omega)]
     exact (ml n w s).2
section
variable {P:Program} {w:World} {K:PySem.W.Frag} {mg:Str->Option Value} {base:Heap} {k:Nat} {f:Addr} {fd:FuncData} {qual:Str}
end
end K44
namespace K44
open PySem PySem.Spec PyProof.Rows L2 Hy
open Ev (D Den ax aM aG)
noncomputable def pR (ns:List Int):Bool:=((List.range (ns.length - 1)).map λi=>decide (ns.getD i 0 < ns.getD (i + 1) 0)).all id
noncomputable def dr (ds:List D) (r:Sl):Prop:=∃ ns:List Int,ds=[.lst (ns.map .int)]/\ns.length<=1000/\r=.d (.bl (pR ns))
noncomputable def cX:List D->Option (List Int)
 | []=>some []
 | .int n :: xs=>(cX xs).map (n :: ·)
 | _ :: _=>none
theorem fF:∀ {xs:List D} {ns:List Int},cX xs=some ns->xs=ns.map .int
 | [],_,h=>by cases h; rfl
 | x :: xs,ns,h=>by
   cases x with
   | int n=>
     rw [cX] at h
     obtain ⟨ms,h1,rfl⟩:=Option.map_eq_some_iff.mp h
     rw [fF h1]
     rfl
   | _=>cases h
theorem jL:∀ (xs:List D),(xs.map whl).all id=(cX xs).isSome
 | []=>rfl
 | x :: xs=>by
   rw [List.map_cons,List.all_cons,jL xs]
   cases x with
   | int n=>show (true && _)=_; rw [Bool.true_and,cX,Option.isSome_map]
   | _=>rfl
noncomputable def fG:D->Int->Bool
 | .lst xs,m=>match cX xs with
   | some (n :: ns)=>pR (n :: ns) && (decide (n ≥ 0) && decide (pb (n :: ns) < m))
   | _=>false
 | _,_=>false
noncomputable def dh (ds:List D) (r:Sl):Prop:=∃ (x:D) (m:Int),ds=[x,.int m]/\(∀ xs,x=.lst xs->xs.length<=1000)/\r=.d (.bl (fG x m))
section
variable {P:Program} {w:World} {K:PySem.W.Frag} {mg:Str->Option Value} {base:Heap} {k:Nat} {f:Addr} {fd:FuncData} {qual:Str}
theorem i8 (F:Fun K "is_rising" qual (top 35) f fd) (hb:∀ x ∈ aj,mg x=none):aJ P w K mg base CX0 (k + 1) f fd ["numbers"] (spD K dr):=by
 refine fnD F kf hb (by rintro _ _ ⟨_,rfl,_⟩; rfl) ?_
 rintro _ _ ⟨ns,rfl,hl,rfl⟩ cdv A outer s H E b
 refine au (aW b (aa (aQ (cA (cmp 0 (g:=λi=>.int (1 + (i:Nat))) (f:=λi=>.bl (decide (ns.getD i 0 < ns.getD (i + 1) 0))) b (tD b af (aW b (aa (ae 0) ag) bY) (by rw [List.length_map]; omega)) (λi h=>j0 1 _ i h) (by rw [aC,List.length_map]; omega) λi hi s0 H0 fp=>?_))) ag) (e8 b.calm ((List.range (ns.length - 1)).map λi=>decide (ns.getD i 0 < ns.getD (i + 1) 0)) ?_)) rfl
 · rw [aC,List.length_map] at hi
   have e1:(1:Int) + (i:Nat) - 1=(i:Nat):=by omega
   have e2:(1:Int) + (i:Nat)=((i + 1:Nat):Int):=by omega
   have a1:atI (ns.map D.int) ((1:Int) + (i:Nat) - 1)=some (.int (ns.getD i 0)):=by rw [e1]; exact eI 0 (by omega)
   have a2:atI (ns.map D.int) ((1:Int) + (i:Nat))=some (.int (ns.getD (i + 1) 0)):=by rw [e2]; exact eI 0 (by omega)
   exact bI (ar (ae 1) (av (ae 0) af d8) (aP a1)) (ar (ae 1) (ae 0) (aP a2)) pV
 · rw [aC,List.length_map,List.map_map]
   have e:(((ns.length:Nat):Int) - 1).toNat=ns.length - 1:=by omega
   rw [e]
   rfl
theorem js (F:Fun K "is_choice" qual (top 34) f fd) (hb:∀ x ∈ aj,mg x=none) (c_is_rising2:Cal P w K mg base k "is_rising" dr) (c_is_whole:Cal P w K mg base k "is_whole" bF):aJ P w K mg base CX0 (k + 1) f fd ["thing","many"] (spD K dh):=by
 refine fnD F j1 hb (by rintro _ _ ⟨_,_,rfl,_⟩; rfl) ?_
 rintro _ _ ⟨x,m,rfl,hx,rfl⟩ cdv A outer s H E b
 by_cases ht:cL .list x=true
 · obtain ⟨xs,rfl⟩:∃ xs,x=.lst xs:=by cases x <;> first | exact ⟨_,rfl⟩ | cases ht
   have hl:=hx xs rfl
   by_cases h0:xs.length=0
   · obtain rfl:=List.length_eq_zero_iff.mp h0
     refine aU (PW.pt (a8 (aK (aI (x_call b c_is_whole (aa (ae 1) ag) ⟨_,rfl,rfl⟩))) λh=>(a8 (aK (aI (br .list b (ae 0)))) λh=>(bC (aH (aW b (aa (ae 0) ag) bY) af cO))))) (λ_=>au b5 rfl) λz=>by cases z
   · refine bQ (PW.pt (a8 (aK (aI (x_call b c_is_whole (aa (ae 1) ag) ⟨_,rfl,rfl⟩))) λh=>(a8 (aK (aI (br .list b (ae 0)))) λh=>(bC (aH (aW b (aa (ae 0) ag) bY) af cO))))) ?_ ?_
     · show (false || (false || decide ((xs.length:Int)=0)))=false
       rw [decide_eq_false (by omega)]; rfl
     have eA:((List.range xs.length).map λl=>whl (xs.getD l .non)).all id=(cX xs).isSome:=by
       rw [<- jL]
       congr 1
       refine List.ext_getElem (by simp) λi h1 h2=>?_
       have:i < xs.length:=by simpa using h2
       simp [this]
     refine aU (aK (aI (aW b (aa (aQ (cA (cmp 0 (f:=λl=>.bl (whl (xs.getD l .non))) b (bo (ae 0)) lM (by omega) λl hl s0 H0 fp=>(x_call (b.comp s0 H0 _ fp) c_is_whole (aa (ae 0) ag) ⟨_,rfl,rfl⟩)))) ag) (e8 b.calm ((List.range xs.length).map λl=>whl (xs.getD l .non)) (by rw [List.map_map]; rfl))))) (λz=>?_) λz=>?_
     · rw [eA] at z
       refine au b5 ?_
       cases e:cX xs with
       | none=>show _=Sl.d (.bl (match cX xs with | some (n :: ns)=>_ | _=>false)); rw [e]
       | some ns=>rw [e] at z; cases z
     · rw [eA] at z
       cases e:cX xs with
       | none=>rw [e] at z; cases z
       | some ns=>
         have exs:=fF e
         subst exs
         rw [List.length_map] at hl h0
         have ln:0 < ns.length:=by omega
         have ne:ns ≠ []:=λy=>by rw [y] at ln; exact absurd ln (by decide)
         refine au (bh (x_call b c_is_rising2 (aa (ae 0) ag) ⟨ns,rfl,hl,rfl⟩) λ_=>(bh (bI (ar (ae 0) af (aP (eI (f:=D.int) (xs:=ns) 0 (i:=0) ln))) af qN) λ_=>(cy (bI (ar (ae 0) (sE af) (aP (rh ne))) (ae 1) pV)))) ?_
         show _=Sl.d (.bl (match cX (ns.map .int) with | some (n :: ns)=>_ | _=>false))
         rw [e]
         cases ns with
         | nil=>exact absurd rfl ne
         | cons n ns=>rfl
 · have e:cL .list x=false:=by simpa using ht
   have ef:fG x m=false:=by cases x <;> first | rfl | cases e
   refine aU (PW.pt (a8 (aK (aI (x_call b c_is_whole (aa (ae 1) ag) ⟨_,rfl,rfl⟩))) λh=>(a8 (q:=true) (aK (aI (br .list b (ae 0)))) λh=>(by rw [e] at h; cases h)))) (λh=>?_) λh=>?_
   · exact au b5 (by rw [ef])
   · rw [e] at h; cases h
end
noncomputable def gj:D->Bool
 | .lst xs=>decide ((1:Int)<=(xs.length:Nat)) && decide (((xs.length:Nat):Int)<=7)
 | _=>false
noncomputable def dj:D->Bool
 | .lst xs=>gj (.lst xs) && (xs.map dW).all id
 | _=>false
noncomputable def b6:D->Nat
 | .lst xs=>xs.length
 | _=>0
noncomputable def om:D->Bool
 | .lst xs=>gj (.lst xs) && ((xs.map dj).all id && (xs.map λy=>decide (b6 y=b6 (xs.getD 0 .non))).all id)
 | _=>false
theorem lK {xs:List D} (h:gj (.lst xs)=true):1<=xs.length/\xs.length<=7:=by
 have h:(decide ((1:Int)<=(xs.length:Nat)) && decide (((xs.length:Nat):Int)<=7))=true:=h
 rw [Bool.and_eq_true] at h
 exact ⟨by have:=of_decide_eq_true h.1; omega,by have:=of_decide_eq_true h.2; omega⟩
theorem jZ (f:D->Bool) (xs:List D):(List.range xs.length).map (λi=>f (xs.getD i .non))=xs.map f:=by
 refine List.ext_getElem (by simp) λi h1 h2=>?_
 have:i < xs.length:=by simpa using h2
 simp [this]
theorem lR:∀ {x:D},dj x=true->∃ ys,x=.lst ys
 | .lst ys,_=>⟨ys,rfl⟩
 | .int _,h=>nomatch h
 | .bl _,h=>nomatch h
 | .str _,h=>nomatch h
 | .non,h=>nomatch h
 | .tup _,h=>nomatch h
noncomputable def bA (ds:List D) (r:Sl):Prop:=∃ x,ds=[x]/\r=.d (.bl (gj x))
noncomputable def eV (ds:List D) (r:Sl):Prop:=∃ x,ds=[x]/\r=.d (.bl (dj x))
noncomputable def d9 (ds:List D) (r:Sl):Prop:=∃ x,ds=[x]/\r=.d (.bl (om x))
section
variable {P:Program} {w:World} {K:PySem.W.Frag} {mg:Str->Option Value} {base:Heap} {k:Nat} {f:Addr} {fd:FuncData} {qual:Str}
theorem gu (F:Fun K "is_short_list" qual (top 31) f fd) (hb:∀ x ∈ aj,mg x=none) (y_MOST:∃ t,mg "MOST" = some (.int 7 t)):aJ P w K mg base CX0 (k + 1) f fd ["thing"] (spD K bA):=by
 refine fnD F cW hb (by rintro _ _ ⟨_,rfl,_⟩; rfl) ?_
 rintro _ _ ⟨x,rfl,rfl⟩ cdv A outer s H E b
 by_cases ht:cL .list x=true
 · obtain ⟨xs,rfl⟩:∃ xs,x=.lst xs:=by cases x <;> first | exact ⟨_,rfl⟩ | cases ht
   exact au (bh (br .list b (ae 0)) λh=>(cy (ie af (aW b (aa (ae 0) ag) bY) (gB y_MOST) lV lV).1)) rfl
 · have e:cL .list x=false:=by simpa using ht
   have ef:gj x=false:=by cases x <;> first | rfl | cases e
   refine au (bh (q:=true) (br .list b (ae 0)) λh=>(by rw [e] at h; cases h)) ?_
   rw [ef,e]; rfl
theorem mm (F:Fun K "is_row" qual (top 32) f fd) (hb:∀ x ∈ aj,mg x=none) (c_is_short_list2:Cal P w K mg base k "is_short_list" bA) (c_is_fraction:Cal P w K mg base k "is_fraction" bt):aJ P w K mg base CX0 (k + 1) f fd ["thing"] (spD K eV):=by
 refine fnD F jw hb (by rintro _ _ ⟨_,rfl,_⟩; rfl) ?_
 rintro _ _ ⟨x,rfl,rfl⟩ cdv A outer s H E b
 by_cases ht:gj x=true
 · obtain ⟨xs,rfl⟩:∃ xs,x=.lst xs:=by cases x <;> first | exact ⟨_,rfl⟩ | cases ht
   obtain ⟨l1,l7⟩:=lK ht
   refine au (bh (x_call b c_is_short_list2 (aa (ae 0) ag) ⟨_,rfl,rfl⟩) λh=>(cy (aW b (aa (aQ (cA (cmp 0 (f:=λl=>.bl (dW (xs.getD l .non))) b (bo (ae 0)) lM (by omega) λl hl s0 H0 fp=>(x_call (b.comp s0 H0 _ fp) c_is_fraction (aa (ae 0) ag) ⟨_,rfl,rfl⟩)))) ag) (e8 b.calm ((List.range xs.length).map λl=>dW (xs.getD l .non)) (by rw [List.map_map]; rfl))))) ?_
   rw [jZ dW xs]; rfl
 · have e:gj x=false:=by simpa using ht
   have ef:dj x=false:=by
     cases x with
     | lst xs=>show (gj (.lst xs) && _)=false; rw [e]; rfl
     | _=>rfl
   refine au (bh (q:=true) (x_call b c_is_short_list2 (aa (ae 0) ag) ⟨_,rfl,rfl⟩) λh=>(by rw [e] at h; cases h)) ?_
   rw [ef,e]; rfl
theorem kL (F:Fun K "is_table" qual (top 33) f fd) (hb:∀ x ∈ aj,mg x=none) (c_is_short_list2:Cal P w K mg base k "is_short_list" bA) (c_is_row2:Cal P w K mg base k "is_row" eV):aJ P w K mg base CX0 (k + 1) f fd ["thing"] (spD K d9):=by
 refine fnD F gX hb (by rintro _ _ ⟨_,rfl,_⟩; rfl) ?_
 rintro _ _ ⟨x,rfl,rfl⟩ cdv A outer s H E b
 by_cases ht:gj x=true
 · obtain ⟨xs,rfl⟩:∃ xs,x=.lst xs:=by cases x <;> first | exact ⟨_,rfl⟩ | cases ht
   obtain ⟨l1,l7⟩:=lK ht
   refine aU (PW.pt (a8 (aK (aI (x_call b c_is_short_list2 (aa (ae 0) ag) ⟨_,rfl,rfl⟩))) λh=>(bC (aK (aI (aW b (aa (aQ (cA (cmp 0 (f:=λl=>.bl (dj (xs.getD l .non))) b (bo (ae 0)) lM (by omega) λl hl s0 H0 fp=>(x_call (b.comp s0 H0 _ fp) c_is_row2 (aa (ae 0) ag) ⟨_,rfl,rfl⟩)))) ag) (e8 b.calm ((List.range xs.length).map λl=>dj (xs.getD l .non)) (by rw [List.map_map]; rfl)))))))) (λz=>?_) λz=>?_
   · rw [ht,jZ dj xs] at z
     have z:((xs.map dj).all id)=false:=by simpa using z
     refine au b5 ?_
     show Sl.d (.bl false)=Sl.d (.bl (gj (.lst xs) && ((xs.map dj).all id && _)))
     rw [z,Bool.false_and,Bool.and_false]
   · rw [ht,jZ dj xs] at z
     have z:((xs.map dj).all id)=true:=by simpa using z
     have rw_:∀ l,l < xs.length->∃ ys,xs.getD l .non=.lst ys:=λl hl=>by
       refine lR ?_
       rw [List.all_eq_true] at z
       have:=z (dj (xs.getD l .non)) (List.mem_map.mpr ⟨_,by simp [hl],rfl⟩)
       exact this
     obtain ⟨y0,e0⟩:=rw_ 0 (by omega)
     have a0:atI xs 0=some (.lst y0):=by
       have:=ah (xs:=xs) (i:=0) (x:=xs.getD 0 .non) (by simp [show 0 < xs.length by omega])
       rw [e0] at this; exact this
     refine au (aW b (aa (aQ (cA (cmp 0 (f:=λl=>.bl (decide (b6 (xs.getD l .non)=b6 (xs.getD 0 .non)))) b (bo (ae 0)) lM (by omega) λl hl s0 H0 fp=>?_))) ag) (e8 b.calm ((List.range xs.length).map λl=>decide (b6 (xs.getD l .non)=b6 (xs.getD 0 .non))) (by rw [List.map_map]; rfl))) ?_
     · obtain ⟨yl,el⟩:=rw_ l hl
       have en:(.bl (decide (b6 (xs.getD l .non)=b6 (xs.getD 0 .non))):D)=.bl (decide ((yl.length:Int)=(y0.length:Nat))):=by
         rw [el,e0]
         show D.bl (decide (yl.length=y0.length))=_
         congr 1
         exact decide_eq_decide.mpr Int.ofNat_inj.symm
       rw [en,el]
       exact bI (aW (b.comp s0 H0 _ fp) (aa (ae 0) ag) bY) (aW (b.comp s0 H0 _ fp) (aa (ar (ae 1) af (aP a0)) ag) bY) cO
     · rw [jZ (λy=>decide (b6 y=b6 (xs.getD 0 .non))) xs]
       show _=Sl.d (.bl (gj (.lst xs) && ((xs.map dj).all id && _)))
       rw [z,ht,Bool.true_and,Bool.true_and]
 · have e:gj x=false:=by simpa using ht
   have ef:om x=false:=by
     cases x with
     | lst xs=>show (gj (.lst xs) && _)=false; rw [e]; rfl
     | _=>rfl
   refine aU (PW.pt (a8 (q:=true) (aK (aI (x_call b c_is_short_list2 (aa (ae 0) ag) ⟨_,rfl,rfl⟩))) λh=>(by rw [e] at h; cases h))) (λh=>?_) λh=>?_
   · refine au b5 ?_
     rw [ef]
   · rw [e] at h; cases h
end
noncomputable def shO (x:D):Prop:=∀ xs,x=.lst xs->xs.length<=1000
theorem rZ {ns:List Int} (h:pR ns=true):∀ i,i + 1 < ns.length->ns.getD i 0 < ns.getD (i + 1) 0:=λi hi=>by
 unfold pR at h
 rw [List.all_map,List.all_eq_true] at h
 exact of_decide_eq_true (h i (List.mem_range.mpr (by omega)))
theorem jH {x:D} {m:Int} (s:shO x) (h:fG x m=true):∃ ns:List Int,x=.lst (ns.map .int)/\ChO m ns:=by
 cases x with
 | lst xs=>
   have hl:=s xs rfl
   have h:(match cX xs with | some (n :: ns)=>pR (n :: ns) && (decide (n ≥ 0) && decide (pb (n :: ns) < m)) | _=>false)=true:=h
   cases e:cX xs with
   | none=>rw [e] at h; cases h
   | some ns=>
     have exs:=fF e
     subst exs
     rw [e] at h
     rw [List.length_map] at hl
     cases ns with
     | nil=>cases h
     | cons n ns=>
       simp only [Bool.and_eq_true,decide_eq_true_eq] at h
       exact ⟨n :: ns,rfl,⟨by simp,rZ h.1,h.2.1,h.2.2,hl⟩⟩
 | _=>cases h
noncomputable def pP (ds:List D) (c:Nat):Prop:=∃ x,ds=[x]/\om x=false/\c=1
noncomputable def ldO (x:D):Prop:=∀ t r c xs,x=.tup [t,r,c,.lst xs]->∀ y ∈ xs,stO y
mutual
theorem lB:∀ x:D,Ev.eqD x x=true
 | .non=>by rw [Ev.eqD]
 | .bl a=>by simp [Ev.eqD]
 | .int a=>by simp [Ev.eqD]
 | .str a=>by simp [Ev.eqD]
 | .tup xs=>by rw [Ev.eqD]; exact gv xs
 | .lst xs=>by rw [Ev.eqD]; exact gv xs
 | .box x=>by rw [Ev.eqD]
theorem gv:∀ xs:List D,Ev.gM xs xs=true
 | []=>by rw [Ev.gM]
 | x :: xs=>by rw [Ev.gM,lB x,gv xs]; rfl
end
theorem nC:∀ r:List Rat,Ev.de (r.map frD)=true/\Ev.dZ (r.map frD)<=1
 | []=>by simp [Ev.de,Ev.dZ]
 | x :: r=>by
   obtain ⟨h1,h2⟩:=nC r
   rw [List.map_cons,Ev.de,Ev.dZ,h1,frD]
   refine ⟨by simp [Ev.cln,Ev.de],?_⟩
   have:Ev.dep (.tup [.int x.num,.int (x.den:Nat)])=1:=by simp [Ev.dep,Ev.dZ]
   rw [this]
   omega
theorem ny:∀ m:List (List Rat),Ev.de (m.map rwQ)=true/\Ev.dZ (m.map rwQ)<=2
 | []=>by simp [Ev.de,Ev.dZ]
 | r :: m=>by
   obtain ⟨h1,h2⟩:=ny m
   obtain ⟨h3,h4⟩:=nC r
   rw [List.map_cons,Ev.de,Ev.dZ,h1,show rwQ r=.lst (r.map frD) from rfl,Ev.cln,Ev.dep,h3]
   exact ⟨rfl,by omega⟩
theorem gD (m:List (List Rat)):Ev.cU (tbQ m):=by
 obtain ⟨h1,h2⟩:=ny m
 unfold tbQ Ev.cU
 rw [Ev.cln,Ev.dep,h1]
 exact ⟨rfl,by omega⟩
section
variable {P:Program} {w:World} {K:PySem.W.Frag} {mg:Str->Option Value} {base:Heap} {k:Nat} {f:Addr} {fd:FuncData} {qual:Str}
theorem jq {cl:Nat->Addr} {cs:List Nat} (F:Fun K "look_table" qual (top 36) f fd) (hb:∀ x ∈ aj,mg x=none) (Z:Cls K mg cl cs) (h1:1 ∈ cs) (c_is_table2:Cal P w K mg base k "is_table" d9):aJ P w K mg base (Hx.CXe P w cl) (k + 1) f fd ["thing"] (spX K cl pP):=by
 obtain ⟨S,hS,hx⟩:=Z.ex
 refine fnX F fj hb (by rintro _ _ ⟨_,rfl,_⟩; rfl) ?_
 rintro _ _ ⟨x,rfl,h2,rfl⟩ cdv A outer s H E hr b ps lv
 refine aU (PT.nox (aK (aI (x_call b c_is_table2 (aa (ae 0) ag) ⟨x,rfl,rfl⟩)))) (λ_=>mR (lv 1) (Z.nm 1 (by decide)) (hx 1 h1).1 (aa aN ag)) λh=>?_
 rw [h2] at h; cases h
end
noncomputable def eQ (ds:List D) (r:Sl):Prop:=∃ a b:Int,ds=[.int a,.int b]/\r=.d (.int (Int.gcd a b:Int))
noncomputable def cN (ds:List D) (r:Sl):Prop:=∃ (t b:Int) (q:Rat),ds=[.int t,.int b]/\0 < b/\Bd 8999 b/\(t:Rat)=q * (b:Rat)/\r=.d (frD q)
noncomputable def iM (ds:List D) (r:Sl):Prop:=∃ (m n:Nat) (p q:Rat),ds=[frD p,frD q]/\Sq m p/\Sq n q/\m + n<=8999/\r=.d (frD (p + q))
theorem pS (p q:Rat):((p.num * ((q.den:Nat):Int) + q.num * ((p.den:Nat):Int):Int):Rat)=(p + q) * (((p.den:Nat):Int) * ((q.den:Nat):Int):Int):=by
 rw [Rat.intCast_add,Rat.intCast_mul,Rat.intCast_mul,Rat.intCast_mul,<- eX p,<- eX q]
 grind
noncomputable def gK (ds:List D) (r:Sl):Prop:=∃ (m n:Nat) (p q:Rat),ds=[frD p,frD q]/\Sq m p/\Sq n q/\m + n<=8999/\r=.d (frD (p * q))
theorem lC (p q:Rat):((p.num * q.num:Int):Rat)=p * q * (((p.den:Nat):Int) * ((q.den:Nat):Int):Int):=by
 rw [Rat.intCast_mul,Rat.intCast_mul,<- eX p,<- eX q]
 grind
theorem kj {a b:Int} (h:0 < a) (g:0 < b):0 < a * b:=Int.mul_pos h g
theorem Sq.mul {m n:Nat} {p q:Rat} (h:Sq m p) (g:Sq n q):Sq (m + n) (p * q):=Sq.du (kj (den_pos p) (den_pos q)) (lC p q) (h.num.mul g.num) (h.den.mul g.den)
noncomputable def i5 (ds:List D) (r:Sl):Prop:=∃ (ns:List Int) (k:Nat),ds=[.lst (ns.map .int),.int k]/\r=.d (.int (ns.getD k 0))
noncomputable def ij (ds:List D) (r:Sl):Prop:=∃ n:Nat,ds=[.int n]/\n<=1000/\r=.d (.int (10 ^ n))
noncomputable def wgT (p:Int) (g:Nat):Int:=if 0 < g then p.fmod (10 ^ g) else p.fmod 7
noncomputable def wgB (p:Int) (g:Nat):Int:=if 0 < g then 1 + (p.fdiv (10 ^ g)).fmod (10 ^ g - 1) else 1 + (p.fdiv 7).fmod 4
noncomputable def wgt (p:Int) (g:Nat):Rat:=(wgT p g:Rat) / (wgB p g:Rat)
noncomputable def c3 (ds:List D) (r:Sl):Prop:=∃ (p:Int) (g:Nat),ds=[.int p,.int g]/\g<=40/\r=.d (frD (wgt p g))
theorem fm {a b:Int} (h:0 < b):0<=a.fmod b/\a.fmod b < b:=⟨Int.fmod_nonneg_of_pos a h,Int.fmod_lt_of_pos a h⟩
theorem qI {g:Nat} (h:g<=40):(10:Int) ^ g < 2 ^ 140:=by
 have h1:(10:Nat) ^ g<=10 ^ 40:=Nat.pow_le_pow_right (by decide) h
 have h2:(10:Nat) ^ 40 < 2 ^ 140:=by decide
 have:((10 ^ g:Nat):Int) < ((2 ^ 140:Nat):Int):=Int.ofNat_lt.mpr (Nat.lt_of_le_of_lt h1 h2)
 simpa using this
theorem mU {g:Nat} (h:0 < g):(10:Int)<=10 ^ g:=by
 have h1:(10:Nat) ^ 1<=10 ^ g:=Nat.pow_le_pow_right (by decide) h
 have:((10 ^ 1:Nat):Int)<=((10 ^ g:Nat):Int):=Int.ofNat_le.mpr h1
 simpa using this
theorem kX {x:Int} (h0:0<=x) (h:x < 2 ^ 140):Bd 140 x:=by
 unfold Bd
 have:(x.natAbs:Int) < ((2 ^ 140:Nat):Int):=by rw [Int.natAbs_of_nonneg h0]; simpa using h
 exact Int.ofNat_lt.mp this
theorem nW (p:Int) {g:Nat} (h:g<=40):0<=wgT p g/\Bd 140 (wgT p g)/\0 < wgB p g/\Bd 140 (wgB p g):=by
 unfold wgT wgB
 by_cases h0:0 < g
 · have h1:=qI h
   have h2:=mU h0
   have f1:=fm (a:=p) (b:=10 ^ g) (by omega)
   have f2:=fm (a:=p.fdiv (10 ^ g)) (b:=10 ^ g - 1) (by omega)
   rw [if_pos h0,if_pos h0]
   exact ⟨f1.1,kX f1.1 (by omega),by omega,kX (by omega) (by omega)⟩
 · have f1:=fm (a:=p) (b:=7) (by decide)
   have f2:=fm (a:=p.fdiv 7) (b:=4) (by decide)
   rw [if_neg h0,if_neg h0]
   exact ⟨f1.1,kX f1.1 (by omega),by omega,kX (by omega) (by omega)⟩
theorem ic (p:Int) {g:Nat} (h:g<=40):(wgT p g:Rat)=wgt p g * (wgB p g:Rat):=(Rat.div_mul_cancel (iY (nW p h).2.2.1)).symm
theorem pT (p:Int) {g:Nat} (h:g<=40):0<=(wgt p g).num/\Sq 140 (wgt p g):=by
 obtain ⟨h1,h2,h3,h4⟩:=nW p h
 refine ⟨?_,Sq.du h3 (ic p h) h2 h4⟩
 rw [(du h3 (ic p h)).1]
 exact Int.ediv_nonneg h1 (Int.natCast_nonneg _)
noncomputable def szP (m:Nat) (c:Int):List Int:=nums c [8,4,7,7,7,(m:Int) + 1]
noncomputable def szT (m:Nat) (c:Int):Int:=if (szP m c).getD 0 0=1 then 1 + (szP m c).getD 2 0 else 1 + (szP m c).getD 1 0
noncomputable def szR (m:Nat) (c:Int):Int:=1 + ((szP m c).getD 3 0).fmod (szT m c)
noncomputable def szC (m:Nat) (c:Int):Int:=1 + ((szP m c).getD 4 0).fmod (szT m c)
theorem qA (m:Nat) (c:Int):1<=szT m c/\szT m c<=7/\1<=szR m c/\szR m c<=szT m c/\1<=szC m c/\szC m c<=szT m c/\0<=(szP m c).getD 5 0/\(szP m c).getD 5 0<=m:=by
 have hp:∀ b ∈ ([8,4,7,7,7,(m:Int) + 1]:List Int),0 < b:=by intro b hb; simp at hb; omega
 have h1:=fV (c:=c) hp (i:=1) (by simp)
 have h2:=fV (c:=c) hp (i:=2) (by simp)
 have h5:=fV (c:=c) hp (i:=5) (by simp)
 have e1:([8,4,7,7,7,(m:Int) + 1]:List Int).getD 1 0=4:=rfl
 have e2:([8,4,7,7,7,(m:Int) + 1]:List Int).getD 2 0=7:=rfl
 have e5:([8,4,7,7,7,(m:Int) + 1]:List Int).getD 5 0=(m:Int) + 1:=rfl
 rw [e1] at h1
 rw [e2] at h2
 rw [e5] at h5
 have hT:1<=szT m c/\szT m c<=7:=by
   unfold szT szP
   split <;> omega
 have hR:=fm (a:=(szP m c).getD 3 0) (b:=szT m c) (by omega)
 have hC:=fm (a:=(szP m c).getD 4 0) (b:=szT m c) (by omega)
 have h5':0<=(szP m c).getD 5 0/\(szP m c).getD 5 0 < (m:Int) + 1:=h5
 unfold szR szC
 omega
noncomputable def gy (ds:List D) (r:Sl):Prop:=∃ (m:Nat) (c:Int),ds=[.int c,.int m]/\m<=100/\r=.d (.tup [.int (szT m c),.int (szR m c),.int (szC m c),.int ((szP m c).getD 5 0)])
noncomputable def wrd (i:Int):Str:=if i=0 then "down" else if i=1 then "up" else "weigh"
theorem u0 {i:Int} (h0:0<=i) (h:i < 3):atI [D.str "down",D.str "up",D.str "weigh"] i=some (.str (wrd i)):=by
 obtain ⟨n,rfl⟩:=Int.eq_ofNat_of_zero_le h0
 rcases (by omega:n=0\/n=1\/n=2) with rfl | rfl | rfl <;> rfl
theorem ib {α:Type} (a b c:α):∀ n,(List.replicate n [a,b,c]).flatten.length=3 * n
 | 0=>rfl
 | n + 1=>by rw [List.replicate_succ,List.flatten_cons,List.length_append,ib a b c n]; simp; omega
theorem nr {a b c:Int} {n:Nat} {x:Int} (h:x ∈ (List.replicate n [a,b,c]).flatten):x=a\/x=b\/x=c:=by
 obtain ⟨l,h1,h2⟩:=List.mem_flatten.mp h
 rw [(List.mem_replicate.mp h1).2] at h2
 simpa using h2
theorem qo {a b c:Int}:∀ (n k:Nat),k < n->(List.replicate n [a,b,c]).flatten.getD (3 * k) 0=a/\(List.replicate n [a,b,c]).flatten.getD (3 * k + 1) 0=b/\(List.replicate n [a,b,c]).flatten.getD (3 * k + 2) 0=c
 | n + 1,0,_=>by rw [List.replicate_succ,List.flatten_cons]; exact ⟨rfl,rfl,rfl⟩
 | n + 1,k + 1,h=>by
   have:=qo (a:=a) (b:=b) (c:=c) n k (by omega)
   rw [List.replicate_succ,List.flatten_cons]
   exact this
theorem rS (a b c:Int) (n:Nat):(List.replicate n [D.int a,D.int b,D.int c]).flatten=((List.replicate n [a,b,c]).flatten).map .int:=by
 rw [List.map_flatten,List.map_replicate]; rfl
noncomputable def adB (g:Nat):Int:=10 ^ (2 * (if (g:Int) > 1 then (g:Int) else 1).toNat) * 28
noncomputable def adP (c:Int) (n g:Nat):List Int:=nums c (List.replicate n [3,7,adB g]).flatten
noncomputable def adW (ps:List Int) (T k:Nat):Str:=if wrd (ps.getD (3 * k) 0) ≠ "weigh" /\ T=1 then "weigh" else wrd (ps.getD (3 * k) 0)
noncomputable def adA (ps:List Int) (T k:Nat):Int:=if adW ps T k = "weigh" then (ps.getD (3 * k + 1) 0).fmod T else (ps.getD (3 * k + 1) 0).fmod ((T:Int) - 1)
noncomputable def adS (ps:List Int) (T g k:Nat):Stp:=(adW ps T k,(adA ps T k).toNat,wgt (ps.getD (3 * k + 2) 0) g)
theorem sR {g:Nat} (h:g<=40):0 < adB g/\aG (adB g):=by
 unfold adB
 have hk:(2 * (if (g:Int) > 1 then (g:Int) else 1).toNat)<=80:=by split <;> omega
 generalize (2 * (if (g:Int) > 1 then (g:Int) else 1).toNat)=k at hk
 have h1:(10:Nat) ^ k<=10 ^ 80:=Nat.pow_le_pow_right (by decide) hk
 have h2:0 < (10:Nat) ^ k:=Nat.pow_pos (by decide)
 have e:(10:Int) ^ k * 28=((10 ^ k * 28:Nat):Int):=by simp
 rw [e]
 have h3:Bd 300 ((10 ^ k * 28:Nat):Int):=by
   unfold Bd
   rw [Int.natAbs_natCast]
   exact Nat.lt_of_le_of_lt (Nat.mul_le_mul_right 28 h1) (by decide)
 exact ⟨by omega,h3.aG (by omega) (by decide)⟩
theorem vZ {c:Int} {n g k:Nat} (h:g<=40) (hk:k < n):0<=(adP c n g).getD (3 * k) 0/\(adP c n g).getD (3 * k) 0 < 3:=by
 have hp:∀ b ∈ (List.replicate n [3,7,adB g]).flatten,0 < b:=λb hb=>by
   have:=sR h
   rcases nr hb with rfl | rfl | rfl <;> omega
 have:=fV (c:=c) hp (i:=3 * k) (by rw [ib]; omega)
 rw [(qo n k hk).1] at this
 exact this
theorem qw {ps:List Int} {T k:Nat} (hT:1<=T):0<=adA ps T k/\(adW ps T k = "weigh" -> adA ps T k < T)/\(adW ps T k ≠ "weigh" -> 2<=T/\adA ps T k + 1 < T):=by
 unfold adA
 split
 · rename_i h
   have:=fm (a:=ps.getD (3 * k + 1) 0) (b:=T) (by omega)
   exact ⟨this.1,λ_=>this.2,λz=>absurd h z⟩
 · rename_i h
   have hT1:T ≠ 1:=λz=>h (by
     unfold adW
     split
     · rfl
     · rename_i y
       exact Decidable.byContradiction λx=>y ⟨x,z⟩)
   have:=fm (a:=ps.getD (3 * k + 1) 0) (b:=(T:Int) - 1) (by omega)
   exact ⟨this.1,λz=>absurd z h,λ_=>by omega⟩
theorem uW (i:Int):wrd i = "weigh" \/ wrd i = "down" \/ wrd i = "up":=by
 unfold wrd
 split
 · exact .inr (.inl rfl)
 · split
   · exact .inr (.inr rfl)
   · exact .inl rfl
theorem p9 {ps:List Int} {T g k:Nat} (hT:1<=T) (hg:g<=40):okS T (adS ps T g k)/\Sq 140 (adS ps T g k).2.2:=by
 obtain ⟨h1,h2,h3⟩:=qw (ps:=ps) (k:=k) hT
 have hw:=pT (ps.getD (3 * k + 2) 0) hg
 refine ⟨⟨hw.1,?_⟩,hw.2⟩
 by_cases e:adW ps T k = "weigh"
 · exact .inl ⟨e,by have:=h2 e; show (adA ps T k).toNat < T; omega⟩
 · refine .inr ⟨?_,by have:=h3 e; show (adA ps T k).toNat + 1 < T; omega⟩
   show adW ps T k = "down" \/ adW ps T k = "up"
   unfold adW at e ⊢
   split at e
   · exact absurd rfl e
   · rename_i y
     rw [if_neg y]
     exact (uW _).resolve_left e
noncomputable def fv (ds:List D) (r:Sl):Prop:=∃ (c:Int) (T R C n g:Nat),ds=[.int c,.int T,.int R,.int C,.int n,.int g]/\1<=T/\n<=30/\g<=40/\r=.d (dC T R C ((List.range n).map (adS (adP c n g) T g)))
theorem cn {α:Type} (f:Nat->α) {n i:Nat} (h:i < n) (d:α):((List.range n).map f).getD i d=f i:=by simp [h]
noncomputable def drT (m:Nat) (c:Int):Nat:=(szT m c).toNat
noncomputable def drR (m:Nat) (c:Int):Nat:=(szR m c).toNat
noncomputable def drC (m:Nat) (c:Int):Nat:=(szC m c).toNat
noncomputable def drS (m:Nat) (c o:Int) (g:Nat):List Stp:=(List.range ((szP m c).getD 5 0).toNat).map (adS (adP o ((szP m c).getD 5 0).toNat g) (drT m c) g)
noncomputable def gO (ds:List D) (r:Sl):Prop:=∃ (m:Nat) (c o:Int) (g:Nat),ds=[.int c,.int o,.int m,.int g]/\g<=40/\m<=30/\r=.d (dC (drT m c) (drR m c) (drC m c) (drS m c o g))
theorem vO {m:Nat} (c o:Int) {g:Nat} (hg:g<=40) (hm:m<=30):okL (drT m c) (drR m c) (drC m c) (drS m c o g)/\(∀ i,i < (drS m c o g).length->Sq 140 ((drS m c o g).getD i ("weigh",0,0)).2.2)/\(drS m c o g).length<=m:=by
 obtain ⟨h1,h2,h3,h4,h5,h6,h7,h8⟩:=qA m c
 have hl:(drS m c o g).length=((szP m c).getD 5 0).toNat:=by simp [drS]
 have ha:∀ i,i < (drS m c o g).length->(drS m c o g).getD i ("weigh",0,0)=adS (adP o ((szP m c).getD 5 0).toNat g) (drT m c) g i:=λi hi=>by
   rw [hl] at hi
   exact cn _ hi _
 have hT:1<=drT m c:=by unfold drT; omega
 refine ⟨⟨hT,?_,?_,?_,?_,?_,?_,λi hi=>?_⟩,λi hi=>?_,by omega⟩
 · unfold drT; omega
 · unfold drR; omega
 · unfold drT drR; omega
 · unfold drC; omega
 · unfold drT drC; omega
 · omega
 · rw [ha i hi]; exact (p9 hT hg).1
 · rw [ha i hi]; exact (p9 hT hg).2
section
variable {P:Program} {w:World} {K:PySem.W.Frag} {mg:Str->Option Value} {base:Heap} {k:Nat} {f:Addr} {fd:FuncData} {qual:Str}
theorem kG (F:Fun K "_law_divisor" qual (top 87) f fd) (hb:∀ x ∈ aj,mg x=none):aJ P w K mg base CX0 (k + 1) f fd ["_law_one","_law_other"] (spD K eQ):=by
 refine fnD F gq hb (by rintro _ _ ⟨_,_,rfl,_⟩; rfl) ?_
 rintro _ _ ⟨x,y,rfl,rfl⟩ cdv A outer s H E b
 have nd:=gq.nd
 refine aE 0 nd (aW b (aa (ae 0) ag) lP) (aE 1 nd (aW b (aa (ae 1) ag) lP) ?_)
 rw [fU,fU]
 refine nq (λn t τ=>∃ (g:Nat) (s2:Sl),Nat.gcd g n=Int.gcd x y/\t=(decide ((0:Int) < n))/\τ=[.d (.int g),.d (.int n),s2]) b ⟨_,_,_,_,rfl,rfl,rfl⟩ (λn t τ h=>?_) (λn τ h=>?_) λn τ h=>?_
 · obtain ⟨g,s2,_,rfl,rfl⟩:=h
   exact aH (ae 1) af q9
 · obtain ⟨g,s2,hg,ht,rfl⟩:=h
   have hl:n ≠ 0:=λz=>by simp [z] at ht
   have e:(g:Int).fmod n=((g % n:Nat):Int):=by rw [Int.fmod_eq_emod_of_nonneg _ (by omega)]; rfl
   refine aE 2 nd (av (ae 0) (ae 1) (bj (by omega))) ?_
   rw [e]
   refine aE 0 nd (ae 1) (aE 1 nd (ae 2) (aX ⟨g % n,_,Nat.mod_lt g (Nat.pos_of_ne_zero hl),n,_,?_,rfl,rfl⟩))
   rw [<- hg,Nat.gcd_comm n,<- Nat.gcd_rec,Nat.gcd_comm]
 · obtain ⟨g,s2,hg,ht,rfl⟩:=h
   have hl:n=0:=by have:=of_decide_eq_false ht.symm; omega
   refine au (ae 0) ?_
   rw [<- hg,hl,Nat.gcd_zero_right]
theorem oW (F:Fun K "_law_made" qual (top 88) f fd) (hb:∀ x ∈ aj,mg x=none) (c_l_divisor:Cal P w K mg base k "_law_divisor" eQ):aJ P w K mg base CX0 (k + 1) f fd ["_law_top","_law_bottom"] (spD K cN):=by
 refine fnD F jJ hb (by rintro _ _ ⟨_,_,_,rfl,_⟩; rfl) ?_
 rintro _ _ ⟨t,c,q,rfl,h0,h1,hq,rfl⟩ cdv A outer s H E b
 have nd:=jJ.nd
 have dv:aG (Int.gcd t c:Int):=(h1.gcd (by omega)).aG (mH (by omega)) (by decide)
 obtain ⟨e1,e2⟩:=du h0 hq
 refine aE 2 nd (x_call b c_l_divisor (aa (ae 0) (aa (ae 1) ag)) ⟨_,_,rfl,rfl⟩) (au (bH (aa (av (ae 0) (ae 2) (bf dv)) (aa (av (ae 1) (ae 2) (bf dv)) ag))) ?_)
 rw [gh,gh,<- e1,<- e2]
 rfl
theorem oI (F:Fun K "_law_plus" qual (top 94) f fd) (hb:∀ x ∈ aj,mg x=none) (c_l_made:Cal P w K mg base k "_law_made" cN):aJ P w K mg base CX0 (k + 1) f fd ["_law_one","_law_other"] (spD K iM):=by
 refine fnD F oR hb (by rintro _ _ ⟨_,_,_,_,rfl,_⟩; rfl) ?_
 rintro _ _ ⟨m,n,p,q,rfl,h1,h2,hl,rfl⟩ cdv A outer s H E b
 exact au (x_call b c_l_made (aa (av (av (ar (ae 0) af (ak (ah (i:=0) rfl))) (ar (ae 1) af (ak (ah (i:=1) rfl))) (a4 (h1.num.aM h2.den (by omega) (by omega)))) (av (ar (ae 1) af (ak (ah (i:=0) rfl))) (ar (ae 0) af (ak (ah (i:=1) rfl))) (a4 (h2.num.aM h1.den (by omega) (by omega)))) aZ) (aa (av (ar (ae 0) af (ak (ah (i:=1) rfl))) (ar (ae 1) af (ak (ah (i:=1) rfl))) (a4 (h1.den.aM h2.den (by omega) (by omega)))) ag)) ⟨_,_,_,rfl,kj (den_pos p) (den_pos q),(h1.den.mul h2.den).mono hl,pS p q,rfl⟩) rfl
theorem l9 (F:Fun K "_law_times" qual (top 95) f fd) (hb:∀ x ∈ aj,mg x=none) (c_l_made:Cal P w K mg base k "_law_made" cN):aJ P w K mg base CX0 (k + 1) f fd ["_law_one","_law_other"] (spD K gK):=by
 refine fnD F mL hb (by rintro _ _ ⟨_,_,_,_,rfl,_⟩; rfl) ?_
 rintro _ _ ⟨m,n,p,q,rfl,h1,h2,hl,rfl⟩ cdv A outer s H E b
 exact au (x_call b c_l_made (aa (av (ar (ae 0) af (ak (ah (i:=0) rfl))) (ar (ae 1) af (ak (ah (i:=0) rfl))) (a4 (h1.num.aM h2.num (by omega) (by omega)))) (aa (av (ar (ae 0) af (ak (ah (i:=1) rfl))) (ar (ae 1) af (ak (ah (i:=1) rfl))) (a4 (h1.den.aM h2.den (by omega) (by omega)))) ag)) ⟨_,_,_,rfl,kj (den_pos p) (den_pos q),(h1.den.mul h2.den).mono hl,lC p q,rfl⟩) rfl
theorem oQ (F:Fun K "_law_cell" qual (top 85) f fd) (hb:∀ x ∈ aj,mg x=none):aJ P w K mg base CX0 (k + 1) f fd ["_law_script","_law_k"] (spD K i5):=by
 refine fnD F oV hb (by rintro _ _ ⟨_,_,rfl,_⟩; rfl) ?_
 rintro _ _ ⟨ns,n,rfl,rfl⟩ cdv A outer s H E b
 refine aU (aH (ae 1) (aW b (aa (ae 0) ag) bY) pV) (λh=>?_) λh=>?_
 · have h:=of_decide_eq_true h
   rw [List.length_map] at h
   exact au (ar (ae 0) (ae 1) (aP (bK (by omega) (by omega)))) rfl
 · have h:=of_decide_eq_false h
   rw [List.length_map] at h
   refine au af ?_
   show Sl.d (.int 0)=_
   rw [getD_none (by omega)]
theorem pj (F:Fun K "_law_ten" qual (top 84) f fd) (hb:∀ x ∈ aj,mg x=none):aJ P w K mg base CX0 (k + 1) f fd ["_law_many"] (spD K ij):=by
 refine fnD F lj hb (by rintro _ _ ⟨_,rfl,_⟩; rfl) ?_
 rintro _ _ ⟨n,rfl,hn,rfl⟩ cdv A outer s H E b
 have nd:=lj.nd
 refine aE 1 nd af ?_
 refine lX 2 (λi τ=>∃ s2,τ=[.d (.int n),.d (.int (10 ^ i)),s2]) b nd (eK b (ae 0) (by omega) (by omega)) dP ⟨_,rfl⟩ (λi hi τ h=>?_) λτ h=>?_
 · obtain ⟨s2,rfl⟩:=h
   refine aE 1 nd (av af (ae 1) (a4 (mkL (by decide)))) (aX ⟨.d (.int (i:Nat)),?_⟩)
   rw [Int.pow_succ,Int.mul_comm]
   rfl
 · obtain ⟨s2,rfl⟩:=h
   refine au (ae 1) ?_
   rw [aC,Int.toNat_natCast]
theorem lI (F:Fun K "_law_weight" qual (top 92) f fd) (hb:∀ x ∈ aj,mg x=none) (c_l_made:Cal P w K mg base k "_law_made" cN) (c_l_ten:Cal P w K mg base k "_law_ten" ij):aJ P w K mg base CX0 (k + 1) f fd ["_law_part","_law_figures"] (spD K c3):=by
 refine fnD F gS hb (by rintro _ _ ⟨_,_,rfl,_⟩; rfl) ?_
 rintro _ _ ⟨p,g,rfl,hg,rfl⟩ cdv A outer s H E b
 have nd:=gS.nd
 obtain ⟨h1,h2,h3,h4⟩:=nW p hg
 have hm:=ic p hg
 refine aU (aH (ae 1) af q9) (λh=>?_) λh=>?_
 · have h0:0 < g:=by have:=of_decide_eq_true h; omega
   have t2:=mU h0
   have eT:wgT p g=p.fmod (10 ^ g):=if_pos h0
   have eB:wgB p g=1 + (p.fdiv (10 ^ g)).fmod (10 ^ g - 1):=if_pos h0
   have dv:aG ((10:Int) ^ g):=(kX (by omega) (qI hg)).aG (by omega) (by decide)
   refine aE 2 nd (x_call b c_l_ten (aa (ae 1) ag) ⟨g,rfl,by omega,rfl⟩) ?_
   exact au (x_call b c_l_made (aa (av (ae 0) (ae 2) (bj (by omega))) (aa (av af (av (av (ae 0) (ae 2) (bf dv)) (av (ae 2) af d8) (bj (by omega))) aZ) ag)) ⟨wgT p g,wgB p g,wgt p g,by rw [eT,eB],h3,h4.mono (by decide),hm,rfl⟩) rfl
 · have h0:g=0:=by have:=of_decide_eq_false h; omega
   subst h0
   exact au (x_call b c_l_made (aa (av (ae 0) af (bj (by decide))) (aa (av af (av (av (ae 0) af (bf (mkD (by decide) (by decide)))) af (bj (by decide))) aZ) ag)) ⟨wgT p 0,wgB p 0,wgt p 0,rfl,h3,h4.mono (by decide),hm,rfl⟩) rfl
theorem ma (F:Fun K "_law_sizes" qual (top 97) f fd) (hb:∀ x ∈ aj,mg x=none) (c_l_numbers:Cal P w K mg base k "_law_numbers" bx):aJ P w K mg base CX0 (k + 1) f fd ["_law_cell_here","_law_most"] (spD K gy):=by
 refine fnD F iK hb (by rintro _ _ ⟨_,_,rfl,_⟩; rfl) ?_
 rintro _ _ ⟨m,c,rfl,hm,rfl⟩ cdv A outer s H E b
 have nd:=iK.nd
 have hok:=qA m c
 have hl:(szP m c).length=6:=eS ..
 refine aE 2 nd (x_call b c_l_numbers (aa (ae 0) (aa (aQ (bG (aa af (aa af (aa af (aa af (aa af (aa (av (ae 1) af aZ) ag)))))))) ag)) ⟨c,[8,4,7,7,7,(m:Int) + 1],rfl,by simp,λb hb=>k6 (by simp at hb; omega) (by simp at hb; omega),rfl⟩) (gC 2 ?_)
 refine aE 3 nd (av af (ar (ae 2) af (aP (bK (ns:=szP m c) (i:=1) (by decide) (by rw [hl]; decide)))) aZ) ?_
 refine hZ (M:=λτ=>τ=[.d (.int c),.d (.int m),.d (.lst ((szP m c).map .int)),.d (.int (szT m c))]) (aH (ar (ae 2) af (aP (bK (ns:=szP m c) (i:=0) (by decide) (by rw [hl]; decide)))) af cO) (λh=>?_) (λh=>?_) ?_
 · refine aE 3 nd (av af (ar (ae 2) af (aP (bK (ns:=szP m c) (i:=2) (by decide) (by rw [hl]; decide)))) aZ) (aX ?_)
   unfold szT
   rw [if_pos (show (szP m c).getD 0 0=1 from of_decide_eq_true h)]
   rfl
 · refine aX ?_
   unfold szT
   rw [if_neg (show ¬ (szP m c).getD 0 0=1 from of_decide_eq_false h)]
   rfl
 · rintro _ rfl
   exact au (bH (aa (ae 3) (aa (av af (av (ar (ae 2) af (aP (bK (ns:=szP m c) (i:=3) (by decide) (by rw [hl]; decide)))) (ae 3) (bj (by omega))) aZ) (aa (av af (av (ar (ae 2) af (aP (bK (ns:=szP m c) (i:=4) (by decide) (by rw [hl]; decide)))) (ae 3) (bj (by omega))) aZ) (aa (ar (ae 2) af (aP (bK (ns:=szP m c) (i:=5) (by decide) (by rw [hl]; decide)))) ag))))) rfl
theorem kP (F:Fun K "_law_ladder" qual (top 93) f fd) (hb:∀ x ∈ aj,mg x=none) (c_l_numbers:Cal P w K mg base k "_law_numbers" bx) (c_l_weight:Cal P w K mg base k "_law_weight" c3) (c_l_ten:Cal P w K mg base k "_law_ten" ij):aJ P w K mg base CX0 (k + 1) f fd ["_law_cell_here","_law_tracks","_law_rows","_law_columns","_law_many","_law_figures"] (spD K fv):=by
 refine fnD F gU hb (by rintro _ _ ⟨_,_,_,_,_,_,rfl,_⟩; rfl) ?_
 rintro _ _ ⟨c,T,R,C,n,g,rfl,hT,hn,hg,rfl⟩ cdv A outer s H E b
 have nd:=gU.nd
 have hmx:0<=(if (g:Int) > 1 then (g:Int) else 1)/\(if (g:Int) > 1 then (g:Int) else 1)<=40:=by split <;> omega
 have hB:=sR hg
 have hlen:(adP c n g).length=3 * n:=by unfold adP; rw [eS,ib]
 refine aE 6 nd (x_call b c_l_numbers (aa (ae 0) (aa (aQ (wB (aQ (bG (aa af (aa af (aa (av (x_call b c_l_ten (aa (av af (aW b (aa af (aa (ae 5) ag)) (wG b.calm)) (a4 (mkL (by decide)))) ag) ⟨2 * (if (g:Int) > 1 then (g:Int) else 1).toNat,?_,by omega,rfl⟩) af (a4 (mkR (by decide)))) ag))))) (ae 4) (by omega) (by omega) ?_)) ag)) ⟨c,(List.replicate n [3,7,adB g]).flatten,?_,?_,?_,rfl⟩) ?_
 · congr 2; omega
 · simp; omega
 · rw [Int.toNat_natCast,<- rS]; rfl
 · rw [ib]; omega
 · intro x hx
   rcases nr hx with rfl | rfl | rfl
   · exact k6 (by decide) (by decide)
   · exact k6 (by decide) (by decide)
   · exact hB
 refine gC 6 ?_
 refine aE 7 nd (bG ag) ?_
 refine lX 8 (λi τ=>∃ s8 s9 s10,τ=[.d (.int c),.d (.int T),.d (.int R),.d (.int C),.d (.int n),.d (.int g),.d (.lst ((adP c n g).map .int)),.o (((List.range i).map (adS (adP c n g) T g)).map stD),s8,s9,s10]) b nd (eK b (ae 4) (by omega) (by omega)) dP ⟨_,_,_,rfl⟩ (λi hi τ h=>?_) λτ h=>?_
 · obtain ⟨s8,s9,s10,rfl⟩:=h
   have hi:i < n:=by rw [aC] at hi; omega
   have lt3:=vZ (c:=c) hg hi
   have e0:(3 * (i:Int)).toNat=3 * i:=by omega
   have e1:(3 * (i:Int) + 1).toNat=3 * i + 1:=by omega
   have e2:(3 * (i:Int) + 2).toNat=3 * i + 2:=by omega
   have k0:atI ((adP c n g).map D.int) (3 * (i:Int))=some (.int ((adP c n g).getD (3 * i) 0)):=by rw [<- e0]; exact bK (by omega) (by omega)
   have k1:atI ((adP c n g).map D.int) (3 * (i:Int) + 1)=some (.int ((adP c n g).getD (3 * i + 1) 0)):=by rw [<- e1]; exact bK (by omega) (by omega)
   have k2:atI ((adP c n g).map D.int) (3 * (i:Int) + 2)=some (.int ((adP c n g).getD (3 * i + 2) 0)):=by rw [<- e2]; exact bK (by omega) (by omega)
   obtain ⟨a1,a2,a3⟩:=qw (ps:=adP c n g) (k:=i) hT
   refine aE 9 nd (ar (aQ (bG (aa aN (aa aN (aa aN ag))))) (ar (ae 6) (av af (ae 8) (a4 (mkL (by decide)))) (aP k0)) (aP (u0 lt3.1 lt3.2))) ?_
   refine aE 10 nd (av (ar (ae 6) (av (av af (ae 8) (a4 (mkL (by decide)))) af aZ) (aP k1)) (ae 1) (bj (by omega))) ?_
   refine hZ (M:=λτ=>τ=[.d (.int c),.d (.int T),.d (.int R),.d (.int C),.d (.int n),.d (.int g),.d (.lst ((adP c n g).map .int)),.o (((List.range i).map (adS (adP c n g) T g)).map stD),.d (.int i),.d (.str (adW (adP c n g) T i)),.d (.int (((adP c n g).getD (3 * i + 1) 0).fmod T))]) (PW.pt (pH (aH (ae 9) aN kW) λh=>(mD (aH (ae 1) af cO)))) (λh=>?_) (λh=>?_) ?_
   · refine aE 9 nd aN (aX ?_)
     have:wrd ((adP c n g).getD (3 * i) 0) ≠ "weigh" /\ T=1:=by
       simp only [Bool.and_eq_true,Bool.not_eq_true',decide_eq_true_eq,decide_eq_false_iff_not] at h
       exact ⟨h.1,by omega⟩
     unfold adW
     rw [if_pos this]
     rfl
   · refine aX ?_
     have:¬ (wrd ((adP c n g).getD (3 * i) 0) ≠ "weigh" /\ T=1):=λ⟨z1,z2⟩=>by
       rw [decide_eq_false z1,decide_eq_true (show (T:Int)=1 by omega)] at h
       cases h
     unfold adW
     rw [if_neg this]
     rfl
   · rintro _ rfl
     refine hZ (M:=λτ=>τ=[.d (.int c),.d (.int T),.d (.int R),.d (.int C),.d (.int n),.d (.int g),.d (.lst ((adP c n g).map .int)),.o (((List.range i).map (adS (adP c n g) T g)).map stD),.d (.int i),.d (.str (adW (adP c n g) T i)),.d (.int (adA (adP c n g) T i))]) (aH (ae 9) aN kW) (λh=>?_) (λh=>?_) ?_
     · have h:adW (adP c n g) T i ≠ "weigh":=by simpa using h
       have:=a3 h
       refine aE 10 nd (av (ar (ae 6) (av (av af (ae 8) (a4 (mkL (by decide)))) af aZ) (aP k1)) (av (ae 1) af d8) (bj (by omega))) (aX ?_)
       unfold adA
       rw [if_neg h]
       rfl
     · have h:adW (adP c n g) T i = "weigh":=by simpa using h
       refine aX ?_
       unfold adA
       rw [if_pos h]
     · rintro _ rfl
       refine n5 7 (bH (aa (ae 9) (aa (ae 10) (aa (x_call b c_l_weight (aa (ar (ae 6) (av (av af (ae 8) (a4 (mkL (by decide)))) af aZ) (aP k2)) (aa (ae 5) ag)) ⟨_,g,rfl,hg,rfl⟩) ag)))) ?_ (aX ⟨.d (.int i),.d (.str (adW (adP c n g) T i)),.d (.int (adA (adP c n g) T i)),?_⟩)
       · rw [List.length_map,List.length_map,List.length_range]; omega
       · rw [List.range_succ,List.map_append,List.map_append]
         have:((adA (adP c n g) T i).toNat:Int)=adA (adP c n g) T i:=Int.toNat_of_nonneg a1
         show _=[_,_,_,_,_,_,_,Sl.o (_++[D.tup [.str _,.int ((adA (adP c n g) T i).toNat:Int),frD _]]),_,_,_]
         rw [this]
         rfl
 · obtain ⟨s8,s9,s10,rfl⟩:=h
   rw [aC,Int.toNat_natCast]
   exact au (bH (aa (ae 1) (aa (ae 2) (aa (ae 3) (aa (j9 7) ag))))) rfl
theorem lY (F:Fun K "_law_drawn" qual (top 98) f fd) (hb:∀ x ∈ aj,mg x=none) (c_l_sizes:Cal P w K mg base k "_law_sizes" gy) (c_l_ladder:Cal P w K mg base k "_law_ladder" fv):aJ P w K mg base CX0 (k + 1) f fd ["_law_one","_law_other","_law_most","_law_figures"] (spD K gO):=by
 refine fnD F iD hb (by rintro _ _ ⟨_,_,_,_,rfl,_⟩; rfl) ?_
 rintro _ _ ⟨m,c,o,g,rfl,hg,hm,rfl⟩ cdv A outer s H E b
 have nd:=iD.nd
 obtain ⟨h1,h2,h3,h4,h5,h6,h7,h8⟩:=qA m c
 refine aE 4 nd (x_call b c_l_sizes (aa (ae 0) (aa (ae 2) ag)) ⟨m,c,rfl,by omega,rfl⟩) ?_
 refine au (x_call b c_l_ladder (aa (ae 1) (aa (ar (ae 4) af (ak (ah (i:=0) rfl))) (aa (ar (ae 4) af (ak (ah (i:=1) rfl))) (aa (ar (ae 4) af (ak (ah (i:=2) rfl))) (aa (ar (ae 4) af (ak (ah (i:=3) rfl))) (aa (ae 3) ag)))))) ⟨o,drT m c,drR m c,drC m c,((szP m c).getD 5 0).toNat,g,?_,?_,?_,hg,rfl⟩) rfl
 · unfold drT drR drC
   rw [Int.toNat_of_nonneg (by omega),Int.toNat_of_nonneg (by omega),Int.toNat_of_nonneg (by omega),Int.toNat_of_nonneg (by omega)]
 · unfold drT; omega
 · omega
end
theorem sG {t u:List Rat} (i:Nat) (h:i < (gP (t.map frD) (u.map frD)).length):(gP (t.map frD) (u.map frD))[i]=.tup [frD (t.getD i 0),frD (u.getD i 0)]:=by
 rw [kK]
 rw [cx,List.length_map,List.length_map] at h
 simp [show i < t.length by omega,show i < u.length by omega]
noncomputable def bkV (L:Nat->Nat->Rat) (st:Stp):Nat->Nat->Rat:=if st.1 = "weigh" then fP L st.2.1 λi=>st.2.2 * L st.2.1 i else fP L (rgS st) λi=>L (rgS st) i + st.2.2 * L (rgE st) i
noncomputable def bwd (ss:List Stp):Nat->Nat->Rat:=ss.reverse.foldl bkV V0
noncomputable def dot:Nat->(Nat->Rat)->(Nat->Rat)->Rat
 | 0,_,_=>0
 | T + 1,f,g=>dot T f g + f T * g T
theorem kR {f f' g g':Nat->Rat}:∀ T,(∀ k,k < T->f k=f' k)->(∀ k,k < T->g k=g' k)->dot T f g=dot T f' g'
 | 0,_,_=>rfl
 | T + 1,h,e=>by rw [dot,dot,kR T (λk hk=>h k (by omega)) (λk hk=>e k (by omega)),h T (by omega),e T (by omega)]
theorem cS {f g:Nat->Rat}:∀ T,dot T f g=dot T g f
 | 0=>rfl
 | T + 1=>by rw [dot,dot,cS T,Rat.mul_comm]
theorem gk {f g:Nat->Rat} {n:Nat} {x:Rat}:∀ T,n < T->dot T (λk=>if k=n then x else f k) g=dot T f g + (x - f n) * g n
 | T + 1,h=>by
   rw [dot,dot]
   by_cases e:T=n
   · subst e
     rw [if_pos rfl,kR (f':=f) (g':=g) T (λk hk=>if_neg (by omega)) λ_ _=>rfl]
     grind
   · rw [if_neg e,gk T (by omega)]
     grind
theorem ky {g:Nat->Rat} {n:Nat}:∀ T,n < T->dot T (λk=>if n=k then 1 else 0) g=g n
 | T + 1,h=>by
   rw [dot]
   by_cases e:n=T
   · subst e
     have z:∀ m,m<=n->dot m (λk=>if n=k then 1 else 0) g=0:=by
       intro m
       induction m with
       | zero=>intro _; rfl
       | succ m ih=>intro hm; rw [dot,ih (by omega),if_neg (by omega)]; grind
     rw [z n (Nat.le_refl _),if_pos rfl]
     grind
   · rw [if_neg e,ky T (by omega)]
     grind
theorem ig (V:Nat->Nat->Rat) (n:Nat) (r:Nat->Rat) (i:Nat):(λk=>fP V n r k i)=λk=>if k=n then r i else V k i:=by
 funext k
 unfold fP
 split <;> rfl
theorem pD {T:Nat} {V L:Nat->Nat->Rat} {st:Stp} (h:okS T st) (i j:Nat):dot T (λk=>stV V st k i) (λk=>L k j)=dot T (λk=>V k i) λk=>bkV L st k j:=by
 unfold stV bkV
 by_cases e:st.1 = "weigh"
 · rw [if_pos e,if_pos e,ig,ig]
   have hn:st.2.1 < T:=by
     rcases h.2 with z | z
     · exact z.2
     · have:=z.2; omega
   rw [gk T hn,cS T (g:=λk=>if k=st.2.1 then _ else _),gk T hn,cS T]
   grind
 · obtain ⟨h1,h2,h3⟩:=tX h e
   rw [if_neg e,if_neg e,ig,ig,gk T h2,cS T (g:=λk=>if k=rgS st then _ else _),gk T h1,cS T]
   grind
theorem mQ {T:Nat} (i j:Nat):∀ (ss:List Stp) (V L:Nat->Nat->Rat),(∀ st ∈ ss,okS T st)->dot T (λk=>ss.foldl stV V k i) (λk=>L k j)=dot T (λk=>V k i) λk=>ss.foldr (λst L=>bkV L st) L k j
 | [],_,_,_=>rfl
 | st :: ss,V,L,h=>by
   rw [List.foldl_cons,List.foldr_cons,mQ i j ss (stV V st) L λs hs=>h s (List.mem_cons_of_mem _ hs)]
   exact pD (h st (List.mem_cons_self ..)) i j
theorem rJ {T:Nat} {ss:List Stp} {i j:Nat} (h:∀ st ∈ ss,okS T st) (hi:i < T) (hj:j < T):fwd ss j i=bwd ss i j:=by
 have:=mQ i j ss V0 V0 h
 unfold fwd bwd
 rw [List.foldl_reverse]
 have e1:(λk=>V0 k j)=λk=>if j=k then (1:Rat) else 0:=rfl
 have e2:(λk=>V0 k i)=λk=>if i=k then (1:Rat) else 0:=rfl
 rw [e1,cS,ky T hj,e2,ky T hi] at this
 exact this
noncomputable def bT (C T:Nat) (L:Nat->Nat->Rat):List D:=(List.range T).map λk=>.lst (((List.range C).map (L k)).map frD)
theorem kB {C T n:Nat} {L:Nat->Nat->Rat} {r:Nat->Rat} (h:n < T):(bT C T L).set n (.lst (((List.range C).map r).map frD))=bT C T (fP L n r):=by
 refine List.ext_getElem (by simp [bT]) λk h1 h2=>?_
 have hk:k < T:=by simpa [bT] using h2
 rw [List.getElem_set]
 unfold bT fP
 by_cases e:n=k
 · subst e; simp
 · rw [if_neg e]; simp [Ne.symm e]
theorem i0 {C T n:Nat} {L:Nat->Nat->Rat} (h:n < T):atI (bT C T L) (n:Int)=some (.lst (((List.range C).map (L n)).map frD)):=ah (by simp [bT,h])
theorem rg {C T R:Nat} {L:Nat->Nat->Rat} (h:R<=T):cutD (bT C T L) none (some (R:Int))=bT C R L:=by
 rw [kg]
 unfold bT
 rw [<- List.map_take,List.take_range,Nat.min_eq_left h]
structure BkI (e T C t:Nat) (P:Int) (L:Nat->Nat->Rat):Prop where
 pos:0 < P
 le:P<=2 ^ (e * t)
 zq:∀ k,k < T->∀ j,j < C->Zq P ((e + 1) * t) (L k j)
theorem BkI.put {e T C t n:Nat} {P:Int} {L:Nat->Nat->Rat} {q:Rat} (h:BkI e T C t P L) (g:Wq e q) {r:Nat->Rat} (hz:∀ j,j < C->Zq (P * ((q.den:Nat):Int)) ((e + 1) * (t + 1)) (r j)):BkI e T C (t + 1) (P * ((q.den:Nat):Int)) (fP L n r):=by
 refine ⟨Int.mul_pos h.pos (den_pos q),?_,λk hk j hj=>?_⟩
 · rw [Nat.mul_succ,p2]
   exact Int.mul_le_mul h.le (bd2 g.sq.den) (by have:=den_pos q; omega) (p0 _)
 · unfold fP
   split
   · exact hz j hj
   · exact (h.zq k hk j hj).upn g
theorem BkI.start {e T C:Nat}:BkI e T C 0 1 V0:=⟨by decide,by simp,λk hk j hj=>by
 unfold V0
 split
 · exact ⟨1,by decide,by simp,(Rat.one_mul _).symm⟩
 · exact ⟨0,by decide,by simp,(Rat.zero_mul _).symm⟩⟩
theorem BkI.sq {e T C t:Nat} {P:Int} {L:Nat->Nat->Rat} (h:BkI e T C t P L) (hn:(e + 1) * t<=1500) {k j:Nat} (hk:k < T) (hj:j < C):Sq 1501 (L k j):=((h.zq k hk j hj).sq h.pos h.le (Nat.mul_le_mul_right _ (by omega))).mono (by omega)
theorem BkI.step {e T C t:Nat} {P:Int} {L:Nat->Nat->Rat} {st:Stp} (h:BkI e T C t P L) (g:Wq e st.2.2) (ok:okS T st):BkI e T C (t + 1) (P * ((st.2.2.den:Nat):Int)) (bkV L st):=by
 unfold bkV
 by_cases e0:st.1 = "weigh"
 · rw [if_pos e0]
   have hn:st.2.1 < T:=by
     rcases ok.2 with z | z
     · exact z.2
     · have:=z.2; omega
   exact h.put g λj hj=>((h.zq _ hn j hj).mul g).mono (by rw [Nat.mul_succ]; omega)
 · rw [if_neg e0]
   obtain ⟨h1,h2,h3⟩:=tX ok e0
   exact h.put g λj hj=>(((h.zq _ h1 j hj).up g).add ((h.zq _ h2 j hj).mul g)).mono (by rw [Nat.mul_succ]; omega)
theorem xq {r:List Rat} (i:Nat) (h:i < (r.map frD).length):(r.map frD)[i]=frD (r.getD i 0):=by
 have:i < r.length:=by simpa using h
 simp [this]
theorem eW {C:Nat} {r u:Nat->Rat}:(gP (((List.range C).map r).map frD) (((List.range C).map u).map frD)).length=C:=by rw [cx]; simp
theorem mn {C m:Nat} (hm:m=C) (r:Nat->Rat):((List.range m).map λj=>frD (r j))=((List.range C).map r).map frD:=by
 subst hm
 rw [List.map_map]
 rfl
theorem vP {ss:List Stp} (i:Nat) (h:i < (ss.map stD).reverse.length):(ss.map stD).reverse[i]=stD (ss.reverse.getD i ("weigh",0,0)):=by
 have:i < ss.length:=by simpa using h
 simp [this]
noncomputable def bL (ds:List D) (r:Sl):Prop:=∃ (e T R C:Nat) (ss:List Stp),ds=[dC T R C ss]/\okL T R C ss/\(∀ i,i < ss.length->Wq e (ss.getD i ("weigh",0,0)).2.2)/\(e + 1) * ss.length<=1500/\e<=100/\r=.o (bT C R (bwd ss))
section
variable {P:Program} {w:World} {K:PySem.W.Frag} {mg:Str->Option Value} {base:Heap} {k:Nat} {f:Addr} {fd:FuncData} {qual:Str}
theorem fE (F:Fun K "_law_ladders_table" qual (top 96) f fd) (hb:∀ x ∈ aj,mg x=none) (c_l_times:Cal P w K mg base k "_law_times" gK) (c_l_plus:Cal P w K mg base k "_law_plus" iM):aJ P w K mg base CX0 (k + 1) f fd ["_law_ladder_here"] (spD K bL):=by
 refine fnD F cg hb (by rintro _ _ ⟨_,_,_,_,_,rfl,_⟩; rfl) ?_
 rintro _ _ ⟨e,T,R,C,ss,rfl,h00,hw,hn,he,rfl⟩ cdv A outer s H E b
 have nd:=cg.nd
 have hT:=h00.t7
 have hRT:=h00.rT
 have hCT:=h00.cT
 refine uY (ae 0) (sI b.calm (dg 1 nd (dg 2 nd (dg 3 nd (dg 4 nd qS))))) ?_
 refine gz 5 nd (cmp 0 (f:=λk=>.lst ((List.range (fN 0 (C:Int).toNat).length).map λj=>frD (V0 k j))) b (eK b (ae 1) (by omega) (by omega)) dP (by rw [aC]; omega) λk hk s0 H0 fp=>aQ (cA (cmp 0 (f:=λj=>frD (V0 k j)) (b.comp s0 H0 _ fp) (eK (b.comp s0 H0 _ fp) (ae 1) (by omega) (by omega)) dP (by rw [aC]; omega) λj hj s1 H1 fq=>?_))) (.inl rfl) ?_
 · have ev:frD (V0 k j)=.tup [.int (if decide ((j:Int)=(k:Int)) then 1 else 0),.int 1]:=by
     unfold V0
     by_cases z:j=k
     · rw [if_pos z,decide_eq_true (by omega)]; rfl
     · rw [if_neg z,decide_eq_false (by omega)]; rfl
   rw [ev]
   exact bH (aa (rD ((b.comp s0 H0 _ fp).comp s1 H1 _ fq) (aa (bI (ae 0) (ae 1) cO) ag) vC) (aa af ag))
 have el:((List.range (fN 0 (T:Int).toNat).length).map λk=>D.lst ((List.range (fN 0 (C:Int).toNat).length).map λj=>frD (V0 k j)))=bT C T V0:=by
   rw [aC,aC,Int.toNat_natCast,Int.toNat_natCast]
   unfold bT
   exact List.map_congr_left λk _=>by rw [List.map_map]; rfl
 rw [el]
 have rl:(ss.map stD).reverse.length=ss.length:=by simp
 refine u7 (λi τ=>∃ P s6 s7 s8,BkI e T C i P ((ss.reverse.take i).foldl bkV V0)/\τ=[.d (dC T R C ss),.d (.int T),.d (.int R),.d (.int C),.d (.lst (ss.map stD)),.o (bT C T ((ss.reverse.take i).foldl bkV V0)),s6,s7,s8])
   (λi τ=>((τ.set 6 (.d (.str (ss.reverse.getD i ("weigh",0,0)).1))).set 7 (.d (.int ((ss.reverse.getD i ("weigh",0,0)).2.1:Nat)))).set 8 (.d (frD (ss.reverse.getD i ("weigh",0,0)).2.2))) b (wy b (ae 4)) (λi hi τ _=>by rw [vP i hi]; exact sI b.calm (dg 6 nd (dg 7 nd (dg 8 nd qS)))) ⟨1,.un,.un,.un,BkI.start,rfl⟩ (λi hi τ h=>?_) λτ h=>?_
 · obtain ⟨P,s6,s7,s8,I,rfl⟩:=h
   have hi:i < ss.length:=by rw [rl] at hi; exact hi
   have hn':(e + 1) * i<=1500:=Nat.le_trans (Nat.mul_le_mul_left _ (by omega)) hn
   have hn2:(e + 1) * (i + 1)<=1500:=Nat.le_trans (Nat.mul_le_mul_left _ (by omega)) hn
   have ei:ss.reverse.getD i ("weigh",0,0)=ss.getD (ss.length - 1 - i) ("weigh",0,0):=by simp [List.getD,List.getElem?_reverse hi]
   have g:Wq e (ss.reverse.getD i ("weigh",0,0)).2.2:=by rw [ei]; exact hw _ (by omega)
   have ok:okS T (ss.reverse.getD i ("weigh",0,0)):=by rw [ei]; exact h00.st _ (by omega)
   have nx:∀ V,(ss.reverse.take (i + 1)).foldl bkV V=bkV ((ss.reverse.take i).foldl bkV V) (ss.reverse.getD i ("weigh",0,0)):=λV=>by rw [take_snoc (("weigh",0,0):Stp) (show i < ss.reverse.length by simpa using hi),List.foldl_append]; rfl
   rw [nx]
   have I2:=I.step g ok
   have sqL:∀ k,k < T->∀ j,j < C->Sq 1501 ((ss.reverse.take i).foldl bkV V0 k j):=λk hk j hj=>I.sq hn' hk hj
   generalize (ss.reverse.take i).foldl bkV V0=V at *
   generalize ss.reverse.getD i ("weigh",0,0)=st at *
   obtain ⟨u,n,q⟩:=st
   have sq:Sq 100 q:=g.sq.mono he
   have ll:(bT C T V).length=T:=by simp [bT]
   have sqm:∀ k,k < T->∀ j,j < C->Sq 1601 (q * V k j):=λk hk j hj=>(sq.mul (sqL k hk j hj)).mono (by decide)
   refine hZ (M:=λτ=>∃ P s6 s7 s8,BkI e T C (i + 1) P (bkV V (u,n,q))/\τ=[.d (dC T R C ss),.d (.int T),.d (.int R),.d (.int C),.d (.lst (ss.map stD)),.o (bT C T (bkV V (u,n,q))),s6,s7,s8]) (aH (ae 6) aN jK) (λh=>?_) (λh=>?_) λτ h=>aX h
   · obtain rfl:=of_decide_eq_true h
     have hnT:n < T:=by
       rcases ok.2 with z | z
       · exact z.2
       · have:=z.2; simp only at this; omega
     refine jy 5 (xs:=bT C T V) (j:=n) (ae 7) (aQ (cA (cmp 0 (f:=λj=>frD (q * V n j)) b (bo (fb 5 (ae 7) (i0 hnT))) xq (by simp; omega) λj hj s0 H0 fp=>?_))) (by rw [ll]; exact gw hnT) (aX ⟨_,.d (.str "weigh"),.d (.int n),.d (frD q),I2,?_⟩)
     · have hj:j < C:=by simpa using hj
       rw [cn _ hj]
       exact x_call (b.comp s0 H0 _ fp) c_l_times (aa (ae 1) (aa (ae 0) ag)) ⟨100,1501,q,V n j,rfl,sq,sqL n hnT j hj,by decide,rfl⟩
     · rw [mn (C:=C) (by simp) λj=>q * V n j]
       show [_,_,_,_,_,Sl.o ((bT C T V).set n _),_,_,_]=_
       rw [kB hnT]
       rfl
   · have h0:u ≠ "weigh":=of_decide_eq_false h
     have hnT:n + 1 < T:=by
       rcases ok.2 with z | z
       · exact absurd z.1 h0
       · exact z.2
     have hnT':n < T:=by omega
     refine hZ (M:=λτ=>∃ P s6 s7 s8,BkI e T C (i + 1) P (bkV V (u,n,q))/\τ=[.d (dC T R C ss),.d (.int T),.d (.int R),.d (.int C),.d (.lst (ss.map stD)),.o (bT C T (bkV V (u,n,q))),s6,s7,s8]) (aH (ae 6) aN jK) (λh=>?_) (λh=>?_) λτ h=>aX h
     · obtain rfl:=of_decide_eq_true h
       have eb:bkV V ("down",n,q)=fP V n λj=>V n j + q * V (n + 1) j:=by
         unfold bkV
         rw [if_neg h0]
         rfl
       refine jy 5 (xs:=bT C T V) (j:=n) (ae 7) (aQ (cA (uT 0 1 (f:=λj=>frD (V n j + q * V (n + 1) j)) b (qV b (fb 5 (ae 7) (i0 hnT')) (fb 5 (av (ae 7) af aZ) (i0 hnT))) sG (by rw [eW]; omega) λj hj s0 H0 fp=>?_))) (by rw [ll]; exact gw hnT') (aX ⟨_,.d (.str "down"),.d (.int n),.d (frD q),I2,?_⟩)
       · have hj:j < C:=by rw [eW] at hj; exact hj
         rw [cn _ hj,cn _ hj]
         exact x_call (b.comp s0 H0 _ fp) c_l_plus (aa (ae 0) (aa (x_call (b.comp s0 H0 _ fp) c_l_times (aa (ae 2) (aa (ae 1) ag)) ⟨100,1501,q,V (n + 1) j,rfl,sq,sqL _ hnT j hj,by decide,rfl⟩) ag)) ⟨1501,1601,V n j,q * V (n + 1) j,rfl,sqL _ hnT' j hj,sqm _ hnT j hj,by decide,rfl⟩
       · rw [mn eW λj=>V n j + q * V (n + 1) j,eb]
         show [_,_,_,_,_,Sl.o ((bT C T V).set n _),_,_,_]=_
         rw [kB hnT']
     · have h1:u ≠ "down":=of_decide_eq_false h
       have eb:bkV V (u,n,q)=fP V (n + 1) λj=>V (n + 1) j + q * V n j:=by
         unfold bkV rgS rgE
         rw [if_neg h0,if_neg h1,if_neg h1]
       refine jy 5 (xs:=bT C T V) (j:=n + 1) (av (ae 7) af aZ) (aQ (cA (uT 0 1 (f:=λj=>frD (V (n + 1) j + q * V n j)) b (qV b (fb 5 (ae 7) (i0 hnT')) (fb 5 (av (ae 7) af aZ) (i0 hnT))) sG (by rw [eW]; omega) λj hj s0 H0 fp=>?_))) (by rw [ll]; exact gw hnT) (aX ⟨_,.d (.str u),.d (.int n),.d (frD q),I2,?_⟩)
       · have hj:j < C:=by rw [eW] at hj; exact hj
         rw [cn _ hj,cn _ hj]
         exact x_call (b.comp s0 H0 _ fp) c_l_plus (aa (ae 1) (aa (x_call (b.comp s0 H0 _ fp) c_l_times (aa (ae 2) (aa (ae 0) ag)) ⟨100,1501,q,V n j,rfl,sq,sqL _ hnT' j hj,by decide,rfl⟩) ag)) ⟨1501,1601,V (n + 1) j,q * V n j,rfl,sqL _ hnT j hj,sqm _ hnT' j hj,by decide,rfl⟩
       · rw [mn eW λj=>V (n + 1) j + q * V n j,eb]
         show [_,_,_,_,_,Sl.o ((bT C T V).set (n + 1) _),_,_,_]=_
         rw [kB hnT]
 · obtain ⟨P,s6,s7,s8,I,rfl⟩:=h
   rw [rl,List.take_of_length_le (by simp)]
   refine gC 5 (au (oz (ae 5) i4 (fD (ae 2))) ?_)
   rw [rg hRT]
   rfl
end
theorem qu (xs:List D):kH (xs.map .d)=xs:=by
 induction xs with
 | nil=>rfl
 | cons x xs ih=>rw [List.map_cons,kH,ndD,ih]
theorem jv {α:Type} (f:α->List Nd):∀ t:List α,kH (t.map λr=>.l (f r))=t.map λr=>D.lst (kH (f r))
 | []=>rfl
 | r :: t=>by rw [List.map_cons,kH,ndD,jv f t]; rfl
theorem tq (t:List (List Rat)):ndD (o9 t)=fO t:=by
 unfold o9 fO
 rw [ndD,jv]
 congr 1
 exact List.map_congr_left λr _=>by rw [qu]
theorem okL.mem {T R C:Nat} {ss:List Stp} (h:okL T R C ss):∀ s ∈ ss,okS T s:=λs hs=>by
 obtain ⟨i,hi,rfl⟩:=List.getElem_of_mem hs
 have:=h.st i hi
 simpa [hi] using this
theorem nE {T R C:Nat} {ss:List Stp} (h:okL T R C ss):D.lst (bT C R (bwd ss))=fO (bR C R (fwd ss)):=by
 unfold bT fO bR
 rw [List.map_map]
 congr 1
 refine List.map_congr_left λi hi=>?_
 have hi:i < R:=List.mem_range.mp hi
 have:=h.rT
 show D.lst _=D.lst _
 congr 2
 refine List.map_congr_left λj hj=>?_
 have hj:j < C:=List.mem_range.mp hj
 have:=h.cT
 exact (rJ h.mem (by omega) (by omega)).symm
section
variable {P:Program} {w:World} {K:PySem.W.Frag} {mg:Str->Option Value} {base:Heap} {k:Nat} {f:Addr} {fd:FuncData} {qual:Str}
end
noncomputable def pQ (M:List (List Rat)) (x:D):Prop:=(ldO x/\isL x=false)\/∃ (e T R C:Nat) (ss:List Stp),x=dC T R C ss/\okL T R C ss/\(∀ i,i < ss.length->Wq e (ss.getD i ("weigh",0,0)).2.2)/\(e + 1) * ss.length<=1500/\e<=100/\Ev.eqD (fO (bR C R (fwd ss))) (tbQ M)=false
noncomputable def qd (R C:Nat) (y z:D):Prop:=(fG y R && fG z C)=false\/b6 y ≠ b6 z
noncomputable def pY (C:Nat) (y:D):Prop:=dj y=false\/b6 y ≠ C
noncomputable def cv (ds:List D) (r:Sl):Prop:=∃ (R C:Nat) (M:List (List Rat)) (x:D),ds=[tbQ M,x]/\Tq R C M/\pQ M x/\r=.d (.bl false)
noncomputable def cJ (ds:List D) (r:Sl):Prop:=∃ (R C:Nat) (M:List (List Rat)) (y z:D),ds=[tbQ M,y,z]/\Tq R C M/\shO y/\shO z/\qd R C y z/\r=.d (.bl false)
noncomputable def dY (ds:List D) (r:Sl):Prop:=∃ (R C:Nat) (M:List (List Rat)) (y:D),ds=[tbQ M,y]/\Tq R C M/\pY C y/\r=.d (.bl false)
noncomputable def clB (u:D):Bool:=Ev.cln u && decide (Ev.dep u<=64)
theorem q0 {u:D} (h:clB u=true):Ev.cU u:=by
 unfold clB at h
 rw [Bool.and_eq_true] at h
 exact ⟨h.1,of_decide_eq_true h.2⟩
noncomputable def ldB:D->Bool
 | .tup [_,_,_,.lst (_ :: _)]=>false
 | _=>true
theorem uE {x:D} (h:ldB x=true):ldO x:=λt r c xs e y hy=>by
 subst e
 cases xs with
 | nil=>cases hy
 | cons a l=>cases h
noncomputable def n2B (C:Nat) (u y:D):Bool:=clB u && (if Ev.eqD u (.str "ladder") then ldB y && !isL y else !Ev.eqD u (.str "row") || (!dj y || !decide (b6 y=C)))
noncomputable def n3B (R C:Nat) (u y z:D):Bool:=clB u && (!Ev.eqD u (.str "below") || (decide (b6 y<=1000) && decide (b6 z<=1000) && (!(fG y R && fG z C) || !decide (b6 y=b6 z))))
noncomputable def noB (R C:Nat):D->Bool
 | .tup [u,y,z]=>n3B R C u y z
 | .tup [u,y]=>n2B C u y
 | _=>true
noncomputable def NoP (R C:Nat) (M:List (List Rat)) (x:D):Prop:=noB R C x=true\/∃ y,x=.tup [.str "ladder",y]/\pQ M y
theorem nY {y:D} (h:b6 y<=1000):shO y:=λxs e=>by subst e; exact h
theorem NoP.two {R C:Nat} {M:List (List Rat)} {u y:D} (h:NoP R C M (.tup [u,y])):Ev.cU u/\(Ev.eqD u (.str "ladder")=true->pQ M y)/\(Ev.eqD u (.str "ladder")=false->Ev.eqD u (.str "row")=true->pY C y):=by
 rcases h with h | ⟨y',e,h⟩
 · have h:(clB u && (if Ev.eqD u (.str "ladder") then ldB y && !isL y else !Ev.eqD u (.str "row") || (!dj y || !decide (b6 y=C))))=true:=h
   rw [Bool.and_eq_true] at h
   refine ⟨q0 h.1,λz=>?_,λz w=>?_⟩
   · have h:=h.2
     rw [if_pos z,Bool.and_eq_true] at h
     exact .inl ⟨uE h.1,by simpa using h.2⟩
   · have h:=h.2
     rw [z] at h
     rw [w] at h
     unfold pY
     cases e:dj y with
     | false=>exact .inl rfl
     | true=>rw [e] at h; exact .inr (by simpa using h)
 · injection e with e
   injection e with e1 e2
   injection e2 with e2 _
   subst e1
   subst e2
   exact ⟨by decide +kernel,λ_=>h,λz=>absurd z (by decide +kernel)⟩
theorem NoP.three {R C:Nat} {M:List (List Rat)} {u y z:D} (h:NoP R C M (.tup [u,y,z])):Ev.cU u/\(Ev.eqD u (.str "below")=true->shO y/\shO z/\qd R C y z):=by
 rcases h with h | ⟨y',e,h⟩
 · have h:(clB u && (!Ev.eqD u (.str "below") || (decide (b6 y<=1000) && decide (b6 z<=1000) && (!(fG y R && fG z C) || !decide (b6 y=b6 z)))))=true:=h
   rw [Bool.and_eq_true] at h
   refine ⟨q0 h.1,λw=>?_⟩
   have h:=h.2
   rw [w,Bool.not_true,Bool.false_or,Bool.and_eq_true,Bool.and_eq_true] at h
   refine ⟨nY (of_decide_eq_true h.1.1),nY (of_decide_eq_true h.1.2),?_⟩
   unfold qd
   cases e:(fG y R && fG z C) with
   | false=>exact .inl rfl
   | true=>
     have h:=h.2
     rw [e] at h
     exact .inr (by simpa using h)
 · injection e with e
   injection e with _ e
   injection e with _ e
   cases e
noncomputable def eD (ds:List D) (r:Sl):Prop:=∃ (R C:Nat) (M:List (List Rat)) (x:D),ds=[tbQ M,x]/\Tq R C M/\NoP R C M x/\r=.d (.bl false)
noncomputable def so (ds:List D) (c:Nat):Prop:=∃ x y,ds=[x,y]/\((om x=false/\c=1)\/∃ (R C:Nat) (M:List (List Rat)),x=tbQ M/\Tq R C M/\NoP R C M y/\c=8)
section
variable {P:Program} {w:World} {K:PySem.W.Frag} {mg:Str->Option Value} {base:Heap} {k:Nat} {f:Addr} {fd:FuncData} {qual:Str}
theorem hJ (F:Fun K "shows_ladder" qual (top 80) f fd) (hb:∀ x ∈ aj,mg x=none) (c_table_of:Cal P w K mg base k "table_of" fQ) (c_is_ladder:Cal P w K mg base k "is_ladder" cD) (c_is_ladder3:Cal P w K mg base k "is_ladder" di):aJ P w K mg base CX0 (k + 1) f fd ["table","ladder"] (spD K cv):=by
 refine fnD F hU hb (by rintro _ _ ⟨_,_,_,_,rfl,_⟩; rfl) ?_
 rintro _ _ ⟨R,C,M,x,rfl,t,h,rfl⟩ cdv A outer s H E b
 rcases h with ⟨h1,h2⟩ | ⟨e,T,R',C',ss,rfl,ok,hw,hn,he,hd⟩
 · refine aU (PW.pt (a8 (q:=true) (aK (aI (x_call b c_is_ladder3 (aa (ae 1) ag) ⟨x,rfl,h1,rfl⟩))) λh=>(by rw [h2] at h; cases h))) (λ_=>au b5 rfl) λh=>?_
   rw [h2] at h; cases h
 · have r1:=t.r1
   have e0:atI (M.map rwQ) 0=some (rwQ (M.getD 0 [])):=eI [] (i:=0) (by rw [t.len]; omega)
   refine aU (PW.pt (a8 (aK (aI (x_call b c_is_ladder (aa (ae 1) ag) ⟨T,R',C',ss,rfl,ok,rfl⟩))) λh=>(a8 (aH (ar (ae 1) af (ak (ah (i:=1) rfl))) (aW b (aa (ae 0) ag) (e7 (n:=R) (by rw [List.length_map]; exact t.len))) iG) λh=>(bC (aH (ar (ae 1) af (ak (ah (i:=2) rfl))) (aW b (aa (ar (ae 0) af (aP e0)) ag) (e7 (n:=C) (by rw [List.length_map]; exact t.at_ (by omega)))) iG))))) (λ_=>au b5 rfl) λ_=>?_
   refine au (bI (aQ (x_call b c_table_of (aa (ae 1) ag) ⟨e,T,R',C',ss,rfl,ok,hw,hn,he,rfl⟩) (congrArg some (tq _))) (ae 0) (iF b (gD _) (gD _))) ?_
   show Sl.d (.bl (Ev.eqD (fO (bR C' R' (fwd ss))) (tbQ M)))=_
   rw [hd]
theorem iQ (F:Fun K "shows_below" qual (top 81) f fd) (hb:∀ x ∈ aj,mg x=none) (c_is_choice2:Cal P w K mg base k "is_choice" dh):aJ P w K mg base CX0 (k + 1) f fd ["table","rows","columns"] (spD K cJ):=by
 refine fnD F iu hb (by rintro _ _ ⟨_,_,_,_,_,rfl,_⟩; rfl) ?_
 rintro _ _ ⟨R,C,M,y,z,rfl,t,sy,sz,hB,rfl⟩ cdv A outer s H E b
 have r1:=t.r1
 have e0:atI (M.map rwQ) 0=some (rwQ (M.getD 0 [])):=eI [] (i:=0) (by rw [t.len]; omega)
 refine aU (PW.pt (a8 (aK (aI (x_call b c_is_choice2 (aa (ae 1) (aa (aW b (aa (ae 0) ag) (e7 (n:=R) (by rw [List.length_map]; exact t.len))) ag)) ⟨y,_,rfl,sy,rfl⟩))) λh=>(bC (aK (aI (x_call b c_is_choice2 (aa (ae 2) (aa (aW b (aa (ar (ae 0) af (aP e0)) ag) (e7 (n:=C) (by rw [List.length_map]; exact t.at_ (by omega)))) ag)) ⟨z,_,rfl,sz,rfl⟩)))))) (λ_=>au b5 rfl) λh=>?_
 have h:(!fG y (R:Nat) || !fG z (C:Nat))=false:=h
 rw [Bool.or_eq_false_iff] at h
 have h1:fG y (R:Nat)=true:=by simpa using h.1
 have h2:fG z (C:Nat)=true:=by simpa using h.2
 obtain ⟨ns,rfl,_⟩:=jH sy h1
 obtain ⟨ms,rfl,_⟩:=jH sz h2
 have ne:(ns.map D.int).length ≠ (ms.map D.int).length:=by
   rcases hB with h | h
   · rw [h1,h2] at h; cases h
   · exact h
 have ne':decide (((ns.map D.int).length:Int)=((ms.map D.int).length:Nat))=false:=decide_eq_false (by omega)
 refine au (bh (q:=true) (bI (aW b (aa (ae 1) ag) bY) (aW b (aa (ae 2) ag) bY) cO) λh=>(by rw [ne'] at h; cases h)) ?_
 rw [ne']; rfl
theorem kF (F:Fun K "shows_row" qual (top 82) f fd) (hb:∀ x ∈ aj,mg x=none) (c_is_row2:Cal P w K mg base k "is_row" eV):aJ P w K mg base CX0 (k + 1) f fd ["table","row"] (spD K dY):=by
 refine fnD F j6 hb (by rintro _ _ ⟨_,_,_,_,rfl,_⟩; rfl) ?_
 rintro _ _ ⟨R,C,M,y,rfl,t,hB,rfl⟩ cdv A outer s H E b
 have r1:=t.r1
 have e0:atI (M.map rwQ) 0=some (rwQ (M.getD 0 [])):=eI [] (i:=0) (by rw [t.len]; omega)
 cases e:dj y with
 | false=>
   refine au (bh (q:=true) (x_call b c_is_row2 (aa (ae 1) ag) ⟨y,rfl,rfl⟩) λh=>(by rw [e] at h; cases h)) ?_
   rw [e]; rfl
 | true=>
   obtain ⟨ys,rfl⟩:=lR e
   have ne:ys.length ≠ C:=by
     rcases hB with h | h
     · rw [e] at h; cases h
     · exact h
   have ne':decide ((ys.length:Int)=(C:Nat))=false:=decide_eq_false (by omega)
   refine au (bh (x_call b c_is_row2 (aa (ae 1) ag) ⟨_,rfl,rfl⟩) λh=>(bh (q:=true) (bI (aW b (aa (ae 1) ag) bY) (aW b (aa (ar (ae 0) af (aP e0)) ag) (e7 (n:=C) (by rw [List.length_map]; exact t.at_ (by omega)))) cO) λh=>(by rw [ne'] at h; cases h))) ?_
   rw [ne',e]; rfl
theorem j2 (F:Fun K "is_let_by" qual (top 79) f fd) (hb:∀ x ∈ aj,mg x=none) (c_shows_ladder:Cal P w K mg base k "shows_ladder" cv) (c_shows_row:Cal P w K mg base k "shows_row" dY) (c_shows_below:Cal P w K mg base k "shows_below" cJ):aJ P w K mg base CX0 (k + 1) f fd ["table","paper"] (spD K eD):=by
 refine fnD F kE hb (by rintro _ _ ⟨_,_,_,_,rfl,_⟩; rfl) ?_
 rintro _ _ ⟨R,C,M,x,rfl,t,hB,rfl⟩ cdv A outer s H E b
 by_cases ht:cL .tuple x=true
 · obtain ⟨xs,rfl⟩:∃ xs,x=.tup xs:=by cases x <;> first | exact ⟨_,rfl⟩ | cases ht
   by_cases h2:xs.length=2
   · obtain ⟨u,y,rfl⟩:∃ u y,xs=[u,y]:=by
       match xs,h2 with
       | [u,y],_=>exact ⟨u,y,rfl⟩
     obtain ⟨ou,k1,k2⟩:=hB.two
     refine bQ (PW.pt (a8 (aK (aI (br .tuple b (ae 1)))) λh=>(bC (aH (aW b (aa (ae 1) ag) bU) (bH (aa af (aa af ag))) (mj (ns:=[2,3])))))) rfl ?_
     refine bQ (aH (aW b (aa (ae 1) ag) bU) af cO) rfl ?_
     refine aU (aH (ar (ae 1) af (ak (ah (i:=0) rfl))) aN (iF b ou (by decide +kernel))) (λh=>?_) λh=>?_
     · exact au (x_call b c_shows_ladder (aa (ae 0) (aa (ar (ae 1) af (ak (ah (i:=1) rfl))) ag)) ⟨R,C,M,y,rfl,t,k1 h,rfl⟩) rfl
     · cases er:Ev.eqD u (.str "row") with
       | false=>
         refine au (bh (q:=true) (bI (ar (ae 1) af (ak (ah (i:=0) rfl))) aN (iF b ou (by decide +kernel))) λh=>(by rw [er] at h; cases h)) ?_
         rw [er]; rfl
       | true=>
         refine au (bh (bI (ar (ae 1) af (ak (ah (i:=0) rfl))) aN (iF b ou (by decide +kernel))) λ_=>(cy (x_call b c_shows_row (aa (ae 0) (aa (ar (ae 1) af (ak (ah (i:=1) rfl))) ag)) ⟨R,C,M,y,rfl,t,k2 h er,rfl⟩))) ?_
         rw [er]; rfl
   · by_cases h3:xs.length=3
     · obtain ⟨u,y,z,rfl⟩:∃ u y z,xs=[u,y,z]:=by
         match xs,h3 with
         | [u,y,z],_=>exact ⟨u,y,z,rfl⟩
       obtain ⟨ou,k1⟩:=hB.three
       refine bQ (PW.pt (a8 (aK (aI (br .tuple b (ae 1)))) λh=>(bC (aH (aW b (aa (ae 1) ag) bU) (bH (aa af (aa af ag))) (mj (ns:=[2,3])))))) rfl ?_
       refine aU (aH (aW b (aa (ae 1) ag) bU) af cO) (λ_=>?_) λh=>(by have h:true=false:=h; cases h)
       cases er:Ev.eqD u (.str "below") with
       | false=>
         refine au (bh (q:=true) (bI (ar (ae 1) af (ak (ah (i:=0) rfl))) aN (iF b ou (by decide +kernel))) λh=>(by rw [er] at h; cases h)) ?_
         rw [er]; rfl
       | true=>
         obtain ⟨sy,sz,hN⟩:=k1 er
         refine au (bh (bI (ar (ae 1) af (ak (ah (i:=0) rfl))) aN (iF b ou (by decide +kernel))) λ_=>(cy (x_call b c_shows_below (aa (ae 0) (aa (ar (ae 1) af (ak (ah (i:=1) rfl))) (aa (ar (ae 1) af (ak (ah (i:=2) rfl))) ag))) ⟨R,C,M,y,z,rfl,t,sy,sz,hN,rfl⟩))) ?_
         rw [er]; rfl
     · have en:(!(([2,3]:List Int).any λw=>decide (w=((xs.length:Nat):Int))))=true:=by
         have a2:decide ((2:Int)=(xs.length:Nat))=false:=decide_eq_false (by omega)
         have a3:decide ((3:Int)=(xs.length:Nat))=false:=decide_eq_false (by omega)
         simp only [List.any_cons,List.any_nil,a2,a3]
         rfl
       refine aU (PW.pt (a8 (aK (aI (br .tuple b (ae 1)))) λh=>(bC (aH (aW b (aa (ae 1) ag) bU) (bH (aa af (aa af ag))) (mj (ns:=[2,3])))))) (λ_=>au b5 rfl) λh=>?_
       have h:(false || !(([2,3]:List Int).any λw=>decide (w=((xs.length:Nat):Int))))=false:=h
       rw [en] at h
       cases h
 · have e:cL .tuple x=false:=by simpa using ht
   refine aU (PW.pt (a8 (q:=true) (aK (aI (br .tuple b (ae 1)))) λh=>(by rw [e] at h; cases h))) (λ_=>au b5 rfl) λh=>?_
   rw [e] at h; cases h
theorem jb {cl:Nat->Addr} {cs:List Nat} (F:Fun K "look_paper" qual (top 78) f fd) (hb:∀ x ∈ aj,mg x=none) (Z:Cls K mg cl cs) (h8:8 ∈ cs) (x_look_table:kJ P w K mg base cl k "look_table" pP) (c_look_table:Cal P w K mg base k "look_table" dz) (c_is_let_by:Cal P w K mg base k "is_let_by" eD):aJ P w K mg base (Hx.CXe P w cl) (k + 1) f fd ["table","paper"] (spX K cl so):=by
 obtain ⟨S,hS,hx⟩:=Z.ex
 refine fnX F i7 hb (by rintro _ _ ⟨_,_,rfl,_⟩; rfl) ?_
 rintro _ _ ⟨x,y,rfl,⟨h2,rfl⟩ | ⟨R,C,M,rfl,t,hN,rfl⟩⟩ cdv A outer s H E hr b ps lv
 · exact mP (nk (c:=1) (C:=false) hr ps x_look_table (aa (ae 0) ag) ⟨x,rfl,h2,rfl⟩)
 · refine pz (PE.nox (x_call b c_look_table (aa (ae 0) ag) ⟨R,C,M,rfl,t,rfl⟩)) ?_
   exact aU (PT.nox (aK (aI (x_call b c_is_let_by (aa (ae 0) (aa (ae 1) ag)) ⟨R,C,M,y,rfl,t,hN,rfl⟩)))) (λ_=>mR (lv 8) (Z.nm 8 (by decide)) (hx 8 h8).1 (aa aN ag)) λh=>(by have h:true=false:=h; cases h)
end
noncomputable def oON:D:=.tup [.int 1,.int 1]
noncomputable def oNS (C:Nat):List D:=List.replicate C oON
noncomputable def oTL (C:Nat):List D:=Hy.cutD (oNS C) (some 1) none
noncomputable def od0 (R C:Nat):List D:=[.non,.str "ladder",.int 7,.bl true,.lst [],.tup []]
noncomputable def od1 (R C:Nat):List D:=od0 R C++[.tup [.str "ladder"],.tup [.str "below",.lst [.int 0]],.tup [.str "row"],.lst [.str "row",.lst (oNS C)],.tup [.str "Row",.lst (oNS C)]]
noncomputable def od2 (R C:Nat):List D:=od1 R C++[.tup [.str "row",.tup (oNS C)],.tup [.str "row",.lst ((oNS C)++[oON])],.tup [.str "row",.lst (oTL C)]]
noncomputable def od3 (R C:Nat):List D:=od2 R C++[.tup [.str "row",.lst ((oTL C)++[.tup [.int 2,.int 4]])],.tup [.str "row",.int 5]]
noncomputable def od4 (R C:Nat):List D:=od3 R C++[.tup [.str "row",.lst (oNS C),.lst []],.tup [.str "row",.lst ((oTL C)++[.non])],.tup [.int 0,.lst (oNS C)]]
noncomputable def od5 (R C:Nat):List D:=od4 R C++[.tup [.str "below",.lst [.int 0],.lst [.int 0],.lst []],.tup [.str "below",.lst [],.lst []]]
noncomputable def od6 (R C:Nat):List D:=od5 R C++[.tup [.str "below",.lst [.int (R:Nat)],.lst [.int 0]],.tup [.str "below",.lst [.int 0],.lst [.int (C:Nat)]]]
noncomputable def od7 (R C:Nat):List D:=od6 R C++[.tup [.str "below",.lst [.int 0,.int 0],.lst [.int 0,.int 0]],.tup [.str "below",.tup [.int 0],.tup [.int 0]]]
noncomputable def od8 (R C:Nat):List D:=od7 R C++[.tup [.str "below",.lst [.int 0],.lst [.int 0,.int 1]],.tup [.str "below",.lst [.int (-1)],.lst [.int 0]],.tup [.str "below",.lst [.bl false],.lst [.int 0]]]
noncomputable def od9 (R C:Nat):List D:=od8 R C++[.tup [.str "below",.int 0,.int 0],.tup [.str "row",.lst [.lst (oNS C)]]]
noncomputable def v3 (R C:Nat):List D:=od9 R C++[.tup [.str "ladder",.non],.tup [.str "ladder",.tup [.int 0,.int 1,.int 1,.lst []]]]
noncomputable def mB (R C:Nat):List D:=v3 R C++[.tup [.str "ladder",.lst [.int (C:Nat),.int (R:Nat),.int (C:Nat),.lst []]],.tup [.str "ladder",.tup [.str "row",.lst (oNS C)]]]
theorem uN (R C:Nat):(mB R C).length=34:=rfl
theorem uf {C:Nat} (h:C<=4):(oTL C).length<=4:=by
 unfold oTL Hy.cutD
 rw [List.length_take]
 have:((oNS C).drop (HT.sIx (oNS C).length 0 (some 1))).length<=4:=by rw [List.length_drop]; unfold oNS; rw [List.length_replicate]; omega
 omega
theorem tO {C:Nat} (h:C<=4):(oNS C).length<=4:=by unfold oNS; rw [List.length_replicate]; omega
theorem wd:∀ R,R < 5->∀ C,C < 5->1<=R->1<=C->∀ i,i < 34->noB R C ((mB R C).getD i .non)=true:=by decide +kernel
noncomputable def jY (ds:List D) (r:Sl):Prop:=∃ (c:Int) (R C:Nat),ds=[.int c,.int R,.int C]/\C<=4/\r=.d ((mB R C).getD (c.fmod 34).toNat .non)
section
variable {P:Program} {w:World} {K:PySem.W.Frag} {mg:Str->Option Value} {base:Heap} {k:Nat} {f:Addr} {fd:FuncData} {qual:Str}
set_option maxHeartbeats 2000000 in
theorem pW (F:Fun K "_law_odd" qual (top 99) f fd) (hb:∀ x ∈ aj,mg x=none):aJ P w K mg base CX0 (k + 1) f fd ["_law_cell_here","_law_many","_law_wide"] (spD K jY):=by
 refine fnQ F lO hb (by rintro _ _ ⟨_,_,_,rfl,_⟩; rfl) ?_
 rintro _ _ ⟨c,R,C,rfl,hC,rfl⟩ cdv A outer s H E b
 have nd:=lO.nd
 have l1:(Hy.cutD (oNS C) (some 1) none).length<=4:=uf hC
 have l2:=tO hC
 refine cP 3 nd (vQ (a9 (a9 ay))) ?_
 refine ⟨gz 4 nd (cmp 0 (f:=λ_=>oON) b (eK b (ae 2) (by omega) (by omega)) dP (by rw [aC]; omega) λi hi s0 H0 fp=>ae 1) (.inr rfl) ?_⟩
 have eo:((List.range (fN 0 (C:Int).toNat).length).map λ_=>oON)=oNS C:=by
   rw [aC]
   unfold oNS
   rw [List.map_const',List.length_range,Int.toNat_natCast]
 rw [eo]
 refine gC 4 (PQ.out ?_)
 show PQ _ _ (dS K [.d (.int c),.d (.int (R:Nat)),.d (.int (C:Nat)),.d oON,.d (.lst (oNS C)),.un] _)
 refine cP 5 nd (b9 (qJ (a7 (a9 (vB (bq ay (aY ay ay))))))) (hX 5 ?_) (hs:=tG)
 show PQ _ _ (dS K [.d (.int c),.d (.int (R:Nat)),.d (.int (C:Nat)),.d oON,.d (.lst (oNS C)),.d (.lst (od0 R C))] _)
 refine cP 5 nd (ed (ae 5) (b9 (aY (a7 ay) (aY (a7 (bq (a9 ay) ay)) (aY (a7 ay) (bq (a7 (dQ (ae 4) ay)) (aY (a7 (dQ (ae 4) ay)) ay)))))) (by show (6:Nat) + 5 < 1000000; decide)) (hX 5 ?_) (hs:=cc)
 show PQ _ _ (dS K [.d (.int c),.d (.int (R:Nat)),.d (.int (C:Nat)),.d oON,.d (.lst (oNS C)),.d (.lst (od1 R C))] _)
 refine cP 5 nd (ed (ae 5) (b9 (aY (a7 (sU (rD b (aa (ae 4) ag) t9) ay)) (aY (a7 (qs (aQ (fh (ae 4) (aQ (b9 (dQ (ae 3) ay)).out) (by show (_:Nat) + 1 < 1000000; omega))) ay)) (aY (a7 (sU (aQ (oz (ae 4) (fD af) i4)) ay)) ay)))) (by show (11:Nat) + 3 < 1000000; decide)) (hX 5 ?_) (hs:=cc)
 show PQ _ _ (dS K [.d (.int c),.d (.int (R:Nat)),.d (.int (C:Nat)),.d oON,.d (.lst (oNS C)),.d (.lst (od2 R C))] _)
 refine cP 5 nd (ed (ae 5) (b9 (aY (a7 (qs (aQ (fh (aQ (oz (ae 4) (fD af) i4)) (aQ (b9 (aY (a9 (a9 ay)) ay)).out) (by show (_:Nat) + 1 < 1000000; omega))) ay)) (aY (a7 (a9 ay)) ay))) (by show (14:Nat) + 2 < 1000000; decide)) (hX 5 ?_) (hs:=cc)
 show PQ _ _ (dS K [.d (.int c),.d (.int (R:Nat)),.d (.int (C:Nat)),.d oON,.d (.lst (oNS C)),.d (.lst (od3 R C))] _)
 refine cP 5 nd (ed (ae 5) (b9 (aY (a7 (dQ (ae 4) (bq ay ay))) (aY (a7 (qs (aQ (fh (aQ (oz (ae 4) (fD af) i4)) (aQ (b9 (qJ ay)).out) (by show (_:Nat) + 1 < 1000000; omega))) ay)) (aY (a9 (dQ (ae 4) ay)) ay)))) (by show (16:Nat) + 3 < 1000000; decide)) (hX 5 ?_) (hs:=cc)
 show PQ _ _ (dS K [.d (.int c),.d (.int (R:Nat)),.d (.int (C:Nat)),.d oON,.d (.lst (oNS C)),.d (.lst (od4 R C))] _)
 refine cP 5 nd (ed (ae 5) (b9 (aY (a7 (bq (a9 ay) (bq (a9 ay) (bq ay ay)))) (aY (a7 (bq ay (bq ay ay))) ay))) (by show (19:Nat) + 2 < 1000000; decide)) (hX 5 ?_) (hs:=cc)
 show PQ _ _ (dS K [.d (.int c),.d (.int (R:Nat)),.d (.int (C:Nat)),.d oON,.d (.lst (oNS C)),.d (.lst (od5 R C))] _)
 refine cP 5 nd (ed (ae 5) (b9 (aY (a7 (bq (dQ (ae 1) ay) (bq (a9 ay) ay))) (aY (a7 (bq (a9 ay) (bq (dQ (ae 2) ay) ay))) ay))) (by show (21:Nat) + 2 < 1000000; decide)) (hX 5 ?_) (hs:=cc)
 show PQ _ _ (dS K [.d (.int c),.d (.int (R:Nat)),.d (.int (C:Nat)),.d oON,.d (.lst (oNS C)),.d (.lst (od6 R C))] _)
 refine cP 5 nd (ed (ae 5) (b9 (aY (a7 (bq (a9 (a9 ay)) (bq (a9 (a9 ay)) ay))) (aY (a7 (aY (a9 ay) (aY (a9 ay) ay))) ay))) (by show (23:Nat) + 2 < 1000000; decide)) (hX 5 ?_) (hs:=cc)
 show PQ _ _ (dS K [.d (.int c),.d (.int (R:Nat)),.d (.int (C:Nat)),.d oON,.d (.lst (oNS C)),.d (.lst (od7 R C))] _)
 refine cP 5 nd (ed (ae 5) (b9 (aY (a7 (bq (a9 ay) (bq (a9 (a9 ay)) ay))) (aY (a7 (bq (wt (sE af) ay) (bq (a9 ay) ay))) (aY (a7 (bq (vB ay) (bq (a9 ay) ay))) ay)))) (by show (25:Nat) + 3 < 1000000; decide)) (hX 5 ?_) (hs:=cc)
 show PQ _ _ (dS K [.d (.int c),.d (.int (R:Nat)),.d (.int (C:Nat)),.d oON,.d (.lst (oNS C)),.d (.lst (od8 R C))] _)
 refine cP 5 nd (ed (ae 5) (b9 (aY (a7 (a9 (a9 ay))) (aY (a7 (bq (dQ (ae 4) ay) ay)) ay))) (by show (28:Nat) + 2 < 1000000; decide)) (hX 5 ?_) (hs:=cc)
 show PQ _ _ (dS K [.d (.int c),.d (.int (R:Nat)),.d (.int (C:Nat)),.d oON,.d (.lst (oNS C)),.d (.lst (od9 R C))] _)
 refine cP 5 nd (ed (ae 5) (b9 (aY (a7 (qJ ay)) (aY (a7 (aY (a9 (a9 (a9 (bq ay ay)))) ay)) ay))) (by show (30:Nat) + 2 < 1000000; decide)) (hX 5 ?_) (hs:=cc)
 show PQ _ _ (dS K [.d (.int c),.d (.int (R:Nat)),.d (.int (C:Nat)),.d oON,.d (.lst (oNS C)),.d (.lst (v3 R C))] _)
 refine cP 5 nd (ed (ae 5) (b9 (aY (a7 (bq (dQ (ae 2) (dQ (ae 1) (dQ (ae 2) (bq ay ay)))) ay)) (aY (a7 (aY (a7 (dQ (ae 4) ay)) ay)) ay))) (by show (32:Nat) + 2 < 1000000; decide)) (hX 5 ?_) (hs:=cc)
 show PQ _ _ (dS K [.d (.int c),.d (.int (R:Nat)),.d (.int (C:Nat)),.d oON,.d (.lst (oNS C)),.d (.lst (mB R C))] _)
 have fm34:=fm (a:=c) (b:=34) (by decide)
 have hl:(c.fmod 34).toNat < (mB R C).length:=by rw [uN]; omega
 have ei:c.fmod 34=((c.fmod 34).toNat:Int):=by omega
 exact wj (ar (ae 5) (av (ae 0) af (bj (by decide))) (aP (by rw [ei]; exact ah (x:=(mB R C).getD (c.fmod 34).toNat .non) (by simp [hl])))) rfl
end
noncomputable def eh (ds:List D) (r:Sl):Prop:=∃ c,(c=1\/c=8)/\so ds c/\r=.d (.str (wordOf c))
theorem me (p:Int):Wq 3 (wgt p 0):=by
 obtain ⟨h1,h2,h3,h4⟩:=nW p (g:=0) (by decide)
 have f1:=fm (a:=p) (b:=7) (by decide)
 have f2:=fm (a:=p.fdiv 7) (b:=4) (by decide)
 have e1:wgT p 0=p.fmod 7:=rfl
 have e2:wgB p 0=1 + (p.fdiv 7).fmod 4:=rfl
 exact ⟨(pT p (by decide)).1,Sq.du h3 (ic p (by decide)) (by unfold Bd; omega) (by unfold Bd; omega)⟩
theorem wg {m:Nat} (c o:Int):∀ k,k < (drS m c o 0).length->Wq 3 ((drS m c o 0).getD k ("weigh",0,0)).2.2:=λk hk=>by
 have hl:(drS m c o 0).length=((szP m c).getD 5 0).toNat:=by simp [drS]
 rw [hl] at hk
 have:(drS m c o 0).getD k ("weigh",0,0)=adS (adP o ((szP m c).getD 5 0).toNat 0) (drT m c) 0 k:=cn _ hk _
 rw [this]
 exact me _
theorem tj {T:Nat} {s:Stp} (h:okS T s):Ev.cln (stD s)=true/\Ev.dep (stD s)<=2:=by
 obtain ⟨u,n,q⟩:=s
 have hu:PyData.strOk u=true:=by
   rcases h.2 with z | z
   · obtain rfl:u = "weigh":=z.1
     decide +kernel
   · rcases z.1 with y | y
     · obtain rfl:u = "down":=y
       decide +kernel
     · obtain rfl:u = "up":=y
       decide +kernel
 simp [stD,frD,Ev.cln,Ev.de,Ev.dep,Ev.dZ,hu]
theorem ng {T:Nat}:∀ (ss:List Stp),(∀ s ∈ ss,okS T s)->Ev.de (ss.map stD)=true/\Ev.dZ (ss.map stD)<=2
 | [],_=>by simp [Ev.de,Ev.dZ]
 | s :: ss,h=>by
   obtain ⟨h1,h2⟩:=tj (h s (List.mem_cons_self ..))
   obtain ⟨h3,h4⟩:=ng ss λs hs=>h s (List.mem_cons_of_mem _ hs)
   rw [List.map_cons,Ev.de,Ev.dZ,h1,h3]
   exact ⟨rfl,by omega⟩
noncomputable def cgP (c:Int):List Int:=nums c [4,40,28]
noncomputable def cgA (c:Int) (ss:List Stp):Nat:=(((cgP c).getD 1 0).fmod (ss.length:Nat)).toNat
noncomputable def cgT (c:Int) (ss:List Stp):List Stp:=ss.set (cgA c ss) ((ss.getD (cgA c ss) ("weigh",0,0)).1,(ss.getD (cgA c ss) ("weigh",0,0)).2.1,wgt ((cgP c).getD 2 0) 0)
noncomputable def cgS (c:Int) (ss:List Stp):List Stp:=if ss ≠ []/\(cgP c).getD 0 0 < 2 then (if (cgP c).getD 0 0=1 then (cgT c ss).eraseIdx (cgA c ss) else cgT c ss) else ss
noncomputable def cgR (c:Int) (T R:Nat):Nat:=if (cgP c).getD 0 0=2 then 1 + R % T else R
noncomputable def cgC (c:Int) (T C:Nat):Nat:=if (cgP c).getD 0 0=3 then 1 + C % T else C
theorem pL {c:Int} {ss:List Stp} (h:ss ≠ []):cgA c ss < ss.length/\((cgP c).getD 1 0).fmod (ss.length:Nat)=(cgA c ss:Nat):=by
 have:0 < ss.length:=List.length_pos_iff.mpr h
 have:=fm (a:=(cgP c).getD 1 0) (b:=(ss.length:Nat)) (by omega)
 unfold cgA
 omega
theorem mV {c:Int} {T:Nat} {ss:List Stp} (h:∀ s ∈ ss,okS T s/\Wq 3 s.2.2):∀ s ∈ cgT c ss,okS T s/\Wq 3 s.2.2:=λs hs=>by
 by_cases z:ss=[]
 · subst z
   cases hs
 have hl:=(pL (c:=c) z).1
 have hm:ss.getD (cgA c ss) ("weigh",0,0) ∈ ss:=by
   have:ss.getD (cgA c ss) ("weigh",0,0)=ss[cgA c ss]:=by simp [hl]
   rw [this]
   exact List.getElem_mem _
 rcases List.mem_or_eq_of_mem_set hs with y | y
 · exact h s y
 · have:=h _ hm
   subst y
   exact ⟨⟨(me _).n0,this.1.2⟩,me _⟩
theorem rz {c:Int} {T:Nat} {ss:List Stp} (h:∀ s ∈ ss,okS T s/\Wq 3 s.2.2):(∀ s ∈ cgS c ss,okS T s/\Wq 3 s.2.2)/\(cgS c ss).length<=ss.length:=by
 have hl:(cgT c ss).length=ss.length:=by unfold cgT; rw [List.length_set]
 unfold cgS
 split
 · split
   · exact ⟨λs hs=>mV h s (List.mem_of_mem_eraseIdx hs),by have:=List.length_eraseIdx_le (cgT c ss) (cgA c ss); omega⟩
   · exact ⟨mV h,by omega⟩
 · exact ⟨h,Nat.le_refl _⟩
theorem vW {c:Int} {T R C:Nat} {ss:List Stp} (ok:okL T R C ss) (hw:∀ i,i < ss.length->Wq 3 (ss.getD i ("weigh",0,0)).2.2):okL T (cgR c T R) (cgC c T C) (cgS c ss)/\(∀ i,i < (cgS c ss).length->Wq 3 ((cgS c ss).getD i ("weigh",0,0)).2.2)/\(cgS c ss).length<=ss.length:=by
 have hm:∀ s ∈ ss,okS T s/\Wq 3 s.2.2:=λs hs=>by
   obtain ⟨i,hi,rfl⟩:=List.getElem_of_mem hs
   have h1:=ok.st i hi
   have h2:=hw i hi
   rw [show ss.getD i ("weigh",0,0)=ss[i] by simp [hi]] at h1 h2
   exact ⟨h1,h2⟩
 obtain ⟨k1,k2⟩:=rz (c:=c) hm
 have hg:∀ i,i < (cgS c ss).length->okS T ((cgS c ss).getD i ("weigh",0,0))/\Wq 3 ((cgS c ss).getD i ("weigh",0,0)).2.2:=λi hi=>by
   rw [show (cgS c ss).getD i ("weigh",0,0)=(cgS c ss)[i] by simp [hi]]
   exact k1 _ (List.getElem_mem _)
 have t1:=ok.t1
 have:=ok.r1
 have:=ok.rT
 have:=ok.c1
 have:=ok.cT
 have:=ok.len
 have m1:=Nat.mod_lt R (show T > 0 by omega)
 have m2:=Nat.mod_lt C (show T > 0 by omega)
 refine ⟨⟨t1,ok.t7,?_,?_,?_,?_,by omega,λi hi=>(hg i hi).1⟩,λi hi=>(hg i hi).2,k2⟩
 · unfold cgR; split <;> omega
 · unfold cgR; split <;> omega
 · unfold cgC; split <;> omega
 · unfold cgC; split <;> omega
theorem jT {α β:Type} (g:α->β):∀ (xs:List α) (j:Nat),(xs.eraseIdx j).map g=(xs.map g).eraseIdx j
 | [],_=>rfl
 | _ :: _,0=>rfl
 | x :: xs,j + 1=>by rw [List.eraseIdx_cons_succ,List.map_cons,jT g xs j]; rfl
theorem mW (ss:List Stp):Ev.eqD (.lst (ss.map stD)) (.lst [])=decide (ss=[]):=by
 cases ss with
 | nil=>simp [Ev.eqD,Ev.gM]
 | cons s ss=>simp [Ev.eqD,Ev.gM]
theorem lQ (a b:Nat):(a:Int).fmod (b:Nat)=((a % b:Nat):Int):=by
 rw [Int.fmod_eq_emod_of_nonneg _ (by omega)]
 exact (Int.natCast_emod a b).symm
noncomputable def ek (ds:List D) (r:Sl):Prop:=∃ (c:Int) (T R C:Nat) (ss:List Stp),ds=[dC T R C ss,.int c]/\okL T R C ss/\r=.d (dC T (cgR c T R) (cgC c T C) (cgS c ss))
section
variable {P:Program} {w:World} {K:PySem.W.Frag} {mg:Str->Option Value} {base:Heap} {k:Nat} {f:Addr} {fd:FuncData} {qual:Str}
theorem jV {cl:Nat->Addr} {cs:List Nat} {fw:Addr} (F:Fun K "_law_refusal" qual (top 100) f fd) (hb:∀ x ∈ aj,mg x=none) (Z:Cls K mg cl cs) (hcs:∀ c,c=1\/c=8->c ∈ cs) (hm:mg "_law_word" = some (.ref fw)) (hk:PySem.W.keepIn K (.ref fw)=true) (hW:∀ c ∈ cs,dq P w K mg base cl k fw c) (x_look_paper:kJ P w K mg base cl k "look_paper" so):aJ P w K mg base CX0 (k + 1) f fd ["_law_table_here","_law_paper"] (spD K eh):=by
 obtain ⟨S,hS,hx⟩:=Z.ex
 refine fnD F gn hb (by rintro _ _ ⟨_,_,⟨_,_,rfl,_⟩,_⟩; rfl) ?_
 have nd:=gn.nd
 rintro _ _ ⟨c,hc,⟨x,y,rfl,h⟩,rfl⟩ cdv A outer s H E b
 exact uQ b nd (λpins E Ex ps=>mP (nk (c:=c) (C:=false) b.room ps x_look_paper (aa (ae 0) (aa (ae 1) ag)) ⟨x,y,rfl,h⟩)) rfl hS (hx c (hcs c hc)).2 hm hk (hW c (hcs c hc)) 2
theorem kh (F:Fun K "_law_changed" qual (top 101) f fd) (hb:∀ x ∈ aj,mg x=none) (c_l_numbers:Cal P w K mg base k "_law_numbers" bx) (c_l_weight:Cal P w K mg base k "_law_weight" c3):aJ P w K mg base CX0 (k + 1) f fd ["_law_ladder_here","_law_cell_here"] (spD K ek):=by
 refine fnD F fW hb (by rintro _ _ ⟨_,_,_,_,_,rfl,_⟩; rfl) ?_
 rintro _ _ ⟨c,T,R,C,ss,rfl,ok,rfl⟩ cdv A outer s H E b
 have nd:=fW.nd
 have hl:(cgP c).length=3:=eS ..
 have a0:atI ((cgP c).map D.int) 0=some (.int ((cgP c).getD 0 0)):=bK (i:=0) (by decide) (by rw [hl]; decide)
 have a1:atI ((cgP c).map D.int) 1=some (.int ((cgP c).getD 1 0)):=bK (i:=1) (by decide) (by rw [hl]; decide)
 have a2:atI ((cgP c).map D.int) 2=some (.int ((cgP c).getD 2 0)):=bK (i:=2) (by decide) (by rw [hl]; decide)
 have l4:=ok.len
 have t1:=ok.t1
 have ok1:Ev.cU (.lst (ss.map stD)):=by
   obtain ⟨h1,h2⟩:=ng ss ok.mem
   unfold Ev.cU
   rw [Ev.cln,Ev.dep,h1]
   exact ⟨rfl,by omega⟩
 refine aE 2 nd (aQ (x_call b c_l_numbers (aa (ae 1) (aa (aQ (bG (aa af (aa af (aa af ag))))) ag)) ⟨c,[4,40,28],rfl,by decide,λb hb=>k6 (by revert b; decide) (by revert b; decide),rfl⟩)) ?_
 refine aE 3 nd (rD b (aa (ar (ae 0) af (ak (ah (i:=3) rfl))) ag) qT) ?_
 refine hZ (M:=λτ=>∃ s4,τ=[.d (dC T R C ss),.d (.int c),.d (.lst ((cgP c).map .int)),.o ((cgS c ss).map stD),s4,.un,.un]) (PW.pt (pH (aH (j9 3) (aQ (bG ag)) (p6 b ok1 (by decide +kernel))) λh=>(mD (aH (ar (ae 2) af (aP a0)) af pV)))) (λh=>?_) (λh=>?_) ?_
 · have h:(!Ev.eqD (.lst (ss.map stD)) (.lst []) && decide ((cgP c).getD 0 0 < 2))=true:=h
   rw [mW,Bool.and_eq_true] at h
   have h1:ss ≠ []:=by simpa using h.1
   have h2:(cgP c).getD 0 0 < 2:=of_decide_eq_true h.2
   obtain ⟨ha,ea⟩:=pL (c:=c) h1
   have hp:0 < ss.length:=List.length_pos_iff.mpr h1
   have at_a:atI (ss.map stD) (cgA c ss:Nat)=some (stD (ss.getD (cgA c ss) ("weigh",0,0))):=ah (by simp [ha])
   refine aE 4 (s:=.d (.int (cgA c ss:Nat))) nd (by rw [<- ea]; exact av (ar (ae 2) af (aP a1)) (xp (aW b (aa (j9 3) ag) (e7 (n:=ss.length) (List.length_map ..)))) (bj (by omega))) ?_
   refine jy 3 (xs:=ss.map stD) (j:=cgA c ss) (ae 4) (bH (aa (ar (fb 3 (ae 4) at_a) af (ak (ah (i:=0) rfl))) (aa (ar (fb 3 (ae 4) at_a) af (ak (ah (i:=1) rfl))) (aa (x_call b c_l_weight (aa (ar (ae 2) af (aP a2)) (aa af ag)) ⟨_,0,rfl,by decide,rfl⟩) ag)))) (by rw [List.length_map]; exact gw ha) ?_
   have es:(ss.map stD).set (cgA c ss) (.tup [.str (ss.getD (cgA c ss) ("weigh",0,0)).1,.int ((ss.getD (cgA c ss) ("weigh",0,0)).2.1:Nat),frD (wgt ((cgP c).getD 2 0) 0)])=(cgT c ss).map stD:=by
     unfold cgT
     rw [List.map_set]
     rfl
   show PSs _ _ (dS K [.d (dC T R C ss),.d (.int c),.d (.lst ((cgP c).map .int)),.o ((ss.map stD).set (cgA c ss) (.tup [.str (ss.getD (cgA c ss) ("weigh",0,0)).1,.int ((ss.getD (cgA c ss) ("weigh",0,0)).2.1:Nat),frD (wgt ((cgP c).getD 2 0) 0)])),.d (.int (cgA c ss:Nat)),.un,.un] _)
   rw [es]
   have hlT:(cgT c ss).length=ss.length:=by unfold cgT; rw [List.length_set]
   refine hZ (M:=λτ=>∃ s4,τ=[.d (dC T R C ss),.d (.int c),.d (.lst ((cgP c).map .int)),.o ((cgS c ss).map stD),s4,.un,.un]) (aH (ar (ae 2) af (aP a0)) af cO) (λh=>?_) (λh=>?_) λτ h=>aX h
   · have h:(cgP c).getD 0 0=1:=of_decide_eq_true h
     refine uh 3 (xs:=(cgT c ss).map stD) (j:=cgA c ss) (ae 4) (by rw [List.length_map,hlT]; exact ha) (by rw [List.length_map,hlT]; omega) (aX ⟨.d (.int (cgA c ss:Nat)),?_⟩)
     have:cgS c ss=(cgT c ss).eraseIdx (cgA c ss):=by unfold cgS; rw [if_pos ⟨h1,h2⟩,if_pos h]
     rw [this,jT]
     rfl
   · have h:¬ (cgP c).getD 0 0=1:=of_decide_eq_false h
     refine aX ⟨.d (.int (cgA c ss:Nat)),?_⟩
     have:cgS c ss=cgT c ss:=by unfold cgS; rw [if_pos ⟨h1,h2⟩,if_neg h]
     rw [this]
 · have h:(!Ev.eqD (.lst (ss.map stD)) (.lst []) && decide ((cgP c).getD 0 0 < 2))=false:=h
   have:cgS c ss=ss:=by
     unfold cgS
     refine if_neg λ⟨z1,z2⟩=>?_
     rw [mW,decide_eq_false z1,decide_eq_true z2] at h
     cases h
   rw [this]
   exact aX ⟨_,rfl⟩
 · rintro _ ⟨s4,rfl⟩
   refine aE 5 nd (ar (ae 0) af (ak (ah (i:=1) rfl))) ?_
   refine aE 6 nd (ar (ae 0) af (ak (ah (i:=2) rfl))) ?_
   refine hZ (M:=λτ=>τ=[.d (dC T R C ss),.d (.int c),.d (.lst ((cgP c).map .int)),.o ((cgS c ss).map stD),s4,.d (.int (cgR c T R:Nat)),.d (.int (C:Nat))]) (aH (ar (ae 2) af (aP a0)) af cO) (λh=>?_) (λh=>?_) ?_
   · have h:(cgP c).getD 0 0=2:=of_decide_eq_true h
     refine aE 5 nd (av af (av (ae 5) (ar (ae 0) af (ak (ah (i:=0) rfl))) (bj (by omega))) aZ) (aX ?_)
     unfold cgR
     rw [if_pos h,lQ]
     rfl
   · have h:¬ (cgP c).getD 0 0=2:=of_decide_eq_false h
     refine aX ?_
     unfold cgR
     rw [if_neg h]
     rfl
   rintro _ rfl
   refine hZ (M:=λτ=>τ=[.d (dC T R C ss),.d (.int c),.d (.lst ((cgP c).map .int)),.o ((cgS c ss).map stD),s4,.d (.int (cgR c T R:Nat)),.d (.int (cgC c T C:Nat))]) (aH (ar (ae 2) af (aP a0)) af cO) (λh=>?_) (λh=>?_) ?_
   · have h:(cgP c).getD 0 0=3:=of_decide_eq_true h
     refine aE 6 nd (av af (av (ae 6) (ar (ae 0) af (ak (ah (i:=0) rfl))) (bj (by omega))) aZ) (aX ?_)
     unfold cgC
     rw [if_pos h,lQ]
     rfl
   · have h:¬ (cgP c).getD 0 0=3:=of_decide_eq_false h
     refine aX ?_
     unfold cgC
     rw [if_neg h]
   rintro _ rfl
   exact au (bH (aa (ar (ae 0) af (ak (ah (i:=0) rfl))) (aa (ae 5) (aa (ae 6) (aa (j9 3) ag))))) rfl
end
noncomputable def nmT (kd:Nat) (p:Int):Int:=if kd=1 then p.fmod 5 - 2 else if kd=3 then (p.fdiv 2).fmod (10 ^ 40) * (1 - 2 * p.fmod 2) else if kd=2 then p.fmod 10 else p.fmod 19 - 9
noncomputable def nmB (kd:Nat) (p:Int):Int:=if kd=1 then 1 else if kd=3 then 1 + (p.fdiv (2 * 10 ^ 40)).fmod (10 ^ 40 - 1) else if kd=2 then 1 + (p.fdiv 10).fmod 6 else 1 + (p.fdiv 19).fmod 6
noncomputable def nmQ (kd:Nat) (p:Int):Rat:=if kd=1 then ((p.fmod 5 - 2:Int):Rat) else ((nmT kd p:Int):Rat) / ((nmB kd p:Int):Rat)
noncomputable def kD (kd:Nat):Nat:=if kd=3 then 133 else 3
noncomputable def kV (kd:Nat):Nat:=if kd=3 then 133 else 4
theorem fmn {a b:Int} (h:0 < b):0<=a.fmod b/\a.fmod b < b:=⟨Int.fmod_nonneg_of_pos a h,Int.fmod_lt_of_pos a h⟩
theorem qk {kd:Nat} (p:Int):0 < nmB kd p/\Bd (kD kd) (nmB kd p):=by
 unfold nmB kD
 by_cases h1:kd=1
 · rw [if_pos h1,if_neg (by omega)]; exact ⟨by decide,by unfold Bd; decide⟩
 · rw [if_neg h1]
   by_cases h3:kd=3
   · rw [if_pos h3,if_pos h3]
     have:=fmn (a:=p.fdiv (2 * 10 ^ 40)) (b:=10 ^ 40 - 1) (by decide)
     refine ⟨by omega,?_⟩
     unfold Bd
     have:(10:Int) ^ 40 < 2 ^ 133:=by decide
     have e:((2 ^ 133:Nat):Int)=2 ^ 133:=by decide
     omega
   · rw [if_neg h3,if_neg h3]
     by_cases h2:kd=2
     · rw [if_pos h2]
       have:=fmn (a:=p.fdiv 10) (b:=6) (by decide)
       exact ⟨by omega,by unfold Bd; omega⟩
     · rw [if_neg h2]
       have:=fmn (a:=p.fdiv 19) (b:=6) (by decide)
       exact ⟨by omega,by unfold Bd; omega⟩
theorem uk {kd:Nat} (p:Int):((nmT kd p:Int):Rat)=nmQ kd p * ((nmB kd p:Int):Rat):=by
 unfold nmQ
 by_cases h1:kd=1
 · rw [if_pos h1]
   unfold nmT nmB
   rw [if_pos h1,if_pos h1]
   exact (Rat.mul_one _).symm
 · rw [if_neg h1]
   exact (Rat.div_mul_cancel (iY (qk p).1)).symm
noncomputable def fB (ds:List D) (r:Sl):Prop:=∃ (kd:Nat) (p:Int),ds=[.int (kd:Nat),.int p]/\kd < 4/\r=.d (frD (nmQ kd p))
theorem m40:aM ((2:Int) * 10 ^ 40) (10 ^ 40):=(show Bd 140 ((2:Int) * 10 ^ 40) by unfold Bd; decide).aM (show Bd 140 ((10:Int) ^ 40) by unfold Bd; decide) (by decide) (by decide)
theorem wQ:aG ((2:Int) * 10 ^ 40):=(show Bd 140 ((2:Int) * 10 ^ 40) by unfold Bd; decide).aG (by decide) (by decide)
section
variable {P:Program} {w:World} {K:PySem.W.Frag} {mg:Str->Option Value} {base:Heap} {k:Nat} {f:Addr} {fd:FuncData} {qual:Str}
theorem lA (F:Fun K "_law_number" qual (top 89) f fd) (hb:∀ x ∈ aj,mg x=none) (c_l_made:Cal P w K mg base k "_law_made" cN):aJ P w K mg base CX0 (k + 1) f fd ["_law_kind","_law_part"] (spD K fB):=by
 refine fnD F gW hb (by rintro _ _ ⟨_,_,rfl,_⟩; rfl) ?_
 rintro _ _ ⟨kd,p,rfl,h4,rfl⟩ cdv A outer s H E b
 have nd:=gW.nd
 obtain ⟨b0,b1⟩:=qk (kd:=kd) p
 have b2:Bd 8999 (nmB kd p):=b1.mono (by unfold kD; split <;> decide)
 have hm:=uk (kd:=kd) p
 refine aU (aH (ae 0) af cO) (λh=>?_) λh=>?_
 · have h1:kd=1:=by have:=of_decide_eq_true h; omega
   refine au (bH (aa (av (av (ae 1) af (bj (by decide))) af d8) (aa af ag))) ?_
   unfold nmQ
   rw [if_pos h1]
   rfl
 have n1:¬ kd=1:=by have:=of_decide_eq_false h; omega
 refine aU (aH (ae 0) af cO) (λh=>?_) λh=>?_
 · have h3:kd=3:=by have:=of_decide_eq_true h; omega
   have eT:nmT kd p=(p.fdiv 2).fmod (10 ^ 40) * (1 - 2 * p.fmod 2):=by unfold nmT; rw [if_neg n1,if_pos h3]
   have eB:nmB kd p=1 + (p.fdiv (2 * 10 ^ 40)).fmod (10 ^ 40 - 1):=by unfold nmB; rw [if_neg n1,if_pos h3]
   rw [eT] at hm
   rw [eB] at hm b0 b2
   refine aE 2 nd (av (av (av (ae 1) af (bf (mkD (by decide) (by decide)))) (av af af (gY ⟨by decide,by decide,by decide⟩)) (bj (by decide))) (av af (av af (av (ae 1) af (bj (by decide))) (a4 (mkL (by decide)))) d8) (a4 (mkR ?_))) ?_
   · have:=fmn (a:=p) (b:=2) (by decide); omega
   exact au (x_call b c_l_made (aa (ae 2) (aa (av af (av (av (ae 1) (av af (av af af (gY ⟨by decide,by decide,by decide⟩)) (a4 (mkL (by decide)))) (bf wQ)) (av (av af af (gY ⟨by decide,by decide,by decide⟩)) af d8) (bj (by decide))) aZ) ag)) ⟨_,_,nmQ kd p,rfl,b0,b2,hm,rfl⟩) rfl
 have n3:¬ kd=3:=by have:=of_decide_eq_false h; omega
 refine aU (aH (ae 0) af cO) (λh=>?_) λh=>?_
 · have h2:kd=2:=by have:=of_decide_eq_true h; omega
   have eT:nmT kd p=p.fmod 10:=by unfold nmT; rw [if_neg n1,if_neg n3,if_pos h2]
   have eB:nmB kd p=1 + (p.fdiv 10).fmod 6:=by unfold nmB; rw [if_neg n1,if_neg n3,if_pos h2]
   rw [eT] at hm
   rw [eB] at hm b0 b2
   exact au (x_call b c_l_made (aa (av (ae 1) af (bj (by decide))) (aa (av af (av (av (ae 1) af (bf (mkD (by decide) (by decide)))) af (bj (by decide))) aZ) ag)) ⟨_,_,nmQ kd p,rfl,b0,b2,hm,rfl⟩) rfl
 · have n2:¬ kd=2:=by have:=of_decide_eq_false h; omega
   have eT:nmT kd p=p.fmod 19 - 9:=by unfold nmT; rw [if_neg n1,if_neg n3,if_neg n2]
   have eB:nmB kd p=1 + (p.fdiv 19).fmod 6:=by unfold nmB; rw [if_neg n1,if_neg n3,if_neg n2]
   rw [eT] at hm
   rw [eB] at hm b0 b2
   exact au (x_call b c_l_made (aa (av (av (ae 1) af (bj (by decide))) af d8) (aa (av af (av (av (ae 1) af (bf (mkD (by decide) (by decide)))) af (bj (by decide))) aZ) ag)) ⟨_,_,nmQ kd p,rfl,b0,b2,hm,rfl⟩) rfl
end
theorem atR {row:List Int} {j:Nat} (h:j < row.length):atI (row.map D.int) (j:Int)=some (.int (row.getD j 0)):=bK (i:=(j:Int)) (by omega) (by omega)
noncomputable def tlB (kd:Nat):Int:=if kd=0 then 114 else if kd=1 then 5 else if kd=2 then 60 else 2 * 10 ^ 40 * 10 ^ 40
noncomputable def tlP (c:Int) (n kd:Nat):List Int:=nums c (List.replicate n (tlB kd))
noncomputable def tlM (c:Int) (R C kd:Nat):List (List Rat):=(List.range R).map λi=>(List.range C).map λj=>nmQ kd ((tlP c (R * C) kd).getD (C * i + j) 0)
theorem wC {kd:Nat} (h:kd < 4):atI [D.int 114,.int 5,.int 60,.int (2 * 10 ^ 40 * 10 ^ 40)] (kd:Int)=some (.int (tlB kd)):=by
 rcases (by omega:kd=0\/kd=1\/kd=2\/kd=3) with rfl | rfl | rfl | rfl <;> rfl
theorem tI {kd:Nat}:0 < tlB kd/\aG (tlB kd):=by
 unfold tlB
 split
 · exact k6 (by decide) (by decide)
 · split
   · exact k6 (by decide) (by decide)
   · split
     · exact k6 (by decide) (by decide)
     · exact ⟨by decide,(show Bd 280 ((2:Int) * 10 ^ 40 * 10 ^ 40) by unfold Bd; decide +kernel).aG (by decide) (by decide)⟩
theorem uM {c:Int} {R C kd:Nat} (h1:1<=R) (h2:R<=7) (h3:1<=C) (h4:C<=7):Tq R C (tlM c R C kd):=⟨h1,h2,h3,h4,by simp [tlM],λr hr=>by
 unfold tlM at hr
 obtain ⟨i,_,rfl⟩:=List.mem_map.mp hr
 simp⟩
noncomputable def gH (ds:List D) (r:Sl):Prop:=∃ (c:Int) (R C kd:Nat),ds=[.int c,.int (R:Nat),.int (C:Nat),.int (kd:Nat)]/\R<=7/\C<=7/\kd < 4/\r=.o ((tlM c R C kd).map rwQ)
section
variable {P:Program} {w:World} {K:PySem.W.Frag} {mg:Str->Option Value} {base:Heap} {k:Nat} {f:Addr} {fd:FuncData} {qual:Str}
set_option maxHeartbeats 4000000 in
theorem mJ (F:Fun K "_law_table" qual (top 90) f fd) (hb:∀ x ∈ aj,mg x=none) (c_l_numbers:Cal P w K mg base k "_law_numbers" bx) (c_l_number:Cal P w K mg base k "_law_number" fB):aJ P w K mg base CX0 (k + 1) f fd ["_law_cell_here","_law_many","_law_wide","_law_kind"] (spD K gH):=by
 refine fnD F ir hb (by rintro _ _ ⟨_,_,_,_,rfl,_⟩; rfl) ?_
 rintro _ _ ⟨c,R,C,kd,rfl,r7,c7,k4,rfl⟩ cdv A outer s H E b
 have nd:=ir.nd
 have rc:R * C<=49:=Nat.mul_le_mul r7 c7
 have eRC:(R:Int) * (C:Int)=((R * C:Nat):Int):=by rw [Int.natCast_mul]
 refine aE 4 nd (ar (aQ (bG (aa af (aa af (aa af (aa (av (av af (av af af (gY ⟨by decide,by decide,by decide⟩)) (a4 (mkL (by decide)))) (av af af (gY ⟨by decide,by decide,by decide⟩)) (a4 m40)) ag)))))) (ae 3) (aP (wC k4))) ?_
 refine aE 5 nd (aQ (x_call b c_l_numbers (aa (ae 0) (aa (aQ (cA (cmp 0 (f:=λ_=>.int (tlB kd)) b (eK (n:=((R * C:Nat):Int)) b (by rw [<- eRC]; exact av (ae 1) (ae 2) (a4 (mkL (by omega)))) (by omega) (by omega)) dP (by rw [aC]; omega) λi hi s0 H0 fp=>(ae 1)))) ag)) ⟨c,List.replicate (R * C) (tlB kd),?_,?_,?_,rfl⟩)) ?_
 · rw [aC,Int.toNat_natCast,List.map_replicate]
   refine congrArg (λl=>[D.int c,D.lst l]) (List.ext_getElem (by simp) λi h1 h2=>by simp)
 · rw [List.length_replicate]; omega
 · intro x hx
   rw [(List.mem_replicate.mp hx).2]
   exact tI
 have lp:(tlP c (R * C) kd).length=R * C:=by unfold tlP; rw [eS,List.length_replicate]
 refine au (cA (cmp 0 (f:=λi=>rwQ ((List.range C).map λj=>nmQ kd ((tlP c (R * C) kd).getD (C * i + j) 0))) b (eK b (ae 1) (by omega) (by omega)) dP (by rw [aC]; omega) λi hi s0 H0 fp=>?_)) ?_
 · rw [aC,Int.toNat_natCast] at hi
   refine aQ (cA (cmp 0 (f:=λj=>frD (nmQ kd ((tlP c (R * C) kd).getD (C * i + j) 0))) (b.comp s0 H0 _ fp) (eK (b.comp s0 H0 _ fp) (ae 3) (by omega) (by omega)) dP (by rw [aC]; omega) λj hj s1 H1 fp1=>?_)) ?_
   · rw [aC,Int.toNat_natCast] at hj
     have h1:C * i + j < R * C:=by
       have:C * (i + 1)<=C * R:=Nat.mul_le_mul_left _ (by omega)
       rw [Nat.mul_succ,Nat.mul_comm C R] at this
       omega
     have e:(C:Int) * (i:Int) + (j:Int)=((C * i + j:Nat):Int):=by rw [Int.natCast_add,Int.natCast_mul]
     refine x_call ((b.comp s0 H0 _ fp).comp s1 H1 _ fp1) c_l_number (aa (ae 2) (aa (ar (ae 3) (av (av (ae 4) (ae 1) (a4 (mkL (by omega)))) (ae 0) aZ) (aP ?_)) ag)) ⟨kd,_,rfl,k4,rfl⟩
     rw [e]
     exact atR (show C * i + j < (tlP c (R * C) kd).length by rw [lp]; exact h1)
   · rw [aC,Int.toNat_natCast]
     refine congrArg (λl=>some (D.lst l)) ?_
     rw [List.map_map]
     rfl
 · unfold tlM
   rw [aC,Int.toNat_natCast,List.map_map]
   rfl
end
noncomputable def ni (ds:List D) (r:Sl):Prop:=∃ ns:List Int,ns.length<=63/\ds=[.lst (ns.map .int)]/\r=.d (.bl true)
noncomputable def sk:List Int:=[4,4,10 ^ 12,114,10 ^ 20]
theorem nU:∀ b ∈ sk,0 < b/\aG b:=λb hb=>by
 have:b=10 ^ 20\/(0 < b/\b < 2 ^ 60):=by revert b; decide +kernel
 rcases this with rfl | h
 · exact ⟨by decide,(show Bd 100 ((10:Int) ^ 20) by unfold Bd; decide +kernel).aG (by decide) (by decide)⟩
 · exact k6 h.1 h.2
theorem w5 {ps:List Int} (h:ps.length=5):∃ p0 p1 p2 p3 p4,ps=[p0,p1,p2,p3,p4]:=by
 match ps,h with
 | [p0,p1,p2,p3,p4],_=>exact ⟨p0,p1,p2,p3,p4,rfl⟩
theorem wa {R C:Nat} {M:List (List Rat)} (t:Tq R C M):om (.lst [tbQ M])=false:=by
 have r1:=t.r1
 cases M with
 | nil=>have:=t.len; simp at this; omega
 | cons r M=>
   have:dj (tbQ (r :: M))=false:=by
     show (gj (.lst (rwQ r :: M.map rwQ)) && (dW (rwQ r) && ((M.map rwQ).map dW).all id))=false
     rw [show dW (rwQ r)=false from rfl,Bool.false_and,Bool.and_false]
   unfold om
   simp [this]
theorem qv {T R C:Nat} {ss:List Stp} (ok:okL T R C ss):Tq R C (bR C R (fwd ss)):=by
 have:=ok.r1
 have:=ok.rT
 have:=ok.c1
 have:=ok.cT
 have:=ok.t7
 refine ⟨by omega,by omega,by omega,by omega,by simp [bR],λr hr=>?_⟩
 unfold bR at hr
 obtain ⟨i,_,rfl⟩:=List.mem_map.mp hr
 simp
section
variable {P:Program} {w:World} {K:PySem.W.Frag} {mg:Str->Option Value} {base:Heap} {k:Nat} {f:Addr} {fd:FuncData} {qual:Str}
set_option maxHeartbeats 2000000 in
theorem uO (F:Fun K "law" qual (top 102) f fd) (hb:∀ x ∈ aj,mg x=none) (c_l_numbers:Cal P w K mg base k "_law_numbers" bx) (c_l_table:Cal P w K mg base k "_law_table" gH) (c_l_odd:Cal P w K mg base k "_law_odd" jY) (c_l_drawn:Cal P w K mg base k "_law_drawn" gO) (c_l_ladders_table:Cal P w K mg base k "_law_ladders_table" bL) (c_l_changed:Cal P w K mg base k "_law_changed" ek) (c_l_cell:Cal P w K mg base k "_law_cell" i5) (c_l_refusal:Cal P w K mg base k "_law_refusal" eh):aJ P w K mg base CX0 (k + 1) f fd ["_law_script"] (spD K ni):=by
 refine fnD F qj hb (by rintro _ _ ⟨_,_,rfl,_⟩; rfl) ?_
 rintro _ _ ⟨ns,hn,rfl,rfl⟩ cdv A outer s H E b
 have nd:=qj.nd
 have ex:∃ ms:List Int,ms.length<=64/\[D.int (ns.getD 0 0)]++Hy.cutD (ns.map D.int) (some 1) (some 12)=ms.map D.int:=by
   refine ⟨ns.getD 0 0 :: ((ns.take 12).drop 1),by simp; omega,?_⟩
   rw [show (1:Int)=((1:Nat):Int) from rfl,show (12:Int)=((12:Nat):Int) from rfl,rE,<- List.map_take,<- List.map_drop]
   rfl
 obtain ⟨ms,hms,ems⟩:=ex
 refine qm 1 2 (g:=λi=>.int (i:Nat)) (g':=λi=>.int (ms.getD i 0)) (λi τ=>∃ s1 s2 s3 s4 s5 s6 s7 s8 s9,τ=[.d (.lst (ns.map .int)),s1,s2,s3,s4,s5,s6,s7,s8,s9]) b nd (sQ b (aQ (fh (aQ (bG (aa (x_call b c_l_cell (aa (ae 0) (aa af ag)) ⟨ns,0,rfl,rfl⟩) ag))) (aQ (oz (ae 0) (fD af) (fD af))) ?_))) ?_ ⟨.un,.un,.un,.un,.un,.un,.un,.un,.un,rfl⟩ (λi hi τ h=>?_) λτ h=>?_
 · have:=congrArg List.length ems
   rw [List.length_append,List.length_map] at this
   show [D.int (ns.getD 0 0)].length + _ < _
   omega
 · intro i h
   show (ji ([D.int (ns.getD 0 0)]++Hy.cutD (ns.map D.int) (some 1) (some 12)))[i]=_
   simp only [ems]
   exact sX i _
 · obtain ⟨s1,s2,s3,s4,s5,s6,s7,s8,s9,rfl⟩:=h
   generalize ms.getD i 0=c
   refine aE 3 nd (aQ (x_call b c_l_numbers (aa (av (ae 2) (av af (ae 1) (a4 (mkL (by decide)))) aZ) (aa (aQ (bG (aa af (aa af (aa (av af af (gY ⟨by decide,by decide,by decide⟩)) (aa af (aa (av af af (gY ⟨by decide,by decide,by decide⟩)) ag))))))) ag)) ⟨_,sk,rfl,by decide,nU,rfl⟩)) ?_
   generalize c + 13 * (i:Int)=c2
   have l5:(nums c2 sk).length=5:=eS ..
   have lt:=λi (h:i < 5)=>fV (c:=c2) (λb hb=>(nU b hb).1) (i:=i) h
   generalize nums c2 sk=ps at l5 lt
   obtain ⟨p0,p1,p2,p3,p4,rfl⟩:=w5 l5
   have t0:0<=p0/\p0 < 4:=lt 0 (by decide)
   have t1:0<=p1/\p1 < 4:=lt 1 (by decide)
   clear lt l5
   obtain ⟨R,eR,R1,R4⟩:∃ R:Nat,1 + p0=(R:Nat)/\1<=R/\R < 5:=⟨(1 + p0).toNat,by omega,by omega,by omega⟩
   obtain ⟨C,eC,C1,C4⟩:∃ C:Nat,1 + p1=(C:Nat)/\1<=C/\C < 5:=⟨(1 + p1).toNat,by omega,by omega,by omega⟩
   refine aE 4 nd (aQ (x_call b c_l_table (aa (ar (ae 3) af (aP (ah (i:=2) rfl))) (aa (av af (ar (ae 3) af (aP (ah (i:=0) rfl))) aZ) (aa (av af (ar (ae 3) af (aP (ah (i:=1) rfl))) aZ) (aa af ag)))) ⟨p2,R,C,2,by rw [eR,eC]; rfl,by omega,by omega,by omega,rfl⟩)) ?_
   have t:=uM (c:=p2) (R:=R) (C:=C) (kd:=2) R1 (by omega) C1 (by omega)
   generalize tlM p2 R C 2=M at t ⊢
   refine gz 5 nd (s:=.d (tbQ M)) (cmp 0 (g:=λi=>rwQ (M.getD i [])) (f:=λi=>rwQ (M.getD i [])) b (bo (ae 4)) (nO (f:=rwQ) (xs:=M) []) (by rw [List.length_map,t.len]; omega) λi hi s0 H0 fp=>aQ (rD (b.comp s0 H0 _ fp) (aa (ae 0) ag) qT)) (.inr ?_) ?_
   · refine congrArg (λl=>Sl.d (D.lst l)) (rX rwQ M [] (List.length_map ..)).symm
   have e0:atI (M.map rwQ) 0=some (rwQ (M.getD 0 [])):=eI [] (i:=0) (by rw [t.len]; omega)
   refine aE 6 nd (x_call b c_l_odd (aa (ae 2) (aa (aW b (aa (ae 4) ag) (e7 (n:=R) (by rw [List.length_map]; exact t.len))) (aa (aW b (aa (ar (ae 4) af (aP e0)) ag) (e7 (n:=C) (by rw [List.length_map]; exact t.at_ (by omega)))) ag))) ⟨c,R,C,rfl,by omega,rfl⟩) ?_
   have fm34:=fm (a:=c) (b:=34) (by decide)
   have no:=wd R R4 C C4 R1 C1 (c.fmod 34).toNat (by omega)
   generalize (mB R C).getD (c.fmod 34).toNat .non=od at no ⊢
   refine bQ (PW.pt (a8 (aH (x_call b c_l_refusal (aa (ae 4) (aa (ae 6) ag)) ⟨8,.inr rfl,⟨_,_,rfl,.inr ⟨R,C,M,rfl,t,.inl no,rfl⟩⟩,rfl⟩) aN kW) λh=>(a8 (aH (x_call b c_l_refusal (aa (aQ (bG (aa (ae 4) ag))) (aa (ae 6) ag)) ⟨1,.inl rfl,⟨_,_,rfl,.inl ⟨wa t,rfl⟩⟩,rfl⟩) aN kW) λh=>(bC (aH (ae 4) (ae 5) (p6 b (gD M) (gD M))))))) ?_ ?_
   · rw [decide_eq_true (show wordOf 8 = "NoPaper" from rfl),decide_eq_true (show wordOf 1 = "NoTable" from rfl),lB]
     rfl
   refine aE 7 nd (x_call b c_l_drawn (aa (av (ae 2) af aZ) (aa (ar (ae 3) af (aP (ah (i:=4) rfl))) (aa af (aa af ag)))) ⟨8,c + 5,p4,0,rfl,by decide,by decide,rfl⟩) ?_
   obtain ⟨ok,_,l8⟩:=vO (m:=8) (c + 5) p4 (g:=0) (by decide) (by decide)
   have hw:=wg (m:=8) (c + 5) p4
   generalize drS 8 (c + 5) p4 0=ss at ok l8 hw ⊢
   generalize drT 8 (c + 5)=T at ok ⊢
   generalize drR 8 (c + 5)=R' at ok ⊢
   generalize drC 8 (c + 5)=C' at ok ⊢
   refine aE 8 nd (aQ (x:=fO (bR C' R' (fwd ss))) (x_call b c_l_ladders_table (aa (ae 7) ag) ⟨3,T,R',C',ss,rfl,ok,hw,by omega,by decide,rfl⟩) (congrArg some (nE ok))) ?_
   refine aE 9 nd (x_call b c_l_changed (aa (ae 7) (aa (av (ae 2) af aZ) ag)) ⟨c + 9,T,R',C',ss,rfl,ok,rfl⟩) ?_
   obtain ⟨ok2,hw2,l2⟩:=vW (c:=c + 9) ok hw
   generalize cgS (c + 9) ss=ss2 at ok2 hw2 l2 ⊢
   generalize cgR (c + 9) T R'=R2 at ok2 ⊢
   generalize cgC (c + 9) T C'=C2 at ok2 ⊢
   refine bQ (PW.pt (pH (aH (aQ (x:=fO (bR C2 R2 (fwd ss2))) (x_call b c_l_ladders_table (aa (ae 9) ag) ⟨3,T,R2,C2,ss2,rfl,ok2,hw2,by omega,by decide,rfl⟩) (congrArg some (nE ok2))) (ae 8) (p6 b (gD _) (gD _))) λh=>(mD (aH (x_call b c_l_refusal (aa (ae 8) (aa (bH (aa aN (aa (ae 9) ag))) ag)) ⟨8,.inr rfl,⟨_,_,rfl,.inr ⟨R',C',bR C' R' (fwd ss),rfl,qv ok,.inr ⟨_,rfl,.inr ⟨3,T,R2,C2,ss2,rfl,ok2,hw2,by omega,by decide,?_⟩⟩,rfl⟩⟩,rfl⟩) aN kW)))) ?_ (aX ⟨_,_,_,_,_,_,_,_,_,rfl⟩)
   · have h:(!Ev.eqD (fO (bR C2 R2 (fwd ss2))) (fO (bR C' R' (fwd ss))))=true:=h
     show Ev.eqD (fO (bR C2 R2 (fwd ss2))) (fO (bR C' R' (fwd ss)))=false
     simpa using h
   · rw [decide_eq_true (show wordOf 8 = "NoPaper" from rfl)]
     exact Bool.and_false _
 · obtain ⟨s1,s2,s3,s4,s5,s6,s7,s8,s9,rfl⟩:=h
   exact au b5 rfl
end
end K44
namespace K44
open PySem PySem.Spec PyProof.Rows L2 Hy
set_option maxHeartbeats 0 in
theorem all_mk {l:PySem.W.OpenLaw} {w:World} {K:PySem.W.Frag} {h:Heap} {mg:Str->Option Value} {fa f0 f1 f2 f3 f4 f5 f6 f7 f8 f9 f10 f11 f12 f13 f14 f15 f16 f17 f18 f19 f20 f21 f22 f23 f24 f25 f26 f27 f28 f29 f30 f31 f32 f33 f34 f35 f36 f37 f38 f39 f40 f41 f42 f43 f44 f45 f46 f47 f48 f49 f50 f51 f52 f53 f54 f55 f56 f57 f58 f59 f60 f61 f62 f63 f64 f65 f66 f67 f68 f69 f70 f71 f72:Addr} {t0 t1:Tok} {SM C0 C1 C2 C3 C4 C5 C6 C7 C8 C9 C10 C11 C12 C13 C14 C15 C16 C17 C18:Addr} (X:K.In h) (G:h.Ns mainGlobals mg) (hfa:mg "law" = some (.ref fa))
   (h0:Dfn K "_law_numbers" (top 86) f0) (h1:Dfn K "_law_divisor" (top 87) f1) (h2:Dfn K "_law_made" (top 88) f2) (h3:Dfn K "_law_number" (top 89) f3) (h4:Dfn K "_law_table" (top 90) f4) (h5:Dfn K "_law_odd" (top 99) f5) (h6:Dfn K "_law_sizes" (top 97) f6) (h7:Dfn K "_law_ten" (top 84) f7) (h8:Dfn K "_law_weight" (top 92) f8) (h9:Dfn K "_law_ladder" (top 93) f9) (h10:Dfn K "_law_drawn" (top 98) f10) (h11:Dfn K "_law_times" (top 95) f11) (h12:Dfn K "_law_plus" (top 94) f12) (h13:Dfn K "_law_ladders_table" (top 96) f13) (h14:Dfn K "_law_changed" (top 101) f14) (h15:Dfn K "_law_cell" (top 85) f15) (h16:Dfn K "is_short_list" (top 31) f16) (h17:Dfn K "is_whole" (top 22) f17) (h18:Dfn K "common_divisor" (top 25) f18) (h19:Dfn K "is_fraction" (top 24) f19) (h20:Dfn K "is_row" (top 32) f20) (h21:Dfn K "is_table" (top 33) f21) (h22:Dfn K "look_table" (top 36) f22) (h23:Dfn K "is_between" (top 23) f23) (h24:Dfn K "is_weight" (top 58) f24) (h25:Dfn K "is_step" (top 59) f25) (h26:Dfn K "is_ladder" (top 60) f26) (h27:Dfn K "look_ladder" (top 61) f27) (h28:Dfn K "column_of" (top 41) f28) (h29:Dfn K "columns_of" (top 40) f29) (h30:Dfn K "first_sums" (top 65) f30) (h31:Dfn K "shared_divisor" (top 26) f31) (h32:Dfn K "weighed_sums" (top 67) f32) (h33:Dfn K "added_sums" (top 68) f33) (h34:Dfn K "in_lowest_terms" (top 27) f34) (h35:qr K "fraction" (top 28) f35 (1)) (h36:Dfn K "told_sums" (top 66) f36) (h37:Dfn K "rung_end" (top 63) f37) (h38:Dfn K "rung_start" (top 62) f38) (h39:Dfn K "table_of" (top 64) f39) (h40:Dfn K "shows_ladder" (top 80) f40) (h41:Dfn K "look_row" (top 70) f41) (h42:Dfn K "whole_row" (top 47) f42) (h43:Dfn K "whole_rows" (top 48) f43) (h44:Dfn K "scale_of" (top 46) f44) (h45:Dfn K "sum_of_products" (top 55) f45) (h46:Dfn K "product_row" (top 54) f46) (h47:Dfn K "product" (top 53) f47) (h48:Dfn K "behind" (top 75) f48) (h49:Dfn K "sign_of" (top 71) f49) (h50:Dfn K "signs_of" (top 72) f50) (h51:Dfn K "least_changes" (top 73) f51) (h52:Dfn K "first_sign" (top 74) f52) (h53:Dfn K "tells_against" (top 76) f53) (h54:Dfn K "shows_row" (top 82) f54) (h55:Dfn K "is_rising" (top 35) f55) (h56:Dfn K "is_choice" (top 34) f56) (h57:Dfn K "look_choices" (top 37) f57) (h58:Dfn K "look_square" (top 45) f58) (h59:Dfn K "pivot_place" (top 51) f59) (h60:Dfn K "cleared" (top 52) f60) (h61:Dfn K "whole_determinant" (top 50) f61) (h62:Dfn K "product_of_all" (top 49) f62) (h63:Dfn K "square_determinant" (top 44) f63) (h64:Dfn K "picked" (top 38) f64) (h65:Dfn K "chosen" (top 39) f65) (h66:Dfn K "minor" (top 43) f66) (h67:Dfn K "shows_below" (top 81) f67) (h68:Dfn K "is_let_by" (top 79) f68) (h69:Dfn K "look_paper" (top 78) f69) (h70:Dfn K "_law_word" (top 91) f70) (h71:Dfn K "_law_refusal" (top 100) f71) (h72:Dfn K "law" (top 102) f72) (hz:nsL K aj) (z0:PySem.W.nsIn K mainGlobals "MOST" = some (some (.int 7 t0))) (z1:PySem.W.nsIn K mainGlobals "MOST_STEPS" = some (some (.int 400 t1))) (aS:PySem.W.nsIn K mainGlobals "SmoothError" = some (some (.ref SM))) (SS:sf K SM) (zV:PySem.W.nsIn K mainGlobals "ValueError" = some none) (gG:PySem.W.specialIn K (.builtin "object.__class__") "__get__" = some (some (.builtin "getset_descriptor.__get__"))) (gT:PySem.W.takesIn K (.builtin "object.__class__")=some true) (NN:Nss K ["NoFraction","NoTable","NoChoice","NoSquare","NoFit","NoUndoing","NoLadder","TooMany","NoPaper","NoRow","NoStairs","NoNumber","NoCorner","NoName","NoStep","NoWeight","NoDeed","NoText","NoWord"] [C0,C1,C2,C3,C4,C5,C6,C7,C8,C9,C10,C11,C12,C13,C14,C15,C16,C17,C18]) (TT:Tys K [C0,C1,C2,C3,C4,C5,C6,C7,C8,C9,C10,C11,C12,C13,C14,C15,C16,C17,C18]) (r1:qD K SM C1) (u1:Off K C1 [C0]) (v1:Off K C1 [C2,C3,C4,C5,C6,C7,C8,C9,C10,C11,C12,C13,C14,C15,C16,C17,C18]) (r8:qD K SM C8) (u8:Off K C8 [C0,C1,C2,C3,C4,C5,C6,C7]) (v8:Off K C8 [C9,C10,C11,C12,C13,C14,C15,C16,C17,C18]) :
   ∃ fd:FuncData,(∀ (s:Shared) (v:Value),BindsTo s fd ⟨[v],[]⟩ [("_law_script",v)])/\∀ base:Heap,K.In base->base.Ns mainGlobals mg->aJ l.prog w K mg base CX0 12 fa fd ["_law_script"] (spD K ni):=by
 have hb:=hz.none X G
 have y_MOST:∃ t,mg "MOST" = some (.int 7 t):=⟨_,PySem.W.mg_of X G z0⟩
 have y_MOST_STEPS:∃ t,mg "MOST_STEPS" = some (.int 400 t):=⟨_,PySem.W.mg_of X G z1⟩
 obtain ⟨cl,Z⟩:∃ cl,Cls K mg cl [1,8]:=wH X G aS SS zV gG gT NN (by decide) TT rfl (by
   intro c hc
   simp only [List.mem_cons,List.not_mem_nil,or_false] at hc
   rcases hc with rfl | rfl
   · exact ⟨by decide,r1,u1,v1⟩
   · exact ⟨by decide,r8,u8,v8⟩)
 obtain ⟨a,⟨oc,od,kV,dc,pm,an,cd,ct,sl,l0,c⟩,r⟩:=h72
 cases hfa.symm.trans (PySem.W.mg_of X G a)
 refine ⟨PySem.W.fnOf "law" "law" (bO (top 102)) (bp (top 102)) (ai (top 102)) .none kV dc pm an cd ct,λs v=>.of_eq rfl,λbase _ _=>?_⟩
 have c_l_numbers:Cal l.prog w K mg base 1 "_law_numbers" bx:=h0.cal (ps:=["_law_cell_here","_law_bases"]) X G (λ_ _ _ _ _ _=>Hy.bd2 λ_ _=>rfl) λ_ F=>kN (k:=0) F hb
 have c_l_divisor:Cal l.prog w K mg base 1 "_law_divisor" eQ:=h1.cal (ps:=["_law_one","_law_other"]) X G (λ_ _ _ _ _ _=>Hy.bd2 λ_ _=>rfl) λ_ F=>kG (k:=0) F hb
 have c_l_made:Cal l.prog w K mg base 2 "_law_made" cN:=h2.cal (ps:=["_law_top","_law_bottom"]) X G (λ_ _ _ _ _ _=>Hy.bd2 λ_ _=>rfl) λ_ F=>oW (k:=1) F hb c_l_divisor
 have c_l_number:Cal l.prog w K mg base 3 "_law_number" fB:=h3.cal (ps:=["_law_kind","_law_part"]) X G (λ_ _ _ _ _ _=>Hy.bd2 λ_ _=>rfl) λ_ F=>lA (k:=2) F hb c_l_made
 have c_l_table:Cal l.prog w K mg base 4 "_law_table" gH:=h4.cal (ps:=["_law_cell_here","_law_many","_law_wide","_law_kind"]) X G (λ_ _ _ _ _ _=>Hy.bd4 λ_ _ _ _=>rfl) λ_ F=>mJ (k:=3) F hb (c_l_numbers.mono (by decide)) c_l_number
 have c_l_odd:Cal l.prog w K mg base 1 "_law_odd" jY:=h5.cal (ps:=["_law_cell_here","_law_many","_law_wide"]) X G (λ_ _ _ _ _ _=>Hy.bd3 λ_ _ _=>rfl) λ_ F=>pW (k:=0) F hb
 have c_l_sizes:Cal l.prog w K mg base 2 "_law_sizes" gy:=h6.cal (ps:=["_law_cell_here","_law_most"]) X G (λ_ _ _ _ _ _=>Hy.bd2 λ_ _=>rfl) λ_ F=>ma (k:=1) F hb c_l_numbers
 have c_l_ten:Cal l.prog w K mg base 1 "_law_ten" ij:=h7.cal (ps:=["_law_many"]) X G (λ_ _ _ _ _ _=>Hy.bd1 λ_=>rfl) λ_ F=>pj (k:=0) F hb
 have c_l_weight:Cal l.prog w K mg base 3 "_law_weight" c3:=h8.cal (ps:=["_law_part","_law_figures"]) X G (λ_ _ _ _ _ _=>Hy.bd2 λ_ _=>rfl) λ_ F=>lI (k:=2) F hb c_l_made (c_l_ten.mono (by decide))
 have c_l_ladder:Cal l.prog w K mg base 4 "_law_ladder" fv:=h9.cal (ps:=["_law_cell_here","_law_tracks","_law_rows","_law_columns","_law_many","_law_figures"]) X G (λ_ _ _ _ _ _=>Hy.bd6 λ_ _ _ _ _ _=>rfl) λ_ F=>kP (k:=3) F hb (c_l_numbers.mono (by decide)) c_l_weight (c_l_ten.mono (by decide))
 have c_l_drawn:Cal l.prog w K mg base 5 "_law_drawn" gO:=h10.cal (ps:=["_law_one","_law_other","_law_most","_law_figures"]) X G (λ_ _ _ _ _ _=>Hy.bd4 λ_ _ _ _=>rfl) λ_ F=>lY (k:=4) F hb (c_l_sizes.mono (by decide)) c_l_ladder
 have c_l_times:Cal l.prog w K mg base 3 "_law_times" gK:=h11.cal (ps:=["_law_one","_law_other"]) X G (λ_ _ _ _ _ _=>Hy.bd2 λ_ _=>rfl) λ_ F=>l9 (k:=2) F hb c_l_made
 have c_l_plus:Cal l.prog w K mg base 3 "_law_plus" iM:=h12.cal (ps:=["_law_one","_law_other"]) X G (λ_ _ _ _ _ _=>Hy.bd2 λ_ _=>rfl) λ_ F=>oI (k:=2) F hb c_l_made
 have c_l_ladders_table:Cal l.prog w K mg base 4 "_law_ladders_table" bL:=h13.cal (ps:=["_law_ladder_here"]) X G (λ_ _ _ _ _ _=>Hy.bd1 λ_=>rfl) λ_ F=>fE (k:=3) F hb c_l_times c_l_plus
 have c_l_changed:Cal l.prog w K mg base 4 "_law_changed" ek:=h14.cal (ps:=["_law_ladder_here","_law_cell_here"]) X G (λ_ _ _ _ _ _=>Hy.bd2 λ_ _=>rfl) λ_ F=>kh (k:=3) F hb (c_l_numbers.mono (by decide)) c_l_weight
 have c_l_cell:Cal l.prog w K mg base 1 "_law_cell" i5:=h15.cal (ps:=["_law_script","_law_k"]) X G (λ_ _ _ _ _ _=>Hy.bd2 λ_ _=>rfl) λ_ F=>oQ (k:=0) F hb
 have c_is_short_list:Cal l.prog w K mg base 1 "is_short_list" bD:=h16.cal (ps:=["thing"]) X G (λ_ _ _ _ _ _=>Hy.bd1 λ_=>rfl) λ_ F=>gF (k:=0) F hb y_MOST
 have c_is_short_list2:Cal l.prog w K mg base 1 "is_short_list" bA:=h16.cal (ps:=["thing"]) X G (λ_ _ _ _ _ _=>Hy.bd1 λ_=>rfl) λ_ F=>gu (k:=0) F hb y_MOST
 have c_is_whole:Cal l.prog w K mg base 1 "is_whole" bF:=h17.cal (ps:=["thing"]) X G (λ_ _ _ _ _ _=>Hy.bd1 λ_=>rfl) λ_ F=>lL (k:=0) F hb
 have c_common_divisor:Cal l.prog w K mg base 1 "common_divisor" aT:=h18.cal (ps:=["one","other"]) X G (λ_ _ _ _ _ _=>Hy.bd2 λ_ _=>rfl) λ_ F=>gp (k:=0) F hb
 have c_is_fraction:Cal l.prog w K mg base 2 "is_fraction" bt:=h19.cal (ps:=["thing"]) X G (λ_ _ _ _ _ _=>Hy.bd1 λ_=>rfl) λ_ F=>i3 (k:=1) F hb c_is_whole c_common_divisor
 have c_is_row:Cal l.prog w K mg base 3 "is_row" iw:=h20.cal (ps:=["thing"]) X G (λ_ _ _ _ _ _=>Hy.bd1 λ_=>rfl) λ_ F=>ot (k:=2) F hb (c_is_short_list.mono (by decide)) c_is_fraction
 have c_is_row2:Cal l.prog w K mg base 3 "is_row" eV:=h20.cal (ps:=["thing"]) X G (λ_ _ _ _ _ _=>Hy.bd1 λ_=>rfl) λ_ F=>mm (k:=2) F hb  (c_is_short_list2.mono (by decide)) (c_is_fraction.mono (by decide))
 have c_is_table:Cal l.prog w K mg base 4 "is_table" ft:=h21.cal (ps:=["thing"]) X G (λ_ _ _ _ _ _=>Hy.bd1 λ_=>rfl) λ_ F=>lb (k:=3) F hb (c_is_short_list.mono (by decide)) c_is_row
 have c_is_table2:Cal l.prog w K mg base 4 "is_table" d9:=h21.cal (ps:=["thing"]) X G (λ_ _ _ _ _ _=>Hy.bd1 λ_=>rfl) λ_ F=>kL (k:=3) F hb  (c_is_short_list2.mono (by decide)) (c_is_row2.mono (by decide))
 have c_look_table:Cal l.prog w K mg base 5 "look_table" dz:=h22.cal (ps:=["thing"]) X G (λ_ _ _ _ _ _=>Hy.bd1 λ_=>rfl) λ_ F=>jg (k:=4) F hb c_is_table
 have x_look_table:kJ l.prog w K mg base cl 5 "look_table" pP:=h22.vL (ps:=["thing"]) X G (λ_ _ _ _ _ _=>Hy.bd1 λ_=>rfl) λ_ F=>jq (k:=4) F hb Z (by decide) (c_is_table2.mono (by decide))
 have c_is_between:Cal l.prog w K mg base 2 "is_between" b8:=h23.cal (ps:=["thing","least","most"]) X G (λ_ _ _ _ _ _=>Hy.bd3 λ_ _ _=>rfl) λ_ F=>jm (k:=1) F hb c_is_whole
 have c_is_betweenA:Cal l.prog w K mg base 2 "is_between" bN:=h23.cal (ps:=["thing","least","most"]) X G (λ_ _ _ _ _ _=>Hy.bd3 λ_ _ _=>rfl) λ_ F=>iT (k:=1) F hb  (c_is_whole.mono (by decide))
 have c_is_weight:Cal l.prog w K mg base 3 "is_weight" eJ:=h24.cal (ps:=["thing"]) X G (λ_ _ _ _ _ _=>Hy.bd1 λ_=>rfl) λ_ F=>j5 (k:=2) F hb c_is_fraction
 have c_is_weight2:Cal l.prog w K mg base 3 "is_weight" dn:=h24.cal (ps:=["thing"]) X G (λ_ _ _ _ _ _=>Hy.bd1 λ_=>rfl) λ_ F=>jf (k:=2) F hb  (c_is_fraction.mono (by decide))
 have c_is_step:Cal l.prog w K mg base 4 "is_step" gx:=h25.cal (ps:=["thing","tracks"]) X G (λ_ _ _ _ _ _=>Hy.bd2 λ_ _=>rfl) λ_ F=>mE (k:=3) F hb (c_is_between.mono (by decide)) c_is_weight
 have c_is_step2:Cal l.prog w K mg base 4 "is_step" fI:=h25.cal (ps:=["thing","tracks"]) X G (λ_ _ _ _ _ _=>Hy.bd2 λ_ _=>rfl) λ_ F=>lD (k:=3) F hb  (c_is_betweenA.mono (by decide)) (c_is_weight2.mono (by decide))
 have c_is_ladder:Cal l.prog w K mg base 5 "is_ladder" cD:=h26.cal (ps:=["thing"]) X G (λ_ _ _ _ _ _=>Hy.bd1 λ_=>rfl) λ_ F=>kx (k:=4) F hb y_MOST y_MOST_STEPS (c_is_between.mono (by decide)) c_is_step
 have c_is_ladder3:Cal l.prog w K mg base 5 "is_ladder" di:=h26.cal (ps:=["thing"]) X G (λ_ _ _ _ _ _=>Hy.bd1 λ_=>rfl) λ_ F=>jk (k:=4) F hb y_MOST y_MOST_STEPS (c_is_betweenA.mono (by decide)) (c_is_step2.mono (by decide))
 have c_look_ladder:Cal l.prog w K mg base 6 "look_ladder" cF:=h27.cal (ps:=["thing"]) X G (λ_ _ _ _ _ _=>Hy.bd1 λ_=>rfl) λ_ F=>iX (k:=5) F hb c_is_ladder
 have c_column_of:Cal l.prog w K mg base 1 "column_of" eN:=h28.cal (ps:=["table","j"]) X G (λ_ _ _ _ _ _=>Hy.bd2 λ_ _=>rfl) λ_ F=>ko (k:=0) F hb
 have c_columns_of:Cal l.prog w K mg base 2 "columns_of" da:=h29.cal (ps:=["table"]) X G (λ_ _ _ _ _ _=>Hy.bd1 λ_=>rfl) λ_ F=>jh (k:=1) F hb c_column_of
 have c_first_sums:Cal l.prog w K mg base 1 "first_sums" dH:=h30.cal (ps:=["track","rows"]) X G (λ_ _ _ _ _ _=>Hy.bd2 λ_ _=>rfl) λ_ F=>jn (k:=0) F hb
 have c_shared_divisor:Cal l.prog w K mg base 2 "shared_divisor" bB:=h31.cal (ps:=["number","others"]) X G (λ_ _ _ _ _ _=>Hy.bd2 λ_ _=>rfl) λ_ F=>fR (k:=1) F hb c_common_divisor
 have c_weighed_sums:Cal l.prog w K mg base 3 "weighed_sums" cw:=h32.cal (ps:=["sums","weight"]) X G (λ_ _ _ _ _ _=>Hy.bd2 λ_ _=>rfl) λ_ F=>g9 (k:=2) F hb (c_common_divisor.mono (by decide)) c_shared_divisor
 have c_added_sums:Cal l.prog w K mg base 3 "added_sums" df:=h33.cal (ps:=["one","other"]) X G (λ_ _ _ _ _ _=>Hy.bd2 λ_ _=>rfl) λ_ F=>jc (k:=2) F hb (c_common_divisor.mono (by decide)) c_shared_divisor
 have c_in_lowest_terms:Cal l.prog w K mg base 2 "in_lowest_terms" bJ:=h34.cal (ps:=["top","bottom"]) X G (λ_ _ _ _ _ _=>Hy.bd2 λ_ _=>rfl) λ_ F=>fH (k:=1) F hb c_common_divisor
 have c_fraction:Cal l.prog w K mg base 3 "fraction" fL:=h35.cal (ps:=["top","bottom"]) X G (λ_ _ _ _ _ _ _ _=>Hy.bd2 λ_ _=>⟨_,rfl,rfl⟩) λ_ F=>k9 (k:=2) F hb c_in_lowest_terms (c_is_whole.mono (by decide))
 have c_told_sums:Cal l.prog w K mg base 4 "told_sums" eG:=h36.cal (ps:=["sums"]) X G (λ_ _ _ _ _ _=>Hy.bd1 λ_=>rfl) λ_ F=>kz (k:=3) F hb c_fraction
 have c_rung_end:Cal l.prog w K mg base 1 "rung_end" fA:=h37.cal (ps:=["step"]) X G (λ_ _ _ _ _ _=>Hy.bd1 λ_=>rfl) λ_ F=>lH (k:=0) F hb
 have c_rung_start:Cal l.prog w K mg base 1 "rung_start" dD:=h38.cal (ps:=["step"]) X G (λ_ _ _ _ _ _=>Hy.bd1 λ_=>rfl) λ_ F=>jl (k:=0) F hb
 have c_table_of:Cal l.prog w K mg base 7 "table_of" fQ:=h39.cal (ps:=["ladder"]) X G (λ_ _ _ _ _ _=>Hy.bd1 λ_=>rfl) λ_ F=>lG (k:=6) F hb c_look_ladder (c_columns_of.mono (by decide)) (c_first_sums.mono (by decide)) (c_weighed_sums.mono (by decide)) (c_added_sums.mono (by decide)) (c_told_sums.mono (by decide)) (c_rung_end.mono (by decide)) (c_rung_start.mono (by decide))
 have c_shows_ladder:Cal l.prog w K mg base 8 "shows_ladder" cv:=h40.cal (ps:=["table","ladder"]) X G (λ_ _ _ _ _ _=>Hy.bd2 λ_ _=>rfl) λ_ F=>hJ (k:=7) F hb  (c_table_of.mono (by decide)) (c_is_ladder.mono (by decide)) (c_is_ladder3.mono (by decide))
 have c_shows_row:Cal l.prog w K mg base 4 "shows_row" dY:=h54.cal (ps:=["table","row"]) X G (λ_ _ _ _ _ _=>Hy.bd2 λ_ _=>rfl) λ_ F=>kF (k:=3) F hb  (c_is_row2.mono (by decide))
 have c_is_rising2:Cal l.prog w K mg base 1 "is_rising" dr:=h55.cal (ps:=["numbers"]) X G (λ_ _ _ _ _ _=>Hy.bd1 λ_=>rfl) λ_ F=>i8 (k:=0) F hb
 have c_is_choice2:Cal l.prog w K mg base 2 "is_choice" dh:=h56.cal (ps:=["thing","many"]) X G (λ_ _ _ _ _ _=>Hy.bd2 λ_ _=>rfl) λ_ F=>js (k:=1) F hb  (c_is_rising2.mono (by decide)) (c_is_whole.mono (by decide))
 have c_shows_below:Cal l.prog w K mg base 3 "shows_below" cJ:=h67.cal (ps:=["table","rows","columns"]) X G (λ_ _ _ _ _ _=>Hy.bd3 λ_ _ _=>rfl) λ_ F=>iQ (k:=2) F hb  (c_is_choice2.mono (by decide))
 have c_is_let_by:Cal l.prog w K mg base 9 "is_let_by" eD:=h68.cal (ps:=["table","paper"]) X G (λ_ _ _ _ _ _=>Hy.bd2 λ_ _=>rfl) λ_ F=>j2 (k:=8) F hb c_shows_ladder (c_shows_row.mono (by decide)) (c_shows_below.mono (by decide))
 have x_look_paper:kJ l.prog w K mg base cl 10 "look_paper" so:=h69.vL (ps:=["table","paper"]) X G (λ_ _ _ _ _ _=>Hy.bd2 λ_ _=>rfl) λ_ F=>jb (k:=9) F hb Z (by decide) (x_look_table.mono (by decide)) (c_look_table.mono (by decide)) (c_is_let_by.mono (by decide))
 obtain ⟨fdw,Fw,mw,kw,bw⟩:=h70.fn (ps:=["_law_e"]) X G (λ_ _ _ _ _ _=>Hy.bd1 λ_=>rfl)
 have Ww:∀ c ∈ [1,8],dq l.prog w K mg base cl 1 f70 c:=λc hc=>oo (k:=0) Fw hb bw Z hc
 have c_l_refusal:Cal l.prog w K mg base 11 "_law_refusal" eh:=h71.cal (ps:=["_law_table_here","_law_paper"]) X G (λ_ _ _ _ _ _=>Hy.bd2 λ_ _=>rfl) λ_ F=>jV (k:=10) F hb Z (by rintro c (rfl | rfl) <;> decide) mw kw (λc hc=>(Ww c hc).mono (by decide)) (x_look_paper.mono (by decide))
 exact uO (k:=11) (l6 l0 c r) hb (c_l_numbers.mono (by decide)) (c_l_table.mono (by decide)) (c_l_odd.mono (by decide)) (c_l_drawn.mono (by decide)) (c_l_ladders_table.mono (by decide)) (c_l_changed.mono (by decide)) (c_l_cell.mono (by decide)) c_l_refusal
theorem walk {l:PySem.W.OpenLaw} {q:Program} {loose:List Str} {XP:(Str->Option Value)->Heap->Prop} {YP:World->Heap->Prop} {d:DefRec} {K:Params->PySem.W.Frag} (hn:l.most=some 63) (hdf:d.params.defaults=[])
   (hY:∀ (w:World) (h:Heap),YP w h->(K w.params).In h)
   (F:∀ (w:World) (mg:Str->Option Value) (fa:Addr) (h:Heap),(K w.params).In h->h.Ns mainGlobals mg->mg d.name=some (.ref fa) ->
     ∃ fd:FuncData,(∀ (s:Shared) (u:Value),BindsTo s fd ⟨[u],[]⟩ [("_law_script",u)])/\∀ base:Heap,(K w.params).In base->base.Ns mainGlobals mg->aJ l.prog w (K w.params) mg base CX0 12 fa fd ["_law_script"] (spD (K w.params) ni)) :
   PySem.W.WalkO q loose XP YP l.row.toRowW d [] (λf vs=>PySem.call f vs):=
 L2.rA (n:=63) (k:=12) (x:="_law_script") (CX:=λ_=>CX0) (sp:=λw=>spD (K w.params) ni) hn (by decide) hdf ⟨rfl,by decide,by decide⟩ hY F
   (λw H a ns hl _ hS=>rP (λns h=>⟨ns,h,rfl,rfl⟩) H a ns hl hS) λ_ _ _ _ _ z=>z
end K44
open PySem PySem.W PyProof.Rows
namespace PySem.W.Fast
theorem tw16176965785959203826:True:=⟨⟩
theorem tw1759555388653451668:True:=⟨⟩
theorem tw13231792519084525885:True:=⟨⟩
theorem tw12402248299153616261:True:=⟨⟩
theorem tw7033564111969629675:True:=⟨⟩
theorem tw7335977797516836062:True:=⟨⟩
theorem tw2159515026361089388:True:=⟨⟩
theorem tw14805884720919980258:True:=⟨⟩
theorem tw3900495573876272890:True:=⟨⟩
theorem tw9671092595648492453:True:=⟨⟩
theorem tw4744486541294982920:True:=⟨⟩
theorem tw10149737651311538903:True:=⟨⟩
theorem tw16200326162390090895:True:=⟨⟩
theorem tw1716786591603850499:True:=⟨⟩
theorem tw13760326211550196692:True:=⟨⟩
theorem tw10848001568548805978:True:=⟨⟩
theorem tw7037297795714151667:True:=⟨⟩
theorem tw14461978592117836348:True:=⟨⟩
theorem tw9217414214122569191:True:=⟨⟩
theorem tw11911435994859236558:True:=⟨⟩
theorem tw3135693783634928173:True:=⟨⟩
theorem tw11811282301265124971:True:=⟨⟩
theorem tw10000754524817956952:True:=⟨⟩
theorem tw8891526319542349523:True:=⟨⟩
theorem tw8531291931651919655:True:=⟨⟩
theorem tw3811547606450154912:True:=⟨⟩
theorem tw1275897026560049012:True:=⟨⟩
theorem tw10222248137498526321:True:=⟨⟩
theorem tw393235876846838627:True:=⟨⟩
theorem tw17907403450916779332:True:=⟨⟩
theorem tw11102548044993692408:True:=⟨⟩
theorem tw8931895347405431481:True:=⟨⟩
theorem tw6044225768252582479:True:=⟨⟩
theorem tw12494225083660968925:True:=⟨⟩
theorem tw8414197502376054111:True:=⟨⟩
theorem tw17960789155674221452:True:=⟨⟩
theorem tw8722595130923740831:True:=⟨⟩
theorem tw6801089068125923161:True:=⟨⟩
theorem tw798516467040992958:True:=⟨⟩
theorem tw7225267188030198205:True:=⟨⟩
theorem tw3008506717632847040:True:=⟨⟩
theorem tw12125395606350542858:True:=⟨⟩
theorem tw9846520021182007118:True:=⟨⟩
theorem tw14439822407218099549:True:=⟨⟩
theorem tw3713761431664552959:True:=⟨⟩
theorem tw11358023408668006200:True:=⟨⟩
theorem tw11179018737288242835:True:=⟨⟩
theorem tw5111669888540943838:True:=⟨⟩
theorem tw10159153763551011162:True:=⟨⟩
theorem tw8491030349052319145:True:=⟨⟩
theorem tw13344594305558079432:True:=⟨⟩
theorem tw6307201371249940492:True:=⟨⟩
theorem tw989879637491043185:True:=⟨⟩
theorem tw4466024354172743461:True:=⟨⟩
theorem tw11118032629879647995:True:=⟨⟩
theorem tw17950189088642509358:True:=⟨⟩
theorem tw15608244760807392826:True:=⟨⟩
theorem tw12130353312076697592:True:=⟨⟩
theorem tw17541754802959912575:True:=⟨⟩
theorem tw10154506687702759650:True:=⟨⟩
theorem tw5684242443880619619:True:=⟨⟩
theorem tw5337994757221846776:True:=⟨⟩
theorem tw16950833321986650895:True:=⟨⟩
theorem tw17061973135642887159:True:=⟨⟩
theorem tw18108144605998722687:True:=⟨⟩
theorem tw2766129383184607328:True:=⟨⟩
theorem tw13538314583874605047:True:=⟨⟩
theorem tw12051608029670761735:True:=⟨⟩
theorem tw9914230167551564060:True:=⟨⟩
theorem tw13089412950724240245:True:=⟨⟩
theorem tw5585875044956982098:True:=⟨⟩
theorem tw3179046769493602780:True:=⟨⟩
theorem tw4095721766973224362:True:=⟨⟩
theorem tw8369081624484425696:True:=⟨⟩
theorem tw17745154194665325648:True:=⟨⟩
theorem tw5138770642365722586:True:=⟨⟩
theorem tw4400683879484598238:True:=⟨⟩
theorem tw16263470875318560132:True:=⟨⟩
theorem tw5420106714233606135:True:=⟨⟩
theorem tw9355311694792163207:True:=⟨⟩
theorem tw8490526472283335033:True:=⟨⟩
theorem tw6996796219675596471:True:=⟨⟩
theorem tw12207142513741218151:True:=⟨⟩
theorem tw15190450225485963310:True:=⟨⟩
theorem tw5636378033600492002:True:=⟨⟩
theorem tw5166815291165850235:True:=⟨⟩
theorem tw7949395539297059797:True:=⟨⟩
theorem tw10642558387967109583:True:=⟨⟩
theorem tw8461581091913720966:True:=⟨⟩
theorem tw14299904031189806494:True:=⟨⟩
theorem tw12684937232909044720:True:=⟨⟩
theorem tw6240544053728863339:True:=⟨⟩
theorem tw17955696092286413984:True:=⟨⟩
theorem tw2162020536028724884:True:=⟨⟩
theorem tw17688069373662212361:True:=⟨⟩
theorem tw12847449039140769209:True:=⟨⟩
theorem tw10245727910237190334:True:=⟨⟩
theorem tw17331450404019258354:True:=⟨⟩
theorem tw17148170026913990134:True:=⟨⟩
theorem tw1330075977877443426:True:=⟨⟩
theorem tw14613613931337949485:True:=⟨⟩
theorem tw7837367849703113260:True:=⟨⟩
theorem tw14545142425890889175:True:=⟨⟩
theorem tw12835026105698857024:True:=⟨⟩
end PySem.W.Fast
set_option maxRecDepth 100000 in
set_option maxHeartbeats 0 in
theorem PySem.Challenge.cw_signsmooth_k44_papers_refused_holds : PySem.Challenge.rw_signsmooth_k44_papers_refused.Holds := by
 w_on; o_law; k_head; (case hw=>w_witness2)
 k_fill
 refine K44.walk (l:=PySem.Challenge.rw_signsmooth_k44_papers_refused) rfl rfl (λw h Y=>PySem.W.kIn_of Y) ?F
 case F=>
   intro w mg fa h KX G hmg
   refine' K44.all_mk KX G hmg (.of ?_ ?_ ?_ ?_) (.of ?_ ?_ ?_ ?_) (.of ?_ ?_ ?_ ?_) (.of ?_ ?_ ?_ ?_) (.of ?_ ?_ ?_ ?_) (.of ?_ ?_ ?_ ?_) (.of ?_ ?_ ?_ ?_) (.of ?_ ?_ ?_ ?_) (.of ?_ ?_ ?_ ?_) (.of ?_ ?_ ?_ ?_) (.of ?_ ?_ ?_ ?_) (.of ?_ ?_ ?_ ?_) (.of ?_ ?_ ?_ ?_) (.of ?_ ?_ ?_ ?_) (.of ?_ ?_ ?_ ?_) (.of ?_ ?_ ?_ ?_) (.of ?_ ?_ ?_ ?_) (.of ?_ ?_ ?_ ?_) (.of ?_ ?_ ?_ ?_) (.of ?_ ?_ ?_ ?_) (.of ?_ ?_ ?_ ?_) (.of ?_ ?_ ?_ ?_) (.of ?_ ?_ ?_ ?_) (.of ?_ ?_ ?_ ?_) (.of ?_ ?_ ?_ ?_) (.of ?_ ?_ ?_ ?_) (.of ?_ ?_ ?_ ?_) (.of ?_ ?_ ?_ ?_) (.of ?_ ?_ ?_ ?_) (.of ?_ ?_ ?_ ?_) (.of ?_ ?_ ?_ ?_) (.of ?_ ?_ ?_ ?_) (.of ?_ ?_ ?_ ?_) (.of ?_ ?_ ?_ ?_) (.of ?_ ?_ ?_ ?_) (.of ?_ ?_ ?_ ?_ ?_) (.of ?_ ?_ ?_ ?_) (.of ?_ ?_ ?_ ?_) (.of ?_ ?_ ?_ ?_) (.of ?_ ?_ ?_ ?_) (.of ?_ ?_ ?_ ?_) (.of ?_ ?_ ?_ ?_) (.of ?_ ?_ ?_ ?_) (.of ?_ ?_ ?_ ?_) (.of ?_ ?_ ?_ ?_) (.of ?_ ?_ ?_ ?_) (.of ?_ ?_ ?_ ?_) (.of ?_ ?_ ?_ ?_) (.of ?_ ?_ ?_ ?_) (.of ?_ ?_ ?_ ?_) (.of ?_ ?_ ?_ ?_) (.of ?_ ?_ ?_ ?_) (.of ?_ ?_ ?_ ?_) (.of ?_ ?_ ?_ ?_) (.of ?_ ?_ ?_ ?_) (.of ?_ ?_ ?_ ?_) (.of ?_ ?_ ?_ ?_) (.of ?_ ?_ ?_ ?_) (.of ?_ ?_ ?_ ?_) (.of ?_ ?_ ?_ ?_) (.of ?_ ?_ ?_ ?_) (.of ?_ ?_ ?_ ?_) (.of ?_ ?_ ?_ ?_) (.of ?_ ?_ ?_ ?_) (.of ?_ ?_ ?_ ?_) (.of ?_ ?_ ?_ ?_) (.of ?_ ?_ ?_ ?_) (.of ?_ ?_ ?_ ?_) (.of ?_ ?_ ?_ ?_) (.of ?_ ?_ ?_ ?_) (.of ?_ ?_ ?_ ?_) (.of ?_ ?_ ?_ ?_) (.of ?_ ?_ ?_ ?_) ⟨?_,?_,?_,?_,?_,?_,?_,?_,?_,?_,?_,?_,?_,?_,?_,?_,?_,?_,trivial⟩ ?_ ?_ ?_ (.of ?_ ?_ ?_ ?_ ?_) ?_ ?_ ?_ (.cons ?_ (.cons ?_ (.cons ?_ (.cons ?_ (.cons ?_ (.cons ?_ (.cons ?_ (.cons ?_ (.cons ?_ (.cons ?_ (.cons ?_ (.cons ?_ (.cons ?_ (.cons ?_ (.cons ?_ (.cons ?_ (.cons ?_ (.cons ?_ (.cons ?_ .nil))))))))))))))))))) (.cons ?_ (.cons ?_ (.cons ?_ (.cons ?_ (.cons ?_ (.cons ?_ (.cons ?_ (.cons ?_ (.cons ?_ (.cons ?_ (.cons ?_ (.cons ?_ (.cons ?_ (.cons ?_ (.cons ?_ (.cons ?_ (.cons ?_ (.cons ?_ (.cons ?_ .nil))))))))))))))))))) (.of ?_ ?_ ?_ ?_ ?_ ?_ ?_ ?_ ?_ ?_ ?_ ?_) (.cons ?_ ?_ .nil) (.cons ?_ ?_ (.cons ?_ ?_ (.cons ?_ ?_ (.cons ?_ ?_ (.cons ?_ ?_ (.cons ?_ ?_ (.cons ?_ ?_ (.cons ?_ ?_ (.cons ?_ ?_ (.cons ?_ ?_ (.cons ?_ ?_ (.cons ?_ ?_ (.cons ?_ ?_ (.cons ?_ ?_ (.cons ?_ ?_ (.cons ?_ ?_ (.cons ?_ ?_ .nil))))))))))))))))) (.of ?_ ?_ ?_ ?_ ?_ ?_ ?_ ?_ ?_ ?_ ?_ ?_) (.cons ?_ ?_ (.cons ?_ ?_ (.cons ?_ ?_ (.cons ?_ ?_ (.cons ?_ ?_ (.cons ?_ ?_ (.cons ?_ ?_ (.cons ?_ ?_ .nil)))))))) (.cons ?_ ?_ (.cons ?_ ?_ (.cons ?_ ?_ (.cons ?_ ?_ (.cons ?_ ?_ (.cons ?_ ?_ (.cons ?_ ?_ (.cons ?_ ?_ (.cons ?_ ?_ (.cons ?_ ?_ .nil))))))))))
   all_goals try k_is
   all_goals first | rfl | decide
#print axioms PySem.Challenge.cw_signsmooth_k44_papers_refused_holds
