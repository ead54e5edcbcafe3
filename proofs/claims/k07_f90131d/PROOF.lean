import PyProof.Rows.All
import Wide.All
import OpenK.AllK
import Wide.FinOn
import Lean
import PyProof.EqAt
import PyProof.EqKinds
import PyProof.TupleCall
import PyProof.DictKeyH
import PyProof.DictFindH
import PySem.Challenge.RW_signsmooth_k07_choices_refused
set_option genSizeOf false
set_option bootstrap.genMatcherCode false
set_option Elab.async false
set_option linter.all false
set_option maxRecDepth 100000
set_option exponentiation.threshold 4000
namespace Hx
open PySem PySem.Spec PyProof.Rows
theorem jf:entryFor table "proto.unchain" = some Builtin.«proto.unchain»:=entryFor_of_tree (by kernel_rfl)
section
variable {prog:Program} {w:World} {A:Around} {E:Value->Shared->Prop} {s:Shared}
theorem lQ {α:Type} {a h:Addr} {oa oh:Obj} {us vs:Array Value} {Q:α->Shared->Prop} (hh:A.handled=some (.ref h)) (hne:h ≠ a) (ha:s.heap.get? a=some oa) (hda:oa.data=.fields us) (hsz:2 < us.size)
   (ho:s.heap.get? h=some oh) (hd:oh.data=.fields vs) (h2:vs[2]?=some .none)
   (q:E (.ref a) { s with heap:=s.heap.update a (Obj.mapFields (·.setIfInBounds 2 (.ref h))) }):wpAny (model prog w) A (raiseNew (.ref a):Sem α) Q E s:=by
 unfold raiseNew; refine wpAny_bind (wpAny_handled ?_); rw [hh]
 dsimp only
 rw [if_pos (show (Value.ref h != Value.ref a)=true by simp [hne])]
 refine wpAny_bind (wpAny_holding (wpAny_runValue (codeAny_builtin jf ?_)))
 unfold Builtin.«proto.unchain»
 dsimp only
 refine wpAny_bind (wpAny_field ho hd h2 ?_)
 rw [if_pos (show (Value.none == Value.none)=true by decide)]
 refine wpAny_pure ?_
 show wpAny _ A (do let _ <- updateField a 2 (.ref h); throw (Value.ref a)) _ _ _
 unfold updateField
 refine wpAny_bind (wpAny_bind (wpAny_load ha ?_))
 rw [hda]
 dsimp only
 rw [if_pos hsz]
 exact wpAny_update ha (wpAny_throw q)
theorem mh {r h:Addr} {v left step:Int} {oh:Obj} {vs:Array Value} {Q:Option Value->Shared->Prop} (hh:A.handled=some (.ref h)) (ho:s.heap.get? h=some oh) (hd:oh.data=.fields vs) (h2:vs[2]?=some .none)
   (hr:IsRangeIter s.heap r v left step) (hl:left<=0) (k:∀ h',Heap.ExtBut r s.heap h'->Q none { s with heap:=h' }):wpAny (model prog w) A (pyNext (.ref r)) Q E s:=by
 have ty:s.TypeIs (.ref r) "range_iterator":=⟨_,hr,rfl⟩
 have hlt:=Heap.lt_size ho
 have fl:∀ {α:Type} {B:Around} {F:Value->Shared->Prop} {R:α->Shared->Prop} (i:Nat) (y:Int) {f:Value->Sem α},(#[rawInt v,rawInt left,rawInt step]:Array Value)[i]?=some (rawInt y)->wpAny (model prog w) B (f (rawInt y)) R F s->wpAny (model prog w) B (field (.ref r) i >>= f) R F s:=by
   intro α B F R i y f e q
   exact wpAny_bind (wpAny_field hr rfl e q)
 unfold pyNext
 refine wpAny_bind (wpAny_attempt (wpAny_callSpecial?_slot (name:=Str.ofString "__next__") ty F.slot_range_iterator_next (wpAny_call_entry F.slot_range_iterator_next ty F.entry_range_iterator_next (fl 0 v rfl (fl 1 left rfl (fl 2 step rfl ?_))) (F.args_range_iterator_next_1 _))))
 show wpAny (model prog w) A.in1 (if left<=0 then _ else _) _ _ s
 rw [if_pos hl]
 refine wpAny_bind (wpAny_rule (wpAny_bind ?_))
 show wpAny _ _ (do let e <- newExc (.type "StopIteration") []; _) _ _ _
 refine wpAny_bind ?_
 simp only [newExc,newTuple]
 refine wpAny_bind (wpAny_newObj_type (wpAny_bind (m:=firstArgMember _ _) (wpAny_of_eq (a:=.none) (by first | rfl | (simp only [firstArgMember]; rfl)) (wpAny_newObj_type ?_ (by size_fits)))) (by size_fits))
 have hg:((s.heap.push { cls:=.type "tuple",data:=.seq ([]:List Value).toArray }).push { cls:=.type "StopIteration",data:=.fields (#[Value.ref s.heap.objs.size,.none,.none,.none,.bool false,.none]++ownMembersOf (.type "StopIteration") []) }).get? (s.heap.push { cls:=.type "tuple",data:=.seq ([]:List Value).toArray }).objs.size
     = some { cls:=.type "StopIteration",data:=.fields (#[Value.ref s.heap.objs.size,.none,.none,.none,.bool false,.none]++ownMembersOf (.type "StopIteration") []) }:=Heap.get?_push_size _ rfl
 refine lQ (h:=h) (A:=A.in1) hh ?_ hg rfl (by rw [Array.size_append]; exact Nat.lt_of_lt_of_le (by decide:2 < 6) (Nat.le_add_right _ _)) (Heap.get?_push_of_some _ (Heap.get?_push_of_some _ ho)) hd h2 ?_
 · intro z
   rw [Heap.size_push] at z
   exact absurd hlt (by rw [z]; exact Nat.not_lt.mpr (Nat.le_succ _))
 have hu:=Heap.get?_update_self (Obj.mapFields (·.setIfInBounds 2 (.ref h))) hg rfl
 refine wpAny_bind (wpAny_isInstance (T:="StopIteration") (b:=true) ⟨_,hu,rfl⟩ isSubtype_stop ?_)
 refine wpAny_pure (k _ λb o hb e=>?_)
 have bl:=Heap.lt_size e
 rw [Heap.get?_update_other _ _ (by intro z; rw [Heap.size_push] at z; exact absurd bl (by rw [<- z]; exact Nat.not_lt.mpr (Nat.le_succ _)))]
 exact Heap.get?_push_of_some _ (Heap.get?_push_of_some _ e)
end
end Hx
set_option linter.all false
set_option maxRecDepth 100000
namespace L2
open PySem PySem.Spec PyProof.Rows
noncomputable abbrev Key:=Sum Int Str
noncomputable def ui:Key->Value->Bool
 | .inl k,v=>Value.isInt k v
 | .inr x,v=>Value.isStrOf x v
noncomputable def yP (w:World):Key->Int
 | .inl k=>hashInt k
 | .inr x=>hashStr w x
theorem a6:∀ {k:Key} {v:Value},ui k v=true->(∃ i t,k=Sum.inl i/\v=Value.int i t)\/(∃ x t,k=Sum.inr x/\v=Value.str x t)
 | .inl i,v,h=>by
   obtain ⟨t,e⟩:=Value.isInt_shape (k:=i) (v:=v) h
   exact .inl ⟨i,t,rfl,e⟩
 | .inr x,v,h=>by
   obtain ⟨t,e⟩:=Value.isStrOf_shape (x:=x) (v:=v) h
   exact .inr ⟨x,t,rfl,e⟩
theorem wb (a b:Int):decide ((Sum.inl a:Key)=Sum.inl b)=(a == b):=by
 by_cases e:a=b
 · subst e; simp
 · have h:¬ (Sum.inl a:Key)=Sum.inl b:=λq=>e (Sum.inl.inj q)
   rw [decide_eq_false h]
   exact (beq_eq_false_iff_ne.mpr e).symm
theorem uE (a b:Str):decide ((Sum.inr a:Key)=Sum.inr b)=decide (a=b):=by
 by_cases e:a=b
 · subst e; simp
 · have h:¬ (Sum.inr a:Key)=Sum.inr b:=λq=>e (Sum.inr.inj q)
   rw [decide_eq_false h,decide_eq_false e]
theorem vV (a:Int) (b:Str):decide ((Sum.inl a:Key)=Sum.inr b)=false:=decide_eq_false (λq=>nomatch q)
theorem uL (a:Str) (b:Int):decide ((Sum.inr a:Key)=Sum.inl b)=false:=decide_eq_false (λq=>nomatch q)
noncomputable def fV (prog:Program) (w:World):PySem.KeyKind prog w Key where
 is:=ui
 hash:=yP w
 inj:=λv a b ha hb=>by
   rcases a6 ha with ⟨i,t,rfl,rfl⟩ | ⟨x,t,rfl,rfl⟩
   · rcases a6 hb with ⟨j,u,rfl,e⟩ | ⟨y,u,rfl,e⟩
     · injection e with e1 _; rw [e1]
     · exact nomatch e
   · rcases a6 hb with ⟨j,u,rfl,e⟩ | ⟨y,u,rfl,e⟩
     · exact nomatch e
     · injection e with e1 _; rw [e1]
 byValue:=λk v h=>by
   rcases a6 h with ⟨i,t,rfl,rfl⟩ | ⟨x,t,rfl,rfl⟩ <;> rfl
 pyHash:=λhv h=>by
   rcases a6 hv with ⟨i,t,rfl,rfl⟩ | ⟨x,t,rfl,rfl⟩
   · exact wpAny_pyHash_int h
   · exact wpAny_pyHash_str h
 eqBool:=λhu hv h=>by
   rcases a6 hu with ⟨i,t,rfl,rfl⟩ | ⟨x,t,rfl,rfl⟩
   · rcases a6 hv with ⟨j,u,rfl,rfl⟩ | ⟨y,u,rfl,rfl⟩
     · rw [wb] at h; exact wpAny_eqBool_int h
     · rw [vV] at h; exact SeqAt.EqAt.int_str i t y u _ _ _ _ h
   · rcases a6 hv with ⟨j,u,rfl,rfl⟩ | ⟨y,u,rfl,rfl⟩
     · rw [uL] at h; exact SeqAt.EqAt.str_int x t j u _ _ _ _ h
     · rw [uE] at h; exact wpAny_eqBool_str h
 «strs»:=λk x t v h=>by
   rcases a6 h with ⟨i,u,rfl,e⟩ | ⟨y,u,rfl,e⟩
   · exact nomatch e
   · injection e with e1 _
     subst e1
     cases v <;> rfl
inductive V where
 | non | bl (b:Bool) | int (i:Int) | str (x:Str) | byt (b:Array UInt8) | flt (b:UInt64) | ref (a:Addr) | ty (n:String)
 deriving DecidableEq
noncomputable def RelV:V->Value->Prop
 | .non,u=>u=Value.none
 | .bl b,u=>u=Value.bool b
 | .int i,u=>∃ t,u=Value.int i t
 | .str x,u=>∃ t,u=Value.str x t
 | .byt b,u=>∃ t,u=Value.bytes b t
 | .flt b,u=>∃ t,u=Value.float b t
 | .ref a,u=>u=Value.ref a
 | .ty n,u=>u=Value.type n
noncomputable abbrev Vals:List V->List Value->Prop:=Paired RelV
theorem Vals.length {xs:List V} {us:List Value} (r:Vals xs us):xs.length=us.length:=Paired.length r
theorem Vals.get:∀ {xs:List V} {us:List Value} {i:Nat} {x:V},Vals xs us->xs[i]?=some x->∃ u,us[i]?=some u/\RelV x u
 | _,_,_,_,.nil,e=>by simp at e
 | _,_,0,_,.cons r _,e=>by simp at e; subst e; exact ⟨_,rfl,r⟩
 | _,_,i + 1,x,.cons _ t,e=>by
   obtain ⟨u,h1,h2⟩:=Vals.get (i:=i) (x:=x) t (by simpa using e)
   exact ⟨u,by simpa using h1,h2⟩
theorem Vals.set {x:V} {u:Value} (r:RelV x u):∀ {xs:List V} {us:List Value} (i:Nat),Vals xs us->Vals (xs.set i x) (us.set i u)
 | _,_,_,.nil=>.nil
 | _,_,0,.cons _ t=>.cons r t
 | _,_,i + 1,.cons q t=>.cons q (Vals.set r i t)
theorem Vals.append:∀ {xs ys:List V} {us ws:List Value},Vals xs us->Vals ys ws->Vals (xs++ys) (us++ws)
 | _,_,_,_,.nil,s=>s
 | _,_,_,_,.cons r t,s=>.cons r (Vals.append t s)
theorem Vals.take:∀ {xs:List V} {us:List Value} (n:Nat),Vals xs us->Vals (xs.take n) (us.take n)
 | _,_,0,_=>.nil
 | _,_,_ + 1,.nil=>.nil
 | _,_,n + 1,.cons r t=>.cons r (Vals.take n t)
theorem Vals.drop:∀ {xs:List V} {us:List Value} (n:Nat),Vals xs us->Vals (xs.drop n) (us.drop n)
 | _,_,0,r=>r
 | _,_,_ + 1,.nil=>.nil
 | _,_,n + 1,.cons _ t=>Vals.drop n t
noncomputable def pe:Option V->Option Value->Prop
 | some v,some u=>RelV v u
 | none,none=>True
 | _,_=>False
noncomputable def KV {κ:Type}:List (κ × V)->List (κ × Value)->Prop:=Paired λ(p:κ × V) (q:κ × Value)=>p.1=q.1/\RelV p.2 q.2
noncomputable def kV:Key->V
 | .inl i=>.int i
 | .inr x=>.str x
inductive HO where
 | lst (xs:List V)
 | tup (xs:List V)
 | dK (kvs:List (Key × V)) | dT (kvs:List (List Key × V))
 | set (S:Int->Bool) (n:Nat)
 | ins (C dx:Addr) (fs:List (Str × V))
 | own (x:Addr)
 | xd (fs:List (Str × V))
 | met (f x:Addr)
 | rng (lo hi:Int)
 | frz (o:Obj) (u:HO)
 | tbl (ps:Array Value)
 | ext (φ:Heap->Prop)
noncomputable abbrev Hp:=Addr->Option HO
noncomputable def upd (H:Hp) (a:Addr) (o:HO):Hp:=λb=>if b=a then some o else H b
theorem aX {H:Hp} {a:Addr} {o:HO}:upd H a o a=some o:=by unfold upd; rw [if_pos rfl]
theorem aB {H:Hp} {a b:Addr} {o:HO} (h:b ≠ a):upd H a o b=H b:=by unfold upd; rw [if_neg h]
theorem ay {H:Hp} {a b:Addr} {o:HO} (h:H a=some o) (h':H b=none):a ≠ b:=by
 intro e; subst e; rw [h] at h'; cases h'
section
variable (P:Program) (w:World)
noncomputable def bJ (H:Hp) (h:Heap) (a:Addr):HO->Prop
 | .lst xs=>xs.length<=sizeLine/\∃ (its:List Value) (n:Nat),Vals xs its/\h.get? a=some { cls:=.type "list",data:=.seq its.toArray n }
 | .tup xs=>xs.length<=sizeLine/\∃ its:List Value,Vals xs its/\IsTup h a its.toArray
 | .dK kvs=>kvs.length<=sizeLine/\(a == sysModules)=false/\∃ vs,KV kvs vs/\h.DictOf (fV P w) a vs
 | .dT kvs=>kvs.length<=sizeLine/\(a == sysModules)=false/\∃ xs:List (List Key × Addr × Value),
     Paired (λ(p:List Key × V) (q:List Key × Addr × Value)=>p.1=q.1/\H q.2.1=some (.tup (p.1.map kV))/\RelV p.2 q.2.2) kvs xs /\
     ∃ o es ep,h.get? a=some o/\o.ExactDict/\o.data=.dict es ep/\es.toList=xs.map (entryOfKey (tupleKind (fV P w)))/\(xs.map (·.1)).Nodup
 | .set S n=>h.SetOf (intKind P w) a S n
 | .ins C dx fs=>H dx=some (.own a)/\fs.length<=1000/\dx ≠ a/\h.get? a=some (PySem.W.instObj C dx) /\
     ∃ mA,h.Ns1 dx mA/\(∀ f,pe (fs.lookup f) (mA f))/\PySem.Within mA (fs.map (·.1))
 | .own _=>∃ o,h.get? a=some o
 | .xd fs=>∃ mA,h.Ns1 a mA/\∀ f,pe (fs.lookup f) (mA f)
 | .rng lo hi=>∃ t u v,h.get? a=some { cls:=.type "range",data:=.fields #[.int lo t,.int hi u,.int 1 v] }
 | .frz o u=>h.get? a=some o/\bJ H h a u
 | .tbl ps=>h.get? a=some { cls:=.none,data:=.fields ps }
 | .met f x=>h.get? a=some (PySem.W.methodObj (.ref f) (.ref x))
 | .ext φ=>φ h/\(∃ o,h.get? a=some o)/\∀ h1 h2:Heap,φ h1->(∀ o,h1.get? a=some o->h2.get? a=some o)->φ h2
noncomputable def HOk (H:Hp) (h:Heap):Prop:=∀ a o,H a=some o->bJ P w H h a o
end
section
variable {P:Program} {w:World} {H H':Hp} {h h':Heap} {a:Addr} {o:HO}
theorem bJ.lt (x:bJ P w H h a o):a < h.objs.size:=by
 cases o with
 | lst xs=>obtain ⟨_,_,_,_,e⟩:=x; exact Heap.lt_size e
 | tup xs=>obtain ⟨_,_,_,p⟩:=x; exact p.lt
 | dK kvs=>obtain ⟨_,_,_,_,o,_,_,e,_⟩:=x; exact Heap.lt_size e
 | dT kvs=>obtain ⟨_,_,_,_,o,_,_,e,_⟩:=x; exact Heap.lt_size e
 | set S n=>obtain ⟨o,_,_,_,e,_⟩:=x; exact Heap.lt_size e
 | ins C dx fs=>obtain ⟨_,_,_,e,_⟩:=x; exact Heap.lt_size e
 | own y=>obtain ⟨_,e⟩:=x; exact Heap.lt_size e
 | xd fs=>obtain ⟨_,⟨_,_,_,e,_⟩,_⟩:=x; exact Heap.lt_size e
 | rng lo hi=>obtain ⟨_,_,_,e⟩:=x; exact Heap.lt_size e
 | frz ob u=>obtain ⟨e,_⟩:=x; exact Heap.lt_size e
 | tbl ps=>exact Heap.lt_size (show h.get? a=some _ from x)
 | met f y=>exact Heap.lt_size (show h.get? a=some _ from x)
 | ext φ=>obtain ⟨_,⟨_,e⟩,_⟩:=x; exact Heap.lt_size e
theorem Paired.vE {α β:Type} {F G:α->β->Prop}:∀ {l₁:List α} {l₂:List β},Paired F l₁ l₂->(∀ a b,F a b->G a b)->Paired G l₁ l₂
 | _,_,.nil,_=>.nil
 | _,_,.cons r t,f=>.cons (f _ _ r) (Paired.vE t f)
theorem bJ.dR (x:bJ P w H h a o) (k:∀ b u,(b=a\/H b=some (.own a))->h.get? b=some u->h'.get? b=some u)
   (ho:∀ b,H b=some (.own a)->H' b=some (.own a)) (ht:∀ b xs,H b=some (.tup xs)->H' b=some (.tup xs)):bJ P w H' h' a o:=by
 induction o with
 | lst xs=>obtain ⟨z,its,n,r,e⟩:=x; exact ⟨z,its,n,r,k _ _ (.inl rfl) e⟩
 | tup xs=>obtain ⟨z,its,r,ob,e,c⟩:=x; exact ⟨z,its,r,ob,k _ _ (.inl rfl) e,c⟩
 | dK kvs=>obtain ⟨z,y,vs,r,ob,es,ep,e,c⟩:=x; exact ⟨z,y,vs,r,ob,es,ep,k _ _ (.inl rfl) e,c⟩
 | dT kvs=>
   obtain ⟨z,y,xs,r,ob,es,ep,e,c⟩:=x
   exact ⟨z,y,xs,Paired.vE r λp q z=>⟨z.1,ht _ _ z.2.1,z.2.2⟩,ob,es,ep,k _ _ (.inl rfl) e,c⟩
 | set S n=>obtain ⟨ob,es,ep,t,e,c⟩:=x; exact ⟨ob,es,ep,t,k _ _ (.inl rfl) e,c⟩
 | ins C dx fs=>
   obtain ⟨d,z,ne,e,mA,⟨od,es,ep,e2,c⟩,r⟩:=x
   exact ⟨ho _ d,z,ne,k _ _ (.inl rfl) e,mA,⟨od,es,ep,k _ _ (.inr d) e2,c⟩,r⟩
 | own y=>obtain ⟨ob,e⟩:=x; exact ⟨ob,k _ _ (.inl rfl) e⟩
 | xd fs=>obtain ⟨mA,⟨od,es,ep,e,c⟩,r⟩:=x; exact ⟨mA,⟨od,es,ep,k _ _ (.inl rfl) e,c⟩,r⟩
 | rng lo hi=>obtain ⟨t,u,v,e⟩:=x; exact ⟨t,u,v,k _ _ (.inl rfl) e⟩
 | frz ob u ih=>obtain ⟨e,q⟩:=x; exact ⟨k _ _ (.inl rfl) e,ih q⟩
 | tbl ps=>
   have e:h.get? a=some { cls:=.none,data:=.fields ps }:=x
   show h'.get? a=some { cls:=.none,data:=.fields ps }
   exact k a _ (.inl rfl) e
 | met f y=>
   have e:h.get? a=some (PySem.W.methodObj (.ref f) (.ref y)):=x
   show h'.get? a=some (PySem.W.methodObj (.ref f) (.ref y))
   exact k a _ (.inl rfl) e
 | ext φ=>obtain ⟨p,⟨o,e⟩,st⟩:=x; exact ⟨st _ _ p λo q=>k _ _ (.inl rfl) q,⟨o,k _ _ (.inl rfl) e⟩,st⟩
theorem HOk.lt (x:HOk P w H h) (e:H a=some o):a < h.objs.size:=(x a o e).lt
theorem HOk.fresh (x:HOk P w H h) (e:h.objs.size<=a):H a=none:=by
 cases q:H a with
 | none=>rfl
 | some u=>exact absurd (Nat.lt_of_lt_of_le (x.lt q) e) (Nat.lt_irrefl _)
theorem HOk.kept (x:HOk P w H h) (k:∀ b u,h.get? b=some u->h'.get? b=some u):HOk P w H h':=λa o e=>
 (x a o e).dR (λb u _ q=>k b u q) (λ_ q=>q) λ_ _ q=>q
theorem HOk.laid (x:HOk P w H h) (k:∀ b u,h.get? b=some u->h'.get? b=some u) (hp:h.objs.size<=a) (new:bJ P w (upd H a o) h' a o):HOk P w (upd H a o) h':=λb u e=>by
 have hn:=x.fresh hp
 by_cases hb:b=a
 · subst hb; rw [aX] at e; cases e; exact new
 · rw [aB hb] at e
   exact (x b u e).dR (λc v _ q=>k c v q) (λc q=>by rw [aB (ay q hn)]; exact q) λc xs q=>by rw [aB (ay q hn)]; exact q
end
noncomputable def Rd (H:Hp) (a:Addr) (u:HO):Prop:=H a=some u\/∃ o,H a=some (.frz o u)
theorem Rd.ok {P:Program} {w:World} {H:Hp} {h:Heap} {a:Addr} {u:HO} (r:Rd H a u) (x:HOk P w H h):bJ P w H h a u:=by
 rcases r with r | ⟨o,r⟩
 · exact x a u r
 · obtain ⟨_,q⟩:=x a _ r
   exact q
noncomputable def Mut:Option HO->Prop
 | some (.lst _)=>True
 | some (.dK _)=>True
 | some (.dT _)=>True
 | some (.set _ _)=>True
 | some (.ins _ _ _)=>True
 | some (.ext _)=>True
 | _=>False
section
variable {P:Program} {w:World} {H:Hp} {h h':Heap} {x e:Addr} {o':HO}
theorem HOk.write (ok:HOk P w H h) (mu:Mut (H x)) (he:e=x\/H e=some (.own x)) (k:∀ b u,b ≠ e->h.get? b=some u->h'.get? b=some u) (heo:∃ u,h'.get? e=some u)
   (new:bJ P w (upd H x o') h' x o'):HOk P w (upd H x o') h':=λb u q=>by
 have nown:∀ c y,H c=some (.own y)->c ≠ x:=λc y r z=>by subst z; rw [r] at mu; exact mu
 have ntup:∀ c xs,H c=some (.tup xs)->c ≠ x:=λc xs r z=>by subst z; rw [r] at mu; exact mu
 by_cases hb:b=x
 · subst hb; rw [aX] at q; cases q; exact new
 · rw [aB hb] at q
   by_cases hbe:b=e
   · have q':H b=some (.own x):=by
       rcases he with z | z
       · exact absurd (hbe.trans z) hb
       · rw [hbe]; exact z
     rw [q] at q'; cases q'
     obtain ⟨v,hv⟩:=heo
     exact ⟨v,by rw [hbe]; exact hv⟩
   · refine (ok b u q).dR (λc v hc r=>k c v ?_ r) (λc r=>by rw [aB (nown c b r)]; exact r) λc xs r=>by rw [aB (ntup c xs r)]; exact r
     rcases hc with rfl | hc
     · exact hbe
     · rintro rfl
       rcases he with z | z
       · exact nown c b hc z
       · rw [hc] at z; cases z; exact hb rfl
end
structure Un (fs ex:List Addr) (H H':Hp) (h h':Heap):Prop where
 keep:∀ b o,h.get? b=some o->H b=none->b ∉ fs->b ∉ ex->h'.get? b=some o
 slot:∀ b o,h.get? b=some o->H b=none->b ∈ fs->b ∉ ex->∃ sl,h'.get? b=some { o with slots:=sl }
 free:∀ b o,h.get? b=some o->H b=none->b ∉ ex->H' b=none
 there:∀ b o,h.get? b=some o->b ∉ ex->∃ o',h'.get? b=some o'
 tups:∀ b xs,H b=some (.tup xs)->H' b=some (.tup xs)
 frzs:∀ b o u,H b=some (.frz o u)->H' b=some (.frz o u)
 tbls:∀ b ps,H b=some (.tbl ps)->∃ more,H' b=some (.tbl (ps++more))
section
variable {fs fs' ex ex':List Addr} {H H1 H2:Hp} {h h1 h2 h':Heap} {a x e:Addr} {o:HO}
theorem Un.any (u:Un fs ex H H1 h h1) {b:Addr} {ob:Obj} (q:h.get? b=some ob) (n:H b=none) (hx:b ∉ ex):∃ sl,h1.get? b=some { ob with slots:=sl }:=by
 by_cases hb:b ∈ fs
 · exact u.slot b ob q n hb hx
 · exact ⟨ob.slots,u.keep b ob q n hb hx⟩
theorem Un.kept (k:∀ b u,h.get? b=some u->h'.get? b=some u):Un fs ex H H h h':=
 ⟨λb ob q _ _ _=>k b ob q,λb ob q _ _ _=>⟨ob.slots,k b ob q⟩,λ_ _ _ n _=>n,λb ob q _=>⟨ob,k b ob q⟩,λ_ _ q=>q,λ_ _ _ q=>q,λ_ ps q=>⟨#[],by rw [q]; simp⟩⟩
theorem Un.refl:Un fs ex H H h h:=Un.kept λ_ _ q=>q
theorem Un.laid (k:∀ b u,h.get? b=some u->h'.get? b=some u) (hp:h.objs.size<=a) (hn:H a=none):Un fs ex H (upd H a o) h h' where
 keep:=λb u q _ _ _=>k b u q
 slot:=λb u q _ _ _=>⟨u.slots,k b u q⟩
 free:=λb u q n _=>by rw [aB (Nat.ne_of_lt (Nat.lt_of_lt_of_le (Heap.lt_size q) hp))]; exact n
 there:=λb u q _=>⟨u,k b u q⟩
 tups:=λb xs q=>by rw [aB (ay q hn)]; exact q
 frzs:=λb u xs q=>by rw [aB (ay q hn)]; exact q
 tbls:=λb ps q=>⟨#[],by rw [aB (ay q hn),q]; simp⟩
theorem Un.write (mu:Mut (H x)) (he:e=x\/H e=some (.own x)) (k:∀ b u,b ≠ e->h.get? b=some u->h'.get? b=some u) (heo:∃ u,h'.get? e=some u):Un fs ex H (upd H x o) h h':=by
 have hx:∀ b,H b=none->b ≠ x:=λb n z=>by subst z; rw [n] at mu; exact mu
 have hb:∀ b,H b=none->b ≠ e:=λb n z=>by
   subst z
   rcases he with r | r
   · exact hx b n r
   · rw [n] at r; cases r
 have hm:∀ b u,H b=some u->¬ Mut (some u)->b ≠ x:=λb u q nm z=>by subst z; rw [q] at mu; exact nm mu
 refine ⟨λb u q n _ _=>k b u (hb b n) q,λb u q n _ _=>⟨u.slots,k b u (hb b n) q⟩,λb u q n _=>by rw [aB (hx b n)]; exact n,λb u q _=>?_,
   λb xs q=>by rw [aB (hm b _ q λz=>z)]; exact q,λb u xs q=>by rw [aB (hm b _ q λz=>z)]; exact q,λb ps q=>⟨#[],by rw [aB (hm b _ q λz=>z),q]; simp⟩⟩
 by_cases hbe:b=e
 · subst hbe; exact heo
 · exact ⟨u,k b u hbe q⟩
theorem Un.mono (u:Un fs ex H H1 h h1) (hs:∀ b ∈ fs,b ∈ fs') (hx:∀ b ∈ ex,b ∈ ex'):Un fs' ex' H H1 h h1:=
 ⟨λb ob q n hb he=>u.keep b ob q n (λz=>hb (hs b z)) λz=>he (hx b z),λ_ _ q n _ he=>u.any q n λz=>he (hx _ z),λb ob q n he=>u.free b ob q n λz=>he (hx b z),λb ob q he=>u.there b ob q λz=>he (hx b z),u.tups,u.frzs,u.tbls⟩
end
noncomputable def trk (h:Heap) (H:Hp):List Addr:=(List.range h.objs.size).filter λa=>(H a).isSome
noncomputable def kC (h:Heap) (H:Hp):Heap:=PySem.W.hideAll h (trk h H)
theorem pW (h:Heap) (H:Hp):(kC h H).objs.size=h.objs.size:=PySem.W.hideAll_size _ _
theorem rO {h:Heap} {H:Hp} {b:Addr} {o:Obj} (e:h.get? b=some o) (n:H b=none):(kC h H).get? b=some o:=
 PySem.W.hideAll_get _ e λhm=>by
   have q:(H b).isSome=true:=(List.mem_filter.mp hm).2
   rw [n] at q; simp at q
theorem tM {h:Heap} {H:Hp} {b:Addr} {o:Obj} (e:(kC h H).get? b=some o):h.get? b=some o/\H b=none:=by
 have e':h.get? b=some o:=PySem.W.of_hideAll (trk h H) e
 refine ⟨e',?_⟩
 cases q:H b with
 | none=>rfl
 | some x=>
   have hm:b ∈ trk h H:=List.mem_filter.mpr ⟨List.mem_range.mpr (Heap.lt_size e'),by simp [q]⟩
   have z:(kC h H).get? b=none:=PySem.W.hideAll_none (trk h H) hm
   rw [z] at e; cases e
noncomputable def tI (g h:Heap) (L:Addr):List (Addr × Obj):=(List.range h.objs.size).filterMap λa=>if a=L\/(g.get? a).isSome=true then none else (h.get? a).map λo=>(a,o)
noncomputable def rest (g h:Heap) (L d:Addr):List (Addr × Obj):=(tI g h L).filter λp=>decide (p.1 ≠ d)
structure Mod (K:PySem.W.Frag) (mg:Str->Option Value) (base:Heap):Prop where
 kin:K.In base
 glob:base.Ns mainGlobals mg
 blt:∃ mb,base.Ns builtinsNs mb/\∀ x:Str,x ≠ "__name__" -> mb x=bootBuiltins x
 nolimit:base.NoLimit
structure Cx where
 prog:Program
 w:World
 K:PySem.W.Frag
 mg:Str->Option Value
 base:Heap
 A:Around
 N:List Str
 s₀:Shared
 H₀:Hp
 env:Env
 outer:List Env
 stack:List Env
 ex:List Addr
 fn:Str->Bool
 calm:Bool
 pn:List (Addr × Obj)
 xe:Value->Shared->Prop
noncomputable def frs (l:List Env):List Addr:=l.filterMap (·.frame)
noncomputable abbrev Cx.fs (X:Cx):List Addr:=frs X.outer
noncomputable def Vis (sc:Scope) (x:Str):Prop:=sc.names.lookup x=some .local\/sc.names.lookup x=some .cell\/sc.names.lookup x=some .free
noncomputable def Loc (sc:Scope) (x:Str):Prop:=sc.names.lookup x=some .local\/sc.names.lookup x=some .cell
noncomputable def Look (env:Env) (h:Heap) (m:Str->Option Value) (x:Str) (u:Value):Prop:=
 (env.kindOf x=some .local/\m x=some u)\/((env.kindOf x=some .cell\/env.kindOf x=some .free)/\∃ c,env.cells.lookup x=some c/\h.IsCell c (some u))
structure Cx.Ok (X:Cx):Prop where
 mod:Mod X.K X.mg X.base
 kind:X.env.scope.kind=.function
 glob:X.env.globals=mainGlobals
 blt:X.env.builtins=builtinsNs
 above:X.s₀.heap.objs.size<=X.env.locals
 inj:∀ x y c,X.env.cells.lookup x=some c->X.env.cells.lookup y=some c->x=y
 has:∀ x,(X.env.kindOf x=some .cell\/X.env.kindOf x=some .free)->∃ c,X.env.cells.lookup x=some c
 cab:∀ x c,X.fn x=true->X.env.cells.lookup x=some c->X.s₀.heap.objs.size<=c
 hd:X.calm=true->X.A.handled=none
 frames:X.A.frames=some X.stack
 stk:X.stack=X.outer\/(X.stack=X.env :: X.outer/\X.env.frame=some X.env.locals)
 exf:∀ b ∈ X.ex,b ≠ X.env.locals/\∀ x c,X.env.cells.lookup x=some c->c ≠ b
 bs:∀ b o,X.base.get? b=some o->X.s₀.heap.get? b=some o/\X.H₀ b=none
 bsz:X.base.objs.size<=X.s₀.heap.objs.size
 noex:∀ b o,X.base.get? b=some o->b ∉ X.ex
 exfs:∀ b ∈ X.ex,b ∉ X.fs
 gp:X.s₀.heap.FunFrames X.base X.outer
 frf:∀ b ∈ X.fs,X.H₀ b=none
structure Inv (X:Cx) (pins:List (Addr × Obj)) (σ:List (Option V)) (H:Hp) (s:Shared):Prop where
 ok:X.Ok
 os:s.os=X.s₀.os
 bare:AllBare s.gens
 base:Un X.fs X.ex X.H₀ H X.s₀.heap s.heap
 loc:∃ m,s.heap.Ns X.env.locals m/\∀ (i:Nat) (x:Str) (v:V),X.N[i]?=some x->σ[i]?=some (some v)->Vis X.env.scope x->∃ u,RelV v u/\Look X.env s.heap m x u
 cell:∀ x c,X.env.cells.lookup x=some c->∃ v,s.heap.IsCell c v
 free:H X.env.locals=none
 freeC:∀ x c,X.env.cells.lookup x=some c->H c=none
 pin:∀ p ∈ X.pn++pins,s.heap.get? p.1=some p.2/\H p.1=none/\p.1 ≠ X.env.locals/\p.1 ∉ X.fs/\∀ v,p.2.data ≠ .cell v
 hok:HOk X.prog X.w H s.heap
 len:σ.length=X.N.length
section
variable {X:Cx} {pins:List (Addr × Obj)} {σ:List (Option V)} {H H':Hp} {s:Shared} {h':Heap}
theorem Cx.Ok.yL (ok:X.Ok) {b:Addr} {o:Obj} (e:X.base.get? b=some o):b ∉ X.fs:=λhb=>by
 have:=(ok.gp.mem hb).1
 rw [e] at this; cases this
theorem Inv.bs (I:Inv X pins σ H s):∀ b o,X.base.get? b=some o->s.heap.get? b=some o/\H b=none:=λb o e=>
 ⟨I.base.keep b o (I.ok.bs b o e).1 (I.ok.bs b o e).2 (I.ok.yL e) (I.ok.noex b o e),I.base.free b o (I.ok.bs b o e).1 (I.ok.bs b o e).2 (I.ok.noex b o e)⟩
theorem Inv.bk (I:Inv X pins σ H s):∀ b o,X.base.get? b=some o->s.heap.get? b=some o:=λb o e=>(I.bs b o e).1
theorem Inv.mod (I:Inv X pins σ H s):Mod X.K X.mg X.base:=I.ok.mod
theorem Inv.kIn (I:Inv X pins σ H s):X.K.In s.heap:=I.ok.mod.kin.keeps I.bk
theorem Inv.lt (I:Inv X pins σ H s):X.env.locals < s.heap.objs.size:=let ⟨_,hn,_⟩:=I.loc; hn.lt
theorem Inv.sz (I:Inv X pins σ H s):X.s₀.heap.objs.size<=s.heap.objs.size:=Nat.le_trans I.ok.above (Nat.le_of_lt I.lt)
theorem Inv.yt (I:Inv X pins σ H s) {a:Addr} (h:s.heap.objs.size<=a):a ∉ X.fs:=λhb=>by
 obtain ⟨_,o,ho,_⟩:=I.ok.gp.mem hb
 exact absurd (Nat.lt_of_lt_of_le (Heap.lt_size ho) (Nat.le_trans I.sz h)) (Nat.lt_irrefl _)
theorem Inv.cne (I:Inv X pins σ H s):∀ x c,X.env.cells.lookup x=some c->c ≠ X.env.locals:=λx c e z=>by
 obtain ⟨v,o,ho,hd⟩:=I.cell x c e
 obtain ⟨m,⟨o',es,ep,ho',hd',_⟩,_⟩:=I.loc
 rw [z,ho'] at ho; cases ho; rw [hd'] at hd; cases hd
theorem Inv.gp (I:Inv X pins σ H s):s.heap.FunFrames X.base X.outer:=by
 have all:∀ (l:List Env),(∀ b ∈ frs l,b ∈ X.fs)->X.s₀.heap.FunFrames X.base l->s.heap.FunFrames X.base l:=by
   intro l
   induction l with
   | nil=>intro _ _; trivial
   | cons env r ih=>
     intro hs hl
     obtain ⟨hk,⟨L,o,hf,hn,ho,hd⟩,hr⟩:=hl
     have hL:L ∈ X.fs:=hs L (by unfold frs; rw [List.filterMap_cons,hf]; exact List.mem_cons_self)
     obtain ⟨sl,e⟩:=I.base.slot L o ho (I.ok.frf L hL) hL λz=>I.ok.exfs L z hL
     exact ⟨hk,⟨L,_,hf,hn,e,hd⟩,ih (λb hb=>hs b (by unfold frs; rw [List.filterMap_cons,hf]; exact List.mem_cons_of_mem _ hb)) hr⟩
 exact all X.outer (λ_ hb=>hb) I.ok.gp
theorem Inv.stack (I:Inv X pins σ H s):s.heap.FunFrames X.base X.stack:=by
 rcases I.ok.stk with e | ⟨e,hf⟩
 · rw [e]; exact I.gp
 · rw [e]
   obtain ⟨m,hn,_⟩:=I.loc
   refine .cons (by rw [I.ok.kind]; decide) hf hn ?_ I.gp
   exact Heap.get?_none_of_le (Nat.le_trans I.ok.bsz I.ok.above)
theorem Inv.i6 (I:Inv X pins σ H s):∀ b ∈ frs X.stack,b ∈ X.env.locals :: X.fs:=λb hb=>by
 rcases I.ok.stk with e | ⟨e,hf⟩
 · rw [e] at hb; exact List.mem_cons_of_mem _ hb
 · rw [e] at hb
   unfold frs at hb
   rw [List.filterMap_cons,hf] at hb
   exact hb
theorem Inv.fK (I:Inv X pins σ H s):∀ b ∈ frs X.stack,H b=none:=λb hb=>by
 rcases List.mem_cons.mp (I.i6 b hb) with e | hb
 · rw [e]; exact I.free
 · obtain ⟨_,o,ho,_⟩:=I.ok.gp.mem hb
   exact I.base.free b o ho (I.ok.frf b hb) λz=>I.ok.exfs b z hb
theorem Inv.step {g':Array GenState} {t':Nat} {d':Drawn} {ch:List Addr} (I:Inv X pins σ H s)
   (hch:∀ b ∈ ch,(b ∈ X.ex\/X.s₀.heap.objs.size<=b)/\b ≠ X.env.locals/\(∀ x c,X.env.cells.lookup x=some c->c ≠ b)/\∀ p ∈ X.pn++pins,p.1 ≠ b)
   (keep:∀ b o,b ≠ X.env.locals->b ∉ X.fs->b ∉ ch->s.heap.get? b=some o->H b=none->h'.get? b=some o)
   (slot:∀ b o,b ≠ X.env.locals->b ∈ X.fs->b ∉ ch->s.heap.get? b=some o->H b=none->∃ sl,h'.get? b=some { o with slots:=sl }) (free:∀ b o,b ∉ ch->s.heap.get? b=some o->H b=none->H' b=none)
   (there:∀ b o,b ∉ ch->s.heap.get? b=some o->∃ o',h'.get? b=some o')
   (tups:∀ b xs,H b=some (.tup xs)->H' b=some (.tup xs)) (frzs:∀ b o u,H b=some (.frz o u)->H' b=some (.frz o u)) (tbls:∀ b ps,H b=some (.tbl ps)->∃ more,H' b=some (.tbl (ps++more)))
   (ns:∀ m,s.heap.Ns X.env.locals m->h'.Ns X.env.locals m) (hok:HOk X.prog X.w H' h') (hg:AllBare g') :
   Inv X pins σ H' { s with heap:=h',gens:=g',drawn:=d',toks:=t' }:=by
 have neL:∀ b o,X.s₀.heap.get? b=some o->b ≠ X.env.locals:=λb o e=>Nat.ne_of_lt (Nat.lt_of_lt_of_le (Heap.lt_size e) I.ok.above)
 have neC:∀ b o,X.s₀.heap.get? b=some o->b ∉ X.ex->b ∉ ch:=λb o e hx hb=>by
   rcases (hch b hb).1 with z | z
   · exact hx z
   · exact absurd (Nat.lt_of_lt_of_le (Heap.lt_size e) z) (Nat.lt_irrefl _)
 have cellK:∀ x c,X.env.cells.lookup x=some c->∀ v,s.heap.IsCell c v->h'.IsCell c v:=λx c e v ⟨o,ho,hd⟩=>by
   have nch:c ∉ ch:=λz=>(hch c z).2.2.1 x c e rfl
   by_cases hc:c ∈ X.fs
   · obtain ⟨sl,q⟩:=slot c o (I.cne x c e) hc nch ho (I.freeC x c e)
     exact ⟨_,q,hd⟩
   · exact ⟨o,keep c o (I.cne x c e) hc nch ho (I.freeC x c e),hd⟩
 refine ⟨I.ok,I.os,hg,⟨λb o e n hb hx=>?_,λb o e n hb hx=>?_,λb o e n hx=>?_,λb o e hx=>?_,λb xs e=>tups b xs (I.base.tups b xs e),λb o xs e=>frzs b o xs (I.base.frzs b o xs e),λb ps e=>?_⟩,?_,λx c e=>?_,?_,λx c e=>?_,λp hp=>?_,hok,I.len⟩
 · exact keep b o (neL b o e) hb (neC b o e hx) (I.base.keep b o e n hb hx) (I.base.free b o e n hx)
 · obtain ⟨sl,e1⟩:=I.base.slot b o e n hb hx
   obtain ⟨sl',e2⟩:=slot b _ (neL b o e) hb (neC b o e hx) e1 (I.base.free b o e n hx)
   exact ⟨sl',e2⟩
 · obtain ⟨o',e1⟩:=I.base.there b o e hx
   exact free b o' (neC b o e hx) e1 (I.base.free b o e n hx)
 · obtain ⟨o',e1⟩:=I.base.there b o e hx
   exact there b o' (neC b o e hx) e1
 · obtain ⟨m1,e1⟩:=I.base.tbls b ps e
   obtain ⟨m2,e2⟩:=tbls b _ e1
   exact ⟨m1++m2,by rw [e2,Array.append_assoc]⟩
 · obtain ⟨m,hn,hl⟩:=I.loc
   refine ⟨m,ns m hn,λi x v e1 e2 e3=>?_⟩
   obtain ⟨u,r,l⟩:=hl i x v e1 e2 e3
   refine ⟨u,r,?_⟩
   rcases l with l | ⟨k,c,e,z⟩
   · exact .inl l
   · exact .inr ⟨k,c,e,cellK x c e _ z⟩
 · obtain ⟨v,z⟩:=I.cell x c e
   exact ⟨v,cellK x c e v z⟩
 · obtain ⟨m,⟨o,_,_,ho,_⟩,_⟩:=I.loc
   exact free _ o (λz=>(hch _ z).2.1 rfl) ho I.free
 · obtain ⟨v,o,ho,hd⟩:=I.cell x c e
   exact free c o (λz=>(hch c z).2.2.1 x c e rfl) ho (I.freeC x c e)
 · obtain ⟨e,n,ne,nf,d⟩:=I.pin p hp
   have nch:p.1 ∉ ch:=λz=>(hch p.1 z).2.2.2 p hp rfl
   exact ⟨keep p.1 p.2 ne nf nch e n,free p.1 p.2 nch e n,ne,nf,d⟩
theorem Inv.un {t':Nat} (I:Inv X pins σ H s) (u:Un X.fs [] H H' s.heap h') (hok:HOk X.prog X.w H' h'):Inv X pins σ H' { s with heap:=h',toks:=t' }:=by
 obtain ⟨m,⟨o,es,ep,ho,r⟩,_⟩:=id I.loc
 obtain ⟨sl,hL⟩:=u.any ho I.free (by simp)
 exact I.step (g':=s.gens) (d':=s.drawn) (ch:=[]) (λ_ z=>nomatch z) (λb o _ hb _ e n=>u.keep b o e n hb (by simp)) (λb o _ hb _ e n=>u.slot b o e n hb (by simp)) (λb o _ e n=>u.free b o e n (by simp)) (λb o _ e=>u.there b o e (by simp)) u.tups u.frzs u.tbls (λm' hm=>by
   obtain ⟨o',es',ep',ho',r'⟩:=hm
   rw [ho] at ho'; cases ho'
   exact ⟨_,es',ep',hL,r'⟩) hok I.bare
theorem Inv.call {g':Array GenState} {t':Nat} {d':Drawn} {ch:List Addr} (I:Inv X pins σ H s) (u:Un (frs X.stack) ch H H' s.heap h') (hok:HOk X.prog X.w H' h') (hg:AllBare g')
   (hch:∀ b ∈ ch,(b ∈ X.ex\/X.s₀.heap.objs.size<=b)/\b ≠ X.env.locals/\(∀ x c,X.env.cells.lookup x=some c->c ≠ b)/\∀ p ∈ X.pn++pins,p.1 ≠ b) :
   Inv X pins σ H' { s with heap:=h',gens:=g',drawn:=d',toks:=t' }:=by
 obtain ⟨m,⟨o,es,ep,ho,r⟩,_⟩:=id I.loc
 obtain ⟨sl,hL⟩:=u.any ho I.free λz=>(hch _ z).2.1 rfl
 exact I.step (ch:=ch) hch (λb o hL hb hc e n=>u.keep b o e n (λz=>(List.mem_cons.mp (I.i6 b z)).elim hL hb) hc) (λb o _ _ hc e n=>u.any e n hc) (λb o hc e n=>u.free b o e n hc) (λb o hc e=>u.there b o e hc) u.tups u.frzs u.tbls (λm' hm=>by
   obtain ⟨o',es',ep',ho',r'⟩:=hm
   rw [ho] at ho'; cases ho'
   exact ⟨_,es',ep',hL,r'⟩) hok hg
theorem Inv.turned {t':Nat} {it:Addr} (I:Inv X pins σ H s) (k:∀ b o,b ≠ it->s.heap.get? b=some o->h'.get? b=some o) (hn:H it=none) (hL:it ≠ X.env.locals)
   (h1:it ∈ X.ex\/X.s₀.heap.objs.size<=it) (h2:∀ x c,X.env.cells.lookup x=some c->c ≠ it) (h3:∀ p ∈ X.pn++pins,p.1 ≠ it):Inv X pins σ H { s with heap:=h',toks:=t' }:=by
 have nit:∀ b u,H b=some u->b ≠ it:=λb u e z=>by rw [z,hn] at e; cases e
 refine I.step (g':=s.gens) (d':=s.drawn) (ch:=[it]) (λb hb=>?_) (λb o _ _ hc e _=>k b o (λz=>hc (by simp [z])) e) (λb o _ _ hc e _=>⟨o.slots,k b o (λz=>hc (by simp [z])) e⟩) (λ_ _ _ _ n=>n)
   (λb o hc e=>⟨o,k b o (λz=>hc (by simp [z])) e⟩) (λ_ _ e=>e) (λ_ _ _ e=>e) (λb ps e=>⟨#[],by rw [e]; simp⟩) (λm hm=>?_) (λb u e=>?_) I.bare
 · have e:b=it:=by simpa using hb
   subst e
   exact ⟨h1,hL,h2,h3⟩
 · obtain ⟨o,es,ep,ho,r⟩:=hm
   exact ⟨o,es,ep,k _ o (Ne.symm hL) ho,r⟩
 · refine (I.hok b u e).dR (λc v hc q=>k c v ?_ q) (λ_ q=>q) λ_ _ q=>q
   rcases hc with z | z
   · rw [z]; exact nit b u e
   · exact nit c _ z
theorem Inv.tok (I:Inv X pins σ H s) (t:Nat):Inv X pins σ H { s with toks:=t }:=I.un (h':=s.heap) (t':=t) Un.refl I.hok
theorem Inv.kept {t':Nat} (I:Inv X pins σ H s) (k:∀ b u,s.heap.get? b=some u->h'.get? b=some u):Inv X pins σ H { s with heap:=h',toks:=t' }:=I.un (Un.kept k) (I.hok.kept k)
theorem Inv.laid {a:Addr} {o:HO} {t':Nat} (I:Inv X pins σ H s) (k:∀ b u,s.heap.get? b=some u->h'.get? b=some u) (hp:s.heap.objs.size<=a) (new:bJ X.prog X.w (upd H a o) h' a o) :
   Inv X pins σ (upd H a o) { s with heap:=h',toks:=t' }:=I.un (Un.laid k hp (I.hok.fresh hp)) (I.hok.laid k hp new)
theorem Inv.write {x e:Addr} {o:HO} {t':Nat} (I:Inv X pins σ H s) (mu:Mut (H x)) (he:e=x\/H e=some (.own x)) (k:∀ b u,b ≠ e->s.heap.get? b=some u->h'.get? b=some u) (heo:∃ u,h'.get? e=some u)
   (new:bJ X.prog X.w (upd H x o) h' x o):Inv X pins σ (upd H x o) { s with heap:=h',toks:=t' }:=I.un (Un.write mu he k heo) (I.hok.write mu he k heo new)
theorem Inv.nY {pins':List (Addr × Obj)} (I:Inv X pins σ H s) (h:∀ p ∈ pins',s.heap.get? p.1=some p.2/\H p.1=none/\p.1 ≠ X.env.locals/\p.1 ∉ X.fs/\∀ v,p.2.data ≠ .cell v):Inv X pins' σ H s:=
 ⟨I.ok,I.os,I.bare,I.base,I.loc,I.cell,I.free,I.freeC,λp hp=>(List.mem_append.mp hp).elim (λz=>I.pin p (List.mem_append_left _ z)) (h p),I.hok,I.len⟩
theorem iu {N:List Str} (hN:N.Nodup) {i j:Nat} {x:Str} (a:N[i]?=some x) (b:N[j]?=some x):i=j:=by
 obtain ⟨h1,e1⟩:=List.getElem?_eq_some_iff.mp a
 obtain ⟨h2,e2⟩:=List.getElem?_eq_some_iff.mp b
 exact (List.getElem_inj hN).mp (e1.trans e2.symm)
theorem pJ {M:Model} {A:Around} {E:Value->Shared->Prop} {i:Nat} {x:Str} {v:V} {u:Value} {Q:Unit->Shared->Prop} (I:Inv X pins σ H s) (hN:X.N.Nodup) (hi:X.N[i]?=some x) (hx:Loc X.env.scope x) (r:RelV v u)
   (h:∀ s',Inv X pins (σ.set i (some v)) H s'->(∃ a,Heap.SameBut a s.heap s'.heap/\(a=X.env.locals\/X.env.cells.lookup x=some a))->Q () s') (hf:X.fn x=true\/X.env.scope.names.lookup x=some .local:=by first | exact .inl rfl | exact .inr rfl | assumption):wpAny M A (storeName X.env x u) Q E s:=by
 obtain ⟨m,hn,hl⟩:=id I.loc
 have hcls:(X.env.scope.kind == .class || (X.env.scope.kind == .module && X.env.locals != X.env.globals))=false:=by rw [I.ok.kind]; rfl
 have hiσ:i < σ.length:=by rw [I.len]; exact (List.getElem?_eq_some_iff.mp hi).1
 have cne:=I.cne
 have tracked:∀ {a:Addr} {h':Heap},(∃ o,s.heap.get? a=some o/\H a=none)->Heap.SameBut a s.heap h'->HOk X.prog X.w H h':=λ{a h'} ha hs b ob e=>by
   obtain ⟨_,_,hfree⟩:=ha
   refine (I.hok b ob e).dR (λc w' hc q=>(hs.2 c ?_).trans q) (λ_ q=>q) λ_ _ q=>q
   rintro rfl
   rcases hc with rfl | hc
   · rw [hfree] at e; cases e
   · rw [hfree] at hc; cases hc
 rcases hx with hk | hk
 · refine wpAny_storeName_local hk hn (λh' hn' hs=>?_) hcls
   obtain ⟨oL,_,_,hoL,_⟩:=id hn
   refine h _ ⟨I.ok,I.os,I.bare,⟨λb o e n hb hx=>?_,λb o e n hb hx=>?_,I.base.free,λb o e hx=>?_,I.base.tups,I.base.frzs,I.base.tbls⟩,⟨_,hn',λj y v' e1 e2 e3=>?_⟩,λy c e=>?_,I.free,I.freeC,λp hp=>?_,tracked ⟨oL,hoL,I.free⟩ hs,by simpa using I.len⟩ ⟨_,hs,.inl rfl⟩
   · exact (hs.2 b (Nat.ne_of_lt (Nat.lt_of_lt_of_le (Heap.lt_size e) I.ok.above))).trans (I.base.keep b o e n hb hx)
   · obtain ⟨sl,e1⟩:=I.base.slot b o e n hb hx
     exact ⟨sl,(hs.2 b (Nat.ne_of_lt (Nat.lt_of_lt_of_le (Heap.lt_size e) I.ok.above))).trans e1⟩
   · obtain ⟨o',e1⟩:=I.base.there b o e hx
     exact ⟨o',(hs.2 b (Nat.ne_of_lt (Nat.lt_of_lt_of_le (Heap.lt_size e) I.ok.above))).trans e1⟩
   · by_cases hj:j=i
     · subst hj
       rw [hi] at e1; cases e1
       rw [List.getElem?_set_self hiσ] at e2
       cases e2
       exact ⟨u,r,.inl ⟨hk,by simp⟩⟩
     · rw [List.getElem?_set_ne (Ne.symm hj)] at e2
       obtain ⟨u',r',q⟩:=hl j y v' e1 e2 e3
       refine ⟨u',r',?_⟩
       rcases q with ⟨k,e⟩ | ⟨k,c,e,z⟩
       · refine .inl ⟨k,?_⟩
         have:y ≠ x:=λe=>hj (iu hN e1 (e ▸ hi))
         simp [this,e]
       · exact .inr ⟨k,c,e,z.sameBut hs (cne y c e)⟩
   · obtain ⟨w',z⟩:=I.cell y c e
     exact ⟨w',z.sameBut hs (cne y c e)⟩
   · obtain ⟨e,n,ne,nf,d⟩:=I.pin p hp
     exact ⟨(hs.2 p.1 ne).trans e,n,ne,nf,d⟩
 · have hfn:X.fn x=true:=by
     rcases hf with z | z
     · exact z
     · rw [z] at hk; cases hk
   obtain ⟨c,hc⟩:=I.ok.has x (.inl hk)
   obtain ⟨w',z⟩:=I.cell x c hc
   refine wpAny_storeName_cell I.ok.kind hk hc z (λh' hc' hs=>?_)
   obtain ⟨oc,hoc,hocd⟩:=id z
   refine h { s with heap:=h' } ⟨I.ok,I.os,I.bare,⟨λb o e n hb hx=>?_,λb o e n hb hx=>?_,I.base.free,λb o e hx=>?_,I.base.tups,I.base.frzs,I.base.tbls⟩,⟨m,hn.sameBut hs (Ne.symm (cne x c hc)),λj y v' e1 e2 e3=>?_⟩,λy c' e=>?_,I.free,I.freeC,λp hp=>?_,tracked ⟨oc,hoc,I.freeC x c hc⟩ hs,by simpa using I.len⟩ ⟨c,hs,.inr hc⟩
   · exact (hs.2 b (Nat.ne_of_lt (Nat.lt_of_lt_of_le (Heap.lt_size e) (I.ok.cab x c hfn hc)))).trans (I.base.keep b o e n hb hx)
   · obtain ⟨sl,e1⟩:=I.base.slot b o e n hb hx
     exact ⟨sl,(hs.2 b (Nat.ne_of_lt (Nat.lt_of_lt_of_le (Heap.lt_size e) (I.ok.cab x c hfn hc)))).trans e1⟩
   · obtain ⟨o',e1⟩:=I.base.there b o e hx
     exact ⟨o',(hs.2 b (Nat.ne_of_lt (Nat.lt_of_lt_of_le (Heap.lt_size e) (I.ok.cab x c hfn hc)))).trans e1⟩
   · by_cases hj:j=i
     · subst hj
       rw [hi] at e1; cases e1
       rw [List.getElem?_set_self hiσ] at e2
       cases e2
       exact ⟨u,r,.inr ⟨.inl hk,c,hc,hc'⟩⟩
     · rw [List.getElem?_set_ne (Ne.symm hj)] at e2
       obtain ⟨u',r',q⟩:=hl j y v' e1 e2 e3
       refine ⟨u',r',?_⟩
       rcases q with q | ⟨k,c',e,z'⟩
       · exact .inl q
       · refine .inr ⟨k,c',e,z'.sameBut hs ?_⟩
         rintro rfl
         exact hj (iu hN e1 (I.ok.inj _ _ _ e hc ▸ hi))
   · by_cases hcc:c'=c
     · subst hcc; exact ⟨_,hc'⟩
     · obtain ⟨w2,z2⟩:=I.cell y c' e
       exact ⟨w2,z2.sameBut hs hcc⟩
   · obtain ⟨e,n,ne,nf,d⟩:=I.pin p hp
     refine ⟨(hs.2 p.1 ?_).trans e,n,ne,nf,d⟩
     intro q
     rw [q,hoc] at e
     have q':oc=p.2:=Option.some.inj e
     exact d w' (by rw [<- q']; exact hocd)
theorem fR {M:Model} {A:Around} {E:Value->Shared->Prop} {i:Nat} {x:Str} {v:V} {u:Value} {Q:Unit->Shared->Prop} (I:Inv X pins σ H s) (hN:X.N.Nodup) (hi:X.N[i]?=some x) (hx:Loc X.env.scope x) (r:RelV v u)
   (h:∀ s',Inv X pins (σ.set i (some v)) H s'->Q () s') (hf:X.fn x=true\/X.env.scope.names.lookup x=some .local:=by first | exact .inl rfl | exact .inr rfl | assumption):wpAny M A (storeName X.env x u) Q E s:=
 pJ I hN hi hx r (λs' I' _=>h s' I') hf
theorem Inv.jE {s':Shared} {ch:List Addr} (I:Inv X pins σ H s) (ho:s'.os=s.os) (u:Un (frs X.stack) ch H H' s.heap s'.heap) (hok:HOk X.prog X.w H' s'.heap) (hg:AllBare s'.gens)
   (hch:∀ b ∈ ch,(b ∈ X.ex\/X.s₀.heap.objs.size<=b)/\b ≠ X.env.locals/\(∀ x c,X.env.cells.lookup x=some c->c ≠ b)/\∀ p ∈ X.pn++pins,p.1 ≠ b):Inv X pins σ H' s':=by
 obtain ⟨h',g',d',t',o'⟩:=s'
 have e:o'=s.os:=ho
 subst e
 exact I.call (g':=g') (t':=t') (d':=d') u hok hg hch
end
noncomputable abbrev XK:=Value->Option Addr->Hp->Prop
noncomputable abbrev St:=List (Option V)
noncomputable abbrev VK:=V->Hp->Prop
noncomputable abbrev TE:=St->Hp->VK->Prop
noncomputable abbrev TT:=St->Hp->(Bool->Hp->Prop)->Prop
noncomputable abbrev TA:=St->Hp->(List V->Hp->Prop)->Prop
structure Ends where
 nx:St->Hp->Prop
 rt:VK
 bk:St->Hp->Prop:=λ_ _=>False
 ct:St->Hp->Prop:=λ_ _=>False
noncomputable abbrev TS:=Ends->St->Hp->Prop
noncomputable def EP (X:Cx) (pins:List (Addr × Obj)) (σ:St) (Q:VK) (u:Value) (s':Shared):Prop:=∃ v H',Inv X pins σ H' s'/\RelV v u/\Q v H'
noncomputable def TP (X:Cx) (pins:List (Addr × Obj)) (σ:St) (Q:Bool->Hp->Prop) (b:Bool) (s':Shared):Prop:=∃ H',Inv X pins σ H' s'/\Q b H'
noncomputable def AP (X:Cx) (pins:List (Addr × Obj)) (σ:St) (Q:List V->Hp->Prop) (us:List Value) (s':Shared):Prop:=∃ vs H',Inv X pins σ H' s'/\Vals vs us/\Q vs H'
noncomputable def SP (X:Cx) (pins:List (Addr × Obj)) (D:Ends) (f:Flow) (s':Shared):Prop:=
 match f with
 | .next=>∃ σ' H',Inv X pins σ' H' s'/\D.nx σ' H'
 | .brk=>∃ σ' H',Inv X pins σ' H' s'/\D.bk σ' H'
 | .cont=>∃ σ' H',Inv X pins σ' H' s'/\D.ct σ' H'
 | .ret u=>∃ v σ' H',Inv X pins σ' H' s'/\RelV v u/\D.rt v H'
noncomputable def PE (X:Cx) (e:Expr) (t:TE):Prop:=
 ∀ (pins:List (Addr × Obj)) (s:Shared) (σ:St) (H:Hp) (Q:VK),Inv X pins σ H s->t σ H Q->wpAny (model X.prog X.w) X.A (eval e X.env) (EP X pins σ Q) X.xe s
noncomputable def PT (X:Cx) (e:Expr) (t:TT):Prop:=
 ∀ (pins:List (Addr × Obj)) (s:Shared) (σ:St) (H:Hp) (Q:Bool->Hp->Prop),Inv X pins σ H s->t σ H Q->wpAny (model X.prog X.w) X.A (isTrue e X.env (eval e X.env)) (TP X pins σ Q) X.xe s
noncomputable def PW (X:Cx) (e:Expr) (t:TT):Prop:=
 ∀ (whole:Sem Value) (pins:List (Addr × Obj)) (s:Shared) (σ:St) (H:Hp) (Q:Bool->Hp->Prop),Inv X pins σ H s->t σ H Q->wpAny (model X.prog X.w) X.A (isTrue e X.env whole) (TP X pins σ Q) X.xe s
theorem PW.pt {X:Cx} {e:Expr} {t:TT} (h:PW X e t):PT X e t:=h _
noncomputable def PA (X:Cx) (es:List Expr) (t:TA):Prop:=
 ∀ (pos:Pos) (pins:List (Addr × Obj)) (s:Shared) (σ:St) (H:Hp) (Q:List V->Hp->Prop),Inv X pins σ H s->t σ H Q->wpAny (model X.prog X.w) X.A (spliced (backTo pos (starEach es X.env))) (AP X pins σ Q) X.xe s
noncomputable def PS (X:Cx) (st:Stmt) (t:TS):Prop:=
 ∀ (pins:List (Addr × Obj)) (s:Shared) (σ:St) (H:Hp) (D:Ends),Inv X pins σ H s->t D σ H->wpAny (model X.prog X.w) X.A (exec st X.env) (SP X pins D) X.xe s
noncomputable def PSs (X:Cx) (st:List Stmt) (t:TS):Prop:=
 ∀ (pins:List (Addr × Obj)) (s:Shared) (σ:St) (H:Hp) (D:Ends),Inv X pins σ H s->t D σ H->wpAny (model X.prog X.w) X.A (execs st X.env) (SP X pins D) X.xe s
theorem thn {α:Type} {t:Sem α} {Q Q':α->Shared->Prop} {M:Model} {A:Around} {E:Value->Shared->Prop} {s:Shared} (h:wpAny M A t Q E s) (hQ:∀ a s,Q a s->Q' a s):wpAny M A t Q' E s:=wpAny_mono h hQ λ_ _ x=>x
section
variable {X:Cx}
theorem bin {a b:Expr} {ta tb:TE} (ha:PE X a ta) (hb:PE X b tb) {pins:List (Addr × Obj)} {s:Shared} {σ:St} {H:Hp} {R:V->V->Hp->Prop} (I:Inv X pins σ H s) (h:ta σ H λx H1=>tb σ H1 λy H2=>R x y H2)
   {α:Type} {Q:α->Shared->Prop} {f:Value->Value->Sem α}
   (hf:∀ v u s2 x y H2,Inv X pins σ H2 s2->RelV x v->RelV y u->R x y H2->wpAny (model X.prog X.w) X.A (f v u) Q X.xe s2) :
   wpAny (model X.prog X.w) X.A (eval a X.env) (λv s₁=>wpAny (model X.prog X.w) X.A (eval b X.env) (λu s₂=>wpAny (model X.prog X.w) X.A (f v u) Q X.xe s₂) X.xe s₁) X.xe s:=by
 refine thn (ha pins s σ H _ I h) λv s1 ⟨x,H1,I1,r1,q1⟩=>?_
 refine thn (hb pins s1 σ H1 _ I1 q1) λu s2 ⟨y,H2,I2,r2,q2⟩=>?_
 exact hf v u s2 x y H2 I2 r1 r2 q2
noncomputable def yV (i:Nat):TE:=λσ H Q=>∃ v,σ[i]?=some (some v)/\Q v H
noncomputable def tC (v:V):TE:=λ_ H Q=>Q v H
theorem dr {i:Nat} {x:Str} {pos:Pos} (hN:X.N[i]?=some x) (hv:Vis X.env.scope x) (hd:(x == ("__debug__" : Str))=false:=by decide) (hcd:(x == ("__classdict__" : Str))=false:=by decide):PE X (.Name x pos) (yV i):=by
 intro pins s σ H Q I h
 obtain ⟨v,e,h⟩:=h
 obtain ⟨m,hn,hl⟩:=I.loc
 obtain ⟨u,r,l⟩:=hl i x v hN e hv
 have fin:EP X pins σ Q u s:=⟨v,H,I,r,h⟩
 rcases l with ⟨hk,hm⟩ | ⟨hk,c,hc,hcell⟩
 · exact wpAny_Name (wpAny_loadName_local I.ok.kind hk hn hm fin) hd
 · rcases hk with hk | hk
   · exact wpAny_Name (wpAny_loadName_cell I.ok.kind hk hc hcell fin) hd
   · exact wpAny_Name (wpAny_loadName_free I.ok.kind hk hc hcell fin hcd) hd
theorem wg {i j pos}:PE X (.Constant (.int i) j pos) (tC (.int i)):=λ_ _ _ H _ I h=>wpAny_Constant_int ⟨.int i,H,I.tok _,⟨_,rfl⟩,h⟩
theorem yk {b j pos}:PE X (.Constant (.bool b) j pos) (tC (.bl b)):=λ_ _ _ H _ I h=>Constant_bool ⟨.bl b,H,I,rfl,h⟩
theorem uI {j pos}:PE X (.Constant .none j pos) (tC .non):=λ_ _ _ H _ I h=>Constant_none ⟨.non,H,I,rfl,h⟩
theorem vb {x j pos}:PE X (.Constant (.str x) j pos) (tC (.str x)):=λ_ _ _ H _ I h=>Calls.Constant_str ⟨.str x,H,I.tok _,⟨_,rfl⟩,h⟩
noncomputable def Gl (X:Cx) (x:Str):Prop:=X.env.kindOf x=some .globalImplicit
theorem fB {E:Value->Shared->Prop} {pins:List (Addr × Obj)} {s:Shared} {σ:St} {H:Hp} {x:Str} {u:Value} {pos:Pos} {Q:Value->Shared->Prop} (I:Inv X pins σ H s) (hg:Gl X x) (hm:X.mg x=some u) (h:Q u s)
   (hd:(x == ("__debug__" : Str))=false:=by decide):wpAny (model X.prog X.w) X.A (eval (.Name x pos) X.env) Q E s:=
 Calls.Name_function_global I.ok.kind hg (Calls.loadGlobal_global (by rw [I.ok.glob]; exact I.mod.glob.keeps I.bk) hm h) hd
theorem cu {E:Value->Shared->Prop} {pins:List (Addr × Obj)} {s:Shared} {σ:St} {H:Hp} {x:Str} {u:Value} {pos:Pos} {Q:Value->Shared->Prop} (I:Inv X pins σ H s) (hg:Gl X x) (hm:X.mg x=none) (hv:bootBuiltins x=some u) (h:Q u s)
   (hn:x ≠ "__name__":=by decide) (hd:(x == ("__debug__" : Str))=false:=by decide):wpAny (model X.prog X.w) X.A (eval (.Name x pos) X.env) Q E s:=by
 obtain ⟨mb,h1,h2⟩:=I.mod.blt
 exact Calls.Name_function_global I.ok.kind hg (Calls.loadGlobal_builtin (by rw [I.ok.glob]; exact I.mod.glob.keeps I.bk) hm (by rw [I.ok.blt]; exact h1.keeps I.bk) ((h2 x hn).trans hv) h) hd
theorem nB {x:Str} {v:V} {u:Value} {pos:Pos} (hg:Gl X x) (hm:X.mg x=some u) (r:RelV v u) (hd:(x == ("__debug__" : Str))=false:=by decide):PE X (.Name x pos) (tC v):=
 λ_ _ _ H _ I h=>fB I hg hm ⟨v,H,I,r,h⟩ hd
theorem oo {x:Str} {v:V} {u:Value} {pos:Pos} (hg:Gl X x) (hm:X.mg x=none) (hv:bootBuiltins x=some u) (r:RelV v u) (hn:x ≠ "__name__":=by decide) (hd:(x == ("__debug__" : Str))=false:=by decide):PE X (.Name x pos) (tC v):=
 λ_ _ _ H _ I h=>cu I hg hm hv ⟨v,H,I,r,h⟩ hn hd
variable {a b:Expr} {ta tb:TE} {pos:Pos}
noncomputable def PC (X:Cx) (op:CmpOp) (a b:Expr) (t:TE):Prop:=
 ∀ (pins:List (Addr × Obj)) (s:Shared) (σ:St) (H:Hp) (Q:VK),Inv X pins σ H s->t σ H Q ->
   wpAny (model X.prog X.w) X.A (eval a X.env) (λv s₁=>wpAny (model X.prog X.w) X.A (eval b X.env) (λu s₂=>wpAny (model X.prog X.w) X.A (compareOp op v u) (EP X pins σ Q) X.xe s₂) X.xe s₁) X.xe s
theorem rW (b:Expr) {op:CmpOp} (h:op ≠ .In) (h2:op ≠ .NotIn):behindInMarks op b=false:=by
 have e1:(op == CmpOp.In)=false:=by cases op <;> first | rfl | exact absurd rfl h
 have e2:(op == CmpOp.NotIn)=false:=by cases op <;> first | rfl | exact absurd rfl h2
 cases b <;> simp [behindInMarks,e1,e2]
noncomputable def tB (t:TE):TT:=λσ H Q=>t σ H λx H1=>∃ c,x=.bl c/\Q c H1
theorem yG {op:CmpOp} {t:TE} (h:PC X op a b t) (h1:behindInMarks op b=false:=by first | exact rW _ (by decide) (by decide) | rfl):PT X (.Compare a [op] [b] pos) (tB t):=by
 intro pins s σ H Q I hw
 refine wpAny_isTrue_Compare1 (thn (h pins s σ H _ I hw) λv s1 h1=>thn h1 λu s2 h2=>thn h2 λc s3 ⟨x,H1,I1,r1,q1⟩=>?_) h1
 obtain ⟨d,rfl,q⟩:=q1
 cases r1
 exact wpAny_truthy_bool ⟨H1,I1,q⟩
theorem wB {e:Expr} {t:TE} (h:PE X e t) (he:∀ whole,isTrue e X.env whole=(do let v <- whole; standAt e.pos; holding [v] (truthy v)):=by intro _; rfl):PT X e (tB t):=by
 intro pins s σ H Q I hw
 refine isTrue_plain (thn (h pins s σ H _ I hw) λv s1 ⟨x,H1,I1,r1,q1⟩=>?_) (he _)
 obtain ⟨d,rfl,q⟩:=q1
 cases r1
 exact wpAny_truthy_bool ⟨H1,I1,q⟩
variable {tA tB':TT} {rest:List Expr}
noncomputable def tOr (t u:TT):TT:=λσ H Q=>t σ H λc H1=>if c=true then Q true H1 else u σ H1 Q
noncomputable def yD (t:TT):TT:=λσ H Q=>t σ H λc H1=>Q (!c) H1
theorem pw_or1 (ha:PT X a tA):PW X (.BoolOp .Or [a] pos) tA:=by
 intro wh pins s σ H Q I h
 refine isTrue_or (thn (ha pins s σ H Q I h) λc s1 e=>?_)
 cases c with
 | false=>exact isTrue_or_nil e
 | true=>exact e
theorem pw_or (ha:PT X a tA) (hb:PW X (.BoolOp .Or (b :: rest) pos) tB'):PW X (.BoolOp .Or (a :: b :: rest) pos) (tOr tA tB'):=by
 intro wh pins s σ H Q I h
 refine isTrue_or (thn (ha pins s σ H _ I h) λc s1 ⟨H1,I1,q1⟩=>?_)
 cases c with
 | true=>exact ⟨H1,I1,q1⟩
 | false=>exact hb wh pins s1 σ H1 Q I1 q1
theorem v5 (ha:PT X a tA):PT X (.UnaryOp .Not a pos) (yD tA):=by
 intro pins s σ H Q I h
 exact isTrue_not (ha pins s σ H (λc H1=>Q (!c) H1) I h)
noncomputable def xq (ta tb:TE):TE:=λσ H Q=>ta σ H λx H1=>∃ c,x=.bl c/\if c=true then tb σ H1 Q else Q (.bl false) H1
noncomputable def xF (ta:TE):TE:=λσ H Q=>ta σ H λx H1=>∃ c,x=.bl c/\Q (.bl (!c)) H1
theorem vD {op} {t:TE} (h:PE X a t):PE X (.BoolOp op [a] pos) t:=λpins s σ H Q I hw=>BoolOp_one (h pins s σ H Q I hw)
theorem qi (ha:PE X a ta) (hb:PE X (.BoolOp .And (b :: rest) pos) tb):PE X (.BoolOp .And (a :: b :: rest) pos) (xq ta tb):=by
 intro pins s σ H Q I h
 refine BoolOp_and (thn (ha pins s σ H _ I h) λv s1 ⟨x,H1,I1,r1,q1⟩=>?_)
 obtain ⟨c,rfl,q1⟩:=q1
 cases r1
 refine wpAny_truthy_bool ?_
 cases c with
 | true=>exact hb pins s1 σ H1 Q I1 q1
 | false=>exact ⟨.bl false,H1,I1,rfl,q1⟩
theorem uQ (ha:PE X a ta):PE X (.UnaryOp .Not a pos) (xF ta):=by
 intro pins s σ H Q I h
 refine UnaryOp_ (thn (ha pins s σ H _ I h) λv s1 ⟨x,H1,I1,r1,q1⟩=>?_)
 obtain ⟨c,rfl,q1⟩:=q1
 cases r1
 exact not_of (wpAny_truthy_bool ⟨.bl (!c),H1,I1,rfl,q1⟩)
end
noncomputable def SqL (K:PySem.W.Frag) (H:Hp) (a:Addr) (xs:List V):Prop:=
 Rd H a (.lst xs) \/
   ∃ (o:Obj) (its:Array Value) (n:Nat),K.lookup a=some o/\o.cls=.type "list" /\ o.dict=none/\o.data=.seq its n/\its.size<=sizeLine/\Vals xs its.toList
noncomputable def SqT (K:PySem.W.Frag) (H:Hp) (a:Addr) (xs:List V):Prop:=
 Rd H a (.tup xs) \/
   ∃ (o:Obj) (its:Array Value) (n:Nat),K.lookup a=some o/\o.cls=.type "tuple" /\ o.data=.seq its n/\its.size<=sizeLine/\Vals xs its.toList
noncomputable def yO:Value->Option V
 | .none=>some .non
 | .bool b=>some (.bl b)
 | .int i _=>some (.int i)
 | .str x _=>some (.str x)
 | .bytes b _=>some (.byt b)
 | .float b _=>some (.flt b)
 | .ref a=>some (.ref a)
 | .type n=>some (.ty n)
 | _=>none
theorem RelV.abs {x:V} {u:Value} (r:RelV x u):yO u=some x:=by
 cases x with
 | non=>cases r; rfl
 | bl _=>cases r; rfl
 | int _=>obtain ⟨t,rfl⟩:=r; rfl
 | str _=>obtain ⟨t,rfl⟩:=r; rfl
 | byt _=>obtain ⟨t,rfl⟩:=r; rfl
 | flt _=>obtain ⟨t,rfl⟩:=r; rfl
 | ref _=>cases r; rfl
 | ty _=>cases r; rfl
theorem RelV.inj {x y:V} {u:Value} (r:RelV x u) (q:RelV y u):x=y:=Option.some.inj (r.abs.symm.trans q.abs)
theorem Vals.inj:∀ {xs ys:List V} {us:List Value},Vals xs us->Vals ys us->xs=ys
 | _,_,_,.nil,.nil=>rfl
 | _,_,_,.cons r t,.cons r' t'=>by rw [r.inj r',Vals.inj t t']
section
variable {X:Cx} {pins:List (Addr × Obj)} {σ:St} {H:Hp} {s:Shared} {a:Addr} {xs ys:List V}
theorem SqL.of {K:PySem.W.Frag} (h:H a=some (.lst xs)):SqL K H a xs:=.inl (.inl h)
theorem SqT.of {K:PySem.W.Frag} (h:H a=some (.tup xs)):SqT K H a xs:=.inl (.inl h)
theorem Inv.list (I:Inv X pins σ H s) (h:SqL X.K H a xs):∃ its:List Value,Vals xs its/\PlainL s.heap a its.toArray/\xs.length<=sizeLine:=by
 rcases h with h | ⟨o,its,n,hk,hc,hd,hs,hz,r⟩
 · obtain ⟨z,its,n,r,e⟩:=h.ok I.hok
   exact ⟨its,r,⟨_,n,e,rfl,rfl,rfl⟩,z⟩
 · refine ⟨its.toList,r,⟨o,n,I.kIn a o hk,hc,hd,by simpa using hs⟩,?_⟩
   have e:=r.length
   simp only [Array.length_toList] at e
   omega
theorem Inv.tuple (I:Inv X pins σ H s) (h:SqT X.K H a xs):∃ its:List Value,Vals xs its/\IsTup s.heap a its.toArray/\xs.length<=sizeLine:=by
 rcases h with h | ⟨o,its,n,hk,hc,hs,hz,r⟩
 · obtain ⟨z,its,r,p⟩:=h.ok I.hok
   exact ⟨its,r,p,z⟩
 · refine ⟨its.toList,r,⟨o,I.kIn a o hk,hc,n,by simpa using hs⟩,?_⟩
   have e:=r.length
   simp only [Array.length_toList] at e
   omega
theorem Inv.eG (I:Inv X pins σ H s) (h:SqL X.K H a xs) (h':SqL X.K H a ys):xs=ys:=by
 obtain ⟨its,r,⟨o,n,e,_,_,d⟩,_⟩:=I.list h
 obtain ⟨its',r',⟨o',n',e',_,_,d'⟩,_⟩:=I.list h'
 rw [e] at e'; cases e'
 rw [d] at d'
 injection d' with d1 _
 have:its=its':=by simpa using congrArg Array.toList d1
 subst this
 exact r.inj r'
theorem Inv.pf (I:Inv X pins σ H s) (h:SqT X.K H a xs) (h':SqT X.K H a ys):xs=ys:=by
 obtain ⟨its,r,⟨o,e,_,n,d⟩,_⟩:=I.tuple h
 obtain ⟨its',r',⟨o',e',_,n',d'⟩,_⟩:=I.tuple h'
 rw [e] at e'; cases e'
 rw [d] at d'
 injection d' with d1 _
 have:its=its':=by simpa using congrArg Array.toList d1
 subst this
 exact r.inj r'
end
noncomputable abbrev Cx.gy (X:Cx) (E:Value->Shared->Prop):Cx:={ X with xe:=E }
noncomputable abbrev Cx.nox (X:Cx):Cx:=X.gy λ_ _=>False
theorem Cx.Ok.gy {X:Cx} (ok:X.Ok) (E:Value->Shared->Prop):(X.gy E).Ok:=
 ⟨ok.mod,ok.kind,ok.glob,ok.blt,ok.above,ok.inj,ok.has,ok.cab,ok.hd,ok.frames,ok.stk,ok.exf,ok.bs,ok.bsz,ok.noex,ok.exfs,ok.gp,ok.frf⟩
theorem Cx.Ok.cN {X:Cx} {E:Value->Shared->Prop} (ok:(X.gy E).Ok):X.Ok:=
 ⟨ok.mod,ok.kind,ok.glob,ok.blt,ok.above,ok.inj,ok.has,ok.cab,ok.hd,ok.frames,ok.stk,ok.exf,ok.bs,ok.bsz,ok.noex,ok.exfs,ok.gp,ok.frf⟩
section
variable {X:Cx} {pins:List (Addr × Obj)} {σ:St} {H:Hp} {s:Shared} {E:Value->Shared->Prop}
theorem Inv.gy (I:Inv X pins σ H s) (E:Value->Shared->Prop):Inv (X.gy E) pins σ H s:=⟨I.ok.gy E,I.os,I.bare,I.base,I.loc,I.cell,I.free,I.freeC,I.pin,I.hok,I.len⟩
theorem Inv.cN (I:Inv (X.gy E) pins σ H s):Inv X pins σ H s:=⟨I.ok.cN,I.os,I.bare,I.base,I.loc,I.cell,I.free,I.freeC,I.pin,I.hok,I.len⟩
theorem SP.cN {D:Ends} {f:Flow} {s':Shared} (h:SP (X.gy E) pins D f s'):SP X pins D f s':=by
 cases f with
 | next=>obtain ⟨σ',H',I,q⟩:=h; exact ⟨σ',H',I.cN,q⟩
 | brk=>obtain ⟨σ',H',I,q⟩:=h; exact ⟨σ',H',I.cN,q⟩
 | cont=>obtain ⟨σ',H',I,q⟩:=h; exact ⟨σ',H',I.cN,q⟩
 | ret u=>obtain ⟨v,σ',H',I,r,q⟩:=h; exact ⟨v,σ',H',I.cN,r,q⟩
theorem PE.nox {e:Expr} {t:TE} (h:PE X.nox e t):PE X e t:=λpins s σ H Q I hw=>
 wpAny_mono (h pins s σ H Q (I.gy _) hw) (λ_ _ ⟨v,H',I',r,q⟩=>⟨v,H',I'.cN,r,q⟩) λ_ _ z=>False.elim z
theorem PT.nox {e:Expr} {t:TT} (h:PT X.nox e t):PT X e t:=λpins s σ H Q I hw=>
 wpAny_mono (h pins s σ H Q (I.gy _) hw) (λ_ _ ⟨H',I',q⟩=>⟨H',I'.cN,q⟩) λ_ _ z=>False.elim z
theorem PSs.nox {st:List Stmt} {t:TS} (h:PSs X.nox st t):PSs X st t:=λpins s σ H D I hw=>
 wpAny_mono (h pins s σ H D (I.gy _) hw) (λ_ _ q=>q.cN) λ_ _ z=>False.elim z
end
section
variable {X:Cx} {st:Stmt} {rest:List Stmt} {t u:TS} {e:Expr} {te:TE} {pos:Pos}
noncomputable def wU:TS:=λD σ H=>D.nx σ H
noncomputable def yC (t u:TS):TS:=λD σ H=>t { D with nx:=u D } σ H
theorem sT:PSs X [] wU:=λ_ _ σ H _ I h=>wpAny_execs_nil ⟨σ,H,I,h⟩
theorem qb (h1:PS X st t) (h2:PSs X rest u):PSs X (st :: rest) (yC t u):=by
 intro pins s σ H D I h
 refine wpAny_execs_cons (thn (h1 pins s σ H { D with nx:=u D } I h) λf s1 q=>?_)
 cases f with
 | next=>
   obtain ⟨σ',H',I',q⟩:=q
   exact h2 pins s1 σ' H' D I' q
 | ret v=>exact q
 | brk=>exact q
 | cont=>exact q
theorem tj (h1:PS X st t):PSs X [st] t:=by
 intro pins s σ H D I h
 refine wpAny_execs_cons (thn (h1 pins s σ H D I h) λf s1 q=>?_)
 cases f with
 | next=>exact wpAny_execs_nil q
 | ret v=>exact q
 | brk=>exact q
 | cont=>exact q
theorem Inv.quiet {pins:List (Addr × Obj)} {σ:St} {H:Hp} {s:Shared} (I:Inv X pins σ H s):interactive X.env=false:=by simp [interactive,I.ok.kind]
noncomputable def xu (te:TE):TS:=λD σ H=>te σ H λ_ H1=>D.nx σ H1
theorem g9 (he:PE X e te) (hs:swapsWith e none pos.line X.env=pure false:=by rfl):PS X (.Expr e pos) (xu te):=by
 intro pins s σ H D I h
 exact wpAny_Expr_any (thn (he pins s σ H _ I h) λv s1 ⟨x,H1,I1,r1,q1⟩=>⟨σ,H1,I1,q1⟩) I.quiet hs
noncomputable def yq (te:TE):TS:=λD σ H=>te σ H D.rt
theorem j0 (he:PE X e te):PS X (.Return (some e) pos) (yq te):=by
 intro pins s σ H D I h
 exact wpAny_Return_some (thn (he pins s σ H _ I h) λv s1 ⟨x,H1,I1,r1,q1⟩=>⟨x,σ,H1,I1,r1,q1⟩)
noncomputable def yF (c:TT) (t u:TS):TS:=λD σ H=>c σ H λb H1=>if b=true then t D σ H1 else u D σ H1
theorem ug {c:Expr} {a b:List Stmt} {tc:TT} (hc:PT X c tc) (ha:PSs X a t) (hb:PSs X b u):PS X (.If c a b pos) (yF tc t u):=by
 intro pins s σ H D I h
 refine wpAny_If (thn (hc pins s σ H _ I h) λd s1 ⟨H1,I1,q1⟩=>?_)
 cases d with
 | true=>exact ha pins s1 σ H1 D I1 q1
 | false=>exact hb pins s1 σ H1 D I1 q1
noncomputable def u5:TS:=λ_ _ _=>False
theorem jR {sts:List Stmt}:PSs X sts u5:=λ_ _ _ _ _ _ h=>h.elim
end
noncomputable abbrev TG:=V->St->Hp->(St->Hp->Prop)->Prop
noncomputable abbrev TGs:=List V->St->Hp->(St->Hp->Prop)->Prop
noncomputable def PG (X:Cx) (target:Expr) (t:TG):Prop:=
 ∀ (pins:List (Addr × Obj)) (s:Shared) (σ:St) (H:Hp) (v:V) (u:Value) (Q:St->Hp->Prop),Inv X pins σ H s->RelV v u->t v σ H Q ->
   wpAny (model X.prog X.w) X.A (assign target X.env u) (λ_ s'=>∃ σ' H',Inv X pins σ' H' s'/\Q σ' H') X.xe s
noncomputable def PGs (X:Cx) (ts:List Expr) (t:TGs):Prop:=
 ∀ (pins:List (Addr × Obj)) (s:Shared) (σ:St) (H:Hp) (vs:List V) (us:List Value) (Q:St->Hp->Prop),Inv X pins σ H s->Vals vs us->t vs σ H Q ->
   wpAny (model X.prog X.w) X.A (assignInOrder ((assignEach ts X.env).map (·.2)) us) (λ_ s'=>∃ σ' H',Inv X pins σ' H' s'/\Q σ' H') X.xe s
noncomputable abbrev vY:=V->V->V->Hp->(Hp->Prop)->Prop
noncomputable def yc (X:Cx) (t:vY):Prop:=
 ∀ (pins:List (Addr × Obj)) (s:Shared) (σ:St) (H:Hp) (o i v:V) (ov iv u:Value) (Q:Hp->Prop),Inv X pins σ H s->RelV o ov->RelV i iv->RelV v u->t o i v H Q ->
   wpAny (model X.prog X.w) X.A (setItem ov iv u) (λ_ s'=>∃ H',Inv X pins σ H' s'/\Q H') X.xe s
section
variable {X:Cx} {pos:Pos}
noncomputable def ua (i:Nat):TG:=λv σ H Q=>Q (σ.set i (some v)) H
theorem ft {i:Nat} {x:Str} (hN:X.N.Nodup) (hi:X.N[i]?=some x) (hx:Loc X.env.scope x) (hf:X.fn x=true\/X.env.scope.names.lookup x=some .local:=by first | exact .inl rfl | exact .inr rfl | assumption):PG X (.Name x pos) (ua i):=by
 intro pins s σ H v u Q I r h
 exact wpAny_assign_Name (fR I hN hi hx r (λs' I'=>⟨_,H,I',h⟩) hf)
noncomputable def yS:TGs:=λvs σ H Q=>vs=[]/\Q σ H
noncomputable def xB (t:TG) (u:TGs):TGs:=λvs σ H Q=>∃ v r,vs=v :: r/\t v σ H λσ' H'=>u r σ' H' Q
theorem oF:PGs X [] yS:=by
 intro pins s σ H vs us Q I r h
 obtain ⟨e,h⟩:=h
 subst e
 cases r
 exact assignInOrder_nil ⟨σ,H,I,h⟩
theorem iy {e:Expr} {es:List Expr} {t:TG} {u:TGs} (h1:PG X e t) (h2:PGs X es u)
   (hs:(assignEach (e :: es) X.env).map (·.2)=assign e X.env :: (assignEach es X.env).map (·.2):=by rfl):PGs X (e :: es) (xB t u):=by
 intro pins s σ H vs us Q I r h
 obtain ⟨v,vr,e1,h⟩:=h
 subst e1
 cases r with
 | cons r rr=>
   rw [hs]
   refine assignInOrder_cons (thn (h1 pins s σ H _ _ _ I r h) λ_ s1 ⟨σ1,H1,I1,q1⟩=>?_)
   exact h2 pins s1 σ1 H1 _ _ Q I1 rr q1
noncomputable def yE (K:PySem.W.Frag) (n:Nat) (t:TGs):TG:=λv σ H Q=>∃ a xs,v=.ref a/\SqT K H a xs/\xs.length=n/\t xs σ H Q
theorem qa {es:List Expr} {k:Nat} {t:TGs} {n:Nat} (hc:X.calm=true) (h:PGs X es t)
   (hn:(assignEach es X.env).length=n:=by rfl) (hst:(assignEach es X.env).findIdx? (·.1)=none:=by rfl):PG X (.Tuple es k pos) (yE X.K n t):=by
 intro pins s σ H v u Q I r hw
 obtain ⟨a,xs,e1,hq,hl,hw⟩:=hw
 subst e1
 cases r
 obtain ⟨its,rv,ht,hz⟩:=I.tuple hq
 refine assign_Tuple_tuple (I.ok.hd hc) ht (by simp [hn,<- hl,rv.length]) hst λh' hx=>?_
 have I1:Inv X pins σ H { s with heap:=h' }:=I.kept (t':=s.toks) λb o e=>hx b o (Nat.ne_of_lt (Heap.lt_size e)) e
 exact h pins _ σ H xs _ Q I1 (by simpa using rv) hw
noncomputable def yu (to ti:TE) (t:vY):TG:=λv σ H Q=>to σ H λo H1=>ti σ H1 λi H2=>t o i v H2 λH3=>Q σ H3
theorem vT {o i:Expr} {to ti:TE} {t:vY} (ho:PE X o to) (hi:PE X i ti) (hs:yc X t)
   (ha:∀ v,assign (.Subscript o i pos) X.env v=(do
     let ov <- holding [v] (eval o X.env)
     let iv <- holding [v,ov] (eval i X.env)
     standAt pos
     holding [v,ov,iv] (setItem ov iv v)
     release [v,ov,iv] []):=by intro _; rfl):PG X (.Subscript o i pos) (yu to ti t):=by
 intro pins s σ H v u Q I r h
 rw [ha]
 refine wpAny_bind (wpAny_holding (thn (ho pins s σ H _ I h) λov s1 ⟨x,H1,I1,r1,q1⟩=>?_))
 refine wpAny_bind (wpAny_holding (thn (hi pins s1 σ H1 _ I1 q1) λiv s2 ⟨y,H2,I2,r2,q2⟩=>?_))
 refine wpAny_bind (wpAny_standAt (wpAny_bind (wpAny_holding (thn (hs pins s2 σ H2 x y v ov iv u _ I2 r1 r2 r q2) λ_ s3 ⟨H3,I3,q3⟩=>?_))))
 exact wpAny_release ⟨σ,H3,I3,q3⟩
noncomputable def vW (te:TE) (g:TG):TS:=λD σ H=>te σ H λx H1=>g x σ H1 D.nx
theorem qA {tg e:Expr} {te:TE} {g:TG} (he:PE X e te) (hg:PG X tg g) (hs:swapsWithSole [tg] e pos.line X.env=pure false:=by rfl) (hw:swappedStores [tg] e X.env=pure none:=by rfl)
   (h1:(assignEach [tg] X.env).map (·.2)=[assign tg X.env]:=by rfl):PS X (.Assign [tg] e pos) (vW te g):=by
 intro pins s σ H D I h
 refine wpAny_Assign_stores (thn (he pins s σ H _ I h) λv s1 ⟨x,H1,I1,r1,q1⟩=>?_) hs hw
 rw [h1]
 exact thn (hg pins s1 σ H1 x v _ I1 r1 q1) λ_ s2 q=>q
theorem qI {i:Nat} {x:Str} {e:Expr} {te:TE} {pos':Pos} (hN:X.N.Nodup) (hi:X.N[i]?=some x) (hx:Loc X.env.scope x) (he:PE X e te) (hs:swapsWith e (some (.Name x pos')) pos.line X.env=pure false:=by rfl) (hf:X.fn x=true\/X.env.scope.names.lookup x=some .local:=by first | exact .inl rfl | exact .inr rfl | assumption) :
   PS X (.Assign [.Name x pos'] e pos) (vW te (ua i)):=by
 intro pins s σ H D I h
 refine wpAny_Assign_Name (thn (he pins s σ H _ I h) λv s1 ⟨y,H1,I1,r1,q1⟩=>?_) hs
 exact fR I1 hN hi hx r1 (λs2 I2=>⟨_,H1,I2,q1⟩) hf
end
section
variable {X:Cx} {pos:Pos}
noncomputable def wC (c:TT) (tb:TS):TS:=λD σ H=>∃ W:Nat->St->Hp->Prop,(∃ m,W m σ H)/\∀ m σ H,W m σ H ->
 c σ H λb H1=>if b=true then ∃ N:St->Hp->Prop,(∀ σ' H',N σ' H'->∃ m',m' < m/\W m' σ' H')/\tb { D with nx:=N,ct:=N,bk:=D.nx } σ H1 else D.nx σ H1
theorem rF {c:Expr} {body:List Stmt} {tc:TT} {tb:TS} (hp:PassesOwn (model X.prog X.w) X.A X.env X.xe) (hc:PT X c tc) (hb:PSs X body tb):PS X (.While c body [] pos) (wC tc tb):=by
 intro pins s σ H D I h
 obtain ⟨W,⟨m0,w0⟩,turn⟩:=h
 refine wpAny_While (codeAny_whileLoop (λn s'=>∃ σ' H',Inv X pins σ' H' s'/\W n σ' H') ?_ m0 ⟨σ,H,I,w0⟩)
 rintro n s1 ⟨σ1,H1,I1,w1⟩
 refine wpAny_passesOwn hp (thn (hc pins s1 σ1 H1 _ I1 (turn n σ1 H1 w1)) λb s2 ⟨H2,I2,q2⟩=>?_)
 cases b with
 | true=>
   obtain ⟨N,hN,q2⟩:=q2
   rw [if_pos rfl]
   refine wpAny_passesOwn hp (thn (hb pins s2 σ1 H2 _ I2 q2) λf s3 q3=>?_)
   cases f with
   | next=>
     obtain ⟨σ3,H3,I3,n3⟩:=q3
     obtain ⟨m',hm,w3⟩:=hN σ3 H3 n3
     exact ⟨m',hm,σ3,H3,I3,w3⟩
   | cont=>
     obtain ⟨σ3,H3,I3,n3⟩:=q3
     obtain ⟨m',hm,w3⟩:=hN σ3 H3 n3
     exact ⟨m',hm,σ3,H3,I3,w3⟩
   | brk=>exact q3
   | ret v=>exact q3
 | false=>
   rw [if_neg Bool.false_ne_true]
   exact wpAny_execs_nil ⟨σ1,H2,I2,q2⟩
end
structure It where
 go:Nat->Hp->Prop
 yld:Nat->Hp->V->Hp->Prop
 stop:Nat->Hp->Prop
noncomputable def jj (X:Cx) (pins:List (Addr × Obj)) (H:Hp) (b:Addr):Prop:=
 H b=none/\b ≠ X.env.locals/\b ∉ X.fs/\(b ∈ X.ex\/X.s₀.heap.objs.size<=b)/\(∀ x c,X.env.cells.lookup x=some c->c ≠ b)/\∀ p ∈ X.pn++pins,p.1 ≠ b
theorem Inv.jg {X:Cx} {pins:List (Addr × Obj)} {σ:St} {H H':Hp} {s:Shared} {b:Addr} (I:Inv X pins σ H s) (hb:s.heap.objs.size<=b) (hn:H' b=none):jj X pins H' b:=by
 refine ⟨hn,Nat.ne_of_gt (Nat.lt_of_lt_of_le I.lt hb),I.yt hb,.inr (Nat.le_trans I.sz hb),λx c e z=>?_,λp hp z=>?_⟩
 · obtain ⟨v,q⟩:=I.cell x c e
   exact absurd (Nat.lt_of_lt_of_le q.lt (by rw [z]; exact hb)) (Nat.lt_irrefl _)
 · exact absurd (Nat.lt_of_lt_of_le (Heap.lt_size (I.pin p hp).1) (by rw [z]; exact hb)) (Nat.lt_irrefl _)
noncomputable def yr (X:Cx):Prop:=∃ h o u vs,X.A.handled=some (.ref h)/\X.H₀ h=some (.frz o u)/\o.data=.fields vs/\vs[2]?=some .none
noncomputable def Ck (kd:Bool) (X:Cx):Prop:=X.calm=true\/(kd=true/\yr X)
theorem Ck.calm {X:Cx} (h:Ck false X):X.calm=true:=h.resolve_right λz=>nomatch z.1
structure Turn (P:Program) (w:World) (K:PySem.W.Frag) (kd:Bool) (tg:Expr) (J:It) (fp:List Addr) (it:Addr) (tn:Nat->Heap->Prop):Prop where
 mem:it ∈ fp
 obj:∀ i h,tn i h->∀ b ∈ fp,∃ o,h.get? b=some o/\∀ v,o.data ≠ .cell v
 keep:∀ i h h',tn i h->(∀ b ∈ fp,∀ o,h.get? b=some o->h'.get? b=some o)->tn i h'
 item:∀ (X:Cx),X.prog=P->X.w=w->X.K=K->Ck kd X->∀ (i:Nat) (pins:List (Addr × Obj)) (s:Shared) (σ:St) (H:Hp) (E:Value->Shared->Prop),Inv X pins σ H s->(∀ b ∈ fp,jj X pins H b)->tn i s.heap->J.go i H ->
   wpAny (model P w) X.A (pyNext (.ref it)) (λr s1=>∃ u,r=some u /\
     wpAny (model P w) X.A (letOwnedTupleGo tg (.ref it) u) (λ_ s2=>∃ x H',Inv X pins σ H' s2/\RelV x u/\J.yld i H x H'/\tn (i + 1) s2.heap/\∀ b ∈ fp,H' b=none) E s1) E s
 done:∀ (X:Cx),X.prog=P->X.w=w->X.K=K->Ck kd X->∀ (i:Nat) (pins:List (Addr × Obj)) (s:Shared) (σ:St) (H:Hp) (E:Value->Shared->Prop),Inv X pins σ H s->(∀ b ∈ fp,jj X pins H b)->tn i s.heap->J.stop i H ->
   wpAny (model P w) X.A (pyNext (.ref it)) (λr s1=>r=none/\Inv X pins σ H s1) E s
 self:∀ (A:Around) (i:Nat) (s:Shared) (Q:Value->Shared->Prop) (E:Value->Shared->Prop),tn i s.heap->Q (.ref it) s->wpAny (model P w) A (pyIter (.ref it)) Q E s
noncomputable abbrev TI:=St->Hp->(It->Hp->Prop)->Prop
noncomputable def PIE (X:Cx) (pins:List (Addr × Obj)) (σ:St) (tg:Expr) (R:It->Hp->Prop) (itv:Value) (s2:Shared):Prop:=
 ∃ (kd:Bool) (it:Addr) (fp:List Addr) (tn:Nat->Heap->Prop) (J:It) (H':Hp),itv=.ref it/\Inv X pins σ H' s2/\Ck kd X/\Turn X.prog X.w X.K kd tg J fp it tn/\tn 0 s2.heap/\(∀ b ∈ fp,jj X pins H' b)/\R J H'
noncomputable def PI (X:Cx) (tg iter:Expr) (wi:TI):Prop:=
 ∀ (pins:List (Addr × Obj)) (s:Shared) (σ:St) (H:Hp) (R:It->Hp->Prop),Inv X pins σ H s->wi σ H R ->
   wpAny (model X.prog X.w) X.A (eval iter X.env) (λv s1=>wpAny (model X.prog X.w) X.A (pyIter v) (PIE X pins σ tg R) X.xe s1) X.xe s
theorem jw {M:Model} {A:Around} {E:Value->Shared->Prop} {s:Shared} {tg:Expr} {it:Addr} {u:Value} {o:Obj} {n:String} {vs:Array Value} {Q:Unit->Shared->Prop} (ho:s.heap.get? it=some o) (hc:o.cls=.type n) (hd:o.data=.fields vs)
   (hn:["enumerate","zip","dict_itemiterator","dict_reverseitemiterator","odict_iterator","itertools.zip_longest","itertools.pairwise"].contains n=false) (hQ:Q () s):wpAny M A (letOwnedTupleGo tg (.ref it) u) Q E s:=by
 unfold letOwnedTupleGo
 cases tg <;> first
   | exact wpAny_pure hQ
   | (cases u <;> first
       | exact wpAny_pure hQ
       | (refine wpAny_bind (wpAny_load ho ?_)
          rw [hc,hd]
          show wpAny M A (if (["enumerate","zip","dict_itemiterator","dict_reverseitemiterator","odict_iterator","itertools.zip_longest","itertools.pairwise"].contains n && vs[0]? == some (rawInt _))=true then _ else _) Q E s
          rw [if_neg (by intro h; rw [hn,Bool.false_and] at h; cases h)]
          exact wpAny_pure hQ))
noncomputable def Itl (K:PySem.W.Frag) (a:Addr):It:=
 ⟨λi H=>∃ xs x,SqL K H a xs/\xs[i]?=some x,λi H x H'=>H'=H/\∀ xs,SqL K H a xs->xs[i]?=some x,λi H=>∃ xs,SqL K H a xs/\xs.length<=i⟩
noncomputable def Itt (K:PySem.W.Frag) (a:Addr):It:=
 ⟨λi H=>∃ xs x,SqT K H a xs/\xs[i]?=some x,λi H x H'=>H'=H/\∀ xs,SqT K H a xs->xs[i]?=some x,λi H=>∃ xs,SqT K H a xs/\xs.length<=i⟩
noncomputable def Itr (lo:Int) (n:Nat):It:=⟨λi _=>i < n,λi H x H'=>H'=H/\x=.int (lo + i),λi _=>n<=i⟩
theorem oV {P:Program} {w:World} {K:PySem.W.Frag} {tg:Expr} (a it:Addr):Turn P w K false tg (Itl K a) [it] it (λi h=>h.IsListIter it a i) where
 mem:=by simp
 obj:=λi h st b hb=>by
   have e:b=it:=by simpa using hb
   subst e
   obtain ⟨o,e,c,d⟩:=st
   exact ⟨o,e,λv z=>by rw [d] at z; cases z⟩
 keep:=λi h h' st k=>st.at λo e=>k it (by simp) o e
 item:=by
   intro X hP hw hK hc i pins s σ H E I hf st hg
   subst hP hw hK
   obtain ⟨xs,x,hq,hx⟩:=hg
   obtain ⟨its,rv,p,hz⟩:=I.list hq
   obtain ⟨u,hu,ru⟩:=rv.get hx
   obtain ⟨f0,f1,f2,f3,f4,f5⟩:=hf it (by simp)
   refine wpAny_pyNext_list_item st p.isList (x:=u) (by simpa using hu) λh' st' sb=>?_
   have I1:Inv X pins σ H { s with heap:=h' }:=I.turned (t':=s.toks) (λb o hb e=>(sb.2 b hb).trans e) f0 f1 f3 f4 f5
   obtain ⟨o,e,c,d⟩:=id st'
   exact ⟨u,rfl,jw (s:={ s with heap:=h' }) e c d (by decide) ⟨x,H,I1,ru,⟨rfl,λys hy=>by rw [I.eG hy hq]; exact hx⟩,st',λb hb=>(hf b hb).1⟩⟩
 done:=by
   intro X hP hw hK hc i pins s σ H E I hf st hg
   subst hP hw hK
   obtain ⟨xs,hq,hx⟩:=hg
   obtain ⟨its,rv,p,hz⟩:=I.list hq
   obtain ⟨f0,f1,f2,f3,f4,f5⟩:=hf it (by simp)
   have hl:=rv.length
   exact wpAny_pyNext_list_end (I.ok.hd hc.calm) st p.isList (by simp; omega) λh' eb=>⟨rfl,I.turned (t':=s.toks) (λb o hb e=>eb b o hb e) f0 f1 f3 f4 f5⟩
 self:=λ_ _ _ _ _ st h=>wpAny_pyIter_listiter st h
theorem mX {P:Program} {w:World} {K:PySem.W.Frag} {tg:Expr} (a it:Addr):Turn P w K false tg (Itt K a) [it] it (λi h=>h.IsTupleIter it a i) where
 mem:=by simp
 obj:=λi h st b hb=>by
   have e:b=it:=by simpa using hb
   subst e
   obtain ⟨o,e,c,d⟩:=st
   exact ⟨o,e,λv z=>by rw [d] at z; cases z⟩
 keep:=λi h h' st k=>st.at λo e=>k it (by simp) o e
 item:=by
   intro X hP hw hK hc i pins s σ H E I hf st hg
   subst hP hw hK
   obtain ⟨xs,x,hq,hx⟩:=hg
   obtain ⟨its,rv,p,hz⟩:=I.tuple hq
   obtain ⟨u,hu,ru⟩:=rv.get hx
   obtain ⟨f0,f1,f2,f3,f4,f5⟩:=hf it (by simp)
   refine wpAny_pyNext_tuple_item st (show s.heap.IsTuple a its.toArray from p) (x:=u) (by simpa using hu) λh' st' sb=>?_
   have I1:Inv X pins σ H { s with heap:=h' }:=I.turned (t':=s.toks) (λb o hb e=>(sb.2 b hb).trans e) f0 f1 f3 f4 f5
   obtain ⟨o,e,c,d⟩:=id st'
   exact ⟨u,rfl,jw (s:={ s with heap:=h' }) e c d (by decide) ⟨x,H,I1,ru,⟨rfl,λys hy=>by rw [I.pf hy hq]; exact hx⟩,st',λb hb=>(hf b hb).1⟩⟩
 done:=by
   intro X hP hw hK hc i pins s σ H E I hf st hg
   subst hP hw hK
   obtain ⟨xs,hq,hx⟩:=hg
   obtain ⟨its,rv,p,hz⟩:=I.tuple hq
   obtain ⟨f0,f1,f2,f3,f4,f5⟩:=hf it (by simp)
   have hl:=rv.length
   exact wpAny_pyNext_tuple_end (I.ok.hd hc.calm) st (show s.heap.IsTuple a its.toArray from p) (by simp; omega) λh' eb=>⟨rfl,I.turned (t':=s.toks) (λb o hb e=>eb b o hb e) f0 f1 f3 f4 f5⟩
 self:=λ_ _ _ _ _ st h=>wpAny_pyIter_tupleiter st h
theorem mG {P:Program} {w:World} {K:PySem.W.Frag} {tg:Expr} (it:Addr) (lo:Int) (n:Nat):Turn P w K true tg (Itr lo n) [it] it (λi h=>IsRangeIter h it (lo + (i:Nat) * 1) ((n:Int) - (i:Nat)) 1) where
 mem:=by simp
 obj:=λi h st b hb=>by
   have e:b=it:=by simpa using hb
   subst e
   exact ⟨_,st,λv z=>by
     have z':Data.fields _=Data.cell v:=z
     cases z'⟩
 keep:=λi h h' st k=>k it (by simp) _ st
 item:=by
   intro X hP hw hK hc i pins s σ H E I hf st hg
   subst hP hw hK
   obtain ⟨f0,f1,f2,f3,f4,f5⟩:=hf it (by simp)
   refine wpAny_pyNext_range_item st (by have:i < n:=hg; omega) λh' st0 sb=>?_
   have st':IsRangeIter h' it (lo + ((i + 1:Nat):Int) * 1) ((n:Int) - ((i + 1:Nat):Int)) 1:=by
     have e1:lo + ((i + 1:Nat):Int) * 1=lo + (i:Nat) * 1 + 1:=by omega
     have e2:(n:Int) - ((i + 1:Nat):Int)=(n:Int) - (i:Nat) - 1:=by omega
     rw [e1,e2]; exact st0
   have I1:Inv X pins σ H { s with heap:=h',toks:=s.toks + 1 }:=I.turned (λb o hb e=>(sb.2 b hb).trans e) f0 f1 f3 f4 f5
   refine ⟨_,rfl,jw (s:={ s with heap:=h',toks:=s.toks + 1 }) (n:="range_iterator") st' rfl rfl (by decide) ⟨.int (lo + i),H,I1,⟨s.toks,?_⟩,⟨rfl,rfl⟩,st',λb hb=>(hf b hb).1⟩⟩
   rw [Int.mul_one]
 done:=by
   intro X hP hw hK hc i pins s σ H E I hf st hg
   subst hP hw hK
   obtain ⟨f0,f1,f2,f3,f4,f5⟩:=hf it (by simp)
   rcases hc with hc | ⟨_,q,o,u,vs,e1,e2,e3,e4⟩
   · exact wpAny_pyNext_range_end (I.ok.hd hc) st (by have:n<=i:=hg; omega) λh' eb=>⟨rfl,I.turned (t':=s.toks) (λb o hb e=>eb b o hb e) f0 f1 f3 f4 f5⟩
   · have e5:=I.hok q _ (I.base.frzs q o u e2)
     exact Hx.mh e1 e5.1 e3 e4 st (by have:n<=i:=hg; omega) λh' eb=>⟨rfl,I.turned (t':=s.toks) (λb o hb e=>eb b o hb e) f0 f1 f3 f4 f5⟩
 self:=λ_ _ _ _ _ st h=>wpAny_pyIter_rangeiter st h
section
variable {X:Cx} {tg:Expr}
noncomputable def xw (K:PySem.W.Frag) (tl:TE):TI:=λσ H R=>tl σ H λx H1=>∃ a,x=.ref a/\(∃ xs,SqL K H1 a xs)/\R (Itl K a) H1
noncomputable def yN (K:PySem.W.Frag) (tl:TE):TI:=λσ H R=>tl σ H λx H1=>∃ a,x=.ref a/\(∃ xs,SqT K H1 a xs)/\R (Itt K a) H1
theorem sS {l:Expr} {tl:TE} (hc:X.calm=true) (hl:PE X l tl):PI X tg l (xw X.K tl):=by
 intro pins s σ H R I h
 refine thn (hl pins s σ H _ I h) λv s1 ⟨x,H1,I1,r1,q1⟩=>?_
 obtain ⟨a,e,⟨xs,hq⟩,q⟩:=q1
 subst e
 cases r1
 obtain ⟨its,rv,p,hz⟩:=I1.list hq
 refine wpAny_pyIter_list p.isList ?_
 refine ⟨false,s1.heap.objs.size,[s1.heap.objs.size],_,_,H1,rfl,I1.kept (t':=s1.toks) λb o e=>Heap.get?_push_of_some _ e,.inl hc,oV a _,⟨_,Heap.get?_push_size _ rfl,rfl,rfl⟩,λb hb=>?_,q⟩
 have e:b=s1.heap.objs.size:=by simpa using hb
 subst e
 exact I1.jg (Nat.le_refl _) (I1.hok.fresh (Nat.le_refl _))
theorem wm {l:Expr} {tl:TE} (hc:X.calm=true) (hl:PE X l tl):PI X tg l (yN X.K tl):=by
 intro pins s σ H R I h
 refine thn (hl pins s σ H _ I h) λv s1 ⟨x,H1,I1,r1,q1⟩=>?_
 obtain ⟨a,e,⟨xs,hq⟩,q⟩:=q1
 subst e
 cases r1
 obtain ⟨its,rv,p,hz⟩:=I1.tuple hq
 refine wpAny_pyIter_tuple (show s1.heap.IsTuple a its.toArray from p) ?_
 refine ⟨false,s1.heap.objs.size,[s1.heap.objs.size],_,_,H1,rfl,I1.kept (t':=s1.toks) λb o e=>Heap.get?_push_of_some _ e,.inl hc,mX a _,⟨_,Heap.get?_push_size _ rfl,rfl,rfl⟩,λb hb=>?_,q⟩
 have e:b=s1.heap.objs.size:=by simpa using hb
 subst e
 exact I1.jg (Nat.le_refl _) (I1.hok.fresh (Nat.le_refl _))
theorem lq {pins:List (Addr × Obj)} {σ:St} {H:Hp} {s:Shared} {R:It->Hp->Prop} {E:Value->Shared->Prop} {lo hi:Int} {t u v:Tok} {tk:Nat} (hc:Ck true X) (I:Inv X pins σ H s) (h1:-(2 ^ 62)<=lo) (h2:lo < 2 ^ 62) (h3:-(2 ^ 62)<=hi) (h4:hi < 2 ^ 62)
   (q:R (Itr lo (hi - lo).toNat) H):wpAny (model X.prog X.w) X.A (pyIter (.ref s.heap.objs.size)) (PIE X pins σ tg R) E { s with heap:=s.heap.push { cls:=.type "range",data:=.fields #[.int lo t,.int hi u,.int 1 v] },toks:=tk }:=by
 refine wpAny_pyIter_range (IsRange.new ..) (small_one h1 h2 h3 h4) ?_
 have I1:Inv X pins σ H { s with heap:=s.heap.push { cls:=.type "range",data:=.fields #[.int lo t,.int hi u,.int 1 v] },toks:=tk }:=I.kept λb o e=>Heap.get?_push_of_some _ e
 refine ⟨true,(s.heap.push { cls:=.type "range",data:=.fields #[.int lo t,.int hi u,.int 1 v] }).objs.size,[(s.heap.push { cls:=.type "range",data:=.fields #[.int lo t,.int hi u,.int 1 v] }).objs.size],_,_,H,rfl,
   I1.kept (t':=tk) λb o e=>Heap.get?_push_of_some _ e,hc,mG _ lo (hi - lo).toNat,?_,λb hb=>?_,q⟩
 · have e1:lo + ((0:Nat):Int) * 1=lo:=by simp
   have e2:(((hi - lo).toNat:Nat):Int) - ((0:Nat):Int)=Builtin.Range.rangeSize lo hi 1:=by rw [rangeSize_one]; split <;> omega
   show IsRangeIter _ _ (lo + ((0:Nat):Int) * 1) ((((hi - lo).toNat:Nat):Int) - ((0:Nat):Int)) 1
   rw [e1,e2]
   exact Heap.get?_push_size _ rfl
 · have e:b=(s.heap.push { cls:=.type "range",data:=.fields #[.int lo t,.int hi u,.int 1 v] }).objs.size:=by simpa using hb
   subst e
   exact I1.jg (Nat.le_refl _) (I1.hok.fresh (Nat.le_refl _))
noncomputable def xP (ta:TA):TI:=λσ H R=>ta σ H λvs H1=>∃ j:Int,vs=[.int j]/\-(2 ^ 62)<=j/\j < 2 ^ 62/\R (Itr 0 j.toNat) H1
noncomputable def xJ (ta:TA):TI:=λσ H R=>ta σ H λvs H1=>∃ i j:Int,vs=[.int i,.int j]/\(-(2 ^ 62)<=i/\i < 2 ^ 62/\-(2 ^ 62)<=j/\j < 2 ^ 62)/\R (Itr i (j - i).toNat) H1
theorem jJ {a:Expr} {ta:TA} {p pos:Pos} (hc:Ck true X) (hg:Gl X "range") (hm:X.mg "range" = none) (ha:PA X [a] ta) (hs:starEach [a] X.env=[(false,eval a X.env)]:=by rfl):PI X tg (.Call (.Name "range" p) [a] [] pos) (xP ta):=by
 intro pins s σ H R I h
 refine Call_ (cu I hg hm boot_range (PyProof.Rows.callWith_type1 (thn (ha pos pins s σ H _ I h) λus s1 ⟨vs,H1,I1,r1,q1⟩=>?_) hs rfl))
 obtain ⟨j,e,q1,q2,q⟩:=q1
 subst e
 cases r1 with
 | cons r rr=>
   cases rr
   obtain ⟨t,rfl⟩:=r
   exact call_range_1 (lq hc I1 (by omega) (by omega) q1 q2 (by simpa using q))
theorem oU {a b:Expr} {ta:TA} {p pos:Pos} (hc:Ck true X) (hg:Gl X "range") (hm:X.mg "range" = none) (ha:PA X [a,b] ta) (hs:starEach [a,b] X.env=[(false,eval a X.env),(false,eval b X.env)]:=by rfl) (hs2:starEach [b] X.env=[(false,eval b X.env)]:=by rfl) :
   PI X tg (.Call (.Name "range" p) [a,b] [] pos) (xJ ta):=by
 intro pins s σ H R I h
 refine Call_ (cu I hg hm boot_range (PyProof.Rows.callWith_type1 (thn (ha pos pins s σ H _ I h) λus s1 ⟨vs,H1,I1,r1,q1⟩=>?_) (by rw [hs,hs2]) (by rw [hs2]; rfl)))
 obtain ⟨i,j,e,⟨q1,q2,q3,q4⟩,q⟩:=q1
 subst e
 cases r1 with
 | cons r rr=>
   cases rr with
   | cons r' rr=>
     cases rr
     obtain ⟨t,rfl⟩:=r
     obtain ⟨t',rfl⟩:=r'
     exact call_range_2 (lq hc I1 q1 q2 q3 q4 q)
noncomputable def yy (wi:TI) (g:TG) (tb:TS):TS:=λD σ H=>wi σ H λJ H1=>∃ W:Nat->Nat->St->Hp->Prop,(∃ m,W 0 m σ H1)/\∀ i m σ H,W i m σ H ->
 (J.stop i H/\D.nx σ H)\/(J.go i H/\∃ N:St->Hp->Prop,(∀ σ' H',N σ' H'->∃ m',m' < m/\W (i + 1) m' σ' H')/\∀ x H',J.yld i H x H'->g x σ H' λσ2 H2=>tb { D with nx:=N,ct:=N,bk:=D.nx } σ2 H2)
noncomputable def fb (fp:List Addr) (h:Heap):List (Addr × Obj):=fp.filterMap λb=>(h.get? b).map λo=>(b,o)
theorem bQ {fp:List Addr} {h:Heap} {b:Addr} {o:Obj} (hb:b ∈ fp) (e:h.get? b=some o):(b,o) ∈ fb fp h:=List.mem_filterMap.mpr ⟨b,hb,by rw [e]; rfl⟩
theorem pE {fp:List Addr} {h:Heap} {p:Addr × Obj} (hp:p ∈ fb fp h):p.1 ∈ fp/\h.get? p.1=some p.2:=by
 obtain ⟨b,hb,e⟩:=List.mem_filterMap.mp hp
 cases q:h.get? b with
 | none=>rw [q] at e; cases e
 | some o=>
   rw [q] at e
   have e':(b,o)=p:=Option.some.inj e
   subst e'
   exact ⟨hb,q⟩
theorem Inv.pinned {pins:List (Addr × Obj)} {σ:St} {H:Hp} {s:Shared} {fp:List Addr} (I:Inv X pins σ H s) (hf:∀ b ∈ fp,jj X pins H b) (ho:∀ b ∈ fp,∃ o,s.heap.get? b=some o/\∀ v,o.data ≠ .cell v):Inv X (pins++fb fp s.heap) σ H s:=
 I.nY λp hp=>(List.mem_append.mp hp).elim (λz=>I.pin p (List.mem_append_right _ z)) λz=>by
   obtain ⟨hb,e⟩:=pE z
   obtain ⟨f0,f1,f2,_⟩:=hf p.1 hb
   obtain ⟨o,e',d⟩:=ho p.1 hb
   rw [e] at e'; cases e'
   exact ⟨e,f0,f1,f2,d⟩
theorem Inv.cS {pins pl:List (Addr × Obj)} {σ:St} {H:Hp} {s:Shared} (I:Inv X (pins++pl) σ H s):Inv X pins σ H s:=I.nY λp hp=>I.pin p (List.mem_append_right _ (List.mem_append_left _ hp))
theorem vN {iter:Expr} {body:List Stmt} {wi:TI} {g:TG} {tb:TS} {pos:Pos} (hp:PassesOwn (model X.prog X.w) X.A X.env X.xe) (hi:PI X tg iter wi) (hg:PG X tg g) (hb:PSs X body tb)
   (hs:∀ x,foldedSetIterable iter X.env x=pure x:=by intro _; rfl):PS X (.For tg iter body [] pos) (yy wi g tb):=by
 intro pins s σ H D I h
 refine wpAny_For (thn (hi pins s σ H _ I h) λv s1 h1=>thn h1 λitv s2 h2=>?_) hs
 obtain ⟨kd,it,fp,tn,J,H2,e,I2,hc,T,st2,f2,W,⟨m0,w0⟩,turn⟩:=h2
 subst e
 have stat:∀ {H':Hp},(∀ b ∈ fp,H' b=none)->∀ b ∈ fp,jj X pins H' b:=λhn b hb=>⟨hn b hb,(f2 b hb).2⟩
 refine codeAny_forLoop_any (λn s'=>∃ i σ' H',Inv X pins σ' H' s'/\tn i s'.heap/\(∀ b ∈ fp,H' b=none)/\W i n σ' H') ?_ m0 ⟨0,σ,H2,I2,st2,λb hb=>(f2 b hb).1,w0⟩
 rintro n s3 ⟨i,σ3,H3,I3,st3,fr3,w3⟩
 rcases turn i n σ3 H3 w3 with ⟨stop,qn⟩ | ⟨go,N,hN,step⟩
 · refine wpAny_passesOwn hp (thn (T.done X rfl rfl rfl hc i pins s3 σ3 H3 X.xe I3 (stat fr3) st3 stop) λr s4 ⟨hr,I4⟩=>?_)
   subst hr
   exact wpAny_execs_nil ⟨σ3,H3,I4,qn⟩
 · refine wpAny_passesOwn hp (thn (T.item X rfl rfl rfl hc i pins s3 σ3 H3 X.xe I3 (stat fr3) st3 go) λr s4 ⟨u,hr,h4⟩=>?_)
   subst hr
   refine wpAny_passesOwn hp (thn h4 λ_ s5 ⟨x,H5,I5,r5,y5,st5,fr5⟩=>?_)
   have I5':=I5.pinned (stat fr5) (T.obj _ _ st5)
   refine wpAny_passesOwn hp (thn (hg _ s5 σ3 H5 x u _ I5' r5 (step x H5 y5)) λ_ s6 ⟨σ6,H6,I6,q6⟩=>?_)
   refine wpAny_passesOwn hp (thn (hb _ s6 σ6 H6 _ I6 q6) λf s7 q7=>?_)
   have again:∀ {σ7:St} {H7:Hp},Inv X (pins++fb fp s5.heap) σ7 H7 s7->N σ7 H7->∃ m,m < n/\∃ i σ' H',Inv X pins σ' H' s7/\tn i s7.heap/\(∀ b ∈ fp,H' b=none)/\W i m σ' H':=λ{σ7 H7} I7 n7=>by
     obtain ⟨m',hm,w7⟩:=hN σ7 H7 n7
     refine ⟨m',hm,i + 1,σ7,H7,I7.cS,T.keep _ _ _ st5 λb hb o e=>(I7.pin (b,o) (List.mem_append_right _ (List.mem_append_right _ (bQ hb e)))).1,λb hb=>?_,w7⟩
     obtain ⟨o,e,d⟩:=T.obj _ _ st5 b hb
     exact (I7.pin (b,o) (List.mem_append_right _ (List.mem_append_right _ (bQ hb e)))).2.1
   cases f with
   | next=>obtain ⟨σ7,H7,I7,n7⟩:=q7; exact again I7 n7
   | cont=>obtain ⟨σ7,H7,I7,n7⟩:=q7; exact again I7 n7
   | brk=>obtain ⟨σ7,H7,I7,q7⟩:=q7; exact ⟨σ7,H7,I7.cS,q7⟩
   | ret v=>obtain ⟨x7,σ7,H7,I7,r7,q7⟩:=q7; exact ⟨x7,σ7,H7,I7.cS,r7,q7⟩
end
noncomputable abbrev R2:=V->V->Hp->VK->Prop
noncomputable def OpR (X:Cx) (f:Value->Value->Sem Value) (r:R2):Prop:=
 ∀ (pins:List (Addr × Obj)) (s:Shared) (σ:St) (H:Hp) (x y:V) (v u:Value) (Q:VK),Inv X pins σ H s->RelV x v->RelV y u->r x y H Q ->
   wpAny (model X.prog X.w) X.A (f v u) (EP X pins σ Q) X.xe s
noncomputable def UnR (X:Cx) (f:Value->Sem Value) (r:V->Hp->VK->Prop):Prop:=
 ∀ (pins:List (Addr × Obj)) (s:Shared) (σ:St) (H:Hp) (x:V) (v:Value) (Q:VK),Inv X pins σ H s->RelV x v->r x H Q ->
   wpAny (model X.prog X.w) X.A (f v) (EP X pins σ Q) X.xe s
noncomputable def dg (X:Cx) (f:Value) (r:List V->Hp->VK->Prop):Prop:=
 ∀ (pins:List (Addr × Obj)) (s:Shared) (σ:St) (H:Hp) (xs:List V) (us:List Value) (Q:VK),Inv X pins σ H s->Vals xs us->r xs H Q ->
   wpAny (model X.prog X.w) X.A (call f us) (EP X pins σ Q) X.xe s
noncomputable def tOp (r:R2) (ta tb:TE):TE:=λσ H Q=>ta σ H λx H1=>tb σ H1 λy H2=>r x y H2 Q
noncomputable def tUn (r:V->Hp->VK->Prop) (ta:TE):TE:=λσ H Q=>ta σ H λx H1=>r x H1 Q
noncomputable def rI (C:Int->Int->Prop) (g:Int->Int->V):R2:=λx y H Q=>∃ i j,x=.int i/\y=.int j/\C i j/\Q (g i j) H
noncomputable def rI0 (g:Int->Int->V):R2:=λx y H Q=>∃ i j,x=.int i/\y=.int j/\Q (g i j) H
noncomputable def rU (g:Int->V):V->Hp->VK->Prop:=λx H Q=>∃ i,x=.int i/\Q (g i) H
section
variable {X:Cx} {a b c:Expr} {ta tb tc:TE} {pos:Pos}
theorem uJ (ha:PE X a ta) (hb:PE X b tb) {pins:List (Addr × Obj)} {s:Shared} {σ:St} {H:Hp} {R:V->V->Hp->Prop} (I:Inv X pins σ H s)
   (h:ta σ H λx H1=>tb σ H1 λy H2=>R x y H2) {Q:Value->Shared->Prop} {f:Value->Value->Sem Value}
   (hf:∀ v u s2 x y H2,Inv X pins σ H2 s2->RelV x v->RelV y u->R x y H2->wpAny (model X.prog X.w) X.A (f v u) Q X.xe s2) :
   wpAny (model X.prog X.w) X.A (eval a X.env) (λv s₁=>wpAny (model X.prog X.w) X.A (eval b X.env) (λu s₂=>wpAny (model X.prog X.w) X.A (f v u) Q X.xe s₂) X.xe s₁) X.xe s:=by
 refine thn (ha pins s σ H _ I h) λv s1 ⟨x,H1,I1,r1,q1⟩=>?_
 refine thn (hb pins s1 σ H1 _ I1 q1) λu s2 ⟨y,H2,I2,r2,q2⟩=>?_
 exact hf v u s2 x y H2 I2 r1 r2 q2
theorem uk {op:Operator} {r:R2} (ho:OpR X (binaryOp op) r) (ha:PE X a ta) (hb:PE X b tb):PE X (.BinOp a op b pos) (tOp r ta tb):=by
 intro pins s σ H Q I h
 exact wpAny_BinOp (uJ ha hb I h λv u s2 x y H2 I2 rx ry q=>ho pins s2 σ H2 x y v u Q I2 rx ry q)
theorem wQ {op:UnaryOp} {r:V->Hp->VK->Prop} (ho:UnR X (unaryOp op) r) (ha:PE X a ta):PE X (.UnaryOp op a pos) (tUn r ta):=by
 intro pins s σ H Q I h
 exact UnaryOp_ (thn (ha pins s σ H _ I h) λv s1 ⟨x,H1,I1,r1,q1⟩=>ho pins s1 σ H1 x v Q I1 r1 q1)
theorem opI {f:Value->Value->Sem Value} {C:Int->Int->Prop} {g:Int->Int->Int}
   (rule:∀ (i j:Int) (t u:Tok) (s:Shared) (Q:Value->Shared->Prop) (E:Value->Shared->Prop),C i j->Q (.int (g i j) s.toks) { s with toks:=s.toks + 1 }->wpAny (model X.prog X.w) X.A (f (.int i t) (.int j u)) Q E s) :
   OpR X f (rI C λi j=>.int (g i j)):=by
 intro pins s σ H x y v u Q I rx ry h
 obtain ⟨i,j,rfl,rfl,hc,q⟩:=h
 obtain ⟨t,rfl⟩:=rx
 obtain ⟨t',rfl⟩:=ry
 exact rule i j t t' s _ _ hc ⟨.int (g i j),H,I.tok _,⟨_,rfl⟩,q⟩
theorem uV {f:Value->Value->Sem Value} {g:Int->Int->Int}
   (rule:∀ (i j:Int) (t u:Tok) (s:Shared) (Q:Value->Shared->Prop) (E:Value->Shared->Prop),Q (.int (g i j) s.toks) { s with toks:=s.toks + 1 }->wpAny (model X.prog X.w) X.A (f (.int i t) (.int j u)) Q E s) :
   OpR X f (rI0 λi j=>.int (g i j)):=by
 intro pins s σ H x y v u Q I rx ry h
 obtain ⟨i,j,rfl,rfl,q⟩:=h
 obtain ⟨t,rfl⟩:=rx
 obtain ⟨t',rfl⟩:=ry
 exact rule i j t t' s _ _ ⟨.int (g i j),H,I.tok _,⟨_,rfl⟩,q⟩
theorem tK {f:Value->Value->Sem Value} {g:Int->Int->Bool}
   (rule:∀ (i j:Int) (t u:Tok) (s:Shared) (Q:Value->Shared->Prop) (E:Value->Shared->Prop),Q (.bool (g i j)) s->wpAny (model X.prog X.w) X.A (f (.int i t) (.int j u)) Q E s) :
   OpR X f (rI0 λi j=>.bl (g i j)):=by
 intro pins s σ H x y v u Q I rx ry h
 obtain ⟨i,j,rfl,rfl,q⟩:=h
 obtain ⟨t,rfl⟩:=rx
 obtain ⟨t',rfl⟩:=ry
 exact rule i j t t' s _ _ ⟨.bl (g i j),H,I,rfl,q⟩
noncomputable def xD (i j:Int):Prop:=0<=j/\j<=1000000/\i.natAbs < 2 ^ 64
theorem mE (k:Nat):(0:Int)<=2 ^ k:=by
 rw [two_pow_cast]
 exact Int.natCast_nonneg _
theorem vg:OpR X (binaryOp .Add) (rI0 λi j=>.int (i + j)):=uV λ_ _ _ _ _ _ _ q=>add_int q
theorem uD:OpR X (binaryOp .Sub) (rI0 λi j=>.int (i - j)):=uV λ_ _ _ _ _ _ _ q=>sub_int q
theorem sN:OpR X (binaryOp .Mod) (rI (λ_ j=>j ≠ 0) λi j=>.int (i.fmod j)):=opI λ_ _ _ _ _ _ _ hc q=>mod_int' hc q
theorem wa:OpR X (binaryOp .Pow) (rI xD λi j=>.int (i ^ j.toNat)):=opI λ_ _ _ _ _ _ _ hc q=>pow_int_small hc.1 hc.2.1 hc.2.2 q
theorem u3:OpR X (binaryOp .RShift) (rI (λ_ j=>0<=j) λi j=>.int (i / 2 ^ j.toNat)):=opI λi j _ _ _ _ _ hc q=>
 rshift_int hc (by rw [Int.fdiv_eq_ediv_of_nonneg i (mE _)]; exact q)
theorem vJ:OpR X (binaryOp .BitAnd) (rI0 λi j=>.int (Builtin.bitAnd i j)):=uV λ_ _ _ _ _ _ _ q=>and_int q
theorem unI {f:Value->Sem Value} {g:Int->Int}
   (rule:∀ (i:Int) (t:Tok) (s:Shared) (Q:Value->Shared->Prop) (E:Value->Shared->Prop),Q (.int (g i) s.toks) { s with toks:=s.toks + 1 }->wpAny (model X.prog X.w) X.A (f (.int i t)) Q E s) :
   UnR X f (rU λi=>.int (g i)):=by
 intro pins s σ H x v Q I rx h
 obtain ⟨i,rfl,q⟩:=h
 obtain ⟨t,rfl⟩:=rx
 exact rule i t s _ _ ⟨.int (g i),H,I.tok _,⟨_,rfl⟩,q⟩
theorem vA:UnR X (unaryOp .USub) (rU λi=>.int (-i)):=unI λ_ _ _ _ _ q=>neg_int q
end
noncomputable def xy:V->V->Bool
 | .non,.non=>true | .non,.int _=>true | .int _,.non=>true | .non,.bl _=>true | .bl _,.non=>true | .non,.str _=>true | .str _,.non=>true
 | .int _,.int _=>true | .bl _,.bl _=>true | .str _,.str _=>true | .byt _,.byt _=>true
 | .int _,.str _=>true | .str _,.int _=>true | .bl _,.str _=>true | .str _,.bl _=>true
 | _,_=>false
noncomputable def rEq:R2:=λx y H Q=>xy x y=true/\Q (.bl (decide (x=y))) H
noncomputable def rNe:R2:=λx y H Q=>xy x y=true/\Q (.bl (!decide (x=y))) H
theorem nQ {i j:Int}:decide (V.int i=V.int j)=(i == j):=by
 rw [Bool.eq_iff_iff]
 simp
theorem rN {i j:Bool}:decide (V.bl i=V.bl j)=(i == j):=by
 rw [Bool.eq_iff_iff]
 simp
theorem ou {i j:Str}:decide (V.str i=V.str j)=(i == j):=by
 rw [Bool.eq_iff_iff]
 simp
theorem oH {i j:Array UInt8}:decide (V.byt i=V.byt j)=(i.toList == j.toList):=by
 rw [Bool.eq_iff_iff]
 cases i
 cases j
 simp
section
variable {X:Cx} {a b c:Expr} {ta tb tc:TE} {pos:Pos}
theorem aO {pins:List (Addr × Obj)} {σ:St} {H:Hp} {s:Shared} {Q:VK} {k k':Bool} (I:Inv X pins σ H s) (q:Q (.bl k) H) (e:k=k'):EP X pins σ Q (.bool k') s:=by
 subst e
 exact ⟨.bl k,H,I,rfl,q⟩
theorem wR:OpR X (compareOp .Eq) rEq:=by
 intro pins s σ H x y v u Q I rx ry h
 obtain ⟨hs,q⟩:=h
 cases x with
 | non=>
   cases rx
   cases y with
   | non=>cases ry; exact PySem.EqNone.eq_none_none (aO I q (by simp))
   | bl j=>cases ry; exact PySem.EqNone.eq_none_bool (aO I q (by simp))
   | int j=>obtain ⟨t',rfl⟩:=ry; exact PySem.EqNone.eq_none_int (aO I q (by simp))
   | str j=>obtain ⟨t',rfl⟩:=ry; exact PySem.EqNone.eq_none_str (aO I q (by simp))
   | _=>exact absurd (show false=true from hs) Bool.false_ne_true
 | bl i=>
   cases rx
   cases y with
   | non=>cases ry; exact PySem.EqNone.eq_bool_none (aO I q (by simp))
   | bl j=>cases ry; exact eq_bool (aO I q rN)
   | str j=>obtain ⟨t',rfl⟩:=ry; exact PySem.EqMixed.eq_bool_str (aO I q (by simp))
   | _=>exact absurd (show false=true from hs) Bool.false_ne_true
 | int i=>
   obtain ⟨t,rfl⟩:=rx
   cases y with
   | non=>cases ry; exact PySem.EqNone.eq_int_none (aO I q (by simp))
   | int j=>obtain ⟨t',rfl⟩:=ry; exact eq_int (aO I q nQ)
   | str j=>obtain ⟨t',rfl⟩:=ry; exact PySem.EqMixed.eq_int_str (aO I q (by simp))
   | _=>exact absurd (show false=true from hs) Bool.false_ne_true
 | str i=>
   obtain ⟨t,rfl⟩:=rx
   cases y with
   | non=>cases ry; exact PySem.EqNone.eq_str_none (aO I q (by simp))
   | bl j=>cases ry; exact PySem.EqMixed.eq_str_bool (aO I q (by simp))
   | int j=>obtain ⟨t',rfl⟩:=ry; exact PySem.EqMixed.eq_str_int (aO I q (by simp))
   | str j=>obtain ⟨t',rfl⟩:=ry; exact eq_str (aO I q ou)
   | _=>exact absurd (show false=true from hs) Bool.false_ne_true
 | byt i=>
   obtain ⟨t,rfl⟩:=rx
   cases y with
   | byt j=>obtain ⟨t',rfl⟩:=ry; exact PySem.W.eq_bytes (aO I q oH)
   | _=>exact absurd (show false=true from hs) Bool.false_ne_true
 | _=>cases y <;> exact absurd (show false=true from hs) Bool.false_ne_true
theorem um:OpR X (compareOp .NotEq) rNe:=by
 intro pins s σ H x y v u Q I rx ry h
 obtain ⟨hs,q⟩:=h
 cases x with
 | non=>
   cases rx
   cases y with
   | non=>cases ry; exact PySem.EqNone.ne_none_none (aO I q (by simp))
   | bl j=>cases ry; exact PySem.EqNone.ne_none_bool (aO I q (by simp))
   | int j=>obtain ⟨t',rfl⟩:=ry; exact PySem.EqNone.ne_none_int (aO I q (by simp))
   | str j=>obtain ⟨t',rfl⟩:=ry; exact PySem.EqNone.ne_none_str (aO I q (by simp))
   | _=>exact absurd (show false=true from hs) Bool.false_ne_true
 | bl i=>
   cases rx
   cases y with
   | non=>cases ry; exact PySem.EqNone.ne_bool_none (aO I q (by simp))
   | bl j=>cases ry; exact ne_bool (aO I q (congrArg not rN))
   | str j=>obtain ⟨t',rfl⟩:=ry; exact PySem.EqMixed.ne_bool_str (aO I q (by simp))
   | _=>exact absurd (show false=true from hs) Bool.false_ne_true
 | int i=>
   obtain ⟨t,rfl⟩:=rx
   cases y with
   | non=>cases ry; exact PySem.EqNone.ne_int_none (aO I q (by simp))
   | int j=>obtain ⟨t',rfl⟩:=ry; exact ne_int (aO I q (congrArg not nQ))
   | str j=>obtain ⟨t',rfl⟩:=ry; exact PySem.EqMixed.ne_int_str (aO I q (by simp))
   | _=>exact absurd (show false=true from hs) Bool.false_ne_true
 | str i=>
   obtain ⟨t,rfl⟩:=rx
   cases y with
   | non=>cases ry; exact PySem.EqNone.ne_str_none (aO I q (by simp))
   | bl j=>cases ry; exact PySem.EqMixed.ne_str_bool (aO I q (by simp))
   | int j=>obtain ⟨t',rfl⟩:=ry; exact PySem.EqMixed.ne_str_int (aO I q (by simp))
   | str j=>obtain ⟨t',rfl⟩:=ry; exact ne_str (aO I q (congrArg not ou))
   | _=>exact absurd (show false=true from hs) Bool.false_ne_true
 | byt i=>
   obtain ⟨t,rfl⟩:=rx
   cases y with
   | byt j=>obtain ⟨t',rfl⟩:=ry; exact PySem.W.ne_bytes (aO I q (congrArg not oH))
   | _=>exact absurd (show false=true from hs) Bool.false_ne_true
 | _=>cases y <;> exact absurd (show false=true from hs) Bool.false_ne_true
theorem xQ:OpR X (compareOp .Lt) (rI0 λi j=>.bl (decide (i < j))):=tK λ_ _ _ _ _ _ _ q=>lt_int q
theorem ye:OpR X (compareOp .LtE) (rI0 λi j=>.bl (decide (i<=j))):=tK λ_ _ _ _ _ _ _ q=>le_int q
theorem xC:OpR X (compareOp .Gt) (rI0 λi j=>.bl (decide (j < i))):=tK λ_ _ _ _ _ _ _ q=>gt_int q
theorem yi:OpR X (compareOp .GtE) (rI0 λi j=>.bl (decide (j<=i))):=tK λ_ _ _ _ _ _ _ q=>ge_int q
theorem vM:OpR X (compareOp .Is) (λx y H Q=>y=.non/\Q (.bl (decide (x=.non))) H):=by
 intro pins s σ H x y v u Q I rx ry h
 obtain ⟨rfl,q⟩:=h
 cases ry
 refine is_none_gen (aO I q ?_)
 cases x <;> first
   | (cases rx; rfl)
   | (obtain ⟨t,rfl⟩:=rx; rfl)
theorem qw (b:Expr) {op:CmpOp} (h:op ≠ .In:=by decide) (h2:op ≠ .NotIn:=by decide):behindInMarks op b=false:=by
 have e1:(op == CmpOp.In)=false:=by cases op <;> first | rfl | exact absurd rfl h
 have e2:(op == CmpOp.NotIn)=false:=by cases op <;> first | rfl | exact absurd rfl h2
 cases b <;> simp [behindInMarks,e1,e2]
theorem tY {op:CmpOp} {r:R2} (ho:OpR X (compareOp op) r) (ha:PE X a ta) (hb:PE X b tb) (hm:behindInMarks op b=false):PE X (.Compare a [op] [b] pos) (tOp r ta tb):=by
 intro pins s σ H Q I h
 exact wpAny_Compare1 (uJ ha hb I h λv u s2 x y H2 I2 rx ry q=>ho pins s2 σ H2 x y v u Q I2 rx ry q) hm
noncomputable def uz (t:TE):TT:=λσ H Q=>t σ H λx H'=>∃ k,x=.bl k/\Q k H'
theorem tX {op:CmpOp} {r:R2} (ho:OpR X (compareOp op) r) (ha:PE X a ta) (hb:PE X b tb) (hm:behindInMarks op b=false):PT X (.Compare a [op] [b] pos) (uz (tOp r ta tb)):=by
 intro pins s σ H Q I h
 refine wpAny_isTrue_Compare1 (thn (ha pins s σ H _ I h) λv s1 ⟨x,H1,I1,r1,q1⟩=>thn (hb pins s1 σ H1 _ I1 q1) λu s2 ⟨y,H2,I2,r2,q2⟩=>
   thn (ho pins s2 σ H2 x y v u _ I2 r1 r2 q2) λc s3 ⟨z,H3,I3,r3,k,e,q3⟩=>?_) hm
 subst e
 cases r3
 exact wpAny_truthy_bool ⟨H3,I3,q3⟩
noncomputable def mr (r r':R2) (ta tb tc:TE):TE:=λσ H Q=>ta σ H λx H1=>tb σ H1 λy H2=>r x y H2 λz H3=>∃ k,z=.bl k /\
 (if k=true then tc σ H3 λw' H4=>r' y w' H4 Q else Q (.bl false) H3)
theorem qR {op op':CmpOp} {r r':R2} (ho:OpR X (compareOp op) r) (ho':OpR X (compareOp op') r') (ha:PE X a ta) (hb:PE X b tb) (hc:PE X c tc)
   (hm:lastMarks [op,op'] [b,c]=false:=by with_unfolding_all rfl):PE X (.Compare a [op,op'] [b,c] pos) (mr r r' ta tb tc):=by
 intro pins s σ H Q I h
 refine Compare_chain (thn (ha pins s σ H _ I h) λv s1 ⟨x,H1,I1,r1,q1⟩=>chain_link (thn (hb pins s1 σ H1 _ I1 q1) λu s2 ⟨y,H2,I2,r2,q2⟩=>
   thn (ho pins s2 σ H2 x y v u _ I2 r1 r2 q2) λd s3 ⟨z,H3,I3,r3,k,e,q3⟩=>?_)) hm
 subst e
 cases r3
 refine wpAny_truthy_bool ?_
 cases k with
 | false=>exact ite_ff ⟨.bl false,H3,I3,rfl,q3⟩
 | true=>exact ite_tt (chain_last (thn (hc pins s3 σ H3 _ I3 q3) λw' s4 ⟨z',H4,I4,r4,q4⟩=>ho' pins s4 σ H4 y z' u w' Q I4 r2 r4 q4))
theorem qQ {op op':CmpOp} {r r':R2} (ho:OpR X (compareOp op) r) (ho':OpR X (compareOp op') r') (ha:PE X a ta) (hb:PE X b tb) (hc:PE X c tc)
   (hm:lastMarks [op,op'] [b,c]=false:=by with_unfolding_all rfl):PT X (.Compare a [op,op'] [b,c] pos) (uz (mr r r' ta tb tc)):=by
 intro pins s σ H Q I h
 refine isTrue_chain (thn (ha pins s σ H _ I h) λv s1 ⟨x,H1,I1,r1,q1⟩=>test_link (thn (hb pins s1 σ H1 _ I1 q1) λu s2 ⟨y,H2,I2,r2,q2⟩=>
   thn (ho pins s2 σ H2 x y v u _ I2 r1 r2 q2) λd s3 ⟨z,H3,I3,r3,k,e,q3⟩=>?_)) hm
 subst e
 cases r3
 refine wpAny_truthy_bool ?_
 cases k with
 | false=>
   obtain ⟨k',e',q'⟩:=q3
   cases e'
   exact ite_ff ⟨H3,I3,q'⟩
 | true=>
   refine ite_tt (test_last (thn (hc pins s3 σ H3 _ I3 q3) λw' s4 ⟨z',H4,I4,r4,q4⟩=>thn (ho' pins s4 σ H4 y z' u w' _ I4 r2 r4 q4) λd' s5 ⟨z2,H5,I5,r5,k2,e2,q5⟩=>?_))
   subst e2
   cases r5
   exact wpAny_truthy_bool ⟨H5,I5,q5⟩
theorem kE:(sizeLine:Nat) < 2 ^ 63:=by rw [sizeLine_eq]; decide
theorem vals1 {x:V} {us:List Value} (r:Vals [x] us):∃ u,us=[u]/\RelV x u:=by
 cases r with
 | cons r1 r2=>cases r2; exact ⟨_,rfl,r1⟩
theorem vals2 {x y:V} {us:List Value} (r:Vals [x,y] us):∃ u w',us=[u,w']/\RelV x u/\RelV y w':=by
 cases r with
 | cons r1 r2=>
   cases r2 with
   | cons r3 r4=>cases r4; exact ⟨_,_,rfl,r1,r3⟩
theorem rZ:dg X (.builtin "abs") (λxs H Q=>∃ i,xs=[.int i]/\Q (.int (if i < 0 then -i else i)) H):=by
 intro pins s σ H xs us Q I r h
 obtain ⟨i,rfl,q⟩:=h
 obtain ⟨u,rfl,t,rfl⟩:=vals1 r
 exact call_abs_int λu tk=>⟨.int (if i < 0 then -i else i),H,I.tok _,⟨_,rfl⟩,q⟩
theorem pD (hc:X.calm=true):dg X (.builtin "max") (λxs H Q=>∃ i j,xs=[.int i,.int j]/\Q (.int (if j > i then j else i)) H):=by
 intro pins s σ H xs us Q I r h
 obtain ⟨i,j,rfl,q⟩:=h
 obtain ⟨u,w',rfl,⟨t,rfl⟩,⟨t',rfl⟩⟩:=vals2 r
 refine max_two_ints (I.ok.hd hc) λh' tk k=>⟨_,H,I.kept k,?_,q⟩
 by_cases hj:j > i
 · rw [if_pos hj,if_pos hj]; exact ⟨_,rfl⟩
 · rw [if_neg hj,if_neg hj]; exact ⟨_,rfl⟩
theorem oJ (hc:X.calm=true):dg X (.builtin "min") (λxs H Q=>∃ i j,xs=[.int i,.int j]/\Q (.int (if j < i then j else i)) H):=by
 intro pins s σ H xs us Q I r h
 obtain ⟨i,j,rfl,q⟩:=h
 obtain ⟨u,w',rfl,⟨t,rfl⟩,⟨t',rfl⟩⟩:=vals2 r
 refine min_two_ints (I.ok.hd hc) λh' tk k=>⟨_,H,I.kept k,?_,q⟩
 by_cases hj:j < i
 · rw [if_pos hj,if_pos hj]; exact ⟨_,rfl⟩
 · rw [if_neg hj,if_neg hj]; exact ⟨_,rfl⟩
theorem oM:dg X (.type "int") (λxs H Q=>(∃ i,xs=[.int i]/\Q (.int i) H)\/∃ k,xs=[.bl k]/\Q (.int (if k then 1 else 0)) H):=by
 intro pins s σ H xs us Q I r h
 rcases h with ⟨i,rfl,q⟩ | ⟨k,rfl,q⟩
 · obtain ⟨u,rfl,t,rfl⟩:=vals1 r
   exact call_int_int ⟨.int i,H,I,⟨_,rfl⟩,q⟩
 · obtain ⟨u,rfl,r1⟩:=vals1 r
   cases r1
   exact call_int_bool ⟨.int (if k then 1 else 0),H,I.tok _,⟨_,rfl⟩,q⟩
end
section
variable {prog:Program} {w:World} {A:Around} {E:Value->Shared->Prop} {s:Shared} {K:PySem.W.Frag} {x dx C f:Addr} {mA:Str->Option Value} {name:Str} {v:Value}
end
theorem pe.some_of {v:V} {o:Option Value} (r:pe (some v) o):∃ u,o=some u/\RelV v u:=by
 cases o with
 | none=>exact (show False from r).elim
 | some u=>exact ⟨u,rfl,r⟩
section
variable {P:Program} {w:World} {H H':Hp} {h h':Heap} {a C dx:Addr} {fs fs':List (Str × V)}
end
section
variable {X:Cx} {pins:List (Addr × Obj)} {σ:St} {H:Hp} {s:Shared} {a C dx:Addr} {fs:List (Str × V)} {f:Str} {v:V} {A:Around} {E:Value->Shared->Prop}
end
section
variable {X:Cx} {o e value:Expr} {f:Str} {pos pos' tpos:Pos} {ta tv:TE}
end
section
variable {X:Cx} {pins:List (Addr × Obj)} {σ:St} {H:Hp} {s:Shared} {A:Around} {E:Value->Shared->Prop} {Q:Value->Shared->Prop} {c:Value} {b:Bool}
end
structure da (k:Nat) (A:Around):Prop where
 hd:A.handled=none
 dp:A.depth + 3 * k + 5 < recursionLimit
 un:A.units + 16 * k + 200 < cLine
theorem da.mono {j k:Nat} {A:Around} (r:da k A) (h:j<=k):da j A:=⟨r.hd,by have:=r.dp; omega,by have:=r.un; omega⟩
theorem da.deeper {k:Nat} {A:Around} (r:da (k + 1) A) (env:Env):da k (A.deeper env):=
 ⟨r.hd,by have:=r.dp; show A.depth + 1 + 3 * k + 5 < _; omega,by have:=r.un; show A.units + 3 + 16 * k + 200 < _; omega⟩
theorem da.depth {k:Nat} {A:Around} (r:da k A):A.depth < recursionLimit:=by have:=r.dp; omega
theorem da.units {k:Nat} {A:Around} (r:da k A):A.units + 64 < cLine:=by have:=r.un; omega
noncomputable def yw:TA:=λ_ H Q=>Q [] H
noncomputable def wX (ta:TE) (tr:TA):TA:=λσ H Q=>ta σ H λx H1=>tr σ H1 λxs H2=>Q (x :: xs) H2
section
variable {X:Cx} {e:Expr} {es:List Expr} {te:TE} {t:TA} {pos:Pos}
theorem er:PA X [] yw:=λ_ _ _ _ H Q I h=>Calls.spliced_nil ⟨[],H,I,.nil,h⟩
theorem bO (ha:PE X e te) (hr:PA X es t) (hs:starEach (e :: es) X.env=(false,eval e X.env) :: starEach es X.env:=by rfl):PA X (e :: es) (wX te t):=by
 intro pos pins s σ H Q I h
 rw [hs]
 show wpAny _ _ (spliced ((false,eval e X.env) :: backTo pos (starEach es X.env))) _ _ s
 refine Calls.spliced_cons (thn (ha pins s σ H _ I h) λu s1 ⟨x,H1,I1,r1,q1⟩=>?_)
 exact thn (hr pos pins s1 σ H1 _ I1 q1) λus s2 ⟨xs,H2,I2,r2,q2⟩=>⟨x :: xs,H2,I2,.cons r1 r2,q2⟩
noncomputable def yM (t:TA):TE:=λσ H Q=>t σ H λxs H1=>xs.length<=sizeLine/\∀ p,H1 p=none->Q (.ref p) (upd H1 p (.tup xs))
noncomputable def yR (t:TA):TE:=λσ H Q=>t σ H λxs H1=>xs.length<=sizeLine/\∀ p,H1 p=none->Q (.ref p) (upd H1 p (.lst xs))
theorem uP {x1} (h:PA X es t):PE X (.Tuple es x1 pos) (yM t):=by
 intro pins s σ H Q I hq
 refine wpAny_Tuple_spliced (thn (h pos pins s σ H _ I hq) λus s1 ⟨xs,H1,I1,r,z,q⟩=>⟨by rw [<- r.length]; exact z,?_⟩)
 have hf:H1 s1.heap.objs.size=none:=I1.hok.fresh (Nat.le_refl _)
 refine ⟨.ref s1.heap.objs.size,upd H1 s1.heap.objs.size (.tup xs),I1.laid (t':=s1.toks) (λb u e=>Heap.get?_push_of_some _ e) (Nat.le_refl _) ?_,rfl,q _ hf⟩
 exact ⟨z,us,r,⟨_,Heap.get?_push_size _ rfl,rfl,_,rfl⟩⟩
theorem u4 (h:PA X es t):PE X (.List es pos) (yR t):=by
 intro pins s σ H Q I hq
 refine wpAny_List_spliced (thn (h pos pins s σ H _ I hq) λus s1 ⟨xs,H1,I1,r,z,q⟩=>⟨by rw [<- r.length]; exact z,?_⟩)
 have hf:H1 s1.heap.objs.size=none:=I1.hok.fresh (Nat.le_refl _)
 refine ⟨.ref s1.heap.objs.size,upd H1 s1.heap.objs.size (.lst xs),I1.laid (t':=s1.toks) (λb u e=>Heap.get?_push_of_some _ e) (Nat.le_refl _) ?_,rfl,q _ hf⟩
 exact ⟨z,us,0,r,Heap.get?_push_size _ rfl⟩
end
noncomputable abbrev Sp:=List V->Hp->VK->XK->Prop
noncomputable abbrev CXT:=List Env->Hp->Shared->XK->Value->Shared->Prop
structure rn (P:Program) (w:World) (K:PySem.W.Frag) (mg:Str->Option Value) (base:Heap) (A:Around) (outer:List Env) (s:Shared) (H:Hp):Prop where
 frames:A.frames=some outer
 mod:Mod K mg base
 bs:∀ b o,base.get? b=some o->s.heap.get? b=some o/\H b=none
 bsz:base.objs.size<=s.heap.objs.size
 gp:s.heap.FunFrames base outer
 frf:∀ b ∈ frs outer,H b=none
 hok:HOk P w H s.heap
 bare:AllBare s.gens
noncomputable def CE (outer:List Env) (P:Program) (w:World) (H:Hp) (s:Shared) (Q:VK) (u:Value) (s':Shared):Prop:=
 ∃ v H',s'.os=s.os/\AllBare s'.gens/\Un (frs outer) [] H H' s.heap s'.heap/\HOk P w H' s'.heap/\RelV v u/\Q v H'
noncomputable def CR (CX:CXT) (outer:List Env) (P:Program) (w:World) (H:Hp) (s:Shared) (Q:VK) (E:XK) (r:Result) (s':Shared):Prop:=
 match r with
 | .ok (.ret u)=>CE outer P w H s Q u s'
 | .ok _=>False
 | .error e=>CX outer H s E e s'
structure aJ (P:Program) (w:World) (K:PySem.W.Frag) (mg:Str->Option Value) (base:Heap) (CX:CXT) (k:Nat) (f:Addr) (fd:FuncData) (ps:List Str) (sp:Sp):Prop where
 len:∀ vs H Q E,sp vs H Q E->vs.length=ps.length
 run:∀ (A:Around) (outer:List Env) (s:Shared) (H:Hp) (args:Args) (us:List Value) (vs:List V) (Q:VK) (E:XK),da k A->rn P w K mg base A outer s H->BindsTo s fd args (ps.zip us)->Vals vs us->sp vs H Q E ->
   codeAny (model P w) A (.call (.ref f) args) (CR CX outer P w H s Q E) s
theorem aJ.mono {P:Program} {w:World} {K:PySem.W.Frag} {mg:Str->Option Value} {base:Heap} {CX:CXT} {j k:Nat} {f:Addr} {fd:FuncData} {ps:List Str} {sp:Sp} (F:aJ P w K mg base CX j f fd ps sp) (h:j<=k) :
   aJ P w K mg base CX k f fd ps sp:=⟨F.len,λA outer s H args us vs Q E hr=>F.run A outer s H args us vs Q E (hr.mono h)⟩
section
variable {X:Cx} {pins:List (Addr × Obj)} {σ:St} {H:Hp} {s s':Shared}
theorem Inv.wM (I:Inv X pins σ H s):rn X.prog X.w X.K X.mg X.base X.A X.stack s H:=
 ⟨I.ok.frames,I.ok.mod,I.bs,Nat.le_trans I.ok.bsz I.sz,I.stack,I.fK,I.hok,I.bare⟩
theorem Inv.after {Q:VK} {u:Value} (I:Inv X pins σ H s) (h:CE X.stack X.prog X.w H s Q u s'):EP X pins σ Q u s':=by
 obtain ⟨v,H',os,bare,un,hok,r,q⟩:=h
 obtain ⟨hh,g,d,t,os'⟩:=s'
 obtain rfl:os'=s.os:=os
 exact ⟨v,H',I.call (h':=hh) (g':=g) (d':=d) (t':=t) (ch:=[]) un hok bare (λb z=>absurd z (by simp)),r,q⟩
end
noncomputable def wO (sp:Sp) (dvs:List V) (E:XK) (t:TA):TE:=λσ H Q=>t σ H λvs H1=>sp (vs++dvs) H1 Q E
noncomputable def Binds (K:PySem.W.Frag) (fd:FuncData) (ps:List Str) (ds:List Value):Prop:=
 ∀ (s:Shared) (us:List Value),K.In s.heap->(us++ds).length=ps.length->BindsTo s fd ⟨us,[]⟩ (ps.zip (us++ds))
theorem Binds.all {K:PySem.W.Frag} {fd:FuncData} {ps:List Str} (h:∀ us:List Value,us.length=ps.length->bindArgs fd ⟨us,[]⟩=pure (ps.zip us)):Binds K fd ps []:=λs us _ hl=>by
 rw [List.append_nil] at hl ⊢
 exact .of_eq (h us hl)
noncomputable def Passes (CX:CXT) (X:Cx) (E:XK):Prop:=∀ (pins:List (Addr × Obj)) (σ:St) (H:Hp) (s:Shared) (e:Value) (s':Shared),Inv X pins σ H s->CX X.stack H s E e s'->X.xe e s'
section
variable {X:Cx} {CX:CXT} {k:Nat} {f C:Addr} {fd:FuncData} {ps:List Str} {sp:Sp} {dvs:List V} {ds:List Value} {E:XK} {x m:Str} {p pos apos:Pos} {e o:Expr} {es:List Expr} {ta:TE} {t:TA}
theorem wu {pins:List (Addr × Obj)} {σ:St} {H:Hp} {s:Shared} {Q:VK} {us:List Value} {vs:List V} (F:aJ X.prog X.w X.K X.mg X.base CX k f fd ps sp) (hr:da k X.A) (hb:Binds X.K fd ps ds) (hd:Vals dvs ds) (hx:Passes CX X E)
   (I:Inv X pins σ H s) (r:Vals vs us) (h:sp (vs++dvs) H Q E):wpAny (model X.prog X.w) X.A (call (.ref f) us) (EP X pins σ Q) X.xe s:=by
 have r2:Vals (vs++dvs) (us++ds):=r.append hd
 have hl:(us++ds).length=ps.length:=by rw [<- r2.length]; exact F.len _ _ _ _ h
 refine wpAny_call (codeAny_mono (F.run X.A X.stack s H ⟨us,[]⟩ (us++ds) (vs++dvs) Q E hr I.wM (hb s us I.kIn hl) r2 h) λr s' hq=>?_)
 cases r with
 | error e=>exact hx pins σ H s e s' I hq
 | ok fl=>
   cases fl with
   | ret u=>exact I.after hq
   | next=>exact False.elim hq
   | brk=>exact False.elim hq
   | cont=>exact False.elim hq
theorem nA (F:aJ X.prog X.w X.K X.mg X.base CX k f fd ps sp) (hr:da k X.A) (hg:Gl X x) (hm:X.mg x=some (.ref f)) (hk:PySem.W.keepIn X.K (.ref f)=true) (hb:Binds X.K fd ps ds) (hd:Vals dvs ds) (hx:Passes CX X E)
   (ha:PA X (e :: es) t) (hdb:(x == ("__debug__" : Str))=false:=by decide) (he:starEach (e :: es) X.env=(false,eval e X.env) :: starEach es X.env:=by rfl) (hpl:(backTo pos (starEach es X.env)).any (·.1)=false:=by rfl) :
   PE X (.Call (.Name x p) (e :: es) [] pos) (wO sp dvs E t):=by
 intro pins s σ H Q I h
 refine wpAny_Call_Name_kw (fB I hg hm ?_ hdb)
 refine PySem.W.callWith_K (h₀:=X.base) I.ok.mod.kin hk (thn (ha pos pins s σ H _ I h) λus s1 ⟨vs,H1,I1,r,q⟩=>⟨I1.kIn,?_⟩) he hpl
 exact wu F hr hb hd hx I1 r q
end
section
variable {X:Cx} {CX:CXT} {k:Nat} {f C:Addr} {fd:FuncData} {ps ks:List Str} {sp:Sp} {E:XK} {x m:Str} {p pos apos kpos:Pos} {e o:Expr} {es:List Expr} {kws:List Keyword} {te ta:TE} {t tk:TA} {nm:Option Str}
variable {g:List Value->List Value->List Value} {gV:List V->List V->List V}
end
structure ao (N P:List Str) (sc:Scope):Prop where
 kind:sc.kind=.function
 co:sc.isCoroutine=false
 gen:sc.isGenerator=false
 nd:N.Nodup
 pre:N.take P.length=P
 par:∀ x ∈ P,sc.names.lookup x=some .local\/sc.names.lookup x=some .cell
 nofree:∀ y ∈ sc.names,y.2 ≠ .free
theorem jK {kindOf:Str->Option NameKind} {x:Str}:∀ {binds:List (Str × Value)} {m:Str->Option Value},(∀ v,(x,v) ∉ binds)->bindL kindOf binds m x=m x
 | [],_,_=>rfl
 | (n,v) :: r,m,h=>by
   unfold bindL
   rw [jK λw hw=>h w (List.mem_cons_of_mem _ hw)]
   split
   · have:x ≠ n:=by rintro rfl; exact h v List.mem_cons_self
     simp [this]
   · rfl
theorem jA {kindOf:Str->Option NameKind} {x:Str}:∀ {binds:List (Str × Value)} {m:Str->Option Value},(∀ v,(x,v) ∉ binds)->bindC kindOf binds m x=m x
 | [],_,_=>rfl
 | (n,v) :: r,m,h=>by
   unfold bindC
   rw [jA λw hw=>h w (List.mem_cons_of_mem _ hw)]
   split
   · rfl
   · have:x ≠ n:=by rintro rfl; exact h v List.mem_cons_self
     simp [this]
theorem jG {kindOf:Str->Option NameKind} {x:Str} {v:Value}:∀ {P:List Str} {vs:List Value} {i:Nat} {m:Str->Option Value},P.Nodup->P[i]?=some x->vs[i]?=some v->kindOf x=some .local ->
   bindL kindOf (P.zip vs) m x=some v
 | [],_,_,_,_,h,_,_=>by simp at h
 | _ :: _,[],_,_,_,_,h,_=>by simp at h
 | p :: P,w :: vs,0,m,nd,h1,h2,hk=>by
   simp at h1 h2; subst h1; subst h2
   show bindL kindOf ((p,w) :: P.zip vs) m p=_
   unfold bindL
   rw [jK λv hv=>(List.nodup_cons.mp nd).1 (List.of_mem_zip hv).1,if_pos hk]
   simp
 | p :: P,w :: vs,i + 1,m,nd,h1,h2,hk=>by
   show bindL kindOf ((p,w) :: P.zip vs) m x=_
   unfold bindL
   exact jG (i:=i) (List.nodup_cons.mp nd).2 (by simpa using h1) (by simpa using h2) hk
theorem jN {kindOf:Str->Option NameKind} {x:Str} {v:Value}:∀ {P:List Str} {vs:List Value} {i:Nat} {m:Str->Option Value},P.Nodup->P[i]?=some x->vs[i]?=some v->kindOf x ≠ some .local ->
   bindC kindOf (P.zip vs) m x=some v
 | [],_,_,_,_,h,_,_=>by simp at h
 | _ :: _,[],_,_,_,_,h,_=>by simp at h
 | p :: P,w :: vs,0,m,nd,h1,h2,hk=>by
   simp at h1 h2; subst h1; subst h2
   show bindC kindOf ((p,w) :: P.zip vs) m p=_
   unfold bindC
   rw [jA λv hv=>(List.nodup_cons.mp nd).1 (List.of_mem_zip hv).1,if_neg hk]
   simp
 | p :: P,w :: vs,i + 1,m,nd,h1,h2,hk=>by
   show bindC kindOf ((p,w) :: P.zip vs) m x=_
   unfold bindC
   exact jN (i:=i) (List.nodup_cons.mp nd).2 (by simpa using h1) (by simpa using h2) hk
noncomputable def start (N:List Str) (vs:List V):St:=vs.map some++List.replicate (N.length - vs.length) none
noncomputable def i0 (CX:CXT) (P:Program) (w:World) (K:PySem.W.Frag) (mg:Str->Option Value) (base:Heap) (N:List Str) (qual:Str) (scope:Scope) (f:Addr) (cd:Value) (A:Around) (outer:List Env) (s:Shared) (H:Hp) (E:XK):Cx where
 prog:=P
 w:=w
 K:=K
 mg:=mg
 base:=base
 A:=A.deeper (envOfC qual scope s.heap.objs.size f cd)
 N:=N
 s₀:=s
 H₀:=H
 env:=envOfC qual scope s.heap.objs.size f cd
 outer:=outer
 stack:=envOfC qual scope s.heap.objs.size f cd :: outer
 ex:=[]
 calm:=true
 fn:=λ_=>true
 pn:=[]
 xe:=λe s'=>wpAny (model P w) (A.deeper (envOfC qual scope s.heap.objs.size f cd)) (leaving (envOfC qual scope s.heap.objs.size f cd) e) (λ_ s''=>CX outer H s E e s'') (λe' s''=>CX outer H s E e' s'') s'
theorem ll {sc:Scope} {n:Nat} {x:Str} (h:sc.names.lookup x=some .cell):∃ c,(cellsFrom n sc.names []).lookup x=some c:=by
 have q:=PySem.W.cellsFrom_some sc.names n [] (.inl h)
 exact Option.isSome_iff_exists.mp q
theorem jF {CX:CXT} {P:Program} {w:World} {K:PySem.W.Frag} {mg:Str->Option Value} {base:Heap} {N ps:List Str} {qual:Str} {scope:Scope} {f:Addr} {cd:Value} {A:Around} {outer:List Env} {s s1:Shared} {H:Hp} {E:XK} {us:List Value} {vs:List V}
   (S:ao N ps scope) {cm:Bool} (hd:cm=true->A.handled=none) (e0:rn P w K mg base A outer s H) (hl:vs.length=ps.length) (r:Vals vs us)
   (x:InCallC s s.heap.objs.size (bindL (envOfC qual scope s.heap.objs.size f cd).kindOf (ps.zip us) λ_=>none) (cellsFrom (s.heap.objs.size + 1) scope.names []) (bindC (envOfC qual scope s.heap.objs.size f cd).kindOf (ps.zip us) λ_=>none) s1) :
   Inv { i0 CX P w K mg base N qual scope f cd A outer s H E with calm:=cm } [] (start N vs) H s1:=by
 have hpl:ps.length<=N.length:=by have:=congrArg List.length S.pre; rw [List.length_take] at this; omega
 obtain ⟨h1,tk,rfl,hk⟩:=x.done
 have noA:∀ b:Addr,b ∉ (i0 CX P w K mg base N qual scope f cd A outer s H E).ex:=λb z=>absurd (show b ∈ ([]:List Addr) from z) (by simp)
 refine ⟨⟨e0.mod,S.kind,rfl,rfl,Nat.le_refl _,λy z c h1 h2=>?_,λy hy=>?_,λy c _ h=>?_,hd,Around.frames_deeper e0.frames,.inr ⟨rfl,rfl⟩,λb z=>absurd z (noA b),e0.bs,e0.bsz,λb _ _=>noA b,λb z=>absurd z (noA b),e0.gp,e0.frf⟩,
   rfl,e0.bare,Un.kept hk,⟨_,x.toInCall.ns,λi y v h1 h2 h3=>?_⟩,λy c h=>⟨_,x.cell y c h⟩,e0.hok.fresh (Nat.le_refl _),λy c h=>?_,λp hp=>absurd (show p ∈ ([]:List (Addr × Obj)) from hp) (by simp),e0.hok.kept hk,?_⟩
 · exact name_of_addr x.apart (PySem.mem_of_lookup h1) (PySem.mem_of_lookup h2)
 · have hy:scope.names.lookup y=some .cell\/scope.names.lookup y=some .free:=hy
   rcases hy with hy | hy
   · exact ll hy
   · exact absurd rfl (S.nofree _ (PySem.mem_of_lookup hy))
 · exact Nat.le_of_lt (x.above y c (PySem.mem_of_lookup h))
 · have hi:i < vs.length:=by
     unfold start at h2
     by_cases hi:i < vs.length
     · exact hi
     · rw [List.getElem?_append_right (by simpa using hi)] at h2
       rw [List.getElem?_replicate] at h2
       split at h2 <;> cases h2
   have ha:vs[i]?=some v:=by
     unfold start at h2
     rw [List.getElem?_append_left (by simpa using hi),List.getElem?_map] at h2
     cases e:vs[i]? with
     | none=>rw [e] at h2; cases h2
     | some a=>rw [e] at h2; cases h2; rfl
   obtain ⟨u,hu,rv⟩:=r.get ha
   have hp:ps[i]?=some y:=by
     rw [<- S.pre,List.getElem?_take_of_lt (by omega)]; exact h1
   have ndP:ps.Nodup:=by rw [<- S.pre]; exact S.nd.sublist (List.take_sublist _ _)
   refine ⟨u,rv,?_⟩
   rcases S.par y (List.mem_of_getElem? hp) with k | k
   · exact .inl ⟨k,jG ndP hp hu k⟩
   · obtain ⟨c,e⟩:=ll (n:=s.heap.objs.size + 1) k
     refine .inr ⟨.inl k,c,e,?_⟩
     have q:=x.cell y c e
     rw [jN ndP hp hu (by show scope.names.lookup y ≠ _; rw [k]; decide)] at q
     exact q
 · exact e0.hok.fresh (Nat.le_of_lt (x.above y c (PySem.mem_of_lookup h)))
 · unfold start
   show _=N.length
   rw [List.length_append,List.length_map,List.length_replicate]
   omega
theorem uA {CX:CXT} {P:Program} {w:World} {K:PySem.W.Frag} {mg:Str->Option Value} {base:Heap} {k:Nat} {f:Addr} {name qual:Str} {params:Arguments} {body:List Stmt} {scope:Scope} {dV kV doc pm cdv ct oc:Value} {an od:Option Addr}
   {osl:Array (Option Value)} {N ps:List Str} {sp:Sp} (lk:K.lookup f=some ⟨oc,od,.func (PySem.W.fnOf name qual params body scope dV kV doc pm an cdv ct),osl⟩) (hcd:PySem.W.codeIn K cdv qual=true) (S:ao N ps scope)
   (len:∀ vs H Q E,sp vs H Q E->vs.length=ps.length)
   (hbody:∀ (A:Around) (outer:List Env) (s:Shared) (H:Hp) (vs:List V) (Q:VK) (E:XK),da k (A.deeper (envOfC qual scope s.heap.objs.size f cdv))->sp vs H Q E ->
     ∃ t,PSs (i0 CX P w K mg base N qual scope f cdv A outer s H E) body t/\t { nx:=λ_ H'=>Q .non H',rt:=Q } (start N vs) H) :
   aJ P w K mg base CX (k + 1) f (PySem.W.fnOf name qual params body scope dV kV doc pm an cdv ct) ps sp:=by
 refine ⟨len,λA outer s H args us vs Q E hr e0 hb r hsp=>?_⟩
 have hl:=len _ _ _ _ hsp
 have KX:K.In s.heap:=e0.mod.kin.keeps λb o e=>(e0.bs b o e).1
 have lim:s.heap.NoLimit:=e0.mod.nolimit.keeps λb o e=>(e0.bs b o e).1
 have hkind:∀ y ∈ ps.zip us,scope.names.lookup y.1=some .local\/(scope.names.lookup y.1=some .cell/\((cellsFrom (s.heap.objs.size + 1) scope.names []).lookup y.1).isSome=true):=λ⟨n,v⟩ hy=>by
   rcases S.par n (List.of_mem_zip hy).1 with q | q
   · exact .inl q
   · exact .inr ⟨q,PySem.W.cellsFrom_some _ _ _ (.inl q)⟩
 refine codeAny_call_function hr.depth (KX _ _ lk) rfl S.co S.gen rfl (PySem.W.codeRec_of KX hcd) (hb _ _ _ _ ?_)
 refine wpAny_newFunctionEnv_cells S.kind hkind λenv he s1 x=>?_
 subst he
 refine ⟨lim.keeps x.toInCall.keep,codeAny_func ?_⟩
 obtain ⟨t,ht,hq⟩:=hbody A outer s H vs Q E (hr.deeper _) hsp
 have I:Inv (i0 CX P w K mg base N qual scope f cdv A outer s H E) [] (start N vs) H s1:=jF (cm:=true) S (λ_=>hr.hd) e0 hl r x
 refine wpAny_mono (ht [] s1 (start N vs) H _ I hq) (λfl s' hs=>?_) λe s' hs=>hs
 have fin:∀ {σ':St} {H':Hp} {v:V} {u:Value},Inv (i0 CX P w K mg base N qual scope f cdv A outer s H E) [] σ' H' s'->RelV v u->Q v H'->CE outer P w H s Q u s':=
   λ{σ' H' v u} J rv q=>⟨v,H',J.os,J.bare,J.base,J.hok,rv,q⟩
 cases fl with
 | ret u=>
   obtain ⟨v,σ',H',J,rv,q⟩:=hs
   exact fin J rv q
 | next=>
   obtain ⟨σ',H',J,q⟩:=hs
   exact fin (v:=V.non) (u:=Value.none) J rfl q
 | brk=>
   obtain ⟨_,_,_,q⟩:=hs
   exact False.elim q
 | cont=>
   obtain ⟨_,_,_,q⟩:=hs
   exact False.elim q
section
variable {X:Cx} {x:Str} {p pos:Pos} {e:Expr} {es:List Expr} {t:TA} {id T:String} {r:List V->Hp->VK->Prop}
noncomputable def tCB (r:List V->Hp->VK->Prop) (t:TA):TE:=λσ H Q=>t σ H λvs H1=>r vs H1 Q
theorem dZ (hc:dg X (.builtin id) r) (hg:Gl X x) (hm:X.mg x=none) (hv:bootBuiltins x=some (.builtin id)) (ha:PA X (e :: es) t) (hn:x ≠ "__name__":=by decide) (hdb:(x == ("__debug__" : Str))=false:=by decide)
   (he:starEach (e :: es) X.env=(false,eval e X.env) :: starEach es X.env:=by rfl) (hpl:(backTo pos (starEach es X.env)).any (·.1)=false:=by rfl):PE X (.Call (.Name x p) (e :: es) [] pos) (tCB r t):=by
 intro pins s σ H Q I h
 refine wpAny_Call_Name_kw (cu I hg hm hv ?_ hn hdb)
 exact PyProof.Rows.callWith_builtin1 (thn (ha pos pins s σ H _ I h) λus s1 ⟨vs,H1,I1,r1,q1⟩=>hc pins s1 σ H1 vs us Q I1 r1 q1) he hpl
theorem pI (hc:dg X (.type T) r) (hg:Gl X x) (hm:X.mg x=none) (hv:bootBuiltins x=some (.type T)) (ha:PA X (e :: es) t) (hn:x ≠ "__name__":=by decide) (hdb:(x == ("__debug__" : Str))=false:=by decide)
   (he:starEach (e :: es) X.env=(false,eval e X.env) :: starEach es X.env:=by rfl) (hpl:(backTo pos (starEach es X.env)).any (·.1)=false:=by rfl):PE X (.Call (.Name x p) (e :: es) [] pos) (tCB r t):=by
 intro pins s σ H Q I h
 refine wpAny_Call_Name_kw (cu I hg hm hv ?_ hn hdb)
 exact PyProof.Rows.callWith_type1 (thn (ha pos pins s σ H _ I h) λus s1 ⟨vs,H1,I1,r1,q1⟩=>hc pins s1 σ H1 vs us Q I1 r1 q1) he hpl
end
end L2
namespace HT
open PySem PyProof.Rows
noncomputable def lexLt:List Int->List Int->Bool
 | [],[]=>false
 | [],_ :: _=>true
 | _ :: _,[]=>false
 | x :: xs,y :: ys=>if x=y then lexLt xs ys else decide (x < y)
theorem mC (x y:Int) (xs ys:List Int):lexLt (x :: xs) (y :: ys)=if x=y then lexLt xs ys else decide (x < y):=rfl
theorem jc:lexLt [] []=false:=rfl
theorem i8 (y:Int) (ys:List Int):lexLt [] (y :: ys)=true:=rfl
theorem hZ (x:Int) (xs:List Int):lexLt (x :: xs) []=false:=rfl
theorem rT (A:Around) (s:Shared) (a:Int) (t:Tok) (c:Int) (u:Tok):∃ e,SeqAt.EqAt A s (.int a t) (.int c u) e/\(e=true ↔ a=c):=
 ⟨(a == c),SeqAt.EqAt.int_int a t c u,by simp⟩
theorem ql (A:Around) (s:Shared) (a:Int) (t:Tok) (c:Int) (u:Tok) (prog:Program) (w:World) (E:Value->Shared->Prop) (Q:Value->Shared->Prop) (h:Q (.bool (decide (a < c))) s) :
   wpAny (model prog w) A (richCompare .Lt (.int a t) (.int c u)) Q E s:=
 (PyProof.Rows.lt_int h:wpAny (model prog w) A (compareOp .Lt (.int a t) (.int c u)) Q E s)
section
open PySem.SeqAt
open PySem.AutoSeq1 (wpAny_loadPart')
open PySem.MeetsSeq PySem.MeetsSeq2 PySem.MeetsSeq3
end
section
variable {prog:Program} {w:World} {A:Around} {E:Value->Shared->Prop} {s:Shared}
noncomputable def sIx (n d:Nat):Option Int->Nat
 | none=>d
 | some v=>if v < 0 then (v + (n:Int)).toNat else min v.toNat n
end
end HT
namespace L2
open PySem PySem.Spec PyProof.Rows
noncomputable abbrev TO:=St->Hp->(Option Int->Hp->Prop)->Prop
noncomputable def PO (X:Cx) (e:Option Expr) (t:TO):Prop:=
 ∀ (pins:List (Addr × Obj)) (s:Shared) (σ:St) (H:Hp) (Q:Option Int->Hp->Prop),Inv X pins σ H s->t σ H Q ->
   wpAny (model X.prog X.w) X.A (evalPart e X.env) (λu s'=>∃ o H',Inv X pins σ H' s'/\IsPart u o/\Q o H') X.xe s
noncomputable def sI:TO:=λ_ H Q=>Q none H
noncomputable def yd (t:TE):TO:=λσ H Q=>t σ H λx H1=>∃ i,x=.int i/\Q (some i) H1
section
variable {X:Cx} {e:Expr} {te:TE} {lo hi:Option Expr} {tl th:TO} {pos p2:Pos}
theorem tW:PO X none sI:=by
 intro pins s σ H Q I h
 rw [evalPart_none]
 exact wpAny_pure ⟨none,H,I,.none,h⟩
theorem so (h:PE X e te):PO X (some e) (yd te):=by
 intro pins s σ H Q I hw
 rw [evalPart_some]
 refine thn (h pins s σ H _ I hw) λu s1 ⟨x,H1,I1,r1,q1⟩=>?_
 obtain ⟨i,rfl,q⟩:=q1
 obtain ⟨t,rfl⟩:=r1
 exact ⟨some i,H1,I1,.int i t,q⟩
noncomputable def SlR (X:Cx) (r:V->Option Int->Option Int->Hp->VK->Prop):Prop:=
 ∀ (pins:List (Addr × Obj)) (s:Shared) (σ:St) (H:Hp) (x:V) (v vl vu:Value) (lo hi:Option Int) (sl:Addr) (Q:VK),Inv X pins σ H s->RelV x v->s.heap.IsSliceOf sl vl vu .none->IsPart vl lo->IsPart vu hi->r x lo hi H Q ->
   ∃ T id,typeLookup (.type T) "__getitem__" = pure (some (.builtin id))/\s.TypeIs v T/\wpAny (model X.prog X.w) X.A (getItem v (.ref sl)) (EP X pins σ Q) X.xe s
noncomputable def tSl (r:V->Option Int->Option Int->Hp->VK->Prop) (te:TE) (tl th:TO):TE:=λσ H Q=>te σ H λx H1=>tl σ H1 λl H2=>th σ H2 λu H3=>r x l u H3 Q
theorem qd {r:V->Option Int->Option Int->Hp->VK->Prop} (hr:SlR X r) (he:PE X e te) (hl:PO X lo tl) (hu:PO X hi th):PE X (.Subscript e (.Slice lo hi none p2) pos) (tSl r te tl th):=by
 intro pins s σ H Q I h
 refine Subscript_ (thn (he pins s σ H _ I h) λv s1 ⟨x,H1,I1,r1,q1⟩=>?_)
 refine wpAny_Slice (thn (hl pins s1 σ H1 _ I1 q1) λvl s2 ⟨l,H2,I2,pl,q2⟩=>thn (hu pins s2 σ H2 _ I2 q2) λvu s3 ⟨u,H3,I3,pu,q3⟩=>?_)
 rw [evalPart_none]
 refine wpAny_pure ?_
 have I4:Inv X pins σ H3 { s3 with heap:=s3.heap.push { cls:=.type "slice",data:=.fields #[vl,vu,.none] } }:=I3.kept (t':=s3.toks) λb ob q=>Heap.get?_push_of_some _ q
 obtain ⟨T,id,hT,ht,hg⟩:=hr pins { s3 with heap:=s3.heap.push { cls:=.type "slice",data:=.fields #[vl,vu,.none] } } σ H3 x v vl vu l u s3.heap.objs.size Q I4 r1 (Heap.IsSliceOf.new ..) pl pu q3
 show wpAny (model X.prog X.w) X.A (subscriptTail e (.Slice lo hi none p2) v (.ref s3.heap.objs.size)) (EP X pins σ Q) X.xe { s3 with heap:=s3.heap.push { cls:=.type "slice",data:=.fields #[vl,vu,.none] } }
 exact tail_any (ops:=[.ref s3.heap.objs.size,v]) ht hT hg (by with_unfolding_all rfl)
noncomputable def pV (xs:List V) (lo hi:Option Int):List V:=(xs.drop (HT.sIx xs.length 0 lo)).take (HT.sIx xs.length xs.length hi - HT.sIx xs.length 0 lo)
theorem lH (xs:List V) (lo hi:Option Int):(pV xs lo hi).length<=xs.length:=by
 unfold pV
 rw [List.length_take,List.length_drop]
 omega
end
noncomputable def ixN (n:Nat) (i:Int):Option Nat:=if 0<=i then (if i < n then some i.toNat else none) else if -(n:Int)<=i then some (i + n).toNat else none
noncomputable def atI {α:Type} (xs:List α) (i:Int):Option α:=(ixN xs.length i).bind λj=>xs[j]?
theorem nV {n:Nat} {i:Int} {j:Nat} (h:ixN n i=some j):seqIndex? i n=some j/\j < n/\-(n:Int)<=i/\i < n:=by
 unfold ixN at h
 by_cases h0:0<=i
 · rw [if_pos h0] at h
   by_cases h1:i < n
   · rw [if_pos h1] at h
     have e:i.toNat=j:=Option.some.inj h
     exact ⟨by rw [seqIndex_of h0 h1,e],by omega,by omega,h1⟩
   · rw [if_neg h1] at h; cases h
 · rw [if_neg h0] at h
   by_cases h1:-(n:Int)<=i
   · rw [if_pos h1] at h
     have e:(i + n).toNat=j:=Option.some.inj h
     exact ⟨by rw [seqIndex_neg (by omega) h1,e],by omega,h1,by omega⟩
   · rw [if_neg h1] at h; cases h
theorem nX {α:Type} {xs:List α} {i:Int} {v:α} (h:atI xs i=some v):∃ j,seqIndex? i xs.length=some j/\xs[j]?=some v/\j < xs.length/\-(xs.length:Int)<=i/\i < xs.length:=by
 unfold atI at h
 cases e:ixN xs.length i with
 | none=>rw [e] at h; cases h
 | some j=>
   rw [e] at h
   obtain ⟨h1,h2,h3,h4⟩:=nV e
   exact ⟨j,h1,h,h2,h3,h4⟩
noncomputable def nM (b:Expr):Prop:=∀ o i,subscripted b false o i=operate [o,i] (getItem o i)
noncomputable def IxR (X:Cx) (r:R2):Prop:=
 ∀ (value slice:Expr) (pins:List (Addr × Obj)) (s:Shared) (σ:St) (H:Hp) (x y:V) (v u:Value) (Q:VK),Inv X pins σ H s->RelV x v->RelV y u->r x y H Q ->
   subscripted slice false v u=operate [v,u] (getItem v u)->wpAny (model X.prog X.w) X.A (subscriptTail value slice v u) (EP X pins σ Q) X.xe s
noncomputable def MtR (X:Cx) (id:String) (r:V->List V->Hp->VK->Prop):Prop:=
 ∀ (pins:List (Addr × Obj)) (s:Shared) (σ:St) (H:Hp) (x:V) (xs:List V) (v:Value) (us:List Value) (Q:VK),Inv X pins σ H s->RelV x v->Vals xs us->r x xs H Q ->
   wpAny (model X.prog X.w) X.A (call (.builtin id) (v :: us)) (EP X pins σ Q) X.xe s
section
variable {X:Cx} {a b:Expr} {ta tb:TE} {pos:Pos}
theorem yp {r:R2} (hr:IxR X r) (ha:PE X a ta) (hb:PE X b tb) (hs:nM b):PE X (.Subscript a b pos) (tOp r ta tb):=by
 intro pins s σ H Q I h
 exact Subscript_ (uJ ha hb I h λv u s2 x y H2 I2 rx ry q=>hr a b pins s2 σ H2 x y v u Q I2 rx ry q (hs _ _))
noncomputable def yK (K:PySem.W.Frag):R2:=λx y H Q=>∃ p xs i v,x=.ref p/\y=.int i/\SqL K H p xs/\atI xs i=some v/\Q v H
noncomputable def yQ (K:PySem.W.Frag):R2:=λx y H Q=>∃ p xs i v,x=.ref p/\y=.int i/\SqT K H p xs/\atI xs i=some v/\Q v H
theorem tR:IxR X (yK X.K):=by
 intro value slice pins s σ H x y v u Q I rx ry h hs
 obtain ⟨p,xs,i,z,rfl,rfl,hq,he,q⟩:=h
 cases rx
 obtain ⟨t,rfl⟩:=ry
 obtain ⟨its,r,pl,hz⟩:=I.list hq
 obtain ⟨j,h1,h2,h3,h4,h5⟩:=nX he
 obtain ⟨w,ew,rw'⟩:=r.get h2
 have hl:=r.length
 have hn:=kE
 have fin:EP X pins σ Q w s:=⟨z,H,I,rw',q⟩
 by_cases h0:0<=i
 · have hj:i.toNat=j:=by
     rw [seqIndex_of h0 h5] at h1
     exact Option.some.inj h1
   exact item_listR pl.isList h0 (by omega) (by rw [hj]; simpa using ew) fin hs
 · have hj:(i + (its.toArray.size:Int)).toNat=j:=by
     rw [seqIndex_neg (by omega) h4] at h1
     rw [List.size_toArray,<- hl]
     exact Option.some.inj h1
   exact subscriptTail_builtinR (x:=w) pl.isList.typeIs slot_list_getitem.lookup
     (wpAny_getItem_list_neg (Q:=λr s'=>r=w/\EP X pins σ Q r s') pl.isList (by omega) (by rw [List.size_toArray] <;> omega) (by omega) (by rw [hj]; simpa using ew) ⟨rfl,fin⟩) hs
theorem vF:IxR X (yQ X.K):=by
 intro value slice pins s σ H x y v u Q I rx ry h hs
 obtain ⟨p,xs,i,z,rfl,rfl,hq,he,q⟩:=h
 cases rx
 obtain ⟨t,rfl⟩:=ry
 obtain ⟨its,r,pl,hz⟩:=I.tuple hq
 obtain ⟨j,h1,h2,h3,h4,h5⟩:=nX he
 obtain ⟨w,ew,rw'⟩:=r.get h2
 have hl:=r.length
 have hn:=kE
 have fin:EP X pins σ Q w s:=⟨z,H,I,rw',q⟩
 exact subscriptTail_builtinR (x:=w) pl.typeIs slot_tuple_getitem.lookup
   (getItem_tuple (j:=j) (Q:=λr s'=>r=w/\EP X pins σ Q r s') pl (by omega) (by omega) (by rw [List.size_toArray,<- hl]; exact h1) (by simpa using ew) ⟨rfl,fin⟩) hs
theorem mY (its:List Value) (n j:Nat) (u:Value):Obj.mapSeq (·.setIfInBounds j u) { cls:=.type "list",data:=.seq its.toArray n }={ cls:=.type "list",data:=.seq (its.set j u).toArray n }:=by
 simp [Obj.mapSeq]
theorem Inv.lst {pins:List (Addr × Obj)} {σ:St} {H:Hp} {s:Shared} {p:Addr} {xs:List V} (I:Inv X pins σ H s) (h:H p=some (.lst xs)) :
   ∃ (its:List Value) (n:Nat),Vals xs its/\s.heap.get? p=some { cls:=.type "list",data:=.seq its.toArray n }/\xs.length<=sizeLine:=by
 obtain ⟨z,its,n,r,e⟩:=I.hok p _ h
 exact ⟨its,n,r,e,z⟩
theorem Inv.wz {pins:List (Addr × Obj)} {σ:St} {H:Hp} {s:Shared} {p:Addr} {xs ys:List V} {its its':List Value} {n n':Nat} {f:Obj->Obj} (I:Inv X pins σ H s) (h:H p=some (.lst xs))
   (ho:s.heap.get? p=some { cls:=.type "list",data:=.seq its.toArray n }) (hf:f { cls:=.type "list",data:=.seq its.toArray n }={ cls:=.type "list",data:=.seq its'.toArray n' }) (r:Vals ys its') (hz:ys.length<=sizeLine) (t:Nat) :
   Inv X pins σ (upd H p (.lst ys)) { s with heap:=s.heap.update p f,toks:=t }:=by
 have e:(s.heap.update p f).get? p=some { cls:=.type "list",data:=.seq its'.toArray n' }:=by
   rw [Heap.get?_update_self f ho (by rw [hf] <;> rfl),hf]
 refine I.write (x:=p) (e:=p) (by rw [h]; trivial) (.inl rfl) (λb u hb q=>(Heap.get?_update_other _ _ (Ne.symm hb)).trans q) ⟨_,e⟩ ?_
 exact ⟨hz,its',n',r,e⟩
noncomputable def xK:V->V->V->Hp->(Hp->Prop)->Prop:=λo i v H Q=>∃ p xs k j,o=.ref p/\i=.int k/\H p=some (.lst xs)/\ixN xs.length k=some j/\Q (upd H p (.lst (xs.set j v)))
theorem set_list:yc X xK:=by
 intro pins s σ H o i v ov iv u Q I ro ri rv h
 obtain ⟨p,xs,k,j,rfl,rfl,hp,hj,q⟩:=h
 cases ro
 obtain ⟨t,rfl⟩:=ri
 obtain ⟨its,n,r,ho,hz⟩:=I.lst hp
 obtain ⟨h1,h2,h3,h4⟩:=nV hj
 have hl:=r.length
 have hn:=kE
 have I':Inv X pins σ (upd H p (.lst (xs.set j v))) { s with heap:=s.heap.update p (Obj.mapSeq (·.setIfInBounds j u)) }:=
   I.wz hp ho (mY its n j u) (r.set rv j) (by rw [List.length_set]; exact hz) s.toks
 by_cases h0:0<=k
 · have hk:k.toNat=j:=by
     rw [seqIndex_of h0 h4] at h1
     exact Option.some.inj h1
   exact PySem.W.ki_setAt ho h0 (by omega) (by rw [List.size_toArray,<- hl]; exact h4) (by rw [hk]; exact ⟨_,I',q⟩)
 · have hk:(k + (its.toArray.size:Int)).toNat=j:=by
     rw [seqIndex_neg (by omega) h3] at h1
     rw [List.size_toArray,<- hl]
     exact Option.some.inj h1
   exact PySem.W.ki_setBack ho (by omega) (by rw [List.size_toArray,<- hl]; exact h3) (by omega) (by rw [hk]; exact ⟨_,I',q⟩)
theorem kI (lo hi:Option Int) (n:Nat):(sliceBounds lo hi none n).1=((HT.sIx n 0 lo:Nat):Int)/\(sliceBounds lo hi none n).2.1=((HT.sIx n n hi:Nat):Int)/\(sliceBounds lo hi none n).2.2=1:=by
 refine ⟨?_,?_,rfl⟩
 · cases lo with
   | none=>simp [sliceBounds,HT.sIx]
   | some i=>
     simp only [sliceBounds,HT.sIx,Option.getD_none,show (1:Int) > 0 by decide,if_true]
     by_cases h:i < 0
     · simp only [h,if_true] <;> omega
     · simp only [h,if_false] <;> omega
 · cases hi with
   | none=>simp [sliceBounds,HT.sIx]
   | some i=>
     simp only [sliceBounds,HT.sIx,Option.getD_none,show (1:Int) > 0 by decide,if_true]
     by_cases h:i < 0
     · simp only [h,if_true] <;> omega
     · simp only [h,if_false] <;> omega
theorem js (its:List Value) (lo hi:Option Int):slicePick its.toArray lo hi none=((its.drop (HT.sIx its.length 0 lo)).take (HT.sIx its.length its.length hi - HT.sIx its.length 0 lo)).toArray:=by
 obtain ⟨h1,h2,h3⟩:=kI lo hi its.toArray.size
 unfold slicePick
 rw [h1,h2,h3]
 simp only [sliceRange_one,pick_run,List.size_toArray] <;> rfl
noncomputable def yA (K:PySem.W.Frag):V->Option Int->Option Int->Hp->VK->Prop:=λx lo hi H Q=>∃ a xs,x=.ref a/\SqL K H a xs/\∀ p,H p=none->Q (.ref p) (upd H p (.lst (pV xs lo hi)))
theorem sW:SlR X (yA X.K):=by
 intro pins s σ H x v vl vu lo hi sl Q I rx hs pl pu h
 obtain ⟨a,xs,rfl,hx,q⟩:=h
 cases rx
 obtain ⟨its,r,ht,hz⟩:=I.list hx
 have hlen:=r.length
 refine ⟨"list",_,slot_list_getitem.lookup,ht.isList.typeIs,?_⟩
 refine wpAny_getItem_list_slice ht.isList hs pl pu .none (by simp) ?_ (by rw [List.size_toArray] <;> omega)
 rw [js,<- hlen]
 refine ⟨.ref s.heap.objs.size,_,I.laid (t':=s.toks) (o:=.lst (pV xs lo hi)) (λb ob q=>Heap.get?_push_of_some _ q) (Nat.le_refl _) ?_,rfl,q _ (I.hok.fresh (Nat.le_refl _))⟩
 exact ⟨Nat.le_trans (lH xs lo hi) hz,_,0,(r.drop (HT.sIx xs.length 0 lo)).take (HT.sIx xs.length xs.length hi - HT.sIx xs.length 0 lo),Heap.get?_push_size _ rfl⟩
theorem fu:dg X (.builtin "len") (λxs H Q=>∃ p ys,xs=[.ref p]/\(SqL X.K H p ys\/SqT X.K H p ys)/\Q (.int ys.length) H):=by
 intro pins s σ H xs us Q I r h
 obtain ⟨p,ys,rfl,hq,q⟩:=h
 obtain ⟨u,rfl,rx⟩:=vals1 r
 cases rx
 have hn:=kE
 rcases hq with hq | hq
 · obtain ⟨its,r',pl,hz⟩:=I.list hq
   have hlen:=r'.length
   exact Calls.call_len_list pl.isList (by simp only [List.size_toArray] <;> omega) ⟨.int ys.length,H,I.tok _,⟨s.toks + 1,by rw [List.size_toArray,hlen]⟩,q⟩
 · obtain ⟨its,r',pl,hz⟩:=I.tuple hq
   have hlen:=r'.length
   exact len_tuple pl (by simp only [List.size_toArray] <;> omega) ⟨.int ys.length,H,I.tok _,⟨s.toks + 1,by rw [List.size_toArray,hlen]⟩,q⟩
theorem kz:dg X (.type "list") (λxs H Q=>∃ p ys,xs=[.ref p]/\(SqL X.K H p ys\/SqT X.K H p ys)/\∀ l,H l=none->Q (.ref l) (upd H l (.lst ys))):=by
 intro pins s σ H xs us Q I r h
 obtain ⟨p,ys,rfl,hq,q⟩:=h
 obtain ⟨u,rfl,rx⟩:=vals1 r
 cases rx
 have fin:∀ (its:List Value),Vals ys its->ys.length<=sizeLine->∀ (h':Heap) (c':Nat),(∀ b o',s.heap.get? b=some o'->h'.get? b=some o') ->
     h'.get? s.heap.objs.size=some { cls:=.type "list",dict:=none,data:=.seq its.toArray c',slots:=#[] }->EP X pins σ Q (.ref s.heap.objs.size) { s with heap:=h' }:=λits r' hz h' c' kp e=>
   ⟨.ref s.heap.objs.size,_,I.laid (t':=s.toks) kp (Nat.le_refl _) (show bJ X.prog X.w _ h' _ (.lst ys) from ⟨hz,its,c',r',e⟩),rfl,q _ (I.hok.fresh (Nat.le_refl _))⟩
 rcases hq with hq | hq
 · obtain ⟨its,r',pl,hz⟩:=I.list hq
   have hlen:=r'.length
   obtain ⟨o,ho,hc,n,hd⟩:=pl.isList
   exact call_list_seq p (.inl rfl) ho hc hd (λh' c' kp e=>fin its r' hz h' c' kp e) (by simp only [List.size_toArray] <;> omega)
 · obtain ⟨its,r',pl,hz⟩:=I.tuple hq
   have hlen:=r'.length
   obtain ⟨o,ho,hc,n,hd⟩:=pl
   exact call_list_seq p (.inr rfl) ho hc hd (λh' c' kp e=>fin its r' hz h' c' kp e) (by simp only [List.size_toArray] <;> omega)
theorem ji:dg X (.type "tuple") (λxs H Q=>∃ p ys,xs=[.ref p]/\((SqL X.K H p ys/\∀ l,H l=none->Q (.ref l) (upd H l (.tup ys)))\/(SqT X.K H p ys/\Q (.ref p) H))):=by
 intro pins s σ H xs us Q I r h
 obtain ⟨p,ys,rfl,h⟩:=h
 obtain ⟨u,rfl,rx⟩:=vals1 r
 cases rx
 rcases h with ⟨hq,q⟩ | ⟨hq,q⟩
 · obtain ⟨its,r',pl,hz⟩:=I.list hq
   have hlen:=r'.length
   refine call_tuple_list pl.isList (λh' kp=>?_) (by simp only [List.size_toArray] <;> omega)
   have I1:Inv X pins σ H { s with heap:=h' }:=I.kept (t':=s.toks) kp
   have I2:Inv X pins σ (upd H h'.objs.size (.tup ys)) { s with heap:=h'.push { cls:=.type "tuple",data:=.seq its.toArray } }:=
     I1.laid (t':=s.toks) (λb o e=>Heap.get?_push_of_some _ e) (Nat.le_refl _) (show bJ X.prog X.w _ _ _ (.tup ys) from ⟨hz,its,r',IsTup.new _ _⟩)
   exact ⟨.ref h'.objs.size,_,I2,rfl,q _ (I1.hok.fresh (Nat.le_refl _))⟩
 · obtain ⟨its,r',pl,hz⟩:=I.tuple hq
   exact call_tuple_same pl ⟨.ref p,H,I,rfl,q⟩
noncomputable def tyV (K:PySem.W.Frag) (T:String) (x:V) (H:Hp):Prop:=match x with
 | .str _=>T = "str"
 | .int _=>T = "int"
 | .ref p=>(T = "list" /\ ∃ xs,SqL K H p xs)\/(T = "tuple" /\ ∃ o,K.lookup p=some o/\o.cls=.type "tuple" /\ o.dict=none) \/
     (T = "dict" /\ ((∃ kvs,H p=some (.dK kvs))\/∃ kvs,H p=some (.dT kvs)))\/(T = "set" /\ ∃ S n,H p=some (.set S n))
 | _=>False
theorem wD {pins:List (Addr × Obj)} {σ:St} {H:Hp} {s:Shared} {T:String} {x:V} {v:Value} (I:Inv X pins σ H s) (r:RelV x v) (ty:tyV X.K T x H) :
   s.TypeIs v T/\∀ a,v=.ref a->∃ ob,s.heap.get? a=some ob/\ob.dict=none:=by
 cases x with
 | str z=>
   obtain ⟨t,rfl⟩:=r
   cases (show T = "str" from ty)
   exact ⟨typeIs_str s z t,λ_ e=>nomatch e⟩
 | int i=>
   obtain ⟨t,rfl⟩:=r
   cases (show T = "int" from ty)
   exact ⟨typeIs_int s i t,λ_ e=>nomatch e⟩
 | ref p=>
   cases r
   rcases ty with ⟨rfl,xs,hq⟩ | ⟨rfl,o,hk,hc,hd⟩ | ⟨rfl,hk⟩ | ⟨rfl,S,n,hk⟩
   · obtain ⟨its,_,pl,_⟩:=I.list hq
     refine ⟨pl.isList.typeIs,λa e=>?_⟩
     cases e
     obtain ⟨o,n,e,c,hd,_⟩:=pl
     exact ⟨o,e,hd⟩
   · refine ⟨⟨o,I.kIn p o hk,hc⟩,λa e=>?_⟩
     cases e
     exact ⟨o,I.kIn _ o hk,hd⟩
   · have z:∃ o,s.heap.get? p=some o/\o.ExactDict:=by
       rcases hk with ⟨kvs,hk⟩ | ⟨kvs,hk⟩
       · obtain ⟨_,_,_,_,o,_,_,e,ex,_⟩:=I.hok p _ hk
         exact ⟨o,e,ex⟩
       · obtain ⟨_,_,_,_,o,_,_,e,ex,_⟩:=I.hok p _ hk
         exact ⟨o,e,ex⟩
     obtain ⟨o,e,ex⟩:=z
     refine ⟨⟨o,e,ex.1⟩,λa e2=>?_⟩
     cases e2
     exact ⟨o,e,ex.2.1⟩
   · obtain ⟨o,_,_,_,e,ex,_⟩:=I.hok p _ hk
     refine ⟨⟨o,e,ex.1⟩,λa e2=>?_⟩
     cases e2
     exact ⟨o,e,ex.2.1⟩
 | _=>exact False.elim ty
noncomputable def tBM (K:PySem.W.Frag) (T:String) (r:V->List V->Hp->VK->Prop) (to:TE) (t:TA):TE:=λσ H Q=>to σ H λx H1=>tyV K T x H1/\t σ H1 λxs H2=>r x xs H2 Q
variable {o e:Expr} {es:List Expr} {to:TE} {t:TA} {name:Str} {apos cpos:Pos} {T id:String} {r:V->List V->Hp->VK->Prop}
theorem qy (pa:PlainAttrs T) (slot:Slot T name id) (hty:typeOf (.builtin id)=pure (.type "method_descriptor")) (hm:MtR X id r) (ho:PE X o to) (ha:PA X (e :: es) t)
   (hbase:attributeBase o name X.env (eval o X.env)=eval o X.env:=by rfl)
   (hfew:((backTo cpos (starEach (e :: es) X.env)).all (λx=>!x.1) && (backToKw cpos (keywordEach [] X.env)).all (λx=>x.1.isSome)
     && decide ((e :: es).length + ([]:List Keyword).length + (if ([]:List Keyword).isEmpty then 0 else 1) < 30))=true:=by rfl)
   (hline:(apos.endLine == cpos.line)=true:=by rfl) (hs:starEach (e :: es) X.env=(false,eval e X.env) :: starEach es X.env:=by rfl) (hplain:(backTo cpos (starEach es X.env)).any (·.1)=false:=by rfl) :
   PE X (.Call (.Attribute o name apos) (e :: es) [] cpos) (tBM X.K T r to t):=by
 intro pins s σ H Q I h
 refine wpAny_Call_method_late hbase hfew hline rfl (thn (ho pins s σ H _ I h) λv s1 ⟨x,H1,I1,r1,ty,q1⟩=>?_)
 obtain ⟨h1,h2⟩:=wD I1 r1 ty
 refine ⟨T,id,pa,slot,hty,h1,h2,?_⟩
 have hA:=ha cpos pins s1 σ H1 _ I1 q1
 rw [hs] at hA ⊢
 refine Calls.callWith_builtin (by show (false || (backTo cpos (starEach es X.env)).any (·.1))=false; rw [hplain] <;> rfl) (Calls.evalArgs_plain ?_)
 exact thn hA λus s2 ⟨vs,H2,I2,r2,q2⟩=>hm pins s2 σ H2 x vs v us Q I2 r1 r2 q2
end
noncomputable def MtM (X:Cx) (id:String) (r:V->List V->Hp->VK->Prop):Prop:=
 ∀ (pins:List (Addr × Obj)) (s:Shared) (σ:St) (H:Hp) (x:V) (xs:List V) (v:Value) (us:List Value) (Q:VK),Inv X pins σ H s->RelV x v->Vals xs us->r x xs H Q ->
   wpAny (model X.prog X.w) X.A (call (.builtin id) (v :: us)) (EP X pins σ Q) X.xe s
theorem Vals.one:∀ {x:V} {us:List Value},Vals [x] us->∃ u,us=[u]/\RelV x u
 | _,_,.cons r .nil=>⟨_,rfl,r⟩
theorem Vals.two:∀ {x y:V} {us:List Value},Vals [x,y] us->∃ u v,us=[u,v]/\RelV x u/\RelV y v
 | _,_,_,.cons r (.cons q .nil)=>⟨_,_,rfl,r,q⟩
theorem Vals.zero:∀ {us:List Value},Vals [] us->us=[]
 | _,.nil=>rfl
theorem Vals.eraseIdx:∀ {xs:List V} {us:List Value} (i:Nat),Vals xs us->Vals (xs.eraseIdx i) (us.eraseIdx i)
 | _,_,_,.nil=>.nil
 | _,_,0,.cons _ t=>t
 | _,_,i + 1,.cons r t=>.cons r (Vals.eraseIdx i t)
theorem jM {α:Type}:∀ (l:List α) (i:Nat),(l.eraseIdx i).length<=l.length
 | [],_=>Nat.le_refl _
 | _ :: _,0=>Nat.le_succ _
 | _ :: r,i + 1=>Nat.succ_le_succ (jM r i)
section
variable {X:Cx} {pins:List (Addr × Obj)} {σ:St} {H:Hp} {s:Shared} {l b:Addr} {xs ys zs:List V}
theorem Inv.vH {its its':List Value} {n:Nat} {f:Array Value->Array Value} {t':Nat} (I:Inv X pins σ H s) (hH:H l=some (.lst xs))
   (e:s.heap.get? l=some { cls:=.type "list",data:=.seq its.toArray n }) (hf:f its.toArray=its'.toArray) (hv:Vals ys its') (hz:ys.length<=sizeLine) :
   Inv X pins σ (upd H l (.lst ys)) { s with heap:=s.heap.update l (Obj.mapSeq f),toks:=t' }:=by
 have q:=PySem.IsL.update e f
 rw [hf] at q
 refine I.write (x:=l) (e:=l) (by rw [hH]; exact trivial) (.inl rfl) (λb' u hb hu=>(Heap.get?_update_other s.heap (Obj.mapSeq f) (Ne.symm hb)).trans hu) ⟨_,q⟩ ?_
 exact ⟨hz,its',_,hv,q⟩
theorem Inv.yI {its:List Value} {t':Nat} (I:Inv X pins σ H s) (hv:Vals ys its) (hz:ys.length<=sizeLine) :
   Inv X pins σ (upd H s.heap.objs.size (.lst ys)) { s with heap:=s.heap.push { cls:=.type "list",data:=.seq its.toArray },toks:=t' }:=
 I.laid (λ_ _ q=>Heap.get?_push_of_some _ q) (Nat.le_refl _) ⟨hz,its,0,hv,Heap.get?_push_size _ rfl⟩
theorem Inv.fresh (I:Inv X pins σ H s):H s.heap.objs.size=none:=I.hok.fresh (Nat.le_refl _)
theorem Inv.vy (I:Inv X pins σ H s) (hH:H l=some (.lst xs)):xs.length<=sizeLine/\∃ (its:List Value) (n:Nat),Vals xs its/\xs.length=its.length/\s.heap.get? l=some { cls:=.type "list",data:=.seq its.toArray n }:=by
 obtain ⟨z,its,n,r,e⟩:=I.hok l _ hH
 exact ⟨z,its,n,r,r.length,e⟩
end
section
variable {X:Cx}
noncomputable def sP:V->List V->Hp->VK->Prop:=λx vs H Q=>∃ l xs y,x=.ref l/\vs=[y]/\H l=some (.lst xs)/\xs.length < sizeLine/\Q .non (upd H l (.lst (xs++[y])))
theorem gC:MtM X "list.append" sP:=by
 intro pins s σ H x vs v us Q I rx rv h
 obtain ⟨l,xs,y,rfl,rfl,hH,hz,q⟩:=h
 cases rx
 obtain ⟨u,rfl,ru⟩:=rv.one
 obtain ⟨z,its,n,r,hl,e⟩:=I.vy hH
 refine call_meets F.slot_list_append ⟨_,e,rfl⟩ F.entry_list_append (F.args_list_append_2 _ _) (PySem.list_append l its.toArray n u (by rw [List.size_toArray]; omega)) ⟨e,?_⟩
 refine ⟨.non,_,I.vH (its':=its++[u]) hH e (by simp) (r.append (.cons ru .nil)) ?_,rfl,q⟩
 rw [List.length_append,List.length_singleton]
 omega
noncomputable def vq:V->List V->Hp->VK->Prop:=λx vs H Q=>∃ l xs i k y,x=.ref l/\vs=[.int i]/\H l=some (.lst xs)/\-(2 ^ 63)<=i/\i < 2 ^ 63/\seqIndex? i xs.length=some k/\xs[k]?=some y/\Q y (upd H l (.lst (xs.eraseIdx k)))
theorem rg:MtM X "list.pop" vq:=by
 intro pins s σ H x vs v us Q I rx rv h
 obtain ⟨l,xs,i,k,y,rfl,rfl,hH,h1,h2,hk,hy,q⟩:=h
 cases rx
 obtain ⟨u,rfl,ru⟩:=rv.one
 obtain ⟨t,rfl⟩:=ru
 obtain ⟨z,its,n,r,hl,e⟩:=I.vy hH
 obtain ⟨w,hw,rw'⟩:=r.get hy
 refine call_meets F.slot_list_pop ⟨_,e,rfl⟩ F.entry_list_pop (F.args_list_pop_2 _ _)
   (MeetsSeq.list_pop_at l its.toArray n i t k w (fitsIndex_both h1 h2) (by rw [List.size_toArray,<- hl]; exact hk) (by rw [<- Array.getElem?_toList]; exact hw) (by rw [List.size_toArray]; omega)) ⟨e,?_⟩
 refine ⟨y,_,I.vH (its':=its.eraseIdx k) hH e ?_ (r.eraseIdx k) ?_,rw',q⟩
 · show its.toArray.eraseIdxIfInBounds k=(its.eraseIdx k).toArray
   rw [List.eraseIdxIfInBounds_toArray]
 · have:=jM xs k
   omega
end
section
variable {prog:Program} {w:World} {A:Around} {E:Value->Shared->Prop} {s:Shared}
end
section
variable {X:Cx}
end
end L2
namespace Att
open PySem PySem.W PySem.Calls PyProof.Rows
theorem gQ {P:Params} {h:Heap}:∀ (ns:List Int) (vs:List Value),WellAll P h vs (ns.map WData.int)->IntsAre vs ns:=by
 intro ns
 induction ns with
 | nil=>
   intro vs w
   rw [List.map_nil] at w
   cases w
   exact .nil
 | cons n ns ih=>
   intro vs w
   rw [List.map_cons] at w
   cases w with
   | cons a b=>
     cases a
     exact .cons _ _ (ih _ b)
theorem oI {l:OpenLaw} {n:Nat} (hn:l.most=some n) {P:Params} {h:Heap} {args:List WData} {vals:List Value}
   (hpre:l.row.toRowW.claim.pre args=true) (hwl:WellAll P h vals args) :
   ∃ a vs ns,vals=[Value.ref a]/\args=[WData.list (ns.map WData.int)]/\h.get? a=some { cls:=.type "list",data:=.seq vs.toArray }/\IntsAre vs ns/\ns.length<=n:=by
 have hsh:WShape.hasAll [] args [.list .int]=true:=(pre_splitW hpre).1
 have hc:l.pre.holds [] { args:=args }=true:=(pre_splitW hpre).2
 obtain ⟨d,r,rfl,h1,h2⟩:=hasAllW_cons hsh
 obtain rfl:=hasAllW_nil h2
 obtain ⟨xs,rfl,h3⟩:=hasW_list h1
 obtain ⟨ns,rfl⟩:=items_int h3
 have hlen:ns.length<=n:=by
   unfold OpenLaw.pre at hc
   have h4:(WTm.not (.lt (.lit (.int (n:Int))) (.len (.arg 0)))).holds [] { args:=[.list (ns.map .int)] }=true:=by
     have h4:=(holds_andW hc).1
     rw [hn] at h4
     exact h4
   have h5:=condW_of h4 (w_not (w_lt w_lit (w_len_list (w_arg rfl))))
   rw [List.length_map] at h5
   refine Nat.le_of_not_lt λq=>?_
   have q':(n:Int) < ((ns.length:Nat):Int):=by omega
   first
     | (rw [decide_eq_true q'] at h5; exact absurd h5 (by decide))
     | (simp at h5; omega)
 cases hwl with
 | cons w1 w2=>
   cases w2
   cases w1 with
   | list ho hall=>exact ⟨_,_,ns,rfl,rfl,ho,gQ ns _ hall,hlen⟩
theorem pq (l:OpenLaw) (args:List WData):l.row.toRowW.claim.post args (.bool true) args=true:=
 postW_of (r:=l.row.toRowW) (X:=(true == true))
   (show WShape.has [] (.bool true) .bool=true by first | rfl | decide | simp [WShape.has,WShape.arms,WShape.armsAll])
   (show (WTm.eq .res (.lit (.bool true))).value [] { args:=args,res:=some (.bool true),after:=args }=some (.bool (true == true)) from w_eq_bool (w_res rfl) w_lit) rfl
theorem kW {l:OpenLaw} {n:Nat} {q:Program} {loose:List Str} {XP:(Str->Option Value)->Heap->Prop} {YP:World->Heap->Prop} {d:DefRec}
   (hn:l.most=some n) (hdf:d.params.defaults=[])
   (call:∀ (w:World) (s₀ s₁:Shared) (mg mb:Str->Option Value) (fa:Addr) (o:Obj) (pm cd doc:Value) (a:Addr) (vs:List Value) (ns:List Int),
     Ground q loose [] XP w s₀ mg mb s₁.heap->YP w s₁.heap ->
     s₁.heap.get? fa=some o->o.data=.func (docDef d.name d.params d.body d.scope pm cd doc)->s₁.heap.CodeRec cd d.name->mg d.name=some (.ref fa) ->
     s₁.heap.get? a=some { cls:=.type "list",data:=.seq vs.toArray }->IntsAre vs ns->ns.length<=n->s₁.gens=#[] ->
     codeAny (model l.prog w) callerA (.call (.ref fa) ⟨[.ref a],[]⟩) (λr s'=>r=.ok (.ret (.bool true))/\OldK s₁.heap s'.heap/\s'.os=s₁.os/\AllBare s'.gens) s₁) :
   WalkO q loose XP YP l.row.toRowW d [] (λf vs=>PySem.call f vs):=by
 intro w s₀ s₁ mg mb G Y fa o pm cd doc dV kV ho hd hcd hD hmg hg args vals as hpre hlay hrd hwl hlo
 obtain rfl:dV=.none:=Dflts.none hD hdf
 obtain rfl:kV=.none:=Dflts.noKw hD
 obtain ⟨a,vs,ns,rfl,rfl,hobj,hints,hlen⟩:=oI hn hpre hwl
 refine enter_call (codeAny_mono (call w s₀ s₁ mg mb fa o pm cd doc a vs ns G Y ho (fd_plain hd) hcd hmg hobj hints hlen hg) λr s' hq=>?_)
 obtain ⟨rfl,h2,h3,h4⟩:=hq
 exact ⟨.inl ⟨.bool true,.bool true,[],rfl,λ_=>rfl,.bool true,pq l _,λ_=>⟨List.Pairwise.nil,λ_ hm=>(nomatch hm)⟩⟩,h2,h3,h4⟩
section
variable {prog:Program} {w:World} {A:Around} {E:Value->Shared->Prop} {s:Shared} {K:Frag}
end
end Att
namespace L2
open PySem PySem.Spec PyProof.Rows
theorem jH:∀ {vs:List Value} {ns:List Int},IntsAre vs ns->Vals (ns.map V.int) vs
 | _,_,.nil=>.nil
 | _,_,.cons n t h=>.cons ⟨t,rfl⟩ (jH h)
noncomputable def wj (H:Hp):Prop:=∀ b,H b=none\/∃ o xs,H b=some (.frz o (.lst xs))
theorem pY {P:Program} {w:World} {K:PySem.W.Frag} {mg mb:Str->Option Value} {CX:CXT} {k:Nat} {fa a:Addr} {fd:FuncData} {x:Str} {sp:Sp} {s₁:Shared} {vs:List Value} {ns:List Int}
   (KX:K.In s₁.heap) (hns:s₁.heap.Ns mainGlobals mg) (hb:s₁.heap.Ns builtinsNs mb) (hbb:∀ x:Str,x ≠ "__name__" -> mb x=bootBuiltins x) (hlim:s₁.heap.NoLimit) (hg:s₁.gens=#[])
   (ha:s₁.heap.get? a=some { cls:=.type "list",data:=.seq vs.toArray }) (hi:IntsAre vs ns) (hl:ns.length<=sizeLine) (hr:da k callerA)
   (F:∀ base:Heap,K.In base->base.Ns mainGlobals mg->aJ P w K mg base CX k fa fd [x] sp) (hbind:∀ (s:Shared) (u:Value),BindsTo s fd ⟨[u],[]⟩ [(x,u)])
   (hsp:∀ H:Hp,wj H->SqL K H a (ns.map V.int)->sp [.ref a] H (λv _=>v=.bl true) λ_ _ _=>False)
   (hCX:∀ H e s',CX [] H s₁ (λ_ _ _=>False) e s'->False) :
   codeAny (model P w) callerA (.call (.ref fa) ⟨[.ref a],[]⟩) (λr s'=>r=.ok (.ret (.bool true))/\OldK s₁.heap s'.heap/\s'.os=s₁.os/\AllBare s'.gens) s₁:=by
 have rv:=jH hi
 have lenV:=hi.length
 have core:∀ H:Hp,wj H->SqL K H a (ns.map V.int)->HOk P w H s₁.heap->(∀ b,H b ≠ none->b=a)->(H a ≠ none->K.lookup a=none) ->
     codeAny (model P w) callerA (.call (.ref fa) ⟨[.ref a],[]⟩) (λr s'=>r=.ok (.ret (.bool true))/\OldK s₁.heap s'.heap/\s'.os=s₁.os/\AllBare s'.gens) s₁:=by
   intro H hO hS hok hA hK
   have base_of:∀ {b:Addr} {o:Obj},s₁.heap.get? b=some o->H b=none->(kC s₁.heap H).get? b=some o:=λe n=>rO e n
   have noA:∀ {b:Addr} {o:Obj} {es:Array DictEntry} {ep:Nat},s₁.heap.get? b=some o->o.data=.dict es ep->H b=none:=λ{b o es ep} e d=>by
     cases q:H b with
     | none=>rfl
     | some u=>
       have e':b=a:=hA b (by rw [q]; simp)
       subst e'
       rw [ha] at e; cases e
       have d':Data.seq vs.toArray _=Data.dict es ep:=d
       cases d'
   have nsK:∀ {b:Addr} {m:Str->Option Value},s₁.heap.Ns b m->(kC s₁.heap H).Ns b m:=λ{b m} ⟨o,es,ep,e,d,r⟩=>⟨o,es,ep,base_of e (noA e d),d,r⟩
   have hKb:K.In (kC s₁.heap H):=λb o e=>base_of (KX b o e) (by
     cases q:H b with
     | none=>rfl
     | some u=>
       have e':b=a:=hA b (by rw [q]; simp)
       subst e'
       rw [hK (by rw [q]; simp)] at e; cases e)
   have hM:Mod K mg (kC s₁.heap H):=⟨hKb,nsK hns,⟨mb,nsK hb,hbb⟩,let ⟨mc,h1,h2⟩:=hlim; ⟨mc,nsK h1,h2⟩⟩
   have e0:rn P w K mg (kC s₁.heap H) callerA [] s₁ H:=⟨rfl,hM,λb o e=>tM e,Nat.le_of_eq (pW _ _),trivial,λb hb=>absurd (show b ∈ ([]:List Addr) from hb) (by simp),hok,.of_eq hg⟩
   refine codeAny_mono ((F _ hKb (nsK hns)).run callerA [] s₁ H ⟨[.ref a],[]⟩ [.ref a] [.ref a] _ _ hr e0 (hbind s₁ (.ref a)) (.cons rfl .nil) (hsp H hO hS)) λr s' h=>?_
   cases r with
   | error e=>exact (hCX H e s' h).elim
   | ok fl=>
     cases fl with
     | next=>exact False.elim h
     | brk=>exact False.elim h
     | cont=>exact False.elim h
     | ret u=>
       obtain ⟨v,H',os,bare,un,hok',r',q⟩:=h
       have q':v=.bl true:=q
       subst q'
       obtain rfl:u=Value.bool true:=r'
       refine ⟨rfl,OldK.of_keep λb o e=>?_,os,bare⟩
       cases q:H b with
       | none=>exact un.keep b o e q (by intro z; exact absurd (show b ∈ ([]:List Addr) from z) (by simp)) (by simp)
       | some u=>
         rcases hO b with z | ⟨ob,xs,z⟩
         · rw [q] at z; cases z
         · have z2:=un.frzs b ob _ z
           obtain ⟨e1,_⟩:=hok b _ z
           obtain ⟨e2,_⟩:=hok' b _ z2
           rw [e] at e1; cases e1
           exact e2
 cases hk:K.lookup a with
 | some o=>
   have e:=KX a o hk
   rw [ha] at e
   cases e
   refine core (λ_=>none) (λ_=>.inl rfl) (.inr ⟨_,vs.toArray,_,hk,rfl,rfl,rfl,by rw [List.size_toArray,lenV]; exact hl,by simpa using rv⟩) (λb u z=>by have z':(none:Option HO)=some u:=z; cases z') (λb z=>absurd rfl z) λz=>absurd rfl z
 | none=>
   refine core (λb=>if b=a then some (.frz { cls:=.type "list",data:=.seq vs.toArray } (.lst (ns.map V.int))) else none) (λb=>?_) (.inl (.inr ⟨{ cls:=.type "list",data:=.seq vs.toArray },if_pos rfl⟩)) (λb u z=>?_) (λb z=>?_) λ_=>hk
   · by_cases hb:b=a
     · exact .inr ⟨_,_,if_pos hb⟩
     · exact .inl (if_neg hb)
   · by_cases hb:b=a
     · have z':=(if_pos hb).symm.trans z
       cases z'
       subst hb
       exact ⟨ha,by rw [List.length_map]; exact hl,vs,_,rv,ha⟩
     · have z':=(if_neg hb).symm.trans z
       cases z'
   · by_cases hb:b=a
     · exact hb
     · exact absurd (if_neg hb) z
theorem t5 {l:PySem.W.OpenLaw} {n k:Nat} {q:Program} {loose:List Str} {XP:(Str->Option Value)->Heap->Prop} {YP:World->Heap->Prop} {d:DefRec} {K:Params->PySem.W.Frag} {CX:World->CXT} {sp:World->Sp} {x:Str}
   (hn:l.most=some n) (hn2:n<=sizeLine) (hdf:d.params.defaults=[]) (hr:da k callerA)
   (hY:∀ (w:World) (h:Heap),YP w h->(K w.params).In h)
   (F:∀ (w:World) (mg:Str->Option Value) (fa:Addr) (h:Heap),(K w.params).In h->h.Ns mainGlobals mg->mg d.name=some (.ref fa) ->
     ∃ fd:FuncData,(∀ (s:Shared) (u:Value),BindsTo s fd ⟨[u],[]⟩ [(x,u)]) /\
       ∀ base:Heap,(K w.params).In base->base.Ns mainGlobals mg->aJ l.prog w (K w.params) mg base (CX w) k fa fd [x] (sp w))
   (hsp:∀ (w:World) (H:Hp) (a:Addr) (ns:List Int),ns.length<=n->wj H->SqL (K w.params) H a (ns.map V.int)->sp w [.ref a] H (λv _=>v=.bl true) λ_ _ _=>False)
   (hCX:∀ (w:World) (H:Hp) (s:Shared) (e:Value) (s':Shared),CX w [] H s (λ_ _ _=>False) e s'->False) :
   PySem.W.WalkO q loose XP YP l.row.toRowW d [] (λf vs=>PySem.call f vs):=by
 refine Att.kW hn hdf λw s₀ s₁ mg mb fa o pm cd doc a vs ns G Y ho hd hcd hmg hobj hints hlen hg=>?_
 have KX:=hY w _ Y
 obtain ⟨fd,hb,hF⟩:=F w mg fa _ KX G.T.g hmg
 exact pY KX G.T.g G.T.b G.T.builtins G.T.nolimit hg hobj hints (Nat.le_trans hlen hn2) hr hF hb (λH hO hS=>hsp w H a ns hlen hO hS) λH e s'=>hCX w H s₁ e s'
noncomputable def cb (s:Stmt):Arguments:=match s with
 | .FunctionDef _ a _ _ _ _ _ _ _ _=>a
 | _=>{ posonlyargs:=[],args:=[],vararg:=none,kwonlyargs:=[],kw_defaults:=[],kwarg:=none,defaults:=[] }
noncomputable def bo (s:Stmt):List Stmt:=match s with
 | .FunctionDef _ _ b _ _ _ _ _ _ _=>b
 | _=>[]
noncomputable def ah (s:Stmt):Scope:=match s with
 | .FunctionDef _ _ _ _ _ _ sc _ _ _=>sc
 | _=>{ kind:=.function,names:=[],isGenerator:=false,isCoroutine:=false }
noncomputable abbrev CX0:CXT:=λ_ _ _ _ _ _=>False
noncomputable abbrev E0:XK:=λ_ _ _=>False
theorem xm {X:Cx}:Passes CX0 X E0:=λ_ _ _ _ _ _ _ h=>h.elim
structure Fun (K:PySem.W.Frag) (x qual:Str) (st:Stmt) (f:Addr) (fd:FuncData):Prop where
 ex:∃ (oc:Value) (od:Option Addr) (dV kV doc pm:Value) (an:Option Addr) (cdv ct:Value) (osl:Array (Option Value)),
   fd=PySem.W.fnOf x qual (cb st) (bo st) (ah st) dV kV doc pm an cdv ct/\K.lookup f=some ⟨oc,od,.func fd,osl⟩/\PySem.W.codeIn K cdv qual=true
 kp:PySem.W.keepIn K (.ref f)=true
section
variable {P:Program} {w:World} {K:PySem.W.Frag} {mg:Str->Option Value} {base:Heap}
theorem Fun.ok {x qual:Str} {st:Stmt} {f:Addr} {fd:FuncData} {N ps:List Str} {k:Nat} {sp:Sp} (F:Fun K x qual st f fd) (S:ao N ps (ah st)) (len:∀ vs H Q E,sp vs H Q E->vs.length=ps.length)
   (hbody:∀ (cdv:Value) (A:Around) (outer:List Env) (s:Shared) (H:Hp) (vs:List V) (Q:VK) (E:XK),da k (A.deeper (envOfC qual (ah st) s.heap.objs.size f cdv))->sp vs H Q E ->
     ∃ t,PSs (i0 CX0 P w K mg base N qual (ah st) f cdv A outer s H E).nox (bo st) t/\t { nx:=λ_ H'=>Q .non H',rt:=Q } (start N vs) H):aJ P w K mg base CX0 (k + 1) f fd ps sp:=by
 obtain ⟨oc,od,dV,kV,doc,pm,an,cdv,ct,osl,rfl,lk,hcd⟩:=F.ex
 refine uA lk hcd S len λA outer s H vs Q E hr hsp=>?_
 obtain ⟨t,h,q⟩:=hbody cdv A outer s H vs Q E hr hsp
 exact ⟨t,h.nox,q⟩
theorem Fun.binds {x qual:Str} {st:Stmt} {f:Addr} {fd:FuncData} {ps:List Str} (_:Fun K x qual st f fd) (h:∀ us:List Value,us.length=ps.length->bindArgs fd ⟨us,[]⟩=pure (ps.zip us)):Binds K fd ps []:=.all h
theorem ng {x qual:Str} {st:Stmt} {f:Addr} {oc:Value} {od an:Option Addr} {osl:Array (Option Value)} {dV kV doc pm cdv ct:Value} (l:K.lookup f=some ⟨oc,od,.func (PySem.W.fnOf x qual (cb st) (bo st) (ah st) dV kV doc pm an cdv ct),osl⟩)
   (c:PySem.W.codeIn K cdv qual=true) (k:PySem.W.keepIn K (.ref f)=true):Fun K x qual st f (PySem.W.fnOf x qual (cb st) (bo st) (ah st) dV kV doc pm an cdv ct):=⟨⟨oc,od,dV,kV,doc,pm,an,cdv,ct,osl,rfl,l,c⟩,k⟩
end
theorem jB {n:Nat} (h:n<=1000):n < sizeLine:=Nat.lt_of_le_of_lt h (by decide)
section
variable {X:Cx}
end
theorem sA {A B:Prop} (h:B):if false=true then A else B:=by
 rw [if_neg Bool.false_ne_true]
 exact h
theorem tP {A B:Prop} (h:A):if true=true then A else B:=by
 rw [if_pos rfl]
 exact h
noncomputable def aj (H H':Hp):Prop:=∀ b o,H b=some o->H' b=some o
theorem aj.refl (H:Hp):aj H H:=λ_ _ h=>h
theorem aj.trans {H H1 H2:Hp} (a:aj H H1) (b:aj H1 H2):aj H H2:=λc o h=>b c o (a c o h)
theorem aj.free {H H':Hp} (e:aj H H') {l:Addr} (h:H' l=Option.none):H l=Option.none:=by
 cases q:H l with
 | none=>rfl
 | some o=>
   rw [e l o q] at h
   cases h
theorem aj.seq {K:PySem.W.Frag} {H H':Hp} {a:Addr} {xs:List V} (e:aj H H') (h:SqL K H a xs):SqL K H' a xs:=by
 rcases h with (h | ⟨o,h⟩) | h
 · exact .inl (.inl (e _ _ h))
 · exact .inl (.inr ⟨o,e _ _ h⟩)
 · exact .inr h
end L2
set_option linter.all false
set_option maxRecDepth 100000
namespace Hx
open PySem PySem.Spec PyProof.Rows
noncomputable def Fly (old:Addr->Prop) (e C:Addr) (fl:Value) (h:Heap):Prop:=
 ∃ oe vs T oT ts,(¬ old e/\∀ b,old b->∃ u,h.get? b=some u)/\h.get? e=some oe/\(oe.cls=.ref C/\oe.dict=none)/\oe.data=.fields vs/\vs[2]?=some .none/\vs[1]?=some (.ref T)/\¬ old T/\T ≠ e/\h.get? T=some oT/\oT.data=.fields ts/\ts[3]?=some fl
structure Kp (old:Addr->Prop) (fs:List Addr) (h h':Heap):Prop where
 keep:∀ b o,old b->b ∉ fs->h.get? b=some o->h'.get? b=some o
 slot:∀ b o,old b->h.get? b=some o->∃ sl,h'.get? b=some { o with slots:=sl }
theorem rJ (f:Array Value->Array Value) (o:Obj):(Obj.mapFields f o).dict=o.dict:=by
 obtain ⟨c,d,dt,sl⟩:=o
 cases dt <;> rfl
theorem Kp.trans {old:Addr->Prop} {fs:List Addr} {h h1 h2:Heap} (a:Kp old fs h h1) (b:Kp old fs h1 h2):Kp old fs h h2:=
 ⟨λx o q n e=>b.keep x o q n (a.keep x o q n e),λx o q e=>let ⟨_,e1⟩:=a.slot x o q e; let ⟨sl,e2⟩:=b.slot x _ q e1; ⟨sl,e2⟩⟩
theorem Kp.of {old:Addr->Prop} {fs:List Addr} {h h':Heap} (k:∀ b o,old b->h.get? b=some o->h'.get? b=some o):Kp old fs h h':=⟨λb o q _ e=>k b o q e,λb o q e=>⟨o.slots,k b o q e⟩⟩
section
variable {M:Model} {A:Around} {E:Value->Shared->Prop} {s:Shared}
theorem ju {old:Addr->Prop} {base:Heap} {env:Env} {outer:List Env} {L e C:Addr} {oe:Obj} {vs:Array Value} {head:Value} {more:Bool} {Q:Unit->Shared->Prop} (fr:A.frames=some (env :: outer)) (ff:s.heap.FunFrames base (env :: outer)) (fl:env.frame=some L)
   (he:s.heap.get? e=some oe) (hc:oe.cls=.ref C/\oe.dict=none) (hd:oe.data=.fields vs) (h1:1 < vs.size) (h2:vs[2]?=some .none) (l1:¬ old e/\∀ b,old b->∃ u,s.heap.get? b=some u)
   (k:∀ h',Kp old ((env :: outer).filterMap (·.frame)) s.heap h'->Fly old e C (rawInt L) h'->Q () { s with heap:=h' }) :
   wpAny M A (do let f <- frameOf env; let p <- entryPlaceOf L more; let t <- EntryCells.newEntry head f .none (rawInt L) .none p; setField (.ref e) 1 t) Q E s:=by
 have ne:e ∉ (env :: outer).filterMap (·.frame):=λm=>by
   obtain ⟨_,o,g,d⟩:=ff.mem m
   rw [he] at g; cases g
   exact d vs hd
 refine wpAny_bind (wpAny_frameOf_fun fr ff fl λg1 sl=>wpAny_bind (wpAny_entryPlaceOf λp hp=>?_))
 unfold EntryCells.newEntry newFields
 refine wpAny_bind (wpAny_newObj_type ?_ (hp.sizeOk5 _ _ _ _ _))
 have e1:g1.get? e=some oe:=(sl.2.1 e ne).trans he
 have lT:¬ old g1.objs.size:=λz=>by
   obtain ⟨u,g⟩:=l1.2 _ z
   have:=Heap.lt_size g
   rw [<- sl.1] at this
   exact Nat.lt_irrefl _ this
 generalize hT:({ cls:=.type "traceback",dict:=none,data:=.fields ([head,.ref L,.none,rawInt L,.none]++(if p.isEmpty then List.replicate 6 Value.none else p)).toArray }:Obj)=oT
 have e2:(g1.push oT).get? e=some oe:=Heap.get?_push_of_some oT e1
 refine wpAny_setField e2 hd h1 ?_
 have nT:g1.objs.size ≠ e:=Nat.ne_of_gt (Heap.lt_size e1)
 have d3:=Obj.data_mapFields hd (·.setIfInBounds 1 (Value.ref g1.objs.size))
 have dR:∀ b o,old b->g1.get? b=some o->((g1.push oT).update e (Obj.mapFields (·.setIfInBounds 1 (Value.ref g1.objs.size)))).get? b=some o:=λb o q g=>by
   rw [Heap.get?_update_other _ _ (show e ≠ b from λz=>l1.1 (by rw [z]; exact q))]
   exact Heap.get?_push_of_some oT g
 refine k _ ⟨λb o q n g=>dR b o q ((sl.2.1 b n).trans g),λb o q g=>?_⟩ ?_
 · obtain ⟨z,w⟩:=sl.2.2 b o g
   exact ⟨z,dR b _ q w⟩
 · refine ⟨_,_,g1.objs.size,oT,_,⟨l1.1,λb q=>?_⟩,Heap.get?_update_self _ e2 (Obj.isFreed_of_fields d3),⟨(Obj.cls_mapFields _ _).trans hc.1,(rJ _ _).trans hc.2⟩,d3,?_,?_,lT,nT,?_,by rw [<- hT],?_⟩
   · obtain ⟨u,g⟩:=l1.2 b q
     obtain ⟨z,w⟩:=sl.2.2 b u g
     exact ⟨_,dR b _ q w⟩
   · rw [Array.getElem?_setIfInBounds_ne (by decide)]; exact h2
   · simp [h1]
   · rw [Heap.get?_update_other _ _ (Ne.symm nT)]
     exact Heap.get?_push_size g1 (by rw [<- hT]; rfl)
   · first | (simp; done) | (rcases hp with rfl | ⟨_,_,_,_,_,_,_,rfl⟩ <;> simp)
theorem mQ {old:Addr->Prop} {base:Heap} {env:Env} {outer:List Env} {L e C:Addr} {oe:Obj} {vs:Array Value} {Q:Unit->Shared->Prop} (fr:A.frames=some (env :: outer)) (ff:s.heap.FunFrames base (env :: outer)) (fl:env.frame=some L)
   (he:s.heap.get? e=some oe) (hc:oe.cls=.ref C/\oe.dict=none) (hd:oe.data=.fields vs) (h1:vs[1]?=some .none) (h2:vs[2]?=some .none) (l1:¬ old e/\∀ b,old b->∃ u,s.heap.get? b=some u)
   (k:∀ h',Kp old ((env :: outer).filterMap (·.frame)) s.heap h'->Fly old e C (rawInt L) h'->Q () { s with heap:=h' }):wpAny M A (noteFrame (.ref e) env) Q E s:=by
 unfold noteFrame
 simp only [fl]
 refine wpAny_bind (wpAny_field he hd h1 ?_)
 rw [if_neg (by decide)]
 exact ju fr ff fl he hc hd (Array.getElem?_eq_some_iff.mp h1).1 h2 l1 k
theorem jT {old:Addr->Prop} {base:Heap} {env:Env} {outer:List Env} {L e C:Addr} {Q:Unit->Shared->Prop} (fr:A.frames=some (env :: outer)) (ff:s.heap.FunFrames base (env :: outer)) (fl:env.frame=some L) (y:Fly old e C .none s.heap)
   (k:∀ h',Kp old ((env :: outer).filterMap (·.frame)) s.heap h'->Fly old e C (rawInt L) h'->Q () { s with heap:=h' }):wpAny M A (noteFrame (.ref e) env) Q E s:=by
 obtain ⟨oe,vs,T,oT,ts,l1,he,hc,hd,h2,h1,lT,nT,gT,dT,h3⟩:=y
 unfold noteFrame
 simp only [fl]
 refine wpAny_bind (wpAny_field he hd h1 ?_)
 rw [if_pos (by simp)]
 refine wpAny_bind (wpAny_field gT dT h3 ?_)
 rw [if_neg (by simp [rawInt])]
 refine wpAny_bind (wpAny_setField gT dT (Array.getElem?_eq_some_iff.mp h3).1 ?_)
 have oth:∀ b,b ≠ T->(s.heap.update T (Obj.mapFields (·.setIfInBounds 3 Value.none))).get? b=s.heap.get? b:=λb n=>Heap.get?_update_other _ _ (Ne.symm n)
 have kp:Kp old ((env :: outer).filterMap (·.frame)) s.heap (s.heap.update T (Obj.mapFields (·.setIfInBounds 3 Value.none))):=Kp.of λb o q g=>(oth b λz=>lT (z ▸ q)).trans g
 refine ju (base:=base) fr (ff.of_keeps λb o g d=>⟨o,(oth b λz=>?_).trans g,rfl⟩) fl ((oth e (Ne.symm nT)).trans he) hc hd (Array.getElem?_eq_some_iff.mp h1).1 h2 ⟨l1.1,λb q=>let ⟨u,g⟩:=l1.2 b q; ⟨u,(oth b λz=>lT (z ▸ q)).trans g⟩⟩ λh' a y'=>k h' (kp.trans a) y'
 rw [z,gT] at g; cases g
 exact d ts dT
theorem land {old:Addr->Prop} {fs:List Addr} {e C:Addr} {f:Value} {Q:Unit->Shared->Prop} (y:Fly old e C f s.heap) (k:∀ h',Kp old fs s.heap h'->Fly old e C .none h'->Q () { s with heap:=h' }):wpAny M A (setFlight (.ref e) none) Q E s:=by
 obtain ⟨oe,vs,T,oT,ts,l1,he,hc,hd,h2,h1,lT,nT,gT,dT,h3⟩:=y
 have z3:=(Array.getElem?_eq_some_iff.mp h3).1
 refine wpAny_setFlight_none he hd h1 gT dT z3 ?_
 have oth:∀ b,b ≠ T->(s.heap.update T (Obj.mapFields (·.setIfInBounds 3 Value.none))).get? b=s.heap.get? b:=λb n=>Heap.get?_update_other _ _ (Ne.symm n)
 refine k _ (Kp.of λb o q g=>(oth b λz=>lT (z ▸ q)).trans g) ?_
 exact ⟨oe,vs,T,_,_,⟨l1.1,λb q=>let ⟨u,g⟩:=l1.2 b q; ⟨u,(oth b λz=>lT (z ▸ q)).trans g⟩⟩,(oth e (Ne.symm nT)).trans he,hc,hd,h2,h1,lT,nT,Heap.get?_update_self _ gT (Obj.isFreed_of_fields (Obj.data_mapFields dT _)),Obj.data_mapFields dT _,by simp [z3]⟩
theorem lO {old:Addr->Prop} {base:Heap} {env:Env} {outer:List Env} {L e C:Addr} {oe:Obj} {vs:Array Value} {Q:Unit->Shared->Prop} (fr:A.frames=some (env :: outer)) (ff:s.heap.FunFrames base (env :: outer)) (fl:env.frame=some L)
   (he:s.heap.get? e=some oe) (hc:oe.cls=.ref C/\oe.dict=none) (hd:oe.data=.fields vs) (h1:vs[1]?=some .none) (h2:vs[2]?=some .none) (l1:¬ old e/\∀ b,old b->∃ u,s.heap.get? b=some u)
   (k:∀ h',Kp old ((env :: outer).filterMap (·.frame)) s.heap h'->Fly old e C .none h'->Q () { s with heap:=h' }):wpAny M A (leaving env (.ref e)) Q E s:=by
 unfold leaving
 refine wpAny_bind (mQ fr ff fl he hc hd h1 h2 l1 λh' a y=>?_)
 exact land (s:={ s with heap:=h' }) y λh'' b y'=>k h'' (a.trans b) y'
theorem mH {old:Addr->Prop} {base:Heap} {env:Env} {outer:List Env} {L e C:Addr} {Q:Unit->Shared->Prop} (fr:A.frames=some (env :: outer)) (ff:s.heap.FunFrames base (env :: outer)) (fl:env.frame=some L) (y:Fly old e C .none s.heap)
   (k:∀ h',Kp old ((env :: outer).filterMap (·.frame)) s.heap h'->Fly old e C .none h'->Q () { s with heap:=h' }):wpAny M A (leaving env (.ref e)) Q E s:=by
 unfold leaving
 refine wpAny_bind (jT fr ff fl y λh' a y'=>?_)
 exact land (s:={ s with heap:=h' }) y' λh'' b y2=>k h'' (a.trans b) y2
theorem Fly.at {old:Addr->Prop} {e C:Addr} {f:Value} {h:Heap} (y:Fly old e C f h):∃ o vs,h.get? e=some o/\(o.cls=.ref C/\o.dict=none)/\o.data=.fields vs/\vs[2]?=some .none/\¬ old e:=by
 obtain ⟨oe,vs,T,oT,ts,l1,he,hc,hd,h2,_⟩:=y
 exact ⟨oe,vs,he,hc,hd,h2,l1.1⟩
end
end Hx
namespace Hx
open PySem PySem.Spec PySem.Calls PyProof.Rows PySem.W
structure b6 (K:Frag) (D:Addr):Prop where
 cls:(clsIn K D).isSome=true
 ga:findIn K (.ref D) "__getattribute__" = some (some (.builtin "BaseException.__getattribute__"))
 gt:findIn K (.ref D) "__getattr__" = some none
 at_:findIn K (.ref D) "__class__" = some (some (.builtin "object.__class__"))
 get:specialIn K (.builtin "object.__class__") "__get__" = some (some (.builtin "getset_descriptor.__get__"))
 tk:takesIn K (.builtin "object.__class__")=some true
 obj:mroIn K D (.type "object")=some true
 exc:mroIn K D (.type "BaseException")=some true
section
variable {prog:Program} {w:World} {A:Around} {E:Value->Shared->Prop} {s:Shared} {K:Frag} {x D:Addr} {ox:Obj}
theorem tq:builtinKind "BaseException.__getattribute__" = some .slot:=by decide +kernel
theorem rl:splitId "BaseException.__getattribute__" = some ("BaseException","__getattribute__"):=by decide +kernel
theorem k6 (c:b6 K D):findObj K D none "__class__" = some (.bind (.builtin "getset_descriptor.__get__") (.builtin "object.__class__")):=by
 obtain ⟨cd,h⟩:=Option.isSome_iff_exists.mp c.cls
 unfold findObj
 rw [h,Option.bind_some,c.at_,Option.bind_some]
 simp [c.get,c.tk]
theorem qv {tk:Tok} {R:Result->Shared->Prop} (c:b6 K D) (X:K.In s.heap) (I:InstAt s.heap x ox D none) (q:R (.ok (.ret (.ref D))) s) :
   wpAny (model prog w) A (Builtin.«object.__getattribute__» ⟨[.ref x,.str "__class__" tk],[]⟩) (λfin s'=>match fin with | .done f=>R (.ok f) s' | .again _=>False) E s:=by
 have lt:=I.type (M:=model prog w)
 have L3:=looks_find (M:=model prog w) X I (k6 c)
 unfold Builtin.«object.__getattribute__»
 refine wpAny_bind (wpAny_pure ?_)
 dsimp only
 refine wpAny_bind (wpAny_pure ?_)
 refine wpAny_bind (lt.here (wpAny_bind (L3.here ?_)))
 dsimp only
 show wpAny _ _ (do let v <- holding [.builtin "object.__class__"] (call (.builtin "getset_descriptor.__get__") [.builtin "object.__class__",.ref x,.ref D]); ret v) _ _ _
 refine wpAny_bind (wpAny_holding (wpAny_call (class_get X I c.obj ?_)))
 exact wpAny_pure q
theorem sG (a b:Value):argsOk "BaseException.__getattribute__" ⟨a :: [b],[]⟩:=PySem.F.args_bexc_ga a b
theorem rQ {tk:Tok} {Q:Unit->Shared->Prop} (L4:Looks (model prog w) s.heap (isInstance (.ref x) (.type "BaseException")) true) (q:Q () s):wpAny (model prog w) A (checkBuiltinCall "BaseException.__getattribute__" ⟨Value.ref x :: [.str "__class__" tk],[]⟩) Q E s:=
 check_slot (M:=model prog w) (A:=A) (E:=E) (s:=s) (i:="BaseException.__getattribute__") (owner:="BaseException") (n:="__getattribute__") (self:=.ref x) (rest:=[.str "__class__" tk]) (kw:=[]) (Q:=Q) tq rl L4 (sG _ _) q
theorem tJ {tk:Tok} {R:Result->Shared->Prop} (c:b6 K D) (X:K.In s.heap) (I:InstAt s.heap x ox D none) (q:R (.ok (.ret (.ref D))) s) :
   codeAny (model prog w) A (.call (.builtin "BaseException.__getattribute__") ⟨[.ref x,.str "__class__" tk],[]⟩) R s:=by
 refine codeAny_call_builtin PySem.F.attr_ValueError.ga.plain PySem.F.entry_bexc_ga (rQ ((I.type (M:=model prog w)).andThen (looks_mroIn X c.exc)) ?_)
 refine wpAny_mono (qv (R:=R) (E:=λe s'=>R (.error e) s') c X I q) (λfin s' z=>?_) λ_ _ z=>z
 cases fin with
 | done f=>exact z
 | again c'=>exact z.elim
theorem pw {Q:Option Value->Shared->Prop} (c:b6 K D) (X:K.In s.heap) (I:InstAt s.heap x ox D none) (q:Q (some (.ref D)) { s with toks:=s.toks + 1 }):wpAny (model prog w) A (getAttr? (.ref x) "__class__") Q E s:=by
 obtain ⟨hh,g,d,t,os⟩:=s
 have lt:=I.type (M:=model prog w)
 have lg:=looks_findIn (M:=model prog w) X c.ga; have lh:=looks_findIn (M:=model prog w) X c.gt
 have L3:=looks_find (M:=model prog w) X I (k6 c)
 have L4:Looks (model prog w) hh (isInstance (.ref x) (.type "BaseException")) true:=lt.andThen (looks_mroIn X c.exc)
 unfold getAttr? getAttrBy? getAttrBy; refine wpAny_bind (wpAny_mkText (wpAny_bind (wpAny_attempt (wpAny_holding (wpAny_bind (lt.at (wpAny_bind (lg.at ?_))))))))
 dsimp only
 have no:(Value.builtin "BaseException.__getattribute__" == Value.builtin "object.__getattribute__")=false:=by decide +kernel
 rw [no,Bool.and_false,if_neg Bool.false_ne_true]
 unfold getAttrByItsOwn hookBefore
 rw [if_pos (show onTheHeap (Value.ref D)=true from rfl)]
 refine wpAny_bind (lh.at (wpAny_bind (wpAny_attempt (wpAny_holding ?_))))
 unfold callGetattribute boundAndCalled
 rw [if_neg (show ¬ ((false && onTheHeap (Value.builtin "BaseException.__getattribute__"))=true) by decide),PySem.F.attr_ValueError.ga.bind]
 refine wpAny_bind (wpAny_pure ?_)
 show wpAny (model prog w) A (call (.builtin "BaseException.__getattribute__") [.ref x,.str "__class__" t]) _ _ _
 refine wpAny_call (tJ c X I ?_)
 exact handed_on rfl (wpAny_pure q)
theorem qD (c:b6 K D):KitX K (.ref x) (.ref D) (λh=>∃ ox,InstAt h x ox D none) where
 ty:=λ_ _ _ ⟨_,I⟩=>I.type
 it:=λ_ _ X _=>by
   obtain ⟨cd,h⟩:=Option.isSome_iff_exists.mp c.cls
   unfold clsIn at h
   split at h
   · rename_i ho
     intro B R F s1 kp z
     unfold isType loadHead; exact wpAny_bind (wpAny_loadPart (kp _ _ (X _ _ ho)) (wpAny_pure z))
   · cases h
 ne:=λg t od xs m ws X e=>by
   obtain ⟨cd,h⟩:=Option.isSome_iff_exists.mp c.cls
   refine Bool.eq_false_iff.mpr λq=>(?_:False)
   obtain rfl:D=t:=Value.ref.inj (beq_iff_eq.mp q)
   unfold clsIn at h
   split at h
   · rename_i ho
     cases (X _ _ ho).symm.trans e
   · cases h
 ca:=λX ⟨_,I⟩ k=>pw c X I k
end
end Hx
namespace Hx
open PySem PySem.Spec PySem.Calls PyProof.Rows PySem.W L2
noncomputable def nsO (o:Obj):Bool:=match o.data with | .dict es _=>es.toList.all (λe=>match e.key with | .str _ _=>true | _=>false) | _=>false
noncomputable abbrev bmV:List Value:=[.type "ValueError",.type "Exception",.type "BaseException",.type "object"]
structure pF (K:Frag) (C S:Addr):Prop where
 obj:∃ nm q N bs hdct sn sub ab col dd k0 k1 k2 k3 k5 oN,K.lookup C=some (excClassObj nm q C N bs (.ref S :: bmV) hdct sn sub ab col dd k0 k1 k2 k3 k5 "ValueError.__new__")/\K.lookup N=some oN/\nsO oN=true/\nsIn K N "__init__" = some none
 sup:∃ c0 dd cd sl oN,K.lookup S=some ⟨c0,dd,.cls cd,sl⟩/\K.lookup cd.ns=some oN/\nsO oN=true/\nsIn K cd.ns "__init__" = some none
 at_:b6 K C
theorem xO {K:Frag} {h:Heap} {N:Addr} {o:Obj} {x:Str} (X:K.In h) (e:K.lookup N=some o) (n:nsO o=true) (i:nsIn K N x=some none):∃ m,h.Ns N m/\m x=none:=by
 have e':=X _ _ e
 have q:h.isNs N=true:=by
   unfold Heap.isNs
   rw [e']
   obtain ⟨c,d,dt,sl⟩:=o
   cases dt with
   | dict es ep=>
     show es.all _=true
     rw [<- Array.all_toList]
     exact n
   | _=>cases n
 refine ⟨_,.of_isNs q,?_⟩
 unfold nsIn at i
 rw [e] at i
 unfold Heap.nsMap
 rw [e']
 obtain ⟨c,d,dt,sl⟩:=o
 cases dt with
 | dict es ep=>
   dsimp only at i ⊢
   unfold nsFind findBy
   rw [<- Array.find?_toList]
   split at i
   · cases i
   · rename_i z
     rw [z]; rfl
 | _=>rfl
section
variable {X:Cx} {x:Str} {C S:Addr} {np cpos pos:Pos} {e:Expr} {es:List Expr} {t:TA}
theorem rL (hc:X.calm=true) (hg:Gl X x) (hm:X.mg x=some (.ref C)) (O:pF X.K C S) (ha:PA X (e :: es) t) (hdb:(x == ("__debug__" : Str))=false)
   (he:starEach (e :: es) X.env=(false,eval e X.env) :: starEach es X.env) (hpl:(backTo cpos (starEach es X.env)).any (·.1)=false) :
   PS X (.Raise (some (.Call (.Name x np) (e :: es) [] cpos)) none pos) (λ_ σ H=>t σ H λvs H1=>vs.length<=sizeLine/\∀ pins s us,Inv X pins σ H1 s->∀ h' a,Heap.MadeExcOf s.heap h' a (.ref C) us->X.xe (.ref a) { s with heap:=h' }):=by
 intro pins s σ H D I q
 obtain ⟨nm,qn,N,bs,hdct,sn,sub,ab,col,dd,k0,k1,k2,k3,k5,oN,hC,hN,hn,hi⟩:=O.obj
 obtain ⟨c0,dd',cd,sl,oS,hS,hNS,hnS,hiS⟩:=O.sup
 obtain ⟨mN,nN,iN⟩:=xO I.mod.kin hN hn hi
 obtain ⟨mS,nS,iS⟩:=xO I.mod.kin hNS hnS hiS
 refine wpAny_Raise_call_subU (C:=C) (nm:=nm) (q:=qn) (N:=N) (bs:=bs) (bm:=.ref S :: bmV) (hdct:=hdct) (sn:=sn) (sub:=sub) (ab:=ab) (col:=col) (dd:=dd) (k0:=k0) (k1:=k1) (k2:=k2) (k3:=k3) (k5:=k5) (mN:=mN) PySem.F.excBase_ValueError (by decide) PySem.F.excBase_ValueError
   (by rw [List.contains_cons]; rw [show bmV.contains (.type "BaseException")=true by decide]; rw [Bool.or_true]) (I.ok.hd hc) (by rw [he]; exact hpl) iN (fB I hg hm ⟨rfl,?_⟩ hdb)
 rw [he]
 refine Calls.evalArgs_plain ?_
 have q':=ha cpos pins s σ H _ I q
 rw [he] at q'
 refine thn q' λus s1 ⟨vs,H1,I1,r1,l1,q1⟩=>?_
 exact ⟨rfl,by rw [<- r1.length]; exact l1,I1.kIn _ _ hC,nN.keeps I1.bk,.own (I1.kIn _ _ hS) (nS.keeps I1.bk) iS .base,λh' a m=>q1 pins s1 us I1 h' a m⟩
end
section
variable {fs fs' ch:List Addr} {H H1:Hp} {h h1 h2:Heap} {old:Addr->Prop} {P:Program} {w:World} {a:Addr}
theorem nq (u:Un fs ch H H1 h h1) (k:Kp old fs' h1 h2) (ho:∀ b o,h.get? b=some o->old b) (hf:∀ b o,h.get? b=some o->b ∈ fs'->b ∈ fs):Un fs ch H H1 h h2 where
 keep:=λb o e n nf nx=>k.keep b o (ho b o e) (λz=>nf (hf b o e z)) (u.keep b o e n nf nx)
 slot:=λb o e n f nx=>let ⟨_,z⟩:=u.slot b o e n f nx; let ⟨sl,z2⟩:=k.slot b _ (ho b o e) z; ⟨sl,z2⟩
 free:=u.free
 there:=λb o e nx=>let ⟨o',z⟩:=u.there b o e nx; let ⟨_,z2⟩:=k.slot b o' (ho b o e) z; ⟨_,z2⟩
 tups:=u.tups
 frzs:=u.frzs
 tbls:=u.tbls
theorem kh (x:HOk P w H h1) (k:Kp old fs h1 h2) (q:∀ b o,H b=some o->old b/\b ∉ fs):HOk P w H h2:=λb o e=>by
 refine (x b o e).dR (λd v hd z=>?_) (λ_ z=>z) λ_ _ z=>z
 rcases hd with rfl | hd
 · exact k.keep _ v (q _ _ e).1 (q _ _ e).2 z
 · exact k.keep d v (q _ _ hd).1 (q _ _ hd).2 z
theorem v7 {o:Obj} {x:HO} (u:Un fs [] H H1 h h2) (ha:h.get? a=none) (hn:H1 a=none):Un fs [] H (upd H1 a (.frz o x)) h h2 where
 keep:=u.keep
 slot:=u.slot
 free:=λb ob e n nx=>by
   rw [aB (λz=>by rw [z,ha] at e; cases e)]
   exact u.free b ob e n nx
 there:=u.there
 tups:=λb xs e=>by have z:=u.tups b xs e; rw [aB (ay z hn)]; exact z
 frzs:=λb ob v e=>by have z:=u.frzs b ob v e; rw [aB (ay z hn)]; exact z
 tbls:=λb ps e=>by obtain ⟨m,z⟩:=u.tbls b ps e; exact ⟨m,by rw [aB (ay z hn)]; exact z⟩
theorem sr {o:Obj} (x:HOk P w H h) (hn:H a=none) (e:h.get? a=some o):HOk P w (upd H a (.frz o (.ext λ_=>True))) h:=λb ob z=>by
 by_cases hb:b=a
 · subst hb
   rw [aX] at z; cases z
   exact ⟨e,trivial,⟨o,e⟩,λ_ _ _ _=>trivial⟩
 · rw [aB hb] at z
   exact (x b ob z).dR (λ_ _ _ q=>q) (λc q=>by rw [aB (ay q hn)]; exact q) λc xs q=>by rw [aB (ay q hn)]; exact q
end
theorem there {P:Program} {w:World} {H:Hp} {h:Heap} {a:Addr} {o:HO} (x:bJ P w H h a o):∃ u,h.get? a=some u:=by
 cases o with
 | lst xs=>obtain ⟨_,_,_,_,e⟩:=x; exact ⟨_,e⟩
 | tup xs=>obtain ⟨_,_,_,o,e,_⟩:=x; exact ⟨_,e⟩
 | dK kvs=>obtain ⟨_,_,_,_,o,_,_,e,_⟩:=x; exact ⟨_,e⟩
 | dT kvs=>obtain ⟨_,_,_,_,o,_,_,e,_⟩:=x; exact ⟨_,e⟩
 | set S n=>obtain ⟨o,_,_,_,e,_⟩:=x; exact ⟨_,e⟩
 | ins C dx fs=>obtain ⟨_,_,_,e,_⟩:=x; exact ⟨_,e⟩
 | own y=>exact x
 | xd fs=>obtain ⟨_,⟨o,_,_,e,_⟩,_⟩:=x; exact ⟨_,e⟩
 | met f y=>exact ⟨_,x⟩
 | rng lo hi=>obtain ⟨_,_,_,e⟩:=x; exact ⟨_,e⟩
 | frz o u=>exact ⟨_,x.1⟩
 | tbl ps=>exact ⟨_,x⟩
 | ext φ=>exact x.2.1
noncomputable def CXe (P:Program) (w:World) (cl:Nat->Addr):CXT:=λouter H s E e s'=>∃ a c H',∃ old:Addr->Prop,e=.ref a/\s'.os=s.os/\AllBare s'.gens/\Un (frs outer) [] H H' s.heap s'.heap/\HOk P w H' s'.heap/\Fly old a (cl c) .none s'.heap /\
 (∀ b o,s.heap.get? b=some o->old b)/\(∀ b o,H' b=some o->old b)/\E (.ref (cl c)) none H'
section
variable {P:Program} {w:World} {K:Frag} {mg:Str->Option Value} {base:Heap} {N:List Str} {qual:Str} {scope:Scope} {f:Addr} {cd:Value} {A:Around} {outer:List Env} {s0:Shared} {H0:Hp} {E:XK} {cl:Nat->Addr}
noncomputable abbrev cxE (P:Program) (w:World) (K:Frag) (mg:Str->Option Value) (base:Heap) (N:List Str) (qual:Str) (scope:Scope) (f:Addr) (cd:Value) (A:Around) (outer:List Env) (s0:Shared) (H0:Hp) (E:XK) (cl:Nat->Addr):Cx:=i0 (CXe P w cl) P w K mg base N qual scope f cd A outer s0 H0 E
theorem lW {pins:List (Addr × Obj)} {σ:L2.St} {H:Hp} {s:Shared} {c:Nat} (I:Inv (cxE P w K mg base N qual scope f cd A outer s0 H0 E cl) pins σ H s) (q:E (.ref (cl c)) none H) {h':Heap} {a:Addr} {us:List Value} (m:Heap.MadeExcOf s.heap h' a (.ref (cl c)) us) :
   (cxE P w K mg base N qual scope f cd A outer s0 H0 E cl).xe (.ref a) { s with heap:=h' }:=by
 obtain ⟨t,he,_,_⟩:=m.there
 have kp:∀ b o,s.heap.get? b=some o->h'.get? b=some o:=m.keeps
 refine lO (old:=λb=>∃ o,s.heap.get? b=some o) (base:=base) (s:={ s with heap:=h' }) I.ok.frames (I.stack.of_keeps λb o g _=>⟨o,kp b o g,rfl⟩) rfl he ⟨rfl,rfl⟩ rfl rfl rfl ⟨λ⟨o,z⟩=>(by rw [m.new] at z; cases z),λb ⟨o,z⟩=>⟨o,kp b o z⟩⟩ λh2 k y=>?_
 have k0:Kp (λb=>∃ o,s.heap.get? b=some o) (frs (cxE P w K mg base N qual scope f cd A outer s0 H0 E cl).stack) s.heap h2:=(Kp.of λb o _ z=>kp b o z).trans k
 refine ⟨a,c,H,_,rfl,I.os,I.bare,nq I.base k0 (λb o e=>I.base.there b o e (by intro z; exact absurd (show b ∈ ([]:List Addr) from z) (by simp))) (λb o e z=>?_),kh I.hok k0 λb o e=>⟨?_,λz=>?_⟩,y,λb o e=>I.base.there b o e (by intro z; exact absurd (show b ∈ ([]:List Addr) from z) (by simp)),λb o e=>?_,q⟩
 · rcases List.mem_cons.mp (I.i6 b z) with z | z
   · exact absurd (Heap.lt_size e) (by rw [z]; exact Nat.lt_irrefl _)
   · exact z
 · exact there (I.hok b o e)
 · rw [I.fK b z] at e; cases e
 · exact there (I.hok b o e)
theorem pU {Ex:Nat->Hp->Prop} (hE:∀ c H,Ex c H->E (.ref (cl c)) none H):Passes (CXe P w cl) (cxE P w K mg base N qual scope f cd A outer s0 H0 E cl) (λC _ H'=>∃ c,C=.ref (cl c)/\Ex c H'):=by
 intro pins σ H s e s' I ⟨a,c,H',old,he,os,bare,un,hok,y,o1,o2,c',ec,q⟩
 subst he
 have ec:cl c=cl c':=Value.ref.inj ec
 have I':Inv (cxE P w K mg base N qual scope f cd A outer s0 H0 E cl) pins σ H' s':=I.jE os un hok bare λb z=>absurd z (by simp)
 have oth:∀ b o,s0.heap.get? b=some o->old b:=λb o e=>by
   obtain ⟨u,g⟩:=I.base.there b o e (by intro z; exact absurd (show b ∈ ([]:List Addr) from z) (by simp))
   exact o1 b u g
 refine mH (base:=base) I'.ok.frames I'.stack rfl y λh2 k y2=>?_
 refine ⟨a,c',H',old,rfl,I'.os,I'.bare,nq I'.base k oth (λb o e z=>?_),kh I'.hok k λb o e=>⟨o2 b o e,λz=>?_⟩,by rw [<- ec]; exact y2,oth,o2,hE c' H' q⟩
 · rcases List.mem_cons.mp (I'.i6 b z) with z | z
   · exact absurd (Heap.lt_size e) (by rw [z]; exact Nat.lt_irrefl _)
   · exact z
 · have:=I'.fK b z
   rw [this] at e; cases e
end
noncomputable abbrev XH (X:Cx) (a:Addr):Cx:={ X with A:=X.A.mark (some (.ref a)),calm:=false,xe:=λ_ _=>False }
section
variable {X:Cx} {pins:List (Addr × Obj)} {σ:L2.St} {H:Hp} {s:Shared} {a:Addr}
theorem tw (ok:X.Ok):(XH X a).Ok:=⟨ok.mod,ok.kind,ok.glob,ok.blt,ok.above,ok.inj,ok.has,ok.cab,(λz=>nomatch z),ok.frames,ok.stk,ok.exf,ok.bs,ok.bsz,ok.noex,ok.exfs,ok.gp,ok.frf⟩
theorem lz (I:Inv X pins σ H s):Inv (XH X a) pins σ H s:=⟨tw I.ok,I.os,I.bare,I.base,I.loc,I.cell,I.free,I.freeC,I.pin,I.hok,I.len⟩
theorem mF (ok:X.Ok) (I:Inv (XH X a) pins σ H s):Inv X pins σ H s:=⟨ok,I.os,I.bare,I.base,I.loc,I.cell,I.free,I.freeC,I.pin,I.hok,I.len⟩
noncomputable abbrev XP (X:Cx) (pins:List (Addr × Obj)) (E:Value->Shared->Prop):Cx:={ X with pn:=X.pn++pins,xe:=E }
theorem xg {E:Value->Shared->Prop} (ok:X.Ok):(XP X pins E).Ok:=⟨ok.mod,ok.kind,ok.glob,ok.blt,ok.above,ok.inj,ok.has,ok.cab,ok.hd,ok.frames,ok.stk,ok.exf,ok.bs,ok.bsz,ok.noex,ok.exfs,ok.gp,ok.frf⟩
theorem uT {E:Value->Shared->Prop} (I:Inv X pins σ H s):Inv (XP X pins E) [] σ H s:=⟨xg I.ok,I.os,I.bare,I.base,I.loc,I.cell,I.free,I.freeC,λp hp=>I.pin p (by simpa using hp),I.hok,I.len⟩
theorem d9 {E:Value->Shared->Prop} {pl:List (Addr × Obj)} (ok:X.Ok) (I:Inv (XP X pins E) pl σ H s):Inv X pins σ H s:=⟨ok,I.os,I.bare,I.base,I.loc,I.cell,I.free,I.freeC,λp hp=>I.pin p (List.mem_append_left _ hp),I.hok,I.len⟩
theorem tU {E:Value->Shared->Prop} {D:Ends} {f:Flow} (ok:X.Ok) (h:SP (XP X pins E) [] D f s):SP X pins D f s:=by
 cases f with
 | next=>obtain ⟨σ',H',I,q⟩:=h; exact ⟨σ',H',d9 ok I,q⟩
 | brk=>obtain ⟨σ',H',I,q⟩:=h; exact ⟨σ',H',d9 ok I,q⟩
 | cont=>obtain ⟨σ',H',I,q⟩:=h; exact ⟨σ',H',d9 ok I,q⟩
 | ret u=>obtain ⟨v,σ',H',I,r,q⟩:=h; exact ⟨v,σ',H',d9 ok I,r,q⟩
theorem wA {E:Value->Shared->Prop} {M:Model} {A:Around} {i:Nat} {n:Str} {v:V} {Q:Unit->Shared->Prop} (I:Inv X pins σ H s) (hN:X.N.Nodup) (hi:X.N[i]?=some n) (hn:X.env.scope.names.lookup n=some .local) (hv:σ[i]?=some (some v))
   (k:∀ s',Inv X pins (σ.set i none) H s'->Q () s'):wpAny M A (unbindName X.env n) Q E s:=by
 obtain ⟨m,ns,look⟩:=id I.loc
 obtain ⟨u,_,lu⟩:=look i n v hi hv (.inl hn)
 have mu:m n=some u:=by
   rcases lu with z | ⟨z | z,_⟩
   · exact z.2
   · have z:X.env.scope.names.lookup n=some .cell:=z
     rw [hn] at z; cases z
   · have z:X.env.scope.names.lookup n=some .free:=z
     rw [hn] at z; cases z
 have hcls:(X.env.scope.kind == .class || (X.env.scope.kind == .module && X.env.locals != X.env.globals))=false:=by rw [I.ok.kind]; rfl
 refine wpAny_unbindName_local hn ns mu hcls λh' x ns' sb=>?_
 obtain ⟨oL,_,_,gL,_⟩:=id ns
 have far:∀ b o,X.s₀.heap.get? b=some o->h'.get? b=s.heap.get? b:=λb o e=>sb.2 b (Nat.ne_of_lt (Nat.lt_of_lt_of_le (Heap.lt_size e) I.ok.above))
 refine k { s with heap:=h' } ⟨I.ok,I.os,I.bare,⟨λb o e n0 nf nx=>(far b o e).trans (I.base.keep b o e n0 nf nx),λb o e n0 f nx=>?_,I.base.free,λb o e nx=>?_,I.base.tups,I.base.frzs,I.base.tbls⟩,⟨_,ns',λj y w e1 e2 e3=>?_⟩,λy c e=>?_,I.free,I.freeC,λp hp=>?_,λb ob e=>?_,by simpa using I.len⟩
 · obtain ⟨sl,z⟩:=I.base.slot b o e n0 f nx
   exact ⟨sl,(far b o e).trans z⟩
 · obtain ⟨o',z⟩:=I.base.there b o e nx
   exact ⟨o',(far b o e).trans z⟩
 · have hj:j ≠ i:=λz=>by
     subst z
     rw [List.getElem?_set_self (by rw [I.len]; exact (List.getElem?_eq_some_iff.mp hi).1)] at e2
     cases e2
   rw [List.getElem?_set_ne (Ne.symm hj)] at e2
   obtain ⟨u',r',q⟩:=look j y w e1 e2 e3
   refine ⟨u',r',?_⟩
   have ne:y ≠ n:=λe=>hj (iu hN e1 (e ▸ hi))
   rcases q with ⟨z,e⟩ | ⟨z,c,e,g⟩
   · exact .inl ⟨z,by simp [ne,e]⟩
   · exact .inr ⟨z,c,e,g.sameBut sb (I.cne y c e)⟩
 · obtain ⟨w,z⟩:=I.cell y c e
   exact ⟨w,z.sameBut sb (I.cne y c e)⟩
 · obtain ⟨e,n0,ne,nf,d⟩:=I.pin p hp
   exact ⟨(sb.2 p.1 ne).trans e,n0,ne,nf,d⟩
 · refine (I.hok b ob e).dR (λc w hc q=>(sb.2 c ?_).trans q) (λ_ q=>q) λ_ _ q=>q
   rcases hc with rfl | hc
   · exact ay e I.free
   · exact ay hc I.free
end
noncomputable def qN (o:Obj) (C:Addr):Prop:=(o.cls=.ref C/\o.dict=none)/\∃ vs,o.data=.fields vs/\vs[2]?=some .none
noncomputable abbrev pg (o:Obj):HO:=.frz o (.ext λ_=>True)
section
variable {X:Cx} {cl:Nat->Addr} {ks:List Nat} {n sm:Str} {i:Nat} {S:Addr} {ret:Expr} {psm pr ph pos:Pos} {body:List Stmt} {tb:(Nat->Hp->Prop)->TS} {tr:Addr->Obj->TE}
noncomputable def ExH (ks:List Nat) (cl:Nat->Addr) (i:Nat) (tr:Addr->Obj->TE) (D:Ends):Nat->Hp->Prop:=λc H=>c ∈ ks/\∀ (σ:L2.St) a o,i < σ.length->H a=none->qN o (cl c)->tr a o (σ.set i (some (.ref a))) (upd H a (pg o)) D.rt
theorem v8 (hst:X.stack=X.env :: X.outer/\X.env.frame=some X.env.locals) (nd:X.N.Nodup) (hi:X.N[i]?=some n) (hn:X.env.scope.names.lookup n=some .local) (hgS:Gl X sm) (hmS:X.mg sm=some (.ref S)) (hdb:(sm == ("__debug__" : Str))=false)
   (hx:∀ c ∈ ks,exmOne X.K (.ref (cl c)) (.ref S)=some true) (hr:∀ a o,PE (XH X a) ret (tr a o)) {pins:List (Addr × Obj)} {σ:L2.St} {H:Hp} {s s':Shared} {e:Value} {D:Ends} (I:Inv X pins σ H s)
   (h:CXe X.prog X.w cl X.stack H s (λC _ H'=>∃ c,C=.ref (cl c)/\ExH ks cl i tr D c H') e s') :
   wpAny (model X.prog X.w) X.A (noteFrame e X.env) (λ_ s2=>wpAny (model X.prog X.w) X.A (setFlight e none) (λ_ s3=>wpAny (model X.prog X.w) X.A (handleBy e X.env [.ExceptHandler (some (.Name sm psm)) (some n) [.Return (some ret) pr] ph]) (SP X pins D) X.xe s3) X.xe s2) X.xe s':=by
 obtain ⟨a,c0,H2,old,rfl,os,bare,un,hok,y,o1,o2,c,ec,hc,q⟩:=h
 have ec:cl c0=cl c:=Value.ref.inj ec
 rw [ec] at y
 have I':Inv X pins σ H2 s':=I.jE os un hok bare λb z=>absurd z (by simp)
 have fr:X.A.frames=some (X.env :: X.outer):=by rw [<- hst.1]; exact I.ok.frames
 have ff:s'.heap.FunFrames X.base (X.env :: X.outer):=by rw [<- hst.1]; exact I'.stack
 have efs:(X.env :: X.outer).filterMap (·.frame)=frs X.stack:=by rw [hst.1]; rfl
 have tk:∀ b o,H2 b=some o->old b/\b ∉ frs X.stack:=λb o e=>⟨o2 b o e,λz=>by rw [I'.fK b z] at e; cases e⟩
 have na:s.heap.get? a=none:=by
   cases g:s.heap.get? a with
   | none=>rfl
   | some o=>exact absurd (o1 a o g) y.at.choose_spec.choose_spec.2.2.2.2
 have Ha:H2 a=none:=by
   cases g:H2 a with
   | none=>rfl
   | some o=>exact absurd (o2 a o g) y.at.choose_spec.choose_spec.2.2.2.2
 have at_:∀ {h4:Heap},Kp old (frs X.stack) s'.heap h4->Inv X pins σ H2 { s' with heap:=h4 }:=λ{h4} k=>I.jE (s':={ s' with heap:=h4 }) os (nq un k o1 λ_ _ _ z=>z) (kh hok k tk) bare λb z=>absurd z (by simp)
 refine jT fr ff hst.2 y λh3 k3 y3=>?_
 rw [efs] at k3
 refine land (s:={ s' with heap:=h3 }) (fs:=frs X.stack) y3 λh4 k4 y4=>?_
 have k4:=k3.trans k4
 have I4:=at_ k4
 have no:∀ {α:Type} {t:Sem α} {Q:α->Shared->Prop} {A:Around} {s:Shared} {E:Value->Shared->Prop},wpAny (model X.prog X.w) A t Q (λ_ _=>False) s->wpAny (model X.prog X.w) A t Q E s:=λh=>wpAny_mono h (λ_ _ q=>q) λ_ _ q=>q.elim
 refine wpAny_handleBy_cons (codeAny_handlers_test (no (fB (X:=XH X a) (lz I4) hgS hmS ?_ hdb))) (by intro z; cases z)
 obtain ⟨oe,vs,ge,hce,hde,h2e,_⟩:=y4.at
 have LT:Looks (model X.prog X.w) h4 (typeOf (.ref a)) (.ref (cl c)):=hce.1 ▸ (Looks.ld ge).andThen .now
 refine (exm_one I4.kIn LT (hx c hc)).here ?_
 refine codeAny_handlers_suite_as (land (s:={ s' with heap:=h4 }) (fs:=frs X.stack) y4 λh5 k5 y5=>?_)
 obtain ⟨o5,vs5,g5,hc5,hd5,h25,_⟩:=y5.at
 have k5:=k4.trans k5
 have I5:Inv X pins σ (upd H2 a (pg o5)) { s' with heap:=h5 }:=I.jE (s':={ s' with heap:=h5 }) os (v7 (nq un k5 o1 λ_ _ _ z=>z) na Ha) (sr (kh hok k5 tk) Ha g5) bare λb z=>absurd z (by simp)
 refine fR (X:=XH X a) (lz I5) nd hi (.inl hn) (v:=.ref a) rfl (λs6 I6=>?_) (.inr hn)
 refine no (thn (tj (j0 (hr a o5)) pins s6 _ _ { nx:=λ_ _=>False,rt:=D.rt } I6 (q σ a o5 (by rw [I.len]; exact (List.getElem?_eq_some_iff.mp hi).1) Ha ⟨hc5,vs5,hd5,h25⟩)) λf s7 q7=>?_)
 cases f with
 | next=>obtain ⟨_,_,_,z⟩:=q7; exact z.elim
 | brk=>obtain ⟨_,_,_,z⟩:=q7; exact z.elim
 | cont=>obtain ⟨_,_,_,z⟩:=q7; exact z.elim
 | ret u=>
   obtain ⟨v,σ7,H7,I7,r7,z7⟩:=q7
   have I7:=mF I.ok I7
   refine wpAny_bind (wpAny_bindName (fR I7 nd hi (.inl hn) (v:=.non) rfl (λs8 I8=>?_) (.inr hn)))
   unfold unbindBehindTheSuite
   refine wpAny_onRaise (wA I8 nd hi hn (v:=.non) (List.getElem?_set_self (by rw [I7.len]; exact (List.getElem?_eq_some_iff.mp hi).1)) λs9 I9=>?_)
   exact ⟨v,_,H7,I9,r7,z7⟩
theorem qr (hst:X.stack=X.env :: X.outer/\X.env.frame=some X.env.locals) (nd:X.N.Nodup) (hi:X.N[i]?=some n) (hn:X.env.scope.names.lookup n=some .local) (hgS:Gl X sm) (hmS:X.mg sm=some (.ref S)) (hdb:(sm == ("__debug__" : Str))=false)
   (hx:∀ c ∈ ks,exmOne X.K (.ref (cl c)) (.ref S)=some true) (hr:∀ a o,PE (XH X a) ret (tr a o))
   (hb:∀ (Ex:Nat->Hp->Prop) (pins:List (Addr × Obj)) (E:Value->Shared->Prop),Passes (CXe X.prog X.w cl) (XP X pins E) (λC _ H'=>∃ c,C=.ref (cl c)/\Ex c H')->PSs (XP X pins E) body (tb Ex)) :
   PS X (.Try body [.ExceptHandler (some (.Name sm psm)) (some n) [.Return (some ret) pr] ph] [] [] pos) (λD σ H=>tb (ExH ks cl i tr D) D σ H):=by
 intro pins s σ H D I h
 refine wpAny_Try_except ?_
 refine wpAny_mono (hb (ExH ks cl i tr D) pins (λe s1=>wpAny (model X.prog X.w) X.A (noteFrame e X.env) (λ_ s2=>wpAny (model X.prog X.w) X.A (setFlight e none) (λ_ s3=>wpAny (model X.prog X.w) X.A (handleBy e X.env [.ExceptHandler (some (.Name sm psm)) (some n) [.Return (some ret) pr] ph]) (SP X pins D) X.xe s3) X.xe s2) X.xe s1)
   (λpl σ1 H1 s1 e s2 I1 z=>v8 hst nd hi hn hgS hmS hdb hx hr (d9 I.ok I1) z) [] s σ H D (uT I) h) (λf s1 q=>?_) λ_ _ z=>z
 have q:=tU I.ok q
 cases f with
 | next=>exact wpAny_execs_nil q
 | _=>exact q
end
end Hx
namespace Ev
open PySem PySem.Spec PyProof.Rows L2
structure Bx where
 p:PySem.W.Frag->Hp->Addr->Prop
 mono:∀ {K:PySem.W.Frag} {H H':Hp} {a:Addr},aj H H'->p K H a->p K H' a
 isd:∀ {K:PySem.W.Frag} {H:Hp} {a:Addr},p K H a->∃ o:HO,H a=some o/\∀ (P:Program) (w:World) (H':Hp) (h:Heap),bJ P w H' h a o->∃ ob,h.get? a=some ob/\ob.cls=.type "dict"
inductive D where
 | non | bl (b:Bool) | int (i:Int) | str (x:Str) | tup (xs:List D) | lst (xs:List D) | box (x:Bx)
noncomputable instance:Inhabited D:=⟨.non⟩
mutual
inductive Den (K:PySem.W.Frag) (H:Hp):V->D->Prop where
 | non:Den K H .non .non
 | bl {b:Bool}:Den K H (.bl b) (.bl b)
 | int {i:Int}:Den K H (.int i) (.int i)
 | str {x:Str}:Den K H (.str x) (.str x)
 | tup {a:Addr} {vs:List V} {ds:List D} (h:SqT K H a vs) (r:ar K H vs ds):Den K H (.ref a) (.tup ds)
 | lst {a:Addr} {vs:List V} {ds:List D} (h:SqL K H a vs) (r:ar K H vs ds):Den K H (.ref a) (.lst ds)
 | box {a:Addr} {x:Bx} (h:x.p K H a):Den K H (.ref a) (.box x)
inductive ar (K:PySem.W.Frag) (H:Hp):List V->List D->Prop where
 | nil:ar K H [] []
 | cons {v:V} {d:D} {vs:List V} {ds:List D} (h:Den K H v d) (r:ar K H vs ds):ar K H (v :: vs) (d :: ds)
end
section
variable {K:PySem.W.Frag} {H H':Hp}
theorem a7 (e:aj H H') {a:Addr} {xs:List V} (h:SqT K H a xs):SqT K H' a xs:=by
 rcases h with (h | ⟨o,h⟩) | h
 · exact .inl (.inl (e _ _ h))
 · exact .inl (.inr ⟨o,e _ _ h⟩)
 · exact .inr h
theorem aL (e:aj H H') {a:Addr} {xs:List V} (h:SqL K H a xs):SqL K H' a xs:=e.seq h
mutual
theorem Den.mono (e:aj H H'):∀ {v:V} {d:D},Den K H v d->Den K H' v d
 | _,_,.non=>.non
 | _,_,.bl=>.bl
 | _,_,.int=>.int
 | _,_,.str=>.str
 | _,_,.tup h r=>.tup (a7 e h) (ar.mono e r)
 | _,_,.lst h r=>.lst (aL e h) (ar.mono e r)
 | _,_,.box (x:=x) h=>.box (x.mono e h)
theorem ar.mono (e:aj H H'):∀ {vs:List V} {ds:List D},ar K H vs ds->ar K H' vs ds
 | _,_,.nil=>.nil
 | _,_,.cons h r=>.cons (Den.mono e h) (ar.mono e r)
end
theorem ar.length:∀ {vs:List V} {ds:List D},ar K H vs ds->vs.length=ds.length
 | _,_,.nil=>rfl
 | _,_,.cons _ r=>congrArg (· + 1) r.length
theorem ar.get:∀ {vs:List V} {ds:List D} {i:Nat} {d:D},ar K H vs ds->ds[i]?=some d->∃ v,vs[i]?=some v/\Den K H v d
 | _,_,_,_,.nil,e=>by simp at e
 | _,_,0,_,.cons h _,e=>by simp at e; subst e; exact ⟨_,rfl,h⟩
 | _,_,i + 1,d,.cons _ r,e=>by
   obtain ⟨v,h1,h2⟩:=ar.get (i:=i) (d:=d) r (by simpa using e)
   exact ⟨v,by simpa using h1,h2⟩
theorem ar.append:∀ {xs ys:List V} {ds es:List D},ar K H xs ds->ar K H ys es->ar K H (xs++ys) (ds++es)
 | _,_,_,_,.nil,s=>s
 | _,_,_,_,.cons h r,s=>.cons h (ar.append r s)
theorem ar.take:∀ {xs:List V} {ds:List D} (n:Nat),ar K H xs ds->ar K H (xs.take n) (ds.take n)
 | _,_,0,_=>.nil
 | _,_,_ + 1,.nil=>.nil
 | _,_,n + 1,.cons h r=>.cons h (ar.take n r)
theorem ar.drop:∀ {xs:List V} {ds:List D} (n:Nat),ar K H xs ds->ar K H (xs.drop n) (ds.drop n)
 | _,_,0,r=>r
 | _,_,_ + 1,.nil=>.nil
 | _,_,n + 1,.cons _ r=>ar.drop n r
end
noncomputable def aN (i j:Int):Prop:=i.natAbs.log2 < 64\/j.natAbs.log2 < 64\/(i.natAbs.log2 < 1000000/\j.natAbs.log2 < 1000000)
noncomputable def aK (j:Int):Prop:=j ≠ 0/\j.natAbs.log2 < 9000
theorem aq {H:Hp} {p:Addr} (h:H p=none) (o:HO):aj H (upd H p o):=λb u q=>by rw [aB (ay q h)]; exact q
noncomputable def Ite (K:PySem.W.Frag) (a:Addr):L2.It:=
 ⟨λi H=>∃ xs x,SqL K H a xs/\xs[i]?=some x,λi H v H'=>∃ p x,H p=none/\v=.ref p/\H'=upd H p (.tup [.int (i:Nat),x])/\∀ xs,SqL K H a xs->xs[i]?=some x,λi H=>∃ xs,SqL K H a xs/\xs.length<=i⟩
theorem pb {P:Program} {w:World} {K:PySem.W.Frag} {ts:List Expr} {q:Nat} {tp:Pos} (a e it:Addr) (hne:e ≠ it) :
   Turn P w K false (.Tuple ts q tp) (Ite K a) [e,it] e (λi h=>(∃ old,IsEnum h e it (i:Nat) old)/\h.IsListIter it a i) where
 mem:=by simp
 obj:=λi h st b hb=>by
   obtain ⟨⟨old,h1⟩,o,h2,h3,h4⟩:=st
   rcases List.mem_cons.mp hb with rfl | hb
   · exact ⟨_,h1,λv z=>nomatch z⟩
   · have z:b=it:=by simpa using hb
     subst z
     exact ⟨o,h2,λv z=>by rw [h4] at z; cases z⟩
 keep:=λi h h' st k=>by
   obtain ⟨⟨old,h1⟩,o,h2,h3,h4⟩:=st
   exact ⟨⟨old,k e (by simp) _ h1⟩,o,k it (by simp) o h2,h3,h4⟩
 item:=by
   intro X hP hw hK hc i pins s σ H E I hf st hg
   subst hP hw hK
   obtain ⟨xs,x,hq,hx⟩:=hg
   obtain ⟨its,rv,p,hz⟩:=I.list hq
   obtain ⟨u,hu,ru⟩:=rv.get hx
   obtain ⟨⟨old,h1⟩,h2⟩:=st
   have fe:=hf e (by simp)
   have fi:=hf it (by simp)
   refine wpAny_pyNext_enum_item h1 h2 p.isList (x:=u) (by simpa using hu) hne λh' g1 g2 g3 g4 g5=>⟨_,rfl,?_⟩
   refine wpAny_letOwnedTupleGo_enum (s:={ s with heap:=h',toks:=s.toks + 1 }) g1 λh2' k1 k2=>?_
   have hn:H s.heap.objs.size=none:=I.hok.fresh (Nat.le_refl _)
   have le1:e < s.heap.objs.size:=Heap.lt_size h1
   have le2:it < s.heap.objs.size:=by obtain ⟨o,z,_⟩:=h2; exact Heap.lt_size z
   have kp:∀ b o,b ≠ e->b ≠ it->s.heap.get? b=some o->h2'.get? b=some o:=λb o b1 b2 z=>(k2.2 b b1).trans (g5 b o b1 b2 z)
   have nt:h2'.get? s.heap.objs.size=some { cls:=.type "tuple",data:=.seq #[.int (i:Nat) s.toks,u] }:=(k2.2 _ (Nat.ne_of_gt le1)).trans g3
   have ne1:∀ b v,H b=some v->b ≠ e:=λb v z q=>by rw [q,fe.1] at z; cases z
   have ne2:∀ b v,H b=some v->b ≠ it:=λb v z q=>by rw [q,fi.1] at z; cases z
   have hok0:HOk X.prog X.w H h2':=λb v z=>(I.hok b v z).dR (λc v' hc' q=>kp c v' (by
       rcases hc' with hc' | hc'
       · rw [hc']; exact ne1 b v z
       · exact ne1 c _ hc') (by
       rcases hc' with hc' | hc'
       · rw [hc']; exact ne2 b v z
       · exact ne2 c _ hc') q) (λ_ q=>q) λ_ _ q=>q
   have hok1:HOk X.prog X.w (upd H s.heap.objs.size (.tup [.int (i:Nat),x])) h2':=λb v z=>by
     by_cases hb:b=s.heap.objs.size
     · subst hb
       rw [aX] at z; cases z
       exact ⟨(by show 2<=sizeLine; decide),[.int (i:Nat) s.toks,u],.cons ⟨_,rfl⟩ (.cons ru .nil),_,nt,rfl,_,rfl⟩
     · rw [aB hb] at z
       exact (hok0 b v z).dR (λc v' _ q=>q) (λc q=>by rw [aB (ay q hn)]; exact q) λc ys q=>by rw [aB (ay q hn)]; exact q
   have I1:Inv X pins σ (upd H s.heap.objs.size (.tup [.int (i:Nat),x])) { s with heap:=h2',toks:=s.toks + 1 }:=by
     refine I.step (g':=s.gens) (d':=s.drawn) (ch:=[e,it]) (λb hb=>?_) (λb o _ _ hc' z _=>kp b o (λq=>hc' (by simp [q])) (λq=>hc' (by simp [q])) z)
       (λb o _ _ hc' z _=>⟨o.slots,kp b o (λq=>hc' (by simp [q])) (λq=>hc' (by simp [q])) z⟩)
       (λb o hc' z n=>by rw [aB (Nat.ne_of_lt (Heap.lt_size z))]; exact n) (λb o hc' z=>⟨o,kp b o (λq=>hc' (by simp [q])) (λq=>hc' (by simp [q])) z⟩)
       (λb ys z=>by rw [aB (ay z hn)]; exact z) (λb o u z=>by rw [aB (ay z hn)]; exact z) (λb ps z=>⟨#[],by rw [aB (ay z hn),z]; simp⟩) (λm hm=>?_) hok1 I.bare
     · rcases List.mem_cons.mp hb with rfl | hb
       · exact ⟨fe.2.2.2.1,fe.2.1,fe.2.2.2.2.1,fe.2.2.2.2.2⟩
       · have z:b=it:=by simpa using hb
         subst z
         exact ⟨fi.2.2.2.1,fi.2.1,fi.2.2.2.2.1,fi.2.2.2.2.2⟩
     · obtain ⟨o,es,ep,ho,r⟩:=hm
       exact ⟨o,es,ep,kp _ o (Ne.symm fe.2.1) (Ne.symm fi.2.1) ho,r⟩
   refine ⟨.ref s.heap.objs.size,_,I1,rfl,⟨s.heap.objs.size,x,hn,rfl,rfl,λys hy=>by rw [I.eG hy hq]; exact hx⟩,⟨⟨_,k1⟩,?_⟩,λb hb=>?_⟩
   · obtain ⟨o,z1,z2,z3⟩:=g2
     exact ⟨o,(k2.2 it (Ne.symm hne)).trans z1,z2,z3⟩
   · rcases List.mem_cons.mp hb with rfl | hb
     · rw [aB (Nat.ne_of_lt le1)]; exact fe.1
     · have z:b=it:=by simpa using hb
       subst z
       rw [aB (Nat.ne_of_lt le2)]; exact fi.1
 done:=by
   intro X hP hw hK hc i pins s σ H E I hf st hg
   subst hP hw hK
   obtain ⟨xs,hq,hx⟩:=hg
   obtain ⟨its,rv,p,hz⟩:=I.list hq
   obtain ⟨⟨old,h1⟩,h2⟩:=st
   obtain ⟨f0,f1,f2,f3,f4,f5⟩:=hf it (by simp)
   have hl:=rv.length
   exact wpAny_pyNext_enum_end (I.ok.hd hc.calm) h1 h2 p.isList (by simp; omega) λh' eb=>⟨rfl,I.turned (t':=s.toks) (λb o hb z=>eb b o hb z) f0 f1 f3 f4 f5⟩
 self:=λ_ _ _ _ _ st h=>by
   obtain ⟨⟨old,h1⟩,_⟩:=st
   exact wpAny_pyIter_enum h1 h
section
variable {X:Cx}
noncomputable def wV (K:PySem.W.Frag) (ta:TA):TI:=λσ H R=>ta σ H λvs H1=>∃ a,vs=[.ref a]/\(∃ xs,SqL K H1 a xs)/\R (Ite K a) H1
theorem px:bootBuiltins "enumerate" = some (.type "enumerate"):=by decide +kernel
theorem nH {ts:List Expr} {q:Nat} {tp:Pos} {a:Expr} {ta:TA} {p pos:Pos} (hc:X.calm=true) (hg:Gl X "enumerate") (hm:X.mg "enumerate" = none) (ha:PA X [a] ta) (hs:starEach [a] X.env=[(false,eval a X.env)]) :
   PI X (.Tuple ts q tp) (.Call (.Name "enumerate" p) [a] [] pos) (wV X.K ta):=by
 intro pins s σ H R I h
 refine Call_ (cu I hg hm px (PyProof.Rows.callWith_type1 (thn (ha pos pins s σ H _ I h) λus s1 ⟨vs,H1,I1,r1,q1⟩=>?_) hs rfl))
 obtain ⟨l,e,⟨xs,hq⟩,q⟩:=q1
 subst e
 obtain ⟨u,rfl,ru⟩:=vals1 r1
 cases ru
 obtain ⟨its,rv,pl,hz⟩:=I1.list hq
 refine call_enumerate_list pl.isList λh' g1 g2 g3 g4=>?_
 refine wpAny_pyIter_enum (s:={ s1 with heap:=h' }) g1 ?_
 have I2:Inv X pins σ H1 { s1 with heap:=h' }:=I1.kept (t':=s1.toks) g4
 have n1:H1 (s1.heap.objs.size + 1)=none:=I1.hok.fresh (by omega)
 have n2:H1 s1.heap.objs.size=none:=I1.hok.fresh (Nat.le_refl _)
 refine ⟨false,s1.heap.objs.size + 1,[s1.heap.objs.size + 1,s1.heap.objs.size],_,_,H1,rfl,I2,.inl hc,pb l (s1.heap.objs.size + 1) s1.heap.objs.size (Nat.succ_ne_self _),⟨⟨_,g1⟩,g2⟩,λb hb=>?_,q⟩
 rcases List.mem_cons.mp hb with rfl | hb
 · exact I1.jg (by omega) n1
 · have z:b=s1.heap.objs.size:=by simpa using hb
   subst z
   exact I1.jg (Nat.le_refl _) n2
end
noncomputable def Itz (K:PySem.W.Frag) (a b:Addr):L2.It:=
 ⟨λi H=>∃ xs ys x y,SqL K H a xs/\SqL K H b ys/\xs[i]?=some x/\ys[i]?=some y,
  λi H v H'=>∃ p x y,H p=none/\v=.ref p/\H'=upd H p (.tup [x,y])/\(∀ xs,SqL K H a xs->xs[i]?=some x)/\∀ ys,SqL K H b ys->ys[i]?=some y,
  λi H=>∃ xs ys,SqL K H a xs/\SqL K H b ys/\(xs.length<=i\/ys.length<=i)⟩
noncomputable def zSt (a b z TI TO i1 i2:Addr) (i:Nat) (h:Heap):Prop:=
 IsZip h z TI TO .none/\IsPair h TI (.ref i1) (.ref i2)/\(∃ u v,IsPair h TO u v)/\h.IsListIter i1 a i/\h.IsListIter i2 b i
theorem jv {h:Heap} {a b z TI TO i1 i2:Addr} {i:Nat} {xs ys:Array Value} (n:TI ≠ TO) (m:i1 ≠ i2) (s:zSt a b z TI TO i1 i2 i h) (l1:h.IsList a xs) (l2:h.IsList b ys):ZipApart z TI TO i1 i2 a b:=by
 obtain ⟨h1,h2,⟨u,v,h3⟩,⟨o4,h4,c4,d4⟩,⟨o5,h5,c5,d5⟩⟩:=s
 obtain ⟨o6,h6,c6,n6,d6⟩:=l1
 obtain ⟨o7,h7,c7,n7,d7⟩:=l2
 have kk:∀ {x y:Addr} {o p:Obj},h.get? x=some o->h.get? y=some p->o.cls ≠ p.cls->x ≠ y:=λe1 e2 c q=>by subst q; rw [e1] at e2; cases e2; exact c rfl
 have cz:∀ {s t:String},s ≠ t->Value.type s ≠ Value.type t:=λn q=>n (by cases q; rfl)
 refine ⟨kk h2 h1 (cz (by decide)),kk h3 h1 (cz (by decide)),kk h4 h1 ?_,kk h5 h1 ?_,n,kk h2 h4 ?_,kk h2 h5 ?_,kk h3 h4 ?_,kk h3 h5 ?_,m,kk h6 h1 ?_,kk h6 h3 ?_,kk h6 h4 ?_,kk h6 h5 ?_,kk h7 h1 ?_,kk h7 h3 ?_,kk h7 h4 ?_,kk h7 h5 ?_⟩
 all_goals first | (rw [c4]; exact cz (by decide)) | (rw [c5]; exact cz (by decide)) | (rw [c6]; exact cz (by decide)) | (rw [c7]; exact cz (by decide)) | (rw [c6,c4]; exact cz (by decide)) | (rw [c6,c5]; exact cz (by decide)) | (rw [c7,c4]; exact cz (by decide)) | (rw [c7,c5]; exact cz (by decide))
theorem r6 {P:Program} {w:World} {K:PySem.W.Frag} {ts:List Expr} {q:Nat} {tp:Pos} (a b z TI TO i1 i2:Addr) (nT:TI ≠ TO) (nI:i1 ≠ i2) :
   Turn P w K false (.Tuple ts q tp) (Itz K a b) [z,TI,TO,i1,i2] z (zSt a b z TI TO i1 i2) where
 mem:=by simp
 obj:=λi h st c hb=>by
   obtain ⟨h1,h2,⟨u,v,h3⟩,⟨o4,h4,c4,d4⟩,⟨o5,h5,c5,d5⟩⟩:=st
   simp only [List.mem_cons,List.not_mem_nil,or_false] at hb
   rcases hb with rfl | rfl | rfl | rfl | rfl
   · exact ⟨_,h1,λv z=>nomatch z⟩
   · exact ⟨_,h2,λv z=>nomatch z⟩
   · exact ⟨_,h3,λv z=>nomatch z⟩
   · exact ⟨_,h4,λv z=>by rw [d4] at z; cases z⟩
   · exact ⟨_,h5,λv z=>by rw [d5] at z; cases z⟩
 keep:=λi h h' st k=>by
   obtain ⟨h1,h2,⟨u,v,h3⟩,⟨o4,h4,c4,d4⟩,⟨o5,h5,c5,d5⟩⟩:=st
   exact ⟨k z (by simp) _ h1,k TI (by simp) _ h2,⟨u,v,k TO (by simp) _ h3⟩,⟨o4,k i1 (by simp) _ h4,c4,d4⟩,⟨o5,k i2 (by simp) _ h5,c5,d5⟩⟩
 item:=by
   intro X hP hw hK hc i pins s σ H E I hf st hg
   subst hP hw hK
   obtain ⟨xs,ys,x,y,hq1,hq2,hx,hy⟩:=hg
   obtain ⟨its1,rv1,p1,hz1⟩:=I.list hq1
   obtain ⟨its2,rv2,p2,hz2⟩:=I.list hq2
   obtain ⟨u1,hu1,ru1⟩:=rv1.get hx
   obtain ⟨u2,hu2,ru2⟩:=rv2.get hy
   have D:=jv nT nI st p1.isList p2.isList
   obtain ⟨h1,h2,⟨u,v,h3⟩,h4,h5⟩:=st
   refine wpAny_pyNext_zip_item D h1 h2 h3 h4 h5 p1.isList p2.isList (x:=u1) (y:=u2) (by simpa using hu1) (by simpa using hu2) λh' g1 g2 g3 g4 g5 g6 g7=>⟨_,rfl,?_⟩
   refine wpAny_letOwnedTupleGo_zip (s:={ s with heap:=h' }) g1 λh2' k1 k2=>?_
   have hn:H s.heap.objs.size=none:=I.hok.fresh (Nat.le_refl _)
   have le1:z < s.heap.objs.size:=Heap.lt_size h1
   have lt2:TI < s.heap.objs.size:=Heap.lt_size h2
   have lt3:TO < s.heap.objs.size:=Heap.lt_size h3
   have lt4:i1 < s.heap.objs.size:=by obtain ⟨o,z,_⟩:=h4; exact Heap.lt_size z
   have lt5:i2 < s.heap.objs.size:=by obtain ⟨o,z,_⟩:=h5; exact Heap.lt_size z
   have kp:∀ c o,c ≠ z->c ≠ TO->c ≠ i1->c ≠ i2->s.heap.get? c=some o->h2'.get? c=some o:=λc o b1 b2 b3 b4 e=>(k2.2 c b1).trans (g7 c o b1 b2 b3 b4 e)
   have nt:IsPair h2' s.heap.objs.size u1 u2:=(k2.2 _ (Nat.ne_of_gt le1)).trans g5
   have ne:∀ c,c ∈ [z,TI,TO,i1,i2]->∀ d v,H d=some v->d ≠ c:=λc hc d v e q=>by
     have:=(hf c hc).1
     rw [q,this] at e; cases e
   have hok0:HOk X.prog X.w H h2':=λd v e=>(I.hok d v e).dR (λc v' hc' q=>kp c v'
       (by rcases hc' with hc' | hc'
           · rw [hc']; exact ne z (by simp) d v e
           · exact ne z (by simp) c _ hc')
       (by rcases hc' with hc' | hc'
           · rw [hc']; exact ne TO (by simp) d v e
           · exact ne TO (by simp) c _ hc')
       (by rcases hc' with hc' | hc'
           · rw [hc']; exact ne i1 (by simp) d v e
           · exact ne i1 (by simp) c _ hc')
       (by rcases hc' with hc' | hc'
           · rw [hc']; exact ne i2 (by simp) d v e
           · exact ne i2 (by simp) c _ hc') q) (λ_ q=>q) λ_ _ q=>q
   have hok1:HOk X.prog X.w (upd H s.heap.objs.size (.tup [x,y])) h2':=λd v e=>by
     by_cases hb:d=s.heap.objs.size
     · subst hb
       rw [aX] at e; cases e
       exact ⟨(by show 2<=sizeLine; decide),[u1,u2],.cons ru1 (.cons ru2 .nil),_,nt,rfl,_,rfl⟩
     · rw [aB hb] at e
       exact (hok0 d v e).dR (λc v' _ q=>q) (λc q=>by rw [aB (ay q hn)]; exact q) λc ys q=>by rw [aB (ay q hn)]; exact q
   have I1:Inv X pins σ (upd H s.heap.objs.size (.tup [x,y])) { s with heap:=h2' }:=by
     refine I.step (t':=s.toks) (g':=s.gens) (d':=s.drawn) (ch:=[z,TO,i1,i2]) (λc hb=>?_) (λc o _ _ hc' e _=>kp c o (λq=>hc' (by simp [q])) (λq=>hc' (by simp [q])) (λq=>hc' (by simp [q])) (λq=>hc' (by simp [q])) e)
       (λc o _ _ hc' e _=>⟨o.slots,kp c o (λq=>hc' (by simp [q])) (λq=>hc' (by simp [q])) (λq=>hc' (by simp [q])) (λq=>hc' (by simp [q])) e⟩)
       (λc o hc' e n=>by rw [aB (Nat.ne_of_lt (Heap.lt_size e))]; exact n) (λc o hc' e=>⟨o,kp c o (λq=>hc' (by simp [q])) (λq=>hc' (by simp [q])) (λq=>hc' (by simp [q])) (λq=>hc' (by simp [q])) e⟩)
       (λc ys e=>by rw [aB (ay e hn)]; exact e) (λc o u e=>by rw [aB (ay e hn)]; exact e) (λc ps e=>⟨#[],by rw [aB (ay e hn),e]; simp⟩) (λm hm=>?_) hok1 I.bare
     · have hb':c ∈ [z,TI,TO,i1,i2]:=by
         simp only [List.mem_cons,List.not_mem_nil,or_false] at hb ⊢
         rcases hb with h | h | h | h <;> simp [h]
       have fe:=hf c hb'
       exact ⟨fe.2.2.2.1,fe.2.1,fe.2.2.2.2.1,fe.2.2.2.2.2⟩
     · obtain ⟨o,es,ep,ho,r⟩:=hm
       exact ⟨o,es,ep,kp _ o (Ne.symm (hf z (by simp)).2.1) (Ne.symm (hf TO (by simp)).2.1) (Ne.symm (hf i1 (by simp)).2.1) (Ne.symm (hf i2 (by simp)).2.1) ho,r⟩
   refine ⟨.ref s.heap.objs.size,_,I1,rfl,⟨s.heap.objs.size,x,y,hn,rfl,rfl,λzs hy'=>by rw [I.eG hy' hq1]; exact hx,λzs hy'=>by rw [I.eG hy' hq2]; exact hy⟩,⟨k1,?_,⟨u1,u2,(k2.2 TO D.TOz).trans g2⟩,?_,?_⟩,λc hb=>?_⟩
   · exact kp TI _ D.TIz D.TITO D.TIi1 D.TIi2 h2
   · obtain ⟨o,z1,z2,z3⟩:=g3
     exact ⟨o,(k2.2 i1 D.i1z).trans z1,z2,z3⟩
   · obtain ⟨o,z1,z2,z3⟩:=g4
     exact ⟨o,(k2.2 i2 D.i2z).trans z1,z2,z3⟩
   · have fc:=(hf c hb).1
     have lt:c < s.heap.objs.size:=by
       simp only [List.mem_cons,List.not_mem_nil,or_false] at hb
       rcases hb with rfl | rfl | rfl | rfl | rfl <;> assumption
     rw [aB (Nat.ne_of_lt lt)]
     exact fc
 done:=by
   intro X hP hw hK hc i pins s σ H E I hf st hg
   subst hP hw hK
   obtain ⟨xs,ys,hq1,hq2,hx⟩:=hg
   obtain ⟨its1,rv1,p1,hz1⟩:=I.list hq1
   obtain ⟨its2,rv2,p2,hz2⟩:=I.list hq2
   have D:=jv nT nI st p1.isList p2.isList
   obtain ⟨h1,h2,⟨u,v,h3⟩,h4,h5⟩:=st
   have hl1:=rv1.length
   have hl2:=rv2.length
   refine wpAny_pyNext_zip_end (I.ok.hd hc.calm) D h1 h2 h3 h4 h5 p1.isList p2.isList (by
     rcases hx with hx | hx
     · left; simp; omega
     · right; simp; omega) λh' eb=>⟨rfl,?_⟩
   have ne:∀ c,c ∈ [z,TI,TO,i1,i2]->∀ d v,H d=some v->d ≠ c:=λc hc d v e q=>by
     have:=(hf c hc).1
     rw [q,this] at e; cases e
   have hok0:HOk X.prog X.w H h':=λd v e=>(I.hok d v e).dR (λc v' hc' q=>eb c v'
       (by rcases hc' with hc' | hc'
           · rw [hc']; exact ne z (by simp) d v e
           · exact ne z (by simp) c _ hc')
       (by rcases hc' with hc' | hc'
           · rw [hc']; exact ne TO (by simp) d v e
           · exact ne TO (by simp) c _ hc')
       (by rcases hc' with hc' | hc'
           · rw [hc']; exact ne i1 (by simp) d v e
           · exact ne i1 (by simp) c _ hc')
       (by rcases hc' with hc' | hc'
           · rw [hc']; exact ne i2 (by simp) d v e
           · exact ne i2 (by simp) c _ hc') q) (λ_ q=>q) λ_ _ q=>q
   refine I.step (t':=s.toks) (g':=s.gens) (d':=s.drawn) (ch:=[z,TO,i1,i2]) (λc hb=>?_) (λc o _ _ hc' e _=>eb c o (λq=>hc' (by simp [q])) (λq=>hc' (by simp [q])) (λq=>hc' (by simp [q])) (λq=>hc' (by simp [q])) e)
       (λc o _ _ hc' e _=>⟨o.slots,eb c o (λq=>hc' (by simp [q])) (λq=>hc' (by simp [q])) (λq=>hc' (by simp [q])) (λq=>hc' (by simp [q])) e⟩)
       (λc o hc' e n=>n) (λc o hc' e=>⟨o,eb c o (λq=>hc' (by simp [q])) (λq=>hc' (by simp [q])) (λq=>hc' (by simp [q])) (λq=>hc' (by simp [q])) e⟩)
       (λc ys e=>e) (λc o u e=>e) (λc ps e=>⟨#[],by rw [e]; simp⟩) (λm hm=>?_) hok0 I.bare
   · have hb':c ∈ [z,TI,TO,i1,i2]:=by
       simp only [List.mem_cons,List.not_mem_nil,or_false] at hb ⊢
       rcases hb with h | h | h | h <;> simp [h]
     have fe:=hf c hb'
     exact ⟨fe.2.2.2.1,fe.2.1,fe.2.2.2.2.1,fe.2.2.2.2.2⟩
   · obtain ⟨o,es,ep,ho,r⟩:=hm
     exact ⟨o,es,ep,eb _ o (Ne.symm (hf z (by simp)).2.1) (Ne.symm (hf TO (by simp)).2.1) (Ne.symm (hf i1 (by simp)).2.1) (Ne.symm (hf i2 (by simp)).2.1) ho,r⟩
 self:=λ_ _ _ _ _ st h=>wpAny_pyIter_zip st.1 h
section
variable {X:Cx}
noncomputable def uF (K:PySem.W.Frag) (ta:TA):TI:=λσ H R=>ta σ H λvs H1=>∃ a b,vs=[.ref a,.ref b]/\(∃ xs,SqL K H1 a xs)/\(∃ ys,SqL K H1 b ys)/\R (Itz K a b) H1
theorem mx {ts:List Expr} {q:Nat} {tp:Pos} {a b:Expr} {ta:TA} {p pos:Pos} (hc:X.calm=true) (hg:Gl X "zip") (hm:X.mg "zip" = none) (ha:PA X [a,b] ta) (hs:starEach [a,b] X.env=(false,eval a X.env) :: starEach [b] X.env) (hs2:starEach [b] X.env=[(false,eval b X.env)]) :
   PI X (.Tuple ts q tp) (.Call (.Name "zip" p) [a,b] [] pos) (uF X.K ta):=by
 intro pins s σ H R I h
 refine Call_ (cu I hg hm boot_zip (PyProof.Rows.callWith_type1 (thn (ha pos pins s σ H _ I h) λus s1 ⟨vs,H1,I1,r1,q1⟩=>?_) hs (by rw [hs2]; rfl)))
 obtain ⟨l,l',e,⟨xs,hq1⟩,⟨ys,hq2⟩,q⟩:=q1
 subst e
 obtain ⟨u,u',rfl,ru,ru'⟩:=vals2 r1
 cases ru
 cases ru'
 obtain ⟨its1,rv1,pl1,hz1⟩:=I1.list hq1
 obtain ⟨its2,rv2,pl2,hz2⟩:=I1.list hq2
 refine call_zip_2 pl1.isList pl2.isList λh' g1 g2 g3 g4 g5 g6 g7=>?_
 refine wpAny_pyIter_zip (s:={ s1 with heap:=h' }) g1 ?_
 have I2:Inv X pins σ H1 { s1 with heap:=h' }:=I1.kept (t':=s1.toks) g7
 have nn:∀ j,H1 (s1.heap.objs.size + j)=none:=λj=>I1.hok.fresh (by omega)
 refine ⟨false,s1.heap.objs.size + 4,[s1.heap.objs.size + 4,s1.heap.objs.size + 2,s1.heap.objs.size + 3,s1.heap.objs.size,s1.heap.objs.size + 1],_,_,H1,rfl,I2,.inl hc,r6 l l' (s1.heap.objs.size + 4) (s1.heap.objs.size + 2) (s1.heap.objs.size + 3) s1.heap.objs.size (s1.heap.objs.size + 1) (by simp) (Ne.symm (Nat.succ_ne_self _)),⟨g1,g2,⟨_,_,g3⟩,g4,g5⟩,λc hb=>?_,q⟩
 have hb':∃ j,c=s1.heap.objs.size + j:=by
   simp only [List.mem_cons,List.not_mem_nil,or_false] at hb
   rcases hb with h | h | h | h | h
   · exact ⟨_,h⟩
   · exact ⟨_,h⟩
   · exact ⟨_,h⟩
   · exact ⟨0,h⟩
   · exact ⟨_,h⟩
 obtain ⟨j,rfl⟩:=hb'
 exact I1.jg (Nat.le_add_right _ _) (nn j)
end
noncomputable def Itv (K:PySem.W.Frag) (a:Addr) (n:Nat):L2.It:=
 ⟨λi H=>i < n/\∃ xs x,SqL K H a xs/\xs[n - 1 - i]?=some x,λi H x H'=>H'=H/\∀ xs,SqL K H a xs->xs[n - 1 - i]?=some x,λi _=>n<=i⟩
theorem qk {P:Program} {w:World} {K:PySem.W.Frag} {tg:Expr} (a it:Addr) (n:Nat) :
   Turn P w K false tg (Itv K a n) [it] it (λi h=>i<=n/\h.IsRevIter it a ((n:Int) - 1 - (i:Int))) where
 mem:=by simp
 obj:=λi h st b hb=>by
   have e:b=it:=by simpa using hb
   subst e
   obtain ⟨o,e,c,d⟩:=st.2
   exact ⟨o,e,λv z=>by rw [d] at z; cases z⟩
 keep:=λi h h' st k=>⟨st.1,st.2.at λo e=>k it (by simp) o e⟩
 item:=by
   intro X hP hw hK hc i pins s σ H E I hf st hg
   subst hP hw hK
   obtain ⟨hi,xs,x,hq,hx⟩:=hg
   obtain ⟨its,rv,p,hz⟩:=I.list hq
   obtain ⟨u,hu,ru⟩:=rv.get hx
   obtain ⟨f0,f1,f2,f3,f4,f5⟩:=hf it (by simp)
   have st2:=st.2
   rw [show (n:Int) - 1 - (i:Int)=((n - 1 - i:Nat):Int) by omega] at st2
   refine wpAny_pyNext_rev_item st2 p.isList (x:=u) (by simpa using hu) λh' st' sb=>?_
   have I1:Inv X pins σ H { s with heap:=h' }:=I.turned (t':=s.toks) (λb o hb e=>(sb.2 b hb).trans e) f0 f1 f3 f4 f5
   obtain ⟨o,e,c,d⟩:=id st'
   refine ⟨u,rfl,jw (s:={ s with heap:=h' }) e c d (by decide) ⟨x,H,I1,ru,⟨rfl,λys hy=>by rw [I.eG hy hq]; exact hx⟩,⟨hi,?_⟩,λb hb=>(hf b hb).1⟩⟩
   rw [show (n:Int) - 1 - ((i + 1:Nat):Int)=((n - 1 - i:Nat):Int) - 1 by omega]
   exact st'
 done:=by
   intro X hP hw hK hc i pins s σ H E I hf st hg
   subst hP hw hK
   obtain ⟨f0,f1,f2,f3,f4,f5⟩:=hf it (by simp)
   have st2:=st.2
   have hg:n<=i:=hg
   rw [show (n:Int) - 1 - (i:Int)=-1 by have:=st.1; omega] at st2
   exact wpAny_pyNext_rev_end (I.ok.hd hc.calm) st2 λh' eb=>⟨rfl,I.turned (t':=s.toks) (λb o hb e=>eb b o hb e) f0 f1 f3 f4 f5⟩
 self:=λ_ _ _ _ _ st h=>wpAny_pyIter_revIter st.2 h
section
variable {X:Cx} {tg:Expr}
noncomputable def vK (K:PySem.W.Frag) (ta:TA):TI:=λσ H R=>ta σ H λvs H1=>∃ a xs,vs=[.ref a]/\SqL K H1 a xs/\R (Itv K a xs.length) H1
theorem hJ:bootBuiltins "reversed" = some (.type "reversed"):=by decide +kernel
theorem qP {a:Expr} {ta:TA} {p pos:Pos} (hc:X.calm=true) (hg:Gl X "reversed") (hm:X.mg "reversed" = none) (ha:PA X [a] ta) (hs:starEach [a] X.env=[(false,eval a X.env)]):PI X tg (.Call (.Name "reversed" p) [a] [] pos) (vK X.K ta):=by
 intro pins s σ H R I h
 refine Call_ (cu I hg hm hJ (PyProof.Rows.callWith_type1 (thn (ha pos pins s σ H _ I h) λus s1 ⟨vs,H1,I1,r1,q1⟩=>?_) hs rfl))
 obtain ⟨l,xs,e,hq,q⟩:=q1
 subst e
 obtain ⟨u,rfl,ru⟩:=vals1 r1
 cases ru
 obtain ⟨its,rv,pl,hz⟩:=I1.list hq
 have hl:=rv.length
 refine call_reversed_list pl.isList ?_
 have st:({ s1 with heap:=s1.heap.push (revObj l ((its.toArray.size:Int) - 1)) }:Shared).heap.IsRevIter s1.heap.objs.size l ((its.toArray.size:Int) - 1):=⟨_,Heap.get?_push_size _ rfl,rfl,rfl⟩
 refine wpAny_pyIter_revIter st ?_
 refine ⟨false,s1.heap.objs.size,[s1.heap.objs.size],_,_,H1,rfl,I1.kept (t':=s1.toks) (λb o e=>Heap.get?_push_of_some _ e),.inl hc,qk l _ xs.length,⟨Nat.zero_le _,?_⟩,λb hb=>?_,q⟩
 · rw [show (xs.length:Int) - 1 - ((0:Nat):Int)=(its.toArray.size:Int) - 1 by rw [List.size_toArray,<- hl]; omega]
   exact st
 · have e:b=s1.heap.objs.size:=by simpa using hb
   subst e
   exact I1.jg (Nat.le_refl _) (I1.hok.fresh (Nat.le_refl _))
end
theorem qS:∀ (names:List (Str × NameKind)) (n:Nat) (acc:List (Str × Addr)) (x:Str) (c:Addr),(cellsFrom n names acc).lookup x=some c->n<=c\/acc.lookup x=some c
 | [],_,_,_,_,h=>.inr h
 | (y,k) :: r,n,acc,x,c,h=>by
   unfold cellsFrom at h
   split at h
   · rcases qS r (n + 1) _ x c h with q | q
     · exact .inl (by omega)
     · rw [List.lookup_cons] at q
       split at q
       · cases q; exact .inl (Nat.le_refl _)
       · exact .inr q
   · exact qS r n acc x c h
theorem iJ:∀ (names:List (Str × NameKind)) (n:Nat) (acc:List (Str × Addr)) (x:Str),(x,NameKind.cell) ∉ names->(cellsFrom n names acc).lookup x=acc.lookup x
 | [],_,_,_,_=>rfl
 | (y,k) :: r,n,acc,x,h=>by
   have h1:(x,NameKind.cell) ∉ r:=λz=>h (List.mem_cons_of_mem _ z)
   unfold cellsFrom
   split
   · rename_i hk
     rw [iJ r _ _ x h1,List.lookup_cons]
     have:(x == y)=false:=by
       rw [beq_eq_false_iff_ne]
       rintro rfl
       exact h (by rw [eq_of_beq hk]; exact List.mem_cons_self)
     rw [this]
   · exact iJ r n acc x h1
theorem kH:∀ (names:List (Str × NameKind)) (n:Nat) (acc:List (Str × Addr)) (x:Str),(x,NameKind.cell) ∈ names->∃ c,(cellsFrom n names acc).lookup x=some c/\n<=c
 | (y,k) :: r,n,acc,x,h=>by
   unfold cellsFrom
   by_cases hr:(x,NameKind.cell) ∈ r
   · split
     · obtain ⟨c,e,l⟩:=kH r (n + 1) ((y,n) :: acc) x hr
       exact ⟨c,e,by omega⟩
     · exact kH r n acc x hr
   · rcases List.mem_cons.mp h with q | q
     · cases q
       rw [if_pos (by rfl),iJ r _ _ _ hr]
       exact ⟨n,by simp [List.lookup_cons],Nat.le_refl _⟩
     · exact absurd q hr
theorem mU:∀ (names:List (Str × NameKind)) (n:Nat) (acc:List (Str × Addr)),(∀ x c,acc.lookup x=some c->c < n)->(∀ x y c,acc.lookup x=some c->acc.lookup y=some c->x=y) ->
   ∀ x y c,(cellsFrom n names acc).lookup x=some c->(cellsFrom n names acc).lookup y=some c->x=y
 | [],_,_,_,h=>h
 | (z,k) :: r,n,acc,hl,h=>by
   unfold cellsFrom
   split
   · refine mU r (n + 1) _ (λx c e=>?_) (λx y c e1 e2=>?_)
     · rw [List.lookup_cons] at e
       split at e
       · cases e; exact Nat.lt_succ_self _
       · exact Nat.lt_succ_of_lt (hl x c e)
     · rw [List.lookup_cons] at e1 e2
       split at e1
       · rename_i q1
         cases e1
         split at e2
         · rename_i q2
           exact (eq_of_beq q1).trans (eq_of_beq q2).symm
         · exact absurd (hl y _ e2) (Nat.lt_irrefl _)
       · split at e2
         · cases e2
           exact absurd (hl x _ e1) (Nat.lt_irrefl _)
         · exact h x y c e1 e2
   · exact mU r n acc hl h
theorem kr:∀ (names:List (Str × NameKind)) (h:Heap) (acc:List (Str × Addr)),(∀ x c,acc.lookup x=some c->∃ v,h.IsCell c v)->∀ x c,(cellsFrom h.objs.size names acc).lookup x=some c->∃ v,(pushCells h names).IsCell c v
 | [],_,_,ha,x,c,e=>ha x c e
 | (z,k) :: r,h,acc,ha,x,c,e=>by
   unfold cellsFrom at e
   unfold pushCells
   split at e
   · rename_i hk
     rw [if_pos hk]
     refine kr r _ ((z,h.objs.size) :: acc) (λy d q=>?_) x c (by rw [Heap.size_push]; exact e)
     rw [List.lookup_cons] at q
     split at q
     · cases q
       exact ⟨none,_,Heap.get?_push_size _ rfl,rfl⟩
     · obtain ⟨v,o,ho,hd⟩:=ha y d q
       exact ⟨v,o,Heap.get?_push_of_some _ ho,hd⟩
   · rename_i hk
     rw [if_neg hk]
     exact kr r h acc ha x c e
noncomputable def cv (env:PySem.Env):List (Str × NameKind)->List (Str × Addr)->List (Str × Addr)
 | [],acc=>acc
 | (n,k) :: r,acc=>if k == .free then (match env.cells.lookup n with | some c=>cv env r ((n,c) :: acc) | none=>cv env r acc) else cv env r acc
theorem iP (env:PySem.Env):∀ (names:List (Str × NameKind)) (acc:List (Str × Addr)),(∀ x ∈ names,x.2=.free->∃ c,env.cells.lookup x.1=some c) ->
   (forIn (m:=Sem) names acc λx cs=>do
     let (name,kind):=x
     if kind == .free then do
       let c <- cellOf env name
       pure (ForInStep.yield ((name,c) :: cs))
     else pure (ForInStep.yield cs))=pure (cv env names acc)
 | [],acc,_=>rfl
 | (n,k) :: r,acc,h=>by
   rw [List.forIn_cons]
   unfold cv
   by_cases hk:(k == .free)=true
   · obtain ⟨c,hc⟩:=h (n,k) List.mem_cons_self (eq_of_beq hk)
     simp only [hk,if_true,cellOf,hc,pure_bind]
     exact iP env r _ λx hx=>h x (List.mem_cons_of_mem _ hx)
   · simp only [hk,Bool.false_eq_true,if_false,pure_bind]
     exact iP env r _ λx hx=>h x (List.mem_cons_of_mem _ hx)
theorem oi {env:PySem.Env} {scope:Scope} (h:∀ x ∈ scope.names,x.2=.free->∃ c,env.cells.lookup x.1=some c):closureFor scope env=pure (cv env scope.names []):=by
 unfold closureFor
 have:=iP env scope.names [] h
 simp only [bind_pure]
 exact this
theorem dB (env:PySem.Env):∀ (names:List (Str × NameKind)) (acc:List (Str × Addr)) (x:Str) (c:Addr),(∀ y d,acc.lookup y=some d->env.cells.lookup y=some d)->(cv env names acc).lookup x=some c->env.cells.lookup x=some c
 | [],_,x,c,ha,h=>ha x c h
 | (n,k) :: r,acc,x,c,ha,h=>by
   unfold cv at h
   split at h
   · split at h
     · rename_i c' hc
       refine dB env r _ x c (λy d q=>?_) h
       rw [List.lookup_cons] at q
       split at q
       · rename_i qq
         cases q
         rw [eq_of_beq qq]; exact hc
       · exact ha y d q
     · exact dB env r acc x c ha h
   · exact dB env r acc x c ha h
theorem cy (env:PySem.Env):∀ (names:List (Str × NameKind)) (acc:List (Str × Addr)) (x:Str) (c:Addr),(∀ y d,acc.lookup y=some d->env.cells.lookup y=some d)->env.cells.lookup x=some c->((x,NameKind.free) ∈ names\/acc.lookup x=some c)->(cv env names acc).lookup x=some c
 | [],_,x,c,_,_,h=>h.elim (λz=>absurd z (by simp)) id
 | (n,k) :: r,acc,x,c,ha,hc,h=>by
   unfold cv
   split
   · split
     · rename_i c' hc'
       refine cy env r _ x c (λy d q=>?_) hc ?_
       · rw [List.lookup_cons] at q
         split at q
         · rename_i qq
           cases q
           rw [eq_of_beq qq]; exact hc'
         · exact ha y d q
       · by_cases q:x=n
         · subst q
           rw [hc] at hc'; cases hc'
           exact .inr (by simp [List.lookup_cons])
         · rcases h with h | h
           · rcases List.mem_cons.mp h with z | z
             · cases z; exact absurd rfl q
             · exact .inl z
           · refine .inr ?_
             rw [List.lookup_cons,beq_eq_false_iff_ne.mpr q]
             exact h
     · rename_i hc'
       refine cy env r acc x c ha hc ?_
       rcases h with h | h
       · rcases List.mem_cons.mp h with z | z
         · cases z; rw [hc] at hc'; cases hc'
         · exact .inl z
       · exact .inr h
   · rename_i hk
     refine cy env r acc x c ha hc ?_
     rcases h with h | h
     · rcases List.mem_cons.mp h with z | z
       · cases z; exact absurd rfl hk
       · exact .inl z
     · exact .inr h
theorem jW {M:Model} {A:Around} {E:Value->Shared->Prop} {s:Shared} {scope:Scope} {cl:List (Str × Addr)} {env:PySem.Env} {Q:PySem.Env->Shared->Prop}
   (h:Q (newEnv scope s.heap.objs.size env.globals (cellsFrom (s.heap.objs.size + 1) scope.names cl) env.qual none .none (some env) builtinsNs) { s with heap:=pushCells (s.heap.push { cls:=.type "dict",data:=.dict #[] }) scope.names }) :
   wpAny M A (newFunctionEnv scope env.globals cl [] env.qual none .none (some env)) Q E s:=by
 simp only [newFunctionEnv,Option.isSome_some,if_true]
 refine wpAny_bind (wpAny_alloc ?_)
 refine wpAny_bind (wpAny_layCells _ (λname kind cells=>by cases hkc:kind == NameKind.cell <;> simp [hkc]) _ _ _ _ ?_)
 rw [show ({ s with heap:=s.heap.push { cls:=.type "dict",data:=.dict #[] } }:Shared).heap.objs.size=s.heap.objs.size + 1 from Heap.size_push ..]
 exact wpAny_bind (wpAny_pure (wpAny_pure h))
noncomputable def aE (X:Cx) (s:Shared) (H:Hp) (scope:Scope) (N:List Str) (fp:List Addr):Cx:=
 { prog:=X.prog,w:=X.w,K:=X.K,mg:=X.mg,base:=X.base,A:=X.A,N:=N,s₀:=s,H₀:=H
   env:=compEnvC scope (cellsFrom (s.heap.objs.size + 1 + 1) scope.names (cv X.env scope.names [])) (s.heap.objs.size + 1) X.env
   outer:=X.stack,stack:=X.stack,ex:=fp,fn:=λx=>decide ((x,NameKind.cell) ∈ scope.names),calm:=X.calm,pn:=[],xe:=λ_ _=>False }
noncomputable def fT (σ:L2.St) (caps:List (Option Nat)):L2.St:=caps.map λo=>o.bind λi=>(σ[i]?).join
structure dN (X:Cx) (scope:Scope) (N:List Str) (caps:List (Option Nat)):Prop where
 kind:scope.kind=.function
 loc:∀ x ∈ scope.names,x.2=.local->scope.names.lookup x.1=some .local
 fre:∀ x ∈ scope.names,x.2=.free->X.env.kindOf x.1=some .cell
 one:∀ x,(x,NameKind.free) ∈ scope.names->(x,NameKind.cell) ∉ scope.names
 noboth:∀ x,(x,NameKind.free) ∈ scope.names->(x,NameKind.local) ∉ scope.names
 len:N.length=caps.length + 1
 cap:∀ (j i:Nat),caps[j]?=some (some i)->∃ x,N[j]?=some x/\X.N[i]?=some x/\(x,NameKind.free) ∈ scope.names
 acc:∃ z,N[caps.length]?=some z/\¬ Vis (relabel scope X.env) z
section
variable {X:Cx} {pins:List (Addr × Obj)} {σ:L2.St} {H:Hp} {s:Shared} {scope:Scope} {N:List Str} {caps:List (Option Nat)} {fp:List Addr}
theorem dD {env:PySem.Env} {x:Str} {names:List (Str × NameKind)} (h:∀ y,(y,NameKind.free) ∈ names->env.kindOf y=some .cell) (hk:env.scope.kind=.function) {k:NameKind}
   (e:(names.map λ(n,k)=>if (k == NameKind.free && env.scope.kind == .function && env.kindOf n == some .cell) then (n,NameKind.cell) else (n,k)).lookup x=some k) :
   (x,k) ∈ names\/((x,NameKind.free) ∈ names/\k=.cell):=by
 induction names with
 | nil=>cases e
 | cons p r ih=>
   obtain ⟨n,q⟩:=p
   rw [List.map_cons] at e
   have hr:∀ y,(y,NameKind.free) ∈ r->env.kindOf y=some .cell:=λy hy=>h y (List.mem_cons_of_mem _ hy)
   have sub:((x,k) ∈ r\/((x,NameKind.free) ∈ r/\k=.cell))->(x,k) ∈ (n,q) :: r\/((x,NameKind.free) ∈ (n,q) :: r/\k=.cell):=λz=>
     z.elim (λy=>.inl (List.mem_cons_of_mem _ y)) λy=>.inr ⟨List.mem_cons_of_mem _ y.1,y.2⟩
   dsimp only at e
   split at e
   · rename_i c
     rw [List.lookup_cons] at e
     split at e
     · rename_i qq
       cases e
       rw [Bool.and_eq_true,Bool.and_eq_true] at c
       rw [eq_of_beq qq,eq_of_beq c.1.1]
       exact .inr ⟨List.mem_cons_self,rfl⟩
     · exact sub (ih hr e)
   · rename_i c
     rw [List.lookup_cons] at e
     split at e
     · rename_i qq
       cases e
       rw [eq_of_beq qq]
       exact .inl List.mem_cons_self
     · exact sub (ih hr e)
theorem fo (I:Inv X pins σ H s) (c:dN X scope N caps):∀ x ∈ scope.names,x.2=.free->∃ d,X.env.cells.lookup x.1=some d:=λx hx hf=>I.ok.has x.1 (.inl (c.fre x hx hf))
theorem lR (I:Inv X pins σ H s) (hf:∀ b ∈ fp,jj X pins H b) (ho:∀ b ∈ fp,∃ o,s.heap.get? b=some o) (c:dN X scope N caps) :
   Inv (aE X s H scope N fp) [] (fT σ caps++[some (.ref s.heap.objs.size)]) (upd H s.heap.objs.size (.lst []))
     { s with heap:=pushCells ((s.heap.push { cls:=.type "list",data:=.seq ([]:List Value).toArray }).push { cls:=.type "dict",data:=.dict #[] }) scope.names }:=by
 have hcl:∀ x d,(cv X.env scope.names []).lookup x=some d->X.env.cells.lookup x=some d:=λx d=>dB X.env scope.names [] x d (λy d z=>by simp at z)
 have kp:∀ b o,s.heap.get? b=some o->(pushCells ((s.heap.push { cls:=.type "list",data:=.seq ([]:List Value).toArray }).push { cls:=.type "dict",data:=.dict #[] }) scope.names).get? b=some o:=λb o e=>
   pushCells_keeps _ _ b o (Heap.get?_push_of_some _ (Heap.get?_push_of_some _ e))
 have sz2:((s.heap.push { cls:=.type "list",data:=.seq ([]:List Value).toArray }).push { cls:=.type "dict",data:=.dict #[] }).objs.size=s.heap.objs.size + 1 + 1:=by rw [Heap.size_push,Heap.size_push]
 have oldc:∀ x d,X.env.cells.lookup x=some d->d < s.heap.objs.size:=λx d e=>by
   obtain ⟨v,o,q,_⟩:=I.cell x d e
   exact Heap.lt_size q
 have cel:∀ x d,(aE X s H scope N fp).env.cells.lookup x=some d->s.heap.objs.size + 1 + 1<=d\/X.env.cells.lookup x=some d:=λx d e=>by
   rcases qS _ _ _ x d e with q | q
   · exact .inl q
   · exact .inr (hcl x d q)
 have ok:(aE X s H scope N fp).Ok:=by
   refine ⟨I.ok.mod,c.kind,I.ok.glob,I.ok.blt,Nat.le_succ _,?_,?_,?_,I.ok.hd,I.ok.frames,.inl rfl,?_,I.bs,Nat.le_trans I.ok.bsz I.sz,?_,?_,I.stack,I.fK⟩
   · exact mU _ _ _ (λx d e=>Nat.lt_of_lt_of_le (oldc x d (hcl x d e)) (by omega)) λx y d e1 e2=>I.ok.inj x y d (hcl x d e1) (hcl y d e2)
   · intro x hx
     have hfk:∀ y,(y,NameKind.free) ∈ scope.names->X.env.kindOf y=some .cell:=λy hy=>c.fre _ hy rfl
     have fre:(x,NameKind.free) ∈ scope.names->∃ d,(aE X s H scope N fp).env.cells.lookup x=some d:=λhm=>by
       obtain ⟨d,hd⟩:=fo I c _ hm rfl
       exact ⟨d,by
         show (cellsFrom _ scope.names _).lookup x=_
         rw [iJ _ _ _ x (c.one x hm)]
         exact cy X.env scope.names [] x d (λy e z=>by simp at z) hd (.inl hm)⟩
     have own:(x,NameKind.cell) ∈ scope.names->∃ d,(aE X s H scope N fp).env.cells.lookup x=some d:=λhm=>by
       obtain ⟨d,e,_⟩:=kH scope.names (s.heap.objs.size + 1 + 1) (cv X.env scope.names []) x hm
       exact ⟨d,e⟩
     rcases hx with hx | hx
     · rcases dD hfk I.ok.kind (show (scope.names.map _).lookup x=some .cell from hx) with q | q
       · exact own q
       · exact fre q.1
     · rcases dD hfk I.ok.kind (show (scope.names.map _).lookup x=some .free from hx) with q | q
       · exact fre q
       · exact fre q.1
   · intro x d hfn e
     have hm:(x,NameKind.cell) ∈ scope.names:=of_decide_eq_true hfn
     obtain ⟨d',e',l⟩:=kH scope.names (s.heap.objs.size + 1 + 1) (cv X.env scope.names []) x hm
     have e2:(cellsFrom (s.heap.objs.size + 1 + 1) scope.names (cv X.env scope.names [])).lookup x=some d:=e
     rw [e'] at e2; cases e2
     exact Nat.le_trans (Nat.le_trans (Nat.le_succ _) (Nat.le_succ _)) l
   · intro b hb
     obtain ⟨o,q⟩:=ho b hb
     have bl:=Heap.lt_size q
     refine ⟨λz=>?_,λx d e z=>?_⟩
     · have z':b=s.heap.objs.size + 1:=z
       rw [z'] at bl
       exact absurd bl (Nat.not_lt.mpr (Nat.le_succ _))
     · subst z
       rcases cel x d e with q | q
       · exact absurd (Nat.lt_of_lt_of_le bl (Nat.le_trans (Nat.le_trans (Nat.le_succ _) (Nat.le_succ _)) q)) (Nat.lt_irrefl _)
       · exact (hf d hb).2.2.2.2.1 x d q rfl
   · intro b o e hb
     rcases (hf b hb).2.2.2.1 with q | q
     · exact I.ok.noex b o e q
     · have:=Nat.lt_of_lt_of_le (Heap.lt_size e) I.ok.bsz
       exact absurd (Nat.lt_of_lt_of_le this q) (Nat.lt_irrefl _)
   · intro b hb hm
     rcases List.mem_cons.mp (I.i6 b hm) with q | q
     · exact (hf b hb).2.1 q
     · exact (hf b hb).2.2.1 q
 have hD:(pushCells ((s.heap.push { cls:=.type "list",data:=.seq ([]:List Value).toArray }).push { cls:=.type "dict",data:=.dict #[] }) scope.names).get? s.heap.objs.size=some { cls:=.type "list",data:=.seq ([]:List Value).toArray }:=
   pushCells_keeps _ _ _ _ (Heap.get?_push_of_some _ (Heap.get?_push_size _ rfl))
 have fr:∀ a,s.heap.objs.size<=a->a ≠ s.heap.objs.size->(upd H s.heap.objs.size (.lst [])) a=none:=λa h1 h2=>by rw [aB h2]; exact I.hok.fresh h1
 refine ⟨ok,rfl,I.bare,Un.laid kp (Nat.le_refl _) (I.hok.fresh (Nat.le_refl _)),⟨λ_=>none,?_,λi x v e1 e2 e3=>?_⟩,λx d e=>?_,?_,λx d e=>?_,λp hp=>absurd (show p ∈ ([]:List (Addr × Obj)) from hp) (by simp),?_,?_⟩
 · have:=Heap.Ns.new (s.heap.push { cls:=.type "list",data:=.seq ([]:List Value).toArray }) (.type "dict")
   rw [Heap.size_push] at this
   exact this.keeps (pushCells_keeps _ _)
 · by_cases hi:i < caps.length
   · rw [List.getElem?_append_left (by unfold fT; rw [List.length_map]; exact hi)] at e2
     unfold fT at e2
     rw [List.getElem?_map] at e2
     cases hc:caps[i]? with
     | none=>rw [hc] at e2; cases e2
     | some o=>
       rw [hc] at e2
       cases o with
       | none=>cases e2
       | some j=>
         have e2':(σ[j]?).join=some v:=Option.some.inj e2
         have e4:σ[j]?=some (some v):=by
           cases q:σ[j]? with
           | none=>rw [q] at e2'; cases e2'
           | some y=>rw [q] at e2'; exact congrArg some e2'
         obtain ⟨x',g1,g2,g3⟩:=c.cap i j hc
         rw [show (aE X s H scope N fp).N=N from rfl,g1] at e1
         cases e1
         have hkc:=c.fre _ g3 rfl
         obtain ⟨m,_,hl⟩:=I.loc
         obtain ⟨u,ru,look⟩:=hl j x v g2 e4 (.inr (.inl hkc))
         refine ⟨u,ru,?_⟩
         rcases look with ⟨k,_⟩ | ⟨k,d,hd,hcell⟩
         · rw [hkc] at k; cases k
         · have e5:(aE X s H scope N fp).env.cells.lookup x=some d:=by
             show (cellsFrom _ scope.names _).lookup x=_
             rw [iJ _ _ _ x (c.one x g3)]
             exact cy X.env scope.names [] x d (λy e z=>by simp at z) hd (.inl g3)
           have hcell':Heap.IsCell (pushCells ((s.heap.push { cls:=.type "list",data:=.seq ([]:List Value).toArray }).push { cls:=.type "dict",data:=.dict #[] }) scope.names) d (some u):=by
             obtain ⟨o,q1,q2⟩:=hcell
             exact ⟨o,kp _ _ q1,q2⟩
           refine .inr ⟨?_,d,e5,hcell'⟩
           rcases e3 with e3 | e3 | e3
           · exfalso
             rcases dD (λy hy=>c.fre _ hy rfl) I.ok.kind (show (scope.names.map _).lookup x=some .local from e3) with q | q
             · have q1:=c.loc _ q rfl
               exact c.noboth x g3 q
             · cases q.2
           · exact .inl e3
           · exact .inr e3
   · exfalso
     obtain ⟨z,z1,z2⟩:=c.acc
     have hl:i < N.length:=(List.getElem?_eq_some_iff.mp e1).1
     have:i=caps.length:=by have:=c.len; omega
     subst this
     rw [show (aE X s H scope N fp).N=N from rfl,z1] at e1
     cases e1
     exact z2 e3
 · rw [show (aE X s H scope N fp).env.cells=cellsFrom (s.heap.objs.size + 1 + 1) scope.names (cv X.env scope.names []) from rfl,<- sz2] at e
   refine kr scope.names _ _ (λy d' q=>?_) x d e
   obtain ⟨v,o,q1,q2⟩:=I.cell y d' (hcl y d' q)
   exact ⟨v,o,Heap.get?_push_of_some _ (Heap.get?_push_of_some _ q1),q2⟩
 · exact fr _ (Nat.le_succ _) (Nat.succ_ne_self _)
 · rcases cel x d e with q | q
   · exact fr d (by omega) (by intro z; omega)
   · rw [aB (Nat.ne_of_lt (oldc x d q))]; exact I.freeC x d q
 · exact I.hok.laid kp (Nat.le_refl _) ⟨Nat.zero_le _,[],0,.nil,hD⟩
 · rw [List.length_append]
   unfold fT
   rw [List.length_map,show (aE X s H scope N fp).N=N from rfl,c.len]
   rfl
end
noncomputable def PTs (X:Cx) (ifs:List Expr) (t:TT):Prop:=
 ∀ (pins:List (Addr × Obj)) (s:Shared) (σ:L2.St) (H:Hp) (Q:Bool->Hp->Prop),Inv X pins σ H s->t σ H Q ->
   wpAny (model X.prog X.w) X.A (forIn ifs true λc r=>if r=true then do let ok <- isTrue c X.env (eval c X.env); pure (ForInStep.yield ok) else pure (ForInStep.yield r)) (TP X pins σ Q) X.xe s
section
variable {prog:Program} {w:World} {A:Around} {R:Result->Shared->Prop} {s:Shared}
theorem hV {elt target iter:Expr} {ifs:List Expr} {scope:Scope} {pos:Pos} {it acc:Value} {env:PySem.Env} (Iv:Nat->Shared->Prop)
   (step:∀ n s,Iv n s->wpAny (model prog w) A (pyNext it) (λr s₁=>match r with
     | none=>R (.ok .next) s₁
     | some v=>wpAny (model prog w) A (letOwnedTupleGo target it v) (λ_ s₀=>wpAny (model prog w) A (assign target env v) (λ_ s₂=>
         wpAny (model prog w) A (forIn ifs true λc r=>if r=true then do let ok <- isTrue c env (eval c env); pure (ForInStep.yield ok) else pure (ForInStep.yield r)) (λok s₃=>
           if ok=true then wpAny (model prog w) A (eval elt env) (λx s₄=>
             wpAny (model prog w) A (call (.builtin "list.append") [acc,x]) (λ_ s₅=>∃ m,m < n/\Iv m s₅) (λ_ _=>False) s₄) (λ_ _=>False) s₃
           else ∃ m,m < n/\Iv m s₃) (λ_ _=>False) s₂) (λ_ _=>False) s₀) (λ_ _=>False) s₁) (λ_ _=>False) s)
   (n:Nat) (h:Iv n s):codeAny (model prog w) A (.compLoop (.ListComp elt [⟨target,iter,ifs,0⟩] scope pos) 0 it acc env) R s:=by
 have no:∀ {α:Type} {t:Sem α} {Q:α->Shared->Prop} {s:Shared} {E:Value->Shared->Prop},wpAny (model prog w) A t Q (λ_ _=>False) s->wpAny (model prog w) A t Q E s:=λh=>wpAny_mono h (λ_ _ q=>q) λ_ _ q=>q.elim
 refine codeAny_loop rfl Iv (λn s hI=>?_) n h
 show wpAny _ A (Sem.onRaise (compTurn (.ListComp elt [⟨target,iter,ifs,0⟩] scope pos) 0 it acc env) (λx=>do noteFrame x env; theTreesLotGoes x)) _ _ s
 refine wpAny_noted ?_
 rw [compTurn_list]
 refine wpAny_bind (wpAny_standAt (wpAny_bind (thn (no (step n s hI)) λr s₁ h₁=>?_)))
 cases r with
 | none=>exact wpAny_pure h₁
 | some v=>
   refine wpAny_bind (thn (no h₁) λ_ s₀ h₀=>wpAny_bind (thn (no h₀) λ_ s₂ h₂=>wpAny_bind (thn (no h₂) λok s₃ h₃=>?_)))
   cases ok with
   | false=>exact wpAny_pure ⟨rfl,h₃⟩
   | true=>exact wpAny_bind (wpAny_bind (thn (no h₃) λx s₄ h₄=>wpAny_bind (thn (no h₄) λ_ s₅ h₅=>wpAny_pure (wpAny_pure ⟨rfl,h₅⟩))))
end
theorem n4 {X:Cx} {kd:Bool} {pins:List (Addr × Obj)} {σ:L2.St} {H:Hp} {s:Shared} {scope:Scope} {N:List Str} {fp:List Addr} (h:Ck kd X) (I:Inv X pins σ H s):Ck kd (aE X s H scope N fp):=by
 rcases h with h | ⟨hk,q,o,u,vs,e1,e2,e3,e4⟩
 · exact .inl h
 · exact .inr ⟨hk,q,o,u,vs,e1,I.base.frzs q o u e2,e3,e4⟩
noncomputable def ee (In:TG->TT->TE->Prop) (caps:List (Option Nat)) (wi:TI):TE:=λσ H Q=>wi σ H λJ H1=>∃ g tt te,In g tt te/\∀ D,H1 D=none ->
 ∃ Z:Nat->Nat->L2.St->Hp->Prop,(∃ m,Z 0 m (fT σ caps++[some (.ref D)]) (upd H1 D (.lst [])))/\∀ i m σ' H',Z i m σ' H' ->
   (J.stop i H'/\Q (.ref D) H')\/(J.go i H'/\∀ x H2,J.yld i H' x H2->g x σ' H2 λσ2 H3=>tt σ2 H3 λb H4=>
     if b=true then te σ2 H4 λv H5=>∃ vs m',H5 D=some (.lst vs)/\vs.length < sizeLine/\m' < m/\Z (i + 1) m' σ2 (upd H5 D (.lst (vs++[v]))) else ∃ m',m' < m/\Z (i + 1) m' σ2 H4)
theorem cL {X:Cx} {elt tg iter:Expr} {ifs:List Expr} {scope:Scope} {N:List Str} {caps:List (Option Nat)} {pos:Pos} {wi:TI} {In:TG->TT->TE->Prop} (c:dN X scope N caps) (hi:PI X tg iter wi)
   (hs:∀ x,foldedSetIterable iter X.env x=pure x)
   (hin:∀ g tt te,In g tt te->∀ s H fp,PG (aE X s H scope N fp) tg g/\PTs (aE X s H scope N fp) ifs tt/\PE (aE X s H scope N fp) elt te) :
   PE X (.ListComp elt [⟨tg,iter,ifs,0⟩] scope pos) (ee In caps wi):=by
 intro pins s σ H Q I h
 rw [eval_ListComp]
 have hcl:=oi (fo I c)
 refine wpAny_comprehension_free (use:=none) (g:=⟨tg,iter,ifs,0⟩) (gs:=[]) rfl hs hcl c.kind c.loc ?_
 show wpAny _ _ (eval iter X.env) _ _ s
 refine thn (hi pins s σ H _ I h) λv s1 h1=>thn h1 λitv s2 h2=>?_
 obtain ⟨kd,it,fp,tn,J,H2,e,I2,hck,T,st2,f2,g,tt,te,hI,q⟩:=h2
 have hc:=n4 (scope:=scope) (N:=N) (fp:=fp) hck I2
 subst e
 obtain ⟨Z,⟨m0,z0⟩,turn⟩:=q s2.heap.objs.size (I2.hok.fresh (Nat.le_refl _))
 have ho:∀ b ∈ fp,∃ o,s2.heap.get? b=some o:=λb hb=>let ⟨o,e,_⟩:=T.obj _ _ st2 b hb; ⟨o,e⟩
 have I4:=lR (scope:=scope) (N:=N) (caps:=caps) I2 f2 ho c
 obtain ⟨hg,ht,he⟩:=hin g tt te hI s2 H2 fp
 refine wpAny_newObj_type (jW ?_) (by show 0<=sizeLine; decide)
 have hC:(s2.heap.push { cls:=.type "list",dict:=none,data:=.seq ([]:List Value).toArray }).objs.size=s2.heap.objs.size + 1:=Heap.size_push ..
 dsimp only
 rw [hC]
 have kp:∀ b o,s2.heap.get? b=some o->(pushCells ((s2.heap.push { cls:=.type "list",data:=.seq ([]:List Value).toArray }).push { cls:=.type "dict",data:=.dict #[] }) scope.names).get? b=some o:=λb o e=>
   pushCells_keeps _ _ b o (Heap.get?_push_of_some _ (Heap.get?_push_of_some _ e))
 have st4:tn 0 (pushCells ((s2.heap.push { cls:=.type "list",data:=.seq ([]:List Value).toArray }).push { cls:=.type "dict",data:=.dict #[] }) scope.names):=T.keep _ _ _ st2 λb _ o e=>kp b o e
 have stat:∀ {H':Hp},(∀ b ∈ fp,H' b=none)->∀ b ∈ fp,jj (aE X s2 H2 scope N fp) [] H' b:=λhn b hb=>
   ⟨hn b hb,(I4.ok.exf b hb).1,I4.ok.exfs b hb,.inl hb,(I4.ok.exf b hb).2,λp hp=>absurd (show p ∈ ([]:List (Addr × Obj)) from hp) (by simp)⟩
 have fr4:∀ b ∈ fp,(upd H2 s2.heap.objs.size (.lst [])) b=none:=λb hb=>by
   obtain ⟨o,e⟩:=ho b hb
   rw [aB (Nat.ne_of_lt (Heap.lt_size e))]; exact (f2 b hb).1
 have loop:codeAny (model X.prog X.w) X.A (.compLoop (.ListComp elt [⟨tg,iter,ifs,0⟩] scope pos) 0 (.ref it) (.ref s2.heap.objs.size) (aE X s2 H2 scope N fp).env)
     (compPost (model X.prog X.w) X.A X.xe none (EP X pins σ Q) (.ref s2.heap.objs.size) (s2.heap.objs.size + 1))
     { s2 with heap:=pushCells ((s2.heap.push { cls:=.type "list",data:=.seq ([]:List Value).toArray }).push { cls:=.type "dict",data:=.dict #[] }) scope.names }:=by
   refine hV (λn s'=>∃ i σ' H',Inv (aE X s2 H2 scope N fp) [] σ' H' s'/\tn i s'.heap/\(∀ b ∈ fp,H' b=none)/\Z i n σ' H') ?_ m0 ⟨0,_,_,I4,st4,fr4,z0⟩
   rintro n s3 ⟨i,σ3,H3,I3,st3,fr3,w3⟩
   rcases turn i n σ3 H3 w3 with ⟨stop,qn⟩ | ⟨go,step⟩
   · refine thn (T.done (aE X s2 H2 scope N fp) rfl rfl rfl hc i [] s3 σ3 H3 _ I3 (stat fr3) st3 stop) λr s5 ⟨hr,I5⟩=>?_
     subst hr
     obtain ⟨m,hn,_⟩:=id I5.loc
     refine ⟨m,hn,λh' sb=>⟨.ref s2.heap.objs.size,H3,?_,rfl,qn⟩⟩
     have lt:∀ b o,s2.heap.get? b=some o->b ≠ s2.heap.objs.size + 1:=λb o e=>Nat.ne_of_lt (Nat.lt_succ_of_lt (Heap.lt_size e))
     have u:=I5.base
     have u':Un (frs X.stack) fp H2 H3 s2.heap h':=⟨λb o e n1 n2 n3=>(sb.2 b (lt b o e)).trans (u.keep b o e n1 n2 n3),λb o e n1 n2 n3=>let ⟨sl,z⟩:=u.slot b o e n1 n2 n3; ⟨sl,(sb.2 b (lt b o e)).trans z⟩,
       u.free,λb o e n1=>let ⟨o',z⟩:=u.there b o e n1; ⟨o',(sb.2 b (lt b o e)).trans z⟩,u.tups,u.frzs,u.tbls⟩
     have fC:H3 (s2.heap.objs.size + 1)=none:=I5.free
     refine I2.jE (s':={ s5 with heap:=h' }) I5.os u' (λb o e=>(I5.hok b o e).dR (λd v hd z=>(sb.2 d ?_).trans z) (λ_ z=>z) λ_ _ z=>z) I5.bare λb hb=>⟨(f2 b hb).2.2.2.1,(f2 b hb).2.1,(f2 b hb).2.2.2.2.1,(f2 b hb).2.2.2.2.2⟩
     rcases hd with hd | hd
     · rw [hd]; exact ay e fC
     · exact ay hd fC
   · refine thn (T.item (aE X s2 H2 scope N fp) rfl rfl rfl hc i [] s3 σ3 H3 _ I3 (stat fr3) st3 go) λr s4 ⟨u,hr,h4⟩=>?_
     subst hr
     refine thn h4 λ_ s5 ⟨x,H5,I5,r5,y5,st5,fr5⟩=>?_
     have I5':=I5.pinned (stat fr5) (T.obj _ _ st5)
     refine thn (hg _ s5 σ3 H5 x u _ I5' r5 (step x H5 y5)) λ_ s6 ⟨σ6,H6,I6,q6⟩=>?_
     have again:∀ {s7:Shared} {σ7:L2.St} {H7:Hp} {m':Nat},Inv (aE X s2 H2 scope N fp) ([]++fb fp s5.heap) σ7 H7 s7->m' < n->Z (i + 1) m' σ7 H7 ->
         ∃ m,m < n/\∃ i σ' H',Inv (aE X s2 H2 scope N fp) [] σ' H' s7/\tn i s7.heap/\(∀ b ∈ fp,H' b=none)/\Z i m σ' H':=λ{s7 σ7 H7 m'} I7 hm z7=>by
       refine ⟨m',hm,i + 1,σ7,H7,I7.cS,T.keep _ _ _ st5 λb hb o e=>(I7.pin (b,o) (List.mem_append_right _ (List.mem_append_right _ (bQ hb e)))).1,λb hb=>?_,z7⟩
       obtain ⟨o,e,d⟩:=T.obj _ _ st5 b hb
       exact (I7.pin (b,o) (List.mem_append_right _ (List.mem_append_right _ (bQ hb e)))).2.1
     refine thn (ht _ s6 σ6 H6 _ I6 q6) λok s7 ⟨H7,I7,q7⟩=>?_
     cases ok with
     | false=>
       rw [if_neg (by decide)] at q7
       obtain ⟨m',hm,z7⟩:=q7
       exact again I7 hm z7
     | true=>
       rw [if_pos rfl] at q7
       refine thn (he _ s7 σ6 H7 _ I7 q7) λv' s8 ⟨v,H8,I8,r8,vs,m',q8,l8,hm,z8⟩=>?_
       refine thn (gC (X:=aE X s2 H2 scope N fp) _ s8 σ6 H8 (.ref s2.heap.objs.size) [v] (.ref s2.heap.objs.size) [v'] (λ_ H9=>H9=upd H8 s2.heap.objs.size (.lst (vs++[v]))) I8 rfl (.cons r8 .nil) ⟨_,vs,v,rfl,rfl,q8,l8,rfl⟩) λ_ s9 ⟨_,H9,I9,_,e9⟩=>?_
       subst e9
       exact again I9 hm z8
 exact codeAny_compStart_list loop (T.self _ 0 _ _ _ st4 loop)
theorem kU {X:Cx} {gT:TG} {y:Str} {py spos:Pos} {elt tg iter:Expr} {ifs:List Expr} {scope:Scope} {N:List Str} {caps:List (Option Nat)} {pos:Pos} {wi:TI} {In:TG->TT->TE->Prop} (hT:PG X (.Name y py) gT) (c:dN X scope N caps) (hi:PI X tg iter wi)
   (hs:∀ x,foldedSetIterable iter X.env x=pure x)
   (hin:∀ g tt te,In g tt te->∀ s H fp,PG (aE X s H scope N fp) tg g/\PTs (aE X s H scope N fp) ifs tt/\PE (aE X s H scope N fp) elt te)
   (hsw:swapsWith (.ListComp elt [⟨tg,iter,ifs,0⟩] scope pos) (some (.Name y py)) spos.line X.env=pure true) :
   PS X (.Assign [.Name y py] (.ListComp elt [⟨tg,iter,ifs,0⟩] scope pos) spos) (vW (ee In caps wi) gT):=by
 intro pins s σ H D I h
 rw [exec_Assign_Name_used _ _ _ _ hsw]
 refine wpAny_bind (wpAny_standAt (wpAny_bind ?_))
 show wpAny _ _ (do let _ <- comprehension (.ListComp elt [⟨tg,iter,ifs,0⟩] scope pos) scope X.env _ (newList []) false _ (some (assign (.Name y py) X.env))) _ _ s
 refine wpAny_bind ?_
 have hcl:=oi (fo I c)
 refine wpAny_comprehension_free (use:=some (assign (.Name y py) X.env)) (Q:=λ_ s'=>wpAny (model X.prog X.w) X.A (pure ()) (λ_ s''=>wpAny (model X.prog X.w) X.A (pure Flow.next) (SP X pins D) X.xe s'') X.xe s') (g:=⟨tg,iter,ifs,0⟩) (gs:=[]) rfl hs hcl c.kind c.loc ?_
 show wpAny _ _ (eval iter X.env) _ _ s
 refine thn (hi pins s σ H _ I h) λv s1 h1=>thn h1 λitv s2 h2=>?_
 obtain ⟨kd,it,fp,tn,J,H2,e,I2,hck,T,st2,f2,g,tt,te,hI,q⟩:=h2
 have hc:=n4 (scope:=scope) (N:=N) (fp:=fp) hck I2
 subst e
 obtain ⟨Z,⟨m0,z0⟩,turn⟩:=q s2.heap.objs.size (I2.hok.fresh (Nat.le_refl _))
 have ho:∀ b ∈ fp,∃ o,s2.heap.get? b=some o:=λb hb=>let ⟨o,e,_⟩:=T.obj _ _ st2 b hb; ⟨o,e⟩
 have I4:=lR (scope:=scope) (N:=N) (caps:=caps) I2 f2 ho c
 obtain ⟨hg,ht,he⟩:=hin g tt te hI s2 H2 fp
 refine wpAny_newObj_type (jW ?_) (by show 0<=sizeLine; decide)
 have hC:(s2.heap.push { cls:=.type "list",dict:=none,data:=.seq ([]:List Value).toArray }).objs.size=s2.heap.objs.size + 1:=Heap.size_push ..
 dsimp only
 rw [hC]
 have kp:∀ b o,s2.heap.get? b=some o->(pushCells ((s2.heap.push { cls:=.type "list",data:=.seq ([]:List Value).toArray }).push { cls:=.type "dict",data:=.dict #[] }) scope.names).get? b=some o:=λb o e=>
   pushCells_keeps _ _ b o (Heap.get?_push_of_some _ (Heap.get?_push_of_some _ e))
 have st4:tn 0 (pushCells ((s2.heap.push { cls:=.type "list",data:=.seq ([]:List Value).toArray }).push { cls:=.type "dict",data:=.dict #[] }) scope.names):=T.keep _ _ _ st2 λb _ o e=>kp b o e
 have stat:∀ {H':Hp},(∀ b ∈ fp,H' b=none)->∀ b ∈ fp,jj (aE X s2 H2 scope N fp) [] H' b:=λhn b hb=>
   ⟨hn b hb,(I4.ok.exf b hb).1,I4.ok.exfs b hb,.inl hb,(I4.ok.exf b hb).2,λp hp=>absurd (show p ∈ ([]:List (Addr × Obj)) from hp) (by simp)⟩
 have fr4:∀ b ∈ fp,(upd H2 s2.heap.objs.size (.lst [])) b=none:=λb hb=>by
   obtain ⟨o,e⟩:=ho b hb
   rw [aB (Nat.ne_of_lt (Heap.lt_size e))]; exact (f2 b hb).1
 have loop:codeAny (model X.prog X.w) X.A (.compLoop (.ListComp elt [⟨tg,iter,ifs,0⟩] scope pos) 0 (.ref it) (.ref s2.heap.objs.size) (aE X s2 H2 scope N fp).env)
     (compPost (model X.prog X.w) X.A X.xe (some (assign (.Name y py) X.env)) (λ_ s'=>wpAny (model X.prog X.w) X.A (pure ()) (λ_ s''=>wpAny (model X.prog X.w) X.A (pure Flow.next) (SP X pins D) X.xe s'') X.xe s') (.ref s2.heap.objs.size) (s2.heap.objs.size + 1))
     { s2 with heap:=pushCells ((s2.heap.push { cls:=.type "list",data:=.seq ([]:List Value).toArray }).push { cls:=.type "dict",data:=.dict #[] }) scope.names }:=by
   refine hV (λn s'=>∃ i σ' H',Inv (aE X s2 H2 scope N fp) [] σ' H' s'/\tn i s'.heap/\(∀ b ∈ fp,H' b=none)/\Z i n σ' H') ?_ m0 ⟨0,_,_,I4,st4,fr4,z0⟩
   rintro n s3 ⟨i,σ3,H3,I3,st3,fr3,w3⟩
   rcases turn i n σ3 H3 w3 with ⟨stop,qn⟩ | ⟨go,step⟩
   · refine thn (T.done (aE X s2 H2 scope N fp) rfl rfl rfl hc i [] s3 σ3 H3 _ I3 (stat fr3) st3 stop) λr s5 ⟨hr,I5⟩=>?_
     subst hr
     obtain ⟨m,hn,_⟩:=id I5.loc
     have I6:Inv X pins σ H3 s5:=by
       have lt:∀ b o,s2.heap.get? b=some o->b ≠ s2.heap.objs.size + 1:=λb o e=>Nat.ne_of_lt (Nat.lt_succ_of_lt (Heap.lt_size e))
       have u:=I5.base
       have u':Un (frs X.stack) fp H2 H3 s2.heap s5.heap:=⟨λb o e n1 n2 n3=>u.keep b o e n1 n2 n3,λb o e n1 n2 n3=>u.slot b o e n1 n2 n3,u.free,λb o e n1=>u.there b o e n1,u.tups,u.frzs,u.tbls⟩
       exact I2.jE (s':=s5) I5.os u' I5.hok I5.bare λb hb=>⟨(f2 b hb).2.2.2.1,(f2 b hb).2.1,(f2 b hb).2.2.2.2.1,(f2 b hb).2.2.2.2.2⟩
     have fC:H3 (s2.heap.objs.size + 1)=none:=I5.free
     have fk:jj X pins H3 (s2.heap.objs.size + 1):=I2.jg (Nat.le_succ _) fC
     obtain ⟨oC,es,ep,hoC,hdC,rC⟩:=id hn
     have hpin:=I6.pinned (fp:=[s2.heap.objs.size + 1]) (λb hb=>by rw [List.mem_singleton.mp hb]; exact fk) (λb hb=>by rw [List.mem_singleton.mp hb]; exact ⟨oC,hoC,λv z=>by rw [hdC] at z; cases z⟩)
     have hmem:(s2.heap.objs.size + 1,oC) ∈ fb [s2.heap.objs.size + 1] s5.heap:=bQ (List.mem_singleton_self _) hoC
     refine thn (hT _ s5 σ H3 (.ref s2.heap.objs.size) (.ref s2.heap.objs.size) _ hpin rfl qn) λ_ s6 ⟨σ6,H6,I7,q7⟩=>?_
     obtain ⟨p1,p2,p3,p4,p5⟩:=I7.pin _ (List.mem_append_right _ (List.mem_append_right _ hmem))
     refine ⟨m,⟨oC,es,ep,p1,hdC,rC⟩,λh' sb=>wpAny_pure (wpAny_pure ?_)⟩
     refine ⟨σ6,H6,?_,q7⟩
     exact (I7.cS).turned (t':=s6.toks) (it:=s2.heap.objs.size + 1) (λb o hb e=>(sb.2 b hb).trans e) p2 p3 fk.2.2.2.1 fk.2.2.2.2.1 fk.2.2.2.2.2
   · refine thn (T.item (aE X s2 H2 scope N fp) rfl rfl rfl hc i [] s3 σ3 H3 _ I3 (stat fr3) st3 go) λr s4 ⟨u,hr,h4⟩=>?_
     subst hr
     refine thn h4 λ_ s5 ⟨x,H5,I5,r5,y5,st5,fr5⟩=>?_
     have I5':=I5.pinned (stat fr5) (T.obj _ _ st5)
     refine thn (hg _ s5 σ3 H5 x u _ I5' r5 (step x H5 y5)) λ_ s6 ⟨σ6,H6,I6,q6⟩=>?_
     have again:∀ {s7:Shared} {σ7:L2.St} {H7:Hp} {m':Nat},Inv (aE X s2 H2 scope N fp) ([]++fb fp s5.heap) σ7 H7 s7->m' < n->Z (i + 1) m' σ7 H7 ->
         ∃ m,m < n/\∃ i σ' H',Inv (aE X s2 H2 scope N fp) [] σ' H' s7/\tn i s7.heap/\(∀ b ∈ fp,H' b=none)/\Z i m σ' H':=λ{s7 σ7 H7 m'} I7 hm z7=>by
       refine ⟨m',hm,i + 1,σ7,H7,I7.cS,T.keep _ _ _ st5 λb hb o e=>(I7.pin (b,o) (List.mem_append_right _ (List.mem_append_right _ (bQ hb e)))).1,λb hb=>?_,z7⟩
       obtain ⟨o,e,d⟩:=T.obj _ _ st5 b hb
       exact (I7.pin (b,o) (List.mem_append_right _ (List.mem_append_right _ (bQ hb e)))).2.1
     refine thn (ht _ s6 σ6 H6 _ I6 q6) λok s7 ⟨H7,I7,q7⟩=>?_
     cases ok with
     | false=>
       rw [if_neg (by decide)] at q7
       obtain ⟨m',hm,z7⟩:=q7
       exact again I7 hm z7
     | true=>
       rw [if_pos rfl] at q7
       refine thn (he _ s7 σ6 H7 _ I7 q7) λv' s8 ⟨v,H8,I8,r8,vs,m',q8,l8,hm,z8⟩=>?_
       refine thn (gC (X:=aE X s2 H2 scope N fp) _ s8 σ6 H8 (.ref s2.heap.objs.size) [v] (.ref s2.heap.objs.size) [v'] (λ_ H9=>H9=upd H8 s2.heap.objs.size (.lst (vs++[v]))) I8 rfl (.cons r8 .nil) ⟨_,vs,v,rfl,rfl,q8,l8,rfl⟩) λ_ s9 ⟨_,H9,I9,_,e9⟩=>?_
       subst e9
       exact again I9 hm z8
 exact codeAny_compStart_list loop (T.self _ 0 _ _ _ st4 loop)
end Ev
namespace Hy
open PySem PySem.Spec PyProof.Rows L2
open Ev (D Den ar)
open Classical in
noncomputable def hd (H:Hp) (M:Addr->Prop):Hp:=λb=>if M b then none else H b
theorem aI {H:Hp} {M:Addr->Prop} {b:Addr} {o:HO}:hd H M b=some o ↔ ¬ M b/\H b=some o:=by
 unfold hd
 by_cases h:M b
 · rw [if_pos h]; exact ⟨λz=>(nomatch z),λz=>absurd h z.1⟩
 · rw [if_neg h]; exact ⟨λz=>⟨h,z⟩,λz=>z.2⟩
theorem aD {H H':Hp} {M M':Addr->Prop} (e:aj H H') (m:∀ b,M' b->M b):aj (hd H M) (hd H' M'):=λb _ h=>aI.mpr ⟨λz=>(aI.mp h).1 (m b z),e b _ (aI.mp h).2⟩
theorem aY {H:Hp} {M:Addr->Prop}:aj (hd H M) H:=λ_ _ h=>(aI.mp h).2
inductive Nd where
 | d (x:D) | l (xs:List Nd) | t (xs:List Nd)
structure Ex where
 p:PySem.W.Frag->Hp->HO->Addr->Prop
 mono:∀ {K:PySem.W.Frag} {G G':Hp} {o:HO} {a:Addr},aj G G'->p K G o a->p K G' o a
 ext:∀ {K:PySem.W.Frag} {G:Hp} {o:HO} {a:Addr},p K G o a->(∃ φ,o=.ext φ)\/(∃ ob φ,o=.frz ob (.ext φ))\/∃ kvs,o=.dK kvs\/∃ ob,o=.frz ob (.dK kvs)
inductive Sl where
 | un | d (x:D) | o (xs:List D) | n (t:Nd) | x (E:Ex)
mutual
inductive cD (K:PySem.W.Frag) (G H:Hp):V->List Addr->Nd->Prop where
 | d {u:V} {x:D} (h:Den K G u x):cD K G H u [] (.d x)
 | l {a:Addr} {vs:List V} {bs:List Addr} {xs:List Nd} (h:H a=some (.lst vs)) (r:aW K G H vs bs xs):cD K G H (.ref a) (a :: bs) (.l xs)
 | t {a:Addr} {vs:List V} {bs:List Addr} {xs:List Nd} (h:H a=some (.tup vs)) (r:aW K G H vs bs xs):cD K G H (.ref a) (a :: bs) (.t xs)
inductive aW (K:PySem.W.Frag) (G H:Hp):List V->List Addr->List Nd->Prop where
 | nil:aW K G H [] [] []
 | cons {v:V} {vs:List V} {b1 b2:List Addr} {s:Nd} {ss:List Nd} (h:cD K G H v b1 s) (r:aW K G H vs b2 ss):aW K G H (v :: vs) (b1++b2) (s :: ss)
end
noncomputable def cg (K:PySem.W.Frag) (G H:Hp) (v:Option V) (bs:List Addr):Sl->Prop
 | .un=>bs=[]
 | .d x=>bs=[]/\∃ u,v=some u/\Den K G u x
 | .o xs=>∃ a vs,bs=[a]/\v=some (.ref a)/\H a=some (.lst vs)/\ar K G vs xs
 | .n t=>bs.Nodup/\∃ u,v=some u/\cD K G H u bs t
 | .x E=>∃ a o,bs=[a]/\v=some (.ref a)/\H a=some o/\E.p K G o a
section
variable {K:PySem.W.Frag} {G G' H H':Hp}
mutual
theorem cD.frame (g:aj G G'):∀ {u:V} {bs:List Addr} {t:Nd},(∀ b ∈ bs,H' b=H b)->cD K G H u bs t->cD K G' H' u bs t
 | _,_,_,_,.d h=>.d (h.mono g)
 | _,_,_,e,.l h r=>.l (by rw [e _ (List.mem_cons_self ..)]; exact h) (aW.frame g (λb hb=>e b (List.mem_cons_of_mem _ hb)) r)
 | _,_,_,e,.t h r=>.t (by rw [e _ (List.mem_cons_self ..)]; exact h) (aW.frame g (λb hb=>e b (List.mem_cons_of_mem _ hb)) r)
theorem aW.frame (g:aj G G'):∀ {vs:List V} {bs:List Addr} {xs:List Nd},(∀ b ∈ bs,H' b=H b)->aW K G H vs bs xs->aW K G' H' vs bs xs
 | _,_,_,_,.nil=>.nil
 | _,_,_,e,.cons h r=>.cons (cD.frame g (λb hb=>e b (List.mem_append_left _ hb)) h) (aW.frame g (λb hb=>e b (List.mem_append_right _ hb)) r)
end
mutual
theorem cD.some_of:∀ {u:V} {bs:List Addr} {t:Nd},cD K G H u bs t->∀ b ∈ bs,∃ o,H b=some o
 | _,_,_,.d _,_,z=>nomatch z
 | _,_,_,.l h r,b,z=>(List.mem_cons.mp z).elim (λe=>e ▸ ⟨_,h⟩) λz=>aW.some_of r b z
 | _,_,_,.t h r,b,z=>(List.mem_cons.mp z).elim (λe=>e ▸ ⟨_,h⟩) λz=>aW.some_of r b z
theorem aW.some_of:∀ {vs:List V} {bs:List Addr} {xs:List Nd},aW K G H vs bs xs->∀ b ∈ bs,∃ o,H b=some o
 | _,_,_,.nil,_,z=>nomatch z
 | _,_,_,.cons h r,b,z=>(List.mem_append.mp z).elim (λz=>cD.some_of h b z) λz=>aW.some_of r b z
end
theorem cD.mono (g:aj G G') (e:aj H H') {u:V} {bs:List Addr} {t:Nd} (h:cD K G H u bs t):cD K G' H' u bs t:=h.frame g λb hb=>by
 obtain ⟨o,q⟩:=h.some_of b hb
 rw [q,e b o q]
theorem cg.mono (g:aj G G') (e:aj H H') {v:Option V} {bs:List Addr}:∀ {s:Sl},cg K G H v bs s->cg K G' H' v bs s
 | .un,h=>h
 | .d _,⟨h,u,e1,h2⟩=>⟨h,u,e1,h2.mono g⟩
 | .o _,⟨a,vs,h1,h2,h3,h4⟩=>⟨a,vs,h1,h2,e _ _ h3,h4.mono g⟩
 | .n _,⟨h0,u,h1,h2⟩=>⟨h0,u,h1,h2.mono g e⟩
 | .x E,⟨a,o,h1,h2,h3,h4⟩=>⟨a,o,h1,h2,e _ _ h3,E.mono g h4⟩
end
noncomputable def own (A:Addr->Prop) (B:Nat->List Addr) (b:Addr):Prop:=A b\/∃ i,b ∈ B i
noncomputable def vw (C:Bool) (A:Addr->Prop) (B:Nat->List Addr):Addr->Prop:=match C with
 | true=>own A B
 | false=>A
structure Sta (K:PySem.W.Frag) (A:Addr->Prop) (H₀:Hp) (τ:List Sl) (B:Nat->List Addr) (σ:L2.St) (H:Hp):Prop where
 same:aj H₀ H
 len:σ.length=τ.length
 sl:∀ i s,τ[i]?=some s->cg K (hd H (own A B)) H (σ[i]?).join (B i) s
 fr:∀ i b,b ∈ B i->H₀ b=none
 uq:∀ i j b,b ∈ B i->b ∈ B j->i=j
 ad:∀ b,A b->∃ o,H₀ b=some o
 bd:∀ i b,b ∈ B i->∃ o,H b=some o
noncomputable def upB (B:Nat->List Addr) (i:Nat) (bs:List Addr):Nat->List Addr:=λj=>if j=i then bs else B j
section
variable {K:PySem.W.Frag} {A:Addr->Prop} {H₀ H H':Hp} {τ:List Sl} {B:Nat->List Addr} {σ:L2.St}
theorem Sta.dm (S:Sta K A H₀ τ B σ H) (b:Addr) (h:own A B b):∃ o,H b=some o:=h.elim (λz=>let ⟨o,q⟩:=S.ad b z; ⟨o,S.same _ _ q⟩) λ⟨i,z⟩=>S.bd i b z
theorem Sta.mono (S:Sta K A H₀ τ B σ H) (e:aj H H'):Sta K A H₀ τ B σ H' where
 same:=S.same.trans e
 len:=S.len
 sl:=λi s h=>(S.sl i s h).mono (aD e λ_ z=>z) e
 fr:=S.fr
 uq:=S.uq
 ad:=S.ad
 bd:=λi b h=>let ⟨o,q⟩:=S.bd i b h; ⟨o,e _ _ q⟩
theorem bE {i j:Nat} {bs:List Addr} {b:Addr} (h:b ∈ upB B i bs j):(j=i/\b ∈ bs)\/(j ≠ i/\b ∈ B j):=by
 unfold upB at h
 by_cases e:j=i
 · rw [if_pos e] at h; exact .inl ⟨e,h⟩
 · rw [if_neg e] at h; exact .inr ⟨e,h⟩
theorem Sta.set (S:Sta K A H₀ τ B σ H) (e:aj H H') {i:Nat} {v:V} {s:Sl} {bs:List Addr} (hf:∀ b ∈ bs,H b=none/\∃ o,H' b=some o) (h:cg K (hd H' λb=>own A B b\/b ∈ bs) H' (some v) bs s) :
   Sta K A H₀ (τ.set i s) (upB B i bs) (σ.set i (some v)) H':=by
 have sub:∀ b,own A (upB B i bs) b->own A B b\/b ∈ bs:=λb z=>z.elim (λz=>.inl (.inl z)) λ⟨j,z⟩=>(bE z).elim (λz=>.inr z.2) λz=>.inl (.inr ⟨j,z.2⟩)
 have some_of:∀ b j,b ∈ B j->∃ o,H b=some o:=λb j z=>S.dm b (.inr ⟨j,z⟩)
 refine ⟨S.same.trans e,by rw [List.length_set,List.length_set,S.len],λj t hj=>?_,λj b hb=>?_,λj k b h1 h2=>?_,S.ad,λj b hb=>?_⟩
 · by_cases ej:j=i
   · subst ej
     have hl:j < τ.length:=by
       have:=(List.getElem?_eq_some_iff.mp hj).1
       rwa [List.length_set] at this
     rw [List.getElem?_set_self hl] at hj
     cases hj
     rw [List.getElem?_set_self (by rw [S.len]; exact hl)]
     unfold upB
     rw [if_pos rfl]
     exact h.mono (aD (aj.refl _) sub) (aj.refl _)
   · rw [List.getElem?_set_ne (λz=>ej z.symm)] at hj
     rw [List.getElem?_set_ne (λz=>ej z.symm)]
     unfold upB
     rw [if_neg ej]
     have q:=S.sl j t hj
     refine q.mono (λb o z=>?_) e
     obtain ⟨z1,z2⟩:=aI.mp z
     refine aI.mpr ⟨λy=>?_,e _ _ z2⟩
     rcases sub b y with y | y
     · exact z1 y
     · rw [(hf b y).1] at z2; cases z2
 · rcases bE hb with ⟨_,z⟩ | ⟨_,z⟩
   · exact S.same.free (hf b z).1
   · exact S.fr j b z
 · rcases bE h1 with ⟨e1,z1⟩ | ⟨e1,z1⟩ <;> rcases bE h2 with ⟨e2,z2⟩ | ⟨e2,z2⟩
   · exact e1.trans e2.symm
   · obtain ⟨o,q⟩:=some_of b k z2; rw [(hf b z1).1] at q; cases q
   · obtain ⟨o,q⟩:=some_of b j z1; rw [(hf b z2).1] at q; cases q
   · exact S.uq j k b z1 z2
 · rcases bE hb with ⟨_,z⟩ | ⟨_,z⟩
   · exact (hf b z).2
   · obtain ⟨o,q⟩:=S.bd j b z; exact ⟨o,e _ _ q⟩
theorem Sta.less (S:Sta K A H₀ τ B σ H) {i:Nat} {s:Sl} {bs:List Addr} (hb:∀ b ∈ bs,b ∈ B i) (h:∀ G:Hp,aj (hd H (own A B)) G->(∀ b o,b ∈ B i->b ∉ bs->H b=some o->G b=some o)->cg K G H (σ[i]?).join bs s):Sta K A H₀ (τ.set i s) (upB B i bs) σ H:=by
 have sub:∀ b,own A (upB B i bs) b->own A B b:=λb z=>z.elim .inl λ⟨j,z⟩=>(bE z).elim (λz=>.inr ⟨i,hb b z.2⟩) λz=>.inr ⟨j,z.2⟩
 refine ⟨S.same,by rw [List.length_set,S.len],λj t hj=>?_,λj b h=>?_,λj k b h1 h2=>?_,S.ad,λj b h=>(bE h).elim (λz=>S.bd i b (hb b z.2)) λz=>S.bd j b z.2⟩
 · by_cases ej:j=i
   · subst ej
     have hl:j < τ.length:=by
       have:=(List.getElem?_eq_some_iff.mp hj).1
       rwa [List.length_set] at this
     rw [List.getElem?_set_self hl] at hj
     cases hj
     unfold upB
     rw [if_pos rfl]
     refine h _ (aD (aj.refl _) sub) λb o z1 z2 z3=>aI.mpr ⟨λy=>?_,z3⟩
     rcases y with y | ⟨m,y⟩
     · obtain ⟨_,q⟩:=S.ad b y
       rw [S.fr j b z1] at q; cases q
     · rcases bE y with ⟨e,y⟩ | ⟨e,y⟩
       · exact z2 y
       · exact e (S.uq m j b y z1)
   · rw [List.getElem?_set_ne (λz=>ej z.symm)] at hj
     unfold upB
     rw [if_neg ej]
     exact (S.sl j t hj).mono (aD (aj.refl _) sub) (aj.refl _)
 · rcases bE h with ⟨e,z⟩ | ⟨_,z⟩
   · exact S.fr i b (hb b z)
   · exact S.fr j b z
 · rcases bE h1 with ⟨e1,z1⟩ | ⟨e1,z1⟩ <;> rcases bE h2 with ⟨e2,z2⟩ | ⟨e2,z2⟩
   · exact e1.trans e2.symm
   · exact absurd (S.uq k i b z2 (hb b z1)) e2
   · exact absurd (S.uq j i b z1 (hb b z2)) e1
   · exact S.uq j k b z1 z2
end
end Hy
namespace Hy
open PySem PySem.Spec PyProof.Rows L2
open Ev (D Den ar aN aK aq a7 aL)
noncomputable def Fr (H H':Hp) (bs:List Addr):Prop:=∀ b ∈ bs,H b=none/\∃ o,H' b=some o
noncomputable def dE (K:PySem.W.Frag) (C:Bool) (τ:List Sl) (s:Sl):TE:=λσ H Q=>∃ A H₀ B,Sta K A H₀ τ B σ H /\
 ∀ v H' bs,aj H H'->Fr H H' bs->cg K (hd H' λb=>vw C A B b\/b ∈ bs) H' (some v) bs s->Q v H'
noncomputable def dA (K:PySem.W.Frag) (C:Bool) (τ:List Sl) (ds:List D):TA:=λσ H Q=>∃ A H₀ B,Sta K A H₀ τ B σ H /\
 ∀ vs H',aj H H'->ar K (hd H' (vw C A B)) vs ds->Q vs H'
noncomputable def dT (K:PySem.W.Frag) (τ:List Sl) (c:Bool):TT:=λσ H Q=>∃ A H₀ B,Sta K A H₀ τ B σ H/\∀ H',aj H H'->Q c H'
structure Po where
 nx:List Sl->Prop
 rt:Sl->Prop
 bk:List Sl->Prop:=λ_=>False
 ct:List Sl->Prop:=λ_=>False
 xc:Hp->Prop:=λ_=>True
structure Meets (K:PySem.W.Frag) (A:Addr->Prop) (H₀:Hp) (N:Po) (D:Ends):Prop where
 nx:∀ τ B σ H,N.nx τ->Sta K A H₀ τ B σ H->D.nx σ H
 bk:∀ τ B σ H,N.bk τ->Sta K A H₀ τ B σ H->D.bk σ H
 ct:∀ τ B σ H,N.ct τ->Sta K A H₀ τ B σ H->D.ct σ H
 rt:∀ v H bs s,N.rt s->aj H₀ H->Fr H₀ H bs->cg K (hd H λb=>A b\/b ∈ bs) H (some v) bs s->D.rt v H
 xc:∀ H,aj H₀ H->N.xc H
noncomputable def dS (K:PySem.W.Frag) (τ:List Sl) (N:Po):TS:=λD σ H=>∃ A H₀ B,Sta K A H₀ τ B σ H/\Meets K A H₀ N D
theorem peW {X:Cx} {e:Expr} {t t':TE} (h:PE X e t) (f:∀ σ H Q,t' σ H Q->t σ H Q):PE X e t':=λpins s σ H Q I q=>h pins s σ H Q I (f σ H Q q)
theorem ptW {X:Cx} {e:Expr} {t t':TT} (h:PT X e t) (f:∀ σ H Q,t' σ H Q->t σ H Q):PT X e t':=λpins s σ H Q I q=>h pins s σ H Q I (f σ H Q q)
theorem pwW {X:Cx} {e:Expr} {t t':TT} (h:PW X e t) (f:∀ σ H Q,t' σ H Q->t σ H Q):PW X e t':=λwh pins s σ H Q I q=>h wh pins s σ H Q I (f σ H Q q)
theorem paW {X:Cx} {e:List Expr} {t t':TA} (h:PA X e t) (f:∀ σ H Q,t' σ H Q->t σ H Q):PA X e t':=λp pins s σ H Q I q=>h p pins s σ H Q I (f σ H Q q)
theorem psW {X:Cx} {e:Stmt} {t t':TS} (h:PS X e t) (f:∀ D σ H,t' D σ H->t D σ H):PS X e t':=λpins s σ H D I q=>h pins s σ H D I (f D σ H q)
theorem r9 {X:Cx} {e:List Stmt} {t t':TS} (h:PSs X e t) (f:∀ D σ H,t' D σ H->t D σ H):PSs X e t':=λpins s σ H D I q=>h pins s σ H D I (f D σ H q)
section
variable {K:PySem.W.Frag} {C:Bool} {τ:List Sl} {A:Addr->Prop} {H₀ H H':Hp} {B:Nat->List Addr} {σ:L2.St} {x y z:D} {Q:VK}
theorem mf {b:Addr} (h:vw C A B b):own A B b:=by
 cases C with
 | true=>exact h
 | false=>exact .inl h
theorem Sta.vd (S:Sta K A H₀ τ B σ H) (b:Addr) (h:vw C A B b):∃ o,H b=some o:=S.dm b (mf h)
theorem bg (S:Sta K A H₀ τ B σ H) (k:∀ v H',aj H H'->Den K (hd H' (vw C A B)) v x->Q v H'):dE K C τ (.d x) σ H Q:=
 ⟨A,H₀,B,S,λv H' bs e _ ⟨hb,u,eu,h⟩=>by
   cases eu
   exact k v H' e (h.mono (aD (aj.refl _) λ_ z=>.inl z))⟩
theorem fX (h:dE K C τ (.d x) σ H Q):∃ A H₀ B,Sta K A H₀ τ B σ H/\∀ v H',aj H H'->Den K (hd H' (vw C A B)) v x->Q v H':=by
 obtain ⟨A,H₀,B,S,k⟩:=h
 exact ⟨A,H₀,B,S,λv H' e d=>k v H' [] e (λ_ z=>nomatch z) ⟨rfl,v,rfl,d.mono (aD (aj.refl _) λ_ z=>z.elim id λz=>nomatch z)⟩⟩
theorem c8 {ds:List D} {Q:List V->Hp->Prop} (S:Sta K A H₀ τ B σ H) (k:∀ vs H',aj H H'->ar K (hd H' (vw C A B)) vs ds->Q vs H'):dA K C τ ds σ H Q:=⟨A,H₀,B,S,k⟩
theorem kF {M:Addr->Prop} {p:Addr} {o:HO} (hM:∀ b,M b->∃ o,H b=some o) (hp:H p=none):hd (upd H p o) M p=some o:=
 aI.mpr ⟨λz=>(by obtain ⟨o,q⟩:=hM p z; rw [hp] at q; cases q),aX⟩
mutual
noncomputable def ndD:Nd->D
 | .d x=>x
 | .l xs=>.lst (tL xs)
 | .t xs=>.tup (tL xs)
noncomputable def tL:List Nd->List D
 | []=>[]
 | x :: xs=>ndD x :: tL xs
end
noncomputable def fzD:Sl->Option D
 | .un=>none
 | .d x=>some x
 | .o xs=>some (.lst xs)
 | .n t=>some (ndD t)
 | .x _=>none
mutual
theorem cD.den {G G':Hp} (g:aj G G'):∀ {u:V} {bs:List Addr} {t:Nd},(∀ b ∈ bs,∀ o,H b=some o->G' b=some o)->cD K G H u bs t->Den K G' u (ndD t)
 | _,_,_,_,.d h=>h.mono g
 | _,_,_,e,.l h r=>.lst (SqL.of (e _ (List.mem_cons_self ..) _ h)) (aW.den g (λb hb=>e b (List.mem_cons_of_mem _ hb)) r)
 | _,_,_,e,.t h r=>.tup (SqT.of (e _ (List.mem_cons_self ..) _ h)) (aW.den g (λb hb=>e b (List.mem_cons_of_mem _ hb)) r)
theorem aW.den {G G':Hp} (g:aj G G'):∀ {vs:List V} {bs:List Addr} {xs:List Nd},(∀ b ∈ bs,∀ o,H b=some o->G' b=some o)->aW K G H vs bs xs->ar K G' vs (tL xs)
 | _,_,_,_,.nil=>.nil
 | _,_,_,e,.cons h r=>.cons (cD.den g (λb hb=>e b (List.mem_append_left _ hb)) h) (aW.den g (λb hb=>e b (List.mem_append_right _ hb)) r)
end
theorem cg.den {G G':Hp} {v:Option V} {bs:List Addr} {s:Sl} (h:cg K G H v bs s) (g:aj G G') (hv:∀ b ∈ bs,∀ o,H b=some o->G' b=some o) (e:fzD s=some x):∃ u,v=some u/\Den K G' u x:=by
 cases s with
 | un=>cases e
 | d y=>cases e; obtain ⟨_,u,e,q⟩:=h; exact ⟨u,e,q.mono g⟩
 | o xs=>
   cases e
   obtain ⟨a,vs,rfl,h2,h3,h4⟩:=h
   exact ⟨_,h2,.lst (SqL.of (hv a (List.mem_cons_self ..) _ h3)) (h4.mono g)⟩
 | n t=>
   cases e
   obtain ⟨_,u,e,q⟩:=h
   exact ⟨u,e,q.den g hv⟩
 | x E=>cases e
theorem slot_of {i:Nat} {u:V} (h:(σ[i]?).join=some u):σ[i]?=some (some u):=by
 cases e:σ[i]? with
 | none=>rw [e] at h; cases h
 | some o=>rw [e] at h; exact congrArg some h
end
section
variable {X:Cx} {C:Bool} {τ:List Sl} {x y z:D} {a b e:Expr} {es:List Expr} {pos:Pos}
theorem ae (i:Nat) {n:Str} {x:D} (h:τ[i]?=some (.d x):=by rfl) (hN:X.N[i]?=some n:=by rfl) (hv:Vis X.env.scope n:=by first | exact Or.inl rfl | exact Or.inr (Or.inl rfl) | exact Or.inr (Or.inr rfl))
   (hd:(n == ("__debug__" : Str))=false:=by decide) (hcd:(n == ("__classdict__" : Str))=false:=by decide):PE X (.Name n pos) (dE X.K C τ (.d x)):=peW (dr hN hv hd hcd) λσ H Q q=>by
 obtain ⟨A,H₀,B,S,k⟩:=fX q
 obtain ⟨_,u,e,d⟩:=S.sl i _ h
 exact ⟨u,slot_of e,k u H (aj.refl _) (d.mono (aD (aj.refl _) λ_ z=>mf z))⟩
theorem k7 {v:V} (h:PE X e (tC v)) (d:∀ H,Den X.K H v x):PE X e (dE X.K C τ (.d x)):=peW h λσ H Q q=>by
 obtain ⟨A,H₀,B,S,k⟩:=fX q
 exact k v H (aj.refl _) (d _)
theorem ag {i j}:PE X (.Constant (.int i) j pos) (dE X.K C τ (.d (.int i))):=k7 wg λ_=>.int
theorem fj {b j}:PE X (.Constant (.bool b) j pos) (dE X.K C τ (.d (.bl b))):=k7 yk λ_=>.bl
theorem kO {j}:PE X (.Constant .none j pos) (dE X.K C τ (.d .non)):=k7 uI λ_=>.non
theorem aU {s j}:PE X (.Constant (.str s) j pos) (dE X.K C τ (.d (.str s))):=k7 vb λ_=>.str
theorem qz {n:Str} {i:Int} (hm:∃ t,X.mg n=some (.int i t)) (hg:Gl X n:=by rfl) (hd:(n == ("__debug__" : Str))=false:=by decide):PE X (.Name n pos) (dE X.K C τ (.d (.int i))):=by
 obtain ⟨t,hm⟩:=hm
 exact k7 (nB (v:=.int i) hg hm ⟨t,rfl⟩ hd) λ_=>.int
theorem aM {s:Sl} (h:PE X e (dE X.K C τ s)) (hx:fzD s=some x:=by rfl):PE X e (dE X.K C τ (.d x)):=peW h λσ H Q q=>by
 obtain ⟨A,H₀,B,S,k⟩:=fX q
 refine ⟨A,H₀,B,S,λv H' bs e hf q=>?_⟩
 have vd:=S.vd (C:=C)
 obtain ⟨u,e1,d⟩:=q.den (G':=Hy.hd H' (vw C A B)) (aD (aj.refl _) λ_ z=>.inl z) (λb hb o ho=>aI.mpr ⟨λz=>(by obtain ⟨_,q⟩:=vd b z; rw [(hf b hb).1] at q; cases q),ho⟩) hx
 cases e1
 exact k v H' e d
noncomputable def flat:D->Bool
 | .tup _=>false
 | .lst _=>false
 | .box _=>false
 | _=>true
theorem iw {K:PySem.W.Frag} {G G':Hp} {v:V} (h:Den K G v x) (f:flat x=true):Den K G' v x:=by
 cases h with
 | non=>exact .non
 | bl=>exact .bl
 | int=>exact .int
 | str=>exact .str
 | tup _ _=>cases f
 | lst _ _=>cases f
 | box _=>cases f
noncomputable def cE (X:Cx) (f:Value->Value->Sem Value) (x y z:D):Prop:=∃ r:R2,OpR X f r /\
 ∀ (M:Addr->Prop) (v w:V) (H:Hp) (Q:VK),(∀ b,M b->∃ o,H b=some o)->Den X.K (hd H M) v x->Den X.K (hd H M) w y->(∀ u H',aj H H'->Den X.K (hd H' M) u z->Q u H')->r v w H Q
theorem two {r:R2} (hr:∀ (M:Addr->Prop) (v w:V) (H:Hp) (Q:VK),(∀ b,M b->∃ o,H b=some o)->Den X.K (hd H M) v x->Den X.K (hd H M) w y->(∀ u H',aj H H'->Den X.K (hd H' M) u z->Q u H')->r v w H Q) :
   ∀ σ H Q,dE X.K C τ (.d z) σ H Q->tOp r (dE X.K C τ (.d x)) (dE X.K C τ (.d y)) σ H Q:=by
 intro σ H Q h
 obtain ⟨A,H₀,B,S,k⟩:=fX h
 refine bg S λv H1 e1 d1=>bg (S.mono e1) λw H2 e2 d2=>hr (vw C A B) v w H2 Q ((S.mono e1).mono e2).vd (d1.mono (aD e2 λ_ z=>z)) d2 λu H' e3 d3=>k u H' (e1.trans (e2.trans e3)) d3
theorem aC {op:Operator} (ha:PE X a (dE X.K C τ (.d x))) (hb:PE X b (dE X.K C τ (.d y))) (ho:cE X (binaryOp op) x y z):PE X (.BinOp a op b pos) (dE X.K C τ (.d z)):=by
 obtain ⟨r,h1,h2⟩:=ho
 exact peW (uk h1 ha hb) (two h2)
theorem cA {op:CmpOp} (ha:PE X a (dE X.K C τ (.d x))) (hb:PE X b (dE X.K C τ (.d y))) (ho:cE X (compareOp op) x y z) (hm:behindInMarks op b=false:=by first | exact qw _ | rfl):PE X (.Compare a [op] [b] pos) (dE X.K C τ (.d z)):=by
 obtain ⟨r,h1,h2⟩:=ho
 exact peW (tY h1 ha hb hm) (two h2)
theorem qt {t:TE} {c:Bool} (h:∀ σ H Q,dE X.K false τ (.d (.bl c)) σ H Q->t σ H Q):∀ σ H Q,dT X.K τ c σ H Q->t σ H λx H'=>∃ k,x=.bl k/\Q k H':=λσ H Q ⟨A,H₀,B,S,k⟩=>
 h σ H _ (bg S λv H' e d=>by cases d; exact ⟨c,rfl,k H' e⟩)
theorem aH {op:CmpOp} {c:Bool} (ha:PE X a (dE X.K false τ (.d x))) (hb:PE X b (dE X.K false τ (.d y))) (ho:cE X (compareOp op) x y (.bl c)) (hm:behindInMarks op b=false:=by first | exact qw _ | rfl):PT X (.Compare a [op] [b] pos) (dT X.K τ c):=by
 obtain ⟨r,h1,h2⟩:=ho
 exact ptW (tX h1 ha hb hm) (qt (two h2))
theorem aR {c:Bool} (h:PE X e (dE X.K false τ (.d (.bl c)))) (he:∀ whole,isTrue e X.env whole=(do let v <- whole; standAt e.pos; holding [v] (truthy v)):=by intro _; rfl):PT X e (dT X.K τ c):=
 ptW (wB h he) (qt λ_ _ _ q=>q)
theorem lN {g:Int->Int->V} {P:Int->Int->Prop} {i j:Int} (hc:P i j) (hz:∀ K H,Den K H (g i j) z):∀ (M:Addr->Prop) (v w:V) (H:Hp) (Q:VK),(∀ b,M b->∃ o,H b=some o)->Den X.K (hd H M) v (.int i)->Den X.K (hd H M) w (.int j) ->
   (∀ u H',aj H H'->Den X.K (hd H' M) u z->Q u H')->rI P g v w H Q:=λ_ v w H Q _ d1 d2 k=>by
 cases d1
 cases d2
 exact ⟨i,j,rfl,rfl,hc,k _ H (aj.refl _) (hz _ _)⟩
theorem iT {g:Int->Int->V} {i j:Int} (hz:∀ K H,Den K H (g i j) z):∀ (M:Addr->Prop) (v w:V) (H:Hp) (Q:VK),(∀ b,M b->∃ o,H b=some o)->Den X.K (hd H M) v (.int i)->Den X.K (hd H M) w (.int j) ->
   (∀ u H',aj H H'->Den X.K (hd H' M) u z->Q u H')->rI0 g v w H Q:=λ_ v w H Q _ d1 d2 k=>by
 cases d1
 cases d2
 exact ⟨i,j,rfl,rfl,k _ H (aj.refl _) (hz _ _)⟩
variable {i j:Int}
theorem bX:cE X (binaryOp .Add) (.int i) (.int j) (.int (i + j)):=⟨_,vg,iT λ_ _=>.int⟩
theorem fJ:cE X (binaryOp .Sub) (.int i) (.int j) (.int (i - j)):=⟨_,uD,iT λ_ _=>.int⟩
theorem yh:cE X (binaryOp .BitAnd) (.int i) (.int j) (.int (Builtin.bitAnd i j)):=⟨_,vJ,iT λ_ _=>.int⟩
theorem aN.ok' {i j:Int} (h:aN i j):IntMulOk i j:=by
 have b:∀ {k:Int} {n:Nat},k.natAbs.log2 < n->Builtin.Int.intBits k<=n:=λ{k n} q=>by
   unfold Builtin.Int.intBits
   split
   · exact Nat.zero_le _
   · exact q
 rcases h with h | h | ⟨h1,h2⟩
 · exact .of_left (b h)
 · exact .of_right (b h)
 · exact .of_bits (Nat.le_trans (b h1) (by decide)) (Nat.le_trans (b h2) (by decide))
theorem bR (h:aN i j):cE X (binaryOp .Mult) (.int i) (.int j) (.int (i * j)):=⟨rI aN λi j=>.int (i * j),opI λ_ _ _ _ _ _ _ hc q=>mul_int q (aN.ok' hc),lN h λ_ _=>.int⟩
theorem bW (h:aK j):cE X (binaryOp .FloorDiv) (.int i) (.int j) (.int (i.fdiv j)):=⟨rI (λ_ j=>aK j) λi j=>.int (i.fdiv j),opI λ_ _ _ _ _ _ _ hc q=>floordiv_int hc.1 q (.inl (PyProof.noPylong_of_log2 hc.2)),lN h λ_ _=>.int⟩
theorem bM (h:j ≠ 0):cE X (binaryOp .Mod) (.int i) (.int j) (.int (i.fmod j)):=⟨_,sN,lN h λ_ _=>.int⟩
theorem fH (h:xD i j):cE X (binaryOp .Pow) (.int i) (.int j) (.int (i ^ j.toNat)):=⟨_,wa,lN h λ_ _=>.int⟩
theorem xr (h:0<=j):cE X (binaryOp .RShift) (.int i) (.int j) (.int (i / 2 ^ j.toNat)):=⟨_,u3,lN h λ_ _=>.int⟩
theorem mJ:cE X (compareOp .Lt) (.int i) (.int j) (.bl (decide (i < j))):=⟨_,xQ,iT λ_ _=>.bl⟩
theorem sZ:cE X (compareOp .LtE) (.int i) (.int j) (.bl (decide (i<=j))):=⟨_,ye,iT λ_ _=>.bl⟩
theorem xA:cE X (compareOp .Gt) (.int i) (.int j) (.bl (decide (j < i))):=⟨_,xC,iT λ_ _=>.bl⟩
theorem pG:cE X (compareOp .GtE) (.int i) (.int j) (.bl (decide (j<=i))):=⟨_,yi,iT λ_ _=>.bl⟩
theorem bt:cE X (compareOp .Eq) (.int i) (.int j) (.bl (decide (i=j))):=⟨_,wR,λ_ v w H Q _ d1 d2 k=>by
 cases d1
 cases d2
 exact ⟨rfl,by rw [show decide (V.int i=V.int j)=decide (i=j) by simp]; exact k _ H (aj.refl _) .bl⟩⟩
theorem ly:cE X (compareOp .NotEq) (.int i) (.int j) (.bl (!decide (i=j))):=⟨_,um,λ_ v w H Q _ d1 d2 k=>by
 cases d1
 cases d2
 exact ⟨rfl,by rw [show decide (V.int i=V.int j)=decide (i=j) by simp]; exact k _ H (aj.refl _) .bl⟩⟩
theorem i4 (h:PE X a (dE X.K C τ (.d (.int i)))):PE X (.UnaryOp .USub a pos) (dE X.K C τ (.d (.int (-i)))):=peW (wQ vA h) λσ H Q q=>by
 obtain ⟨A,H₀,B,S,k⟩:=fX q
 refine bg S λv H1 e1 d1=>?_
 cases d1
 exact ⟨i,rfl,k _ H1 e1 .int⟩
theorem xf {e:Expr}:PE X e λ_ _ _=>False:=λ_ _ _ _ _ _ h=>h.elim
theorem pw_no {e:Expr}:PW X e λ_ _ _=>False:=λ_ _ _ _ _ _ _ h=>h.elim
variable {p q:Bool} {c:Expr} {rest:List Expr}
theorem eF {op} {s:Sl} (h:PE X a (dE X.K C τ s)):PE X (.BoolOp op [a] pos) (dE X.K C τ s):=vD h
theorem cB (ha:PE X a (dE X.K C τ (.d (.bl p)))) (hb:p=true->PE X (.BoolOp .And (b :: rest) pos) (dE X.K C τ (.d (.bl q)))):PE X (.BoolOp .And (a :: b :: rest) pos) (dE X.K C τ (.d (.bl (p && q)))):=by
 cases p with
 | false=>
   refine peW (qi ha xf) λσ H Q z=>?_
   obtain ⟨A,H₀,B,S,k⟩:=fX z
   exact bg S λv H' e d=>by cases d; exact ⟨_,rfl,k _ H' e .bl⟩
 | true=>
   refine peW (qi ha (hb rfl)) λσ H Q z=>?_
   obtain ⟨A,H₀,B,S,k⟩:=fX z
   exact bg S λv H' e d=>by cases d; exact ⟨_,rfl,bg (S.mono e) λv H2 e2 d2=>k v H2 (e.trans e2) d2⟩
theorem uv (ha:PE X a (dE X.K C τ (.d (.bl p)))):PE X (.UnaryOp .Not a pos) (dE X.K C τ (.d (.bl (!p)))):=peW (uQ ha) λσ H Q z=>by
 obtain ⟨A,H₀,B,S,k⟩:=fX z
 exact bg S λv H' e d=>by cases d; exact ⟨_,rfl,k _ H' e .bl⟩
theorem cX (ha:PT X a (dT X.K τ p)):PW X (.BoolOp .Or [a] pos) (dT X.K τ p):=pw_or1 ha
theorem cG (ha:PT X a (dT X.K τ p)) (hb:p=false->PW X (.BoolOp .Or (b :: rest) pos) (dT X.K τ q)):PW X (.BoolOp .Or (a :: b :: rest) pos) (dT X.K τ (p || q)):=by
 cases p with
 | true=>exact pwW (pw_or ha pw_no) λσ H Q ⟨A,H₀,B,S,k⟩=>⟨A,H₀,B,S,λH' e=>tP (k H' e)⟩
 | false=>exact pwW (pw_or ha (hb rfl)) λσ H Q ⟨A,H₀,B,S,k⟩=>⟨A,H₀,B,S,λH' e=>sA (⟨A,H₀,B,S.mono e,λH2 e2=>k H2 (e.trans e2)⟩)⟩
theorem aV (ha:PT X a (dT X.K τ p)):PT X (.UnaryOp .Not a pos) (dT X.K τ (!p)):=ptW (v5 ha) λσ H Q ⟨A,H₀,B,S,k⟩=>⟨A,H₀,B,S,λH' e=>k H' e⟩
theorem nP {op op':CmpOp} (ha:PE X a (dE X.K C τ (.d x))) (hb:PE X b (dE X.K C τ (.d y))) (hc:PE X c (dE X.K C τ (.d z))) (h1:cE X (compareOp op) x y (.bl p)) (h2:cE X (compareOp op') y z (.bl q))
   (hm:lastMarks [op,op'] [b,c]=false:=by with_unfolding_all rfl):PE X (.Compare a [op,op'] [b,c] pos) (dE X.K C τ (.d (.bl (p && q))))/\(C=false->PT X (.Compare a [op,op'] [b,c] pos) (dT X.K τ (p && q))):=by
 obtain ⟨r,o1,k1⟩:=h1
 obtain ⟨r',o2,k2⟩:=h2
 have key:∀ σ H Q,dE X.K C τ (.d (.bl (p && q))) σ H Q->mr r r' (dE X.K C τ (.d x)) (dE X.K C τ (.d y)) (dE X.K C τ (.d z)) σ H Q:=λσ H Q h=>by
   obtain ⟨A,H₀,B,S,k⟩:=fX h
   refine bg S λv H1 e1 d1=>bg (S.mono e1) λw H2 e2 d2=>k1 (vw C A B) v w H2 _ ((S.mono e1).mono e2).vd (d1.mono (aD e2 λ_ z=>z)) d2 λu H3 e3 d3=>?_
   cases d3
   refine ⟨p,rfl,?_⟩
   cases p with
   | false=>exact sA (k _ H3 (e1.trans (e2.trans e3)) .bl)
   | true=>exact tP (bg (((S.mono e1).mono e2).mono e3) λw' H4 e4 d4=>k2 (vw C A B) w w' H4 Q ((((S.mono e1).mono e2).mono e3).mono e4).vd (d2.mono (aD (e3.trans e4) λ_ z=>z)) d4 λu H5 e5 d5=>k u H5 (e1.trans (e2.trans (e3.trans (e4.trans e5)))) d5)
 exact ⟨peW (qR o1 o2 ha hb hc hm) key,λhC=>by subst hC; exact ptW (qQ o1 o2 ha hb hc hm) (qt key)⟩
theorem af:PA X [] (dA X.K C τ []):=paW er λσ H Q ⟨A,H₀,B,S,k⟩=>k [] H (aj.refl _) .nil
theorem aa {ds:List D} (ha:PE X e (dE X.K C τ (.d x))) (hr:PA X es (dA X.K C τ ds)) (hs:starEach (e :: es) X.env=(false,eval e X.env) :: starEach es X.env:=by rfl):PA X (e :: es) (dA X.K C τ (x :: ds)):=paW (bO ha hr hs) λσ H Q ⟨A,H₀,B,S,k⟩=>
 bg S λv H1 e1 d1=>c8 (S.mono e1) λvs H2 e2 d2=>k _ H2 (e1.trans e2) (.cons (d1.mono (aD e2 λ_ z=>z)) d2)
theorem eK {ds:List D} {m} (h:PA X es (dA X.K C τ ds)) (hl:Nat.ble ds.length 1000=true:=by rfl):PE X (.Tuple es m pos) (dE X.K C τ (.d (.tup ds))):=peW (uP h) λσ H Q q=>by
 obtain ⟨A,H₀,B,S,k⟩:=fX q
 refine c8 S λvs H1 e1 d1=>⟨by rw [d1.length]; exact Nat.le_of_lt (jB (Nat.le_of_ble_eq_true hl)),λp hp=>k _ _ (e1.trans (aq hp _)) ?_⟩
 exact .tup (SqT.of (kF (S.mono e1).vd hp)) (d1.mono (aD (aq hp _) λ_ z=>z))
theorem ba {ds:List D} (h:PA X es (dA X.K C τ ds)) (hl:Nat.ble ds.length 1000=true:=by rfl):PE X (.List es pos) (dE X.K C τ (.o ds)):=peW (u4 h) λσ H Q ⟨A,H₀,B,S,k⟩=>
 c8 S λvs H1 e1 d1=>⟨by rw [d1.length]; exact Nat.le_of_lt (jB (Nat.le_of_ble_eq_true hl)),λp hp=>k _ _ [p] (e1.trans (aq hp _)) (λb hb=>by
   obtain rfl:=List.mem_singleton.mp hb
   exact ⟨e1.free hp,_,aX⟩) ⟨p,vs,rfl,rfl,aX,d1.mono λb o z=>by
     obtain ⟨z1,z2⟩:=aI.mp z
     refine aI.mpr ⟨λy=>?_,aq hp _ _ _ z2⟩
     rcases y with y | y
     · exact z1 y
     · rw [List.mem_singleton.mp y] at z2; rw [hp] at z2; cases z2⟩⟩
end
noncomputable def spD (K:PySem.W.Frag) (Φ:List D->Sl->Prop):Sp:=λvs H Q _=>∃ A ds s,(∀ b,A b->∃ o,H b=some o)/\ar K (hd H A) vs ds/\Φ ds s /\
 ∀ v H' bs,aj H H'->Fr H H' bs->cg K (hd H' λb=>A b\/b ∈ bs) H' (some v) bs s->Q v H'
noncomputable def Cal (P:Program) (w:World) (K:PySem.W.Frag) (mg:Str->Option Value) (base:Heap) (k:Nat) (n:Str) (Φ:List D->Sl->Prop):Prop:=
 ∃ f fd ps,aJ P w K mg base CX0 k f fd ps (spD K Φ)/\mg n=some (.ref f)/\PySem.W.keepIn K (.ref f)=true/\Binds K fd ps []
theorem Cal.mono {P:Program} {w:World} {K:PySem.W.Frag} {mg:Str->Option Value} {base:Heap} {j k:Nat} {n:Str} {Φ:List D->Sl->Prop} (c:Cal P w K mg base j n Φ) (h:j<=k):Cal P w K mg base k n Φ:=
 let ⟨f,fd,ps,F,r⟩:=c; ⟨f,fd,ps,F.mono h,r⟩
noncomputable def ai:List Str:=["len","abs","max","min","int","bool","list","tuple","str","isinstance","range","enumerate","all","zip","sorted","sum","any","reversed"]
structure Bk (X:Cx) (k:Nat):Prop where
 room:da k X.A
 calm:X.calm=true
 blt:∀ x ∈ ai,X.mg x=none
 po:PassesOwn (model X.prog X.w) X.A X.env X.xe
section
variable {X:Cx} {C:Bool} {τ:List Sl} {x y z:D} {a b e:Expr} {es:List Expr} {pos p:Pos} {k:Nat} {s:Sl} {ds:List D} {i j:Int}
theorem x_call {n:Str} {Φ:List D->Sl->Prop} (B:Bk X k) (c:Cal X.prog X.w X.K X.mg X.base k n Φ) (ha:PA X (e :: es) (dA X.K C τ ds)) (h:Φ ds s) (hg:Gl X n:=by rfl) (hdb:(n == ("__debug__" : Str))=false:=by decide)
   (he:starEach (e :: es) X.env=(false,eval e X.env) :: starEach es X.env:=by rfl) (hpl:(backTo pos (starEach es X.env)).any (·.1)=false:=by rfl):PE X (.Call (.Name n p) (e :: es) [] pos) (dE X.K C τ s):=by
 obtain ⟨f,fd,ps,F,hm,hk,hb⟩:=c
 refine peW (nA F B.room hg hm hk hb .nil xm ha hdb he hpl) λσ H Q ⟨A,H₀,B,S,q⟩=>c8 S λvs H1 e1 d1=>?_
 rw [List.append_nil]
 exact ⟨vw C A B,ds,s,(S.mono e1).vd,d1,h,λv H' bs e2 hf h2=>q v H' bs (e1.trans e2) (λb hb=>⟨e1.free (hf b hb).1,(hf b hb).2⟩) h2⟩
noncomputable def gx (X:Cx) (f:Value) (ds:List D) (s:Sl):Prop:=∃ r:List V->Hp->VK->Prop,dg X f r /\
 ∀ (M:Addr->Prop) (vs:List V) (H:Hp) (Q:VK),(∀ b,M b->∃ o,H b=some o)->ar X.K (hd H M) vs ds->(∀ u H' bs,aj H H'->Fr H H' bs->cg X.K (hd H' λb=>M b\/b ∈ bs) H' (some u) bs s->Q u H')->r vs H Q
theorem mR {r:List V->Hp->VK->Prop} (hr:∀ (M:Addr->Prop) (vs:List V) (H:Hp) (Q:VK),(∀ b,M b->∃ o,H b=some o)->ar X.K (hd H M) vs ds->(∀ u H' bs,aj H H'->Fr H H' bs->cg X.K (hd H' λb=>M b\/b ∈ bs) H' (some u) bs s->Q u H')->r vs H Q) :
   ∀ σ H Q,dE X.K C τ s σ H Q->tCB r (dA X.K C τ ds) σ H Q:=λσ H Q ⟨A,H₀,B,S,q⟩=>
 c8 S λvs H1 e1 d1=>hr (vw C A B) vs H1 Q (S.mono e1).vd d1 λv H' bs e2 hf h2=>q v H' bs (e1.trans e2) (λb hb=>⟨e1.free (hf b hb).1,(hf b hb).2⟩) h2
theorem aQ {n:Str} {id:String} (B:Bk X k) (ha:PA X (e :: es) (dA X.K C τ ds)) (c:gx X (.builtin id) ds s) (hn:n ∈ ai:=by decide) (hg:Gl X n:=by rfl) (hv:bootBuiltins n=some (.builtin id):=by decide +kernel) (h1:n ≠ "__name__":=by decide) (hdb:(n == ("__debug__" : Str))=false:=by decide)
   (he:starEach (e :: es) X.env=(false,eval e X.env) :: starEach es X.env:=by rfl) (hpl:(backTo pos (starEach es X.env)).any (·.1)=false:=by rfl):PE X (.Call (.Name n p) (e :: es) [] pos) (dE X.K C τ s):=by
 obtain ⟨r,h1,h2⟩:=c
 exact peW (dZ h1 hg (B.blt _ hn) hv ha (by assumption) hdb he hpl) (mR h2)
theorem pB {n:Str} {T:String} (B:Bk X k) (ha:PA X (e :: es) (dA X.K C τ ds)) (c:gx X (.type T) ds s) (hn:n ∈ ai:=by decide) (hg:Gl X n:=by rfl) (hv:bootBuiltins n=some (.type T):=by decide +kernel) (h1:n ≠ "__name__":=by decide) (hdb:(n == ("__debug__" : Str))=false:=by decide)
   (he:starEach (e :: es) X.env=(false,eval e X.env) :: starEach es X.env:=by rfl) (hpl:(backTo pos (starEach es X.env)).any (·.1)=false:=by rfl):PE X (.Call (.Name n p) (e :: es) [] pos) (dE X.K C τ s):=by
 obtain ⟨r,h1,h2⟩:=c
 exact peW (pI h1 hg (B.blt _ hn) hv ha (by assumption) hdb he hpl) (mR h2)
theorem fY {K:PySem.W.Frag} {H:Hp} {M:Addr->Prop} {v:V} (h:Den K (hd H M) v x):cg K (hd H λb=>M b\/b ∈ ([]:List Addr)) H (some v) [] (.d x):=⟨rfl,v,rfl,h.mono (aD (aj.refl _) λ_ z=>z.elim id λz=>nomatch z)⟩
theorem cO {H H':Hp}:Fr H H' []:=λ_ z=>nomatch z
theorem cj {xs:List D}:gx X (.builtin "len") [.lst xs] (.d (.int xs.length)):=⟨_,fu,λM vs H Q _ d q=>by
 cases d with
 | cons d r=>
   cases r
   cases d with
   | lst h r=>
     refine ⟨_,_,rfl,.inl (aL aY h),?_⟩
     rw [r.length]
     exact q _ H [] (aj.refl _) cO (fY .int)⟩
theorem vZ {xs:List D}:gx X (.builtin "len") [.tup xs] (.d (.int xs.length)):=⟨_,fu,λM vs H Q _ d q=>by
 cases d with
 | cons d r=>
   cases r
   cases d with
   | tup h r=>
     refine ⟨_,_,rfl,.inr (a7 aY h),?_⟩
     rw [r.length]
     exact q _ H [] (aj.refl _) cO (fY .int)⟩
noncomputable def nc (i:Int):Int:=if i < 0 then -i else i
theorem jO:gx X (.builtin "abs") [.int i] (.d (.int (nc i))):=⟨_,rZ,λM vs H Q _ d q=>by
 cases d with
 | cons d r=>
   cases r
   cases d
   exact ⟨_,rfl,q _ H [] (aj.refl _) cO (fY .int)⟩⟩
theorem xx (hc:X.calm=true):gx X (.builtin "max") [.int i,.int j] (.d (.int (if j > i then j else i))):=⟨_,pD hc,λM vs H Q _ d q=>by
 cases d with
 | cons d r=>
   cases r with
   | cons d' r=>
     cases r
     cases d
     cases d'
     exact ⟨_,_,rfl,q _ H [] (aj.refl _) cO (fY .int)⟩⟩
theorem xj (hc:X.calm=true):gx X (.builtin "min") [.int i,.int j] (.d (.int (if j < i then j else i))):=⟨_,oJ hc,λM vs H Q _ d q=>by
 cases d with
 | cons d r=>
   cases r with
   | cons d' r=>
     cases r
     cases d
     cases d'
     exact ⟨_,_,rfl,q _ H [] (aj.refl _) cO (fY .int)⟩⟩
theorem nr {c:Bool}:gx X (.type "int") [.bl c] (.d (.int (if c then 1 else 0))):=⟨_,oM,λM vs H Q _ d q=>by
 cases d with
 | cons d r=>
   cases r
   cases d
   exact .inr ⟨_,rfl,q _ H [] (aj.refl _) cO (fY .int)⟩⟩
theorem kc {K:PySem.W.Frag} {H:Hp} {M:Addr->Prop} {p:Addr} {vs:List V} {xs:List D} (hp:H p=none) (d:ar K (hd H M) vs xs) :
   aj H (upd H p (.lst vs))/\Fr H (upd H p (.lst vs)) [p]/\cg K (hd (upd H p (.lst vs)) λb=>M b\/b ∈ [p]) (upd H p (.lst vs)) (some (.ref p)) [p] (.o xs):=
 ⟨aq hp _,λb hb=>by
   obtain rfl:=List.mem_singleton.mp hb
   exact ⟨hp,_,aX⟩,p,vs,rfl,rfl,aX,d.mono λb o z=>by
     obtain ⟨z1,z2⟩:=aI.mp z
     refine aI.mpr ⟨λy=>?_,aq hp _ _ _ z2⟩
     rcases y with y | y
     · exact z1 y
     · rw [List.mem_singleton.mp y] at z2; rw [hp] at z2; cases z2⟩
theorem wq {xs:List D}:gx X (.type "list") [.lst xs] (.o xs):=⟨_,kz,λM vs H Q _ d q=>by
 cases d with
 | cons d r=>
   cases r
   cases d with
   | lst h r=>
     refine ⟨_,_,rfl,.inl (aL aY h),λp hp=>?_⟩
     obtain ⟨z1,z2,z3⟩:=kc (K:=X.K) (M:=M) hp r
     exact q _ _ [p] z1 z2 z3⟩
theorem qp {K:PySem.W.Frag} {H:Hp} {vs:List V} {ds:List D} {i:Int} {d:D} (r:ar K H vs ds) (h:atI ds i=some d):∃ v,atI vs i=some v/\Den K H v d:=by
 unfold atI at h ⊢
 rw [r.length]
 cases e:ixN ds.length i with
 | none=>rw [e] at h; cases h
 | some j=>rw [e] at h; exact r.get h
noncomputable def uO (X:Cx) (x y z:D):Prop:=∃ r:R2,IxR X r /\
 ∀ (M:Addr->Prop) (v w:V) (H:Hp) (Q:VK),(∀ b,M b->∃ o,H b=some o)->Den X.K (hd H M) v x->Den X.K (hd H M) w y->(∀ u H',aj H H'->Den X.K (hd H' M) u z->Q u H')->r v w H Q
theorem aG (ha:PE X a (dE X.K C τ (.d x))) (hb:PE X b (dE X.K C τ (.d y))) (ho:uO X x y z) (hs:nM b:=by exact λ_ _=>rfl):PE X (.Subscript a b pos) (dE X.K C τ (.d z)):=by
 obtain ⟨r,h1,h2⟩:=ho
 exact peW (yp h1 ha hb hs) (two h2)
theorem ax {xs:List D} (h:atI xs i=some z):uO X (.lst xs) (.int i) z:=⟨_,tR,λM v w H Q _ d1 d2 q=>by
 cases d2
 cases d1 with
 | lst hs r=>
   obtain ⟨v,e,d⟩:=qp r h
   exact ⟨_,_,_,_,rfl,rfl,aL aY hs,e,q _ H (aj.refl _) d⟩⟩
theorem fP {xs:List D} (h:atI xs i=some z):uO X (.tup xs) (.int i) z:=⟨_,vF,λM v w H Q _ d1 d2 q=>by
 cases d2
 cases d1 with
 | tup hs r=>
   obtain ⟨v,e,d⟩:=qp r h
   exact ⟨_,_,_,_,rfl,rfl,a7 aY hs,e,q _ H (aj.refl _) d⟩⟩
noncomputable def dO (K:PySem.W.Frag) (τ:List Sl) (c:Option Int):TO:=λσ H Q=>∃ A H₀ B,Sta K A H₀ τ B σ H/\∀ H',aj H H'->Q c H'
theorem yo {e:Option Expr} {t t':TO} (h:PO X e t) (f:∀ σ H Q,t' σ H Q->t σ H Q):PO X e t':=λpins s σ H Q I q=>h pins s σ H Q I (f σ H Q q)
theorem e8:PO X none (dO X.K τ none):=yo tW λσ H Q ⟨A,H₀,B,S,k⟩=>k H (aj.refl _)
theorem dn (h:PE X e (dE X.K false τ (.d (.int i)))):PO X (some e) (dO X.K τ (some i)):=yo (so h) λσ H Q ⟨A,H₀,B,S,k⟩=>bg S λv H1 e1 d1=>by
 cases d1
 exact ⟨_,rfl,k H1 e1⟩
noncomputable def cutD (xs:List D) (lo hi:Option Int):List D:=(xs.drop (HT.sIx xs.length 0 lo)).take (HT.sIx xs.length xs.length hi - HT.sIx xs.length 0 lo)
theorem k8 {lo hi:Option Expr} {l u:Option Int} {xs:List D} {p2:Pos} (ha:PE X a (dE X.K C τ (.d (.lst xs)))) (hl:PO X lo (dO X.K τ l)) (hu:PO X hi (dO X.K τ u)):PE X (.Subscript a (.Slice lo hi none p2) pos) (dE X.K C τ (.o (cutD xs l u))):=
 peW (qd sW ha hl hu) λσ H Q ⟨A,H₀,B,S,k⟩=>bg S λv H1 e1 d1=>⟨A,H₀,B,S.mono e1,λH2 e2=>⟨A,H₀,B,(S.mono e1).mono e2,λH3 e3=>by
   cases d1 with
   | @lst _ ws _ h r=>
     have h:=aL (e2.trans e3) (aL aY h)
     refine ⟨_,_,rfl,h,λp hp=>?_⟩
     have r:=r.mono (aD (e2.trans e3) λ_ z=>z)
     have r':ar X.K (hd H3 (vw C A B)) (pV ws l u) (cutD xs l u):=by
       unfold pV cutD
       rw [r.length]
       exact (r.drop _).take _
     obtain ⟨z1,z2,z3⟩:=kc (K:=X.K) hp r'
     exact k _ _ [p] (e1.trans (e2.trans (e3.trans z1))) (λb hb=>⟨(e1.trans (e2.trans e3)).free (z2 b hb).1,(z2 b hb).2⟩) z3⟩⟩
inductive Ty where
 | int | bool | str | list | tuple
noncomputable def tyN:Ty->String
 | .int=>"int" | .bool=>"bool" | .str=>"str" | .list=>"list" | .tuple=>"tuple"
noncomputable def xM:D->String
 | .non=>"NoneType" | .bl _=>"bool" | .int _=>"int" | .str _=>"str" | .tup _=>"tuple" | .lst _=>"list" | .box _=>"dict"
noncomputable def eS:Ty->D->Bool
 | .int,.int _=>true
 | .int,.bl _=>true
 | .bool,.bl _=>true
 | .str,.str _=>true
 | .list,.lst _=>true
 | .tuple,.tup _=>true
 | _,_=>false
theorem vo (K:PySem.W.Frag) (d:D) (t:Ty):PySem.W.kitOne K (.type (xM d)) (.type (tyN t))=some (eS t d):=by
 cases d <;> cases t <;> (show PySem.W.kitOne K (.type _) (.type _)=some _) <;> with_unfolding_all rfl
theorem uC (t:Ty):dg X (.builtin "isinstance") (λxs H Q=>∃ G x d,aj G H/\xs=[x,.ty (tyN t)]/\Den X.K G x d/\Q (.bl (eS t d)) H):=by
 intro pins s σ H xs us Q I r q
 obtain ⟨G,x,d,sg,rfl,dx,q⟩:=q
 obtain ⟨u,w,rfl,rx,rt⟩:∃ u w,us=[u,w]/\RelV x u/\RelV (.ty (tyN t)) w:=by
   cases r with
   | cons r1 r=>cases r with
     | cons r2 r=>cases r; exact ⟨_,_,rfl,r1,r2⟩
 cases (show w=Value.type (tyN t) from rt)
 have kt:=vo X.K d t
 have fin:∀ tk,EP X pins σ Q (.bool (eS t d)) { s with toks:=tk }:=λtk=>⟨.bl _,H,I.tok _,rfl,q⟩
 cases dx with
 | non=>cases (show u=Value.none from rx); exact PySem.W.kia_one PySem.W.kitx_none I.kIn True.intro kt (λz=>nomatch z) fin
 | bl=>cases (show u=Value.bool _ from rx); exact PySem.W.kia_one PySem.W.kitx_bool I.kIn True.intro kt (λz=>nomatch z) fin
 | int=>obtain ⟨t',z⟩:=(show ∃ t,u=Value.int _ t from rx); cases z; exact PySem.W.kia_one PySem.W.kitx_int I.kIn True.intro kt (λz=>nomatch z) fin
 | str=>obtain ⟨t',z⟩:=(show ∃ t,u=Value.str _ t from rx); cases z; exact PySem.W.kia_one PySem.W.kitx_str I.kIn True.intro kt (λz=>nomatch z) fin
 | tup h r1=>
   cases (show u=Value.ref _ from rx)
   obtain ⟨its,_,⟨o,h1,h2,_⟩,_⟩:=I.tuple (a7 sg h)
   exact PySem.W.kia_one PySem.W.kitx_tuple I.kIn ⟨o,h1,h2⟩ kt (λz=>nomatch z) fin
 | lst h r1=>
   cases (show u=Value.ref _ from rx)
   obtain ⟨its,_,⟨o,n,h1,h2,_⟩,_⟩:=I.list (aL sg h)
   exact PySem.W.kia_one PySem.W.kitx_list I.kIn ⟨o,h1,h2⟩ kt (λz=>nomatch z) fin
 | @box a x h=>
   cases (show u=Value.ref _ from rx)
   obtain ⟨o',h1,h2⟩:=x.isd h
   obtain ⟨o,h3,h4⟩:=h2 _ _ _ _ (I.hok a _ (sg _ _ h1))
   exact PySem.W.kia_one PySem.W.kitx_dict I.kIn ⟨o,h3,h4⟩ kt (λz=>nomatch z) fin
theorem bZ {n:Str} {q:Pos} (t:Ty) (B:Bk X k) (ha:PE X a (dE X.K false τ (.d x))) (hn:n ∈ ai:=by decide) (ht:bootBuiltins n=some (.type (tyN t)):=by decide +kernel) (hg:Gl X "isinstance":=by rfl) (hg':Gl X n:=by rfl) (h1:n ≠ "__name__":=by decide) (hdb:(n == ("__debug__" : Str))=false:=by decide)
   (he:starEach [a,.Name n q] X.env=(false,eval a X.env) :: starEach [.Name n q] X.env:=by rfl) (hpl:(backTo pos (starEach [.Name n q] X.env)).any (·.1)=false:=by rfl):PE X (.Call (.Name "isinstance" p) [a,.Name n q] [] pos) (dE X.K C τ (.d (.bl (eS t x)))):=by
 refine peW (dZ (uC t) hg (B.blt _ (by decide)) (by decide +kernel) (bO ha (bO (oo (v:=.ty (tyN t)) hg' (B.blt _ hn) ht rfl h1 hdb) er) he) (by decide) (by decide) he hpl) λσ H Q q=>?_
 obtain ⟨A,H₀,B,S,k⟩:=fX q
 exact bg S λv H1 e1 d1=>⟨_,v,x,aY,rfl,d1,k _ H1 e1 .bl⟩
end
section
variable {K:PySem.W.Frag} {A:Addr->Prop} {H₀ H H':Hp} {τ:List Sl} {B:Nat->List Addr} {σ:L2.St}
theorem Sta.put (S:Sta K A H₀ τ B σ H) {i:Nat} {a:Addr} {xs ys:List D} {vs:List V} (hi:τ[i]?=some (.o xs)) (hB:B i=[a]) (d:ar K (hd H (own A B)) vs ys):Sta K A H₀ (τ.set i (.o ys)) B σ (upd H a (.lst vs)):=by
 have ha:own A B a:=.inr ⟨i,by rw [hB]; exact List.mem_singleton.mpr rfl⟩
 have ne:∀ b,b ≠ a->upd H a (.lst vs) b=H b:=λb h=>aB h
 have sm:aj (hd H (own A B)) (hd (upd H a (.lst vs)) (own A B)):=λb o z=>by
   obtain ⟨z1,z2⟩:=aI.mp z
   exact aI.mpr ⟨z1,by rw [ne b (λe=>z1 (e ▸ ha))]; exact z2⟩
 have f0:H₀ a=none:=S.fr i a (by rw [hB]; exact List.mem_singleton.mpr rfl)
 have hs:aj H₀ (upd H a (.lst vs)):=λb o z=>by rw [ne b (λe=>by rw [e,f0] at z; cases z)]; exact S.same b o z
 refine ⟨hs,by rw [List.length_set,S.len],λj t hj=>?_,S.fr,S.uq,S.ad,λj b hb=>?_⟩
 · by_cases ej:j=i
   · subst ej
     have hl:=(List.getElem?_eq_some_iff.mp hi).1
     rw [List.getElem?_set_self hl] at hj
     cases hj
     obtain ⟨a',vs',e1,e2,_,_⟩:=S.sl j _ hi
     rw [hB] at e1
     cases e1
     exact ⟨a,vs,hB,e2,aX,d.mono sm⟩
   · rw [List.getElem?_set_ne (λz=>ej z.symm)] at hj
     have q:=S.sl j t hj
     have off:∀ b ∈ B j,b ≠ a:=λb hb e=>ej (S.uq j i a (e ▸ hb) (by rw [hB]; exact List.mem_singleton.mpr rfl))
     cases t with
     | un=>exact q
     | d x=>obtain ⟨z,u,e,d⟩:=q; exact ⟨z,u,e,d.mono sm⟩
     | o zs=>
       obtain ⟨c,ws,z1,z2,z3,z4⟩:=q
       exact ⟨c,ws,z1,z2,by rw [ne c (off c (by rw [z1]; exact List.mem_singleton.mpr rfl))]; exact z3,z4.mono sm⟩
     | n t=>
       obtain ⟨z0,u,z1,z2⟩:=q
       exact ⟨z0,u,z1,z2.frame sm λb hb=>ne b (off b hb)⟩
     | x E=>
       obtain ⟨c,o,z1,z2,z3,z4⟩:=q
       exact ⟨c,o,z1,z2,by rw [ne c (off c (by rw [z1]; exact List.mem_singleton.mpr rfl))]; exact z3,E.mono sm z4⟩
 · by_cases e:b=a
   · subst e; exact ⟨_,aX⟩
   · rw [ne b e]; exact S.bd j b hb
theorem Sta.fz (S:Sta K A H₀ τ B σ H) {i:Nat} {s:Sl} {x:D} (hi:τ[i]?=some s) (hx:fzD s=some x):Sta K A H₀ (τ.set i (.d x)) (upB B i []) σ H:=
 S.less (λ_ z=>nomatch z) λG g hv=>by
   obtain ⟨u,e,d⟩:=(S.sl i s hi).den (G':=G) g (λb hb o ho=>hv b o hb (λz=>nomatch z) ho) hx
   exact ⟨rfl,u,e,d⟩
theorem Sta.un (S:Sta K A H₀ τ B σ H) (i:Nat):Sta K A H₀ (τ.set i .un) (upB B i []) σ H:=S.less (λ_ z=>nomatch z) λG g hv=>rfl
end
section
variable {X:Cx} {C:Bool} {τ:List Sl} {x y z:D} {a b e c:Expr} {es:List Expr} {pos p:Pos} {k:Nat} {s:Sl} {ds:List D} {N:Po} {st:Stmt} {rest body els:List Stmt}
theorem aZ (h:N.nx τ):PSs X [] (dS X.K τ N):=r9 sT λD σ H ⟨A,H₀,B,S,M⟩=>M.nx τ B σ H h S
theorem bj {M:List Sl->Prop} (h1:PS X st (dS X.K τ { N with nx:=M })) (h2:∀ τ',M τ'->PSs X rest (dS X.K τ' N)):PSs X (st :: rest) (dS X.K τ N):=by
 have h:PSs X rest λD σ H=>∃ τ',M τ'/\dS X.K τ' N D σ H:=λpins s σ H D I ⟨τ',m,q⟩=>h2 τ' m pins s σ H D I q
 exact r9 (qb h1 h) λD σ H ⟨A,H₀,B,S,Me⟩=>⟨A,H₀,B,S,λτ' B' σ' H' m S'=>⟨τ',m,A,H₀,B',S',Me⟩,Me.bk,Me.ct,Me.rt,Me.xc⟩
theorem j5 (i:Nat) {s:Sl} {x:D} (h:PSs X rest (dS X.K (τ.set i (.d x)) N)) (hi:τ[i]?=some s:=by rfl) (hx:fzD s=some x:=by rfl):PSs X rest (dS X.K τ N):=r9 h λD σ H ⟨A,H₀,B,S,Me⟩=>⟨A,H₀,_,S.fz hi hx,Me⟩
theorem aF (i:Nat) {n:Str} {p:Pos} (hN:X.N.Nodup) (he:PE X e (dE X.K true τ s)) (hr:PSs X rest (dS X.K (τ.set i s) N)) (hi:X.N[i]?=some n:=by rfl) (hx:Loc X.env.scope n:=by first | exact .inl rfl | exact .inr rfl) (hs:swapsWith e (some (.Name n p)) pos.line X.env=pure false:=by rfl)
   (hf:X.fn n=true\/X.env.scope.names.lookup n=some .local:=by first | exact .inl rfl | exact .inr rfl | assumption):PSs X (.Assign [.Name n p] e pos :: rest) (dS X.K τ N):=
 bj (M:=(·=τ.set i s)) (psW (qI hN hi hx he hs hf) λD σ H ⟨A,H₀,B,S,Me⟩=>⟨A,H₀,B,S,λv H' bs e hf h=>Me.nx _ _ _ _ rfl (S.set e hf h)⟩) λ_ e=>e ▸ hr
theorem cM (he:PE X e (dE X.K true τ s)) (hr:PSs X rest (dS X.K τ N)) (hs:swapsWith e none pos.line X.env=pure false:=by rfl):PSs X (.Expr e pos :: rest) (dS X.K τ N):=
 bj (M:=(·=τ)) (psW (g9 he hs) λD σ H ⟨A,H₀,B,S,Me⟩=>⟨A,H₀,B,S,λv H' bs e hf h=>Me.nx _ _ _ _ rfl (S.mono e)⟩) λ_ e=>e ▸ hr
theorem au (he:PE X e (dE X.K false τ s)) (h:N.rt s):PSs X (.Return (some e) pos :: rest) (dS X.K τ N):=
 bj (M:=λ_=>False) (psW (j0 he) λD σ H ⟨A,H₀,B,S,Me⟩=>⟨A,H₀,B,S,λv H' bs e hf q=>Me.rt v H' bs s h (S.same.trans e) (λb hb=>⟨S.same.free (hf b hb).1,(hf b hb).2⟩) q⟩) λ_ e=>e.elim
theorem q0 (i:Nat) {n:Str} (h:N.rt s) (hi:τ[i]?=some s:=by rfl) (h0:s ≠ .un:=by exact nofun) (hN:X.N[i]?=some n:=by rfl) (hv:Vis X.env.scope n:=by first | exact Or.inl rfl | exact Or.inr (Or.inl rfl) | exact Or.inr (Or.inr rfl))
   (hd:(n == ("__debug__" : Str))=false:=by decide) (hcd:(n == ("__classdict__" : Str))=false:=by decide):PSs X (.Return (some (.Name n p)) pos :: rest) (dS X.K τ N):=
 bj (M:=λ_=>False) (psW (j0 (dr hN hv hd hcd)) λD σ H ⟨A,H₀,B,S,Me⟩=>by
   have q:=S.sl i s hi
   obtain ⟨u,e⟩:∃ u,(σ[i]?).join=some u:=by
     cases s with
     | un=>exact absurd rfl h0
     | d x=>obtain ⟨_,u,e,_⟩:=q; exact ⟨u,e⟩
     | o xs=>obtain ⟨_,_,_,e,_⟩:=q; exact ⟨_,e⟩
     | n t=>obtain ⟨_,u,e,_⟩:=q; exact ⟨u,e⟩
     | x E=>obtain ⟨_,_,_,e,_⟩:=q; exact ⟨_,e⟩
   rw [e] at q
   exact ⟨u,slot_of e,Me.rt u H (B i) s h S.same (λb hb=>⟨S.fr i b hb,S.bd i b hb⟩) (q.mono (aD (aj.refl _) λb z=>z.elim .inl λz=>.inr ⟨i,z⟩) (aj.refl _))⟩) λ_ e=>e.elim
theorem ue {H H':Hp} {σ:L2.St} {D:Ends} {A:Addr->Prop} {H₀:Hp} {B:Nat->List Addr} (S:Sta X.K A H₀ τ B σ H) (Me:Meets X.K A H₀ N D) (e:aj H H'):dS X.K τ N D σ H':=⟨A,H₀,B,S.mono e,Me⟩
theorem yU {t:Bool} (hc:PT X c (dT X.K τ t)) (ha:t=true->PSs X body (dS X.K τ N)) (hb:t=false->PSs X els (dS X.K τ N)):PS X (.If c body els pos) (dS X.K τ N):=by
 cases t with
 | true=>exact psW (ug hc (ha rfl) jR) λD σ H ⟨A,H₀,B,S,Me⟩=>⟨A,H₀,B,S,λH' e=>tP (ue S Me e)⟩
 | false=>exact psW (ug hc jR (hb rfl)) λD σ H ⟨A,H₀,B,S,Me⟩=>⟨A,H₀,B,S,λH' e=>sA (ue S Me e)⟩
theorem eU {t:Bool} {M:List Sl->Prop} (hc:PT X c (dT X.K τ t)) (ha:t=true->PSs X body (dS X.K τ { N with nx:=M })) (hb:t=false->PSs X els (dS X.K τ { N with nx:=M })) (hr:∀ τ',M τ'->PSs X rest (dS X.K τ' N)):PSs X (.If c body els pos :: rest) (dS X.K τ N):=
 bj (yU hc ha hb) hr
theorem aT {t:Bool} (hc:PT X c (dT X.K τ t)) (ha:t=true->PSs X body (dS X.K τ { N with nx:=λ_=>False })) (hr:t=false->PSs X rest (dS X.K τ N)):PSs X (.If c body [] pos :: rest) (dS X.K τ N):=by
 cases t with
 | true=>exact eU (M:=λ_=>False) hc ha (λz=>nomatch z) λ_ z=>z.elim
 | false=>exact eU (M:=(·=τ)) hc (λz=>nomatch z) (λ_=>aZ rfl) λ_ e=>e ▸ hr rfl
theorem cc {t:Bool} (hc:PT X c (dT X.K τ t)) (ht:t=false) (hr:PSs X rest (dS X.K τ N)):PSs X (.If c body [] pos :: rest) (dS X.K τ N):=aT hc (λz=>by rw [ht] at z; cases z) λ_=>hr
theorem nF (i:Nat) {n:Str} {xs:List D} {ap cp:Pos} (he:PE X e (dE X.K true τ (.d x))) (hl:xs.length < 1000000) (hr:PSs X rest (dS X.K (τ.set i (.o (xs++[x]))) N)) (hi:τ[i]?=some (.o xs):=by rfl) (hN:X.N[i]?=some n:=by rfl)
   (hv:Vis X.env.scope n:=by first | exact Or.inl rfl | exact Or.inr (Or.inl rfl) | exact Or.inr (Or.inr rfl)) (hd:(n == ("__debug__" : Str))=false:=by decide) (hcd:(n == ("__classdict__" : Str))=false:=by decide)
   (hfew:((backTo cp (starEach [e] X.env)).all (λx=>!x.1) && (backToKw cp (keywordEach [] X.env)).all (λx=>x.1.isSome) && decide (([e]:List Expr).length + ([]:List Keyword).length + (if ([]:List Keyword).isEmpty then 0 else 1) < 30))=true:=by rfl)
   (hline:(ap.endLine == cp.line)=true:=by rfl) (hst:starEach [e] X.env=(false,eval e X.env) :: starEach [] X.env:=by rfl) (hpl:(backTo cp (starEach [] X.env)).any (·.1)=false:=by rfl)
   (hs:swapsWith (.Call (.Attribute (.Name n p) "append" ap) [e] [] cp) none pos.line X.env=pure false:=by rfl) (hbase:attributeBase (.Name n p) "append" X.env (eval (.Name n p) X.env)=eval (.Name n p) X.env:=by rfl) :
   PSs X (.Expr (.Call (.Attribute (.Name n p) "append" ap) [e] [] cp) pos :: rest) (dS X.K τ N):=
 bj (M:=(·=τ.set i (.o (xs++[x])))) (psW (g9 (qy PySem.F.plainAttrs_list PySem.F.slot_list_append PySem.F.type_list_append gC (dr hN hv hd hcd) (bO he er hst) hbase hfew hline hst hpl) hs) λD σ H ⟨A,H₀,B,S,Me⟩=>by
   obtain ⟨l,vs,hb,e1,e2,d⟩:=S.sl i _ hi
   refine ⟨_,slot_of e1,.inl ⟨rfl,_,SqL.of e2⟩,bg S λv H1 e3 d1=>⟨l,vs,v,rfl,rfl,e3 _ _ e2,by rw [d.length]; exact Nat.lt_trans hl (by decide),?_⟩⟩
   exact Me.nx _ _ _ _ rfl ((S.mono e3).put hi hb ((d.mono (aD e3 λ_ z=>z)).append (.cons d1 .nil)))) λ_ e=>e ▸ hr
theorem nE {K:PySem.W.Frag} {H:Hp}:∀ {vs:List V} {ds:List D} {v:V} {d:D} (j:Nat),ar K H vs ds->Den K H v d->ar K H (vs.set j v) (ds.set j d)
 | _,_,_,_,_,.nil,_=>.nil
 | _,_,_,_,0,.cons _ r,h=>.cons h r
 | _,_,_,_,j + 1,.cons h' r,h=>.cons h' (nE j r h)
theorem wJ (i:Nat) {n:Str} {xs:List D} {m:Int} {j:Nat} {ix:Expr} {sp:Pos} (hx:PE X ix (dE X.K false τ (.d (.int m)))) (he:PE X e (dE X.K true τ (.d x))) (hj:ixN xs.length m=some j) (hr:PSs X rest (dS X.K (τ.set i (.o (xs.set j x))) N)) (hi:τ[i]?=some (.o xs):=by rfl) (hN:X.N[i]?=some n:=by rfl)
   (hv:Vis X.env.scope n:=by first | exact Or.inl rfl | exact Or.inr (Or.inl rfl) | exact Or.inr (Or.inr rfl)) (hd:(n == ("__debug__" : Str))=false:=by decide) (hcd:(n == ("__classdict__" : Str))=false:=by decide)
   (hs:swapsWithSole [.Subscript (.Name n p) ix sp] e pos.line X.env=pure false:=by rfl) (hw:swappedStores [.Subscript (.Name n p) ix sp] e X.env=pure none:=by rfl) (h1:(assignEach [.Subscript (.Name n p) ix sp] X.env).map (·.2)=[assign (.Subscript (.Name n p) ix sp) X.env]:=by rfl)
   (ha:∀ v,assign (.Subscript (.Name n p) ix sp) X.env v=(do
     let ov <- holding [v] (eval (.Name n p) X.env)
     let iv <- holding [v,ov] (eval ix X.env)
     standAt sp
     holding [v,ov,iv] (setItem ov iv v)
     release [v,ov,iv] []):=by intro _; rfl) :
   PSs X (.Assign [.Subscript (.Name n p) ix sp] e pos :: rest) (dS X.K τ N):=
 bj (M:=(·=τ.set i (.o (xs.set j x)))) (psW (qA he (vT (dr hN hv hd hcd) hx set_list ha) hs hw h1) λD σ H ⟨A,H₀,B,S,Me⟩=>bg S λv H1 e1 d1=>by
   obtain ⟨l,vs,hb,f1,f2,d⟩:=(S.mono e1).sl i _ hi
   refine ⟨_,slot_of f1,bg (S.mono e1) λw H2 e2 d2=>?_⟩
   cases d2
   refine ⟨l,vs,m,j,rfl,rfl,e2 _ _ f2,by rw [d.length]; exact hj,?_⟩
   exact Me.nx _ _ _ _ rfl (((S.mono e1).mono e2).put hi hb (nE j (d.mono (aD e2 λ_ z=>z)) (d1.mono (aD e2 λ_ z=>z))))) λ_ e=>e ▸ hr
end
end Hy
namespace Hy
open PySem PySem.Spec PyProof.Rows L2
open Ev (D Den ar aq a7 aL Ite Itz Itv wV uF vK nH mx qP aE fT dN PTs cL ee)
noncomputable def Yl (K:PySem.W.Frag) (J:L2.It) (xs:List D) (G:Hp):Prop:=∀ H,aj G H->(∀ i,xs.length<=i->J.stop i H)/\∀ (i:Nat) (h:i < xs.length),J.go i H /\
 ∀ x H',J.yld i H x H'->aj H H'/\∀ M:Addr->Prop,(∀ b,M b->∃ o,H b=some o)->aj G (hd H M)->Den K (hd H' M) x xs[i]
noncomputable def dI (K:PySem.W.Frag) (τ:List Sl) (xs:List D):TI:=λσ H R=>∃ A H₀ B,Sta K A H₀ τ B σ H/\∀ J H',aj H H'->Yl K J xs (hd H' (own A B))->R J H'
noncomputable def dG (K:PySem.W.Frag) (τ:List Sl) (x:D) (τ':List Sl):TG:=λv σ H Q=>∃ A H₀ B,Sta K A H₀ τ B σ H/\Den K (hd H (own A B)) v x/\∀ σ' B',Sta K A H₀ τ' B' σ' H->Q σ' H
theorem piW {X:Cx} {tg e:Expr} {t t':TI} (h:PI X tg e t) (f:∀ σ H Q,t' σ H Q->t σ H Q):PI X tg e t':=λpins s σ H Q I q=>h pins s σ H Q I (f σ H Q q)
theorem pgW {X:Cx} {e:Expr} {t t':TG} (h:PG X e t) (f:∀ v σ H Q,t' v σ H Q->t v σ H Q):PG X e t':=λpins s σ H v u Q I r q=>h pins s σ H v u Q I r (f v σ H Q q)
section
variable {K:PySem.W.Frag} {G:Hp} {a:Addr} {vs:List V} {xs:List D}
theorem sM (h:SqL K G a vs) (r:ar K G vs xs):Yl K (Itl K a) xs G:=by
 intro H sg
 have hl:=r.length
 refine ⟨λi hi=>⟨vs,aL sg h,by omega⟩,λi hi=>?_⟩
 obtain ⟨v,hv,dv⟩:=r.get (List.getElem?_eq_getElem hi)
 refine ⟨⟨vs,v,aL sg h,hv⟩,λx H' ⟨e1,e2⟩=>?_⟩
 subst e1
 have ex:x=v:=by have:=e2 vs (aL sg h); rw [hv] at this; exact (Option.some.inj this).symm
 subst ex
 exact ⟨aj.refl _,λM _ sv=>dv.mono sv⟩
theorem vk (h:SqT K G a vs) (r:ar K G vs xs):Yl K (Itt K a) xs G:=by
 intro H sg
 have hl:=r.length
 refine ⟨λi hi=>⟨vs,a7 sg h,by omega⟩,λi hi=>?_⟩
 obtain ⟨v,hv,dv⟩:=r.get (List.getElem?_eq_getElem hi)
 refine ⟨⟨vs,v,a7 sg h,hv⟩,λx H' ⟨e1,e2⟩=>?_⟩
 subst e1
 have ex:x=v:=by have:=e2 vs (a7 sg h); rw [hv] at this; exact (Option.some.inj this).symm
 subst ex
 exact ⟨aj.refl _,λM _ sv=>dv.mono sv⟩
noncomputable def gz (lo:Int) (n:Nat):List D:=(List.range n).map λk=>D.int (lo + (k:Nat))
theorem aw (lo:Int) (n:Nat):(gz lo n).length=n:=by simp [gz]
theorem eP (lo:Int) (n i:Nat) (h:i < (gz lo n).length):(gz lo n)[i]=.int (lo + (i:Nat)):=by simp [gz]
theorem mv (lo:Int) (n:Nat):Yl K (Itr lo n) (gz lo n) G:=by
 intro H sg
 refine ⟨λi hi=>by rw [aw] at hi; exact hi,λi hi=>?_⟩
 have hi':i < n:=by rw [aw] at hi; exact hi
 refine ⟨hi',λx H' ⟨e1,e2⟩=>?_⟩
 subst e1 e2
 refine ⟨aj.refl _,λM _ sv=>?_⟩
 rw [eP]
 exact .int
noncomputable def ko (xs:List D):List D:=(List.range xs.length).map λi=>D.tup [.int (i:Nat),xs.getD i .non]
theorem fN (xs:List D):(ko xs).length=xs.length:=by simp [ko]
theorem nU (xs:List D) (i:Nat) (h:i < (ko xs).length):(ko xs)[i]=.tup [.int (i:Nat),xs.getD i .non]:=by simp [ko]
theorem we (h:SqL K G a vs) (r:ar K G vs xs):Yl K (Ite K a) (ko xs) G:=by
 intro H sg
 have hl:=r.length
 have el:=fN xs
 refine ⟨λi hi=>⟨vs,aL sg h,by omega⟩,λi hi=>?_⟩
 have hi':i < xs.length:=by omega
 obtain ⟨v,hv,dv⟩:=r.get (List.getElem?_eq_getElem hi')
 refine ⟨⟨vs,v,aL sg h,hv⟩,λy H' ⟨p,x,hp,e0,e1,e2⟩=>?_⟩
 subst e0 e1
 have ex:x=v:=by have:=e2 vs (aL sg h); rw [hv] at this; exact (Option.some.inj this).symm
 subst ex
 refine ⟨aq hp _,λM hM sv=>?_⟩
 rw [nU,show xs.getD i .non=xs[i] by simp [List.getD,hi']]
 exact .tup (SqT.of (kF hM hp)) (.cons .int (.cons (dv.mono (sv.trans (aD (aq hp _) λ_ z=>z))) .nil))
end
section
variable {X:Cx} {C:Bool} {τ:List Sl} {x y z:D} {a b e c tg it:Expr} {es:List Expr} {pos p q:Pos} {k:Nat} {s:Sl} {xs:List D} {N:Po} {st:Stmt} {rest body els:List Stmt}
theorem bD (h:PE X it (dE X.K true τ (.d (.lst xs)))) (hc:X.calm=true:=by first | rfl | assumption):PI X tg it (dI X.K τ xs):=piW (sS hc h) λσ H R ⟨A,H₀,B,S,k⟩=>bg S λv H1 e1 d1=>by
 cases d1 with
 | lst h r=>exact ⟨_,rfl,⟨_,aL aY h⟩,k _ H1 e1 (sM h r)⟩
theorem yg (h:PE X it (dE X.K true τ (.d (.tup xs)))) (hc:X.calm=true:=by first | rfl | assumption):PI X tg it (dI X.K τ xs):=piW (wm hc h) λσ H R ⟨A,H₀,B,S,k⟩=>bg S λv H1 e1 d1=>by
 cases d1 with
 | tup h r=>exact ⟨_,rfl,⟨_,a7 aY h⟩,k _ H1 e1 (vk h r)⟩
theorem gO {n:Int} (B:Bk X k) (h:PE X a (dE X.K false τ (.d (.int n)))) (h1:-(2 ^ 62)<=n) (h2:n < 2 ^ 62) (hg:Gl X "range":=by rfl) (hs:starEach [a] X.env=[(false,eval a X.env)]:=by rfl):PI X tg (.Call (.Name "range" p) [a] [] pos) (dI X.K τ (gz 0 n.toNat)):=
 piW (jJ (.inl B.calm) hg (B.blt _ (by decide)) (aa h af hs) hs) λσ H R ⟨A,H₀,B,S,k⟩=>c8 S λvs H1 e1 d1=>by
   cases d1 with
   | cons d r=>
     cases r
     cases d
     exact ⟨n,rfl,h1,h2,k _ H1 e1 (mv 0 _)⟩
theorem iU {m n:Int} (B:Bk X k) (h:PE X a (dE X.K false τ (.d (.int m)))) (h':PE X b (dE X.K false τ (.d (.int n)))) (h1:-(2 ^ 62)<=m/\m < 2 ^ 62/\-(2 ^ 62)<=n/\n < 2 ^ 62) (hg:Gl X "range":=by rfl) (hs:starEach [a,b] X.env=[(false,eval a X.env),(false,eval b X.env)]:=by rfl)
   (hs2:starEach [b] X.env=[(false,eval b X.env)]:=by rfl):PI X tg (.Call (.Name "range" p) [a,b] [] pos) (dI X.K τ (gz m (n - m).toNat)):=
 piW (oU (.inl B.calm) hg (B.blt _ (by decide)) (aa h (aa h' af hs2) (by rw [hs,hs2])) hs hs2) λσ H R ⟨A,H₀,B,S,k⟩=>c8 S λvs H1 e1 d1=>by
   cases d1 with
   | cons d r=>
     cases r with
     | cons d' r=>
       cases r
       cases d
       cases d'
       exact ⟨m,n,rfl,h1,k _ H1 e1 (mv m _)⟩
theorem wN {ts:List Expr} {m:Nat} {tp:Pos} (B:Bk X k) (h:PE X a (dE X.K true τ (.d (.lst xs)))) (hg:Gl X "enumerate":=by rfl) (hs:starEach [a] X.env=[(false,eval a X.env)]:=by rfl):PI X (.Tuple ts m tp) (.Call (.Name "enumerate" p) [a] [] pos) (dI X.K τ (ko xs)):=
 piW (nH B.calm hg (B.blt _ (by decide)) (aa h af hs) hs) λσ H R ⟨A,H₀,B,S,k⟩=>c8 S λvs H1 e1 d1=>by
   cases d1 with
   | cons d r=>
     cases r
     cases d with
     | lst h r=>exact ⟨_,rfl,⟨_,aL aY h⟩,k _ H1 e1 (we h r)⟩
theorem sO (i:Nat) {n:Str} (hN:X.N.Nodup) (hi:X.N[i]?=some n:=by rfl) (hx:Loc X.env.scope n:=by first | exact .inl rfl | exact .inr rfl) (hf:X.fn n=true\/X.env.scope.names.lookup n=some .local:=by first | exact .inl rfl | exact .inr rfl | assumption):PG X (.Name n p) (dG X.K τ x (τ.set i (.d x))):=
 pgW (ft (i:=i) hN hi hx hf) λv σ H Q ⟨A,H₀,B,S,d,k⟩=>k _ _ (S.set (aj.refl _) (bs:=[]) (λ_ z=>nomatch z) (fY d))
theorem ux (i j:Nat) {n m:Str} {p2 pt:Pos} {md:Nat} (hc:X.calm=true) (hN:X.N.Nodup) (hi:X.N[i]?=some n:=by rfl) (hj:X.N[j]?=some m:=by rfl) (hx:Loc X.env.scope n:=by first | exact .inl rfl | exact .inr rfl) (hy:Loc X.env.scope m:=by first | exact .inl rfl | exact .inr rfl)
   (hf:X.fn n=true\/X.env.scope.names.lookup n=some .local:=by first | exact .inl rfl | exact .inr rfl | assumption) (hf':X.fn m=true\/X.env.scope.names.lookup m=some .local:=by first | exact .inl rfl | exact .inr rfl | assumption) :
   PG X (.Tuple [.Name n p,.Name m p2] md pt) (dG X.K τ (.tup [x,y]) ((τ.set i (.d x)).set j (.d y))):=by
 refine pgW (qa hc (iy (ft (i:=i) hN hi hx hf) (iy (ft (i:=j) hN hj hy hf') oF))) λv σ H Q ⟨A,H₀,B,S,d,k⟩=>?_
 cases d with
 | tup h r=>
   cases r with
   | cons d1 r=>
     cases r with
     | cons d2 r=>
       cases r
       have S1:=S.set (i:=i) (aj.refl _) (bs:=[]) (λ_ z=>nomatch z) (fY d1)
       have sub:∀ b,own A (upB B i []) b->own A B b:=λb z=>z.elim .inl λ⟨j,z⟩=>(bE z).elim (λz=>nomatch z.2) λz=>.inr ⟨j,z.2⟩
       exact ⟨_,_,rfl,a7 aY h,rfl,_,_,rfl,_,_,rfl,rfl,k _ _ (S1.set (i:=j) (aj.refl _) (bs:=[]) (λ_ z=>nomatch z) (fY (d2.mono (aD (aj.refl _) sub))))⟩
theorem Sta.base {K:PySem.W.Frag} {A:Addr->Prop} {H₀ H:Hp} {τ:List Sl} {B:Nat->List Addr} {σ:L2.St} (S:Sta K A H₀ τ B σ H):aj H₀ (hd H λb=>∃ i,b ∈ B i)/\Sta K A (hd H λb=>∃ i,b ∈ B i) τ B σ H:=by
 have s0:aj H₀ (hd H λb=>∃ i,b ∈ B i):=λb o h=>aI.mpr ⟨λ⟨i,z⟩=>(by rw [S.fr i b z] at h; cases h),S.same _ _ h⟩
 exact ⟨s0,aY,S.len,S.sl,λi b hb=>by
   cases e:hd H (λb=>∃ i,b ∈ B i) b with
   | none=>rfl
   | some o=>exact absurd ⟨i,hb⟩ (aI.mp e).1,S.uq,λb hb=>let ⟨o,q⟩:=S.ad b hb; ⟨o,s0 _ _ q⟩,S.bd⟩
theorem Sta.back {K:PySem.W.Frag} {A:Addr->Prop} {H₀ G H:Hp} {τ:List Sl} {B:Nat->List Addr} {σ:L2.St} (S:Sta K A G τ B σ H) (s:aj H₀ G) (ad:∀ b,A b->∃ o,H₀ b=some o):Sta K A H₀ τ B σ H:=
 ⟨s.trans S.same,S.len,S.sl,λi b hb=>s.free (S.fr i b hb),S.uq,ad,S.bd⟩
theorem uu {M:Nat->List Sl->Prop} {T:Nat->List Sl->List Sl} (B:Bk X k) (hi:PI X tg it (dI X.K τ xs)) (h0:M 0 τ) (hg:∀ i (h:i < xs.length) τ',M i τ'->PG X tg (dG X.K τ' xs[i] (T i τ')))
   (hb:∀ i,i < xs.length->∀ τ',M i τ'->PSs X body (dS X.K (T i τ') { N with nx:=M (i + 1),ct:=M (i + 1),bk:=N.nx })) (hn:∀ τ',M xs.length τ'->N.nx τ')
   (hs:∀ x,foldedSetIterable it X.env x=pure x:=by intro _; rfl):PS X (.For tg it body [] pos) (dS X.K τ N):=by
 have hg':PG X tg λv σ H Q=>∃ (i:Nat) (h:i < xs.length) (τ':List Sl),M i τ'/\dG X.K τ' xs[i] (T i τ') v σ H Q:=λpins s σ H v u Q I r ⟨i,h,τ',m,q⟩=>hg i h τ' m pins s σ H v u Q I r q
 have hb':PSs X body λD σ H=>∃ i τ',i < xs.length/\M i τ'/\dS X.K (T i τ') { N with nx:=M (i + 1),ct:=M (i + 1),bk:=N.nx } D σ H:=λpins s σ H D I ⟨i,τ',h,m,q⟩=>hb i h τ' m pins s σ H D I q
 refine psW (vN B.po hi hg' hb' hs) λD σ H ⟨A,H₀,B,S,Me⟩=>⟨A,H₀,B,S,λJ H1 e1 yl=>?_⟩
 obtain ⟨s0,S1⟩:=(S.mono e1).base
 have sub:∀ {H'},aj (hd H1 λb=>∃ i,b ∈ B i) H'->aj (hd H1 (own A B)) H':=λe=>(aD (aj.refl _) λ_ z=>.inr z).trans e
 refine ⟨λi m σ' H'=>m=xs.length - i/\i<=xs.length/\∃ τ' B',M i τ'/\Sta X.K A (hd H1 λb=>∃ i,b ∈ B i) τ' B' σ' H',⟨xs.length,rfl,Nat.zero_le _,τ,B,h0,S1⟩,?_⟩
 rintro i m σ' H' ⟨rfl,hi,τ',B',hM,S'⟩
 obtain ⟨y1,y2⟩:=yl H' (sub S'.same)
 by_cases hlt:i < xs.length
 · obtain ⟨g,y⟩:=y2 i hlt
   refine .inr ⟨g,λσ2 H2=>∃ τ2 B2,M (i + 1) τ2/\Sta X.K A (hd H1 λb=>∃ i,b ∈ B i) τ2 B2 σ2 H2,λσ2 H2 q=>⟨xs.length - (i + 1),by omega,rfl,hlt,q⟩,λx H2 hy=>?_⟩
   obtain ⟨e2,dx⟩:=y x H2 hy
   have S2:=S'.mono e2
   refine ⟨i,hlt,τ',hM,A,_,B',S2,dx (own A B') S'.dm ?_,λσ3 B3 S3=>⟨i,τ',hlt,hM,A,_,B3,S3,?_⟩⟩
   · intro b o z
     obtain ⟨z1,z2⟩:=aI.mp z
     have z3:hd H1 (λb=>∃ i,b ∈ B i) b=some o:=aI.mpr ⟨λy=>z1 (.inr y),z2⟩
     refine aI.mpr ⟨λy=>?_,S'.same _ _ z3⟩
     rcases y with y | ⟨l,y⟩
     · exact z1 (.inl y)
     · rw [S'.fr l b y] at z3; cases z3
   · exact ⟨λτ3 B3 σ3 H3 m S3=>⟨τ3,B3,m,S3⟩,λτ3 B3 σ3 H3 m S3=>Me.nx τ3 B3 σ3 H3 m (S3.back s0 S.ad),λτ3 B3 σ3 H3 m S3=>⟨τ3,B3,m,S3⟩,
       λv H3 bs s3 hr e3 hf q=>Me.rt v H3 bs s3 hr (s0.trans e3) (λb hb=>⟨s0.free (hf b hb).1,(hf b hb).2⟩) q,λH3 e3=>Me.xc H3 (s0.trans e3)⟩
 · have e:i=xs.length:=by omega
   subst e
   exact .inl ⟨y1 _ (Nat.le_refl _),Me.nx τ' B' σ' H' (hn τ' hM) (S'.back s0 S.ad)⟩
theorem gJ (j:Nat) {n:Str} (M:Nat->List Sl->Prop) {g:Nat->D} (B:Bk X k) (hN:X.N.Nodup) (hi:PI X (.Name n p) it (dI X.K τ xs)) (hx:∀ i (h:i < xs.length),xs[i]=g i) (h0:M 0 τ)
   (hb:∀ i,i < xs.length->∀ τ',M i τ'->PSs X body (dS X.K (τ'.set j (.d (g i))) { N with nx:=M (i + 1),ct:=M (i + 1),bk:=λ_=>False }))
   (hr:∀ τ',M xs.length τ'->PSs X rest (dS X.K τ' N)) (hs:∀ x,foldedSetIterable it X.env x=pure x:=by intro _; rfl) (hi':X.N[j]?=some n:=by rfl) (hl:Loc X.env.scope n:=by first | exact .inl rfl | exact .inr rfl)
   (hf:X.fn n=true\/X.env.scope.names.lookup n=some .local:=by first | exact .inl rfl | exact .inr rfl | assumption):PSs X (.For (.Name n p) it body [] pos :: rest) (dS X.K τ N):=
 bj (M:=M xs.length) (uu (M:=M) (T:=λi τ'=>τ'.set j (.d (g i))) B hi h0 (λi h τ' m=>by rw [hx i h]; exact sO j hN hi' hl hf)
   (λi h τ' m=>r9 (hb i h τ' m) λD σ H ⟨A,H₀,B,S,Me⟩=>⟨A,H₀,B,S,Me.nx,λ_ _ _ _ z=>z.elim,Me.ct,Me.rt,Me.xc⟩) (λ_ m=>m) hs) hr
theorem rE (j l:Nat) {n m:Str} {p2 pt:Pos} {md:Nat} (M:Nat->List Sl->Prop) {g g':Nat->D} (B:Bk X k) (hN:X.N.Nodup) (hi:PI X (.Tuple [.Name n p,.Name m p2] md pt) it (dI X.K τ xs)) (hx:∀ i (h:i < xs.length),xs[i]=.tup [g i,g' i]) (h0:M 0 τ)
   (hb:∀ i,i < xs.length->∀ τ',M i τ'->PSs X body (dS X.K ((τ'.set j (.d (g i))).set l (.d (g' i))) { N with nx:=M (i + 1),ct:=M (i + 1),bk:=λ_=>False }))
   (hr:∀ τ',M xs.length τ'->PSs X rest (dS X.K τ' N)) (hs:∀ x,foldedSetIterable it X.env x=pure x:=by intro _; rfl) (hi':X.N[j]?=some n:=by rfl) (hj':X.N[l]?=some m:=by rfl) (hl:Loc X.env.scope n:=by first | exact .inl rfl | exact .inr rfl) (hl':Loc X.env.scope m:=by first | exact .inl rfl | exact .inr rfl)
   (hf:X.fn n=true\/X.env.scope.names.lookup n=some .local:=by first | exact .inl rfl | exact .inr rfl | assumption) (hf':X.fn m=true\/X.env.scope.names.lookup m=some .local:=by first | exact .inl rfl | exact .inr rfl | assumption):PSs X (.For (.Tuple [.Name n p,.Name m p2] md pt) it body [] pos :: rest) (dS X.K τ N):=
 bj (M:=M xs.length) (uu (M:=M) (T:=λi τ'=>(τ'.set j (.d (g i))).set l (.d (g' i))) B hi h0 (λi h τ' m=>by rw [hx i h]; exact ux j l B.calm hN hi' hj' hl hl' hf hf')
   (λi h τ' m=>r9 (hb i h τ' m) λD σ H ⟨A,H₀,B,S,Me⟩=>⟨A,H₀,B,S,Me.nx,λ_ _ _ _ z=>z.elim,Me.ct,Me.rt,Me.xc⟩) (λ_ m=>m) hs) hr
theorem fL {n:Nat} (i:Nat) (h:i < (gz 0 n).length):(gz 0 n)[i]=.int (i:Nat):=by rw [eP,Int.zero_add]
theorem uw {bs:List Int} (i:Nat) (h:i < (bs.map D.int).length):(bs.map D.int)[i]=.int (bs.getD i 0):=by
 have:i < bs.length:=by simpa using h
 simp [this]
theorem lL {xs:List D} (i:Nat) (h:i < xs.length):xs[i]=xs.getD i .non:=by simp [h]
theorem xi {bs:List Int} (i:Nat) (h:i < (ko (bs.map D.int)).length):(ko (bs.map D.int))[i]=.tup [.int (i:Nat),.int (bs.getD i 0)]:=by
 have:i < bs.length:=by rw [fN] at h; simpa using h
 rw [nU]
 simp [this]
end
end Hy
namespace Hy
open PySem PySem.Spec PyProof.Rows L2
open Ev (D Den ar aq a7 aL aE fT dN PTs cL ee kU)
noncomputable def slot:List Str->Str->Option Nat
 | [],_=>none
 | y :: r,x=>if x=y then some 0 else (slot r x).map (· + 1)
theorem slot_get:∀ {N:List Str} {x:Str} {i:Nat},slot N x=some i->N[i]?=some x
 | [],_,_,h=>by cases h
 | y :: r,x,i,h=>by
   unfold slot at h
   split at h
   · cases h; rename_i e; rw [e]; rfl
   · cases e:slot r x with
     | none=>rw [e] at h; cases h
     | some j=>rw [e] at h; cases h; simpa using slot_get e
noncomputable def q9 (scope sc:Scope):Scope:={ scope with names:=scope.names.map λ(n,k)=>if (k == .free && sc.kind == .function && sc.names.lookup n == some .cell) then (n,.cell) else (n,k) }
noncomputable def bNm (scope:Scope):List Str:=(scope.names.filter λp=>(p.2 == .local || p.2 == .cell || p.2 == .free) && p.1 != (".0" : Str)).map (·.1)
noncomputable def bCp (No:List Str) (scope:Scope):List (Option Nat):=(bNm scope).map λx=>if (x,NameKind.free) ∈ scope.names then slot No x else none
noncomputable def bOk (sc scope:Scope):Bool:=
 scope.kind == .function && scope.names.all (λp=>p.2 != .local || scope.names.lookup p.1 == some .local) && scope.names.all (λp=>p.2 != .free || sc.names.lookup p.1 == some .cell)
   && scope.names.all (λp=>p.2 != .free || (!decide ((p.1,NameKind.cell) ∈ scope.names) && !decide ((p.1,NameKind.local) ∈ scope.names))) && decide (bNm scope++[("#" : Str)]).Nodup
   && (q9 scope sc).names.all (λp=>p.1 != ("#" : Str))
theorem qO {a b:Bool} (h:(a && b)=true):a=true/\b=true:=by rw [Bool.and_eq_true] at h; exact h
theorem qe {x:Str} {q:NameKind}:∀ {names:List (Str × NameKind)},names.lookup x=some q->(x,q) ∈ names
 | (y,k) :: r,h=>by
   rw [List.lookup_cons] at h
   split at h
   · rename_i e; cases h; rw [eq_of_beq e]; exact List.mem_cons_self ..
   · exact List.mem_cons_of_mem _ (qe h)
theorem fU {X:Cx} {scope:Scope} (h:bOk X.env.scope scope=true):dN X scope (bNm scope++[("#" : Str)]) (bCp X.N scope)/\(bNm scope++[("#" : Str)]).Nodup:=by
 unfold bOk at h
 obtain ⟨h,h6⟩:=qO h
 obtain ⟨h,h5⟩:=qO h
 obtain ⟨h,h4⟩:=qO h
 obtain ⟨h,h3⟩:=qO h
 obtain ⟨h1,h2⟩:=qO h
 rw [List.all_eq_true] at h2 h3 h4 h6
 refine ⟨⟨eq_of_beq h1,λx hx hk=>?_,λx hx hk=>?_,λx hx hm=>?_,λx hx hm=>?_,?_,λj i hj=>?_,?_⟩,of_decide_eq_true h5⟩
 · have:=h2 x hx; rw [hk] at this; simpa using this
 · have:=h3 x hx; rw [hk] at this; show X.env.scope.names.lookup x.1=_; simpa using this
 · have:=h4 _ hx; simp [hm] at this
 · have:=h4 _ hx; simp [hm] at this
 · unfold bCp; rw [List.length_append,List.length_map]; rfl
 · unfold bCp at hj
   rw [List.getElem?_map] at hj
   cases e:(bNm scope)[j]? with
   | none=>rw [e] at hj; cases hj
   | some x=>
     rw [e] at hj
     simp only [Option.map_some,Option.some.injEq] at hj
     split at hj
     · exact ⟨x,by rw [List.getElem?_append_left (List.getElem?_eq_some_iff.mp e).1]; exact e,slot_get hj,by assumption⟩
     · cases hj
 · refine ⟨("#" : Str),?_,λhv=>?_⟩
   · unfold bCp; rw [List.length_map,List.getElem?_append_right (Nat.le_refl _),Nat.sub_self]; rfl
   · have key:∀ q,(q9 scope X.env.scope).names.lookup ("#" : Str) ≠ some q:=λq hq=>by
       have:=h6 _ (qe hq)
       simp at this
     rcases hv with hv | hv | hv <;> exact key _ hv
noncomputable abbrev cpX (X:Cx) (s:Shared) (H:Hp) (scope:Scope) (fp:List Addr):Cx:=aE X s H scope (bNm scope++[("#" : Str)]) fp
theorem Bk.comp {X:Cx} {k:Nat} (B:Bk X k) (s:Shared) (H:Hp) (scope:Scope) (fp:List Addr):Bk (cpX X s H scope fp) k:=⟨B.room,B.calm,B.blt,PassesOwn.never⟩
noncomputable def bP (τ:List Sl) (caps:List (Option Nat)):List Sl:=caps.map λo=>match o with
 | some i=>match τ[i]? with
   | some (.d x)=>.d x
   | _=>.un
 | none=>.un
theorem og {X:Cx}:PTs X [] λ_ H Q=>Q true H:=λpins s σ H Q I q=>by
 show wpAny _ _ (pure true) _ _ _
 exact wpAny_pure ⟨H,I,q⟩
section
variable {X:Cx} {C:Bool} {τ:List Sl} {x y z:D} {a b e c tg it elt:Expr} {es ifs:List Expr} {pos p q:Pos} {k:Nat} {xs:List D} {scope:Scope}
structure Cmp (X:Cx) (elt tg it:Expr) (ifs:List Expr) (scope:Scope) (τ:List Sl) (ys:List D):Prop where
 ex:∃ (In:TG->TT->TE->Prop) (caps:List (Option Nat)) (N:List Str) (wi:TI),dN X scope N caps/\PI X tg it wi/\(∀ g tt te,In g tt te->∀ s H fp,PG (aE X s H scope N fp) tg g/\PTs (aE X s H scope N fp) ifs tt/\PE (aE X s H scope N fp) elt te) /\
   ∀ C σ H Q,dE X.K C τ (.o ys) σ H Q->ee In caps wi σ H Q
 hs:∀ x,foldedSetIterable it X.env x=pure x
theorem cI {ys:List D} (h:Cmp X elt tg it ifs scope τ ys):PE X (.ListComp elt [⟨tg,it,ifs,0⟩] scope pos) (dE X.K C τ (.o ys)):=by
 obtain ⟨In,caps,N,wi,h1,h2,h3,h4⟩:=h.ex
 exact peW (cL h1 h2 h.hs h3) (h4 C)
theorem mK (i:Nat) {n:Str} {p spos:Pos} {rest:List Stmt} {N:Po} {ys:List D} {s:Sl} (hN:X.N.Nodup) (h:Cmp X elt tg it ifs scope τ ys) (hz:s=.o ys\/s=.d (.lst ys)) (hr:PSs X rest (dS X.K (τ.set i s) N)) (hi:X.N[i]?=some n:=by rfl) (hx:Loc X.env.scope n:=by first | exact .inl rfl | exact .inr rfl)
   (hsw:swapsWith (.ListComp elt [⟨tg,it,ifs,0⟩] scope pos) (some (.Name n p)) spos.line X.env=pure true:=by rfl) (hf:X.fn n=true\/X.env.scope.names.lookup n=some .local:=by first | exact .inl rfl | exact .inr rfl | assumption) :
   PSs X (.Assign [.Name n p] (.ListComp elt [⟨tg,it,ifs,0⟩] scope pos) spos :: rest) (dS X.K τ N):=by
 obtain ⟨In,caps,N',wi,h1,h2,h3,h4⟩:=h.ex
 have h5:∀ σ H Q,dE X.K true τ s σ H Q->ee In caps wi σ H Q:=by
   rcases hz with rfl | rfl
   · exact h4 true
   · intro σ H Q q
     obtain ⟨A,H₀,B,S,k⟩:=fX q
     refine h4 true σ H Q ⟨A,H₀,B,S,λv H' bs e hf q=>?_⟩
     obtain ⟨u,e1,d⟩:=q.den (G':=Hy.hd H' (vw true A B)) (aD (aj.refl _) λ_ z=>.inl z) (λb hb o ho=>aI.mpr ⟨λz=>(by obtain ⟨_,q⟩:=S.vd (C:=true) b z; rw [(hf b hb).1] at q; cases q),ho⟩) rfl
     cases e1
     exact k v H' e d
 exact bj (M:=(·=τ.set i s)) (psW (kU (ft (i:=i) hN hi hx hf) h1 h2 h.hs h3 hsw) λD σ H ⟨A,H₀,B,S,Me⟩=>h5 _ _ _ ⟨A,H₀,B,S,λv H' bs e hf h=>Me.nx _ _ _ _ rfl (S.set e hf h)⟩) λ_ e=>e ▸ hr
theorem kb {T:Nat->List Sl} {t:Nat->Bool} {f:Nat->D} (hc:bOk X.env.scope scope=true) (hi:PI X tg it (dI X.K τ xs)) (hT:∀ i,(T i).length=(bP τ (bCp X.N scope)++[Sl.un]).length/\∀ (l:Nat) (x:D),(bP τ (bCp X.N scope)++[Sl.un])[l]?=some (.d x)->(T i)[l]?=some (.d x))
   (hg:∀ i (h:i < xs.length) s H fp,PG (cpX X s H scope fp) tg (dG X.K (bP τ (bCp X.N scope)++[Sl.un]) xs[i] (T i)))
   (ht:∀ i,i < xs.length->∀ s H fp,PTs (cpX X s H scope fp) ifs (dT X.K (T i) (t i)))
   (he:∀ i,i < xs.length->t i=true->∀ s H fp,PE (cpX X s H scope fp) elt (dE X.K true (T i) (.d (f i)))) (hl:xs.length < 1000000) (hs:∀ x,foldedSetIterable it X.env x=pure x:=by intro _; rfl) :
   Cmp X elt tg it ifs scope τ (((List.range xs.length).filter t).map f):=by
 obtain ⟨cap,_⟩:=fU hc
 generalize hτ:bP τ (bCp X.N scope)++[Sl.un]=τb at *
 refine ⟨⟨λg tt te=>g=(λv σ H Q=>∃ (i:Nat) (h:i < xs.length),dG X.K τb xs[i] (T i) v σ H Q)/\tt=(λσ H Q=>∃ i,i < xs.length/\dT X.K (T i) (t i) σ H Q)/\te=(λσ H Q=>∃ i,i < xs.length/\t i=true/\dE X.K true (T i) (.d (f i)) σ H Q),_,_,_,cap,hi,?_,?_⟩,hs⟩
 · rintro g tt te ⟨rfl,rfl,rfl⟩ s H fp
   exact ⟨λpins s' σ H' v u Q I r ⟨i,h,q⟩=>hg i h s H fp pins s' σ H' v u Q I r q,λpins s' σ H' Q I ⟨i,h,q⟩=>ht i h s H fp pins s' σ H' Q I q,λpins s' σ H' Q I ⟨i,h,h',q⟩=>he i h h' s H fp pins s' σ H' Q I q⟩
 rintro C σ H Q ⟨A,H₀,B,S,kk⟩
 refine ⟨A,H₀,B,S,λJ H1 e1 yl=>⟨_,_,_,⟨rfl,rfl,rfl⟩,λD hD=>?_⟩⟩
 have S1:=S.mono e1
 have nD:¬ own A B D:=λz=>by obtain ⟨o,q⟩:=S1.dm D z; rw [hD] at q; cases q
 have noN:∀ (l:Nat) (t:Nd),τb[l]?=some (.n t)->0 ≠ 0:=λl t h=>by
   exfalso
   rw [<- hτ] at h
   have:=List.mem_of_getElem? h
   rcases List.mem_append.mp this with z | z
   · unfold bP at z
     obtain ⟨o,_,ho⟩:=List.mem_map.mp z
     split at ho
     · split at ho <;> cases ho
     · cases ho
   · cases List.mem_singleton.mp z
 have slots:∀ {σ':L2.St} {H':Hp},aj H1 H'->(∃ o,H' D=some o)->σ'.length=τb.length->(∀ (l:Nat) (s:Sl),τb[l]?=some s->cg X.K (hd H' λb=>own A B b\/b=D) H' (σ'[l]?).join [] s)->Sta X.K (λb=>own A B b\/b=D) H' τb (λ_=>[]) σ' H':=λ{σ' H'} e1 e2 e3 e4=>
   ⟨aj.refl _,e3,λl s h=>(e4 l s h).mono (aD (aj.refl _) λ_ z=>z.elim id λ⟨_,z⟩=>(nomatch z)) (aj.refl _),λ_ _ z=>(nomatch z),λ_ _ _ z=>(nomatch z),λb z=>z.elim (λz=>let ⟨o,q⟩:=S1.dm b z; ⟨o,e1 _ _ q⟩) λz=>z ▸ e2,λ_ _ z=>(nomatch z)⟩
 refine ⟨λi m σ' H'=>m=xs.length - i/\i<=xs.length/\aj H1 H'/\(∃ vs,H' D=some (.lst vs)/\vs.length<=i/\ar X.K (hd H' λb=>own A B b\/b=D) vs (((List.range i).filter t).map f)) /\
   σ'.length=τb.length/\∀ (l:Nat) (s:Sl),τb[l]?=some s->cg X.K (hd H' λb=>own A B b\/b=D) H' (σ'[l]?).join [] s,⟨xs.length,rfl,Nat.zero_le _,aq hD _,⟨[],aX,Nat.le_refl _,.nil⟩,?_,λl s h=>?_⟩,?_⟩
 · rw [<- hτ]; unfold fT bP; rw [List.length_append,List.length_append,List.length_map,List.length_map]; rfl
 · have hv:aj (hd H (own A B)) (hd (upd H1 D (.lst [])) λb=>own A B b\/b=D):=λb o z=>by
     obtain ⟨z1,z2⟩:=aI.mp z
     have z2:=e1 _ _ z2
     have ne:b ≠ D:=λz=>by rw [z,hD] at z2; cases z2
     exact aI.mpr ⟨λy=>y.elim z1 ne,by rw [aB ne]; exact z2⟩
   cases s with
   | un=>rfl
   | d x=>
     rw [<- hτ] at h
     have hlt:l < (bCp X.N scope).length:=by
       rcases Nat.lt_or_ge l (bCp X.N scope).length with h' | h'
       · exact h'
       · exfalso
         rw [List.getElem?_append_right (by unfold bP; rw [List.length_map]; exact h')] at h
         cases e:l - (bP τ (bCp X.N scope)).length with
         | zero=>rw [e] at h; cases h
         | succ n=>rw [e] at h; cases h
     rw [List.getElem?_append_left (by unfold bP; rw [List.length_map]; exact hlt)] at h
     rw [List.getElem?_append_left (by unfold fT; rw [List.length_map]; exact hlt)]
     unfold bP at h
     unfold fT
     rw [List.getElem?_map] at h ⊢
     cases e:(bCp X.N scope)[l]? with
     | none=>rw [e] at h; cases h
     | some o=>
       rw [e] at h
       cases o with
       | none=>cases h
       | some i=>
         simp only [Option.map_some,Option.some.injEq] at h
         split at h
         · rename_i x' hx'
           cases h
           obtain ⟨_,u,eu,d⟩:=S.sl i _ hx'
           exact ⟨rfl,u,by simpa using eu,d.mono hv⟩
         · cases h
   | o xs'=>
     exfalso
     rw [<- hτ] at h
     have:=List.mem_of_getElem? h
     rcases List.mem_append.mp this with z | z
     · unfold bP at z
       obtain ⟨o,_,ho⟩:=List.mem_map.mp z
       split at ho
       · split at ho <;> cases ho
       · cases ho
     · cases List.mem_singleton.mp z
   | n t'=>
     exfalso
     rw [<- hτ] at h
     have:=List.mem_of_getElem? h
     rcases List.mem_append.mp this with z | z
     · unfold bP at z
       obtain ⟨o,_,ho⟩:=List.mem_map.mp z
       split at ho
       · split at ho <;> cases ho
       · cases ho
     · cases List.mem_singleton.mp z
   | x E'=>
     exfalso
     rw [<- hτ] at h
     have:=List.mem_of_getElem? h
     rcases List.mem_append.mp this with z | z
     · unfold bP at z
       obtain ⟨o,_,ho⟩:=List.mem_map.mp z
       split at ho
       · split at ho <;> cases ho
       · cases ho
     · cases List.mem_singleton.mp z
 rintro i m σ' H' ⟨rfl,hi,e2,⟨vs,hv1,hv2,hv3⟩,hlen,hsl⟩
 obtain ⟨y1,y2⟩:=yl H' (aY.trans e2)
 by_cases hlt:i < xs.length
 · obtain ⟨g,y⟩:=y2 i hlt
   refine .inr ⟨g,λx H2 hy=>?_⟩
   obtain ⟨e3,dx⟩:=y x H2 hy
   have S2:Sta X.K (λb=>own A B b\/b=D) H' τb (λ_=>[]) σ' H':=slots e2 ⟨_,hv1⟩ hlen hsl
   have o0:∀ b,own (λb=>own A B b\/b=D) (λ_=>([]:List Addr)) b->own A B b\/b=D:=λb z=>z.elim id λ⟨_,z⟩=>(nomatch z)
   have dx':=dx _ S2.dm (λb o z=>by
     obtain ⟨z1,z2⟩:=aI.mp z
     exact aI.mpr ⟨λy=>(o0 b y).elim z1 λy=>(by rw [y,hD] at z2; cases z2),e2 _ _ z2⟩)
   refine ⟨i,hlt,_,_,_,S2.mono e3,dx',λσ2 B2 S3=>?_⟩
   have hB2:∀ j b,b ∈ B2 j->b ≠ D:=λj b hb z=>by
     have:=S3.fr j b hb
     rw [z,hv1] at this
     cases this
   have back:∀ {H5:Hp},aj H2 H5->σ2.length=τb.length/\∀ (l:Nat) (s:Sl),τb[l]?=some s->cg X.K (hd H5 λb=>own A B b\/b=D) H5 (σ2[l]?).join [] s:=λ{H5} e5=>by
     refine ⟨S3.len.trans (hT i).1,λl s h=>?_⟩
     cases s with
     | un=>rfl
     | d x=>
       obtain ⟨_,u,eu,d⟩:=S3.sl l _ ((hT i).2 l x h)
       exact ⟨rfl,u,eu,d.mono (aD e5 λ_ z=>.inl z)⟩
     | o xs'=>exact absurd (hsl l _ h) (λ⟨_,_,z,_⟩=>(nomatch z))
     | n t'=>exact absurd rfl (noN l t' h)
     | x E'=>exact absurd (hsl l _ h) (λ⟨_,_,z,_⟩=>(nomatch z))
   refine ⟨i,hlt,_,_,_,S3,λH4 e4=>?_⟩
   cases ht:t i with
   | false=>
     rw [if_neg Bool.false_ne_true]
     obtain ⟨b1,b2⟩:=back e4
     refine ⟨xs.length - (i + 1),by omega,rfl,hlt,e2.trans (e3.trans e4),⟨vs,e4 _ _ (e3 _ _ hv1),by omega,?_⟩,b1,b2⟩
     rw [List.range_succ,List.filter_append,List.map_append,List.filter_cons,ht]
     simpa using hv3.mono (aD (e3.trans e4) λ_ z=>z)
   | true=>
     rw [if_pos rfl]
     refine ⟨i,hlt,ht,bg (S3.mono e4) λv H5 e5 d5=>?_⟩
     have e6:=e3.trans (e4.trans e5)
     have hv5:=e6 _ _ hv1
     refine ⟨vs,xs.length - (i + 1),hv5,Nat.lt_trans (Nat.lt_of_le_of_lt hv2 (Nat.lt_trans hlt hl)) (by decide),by omega,rfl,hlt,?_,?_⟩
     · intro b o z
       have ne:b ≠ D:=λy=>by rw [y,hD] at z; cases z
       rw [aB ne]
       exact e6 _ _ (e2 _ _ z)
     have sm:aj (hd H5 λb=>own A B b\/b=D) (hd (upd H5 D (.lst (vs++[v]))) λb=>own A B b\/b=D):=λb o z=>by
       obtain ⟨z1,z2⟩:=aI.mp z
       exact aI.mpr ⟨z1,by rw [aB λy=>z1 (.inr y)]; exact z2⟩
     obtain ⟨b1,b2⟩:=back (e4.trans e5)
     refine ⟨⟨vs++[v],aX,by rw [List.length_append]; exact Nat.succ_le_succ hv2,?_⟩,b1,λl s h=>?_⟩
     · rw [List.range_succ,List.filter_append,List.map_append,List.filter_cons,ht,if_pos rfl]
       refine ar.append (hv3.mono ((aD e6 λ_ z=>z).trans sm)) (.cons (d5.mono ((aD (aj.refl _) λ_ z=>.inl z).trans sm)) .nil)
     · cases s with
       | un=>rfl
       | d x=>obtain ⟨z1,u,eu,d⟩:=b2 l _ h; exact ⟨z1,u,eu,d.mono sm⟩
       | o xs'=>exact absurd (hsl l _ h) (λ⟨_,_,z,_⟩=>(nomatch z))
       | n t'=>exact absurd rfl (noN l t' h)
       | x E'=>exact absurd (hsl l _ h) (λ⟨_,_,z,_⟩=>(nomatch z))
 · have e:i=xs.length:=by omega
   subst e
   refine .inl ⟨y1 _ (Nat.le_refl _),kk _ _ [D] (e1.trans e2) (λb hb=>?_) ⟨D,vs,rfl,rfl,hv1,hv3.mono (aD (aj.refl _) λb z=>z.elim (λz=>.inl (mf z)) λz=>.inr (List.mem_singleton.mp z))⟩⟩
   obtain rfl:=List.mem_singleton.mp hb
   exact ⟨e1.free hD,_,hv1⟩
theorem cmp (j:Nat) {n:Str} {g f:Nat->D} (B:Bk X k) (hi:PI X (.Name n p) it (dI X.K τ xs)) (hx:∀ i (h:i < xs.length),xs[i]=g i) (hl:xs.length < 1000000)
   (he:∀ i,i < xs.length->∀ s H fp,PE (cpX X s H scope fp) elt (dE X.K true ((bP τ (bCp X.N scope)++[Sl.un]).set j (.d (g i))) (.d (f i))))
   (hc:bOk X.env.scope scope=true:=by kernel_rfl) (hu:(bP τ (bCp X.N scope)++[Sl.un])[j]?=some .un:=by rfl) (hN:(bNm scope++[("#" : Str)])[j]?=some n:=by rfl) (hv:∀ s H fp,Loc (cpX X s H scope fp).env.scope n:=by intro _ _ _; first | exact .inl rfl | exact .inr rfl)
   (hf:∀ s H fp,(cpX X s H scope fp).fn n=true\/(cpX X s H scope fp).env.scope.names.lookup n=some .local:=by intro _ _ _; first | exact .inr rfl | exact .inl rfl) (hs:∀ x,foldedSetIterable it X.env x=pure x:=by intro _; rfl) :
   Cmp X elt (.Name n p) it [] scope τ ((List.range xs.length).map f):=by
 have h:=kb (T:=λi=>(bP τ (bCp X.N scope)++[Sl.un]).set j (.d (g i))) (t:=λ_=>true) (f:=f) (elt:=elt) (ifs:=[]) hc hi (λi=>⟨List.length_set,λl x h=>?_⟩) (λi h s H fp=>?_) (λi h s H fp=>?_) (λi h _ s H fp=>he i h s H fp) hl hs
 · rwa [List.filter_eq_self.mpr λ_ _=>rfl] at h
 · rw [List.getElem?_set_ne (λz=>by rw [<- z,hu] at h; cases h)]
   exact h
 · rw [hx i h]
   exact sO j (fU hc).2 hN (hv s H fp) (hf s H fp)
 · exact λpins s' σ H' Q I ⟨A,H₀,B,S,q⟩=>og pins s' σ H' Q I (q H' (aj.refl _))
end
section
variable {P:Program} {w:World} {K:PySem.W.Frag} {mg:Str->Option Value} {base:Heap}
noncomputable def lx (N:List Str) (ds:List D):List Sl:=ds.map .d++List.replicate (N.length - ds.length) .un
noncomputable abbrev Xc (P:Program) (w:World) (K:PySem.W.Frag) (mg:Str->Option Value) (base:Heap) (N:List Str) (qual:Str) (st:Stmt) (f:Addr) (cdv:Value) (A:Around) (outer:List Env) (s:Shared) (H:Hp) (E:XK):Cx:=(i0 CX0 P w K mg base N qual (ah st) f cdv A outer s H E).nox
theorem fnD {x qual:Str} {st:Stmt} {f:Addr} {fd:FuncData} {N ps:List Str} {k:Nat} {Φ:List D->Sl->Prop} (F:Fun K x qual st f fd) (S:ao N ps (ah st)) (hb:∀ x ∈ ai,mg x=none) (len:∀ ds r,Φ ds r->ds.length=ps.length)
   (body:∀ ds r,Φ ds r->∀ cdv A outer s H E,Bk (Xc P w K mg base N qual st f cdv A outer s H E) k->PSs (Xc P w K mg base N qual st f cdv A outer s H E) (bo st) (dS K (lx N ds) { nx:=λ_=>r=.d .non,rt:=λr'=>r'=r })) :
   aJ P w K mg base CX0 (k + 1) f fd ps (spD K Φ):=by
 refine F.ok S (λvs H Q E ⟨A,ds,r,_,d,h,_⟩=>d.length.trans (len ds r h)) λcdv A outer s H vs Q E hr ⟨A',ds,r,ha,d,h,q⟩=>⟨_,body ds r h cdv A outer s H E ⟨hr,rfl,hb,PassesOwn.never⟩,A',H,λ_=>[],⟨aj.refl _,?_,λi s hi=>?_,λ_ _ z=>(nomatch z),λ_ _ _ z=>(nomatch z),ha,λ_ _ z=>(nomatch z)⟩,λτ B σ H' h S=>?_,λ_ _ _ _ h=>h.elim,λ_ _ _ _ h=>h.elim,λv H' bs s h e hf z=>?_,λ_ _=>trivial⟩
 · unfold L2.start lx
   simp [d.length]
 · have hl:=d.length
   unfold lx at hi
   unfold L2.start
   by_cases hlt:i < ds.length
   · rw [List.getElem?_append_left (by simpa using hlt),List.getElem?_map,List.getElem?_eq_getElem hlt] at hi
     cases hi
     obtain ⟨v,e,dv⟩:=d.get (List.getElem?_eq_getElem hlt)
     refine ⟨rfl,v,?_,dv.mono (aD (aj.refl _) λ_ z=>z.elim id λ⟨_,z⟩=>(nomatch z))⟩
     rw [List.getElem?_append_left (by simpa [hl] using hlt),List.getElem?_map,e]
     rfl
   · rw [List.getElem?_append_right (by simpa using hlt),List.getElem?_replicate] at hi
     split at hi
     · cases hi; rfl
     · cases hi
 · obtain rfl:=(h:r=_)
   exact q .non H' [] S.same cO (fY .non)
 · obtain rfl:=(h:s=r)
   exact q v H' bs e hf z
theorem sC {K:PySem.W.Frag} {Φ:List D->Sl->Prop} (hΦ:∀ ns:List Int,ns.length<=63->Φ [.lst (ns.map .int)] (.d (.bl true))) (H:Hp) (a:Addr) (ns:List Int) (hl:ns.length<=63) (hS:SqL K H a (ns.map V.int)):spD K Φ [.ref a] H (λv _=>v=.bl true) λ_ _ _=>False:=by
 have hh:hd H (λ_=>False)=H:=by funext b; unfold hd; rw [if_neg id]
 refine ⟨λ_=>False,_,_,λ_ z=>z.elim,.cons (.lst (vs:=ns.map V.int) (by rw [hh]; exact hS) ?_) .nil,hΦ ns hl,λv H' bs _ _ h=>?_⟩
 · clear hl hS
   induction ns with
   | nil=>exact .nil
   | cons n ns ih=>exact .cons .int ih
 · obtain ⟨_,u,e,d⟩:=h
   cases e
   cases d
   rfl
end
end Hy
namespace Hy
open PySem PySem.Spec PyProof.Rows L2
open Ev (D Den ar aN aK aq a7 aL)
section
variable {X:Cx} {C:Bool} {τ:List Sl} {x y z:D} {a b e:Expr} {es:List Expr} {pos p:Pos} {k:Nat} {s:Sl} {ds:List D} {i j:Int}
theorem sD:OpR X (binaryOp .Add) (λx y H Q=>∃ l b xs zs,x=.ref l/\y=.ref b/\SqL X.K H l xs/\SqL X.K H b zs/\xs.length + zs.length<=sizeLine/\∀ p,H p=none->Q (.ref p) (upd H p (.lst (xs++zs)))):=by
 intro pins s σ H x y v u Q I rx ry h
 obtain ⟨l,b,xs,zs,rfl,rfl,hH,hB,hz,q⟩:=h
 cases rx
 cases ry
 obtain ⟨its,r,pl,_⟩:=I.list hH
 obtain ⟨its2,r2,pl2,_⟩:=I.list hB
 have hl:=r.length
 have hl2:=r2.length
 obtain ⟨⟨cls,dd,data,sl⟩,ho,hc,n,hd⟩:=pl.isList
 obtain ⟨⟨cls2,dd2,data2,sl2⟩,ho2,hc2,n2,hd2⟩:=pl2.isList
 simp only at hc hd hc2 hd2
 subst hc hd hc2 hd2
 have e:its.toArray++its2.toArray=(its++its2).toArray:=by simp
 refine concat_meets ⟨_,ho,rfl⟩ ⟨_,ho2,rfl⟩ noFill_list_add seq_list_add PySem.F.slot_list_add PySem.F.entry_list_add (PySem.F.args_list_add_2 _ _) (list_addW l b its.toArray its2.toArray n n2 dd dd2 sl sl2 (by rw [List.size_toArray,List.size_toArray]; omega)) ⟨ho,ho2,?_⟩
 rw [e]
 exact ⟨.ref _,_,I.yI (t':=s.toks) (r.append r2) (by rw [List.length_append]; omega),rfl,q _ I.fresh⟩
theorem dH {xs ys:List D} (ha:PE X a (dE X.K C τ (.d (.lst xs)))) (hb:PE X b (dE X.K C τ (.d (.lst ys)))) (hl:xs.length + ys.length < 1000000):PE X (.BinOp a .Add b pos) (dE X.K C τ (.o (xs++ys))):=peW (uk sD ha hb) λσ H Q ⟨A,H₀,B,S,k⟩=>
 bg S λv H1 e1 d1=>bg (S.mono e1) λw H2 e2 d2=>by
   cases d1 with
   | lst h1 r1=>cases d2 with
     | lst h2 r2=>
       refine ⟨_,_,_,_,rfl,rfl,aL (aY.trans e2) h1,aL aY h2,by rw [r1.length,r2.length]; exact Nat.le_of_lt (Nat.lt_trans hl (by decide)),λp hp=>?_⟩
       obtain ⟨z1,z2,z3⟩:=kc (K:=X.K) hp ((r1.mono (aD e2 λ_ z=>z)).append r2)
       exact k _ _ [p] (e1.trans (e2.trans z1)) (λb hb=>⟨(e1.trans e2).free (z2 b hb).1,(z2 b hb).2⟩) z3
theorem mkL (h:i.natAbs < 2 ^ 60):aN i j:=.inl (by
 rcases Nat.eq_zero_or_pos i.natAbs with z | z
 · rw [z]; decide
 · exact Nat.lt_trans ((Nat.log2_lt (by omega)).mpr h) (by decide))
theorem mkR (h:j.natAbs < 2 ^ 60):aN i j:=.inr (.inl (by
 rcases Nat.eq_zero_or_pos j.natAbs with z | z
 · rw [z]; decide
 · exact Nat.lt_trans ((Nat.log2_lt (by omega)).mpr h) (by decide)))
theorem mkD (h0:j ≠ 0) (h:j.natAbs < 2 ^ 62):aK j:=⟨h0,Nat.lt_trans ((Nat.log2_lt (by omega)).mpr h) (by decide)⟩
end
theorem a4 {α:Type} {xs:List α} {i:Nat} {x:α} (h:xs[i]?=some x):atI xs (i:Int)=some x:=by
 unfold atI ixN
 have:=(List.getElem?_eq_some_iff.mp h).1
 rw [if_pos (by omega),if_pos (by omega)]
 simpa using h
theorem cC {ns:List Int} {i:Int} (h0:0<=i) (h:i.toNat < ns.length):atI (ns.map D.int) i=some (.int (ns.getD i.toNat 0)):=by
 obtain ⟨n,rfl⟩:=Int.eq_ofNat_of_zero_le h0
 exact a4 (by
   have h:n < ns.length:=h
   simp [h])
theorem getD_none {α:Type} {xs:List α} {i:Nat} {d:α} (h:xs.length<=i):xs.getD i d=d:=by simp [List.getD,h]
theorem ex1 {α:Type} {p:α->Prop} {a:α} (h:p a):∃ a,p a:=⟨a,h⟩
theorem ex3 {α:Type} {p:α->α->α->Prop} {a b c:α} (h:p a b c):∃ a b c,p a b c:=⟨a,b,c,h⟩
end Hy
namespace Hy
open PySem PySem.Spec PyProof.Rows L2
open Ev (D Den ar)
noncomputable def Dfn (K:PySem.W.Frag) (x:Str) (st:Stmt) (f:Addr):Prop:=PySem.W.nsIn K mainGlobals x=some (some (.ref f))/\(∃ oc od kV dc pm an cd ct sl,K.lookup f=some ⟨oc,od,.func (PySem.W.fnOf x x (cb st) (bo st) (ah st) .none kV dc pm an cd ct),sl⟩/\PySem.W.codeIn K cd x=true)/\PySem.W.keepIn K (.ref f)=true
noncomputable def BdA (x:Str) (st:Stmt) (ps:List Str):Prop:=∀ (kV dc pm:Value) (an:Option Addr) (cd ct:Value) (us:List Value),us.length=ps.length->bindArgs (PySem.W.fnOf x x (cb st) (bo st) (ah st) .none kV dc pm an cd ct) ⟨us,[]⟩=pure (ps.zip us)
noncomputable def nsL (K:PySem.W.Frag):List Str->Prop
 | []=>True
 | x :: r=>PySem.W.nsIn K mainGlobals x=some none/\nsL K r
section
variable {P:Program} {w:World} {K:PySem.W.Frag} {h:Heap} {mg:Str->Option Value} {base:Heap} {x:Str} {st:Stmt} {f:Addr} {ps:List Str} {k:Nat} {Φ:List D->Sl->Prop}
theorem Dfn.of {oc:Value} {od an:Option Addr} {kV dc pm cd ct:Value} {sl:Array (Option Value)} (a:PySem.W.nsIn K mainGlobals x=some (some (.ref f))) (l:K.lookup f=some ⟨oc,od,.func (PySem.W.fnOf x x (cb st) (bo st) (ah st) .none kV dc pm an cd ct),sl⟩) (c:PySem.W.codeIn K cd x=true) (k:PySem.W.keepIn K (.ref f)=true):Dfn K x st f:=⟨a,⟨_,_,_,_,_,_,_,_,_,l,c⟩,k⟩
theorem nsL.none (X:K.In h) (G:h.Ns mainGlobals mg):∀ {l:List Str},nsL K l->∀ x ∈ l,mg x=none
 | _ :: _,z,x,m=>by
   rcases List.mem_cons.mp m with rfl | m
   · exact PySem.W.mg_none_of X G z.1
   · exact nsL.none X G z.2 x m
theorem Dfn.fn (d:Dfn K x st f) (X:K.In h) (G:h.Ns mainGlobals mg) (b:BdA x st ps):∃ fd,Fun K x x st f fd/\mg x=some (.ref f)/\PySem.W.keepIn K (.ref f)=true/\Binds K fd ps []:=by
 obtain ⟨a,⟨oc,od,kV,dc,pm,an,cd,ct,sl,l,c'⟩,q⟩:=d
 have F:=ng l c' q
 exact ⟨_,F,PySem.W.mg_of X G a,q,F.binds (b kV dc pm an cd ct)⟩
theorem Dfn.cal (d:Dfn K x st f) (X:K.In h) (G:h.Ns mainGlobals mg) (b:BdA x st ps) (o:∀ fd,Fun K x x st f fd->aJ P w K mg base CX0 k f fd ps (spD K Φ)):Cal P w K mg base k x Φ:=by
 obtain ⟨fd,F,h1,h2,h3⟩:=d.fn X G b
 exact ⟨f,fd,ps,o fd F,h1,h2,h3⟩
end
theorem bd1 {Q:List Value->Prop} (h:∀ a,Q [a]):∀ us:List Value,us.length=1->Q us:=λus e=>match us,e with | [a],_=>h a
theorem bd2 {Q:List Value->Prop} (h:∀ a b,Q [a,b]):∀ us:List Value,us.length=2->Q us:=λus e=>match us,e with | [a,b],_=>h a b
theorem bd3 {Q:List Value->Prop} (h:∀ a b c,Q [a,b,c]):∀ us:List Value,us.length=3->Q us:=λus e=>match us,e with | [a,b,c],_=>h a b c
theorem bd4 {Q:List Value->Prop} (h:∀ a b c d,Q [a,b,c,d]):∀ us:List Value,us.length=4->Q us:=λus e=>match us,e with | [a,b,c,d],_=>h a b c d
theorem bd5 {Q:List Value->Prop} (h:∀ a b c d e,Q [a,b,c,d,e]):∀ us:List Value,us.length=5->Q us:=λus e=>match us,e with | [a,b,c,d,f],_=>h a b c d f
end Hy
namespace Hy
open PySem PySem.Spec PyProof.Rows L2
open Ev (D Den ar aq a7 aL)
noncomputable def nC (H:Hp):List Nat->V->V->Prop
 | [],u,v=>v=u
 | i :: p,u,v=>∃ a vs w,u=.ref a/\(H a=some (.lst vs)\/H a=some (.tup vs))/\vs[i]?=some w/\nC H p w v
theorem nC.mono {H H':Hp} (e:aj H H'):∀ {p:List Nat} {u v:V},nC H p u v->nC H' p u v
 | [],_,_,h=>h
 | _ :: _,_,_,⟨a,vs,w,h1,h2,h3,h4⟩=>⟨a,vs,w,h1,h2.elim (λz=>.inl (e _ _ z)) (λz=>.inr (e _ _ z)),h3,h4.mono e⟩
section
variable {K:PySem.W.Frag} {G H:Hp}
theorem cg.frame {G' H':Hp} (g:aj G G') {v:Option V} {bs:List Addr}:∀ {s:Sl},(∀ b ∈ bs,H' b=H b)->cg K G H v bs s->cg K G' H' v bs s
 | .un,_,h=>h
 | .d _,_,⟨h,u,e1,h2⟩=>⟨h,u,e1,h2.mono g⟩
 | .o _,e,⟨a,vs,h1,h2,h3,h4⟩=>⟨a,vs,h1,h2,by rw [e a (by rw [h1]; exact List.mem_cons_self ..)]; exact h3,h4.mono g⟩
 | .n _,e,⟨h0,u,h1,h2⟩=>⟨h0,u,h1,h2.frame g e⟩
 | .x E,e,⟨a,o,h1,h2,h3,h4⟩=>⟨a,o,h1,h2,by rw [e a (by rw [h1]; exact List.mem_cons_self ..)]; exact h3,E.mono g h4⟩
end
noncomputable def xV:Sl->Option Nd
 | .un=>none
 | .d x=>some (.d x)
 | .o xs=>some (.l (xs.map .d))
 | .n t=>some t
 | .x _=>none
section
variable {K:PySem.W.Frag} {G H:Hp}
theorem pZ:∀ {vs:List V} {xs:List D},ar K G vs xs->aW K G H vs [] (xs.map .d)
 | _,_,.nil=>.nil
 | _,_,.cons h r=>.cons (b1:=[]) (b2:=[]) (.d h) (pZ r)
theorem cg.nd {v:V} {bs:List Addr} {s:Sl} {c:Nd} (h:cg K G H (some v) bs s) (e:xV s=some c):cD K G H v bs c/\bs.Nodup:=by
 cases s with
 | un=>cases e
 | d x=>cases e; obtain ⟨rfl,u,eu,d⟩:=h; cases eu; exact ⟨.d d,List.nodup_nil⟩
 | o xs=>cases e; obtain ⟨a,vs,rfl,e2,h3,h4⟩:=h; cases e2; exact ⟨.l h3 (pZ h4),by simp⟩
 | n t=>cases e; obtain ⟨h0,u,eu,h2⟩:=h; cases eu; exact ⟨h2,h0⟩
 | x E=>cases e
theorem Sta.nd {A:Addr->Prop} {H₀:Hp} {τ:List Sl} {B:Nat->List Addr} {σ:L2.St} (S:Sta K A H₀ τ B σ H) {i:Nat} {s:Sl} {c:Nd} (hi:τ[i]?=some s) (hc:xV s=some c):Sta K A H₀ (τ.set i (.n c)) (upB B i (B i)) σ H:=
 S.less (λ_ z=>z) λG' g _=>by
   have q:=S.sl i s hi
   obtain ⟨u,e⟩:∃ u,(σ[i]?).join=some u:=by
     cases s with
     | un=>cases hc
     | d x=>obtain ⟨_,u,e,_⟩:=q; exact ⟨u,e⟩
     | o xs=>obtain ⟨_,_,_,e,_⟩:=q; exact ⟨_,e⟩
     | n t=>obtain ⟨_,u,e,_⟩:=q; exact ⟨u,e⟩
     | x E=>cases hc
   rw [e] at q ⊢
   obtain ⟨q1,q2⟩:=q.nd hc
   exact ⟨q2,u,rfl,q1.frame g λ_ _=>rfl⟩
end
section
variable {X:Cx} {C:Bool} {τ:List Sl} {x y z:D} {a b e o ix:Expr} {es:List Expr} {pos p q:Pos} {k:Nat} {s:Sl} {N:Po} {rest:List Stmt} {i:Nat} {t c:Nd} {pt:List Nat} {xs:List Nd} {j:Int} {m:Nat}
end
end Hy
namespace Ev
open PySem PySem.Spec PyProof.Rows L2
noncomputable def bad:Str:=⟨#[0x110000]⟩
mutual
noncomputable def eqD:D->D->Bool
 | .non,.non=>true
 | .bl a,.bl b=>a == b
 | .bl a,.int j=>(if a then 1 else 0) == j
 | .int i,.bl b=>i == (if b then 1 else 0)
 | .int a,.int b=>a == b
 | .str a,.str b=>a == b
 | .tup xs,.tup ys=>jb xs ys
 | .lst xs,.lst ys=>jb xs ys
 | .box _,.box _=>true
 | .box _,.str b=>bad == b
 | .str a,.box _=>a == bad
 | .box _,.non | .box _,.bl _ | .box _,.int _ | .box _,.tup _ | .box _,.lst _=>false
 | .non,.box _ | .bl _,.box _ | .int _,.box _ | .tup _,.box _ | .lst _,.box _=>false
 | .non,.bl _ | .non,.int _ | .non,.str _ | .non,.tup _ | .non,.lst _=>false
 | .bl _,.non | .bl _,.str _ | .bl _,.tup _ | .bl _,.lst _=>false
 | .int _,.non | .int _,.str _ | .int _,.tup _ | .int _,.lst _=>false
 | .str _,.non | .str _,.bl _ | .str _,.int _ | .str _,.tup _ | .str _,.lst _=>false
 | .tup _,.non | .tup _,.bl _ | .tup _,.int _ | .tup _,.str _ | .tup _,.lst _=>false
 | .lst _,.non | .lst _,.bl _ | .lst _,.int _ | .lst _,.str _ | .lst _,.tup _=>false
noncomputable def jb:List D->List D->Bool
 | [],[]=>true
 | x :: xs,y :: ys=>eqD x y && jb xs ys
 | [],_ :: _=>false
 | _ :: _,[]=>false
end
mutual
noncomputable def toP:D->PyData
 | .non=>.none
 | .bl b=>.bool b
 | .int i=>.int i
 | .str x=>.str x
 | .tup xs=>.tuple (eR xs)
 | .lst xs=>.list (eR xs)
 | .box _=>.str bad
noncomputable def eR:List D->List PyData
 | []=>[]
 | x :: xs=>toP x :: eR xs
end
mutual
noncomputable def cln:D->Bool
 | .str x=>PyData.strOk x
 | .tup xs=>i9 xs
 | .lst xs=>i9 xs
 | .box _=>false
 | .non | .bl _ | .int _=>true
noncomputable def i9:List D->Bool
 | []=>true
 | x :: xs=>cln x && i9 xs
end
mutual
noncomputable def dep:D->Nat
 | .tup xs=>kx xs + 1
 | .lst xs=>kx xs + 1
 | .non | .bl _ | .int _ | .str _ | .box _=>0
noncomputable def kx:List D->Nat
 | []=>0
 | x :: xs=>max (dep x) (kx xs)
end
noncomputable def fW (x:D):Prop:=cln x=true/\dep x<=64
noncomputable instance (x:D):Decidable (fW x):=inferInstanceAs (Decidable (_/\_))
mutual
theorem gX:∀ x y:D,PyData.eqv (toP x) (toP y)=eqD x y
 | .non,y=>by cases y <;> simp [toP,PyData.eqv,eqD]
 | .bl a,y=>by cases y <;> simp [toP,PyData.eqv,eqD]
 | .int a,y=>by cases y <;> simp [toP,PyData.eqv,eqD]
 | .str a,y=>by cases y <;> simp [toP,PyData.eqv,eqD]
 | .tup xs,.tup ys=>by simp only [toP,PyData.eqv,eqD]; exact ic xs ys
 | .lst xs,.lst ys=>by simp only [toP,PyData.eqv,eqD]; exact ic xs ys
 | .tup xs,.non=>by simp [toP,PyData.eqv,eqD]
 | .tup xs,.bl _=>by simp [toP,PyData.eqv,eqD]
 | .tup xs,.int _=>by simp [toP,PyData.eqv,eqD]
 | .tup xs,.str _=>by simp [toP,PyData.eqv,eqD]
 | .tup xs,.lst _=>by simp [toP,PyData.eqv,eqD]
 | .lst xs,.non=>by simp [toP,PyData.eqv,eqD]
 | .lst xs,.bl _=>by simp [toP,PyData.eqv,eqD]
 | .lst xs,.int _=>by simp [toP,PyData.eqv,eqD]
 | .lst xs,.str _=>by simp [toP,PyData.eqv,eqD]
 | .lst xs,.tup _=>by simp [toP,PyData.eqv,eqD]
 | .tup xs,.box _=>by simp [toP,PyData.eqv,eqD]
 | .lst xs,.box _=>by simp [toP,PyData.eqv,eqD]
 | .box _,y=>by cases y <;> simp [toP,PyData.eqv,eqD]
theorem ic:∀ xs ys:List D,PyData.eqvAll (eR xs) (eR ys)=jb xs ys
 | [],[]=>by simp [eR,PyData.eqvAll,jb]
 | [],_ :: _=>by simp [eR,PyData.eqvAll,jb]
 | _ :: _,[]=>by simp [eR,PyData.eqvAll,jb]
 | x :: xs,y :: ys=>by simp only [eR,PyData.eqvAll,jb]; rw [gX x y,ic xs ys]
end
mutual
theorem nv:∀ x:D,(toP x).canLay0=cln x
 | .non=>by simp [toP,PyData.canLay0,cln]
 | .bl _=>by simp [toP,PyData.canLay0,cln]
 | .int _=>by simp [toP,PyData.canLay0,cln]
 | .str _=>by simp [toP,PyData.canLay0,cln]
 | .tup xs=>by simp only [toP,PyData.canLay0,cln]; exact ir xs
 | .lst xs=>by simp only [toP,PyData.canLay0,cln]; exact ir xs
 | .box _=>by simp only [toP,PyData.canLay0,cln]; decide +kernel
theorem ir:∀ xs:List D,PyData.canLayAll0 (eR xs)=i9 xs
 | []=>by simp [eR,PyData.canLayAll0,i9]
 | x :: xs=>by simp only [eR,PyData.canLayAll0,i9]; rw [nv x,ir xs]
end
mutual
theorem nu:∀ x:D,(toP x).depth=dep x
 | .non=>by simp [toP,PyData.depth,dep]
 | .bl _=>by simp [toP,PyData.depth,dep]
 | .int _=>by simp [toP,PyData.depth,dep]
 | .str _=>by simp [toP,PyData.depth,dep]
 | .tup xs=>by simp only [toP,PyData.depth,dep]; rw [ib xs]
 | .lst xs=>by simp only [toP,PyData.depth,dep]; rw [ib xs]
 | .box _=>by simp [toP,PyData.depth,dep]
theorem ib:∀ xs:List D,PyData.depthAll (eR xs)=kx xs
 | []=>by simp [eR,PyData.depthAll,kx]
 | x :: xs=>by simp only [eR,PyData.depthAll,kx]; rw [nu x,ib xs]
end
theorem cF {x:D} (h:fW x):SeqAt.shaped (toP x)=true:=by
 unfold SeqAt.shaped
 rw [nv,nu,h.1,Bool.true_and]
 exact decide_eq_true h.2
section
variable {X:Cx} {pins:List (Addr × Obj)} {σ:L2.St} {H G:Hp} {s:Shared}
mutual
theorem cW (I:Inv X pins σ H s) (e:aj G H):∀ {v:V} {d:D} {u:Value},Den X.K G v d->RelV v u->cln d=true->∃ as,Reads s.heap u (toP d) as
 | _,_,_,.non,r,_=>by cases r; exact ⟨_,.none⟩
 | _,_,_,.bl,r,_=>by cases r; exact ⟨_,.bool _⟩
 | _,_,_,.int,r,_=>by obtain ⟨t,rfl⟩:=r; exact ⟨_,.int _ _⟩
 | _,_,_,.str,r,_=>by obtain ⟨t,rfl⟩:=r; exact ⟨_,.str _ _⟩
 | _,_,_,.tup h q,r,c=>by
   cases r
   obtain ⟨its,rv,⟨o,h1,h2,n,h3⟩,_⟩:=I.tuple (a7 e h)
   obtain ⟨as,z⟩:=gn I e q rv (by rw [cln] at c; exact c)
   exact ⟨_,.tuple h1 h2 h3 (by simpa using z)⟩
 | _,_,_,.lst h q,r,c=>by
   cases r
   obtain ⟨its,rv,⟨o,n,h1,h2,_,h3⟩,_⟩:=I.list (aL e h)
   obtain ⟨as,z⟩:=gn I e q rv (by rw [cln] at c; exact c)
   exact ⟨_,.list h1 h2 h3 (by simpa using z)⟩
 | _,_,_,.box _,_,c=>by rw [cln] at c; cases c
theorem gn (I:Inv X pins σ H s) (e:aj G H):∀ {vs:List V} {ds:List D} {us:List Value},ar X.K G vs ds->Vals vs us->i9 ds=true->∃ as,ReadsAll s.heap us (eR ds) as
 | _,_,_,.nil,.nil,_=>⟨_,.nil⟩
 | _,_,_,.cons h q,.cons r rs,c=>by
   rw [i9,Bool.and_eq_true] at c
   obtain ⟨as,z⟩:=cW I e h r c.1
   obtain ⟨bs,z'⟩:=gn I e q rs c.2
   exact ⟨_,.cons z z'⟩
end
end
end Ev
namespace Hy
open PySem PySem.Spec PyProof.Rows L2
open Ev (D Den ar aq a7 aL Itz Itv uF vK mx qP eqD fW cW cF gX)
section
variable {X:Cx} {C:Bool} {τ:List Sl} {x y z:D} {a b e c tg it elt:Expr} {es ifs:List Expr} {pos p q:Pos} {k:Nat} {s:Sl} {N:Po} {rest body:List Stmt} {ds xs ys:List D} {i j:Int} {scope:Scope}
theorem nW (M:Nat->Bool->List Sl->Prop) (B:Bk X k) (h0:∃ n t,M n t τ) (hc:∀ n t τ',M n t τ'->PT X c (dT X.K τ' t)) (hb:∀ n τ',M n true τ'->PSs X body (dS X.K τ' { N with nx:=λτ2=>∃ m t,m < n/\M m t τ2,ct:=λτ2=>∃ m t,m < n/\M m t τ2,bk:=λ_=>False }))
   (hr:∀ n τ',M n false τ'->PSs X rest (dS X.K τ' N)):PSs X (.While c body [] pos :: rest) (dS X.K τ N):=by
 have hc':PT X c λσ H Q=>∃ n t τ',M n t τ'/\dT X.K τ' t σ H Q:=λpins s σ H Q I ⟨n,t,τ',m,q⟩=>hc n t τ' m pins s σ H Q I q
 have hb':PSs X body λD σ H=>∃ n τ',M n true τ'/\dS X.K τ' { N with nx:=λτ2=>∃ m t,m < n/\M m t τ2,ct:=λτ2=>∃ m t,m < n/\M m t τ2,bk:=λ_=>False } D σ H:=λpins s σ H D I ⟨n,τ',m,q⟩=>hb n τ' m pins s σ H D I q
 refine bj (M:=λτ'=>∃ n,M n false τ') (psW (rF B.po hc' hb') λD σ H ⟨A,H₀,B,S,Me⟩=>⟨λm σ' H'=>∃ t τ' B',M m t τ'/\Sta X.K A H₀ τ' B' σ' H',?_,?_⟩) λτ' h=>let ⟨n,h⟩:=h; hr n τ' h
 · obtain ⟨n,t,h0⟩:=h0
   exact ⟨n,t,τ,B,h0,S⟩
 rintro m σ' H' ⟨t,τ',B',hM,S'⟩
 refine ⟨m,t,τ',hM,A,H₀,B',S',λH1 e1=>?_⟩
 cases t with
 | false=>exact sA (Me.nx τ' B' σ' H1 ⟨m,hM⟩ (S'.mono e1))
 | true=>
   refine tP ⟨λσ2 H2=>∃ τ2 B2,(∃ n t,n < m/\M n t τ2)/\Sta X.K A H₀ τ2 B2 σ2 H2,λσ2 H2 ⟨τ2,B2,⟨n,t,l,q⟩,S2⟩=>⟨n,l,t,τ2,B2,q,S2⟩,m,τ',hM,A,H₀,B',S'.mono e1,?_⟩
   exact ⟨λτ2 B2 σ2 H2 m S2=>⟨τ2,B2,m,S2⟩,λ_ _ _ _ z=>z.elim,λτ2 B2 σ2 H2 m S2=>⟨τ2,B2,m,S2⟩,Me.rt,Me.xc⟩
noncomputable def gP (xs ys:List D):List D:=(xs.zip ys).map λp=>.tup [p.1,p.2]
theorem de:(gP xs ys).length=min xs.length ys.length:=by simp [gP]
theorem sX (i:Nat) (h:i < (gP xs ys).length):(gP xs ys)[i]=.tup [xs.getD i .non,ys.getD i .non]:=by
 rw [de] at h
 simp [gP,show i < xs.length by omega,show i < ys.length by omega]
theorem uU {K:PySem.W.Frag} {G:Hp} {a b:Addr} {vs ws:List V} (h:SqL K G a vs) (r:ar K G vs xs) (h':SqL K G b ws) (r':ar K G ws ys):Yl K (Itz K a b) (gP xs ys) G:=by
 intro H sg
 have hl:=r.length
 have hl':=r'.length
 refine ⟨λi hi=>⟨vs,ws,aL sg h,aL sg h',by rw [de] at hi; omega⟩,λi hi=>?_⟩
 have hi':=hi
 rw [de] at hi'
 obtain ⟨v,hv,dv⟩:=r.get (List.getElem?_eq_getElem (show i < xs.length by omega))
 obtain ⟨w,hw,dw⟩:=r'.get (List.getElem?_eq_getElem (show i < ys.length by omega))
 refine ⟨⟨vs,ws,v,w,aL sg h,aL sg h',hv,hw⟩,λy H' ⟨p,x1,x2,hp,e0,e1,e2,e3⟩=>?_⟩
 subst e0 e1
 have ex:x1=v:=by have:=e2 vs (aL sg h); rw [hv] at this; exact (Option.some.inj this).symm
 have ey:x2=w:=by have:=e3 ws (aL sg h'); rw [hw] at this; exact (Option.some.inj this).symm
 subst ex ey
 refine ⟨aq hp _,λM hM sv=>?_⟩
 rw [sX,show xs.getD i .non=xs[i] by simp [show i < xs.length by omega],show ys.getD i .non=ys[i] by simp [show i < ys.length by omega]]
 have up:=sv.trans (aD (aq hp (.tup [x1,x2])) λ_ z=>z)
 exact .tup (SqT.of (kF hM hp)) (.cons (dv.mono up) (.cons (dw.mono up) .nil))
theorem ur {ts:List Expr} {m:Nat} {tp:Pos} (B:Bk X k) (h:PE X a (dE X.K true τ (.d (.lst xs)))) (h':PE X b (dE X.K true τ (.d (.lst ys)))) (hg:Gl X "zip":=by rfl) (hs:starEach [a,b] X.env=(false,eval a X.env) :: starEach [b] X.env:=by rfl) (hs2:starEach [b] X.env=[(false,eval b X.env)]:=by rfl) :
   PI X (.Tuple ts m tp) (.Call (.Name "zip" p) [a,b] [] pos) (dI X.K τ (gP xs ys)):=
 piW (mx B.calm hg (B.blt _ (by decide)) (aa h (aa h' af hs2) hs) hs hs2) λσ H R ⟨A,H₀,B,S,k⟩=>c8 S λvs H1 e1 d1=>by
   cases d1 with
   | cons d r=>
     cases r with
     | cons d' r=>
       cases r
       cases d with
       | lst h r=>cases d' with
         | lst h' r'=>exact ⟨_,_,rfl,⟨_,aL aY h⟩,⟨_,aL aY h'⟩,k _ H1 e1 (uU h r h' r')⟩
theorem u7 (hu:X.A.units + 64 < cLine):OpR X (compareOp .Eq) (λx y H Q=>∃ G d e,aj G H/\Den X.K G x d/\Den X.K G y e/\fW d/\fW e/\Q (.bl (eqD d e)) H):=by
 intro pins s σ H x y v u Q I rx ry ⟨G,d,e,sg,dx,dy,o1,o2,q⟩
 obtain ⟨as,r1⟩:=cW I sg dx rx o1.1
 obtain ⟨bs,r2⟩:=cW I sg dy ry o2.1
 exact eq_dataH r1 r2 (cF o1) (cF o2) hu ⟨.bl _,H,I,by rw [gX]; rfl,q⟩
theorem wx (hu:X.A.units + 64 < cLine):OpR X (compareOp .NotEq) (λx y H Q=>∃ G d e,aj G H/\Den X.K G x d/\Den X.K G y e/\fW d/\fW e/\Q (.bl (!eqD d e)) H):=by
 intro pins s σ H x y v u Q I rx ry ⟨G,d,e,sg,dx,dy,o1,o2,q⟩
 obtain ⟨as,r1⟩:=cW I sg dx rx o1.1
 obtain ⟨bs,r2⟩:=cW I sg dy ry o2.1
 exact ne_dataH r1 r2 (cF o1) (cF o2) hu ⟨.bl _,H,I,by rw [gX]; rfl,q⟩
theorem xT (B:Bk X k) (h1:fW x) (h2:fW y):cE X (compareOp .Eq) x y (.bl (eqD x y)):=⟨_,u7 B.room.units,λM v w H Q _ d1 d2 q=>⟨_,x,y,aY,d1,d2,h1,h2,q _ H (aj.refl _) .bl⟩⟩
theorem xN (B:Bk X k) (h1:fW x) (h2:fW y):cE X (compareOp .NotEq) x y (.bl (!eqD x y)):=⟨_,wx B.room.units,λM v w H Q _ d1 d2 q=>⟨_,x,y,aY,d1,d2,h1,h2,q _ H (aj.refl _) .bl⟩⟩
variable {u v:Str}
theorem xY:cE X (compareOp .NotEq) (.str u) (.str v) (.bl (!decide (u=v))):=⟨_,um,λ_ v' w H Q _ d1 d2 k=>by
 cases d1
 cases d2
 exact ⟨rfl,by rw [show decide (V.str u=V.str v)=decide (u=v) by simp]; exact k _ H (aj.refl _) .bl⟩⟩
theorem gD:∀ {bs:List Bool} {us:List Value},Vals (bs.map V.bl) us->us=bs.map Value.bool
 | [],_,h=>by cases h; rfl
 | b :: bs,_,h=>by
   cases h with
   | cons rv rs=>rw [gD rs,show _=Value.bool b from rv]; rfl
theorem qB (hc:X.calm=true):dg X (.builtin "all") (λxs H Q=>∃ (p:Addr) (bs:List Bool),xs=[.ref p]/\SqL X.K H p (bs.map V.bl)/\Q (.bl (bs.all id)) H):=by
 intro pins s σ H xs us Q I r q
 obtain ⟨p,bs,rfl,h,q⟩:=q
 obtain ⟨u,rfl,ru⟩:∃ u,us=[u]/\RelV (.ref p) u:=by
   cases r with
   | cons r1 r=>cases r; exact ⟨_,rfl,r1⟩
 cases (show u=Value.ref _ from ru)
 obtain ⟨its,rv,pl,hz⟩:=I.list h
 obtain rfl:=gD rv
 have lt:∀ a,s.heap.IsList a (bs.map Value.bool).toArray->a ≠ s.heap.objs.size:=λa ⟨o,z,_⟩=>Nat.ne_of_lt (Heap.lt_size z)
 refine call_all_walk (wpAny_pyIter_list pl.isList ⟨_,_,_,_,_,_,λi=>(bs.map Value.bool)[i]? == some (Value.bool true),rfl,Walks.list (A:=X.A.in1) (I.ok.hd hc) _ _ (lt _ pl.isList) (bs.map Value.bool).toArray,⟨⟨_,Heap.get?_push_size _ rfl,rfl,rfl⟩,?_⟩,λi v s' Q' E' hP hQ=>?_,λh' tk hk=>?_⟩)
 · obtain ⟨o,z1,z2⟩:=pl.isList
   exact ⟨o,Heap.get?_push_of_some _ z1,z2⟩
 · have hP':(bs.map Value.bool)[i]?=some v:=by simpa using hP
   obtain ⟨c,_,rfl⟩:=List.mem_map.mp (List.mem_of_getElem? hP')
   refine wpAny_truthy_bool ?_
   have hQ:Q' ((bs.map Value.bool)[i]? == some (Value.bool true)) s':=hQ
   rw [hP'] at hQ
   cases c
   · exact hQ
   · exact hQ
 · refine ⟨.bl (bs.all id),H,I.kept (t':=tk) λb' o z=>?_,?_,q⟩
   · refine hk b' o (λhm=>?_) (Heap.get?_push_of_some _ z)
     have:b'=s.heap.objs.size:=by simpa using hm
     exact absurd (Heap.lt_size z) (by rw [this]; exact Nat.lt_irrefl _)
   · have e:∀ bs:List Bool,bs.all id=(List.range (bs.map Value.bool).toArray.size).all λi=>(bs.map Value.bool)[i]? == some (Value.bool true):=λbs=>by
       rw [List.size_toArray,List.length_map]
       induction bs with
       | nil=>rfl
       | cons b bs ih=>
         rw [List.all_cons,ih,List.length_cons,List.range_succ_eq_map,List.all_cons,List.all_map]
         congr 1
         cases b <;> rfl
     rw [e]; rfl
theorem ny {K:PySem.W.Frag} {H:Hp}:∀ {vs:List V} {bs:List Bool},ar K H vs (bs.map .bl)->vs=bs.map V.bl
 | _,[],h=>by cases h; rfl
 | _,_ :: _,h=>by
   cases h with
   | cons d r=>cases d; rw [ny r]; rfl
theorem dM (hc:X.calm=true) (bs:List Bool) (hx:xs=bs.map .bl):gx X (.builtin "all") [.lst xs] (.d (.bl (bs.all id))):=⟨_,qB hc,λM vs H Q _ d q=>by
 subst hx
 cases d with
 | cons d r=>
   cases r
   cases d with
   | lst h r=>
     cases ny r
     exact ⟨_,_,rfl,aL aY h,q _ H [] (aj.refl _) cO (fY .bl)⟩⟩
end
end Hy
namespace Hy
open PySem PySem.Spec PyProof.Rows L2
open Ev (D Den ar aq a7 aL aE fT dN PTs cL ee)
section
variable {X:Cx} {C:Bool} {τ:List Sl} {x y z:D} {a b e c tg it elt o:Expr} {es ifs:List Expr} {pos p q:Pos} {k:Nat} {s:Sl} {N:Po} {rest body:List Stmt} {ds xs ys:List D} {i j:Int} {scope:Scope}
end
section
variable {X:Cx} {C:Bool} {τ τ':List Sl} {x y z:D} {a b e c tg it elt o ix:Expr} {es ifs:List Expr} {pos p q:Pos} {k:Nat} {s:Sl} {N:Po} {rest body:List Stmt} {ds xs ys:List D} {i:Nat} {j:Int} {scope:Scope}
noncomputable def dGs (K:PySem.W.Frag) (τ:List Sl) (xs:List D) (τ':List Sl):TGs:=λvs σ H Q=>∃ A H₀ B,Sta K A H₀ τ B σ H/\ar K (hd H (own A B)) vs xs/\∀ σ' B',Sta K A H₀ τ' B' σ' H->Q σ' H
theorem ym {es:List Expr} {t t':TGs} (h:PGs X es t) (f:∀ v σ H Q,t' v σ H Q->t v σ H Q):PGs X es t':=λpins s σ H v u Q I r q=>h pins s σ H v u Q I r (f v σ H Q q)
theorem u6:PGs X [] (dGs X.K τ [] τ):=ym oF λv σ H Q ⟨A,H₀,B,S,d,k⟩=>by
 cases d
 exact ⟨rfl,k σ B S⟩
theorem oz (i:Nat) {n:Str} (hN:X.N.Nodup) (h:PGs X es (dGs X.K (τ.set i (.d x)) xs τ')) (hi:X.N[i]?=some n:=by rfl) (hx:Loc X.env.scope n:=by first | exact .inl rfl | exact .inr rfl) (hf:X.fn n=true\/X.env.scope.names.lookup n=some .local:=by first | exact .inl rfl | exact .inr rfl | assumption):PGs X (.Name n p :: es) (dGs X.K τ (x :: xs) τ'):=
 ym (iy (ft (i:=i) hN hi hx hf) h) λv σ H Q ⟨A,H₀,B,S,d,k⟩=>by
   cases d with
   | cons d r=>
     have sub:∀ b,own A (upB B i []) b->own A B b:=λb z=>z.elim .inl λ⟨j,z⟩=>(bE z).elim (λz=>nomatch z.2) λz=>.inr ⟨j,z.2⟩
     exact ⟨_,_,rfl,A,H₀,_,S.set (aj.refl _) (bs:=[]) (λ_ z=>nomatch z) (fY d),r.mono (aD (aj.refl _) sub),k⟩
theorem xZ {m:Nat} (hc:X.calm=true) (h:PGs X es (dGs X.K τ xs τ')) (hl:(assignEach es X.env).length=xs.length:=by rfl) (hst:(assignEach es X.env).findIdx? (·.1)=none:=by rfl):PG X (.Tuple es m pos) (dG X.K τ (.tup xs) τ'):=
 pgW (qa (n:=xs.length) hc h hl hst) λv σ H Q ⟨A,H₀,B,S,d,k⟩=>by
   cases d with
   | tup h r=>exact ⟨_,_,rfl,a7 aY h,r.length,A,H₀,B,S,r,k⟩
theorem vL {m:Nat} (he:PE X e (dE X.K true τ (.d x))) (hg:PG X (.Tuple es m p) (dG X.K τ x τ')) (hr:PSs X rest (dS X.K τ' N)) (hs:swapsWithSole [.Tuple es m p] e pos.line X.env=pure false:=by rfl) (hw:swappedStores [.Tuple es m p] e X.env=pure none:=by rfl)
   (h1:(assignEach [.Tuple es m p] X.env).map (·.2)=[assign (.Tuple es m p) X.env]:=by rfl):PSs X (.Assign [.Tuple es m p] e pos :: rest) (dS X.K τ N):=
 bj (M:=(·=τ')) (psW (qA he hg hs hw h1) λD σ H ⟨A,H₀,B,S,Me⟩=>bg S λv H1 e1 d1=>⟨A,H₀,B,S.mono e1,d1,λσ' B' S'=>Me.nx _ _ _ _ rfl S'⟩) λ_ e=>e ▸ hr
theorem yv (T:Nat->List Sl) {f:Nat->D} (B:Bk X k) (hi:PI X tg it (dI X.K τ xs)) (hl:xs.length < 1000000) (hT:∀ i,(T i).length=(bP τ (bCp X.N scope)++[Sl.un]).length/\∀ (l:Nat) (x:D),(bP τ (bCp X.N scope)++[Sl.un])[l]?=some (.d x)->(T i)[l]?=some (.d x))
   (hg:∀ i (h:i < xs.length) s H fp,PG (cpX X s H scope fp) tg (dG X.K (bP τ (bCp X.N scope)++[.un]) xs[i] (T i)))
   (he:∀ i,i < xs.length->∀ s H fp,PE (cpX X s H scope fp) elt (dE X.K true (T i) (.d (f i)))) (hc:bOk X.env.scope scope=true:=by kernel_rfl) (hs:∀ x,foldedSetIterable it X.env x=pure x:=by intro _; rfl) :
   Cmp X elt tg it [] scope τ ((List.range xs.length).map f):=by
 have h:=kb (T:=T) (t:=λ_=>true) (f:=f) (elt:=elt) (ifs:=[]) hc hi hT hg (λi h s H fp=>λpins s' σ H' Q I ⟨A,H₀,B,S,q⟩=>og pins s' σ H' Q I (q H' (aj.refl _))) (λi h _ s H fp=>he i h s H fp) hl hs
 rwa [List.filter_eq_self.mpr λ_ _=>rfl] at h
theorem nZ {c:Expr} {t:TT} (h:PT X c t):PTs X [c] t:=λpins s σ H Q I q=>wpAny_tests_one (h pins s σ H Q I q)
theorem xl (j:Nat) {n:Str} {g f:Nat->D} {t:Nat->Bool} (B:Bk X k) (hi:PI X (.Name n p) it (dI X.K τ xs)) (hx:∀ i (h:i < xs.length),xs[i]=g i) (hl:xs.length < 1000000)
   (ht:∀ i,i < xs.length->∀ s H fp,PT (cpX X s H scope fp) c (dT X.K ((bP τ (bCp X.N scope)++[Sl.un]).set j (.d (g i))) (t i)))
   (he:∀ i,i < xs.length->t i=true->∀ s H fp,PE (cpX X s H scope fp) elt (dE X.K true ((bP τ (bCp X.N scope)++[Sl.un]).set j (.d (g i))) (.d (f i))))
   (hc:bOk X.env.scope scope=true:=by kernel_rfl) (hu:(bP τ (bCp X.N scope)++[Sl.un])[j]?=some .un:=by rfl) (hN:(bNm scope++[("#" : Str)])[j]?=some n:=by rfl) (hv:∀ s H fp,Loc (cpX X s H scope fp).env.scope n:=by intro _ _ _; first | exact .inl rfl | exact .inr rfl)
   (hf:∀ s H fp,(cpX X s H scope fp).fn n=true\/(cpX X s H scope fp).env.scope.names.lookup n=some .local:=by intro _ _ _; first | exact .inr rfl | exact .inl rfl) (hs:∀ x,foldedSetIterable it X.env x=pure x:=by intro _; rfl) :
   Cmp X elt (.Name n p) it [c] scope τ (((List.range xs.length).filter t).map f):=by
 refine kb (T:=λi=>(bP τ (bCp X.N scope)++[Sl.un]).set j (.d (g i))) (t:=t) (f:=f) (elt:=elt) (ifs:=[c]) hc hi (λi=>⟨List.length_set,λl x h=>?_⟩) (λi h s H fp=>?_) (λi h s H fp=>nZ (ht i h s H fp)) he hl hs
 · rw [List.getElem?_set_ne (λz=>by rw [<- z,hu] at h; cases h)]
   exact h
 · rw [hx i h]
   exact sO j (fU hc).2 hN (hv s H fp) (hf s H fp)
end
section
variable {X:Cx} {C:Bool} {τ τ':List Sl} {x y z:D} {a b e c tg it elt o ix:Expr} {es ifs:List Expr} {pos p q:Pos} {k:Nat} {s:Sl} {N:Po} {rest body:List Stmt} {ds xs ys:List D} {i:Nat} {scope:Scope}
theorem wL (j l:Nat) {n m:Str} {p2 pt:Pos} {md:Nat} {g g' f:Nat->D} (B:Bk X k) (hi:PI X (.Tuple [.Name n p,.Name m p2] md pt) it (dI X.K τ xs)) (hx:∀ i (h:i < xs.length),xs[i]=.tup [g i,g' i]) (hl:xs.length < 1000000)
   (he:∀ i,i < xs.length->∀ s H fp,PE (cpX X s H scope fp) elt (dE X.K true (((bP τ (bCp X.N scope)++[Sl.un]).set j (.d (g i))).set l (.d (g' i))) (.d (f i))))
   (hc:bOk X.env.scope scope=true:=by kernel_rfl) (hu:(bP τ (bCp X.N scope)++[Sl.un])[j]?=some .un:=by rfl) (hu':(bP τ (bCp X.N scope)++[Sl.un])[l]?=some .un:=by rfl) (hN:(bNm scope++[("#" : Str)])[j]?=some n:=by rfl) (hN':(bNm scope++[("#" : Str)])[l]?=some m:=by rfl) (hv:∀ s H fp,Loc (cpX X s H scope fp).env.scope n:=by intro _ _ _; first | exact .inl rfl | exact .inr rfl) (hv':∀ s H fp,Loc (cpX X s H scope fp).env.scope m:=by intro _ _ _; first | exact .inl rfl | exact .inr rfl)
   (hf:∀ s H fp,(cpX X s H scope fp).fn n=true\/(cpX X s H scope fp).env.scope.names.lookup n=some .local:=by intro _ _ _; first | exact .inr rfl | exact .inl rfl) (hf':∀ s H fp,(cpX X s H scope fp).fn m=true\/(cpX X s H scope fp).env.scope.names.lookup m=some .local:=by intro _ _ _; first | exact .inr rfl | exact .inl rfl) (hs:∀ x,foldedSetIterable it X.env x=pure x:=by intro _; rfl) :
   Cmp X elt (.Tuple [.Name n p,.Name m p2] md pt) it [] scope τ ((List.range xs.length).map f):=
 yv (λi=>((bP τ (bCp X.N scope)++[Sl.un]).set j (.d (g i))).set l (.d (g' i))) B hi hl (λi=>⟨by rw [List.length_set,List.length_set],λr x h=>by
     rw [List.getElem?_set_ne (λz=>by rw [<- z,hu'] at h; cases h),List.getElem?_set_ne (λz=>by rw [<- z,hu] at h; cases h)]
     exact h⟩)
   (λi h s H fp=>by rw [hx i h]; exact ux j l (B.comp s H scope fp).calm (fU hc).2 hN hN' (hv s H fp) (hv' s H fp) (hf s H fp) (hf' s H fp)) he hc hs
end
end Hy
namespace Hy
open PySem PySem.Spec PyProof.Rows L2
open Ev (D Den ar aq a7 aL)
section
variable {X:Cx} {C:Bool} {τ:List Sl} {x y z:D} {a b e o ix:Expr} {es:List Expr} {pos p q:Pos} {k:Nat} {s:Sl} {N:Po} {rest:List Stmt} {i j:Nat} {t c:Nd} {pt:List Nat} {xs:List Nd} {m:Nat}
end
end Hy
namespace Hy
open PySem PySem.Spec PyProof.Rows L2
open Ev (D Den ar)
theorem _root_.L2.Fun.uS {K:PySem.W.Frag} {x qual:Str} {st:Stmt} {f T:Addr} {fd:FuncData} {ps:List Str} {c:Value} {d:Option Addr} {items:Array Value} {n:Nat} {sl:Array (Option Value)} (_:L2.Fun K x qual st f fd) (hd:fd.defaults=.ref T) (lT:K.lookup T=some ⟨c,d,.seq items n,sl⟩)
   (h:∀ us:List Value,us.length=ps.length->∃ k,bindArgs fd ⟨us,[]⟩=seqItems? fd.defaults >>= k/\k (some items)=pure (ps.zip us)):L2.Binds K fd ps []:=λs us X hl=>by
 rw [List.append_nil] at hl ⊢
 obtain ⟨k,h1,h2⟩:=h us hl
 exact .of_defaults hd (X _ _ lT) rfl h1 h2
noncomputable def qL (K:PySem.W.Frag) (x:Str) (st:Stmt) (f:Addr) (i:Int):Prop:=PySem.W.nsIn K mainGlobals x=some (some (.ref f))/\(∃ oc od kV dc pm an cd ct sl T td tl tc tt tn,K.lookup f=some ⟨oc,od,.func (PySem.W.fnOf x x (cb st) (bo st) (ah st) (.ref T) kV dc pm an cd ct),sl⟩/\PySem.W.codeIn K cd x=true/\K.lookup T=some ⟨tc,td,.seq #[.int i tt] tn,tl⟩)/\PySem.W.keepIn K (.ref f)=true
section
variable {P:Program} {w:World} {K:PySem.W.Frag} {h:Heap} {mg:Str->Option Value} {base:Heap} {x:Str} {st:Stmt} {f:Addr} {ps:List Str} {k:Nat} {Φ:List D->Sl->Prop} {i:Int}
theorem qL.of {oc tc:Value} {od an td:Option Addr} {kV dc pm cd ct:Value} {sl tl:Array (Option Value)} {T:Addr} {tt:Tok} {tn:Nat} (a:PySem.W.nsIn K mainGlobals x=some (some (.ref f))) (l:K.lookup f=some ⟨oc,od,.func (PySem.W.fnOf x x (cb st) (bo st) (ah st) (.ref T) kV dc pm an cd ct),sl⟩) (c:PySem.W.codeIn K cd x=true) (d:K.lookup T=some ⟨tc,td,.seq #[.int i tt] tn,tl⟩) (k:PySem.W.keepIn K (.ref f)=true):qL K x st f i:=⟨a,⟨_,_,_,_,_,_,_,_,_,_,_,_,_,_,_,l,c,d⟩,k⟩
theorem qL.cal (d:qL K x st f i) (X:K.In h) (G:h.Ns mainGlobals mg) (b:∀ (T:Addr) (tt:Tok) (kV dc pm:Value) (an:Option Addr) (cd ct:Value) (us:List Value),us.length=ps.length->∃ k,bindArgs (PySem.W.fnOf x x (cb st) (bo st) (ah st) (.ref T) kV dc pm an cd ct) ⟨us,[]⟩=seqItems? (.ref T) >>= k/\k (some #[.int i tt])=pure (ps.zip us))
   (o:∀ fd,Fun K x x st f fd->aJ P w K mg base CX0 k f fd ps (spD K Φ)):Cal P w K mg base k x Φ:=by
 obtain ⟨a,⟨oc,od,kV,dc,pm,an,cd,ct,sl,T,td,tl,tc,tt,tn,l,c',dt⟩,q⟩:=d
 have F:=ng l c' q
 exact ⟨f,_,ps,o _ F,PySem.W.mg_of X G a,q,F.uS rfl dt (b T tt kV dc pm an cd ct)⟩
end
mutual
noncomputable def pO:Nd->Bool
 | .d x=>flat x
 | .l xs=>lE xs
 | .t xs=>lE xs
noncomputable def lE:List Nd->Bool
 | []=>true
 | x :: xs=>pO x && lE xs
end
noncomputable def tN:Sl->Bool
 | .un=>true
 | .d x=>flat x
 | .o xs=>xs.all flat
 | .n t=>pO t
 | .x _=>false
section
variable {K:PySem.W.Frag} {G G' H:Hp}
mutual
theorem cD.fl:∀ {u:V} {bs:List Addr} {t:Nd},cD K G H u bs t->pO t=true->cD K G' H u bs t
 | _,_,_,.d h,f=>.d (iw h (by rw [pO] at f; exact f))
 | _,_,_,.l h r,f=>.l h (aW.fl r (by rw [pO] at f; exact f))
 | _,_,_,.t h r,f=>.t h (aW.fl r (by rw [pO] at f; exact f))
theorem aW.fl:∀ {vs:List V} {bs:List Addr} {ts:List Nd},aW K G H vs bs ts->lE ts=true->aW K G' H vs bs ts
 | _,_,_,.nil,_=>.nil
 | _,_,_,.cons h r,f=>by
   rw [lE,Bool.and_eq_true] at f
   exact .cons (cD.fl h f.1) (aW.fl r f.2)
end
theorem n9:∀ {vs:List V} {xs:List D},ar K G vs xs->xs.all flat=true->ar K G' vs xs
 | _,_,.nil,_=>.nil
 | _,_,.cons h r,f=>by
   rw [List.all_cons,Bool.and_eq_true] at f
   exact .cons (iw h f.1) (n9 r f.2)
theorem cg.fl {v:Option V} {bs:List Addr}:∀ {s:Sl},cg K G H v bs s->tN s=true->cg K G' H v bs s
 | .un,h,_=>h
 | .d _,⟨h,u,e1,h2⟩,f=>⟨h,u,e1,iw h2 f⟩
 | .o _,⟨a,vs,h1,h2,h3,h4⟩,f=>⟨a,vs,h1,h2,h3,n9 h4 f⟩
 | .n _,⟨h0,u,h1,h2⟩,f=>⟨h0,u,h1,h2.fl f⟩
end
theorem qX {X:Cx} {C C':Bool} {τ:List Sl} {e:Expr} {s s0:Sl} {x:D} (i:Nat) (h:PE X e (dE X.K C' (τ.set i (.d x)) s)) (f:tN s=true) (hi:τ[i]?=some s0:=by rfl) (hx:fzD s0=some x:=by rfl):PE X e (dE X.K C τ s):=
 peW h λσ H Q ⟨A,H₀,B,S,k⟩=>⟨A,H₀,_,S.fz hi hx,λv H' bs e fr q=>k v H' bs e fr (q.fl f)⟩
noncomputable def But (d:Addr) (H H':Hp):Prop:=∀ b o,b ≠ d->H b=some o->H' b=some o
theorem But.same {H H':Hp} {d:Addr} (e:aj H H'):But d H H':=λb o _ h=>e b o h
theorem But.hd {H H':Hp} {d:Addr} {M:Addr->Prop} (e:But d H H') (h:M d):aj (Hy.hd H M) (Hy.hd H' M):=λb o z=>by
 obtain ⟨z1,z2⟩:=aI.mp z
 exact aI.mpr ⟨z1,e b o (λy=>z1 (y ▸ h)) z2⟩
noncomputable def Hid (M:Addr->Prop) (H:Hp) (d:Addr):Prop:=M d/\∀ b,M b->∃ o,H b=some o
theorem Hid.but {M:Addr->Prop} {H H':Hp} {d:Addr} (h:Hid M H d) (e:But d H H') (hd:∃ o,H' d=some o):Hid M H' d:=⟨h.1,λb z=>by
 by_cases q:b=d
 · rw [q]; exact hd
 · obtain ⟨o,y⟩:=h.2 b z
   exact ⟨o,e b o q y⟩⟩
theorem Hid.same {M:Addr->Prop} {H H':Hp} {d:Addr} (h:Hid M H d) (e:aj H H'):Hid M H' d:=⟨h.1,λb z=>let ⟨o,y⟩:=h.2 b z; ⟨o,e b o y⟩⟩
noncomputable def vS (P:Program) (w:World) (K:PySem.W.Frag) (mg:Str->Option Value) (base:Heap) (k:Nat) (n:Str) (sp:Sp):Prop:=
 ∃ f fd ps,aJ P w K mg base CX0 k f fd ps sp/\mg n=some (.ref f)/\PySem.W.keepIn K (.ref f)=true/\Binds K fd ps []
theorem vS.mono {P:Program} {w:World} {K:PySem.W.Frag} {mg:Str->Option Value} {base:Heap} {j k:Nat} {n:Str} {sp:Sp} (c:vS P w K mg base j n sp) (h:j<=k):vS P w K mg base k n sp:=
 let ⟨f,fd,ps,F,r⟩:=c; ⟨f,fd,ps,F.mono h,r⟩
section
variable {K:PySem.W.Frag} {A:Addr->Prop} {H₀ H H':Hp} {τ:List Sl} {B:Nat->List Addr} {σ:L2.St}
theorem Sta.hid (S:Sta K A H₀ τ B σ H) {i:Nat} {a:Addr} (hB:B i=[a]):Hid (own A B) H a:=⟨.inr ⟨i,by rw [hB]; exact List.mem_singleton.mpr rfl⟩,S.dm⟩
theorem Sta.but (S:Sta K A H₀ τ B σ H) {i:Nat} {a:Addr} {E E':Ex} {o':HO} (hi:τ[i]?=some (.x E)) (hB:B i=[a]) (e:But a H H') (ho:H' a=some o') (d:E'.p K (hd H' (own A B)) o' a):Sta K A H₀ (τ.set i (.x E')) B σ H':=by
 have sm:aj (hd H (own A B)) (hd H' (own A B)):=e.hd (S.hid hB).1
 have f0:H₀ a=none:=S.fr i a (by rw [hB]; exact List.mem_singleton.mpr rfl)
 have hs:aj H₀ H':=λb o z=>e b o (λq=>by rw [q,f0] at z; cases z) (S.same b o z)
 refine ⟨hs,by rw [List.length_set,S.len],λj t hj=>?_,S.fr,S.uq,S.ad,λj b hb=>((S.hid hB).but e ⟨_,ho⟩).2 b (.inr ⟨j,hb⟩)⟩
 by_cases ej:j=i
 · subst ej
   have hl:=(List.getElem?_eq_some_iff.mp hi).1
   rw [List.getElem?_set_self hl] at hj
   cases hj
   obtain ⟨a',o,e1,e2,_,_⟩:=S.sl j _ hi
   rw [hB] at e1
   cases e1
   exact ⟨a,o',hB,e2,ho,d⟩
 · rw [List.getElem?_set_ne (λz=>ej z.symm)] at hj
   have off:∀ b ∈ B j,b ≠ a:=λb hb e=>ej (S.uq j i a (e ▸ hb) (by rw [hB]; exact List.mem_singleton.mpr rfl))
   have ne:∀ b ∈ B j,H' b=H b:=λb hb=>by
     obtain ⟨o,q⟩:=S.bd j b hb
     rw [q]
     exact e b o (off b hb) q
   exact (S.sl j t hj).frame sm ne
end
section
variable {X:Cx} {τ:List Sl} {x y z:D} {a b e c:Expr} {es:List Expr} {pos p q:Pos} {k:Nat} {s:Sl} {ds:List D} {N:Po} {rest body:List Stmt}
end
section
variable {P:Program} {w:World} {K:PySem.W.Frag} {mg:Str->Option Value} {base:Heap}
end
section
variable {X:Cx} {τ:List Sl} {es:List Expr} {pos p q pr:Pos} {k:Nat} {s:Sl} {ds:List D} {N:Po} {rest:List Stmt}
end
end Hy
namespace Hy
open PySem PySem.Spec PyProof.Rows L2
open Ev (D Den ar aN aK aq a7 aL)
section
variable {X:Cx} {i:Int}
end
end Hy
namespace Su
open PySem PyProof.Rows HT
open PySem.SeqAt
open PySem.AutoSeq1 (wpAny_loadPart')
open PySem.MeetsSeq PySem.MeetsSeq2 PySem.MeetsSeq3
theorem oO (t:Bool) (x y:Value):keyLt' (tuples' t) x y=(do
   let xs <- Builtin.List.listItems x; let ys <- Builtin.List.listItems y
   for ((p,q),i) in (xs.toList.zip ys.toList).zipIdx do
     if !(<- eqBool p q) then return <- oneLt' (t && i == 0) p q
   return xs.size < ys.size):=rfl
section
variable {prog:Program} {w:World} {A:Around} {E:Value->Shared->Prop} {s:Shared}
theorem mB {b:Bool} {a c:Int} {t u:Tok} {Q:Bool->Shared->Prop} (h:Q (decide (a < c)) s):wpAny (model prog w) A (oneLt' b (.int a t) (.int c u)) Q E s:=by
 cases b with
 | true=>exact oneLt_int h
 | false=>
   rw [oneLt'_eq]
   simp only [Bool.false_eq_true,if_false]
   exact wpAny_bind (ql A s a t c u prog w E _ (wpAny_truthy_bool h))
theorem nh {l b:Addr} {items items2:Array Value} {n n2:Nat} {dd dd2:Option Addr} {sl sl2:Array (Option Value)} {ns ms:List Int} {t:Bool} {Q:Bool->Shared->Prop} (hl:s.heap.get? l=some { cls:=.type "tuple",dict:=dd,data:=.seq items n,slots:=sl }) (hb:s.heap.get? b=some { cls:=.type "tuple",dict:=dd2,data:=.seq items2 n2,slots:=sl2 })
   (hi:IntsAre items.toList ns) (hj:IntsAre items2.toList ms) (h:Q (lexLt ns ms) s):wpAny (model prog w) A (keyLt' (tuples' t) (.ref l) (.ref b)) Q E s:=by
 rw [oO]
 have z1:items.size=ns.length:=by rw [<- hi.length]; simp
 have z2:items2.size=ms.length:=by rw [<- hj.length]; simp
 refine wpAny_bind (listItems_at hl rfl ?_)
 refine wpAny_bind (listItems_at hb rfl ?_)
 refine wpAny_bind (wpAny_forIn_list _ (λrest (b:Option Bool × Unit) s'=>b.1=none/\s'=s/\∃ (vs ws:List Value) (ns' ms':List Int) (k:Nat),rest=(vs.zip ws).zipIdx k /\
     IntsAre vs ns'/\IntsAre ws ms'/\ns'.length + items2.size=ms'.length + items.size/\Q (lexLt ns' ms') s) _ ?turn ?fin _ _ ?init)
 case turn=>
   rintro ⟨⟨y,x⟩,i⟩ rest b s' ⟨hb',rfl,vs,ws,ns',ms',k,hz,hvi,hwi,hlen,hR⟩
   cases hvi with
   | nil=>rw [List.zip_nil_left] at hz; cases hz
   | cons a t hvi'=>
     cases hwi with
     | nil=>rw [List.zip_nil_right] at hz; cases hz
     | cons c u hwi'=>
       rw [List.zip_cons_cons,List.zipIdx_cons] at hz
       injection hz with hyx hrest
       injection hyx with hy hx
       injection hy with hy hy2
       subst hy hy2
       rw [mC] at hR
       simp only [List.length_cons] at hlen
       obtain ⟨e,he,hiff⟩:=rT A s' a t c u
       refine wpAny_bind (he prog w _ _ ?_)
       cases e with
       | true=>
         rw [if_pos (hiff.mp rfl)] at hR
         wp_walk
         exact ⟨rfl,rfl,_,_,_,_,_,hrest,hvi',hwi',by omega,hR⟩
       | false=>
         rw [if_neg (λq=>absurd (hiff.mpr q) Bool.false_ne_true)] at hR
         simp only [Bool.not_false,if_true]
         refine wpAny_bind (mB ?_)
         exact wpAny_pure (wpAny_pure hR)
 case fin=>
   rintro ⟨b1,b2⟩ s' ⟨hb',rfl,vs,ws,ns',ms',k,hz,hvi,hwi,hlen,hR⟩
   simp only at hb'
   subst hb'
   have hv:lexLt ns' ms'=decide (items.size < items2.size):=by
     cases hvi with
     | nil=>
       cases hwi with
       | nil=>
         simp only [List.length_nil] at hlen
         rw [jc]
         exact (decide_eq_false (by omega)).symm
       | cons c u hw=>
         simp only [List.length_nil,List.length_cons] at hlen
         rw [i8]
         exact (decide_eq_true (by omega)).symm
     | cons a t hv=>
       cases hwi with
       | nil=>
         simp only [List.length_nil,List.length_cons] at hlen
         rw [hZ]
         exact (decide_eq_false (by omega)).symm
       | cons c u hw=>
         rw [List.zip_cons_cons] at hz
         cases hz
   rw [hv] at hR
   exact wpAny_pure hR
 case init=>exact ⟨rfl,rfl,items.toList,items2.toList,ns,ms,0,rfl,hi,hj,by omega,h⟩
noncomputable def o9 (h:Heap) (l:Addr) (ns:List Int):Prop:=∃ items n dd sl,h.get? l=some { cls:=.type "tuple",dict:=dd,data:=.seq items n,slots:=sl }/\IntsAre items.toList ns/\ns ≠ []
theorem o9.keep {h h':Heap} {l:Addr} {ns:List Int} (k:∀ o,h.get? l=some o->h'.get? l=some o):o9 h l ns->o9 h' l ns:=λ⟨items,n,dd,sl,ho,r⟩=>⟨items,n,dd,sl,k _ ho,r⟩
theorem o9.lt {l b:Addr} {ns ms:List Int} (hl:o9 s.heap l ns) (hb:o9 s.heap b ms) (E:Value->Shared->Prop) (Q:Bool->Shared->Prop) (h:Q (lexLt ns ms) s):wpAny (model prog w) A (keyLt' (tuples' true) (.ref l) (.ref b)) Q E s:=by
 obtain ⟨items,n,dd,sl,ho,hi,_⟩:=hl
 obtain ⟨items2,n2,dd2,sl2,ho2,hi2,_⟩:=hb
 exact nh ho ho2 hi hi2 h
end
end Su
namespace Hy
open PySem PySem.Spec PyProof.Rows L2
open Ev (D Den ar aN aK aq a7 aL)
section
variable {X:Cx} {C:Bool} {τ:List Sl} {x y z:D} {a b e:Expr} {es:List Expr} {pos p:Pos} {k:Nat} {s:Sl} {ds xs ys:List D} {i j:Int} {N:Po} {rest:List Stmt}
theorem vI:gx X (.type "tuple") [.lst xs] (.d (.tup xs)):=⟨_,ji,λM vs H Q hM d q=>by
 cases d with
 | cons d r=>
   cases r
   cases d with
   | @lst a us _ h r=>
     refine ⟨_,_,rfl,.inl ⟨aL aY h,λp hp=>?_⟩⟩
     have e:=aq hp (.tup us)
     exact q _ _ [] e cO (fY (.tup (SqT.of (kF hM hp)) (r.mono (aD e λ_ z=>z))))⟩
end
section
variable {X:Cx} {C:Bool} {τ:List Sl} {x y z:D} {a b e:Expr} {es:List Expr} {pos p:Pos} {k:Nat} {s:Sl} {ds xs ys:List D} {N:Po} {rest:List Stmt}
end
end Hy
namespace Hy
open PySem PySem.Spec PyProof.Rows L2
open Ev (D Den ar aq a7 aL)
section
variable {X:Cx}
theorem rA {α:Type}:∀ (its:List α) (k:Nat) (y:α),k<=its.length->its.insertIdx k y=its.take k++[y]++its.drop k
 | _,0,_,_=>rfl
 | a :: r,k + 1,y,h=>by
   rw [List.insertIdx_succ_cons,rA r k y (by simpa using h)]
   rfl
theorem vP {its:List Value} {k:Nat} {y:Value} (h:k<=its.length):(its.toArray.extract 0 k).push y++its.toArray.extract k=(its.insertIdx k y).toArray:=by
 apply Array.toList_inj.mp
 simp only [Array.toList_append,Array.toList_push,Array.toList_extract,List.extract_eq_drop_take,List.drop_zero,Nat.sub_zero,List.size_toArray]
 rw [rA its k y h]
 congr 1
 exact List.take_of_length_le (by rw [List.length_drop]; exact Nat.le_refl _)
noncomputable def su:V->List V->Hp->VK->Prop:=λx vs H Q=>∃ l xs,∃ i:Int,∃ y,x=.ref l/\vs=[.int i,y]/\H l=some (.lst xs)/\0<=i/\i.toNat<=xs.length/\xs.length < sizeLine/\Q .non (upd H l (.lst (xs.insertIdx i.toNat y)))
theorem pC:MtM X "list.insert" su:=by
 intro pins s σ H x vs v us Q I rx rv h
 obtain ⟨l,xs,i,y,rfl,rfl,hH,h0,h1,h2,q⟩:=h
 cases rx
 obtain ⟨u,w,rfl,ru,rw'⟩:=rv.two
 obtain ⟨t,rfl⟩:=ru
 obtain ⟨z,its,n,r,hl,e⟩:=I.vy hH
 have hi:i < 2 ^ 63:=by have:=Int.toNat_of_nonneg h0; have:sizeLine < 2 ^ 62:=(by decide); omega
 have hf:Builtin.List.listFitsIndex i=true:=by
   unfold Builtin.List.listFitsIndex
   rw [Bool.and_eq_true]
   exact ⟨decide_eq_true (by omega),decide_eq_true hi⟩
 refine call_meets PySem.F.slot_list_insert ⟨_,e,rfl⟩ PySem.F.entry_list_insert (PySem.F.args_list_insert_3 _ _ _) (PySem.AutoSeq1.list_insert_list_int_val_1 l its.toArray n i t w (by simp [hf]) (by rw [List.size_toArray]; omega)) ⟨e,?_⟩
 have vi:∀ {xs:List V} {us:List Value} (k:Nat) {a:V} {b:Value},Vals xs us->RelV a b->Vals (xs.insertIdx k a) (us.insertIdx k b):=λ{xs us} k {a b} r ra=>by
   induction k generalizing xs us with
   | zero=>exact .cons ra r
   | succ k ih=>cases r with
     | nil=>exact .nil
     | cons r1 r2=>exact .cons r1 (ih r2)
 refine ⟨.non,_,I.vH (its':=its.insertIdx i.toNat w) hH e ?_ (vi _ r rw') ?_,rfl,q⟩
 · show (its.toArray.extract 0 (if i < 0 then (i + (its.toArray.size:Int)).toNat else min i.toNat its.toArray.size)).push w++its.toArray.extract (if i < 0 then (i + (its.toArray.size:Int)).toNat else min i.toNat its.toArray.size)=_
   rw [if_neg (by omega),List.size_toArray,Nat.min_eq_left (by omega)]
   exact vP (by omega)
 · rw [List.length_insertIdx_of_le_length h1]; omega
end
theorem aW.ins {K:PySem.W.Frag} {G H:Hp} {v:V} {x:D} (h:Den K G v x):∀ {vs:List V} {bs:List Addr} {xs:List Nd} (k:Nat),k<=xs.length->aW K G H vs bs xs->aW K G H (vs.insertIdx k v) bs (xs.insertIdx k (.d x))
 | _,_,_,0,_,r=>aW.cons (b1:=[]) (.d h) r
 | _,_,_,k + 1,hk,.nil=>absurd hk (Nat.not_succ_le_zero _)
 | _,_,_,k + 1,hk,.cons h1 r=>by
   rw [List.insertIdx_succ_cons,List.insertIdx_succ_cons]
   exact .cons h1 (aW.ins h k (by simpa using hk) r)
section
variable {X:Cx} {C:Bool} {τ:List Sl} {x y z:D} {a b e f o ix:Expr} {es:List Expr} {pos p q:Pos} {k:Nat} {s:Sl} {N:Po} {rest:List Stmt} {i:Nat} {t c:Nd} {pt:List Nat} {xs:List Nd} {j:Int} {m:Nat}
end
end Hy
namespace Hy
open PySem PySem.Spec PyProof.Rows L2
open Ev (D Den ar)
theorem wo {es:List Expr} {m:Nat} {p:Pos} {r:List Expr} {env:Env}:starEach (.Tuple es m p :: r) env=(false,eval (.Tuple es m p) env) :: starEach r env:=rfl
theorem u9 {es:List Expr} {p:Pos} {r:List Expr} {env:Env}:starEach (.List es p :: r) env=(false,eval (.List es p) env) :: starEach r env:=rfl
theorem km {c:Const} {m:Nat} {p:Pos} {r:List Expr} {env:Env}:starEach (.Constant c m p :: r) env=(false,eval (.Constant c m p) env) :: starEach r env:=rfl
theorem vx {a:Expr} {o:UnaryOp} {p:Pos} {r:List Expr} {env:Env}:starEach (.UnaryOp o a p :: r) env=(false,eval (.UnaryOp o a p) env) :: starEach r env:=rfl
theorem vc {es:List Expr} {p:Pos} {t:Option Expr} {l:Nat} {env:Env}:swapsWith (.List es p) t l env=pure false:=rfl
theorem vj {a b:Expr} {o:Operator} {p:Pos} {t:Option Expr} {l:Nat} {env:Env}:swapsWith (.BinOp a o b p) t l env=pure false:=rfl
section
variable {X:Cx} {C:Bool} {τ:List Sl} {x:D} {ds:List D} {es r:List Expr} {a b:Expr} {m:Nat} {p pos:Pos}
structure QE (X:Cx) (e:Expr) (t:TE):Prop where
 out:PE X e t
structure QA (X:Cx) (es:List Expr) (t:TA):Prop where
 out:PA X es t
variable {xs:List D}
theorem a9:QA X [] (dA X.K C τ []):=⟨af⟩
theorem cU (h:QA X es (dA X.K C τ ds)) (hr:QA X r (dA X.K C τ xs)) (hl:Nat.ble ds.length 1000=true:=by rfl):QA X (.Tuple es m pos :: r) (dA X.K C τ (.tup ds :: xs)):=⟨aa (eK h.out hl) hr.out wo⟩
theorem df (h:QA X es (dA X.K C τ ds)) (hr:QA X r (dA X.K C τ xs)) (hl:Nat.ble ds.length 1000=true:=by rfl):QA X (.List es pos :: r) (dA X.K C τ (.lst ds :: xs)):=⟨aa (aM (ba h.out hl)) hr.out u9⟩
theorem bH {n:Int} (hr:QA X r (dA X.K C τ xs)):QA X (.Constant (.int n) m pos :: r) (dA X.K C τ (.int n :: xs)):=⟨aa ag hr.out km⟩
theorem qx {n:Str} (hr:QA X r (dA X.K C τ xs)):QA X (.Constant (.str n) m pos :: r) (dA X.K C τ (.str n :: xs)):=⟨aa aU hr.out km⟩
theorem uo (hr:QA X r (dA X.K C τ xs)):QA X (.Constant .none m pos :: r) (dA X.K C τ (.non :: xs)):=⟨aa kO hr.out km⟩
theorem vX {n:Bool} (hr:QA X r (dA X.K C τ xs)):QA X (.Constant (.bool n) m pos :: r) (dA X.K C τ (.bl n :: xs)):=⟨aa fj hr.out km⟩
theorem uf {o:UnaryOp} (h:PE X (.UnaryOp o a p) (dE X.K C τ (.d x))) (hr:QA X r (dA X.K C τ xs)):QA X (.UnaryOp o a p :: r) (dA X.K C τ (x :: xs)):=⟨aa h hr.out vx⟩
theorem t8 (h:PE X a (dE X.K C τ (.d x))) (hr:QA X r (dA X.K C τ xs)) (hs:starEach (a :: r) X.env=(false,eval a X.env) :: starEach r X.env:=by rfl):QA X (a :: r) (dA X.K C τ (x :: xs)):=⟨aa h hr.out hs⟩
theorem rH (h:QA X es (dA X.K C τ ds)) (hl:Nat.ble ds.length 1000=true:=by rfl):QE X (.List es pos) (dE X.K C τ (.o ds)):=⟨ba h.out hl⟩
theorem xt {ys:List D} (ha:PE X a (dE X.K C τ (.d (.lst xs)))) (hb:QE X b (dE X.K C τ (.o ys))) (hl:xs.length + ys.length < 1000000):QE X (.BinOp a .Add b pos) (dE X.K C τ (.o (xs++ys))):=⟨dH ha (aM hb.out) hl⟩
theorem yT {e:Expr} {t:TE} (h:PE X e t):QE X e t:=⟨h⟩
structure PQ (X:Cx) (body:List Stmt) (t:TS):Prop where
 out:PSs X body t
variable {s:Sl} {N:Po} {rest:List Stmt} {e:Expr} {y:D}
theorem uj (i:Nat) {n:Str} {p:Pos} (hN:X.N.Nodup) (he:QE X e (dE X.K true τ s)) (hr:PQ X rest (dS X.K (τ.set i s) N)) (hi:X.N[i]?=some n:=by rfl) (hx:Loc X.env.scope n:=by first | exact .inl rfl | exact .inr rfl) (hs:swapsWith e (some (.Name n p)) pos.line X.env=pure false:=by rfl)
   (hf:X.fn n=true\/X.env.scope.names.lookup n=some .local:=by first | exact .inl rfl | exact .inr rfl | assumption):PQ X (.Assign [.Name n p] e pos :: rest) (dS X.K τ N):=⟨aF i hN he.out hr.out hi hx hs hf⟩
theorem wZ (i:Nat) {s:Sl} {x:D} (h:PQ X rest (dS X.K (τ.set i (.d x)) N)) (hi:τ[i]?=some s:=by rfl) (hx:fzD s=some x:=by rfl):PQ X rest (dS X.K τ N):=⟨j5 i h.out hi hx⟩
theorem xa (he:PE X e (dE X.K false τ s)) (h:N.rt s):PQ X (.Return (some e) pos :: rest) (dS X.K τ N):=⟨au he h⟩
theorem xW (i:Nat) {n:Str} {xs:List D} {ap cp:Pos} (he:QE X e (dE X.K true τ (.d x))) (hl:xs.length < 1000000) (hr:PQ X rest (dS X.K (τ.set i (.o (xs++[x]))) N)) (hi:τ[i]?=some (.o xs):=by rfl) (hN:X.N[i]?=some n:=by rfl)
   (hv:Vis X.env.scope n:=by first | exact Or.inl rfl | exact Or.inr (Or.inl rfl) | exact Or.inr (Or.inr rfl)) (hd:(n == ("__debug__" : Str))=false:=by decide) (hcd:(n == ("__classdict__" : Str))=false:=by decide)
   (hfew:((backTo cp (starEach [e] X.env)).all (λx=>!x.1) && (backToKw cp (keywordEach [] X.env)).all (λx=>x.1.isSome) && decide (([e]:List Expr).length + ([]:List Keyword).length + (if ([]:List Keyword).isEmpty then 0 else 1) < 30))=true:=by rfl)
   (hline:(ap.endLine == cp.line)=true:=by rfl) (hst:starEach [e] X.env=(false,eval e X.env) :: starEach [] X.env:=by rfl) (hpl:(backTo cp (starEach [] X.env)).any (·.1)=false:=by rfl)
   (hs:swapsWith (.Call (.Attribute (.Name n p) "append" ap) [e] [] cp) none pos.line X.env=pure false:=by rfl) (hbase:attributeBase (.Name n p) "append" X.env (eval (.Name n p) X.env)=eval (.Name n p) X.env:=by rfl) :
   PQ X (.Expr (.Call (.Attribute (.Name n p) "append" ap) [e] [] cp) pos :: rest) (dS X.K τ N):=⟨nF i he.out hl hr.out hi hN hv hd hcd hfew hline hst hpl hs hbase⟩
end
section
variable {P:Program} {w:World} {K:PySem.W.Frag} {mg:Str->Option Value} {base:Heap}
theorem fnQ {x qual:Str} {st:Stmt} {f:Addr} {fd:FuncData} {N ps:List Str} {k:Nat} {Φ:List D->Sl->Prop} (F:Fun K x qual st f fd) (S:ao N ps (ah st)) (hb:∀ x ∈ ai,mg x=none) (len:∀ ds r,Φ ds r->ds.length=ps.length)
   (body:∀ ds r,Φ ds r->∀ cdv A outer s H E,Bk (Xc P w K mg base N qual st f cdv A outer s H E) k->PQ (Xc P w K mg base N qual st f cdv A outer s H E) (bo st) (dS K (lx N ds) { nx:=λ_=>r=.d .non,rt:=λr'=>r'=r })) :
   aJ P w K mg base CX0 (k + 1) f fd ps (spD K Φ):=fnD F S hb len λds r h cdv A outer s H E b=>(body ds r h cdv A outer s H E b).out
end
end Hy
namespace Hy
open PySem PySem.Spec PyProof.Rows L2
open Ev (D Den ar aq)
noncomputable def vh:List Str:=["NoFraction","NoTable","NoChoice","NoSquare","NoFit","NoUndoing","NoLadder","TooMany","NoPaper","NoRow","NoStairs","NoNumber","NoCorner","NoName","NoStep","NoWeight","NoDeed","NoText","NoWord"]
noncomputable def wordOf (c:Nat):Str:=vh.getD c "else"
noncomputable def spX (K:PySem.W.Frag) (cl:Nat->Addr) (Φ:List D->Nat->Prop):Sp:=λvs H _ E=>∃ A ds c,(∀ b,A b->∃ o,H b=some o)/\ar K (hd H A) vs ds/\Φ ds c/\∀ H',aj H H'->E (.ref (cl c)) none H'
noncomputable def cH (P:Program) (w:World) (K:PySem.W.Frag) (mg:Str->Option Value) (base:Heap) (cl:Nat->Addr) (k:Nat) (n:Str) (Φ:List D->Nat->Prop):Prop:=
 ∃ f fd ps,aJ P w K mg base (Hx.CXe P w cl) k f fd ps (spX K cl Φ)/\mg n=some (.ref f)/\PySem.W.keepIn K (.ref f)=true/\Binds K fd ps []
theorem cH.mono {P:Program} {w:World} {K:PySem.W.Frag} {mg:Str->Option Value} {base:Heap} {cl:Nat->Addr} {j k:Nat} {n:Str} {Φ:List D->Nat->Prop} (c:cH P w K mg base cl j n Φ) (h:j<=k):cH P w K mg base cl k n Φ:=
 let ⟨f,fd,ps,F,r⟩:=c; ⟨f,fd,ps,F.mono h,r⟩
noncomputable def dX (K:PySem.W.Frag) (τ:List Sl) (Ex:Hp->Prop):TE:=λσ H _=>∃ A H₀ B,Sta K A H₀ τ B σ H/\∀ H',aj H₀ H'->Ex H'
noncomputable def PsX (X:Cx) (cl:Nat->Addr) (Ex:Nat->Hp->Prop):Prop:=Passes (Hx.CXe X.prog X.w cl) X (λC _ H'=>∃ c,C=.ref (cl c)/\Ex c H')
section
variable {X:Cx} {C:Bool} {τ:List Sl} {x y z:D} {a b e:Expr} {es:List Expr} {pos p np cpos:Pos} {k c:Nat} {s:Sl} {ds:List D} {N:Po} {rest body:List Stmt} {cl:Nat->Addr} {Ex:Nat->Hp->Prop} {Et:Hp->Prop}
theorem bG {n:Str} {Φ:List D->Nat->Prop} (hr:da k X.A) (po:PsX X cl Ex) (c0:cH X.prog X.w X.K X.mg X.base cl k n Φ) (ha:PA X (e :: es) (dA X.K C τ ds)) (h:Φ ds c) (hg:Gl X n:=by rfl) (hdb:(n == ("__debug__" : Str))=false:=by decide)
   (he:starEach (e :: es) X.env=(false,eval e X.env) :: starEach es X.env:=by rfl) (hpl:(backTo pos (starEach es X.env)).any (·.1)=false:=by rfl):PE X (.Call (.Name n p) (e :: es) [] pos) (dX X.K τ (Ex c)):=by
 obtain ⟨f,fd,ps,F,hm,hk,hb⟩:=c0
 refine peW (nA F hr hg hm hk hb .nil po ha hdb he hpl) λσ H Q ⟨A,H₀,B,S,q⟩=>c8 S λvs H1 e1 d1=>?_
 rw [List.append_nil]
 exact ⟨vw C A B,ds,c,(S.mono e1).vd,d1,h,λH' e2=>⟨c,rfl,q H' ((S.same.trans e1).trans e2)⟩⟩
theorem wd (he:PE X e (dX X.K τ N.xc)):PSs X (.Return (some e) pos :: rest) (dS X.K τ N):=
 bj (M:=λ_=>False) (psW (j0 he) λD σ H ⟨A,H₀,B,S,Me⟩=>⟨A,H₀,B,S,Me.xc⟩) λ_ e=>e.elim
theorem eQ (he:PE X e (dX X.K τ N.xc)) (hs:swapsWith e none pos.line X.env=pure false:=by rfl):PSs X (.Expr e pos :: rest) (dS X.K τ N):=
 bj (M:=λ_=>False) (psW (g9 he hs) λD σ H ⟨A,H₀,B,S,Me⟩=>⟨A,H₀,B,S,Me.xc⟩) λ_ e=>e.elim
theorem gc {n:Str} (i:Nat) (hN:X.N.Nodup) (he:PE X e (dX X.K τ N.xc)) (hi:X.N[i]?=some n:=by rfl) (hx:Loc X.env.scope n:=by first | exact .inl rfl | exact .inr rfl) (hs:swapsWith e (some (.Name n p)) pos.line X.env=pure false:=by rfl)
   (hf:X.fn n=true\/X.env.scope.names.lookup n=some .local:=by first | exact .inl rfl | exact .inr rfl | assumption):PSs X (.Assign [.Name n p] e pos :: rest) (dS X.K τ N):=
 bj (M:=λ_=>False) (psW (qI hN hi hx he hs hf) λD σ H ⟨A,H₀,B,S,Me⟩=>⟨A,H₀,B,S,Me.xc⟩) λ_ e=>e.elim
noncomputable def Lv (X:Cx) (cl:Nat->Addr) (c:Nat) (Et:Hp->Prop):Prop:=∀ (pins:List (Addr × Obj)) (σ:L2.St) (H:Hp) (s:Shared),Inv X pins σ H s->Et H->∀ (h':Heap) (a:Addr) (us:List Value),Heap.MadeExcOf s.heap h' a (.ref (cl c)) us->X.xe (.ref a) { s with heap:=h' }
theorem gZ {n:Str} {S:Addr} (hl:Lv X cl c N.xc) (hm:X.mg n=some (.ref (cl c))) (O:Hx.pF X.K (cl c) S) (ha:PA X (e :: es) (dA X.K false τ ds)) (hds:ds.length<=sizeLine:=by decide) (hc:X.calm=true:=by rfl) (hg:Gl X n:=by rfl) (hdb:(n == ("__debug__" : Str))=false:=by decide)
   (he:starEach (e :: es) X.env=(false,eval e X.env) :: starEach es X.env:=by rfl) (hpl:(backTo cpos (starEach es X.env)).any (·.1)=false:=by rfl):PSs X (.Raise (some (.Call (.Name n np) (e :: es) [] cpos)) none pos :: rest) (dS X.K τ N):=
 bj (M:=λ_=>False) (psW (Hx.rL hc hg hm O ha hdb he hpl) λD σ H ⟨A,H₀,B,S,Me⟩=>c8 S λvs H1 e1 d1=>⟨by rw [d1.length]; exact hds,λpins s us I h' a m=>hl pins σ H1 s I (Me.xc H1 (S.same.trans e1)) h' a us m⟩) λ_ e=>e.elim
end
section
variable {P:Program} {w:World} {K:PySem.W.Frag} {mg:Str->Option Value} {base:Heap} {cl:Nat->Addr}
theorem yJ {N ps:List Str} {A:Addr->Prop} {H:Hp} {vs:List V} {ds:List D} (ha:∀ b,A b->∃ o,H b=some o) (d:ar K (hd H A) vs ds):Sta K A H (lx N ds) (λ_=>[]) (L2.start N vs) H:=by
 refine ⟨aj.refl _,?_,λi s hi=>?_,λ_ _ z=>(nomatch z),λ_ _ _ z=>(nomatch z),ha,λ_ _ z=>(nomatch z)⟩
 · unfold L2.start lx
   simp [d.length]
 · have hl:=d.length
   unfold lx at hi
   unfold L2.start
   by_cases hlt:i < ds.length
   · rw [List.getElem?_append_left (by simpa using hlt),List.getElem?_map,List.getElem?_eq_getElem hlt] at hi
     cases hi
     obtain ⟨v,e,dv⟩:=d.get (List.getElem?_eq_getElem hlt)
     refine ⟨rfl,v,?_,dv.mono (aD (aj.refl _) λ_ z=>z.elim id λ⟨_,z⟩=>(nomatch z))⟩
     rw [List.getElem?_append_left (by simpa [hl] using hlt),List.getElem?_map,e]
     rfl
   · rw [List.getElem?_append_right (by simpa using hlt),List.getElem?_replicate] at hi
     split at hi
     · cases hi; rfl
     · cases hi
noncomputable abbrev Xe (P:Program) (w:World) (K:PySem.W.Frag) (mg:Str->Option Value) (base:Heap) (N:List Str) (qual:Str) (st:Stmt) (f:Addr) (cdv:Value) (A:Around) (outer:List Env) (s:Shared) (H:Hp) (E:XK) (cl:Nat->Addr):Cx:=i0 (Hx.CXe P w cl) P w K mg base N qual (ah st) f cdv A outer s H E
theorem fnX {x qual:Str} {st:Stmt} {f:Addr} {fd:FuncData} {N ps:List Str} {k:Nat} {Φ:List D->Nat->Prop} (F:Fun K x qual st f fd) (S:ao N ps (ah st)) (hb:∀ x ∈ ai,mg x=none) (len:∀ ds c,Φ ds c->ds.length=ps.length)
   (body:∀ ds c,Φ ds c->∀ cdv A outer s H E,da k (Xe P w K mg base N qual st f cdv A outer s H E cl).A->Bk (Xe P w K mg base N qual st f cdv A outer s H E cl).nox k->PsX (Xe P w K mg base N qual st f cdv A outer s H E cl) cl (λc H'=>E (.ref (cl c)) none H')->(∀ c',Lv (Xe P w K mg base N qual st f cdv A outer s H E cl) cl c' (λH'=>E (.ref (cl c')) none H')) ->
     PSs (Xe P w K mg base N qual st f cdv A outer s H E cl) (bo st) (dS K (lx N ds) { nx:=λ_=>False,rt:=λ_=>False,xc:=λH'=>E (.ref (cl c)) none H' })) :
   aJ P w K mg base (Hx.CXe P w cl) (k + 1) f fd ps (spX K cl Φ):=by
 obtain ⟨oc,od,dV,kV,doc,pm,an,cdv,ct,osl,rfl,lk,hcd⟩:=F.ex
 refine uA lk hcd S (λvs H Q E ⟨A,ds,c,_,d,h,_⟩=>d.length.trans (len ds c h)) λA outer s H vs Q E hr ⟨A',ds,c,ha,d,h,q⟩=>⟨_,body ds c h cdv A outer s H E hr ⟨hr,rfl,hb,PassesOwn.never⟩ (Hx.pU λ_ _ z=>z) (λc' pins σ H s I q h' a us m=>Hx.lW I q m),A',H,λ_=>[],yJ (ps:=ps) ha d,λ_ _ _ _ h=>h.elim,λ_ _ _ _ h=>h.elim,λ_ _ _ _ h=>h.elim,λ_ _ _ _ h=>h.elim,q⟩
end
structure t7 (k:Nat) (A:Around):Prop where
 dp:A.depth + 3 * k + 5 < recursionLimit
 un:A.units + 16 * k + 200 < cLine
noncomputable def dz (P:Program) (w:World) (K:PySem.W.Frag) (mg:Str->Option Value) (base:Heap) (cl:Nat->Addr) (k:Nat) (fw:Addr) (c:Nat):Prop:=
 ∀ (A:Around) (outer:List PySem.Env) (s:Shared) (H:Hp) (a:Addr) (o:Obj) (Q:VK),A.handled=some (.ref a)->H a=some (Hx.pg o)->Hx.qN o (cl c)->t7 k A->rn P w K mg base A outer s H ->
   (∀ H',aj H H'->Q (.str (wordOf c)) H')->codeAny (model P w) A (.call (.ref fw) ⟨[.ref a],[]⟩) (CR CX0 outer P w H s Q E0) s
theorem dz.mono {P:Program} {w:World} {K:PySem.W.Frag} {mg:Str->Option Value} {base:Heap} {cl:Nat->Addr} {j k:Nat} {f:Addr} {c:Nat} (h:dz P w K mg base cl j f c) (q:j<=k):dz P w K mg base cl k f c:=λA outer s H a o Q h1 h2 h3 hr=>h A outer s H a o Q h1 h2 h3 ⟨by have:=hr.dp; omega,by have:=hr.un; omega⟩
section
variable {X:Cx} {C:Bool} {τ:List Sl} {e:Expr} {k c i:Nat} {N:Po} {rest body:List Stmt} {cl:Nat->Addr} {n:Str} {fw S:Addr} {p p' q psm pr ph pos:Pos}
noncomputable def trW (cl:Nat->Addr) (c i:Nat) (a:Addr) (o:Obj):TE:=λσ H Q=>H a=some (Hx.pg o)/\Hx.qN o (cl c)/\σ[i]?=some (some (.ref a))/\∀ H',aj H H'->Q (.str (wordOf c)) H'
theorem sQ {a:Addr} {o:Obj} (hg:Gl X "_law_word") (hm:X.mg "_law_word" = some (.ref fw)) (hk:PySem.W.keepIn X.K (.ref fw)=true) (hW:dz X.prog X.w X.K X.mg X.base cl k fw c) (hr:t7 k X.A)
   (hi:X.N[i]?=some n) (hn:X.env.scope.names.lookup n=some .local) (h1:(n == ("__debug__" : Str))=false) (h2:(n == ("__classdict__" : Str))=false) :
   PE (Hx.XH X a) (.Call (.Name "_law_word" p) [.Name n p'] [] q) (trW cl c i a o):=by
 intro pins s σ H Q I ⟨e1,e2,e3,z⟩
 refine wpAny_Call_Name_kw (fB I hg hm ?_ (by decide))
 refine PySem.W.callWith_K (h₀:=X.base) I.ok.mod.kin hk (thn (bO (dr (X:=Hx.XH X a) hi (.inl hn) h1 h2) er rfl q pins s σ H (λvs H1=>vs=[.ref a]/\H1=H) I ⟨_,e3,rfl,rfl⟩) λus s1 ⟨vs,H1,I1,r1,e4,e5⟩=>⟨I1.kIn,?_⟩) rfl rfl
 subst e4
 subst e5
 cases r1 with
 | cons ra rr=>
   cases rr
   cases ra
   refine wpAny_call (codeAny_mono (hW (X.A.mark (some (.ref a))) X.stack s1 _ a o Q rfl e1 e2 ⟨hr.dp,hr.un⟩ I1.wM z) λres s' hq=>?_)
   cases res with
   | error e=>exact hq.elim
   | ok fl=>
     cases fl with
     | ret u=>exact I1.after hq
     | next=>exact False.elim hq
     | brk=>exact False.elim hq
     | cont=>exact False.elim hq
theorem l9 (B:Bk X k) (nd:X.N.Nodup) (hb:∀ (pins:List (Addr × Obj)) (E:Value->Shared->Prop) (Ex:Nat->Hp->Prop),PsX (Hx.XP X pins E) cl Ex->PSs (Hx.XP X pins E) body (dS X.K τ { nx:=λ_=>False,rt:=λ_=>False,xc:=Ex c })) (h:N.rt (.d (.str (wordOf c))))
   (hmS:X.mg "SmoothError" = some (.ref S)) (hx:PySem.W.exmOne X.K (.ref (cl c)) (.ref S)=some true) (hm:X.mg "_law_word" = some (.ref fw)) (hk:PySem.W.keepIn X.K (.ref fw)=true) (hW:dz X.prog X.w X.K X.mg X.base cl k fw c) (i:Nat)
   (hst:X.stack=X.env :: X.outer/\X.env.frame=some X.env.locals:=by exact ⟨rfl,rfl⟩) (hi:X.N[i]?=some n:=by rfl) (hn:X.env.scope.names.lookup n=some .local:=by rfl) (hgS:Gl X "SmoothError":=by rfl) (hg:Gl X "_law_word":=by rfl) (h1:(n == ("__debug__" : Str))=false:=by decide) (h2:(n == ("__classdict__" : Str))=false:=by decide) :
   PSs X (.Try body [.ExceptHandler (some (.Name "SmoothError" psm)) (some n) [.Return (some (.Call (.Name "_law_word" p) [.Name n p'] [] q)) pr] ph] [] [] pos :: rest) (dS X.K τ N):=by
 refine bj (M:=λ_=>False) (psW (Hx.qr (ks:=[c]) (cl:=cl) (i:=i) (tr:=trW cl c i) (tb:=λEx=>dS X.K τ { nx:=λ_=>False,rt:=λ_=>False,xc:=Ex c }) hst nd hi hn hgS hmS (by decide) (λc' hc'=>by rw [List.mem_singleton.mp hc']; exact hx) (λa o=>sQ hg hm hk hW ⟨B.room.dp,B.room.un⟩ hi hn h1 h2) λEx pins E hp=>hb pins E Ex hp) λD σ H ⟨A,H₀,B,S,Me⟩=>?_) λ_ e=>e.elim
 refine ⟨A,H₀,B,S,λ_ _ _ _ h=>h.elim,λ_ _ _ _ h=>h.elim,λ_ _ _ _ h=>h.elim,λ_ _ _ _ h=>h.elim,λH' e'=>⟨List.mem_singleton.mpr rfl,λσ' a o hl Ha ho=>⟨aX,ho,List.getElem?_set_self hl,λH2 e2=>?_⟩⟩⟩
 exact Me.rt (.str (wordOf c)) H2 [] (.d (.str (wordOf c))) h ((e'.trans (aq Ha _)).trans e2) cO (fY .str)
noncomputable abbrev XN (X:Cx) (pins:List (Addr × Obj)):Cx:={ X with pn:=X.pn++pins,xe:=λ_ _=>False }
theorem Bk.xn (B:Bk X k) (pins:List (Addr × Obj)):Bk (XN X pins) k:=⟨B.room,B.calm,B.blt,PassesOwn.never⟩
end
noncomputable def exX (cl:Nat->Addr) (c:Nat):Ex where
 p:=λ_ _ o _=>∃ ob,o=Hx.pg ob/\Hx.qN ob (cl c)
 mono:=λ_ h=>h
 ext:=λ⟨ob,h,_⟩=>.inr (.inl ⟨ob,_,h⟩)
section
variable {X:Cx} {C:Bool} {τ:List Sl} {x y z:D} {a b e c0 tg it elt:Expr} {es ifs:List Expr} {pos p q q':Pos} {k c:Nat} {cl:Nat->Addr} {xs:List D} {scope:Scope}
theorem qE {b:Bool} {v:V} {u:Value} (O:Hx.b6 X.K (cl c)) (hv:∀ u',RelV v u'->u'=u) (e:PySem.W.kitOne X.K (.ref (cl c)) u=some b) :
   dg X (.builtin "isinstance") (λxs H Q=>∃ a o x,xs=[.ref a,v]/\H a=some (.frz o x)/\Hx.qN o (cl c)/\Q (.bl b) H):=by
 rintro pins s σ H vs us Q I rv ⟨a,o,x,rfl,e2,⟨⟨e3,e4⟩,ws,e5,e6⟩,q⟩
 obtain ⟨u1,u2,rfl,r1,r2⟩:=rv.two
 cases r1
 have r2:=hv _ r2
 subst r2
 have g:=(I.hok a _ e2).1
 refine PySem.W.kia_one (Hx.qD O) I.kIn ⟨o,g,e3,?_,?_⟩ e (λz=>nomatch z) λtk=>⟨.bl b,H,I.kept (t':=tk) (λ_ _ z=>z),rfl,q⟩
 · unfold PySem.W.notCls; rw [e5]
 · rw [e4]; trivial
theorem bY (i:Nat) {n t:Str} {C0:Addr} {bb:Bool} (hm:X.mg t=some (.ref C0)) (O:Hx.b6 X.K (cl c)) (hk:PySem.W.kitOne X.K (.ref (cl c)) (.ref C0)=some bb) (hbi:X.mg "isinstance" = none) (hi:τ[i]?=some (.x (exX cl c)):=by rfl) (hN:X.N[i]?=some n:=by rfl) (hg:Gl X "isinstance":=by rfl) (hgt:Gl X t:=by rfl)
   (hv:Vis X.env.scope n:=by first | exact Or.inl rfl | exact Or.inr (Or.inl rfl) | exact Or.inr (Or.inr rfl)) (h1:(n == ("__debug__" : Str))=false:=by decide) (h2:(n == ("__classdict__" : Str))=false:=by decide) (h3:(t == ("__debug__" : Str))=false:=by decide)
   (he:starEach [.Name n q,.Name t q'] X.env=(false,eval (.Name n q) X.env) :: starEach [.Name t q'] X.env:=by rfl) (hpl:(backTo pos (starEach [.Name t q'] X.env)).any (·.1)=false:=by rfl) :
   PE X (.Call (.Name "isinstance" p) [.Name n q,.Name t q'] [] pos) (dE X.K C τ (.d (.bl bb))):=by
 refine peW (dZ (qE (v:=.ref C0) (u:=.ref C0) O (λ_ z=>z) hk) hg hbi (by decide +kernel) (bO (dr hN hv h1 h2) (bO (nB (v:=.ref C0) hgt hm rfl h3) er rfl) he) (by decide) (by decide) he hpl) λσ H Q q=>?_
 obtain ⟨A,H₀,B,S,k⟩:=fX q
 obtain ⟨d,o,h1,h2,h3,ob,rfl,ho⟩:=S.sl i _ hi
 exact ⟨_,slot_of h2,d,ob,_,rfl,h3,ho,k _ H (aj.refl _) .bl⟩
theorem xU (i:Nat) {n t:Str} {T:String} {bb:Bool} (hm:X.mg t=none) (hb:bootBuiltins t=some (.type T)) (O:Hx.b6 X.K (cl c)) (hk:PySem.W.kitOne X.K (.ref (cl c)) (.type T)=some bb) (hbi:X.mg "isinstance" = none) (hi:τ[i]?=some (.x (exX cl c)):=by rfl) (hN:X.N[i]?=some n:=by rfl) (hg:Gl X "isinstance":=by rfl) (hgt:Gl X t:=by rfl)
   (hv:Vis X.env.scope n:=by first | exact Or.inl rfl | exact Or.inr (Or.inl rfl) | exact Or.inr (Or.inr rfl)) (h1:(n == ("__debug__" : Str))=false:=by decide) (h2:(n == ("__classdict__" : Str))=false:=by decide) (h3:(t == ("__debug__" : Str))=false:=by decide) (h4:t ≠ "__name__":=by decide)
   (he:starEach [.Name n q,.Name t q'] X.env=(false,eval (.Name n q) X.env) :: starEach [.Name t q'] X.env:=by rfl) (hpl:(backTo pos (starEach [.Name t q'] X.env)).any (·.1)=false:=by rfl) :
   PE X (.Call (.Name "isinstance" p) [.Name n q,.Name t q'] [] pos) (dE X.K C τ (.d (.bl bb))):=by
 refine peW (dZ (qE (v:=.ty T) (u:=.type T) O (λ_ z=>z) hk) hg hbi (by decide +kernel) (bO (dr hN hv h1 h2) (bO (oo (v:=.ty T) hgt hm hb rfl h4 h3) er rfl) he) (by decide) (by decide) he hpl) λσ H Q q=>?_
 obtain ⟨A,H₀,B,S,k⟩:=fX q
 obtain ⟨d,o,h1,h2,h3,ob,rfl,ho⟩:=S.sl i _ hi
 exact ⟨_,slot_of h2,d,ob,_,rfl,h3,ho,k _ H (aj.refl _) .bl⟩
theorem uH {n:Int} (hc:Ck true X) (hm:X.mg "range" = none) (h:PE X a (dE X.K false τ (.d (.int n)))) (h1:-(2 ^ 62)<=n) (h2:n < 2 ^ 62) (hg:Gl X "range":=by rfl) (hs:starEach [a] X.env=[(false,eval a X.env)]:=by rfl):PI X tg (.Call (.Name "range" p) [a] [] pos) (dI X.K τ (gz 0 n.toNat)):=
 piW (jJ hc hg hm (aa h af hs) hs) λσ H R ⟨A,H₀,B,S,k⟩=>c8 S λvs H1 e1 d1=>by
   cases d1 with
   | cons d r=>
     cases r
     cases d
     exact ⟨n,rfl,h1,h2,k _ H1 e1 (mv 0 _)⟩
theorem vU (j:Nat) {n:Str} {g f:Nat->D} {t:Nat->Bool} (hi:PI X (.Name n p) it (dI X.K τ xs)) (hx:∀ i (h:i < xs.length),xs[i]=g i) (hl:xs.length < 1000000)
   (ht:∀ i,i < xs.length->∀ s H fp,PT (cpX X s H scope fp) c0 (dT X.K ((bP τ (bCp X.N scope)++[Sl.un]).set j (.d (g i))) (t i)))
   (he:∀ i,i < xs.length->t i=true->∀ s H fp,PE (cpX X s H scope fp) elt (dE X.K true ((bP τ (bCp X.N scope)++[Sl.un]).set j (.d (g i))) (.d (f i))))
   (hc:bOk X.env.scope scope=true:=by kernel_rfl) (hu:(bP τ (bCp X.N scope)++[Sl.un])[j]?=some .un:=by rfl) (hN:(bNm scope++[("#" : Str)])[j]?=some n:=by rfl) (hv:∀ s H fp,Loc (cpX X s H scope fp).env.scope n:=by intro _ _ _; first | exact .inl rfl | exact .inr rfl)
   (hf:∀ s H fp,(cpX X s H scope fp).fn n=true\/(cpX X s H scope fp).env.scope.names.lookup n=some .local:=by intro _ _ _; first | exact .inr rfl | exact .inl rfl) (hs:∀ x,foldedSetIterable it X.env x=pure x:=by intro _; rfl) :
   Cmp X elt (.Name n p) it [c0] scope τ (((List.range xs.length).filter t).map f):=by
 refine kb (T:=λi=>(bP τ (bCp X.N scope)++[Sl.un]).set j (.d (g i))) (t:=t) (f:=f) (elt:=elt) (ifs:=[c0]) hc hi (λi=>⟨List.length_set,λl x h=>?_⟩) (λi h s H fp=>?_) (λi h s H fp=>nZ (ht i h s H fp)) he hl hs
 · rw [List.getElem?_set_ne (λz=>by rw [<- z,hu] at h; cases h)]
   exact h
 · rw [hx i h]
   exact sO j (fU hc).2 hN (hv s H fp) (hf s H fp)
theorem v9 (hm:X.mg "len" = none) (h:PE X a (dE X.K C τ (.d (.lst xs)))) (hg:Gl X "len":=by rfl) (he:starEach [a] X.env=(false,eval a X.env) :: starEach [] X.env:=by rfl) (hpl:(backTo pos (starEach [] X.env)).any (·.1)=false:=by rfl):PE X (.Call (.Name "len" p) [a] [] pos) (dE X.K C τ (.d (.int xs.length))):=by
 obtain ⟨r,h1,h2⟩:=cj (X:=X) (xs:=xs)
 exact peW (dZ h1 hg hm (by decide +kernel) (aa h af he) (by decide) (by decide) he hpl) (mR h2)
end
section
variable {P:Program} {w:World} {K:PySem.W.Frag} {mg:Str->Option Value} {base:Heap} {cl:Nat->Addr}
noncomputable abbrev Xw (P:Program) (w:World) (K:PySem.W.Frag) (mg:Str->Option Value) (base:Heap) (N:List Str) (qual:Str) (st:Stmt) (f:Addr) (cdv:Value) (A:Around) (outer:List Env) (s:Shared) (H:Hp):Cx:=({ i0 CX0 P w K mg base N qual (ah st) f cdv A outer s H E0 with calm:=false }:Cx).nox
theorem fnW {qual p0:Str} {st:Stmt} {f:Addr} {fd:FuncData} {N:List Str} {k c:Nat} (F:Fun K "_law_word" qual st f fd) (S:ao N [p0] (ah st)) (hbind:Binds K fd [p0] [])
   (body:∀ cdv A outer s H,Ck true (Xw P w K mg base N qual st f cdv A outer s H)->PSs (Xw P w K mg base N qual st f cdv A outer s H) (bo st) (dS K (.x (exX cl c) :: List.replicate (N.length - 1) .un) { nx:=λ_=>False,rt:=λr=>r=.d (.str (wordOf c)) })):dz P w K mg base cl (k + 1) f c:=by
 intro A outer s H a o Q hh hH hO hr e0 q
 obtain ⟨oc,od,dV,kV,doc,pm,an,cdv,ct,osl,rfl,lk,hcd⟩:=F.ex
 have KX:K.In s.heap:=e0.mod.kin.keeps λb o e=>(e0.bs b o e).1
 have lim:s.heap.NoLimit:=e0.mod.nolimit.keeps λb o e=>(e0.bs b o e).1
 have hpl:1<=N.length:=by
   have:=congrArg List.length S.pre
   rw [List.length_take] at this
   exact Nat.le_trans (Nat.le_of_eq this.symm) (Nat.min_le_right _ _)
 refine codeAny_call_function (by have:=hr.dp; omega) (KX _ _ lk) rfl S.co S.gen rfl (PySem.W.codeRec_of KX hcd) (hbind s [.ref a] KX rfl _ _ _ _ ?_)
 refine wpAny_newFunctionEnv_cells S.kind (λ⟨n,v⟩ hy=>?_) λenv he s1 x=>?_
 · rcases S.par n (List.of_mem_zip hy).1 with z | z
   · exact .inl z
   · exact .inr ⟨z,PySem.W.cellsFrom_some _ _ _ (.inl z)⟩
 subst he
 refine ⟨lim.keeps x.toInCall.keep,codeAny_func ?_⟩
 have I:Inv { i0 CX0 P w K mg base N qual (ah st) f cdv A outer s H E0 with calm:=false } [] (start N [.ref a]) H s1:=jF (cm:=false) S (λz=>nomatch z) e0 rfl (.cons rfl .nil) x
 have ck:Ck true (Xw P w K mg base N qual st f cdv A outer s H):=.inr ⟨rfl,a,o,_,hO.2.choose,hh,hH,hO.2.choose_spec.1,hO.2.choose_spec.2⟩
 have ow:∀ b,own (λ_=>False) (λi=>if i=0 then [a] else []) b ↔ b=a:=λb=>by
   refine ⟨λz=>z.elim False.elim λ⟨i,z⟩=>?_,λz=>.inr ⟨0,by simp [z]⟩⟩
   by_cases e:i=0
   · simp only [if_pos e] at z; exact List.mem_singleton.mp z
   · simp only [if_neg e] at z; cases z
 have hB:∀ i b,b ∈ (if i=0 then [a] else []:List Addr)->i=0/\b=a:=λi b z=>by
   by_cases e:i=0
   · rw [if_pos e] at z; exact ⟨e,List.mem_singleton.mp z⟩
   · rw [if_neg e] at z; cases z
 refine wpAny_mono (body cdv A outer s H ck [] s1 _ H { nx:=λ_ _=>False,rt:=λv H'=>aj (Hy.hd H (·=a)) H'/\v=.str (wordOf c) } (I.gy _) ⟨λ_=>False,Hy.hd H (·=a),λi=>if i=0 then [a] else [],⟨aY,?_,λi s hi=>?_,λi b z=>?_,λi j b z1 z2=>((hB i b z1).1).trans ((hB j b z2).1).symm,λb z=>z.elim,λi b z=>⟨Hx.pg o,by rw [(hB i b z).2]; exact hH⟩⟩,λ_ _ _ _ z=>z.elim,λ_ _ _ _ z=>z.elim,λ_ _ _ _ z=>z.elim,λv H' bs s h e hf z=>?_,λ_ _=>trivial⟩) (λfl s' hs=>?_) λe s' hs=>hs.elim
 · unfold L2.start
   simp
 · match i,hi with
   | 0,hi=>
     cases hi
     exact ⟨a,_,rfl,rfl,hH,o,rfl,hO⟩
   | i + 1,hi=>
     rw [List.getElem?_cons_succ,List.getElem?_replicate] at hi
     split at hi
     · cases hi; rfl
     · cases hi
 · rw [(hB i b z).2]
   unfold Hy.hd
   rw [if_pos rfl]
 · obtain rfl:=(h:s=.d (.str (wordOf c)))
   obtain ⟨_,u,e1,d⟩:=z
   cases e1
   cases d
   exact ⟨e,rfl⟩
 · cases fl with
   | ret u=>
     obtain ⟨v,σ',H',J,rv,z1,rfl⟩:=hs
     refine ⟨_,H',J.os,J.bare,J.base,J.hok,rv,q H' λb ob hb=>?_⟩
     by_cases e:b=a
     · subst e
       rw [hH] at hb
       cases hb
       exact J.base.frzs b _ _ hH
     · exact z1 b ob (aI.mpr ⟨e,hb⟩)
   | next=>obtain ⟨_,_,_,z⟩:=hs; exact z.elim
   | brk=>obtain ⟨_,_,_,z⟩:=hs; exact z.elim
   | cont=>obtain ⟨_,_,_,z⟩:=hs; exact z.elim
end
end Hy
namespace Hy
open PySem PySem.Spec PyProof.Rows L2
open Ev (D Den ar cL ee)
section
variable {X:Cx} {C:Bool} {τ:List Sl} {a e tg it elt:Expr} {es ifs:List Expr} {pos p:Pos} {Et:Hp->Prop} {scope:Scope}
end
end Hy
namespace Hy
open PySem PySem.Spec PyProof.Rows L2
open Ev (D Den ar)
section
variable {P:Program} {w:World} {K:PySem.W.Frag} {h:Heap} {mg:Str->Option Value} {base:Heap} {x:Str} {st:Stmt} {f:Addr} {ps:List Str} {k:Nat} {Φ:List D->Nat->Prop} {cl:Nat->Addr}
theorem Dfn.mz (d:Dfn K x st f) (X:K.In h) (G:h.Ns mainGlobals mg) (b:BdA x st ps) (o:∀ fd,Fun K x x st f fd->aJ P w K mg base (Hx.CXe P w cl) k f fd ps (spX K cl Φ)):cH P w K mg base cl k x Φ:=by
 obtain ⟨fd,F,h1,h2,h3⟩:=d.fn X G b
 exact ⟨f,fd,ps,o fd F,h1,h2,h3⟩
end
theorem av {K:PySem.W.Frag} {C D:Addr} {dd:Option Addr} {cd:ClassData} {sl:Array (Option Value)} {b:Bool} (h:(Value.ref C == Value.ref D)=false) (e:K.lookup D=some ⟨.type "type",dd,.cls cd,sl⟩) (s:PySem.W.subIn K (.ref C) (.ref D)=some b):PySem.W.kitCls K (.ref C) (.ref D)=some b/\PySem.W.kitOne K (.ref C) (.ref D)=some b:=by
 have z:PySem.W.kitCls K (.ref C) (.ref D)=some b:=by
   have c:PySem.W.clsIn K D=some cd:=by unfold PySem.W.clsIn; rw [e]
   have t:PySem.W.typeIn K (.ref D)=some (.type "type"):=by show (K.lookup D).map _=_; rw [e]; rfl
   show (if ((PySem.W.clsIn K D).isSome && PySem.W.typeIn K (.ref D) == some (.type "type"))=true then PySem.W.subIn K (.ref C) (.ref D) else none)=some b
   rw [if_pos (by rw [c,t]; simp)]
   exact s
 refine ⟨z,?_⟩
 unfold PySem.W.kitOne
 rw [if_neg (by rw [h]; decide)]
 exact z
theorem il {K:PySem.W.Frag} {C:Addr}:PySem.W.kitOne K (.ref C) (.ref C)=some true:=by
 unfold PySem.W.kitOne
 rw [if_pos (by simp)]
theorem j1 {K:PySem.W.Frag} {C:Addr} (s:PySem.W.subIn K (.ref C) (.type "ValueError")=some true):PySem.W.kitOne K (.ref C) (.type "ValueError")=some true:=by
 unfold PySem.W.kitOne
 rw [if_neg (by simp)]
 show (if PySem.W.kitMeta "ValueError" = true then PySem.W.subIn K (.ref C) (.type "ValueError") else none)=some true
 rw [if_pos (by decide +kernel)]
 exact s
theorem mn {K:PySem.W.Frag} {C S:Addr} (h:PySem.W.subIn K (.ref S) (.type "BaseException")=some true) (k:PySem.W.kitCls K (.ref C) (.ref S)=some true):PySem.W.exmOne K (.ref C) (.ref S)=some true:=by
 unfold PySem.W.exmOne
 rw [if_pos (by rw [h]; rfl)]
 exact k
end Hy
namespace Hy
open PySem PySem.Spec PyProof.Rows L2
open Ev (D Den ar a7)
section
variable {X:Cx}
end
end Hy
namespace L2
open PySem PySem.Spec PyProof.Rows
section
variable {κ:Type} [DecidableEq κ]
noncomputable def di (kvs:List (κ × V)) (k:κ):Option V:=(kvs.find? λkv=>decide (kv.1=k)).map (·.2)
noncomputable def putK (kvs:List (κ × V)) (k:κ) (v:V):List (κ × V):=
 if (kvs.any λkv=>decide (kv.1=k))=true then kvs.map (λkv=>if kv.1=k then (kv.1,v) else kv) else kvs++[(k,v)]
theorem br {p:κ × V} {r:List (κ × V)} {k:κ} (e:p.1=k):di (p :: r) k=some p.2:=by simp [di,List.find?_cons,e]
theorem bu {p:κ × V} {r:List (κ × V)} {k:κ} (e:¬ p.1=k):di (p :: r) k=di r k:=by simp [di,List.find?_cons,e]
theorem iC (k:κ):∀ kvs:List (κ × V),(kvs.any λkv=>decide (kv.1=k))=(di kvs k).isSome
 | []=>rfl
 | p :: r=>by
   rw [List.any_cons]
   by_cases e:p.1=k
   · simp only [br e,decide_eq_true e,Bool.true_or,Option.isSome_some]
   · rw [bu e,decide_eq_false e,Bool.false_or]; exact iC k r
theorem lU (k j:κ) (y:V):∀ kvs:List (κ × V),di (kvs.map λkv=>if kv.1=k then (kv.1,y) else kv) j=(di kvs j).map λx=>if j=k then y else x
 | []=>rfl
 | p :: r=>by
   have ih:=lU k j y r
   rw [List.map_cons]
   by_cases h:p.1=k
   · rw [if_pos h]
     by_cases e:p.1=j
     · rw [br (p:=(p.1,y)) e,br e,Option.map_some,if_pos (e.symm.trans h)]
     · rw [bu (p:=(p.1,y)) e,bu e,ih]
   · rw [if_neg h]
     by_cases e:p.1=j
     · rw [br (p:=p) e,br e,Option.map_some,if_neg (λz=>h (e.trans z))]
     · rw [bu (p:=p) e,bu e,ih]
theorem jL (k j:κ) (y:V):∀ kvs:List (κ × V),di kvs k=none->di (kvs++[(k,y)]) j=if j=k then some y else di kvs j
 | [],_=>by
   by_cases e:k=j
   · rw [if_pos e.symm]; exact br (p:=(k,y)) e
   · rw [if_neg (λz=>e z.symm)]; exact bu (p:=(k,y)) e
 | p :: r,hn=>by
   rw [List.cons_append]
   have hk:¬ p.1=k:=λz=>by rw [br z] at hn; cases hn
   rw [bu hk] at hn
   have ih:=jL k j y r hn
   by_cases e:p.1=j
   · rw [br e,br e,if_neg (λz=>hk (e.trans z))]
   · rw [bu e,bu e,ih]
theorem qK (kvs:List (κ × V)) (k j:κ) (y:V):di (putK kvs k y) j=if j=k then some y else di kvs j:=by
 unfold putK
 by_cases a:(kvs.any λkv=>decide (kv.1=k))=true
 · rw [if_pos a,lU]
   rw [iC] at a
   by_cases e:j=k
   · obtain ⟨x,hx⟩:=Option.isSome_iff_exists.mp a
     rw [if_pos e,e,hx,Option.map_some,if_pos rfl]
   · rw [if_neg e]
     cases di kvs j with
     | none=>rfl
     | some x=>rw [Option.map_some,if_neg e]
 · rw [if_neg a]
   refine jL k j y kvs ?_
   rw [iC] at a
   cases q:di kvs k with
   | none=>rfl
   | some x=>rw [q] at a; exact (a rfl).elim
theorem KV.val {kvs:List (κ × V)} {vs:List (κ × Value)} (r:KV kvs vs) (k:κ):pe (di kvs k) (valueAt vs k):=by
 unfold KV at r
 induction r with
 | nil=>exact True.intro
 | @cons p q ps qs h t ih=>
   obtain ⟨h1,h2⟩:=h
   by_cases e:p.1=k
   · have e':q.1=k:=h1.symm.trans e
     have b:valueAt (q :: qs) k=some q.2:=by simp [valueAt,List.find?_cons,e']
     rw [br e,b]; exact h2
   · have e':¬ q.1=k:=λz=>e (h1.trans z)
     have b:valueAt (q :: qs) k=valueAt qs k:=by simp [valueAt,List.find?_cons,e']
     rw [bu e,b]; exact ih
theorem KV.any {kvs:List (κ × V)} {vs:List (κ × Value)} (r:KV kvs vs) (k:κ):(kvs.any λkv=>decide (kv.1=k))=vs.any λkv=>decide (kv.1=k):=by
 unfold KV at r
 induction r with
 | nil=>rfl
 | cons h t ih=>rw [List.any_cons,List.any_cons,ih,h.1]
theorem KV.keys {kvs:List (κ × V)} {vs:List (κ × Value)} (r:KV kvs vs):kvs.map (·.1)=vs.map (·.1):=by
 unfold KV at r
 induction r with
 | nil=>rfl
 | cons h t ih=>rw [List.map_cons,List.map_cons,ih,h.1]
theorem KV.length {kvs:List (κ × V)} {vs:List (κ × Value)} (r:KV kvs vs):kvs.length=vs.length:=Paired.length r
end
noncomputable abbrev KT (H:Hp):List (List Key × V)->List (List Key × Addr × Value)->Prop:=Paired λp q=>p.1=q.1/\H q.2.1=some (.tup (p.1.map kV))/\RelV p.2 q.2.2
theorem KT.val {H:Hp} {kvs:List (List Key × V)} {xs:List (List Key × Addr × Value)} (r:KT H kvs xs) (k:List Key):pe (di kvs k) ((atKey xs k).map (·.2)):=by
 induction r with
 | nil=>exact True.intro
 | @cons p q ps qs h t ih=>
   obtain ⟨h1,_,h2⟩:=h
   by_cases e:p.1=k
   · have e':q.1=k:=h1.symm.trans e
     have b:atKey (q :: qs) k=some q.2:=by simp [atKey,List.find?_cons,e']
     rw [br e,b]; exact h2
   · have e':¬ q.1=k:=λz=>e (h1.trans z)
     have b:atKey (q :: qs) k=atKey qs k:=by simp [atKey,List.find?_cons,e']
     rw [bu e,b]; exact ih
theorem KT.keeps {H H':Hp} {kvs:List (List Key × V)} {xs:List (List Key × Addr × Value)} (r:KT H kvs xs) (ht:∀ b ys,H b=some (.tup ys)->H' b=some (.tup ys)):KT H' kvs xs:=
 Paired.vE r λ_ _ z=>⟨z.1,ht _ _ z.2.1,z.2.2⟩
section
variable {P:Program} {w:World} {H:Hp} {h:Heap} {a:Addr}
end
noncomputable def xS (H:Hp) (a:Addr) (y:V) (r:Option V):Prop:=∃ kvs k,Rd H a (.dK kvs)/\y=kV k/\r=di kvs k
noncomputable def xI (H:Hp) (a:Addr) (y v:V) (H':Hp):Prop:=∃ kvs k,H a=some (.dK kvs)/\y=kV k/\kvs.length < sizeLine/\H'=upd H a (.dK (putK kvs k v))
theorem xS.k {H:Hp} {a:Addr} {kvs:List (Key × V)} {k:Key} (e:H a=some (.dK kvs)):xS H a (kV k) (di kvs k):=⟨kvs,k,.inl e,rfl,rfl⟩
theorem xI.k {H:Hp} {a:Addr} {kvs:List (Key × V)} {k:Key} {v:V} (e:H a=some (.dK kvs)) (hl:kvs.length < sizeLine):xI H a (kV k) v (upd H a (.dK (putK kvs k v))):=⟨kvs,k,e,rfl,hl,rfl⟩
section
variable {X:Cx} {pins:List (Addr × Obj)} {σ:St} {H:Hp} {s:Shared} {a:Addr} {y v:V} {u r:Value} {o:Option V} {A:Around} {E:Value->Shared->Prop}
theorem Inv.big (I:Inv X pins σ H s):sysModules < s.heap.objs.size:=by
 have h:mainGlobals < s.heap.objs.size:=(I.mod.glob.keeps I.bk).lt
 exact Nat.lt_trans (by decide) h
theorem oG {h':Heap} {t':Nat} {ob:HO} (I:Inv X pins σ H s) (mu:Mut (H a)) (hs:Heap.SameBut a s.heap h') (he:∃ q,h'.get? a=some q) (new:bJ X.prog X.w (upd H a ob) h' a ob) :
   Inv X pins σ (upd H a ob) { s with heap:=h',toks:=t' }:=
 I.write (x:=a) (e:=a) mu (.inl rfl) (λb q hb z=>(hs.2 b hb).trans z) he new
end
section
variable {X:Cx} {pins:List (Addr × Obj)} {σ:St} {H:Hp} {s:Shared} {a:Addr} {kvs:List (Key × V)} {k:Key} {u:Value} {A:Around} {E:Value->Shared->Prop}
end
noncomputable def xR (i:Expr):Prop:=∀ ov iv,subscripted i false ov iv=operate [ov,iv] (getItem ov iv)
theorem tE {prog:Program} {w:World} {A:Around} {E:Value->Shared->Prop} {s:Shared} {env:Env} {value slice:Expr} {pos:Pos} {T id:String} {Q:Value->Shared->Prop}
   (hl:typeLookup (.type T) "__getitem__" = pure (some (.builtin id))) (hs:xR slice)
   (h:wpAny (model prog w) A (eval value env) (λo s₁=>wpAny (model prog w) A (eval slice env) (λi s₂=>s₂.TypeIs o T/\wpAny (model prog w) A (getItem o i) Q E s₂) E s₁) E s) :
   wpAny (model prog w) A (eval (.Subscript value slice pos) env) Q E s:=by
 refine Subscript_ (wpAny_mono h (λo s₁ h₁=>wpAny_mono h₁ (λi s₂ h₂=>?_) λ_ _ x=>x) λ_ _ x=>x)
 obtain ⟨hT,h₂⟩:=h₂
 unfold subscriptTail
 refine wpAny_bind ?_
 rw [getitemInPython_of_ne hT.not_modules]
 refine wpAny_bind (wpAny_specialOf hT hl ?_)
 have fin:wpAny (model prog w) A (subscripted slice false o i) (λr s₃=>wpAny (model prog w) A (letTemporaryGo value o r >>= λ_=>pure r) Q E s₃) E s₂:=by
   rw [hs o i]
   exact wpAny_operating (wpAny_mono h₂ (λr s₃ h₃=>wpAny_bind (wpAny_letTemporaryGo (wpAny_pure h₃))) λ_ _ x=>x)
 first
   | exact wpAny_pure (wpAny_bind fin)
   | exact wpAny_bind (wpAny_pure (wpAny_bind fin))
   | exact wpAny_bind fin
section
variable {X:Cx} {o i e value:Expr} {pos pos' tpos:Pos} {td ty tv:TE}
end
section
variable {X:Cx} {pos:Pos}
end
structure M2 (X:Cx) (o:Expr) (m:Str) (apos:Pos) (e f:Expr) (cpos:Pos):Prop where
 base:attributeBase o m X.env (eval o X.env)=eval o X.env
 few:((backTo cpos (starEach [e,f] X.env)).all (λx=>!x.1) && (backToKw cpos (keywordEach [] X.env)).all (λx=>x.1.isSome)
   && decide (([e,f]:List Expr).length + ([]:List Keyword).length + (if ([]:List Keyword).isEmpty then 0 else 1) < 30))=true
 line:(apos.endLine == cpos.line)=true
 trees:backTo cpos (starEach [e,f] X.env)=[(false,eval e X.env),(false,eval f X.env)]
section
variable {X:Cx} {pins:List (Addr × Obj)} {σ:St} {H:Hp} {s:Shared} {a:Addr} {y d:V} {u r:Value} {o:Option V} {A:Around} {E:Value->Shared->Prop}
end
section
variable {X:Cx} {o e f:Expr} {apos cpos:Pos} {td ty tx:TE}
end
end L2
namespace L2
open PySem PySem.Spec PyProof.Rows PySem.SeqAt
section
variable {P:Program} {w:World} {A:Around} {E:Value->Shared->Prop} {s:Shared}
noncomputable def HK (P:Program) (w:World) (A:Around) (h:Heap) (v:Value) (x:Int) (d:Nat):Prop:=
 ∀ (s:Shared) (E:Value->Shared->Prop) (Q:Int->Shared->Prop),s.heap=h->Q x { s with toks:=s.toks + d }->wpAny (model P w) A (pyHash v) Q E s
end
noncomputable abbrev xp:=Int × Int × Bool
noncomputable def isN (h:Heap) (k:xp) (a:Addr):Prop:=∃ t c t',IsTup h a #[.int k.1 t,.ref c]/\IsTup h c #[.int k.2.1 t',.bool k.2.2]
theorem oq {h:Heap} {a:Addr} {x y:Array Value} (p:IsTup h a x) (q:IsTup h a y):x=y:=by
 obtain ⟨o,ho,_,n,hd⟩:=p
 obtain ⟨o',ho',_,n',hd'⟩:=q
 rw [ho] at ho'; cases ho'
 rw [hd] at hd'; cases hd'; rfl
theorem isN.inj {h:Heap} {a:Addr} {x y:xp} (p:isN h x a) (q:isN h y a):x=y:=by
 obtain ⟨t,c,t',h1,h2⟩:=p
 obtain ⟨u,d,u',g1,g2⟩:=q
 have e:=oq h1 g1
 simp only [Array.mk.injEq,List.cons.injEq,Value.int.injEq,Value.ref.injEq,and_true] at e
 obtain ⟨⟨e1,_⟩,rfl⟩:=e
 have e:=oq h2 g2
 simp only [Array.mk.injEq,List.cons.injEq,Value.int.injEq,Value.bool.injEq,and_true] at e
 obtain ⟨⟨e2,_⟩,e3⟩:=e
 obtain ⟨_,_,_⟩:=x
 obtain ⟨_,_,_⟩:=y
 simp_all
structure IK (P:Program) (w:World) (K:Type) [DecidableEq K] where
 is:Heap->K->Value->Prop
 hash:K->Int
 draws:K->Nat
 dep:Nat
 inj:∀ {h:Heap} {v:Value} {x y:K},is h x v->is h y v->x=y
 keeps:∀ {h h':Heap} {k:K} {v:Value} {d:Addr} {o:Obj} {es ep},is h k v->h.get? d=some o->o.data=.dict es ep->Heap.SameBut d h h'->is h' k v
 hk:∀ {A:Around} {h:Heap} {k:K} {v:Value},is h k v->A.units + dep < cLine->HK P w A h v (hash k) (draws k)
 eq:∀ {A:Around} {s:Shared} {x y:K} {u v:Value},is s.heap x u->is s.heap y v->A.units + dep < cLine->EqAt A s u v (decide (x=y))
 quiet:∀ {s:Shared} {k:K} {v:Value} {n:Nat},dep < n->is s.heap k v->∀ A E Q,Q true s->wpAny (model P w) A (eqIsQuiet n v) Q E s
section
variable {P:Program} {w:World}
variable {K K':Type} [DecidableEq K] [DecidableEq K']
noncomputable def kindOf (a:IK P w K) (hd:a.dep<=7):HeapKind P w K where
 is:=λh k p=>a.is h k (.ref p)
 hash:=a.hash
 draws:=a.draws
 room:=λA=>A.units + 8 < cLine
 inj:=a.inj
 keeps:=a.keeps
 pyHash:=λ{A E s k p Q} hu hk h=>a.hk hk (by omega) s E Q rfl h
 eqBool:=λ{A E s x y p p' Q} hu hx hy h=>a.eq hx hy (by omega) _ _ _ _ h
 quiet:=λ{A E s k p Q} hk h=>a.quiet (by omega) hk A E Q h
end
inductive iY {K:Type} (R:K->Value->Prop):List K->List Value->Prop where
 | nil:iY R [] []
 | cons {x:K} {v:Value} {xs:List K} {vs:List Value} (h:R x v) (r:iY R xs vs):iY R (x :: xs) (v :: vs)
section
variable {K:Type}
theorem iY.mono {R S:K->Value->Prop} (f:∀ x v,R x v->S x v):∀ {xs:List K} {vs:List Value},iY R xs vs->iY S xs vs
 | _,_,.nil=>.nil
 | _,_,.cons h r=>.cons (f _ _ h) (r.mono f)
theorem iY.inj {R:K->Value->Prop} (f:∀ x y v,R x v->R y v->x=y):∀ {xs ys:List K} {vs:List Value},iY R xs vs->iY R ys vs->xs=ys
 | _,_,_,.nil,.nil=>rfl
 | _,_,_,.cons h r,.cons g q=>by rw [f _ _ _ h g,r.inj f q]
theorem iY.mem {R:K->Value->Prop}:∀ {xs:List K} {vs:List Value},iY R xs vs->∀ v ∈ vs,∃ x,R x v
 | _,_,.nil,_,h=>nomatch h
 | _,_,.cons h r,v,hv=>(List.mem_cons.mp hv).elim (λz=>⟨_,z ▸ h⟩) (r.mem v)
end
section
variable {P:Program} {w:World} {K:Type} [DecidableEq K]
end
end L2
namespace Ev
open PySem PySem.Spec PyProof.Rows L2
structure KD (K:Type) [DecidableEq K] where
 ik:∀ (P:Program) (w:World),IK P w K
 dep:Nat
 dep_ok:∀ P w,(ik P w).dep=dep
 toD:K->D
 den:∀ {X:Cx} {pins:List (Addr × Obj)} {σ:L2.St} {H:Hp} {s:Shared} {v:V} {u:Value} {k:K},Inv X pins σ H s->Den X.K H v (toD k)->RelV v u->(ik X.prog X.w).is s.heap k u
section
variable {K K':Type} [DecidableEq K] [DecidableEq K']
noncomputable abbrev NEs (K:Type):=List (K × Addr × Value)
noncomputable def kd (a:KD K) (hd:a.dep<=7) (P:Program) (w:World):HeapKind P w K:=kindOf (a.ik P w) (by rw [a.dep_ok]; exact hd)
variable {a:KD K} {hd:a.dep<=7}
noncomputable def dNk (a:KD K) (hd:a.dep<=7) (P:Program) (w:World) (p:Addr) (xs:NEs K):HO:=.ext λh=>(p == sysModules)=false/\∃ o es ep,h.get? p=some o/\o.ExactDict/\o.data=.dict es ep/\es.toList=xs.map (entryOfKey (kd a hd P w))/\(xs.map (·.1)).Nodup
structure dP (a:KD K) (hd:a.dep<=7) (P:Program) (w:World) (F:PySem.W.Frag) (H:Hp) (d:Addr) (xs:NEs K):Prop where
 at_:H d=some (dNk a hd P w d xs)
 key:∀ x ∈ xs,Den F H (.ref x.2.1) (a.toD x.1)
variable {X:Cx} {pins:List (Addr × Obj)} {σ:L2.St} {H:Hp} {s:Shared} {d b:Addr} {xs:NEs K} {k:K} {A:Around} {E:Value->Shared->Prop}
theorem key_is (I:Inv X pins σ H s) (q:Den X.K H (.ref b) (a.toD k)):(kd a hd X.prog X.w).is s.heap k b:=a.den I q rfl
theorem iZ (I:Inv X pins σ H s) (D:dP a hd X.prog X.w X.K H d xs):(d == sysModules)=false/\s.heap.DictOfH (kd a hd X.prog X.w) d xs:=by
 obtain ⟨⟨h0,o,es,ep,h1,h2,h3,h4,h5⟩,_⟩:=(show bJ X.prog X.w H s.heap d (dNk a hd X.prog X.w d xs) from I.hok d _ D.at_)
 exact ⟨h0,o,es,ep,h1,h2,h3,h4,λx hx=>key_is I (D.key x hx),h5⟩
noncomputable def yb (a:KD K) (hd:a.dep<=7) (P:Program) (w:World) (F:PySem.W.Frag) (td ty:TE):TE:=λσ H Q=>td σ H λx H1=>ty σ H1 λy H2=>∃ d b k xs p v,x=.ref d/\y=.ref b/\dP a hd P w F H2 d xs/\Den F H2 (.ref b) (a.toD k)/\atKey xs k=some p/\RelV v p.2/\Q v H2
noncomputable def xh (a:KD K) (hd:a.dep<=7) (P:Program) (w:World) (F:PySem.W.Frag) (ty td:TE):TE:=λσ H Q=>ty σ H λy H1=>td σ H1 λx H2=>∃ d b k xs,x=.ref d/\y=.ref b/\dP a hd P w F H2 d xs/\Den F H2 (.ref b) (a.toD k)/\Q (.bl (!(atKey xs k).isSome)) H2
noncomputable def wH (a:KD K) (hd:a.dep<=7) (P:Program) (w:World) (F:PySem.W.Frag) (td ty tv:TE):TS:=λD σ H=>tv σ H λv H1=>td σ H1 λx H2=>ty σ H2 λy H3=>∃ d b k xs,x=.ref d/\y=.ref b/\dP a hd P w F H3 d xs/\Den F H3 (.ref b) (a.toD k)/\xs.length<=sizeLine/\∀ u,RelV v u->D.nx σ (upd H3 d (dNk a hd P w d (storedH xs k b u)))
noncomputable def yj (a:KD K) (hd:a.dep<=7) (P:Program) (w:World):TE:=λ_ H Q=>∀ p,H p=none->Q (.ref p) (upd H p (dNk a hd P w p []))
variable {o i e value:Expr} {pos pos':Pos} {td ty tv:TE}
theorem ky (hu:X.A.units + 16 < cLine) (ho:PE X o td) (hi:PE X i ty) (hs:xR i):PE X (.Subscript o i pos) (yb a hd X.prog X.w X.K td ty):=by
 intro pins s σ H Q I h
 refine tE PySem.F.slot_dict_getitem.lookup hs (thn (ho pins s σ H _ I h) λu s1 ⟨x,H1,I1,rx,q1⟩=>thn (hi pins s1 σ H1 _ I1 q1) λiv s2 ⟨y,H2,I2,ry,d,b,k,xs,p,v,ex,ey,D,g,hp,rv,q2⟩=>?_)
 subst ex ey
 obtain rfl:u=Value.ref d:=rx
 obtain rfl:iv=Value.ref b:=ry
 obtain ⟨_,dd⟩:=iZ I2 D
 exact ⟨dd.typeIs,wpAny_getItem_heap (show X.A.units + 1 + 8 < cLine by omega) (key_is I2 g) dd hp ⟨v,H2,I2.tok _,rv,q2⟩⟩
theorem oB (hu:X.A.units + 16 < cLine) (hi:PE X i ty) (ho:PE X o td):PC X .NotIn i o (xh a hd X.prog X.w X.K ty td):=by
 intro pins s σ H Q I h
 refine thn (hi pins s σ H _ I h) λiv s1 ⟨y,H1,I1,ry,q1⟩=>thn (ho pins s1 σ H1 _ I1 q1) λu s2 ⟨x,H2,I2,rx,d,b,k,xs,ex,ey,D,g,q2⟩=>?_
 subst ex ey
 obtain rfl:u=Value.ref d:=rx
 obtain rfl:iv=Value.ref b:=ry
 obtain ⟨hd',dd⟩:=iZ I2 D
 exact wpAny_notIn_heap (show X.A.units + 1 + 8 < cLine by omega) (key_is I2 g) hd' dd ⟨.bl _,H2,I2.tok _,rfl,q2⟩
theorem nO (hu:X.A.units + 16 < cLine) (ho:PE X o td) (hi:PE X i ty) (hv:PE X value tv) (hs:swapsWith value (some (.Subscript o i pos')) pos.line X.env=pure false) :
   PS X (.Assign [.Subscript o i pos'] value pos) (wH a hd X.prog X.w X.K td ty tv):=by
 intro pins s σ H D I h
 refine wpAny_Assign_Subscript (thn (hv pins s σ H _ I h) λr s1 ⟨v,H1,I1,rv,q1⟩=>thn (ho pins s1 σ H1 _ I1 q1) λu s2 ⟨x,H2,I2,rx,q2⟩=>thn (hi pins s2 σ H2 _ I2 q2) λiv s3 ⟨y,H3,I3,ry,d,b,k,xs,ex,ey,D',g,hl,q3⟩=>?_) hs
 subst ex ey
 obtain rfl:u=Value.ref d:=rx
 obtain rfl:iv=Value.ref b:=ry
 obtain ⟨hd',dd⟩:=iZ I3 D'
 refine wpAny_setItem_heap (hsz:=hl) (show X.A.units + 1 + 8 < cLine by omega) (key_is I3 g) dd λh' dd' hs=>⟨σ,_,?_,q3 r rv⟩
 obtain ⟨q,es,ep,hq,h2,h3,h4,_,h5⟩:=dd'
 refine oG I3 (by rw [D'.at_]; exact True.intro) hs ⟨q,hq⟩ ⟨⟨hd',q,es,ep,hq,h2,h3,h4,h5⟩,⟨q,hq⟩,λa1 a2 ⟨z0,o,es,ep,z1,z2⟩ hk=>⟨z0,o,es,ep,hk o z1,z2⟩⟩
theorem oA:PE X (.Dict [] [] pos) (yj a hd X.prog X.w):=λpins s σ H Q I h=>
 wpAny_Dict_empty ⟨.ref s.heap.objs.size,_,I.laid (a:=s.heap.objs.size) (o:=dNk a hd X.prog X.w s.heap.objs.size []) (t':=s.toks) (λ_ _ q=>Heap.get?_push_of_some _ q) (Nat.le_refl _)
   ⟨⟨beq_eq_false_iff_ne.mpr (Ne.symm (Nat.ne_of_lt I.big)),_,#[],0,Heap.get?_push_size _ rfl,⟨rfl,rfl,rfl⟩,rfl,rfl,List.nodup_nil⟩,⟨_,Heap.get?_push_size _ rfl⟩,λa1 a2 ⟨z0,o,es,ep,z1,z2⟩ hk=>⟨z0,o,es,ep,hk o z1,z2⟩⟩,rfl,h _ (I.hok.fresh (Nat.le_refl _))⟩
end
end Ev
namespace Hy
open PySem PySem.Spec PyProof.Rows L2
open Ev (D Den ar KD NEs dNk dP)
section
variable {K:Type} [DecidableEq K]
inductive EnK (a:KD K) (F:PySem.W.Frag) (G:Hp):NEs K->List (K × D)->Prop where
 | nil:EnK a F G [] []
 | cons {k:K} {b:Addr} {u:Value} {v:V} {x:D} {xs:NEs K} {m:List (K × D)} (hk:Den F G (.ref b) (a.toD k)) (hr:RelV v u) (hv:Den F G v x) (r:EnK a F G xs m):EnK a F G ((k,b,u) :: xs) ((k,x) :: m)
variable {a:KD K} {F:PySem.W.Frag} {G G':Hp}
theorem EnK.mono (e:aj G G'):∀ {xs:NEs K} {m:List (K × D)},EnK a F G xs m->EnK a F G' xs m
 | _,_,.nil=>.nil
 | _,_,.cons h1 h2 h3 r=>.cons (h1.mono e) h2 (h3.mono e) (r.mono e)
theorem EnK.key:∀ {xs:NEs K} {m:List (K × D)},EnK a F G xs m->∀ x ∈ xs,Den F G (.ref x.2.1) (a.toD x.1)
 | _,_,.nil,_,h=>nomatch h
 | _,_,.cons h _ _ r,x,hx=>(List.mem_cons.mp hx).elim (λz=>z ▸ h) (r.key x)
end
end Hy
namespace Hy
open PySem PySem.Spec PyProof.Rows L2
open Ev (D Den ar KD NEs dNk dP aq ky oA nO oB)
section
variable {K:Type} [DecidableEq K] {a:KD K} {hd:a.dep<=7} {X:Cx} {C:Bool} {τ:List Sl} {x:D} {b e ix:Expr} {pos p q:Pos} {k:Nat} {N:Po} {rest:List Stmt} {m:List (K × D)} {key:K}
end
section
variable {K:PySem.W.Frag} {A:Addr->Prop} {H₀ H H':Hp} {τ:List Sl} {B:Nat->List Addr} {σ:L2.St}
end
section
variable {K:Type} [DecidableEq K] {a:KD K} {hd:a.dep<=7} {X:Cx} {C:Bool} {τ:List Sl} {x:D} {b e ix:Expr} {pos p q sp:Pos} {k:Nat} {N:Po} {rest:List Stmt} {m:List (K × D)} {key:K}
end
end Hy
namespace Ev
open PySem PySem.Spec PyProof.Rows L2
section
variable {K:Type} [DecidableEq K] {a:KD K} {hd:a.dep<=7} {X:Cx} {o i e f:Expr} {pos apos cpos:Pos} {td ty tx tk tv:TE}
noncomputable def vC (a:KD K) (hd:a.dep<=7) (P:Program) (w:World) (F:PySem.W.Frag) (td ty tx:TE):TE:=λσ H Q=>td σ H λx H1=>∃ d φ,x=.ref d/\H1 d=some (.ext φ)/\(∀ h,φ h->∃ o,h.get? d=some o/\o.ExactDict)/\ty σ H1 λy H2=>tx σ H2 λz H3=>∃ b k xs,y=.ref b/\dP a hd P w F H3 d xs/\Den F H3 (.ref b) (a.toD k) /\
 ((∃ p v,atKey xs k=some p/\RelV v p.2/\Q v H3)\/(atKey xs k=none/\Q z H3))
theorem qT (hu:X.A.units + 16 < cLine) (ho:PE X o td) (he:PE X e ty) (hf:PE X f tx) (m:M2 X o "get" apos e f cpos):PE X (.Call (.Attribute o "get" apos) [e,f] [] cpos) (vC a hd X.prog X.w X.K td ty tx):=by
 intro pins s σ H Q I h
 refine wpAny_Call_method m.base m.few m.line PySem.F.plainAttrs_dict PySem.F.slot_dict_get PySem.F.type_dict_get (thn (ho pins s σ H _ I h) λu s1 ⟨x,H1,I1,rx,d,φ,ex,hφ,hx,q1⟩=>?_)
 subst ex
 obtain rfl:u=Value.ref d:=rx
 obtain ⟨ob,g1,g2⟩:=hx _ (show bJ X.prog X.w H1 s1.heap d (.ext φ) from I1.hok d _ hφ).1
 refine ⟨⟨ob,g1,g2.1⟩,λc e=>(by cases e; exact ⟨ob,g1,g2.2.1⟩),?_⟩
 rw [m.trees]
 refine Calls.callWith_builtin rfl (Calls.evalArgs_plain (Calls.spliced_cons (thn (he pins s1 σ H1 _ I1 q1) λiv s2 ⟨y,H2,I2,ry,q2⟩=>
   Calls.spliced_cons (thn (hf pins s2 σ H2 _ I2 q2) λfv s3 ⟨z,H3,I3,rz,b,k,xs,ey,D,g,q3⟩=>Calls.spliced_nil ?_))))
 subst ey
 obtain rfl:iv=Value.ref b:=ry
 obtain ⟨hd',dd⟩:=iZ I3 D
 refine call_meetsIn PySem.F.slot_dict_get dd.typeIs PySem.F.entry_dict_get (PySem.F.args_dict_get_3 _ _ _) (meetsH_dict_get_default (kd a hd X.prog X.w) d b hd' fv) ⟨show X.A.units + 1 + 8 < cLine by omega,k,xs,key_is I3 g,dd,?_⟩
 rcases q3 with ⟨p,v,ha,rv,q⟩ | ⟨ha,q⟩
 · rw [ha]
   exact ⟨v,H3,I3.tok _,rv,q⟩
 · rw [ha]
   exact ⟨z,H3,I3.tok _,rz,q⟩
theorem vR (hu:X.A.units + 16 < cLine):OpR X (compareOp .In) (λy x H Q=>∃ d b k xs,x=.ref d/\y=.ref b/\dP a hd X.prog X.w X.K H d xs/\Den X.K H (.ref b) (a.toD k)/\Q (.bl (atKey xs k).isSome) H):=by
 intro pins s σ H x y v u Q I rx ry h
 obtain ⟨d,b,k,xs,rfl,rfl,D,g,q⟩:=h
 cases rx
 cases ry
 obtain ⟨hd',dd⟩:=iZ I D
 exact wpAny_in_heap (show X.A.units + 1 + 8 < cLine by omega) (key_is I g) hd' dd ⟨.bl _,H,I.tok _,rfl,q⟩
theorem tQ (hu:X.A.units + 16 < cLine):OpR X (compareOp .NotIn) (λy x H Q=>∃ d b k xs,x=.ref d/\y=.ref b/\dP a hd X.prog X.w X.K H d xs/\Den X.K H (.ref b) (a.toD k)/\Q (.bl (!(atKey xs k).isSome)) H):=by
 intro pins s σ H x y v u Q I rx ry h
 obtain ⟨d,b,k,xs,rfl,rfl,D,g,q⟩:=h
 cases rx
 cases ry
 obtain ⟨hd',dd⟩:=iZ I D
 exact wpAny_notIn_heap (show X.A.units + 1 + 8 < cLine by omega) (key_is I g) hd' dd ⟨.bl _,H,I.tok _,rfl,q⟩
noncomputable def xb (a:KD K) (hd:a.dep<=7) (P:Program) (w:World) (F:PySem.W.Frag) (tk tv:TE):TE:=λσ H Q=>∀ p,H p=none->tk σ (upd H p (dNk a hd P w p [])) λy H1=>tv σ H1 λv H2=>∃ b k,y=.ref b/\H2 p=some (dNk a hd P w p [])/\Den F H2 (.ref b) (a.toD k)/\∀ u,RelV v u->Q (.ref p) (upd H2 p (dNk a hd P w p (storedH [] k b u)))
theorem tV (hu:X.A.units + 16 < cLine) (hk:PE X e tk) (hv:PE X f tv):PE X (.Dict [some e] [f] pos) (xb a hd X.prog X.w X.K tk tv):=λpins s σ H Q I h=>by
 refine wpAny_Dict_any rfl rfl (by simp) (show 1<=15 by decide) (pairTrees_cons_walk ?_)
 have I0:=I.laid (a:=s.heap.objs.size) (o:=dNk a hd X.prog X.w s.heap.objs.size []) (t':=s.toks) (h':=s.heap.push { cls:=.type "dict",data:=.dict #[] }) (λ_ _ q=>Heap.get?_push_of_some _ q) (Nat.le_refl _)
   ⟨⟨beq_eq_false_iff_ne.mpr (Ne.symm (Nat.ne_of_lt I.big)),_,#[],0,Heap.get?_push_size _ rfl,⟨rfl,rfl,rfl⟩,rfl,rfl,List.nodup_nil⟩,⟨_,Heap.get?_push_size _ rfl⟩,λa1 a2 ⟨z0,o,es,ep,z1,z2⟩ hk=>⟨z0,o,es,ep,hk o z1,z2⟩⟩
 refine thn (hk _ _ σ _ _ I0 (h _ (I.hok.fresh (Nat.le_refl _)))) λkv s1 ⟨y,H1,I1,ry,q1⟩=>thn (hv _ s1 σ H1 _ I1 q1) λvv s2 ⟨v,H2,I2,rv,b,k,ey,hp,g,q2⟩=>pairTrees_nil_walk ?_
 subst ey
 obtain rfl:kv=Value.ref b:=ry
 have D:dP a hd X.prog X.w X.K H2 s.heap.objs.size []:=⟨hp,λ_ z=>nomatch z⟩
 obtain ⟨hd',dd⟩:=iZ I2 D
 unfold storeAll
 rw [List.forIn_cons]
 refine wpAny_bind (wpAny_bind (wpAny_dictSet_heap (hsz:=Nat.zero_le _) (show X.A.units + 8 < cLine by omega) (key_is I2 g) dd λh' dd' hs=>wpAny_pure ?_))
 dsimp only
 rw [List.forIn_nil]
 refine wpAny_pure ?_
 obtain ⟨q,es,ep,hq,h2,h3,h4,_,h5⟩:=dd'
 refine ⟨.ref s.heap.objs.size,_,oG (ob:=dNk a hd X.prog X.w s.heap.objs.size (storedH [] k b vv)) I2 (by rw [hp]; exact True.intro) hs ⟨q,hq⟩ ⟨⟨hd',q,es,ep,hq,h2,h3,h4,h5⟩,⟨q,hq⟩,λa1 a2 ⟨z0,o,es,ep,z1,z2⟩ hk=>⟨z0,o,es,ep,hk o z1,z2⟩⟩,rfl,q2 vv rv⟩
end
end Ev
namespace Hy
open PySem PySem.Spec PyProof.Rows L2
open Ev (D Den ar KD NEs dNk dP Bx aq ky qT tV vR tQ)
section
variable {K:Type} [DecidableEq K] {a:KD K} {hd:a.dep<=7} {X:Cx} {C:Bool} {τ:List Sl} {x y:D} {b e f o ix:Expr} {pos p q apos cpos:Pos} {k:Nat} {N:Po} {rest:List Stmt} {m:List (K × D)} {key:K}
end
end Hy
namespace Ev
open PySem PySem.Spec PyProof.Rows L2
open PySem.Builtin.Range (rangeFitsLong rangeSize)
noncomputable def fM (n:Int):Obj:={ cls:=.type "range_iterator",data:=.fields #[rawInt (0 + (rangeSize 0 n 1 - 1) * 1),rawInt (rangeSize 0 n 1),rawInt (-1)] }
theorem fits_of {i:Int} (h1:-(2 ^ 62)<=i) (h2:i<=2 ^ 62):rangeFitsLong i=true:=by
 unfold rangeFitsLong
 rw [Bool.and_eq_true,decide_eq_true_iff,decide_eq_true_iff]
 omega
theorem qZ {n:Int} (h:0<=n):rangeSize 0 n 1=n:=by
 rw [rangeSize_one]
 split <;> omega
theorem wy {n:Int} (h0:0<=n) (h1:n < 2 ^ 62):(rangeFitsLong 0 && rangeFitsLong n && rangeFitsLong 1 && rangeFitsLong (-1) && rangeFitsLong (0 - 1) && rangeFitsLong (rangeSize 0 n 1))=true:=by
 rw [qZ h0,fits_of (i:=n) (by omega) (by omega)]
 decide
theorem pK (r:Addr) (n:Int) (t u v:Tok) (hs:(rangeFitsLong 0 && rangeFitsLong n && rangeFitsLong 1 && rangeFitsLong (-1) && rangeFitsLong (0 - 1) && rangeFitsLong (rangeSize 0 n 1))=true) :
   Meets (Builtin.«range.__reversed__» ⟨[.ref r],[]⟩) (λ_ R s=>IsRange s.heap r 0 n 1 t u v/\R (.ok (.ret (Value.ref s.heap.objs.size))) { s with heap:=s.heap.push (fM n),toks:=s.toks }):=
 .of_wp λprog w A R s h=>by
   obtain ⟨hp,g,d,tk,os⟩:=s
   obtain ⟨hl,h⟩:=h
   have hs':(!(rangeFitsLong 0 && rangeFitsLong n && rangeFitsLong 1 && rangeFitsLong (-1) && rangeFitsLong (0 - 1) && rangeFitsLong (rangeSize 0 n 1)))=false:=by rw [hs]; rfl
   wp_walk
   rw [if_neg (by rw [hs]; decide),if_pos hs]
   exact wpAny_bind (wpAny_newObj_type (wpAny_pure ⟨_,rfl,h⟩))
section
variable {prog:Program} {w:World} {A:Around} {E:Value->Shared->Prop} {s:Shared}
theorem ij {r:Addr} {n:Int} {t u v:Tok} {Q:Value->Shared->Prop} (hr:IsRange s.heap r 0 n 1 t u v) (h0:0<=n) (h1:n < 2 ^ 62)
   (h:Q (.ref s.heap.objs.size) { s with heap:=s.heap.push (fM n) }):wpAny (model prog w) A (call (.builtin "range.__reversed__") [.ref r]) Q E s:=
 call_meets F.slot_range_reversed ⟨_,hr,rfl⟩ F.entry_range_reversed (F.args_range_reversed_1 _) (pK r n t u v (wy h0 h1)) ⟨hr,h⟩
theorem kN {r:Addr} {n:Int} {t u v:Tok} {Q₁:Value->Shared->Prop} (hr:IsRange s.heap r 0 n 1 t u v) (h0:0<=n) (h1:n < 2 ^ 62)
   (h:Q₁ (.ref s.heap.objs.size) { s with heap:=s.heap.push (fM n) }) :
   codeAny (model prog w) A (.call (.builtin "reversed.__new__") ⟨[.type "reversed",.ref r],[]⟩) (wants Q₁ E) s:=by
 have hT:s.TypeIs (.ref r) "range":=⟨_,hr,rfl⟩
 refine codeAny_of_tree ?_
 refine wpAny_bind (wpAny_of_eq (F.newCall_reversed_1 _) (wpAny_pure ⟨plainId_quiet F.plain_reversed_new _,codeAny_builtin F.entry_reversed_new ?_⟩))
 rw [Around.under_plainId F.plain_reversed_new _]
 unfold Builtin.«reversed.__new__»
 refine wpAny_bind (wpAny_of_eq (newClass_reversed _) ?_)
 try dsimp only
 refine wpAny_bind (wpAny_of_eq (a:=()) (by first | rfl | kernel_rfl) ?_)
 refine wpAny_bind (wpAny_of_eq (a:=()) (by first | rfl | kernel_rfl) ?_)
 try dsimp only
 refine wpAny_bind (wpAny_specialOf hT F.slot_range_reversed.lookup ?_)
 try dsimp only
 refine wpAny_bind (wpAny_of_eq (F.slot_range_reversed.bind _) ?_)
 try dsimp only
 first
 | rw [if_neg (show ¬ ((Value.builtin "range.__reversed__" == Value.none)=true) from Bool.false_ne_true)]
 | (show wpAny _ _ (if (Value.builtin "range.__reversed__" == Value.none)=true then _ else _) _ _ _; rw [if_neg (show ¬ ((Value.builtin "range.__reversed__" == Value.none)=true) from Bool.false_ne_true)])
 refine wpAny_bind (wpAny_rule ?_)
 refine wpAny_bind (m:=runValue (.call (.builtin "range.__reversed__") ⟨[.ref r],[]⟩)) (show wpAny _ _ (call (.builtin "range.__reversed__") [.ref r]) _ _ _ from ij hr h0 h1 ?_)
 first
 | exact wpAny_pure h
 | exact wpAny_bind (wpAny_pure (wpAny_pure h))
theorem gR:isSubtype (.type "range_iterator") (.type "reversed")=pure false:=by rw [isSubtype_type]; kernel_rfl
theorem iO {r:Addr} {n:Int} {t u v:Tok} {Q:Value->Shared->Prop} (hr:IsRange s.heap r 0 n 1 t u v) (h0:0<=n) (h1:n < 2 ^ 62)
   (h:Q (.ref s.heap.objs.size) { s with heap:=s.heap.push (fM n) }):wpAny (model prog w) A (call (.type "reversed") [.ref r]) Q E s:=by
 refine callType_other (U:="range_iterator") (Q₁:=λobj s₁=>obj=.ref s.heap.objs.size/\s₁={ s with heap:=s.heap.push (fM n) }) (by decide +kernel) F.create_reversed ⟨_,_,F.mro_reversed⟩ F.made_reversed gR (F.typeCall_reversed_1 _) (kN hr h0 h1 ⟨rfl,rfl⟩) ?_
 rintro obj s₁ ⟨rfl,rfl⟩
 exact ⟨⟨_,Heap.get?_push_size _ rfl,rfl⟩,h⟩
end
noncomputable def Itd (n:Nat):L2.It:=⟨λi _=>i < n,λi H x H'=>H'=H/\x=.int ((n:Int) - 1 - i),λi _=>n<=i⟩
theorem sV {P:Program} {w:World} {K:PySem.W.Frag} {tg:Expr} (it:Addr) (n:Nat):Turn P w K false tg (Itd n) [it] it (λi h=>i<=n/\IsRangeIter h it ((n:Int) - 1 + (i:Nat) * (-1)) ((n:Int) - (i:Nat)) (-1)) where
 mem:=by simp
 obj:=λi h st b hb=>by
   have e:b=it:=by simpa using hb
   subst e
   exact ⟨_,st.2,λv z=>by
     have z':Data.fields _=Data.cell v:=z
     cases z'⟩
 keep:=λi h h' st k=>⟨st.1,k it (by simp) _ st.2⟩
 item:=by
   intro X hP hw hK hc i pins s σ H E I hf st hg
   subst hP hw hK
   obtain ⟨f0,f1,f2,f3,f4,f5⟩:=hf it (by simp)
   have W:=Walks.range (prog:=X.prog) (w:=X.w) (I.ok.hd hc.calm) it ((n:Int) - 1) (-1) n
   refine W.item i s _ _ hg st.2 λv h' tk hv st' kk=>?_
   obtain ⟨t,rfl⟩:=hv
   have I1:Inv X pins σ H { s with heap:=h',toks:=tk }:=I.turned (λb o hb e=>kk b o (by simpa using hb) e) f0 f1 f3 f4 f5
   refine ⟨_,rfl,jw (s:={ s with heap:=h',toks:=tk }) (n:="range_iterator") st' rfl rfl (by decide) ⟨.int ((n:Int) - 1 - i),H,I1,⟨t,?_⟩,⟨rfl,rfl⟩,⟨hg,st'⟩,λb hb=>(hf b hb).1⟩⟩
   rw [Int.mul_neg,Int.mul_one,<- Int.sub_eq_add_neg]
 done:=by
   intro X hP hw hK hc i pins s σ H E I hf st hg
   subst hP hw hK
   obtain ⟨f0,f1,f2,f3,f4,f5⟩:=hf it (by simp)
   have hg:n<=i:=hg
   obtain rfl:i=n:=Nat.le_antisymm st.1 hg
   have W:=Walks.range (prog:=X.prog) (w:=X.w) (I.ok.hd hc.calm) it ((i:Int) - 1) (-1) i
   exact W.done s _ _ st.2 λh' tk kk=>⟨rfl,I.turned (λb o hb e=>kk b o (by simpa using hb) e) f0 f1 f3 f4 f5⟩
 self:=λ_ _ _ _ _ st h=>wpAny_pyIter_rangeiter st.2 h
section
variable {X:Cx} {tg:Expr}
noncomputable def iDn (ta:TA):TI:=λσ H R=>ta σ H λvs H1=>∃ n:Nat,vs=[.int n]/\n < 1000/\R (Itd n) H1
theorem xE {a:Expr} {ta:TA} {p p' pos pos':Pos} (hc:X.calm=true) (hg:Gl X "reversed") (hm:X.mg "reversed" = none) (hg':Gl X "range") (hm':X.mg "range" = none) (ha:PA X [a] ta) (hs':starEach [a] X.env=[(false,eval a X.env)]:=by rfl)
   (hs:starEach [.Call (.Name "range" p') [a] [] pos'] X.env=[(false,eval (.Call (.Name "range" p') [a] [] pos') X.env)]:=by rfl):PI X tg (.Call (.Name "reversed" p) [.Call (.Name "range" p') [a] [] pos'] [] pos) (iDn ta):=by
 intro pins s σ H R I h
 refine Call_ (cu I hg hm hJ (PyProof.Rows.callWith_type1 ?_ hs rfl))
 rw [hs]
 refine Calls.spliced_cons (Call_ (cu I hg' hm' boot_range (PyProof.Rows.callWith_type1 (thn (ha pos' pins s σ H _ I h) λus s1 ⟨vs,H1,I1,r1,n,e,hn,q⟩=>?_) hs' rfl)))
 subst e
 cases r1 with
 | cons r rr=>
   cases rr
   obtain ⟨t,rfl⟩:=r
   refine call_range_1 (Calls.spliced_nil ?_)
   have I2:Inv X pins σ H1 { s1 with heap:=s1.heap.push { cls:=.type "range",data:=.fields #[.int 0 s1.toks,.int n t,.int 1 (s1.toks + 1)] },toks:=s1.toks + 1 + 1 }:=I1.kept λb o e=>Heap.get?_push_of_some _ e
   refine iO (IsRange.new ..) (by omega) (by omega) ?_
   have z:rangeSize 0 (n:Int) 1=n:=qZ (by omega)
   have st:(Heap.push (s1.heap.push { cls:=.type "range",data:=.fields #[.int 0 s1.toks,.int n t,.int 1 (s1.toks + 1)] }) (fM n)).get? (s1.heap.push { cls:=.type "range",data:=.fields #[.int 0 s1.toks,.int n t,.int 1 (s1.toks + 1)] }).objs.size=some (fM n):=Heap.get?_push_size _ rfl
   have st':IsRangeIter (Heap.push (s1.heap.push { cls:=.type "range",data:=.fields #[.int 0 s1.toks,.int n t,.int 1 (s1.toks + 1)] }) (fM n)) (s1.heap.push { cls:=.type "range",data:=.fields #[.int 0 s1.toks,.int n t,.int 1 (s1.toks + 1)] }).objs.size ((n:Int) - 1 + ((0:Nat):Int) * (-1)) ((n:Int) - ((0:Nat):Int)) (-1):=by
     unfold IsRangeIter
     rw [st,fM,z]
     congr 6
     all_goals (simp)
   refine wpAny_pyIter_rangeiter (x:=(n:Int) - 1 + ((0:Nat):Int) * (-1)) (left:=(n:Int) - ((0:Nat):Int)) (step:=-1) st' ?_
   refine ⟨false,_,[(s1.heap.push { cls:=.type "range",data:=.fields #[.int 0 s1.toks,.int n t,.int 1 (s1.toks + 1)] }).objs.size],_,_,H1,rfl,I2.kept (t':=s1.toks + 1 + 1) λb o e=>Heap.get?_push_of_some _ e,.inl hc,sV _ n,⟨Nat.zero_le _,st'⟩,λb hb=>?_,q⟩
   have e:b=(s1.heap.push { cls:=.type "range",data:=.fields #[.int 0 s1.toks,.int n t,.int 1 (s1.toks + 1)] }).objs.size:=by simpa using hb
   subst e
   exact I2.jg (Nat.le_refl _) (I2.hok.fresh (Nat.le_refl _))
end
end Ev
namespace Ev
open PySem PySem.Spec PyProof.Rows L2
noncomputable def eo (kv:List (Int × Int)):List (Key × V):=kv.map λp=>(.inl p.1,.int p.2)
noncomputable def Itk (a:Addr) (o:Obj) (kv:List (Int × Int)):L2.It:=
 ⟨λi H=>i < kv.length/\H a=some (.frz o (.dK (eo kv))),λi H x H'=>H'=H/\∃ p,kv[i]?=some p/\x=.int p.1,λi H=>kv.length<=i/\H a=some (.frz o (.dK (eo kv)))⟩
theorem qW {X:Cx} {pins:List (Addr × Obj)} {σ:L2.St} {H:Hp} {s:Shared} {a:Addr} {o:Obj} {kvs:List (Key × V)} {es:Array DictEntry} {ep:Nat} (I:Inv X pins σ H s) (h:H a=some (.frz o (.dK kvs))) (hd:o.data=.dict es ep) :
   ∃ vs,KV kvs vs/\s.heap.DictAt (fV X.prog X.w) a vs ep:=by
 obtain ⟨e,_,_,vs,rel,o',es',ep',e',r⟩:=(show bJ X.prog X.w H s.heap a (.frz o (.dK kvs)) from I.hok a _ h)
 rw [e] at e'; cases e'
 have z:=r.2.1
 rw [hd] at z
 injection z with z1 z2
 subst z1 z2
 exact ⟨vs,rel,o,es,e,r⟩
theorem oQ {P:Program} {w:World} {K:PySem.W.Frag} {tg:Expr} (a it:Addr) (o:Obj) (kv:List (Int × Int)) (es:Array DictEntry) (ep:Nat) (hd:o.data=.dict es ep) :
   Turn P w K false tg (Itk a o kv) [it] it (λi h=>i<=kv.length/\h.IsKeyIter it a i kv.length ep) where
 mem:=by simp
 obj:=λi h st b hb=>by
   have e:b=it:=by simpa using hb
   subst e
   obtain ⟨o,e,c,d⟩:=st.2
   exact ⟨o,e,λv z=>by rw [d] at z; cases z⟩
 keep:=λi h h' st k=>⟨st.1,st.2.at λo e=>k it (by simp) o e⟩
 item:=by
   intro X hP hw hK hc i pins s σ H E I hf st hg
   subst hP hw hK
   obtain ⟨hi,ha⟩:=hg
   obtain ⟨f0,f1,f2,f3,f4,f5⟩:=hf it (by simp)
   obtain ⟨vs,rel,dd⟩:=qW I ha hd
   have hl:kv.length=vs.length:=by rw [<- rel.length,eo,List.length_map]
   have st2:=st.2
   rw [hl] at st2
   have hx:vs[i]?=some vs[i]:=by simp [show i < vs.length by omega]
   have kk:=congrArg (λl=>l[i]?) rel.keys
   simp only [eo,List.map_map,List.getElem?_map,hx,List.getElem?_eq_getElem hi,Option.map_some,Function.comp] at kk
   have kk:=Option.some.inj kk
   refine wpAny_pyNext_dict_item st2 dd hx λkey h' hk st' sb=>?_
   have hk:(fV X.prog X.w).is (Sum.inl kv[i].fst) key=true:=by rw [kk]; exact hk
   obtain ⟨t,rfl⟩:=Value.isInt_shape (show Value.isInt _ key=true from hk)
   have I1:Inv X pins σ H { s with heap:=h' }:=I.turned (t':=s.toks) (λb o hb e=>(sb.2 b hb).trans e) f0 f1 f3 f4 f5
   obtain ⟨o',e,c,d⟩:=id st'
   refine ⟨_,rfl,jw (s:={ s with heap:=h' }) e c d (by decide) ⟨.int kv[i].1,H,I1,⟨t,rfl⟩,⟨rfl,_,List.getElem?_eq_getElem hi,rfl⟩,⟨hi,by rw [hl]; exact st'⟩,λb hb=>(hf b hb).1⟩⟩
 done:=by
   intro X hP hw hK hc i pins s σ H E I hf st hg
   subst hP hw hK
   obtain ⟨hi,ha⟩:=hg
   obtain ⟨f0,f1,f2,f3,f4,f5⟩:=hf it (by simp)
   obtain ⟨vs,rel,dd⟩:=qW I ha hd
   have hl:kv.length=vs.length:=by rw [<- rel.length,eo,List.length_map]
   have st2:=st.2
   rw [hl] at st2
   exact wpAny_pyNext_dict_end (I.ok.hd hc.calm) st2 dd (List.getElem?_eq_none (by omega)) λh' eb=>⟨rfl,I.turned (t':=s.toks) (λb o hb e=>eb b o hb e) f0 f1 f3 f4 f5⟩
 self:=λ_ _ _ _ _ st h=>wpAny_pyIter_keyiter st.2 h
section
variable {X:Cx} {tg:Expr}
noncomputable def qo (tl:TE):TI:=λσ H R=>tl σ H λx H1=>∃ a o kv,x=.ref a/\H1 a=some (.frz o (.dK (eo kv)))/\R (Itk a o kv) H1
theorem rG {l:Expr} {tl:TE} (hc:X.calm=true) (hl:PE X l tl):PI X tg l (qo tl):=by
 intro pins s σ H R I h
 refine thn (hl pins s σ H _ I h) λu s1 ⟨x,H1,I1,r1,a,o,kv,ex,ha,q⟩=>?_
 subst ex
 cases r1
 obtain ⟨e,ok⟩:=(show bJ X.prog X.w H1 s1.heap a (.frz o (.dK (eo kv))) from I1.hok a _ ha)
 obtain ⟨z,hd,vs,rel,o',es,ep,e',r⟩:=ok
 rw [e] at e'
 cases e'
 refine wpAny_pyIter_dict hd (show s1.heap.DictAt (fV X.prog X.w) a vs ep from ⟨o,es,e,r⟩) ?_
 have hv:vs.length=kv.length:=by rw [<- rel.length,eo,List.length_map]
 refine ⟨false,s1.heap.objs.size,[s1.heap.objs.size],_,_,H1,rfl,I1.kept (t':=s1.toks) λb o e=>Heap.get?_push_of_some _ e,.inl hc,oQ a _ o kv es ep r.2.1,⟨Nat.zero_le _,?_⟩,λb hb=>?_,q⟩
 · rw [<- hv]
   exact ⟨_,Heap.get?_push_size _ rfl,rfl,rfl⟩
 · have e:b=s1.heap.objs.size:=by simpa using hb
   subst e
   exact I1.jg (Nat.le_refl _) (I1.hok.fresh (Nat.le_refl _))
end
end Ev
namespace Hy
open PySem PySem.Spec PyProof.Rows L2
open Ev (D Den ar Bx aq eo Itk qo rG Itd iDn xE)
noncomputable def ig (kv:List (Int × Int)) (k v:Int):List (Int × Int):=
 if (kv.any λp=>decide (p.1=k))=true then kv.map (λp=>if p.1=k then (p.1,v) else p) else kv++[(k,v)]
noncomputable def cT (kv:List (Int × Int)) (k:Int):Option Int:=(kv.find? λp=>decide (p.1=k)).map (·.2)
theorem tm (kv:List (Int × Int)) (k:Int):((eo kv).any λp=>decide (p.1=.inl k))=kv.any λp=>decide (p.1=k):=by
 unfold eo
 rw [List.any_map]
 congr 1
 funext p
 simp
theorem tH (kv:List (Int × Int)) (k v:Int):putK (eo kv) (.inl k) (.int v)=eo (ig kv k v):=by
 unfold putK ig
 rw [tm]
 by_cases h:(kv.any λp=>decide (p.1=k))=true
 · rw [if_pos h,if_pos h]
   unfold eo
   rw [List.map_map,List.map_map]
   refine List.map_congr_left λp _=>?_
   simp only [Function.comp]
   by_cases z:p.1=k
   · rw [if_pos (congrArg Sum.inl z),if_pos z]
   · rw [if_neg (λy=>z (Sum.inl.inj y)),if_neg z]
 · rw [if_neg h,if_neg h]
   unfold eo
   rw [List.map_append]
   rfl
theorem kf:∀ (kv:List (Int × Int)) (k:Int),di (eo kv) (.inl k)=(cT kv k).map V.int
 | [],_=>rfl
 | p :: r,k=>by
   unfold cT
   by_cases z:p.1=k
   · rw [List.find?_cons_of_pos (by simp [z])]
     exact br (p:=(Sum.inl p.1,V.int p.2)) (congrArg Sum.inl z)
   · rw [List.find?_cons_of_neg (by simp [z])]
     exact (bu (p:=(Sum.inl p.1,V.int p.2)) (λy=>z (Sum.inl.inj y))).trans (kf r k)
section
variable {K:PySem.W.Frag} {A:Addr->Prop} {H₀ H:Hp} {τ:List Sl} {B:Nat->List Addr} {σ:L2.St} {m:List (Int × Int)} {i:Nat}
end
section
variable {X:Cx} {C:Bool} {τ:List Sl} {x y:D} {a b e f o ix tg:Expr} {pos p q apos cpos sp:Pos} {k:Nat} {N:Po} {rest:List Stmt} {m:List (Int × Int)} {key v n:Int}
end
end Hy
namespace Hy
open PySem PySem.Spec PyProof.Rows L2
open Ev (D Den ar aq aE fT dN PTs cL ee)
section
variable {X:Cx}
end
section
variable {X:Cx} {C:Bool} {τ:List Sl} {e it:Expr} {pos p q p2 pos2 tp ip vp rp ap cp p1:Pos} {k:Nat} {N:Po} {rest:List Stmt} {scope:Scope}
theorem rD {α β:Type} (g:α->β):∀ (xs:List α) (i:Nat),(xs.eraseIdx i).map g=(xs.map g).eraseIdx i
 | [],_=>rfl
 | _ :: _,0=>rfl
 | x :: xs,i + 1=>by rw [List.map_cons,List.eraseIdx_cons_succ,List.eraseIdx_cons_succ,List.map_cons,rD g xs i]
end
end Hy
namespace Hy
open PySem PySem.Spec PyProof.Rows L2
open Ev (D Den ar aq)
theorem jC {K:PySem.W.Frag} {H:Hp}:∀ {vs:List V} {ds:List D} (j:Nat),ar K H vs ds->ar K H (vs.eraseIdx j) (ds.eraseIdx j)
 | _,_,_,.nil=>.nil
 | _,_,0,.cons _ r=>r
 | _,_,j + 1,.cons h r=>.cons h (jC j r)
theorem oj {K:PySem.W.Frag} {H:Hp} {v:V} {x:D} (h:Den K H v x):∀ {vs:List V} {ds:List D} (j:Nat),ar K H vs ds->ar K H (vs.insertIdx j v) (ds.insertIdx j x)
 | _,_,0,r=>.cons h r
 | _,_,_ + 1,.nil=>.nil
 | _,_,j + 1,.cons h1 r=>.cons h1 (oj h j r)
section
variable {X:Cx} {τ:List Sl} {a b:Expr} {pos p q:Pos} {N:Po} {rest:List Stmt}
theorem xH (i:Nat) {n:Str} {xs:List D} {ap cp ap2 cp2:Pos} {k j:Nat} (x:D) (ha:PE X a (dE X.K false τ (.d (.int (k:Nat))))) (hb:PE X b (dE X.K false τ (.d (.int (j:Nat))))) (hj:xs[j]?=some x) (hk:k < xs.length) (hl:xs.length < 1000000) (hr:PSs X rest (dS X.K (τ.set i (.o ((xs.eraseIdx j).insertIdx k x))) N)) (hi:τ[i]?=some (.o xs):=by rfl) (hN:X.N[i]?=some n:=by rfl)
   (hv:Vis X.env.scope n:=by first | exact Or.inl rfl | exact Or.inr (Or.inl rfl) | exact Or.inr (Or.inr rfl)) (hd:(n == ("__debug__" : Str))=false:=by decide) (hcd:(n == ("__classdict__" : Str))=false:=by decide)
   (hfew:((backTo cp (starEach [a,.Call (.Attribute (.Name n q) "pop" ap2) [b] [] cp2] X.env)).all (λx=>!x.1) && (backToKw cp (keywordEach [] X.env)).all (λx=>x.1.isSome) && decide (([a,.Call (.Attribute (.Name n q) "pop" ap2) [b] [] cp2]:List Expr).length + ([]:List Keyword).length + (if ([]:List Keyword).isEmpty then 0 else 1) < 30))=true:=by rfl)
   (hline:(ap.endLine == cp.line)=true:=by rfl) (hst:starEach [a,.Call (.Attribute (.Name n q) "pop" ap2) [b] [] cp2] X.env=(false,eval a X.env) :: starEach [.Call (.Attribute (.Name n q) "pop" ap2) [b] [] cp2] X.env:=by rfl)
   (hst2:starEach [.Call (.Attribute (.Name n q) "pop" ap2) [b] [] cp2] X.env=(false,eval (.Call (.Attribute (.Name n q) "pop" ap2) [b] [] cp2) X.env) :: starEach [] X.env:=by rfl) (hpl:(backTo cp (starEach [.Call (.Attribute (.Name n q) "pop" ap2) [b] [] cp2] X.env)).any (·.1)=false:=by rfl)
   (hs:swapsWith (.Call (.Attribute (.Name n p) "insert" ap) [a,.Call (.Attribute (.Name n q) "pop" ap2) [b] [] cp2] [] cp) none pos.line X.env=pure false:=by rfl) (hbase:attributeBase (.Name n p) "insert" X.env (eval (.Name n p) X.env)=eval (.Name n p) X.env:=by rfl)
   (hfew2:((backTo cp2 (starEach [b] X.env)).all (λx=>!x.1) && (backToKw cp2 (keywordEach [] X.env)).all (λx=>x.1.isSome) && decide (([b]:List Expr).length + ([]:List Keyword).length + (if ([]:List Keyword).isEmpty then 0 else 1) < 30))=true:=by rfl) (hline2:(ap2.endLine == cp2.line)=true:=by rfl)
   (hst3:starEach [b] X.env=(false,eval b X.env) :: starEach [] X.env:=by rfl) (hpl2:(backTo cp2 (starEach [] X.env)).any (·.1)=false:=by rfl) (hbase2:attributeBase (.Name n q) "pop" X.env (eval (.Name n q) X.env)=eval (.Name n q) X.env:=by rfl) :
   PSs X (.Expr (.Call (.Attribute (.Name n p) "insert" ap) [a,.Call (.Attribute (.Name n q) "pop" ap2) [b] [] cp2] [] cp) pos :: rest) (dS X.K τ N):=
 bj (M:=(·=τ.set i (.o ((xs.eraseIdx j).insertIdx k x)))) (psW (g9 (qy PySem.F.plainAttrs_list PySem.F.slot_list_insert PySem.F.type_list_insert pC (dr hN hv hd hcd)
     (bO ha (bO (qy PySem.F.plainAttrs_list PySem.F.slot_list_pop PySem.F.type_list_pop rg (dr hN hv hd hcd) (bO hb er hst3) hbase2 hfew2 hline2 hst3 hpl2) er hst2) hst) hbase hfew hline hst hpl) hs) λDn σ H ⟨A,H₀,B,S,Me⟩=>by
   obtain ⟨l,vs,hbb,e1,e2,d⟩:=S.sl i _ hi
   have hjl:j < xs.length:=(List.getElem?_eq_some_iff.mp hj).1
   refine ⟨_,slot_of e1,.inl ⟨rfl,_,SqL.of e2⟩,bg S λw1 H1 f1 g1=>?_⟩
   cases g1
   have S1:=S.mono f1
   refine ⟨_,slot_of e1,.inl ⟨rfl,_,SqL.of (f1 _ _ e2)⟩,bg S1 λw2 H2 f2 g2=>?_⟩
   cases g2
   have S2:=S1.mono f2
   obtain ⟨l',vs',hb',e1',e2',d'⟩:=S2.sl i _ hi
   rw [e1] at e1'
   cases e1'
   have hln:=d'.length
   obtain ⟨v,hv1,dv⟩:=d'.get hj
   refine ⟨l,vs',(j:Int),j,v,rfl,rfl,e2',by omega,by omega,PySem.StrLaws.seqIndex_nonneg (by omega) (by omega),hv1,?_⟩
   have hel:(vs'.eraseIdx j).length=xs.length - 1:=by rw [List.length_eraseIdx_of_lt (by omega),hln]
   refine ⟨l,vs'.eraseIdx j,(k:Int),v,rfl,rfl,aX,by omega,by rw [Int.toNat_natCast]; omega,by rw [hel]; have:sizeLine > 1000000:=(by decide); omega,?_⟩
   rw [Int.toNat_natCast]
   have eu:upd (upd H2 l (.lst (vs'.eraseIdx j))) l (.lst ((vs'.eraseIdx j).insertIdx k v))=upd H2 l (.lst ((vs'.eraseIdx j).insertIdx k v)):=by
     funext z
     unfold upd
     split <;> rfl
   rw [eu]
   exact Me.nx _ _ _ _ rfl (S2.put hi hb' (oj dv k (jC j d')))) λ_ e=>e ▸ hr
end
section
variable {X:Cx}
end
end Hy
namespace PySem
set_option maxRecDepth 100000
theorem F.qC:typeLookup (.type "list_reverseiterator") "__len__" = pure none:=by rw [typeLookup_type,builtinLookup_eq_fast]; kernel_rfl
theorem F.tG:typeLookup (.type "list_reverseiterator") "__length_hint__" = pure (some (.builtin "list_reverseiterator.__length_hint__")):=by rw [typeLookup_type,builtinLookup_eq_fast]; kernel_rfl
section
variable {prog:Program} {w:World} {A:Around} {E:Value->Shared->Prop} {s:Shared} {I l:Addr} {items:Array Value} {R:Result->Shared->Prop}
theorem rf (hh:A.handled=none) (hne:l ≠ I) (S:Addr) (hn:items.size<=sizeLine) (hit:s.heap.IsRevIter I l ((items.size:Int) - 1)) (hl:s.heap.IsList l items) (hSf:S ∉ [I,l])
   (hS:s.heap.get? S=some { cls:=.type "list",data:=.seq #[] })
   (hR:∀ s' acc' c',Moved (S :: [I]) (λa b=>b=a) s s'->s'.heap.get? S=some { cls:=.type "list",dict:=none,data:=.seq acc' c',slots:=#[] }->ItemsOf (λi v=>items[items.size - 1 - i]?=some v) acc' items.size->R (.ok (.ret .none)) s') :
   wpAny (model prog w) A.in1 (Builtin.«list.__init__» ⟨[.ref S,.ref I],[]⟩)
     (λfin s'=>match fin with | .done f=>R (.ok f) s' | .again c'=>c'.quiet=true/\codeAny (model prog w) A c' R s') (λe s'=>R (.error e) s') s:=by
 have W:=(Walks.listRev (prog:=prog) (w:=w) (A:=A.in1) hh I l hne items).toS
 have hSI:S ≠ I:=λe=>hSf (e ▸ List.mem_cons_self)
 show wpAny _ A.in1 (do let old <- Builtin.List.listItems (.ref S); Builtin.List.listUpdate (.ref S) (λ_=>#[]); letGo old.toList.reverse; Builtin.List.listExtendWith (.ref S) (.ref I) .none) _ _ s
 refine wpAny_bind ?_
 unfold Builtin.List.listItems
 refine wpAny_bind (wpAny_seqItems hS rfl (wpAny_pure ?_))
 show wpAny _ A.in1 (updateSeq S (λ_=>#[]) >>= λ_=>letGo (#[]:Array Value).toList.reverse >>= λ_=>Builtin.List.listExtendWith (.ref S) (.ref I) .none) _ _ s
 refine wpAny_bind (wpAny_updateSeq hS rfl ?_)
 have hS₂:=Heap.get?_update_self (Obj.mapSeq (λ_=>(#[]:Array Value))) hS rfl
 have oth:∀ b o,b ≠ S->s.heap.get? b=some o->(s.heap.update S (Obj.mapSeq (λ_=>(#[]:Array Value)))).get? b=some o:=
   λb o hb e=>(Heap.get?_update_other _ _ (Ne.symm hb)).trans e
 refine wpAny_bind (wpAny_letGo ?_)
 have hst₁:=W.frame 0 s _ s.toks ⟨Nat.zero_le _,by rw [show (items.size:Int) - 1 - ((0:Nat):Int)=(items.size:Int) - 1 by omega]; exact hit,hl⟩ (Nat.le_refl _) λb hb o e=>oth b o (λh=>hSf (h ▸ hb)) e
 have h1:Builtin.List.listSameRef (.ref S) (.ref I)=false:=by simp [Builtin.List.listSameRef,hSI]
 have h2:(Value.type "list_reverseiterator" == Value.type "list")=false:=by decide
 have h3:(Value.type "list_reverseiterator" == Value.type "tuple")=false:=by decide
 unfold Builtin.List.listExtendWith
 refine wpAny_bind (wpAny_typeOf hst₁.2.1.typeIs ?_)
 simp only [h1,h2,h3,Bool.or_false,Bool.false_eq_true,if_false]
 refine wpAny_bind (W.self 0 _ _ _ hst₁ ?_)
 refine wpAny_bind (wpAny_holding ?_)
 unfold Builtin.List.listLengthHint
 refine wpAny_bind (wpAny_specialOf hst₁.2.1.typeIs F.qC ?_)
 show wpAny _ A.in1 (specialOf (Value.ref I) (Str.ofString "__length_hint__") >>= _) _ _ _
 refine wpAny_bind (wpAny_specialOf hst₁.2.1.typeIs F.tG ?_)
 (generalize hid:("list_reverseiterator.__length_hint__" : String)=id0; (fail_if_success (clear hid id0)); wp_delta; rw [show splitId id0=some ("list_reverseiterator","__length_hint__") from by subst hid; decide +kernel]; subst hid)
 refine wpAny_bind (wpAny_isInstance (b:=true) hst₁.2.1.typeIs (by rw [isSubtype_type]; kernel_rfl) ?_)
 refine wpAny_pure ?_
 rw [if_neg (by decide)]
 refine wpAny_pure ⟨plainId_quiet F.plain_extend_loop _,codeAny_extend_loopS W hn _ hSf _ items.size 0 _ _ _ rfl (Nat.zero_le _) hst₁ hS₂ (ItemsOf.nil _) λs' acc' c' hm hS' hacc=>?_⟩
 exact hR s' acc' c' (Moved.trans (G:=λa b=>b=a) W.gtrans ((Moved.refl (wr:=S :: [I]) (G:=λa b=>b=a) W.grefl).then_heap (Nat.le_refl _) λb o hb e=>oth b o (λh=>hb (h ▸ List.mem_cons_self)) e) hm) hS' hacc
theorem je {Q:Value->Shared->Prop} (hh:A.handled=none) (hne:l ≠ I) (hn:items.size<=sizeLine) (hit:s.heap.IsRevIter I l ((items.size:Int) - 1)) (hl:s.heap.IsList l items)
   (hQ:∀ h' tk acc' c',(∀ b o,b ≠ I->s.heap.get? b=some o->h'.get? b=some o) ->
     h'.get? s.heap.objs.size=some { cls:=.type "list",dict:=none,data:=.seq acc' c',slots:=#[] }->ItemsOf (λi v=>items[items.size - 1 - i]?=some v) acc' items.size->Q (.ref s.heap.objs.size) { s with heap:=h',toks:=tk }) :
   wpAny (model prog w) A (call (.type "list") [.ref I]) Q E s:=by
 have hSf:s.heap.objs.size ∉ [I,l]:=λhm=>by
   obtain ⟨o,ho,_⟩:=hit
   obtain ⟨o2,ho2,_⟩:=hl
   have h1:=Heap.lt_size ho
   have h2:=Heap.lt_size ho2
   rcases List.mem_cons.mp hm with e | hm
   · rw [<- e] at h1; exact Nat.lt_irrefl _ h1
   · rw [<- List.mem_singleton.mp hm] at h2; exact Nat.lt_irrefl _ h2
 refine callType_codes (Q₁:=λobj s₁=>obj=.ref s.heap.objs.size/\s₁={ s with heap:=s.heap.push { cls:=.type "list",data:=.seq #[] } }) F.called_list (F.typeCall_list_1 _) F.entry_list_init
   (code_list_new _ ⟨rfl,rfl⟩) λobj s₁ h₁=>?_
 obtain ⟨rfl,rfl⟩:=h₁
 have hS:(s.heap.push { cls:=.type "list",data:=.seq #[] }).get? s.heap.objs.size=some { cls:=.type "list",data:=.seq #[] }:=Heap.get?_push_size _ rfl
 refine ⟨⟨_,hS,rfl⟩,F.args_list_init_2 _ _,rf (A:=A.in1) hh hne _ hn (hit.at λo e=>Heap.get?_push_of_some _ e) (hl.at λo e=>Heap.get?_push_of_some _ e) hSf hS λs' acc' c' hm hS' hacc=>?_⟩
 obtain ⟨m1,m2,m3,m4,m5⟩:=hm
 have e:s'={ s with heap:=s'.heap,toks:=s'.toks }:=by
   obtain ⟨hp,g,d,tk,os⟩:=s'
   simp only at m2 m3 m4
   subst m2 m3 m4
   rfl
 rw [e]
 exact ⟨rfl,hQ s'.heap s'.toks acc' c' (λb o hb e=>m1 b o (λhm=>by
   rcases List.mem_cons.mp hm with rfl | hm
   · exact Nat.lt_irrefl _ (Heap.lt_size e)
   · exact hb (List.mem_singleton.mp hm)) (Heap.get?_push_of_some _ e)) hS' hacc⟩
end
end PySem
namespace Hy
open PySem PySem.Spec PyProof.Rows L2
open Ev (D Den ar aq)
section
variable {X:Cx}
theorem nk:∀ {vs:List V} {us:List Value},vs.length=us.length->(∀ (i:Nat) v u,vs[i]?=some v->us[i]?=some u->RelV v u)->Vals vs us
 | [],[],_,_=>.nil
 | v :: vs,u :: us,h,f=>.cons (f 0 v u rfl rfl) (nk (by simpa using h) λi v u hv hu=>f (i + 1) v u hv hu)
theorem sE (hc:X.calm=true) {pins:List (Addr × Obj)} {s:Shared} {σ:L2.St} {H:Hp} {us:List Value} {a:Addr} {xs:List V} {Q:VK} (I:Inv X pins σ H s) (r:Vals [.ref a] us) (hq:SqL X.K H a xs) (q:∀ p,H p=none->Q (.ref p) (upd H p (.lst xs.reverse))) :
   wpAny (model X.prog X.w) X.A (call (.type "reversed") us) (λv s2=>wpAny (model X.prog X.w) X.A (call (.type "list") [v]) (EP X pins σ Q) X.xe s2) X.xe s:=by
 obtain ⟨u,rfl,ru⟩:=vals1 r
 cases ru
 obtain ⟨its,rv,pl,hz⟩:=I.list hq
 have hln:=rv.length
 refine call_reversed_list pl.isList ?_
 have hlt:a < s.heap.objs.size:=by obtain ⟨o,ho,_⟩:=pl.isList; exact Heap.lt_size ho
 refine je (l:=a) (items:=its.toArray) (I.ok.hd hc) (Nat.ne_of_lt hlt) (by simp only [List.size_toArray]; omega) ⟨_,Heap.get?_push_size _ rfl,rfl,rfl⟩ (pl.isList.at λo e=>Heap.get?_push_of_some _ e) λh' tk acc c kp e' it=>?_
 obtain ⟨i1,i2⟩:=it
 have i1':acc.toList.length=its.length:=by simpa using i1
 have vv:Vals xs.reverse acc.toList:=nk (by rw [List.length_reverse,i1',hln]) λi v u hv hu=>by
   rw [Array.getElem?_toList] at hu
   have h1:=i2 i u hu
   have hi:i < xs.length:=by
     have:=(List.getElem?_eq_some_iff.mp hv).1
     rwa [List.length_reverse] at this
   rw [List.getElem?_reverse hi] at hv
   obtain ⟨u',hu',rr⟩:=rv.get hv
   have:its[xs.length - 1 - i]?=some u:=by
     rw [hln]
     simpa using h1
   rw [hu'] at this
   cases this
   exact rr
 have kp':∀ b o,s.heap.get? b=some o->h'.get? b=some o:=λb o e=>kp b o (λhb=>by
   rw [hb] at e
   exact Nat.lt_irrefl _ (Heap.lt_size e)) (Heap.get?_push_of_some _ e)
 have hs:s.heap.objs.size<=(s.heap.push (revObj a ((its.toArray.size:Int) - 1))).objs.size:=by
   simp [Heap.push]
 refine ⟨.ref _,upd H (s.heap.push (revObj a ((its.toArray.size:Int) - 1))).objs.size (.lst xs.reverse),I.laid (t':=tk) kp' hs (show bJ X.prog X.w _ h' _ (.lst xs.reverse) from ⟨by rw [List.length_reverse]; exact hz,acc.toList,c,vv,by rw [e']⟩),rfl,q _ (I.hok.fresh hs)⟩
theorem sh {t:TA} (hc:X.calm=true) (hm:X.mg "list" = none) (hm2:X.mg "reversed" = none) {p p2 pos pos2:Pos} {e:Expr} (hg:Gl X "list") (hg2:Gl X "reversed") (ha:PA X [e] t)
   (he:starEach [e] X.env=(false,eval e X.env) :: starEach [] X.env):PE X (.Call (.Name "list" p) [.Call (.Name "reversed" p2) [e] [] pos2] [] pos) (λσ H Q=>t σ H λvs H1=>∃ a xs,vs=[.ref a]/\SqL X.K H1 a xs/\∀ p,H1 p=none->Q (.ref p) (upd H1 p (.lst xs.reverse))):=by
 intro pins s σ H Q I h
 refine wpAny_Call_Name_kw (cu I hg hm (by decide +kernel:bootBuiltins "list" = some (.type "list")) ?_ (by decide) (by decide))
 refine PyProof.Rows.callWith_type1 ?_ rfl rfl
 refine Calls.spliced_cons ?_
 refine wpAny_Call_Name_kw (cu I hg2 hm2 Ev.hJ ?_ (by decide) (by decide))
 refine PyProof.Rows.callWith_type1 (thn (ha pos2 pins s σ H _ I h) λus s1 ⟨vs,H1,I1,r1,a,xs,ev,hq,q1⟩=>?_) he rfl
 subst ev
 exact thn (sE hc I1 r1 hq q1) λv s2 z=>Calls.spliced_nil z
end
section
variable {X:Cx} {C:Bool} {τ:List Sl} {e:Expr} {p p2 pos pos2:Pos} {k:Nat}
theorem nG {K:PySem.W.Frag} {G:Hp}:∀ {vs:List V} {ds:List D},ar K G vs ds->ar K G vs.reverse ds.reverse
 | _,_,.nil=>.nil
 | _,_,.cons h r=>by
   rw [List.reverse_cons,List.reverse_cons]
   exact (nG r).append (.cons h .nil)
theorem vB {xs:List D} (B:Bk X k) (h:PE X e (dE X.K C τ (.d (.lst xs)))) (hg:Gl X "list":=by rfl) (hg2:Gl X "reversed":=by rfl) (hs:starEach [e] X.env=(false,eval e X.env) :: starEach [] X.env:=by rfl):PE X (.Call (.Name "list" p) [.Call (.Name "reversed" p2) [e] [] pos2] [] pos) (dE X.K C τ (.o xs.reverse)):=
 peW (sh B.calm (B.blt _ (by decide)) (B.blt _ (by decide)) hg hg2 (aa h af hs) hs) λσ H Q ⟨A,H₀,B,S,k⟩=>c8 S λvs H1 e1 d1=>by
   cases d1 with
   | cons d r=>
     cases r
     cases d with
     | lst h1 r=>
       refine ⟨_,_,rfl,Ev.aL aY h1,λp hp=>?_⟩
       obtain ⟨z1,z2,z3⟩:=kc (K:=X.K) (M:=vw C A B) hp (nG r)
       exact k _ _ [p] (e1.trans z1) (λb hb=>⟨e1.free (z2 b hb).1,(z2 b hb).2⟩) z3
end
end Hy
namespace K07
open PySem PySem.Spec PyProof.Rows L2 Hy
noncomputable def top (i:Nat):Stmt:=PySem.Challenge.pw_signsmooth_k07_choices_refused.main.body.getD i (.Pass ⟨0,0,0,0⟩)
theorem oX:ao ["_law_script","_law_k"] ["_law_script","_law_k"] (ah (top 54)):=⟨rfl,rfl,rfl,by decide +kernel,rfl,by decide +kernel,by decide +kernel⟩
theorem fI:ao ["_law_cell_here","_law_bases","_law_row","_law_base","_law_k","_law_mixed"] ["_law_cell_here","_law_bases"] (ah (top 55)):=⟨rfl,rfl,rfl,by decide +kernel,rfl,by decide +kernel,by decide +kernel⟩
theorem jI:ao ["_law_cell_here","_law_parts"] ["_law_cell_here"] (ah (top 61)):=⟨rfl,rfl,rfl,by decide +kernel,rfl,by decide +kernel,by decide +kernel⟩
theorem fF:ao ["_law_one","_law_other","_law_rest_here"] ["_law_one","_law_other"] (ah (top 57)):=⟨rfl,rfl,rfl,by decide +kernel,rfl,by decide +kernel,by decide +kernel⟩
theorem jD:ao ["_law_top","_law_bottom","_law_common"] ["_law_top","_law_bottom"] (ah (top 58)):=⟨rfl,rfl,rfl,by decide +kernel,rfl,by decide +kernel,by decide +kernel⟩
theorem gK:ao ["_law_kind","_law_part","_law_top"] ["_law_kind","_law_part"] (ah (top 59)):=⟨rfl,rfl,rfl,by decide +kernel,rfl,by decide +kernel,by decide +kernel⟩
theorem iz:ao ["_law_cell_here","_law_many","_law_wide","_law_kind","_law_base","_law_parts"] ["_law_cell_here","_law_many","_law_wide","_law_kind"] (ah (top 60)):=⟨rfl,rfl,rfl,by decide +kernel,rfl,by decide +kernel,by decide +kernel⟩
theorem lV:ao ["_law_parts","_law_kinds"] ["_law_parts"] (ah (top 64)):=⟨rfl,rfl,rfl,by decide +kernel,rfl,by decide +kernel,by decide +kernel⟩
theorem gF:ao ["_law_parts","_law_many","_law_choice_here","_law_at","_law_way"] ["_law_parts","_law_many"] (ah (top 66)):=⟨rfl,rfl,rfl,by decide +kernel,rfl,by decide +kernel,by decide +kernel⟩
theorem oW:ao ["_law_cell_here","_law_used"] ["_law_cell_here","_law_used"] (ah (top 56)):=⟨rfl,rfl,rfl,by decide +kernel,rfl,by decide +kernel,by decide +kernel⟩
theorem fy:ao ["numbers"] ["numbers"] (ah (top 33)):=⟨rfl,rfl,rfl,by decide +kernel,rfl,by decide +kernel,by decide +kernel⟩
theorem lX:ao ["thing"] ["thing"] (ah (top 22)):=⟨rfl,rfl,rfl,by decide +kernel,rfl,by decide +kernel,by decide +kernel⟩
theorem gb:ao ["thing","many"] ["thing","many"] (ah (top 32)):=⟨rfl,rfl,rfl,by decide +kernel,rfl,by decide +kernel,by decide +kernel⟩
theorem cY:ao ["thing"] ["thing"] (ah (top 29)):=⟨rfl,rfl,rfl,by decide +kernel,rfl,by decide +kernel,by decide +kernel⟩
theorem cK:ao ["one","other","greater","lesser","rest"] ["one","other"] (ah (top 24)):=⟨rfl,rfl,rfl,by decide +kernel,rfl,by decide +kernel,by decide +kernel⟩
theorem iE:ao ["thing"] ["thing"] (ah (top 23)):=⟨rfl,rfl,rfl,by decide +kernel,rfl,by decide +kernel,by decide +kernel⟩
theorem jX:ao ["thing"] ["thing"] (ah (top 30)):=⟨rfl,rfl,rfl,by decide +kernel,rfl,by decide +kernel,by decide +kernel⟩
theorem gN:ao ["thing"] ["thing"] (ah (top 31)):=⟨rfl,rfl,rfl,by decide +kernel,rfl,by decide +kernel,by decide +kernel⟩
theorem eW:ao ["thing"] ["thing"] (ah (top 34)):=⟨rfl,rfl,rfl,by decide +kernel,rfl,by decide +kernel,by decide +kernel⟩
theorem dJ:ao ["rows","columns","many_rows","many_columns"] ["rows","columns","many_rows","many_columns"] (ah (top 35)):=⟨rfl,rfl,rfl,by decide +kernel,rfl,by decide +kernel,by decide +kernel⟩
theorem pv:ao ["things","places"] ["things","places"] (ah (top 36)):=⟨rfl,rfl,rfl,by decide +kernel,rfl,by decide +kernel,by decide +kernel⟩
theorem pN:ao ["table","rows","columns"] ["table","rows","columns"] (ah (top 38)):=⟨rfl,rfl,rfl,by decide +kernel,rfl,by decide +kernel,by decide +kernel⟩
theorem iM:ao ["table","rows","columns"] ["table","rows","columns"] (ah (top 37)):=⟨rfl,rfl,rfl,by decide +kernel,rfl,by decide +kernel,by decide +kernel⟩
theorem jQ:ao ["_law_e","_law_named","_law_words","_law_some"] ["_law_e"] (ah (top 63)):=⟨rfl,rfl,rfl,by decide +kernel,rfl,by decide +kernel,by decide +kernel⟩
theorem kn:ao ["table","j"] ["table","j"] (ah (top 41)):=⟨rfl,rfl,rfl,by decide +kernel,rfl,by decide +kernel,by decide +kernel⟩
theorem jo:ao ["table"] ["table"] (ah (top 40)):=⟨rfl,rfl,rfl,by decide +kernel,rfl,by decide +kernel,by decide +kernel⟩
theorem jU:ao ["table"] ["table"] (ah (top 39)):=⟨rfl,rfl,rfl,by decide +kernel,rfl,by decide +kernel,by decide +kernel⟩
theorem d0:ao ["table"] ["table"] (ah (top 45)):=⟨rfl,rfl,rfl,by decide +kernel,rfl,by decide +kernel,by decide +kernel⟩
theorem cx:ao ["top","bottom","divisor"] ["top","bottom"] (ah (top 25)):=⟨rfl,rfl,rfl,by decide +kernel,rfl,by decide +kernel,by decide +kernel⟩
theorem lG:ao ["top","bottom"] ["top","bottom"] (ah (top 26)):=⟨rfl,rfl,rfl,by decide +kernel,rfl,by decide +kernel,by decide +kernel⟩
theorem gH:ao ["row","scale","number"] ["row"] (ah (top 46)):=⟨rfl,rfl,rfl,by decide +kernel,rfl,by decide +kernel,by decide +kernel⟩
theorem eJ:ao ["grid","k","i"] ["grid","k"] (ah (top 51)):=⟨rfl,rfl,rfl,by decide +kernel,rfl,by decide +kernel,by decide +kernel⟩
theorem iK:ao ["row","pivot_row","k","last","pivot","factor"] ["row","pivot_row","k","last"] (ah (top 52)):=⟨rfl,rfl,rfl,by decide +kernel,rfl,by decide +kernel,by decide +kernel⟩
theorem cq:ao ["rows","grid","many","sign","last","k","at","i"] ["rows"] (ah (top 50)):=⟨rfl,rfl,rfl,by decide +kernel,rfl,by decide +kernel,by decide +kernel⟩
theorem cJ:ao ["numbers","found","number"] ["numbers"] (ah (top 49)):=⟨rfl,rfl,rfl,by decide +kernel,rfl,by decide +kernel,by decide +kernel⟩
theorem ku:ao ["row","scale"] ["row","scale"] (ah (top 47)):=⟨rfl,rfl,rfl,by decide +kernel,rfl,by decide +kernel,by decide +kernel⟩
theorem jm:ao ["table","scales"] ["table","scales"] (ah (top 48)):=⟨rfl,rfl,rfl,by decide +kernel,rfl,by decide +kernel,by decide +kernel⟩
theorem bx:ao ["table","scales"] ["table"] (ah (top 44)):=⟨rfl,rfl,rfl,by decide +kernel,rfl,by decide +kernel,by decide +kernel⟩
theorem kY:ao ["table","rows","columns"] ["table","rows","columns"] (ah (top 43)):=⟨rfl,rfl,rfl,by decide +kernel,rfl,by decide +kernel,by decide +kernel⟩
theorem gI:ao ["_law_what","_law_table_here","_law_rows","_law_columns","_law_found","_law_e"] ["_law_what","_law_table_here","_law_rows","_law_columns"] (ah (top 67)):=⟨rfl,rfl,rfl,by decide +kernel,rfl,by decide +kernel,by decide +kernel⟩
theorem mV:ao ["_law_thing"] ["_law_thing"] (ah (top 62)):=⟨rfl,rfl,rfl,by decide +kernel,rfl,by decide +kernel,by decide +kernel⟩
theorem pj:ao ["_law_thing","_law_many"] ["_law_thing","_law_many"] (ah (top 65)):=⟨rfl,rfl,rfl,by decide +kernel,rfl,by decide +kernel,by decide +kernel⟩
theorem la:ao ["_law_what","_law_table_here","_law_rows","_law_columns","_law_none"] ["_law_what","_law_table_here","_law_rows","_law_columns","_law_none"] (ah (top 68)):=⟨rfl,rfl,rfl,by decide +kernel,rfl,by decide +kernel,by decide +kernel⟩
theorem rq:ao ["_law_script","_law_k","_law_cell_here","_law_many","_law_wide","_law_table_here","_law_parts","_law_rows","_law_columns","_law_thing","_law_size_here","_law_found","_law_none","_law_what"] ["_law_script"] (ah (top 69)):=⟨rfl,rfl,rfl,by decide +kernel,rfl,by decide +kernel,by decide +kernel⟩
end K07
namespace K07
open PySem PySem.Spec PyProof.Rows L2 Hy
open Ev (D Den ar aN aK)
noncomputable def az (f:Nat->Rat):Nat->Rat
 | 0=>0
 | n + 1=>az f n + f n
theorem aA {f g:Nat->Rat}:∀ {n:Nat},(∀ k < n,f k=g k)->az f n=az g n
 | 0,_=>rfl
 | n + 1,h=>by rw [az,az,aA λk hk=>h k (by omega),h n (by omega)]
theorem bV (c:Rat) (f:Nat->Rat):∀ n:Nat,c * az f n=az (λk=>c * f k) n
 | 0=>Rat.mul_zero c
 | n + 1=>by rw [az,az,Rat.mul_add,bV c f n]
theorem lI (c:Rat) (f:Nat->Rat):∀ n:Nat,az f n * c=az (λk=>f k * c) n
 | 0=>Rat.zero_mul c
 | n + 1=>by rw [az,az,Rat.add_mul,lI c f n]
theorem fQ (f g:Nat->Rat):∀ n:Nat,az (λk=>f k + g k) n=az f n + az g n
 | 0=>(Rat.add_zero 0).symm
 | n + 1=>by rw [az,az,az,fQ f g n]; grind
theorem gh:∀ n:Nat,az (λ_=>0) n=0
 | 0=>rfl
 | n + 1=>by rw [az,gh n,Rat.add_zero]
theorem gi (f:Nat->Nat->Rat) (m:Nat):∀ n:Nat,az (λk=>az (λl=>f k l) m) n=az (λl=>az (λk=>f k l) n) m
 | 0=>by simp only [az]; exact (gh m).symm
 | n + 1=>by simp only [az]; rw [gi f m n,<- fQ]
noncomputable def dq (i j:Nat):Rat:=if i=j then 1 else 0
theorem kP (A:Nat->Rat) (j:Nat):∀ n:Nat,n<=j->az (λk=>A k * dq k j) n=0
 | 0,_=>rfl
 | n + 1,h=>by
   rw [az,kP A j n (by omega),dq,if_neg (by omega),Rat.mul_zero,Rat.add_zero]
theorem cZ (A:Nat->Rat) (j:Nat):∀ n:Nat,j < n->az (λk=>A k * dq k j) n=A j
 | n + 1,h=>by
   rw [az]
   by_cases e:j=n
   · subst e
     rw [kP A j j (Nat.le_refl _),dq,if_pos rfl,Rat.mul_one,Rat.zero_add]
   · rw [cZ A j n (by omega),dq,if_neg (by omega),Rat.mul_zero,Rat.add_zero]
noncomputable def skp (i r:Nat):Nat:=if r < i then r else r + 1
noncomputable def minor (M:Nat->Nat->Rat) (i r c:Nat):Rat:=M (skp i r) (c + 1)
noncomputable def sgn (i:Nat):Rat:=if i % 2=0 then 1 else -1
theorem eh (i:Nat):sgn (i + 1)=-sgn i:=by
 unfold sgn
 by_cases h:i % 2=0
 · rw [if_pos h,if_neg (by omega)]
 · rw [if_neg h,if_pos (by omega)]
   rfl
theorem wc (i:Nat):sgn i * sgn i=1:=by
 unfold sgn
 split <;> grind
noncomputable def det:Nat->(Nat->Nat->Rat)->Rat
 | 0,_=>1
 | n + 1,M=>az (λi=>sgn i * M i 0 * det n (minor M i)) (n + 1)
theorem ke {i r n:Nat} (h:r < n):skp i r < n + 1:=by unfold skp; split <;> omega
theorem vt (i r:Nat):skp i r ≠ i:=by unfold skp; split <;> omega
theorem aP:∀ {n:Nat} {M M':Nat->Nat->Rat},(∀ i < n,∀ j < n,M i j=M' i j)->det n M=det n M'
 | 0,_,_,_=>rfl
 | n + 1,M,M',h=>by
   unfold det
   refine aA λi hi=>?_
   rw [h i hi 0 (by omega),aP (M:=minor M i) (M':=minor M' i) λr hr c hc=>h _ (ke hr) _ (by omega)]
noncomputable def ak (M:Nat->Nat->Rat) (p:Nat) (v:Nat->Rat) (r c:Nat):Rat:=if r=p then v c else M r c
noncomputable def cQ (M:Nat->Nat->Rat) (q:Nat) (v:Nat->Rat) (r c:Nat):Rat:=if c=q then v r else M r c
noncomputable def un (i p:Nat):Nat:=if p < i then p else p - 1
theorem eX (M:Nat->Nat->Rat) (p:Nat) (v:Nat->Rat):minor (ak M p v) p=minor M p:=by
 funext r c
 unfold minor ak
 rw [if_neg (vt p r)]
theorem ez (M:Nat->Nat->Rat) {i p:Nat} (h:i ≠ p) (v:Nat->Rat):minor (ak M p v) i=ak (minor M i) (un i p) λc=>v (c + 1):=by
 funext r c
 unfold minor ak
 have:skp i r=p ↔ r=un i p:=by unfold skp un; split <;> split <;> omega
 by_cases q:skp i r=p
 · rw [if_pos q,if_pos (this.mp q)]
 · rw [if_neg q,if_neg λz=>q (this.mpr z)]
theorem oy:∀ {n:Nat} (M:Nat->Nat->Rat) {p:Nat},p < n->∀ (a b:Rat) (x y:Nat->Rat),det n (ak M p λc=>a * x c + b * y c)=a * det n (ak M p x) + b * det n (ak M p y)
 | 0,_,_,h,_,_,_,_=>absurd h (Nat.not_lt_zero _)
 | n + 1,M,p,hp,a,b,x,y=>by
   unfold det
   rw [bV,bV,<- fQ]
   refine aA λi hi=>?_
   by_cases h:i=p
   · subst h
     rw [eX,eX,eX]
     simp only [ak,if_pos rfl]
     grind
   · rw [ez M h,ez M h,ez M h,oy (minor M i) (show un i p < n by unfold un; split <;> omega) a b]
     simp only [ak,if_neg h]
     grind
theorem qf {f:Nat->Rat} {p:Nat} (h0:∀ i,i ≠ p->i ≠ p + 1->f i=0) (h:f p + f (p + 1)=0):∀ n,p + 1 < n->az f n=0:=by
 have z:∀ n,n<=p->az f n=0:=by
   intro n
   induction n with
   | zero=>intro _; rfl
   | succ n ih=>intro hn; rw [az,ih (by omega),h0 n (by omega) (by omega),Rat.add_zero]
 intro n
 induction n with
 | zero=>intro hn; omega
 | succ n ih=>
   intro hn
   rw [az]
   by_cases q:n=p + 1
   · subst q
     rw [az,z p (Nat.le_refl _),Rat.zero_add]
     exact h
   · rw [ih (by omega),h0 n (by omega) q,Rat.add_zero]
theorem dh {f:Nat->Rat} {n:Nat} (h:∀ i < n,f i=0):az f n=0:=by
 rw [aA h]; exact gh n
theorem kg:∀ {n:Nat} {M:Nat->Nat->Rat} {p:Nat},p + 1 < n->(∀ c < n,M p c=M (p + 1) c)->det n M=0
 | 0,_,_,h,_=>absurd h (Nat.not_lt_zero _)
 | n + 1,M,p,hp,h=>by
   unfold det
   let f:Nat->Rat:=λi=>if i < n + 1 then sgn i * M i 0 * det n (minor M i) else 0
   have e:az (λi=>sgn i * M i 0 * det n (minor M i)) (n + 1)=az f (n + 1):=aA λi hi=>by simp only [f]; rw [if_pos hi]
   rw [e]
   refine qf (p:=p) (λi h1 h2=>?_) ?_ _ hp
   · simp only [f]
     by_cases hi:i < n + 1
     · rw [if_pos hi]
       have:det n (minor M i)=0:=by
         by_cases q:i < p
         · refine kg (p:=p - 1) (by omega) λc hc=>?_
           unfold minor skp
           rw [if_neg (by omega),if_neg (by omega),show p - 1 + 1=p by omega]
           exact h (c + 1) (by omega)
         · refine kg (p:=p) (by omega) λc hc=>?_
           unfold minor skp
           rw [if_pos (by omega),if_pos (by omega)]
           exact h (c + 1) (by omega)
       rw [this,Rat.mul_zero]
     · rw [if_neg hi]
   · simp only [f]
     rw [if_pos (by omega),if_pos hp,eh,<- h 0 (by omega)]
     have:det n (minor M p)=det n (minor M (p + 1)):=aP λr hr c hc=>by
       unfold minor skp
       by_cases q:r < p
       · rw [if_pos q,if_pos (by omega)]
       · rw [if_neg q]
         by_cases q2:r=p
         · subst q2
           rw [if_pos (by omega)]
           exact (h (c + 1) (by omega)).symm
         · rw [if_neg (by omega)]
     rw [this]
     grind
structure ML (n:Nat) (f:(Nat->Nat->Rat)->Rat):Prop where
 cong:∀ {M M':Nat->Nat->Rat},(∀ i < n,∀ j < n,M i j=M' i j)->f M=f M'
 lin:∀ (M:Nat->Nat->Rat) {p:Nat},p < n->∀ (a b:Rat) (x y:Nat->Rat),f (ak M p λc=>a * x c + b * y c)=a * f (ak M p x) + b * f (ak M p y)
 alt:∀ {M:Nat->Nat->Rat} {p:Nat},p + 1 < n->(∀ c < n,M p c=M (p + 1) c)->f M=0
theorem gg (n:Nat):ML n (det n):=⟨aP,oy,kg⟩
section
variable {n:Nat} {f:(Nat->Nat->Rat)->Rat}
theorem bz (M:Nat->Nat->Rat) (p:Nat):ak M p (M p)=M:=by
 funext r c
 unfold ak
 split
 · rename_i h; rw [h]
 · rfl
theorem bT {M:Nat->Nat->Rat} {p:Nat} {v:Nat->Rat}:ak M p v p=v:=by funext c; unfold ak; rw [if_pos rfl]
theorem bU {M:Nat->Nat->Rat} {p r:Nat} {v:Nat->Rat} (h:r ≠ p):ak M p v r=M r:=by funext c; unfold ak; rw [if_neg h]
theorem a8 {M:Nat->Nat->Rat} {p q:Nat} {v u:Nat->Rat} (h:p ≠ q):ak (ak M p v) q u=ak (ak M q u) p v:=by
 funext r c
 unfold ak
 by_cases h1:r=q
 · rw [if_pos h1,if_neg λz=>h (z.symm.trans h1),if_pos h1]
 · rw [if_neg h1,if_neg h1]
theorem ML.add (h:ML n f) (M:Nat->Nat->Rat) {p:Nat} (hp:p < n) (x y:Nat->Rat):f (ak M p λc=>x c + y c)=f (ak M p x) + f (ak M p y):=by
 have:=h.lin M hp 1 1 x y
 simp only [Rat.one_mul] at this
 exact this
theorem ML.nb (h:ML n f) (M:Nat->Nat->Rat) {p:Nat} (hp:p + 1 < n) (x y:Nat->Rat):f (ak (ak M p x) (p + 1) y)=-f (ak (ak M p y) (p + 1) x):=by
 have z:∀ u:Nat->Rat,f (ak (ak M p u) (p + 1) u)=0:=λu=>h.alt hp λc _=>by rw [bT,bU (by omega),bT]
 have e:=z λc=>x c + y c
 rw [h.add _ hp] at e
 rw [a8 (by omega),h.add _ (show p < n by omega),a8 (M:=M) (p:=p) (q:=p + 1) (v:=λc=>x c + y c) (u:=y) (by omega),h.add _ (show p < n by omega)] at e
 rw [a8 (M:=M) (p:=p + 1) (q:=p) (v:=x) (u:=x) (by omega),z x,a8 (M:=M) (p:=p + 1) (q:=p) (v:=y) (u:=y) (by omega),z y,a8 (M:=M) (p:=p + 1) (q:=p) (v:=x) (u:=y) (by omega),a8 (M:=M) (p:=p + 1) (q:=p) (v:=y) (u:=x) (by omega)] at e
 grind
theorem ML.two (h:ML n f):∀ (d:Nat) (M:Nat->Nat->Rat) (p:Nat),p + 1 + d < n->M p=M (p + 1 + d)->f M=0
 | 0,M,p,hp,e=>h.alt hp λc _=>by rw [e]
 | d + 1,M,p,hp,e=>by
   have s:=h.nb M (p:=p + 1 + d) (by omega) (M (p + 1 + d)) (M (p + 1 + d + 1))
   rw [bz,bz] at s
   rw [s,ML.two h d _ p (by omega) (by rw [bU (by omega),bU (by omega),bU (by omega),bT]; exact e)]
   rfl
theorem ML.same (h:ML n f) {M:Nat->Nat->Rat} {p q:Nat} (hp:p < n) (hq:q < n) (hpq:p ≠ q) (e:M p=M q):f M=0:=by
 rcases Nat.lt_or_lt_of_ne hpq with z | z
 · exact h.two (q - p - 1) M p (by omega) (by rw [show p + 1 + (q - p - 1)=q by omega]; exact e)
 · exact h.two (p - q - 1) M q (by omega) (by rw [show q + 1 + (p - q - 1)=p by omega]; exact e.symm)
theorem ML.swap (h:ML n f) {M:Nat->Nat->Rat} {p q:Nat} (hp:p < n) (hq:q < n) (hpq:p ≠ q) (x y:Nat->Rat):f (ak (ak M p x) q y)=-f (ak (ak M p y) q x):=by
 have z:∀ u:Nat->Rat,f (ak (ak M p u) q u)=0:=λu=>h.same hp hq hpq (by rw [bT,bU hpq,bT])
 have e:=z λc=>x c + y c
 have c1:∀ u v:Nat->Rat,ak (ak M q u) p v=ak (ak M p v) q u:=λu v=>a8 λz=>hpq z.symm
 rw [h.add _ hq,a8 hpq,h.add _ hp,a8 (M:=M) (p:=p) (q:=q) (v:=λc=>x c + y c) (u:=y) hpq,h.add _ hp,c1,c1,c1,c1,z x,z y] at e
 grind
theorem ML.yx (h:ML n f) (M:Nat->Nat->Rat) {p:Nat} (hp:p < n):f (ak M p λ_=>0)=0:=by
 have:=h.lin M hp 0 0 (λ_=>0) (λ_=>0)
 simp only [Rat.zero_mul,Rat.add_zero] at this
 exact this
theorem ML.sum (h:ML n f) (M:Nat->Nat->Rat) {p:Nat} (hp:p < n) (v:Nat->Rat) (e:Nat->Nat->Rat):∀ m,f (ak M p λj=>az (λc=>v c * e c j) m)=az (λc=>v c * f (ak M p (e c))) m
 | 0=>h.yx M hp
 | m + 1=>by
   have:=h.lin M hp 1 (v m) (λj=>az (λc=>v c * e c j) m) (e m)
   simp only [Rat.one_mul] at this
   rw [az,<- ML.sum h M hp v e m]
   exact this
theorem ML.comb (h:ML n f) (M:Nat->Nat->Rat) {p k:Nat} (hp:p < n) (hk:k<=p) (d:Rat) (β:Nat->Rat):f (ak M p λj=>d * M p j + az (λi=>β i * M i j) k)=d * f M:=by
 have e:=h.lin M hp d 1 (M p) (λj=>az (λi=>β i * M i j) k)
 simp only [Rat.one_mul] at e
 rw [e,bz,h.sum M hp β M k,dh,Rat.add_zero]
 intro i hi
 rw [h.same (p:=i) (q:=p) (by omega) hp (by omega) (by rw [bU (by omega),bT]),Rat.mul_zero]
end
noncomputable def idQ (i j:Nat):Rat:=if i=j then 1 else 0
noncomputable def un1 (σ:Nat->Nat) (i j:Nat):Rat:=if σ i=j then 1 else 0
theorem rj:∀ (m:Nat) (σ:Nat->Nat),(∀ i < m + 1,σ i < m)->∃ i j,i < j/\j < m + 1/\σ i=σ j
 | 0,σ,h=>absurd (h 0 (by decide)) (Nat.not_lt_zero _)
 | m + 1,σ,h=>by
   by_cases q:∃ i,i < m + 1/\σ i=σ (m + 1)
   · obtain ⟨i,hi,e⟩:=q
     exact ⟨i,m + 1,hi,by omega,e⟩
   · have q':∀ i < m + 1,σ i ≠ σ (m + 1):=λi hi z=>q ⟨i,hi,z⟩
     obtain ⟨i,j,h1,h2,e⟩:=rj m (λi=>if σ (m + 1) < σ i then σ i - 1 else σ i) λi hi=>by
       have a:=h i (by omega)
       have b:=h (m + 1) (by omega)
       have c:=q' i hi
       split <;> omega
     refine ⟨i,j,h1,by omega,?_⟩
     have a:=q' i (by omega)
     have b:=q' j h2
     split at e <;> split at e <;> omega
theorem sU {n k:Nat} {σ:Nat->Nat} (h:∀ i < n,σ i < n) (hk:k < n) (hn:∀ i < n,σ i ≠ k):∃ i j,i < j/\j < n/\σ i=σ j:=by
 obtain ⟨m,rfl⟩:∃ m,n=m + 1:=⟨n - 1,by omega⟩
 obtain ⟨i,j,h1,h2,e⟩:=rj m (λi=>if k < σ i then σ i - 1 else σ i) λi hi=>by
   have a:=h i hi
   have b:=hn i hi
   split <;> omega
 refine ⟨i,j,h1,h2,?_⟩
 have a:=hn i (by omega)
 have b:=hn j h2
 split at e <;> split at e <;> omega
section
variable {n:Nat} {h:(Nat->Nat->Rat)->Rat}
theorem ML.rK (H:ML n h) (h0:h idQ=0):∀ (d k:Nat),k + d=n->∀ σ:Nat->Nat,(∀ i < n,σ i < n)->(∀ i < k,σ i=i)->h (un1 σ)=0
 | 0,k,hk,σ,_,hf=>by
   rw [<- h0]
   exact H.cong λi hi j _=>by unfold un1 idQ; rw [hf i (by omega)]
 | d + 1,k,hk,σ,hs,hf=>by
   by_cases q:∃ j,k<=j/\j < n/\σ j=k
   · obtain ⟨j,h1,h2,h3⟩:=q
     by_cases z:j=k
     · subst z
       exact ML.rK H h0 d (j + 1) (by omega) σ hs λi hi=>by
         by_cases y:i=j
         · rw [y]; exact h3
         · exact hf i (by omega)
     · have e:un1 σ=ak (ak (un1 σ) k (un1 σ k)) j (un1 σ j):=by rw [bz,bz]
       have e2:ak (ak (un1 σ) k (un1 σ j)) j (un1 σ k)=un1 λi=>if i=j then σ k else if i=k then σ j else σ i:=by
         funext r c
         have zk:¬ k=j:=λy=>z y.symm
         by_cases y1:r=j <;> by_cases y2:r=k <;> simp [ak,un1,y1,y2,zk]
       rw [e,H.swap (by omega) h2 (λy=>z y.symm),e2,ML.rK H h0 d (k + 1) (by omega) _ (λi hi=>?_) (λi hi=>?_)]
       · rfl
       · split
         · exact hs k (by omega)
         · split
           · exact hs j h2
           · exact hs i hi
       · rw [if_neg (by omega)]
         by_cases y:i=k
         · rw [if_pos y,h3,y]
         · rw [if_neg y]
           exact hf i (by omega)
   · obtain ⟨i,j,h1,h2,e⟩:=sU hs (show k < n by omega) λi hi z=>by
       by_cases y:i < k
       · have:=hf i y
         omega
       · exact q ⟨i,by omega,hi,z⟩
     exact H.same (p:=i) (q:=j) (by omega) h2 (by omega) (by funext c; unfold un1; rw [e])
noncomputable def kA (k:Nat) (M:Nat->Nat->Rat) (σ:Nat->Nat) (i j:Nat):Rat:=if i < k then M i j else un1 σ i j
theorem ML.wF (H:ML n h) (h0:h idQ=0) (M:Nat->Nat->Rat):∀ (k:Nat),k<=n->∀ σ:Nat->Nat,(∀ i < n,σ i < n)->h (kA k M σ)=0
 | 0,_,σ,hs=>by
   rw [<- ML.rK H h0 n 0 (by omega) σ hs λi hi=>absurd hi (Nat.not_lt_zero _)]
   exact H.cong λi _ j _=>by unfold kA; rw [if_neg (Nat.not_lt_zero _)]
 | k + 1,hk,σ,hs=>by
   have e:h (kA (k + 1) M σ)=h (ak (kA k M σ) k λj=>az (λc=>M k c * idQ c j) n):=H.cong λi hi j hj=>by
     unfold ak kA
     by_cases y:i=k
     · subst y
       rw [if_pos (by omega),if_pos rfl]
       exact (cZ (M i) j n hj).symm
     · rw [if_neg y]
       by_cases z:i < k
       · rw [if_pos (by omega),if_pos z]
       · rw [if_neg (by omega),if_neg z]
   rw [e,H.sum _ (by omega),dh]
   intro c hc
   have e2:ak (kA k M σ) k (idQ c)=kA k M λi=>if i=k then c else σ i:=by
     funext r j
     by_cases y:r=k <;> simp [ak,kA,un1,idQ,y]
   rw [e2,ML.wF H h0 M k (by omega) _ (λi hi=>?_),Rat.mul_zero]
   split
   · exact hc
   · exact hs i hi
theorem ML.zero (H:ML n h) (h0:h idQ=0) (M:Nat->Nat->Rat):h M=0:=by
 rw [<- ML.wF H h0 M n (Nat.le_refl _) (λi=>i) λi hi=>hi]
 exact H.cong λi hi j _=>by unfold kA; rw [if_pos hi]
end
theorem rB:minor idQ 0=idQ:=by
 funext r c
 unfold minor idQ skp
 rw [if_neg (Nat.not_lt_zero _)]
 by_cases h:r=c
 · rw [if_pos (by omega),if_pos h]
 · rw [if_neg (by omega),if_neg h]
theorem mj:∀ n,det n idQ=1
 | 0=>rfl
 | n + 1=>by
   unfold det
   rw [aA (g:=λi=>det n (minor idQ i) * idQ i 0) λi hi=>?_]
   · have:=cZ (λi=>det n (minor idQ i)) 0 (n + 1) (by omega)
     have e:(λi=>det n (minor idQ i) * idQ i 0)=λk=>(λi=>det n (minor idQ i)) k * dq k 0:=rfl
     rw [e,this,rB,mj n]
   · by_cases z:i=0
     · subst z
       show 1 * 1 * _=_ * 1
       grind
     · unfold idQ
       rw [if_neg z]
       grind
theorem ML.uniq {n:Nat} {f:(Nat->Nat->Rat)->Rat} (F:ML n f) (M:Nat->Nat->Rat):f M=det n M * f idQ:=by
 have D:=gg n
 have H:ML n λM=>f M - det n M * f idQ:=by
   refine ⟨λ{M M'} e=>?_,λM p hp a b x y=>?_,λ{M p} hp e=>?_⟩
   · rw [F.cong e,D.cong e]
   · rw [F.lin M hp,D.lin M hp]
     grind
   · rw [F.alt hp e,D.alt hp e]
     grind
 have:=H.zero (by rw [mj]; grind) M
 grind
theorem l5:∀ {n:Nat} (M:Nat->Nat->Rat) {q:Nat},q < n->∀ (a b:Rat) (x y:Nat->Rat),det n (cQ M q λc=>a * x c + b * y c)=a * det n (cQ M q x) + b * det n (cQ M q y)
 | 0,_,_,h,_,_,_,_=>absurd h (Nat.not_lt_zero _)
 | n + 1,M,q,hq,a,b,x,y=>by
   unfold det
   rw [bV,bV,<- fQ]
   refine aA λi hi=>?_
   cases q with
   | zero=>
     have e:∀ v,minor (cQ M 0 v) i=minor M i:=λv=>by
       funext r c
       unfold minor cQ
       rw [if_neg (by omega)]
     rw [e,e,e]
     simp only [cQ,if_true]
     grind
   | succ q=>
     have e:∀ v,minor (cQ M (q + 1) v) i=cQ (minor M i) q λr=>v (skp i r):=λv=>by
       funext r c
       unfold minor cQ
       by_cases z:c=q
       · rw [if_pos (by omega),if_pos z]
       · rw [if_neg (by omega),if_neg z]
     rw [e,e,e,l5 (minor M i) (show q < n by omega) a b]
     have z:¬ (0=q + 1):=by omega
     simp only [cQ,if_neg z]
     grind
theorem jP (g:Nat->Rat) (i:Nat):∀ n,i<=n->az (λj=>g (skp i j)) n=az g (n + 1) - g i
 | 0,h=>by
   have:i=0:=by omega
   subst this
   show (0:Rat)=0 + g 0 - g 0
   grind
 | n + 1,h=>by
   by_cases q:i=n + 1
   · subst q
     have e:az (λj=>g (skp (n + 1) j)) (n + 1)=az g (n + 1):=aA λk hk=>by unfold skp; rw [if_pos hk]
     rw [e,az.eq_2 g (n + 1)]
     grind
   · rw [az,jP g i n (by omega),az.eq_2 g (n + 1)]
     have:skp i n=n + 1:=by unfold skp; rw [if_neg (by omega)]
     rw [this]
     grind
theorem o8 {n:Nat} {G:Nat->Nat->Rat} (h:∀ i < n,∀ j < n,G i j=-G j i):az (λi=>az (λj=>G i j) n) n=0:=by
 have e:az (λi=>az (λj=>G i j) n) n=-1 * az (λi=>az (λj=>G i j) n) n:=by
   conv=>lhs; rw [gi]
   rw [bV]
   refine aA λi hi=>?_
   rw [bV]
   refine aA λj hj=>?_
   rw [h j hj i hi]
   grind
 grind
theorem tT {i j r:Nat} (h:i < j):skp i (skp (j - 1) r)=skp j (skp i r):=by
 unfold skp
 split <;> split <;> (try split) <;> (try split) <;> omega
theorem lC:∀ {n:Nat} {M:Nat->Nat->Rat} {q:Nat},q + 1 < n->(∀ r < n,M r q=M r (q + 1))->det n M=0
 | 0,_,_,h,_=>absurd h (Nat.not_lt_zero _)
 | 1,_,_,h,_=>by omega
 | n + 2,M,q + 1,hq,h=>by
   rw [det]
   refine dh λi hi=>?_
   rw [lC (M:=minor M i) (q:=q) (by omega) λr hr=>h _ (ke hr),Rat.mul_zero]
 | n + 2,M,0,hq,h=>by
   let D:Nat->Nat->Rat:=λi j=>det n λr c=>M (skp i (skp j r)) (c + 2)
   let G:Nat->Nat->Rat:=λi j=>if i < j then -(sgn i * sgn j * M i 0 * M j 0 * D i (j - 1)) else if j < i then sgn i * sgn j * M i 0 * M j 0 * D i j else 0
   have inner:∀ i < n + 2,sgn i * M i 0 * det (n + 1) (minor M i)=az (λj=>G i j) (n + 2):=λi hi=>by
     have e:az (λj=>G i j) (n + 2)=az (λj=>G i (skp i j)) (n + 1):=by
       have g0:G i i=0:=by simp only [G]; rw [if_neg (Nat.lt_irrefl i),if_neg (Nat.lt_irrefl i)]
       rw [jP (λj=>G i j) i (n + 1) (by omega),g0]
       grind
     rw [e,det,bV]
     refine aA λj hj=>?_
     have m0:minor M i j 0=M (skp i j) 0:=(h _ (ke hj)).symm
     have mm:det n (minor (minor M i) j)=D i j:=rfl
     rw [m0,mm]
     simp only [G]
     by_cases z:j < i
     · have s:skp i j=j:=by unfold skp; rw [if_pos z]
       rw [s,if_neg (by omega),if_pos z]
       grind
     · have s:skp i j=j + 1:=by unfold skp; rw [if_neg z]
       rw [s,if_pos (by omega),eh,show j + 1 - 1=j by omega]
       grind
   rw [det,aA inner]
   refine o8 λi hi j hj=>?_
   have sy:∀ {i j:Nat},i < j->D i (j - 1)=D j i:=λ{i j} z=>by
     simp only [D]
     congr 1
     funext r c
     rw [tT z]
   simp only [G]
   rcases Nat.lt_trichotomy i j with z | z | z
   · rw [if_pos z,if_neg (by omega),if_pos z,sy z]
     grind
   · subst z
     rw [if_neg (Nat.lt_irrefl _),if_neg (Nat.lt_irrefl _)]
     rfl
   · rw [if_neg (by omega),if_pos z,if_pos z,sy z]
     grind
theorem lj (n:Nat) (M:Nat->Nat->Rat):det n (λi j=>M j i)=det n M:=by
 have H:ML n λM=>det n λi j=>M j i:=by
   refine ⟨λ{M M'} e=>aP λi hi j hj=>e j hj i hi,λM p hp a b x y=>?_,λ{M p} hp e=>lC hp λr hr=>e r hr⟩
   exact l5 (λi j=>M j i) hp a b x y
 have u:=H.uniq M
 have i1:(det n λi j=>idQ j i)=1:=by
   rw [<- mj n]
   congr 1
   funext i j
   unfold idQ
   by_cases z:i=j
   · rw [if_pos z,if_pos z.symm]
   · rw [if_neg z,if_neg λy=>z y.symm]
 simp only [i1,Rat.mul_one] at u
 exact u
theorem eM (m:Nat):∀ (k:Nat) (M:Nat->Nat->Rat),(∀ i,k<=i->i < k + m->∀ j < k,M i j=0)->det (k + m) M=det k M * det m λi j=>M (k + i) (k + j)
 | 0,M,_=>by
   rw [Nat.zero_add]
   show det m M=1 * _
   rw [Rat.one_mul]
   congr 1
   funext i j
   rw [Nat.zero_add,Nat.zero_add]
 | k + 1,M,h=>by
   have a:k + 1 + m=(k + m) + 1:=by omega
   rw [a,det,det,lI]
   have tail:∀ t,az (λi=>sgn i * M i 0 * det (k + m) (minor M i)) (k + 1 + t)=az (λi=>sgn i * M i 0 * det (k + m) (minor M i)) (k + 1)\/¬ t<=m:=by
     intro t
     induction t with
     | zero=>exact .inl rfl
     | succ t ih=>
       by_cases q:t + 1<=m
       · rcases ih with ih | ih
         · refine .inl ?_
           rw [show k + 1 + (t + 1)=(k + 1 + t) + 1 by omega,az,ih,h (k + 1 + t) (by omega) (by omega) 0 (by omega)]
           grind
         · omega
       · exact .inr q
   rcases tail m with e | e
   · rw [show k + m + 1=k + 1 + m by omega,e]
     refine aA λi hi=>?_
     rw [eM m k (minor M i) λr h1 h2 c hc=>?_]
     · have:(λr c=>minor M i (k + r) (k + c))=λr c=>M (k + 1 + r) (k + 1 + c):=by
         funext r c
         unfold minor skp
         rw [if_neg (by omega),show k + r + 1=k + 1 + r by omega,show k + c + 1=k + 1 + c by omega]
       rw [this]
       grind
     · unfold minor skp
       rw [if_neg (by omega)]
       exact h _ (by omega) (by omega) _ (by omega)
   · exact absurd (Nat.le_refl m) e
theorem hU {n k:Nat} (d:Rat) (β:Nat->Nat->Rat) (M:Nat->Nat->Rat):∀ t,k + t<=n->det n (λi j=>if k<=i/\i < k + t then d * M i j + az (λa=>β i a * M a j) k else M i j)=d ^ t * det n M
 | 0,_=>by
   rw [Rat.pow_zero,Rat.one_mul]
   congr 1
   funext i j
   have n0:¬ (k<=i/\i < k + 0):=by omega
   rw [if_neg n0]
 | t + 1,h=>by
   have ih:=hU (n:=n) (k:=k) d β M t (by omega)
   have c:=(gg n).comb (λi j=>if k<=i/\i < k + t then d * M i j + az (λa=>β i a * M a j) k else M i j) (p:=k + t) (k:=k) (by omega) (by omega) d (β (k + t))
   rw [ih] at c
   rw [Rat.pow_succ,Rat.mul_comm (d ^ t) d,Rat.mul_assoc,<- c]
   congr 1
   funext i j
   unfold ak
   by_cases q:i=k + t
   · subst q
     have n1:¬ (k<=k + t/\k + t < k + t):=by omega
     have p1:k<=k + t/\k + t < k + (t + 1):=by omega
     rw [if_pos p1,if_pos rfl]
     dsimp only
     rw [if_neg n1]
     congr 1
     exact aA λa ha=>by
       have na:¬ (k<=a/\a < k + t):=by omega
       rw [if_neg na]
   · rw [if_neg q]
     dsimp only
     by_cases z:k<=i/\i < k + t
     · rw [if_pos (by omega),if_pos z]
     · rw [if_neg (by omega),if_neg z]
theorem qH {d:Rat} (h:d ≠ 0):∀ t:Nat,d ^ t ≠ 0
 | 0=>by rw [Rat.pow_zero]; exact λz=>by cases z
 | t + 1=>by
   rw [Rat.pow_succ]
   intro z
   rcases Rat.mul_eq_zero.mp z with y | y
   · exact qH h t y
   · exact h y
noncomputable def bm (Y:Nat->Nat->Rat) (k p q:Nat):Rat:=det (k + 1) λr c=>Y (if r < k then r else p) (if c < k then c else q)
noncomputable def bc (Y:Nat->Nat->Rat) (k p i:Nat):Rat:=det (k + 1) (ak (λr c=>Y (if c < k then c else p) r) k (idQ i))
theorem gY (M:Nat->Nat->Rat):det 1 M=M 0 0:=by
 show 0 + 1 * M 0 0 * 1=M 0 0
 grind
theorem tO (M:Nat->Nat->Rat):det 2 M=M 0 0 * M 1 1 - M 0 1 * M 1 0:=by
 show 0 + 1 * M 0 0 * det 1 (minor M 0) + -1 * M 1 0 * det 1 (minor M 1)=_
 rw [gY,gY]
 show 0 + 1 * M 0 0 * M 1 1 + -1 * M 1 0 * M 0 1=_
 grind
section
variable {Y:Nat->Nat->Rat} {k p q:Nat}
theorem rP:bm Y k p q=det k Y * Y p q + az (λi=>bc Y k p i * Y i q) k:=by
 have e:bm Y k p q=det (k + 1) (ak (λr c=>Y (if c < k then c else p) r) k λr=>az (λc=>Y (if c < k then c else p) q * idQ c r) (k + 1)):=by
   unfold bm
   rw [<- lj]
   refine aP λi hi j hj=>?_
   unfold ak
   by_cases z:i=k
   · subst z
     rw [if_pos rfl,if_neg (Nat.lt_irrefl _)]
     exact (cZ (λc=>Y (if c < i then c else p) q) j (i + 1) hj).symm
   · rw [if_neg z,if_pos (show i < k by omega)]
 have last:det (k + 1) (ak (λr c=>Y (if c < k then c else p) r) k (idQ k))=det k Y:=by
   rw [eM 1 k _ λi h1 h2 j hj=>?_,gY]
   · have e1:ak (λr c=>Y (if c < k then c else p) r) k (idQ k) (k + 0) (k + 0)=1:=by
       unfold ak idQ
       rw [if_pos (Nat.add_zero k),if_pos (Nat.add_zero k).symm]
     rw [e1,Rat.mul_one,<- lj]
     refine aP λi hi j hj=>?_
     unfold ak
     rw [if_neg (by omega)]
     dsimp only
     rw [if_pos hi]
   · have:i=k:=by omega
     subst this
     unfold ak idQ
     rw [if_pos rfl,if_neg (by omega)]
 rw [e,(gg (k + 1)).sum _ (Nat.lt_succ_self k),az,last,if_neg (Nat.lt_irrefl _),Rat.add_comm,Rat.mul_comm (Y p q)]
 congr 1
 exact aA λi hi=>by rw [if_pos hi,Rat.mul_comm]; rfl
theorem ot (h:q < k):bm Y k p q=0:=by
 unfold bm
 rw [<- lj]
 refine (gg (k + 1)).same (p:=q) (q:=k) (by omega) (by omega) (by omega) ?_
 funext r
 rw [if_pos h,if_neg (Nat.lt_irrefl _)]
theorem sd:bm Y k k k=det (k + 1) Y:=by
 refine aP λi hi j hj=>?_
 have:∀ r,r < k + 1->(if r < k then r else k)=r:=λr hr=>by split <;> omega
 rw [this i hi,this j hj]
theorem tF {i j:Nat} (h0:det k Y ≠ 0):det k Y * bm Y (k + 1) i j=bm Y k k k * bm Y k i j - bm Y k k j * bm Y k i k:=by
 let W:Nat->Nat->Rat:=λr c=>Y (if r < k + 1 then r else i) (if c < k + 1 then c else j)
 have e:=hU (n:=k + 2) (k:=k) (det k Y) (λr a=>bc Y k (if r < k + 1 then r else i) a) W 2 (Nat.le_refl _)
 have ent:∀ r c,(if k<=r/\r < k + 2 then det k Y * W r c + az (λa=>bc Y k (if r < k + 1 then r else i) a * W a c) k else W r c)=if k<=r/\r < k + 2 then bm Y k (if r < k + 1 then r else i) (if c < k + 1 then c else j) else W r c:=λr c=>by
   by_cases z:k<=r/\r < k + 2
   · rw [if_pos z,if_pos z,rP]
     congr 1
     exact aA λa ha=>by simp only [W]; rw [if_pos (show a < k + 1 by omega)]
   · rw [if_neg z,if_neg z]
 simp only [ent] at e
 rw [eM 2 k _ λr h1 h2 c hc=>?_,tO] at e
 · have a0:k<=k + 0/\k + 0 < k + 2:=by omega
   have a1:k<=k + 1/\k + 1 < k + 2:=by omega
   have b0:k + 0 < k + 1:=by omega
   have b1:¬ k + 1 < k + 1:=by omega
   rw [if_pos a0,if_pos a1,if_pos a0,if_pos a1,if_pos b0,if_neg b1,if_pos b0,if_neg b1,Nat.add_zero] at e
   have dk:(det k λr c=>if k<=r/\r < k + 2 then bm Y k (if r < k + 1 then r else i) (if c < k + 1 then c else j) else W r c)=det k Y:=aP λr hr c hc=>by
     rw [if_neg (by omega)]
     simp only [W]
     rw [if_pos (by omega),if_pos (by omega)]
   rw [dk] at e
   have dw:det (k + 2) W=bm Y (k + 1) i j:=rfl
   rw [dw] at e
   have c:=Rat.inv_mul_cancel (det k Y) h0
   have p2:det k Y ^ 2=det k Y * det k Y:=by rw [Rat.pow_succ,Rat.pow_succ,Rat.pow_zero,Rat.one_mul]
   rw [p2] at e
   have e2:(det k Y)⁻¹ * (det k Y * det k Y * bm Y (k + 1) i j)=(det k Y)⁻¹ * (det k Y * (bm Y k k k * bm Y k i j - bm Y k k j * bm Y k i k)):=congrArg _ e.symm
   rw [Rat.mul_assoc,<- Rat.mul_assoc,c,Rat.one_mul,<- Rat.mul_assoc,c,Rat.one_mul] at e2
   exact e2
 · rw [if_pos ⟨h1,h2⟩,if_pos (show c < k + 1 by omega)]
   exact ot hc
theorem sH {n:Nat} (h0:det k Y ≠ 0) (hk:k < n) (h:∀ p,k<=p->p < n->bm Y k p k=0):det n Y=0:=by
 have e:=hU (n:=n) (k:=k) (det k Y) (λr a=>bc Y k r a) Y (n - k) (by omega)
 have ent:∀ r c,(if k<=r/\r < k + (n - k) then det k Y * Y r c + az (λa=>bc Y k r a * Y a c) k else Y r c)=if k<=r/\r < k + (n - k) then bm Y k r c else Y r c:=λr c=>by
   by_cases z:k<=r/\r < k + (n - k)
   · rw [if_pos z,if_pos z,rP]
   · rw [if_neg z,if_neg z]
 simp only [ent] at e
 have z:(det n λr c=>if k<=r/\r < k + (n - k) then bm Y k r c else Y r c)=0:=by
   obtain ⟨m,hm⟩:∃ m,n=k + (m + 1):=⟨n - k - 1,by omega⟩
   subst hm
   rw [eM (m + 1) k _ λr h1 h2 c hc=>?_]
   · have:det (m + 1) (λi j=>if k<=k + i/\k + i < k + (k + (m + 1) - k) then bm Y k (k + i) (k + j) else Y (k + i) (k + j))=0:=by
       rw [det]
       refine dh λi hi=>?_
       rw [if_pos (by omega),Nat.add_zero,h (k + i) (by omega) (by omega)]
       grind
     rw [this,Rat.mul_zero]
   · rw [if_pos (by omega)]
     exact ot hc
 rw [z] at e
 rcases Rat.mul_eq_zero.mp e.symm with y | y
 · exact absurd y (qH h0 _)
 · exact y
noncomputable def rho (k m r:Nat):Nat:=if r < k then r else if r=k then k + m else if r<=k + m then r - 1 else r
theorem j2 {n:Nat}:∀ (m:Nat) (Y:Nat->Nat->Rat),k + m < n->(det n λr=>Y (rho k m r))=sgn m * det n Y
 | 0,Y,_=>by
   have:(λr=>Y (rho k 0 r))=Y:=by
     funext r
     congr 1
     unfold rho
     split
     · rfl
     · split
       · omega
       · split <;> omega
   rw [this]
   show _=1 * _
   rw [Rat.one_mul]
 | m + 1,Y,h=>by
   have ih:=j2 (n:=n) m (ak (ak Y (k + m) (Y (k + m + 1))) (k + m + 1) (Y (k + m))) (by omega)
   have s:=(gg n).nb Y (p:=k + m) (by omega) (Y (k + m + 1)) (Y (k + m))
   rw [bz,bz] at s
   rw [s] at ih
   rw [eh]
   have e:(λr=>ak (ak Y (k + m) (Y (k + m + 1))) (k + m + 1) (Y (k + m)) (rho k m r))=λr=>Y (rho k (m + 1) r):=by
     funext r
     by_cases z:rho k m r=k + m + 1
     · rw [z,bT]
       congr 1
       unfold rho at z ⊢
       split at z
       · omega
       · split at z
         · omega
         · split at z
           · omega
           · rename_i a b c
             rw [if_neg a,if_neg b,if_pos (by omega)]
             omega
     · rw [bU z]
       by_cases y:rho k m r=k + m
       · rw [y,bT]
         congr 1
         unfold rho at y z ⊢
         split at y
         · omega
         · split at y
           · rename_i a b
             rw [if_neg a,if_pos b]
             omega
           · split at y
             · omega
             · omega
       · rw [bU y]
         congr 1
         unfold rho at y z ⊢
         split at y
         · rename_i a
           rw [if_pos a,if_pos a]
         · rename_i a
           rw [if_neg a] at z
           split at y
           · omega
           · rename_i b
             rw [if_neg b] at z
             rw [if_neg a,if_neg b,if_neg a,if_neg b]
             split at y
             · rename_i c
               rw [if_pos c,if_pos (by omega)]
             · rename_i c
               rw [if_neg c] at z
               rw [if_neg c,if_neg (by omega)]
   rw [e] at ih
   rw [ih]
   grind
theorem wt {m:Nat}:bm (λr=>Y (rho k m r)) k p q=bm Y k (rho k m p) q:=by
 refine aP λr hr c hc=>?_
 dsimp only
 congr 1
 by_cases z:r < k
 · rw [if_pos z,if_pos z]
   unfold rho
   rw [if_pos z]
 · rw [if_neg z,if_neg z]
theorem jz {m:Nat}:(det k λr=>Y (rho k m r))=det k Y:=aP λr hr c hc=>by
 unfold rho
 rw [if_pos hr]
end
noncomputable def ZB (b:Nat) (x:Rat):Prop:=∃ z:Int,x=(z:Rat)/\z.natAbs<=2 ^ b
theorem ZB.mono {b c:Nat} {x:Rat} (h:ZB b x) (hc:b<=c):ZB c x:=by
 obtain ⟨z,e,l⟩:=h
 exact ⟨z,e,Nat.le_trans l (Nat.pow_le_pow_right (by decide) hc)⟩
theorem ZB.mul {b c:Nat} {x y:Rat} (h:ZB b x) (g:ZB c y):ZB (b + c) (x * y):=by
 obtain ⟨u,rfl,l⟩:=h
 obtain ⟨v,rfl,k⟩:=g
 exact ⟨u * v,(Rat.intCast_mul u v).symm,by rw [Int.natAbs_mul,Nat.pow_add]; exact Nat.mul_le_mul l k⟩
theorem ZB.sgn (i:Nat):ZB 0 (sgn i):=by
 show ZB 0 (if i % 2=0 then 1 else -1)
 split
 · exact ⟨1,rfl,by decide⟩
 · exact ⟨-1,rfl,by decide⟩
theorem ZB.sum {b:Nat} {f:Nat->Rat}:∀ {n:Nat},(∀ i < n,ZB b (f i))->∃ z:Int,az f n=(z:Rat)/\z.natAbs<=n * 2 ^ b
 | 0,_=>⟨0,rfl,Nat.zero_le _⟩
 | n + 1,h=>by
   obtain ⟨u,e,l⟩:=ZB.sum λi hi=>h i (Nat.lt_succ_of_lt hi)
   obtain ⟨v,e',l'⟩:=h n (Nat.lt_succ_self n)
   refine ⟨u + v,by rw [az,e,e',Rat.intCast_add],?_⟩
   rw [Nat.succ_mul]
   exact Nat.le_trans (Int.natAbs_add_le _ _) (Nat.add_le_add l l')
theorem tu {b:Nat}:∀ {n:Nat} {M:Nat->Nat->Rat},n<=8->(∀ i < n,∀ j < n,ZB b (M i j))->ZB (n * (b + 3)) (det n M)
 | 0,_,_,_=>⟨1,rfl,Nat.one_le_two_pow⟩
 | n + 1,M,hn,h=>by
   obtain ⟨z,e,l⟩:=ZB.sum (b:=b + n * (b + 3)) (f:=λi=>sgn i * M i 0 * det n (minor M i)) (n:=n + 1) λi hi=>by
     have:=((ZB.sgn i).mul (h i hi 0 (by omega))).mul (tu (n:=n) (M:=minor M i) (by omega) λr hr c hc=>h _ (ke hr) _ (by omega))
     exact this.mono (by omega)
   refine ⟨z,e,Nat.le_trans l ?_⟩
   rw [show (n + 1) * (b + 3)=3 + (b + n * (b + 3)) by rw [Nat.succ_mul]; omega,Nat.pow_add 2 3]
   exact Nat.mul_le_mul_right _ (by omega)
noncomputable def i5 (s:Nat->Rat):Nat->Rat
 | 0=>1
 | n + 1=>i5 s n * s n
theorem jx {n:Nat} (s:Nat->Rat) (M:Nat->Nat->Rat):∀ t,t<=n->det n (λi j=>if i < t then s i * M i j else M i j)=i5 s t * det n M
 | 0,_=>by
   rw [i5,Rat.one_mul]
   exact aP λi _ j _=>if_neg (Nat.not_lt_zero _)
 | t + 1,h=>by
   have ih:=jx (n:=n) s M t (by omega)
   have c:=(gg n).comb (λi j=>if i < t then s i * M i j else M i j) (p:=t) (k:=0) (by omega) (Nat.zero_le _) (s t) (λ_=>0)
   rw [ih] at c
   rw [i5,Rat.mul_comm (i5 s t),Rat.mul_assoc,<- c]
   refine aP λi _ j _=>?_
   unfold ak
   by_cases q:i=t
   · subst q
     rw [if_pos (Nat.lt_succ_self i),if_pos rfl]
     dsimp only
     rw [if_neg (Nat.lt_irrefl i)]
     show _=_ + 0
     rw [Rat.add_zero]
   · rw [if_neg q]
     dsimp only
     by_cases z:i < t
     · rw [if_pos (by omega),if_pos z]
     · rw [if_neg (by omega),if_neg z]
theorem ZB.num {b:Nat} {x:Rat} (h:ZB b x):x=(x.num:Rat)/\x.num.natAbs<=2 ^ b:=by
 obtain ⟨z,rfl,l⟩:=h
 rw [Rat.num_intCast]
 exact ⟨rfl,l⟩
noncomputable def vG (k:Int) (j:Nat):Bool:=decide (Builtin.bitAnd (k / 2 ^ j) 1=1)
noncomputable def si (k:Int) (j:Nat):Int:=Builtin.bitOr k (1 * 2 ^ j)
noncomputable def sgZ (b:Int):Int:=1 - 2 * b.fmod 2
noncomputable def xv (row:List Int) (k v:Int) (j:Nat) (s:Int × List (Int × Int)):Int × List (Int × Int):=
 if vG k j then (s.1 + 1,s.2) else (s.1,ig s.2 (si k j) ((cT s.2 (si k j)).getD 0 + sgZ s.1 * row.getD j 0 * v))
noncomputable def kX (n:Nat) (row:List Int) (k v:Int) (kv:List (Int × Int)):Nat->Int × List (Int × Int)
 | 0=>(0,kv)
 | c + 1=>xv row k v (n - 1 - c) (kX n row k v kv c)
noncomputable def eD (n:Nat) (row:List Int) (kv:List (Int × Int)):Nat->List (Int × Int)
 | 0=>[]
 | t + 1=>(kX n row (kv.getD t (0,0)).1 ((cT kv (kv.getD t (0,0)).1).getD 0) (eD n row kv t) n).2
noncomputable def kS (Ms:List (List Int)):Nat->List (Int × Int)
 | 0=>[(0,1)]
 | i + 1=>eD Ms.length (Ms.getD i []) (kS Ms i) (kS Ms i).length
noncomputable def lim:Nat:=2 ^ 3900
theorem qg (m:Nat) (Y:Nat->Nat->Rat):det (m + 1) Y=az (λc=>sgn (m + c) * Y m c * det m λr q=>Y r (skp c q)) (m + 1):=by
 have e1:=j2 (k:=0) (n:=m + 1) m Y (by omega)
 have e2:=lj (m + 1) λr=>Y (rho 0 m r)
 rw [det] at e2
 have r0:rho 0 m 0=m:=by unfold rho; rw [if_neg (by omega),if_pos rfl]; omega
 have rs:∀ r,r < m->rho 0 m (r + 1)=r:=λr hr=>by
   unfold rho
   rw [if_neg (by omega),if_neg (by omega),if_pos (by omega)]
   omega
 have e3:az (λc=>sgn c * Y m c * det m λr q=>Y r (skp c q)) (m + 1)=sgn m * det (m + 1) Y:=by
   rw [<- e1,<- e2]
   refine aA λc _=>?_
   rw [r0,<- lj m]
   congr 1
   exact aP λr hr q hq=>by
     unfold minor
     dsimp only
     rw [rs q hq]
 have sm:∀ c,sgn (m + c)=sgn m * sgn c:=λc=>by
   induction c with
   | zero=>rw [Nat.add_zero,show sgn 0=1 from rfl,Rat.mul_one]
   | succ c ih=>rw [<- Nat.add_assoc,eh,ih,eh]; grind
 have:az (λc=>sgn (m + c) * Y m c * det m λr q=>Y r (skp c q)) (m + 1)=sgn m * az (λc=>sgn c * Y m c * det m λr q=>Y r (skp c q)) (m + 1):=by
   rw [bV]
   refine aA λc _=>?_
   rw [sm]
   grind
 rw [this,e3,<- Rat.mul_assoc,wc,Rat.one_mul]
noncomputable def gM (M:Nat->Nat->Rat) (L:List Nat):Rat:=det L.length λr c=>M r (L.getD c 0)
theorem ma {M:Nat->Nat->Rat} {L:List Nat} {m:Nat} (h:L.length=m + 1):gM M L=az (λc=>sgn (m - c) * M m (L.getD c 0) * gM M (L.eraseIdx c)) (m + 1):=by
 unfold gM
 rw [h,qg]
 refine aA λc hc=>?_
 have e1:sgn (m + c)=sgn (m - c):=by
   unfold sgn
   by_cases z:(m + c) % 2=0
   · rw [if_pos z,if_pos (by omega)]
   · rw [if_neg z,if_neg (by omega)]
 have e2:(L.eraseIdx c).length=m:=by rw [List.length_eraseIdx_of_lt (by omega)]; omega
 rw [e1,e2]
 refine congrArg (λx=>sgn (m - c) * M m (L.getD c 0) * x) (aP λr _ q hq=>?_)
 rw [List.getD_eq_getElem?_getD,List.getD_eq_getElem?_getD,List.getElem?_eraseIdx]
 unfold skp
 split <;> rfl
noncomputable def cols (n S:Nat):List Nat:=(List.range n).filter λj=>S.testBit j
theorem kQ {n S j:Nat}:j ∈ cols n S ↔ j < n/\S.testBit j=true:=by
 unfold cols
 rw [List.mem_filter,List.mem_range]
theorem sF {n S j:Nat} (hj:j < n) (h:S.testBit j=false):cols n (S ||| 2 ^ j)=(cols j S)++j :: ((List.range (n - (j + 1))).map (j + 1 + ·)).filter (λk=>S.testBit k):=by
 unfold cols
 obtain ⟨d,rfl⟩:=Nat.exists_eq_add_of_le (show j + 1<=n from hj)
 rw [List.range_add,List.range_succ,List.filter_append,List.filter_append,show j + 1 + d - (j + 1)=d by omega,List.append_assoc]
 have lo:(List.range j).filter (λk=>(S ||| 2 ^ j).testBit k)=(List.range j).filter λk=>S.testBit k:=List.filter_congr λk hk=>by
   have:=List.mem_range.mp hk
   rw [Nat.testBit_or,Nat.testBit_two_pow_of_ne (by omega),Bool.or_false]
 have hi:((List.range d).map (j + 1 + ·)).filter (λk=>(S ||| 2 ^ j).testBit k)=((List.range d).map (j + 1 + ·)).filter λk=>S.testBit k:=List.filter_congr λk hk=>by
   obtain ⟨q,_,rfl⟩:=List.mem_map.mp hk
   rw [Nat.testBit_or,Nat.testBit_two_pow_of_ne (by omega),Bool.or_false]
 rw [lo,hi,List.filter_cons_of_pos (by rw [Nat.testBit_or,Nat.testBit_two_pow_self,Bool.or_true]),List.filter_nil]
 rfl
noncomputable def above (n j S:Nat):List Nat:=((List.range (n - (j + 1))).map (j + 1 + ·)).filter λk=>S.testBit k
theorem mL {n S j:Nat} (hj:j < n) (h:S.testBit j=false):cols n S=cols j S++above n j S:=by
 unfold cols above
 obtain ⟨d,rfl⟩:=Nat.exists_eq_add_of_le (show j + 1<=n from hj)
 rw [List.range_add,List.range_succ,List.filter_append,List.filter_append,show j + 1 + d - (j + 1)=d by omega,List.filter_cons_of_neg (by rw [h]; decide),List.filter_nil,List.append_nil]
theorem iG {n S j:Nat} (hj:j < n) (h:S.testBit j=false):(cols n (S ||| 2 ^ j)).length=(cols n S).length + 1/\(cols n (S ||| 2 ^ j)).getD (cols j S).length 0=j/\(cols n (S ||| 2 ^ j)).eraseIdx (cols j S).length=cols n S/\(cols n S).length - (cols j S).length=(above n j S).length/\(cols j S).length<=(cols n S).length:=by
 rw [sF hj h,mL hj h]
 refine ⟨by simp only [List.length_append,List.length_cons]; rfl,?_,?_,by rw [List.length_append]; omega,by rw [List.length_append]; omega⟩
 · rw [List.getD_eq_getElem?_getD,List.getElem?_append_right (Nat.le_refl _),Nat.sub_self]
   rfl
 · rw [List.eraseIdx_append_of_length_le (Nat.le_refl _),Nat.sub_self]
   rfl
theorem pL (n S:Nat):cols (n + 1) S=if S.testBit n then cols n S++[n] else cols n S:=by
 unfold cols
 rw [List.range_succ,List.filter_append]
 cases h:S.testBit n with
 | true=>rw [List.filter_cons_of_pos h,List.filter_nil,if_pos rfl]
 | false=>rw [List.filter_cons_of_neg (by rw [h]; decide),List.filter_nil,List.append_nil,if_neg (by decide)]
theorem kT (G:Nat->Nat->Rat) (S:Nat):∀ n,az (λc=>G c ((cols n S).getD c 0)) (cols n S).length=az (λj=>if S.testBit j then G (cols j S).length j else 0) n
 | 0=>rfl
 | n + 1=>by
   rw [pL,az,<- kT G S n]
   cases h:S.testBit n with
   | true=>
     rw [if_pos rfl,if_pos rfl,List.length_append,List.length_singleton,az]
     have e1:(cols n S++[n]).getD (cols n S).length 0=n:=by
       rw [List.getD_eq_getElem?_getD,List.getElem?_append_right (Nat.le_refl _),Nat.sub_self]
       rfl
     rw [e1]
     refine congrArg (· + G (cols n S).length n) (aA λc hc=>?_)
     rw [List.getD_eq_getElem?_getD,List.getElem?_append_left hc,<- List.getD_eq_getElem?_getD]
   | false=>rw [if_neg (by decide),if_neg (by decide),Rat.add_zero]
theorem fZ {S j:Nat} (h:S.testBit j=true):(S ^^^ 2 ^ j).testBit j=false/\(S ^^^ 2 ^ j) ||| 2 ^ j=S/\∀ k,k ≠ j->(S ^^^ 2 ^ j).testBit k=S.testBit k:=by
 have a:∀ k,k ≠ j->(S ^^^ 2 ^ j).testBit k=S.testBit k:=λk hk=>by rw [Nat.testBit_xor,Nat.testBit_two_pow_of_ne (Ne.symm hk),Bool.xor_false]
 have b:(S ^^^ 2 ^ j).testBit j=false:=by rw [Nat.testBit_xor,Nat.testBit_two_pow_self,h]; rfl
 refine ⟨b,Nat.eq_of_testBit_eq λk=>?_,a⟩
 rw [Nat.testBit_or]
 by_cases z:k=j
 · subst z
   rw [Nat.testBit_two_pow_self,Bool.or_true,h]
 · rw [a k z,Nat.testBit_two_pow_of_ne (Ne.symm z),Bool.or_false]
theorem pT {M:Nat->Nat->Rat} {n m S:Nat} (h:(cols n S).length=m + 1):gM M (cols n S)=az (λj=>if S.testBit j then sgn (above n j S).length * M m j * gM M (cols n (S ^^^ 2 ^ j)) else 0) n:=by
 rw [ma h,<- h,kT (λc j=>sgn (m - c) * M m j * gM M ((cols n S).eraseIdx c)) S n]
 refine aA λj hj=>?_
 cases hb:S.testBit j with
 | false=>rfl
 | true=>
   rw [if_pos rfl,if_pos rfl]
   obtain ⟨b1,b2,b3⟩:=fZ hb
   obtain ⟨c1,c2,c3,c4,c5⟩:=iG hj b1
   rw [b2] at c1 c2 c3
   have l1:cols j (S ^^^ 2 ^ j)=cols j S:=List.filter_congr λk hk=>b3 k (by have:=List.mem_range.mp hk; omega)
   have l2:above n j (S ^^^ 2 ^ j)=above n j S:=List.filter_congr λk hk=>by
     obtain ⟨q,_,rfl⟩:=List.mem_map.mp hk
     exact b3 _ (by omega)
   rw [l1] at c3 c4
   rw [l2] at c4
   rw [c3,<- c4,show (cols n (S ^^^ 2 ^ j)).length=m by omega]
theorem xX (S j:Nat):vG (S:Int) j=S.testBit j:=by
 unfold vG
 have e:(S:Int) / 2 ^ j=((S / 2 ^ j:Nat):Int):=by simp
 rw [e,PyProof.Rows.bitAnd_pp (Int.natCast_nonneg _) (by decide),Int.toNat_natCast,Nat.testBit_eq_decide_div_mod_eq]
 have:(S / 2 ^ j) &&& (1:Int).toNat=S / 2 ^ j % 2:=by show (S / 2 ^ j) &&& 1=_; rw [Nat.and_one_is_mod]
 rw [this]
 congr 1
 rw [eq_iff_iff]
 omega
theorem wK (S j:Nat):si (S:Int) j=((S ||| 2 ^ j:Nat):Int):=by
 unfold si
 have e:(1:Int) * 2 ^ j=((2 ^ j:Nat):Int):=by simp
 rw [e]
 generalize 2 ^ j=y
 unfold Builtin.bitOr
 have h1:¬ (0<=Builtin.bitNot (S:Int)):=by unfold Builtin.bitNot; omega
 have h2:¬ (0<=Builtin.bitNot (y:Int)):=by unfold Builtin.bitNot; omega
 rw [PyProof.Rows.bitAnd_nn h1 h2]
 have h3:∀ x:Int,Builtin.bitNot (Builtin.bitNot x)=x:=λx=>by unfold Builtin.bitNot; omega
 rw [h3,h3,h3,Int.toNat_natCast,Int.toNat_natCast]
theorem yW (k:Nat):((sgZ (k:Int):Int):Rat)=sgn k:=by
 unfold sgZ sgn
 rw [Int.fmod_eq_emod_of_nonneg _ (by decide)]
 by_cases h:k % 2=0
 · rw [if_pos h,show (k:Int) % 2=0 by omega]; rfl
 · rw [if_neg h,show (k:Int) % 2=1 by omega]; rfl
theorem j8 (kv:List (Int × Int)) (k v j:Int):cT (ig kv k v) j=if j=k then some v else cT kv j:=by
 have e:=qK (Ev.eo kv) (Sum.inl k) (Sum.inl j) (V.int v)
 rw [tH,kf,kf] at e
 by_cases h:j=k
 · rw [if_pos (congrArg Sum.inl h)] at e
   rw [if_pos h]
   cases z:cT (ig kv k v) j with
   | none=>rw [z] at e; cases e
   | some x=>rw [z] at e; cases e; rfl
 · rw [if_neg (λz=>h (Sum.inl.inj z))] at e
   rw [if_neg h]
   cases z:cT (ig kv k v) j <;> cases z':cT kv j <;> rw [z,z'] at e <;> cases e <;> rfl
theorem lr (kv:List (Int × Int)) (k v:Int):(ig kv k v).map (·.1)=if (kv.any λp=>decide (p.1=k))=true then kv.map (·.1) else kv.map (·.1)++[k]:=by
 unfold ig
 split
 · rw [List.map_map]
   refine List.map_congr_left λp _=>?_
   simp only [Function.comp]
   split <;> rfl
 · rw [List.map_append]; rfl
theorem vz {kv:List (Int × Int)} {k v:Int} (h:(kv.map (·.1)).Nodup):((ig kv k v).map (·.1)).Nodup:=by
 rw [lr]
 split
 · exact h
 · rename_i z
   rw [List.nodup_append]
   refine ⟨h,by simp,λa ha b hb e=>z ?_⟩
   obtain ⟨p,hp,rfl⟩:=List.mem_map.mp ha
   rw [List.mem_singleton] at hb
   exact List.any_eq_true.mpr ⟨p,hp,decide_eq_true (e.trans hb)⟩
theorem sL {kv:List (Int × Int)} {k v x:Int} (h:x ∈ (ig kv k v).map (·.1)):x=k\/x ∈ kv.map (·.1):=by
 rw [lr] at h
 split at h
 · exact .inr h
 · rcases List.mem_append.mp h with h | h
   · exact .inr h
   · exact .inl (List.mem_singleton.mp h)
theorem rM:∀ {kv:List (Int × Int)} {k v:Int},cT kv k=some v->(k,v) ∈ kv
 | p :: t,k,v,h=>by
   unfold cT at h
   by_cases z:p.1=k
   · rw [List.find?_cons_of_pos (by simp [z])] at h
     cases h
     rw [<- z]
     exact List.mem_cons_self ..
   · rw [List.find?_cons_of_neg (by simp [z])] at h
     exact List.mem_cons_of_mem _ (rM h)
noncomputable def gv (kv:List (Int × Int)) (k:Int):Rat:=(((cT kv k).getD 0:Int):Rat)
theorem uB (kv:List (Int × Int)) (k j x:Int):gv (ig kv k ((cT kv k).getD 0 + x)) j=gv kv j + if j=k then (x:Rat) else 0:=by
 unfold gv
 rw [j8]
 by_cases h:j=k
 · rw [if_pos h,if_pos h,h,Option.getD_some,Rat.intCast_add]
 · rw [if_neg h,if_neg h,Rat.add_zero]
theorem mI {n j S:Nat} (h:j + 1 < n):(above n j S).length=(if S.testBit (j + 1) then 1 else 0) + (above n (j + 1) S).length:=by
 unfold above
 obtain ⟨d,rfl⟩:=Nat.exists_eq_add_of_le (show j + 2<=n from h)
 rw [show j + 2 + d - (j + 1)=d + 1 by omega,show j + 2 + d - (j + 1 + 1)=d by omega,List.range_succ_eq_map,List.map_cons,List.map_map,List.filter_cons]
 have e:(List.range d).map ((j + 1 + ·) ∘ Nat.succ)=(List.range d).map (j + 1 + 1 + ·):=List.map_congr_left λk _=>by simp only [Function.comp]; omega
 rw [e,Nat.add_zero]
 split
 · rw [List.length_cons]; omega
 · omega
theorem nj {n S:Nat}:(above (n + 1) n S).length=0:=by
 unfold above
 rw [show n + 1 - (n + 1)=0 by omega]
 rfl
theorem i7 (g:Nat->Rat):∀ n,az g (n + 1)=g 0 + az (λk=>g (k + 1)) n
 | 0=>by simp only [az,Rat.add_zero,Rat.zero_add]
 | n + 1=>by
   rw [az,i7 g n,az,Rat.add_assoc]
theorem lK (f:Nat->Rat):∀ n,az (λt=>f (n - 1 - t)) n=az f n
 | 0=>rfl
 | n + 1=>by
   rw [i7,az,Rat.add_comm,show n + 1 - 1 - 0=n by omega,<- lK f n]
   refine congrArg (· + f n) (aA λk hk=>?_)
   rw [show n + 1 - 1 - (k + 1)=n - 1 - k by omega]
noncomputable def mO (n S:Nat):Nat->Nat
 | 0=>0
 | c + 1=>mO n S c + if S.testBit (n - 1 - c) then 1 else 0
theorem jV {n S:Nat}:∀ c,c < n->mO n S c=(above n (n - 1 - c) S).length
 | 0,h=>by
   obtain ⟨m,rfl⟩:=Nat.exists_eq_succ_of_ne_zero (show n ≠ 0 by omega)
   rw [show m.succ - 1 - 0=m by omega,nj]
   rfl
 | c + 1,h=>by
   rw [mO,jV c (by omega),mI (n:=n) (j:=n - 1 - (c + 1)) (by omega),show n - 1 - (c + 1) + 1=n - 1 - c by omega]
   omega
noncomputable def evQ (n:Nat) (row:List Int) (S:Nat) (v:Rat) (T:Int) (j:Nat):Rat:=if S.testBit j then 0 else if T=((S ||| 2 ^ j:Nat):Int) then sgn (above n j S).length * ((row.getD j 0:Int):Rat) * v else 0
structure CI (n S:Nat) (row:List Int) (v:Int) (lk:List (Int × Int)) (c:Nat) (r:Int × List (Int × Int)):Prop where
 cnt:r.1=(mO n S c:Nat)
 val:∀ T,gv r.2 T=gv lk T + az (λt=>evQ n row S v T (n - 1 - t)) c
 key:∀ x ∈ r.2.map (·.1),x ∈ lk.map (·.1)\/∃ j,j < n/\S.testBit j=false/\x=((S ||| 2 ^ j:Nat):Int)
 nd:(r.2.map (·.1)).Nodup
 old:∀ T,cT lk T ≠ none->cT r.2 T ≠ none
 new:∀ t < c,S.testBit (n - 1 - t)=false->cT r.2 ((S ||| 2 ^ (n - 1 - t):Nat):Int) ≠ none
theorem nL {n S:Nat} {row:List Int} {v:Int} {lk:List (Int × Int)} (hn:(lk.map (·.1)).Nodup):∀ c,c<=n->CI n S row v lk c (kX n row (S:Int) v lk c)
 | 0,_=>⟨rfl,λT=>by rw [az,Rat.add_zero]; rfl,λx h=>.inl h,hn,λ_ h=>h,λt h=>by omega⟩
 | c + 1,hc=>by
   obtain ⟨h1,h2,h3,h4,h5,h6⟩:=nL (n:=n) (S:=S) (row:=row) (v:=v) hn c (by omega)
   rw [kX,xv,xX,wK]
   generalize kX n row (S:Int) v lk c=r at h1 h2 h3 h4 h5 h6 ⊢
   cases hb:S.testBit (n - 1 - c) with
   | true=>
     rw [if_pos rfl]
     refine ⟨by dsimp only; rw [h1,mO,hb,if_pos rfl]; omega,λT=>?_,h3,h4,h5,λt ht hf=>?_⟩
     · rw [az,evQ,if_pos hb,Rat.add_zero]; exact h2 T
     · rcases Nat.lt_or_ge t c with z | z
       · exact h6 t z hf
       · obtain rfl:t=c:=by omega
         rw [hb] at hf; cases hf
   | false=>
     rw [if_neg (by decide)]
     refine ⟨by dsimp only; rw [h1,mO,hb]; rfl,λT=>?_,λx hx=>?_,vz h4,λT hT=>?_,λt ht hf=>?_⟩
     · dsimp only
       have e:evQ n row S v T (n - 1 - c)=if T=((S ||| 2 ^ (n - 1 - c):Nat):Int) then sgn (mO n S c) * ((row.getD (n - 1 - c) 0:Int):Rat) * v else 0:=by
         unfold evQ
         rw [if_neg (by rw [hb]; decide),<- jV (n:=n) (S:=S) c (by omega)]
       rw [uB,h2,az,<- Rat.add_assoc,e,h1,Rat.intCast_mul,Rat.intCast_mul,yW]
     · rcases sL hx with e | e
       · exact .inr ⟨n - 1 - c,by omega,hb,e⟩
       · exact h3 x e
     · dsimp only
       rw [j8]
       split
       · exact nofun
       · exact h5 T hT
     · dsimp only
       rw [j8]
       split
       · exact nofun
       · rename_i z
         rcases Nat.lt_or_ge t c with y | y
         · exact h6 t y hf
         · obtain rfl:t=c:=by omega
           exact absurd rfl z
structure MI (n:Nat) (row:List Int) (Sf:Nat->Nat) (vf:Nat->Rat) (t:Nat) (r:List (Int × Int)):Prop where
 val:∀ T,gv r T=az (λs=>az (evQ n row (Sf s) (vf s) T) n) t
 key:∀ x ∈ r.map (·.1),∃ s < t,∃ j,j < n/\(Sf s).testBit j=false/\x=((Sf s ||| 2 ^ j:Nat):Int)
 nd:(r.map (·.1)).Nodup
 new:∀ s < t,∀ j < n,(Sf s).testBit j=false->cT r ((Sf s ||| 2 ^ j:Nat):Int) ≠ none
theorem l4 {n:Nat} {row:List Int} {kv:List (Int × Int)} {Sf:Nat->Nat} (hS:∀ s < kv.length,(kv.getD s (0,0)).1=(Sf s:Int)):∀ t,t<=kv.length->MI n row Sf (λs=>gv kv (Sf s)) t (eD n row kv t)
 | 0,_=>⟨λT=>rfl,λx h=>by simp [eD] at h,by simp [eD],λs h=>by omega⟩
 | t + 1,ht=>by
   obtain ⟨h1,h2,h3,h4⟩:=l4 (n:=n) (row:=row) hS t (by omega)
   rw [eD,hS t (by omega)]
   generalize eD n row kv t=r at h1 h2 h3 h4 ⊢
   obtain ⟨_,c2,c3,c4,c5,c6⟩:=nL (n:=n) (S:=Sf t) (row:=row) (v:=(cT kv (Sf t:Int)).getD 0) h3 n (Nat.le_refl _)
   refine ⟨λT=>?_,λx hx=>?_,c4,λs hs j hj hf=>?_⟩
   · rw [c2,h1,az,lK (evQ n row (Sf t) _ T)]
     rfl
   · rcases c3 x hx with e | ⟨j,e⟩
     · obtain ⟨s,hs,e⟩:=h2 x e
       exact ⟨s,by omega,e⟩
     · exact ⟨t,by omega,j,e⟩
   · rcases Nat.lt_or_ge s t with z | z
     · exact c5 _ (h4 s z j hj hf)
     · obtain rfl:s=t:=by omega
       have:=c6 (n - 1 - j) (by omega)
       rw [show n - 1 - (n - 1 - j)=j by omega] at this
       exact this hf
structure RI (n i:Nat) (M:Nat->Nat->Rat) (kv:List (Int × Int)):Prop where
 key:∀ x ∈ kv.map (·.1),∃ S:Nat,x=(S:Int)/\S < 2 ^ n/\(cols n S).length=i
 nd:(kv.map (·.1)).Nodup
 all:∀ S:Nat,S < 2 ^ n->(cols n S).length=i->cT kv (S:Int) ≠ none/\gv kv (S:Int)=gM M (cols n S)
theorem qj {S T j:Nat} (h:S.testBit j=false) (e:T=S ||| 2 ^ j):T.testBit j=true/\S=T ^^^ 2 ^ j:=by
 have h1:T.testBit j=true:=by rw [e,Nat.testBit_or,Nat.testBit_two_pow_self,Bool.or_true]
 refine ⟨h1,Nat.eq_of_testBit_eq λk=>?_⟩
 obtain ⟨b1,_,b3⟩:=fZ h1
 by_cases z:k=j
 · subst z; rw [h,b1]
 · rw [b3 k z,e,Nat.testBit_or,Nat.testBit_two_pow_of_ne (Ne.symm z),Bool.or_false]
theorem RI.step {n i:Nat} {M:Nat->Nat->Rat} {kv:List (Int × Int)} {row:List Int} (h:RI n i M kv) (hr:∀ j < n,((row.getD j 0:Int):Rat)=M i j):RI n (i + 1) M (eD n row kv kv.length):=by
 have hS:∀ s < kv.length,(kv.getD s (0,0)).1=((kv.getD s (0,0)).1.toNat:Int)/\(kv.getD s (0,0)).1.toNat < 2 ^ n/\(cols n (kv.getD s (0,0)).1.toNat).length=i:=λs hs=>by
   have hm:kv.getD s (0,0) ∈ kv:=by rw [List.getD_eq_getElem?_getD,List.getElem?_eq_getElem hs]; exact List.getElem_mem hs
   obtain ⟨S,e1,e2,e3⟩:=h.key _ (List.mem_map.mpr ⟨_,hm,rfl⟩)
   rw [e1,Int.toNat_natCast]
   exact ⟨rfl,e2,e3⟩
 obtain ⟨m1,m2,m3,m4⟩:=l4 (n:=n) (row:=row) (kv:=kv) (Sf:=λs=>(kv.getD s (0,0)).1.toNat) (λs hs=>(hS s hs).1) kv.length (Nat.le_refl _)
 have off:∀ {T j:Nat},T < 2 ^ n->(cols n T).length=i + 1->j < n->T.testBit j=true->T ^^^ 2 ^ j < 2 ^ n/\(cols n (T ^^^ 2 ^ j)).length=i/\∃ s < kv.length,(kv.getD s (0,0)).1.toNat=T ^^^ 2 ^ j:=λ{T j} hT hl hj hb=>by
   obtain ⟨b1,b2,_⟩:=fZ hb
   have l1:T ^^^ 2 ^ j < 2 ^ n:=Nat.xor_lt_two_pow hT (Nat.pow_lt_pow_right (by decide) hj)
   have l2:=(iG hj b1).1
   rw [b2,hl] at l2
   refine ⟨l1,by omega,?_⟩
   obtain ⟨q,_⟩:=h.all _ l1 (by omega)
   cases z:cT kv ((T ^^^ 2 ^ j:Nat):Int) with
   | none=>exact absurd z q
   | some v=>
     obtain ⟨s,hs⟩:=List.getElem?_of_mem (rM z)
     refine ⟨s,(List.getElem?_eq_some_iff.mp hs).1,?_⟩
     rw [List.getD_eq_getElem?_getD,hs]
     show (((T ^^^ 2 ^ j:Nat):Int)).toNat=_
     rw [Int.toNat_natCast]
 refine ⟨λx hx=>?_,m3,λT hT hl=>⟨?_,?_⟩⟩
 · obtain ⟨s,hs,j,hj,hf,rfl⟩:=m2 x hx
   obtain ⟨_,e2,e3⟩:=hS s hs
   exact ⟨_,rfl,Nat.or_lt_two_pow e2 (Nat.pow_lt_pow_right (by decide) hj),by rw [(iG hj hf).1,e3]⟩
 · obtain ⟨j,hj⟩:=List.exists_mem_of_length_pos (l:=cols n T) (by omega)
   obtain ⟨hj,hb⟩:=kQ.mp hj
   obtain ⟨_,_,s,hs,e⟩:=off hT hl hj hb
   obtain ⟨b1,b2,_⟩:=fZ hb
   have:=m4 s hs j hj
   try dsimp only at this
   rw [e,b2] at this
   exact this b1
 · rw [m1,gi (λs j=>evQ n row (kv.getD s (0,0)).1.toNat (gv kv ((kv.getD s (0,0)).1.toNat:Int)) (T:Int) j) n kv.length,pT hl]
   refine aA λj hj=>?_
   cases hb:T.testBit j with
   | false=>
     rw [if_neg (by decide)]
     refine dh λs hs=>?_
     unfold evQ
     cases hf:(kv.getD s (0,0)).1.toNat.testBit j with
     | true=>rw [if_pos rfl]
     | false=>
       rw [if_neg (by decide),if_neg λz=>?_]
       have:=(qj hf (Int.ofNat.inj z)).1
       rw [hb] at this; cases this
   | true=>
     rw [if_pos rfl]
     obtain ⟨l1,l2,s0,hs0,e0⟩:=off hT hl hj hb
     obtain ⟨b1,b2,b3⟩:=fZ hb
     have ea:above n j (T ^^^ 2 ^ j)=above n j T:=List.filter_congr λk hk=>by
       obtain ⟨q,_,rfl⟩:=List.mem_map.mp hk
       exact b3 _ (by omega)
     rw [<- (h.all _ l1 l2).2,<- hr j hj,<- ea,<- cZ (λ_=>sgn (above n j (T ^^^ 2 ^ j)).length * ((row.getD j 0:Int):Rat) * gv kv ((T ^^^ 2 ^ j:Nat):Int)) s0 kv.length hs0]
     refine aA λs hs=>?_
     unfold evQ dq
     by_cases z:s=s0
     · subst z
       rw [e0,b1,b2,if_neg (by decide),if_pos rfl,if_pos rfl,Rat.mul_one]
     · rw [if_neg z,Rat.mul_zero]
       cases hf:(kv.getD s (0,0)).1.toNat.testBit j with
       | true=>rw [if_pos rfl]
       | false=>
         rw [if_neg (by decide),if_neg λy=>z ?_]
         have e1:=(qj hf (Int.ofNat.inj y)).2
         have e2:(kv.map (·.1))[s]?=(kv.map (·.1))[s0]?:=by
           have g:∀ s < kv.length,(kv.map (·.1))[s]?=some (kv.getD s (0,0)).1:=λs hs=>by
             rw [List.getElem?_map,List.getD_eq_getElem?_getD,List.getElem?_eq_getElem hs]; rfl
           rw [g s hs,g s0 hs0,(hS s hs).1,(hS s0 hs0).1,e1,e0]
         exact (List.getElem?_inj (by rw [List.length_map]; exact hs) h.nd).mp e2
theorem RI.zero (n:Nat) (M:Nat->Nat->Rat):RI n 0 M [(0,1)]:=by
 have c0:∀ S:Nat,S < 2 ^ n->(cols n S).length=0->S=0:=λS hS h=>Nat.eq_of_testBit_eq λk=>by
   rw [Nat.zero_testBit]
   rcases Nat.lt_or_ge k n with z | z
   · cases hb:S.testBit k with
     | false=>rfl
     | true=>
       have:=kQ.mpr ⟨z,hb⟩
       rw [List.length_eq_zero_iff.mp h] at this
       cases this
   · exact Nat.testBit_lt_two_pow (Nat.lt_of_lt_of_le hS (Nat.pow_le_pow_right (by decide) z))
 refine ⟨λx hx=>⟨0,?_,Nat.two_pow_pos n,?_⟩,by simp,λS hS h=>?_⟩
 · simpa using hx
 · unfold cols
   rw [List.filter_eq_nil_iff.mpr λa _=>by rw [Nat.zero_testBit]; decide]
   rfl
 · obtain rfl:=c0 S hS h
   refine ⟨nofun,?_⟩
   rw [gM,h]
   rfl
theorem n5 {n:Nat} {M:Nat->Nat->Rat} {Ms:List (List Int)} (hl:Ms.length=n) (hM:∀ i < n,∀ j < n,(((Ms.getD i []).getD j 0:Int):Rat)=M i j):∀ i,i<=n->RI n i M (kS Ms i)
 | 0,_=>RI.zero n M
 | i + 1,h=>by
   rw [kS,hl]
   exact (n5 hl hM i (by omega)).step (hM i (by omega))
section
variable {P:Program} {w:World} {K:PySem.W.Frag} {mg:Str->Option Value} {base:Heap} {k:Nat} {f:Addr} {fd:FuncData} {qual:Str}
end
noncomputable def iV:Int->List Int->List Int
 | _,[]=>[]
 | c,b :: r=>c.fmod b :: iV (c.fdiv b) r
noncomputable def tf (c:Int) (bs:List Int):Int:=bs.foldl (λc b=>c.fdiv b) c
noncomputable def uY (c:Int) (k:Nat) (b:Int):Int:=(((((c * 48271 + (k:Int) * k * 69621 + (k:Int) * 16807 + 11).fmod 2147483647) * 40692 + c + 31 * (k:Int)).fmod 2147483399).fdiv 7).fmod b
noncomputable def sJ (c:Int) (bs:List Int):List Int:=(List.range bs.length).map λk=>uY c k (bs.getD k 0)
noncomputable def nums (c:Int) (bs:List Int):List Int:=if (10:Int) ^ (18:Int).toNat<=nc c then iV c bs else sJ c bs
theorem jS:∀ (bs:List Int) (c b:Int),iV c (bs++[b])=iV c bs++[(tf c bs).fmod b]
 | [],_,_=>rfl
 | a :: bs,c,b=>by rw [List.cons_append,iV,iV,jS bs]; rfl
theorem iL:∀ (bs:List Int) (c:Int),(iV c bs).length=bs.length
 | [],_=>rfl
 | _ :: bs,c=>congrArg (· + 1) (iL bs _)
theorem ja (c:Int) (bs:List Int):(nums c bs).length=bs.length:=by
 unfold nums
 split
 · exact iL bs c
 · simp [sJ]
theorem nR:∀ (bs:List Int) (c:Int),(∀ b ∈ bs,0 < b)->∀ (i:Nat),i < bs.length->0<=(iV c bs).getD i 0/\(iV c bs).getD i 0 < bs.getD i 0
 | b :: bs,c,h,0,_=>by
   have:=h b (List.mem_cons_self ..)
   exact ⟨Int.fmod_nonneg_of_pos c this,Int.fmod_lt_of_pos c this⟩
 | b :: bs,c,h,i + 1,hi=>by
   have:=nR bs (c.fdiv b) (λx hx=>h x (List.mem_cons_of_mem _ hx)) i (by simpa using hi)
   simpa [iV] using this
theorem fS {c:Int} {bs:List Int} (h:∀ b ∈ bs,0 < b) {i:Nat} (hi:i < bs.length):0<=(nums c bs).getD i 0/\(nums c bs).getD i 0 < bs.getD i 0:=by
 unfold nums
 split
 · exact nR bs c h i hi
 · have hp:0 < bs.getD i 0:=h _ (by simp [hi])
   have e:(sJ c bs).getD i 0=uY c i (bs.getD i 0):=by simp [sJ,hi]
   rw [e]
   exact ⟨Int.fmod_nonneg_of_pos _ hp,Int.fmod_lt_of_pos _ hp⟩
theorem take_snoc {α:Type} {xs:List α} {i:Nat} (d:α) (h:i < xs.length):xs.take (i + 1)=xs.take i++[xs.getD i d]:=by
 rw [List.take_add_one,List.getElem?_eq_getElem h]
 simp [h]
theorem rb {b:Int} (h0:0 < b) (h:b < 2 ^ 60):0 < b/\aK b:=⟨h0,mkD (by omega) (by omega)⟩
noncomputable def cf (ds:List D) (r:Sl):Prop:=∃ (c:Int) (bs:List Int),ds=[.int c,.lst (bs.map .int)]/\bs.length<=10000/\(∀ b ∈ bs,0 < b/\aK b)/\r=.o ((nums c bs).map .int)
noncomputable def dtR (r:List Int):D:=.lst (r.map .int)
structure Dt (n b:Nat) (Ms:List (List Int)):Prop where
 n7:n<=7
 len:Ms.length=n
 row:∀ r ∈ Ms,r.length=n/\∀ x ∈ r,x.natAbs<=2 ^ b
 b1:n * (b + 3)<=3800
 b2:b<=3800
noncomputable def dtM (Ms:List (List Int)) (i j:Nat):Rat:=(((Ms.getD i []).getD j 0:Int):Rat)
theorem Dt.ri {n b:Nat} {Ms:List (List Int)} (h:Dt n b Ms) (i:Nat) (hi:i<=n):RI n i (dtM Ms) (kS Ms i):=n5 h.len (λ_ _ _ _=>rfl) i hi
theorem atR {row:List Int} {j:Nat} (h:j < row.length):atI (row.map D.int) (j:Int)=some (.int (row.getD j 0)):=cC (i:=(j:Int)) (by omega) (by omega)
section
variable {P:Program} {w:World} {K:PySem.W.Frag} {mg:Str->Option Value} {base:Heap} {k:Nat} {f:Addr} {fd:FuncData} {qual:Str}
theorem kM (F:Fun K "_law_numbers" qual (top 55) f fd) (hb:∀ x ∈ ai,mg x=none):aJ P w K mg base CX0 (k + 1) f fd ["_law_cell_here","_law_bases"] (spD K cf):=by
 refine fnD F fI hb (by rintro _ _ ⟨_,_,rfl,_⟩; rfl) ?_
 rintro _ _ ⟨c,bs,rfl,hl,hbs,rfl⟩ cdv A outer s H E b
 have nd:=fI.nd
 have hp:∀ i,i < bs.length->0 < bs.getD i 0/\aK (bs.getD i 0):=λi hi=>hbs _ (by simp [hi])
 refine aF 2 nd (ba af) ?_
 refine aT (aH (aQ b (aa (ae 0) af) jO) (aC ag ag (fH ⟨by decide,by decide,by decide⟩)) pG) (λh=>?_) λh=>?_
 · refine gJ 3 (λi τ=>∃ s3,τ=[.d (.int (tf c (bs.take i))),.d (.lst (bs.map .int)),.o ((iV c (bs.take i)).map .int),s3,.un,.un]) b nd (bD (ae 1)) uw ⟨_,rfl⟩ (λi hi τ h=>?_) λτ h=>?_
   · obtain ⟨s3,rfl⟩:=h
     have hi:i < bs.length:=by simpa using hi
     obtain ⟨p1,p2⟩:=hp i hi
     refine nF 2 (aC (ae 0) (ae 3) (bM (by omega))) ?_ ?_
     · rw [List.length_map,iL,List.length_take]; omega
     refine aF 0 nd (aC (ae 0) (ae 3) (bW p2)) (aZ ?_)
     apply ex1
     show [Sl.d (.int ((tf c (bs.take i)).fdiv (bs.getD i 0))),_,Sl.o _,_,_,_]=_
     rw [take_snoc 0 hi,jS,List.map_append]
     unfold tf
     rw [List.foldl_append]
     rfl
   · obtain ⟨s3,rfl⟩:=h
     refine q0 2 ?_
     rw [List.length_map,List.take_of_length_le (Nat.le_refl _)]
     unfold nums
     rw [if_pos (of_decide_eq_true h)]
 · refine rE 4 3 (λi τ=>∃ s3 s4 s5,τ=[.d (.int c),.d (.lst (bs.map .int)),.o (((List.range i).map λk=>uY c k (bs.getD k 0)).map .int),s3,s4,s5]) b nd (wN b (ae 1)) xi ⟨_,_,_,rfl⟩ (λi hi τ h=>?_) λτ h=>?_
   · obtain ⟨s3,s4,s5,rfl⟩:=h
     have hi:i < bs.length:=by rw [fN,List.length_map] at hi; exact hi
     obtain ⟨p1,p2⟩:=hp i hi
     refine aF 5 nd (aC (aC (aC (aC (aC (ae 0) ag (bR (mkR (by decide)))) (aC (aC (ae 4) (ae 4) (bR (mkL (by omega)))) ag (bR (mkR (by decide)))) bX) (aC (ae 4) ag (bR (mkR (by decide)))) bX) ag bX) ag (bM (by decide))) ?_
     refine nF 2 (aC (aC (aC (aC (aC (aC (ae 5) ag (bR (mkR (by decide)))) (ae 0) bX) (aC ag (ae 4) (bR (mkL (by decide)))) bX) ag (bM (by decide))) ag (bW (mkD (by decide) (by decide)))) (ae 3) (bM (by omega))) ?_ (aZ ?_)
     · rw [List.length_map,List.length_map,List.length_range]; omega
     apply ex3
     rw [List.range_succ,List.map_append,List.map_append]
     rfl
   · obtain ⟨s3,s4,s5,rfl⟩:=h
     refine q0 2 ?_
     rw [fN,List.length_map]
     unfold nums
     rw [if_neg (of_decide_eq_false h)]
     rfl
end
noncomputable def frD (q:Rat):D:=.tup [.int q.num,.int (q.den:Nat)]
theorem tD (x:Rat):x * (((x.den:Nat):Int):Rat)=(x.num:Rat):=by
 have h:mkRat x.num x.den=x:=by rw [<- Rat.normalize_eq_mkRat x.den_nz]; exact Rat.normalize_self x
 rw [Rat.mkRat_eq_div] at h
 have hd:((x.den:Nat):Rat) ≠ 0:=λz=>x.den_nz (Rat.natCast_eq_zero_iff.mp z)
 rw [Rat.intCast_natCast]
 conv=>lhs; lhs; rw [<- h]
 exact Rat.div_mul_cancel hd
theorem mZ {t b:Int} {x:Rat} (hb:0 < b) (h:(t:Rat)=x * (b:Rat)):x.num=t / (Int.gcd t b:Int)/\((x.den:Nat):Int)=b / (Int.gcd t b:Int):=by
 have hb0:((b.toNat:Nat):Rat) ≠ 0:=λz=>by have:=Rat.natCast_eq_zero_iff.mp z; omega
 have hbb:((b:Int):Rat)=((b.toNat:Nat):Rat):=by rw [<- Rat.intCast_natCast,Int.toNat_of_nonneg (by omega)]
 have e:x=mkRat t b.toNat:=by
   rw [Rat.mkRat_eq_div,h,hbb,Rat.mul_div_cancel hb0]
 have g:b.toNat.gcd t.natAbs=Int.gcd t b:=by
   rw [Int.gcd,Nat.gcd_comm,show b.natAbs=b.toNat by omega]
 have nz:¬ b.toNat=0:=by omega
 constructor
 · rw [e,Rat.num_mkRat,if_neg nz,g]
 · rw [e,Rat.den_mkRat,if_neg nz,g,Int.natCast_ediv,Int.toNat_of_nonneg (by omega)]
theorem den_pos (q:Rat):0 < ((q.den:Nat):Int):=by have:=q.den_pos; omega
theorem uX {b:Int} (hb:0 < b):(b:Rat) ≠ 0:=λz=>by have:=Rat.intCast_eq_zero_iff.mp z; omega
noncomputable def Bd (n:Nat) (i:Int):Prop:=i.natAbs < 2 ^ n
theorem Bd.mono {m n:Nat} {i:Int} (h:Bd m i) (hm:m<=n):Bd n i:=Nat.lt_of_lt_of_le h (Nat.pow_le_pow_right (by decide) hm)
theorem Bd.log {n:Nat} {i:Int} (h:Bd n i) (hn:0 < n):i.natAbs.log2 < n:=by
 rcases Nat.eq_zero_or_pos i.natAbs with z | z
 · rw [z]; exact hn
 · exact (Nat.log2_lt (by omega)).mpr h
theorem Bd.mul {m n:Nat} {i j:Int} (h:Bd m i) (g:Bd n j):Bd (m + n) (i * j):=by
 unfold Bd at *
 rw [Int.natAbs_mul,Nat.pow_add]
 rcases Nat.eq_zero_or_pos j.natAbs with z | z
 · rw [z,Nat.mul_zero]; exact Nat.mul_pos (Nat.two_pow_pos m) (Nat.two_pow_pos n)
 · exact Nat.lt_of_lt_of_le (Nat.mul_lt_mul_of_pos_right h z) (Nat.mul_le_mul_left _ (Nat.le_of_lt g))
theorem Bd.add {n:Nat} {i j:Int} (h:Bd n i) (g:Bd n j):Bd (n + 1) (i + j):=by
 unfold Bd at *
 rw [Nat.pow_succ]
 omega
theorem Bd.neg {n:Nat} {i:Int} (h:Bd n i):Bd n (-i):=by unfold Bd at *; rwa [Int.natAbs_neg]
theorem Bd.sub {n:Nat} {i j:Int} (h:Bd n i) (g:Bd n j):Bd (n + 1) (i - j):=by rw [Int.sub_eq_add_neg]; exact h.add g.neg
theorem Bd.aN {m n:Nat} {i j:Int} (h:Bd m i) (g:Bd n j) (hm:m<=1000000) (hn:n<=1000000):aN i j:=
 .inr (.inr ⟨(h.mono (Nat.le_succ_of_le hm)).log (by omega) |> λz=>by
   rcases Nat.eq_zero_or_pos i.natAbs with q | q
   · rw [q]; decide
   · exact Nat.lt_of_lt_of_le ((Nat.log2_lt (by omega)).mpr h) hm,by
   rcases Nat.eq_zero_or_pos j.natAbs with q | q
   · rw [q]; decide
   · exact Nat.lt_of_lt_of_le ((Nat.log2_lt (by omega)).mpr g) hn⟩)
theorem Bd.aK {n:Nat} {j:Int} (h:Bd n j) (h0:j ≠ 0) (hn:n<=9000):aK j:=⟨h0,Nat.lt_of_lt_of_le ((Nat.log2_lt (by omega)).mpr h) hn⟩
theorem Bd.of_dvd {n:Nat} {i j:Int} (h:Bd n j) (hd:i ∣ j) (h0:j ≠ 0):Bd n i:=Nat.lt_of_le_of_lt (Nat.le_of_dvd (by omega) (Int.natAbs_dvd_natAbs.mpr hd)) h
theorem Bd.ediv {n:Nat} {i:Int} (h:Bd n i) (j:Int):Bd n (i / j):=Nat.lt_of_le_of_lt (Int.natAbs_ediv_le_natAbs i j) h
theorem Bd.gcd {n:Nat} {i j:Int} (h:Bd n j) (h0:j ≠ 0):Bd n (Int.gcd i j:Int):=h.of_dvd (Int.gcd_dvd_right ..) h0
theorem kJ {i j:Int} (h0:j ≠ 0):(Int.gcd i j:Int) ≠ 0:=λz=>h0 (by have:=Int.gcd_eq_zero_iff.mp (Int.ofNat_eq_zero.mp z); exact this.2)
theorem c9 {i j:Int} (t:Int):t.fdiv (Int.gcd i j:Int)=t / (Int.gcd i j:Int):=Int.fdiv_eq_ediv_of_nonneg _ (Int.natCast_nonneg _)
structure Sq (n:Nat) (q:Rat):Prop where
 num:Bd n q.num
 den:Bd n (q.den:Nat)
theorem Sq.mono {m n:Nat} {q:Rat} (h:Sq m q) (hm:m<=n):Sq n q:=⟨h.num.mono hm,h.den.mono hm⟩
noncomputable def whl (x:D):Bool:=eS .int x && !eS .bool x
noncomputable def b7 (ds:List D) (r:Sl):Prop:=∃ x,ds=[x]/\r=.d (.bl (whl x))
noncomputable def bf (ds:List D) (r:Sl):Prop:=∃ a b:Int,ds=[.int a,.int b]/\r=.d (.int (Int.gcd a b:Int))
theorem fx (i:Int):nc i=(i.natAbs:Int):=by unfold nc; omega
noncomputable def jk:D->Bool
 | .tup [.int a,.int b]=>decide (1<=b) && decide ((Int.gcd a b:Int)=1)
 | _=>false
theorem sR (q:Rat):jk (frD q)=true:=by
 have h1:=den_pos q
 have h2:Int.gcd q.num (q.den:Nat)=1:=q.reduced
 show (decide ((1:Int)<=(q.den:Nat)) && decide ((Int.gcd q.num (q.den:Nat):Int)=1))=true
 rw [h2,decide_eq_true (show (1:Int)<=(q.den:Nat) by omega)]
 rfl
theorem qF {xs:List D} (h:xs.length ≠ 2):jk (.tup xs)=false:=by
 unfold jk
 split
 · rename_i e; cases e; exact absurd rfl h
 · rfl
noncomputable def b9 (ds:List D) (r:Sl):Prop:=∃ x,ds=[x]/\r=.d (.bl (jk x))
noncomputable def b5 (ds:List D) (r:Sl):Prop:=∃ (t b:Int) (q:Rat),ds=[.int t,.int b]/\0 < b/\Bd 8999 b/\(t:Rat)=q * (b:Rat)/\r=.d (frD q)
noncomputable def fh (ds:List D) (r:Sl):Prop:=∃ (t b:Int) (q:Rat),ds=[.int t,.int b]/\0 < b/\Bd 8999 b/\(t:Rat)=q * (b:Rat)/\r=.d (frD q)
noncomputable def bN (ds:List D) (r:Sl):Prop:=∃ xs,ds=[.lst xs]/\r=.d (.bl (decide ((1:Int)<=(xs.length:Nat)) && decide (((xs.length:Nat):Int)<=7)))
section
variable {P:Program} {w:World} {K:PySem.W.Frag} {mg:Str->Option Value} {base:Heap} {k:Nat} {f:Addr} {fd:FuncData} {qual:Str}
theorem lD (F:Fun K "is_whole" qual (top 22) f fd) (hb:∀ x ∈ ai,mg x=none):aJ P w K mg base CX0 (k + 1) f fd ["thing"] (spD K b7):=by
 refine fnD F lX hb (by rintro _ _ ⟨_,rfl,_⟩; rfl) ?_
 rintro _ _ ⟨x,rfl,rfl⟩ cdv A outer s H E b
 exact au (cB (bZ .int b (ae 0)) λh=>(eF (uv (bZ .bool b (ae 0))))) rfl
theorem fA (F:Fun K "common_divisor" qual (top 24) f fd) (hb:∀ x ∈ ai,mg x=none):aJ P w K mg base CX0 (k + 1) f fd ["one","other"] (spD K bf):=by
 refine fnD F cK hb (by rintro _ _ ⟨_,_,rfl,_⟩; rfl) ?_
 rintro _ _ ⟨x,y,rfl,rfl⟩ cdv A outer s H E b
 have nd:=cK.nd
 refine aF 2 nd (aQ b (aa (ae 0) af) jO) (aF 3 nd (aQ b (aa (ae 1) af) jO) ?_)
 rw [fx,fx]
 refine nW (λn t τ=>∃ (g:Nat) (s4:Sl),Nat.gcd g n=Int.gcd x y/\t=(!decide ((n:Int)=0))/\τ=[.d (.int x),.d (.int y),.d (.int g),.d (.int n),s4]) b ⟨_,_,_,_,rfl,rfl,rfl⟩ (λn t τ h=>?_) (λn τ h=>?_) λn τ h=>?_
 · obtain ⟨g,s4,_,rfl,rfl⟩:=h
   exact aH (ae 3) ag ly
 · obtain ⟨g,s4,hg,ht,rfl⟩:=h
   have hl:n ≠ 0:=λz=>by simp [z] at ht
   have e:(g:Int).fmod n=((g % n:Nat):Int):=by rw [Int.fmod_eq_emod_of_nonneg _ (by omega)]; rfl
   refine aF 4 nd (aC (ae 2) (ae 3) (bM (by omega))) ?_
   rw [e]
   refine aF 2 nd (ae 3) (aF 3 nd (ae 4) (aZ ⟨g % n,_,Nat.mod_lt g (Nat.pos_of_ne_zero hl),n,_,?_,rfl,rfl⟩))
   rw [<- hg,Nat.gcd_comm n,<- Nat.gcd_rec,Nat.gcd_comm]
 · obtain ⟨g,s4,hg,ht,rfl⟩:=h
   have hl:n=0:=by simpa using ht
   refine au (ae 2) ?_
   rw [<- hg,hl,Nat.gcd_zero_right]
theorem iR (F:Fun K "is_fraction" qual (top 23) f fd) (hb:∀ x ∈ ai,mg x=none) (c_is_whole:Cal P w K mg base k "is_whole" b7) (c_common_divisor:Cal P w K mg base k "common_divisor" bf):aJ P w K mg base CX0 (k + 1) f fd ["thing"] (spD K b9):=by
 refine fnD F iE hb (by rintro _ _ ⟨_,rfl,_⟩; rfl) ?_
 rintro _ _ ⟨x,rfl,rfl⟩ cdv A outer s H E b
 by_cases ht:eS .tuple x=true
 · obtain ⟨xs,rfl⟩:∃ xs,x=.tup xs:=by cases x <;> first | exact ⟨_,rfl⟩ | cases ht
   refine aT (PW.pt (cG (aV (aR (bZ .tuple b (ae 0)))) λh=>(cX (aH (aQ b (aa (ae 0) af) vZ) ag ly)))) (λh=>?_) λh=>?_
   · refine au fj ?_
     have h:(!decide ((xs.length:Int)=2))=true:=h
     have:xs.length ≠ 2:=λz=>by rw [z] at h; cases h
     rw [qF this]
   · have h:(!decide ((xs.length:Int)=2))=false:=h
     have h2:xs.length=2:=by simp at h; omega
     obtain ⟨u,v,rfl⟩:∃ u v,xs=[u,v]:=by
       match xs,h2 with
       | [u,v],_=>exact ⟨u,v,rfl⟩
     refine aT (PW.pt (cG (aV (aR (x_call b c_is_whole (aa (aG (ae 0) ag (fP (a4 (i:=0) rfl))) af) ⟨_,rfl,rfl⟩))) λh=>(cX (aV (aR (x_call b c_is_whole (aa (aG (ae 0) ag (fP (a4 (i:=1) rfl))) af) ⟨_,rfl,rfl⟩)))))) (λh=>?_) λh=>?_
     · refine au fj ?_
       have:jk (.tup [u,v])=false:=by cases u <;> cases v <;> first | rfl | cases h
       rw [this]
     · obtain ⟨i,j,rfl,rfl⟩:∃ i j,u=.int i/\v=.int j:=by cases u <;> cases v <;> first | exact ⟨_,_,rfl,rfl⟩ | cases h
       exact au (cB (cA (aG (ae 0) ag (fP (a4 (i:=1) rfl))) ag pG) λh=>(eF (cA (x_call b c_common_divisor (aa (aG (ae 0) ag (fP (a4 (i:=0) rfl))) (aa (aG (ae 0) ag (fP (a4 (i:=1) rfl))) af)) ⟨_,_,rfl,rfl⟩) ag bt))) rfl
 · have e:eS .tuple x=false:=by simpa using ht
   have ef:jk x=false:=by cases x <;> first | rfl | cases e
   refine aT (PW.pt (cG (q:=true) (aV (aR (bZ .tuple b (ae 0)))) λh=>(by rw [e] at h; cases h))) (λh=>?_) λh=>?_
   · refine au fj ?_
     rw [ef]
   · rw [Bool.or_true] at h; cases h
theorem fg (F:Fun K "in_lowest_terms" qual (top 25) f fd) (hb:∀ x ∈ ai,mg x=none) (c_common_divisor:Cal P w K mg base k "common_divisor" bf):aJ P w K mg base CX0 (k + 1) f fd ["top","bottom"] (spD K b5):=by
 refine fnD F cx hb (by rintro _ _ ⟨_,_,_,rfl,_⟩; rfl) ?_
 rintro _ _ ⟨t,c,q,rfl,h0,h1,hq,rfl⟩ cdv A outer s H E b
 have nd:=cx.nd
 refine aF 2 nd (x_call b c_common_divisor (aa (ae 0) (aa (ae 1) af)) ⟨_,_,rfl,rfl⟩) ?_
 have dv:aK (Int.gcd t c:Int):=(h1.gcd (by omega)).aK (kJ (by omega)) (by decide)
 obtain ⟨e1,e2⟩:=mZ h0 hq
 refine cc (aH (ae 1) ag mJ) (decide_eq_false (by omega)) (au (eK (aa (aC (ae 0) (ae 2) (bW dv)) (aa (aC (ae 1) (ae 2) (bW dv)) af))) ?_)
 rw [c9,c9,<- e1,<- e2]
 rfl
theorem lB (F:Fun K "fraction" qual (top 26) f fd) (hb:∀ x ∈ ai,mg x=none) (c_in_lowest_terms:Cal P w K mg base k "in_lowest_terms" b5) (c_is_whole:Cal P w K mg base k "is_whole" b7):aJ P w K mg base CX0 (k + 1) f fd ["top","bottom"] (spD K fh):=by
 refine fnD F lG hb (by rintro _ _ ⟨_,_,_,rfl,_⟩; rfl) ?_
 rintro _ _ ⟨t,c,q,rfl,h0,h1,hq,rfl⟩ cdv A outer s H E b
 refine cc (PW.pt (cG (aV (aR (x_call b c_is_whole (aa (ae 0) af) ⟨_,rfl,rfl⟩))) λh=>(cX (aV (aR (x_call b c_is_whole (aa (ae 1) af) ⟨_,rfl,rfl⟩)))))) rfl ?_
 refine cc (aH (ae 1) ag bt) (decide_eq_false (by omega)) ?_
 exact au (x_call b c_in_lowest_terms (aa (ae 0) (aa (ae 1) af)) ⟨t,c,q,rfl,h0,h1,hq,rfl⟩) rfl
theorem gA (F:Fun K "is_short_list" qual (top 29) f fd) (hb:∀ x ∈ ai,mg x=none) (y_MOST:∃ t,mg "MOST" = some (.int 7 t)):aJ P w K mg base CX0 (k + 1) f fd ["thing"] (spD K bN):=by
 refine fnD F cY hb (by rintro _ _ ⟨_,rfl,_⟩; rfl) ?_
 rintro _ _ ⟨xs,rfl,rfl⟩ cdv A outer s H E b
 exact au (cB (bZ .list b (ae 0)) λh=>(eF (nP ag (aQ b (aa (ae 0) af) cj) (qz y_MOST) sZ sZ).1)) rfl
end
noncomputable def rwQ (r:List Rat):D:=.lst (r.map frD)
noncomputable def tbQ (M:List (List Rat)):D:=.lst (M.map rwQ)
structure Tq (R C:Nat) (M:List (List Rat)):Prop where
 r1:1<=R
 r7:R<=7
 c1:1<=C
 c7:C<=7
 len:M.length=R
 row:∀ r ∈ M,r.length=C
theorem eV {α:Type} {f:α->D} {xs:List α} (d:α):∀ i (h:i < (xs.map f).length),(xs.map f)[i]=f (xs.getD i d):=λi h=>by
 have:i < xs.length:=by simpa using h
 simp [this]
theorem a5 {α:Type} {f:α->D} {xs:List α} (d:α) {i:Nat} (h:i < xs.length):atI (xs.map f) (i:Int)=some (f (xs.getD i d)):=a4 (by simp [h])
theorem bL {α:Type} {xs:List α} {d:α} {i:Nat} (h:i < xs.length):xs.getD i d ∈ xs:=by simp [h]
theorem Tq.at_ {R C:Nat} {M:List (List Rat)} (h:Tq R C M) {i:Nat} (hi:i < R):(M.getD i []).length=C:=h.row _ (bL (by rw [h.len]; exact hi))
theorem qm (n:Nat) (f:Nat->Bool) (h:∀ i,i < n->f i=true):((List.range n).map f).all id=true:=by
 rw [List.all_map,List.all_eq_true]
 intro i hi
 exact h i (List.mem_range.mp hi)
structure Qs (d v:Nat) (q:Rat):Prop where
 den:Bd d (q.den:Nat)
 val:q.num.natAbs<=2 ^ v * q.den
theorem bI {X:Cx} {xs:List D} {n:Nat} (h:xs.length=n):gx X (.builtin "len") [.lst xs] (.d (.int n)):=h ▸ cj
theorem fD {α:Type} (f:α->D) (xs:List α) (d:α) {m:Nat} (h:m=xs.length):(List.range m).map (λi=>f (xs.getD i d))=xs.map f:=by
 subst h
 refine List.ext_getElem (by simp) λi h1 h2=>?_
 have:i < xs.length:=by simpa using h2
 simp [this]
theorem rY {m:Int} {n:Nat} (i:Nat) (h:i < (gz m n).length):(gz m n)[i]=.int (m + (i:Nat)):=eP m n i h
noncomputable def ie (ds:List D) (r:Sl):Prop:=∃ q:List Rat,ds=[rwQ q]/\1<=q.length/\q.length<=7/\r=.d (.bl true)
noncomputable def eZ (ds:List D) (r:Sl):Prop:=∃ (R C:Nat) (M:List (List Rat)),ds=[tbQ M]/\Tq R C M/\r=.d (.bl true)
noncomputable def bh (ds:List D) (r:Sl):Prop:=∃ (R C:Nat) (M:List (List Rat)),ds=[tbQ M]/\Tq R C M/\r=.d .non
structure Pk (n:Nat) (ps:List Int):Prop where
 len:ps.length<=1000
 at_:∀ i,i < ps.length->0<=ps.getD i 0/\ps.getD i 0 < n
noncomputable def pkL {α:Type} (xs:List α) (ps:List Int) (d:α):List α:=ps.map λp=>xs.getD p.toNat d
noncomputable def iW (ds:List D) (r:Sl):Prop:=∃ (q:List Rat) (ps:List Int),ds=[rwQ q,.lst (ps.map .int)]/\Pk q.length ps/\r=.o ((pkL q ps 0).map frD)
theorem uy {α:Type} {f:α->D} {xs:List α} (d:α) {p:Int} (h:0<=p/\p < xs.length):atI (xs.map f) p=some (f (xs.getD p.toNat d)):=by
 obtain ⟨n,rfl⟩:=Int.eq_ofNat_of_zero_le h.1
 rw [Int.toNat_natCast]
 exact a5 d (by omega)
theorem u0 {α:Type} (f:α->D) (xs:List α) (ps:List Int) (d:α) {m:Nat} (h:m=ps.length):(List.range m).map (λi=>f (xs.getD (ps.getD i 0).toNat d))=(pkL xs ps d).map f:=by
 unfold pkL
 rw [List.map_map]
 exact fD (λp:Int=>f (xs.getD p.toNat d)) ps 0 h
noncomputable def chM (M:List (List Rat)) (rs cs:List Int):List (List Rat):=rs.map λr=>pkL (M.getD r.toNat []) cs 0
noncomputable def d8 (ds:List D) (r:Sl):Prop:=∃ (R C:Nat) (M:List (List Rat)) (rs cs:List Int),ds=[tbQ M,.lst (rs.map .int),.lst (cs.map .int)]/\Tq R C M/\Pk R rs/\Pk C cs/\r=.o ((chM M rs cs).map rwQ)
section
variable {P:Program} {w:World} {K:PySem.W.Frag} {mg:Str->Option Value} {base:Heap} {k:Nat} {f:Addr} {fd:FuncData} {qual:Str}
theorem pR (F:Fun K "is_row" qual (top 30) f fd) (hb:∀ x ∈ ai,mg x=none) (c_is_short_list:Cal P w K mg base k "is_short_list" bN) (c_is_fraction:Cal P w K mg base k "is_fraction" b9):aJ P w K mg base CX0 (k + 1) f fd ["thing"] (spD K ie):=by
 refine fnD F jX hb (by rintro _ _ ⟨_,rfl,_⟩; rfl) ?_
 rintro _ _ ⟨q,rfl,h1,h7,rfl⟩ cdv A outer s H E b
 refine au (cB (x_call b c_is_short_list (aa (ae 0) af) ⟨_,rfl,rfl⟩) λh=>(eF (aQ b (aa (aM (cI (cmp 0 (f:=λ_=>.bl true) b (bD (ae 0)) (eV (f:=frD) (xs:=q) 0) (by rw [List.length_map]; omega) λi hi s0 H0 fp=>(x_call (b.comp s0 H0 _ fp) c_is_fraction (aa (ae 0) af) ⟨_,rfl,by rw [sR]⟩)))) af) (dM b.calm ((List.range (q.map frD).length).map λ_=>true) (by rw [List.map_map]; rfl))))) ?_
 rw [List.length_map,decide_eq_true (by omega),decide_eq_true (by omega),qm _ _ λ_ _=>rfl]
 rfl
theorem kZ (F:Fun K "is_table" qual (top 31) f fd) (hb:∀ x ∈ ai,mg x=none) (c_is_short_list:Cal P w K mg base k "is_short_list" bN) (c_is_row:Cal P w K mg base k "is_row" ie):aJ P w K mg base CX0 (k + 1) f fd ["thing"] (spD K eZ):=by
 refine fnD F gN hb (by rintro _ _ ⟨_,_,_,rfl,_⟩; rfl) ?_
 rintro _ _ ⟨R,C,M,rfl,t,rfl⟩ cdv A outer s H E b
 have hl:(M.map rwQ).length=R:=by rw [List.length_map,t.len]
 have r1:=t.r1
 have r7:=t.r7
 have c1:=t.c1
 have c7:=t.c7
 refine cc (PW.pt (cG (aV (aR (x_call b c_is_short_list (aa (ae 0) af) ⟨_,rfl,rfl⟩))) λh=>(cX (aV (aR (aQ b (aa (aM (cI (cmp 0 (f:=λ_=>.bl true) b (bD (ae 0)) (eV (f:=rwQ) (xs:=M) []) (by rw [hl]; omega) λi hi s0 H0 fp=>(x_call (b.comp s0 H0 _ fp) c_is_row (aa (ae 0) af) ⟨_,rfl,?_,?_,rfl⟩)))) af) (dM b.calm ((List.range (M.map rwQ).length).map λ_=>true) (by rw [List.map_map]; rfl)))))))) ?_ ?_
 · rw [t.at_ (by rw [hl] at hi; exact hi)]; exact c1
 · rw [t.at_ (by rw [hl] at hi; exact hi)]; exact c7
 · rw [hl,decide_eq_true (by omega),decide_eq_true (by omega),qm _ _ λ_ _=>rfl]; rfl
 have e0:atI (M.map rwQ) 0=some (rwQ (M.getD 0 [])):=a5 [] (i:=0) (by rw [t.len]; omega)
 refine au (aQ b (aa (aM (cI (cmp 0 (f:=λ_=>.bl (decide ((C:Int)=(C:Int)))) b (bD (ae 0)) (eV (f:=rwQ) (xs:=M) []) (by rw [hl]; omega) λi hi s0 H0 fp=>(cA (aQ (b.comp s0 H0 _ fp) (aa (ae 0) af) (bI (n:=C) (by rw [List.length_map]; exact t.at_ (by rw [hl] at hi; exact hi)))) (aQ (b.comp s0 H0 _ fp) (aa (aG (ae 1) ag (ax e0)) af) (bI (n:=C) (by rw [List.length_map]; exact t.at_ (by omega)))) bt)))) af) (dM b.calm ((List.range (M.map rwQ).length).map λ_=>decide ((C:Int)=(C:Int))) (by rw [List.map_map]; rfl))) ?_
 rw [qm _ _ λ_ _=>decide_eq_true rfl]
theorem jq (F:Fun K "look_table" qual (top 34) f fd) (hb:∀ x ∈ ai,mg x=none) (c_is_table:Cal P w K mg base k "is_table" eZ):aJ P w K mg base CX0 (k + 1) f fd ["thing"] (spD K bh):=by
 refine fnD F eW hb (by rintro _ _ ⟨_,_,_,rfl,_⟩; rfl) ?_
 rintro _ _ ⟨R,C,M,rfl,t,rfl⟩ cdv A outer s H E b
 exact cc (aV (aR (x_call b c_is_table (aa (ae 0) af) ⟨R,C,M,rfl,t,rfl⟩))) rfl (aZ rfl)
theorem oR (F:Fun K "picked" qual (top 36) f fd) (hb:∀ x ∈ ai,mg x=none):aJ P w K mg base CX0 (k + 1) f fd ["things","places"] (spD K iW):=by
 refine fnD F pv hb (by rintro _ _ ⟨_,_,rfl,_⟩; rfl) ?_
 rintro _ _ ⟨q,ps,rfl,h,rfl⟩ cdv A outer s H E b
 refine au (cI (cmp 0 (f:=λi=>frD (q.getD (ps.getD i 0).toNat 0)) b (bD (ae 1)) (eV (f:=D.int) (xs:=ps) 0) (by rw [List.length_map]; have:=h.len; omega) λi hi s0 H0 fp=>(aG (ae 1) (ae 0) (ax (uy 0 (h.at_ i (by simpa using hi))))))) ?_
 rw [u0 frD q ps 0 (List.length_map ..)]
theorem pH (F:Fun K "chosen" qual (top 38) f fd) (hb:∀ x ∈ ai,mg x=none) (c_picked:Cal P w K mg base k "picked" iW):aJ P w K mg base CX0 (k + 1) f fd ["table","rows","columns"] (spD K d8):=by
 refine fnD F pN hb (by rintro _ _ ⟨_,_,_,_,_,rfl,_⟩; rfl) ?_
 rintro _ _ ⟨R,C,M,rs,cs,rfl,t,hr,hc,rfl⟩ cdv A outer s H E b
 refine au (cI (cmp 0 (f:=λi=>rwQ (pkL (M.getD (rs.getD i 0).toNat []) cs 0)) b (bD (ae 1)) (eV (f:=D.int) (xs:=rs) 0) (by rw [List.length_map]; have:=hr.len; omega) λi hi s0 H0 fp=>?_)) ?_
 · have hi:=hr.at_ i (by simpa using hi)
   exact aM (x_call (b.comp s0 H0 _ fp) c_picked (aa (aG (ae 2) (ae 0) (ax (uy [] (by rw [t.len]; exact hi)))) (aa (ae 1) af)) ⟨_,cs,rfl,by rw [t.at_ (by omega)]; exact hc,rfl⟩)
 · refine congrArg Sl.o ((fD (λr:Int=>rwQ (pkL (M.getD r.toNat []) cs 0)) rs 0 (List.length_map ..)).trans ?_)
   unfold chM
   rw [List.map_map]
   rfl
end
noncomputable def scS (s:Int) (q:Rat):Int:=s / (Int.gcd s (q.den:Nat):Int) * (q.den:Nat)
noncomputable def scL (r:List Rat):Int:=r.foldl scS 1
theorem uR {s:Int} (hs:0 < s) (q:Rat):0 < scS s q/\s ∣ scS s q/\((q.den:Nat):Int) ∣ scS s q:=by
 have hq:=den_pos q
 have g0:0 < (Int.gcd s (q.den:Nat):Int):=by
   have:=kJ (i:=s) (j:=(q.den:Nat)) (by omega)
   have:=Int.natCast_nonneg (Int.gcd s (q.den:Nat))
   omega
 have d1:(Int.gcd s (q.den:Nat):Int) ∣ s:=Int.gcd_dvd_left ..
 have d2:(Int.gcd s (q.den:Nat):Int) ∣ ((q.den:Nat):Int):=Int.gcd_dvd_right ..
 have p1:0 < s / (Int.gcd s (q.den:Nat):Int):=Int.ediv_pos_of_pos_of_dvd hs (by omega) d1
 refine ⟨Int.mul_pos p1 hq,?_,Int.dvd_mul_left ..⟩
 obtain ⟨k,hk⟩:=d2
 refine ⟨k,?_⟩
 unfold scS
 conv=>lhs; rhs; rw [hk]
 rw [<- Int.mul_assoc,Int.ediv_mul_cancel d1]
theorem pX (r:List Rat) (q:Rat):scL (r++[q])=scS (scL r) q:=by unfold scL; rw [List.foldl_append]; rfl
theorem mD:∀ (r:List Rat) (s:Int),0 < s->0 < r.foldl scS s/\s ∣ r.foldl scS s/\∀ q ∈ r,((q.den:Nat):Int) ∣ r.foldl scS s
 | [],s,h=>⟨h,Int.dvd_refl _,λ_ z=>nomatch z⟩
 | q :: r,s,h=>by
   obtain ⟨a1,a2,a3⟩:=uR h q
   obtain ⟨b1,b2,b3⟩:=mD r _ a1
   exact ⟨b1,Int.dvd_trans a2 b2,λx hx=>(List.mem_cons.mp hx).elim (λe=>by rw [e]; exact Int.dvd_trans a3 b2) (b3 x)⟩
theorem kL (r:List Rat):0 < scL r/\∀ q ∈ r,((q.den:Nat):Int) ∣ scL r:=⟨(mD r 1 (by decide)).1,(mD r 1 (by decide)).2.2⟩
theorem rm {d:Nat}:∀ (r:List Rat) (s:Int) (n:Nat),Bd n s->(∀ q ∈ r,Bd d (q.den:Nat))->Bd (n + r.length * d) (r.foldl scS s)
 | [],s,n,h,_=>by simpa using h
 | q :: r,s,n,h,hd=>by
   have h1:Bd (n + d) (scS s q):=(h.ediv _).mul (hd q (List.mem_cons_self ..))
   have:=rm r _ _ h1 λx hx=>hd x (List.mem_cons_of_mem _ hx)
   rw [List.length_cons,Nat.succ_mul]
   rwa [show n + d + r.length * d=n + (r.length * d + d) by omega] at this
theorem iF {d:Nat} {r:List Rat} (h:∀ q ∈ r,Bd d (q.den:Nat)):Bd (1 + r.length * d) (scL r):=rm r 1 1 (by unfold Bd; decide) h
noncomputable def e7 (ds:List D) (r:Sl):Prop:=∃ (q:List Rat) (d:Nat),ds=[rwQ q]/\q.length<=1000/\(∀ x ∈ q,Bd d (x.den:Nat))/\1 + q.length * d<=8999/\d<=8999/\r=.d (.int (scL q))
noncomputable def whR (r:List Rat) (s:Int):List Int:=r.map λq=>q.num * (s / (q.den:Nat))
theorem yB {q:Rat} {s:Int} (h:((q.den:Nat):Int) ∣ s):((q.num * (s / (q.den:Nat)):Int):Rat)=q * (s:Rat):=by
 obtain ⟨k,rfl⟩:=h
 have:=den_pos q
 rw [Int.mul_ediv_cancel_left _ (by omega),Rat.intCast_mul,Rat.intCast_mul,<- Rat.mul_assoc,tD]
theorem wG {d v n:Nat} {q:Rat} {s:Int} (hq:Qs d v q) (h:((q.den:Nat):Int) ∣ s) (hs:Bd n s):Bd (v + n) (q.num * (s / (q.den:Nat))):=by
 obtain ⟨k,rfl⟩:=h
 have hd:=den_pos q
 rw [Int.mul_ediv_cancel_left _ (by omega)]
 unfold Bd at hs ⊢
 rw [Int.natAbs_mul,Nat.pow_add]
 rw [Int.natAbs_mul,Int.natAbs_natCast] at hs
 have h1:q.num.natAbs * k.natAbs<=2 ^ v * q.den * k.natAbs:=Nat.mul_le_mul_right _ hq.val
 rw [Nat.mul_assoc] at h1
 exact Nat.lt_of_le_of_lt h1 (Nat.mul_lt_mul_of_pos_left hs (Nat.two_pow_pos v))
noncomputable def eI (ds:List D) (r:Sl):Prop:=∃ (q:List Rat) (s:Int) (n:Nat),ds=[rwQ q,.int s]/\q.length<=1000/\(∀ x ∈ q,Sq n x)/\n<=8999/\Bd 8999 s/\r=.o ((whR q s).map .int)
noncomputable def prZ (ns:List Int):Int:=ns.foldl (· * ·) 1
theorem lP (ns:List Int) (n:Int):prZ (ns++[n])=prZ ns * n:=by unfold prZ; rw [List.foldl_append]; rfl
theorem rk {d:Nat}:∀ (r:List Int) (s:Int) (n:Nat),Bd n s->(∀ q ∈ r,Bd d q)->Bd (n + r.length * d) (r.foldl (· * ·) s)
 | [],s,n,h,_=>by simpa using h
 | q :: r,s,n,h,hd=>by
   have:=rk r _ _ (h.mul (hd q (List.mem_cons_self ..))) λx hx=>hd x (List.mem_cons_of_mem _ hx)
   rw [List.length_cons,Nat.succ_mul]
   rwa [show n + d + r.length * d=n + (r.length * d + d) by omega] at this
theorem qU {d:Nat} {r:List Int} (h:∀ q ∈ r,Bd d q):Bd (1 + r.length * d) (prZ r):=rk r 1 1 (by unfold Bd; decide) h
theorem nK:∀ (r:List Int) (s:Int),0 < s->(∀ q ∈ r,0 < q)->0 < r.foldl (· * ·) s
 | [],_,h,_=>h
 | q :: r,s,h,hq=>nK r _ (Int.mul_pos h (hq q (List.mem_cons_self ..))) λx hx=>hq x (List.mem_cons_of_mem _ hx)
theorem sf {r:List Int} (h:∀ q ∈ r,0 < q):0 < prZ r:=nK r 1 (by decide) h
noncomputable def b8 (ds:List D) (r:Sl):Prop:=∃ (q:List Int) (d:Nat),ds=[.lst (q.map .int)]/\(∀ x ∈ q,Bd d x)/\1 + q.length * d<=900000/\d<=900000/\r=.d (.int (prZ q))
noncomputable def cR (ds:List D) (r:Sl):Prop:=∃ (R:Nat) (M:List (List Rat)),ds=[tbQ M]/\Tq R R M/\r=.d .non
noncomputable def whM (M:List (List Rat)) (ss:List Int):List (List Int):=(List.range M.length).map λi=>whR (M.getD i []) (ss.getD i 0)
theorem rX {α β:Type} {f:α->D} {g:β->D} {xs:List α} {ys:List β} (d:α) (e:β) (i:Nat) (h:i < (gP (xs.map f) (ys.map g)).length):(gP (xs.map f) (ys.map g))[i]=.tup [f (xs.getD i d),g (ys.getD i e)]:=by
 rw [de,List.length_map,List.length_map] at h
 have h1:i < xs.length:=by omega
 have h2:i < ys.length:=by omega
 simp [gP,h1,h2]
noncomputable def du (ds:List D) (r:Sl):Prop:=∃ (M:List (List Rat)) (ss:List Int) (n:Nat),ds=[tbQ M,.lst (ss.map .int)]/\M.length=ss.length/\M.length<=1000/\(∀ r ∈ M,r.length<=1000/\∀ x ∈ r,Sq n x)/\n<=8999/\(∀ s ∈ ss,Bd 8999 s)/\r=.o ((whM M ss).map dtR)
noncomputable def pvF (G:List (List Int)) (k:Nat):Nat->Option Nat
 | 0=>none
 | t + 1=>match pvF G k t with
   | some i=>some i
   | none=>if (G.getD (k + t) []).getD k 0 ≠ 0 then some (k + t) else none
noncomputable def pvP (G:List (List Int)) (k:Nat):Option Nat:=pvF G k (G.length - k)
noncomputable def pvD:Option Nat->D
 | none=>.non
 | some i=>.int (i:Nat)
theorem lF {G:List (List Int)} {k:Nat}:∀ t,pvF G k t=none->∀ i,i < t->(G.getD (k + i) []).getD k 0=0
 | t + 1,h,i,hi=>by
   rw [pvF] at h
   cases e:pvF G k t with
   | some j=>rw [e] at h; cases h
   | none=>
     rw [e] at h
     have h:(if (G.getD (k + t) []).getD k 0 ≠ 0 then some (k + t) else none)=none:=h
     by_cases z:i < t
     · exact lF t e i z
     · obtain rfl:i=t:=by omega
       by_cases y:(G.getD (k + i) []).getD k 0=0
       · exact y
       · rw [if_pos y] at h; cases h
theorem lY {G:List (List Int)} {k:Nat}:∀ t j,pvF G k t=some j->k<=j/\j < k + t/\(G.getD j []).getD k 0 ≠ 0
 | t + 1,j,h=>by
   rw [pvF] at h
   cases e:pvF G k t with
   | some i=>
     rw [e] at h
     cases h
     have:=lY t _ e
     exact ⟨this.1,by omega,this.2.2⟩
   | none=>
     rw [e] at h
     have h:(if (G.getD (k + t) []).getD k 0 ≠ 0 then some (k + t) else none)=some j:=h
     split at h
     · rename_i y
       cases h
       exact ⟨by omega,by omega,y⟩
     · cases h
theorem lZ {G:List (List Int)} {k:Nat} {t j:Nat} (h:pvF G k t=some j):∀ u,pvF G k (t + u)=some j
 | 0=>h
 | u + 1=>by rw [<- Nat.add_assoc,pvF,lZ h u]
noncomputable def cP (ds:List D) (r:Sl):Prop:=∃ (n:Nat) (G:List (List Int)) (k:Nat),ds=[.lst (G.map dtR),.int (k:Nat)]/\G.length=n/\n<=1000/\(∀ r ∈ G,r.length=n)/\k < n/\r=.d (pvD (pvP G k))
noncomputable def clR (r p:List Int) (k:Nat) (l:Int) (n:Nat):List Int:=(List.range n).map λj=>((r.getD j 0 * p.getD k 0) - (p.getD j 0 * r.getD k 0)).fdiv l
noncomputable def gj (ds:List D) (r:Sl):Prop:=∃ (n:Nat) (q p:List Int) (k:Nat) (l:Int) (B:Nat),ds=[dtR q,dtR p,.int (k:Nat),.int l]/\q.length=n/\p.length=n/\n<=1000/\k < n/\(∀ x ∈ q,Bd B x)/\(∀ x ∈ p,Bd B x)/\B<=900000/\l ≠ 0/\Bd 8999 l/\r=.o ((clR q p k l n).map .int)
section
variable {P:Program} {w:World} {K:PySem.W.Frag} {mg:Str->Option Value} {base:Heap} {k:Nat} {f:Addr} {fd:FuncData} {qual:Str}
theorem lb (F:Fun K "scale_of" qual (top 46) f fd) (hb:∀ x ∈ ai,mg x=none) (c_common_divisor:Cal P w K mg base k "common_divisor" bf):aJ P w K mg base CX0 (k + 1) f fd ["row"] (spD K e7):=by
 refine fnD F gH hb (by rintro _ _ ⟨_,_,rfl,_⟩; rfl) ?_
 rintro _ _ ⟨q,d,rfl,hl,hd,hb1,hd1,rfl⟩ cdv A outer s H E b
 have nd:=gH.nd
 refine aF 1 nd ag ?_
 refine gJ 2 (g:=λi=>frD (q.getD i 0)) (λi τ=>i<=q.length/\∃ s2,τ=[.d (rwQ q),.d (.int (scL (q.take i))),s2]) b nd (bD (ae 0)) (eV (f:=frD) (xs:=q) 0) ⟨Nat.zero_le _,.un,rfl⟩ (λi hi τ h=>?_) λτ h=>?_
 · obtain ⟨_,s2,rfl⟩:=h
   have hi:i < q.length:=by simpa using hi
   have mm:=bL (d:=(0:Rat)) hi
   have hs:=(kL (q.take i)).1
   have bs:Bd (1 + q.length * d) (scL (q.take i)):=(iF λx hx=>hd x (List.mem_of_mem_take hx)).mono (by
     have:(q.take i).length * d<=q.length * d:=Nat.mul_le_mul_right _ (by rw [List.length_take]; omega)
     omega)
   have et:q.take (i + 1)=q.take i++[q.getD i 0]:=by rw [List.take_succ,List.getElem?_eq_getElem hi]; simp [hi]
   rw [et,pX]
   generalize scL (q.take i)=sc at hs bs ⊢
   generalize q.getD i 0=x at mm ⊢
   have hx:=den_pos x
   have dv:aK (Int.gcd sc (x.den:Nat):Int):=((hd x mm).gcd (by omega)).aK (kJ (by omega)) (by omega)
   refine aF 1 nd (aC (aC (ae 1) (x_call b c_common_divisor (aa (ae 1) (aa (aG (ae 2) ag (fP (a4 (i:=1) rfl))) af)) ⟨_,_,rfl,rfl⟩) (bW dv)) (aG (ae 2) ag (fP (a4 (i:=1) rfl))) (bR ?_)) (aZ ⟨hi,.d (frD x),?_⟩)
   · rw [c9]; exact (bs.ediv _).aN (hd x mm) (by omega) (by omega)
   · rw [c9]; rfl
 · obtain ⟨_,s2,rfl⟩:=h
   rw [List.length_map,List.take_length]
   exact au (ae 1) rfl
theorem j7 (F:Fun K "whole_row" qual (top 47) f fd) (hb:∀ x ∈ ai,mg x=none):aJ P w K mg base CX0 (k + 1) f fd ["row","scale"] (spD K eI):=by
 refine fnD F ku hb (by rintro _ _ ⟨_,_,_,rfl,_⟩; rfl) ?_
 rintro _ _ ⟨q,s0,n,rfl,hl,hq,hn,hs,rfl⟩ cdv A outer s H E b
 refine au (cI (cmp 0 (f:=λi=>.int ((q.getD i 0).num * (s0.fdiv ((q.getD i 0).den:Nat)))) b (bD (ae 0)) (eV (f:=frD) (xs:=q) 0) (by rw [List.length_map]; omega) λi hi s1 H0 fp=>?_)) ?_
 · have sq:=hq _ (bL (d:=(0:Rat)) (by simpa using hi))
   generalize q.getD i 0=x at sq ⊢
   have hx:=den_pos x
   have e:s0.fdiv (x.den:Nat)=s0 / (x.den:Nat):=Int.fdiv_eq_ediv_of_nonneg _ (by omega)
   exact aC (aG (ae 0) ag (fP (a4 (i:=0) rfl))) (aC (ae 1) (aG (ae 0) ag (fP (a4 (i:=1) rfl))) (bW (sq.den.aK (by omega) (by omega)))) (bR (by rw [e]; exact sq.num.aN (hs.ediv _) (by omega) (by omega)))
 · refine congrArg Sl.o ((fD (λx:Rat=>D.int (x.num * (s0.fdiv (x.den:Nat)))) q 0 (List.length_map ..)).trans ?_)
   unfold whR
   rw [List.map_map]
   refine List.map_congr_left λx _=>?_
   simp only [Function.comp]
   rw [Int.fdiv_eq_ediv_of_nonneg _ (by have:=den_pos x; omega)]
theorem fO (F:Fun K "product_of_all" qual (top 49) f fd) (hb:∀ x ∈ ai,mg x=none):aJ P w K mg base CX0 (k + 1) f fd ["numbers"] (spD K b8):=by
 refine fnD F cJ hb (by rintro _ _ ⟨_,_,rfl,_⟩; rfl) ?_
 rintro _ _ ⟨q,d,rfl,hd,hb1,hd1,rfl⟩ cdv A outer s H E b
 have nd:=cJ.nd
 refine aF 1 nd ag ?_
 refine gJ 2 (g:=λi=>.int (q.getD i 0)) (λi τ=>i<=q.length/\∃ s2,τ=[.d (.lst (q.map .int)),.d (.int (prZ (q.take i))),s2]) b nd (bD (ae 0)) (eV (f:=D.int) (xs:=q) 0) ⟨Nat.zero_le _,.un,rfl⟩ (λi hi τ h=>?_) λτ h=>?_
 · obtain ⟨_,s2,rfl⟩:=h
   have hi:i < q.length:=by simpa using hi
   have mm:=bL (d:=(0:Int)) hi
   have bs:Bd (1 + q.length * d) (prZ (q.take i)):=(qU λx hx=>hd x (List.mem_of_mem_take hx)).mono (by
     have:(q.take i).length * d<=q.length * d:=Nat.mul_le_mul_right _ (by rw [List.length_take]; omega)
     omega)
   have et:q.take (i + 1)=q.take i++[q.getD i 0]:=by rw [List.take_succ,List.getElem?_eq_getElem hi]; simp [hi]
   rw [et,lP]
   exact aF 1 nd (aC (ae 1) (ae 2) (bR (bs.aN (hd _ mm) (by omega) (by omega)))) (aZ ⟨hi,_,rfl⟩)
 · obtain ⟨_,s2,rfl⟩:=h
   rw [List.length_map,List.take_length]
   exact au (ae 1) rfl
theorem iH (F:Fun K "look_square" qual (top 45) f fd) (hb:∀ x ∈ ai,mg x=none):aJ P w K mg base CX0 (k + 1) f fd ["table"] (spD K cR):=by
 refine fnD F d0 hb (by rintro _ _ ⟨_,_,rfl,_⟩; rfl) ?_
 rintro _ _ ⟨R,M,rfl,t,rfl⟩ cdv A outer s H E b
 have r1:=t.r1
 have e0:atI (M.map rwQ) 0=some (rwQ (M.getD 0 [])):=a5 [] (i:=0) (by rw [t.len]; omega)
 refine cc (aH (aQ b (aa (ae 0) af) (bI (n:=R) (by rw [List.length_map]; exact t.len))) (aQ b (aa (aG (ae 0) ag (ax e0)) af) (bI (n:=R) (by rw [List.length_map]; exact t.at_ (by omega)))) ly) ?_ (aZ rfl)
 rw [decide_eq_true rfl]; rfl
theorem jr (F:Fun K "whole_rows" qual (top 48) f fd) (hb:∀ x ∈ ai,mg x=none) (c_whole_row:Cal P w K mg base k "whole_row" eI):aJ P w K mg base CX0 (k + 1) f fd ["table","scales"] (spD K du):=by
 refine fnD F jm hb (by rintro _ _ ⟨_,_,_,rfl,_⟩; rfl) ?_
 rintro _ _ ⟨M,ss,n,rfl,hl,h1,hM,hn,hs,rfl⟩ cdv A outer s H E b
 have zl:(gP (M.map rwQ) (ss.map D.int)).length=M.length:=by rw [de,List.length_map,List.length_map]; omega
 refine au (cI (wL 0 1 (g:=λi=>rwQ (M.getD i [])) (g':=λi=>.int (ss.getD i 0)) (f:=λi=>dtR (whR (M.getD i []) (ss.getD i 0))) b (ur b (ae 0) (ae 1)) (rX [] 0) (by rw [zl]; omega) λi hi s0 H0 fp=>?_)) ?_
 · rw [zl] at hi
   obtain ⟨g1,g2⟩:=hM _ (bL (d:=[]) hi)
   exact aM (x_call (b.comp s0 H0 _ fp) c_whole_row (aa (ae 0) (aa (ae 1) af)) ⟨_,_,n,rfl,g1,g2,hn,hs _ (bL (by omega)),rfl⟩)
 · unfold whM
   rw [zl,List.map_map]
   rfl
theorem iQ (F:Fun K "pivot_place" qual (top 51) f fd) (hb:∀ x ∈ ai,mg x=none):aJ P w K mg base CX0 (k + 1) f fd ["grid","k"] (spD K cP):=by
 refine fnD F eJ hb (by rintro _ _ ⟨_,_,_,rfl,_⟩; rfl) ?_
 rintro _ _ ⟨n,G,k0,rfl,hG,h1,hr,hk,rfl⟩ cdv A outer s H E b
 have nd:=eJ.nd
 refine gJ 2 (λi τ=>pvF G k0 i=none/\∃ s2,τ=[.d (.lst (G.map dtR)),.d (.int (k0:Nat)),s2]) b nd (iU b (ae 1) (aQ b (aa (ae 0) af) (bI (n:=n) (by rw [List.length_map]; exact hG))) (by omega)) rY ⟨rfl,.un,rfl⟩ (λi hi τ h=>?_) λτ h=>?_
 · obtain ⟨h0,s2,rfl⟩:=h
   rw [aw] at hi
   have hi':k0 + i < n:=by omega
   have e:((k0:Int) + (i:Int))=((k0 + i:Nat):Int):=by omega
   rw [e]
   have a1:atI (G.map dtR) ((k0 + i:Nat):Int)=some (dtR (G.getD (k0 + i) [])):=a5 [] (by omega)
   have hl:(G.getD (k0 + i) []).length=n:=hr _ (bL (by omega))
   have a2:atI ((G.getD (k0 + i) []).map D.int) (k0:Int)=some (.int ((G.getD (k0 + i) []).getD k0 0)):=atR (by omega)
   refine aT (aH (aG (aG (ae 0) (ae 2) (ax a1)) (ae 1) (ax a2)) ag ly) (λz=>?_) λz=>?_
   · refine au (ae 2) ?_
     have z:(!decide ((G.getD (k0 + i) []).getD k0 0=0))=true:=z
     have z:(G.getD (k0 + i) []).getD k0 0 ≠ 0:=by simpa using z
     have e1:pvF G k0 (i + 1)=some (k0 + i):=by rw [pvF,h0]; exact if_pos z
     have e2:pvP G k0=some (k0 + i):=by
       unfold pvP
       have:=lZ e1 (G.length - k0 - (i + 1))
       rwa [show i + 1 + (G.length - k0 - (i + 1))=G.length - k0 by omega] at this
     rw [e2]
     rfl
   · refine aZ ⟨?_,_,rfl⟩
     have z:(!decide ((G.getD (k0 + i) []).getD k0 0=0))=false:=z
     have z:(G.getD (k0 + i) []).getD k0 0=0:=by simpa using z
     rw [pvF,h0]
     exact if_neg (λy=>y z)
 · obtain ⟨h0,s2,rfl⟩:=h
   rw [aw] at h0
   refine au kO ?_
   have:pvP G k0=none:=by
     unfold pvP
     rw [hG,<- h0]
     congr 1
     omega
   rw [this]
   rfl
theorem mT (F:Fun K "cleared" qual (top 52) f fd) (hb:∀ x ∈ ai,mg x=none):aJ P w K mg base CX0 (k + 1) f fd ["row","pivot_row","k","last"] (spD K gj):=by
 refine fnD F iK hb (by rintro _ _ ⟨_,_,_,_,_,_,rfl,_⟩; rfl) ?_
 rintro _ _ ⟨n,q,p,k0,l,B,rfl,hq,hp,hn,hk,bq,bp,hB,hl,bl,rfl⟩ cdv A outer s H E b
 have nd:=iK.nd
 have zl:(gP (q.map D.int) (p.map D.int)).length=n:=by rw [de,List.length_map,List.length_map]; omega
 refine aF 4 nd (aG (ae 1) (ae 2) (ax (atR (by omega)))) ?_
 refine aF 5 nd (aG (ae 0) (ae 2) (ax (atR (by omega)))) ?_
 refine au (cI (wL 0 1 (g:=λi=>.int (q.getD i 0)) (g':=λi=>.int (p.getD i 0)) (f:=λj=>.int (((q.getD j 0 * p.getD k0 0) - (p.getD j 0 * q.getD k0 0)).fdiv l)) b (ur b (ae 0) (ae 1)) (rX 0 0) (by rw [zl]; omega) λi hi s0 H0 fp=>?_)) ?_
 · rw [zl] at hi
   have m1:=bq _ (bL (d:=(0:Int)) (show i < q.length by omega))
   have m2:=bp _ (bL (d:=(0:Int)) (show k0 < p.length by omega))
   have m3:=bp _ (bL (d:=(0:Int)) (show i < p.length by omega))
   have m4:=bq _ (bL (d:=(0:Int)) (show k0 < q.length by omega))
   exact aC (aC (aC (ae 0) (ae 4) (bR (m1.aN m2 (by omega) (by omega)))) (aC (ae 1) (ae 2) (bR (m3.aN m4 (by omega) (by omega)))) fJ) (ae 3) (bW (bl.aK hl (by decide)))
 · unfold clR
   rw [zl,List.map_map]
   rfl
end
theorem uh {α β:Type} (g:α->β) (x:α):∀ (m:Nat) (ys:List α),(ys.map g).insertIdx m (g x)=(ys.insertIdx m x).map g
 | 0,_=>rfl
 | m + 1,[]=>rfl
 | m + 1,y :: ys=>by rw [List.map_cons,List.insertIdx_succ_cons,List.insertIdx_succ_cons,List.map_cons,uh g x m ys]
theorem my {α:Type} (d:α) {G:List α} {k m:Nat} (h:k + m < G.length) (i:Nat):((G.eraseIdx (k + m)).insertIdx k (G.getD (k + m) d)).getD i d=G.getD (rho k m i) d:=by
 have hl:(G.eraseIdx (k + m)).length=G.length - 1:=List.length_eraseIdx_of_lt h
 simp only [List.getD_eq_getElem?_getD]
 rw [List.getElem?_insertIdx]
 unfold rho
 by_cases h1:i < k
 · rw [if_pos h1,if_pos h1,List.getElem?_eraseIdx_of_lt (by omega)]
 · rw [if_neg h1,if_neg h1]
   by_cases h2:i=k
   · rw [if_pos h2,if_pos h2,if_pos (by omega)]
     rw [List.getElem?_eq_getElem h]
     rfl
   · rw [if_neg h2,if_neg h2,List.getElem?_eraseIdx]
     by_cases h3:i<=k + m
     · rw [if_pos h3,if_pos (by omega)]
     · rw [if_neg h3,if_neg (by omega),show i - 1 + 1=i by omega]
theorem j6 {k m n i:Nat} (h:k + m < n) (hi:i < n):rho k m i < n/\(k<=i->k<=rho k m i):=by
 unfold rho
 repeat' split
 all_goals omega
theorem uc {n b k p q:Nat} {Y:Nat->Nat->Rat} (hY:∀ i < n,∀ j < n,ZB b (Y i j)) (hk:k < n) (hp:p < n) (hq:q < n) (h7:n<=7):ZB ((k + 1) * (b + 3)) (bm Y k p q):=by
 unfold bm
 exact tu (by omega) λr hr c hc=>hY _ (by split <;> omega) _ (by split <;> omega)
theorem ub {B c:Nat} {x:Rat} {z:Int} (h:ZB c x) (e:(z:Rat)=x) (hc:c < B):Bd B z:=by
 obtain ⟨y,e1,e2⟩:=h
 rw [e1] at e
 rw [Rat.intCast_inj.mp e]
 exact Nat.lt_of_le_of_lt e2 (Nat.pow_lt_pow_right (by decide) hc)
structure WI (n b:Nat) (M:Nat->Nat->Rat) (k:Nat) (G:List (List Int)) (s l:Int) (Y:Nat->Nat->Rat):Prop where
 zb:∀ i < n,∀ j < n,ZB b (Y i j)
 dt:det n M=(s:Rat) * det n Y
 sg:s=1\/s=-1
 last:(l:Rat)=det k Y
 nz:det k Y ≠ 0
 len:G.length=n
 row:∀ i,i < n->(G.getD i []).length=n
 ent:∀ i,k<=i->i < n->∀ j,j < n->(((G.getD i []).getD j 0:Int):Rat)=bm Y k i j
theorem WI.zero {n b:Nat} {Ms:List (List Int)} (h1:Ms.length=n) (hr:∀ r ∈ Ms,r.length=n/\∀ x ∈ r,x.natAbs<=2 ^ b):WI n b (dtM Ms) 0 Ms 1 1 (dtM Ms):=by
 have rw':∀ i,i < n->(Ms.getD i []).length=n:=λi hi=>(hr _ (bL (by omega))).1
 refine ⟨λi hi j hj=>⟨_,rfl,(hr _ (bL (d:=[]) (show i < Ms.length by omega))).2 _ (bL (d:=(0:Int)) (by rw [rw' i hi]; exact hj))⟩,?_,.inl rfl,rfl,by show (1:Rat) ≠ 0; decide,h1,rw',λi _ hi j hj=>?_⟩
 · rw [show ((1:Int):Rat)=1 from rfl,Rat.one_mul]
 · unfold bm
   rw [gY]
   rfl
theorem WI.rot {n b k m:Nat} {M Y:Nat->Nat->Rat} {G:List (List Int)} {s l:Int} (W:WI n b M k G s l Y) (h:k + m < n):WI n b M k ((G.eraseIdx (k + m)).insertIdx k (G.getD (k + m) [])) (if m % 2=1 then -s else s) l (λr=>Y (rho k m r)):=by
 have hG:k + m < G.length:=by rw [W.len]; exact h
 have e:=j2 (k:=k) (n:=n) m Y h
 refine ⟨λi hi j hj=>W.zb _ (j6 h hi).1 j hj,?_,?_,?_,?_,?_,λi hi=>?_,λi ki hi j hj=>?_⟩
 · rw [e,W.dt]
   unfold sgn
   by_cases z:m % 2=1
   · rw [if_pos z,if_neg (by omega),Rat.intCast_neg]
     simp [Rat.neg_mul,Rat.mul_neg]
   · rw [if_neg z,if_pos (by omega),Rat.one_mul]
 · rcases W.sg with z | z <;> rw [z] <;> split <;> first | exact .inl rfl | exact .inr rfl
 · rw [jz]; exact W.last
 · rw [jz]; exact W.nz
 · rw [List.length_insertIdx_of_le_length (by rw [List.length_eraseIdx_of_lt hG]; omega),List.length_eraseIdx_of_lt hG,W.len]; omega
 · rw [my [] hG]; exact W.row _ (j6 h hi).1
 · rw [my [] hG,wt]
   exact W.ent _ ((j6 h hi).2 ki) (j6 h hi).1 j hj
theorem WI.clear {n b k:Nat} {M Y:Nat->Nat->Rat} {G:List (List Int)} {s l:Int} (W:WI n b M k G s l Y) (h:k < n) (h7:n<=7) {i:Nat} (ki:k < i) (hi:i < n) {j:Nat} (hj:j < n):(((clR (G.getD i []) (G.getD k []) k l n).getD j 0:Int):Rat)=bm Y (k + 1) i j:=by
 have g0:(clR (G.getD i []) (G.getD k []) k l n).getD j 0=(((G.getD i []).getD j 0 * (G.getD k []).getD k 0) - ((G.getD k []).getD j 0 * (G.getD i []).getD k 0)).fdiv l:=by
   unfold clR
   simp [hj]
 obtain ⟨z,e1,_⟩:=uc (k:=k + 1) (p:=i) (q:=j) W.zb (by omega) hi hj h7
 have st:=tF (Y:=Y) (k:=k) (i:=i) (j:=j) W.nz
 rw [<- W.ent k (Nat.le_refl _) h k h,<- W.ent i (by omega) hi j hj,<- W.ent k (Nat.le_refl _) h j hj,<- W.ent i (by omega) hi k h,e1,<- W.last] at st
 have st':l * z=(G.getD k []).getD k 0 * (G.getD i []).getD j 0 - (G.getD k []).getD j 0 * (G.getD i []).getD k 0:=by
   apply Rat.intCast_inj.mp
   rw [Rat.intCast_mul,Rat.intCast_sub,Rat.intCast_mul,Rat.intCast_mul]
   exact st
 have l0:l ≠ 0:=λq=>W.nz (by rw [<- W.last,q]; rfl)
 rw [g0,Int.mul_comm ((G.getD i []).getD j 0),<- st',e1,Int.mul_fdiv_cancel_left _ l0]
theorem WI.next {n b k:Nat} {M Y:Nat->Nat->Rat} {G G':List (List Int)} {s l:Int} (W:WI n b M k G s l Y) (h:k < n) (h7:n<=7) (hp:(G.getD k []).getD k 0 ≠ 0) (hl:G'.length=n) (hG:∀ i,i < n->G'.getD i []=if k < i then clR (G.getD i []) (G.getD k []) k l n else G.getD i []):WI n b M (k + 1) G' s ((G.getD k []).getD k 0) Y:=by
 have e:=W.ent k (Nat.le_refl _) h k h
 rw [sd] at e
 refine ⟨W.zb,W.dt,W.sg,e,λz=>hp (by rw [z] at e; exact Rat.intCast_eq_zero_iff.mp e),hl,λi hi=>?_,λi ki hi j hj=>?_⟩
 · rw [hG i hi]
   split
   · unfold clR; simp
   · exact W.row i hi
 · rw [hG i hi,if_pos (by omega)]
   exact W.clear h h7 (by omega) hi hj
theorem WI.no {n b k:Nat} {M Y:Nat->Nat->Rat} {G:List (List Int)} {s l:Int} (W:WI n b M k G s l Y) (h:k < n) (hz:∀ i,i < n - k->(G.getD (k + i) []).getD k 0=0):det n M=0:=by
 rw [W.dt,sH W.nz h λp kp hp=>?_,Rat.mul_zero]
 rw [<- W.ent p kp hp k h,<- show k + (p - k)=p by omega,hz (p - k) (by omega)]
 rfl
theorem WI.bd {n b k:Nat} {M Y:Nat->Nat->Rat} {G:List (List Int)} {s l:Int} (W:WI n b M k G s l Y) (h7:n<=7) (hb:n * (b + 3)<=8998) {i:Nat} (ki:k<=i) (hi:i < n):∀ x ∈ G.getD i [],Bd 8999 x:=λx hx=>by
 obtain ⟨j,hj,rfl⟩:=List.getElem_of_mem hx
 have hj':j < n:=by rw [<- W.row i hi]; exact hj
 have e:=W.ent i ki hi j hj'
 have e2:(G.getD i []).getD j 0=(G.getD i [])[j]:=by rw [List.getD_eq_getElem?_getD (l:=G.getD i []),List.getElem?_eq_getElem hj]; rfl
 rw [e2] at e
 refine ub (uc W.zb (by omega) hi hj' h7) e ?_
 have:(k + 1) * (b + 3)<=n * (b + 3):=Nat.mul_le_mul_right _ (by omega)
 omega
theorem WI.lbd {n b k:Nat} {M Y:Nat->Nat->Rat} {G:List (List Int)} {s l:Int} (W:WI n b M k G s l Y) (hk:k<=n) (h7:n<=7) (hb:n * (b + 3)<=8998):Bd 8999 l:=by
 refine ub (tu (b:=b) (n:=k) (M:=Y) (by omega) λi hi j hj=>W.zb i (by omega) j (by omega)) W.last ?_
 have:k * (b + 3)<=n * (b + 3):=Nat.mul_le_mul_right _ hk
 omega
noncomputable def wdZ (Ms:List (List Int)):Int:=(det Ms.length (dtM Ms)).num
theorem qc {Ms:List (List Int)} {z:Int} (h:(z:Rat)=det Ms.length (dtM Ms)):wdZ Ms=z:=by unfold wdZ; rw [<- h]; rfl
noncomputable def bK (ds:List D) (r:Sl):Prop:=∃ (n b:Nat) (Ms:List (List Int)),ds=[.lst (Ms.map dtR)]/\Ms.length=n/\n<=7/\(∀ r ∈ Ms,r.length=n/\∀ x ∈ r,x.natAbs<=2 ^ b)/\n * (b + 3)<=8998/\r=.d (.int (wdZ Ms))
theorem qu {X:Cx} {o:Option Nat}:cE X (compareOp .Is) (pvD o) .non (.bl o.isNone):=⟨_,vM,λ_ v w H Q _ d1 d2 k=>by
 cases d2
 cases o with
 | none=>cases d1; exact ⟨rfl,by rw [decide_eq_true rfl]; exact k _ H (aj.refl _) .bl⟩
 | some i=>cases d1; exact ⟨rfl,by rw [decide_eq_false (by intro z; cases z)]; exact k _ H (aj.refl _) .bl⟩⟩
theorem wY (o:Option Nat):tN (.d (pvD o))=true:=by cases o <;> rfl
theorem tS (ns:List Int):tN (.o (ns.map .int))=true:=by
 show (ns.map D.int).all flat=true
 rw [List.all_map,List.all_eq_true]
 intro _ _
 rfl
theorem wI {n m:Nat} (h:m < n):ixN n (m:Int)=some m:=by
 unfold ixN
 rw [if_pos (by omega),if_pos (by omega)]
 simp
section
variable {P:Program} {w:World} {K:PySem.W.Frag} {mg:Str->Option Value} {base:Heap} {k:Nat} {f:Addr} {fd:FuncData} {qual:Str}
set_option maxHeartbeats 1000000 in
theorem dY (F:Fun K "whole_determinant" qual (top 50) f fd) (hb:∀ x ∈ ai,mg x=none) (c_pivot_place:Cal P w K mg base k "pivot_place" cP) (c_cleared:Cal P w K mg base k "cleared" gj):aJ P w K mg base CX0 (k + 1) f fd ["rows"] (spD K bK):=by
 refine fnD F cq hb (by rintro _ _ ⟨_,_,_,rfl,_⟩; rfl) ?_
 rintro _ _ ⟨n,b0,Ms,rfl,hl,h7,hr,hb0,rfl⟩ cdv A outer s H E b
 have nd:=cq.nd
 refine aF 1 nd (pB b (aa (ae 0) af) wq) ?_
 refine aF 2 nd (aQ b (aa (ae 0) af) (bI (n:=n) (by rw [List.length_map]; exact hl))) ?_
 refine aF 3 nd ag ?_
 refine aF 4 nd ag ?_
 refine gJ 5 (λi τ=>i<=n/\∃ G sg l Y s5 s6 s7,WI n b0 (dtM Ms) i G sg l Y/\τ=[.d (.lst (Ms.map dtR)),.o (G.map dtR),.d (.int (n:Nat)),.d (.int sg),.d (.int l),s5,s6,s7]) b nd (gO b (ae 2) (by omega) (by omega)) fL ⟨Nat.zero_le _,Ms,1,1,_,.un,.un,.un,WI.zero hl hr,rfl⟩ (λi hi τ h=>?_) λτ h=>?_
 · obtain ⟨_,G,sg,l,Y,s5,s6,s7,W,rfl⟩:=h
   have hi:i < n:=by rw [aw] at hi; omega
   have gr:∀ r ∈ G,r.length=n:=λr hr'=>by
     obtain ⟨j,hj,rfl⟩:=List.getElem_of_mem hr'
     have:=W.row j (by rw [<- W.len]; exact hj)
     simpa [hj] using this
   refine aF 6 nd (qX 1 (C':=true) (s:=.d (pvD (pvP G i))) (x_call b c_pivot_place (aa (ae 1) (aa (ae 5) af)) ⟨n,G,i,rfl,W.len,by omega,gr,hi,rfl⟩) (wY _)) ?_
   cases ep:pvP G i with
   | none=>
     refine aT (aH (ae 6) kO (qu (o:=none))) (λ_=>?_) λz=>by cases z
     refine au ag ?_
     unfold pvP at ep
     rw [W.len] at ep
     have:=W.no hi (lF _ ep)
     have:wdZ Ms=0:=qc (by rw [hl]; exact this.symm)
     rw [this]
   | some j=>
     unfold pvP at ep
     obtain ⟨kj,jn,hp⟩:=lY _ _ ep
     rw [W.len] at jn
     obtain ⟨m,rfl⟩:∃ m,j=i + m:=⟨j - i,by omega⟩
     have him:i + m < n:=by omega
     refine cc (aH (ae 6) kO (qu (o:=some (i + m)))) rfl ?_
     have W2:=W.rot him
     refine eU (M:=λτ=>τ=[.d (.lst (Ms.map dtR)),.o (G.map dtR),.d (.int (n:Nat)),.d (.int (if m % 2=1 then -sg else sg)),.d (.int l),.d (.int (i:Nat)),.d (.int ((i + m:Nat):Int)),s7]) (aH (aC (aC (ae 6) (ae 5) fJ) ag (bM (by decide))) ag bt) (λz=>?_) (λz=>?_) ?_
     · have z:=of_decide_eq_true z
       have:m % 2=1:=by rw [Int.fmod_eq_emod_of_nonneg _ (by decide)] at z; omega
       rw [if_pos this]
       exact aF 3 nd (i4 (ae 3)) (aZ rfl)
     · have z:=of_decide_eq_false z
       have:¬ m % 2=1:=by rw [Int.fmod_eq_emod_of_nonneg _ (by decide)] at z; omega
       rw [if_neg this]
       exact aZ rfl
     rintro _ rfl
     have hiG:i + m < G.length:=by rw [W.len]; exact him
     have hxj:(G.map dtR)[i + m]?=some (dtR (G.getD (i + m) [])):=by simp [hiG]
     refine xH 1 (k:=i) (j:=i + m) (dtR (G.getD (i + m) [])) (ae 5) (ae 6) hxj (by rw [List.length_map,W.len]; exact hi) (by rw [List.length_map,W.len]; omega) ?_
     have em:((G.map dtR).eraseIdx (i + m)).insertIdx i (dtR (G.getD (i + m) []))=((G.eraseIdx (i + m)).insertIdx i (G.getD (i + m) [])).map dtR:=by rw [<- rD,uh]
     rw [em]
     have hp2:(((G.eraseIdx (i + m)).insertIdx i (G.getD (i + m) [])).getD i []).getD i 0 ≠ 0:=by
       rw [my [] (by rw [W.len]; exact him)]
       unfold rho
       rw [if_neg (by omega),if_pos rfl]
       exact hp
     generalize (G.eraseIdx (i + m)).insertIdx i (G.getD (i + m) [])=G2 at W2 hp2 ⊢
     generalize (if m % 2=1 then -sg else sg)=sg2 at W2 ⊢
     have l0:l ≠ 0:=λq=>W2.nz (by rw [<- W2.last,q]; rfl)
     refine gJ 7 (g:=λt=>.int (((i:Int) + 1) + (t:Nat))) (λt τ=>∃ G3 s7,G3.length=n/\(∀ j,j < n->G3.getD j []=if i < j/\j < i + 1 + t then clR (G2.getD j []) (G2.getD i []) i l n else G2.getD j [])/\τ=[.d (.lst (Ms.map dtR)),.o (G3.map dtR),.d (.int (n:Nat)),.d (.int sg2),.d (.int l),.d (.int (i:Nat)),.d (.int ((i + m:Nat):Int)),s7]) b nd (iU b (aC (ae 5) ag bX) (ae 2) (by omega)) rY ⟨G2,s7,W2.len,λj _=>by rw [if_neg (by omega)],rfl⟩ (λt ht τ h=>?_) λτ h=>?_
     · obtain ⟨G3,s7,g1,g2,rfl⟩:=h
       rw [aw] at ht
       have hit:i + 1 + t < n:=by omega
       have ei:((i:Int) + 1) + (t:Nat)=((i + 1 + t:Nat):Int):=by omega
       rw [ei]
       have r3:G3.getD (i + 1 + t) []=G2.getD (i + 1 + t) []:=by rw [g2 _ hit,if_neg (by omega)]
       have r4:G3.getD i []=G2.getD i []:=by rw [g2 i hi,if_neg (by omega)]
       have a1:atI (G3.map dtR) ((i + 1 + t:Nat):Int)=some (dtR (G2.getD (i + 1 + t) [])):=by rw [<- r3]; exact a5 [] (by omega)
       have a2:atI (G3.map dtR) (i:Int)=some (dtR (G2.getD i [])):=by rw [<- r4]; exact a5 [] (by omega)
       refine wJ 1 (xs:=G3.map dtR) (j:=i + 1 + t) (x:=dtR (clR (G2.getD (i + 1 + t) []) (G2.getD i []) i l n)) (ae 7) (aM (qX 1 (C':=true) (s:=.o ((clR (G2.getD (i + 1 + t) []) (G2.getD i []) i l n).map .int)) (x_call b c_cleared (aa (aG (ae 1) (ae 7) (ax a1)) (aa (aG (ae 1) (ae 5) (ax a2)) (aa (ae 5) (aa (ae 4) af)))) ⟨n,_,_,i,l,8999,rfl,W2.row _ hit,W2.row _ hi,by omega,hi,W2.bd h7 hb0 (by omega) hit,W2.bd h7 hb0 (Nat.le_refl _) hi,by decide,l0,W2.lbd (by omega) h7 hb0,rfl⟩) (tS _))) (wI (by rw [List.length_map,g1]; exact hit)) (aZ ⟨G3.set (i + 1 + t) (clR (G2.getD (i + 1 + t) []) (G2.getD i []) i l n),.d (.int ((i + 1 + t:Nat):Int)),by rw [List.length_set]; exact g1,λj hj=>?_,by rw [List.map_set]; rfl⟩)
       by_cases z:j=i + 1 + t
       · subst z
         rw [if_pos (by omega)]
         simp [g1,hit]
       · have:(G3.set (i + 1 + t) (clR (G2.getD (i + 1 + t) []) (G2.getD i []) i l n)).getD j []=G3.getD j []:=by
           simp [List.getD_eq_getElem?_getD,List.getElem?_set_ne (Ne.symm z)]
         rw [this,g2 j hj]
         by_cases y:i < j/\j < i + 1 + t
         · rw [if_pos y,if_pos (by omega)]
         · rw [if_neg y,if_neg (by omega)]
     · obtain ⟨G3,s7,g1,g2,rfl⟩:=h
       rw [aw] at g2
       have r4:G3.getD i []=G2.getD i []:=by rw [g2 i hi,if_neg (by omega)]
       have a2:atI (G3.map dtR) (i:Int)=some (dtR (G2.getD i [])):=by rw [<- r4]; exact a5 [] (by omega)
       have W3:=W2.next (G':=G3) hi h7 hp2 g1 λj hj=>by
         rw [g2 j hj]
         by_cases y:i < j
         · rw [if_pos (by omega),if_pos y]
         · rw [if_neg (by omega),if_neg y]
       exact aF 4 nd (qX 1 (C':=true) (s:=.d (.int ((G2.getD i []).getD i 0))) (aG (aG (ae 1) (ae 5) (ax a2)) (ae 5) (ax (atR (by rw [W2.row i hi]; exact hi)))) rfl) (aZ ⟨hi,G3,sg2,_,_,_,_,_,W3,rfl⟩)
 · obtain ⟨_,G,sg,l,Y,s5,s6,s7,W,rfl⟩:=h
   rw [aw,Int.toNat_natCast] at W
   refine au (aC (ae 3) (ae 4) (bR (mkL (by rcases W.sg with z | z <;> rw [z] <;> decide)))) ?_
   rw [qc (z:=sg * l) (by rw [hl,Rat.intCast_mul,W.last,W.dt])]
end
noncomputable def gU (c:List Int):Int:=c.getD (c.length - 1) 0
theorem j3 {c:List Int} (h:c ≠ []):atI (c.map D.int) (-1)=some (.int (gU c)):=by
 have hl:0 < c.length:=List.length_pos_iff.mpr h
 unfold atI ixN gU
 rw [if_neg (by decide),if_pos (by rw [List.length_map]; omega),List.length_map]
 simp only [Option.bind_some]
 have e:(-1 + (c.length:Int)).toNat=c.length - 1:=by omega
 rw [e]
 simp [(by omega:c.length - 1 < c.length)]
structure ChO (m:Int) (ns:List Int):Prop where
 ne:ns ≠ []
 up:∀ i,i + 1 < ns.length->ns.getD i 0 < ns.getD (i + 1) 0
 lo:0<=ns.getD 0 0
 hi:gU ns < m
 len:ns.length<=1000
noncomputable def eg (ds:List D) (r:Sl):Prop:=∃ ns:List Int,ds=[.lst (ns.map .int)]/\(∀ i,i + 1 < ns.length->ns.getD i 0 < ns.getD (i + 1) 0)/\ns.length<=1000/\r=.d (.bl true)
theorem qY (n:Nat) (f:Nat->Bool) (h:∀ i,i < n->f i=true):((List.range n).map f).all id=true:=by
 rw [List.all_map,List.all_eq_true]
 intro i hi
 exact h i (List.mem_range.mp hi)
noncomputable def eH (ds:List D) (r:Sl):Prop:=∃ (ns:List Int) (m:Int),ds=[.lst (ns.map .int),.int m]/\ChO m ns/\r=.d (.bl true)
noncomputable def bA (ds:List D) (r:Sl):Prop:=∃ (ns ms:List Int) (m n:Int),ds=[.lst (ns.map .int),.lst (ms.map .int),.int m,.int n]/\ChO m ns/\ChO n ms/\r=.d .non
section
variable {P:Program} {w:World} {K:PySem.W.Frag} {mg:Str->Option Value} {base:Heap} {k:Nat} {f:Addr} {fd:FuncData} {qual:Str}
theorem kG (F:Fun K "is_rising" qual (top 33) f fd) (hb:∀ x ∈ ai,mg x=none):aJ P w K mg base CX0 (k + 1) f fd ["numbers"] (spD K eg):=by
 refine fnD F fy hb (by rintro _ _ ⟨_,rfl,_⟩; rfl) ?_
 rintro _ _ ⟨ns,rfl,up,hl,rfl⟩ cdv A outer s H E b
 have el:(((ns.map D.int).length:Int) - 1).toNat=ns.length - 1:=by rw [List.length_map]; omega
 refine au (aQ b (aa (aM (cI (cmp 0 (g:=λi=>.int (1 + (i:Nat))) (f:=λi=>.bl (decide (ns.getD i 0 < ns.getD (i + 1) 0))) b (iU b ag (aQ b (aa (ae 0) af) cj) (by rw [List.length_map]; omega)) (λi h=>eP 1 _ i h) (by rw [aw]; omega) λi hi s0 H0 fp=>?_))) af) (dM b.calm ((List.range (ns.length - 1)).map λi=>decide (ns.getD i 0 < ns.getD (i + 1) 0)) (by rw [aw,el,List.map_map]; rfl))) ?_
 · have hi:i < ns.length - 1:=by rw [aw,el] at hi; exact hi
   have k0:atI (ns.map D.int) (1 + (i:Int) - 1)=some (.int (ns.getD i 0)):=by
     have e:(1 + (i:Int) - 1).toNat=i:=by omega
     have:=cC (ns:=ns) (i:=1 + (i:Int) - 1) (by omega) (by omega)
     rw [e] at this
     exact this
   have k1:atI (ns.map D.int) (1 + (i:Int))=some (.int (ns.getD (i + 1) 0)):=by
     have e:(1 + (i:Int)).toNat=i + 1:=by omega
     have:=cC (ns:=ns) (i:=1 + (i:Int)) (by omega) (by omega)
     rw [e] at this
     exact this
   exact cA (aG (ae 1) (aC (ae 0) ag fJ) (ax k0)) (aG (ae 1) (ae 0) (ax k1)) mJ
 · rw [qY (ns.length - 1) (λi=>decide (ns.getD i 0 < ns.getD (i + 1) 0)) λi hi=>decide_eq_true (up i (by omega))]
theorem jZ (F:Fun K "is_choice" qual (top 32) f fd) (hb:∀ x ∈ ai,mg x=none) (c_is_rising:Cal P w K mg base k "is_rising" eg) (c_is_whole:Cal P w K mg base k "is_whole" b7):aJ P w K mg base CX0 (k + 1) f fd ["thing","many"] (spD K eH):=by
 refine fnD F gb hb (by rintro _ _ ⟨_,_,rfl,_⟩; rfl) ?_
 rintro _ _ ⟨ns,m,rfl,h,rfl⟩ cdv A outer s H E b
 have hl:=h.len
 have l0:0 < ns.length:=List.length_pos_iff.mpr h.ne
 refine cc (PW.pt (cG (aV (aR (x_call b c_is_whole (aa (ae 1) af) ⟨_,rfl,rfl⟩))) λh=>(cG (aV (aR (bZ .list b (ae 0)))) λh=>(cX (aH (aQ b (aa (ae 0) af) cj) ag bt))))) ?_ ?_
 · rw [decide_eq_false (by rw [List.length_map]; omega)]; rfl
 refine cc (aV (aR (aQ b (aa (aM (cI (cmp 0 (f:=λl=>.bl true) b (bD (ae 0)) uw (by rw [List.length_map]; omega) λl hl s0 H0 fp=>(x_call (b.comp s0 H0 _ fp) c_is_whole (aa (ae 0) af) ⟨_,rfl,rfl⟩)))) af) (dM b.calm ((List.range ns.length).map λ_=>true) (by rw [List.length_map,List.map_map]; rfl))))) ?_ ?_
 · rw [qY ns.length (λ_=>true) λ_ _=>rfl]; rfl
 refine au (cB (x_call b c_is_rising (aa (ae 0) af) ⟨ns,rfl,h.up,hl,rfl⟩) λ_=>(cB (cA (aG (ae 0) ag (ax (cC (ns:=ns) (i:=0) (by decide) l0))) ag pG) λ_=>(eF (cA (aG (ae 0) (i4 ag) (ax (j3 h.ne))) (ae 1) mJ)))) ?_
 rw [decide_eq_true (show ns.getD (0:Int).toNat 0 ≥ 0 from h.lo),decide_eq_true h.hi]
 rfl
theorem gS (F:Fun K "look_choices" qual (top 35) f fd) (hb:∀ x ∈ ai,mg x=none) (c_is_choice:Cal P w K mg base k "is_choice" eH):aJ P w K mg base CX0 (k + 1) f fd ["rows","columns","many_rows","many_columns"] (spD K bA):=by
 refine fnD F dJ hb (by rintro _ _ ⟨_,_,_,_,rfl,_⟩; rfl) ?_
 rintro _ _ ⟨ns,ms,m,n,rfl,h1,h2,rfl⟩ cdv A outer s H E b
 refine cc (aV (aR (x_call b c_is_choice (aa (ae 0) (aa (ae 2) af)) ⟨ns,m,rfl,h1,rfl⟩))) rfl ?_
 exact cc (aV (aR (x_call b c_is_choice (aa (ae 1) (aa (ae 3) af)) ⟨ms,n,rfl,h2,rfl⟩))) rfl (aZ rfl)
end
noncomputable def qM (M:List (List Rat)) (i j:Nat):Rat:=(M.getD i []).getD j 0
structure Bz (m d v:Nat):Prop where
 b1:1 + m * d<=8999
 b2:m * (v + (1 + m * d) + 3)<=8998
 b3:1 + m * (1 + m * d)<=8999
 b4:v + d<=8999
theorem Qs.sq {d v:Nat} {q:Rat} (h:Qs d v q):Sq (v + d) q:=by
 refine ⟨?_,h.den.mono (by omega)⟩
 have h1:=h.den
 unfold Bd at h1 ⊢
 rw [Int.natAbs_natCast] at h1
 rw [Nat.pow_add]
 exact Nat.lt_of_le_of_lt h.val (Nat.mul_lt_mul_of_pos_left h1 (Nat.two_pow_pos v))
theorem n8 (ns:List Int):∀ t,t<=ns.length->((prZ (ns.take t):Int):Rat)=i5 (λi=>((ns.getD i 0:Int):Rat)) t
 | 0,_=>rfl
 | t + 1,h=>by
   have et:ns.take (t + 1)=ns.take t++[ns.getD t 0]:=by rw [List.take_succ,List.getElem?_eq_getElem (by omega)]; simp [show t < ns.length by omega]
   rw [et,lP,Rat.intCast_mul,n8 ns t (by omega),i5]
theorem wk {M:List (List Rat)} {ss:List Int} {i j:Nat} (hi:i < M.length) (hj:j < (M.getD i []).length):((whM M ss).getD i []).getD j 0=((M.getD i []).getD j 0).num * (ss.getD i 0 / (((M.getD i []).getD j 0).den:Nat)):=by
 have e:(whM M ss).getD i []=whR (M.getD i []) (ss.getD i 0):=by unfold whM; simp [hi]
 rw [e]
 unfold whR
 rw [List.getD_eq_getElem?_getD,List.getElem?_map,List.getElem?_eq_getElem hj,List.getD_eq_getElem?_getD (l:=M.getD i []),List.getElem?_eq_getElem hj]
 rfl
theorem yn {R d v:Nat} {M:List (List Rat)} (t:Tq R R M) (hq:∀ r ∈ M,∀ x ∈ r,Qs d v x) (z:Bz R d v):(whM M (M.map scL)).length=R/\(∀ r ∈ whM M (M.map scL),r.length=R/\∀ x ∈ r,x.natAbs<=2 ^ (v + (1 + R * d)))/\0 < prZ (M.map scL)/\Bd 8999 (prZ (M.map scL))/\((wdZ (whM M (M.map scL)):Int):Rat)=det R (qM M) * ((prZ (M.map scL):Int):Rat):=by
 have l1:(whM M (M.map scL)).length=R:=by unfold whM; simp [t.len]
 have sc:∀ i,i < R->(M.map scL).getD i 0=scL (M.getD i []):=λi hi=>by simp [show i < M.length by rw [t.len]; exact hi]
 have rowm:∀ r ∈ whM M (M.map scL),r.length=R/\∀ x ∈ r,x.natAbs<=2 ^ (v + (1 + R * d)):=λr hr=>by
   unfold whM at hr
   obtain ⟨i,hi,rfl⟩:=List.mem_map.mp hr
   rw [List.mem_range,t.len] at hi
   have mi:M.getD i [] ∈ M:=bL (by rw [t.len]; exact hi)
   refine ⟨by unfold whR; rw [List.length_map]; exact t.at_ hi,λx hx=>?_⟩
   unfold whR at hx
   obtain ⟨q,hq',rfl⟩:=List.mem_map.mp hx
   rw [sc i hi]
   have:=iF (d:=d) (r:=M.getD i []) λx hx=>(hq _ mi x hx).den
   rw [t.at_ hi] at this
   exact Nat.le_of_lt (wG (hq _ mi q hq') ((kL _).2 q hq') this)
 have bs:∀ s ∈ M.map scL,0 < s/\Bd (1 + R * d) s:=λs hs=>by
   obtain ⟨r,hr,rfl⟩:=List.mem_map.mp hs
   have:=iF (d:=d) (r:=r) λx hx=>(hq _ hr x hx).den
   rw [t.row r hr] at this
   exact ⟨(kL r).1,this⟩
 have bp:=qU (d:=1 + R * d) (r:=M.map scL) λs hs=>(bs s hs).2
 rw [List.length_map,t.len] at bp
 refine ⟨l1,rowm,sf λs hs=>(bs s hs).1,bp.mono z.b3,?_⟩
 have zb:∀ i < R,∀ j < R,ZB (v + (1 + R * d)) (dtM (whM M (M.map scL)) i j):=λi hi j hj=>by
   have mi:=bL (xs:=whM M (M.map scL)) (d:=[]) (i:=i) (by rw [l1]; exact hi)
   exact ⟨_,rfl,(rowm _ mi).2 _ (bL (by rw [(rowm _ mi).1]; exact hj))⟩
 obtain ⟨w,e1,_⟩:=tu (n:=R) (by have:=t.r7; omega) zb
 have e2:wdZ (whM M (M.map scL))=w:=qc (by rw [l1,e1])
 rw [e2,<- e1]
 have pr:=n8 (M.map scL) R (by rw [List.length_map,t.len]; exact Nat.le_refl _)
 rw [List.take_of_length_le (by rw [List.length_map,t.len]; exact Nat.le_refl _)] at pr
 rw [pr,Rat.mul_comm,<- jx (n:=R) _ (qM M) R (Nat.le_refl _)]
 refine aP λi hi j hj=>?_
 rw [if_pos hi]
 have hj':j < (M.getD i []).length:=by rw [t.at_ hi]; exact hj
 unfold dtM
 rw [wk (by rw [t.len]; exact hi) hj',sc i hi,yB ((kL _).2 _ (bL hj')),Rat.mul_comm]
 rfl
noncomputable def bB (ds:List D) (r:Sl):Prop:=∃ (R d v:Nat) (M:List (List Rat)),ds=[tbQ M]/\Tq R R M/\(∀ r ∈ M,∀ x ∈ r,Qs d v x)/\Bz R d v/\r=.d (frD (det R (qM M)))
theorem ChO.bd {m:Int} {ns:List Int} (h:ChO m ns):∀ i,i < ns.length->0<=ns.getD i 0/\ns.getD i 0 < m:=by
 have lo:∀ i,i < ns.length->0<=ns.getD i 0:=λi=>by
   induction i with
   | zero=>exact λ_=>h.lo
   | succ i ih=>exact λhi=>by have:=ih (by omega); have:=h.up i hi; omega
 have hi:∀ d i,i + d + 1=ns.length->ns.getD i 0 < m:=λd=>by
   induction d with
   | zero=>exact λi e=>by have:=h.hi; unfold gU at this; rwa [show ns.length - 1=i by omega] at this
   | succ d ih=>exact λi e=>by have:=ih (i + 1) (by omega); have:=h.up i (by omega); omega
 exact λi hi'=>⟨lo i hi',hi (ns.length - 1 - i) i (by omega)⟩
theorem uW {R C m:Nat} {M:List (List Rat)} {rs cs:List Int} (t:Tq R C M) (hr:ChO R rs) (hc:ChO C cs) (l1:rs.length=m) (l2:cs.length=m) (m7:m<=7):Tq m m (chM M rs cs):=by
 have m1:1<=m:=by
   rcases Nat.eq_zero_or_pos m with z | z
   · exact absurd (List.length_eq_zero_iff.mp (l1.trans z)) hr.ne
   · exact z
 refine ⟨m1,m7,m1,m7,by unfold chM; rw [List.length_map,l1],λr hr'=>?_⟩
 unfold chM at hr'
 obtain ⟨x,_,rfl⟩:=List.mem_map.mp hr'
 unfold pkL
 rw [List.length_map,l2]
theorem va {M:List (List Rat)} {rs cs:List Int} {a b:Nat} (ha:a < rs.length) (hb:b < cs.length):qM (chM M rs cs) a b=qM M (rs.getD a 0).toNat (cs.getD b 0).toNat:=by
 unfold qM chM pkL
 simp [ha,hb]
theorem vQ {R C d v:Nat} {M:List (List Rat)} {rs cs:List Int} (t:Tq R C M) (hr:ChO R rs) (hc:ChO C cs) (hq:∀ r ∈ M,∀ x ∈ r,Qs d v x):∀ r ∈ chM M rs cs,∀ x ∈ r,Qs d v x:=λr hr' x hx=>by
 unfold chM at hr'
 obtain ⟨p,hp,rfl⟩:=List.mem_map.mp hr'
 unfold pkL at hx
 obtain ⟨q,hq',rfl⟩:=List.mem_map.mp hx
 obtain ⟨a,ha,rfl⟩:=List.getElem_of_mem hp
 obtain ⟨c,hc',rfl⟩:=List.getElem_of_mem hq'
 have b1:=hr.bd a ha
 have b2:=hc.bd c hc'
 have e1:rs.getD a 0=rs[a]:=by simp [ha]
 have e2:cs.getD c 0=cs[c]:=by simp [hc']
 rw [e1] at b1
 rw [e2] at b2
 exact hq _ (bL (by rw [t.len]; omega)) _ (bL (by rw [t.at_ (by omega)]; omega))
theorem ChO.pk {m:Nat} {ns:List Int} (h:ChO m ns):Pk m ns:=⟨h.len,h.bd⟩
noncomputable def mnQ (M:List (List Rat)) (rs cs:List Int):Rat:=det rs.length λa b=>qM M (rs.getD a 0).toNat (cs.getD b 0).toNat
noncomputable def j4 (ds:List D) (r:Sl):Prop:=∃ (R C m d v:Nat) (M:List (List Rat)) (rs cs:List Int),ds=[tbQ M,.lst (rs.map .int),.lst (cs.map .int)]/\Tq R C M/\ChO R rs/\ChO C cs/\rs.length=m/\cs.length=m/\m<=7/\(∀ r ∈ M,∀ x ∈ r,Qs d v x)/\Bz m d v/\r=.d (frD (mnQ M rs cs))
noncomputable def sY (t:List (List Rat)) (j:Nat):List Rat:=t.map λr=>r.getD j 0
noncomputable def eC (ds:List D) (r:Sl):Prop:=∃ (R C:Nat) (t:List (List Rat)) (j:Nat),ds=[tbQ t,.int (j:Nat)]/\Tq R C t/\j < C/\r=.o ((sY t j).map frD)
noncomputable def jy (t:List (List Rat)) (C:Nat):List (List Rat):=(List.range C).map (sY t)
noncomputable def dj (ds:List D) (r:Sl):Prop:=∃ (R C:Nat) (t:List (List Rat)),ds=[tbQ t]/\Tq R C t/\r=.o ((jy t C).map rwQ)
section
variable {P:Program} {w:World} {K:PySem.W.Frag} {mg:Str->Option Value} {base:Heap} {k:Nat} {f:Addr} {fd:FuncData} {qual:Str}
theorem dW (F:Fun K "square_determinant" qual (top 44) f fd) (hb:∀ x ∈ ai,mg x=none) (c_look_square:Cal P w K mg base k "look_square" cR) (c_fraction:Cal P w K mg base k "fraction" fh) (c_scale_of:Cal P w K mg base k "scale_of" e7) (c_whole_determinant:Cal P w K mg base k "whole_determinant" bK) (c_product_of_all:Cal P w K mg base k "product_of_all" b8) (c_whole_rows:Cal P w K mg base k "whole_rows" du):aJ P w K mg base CX0 (k + 1) f fd ["table"] (spD K bB):=by
 refine fnD F bx hb (by rintro _ _ ⟨_,_,_,_,rfl,_⟩; rfl) ?_
 rintro _ _ ⟨R,d,v,M,rfl,t,hq,z,rfl⟩ cdv A outer s H E b
 have nd:=bx.nd
 have r7:=t.r7
 obtain ⟨o1,o2,o3,o4,o5⟩:=yn t hq z
 refine cM (x_call b c_look_square (aa (ae 0) af) ⟨R,M,rfl,t,rfl⟩) ?_
 refine mK 1 nd (s:=.d (.lst ((M.map scL).map .int))) (cmp 0 (g:=λi=>rwQ (M.getD i [])) (f:=λi=>.int (scL (M.getD i []))) b (bD (ae 0)) (eV (f:=rwQ) (xs:=M) []) (by rw [List.length_map,t.len]; omega) λi hi s0 H0 fp=>(x_call (b.comp s0 H0 _ fp) c_scale_of (aa (ae 0) af) ⟨_,d,rfl,?_,?_,?_,?_,rfl⟩)) (.inr ?_) ?_
 · rw [t.at_ (by simpa [t.len] using hi)]; omega
 · exact λx hx=>(hq _ (bL (by simpa using hi)) x hx).den
 · rw [t.at_ (by simpa [t.len] using hi)]; exact z.b1
 · have:=z.b4; omega
 · exact congrArg (λl=>Sl.d (D.lst l)) (((fD (λr:List Rat=>D.int (scL r)) M [] (List.length_map ..)).trans (by rw [List.map_map]; rfl)).symm)
 refine au (x_call b c_fraction (aa (x_call b c_whole_determinant (aa (aM (x_call b c_whole_rows (aa (ae 0) (aa (ae 1) af)) ⟨M,M.map scL,v + d,rfl,by rw [List.length_map],by rw [t.len]; omega,λr hr=>⟨by rw [t.row r hr]; omega,λx hx=>(hq r hr x hx).sq⟩,z.b4,?_,rfl⟩)) af) ⟨R,v + (1 + R * d),_,rfl,o1,r7,o2,z.b2,rfl⟩) (aa (x_call b c_product_of_all (aa (ae 1) af) ⟨M.map scL,1 + R * d,rfl,?_,?_,?_,rfl⟩) af)) ⟨_,_,det R (qM M),rfl,o3,o4,o5,rfl⟩) rfl
 · intro s hs
   obtain ⟨r,hr,rfl⟩:=List.mem_map.mp hs
   have:=iF (d:=d) (r:=r) λx hx=>(hq _ hr x hx).den
   rw [t.row r hr] at this
   exact this.mono z.b1
 · intro s hs
   obtain ⟨r,hr,rfl⟩:=List.mem_map.mp hs
   have:=iF (d:=d) (r:=r) λx hx=>(hq _ hr x hx).den
   rw [t.row r hr] at this
   exact this
 · rw [List.length_map,t.len]; have:=z.b3; omega
 · have:=z.b1; omega
theorem qG (F:Fun K "minor" qual (top 43) f fd) (hb:∀ x ∈ ai,mg x=none) (c_look_table:Cal P w K mg base k "look_table" bh) (c_look_choices:Cal P w K mg base k "look_choices" bA) (c_square_determinant:Cal P w K mg base k "square_determinant" bB) (c_chosen:Cal P w K mg base k "chosen" d8):aJ P w K mg base CX0 (k + 1) f fd ["table","rows","columns"] (spD K j4):=by
 refine fnD F kY hb (by rintro _ _ ⟨_,_,_,_,_,_,_,_,rfl,_⟩; rfl) ?_
 rintro _ _ ⟨R,C,m,d,v,M,rs,cs,rfl,t,hr,hc,l1,l2,m7,hq,z,rfl⟩ cdv A outer s H E b
 have r1:=t.r1
 have e0:atI (M.map rwQ) 0=some (rwQ (M.getD 0 [])):=a5 [] (i:=0) (by rw [t.len]; omega)
 refine cM (x_call b c_look_table (aa (ae 0) af) ⟨R,C,M,rfl,t,rfl⟩) ?_
 refine cM (x_call b c_look_choices (aa (ae 1) (aa (ae 2) (aa (aQ b (aa (ae 0) af) (bI (n:=R) (by rw [List.length_map]; exact t.len))) (aa (aQ b (aa (aG (ae 0) ag (ax e0)) af) (bI (n:=C) (by rw [List.length_map]; exact t.at_ (by omega)))) af)))) ⟨rs,cs,R,C,rfl,hr,hc,rfl⟩) ?_
 refine au (x_call b c_square_determinant (aa (aM (x_call b c_chosen (aa (ae 0) (aa (ae 1) (aa (ae 2) af))) ⟨R,C,M,rs,cs,rfl,t,hr.pk,hc.pk,rfl⟩)) af) ⟨m,d,v,chM M rs cs,rfl,uW t hr hc l1 l2 m7,vQ t hr hc hq,z,rfl⟩) ?_
 unfold mnQ
 rw [l1,aP λa ha b hb'=>va (M:=M) (rs:=rs) (cs:=cs) (by omega) (by omega)]
theorem ka (F:Fun K "column_of" qual (top 41) f fd) (hb:∀ x ∈ ai,mg x=none):aJ P w K mg base CX0 (k + 1) f fd ["table","j"] (spD K eC):=by
 refine fnD F kn hb (by rintro _ _ ⟨_,_,_,_,rfl,_⟩; rfl) ?_
 rintro _ _ ⟨R,C,t,j,rfl,h,hj,rfl⟩ cdv A outer s H E b
 have r7:=h.r7
 refine au (cI (cmp 0 (g:=λi=>rwQ (t.getD i [])) (f:=λi=>frD ((t.getD i []).getD j 0)) b (bD (ae 0)) (eV (f:=rwQ) (xs:=t) []) (by rw [List.length_map,h.len]; omega) λi hi s0 H0 fp=>(aG (ae 0) (ae 1) (ax (a5 (f:=frD) (xs:=t.getD i []) 0 (i:=j) ?_))))) ?_
 · rw [h.at_ (by rw [List.length_map,h.len] at hi; exact hi)]; exact hj
 · refine congrArg Sl.o ((fD (λr:List Rat=>frD (r.getD j 0)) t [] (List.length_map ..)).trans ?_)
   unfold sY
   rw [List.map_map]
   rfl
theorem jt (F:Fun K "columns_of" qual (top 40) f fd) (hb:∀ x ∈ ai,mg x=none) (c_column_of:Cal P w K mg base k "column_of" eC):aJ P w K mg base CX0 (k + 1) f fd ["table"] (spD K dj):=by
 refine fnD F jo hb (by rintro _ _ ⟨_,_,_,rfl,_⟩; rfl) ?_
 rintro _ _ ⟨R,C,t,rfl,h,rfl⟩ cdv A outer s H E b
 have r1:=h.r1
 have c7:=h.c7
 have e0:atI (t.map rwQ) 0=some (rwQ (t.getD 0 [])):=a5 [] (i:=0) (by rw [h.len]; omega)
 refine au (cI (cmp 0 (f:=λj=>rwQ (sY t j)) b (gO (n:=(C:Nat)) b (aQ b (aa (aG (ae 0) ag (ax e0)) af) (bI (n:=C) (by rw [List.length_map]; exact h.at_ (by omega)))) (by omega) (by omega)) fL (by rw [aw]; omega) λj hj s0 H0 fp=>aM (x_call (b.comp s0 H0 _ fp) c_column_of (aa (ae 1) (aa (ae 0) af)) ⟨R,C,t,j,rfl,h,by rw [aw] at hj; omega,rfl⟩))) ?_
 unfold jy
 rw [aw,Int.toNat_natCast,List.map_map]
 rfl
end
structure Cls (K:PySem.W.Frag) (mg:Str->Option Value) (cl:Nat->Addr) (cs:List Nat):Prop where
 lt:∀ c ∈ cs,c < 19
 ex:∃ S,mg "SmoothError" = some (.ref S)/\∀ c ∈ cs,Hx.pF K (cl c) S/\PySem.W.exmOne K (.ref (cl c)) (.ref S)=some true
 nm:∀ c,c < 19->mg (wordOf c)=some (.ref (cl c))
 kit:∀ c ∈ cs,∀ i,i < 19->PySem.W.kitOne K (.ref (cl c)) (.ref (cl i))=some (decide (c=i))
 val:∀ c ∈ cs,PySem.W.kitOne K (.ref (cl c)) (.type "ValueError")=some true
 vn:mg "ValueError" = none
theorem xo {c:Nat} (h:c < 19):((List.range 19).filter λi=>decide (c=i)).map (λi=>D.str (wordOf i))=[.str (wordOf c)]:=by
 rcases (by omega:c=0\/c=1\/c=2\/c=3\/c=4\/c=5\/c=6\/c=7\/c=8\/c=9\/c=10\/c=11\/c=12\/c=13\/c=14\/c=15\/c=16\/c=17\/c=18) with rfl | rfl | rfl | rfl | rfl | rfl | rfl | rfl | rfl | rfl | rfl | rfl | rfl | rfl | rfl | rfl | rfl | rfl | rfl <;> rfl
noncomputable def nmD (c:Nat):List D:=[D.bl (decide (c=0)),D.bl (decide (c=1)),D.bl (decide (c=2)),D.bl (decide (c=3)),D.bl (decide (c=4)),D.bl (decide (c=5)),D.bl (decide (c=6)),D.bl (decide (c=7)),D.bl (decide (c=8)),D.bl (decide (c=9)),D.bl (decide (c=10)),D.bl (decide (c=11)),D.bl (decide (c=12)),D.bl (decide (c=13)),D.bl (decide (c=14)),D.bl (decide (c=15)),D.bl (decide (c=16)),D.bl (decide (c=17)),D.bl (decide (c=18))]
theorem yz {c i:Nat} (h:i < 19):(nmD c)[i]?=some (D.bl (decide (c=i))):=by
 rcases (by omega:i=0\/i=1\/i=2\/i=3\/i=4\/i=5\/i=6\/i=7\/i=8\/i=9\/i=10\/i=11\/i=12\/i=13\/i=14\/i=15\/i=16\/i=17\/i=18) with rfl | rfl | rfl | rfl | rfl | rfl | rfl | rfl | rfl | rfl | rfl | rfl | rfl | rfl | rfl | rfl | rfl | rfl | rfl <;> rfl
noncomputable def wdD:List D:=[D.str "NoFraction",D.str "NoTable",D.str "NoChoice",D.str "NoSquare",D.str "NoFit",D.str "NoUndoing",D.str "NoLadder",D.str "TooMany",D.str "NoPaper",D.str "NoRow",D.str "NoStairs",D.str "NoNumber",D.str "NoCorner",D.str "NoName",D.str "NoStep",D.str "NoWeight",D.str "NoDeed",D.str "NoText",D.str "NoWord"]
theorem yH {i:Nat} (h:i < 19):wdD[i]?=some (D.str (wordOf i)):=by
 rcases (by omega:i=0\/i=1\/i=2\/i=3\/i=4\/i=5\/i=6\/i=7\/i=8\/i=9\/i=10\/i=11\/i=12\/i=13\/i=14\/i=15\/i=16\/i=17\/i=18) with rfl | rfl | rfl | rfl | rfl | rfl | rfl | rfl | rfl | rfl | rfl | rfl | rfl | rfl | rfl | rfl | rfl | rfl | rfl <;> rfl
section
variable {P:Program} {w:World} {K:PySem.W.Frag} {mg:Str->Option Value} {base:Heap} {k:Nat} {f:Addr} {fd:FuncData} {qual:Str}
set_option maxHeartbeats 2000000 in
theorem pQ {cl:Nat->Addr} {cs:List Nat} {c:Nat} (F:Fun K "_law_word" qual (top 63) f fd) (hb:∀ x ∈ ai,mg x=none) (hbind:Binds K fd ["_law_e"] []) (Z:Cls K mg cl cs) (hc:c ∈ cs):dz P w K mg base cl (k + 1) f c:=by
 refine fnW F jQ hbind λcdv A outer s H ck=>?_
 have nd:=jQ.nd
 have lt:=Z.lt c hc
 obtain ⟨S,hS,hx⟩:=Z.ex
 have O:Hx.b6 K (cl c):=(hx c hc).1.at_
 have hbi:mg "isinstance" = none:=hb _ (by decide)
 have m0:mg "NoFraction" = some (.ref (cl 0)):=Z.nm 0 (by decide)
 have m1:mg "NoTable" = some (.ref (cl 1)):=Z.nm 1 (by decide)
 have m2:mg "NoChoice" = some (.ref (cl 2)):=Z.nm 2 (by decide)
 have m3:mg "NoSquare" = some (.ref (cl 3)):=Z.nm 3 (by decide)
 have m4:mg "NoFit" = some (.ref (cl 4)):=Z.nm 4 (by decide)
 have m5:mg "NoUndoing" = some (.ref (cl 5)):=Z.nm 5 (by decide)
 have m6:mg "NoLadder" = some (.ref (cl 6)):=Z.nm 6 (by decide)
 have m7:mg "TooMany" = some (.ref (cl 7)):=Z.nm 7 (by decide)
 have m8:mg "NoPaper" = some (.ref (cl 8)):=Z.nm 8 (by decide)
 have m9:mg "NoRow" = some (.ref (cl 9)):=Z.nm 9 (by decide)
 have m10:mg "NoStairs" = some (.ref (cl 10)):=Z.nm 10 (by decide)
 have m11:mg "NoNumber" = some (.ref (cl 11)):=Z.nm 11 (by decide)
 have m12:mg "NoCorner" = some (.ref (cl 12)):=Z.nm 12 (by decide)
 have m13:mg "NoName" = some (.ref (cl 13)):=Z.nm 13 (by decide)
 have m14:mg "NoStep" = some (.ref (cl 14)):=Z.nm 14 (by decide)
 have m15:mg "NoWeight" = some (.ref (cl 15)):=Z.nm 15 (by decide)
 have m16:mg "NoDeed" = some (.ref (cl 16)):=Z.nm 16 (by decide)
 have m17:mg "NoText" = some (.ref (cl 17)):=Z.nm 17 (by decide)
 have m18:mg "NoWord" = some (.ref (cl 18)):=Z.nm 18 (by decide)
 have kt:=Z.kit c hc
 refine aF 1 nd (ba (aa (bY 0 m0 O (kt 0 (by decide)) hbi) (aa (bY 0 m1 O (kt 1 (by decide)) hbi) (aa (bY 0 m2 O (kt 2 (by decide)) hbi) (aa (bY 0 m3 O (kt 3 (by decide)) hbi) af))))) (j5 1 ?_)
 refine aF 1 nd (dH (ae 1) (aM (ba (aa (bY 0 m4 O (kt 4 (by decide)) hbi) (aa (bY 0 m5 O (kt 5 (by decide)) hbi) (aa (bY 0 m6 O (kt 6 (by decide)) hbi) (aa (bY 0 m7 O (kt 7 (by decide)) hbi) af)))))) (by show (4:Nat) + 4 < 1000000; decide)) (j5 1 ?_)
 refine aF 1 nd (dH (ae 1) (aM (ba (aa (bY 0 m8 O (kt 8 (by decide)) hbi) (aa (bY 0 m9 O (kt 9 (by decide)) hbi) (aa (bY 0 m10 O (kt 10 (by decide)) hbi) (aa (bY 0 m11 O (kt 11 (by decide)) hbi) af)))))) (by show (8:Nat) + 4 < 1000000; decide)) (j5 1 ?_)
 refine aF 1 nd (dH (ae 1) (aM (ba (aa (bY 0 m12 O (kt 12 (by decide)) hbi) (aa (bY 0 m13 O (kt 13 (by decide)) hbi) (aa (bY 0 m14 O (kt 14 (by decide)) hbi) (aa (bY 0 m15 O (kt 15 (by decide)) hbi) af)))))) (by show (12:Nat) + 4 < 1000000; decide)) (j5 1 ?_)
 refine aF 1 nd (dH (ae 1) (aM (ba (aa (bY 0 m16 O (kt 16 (by decide)) hbi) (aa (bY 0 m17 O (kt 17 (by decide)) hbi) (aa (bY 0 m18 O (kt 18 (by decide)) hbi) af))))) (by show (16:Nat) + 3 < 1000000; decide)) (j5 1 ?_)
 show PSs _ _ (dS K [.x (exX cl c),.d (.lst (nmD c)),.un,.un] _)
 refine aF 2 nd (ba (aa aU (aa aU (aa aU (aa aU (aa aU (aa aU (aa aU (aa aU (aa aU af)))))))))) (j5 2 ?_)
 refine aF 2 nd (dH (ae 2) (aM (ba (aa aU (aa aU (aa aU (aa aU (aa aU (aa aU (aa aU (aa aU (aa aU af))))))))))) (by decide)) ?_
 refine nF 2 aU ?_ (j5 2 ?_)
 · show (18:Nat) < 1000000
   decide
 show PSs _ _ (dS K [.x (exX cl c),.d (.lst (nmD c)),.d (.lst wdD),.un] _)
 refine mK 3 nd (s:=.d (.lst [.str (wordOf c)])) (vU 0 (t:=λi=>decide (c=i)) (f:=λi=>.str (wordOf i)) (uH ck (hb _ (by decide)) ag (by decide) (by decide)) fL (by rw [aw]; decide) (λi hi s0 H0 fp=>aR (aG (ae 1) (ae 0) (ax (a4 (yz (by rw [aw] at hi; exact hi)))))) λi hi _ s0 H0 fp=>aG (ae 2) (ae 0) (ax (a4 (yH (by rw [aw] at hi; exact hi))))) (.inr ?_) ?_
 · rw [aw]
   exact congrArg (λl=>Sl.d (D.lst l)) (xo lt).symm
 show PSs _ _ (dS K [.x (exX cl c),.d (.lst (nmD c)),.d (.lst wdD),.d (.lst [.str (wordOf c)])] _)
 refine cc (PW.pt (cG (aH (v9 (hb _ (by decide)) (ae 3)) ag ly) λh=>(cX (aV (aR (xU 0 Z.vn (by decide +kernel) O (Z.val c hc) hbi)))))) rfl ?_
 exact au (aG (ae 3) ag (ax (a4 (i:=0) rfl))) rfl
end
noncomputable def kK (ns:List Int):Bool:=((List.range (ns.length - 1)).map λi=>decide (ns.getD i 0 < ns.getD (i + 1) 0)).all id
noncomputable def dF (ds:List D) (r:Sl):Prop:=∃ ns:List Int,ds=[.lst (ns.map .int)]/\ns.length<=1000/\r=.d (.bl (kK ns))
noncomputable def bC:List D->Option (List Int)
 | []=>some []
 | .int n :: xs=>(bC xs).map (n :: ·)
 | _ :: _=>none
theorem dC:∀ {xs:List D} {ns:List Int},bC xs=some ns->xs=ns.map .int
 | [],_,h=>by cases h; rfl
 | x :: xs,ns,h=>by
   cases x with
   | int n=>
     rw [bC] at h
     obtain ⟨ms,h1,rfl⟩:=Option.map_eq_some_iff.mp h
     rw [dC h1]
     rfl
   | _=>cases h
theorem gf:∀ (xs:List D),(xs.map whl).all id=(bC xs).isSome
 | []=>rfl
 | x :: xs=>by
   rw [List.map_cons,List.all_cons,gf xs]
   cases x with
   | int n=>show (true && _)=_; rw [Bool.true_and,bC,Option.isSome_map]
   | _=>rfl
noncomputable def cn:D->Int->Bool
 | .lst xs,m=>match bC xs with
   | some (n :: ns)=>kK (n :: ns) && (decide (n ≥ 0) && decide (gU (n :: ns) < m))
   | _=>false
 | _,_=>false
noncomputable def cw (ds:List D) (r:Sl):Prop:=∃ (x:D) (m:Int),ds=[x,.int m]/\(∀ xs,x=.lst xs->xs.length<=1000)/\r=.d (.bl (cn x m))
section
variable {P:Program} {w:World} {K:PySem.W.Frag} {mg:Str->Option Value} {base:Heap} {k:Nat} {f:Addr} {fd:FuncData} {qual:Str}
theorem jl (F:Fun K "is_rising" qual (top 33) f fd) (hb:∀ x ∈ ai,mg x=none):aJ P w K mg base CX0 (k + 1) f fd ["numbers"] (spD K dF):=by
 refine fnD F fy hb (by rintro _ _ ⟨_,rfl,_⟩; rfl) ?_
 rintro _ _ ⟨ns,rfl,hl,rfl⟩ cdv A outer s H E b
 refine au (aQ b (aa (aM (cI (cmp 0 (g:=λi=>.int (1 + (i:Nat))) (f:=λi=>.bl (decide (ns.getD i 0 < ns.getD (i + 1) 0))) b (iU b ag (aQ b (aa (ae 0) af) cj) (by rw [List.length_map]; omega)) (λi h=>eP 1 _ i h) (by rw [aw,List.length_map]; omega) λi hi s0 H0 fp=>?_))) af) (dM b.calm ((List.range (ns.length - 1)).map λi=>decide (ns.getD i 0 < ns.getD (i + 1) 0)) ?_)) rfl
 · rw [aw,List.length_map] at hi
   have e1:(1:Int) + (i:Nat) - 1=(i:Nat):=by omega
   have e2:(1:Int) + (i:Nat)=((i + 1:Nat):Int):=by omega
   have a1:atI (ns.map D.int) ((1:Int) + (i:Nat) - 1)=some (.int (ns.getD i 0)):=by rw [e1]; exact a5 0 (by omega)
   have a2:atI (ns.map D.int) ((1:Int) + (i:Nat))=some (.int (ns.getD (i + 1) 0)):=by rw [e2]; exact a5 0 (by omega)
   exact cA (aG (ae 1) (aC (ae 0) ag fJ) (ax a1)) (aG (ae 1) (ae 0) (ax a2)) mJ
 · rw [aw,List.length_map,List.map_map]
   have e:(((ns.length:Nat):Int) - 1).toNat=ns.length - 1:=by omega
   rw [e]
   rfl
theorem jd (F:Fun K "is_choice" qual (top 32) f fd) (hb:∀ x ∈ ai,mg x=none) (c_is_rising2:Cal P w K mg base k "is_rising" dF) (c_is_whole:Cal P w K mg base k "is_whole" b7):aJ P w K mg base CX0 (k + 1) f fd ["thing","many"] (spD K cw):=by
 refine fnD F gb hb (by rintro _ _ ⟨_,_,rfl,_⟩; rfl) ?_
 rintro _ _ ⟨x,m,rfl,hx,rfl⟩ cdv A outer s H E b
 by_cases ht:eS .list x=true
 · obtain ⟨xs,rfl⟩:∃ xs,x=.lst xs:=by cases x <;> first | exact ⟨_,rfl⟩ | cases ht
   have hl:=hx xs rfl
   by_cases h0:xs.length=0
   · obtain rfl:=List.length_eq_zero_iff.mp h0
     refine aT (PW.pt (cG (aV (aR (x_call b c_is_whole (aa (ae 1) af) ⟨_,rfl,rfl⟩))) λh=>(cG (aV (aR (bZ .list b (ae 0)))) λh=>(cX (aH (aQ b (aa (ae 0) af) cj) ag bt))))) (λ_=>au fj rfl) λz=>by cases z
   · refine cc (PW.pt (cG (aV (aR (x_call b c_is_whole (aa (ae 1) af) ⟨_,rfl,rfl⟩))) λh=>(cG (aV (aR (bZ .list b (ae 0)))) λh=>(cX (aH (aQ b (aa (ae 0) af) cj) ag bt))))) ?_ ?_
     · show (false || (false || decide ((xs.length:Int)=0)))=false
       rw [decide_eq_false (by omega)]; rfl
     have eA:((List.range xs.length).map λl=>whl (xs.getD l .non)).all id=(bC xs).isSome:=by
       rw [<- gf]
       congr 1
       refine List.ext_getElem (by simp) λi h1 h2=>?_
       have:i < xs.length:=by simpa using h2
       simp [this]
     refine aT (aV (aR (aQ b (aa (aM (cI (cmp 0 (f:=λl=>.bl (whl (xs.getD l .non))) b (bD (ae 0)) lL (by omega) λl hl s0 H0 fp=>(x_call (b.comp s0 H0 _ fp) c_is_whole (aa (ae 0) af) ⟨_,rfl,rfl⟩)))) af) (dM b.calm ((List.range xs.length).map λl=>whl (xs.getD l .non)) (by rw [List.map_map]; rfl))))) (λz=>?_) λz=>?_
     · rw [eA] at z
       refine au fj ?_
       cases e:bC xs with
       | none=>show _=Sl.d (.bl (match bC xs with | some (n :: ns)=>_ | _=>false)); rw [e]
       | some ns=>rw [e] at z; cases z
     · rw [eA] at z
       cases e:bC xs with
       | none=>rw [e] at z; cases z
       | some ns=>
         have exs:=dC e
         subst exs
         rw [List.length_map] at hl h0
         have ln:0 < ns.length:=by omega
         have ne:ns ≠ []:=λy=>by rw [y] at ln; exact absurd ln (by decide)
         refine au (cB (x_call b c_is_rising2 (aa (ae 0) af) ⟨ns,rfl,hl,rfl⟩) λ_=>(cB (cA (aG (ae 0) ag (ax (a5 (f:=D.int) (xs:=ns) 0 (i:=0) ln))) ag pG) λ_=>(eF (cA (aG (ae 0) (i4 ag) (ax (j3 ne))) (ae 1) mJ)))) ?_
         show _=Sl.d (.bl (match bC (ns.map .int) with | some (n :: ns)=>_ | _=>false))
         rw [e]
         cases ns with
         | nil=>exact absurd rfl ne
         | cons n ns=>rfl
 · have e:eS .list x=false:=by simpa using ht
   have ef:cn x m=false:=by cases x <;> first | rfl | cases e
   refine aT (PW.pt (cG (aV (aR (x_call b c_is_whole (aa (ae 1) af) ⟨_,rfl,rfl⟩))) λh=>(cG (q:=true) (aV (aR (bZ .list b (ae 0)))) λh=>(by rw [e] at h; cases h)))) (λh=>?_) λh=>?_
   · exact au fj (by rw [ef])
   · rw [e] at h; cases h
end
noncomputable def gd:D->Bool
 | .lst xs=>decide ((1:Int)<=(xs.length:Nat)) && decide (((xs.length:Nat):Int)<=7)
 | _=>false
noncomputable def gk:D->Bool
 | .lst xs=>gd (.lst xs) && (xs.map jk).all id
 | _=>false
noncomputable def cV:D->Nat
 | .lst xs=>xs.length
 | _=>0
noncomputable def ml:D->Bool
 | .lst xs=>gd (.lst xs) && ((xs.map gk).all id && (xs.map λy=>decide (cV y=cV (xs.getD 0 .non))).all id)
 | _=>false
theorem lM {xs:List D} (h:gd (.lst xs)=true):1<=xs.length/\xs.length<=7:=by
 have h:(decide ((1:Int)<=(xs.length:Nat)) && decide (((xs.length:Nat):Int)<=7))=true:=h
 rw [Bool.and_eq_true] at h
 exact ⟨by have:=of_decide_eq_true h.1; omega,by have:=of_decide_eq_true h.2; omega⟩
theorem iA (f:D->Bool) (xs:List D):(List.range xs.length).map (λi=>f (xs.getD i .non))=xs.map f:=by
 refine List.ext_getElem (by simp) λi h1 h2=>?_
 have:i < xs.length:=by simpa using h2
 simp [this]
theorem rd:∀ {x:D},gk x=true->∃ ys,x=.lst ys
 | .lst ys,_=>⟨ys,rfl⟩
 | .int _,h=>nomatch h
 | .bl _,h=>nomatch h
 | .str _,h=>nomatch h
 | .non,h=>nomatch h
 | .tup _,h=>nomatch h
noncomputable def bF (ds:List D) (r:Sl):Prop:=∃ x,ds=[x]/\r=.d (.bl (gd x))
noncomputable def gw (ds:List D) (r:Sl):Prop:=∃ x,ds=[x]/\r=.d (.bl (gk x))
noncomputable def eL (ds:List D) (r:Sl):Prop:=∃ x,ds=[x]/\r=.d (.bl (ml x))
section
variable {P:Program} {w:World} {K:PySem.W.Frag} {mg:Str->Option Value} {base:Heap} {k:Nat} {f:Addr} {fd:FuncData} {qual:Str}
theorem fE (F:Fun K "is_short_list" qual (top 29) f fd) (hb:∀ x ∈ ai,mg x=none) (y_MOST:∃ t,mg "MOST" = some (.int 7 t)):aJ P w K mg base CX0 (k + 1) f fd ["thing"] (spD K bF):=by
 refine fnD F cY hb (by rintro _ _ ⟨_,rfl,_⟩; rfl) ?_
 rintro _ _ ⟨x,rfl,rfl⟩ cdv A outer s H E b
 by_cases ht:eS .list x=true
 · obtain ⟨xs,rfl⟩:∃ xs,x=.lst xs:=by cases x <;> first | exact ⟨_,rfl⟩ | cases ht
   exact au (cB (bZ .list b (ae 0)) λh=>(eF (nP ag (aQ b (aa (ae 0) af) cj) (qz y_MOST) sZ sZ).1)) rfl
 · have e:eS .list x=false:=by simpa using ht
   have ef:gd x=false:=by cases x <;> first | rfl | cases e
   refine au (cB (q:=true) (bZ .list b (ae 0)) λh=>(by rw [e] at h; cases h)) ?_
   rw [ef,e]; rfl
theorem mq (F:Fun K "is_row" qual (top 30) f fd) (hb:∀ x ∈ ai,mg x=none) (c_is_short_list2:Cal P w K mg base k "is_short_list" bF) (c_is_fraction:Cal P w K mg base k "is_fraction" b9):aJ P w K mg base CX0 (k + 1) f fd ["thing"] (spD K gw):=by
 refine fnD F jX hb (by rintro _ _ ⟨_,rfl,_⟩; rfl) ?_
 rintro _ _ ⟨x,rfl,rfl⟩ cdv A outer s H E b
 by_cases ht:gd x=true
 · obtain ⟨xs,rfl⟩:∃ xs,x=.lst xs:=by cases x <;> first | exact ⟨_,rfl⟩ | cases ht
   obtain ⟨l1,l7⟩:=lM ht
   refine au (cB (x_call b c_is_short_list2 (aa (ae 0) af) ⟨_,rfl,rfl⟩) λh=>(eF (aQ b (aa (aM (cI (cmp 0 (f:=λl=>.bl (jk (xs.getD l .non))) b (bD (ae 0)) lL (by omega) λl hl s0 H0 fp=>(x_call (b.comp s0 H0 _ fp) c_is_fraction (aa (ae 0) af) ⟨_,rfl,rfl⟩)))) af) (dM b.calm ((List.range xs.length).map λl=>jk (xs.getD l .non)) (by rw [List.map_map]; rfl))))) ?_
   rw [iA jk xs]; rfl
 · have e:gd x=false:=by simpa using ht
   have ef:gk x=false:=by
     cases x with
     | lst xs=>show (gd (.lst xs) && _)=false; rw [e]; rfl
     | _=>rfl
   refine au (cB (q:=true) (x_call b c_is_short_list2 (aa (ae 0) af) ⟨_,rfl,rfl⟩) λh=>(by rw [e] at h; cases h)) ?_
   rw [ef,e]; rfl
theorem kq (F:Fun K "is_table" qual (top 31) f fd) (hb:∀ x ∈ ai,mg x=none) (c_is_short_list2:Cal P w K mg base k "is_short_list" bF) (c_is_row2:Cal P w K mg base k "is_row" gw):aJ P w K mg base CX0 (k + 1) f fd ["thing"] (spD K eL):=by
 refine fnD F gN hb (by rintro _ _ ⟨_,rfl,_⟩; rfl) ?_
 rintro _ _ ⟨x,rfl,rfl⟩ cdv A outer s H E b
 by_cases ht:gd x=true
 · obtain ⟨xs,rfl⟩:∃ xs,x=.lst xs:=by cases x <;> first | exact ⟨_,rfl⟩ | cases ht
   obtain ⟨l1,l7⟩:=lM ht
   refine aT (PW.pt (cG (aV (aR (x_call b c_is_short_list2 (aa (ae 0) af) ⟨_,rfl,rfl⟩))) λh=>(cX (aV (aR (aQ b (aa (aM (cI (cmp 0 (f:=λl=>.bl (gk (xs.getD l .non))) b (bD (ae 0)) lL (by omega) λl hl s0 H0 fp=>(x_call (b.comp s0 H0 _ fp) c_is_row2 (aa (ae 0) af) ⟨_,rfl,rfl⟩)))) af) (dM b.calm ((List.range xs.length).map λl=>gk (xs.getD l .non)) (by rw [List.map_map]; rfl)))))))) (λz=>?_) λz=>?_
   · rw [ht,iA gk xs] at z
     have z:((xs.map gk).all id)=false:=by simpa using z
     refine au fj ?_
     show Sl.d (.bl false)=Sl.d (.bl (gd (.lst xs) && ((xs.map gk).all id && _)))
     rw [z,Bool.false_and,Bool.and_false]
   · rw [ht,iA gk xs] at z
     have z:((xs.map gk).all id)=true:=by simpa using z
     have rw_:∀ l,l < xs.length->∃ ys,xs.getD l .non=.lst ys:=λl hl=>by
       refine rd ?_
       rw [List.all_eq_true] at z
       have:=z (gk (xs.getD l .non)) (List.mem_map.mpr ⟨_,by simp [hl],rfl⟩)
       exact this
     obtain ⟨y0,e0⟩:=rw_ 0 (by omega)
     have a0:atI xs 0=some (.lst y0):=by
       have:=a4 (xs:=xs) (i:=0) (x:=xs.getD 0 .non) (by simp [show 0 < xs.length by omega])
       rw [e0] at this; exact this
     refine au (aQ b (aa (aM (cI (cmp 0 (f:=λl=>.bl (decide (cV (xs.getD l .non)=cV (xs.getD 0 .non)))) b (bD (ae 0)) lL (by omega) λl hl s0 H0 fp=>?_))) af) (dM b.calm ((List.range xs.length).map λl=>decide (cV (xs.getD l .non)=cV (xs.getD 0 .non))) (by rw [List.map_map]; rfl))) ?_
     · obtain ⟨yl,el⟩:=rw_ l hl
       have en:(.bl (decide (cV (xs.getD l .non)=cV (xs.getD 0 .non))):D)=.bl (decide ((yl.length:Int)=(y0.length:Nat))):=by
         rw [el,e0]
         show D.bl (decide (yl.length=y0.length))=_
         congr 1
         exact decide_eq_decide.mpr Int.ofNat_inj.symm
       rw [en,el]
       exact cA (aQ (b.comp s0 H0 _ fp) (aa (ae 0) af) cj) (aQ (b.comp s0 H0 _ fp) (aa (aG (ae 1) ag (ax a0)) af) cj) bt
     · rw [iA (λy=>decide (cV y=cV (xs.getD 0 .non))) xs]
       show _=Sl.d (.bl (gd (.lst xs) && ((xs.map gk).all id && _)))
       rw [z,ht,Bool.true_and,Bool.true_and]
 · have e:gd x=false:=by simpa using ht
   have ef:ml x=false:=by
     cases x with
     | lst xs=>show (gd (.lst xs) && _)=false; rw [e]; rfl
     | _=>rfl
   refine aT (PW.pt (cG (q:=true) (aV (aR (x_call b c_is_short_list2 (aa (ae 0) af) ⟨_,rfl,rfl⟩))) λh=>(by rw [e] at h; cases h))) (λh=>?_) λh=>?_
   · refine au fj ?_
     rw [ef]
   · rw [e] at h; cases h
end
theorem mP {X:Cx} {τ:List Sl} {N:Po} {rest body:List Stmt} {n:Str} {S:Addr} {psm pr ph pos:Pos} {ret:Expr} {M:List Sl->Prop} (nd:X.N.Nodup) (hb:∀ pins,PSs (XN X pins) body (dS X.K τ { N with nx:=M })) (hmS:X.mg "SmoothError" = some (.ref S)) (i:Nat) (hr:∀ τ',M τ'->PSs X rest (dS X.K τ' N))
   (hst:X.stack=X.env :: X.outer/\X.env.frame=some X.env.locals:=by exact ⟨rfl,rfl⟩) (hi:X.N[i]?=some n:=by rfl) (hn:X.env.scope.names.lookup n=some .local:=by rfl) (hgS:Gl X "SmoothError":=by rfl) :
   PSs X (.Try body [.ExceptHandler (some (.Name "SmoothError" psm)) (some n) [.Return (some ret) pr] ph] [] [] pos :: rest) (dS X.K τ N):=
 bj (M:=M) (Hx.qr (ks:=[]) (cl:=λ_=>0) (i:=i) (tr:=λ_ _ _ _ _=>False) (tb:=λ_=>dS X.K τ { N with nx:=M }) hst nd hi hn hgS hmS (by decide) (λc' hc'=>nomatch hc') (λa o pins s σ H Q I z=>z.elim) λEx pins E hp=>PSs.nox (X:=Hx.XP X pins E) (hb pins)) hr
noncomputable def shO (x:D):Prop:=∀ xs,x=.lst xs->xs.length<=1000
theorem sx {ns:List Int} (h:kK ns=true):∀ i,i + 1 < ns.length->ns.getD i 0 < ns.getD (i + 1) 0:=λi hi=>by
 unfold kK at h
 rw [List.all_map,List.all_eq_true] at h
 exact of_decide_eq_true (h i (List.mem_range.mpr (by omega)))
theorem eO {x:D} {m:Int} (s:shO x) (h:cn x m=true):∃ ns:List Int,x=.lst (ns.map .int)/\ChO m ns:=by
 cases x with
 | lst xs=>
   have hl:=s xs rfl
   have h:(match bC xs with | some (n :: ns)=>kK (n :: ns) && (decide (n ≥ 0) && decide (gU (n :: ns) < m)) | _=>false)=true:=h
   cases e:bC xs with
   | none=>rw [e] at h; cases h
   | some ns=>
     have exs:=dC e
     subst exs
     rw [e] at h
     rw [List.length_map] at hl
     cases ns with
     | nil=>cases h
     | cons n ns=>
       simp only [Bool.and_eq_true,decide_eq_true_eq] at h
       exact ⟨n :: ns,rfl,⟨by simp,sx h.1,h.2.1,h.2.2,hl⟩⟩
 | _=>cases h
theorem ChO.le {m:Nat} {ns:List Int} (h:ChO m ns):ns.length<=m:=by
 have lo:∀ i,i < ns.length->(i:Int)<=ns.getD i 0:=λi=>by
   induction i with
   | zero=>exact λ_=>h.lo
   | succ i ih=>exact λhi=>by have:=ih (by omega); have:=h.up i hi; omega
 rcases Nat.eq_zero_or_pos ns.length with z | z
 · omega
 · have:=lo (ns.length - 1) (by omega)
   have:=h.hi
   unfold gU at this
   omega
theorem tZ {R C:Nat} {M:List (List Rat)} {rs cs:List Int} (t:Tq R C M) (hr:ChO R rs) (hc:ChO C cs):Tq rs.length cs.length (chM M rs cs):=by
 have r1:0 < rs.length:=List.length_pos_iff.mpr hr.ne
 have c1:0 < cs.length:=List.length_pos_iff.mpr hc.ne
 have r7:=hr.le
 have c7:=hc.le
 have:=t.r7
 have:=t.c7
 refine ⟨r1,by omega,c1,by omega,by unfold chM; rw [List.length_map],λr hr'=>?_⟩
 unfold chM at hr'
 obtain ⟨x,_,rfl⟩:=List.mem_map.mp hr'
 unfold pkL
 rw [List.length_map]
noncomputable def gB (ds:List D) (r:Sl):Prop:=∃ (R C:Nat) (M:List (List Rat)) (rs cs:List Int),ds=[tbQ M,.lst (rs.map .int),.lst (cs.map .int)]/\Tq R C M/\ChO R rs/\ChO C cs/\r=.o ((chM M rs cs).map rwQ)
noncomputable def iB (ds:List D) (r:Sl):Prop:=∃ (R C:Nat) (M:List (List Rat)),ds=[tbQ M]/\Tq R C M/\r=.o ((jy M C).map rwQ)
noncomputable def gE (ds:List D) (c:Nat):Prop:=∃ x,ds=[x]/\ml x=false/\c=1
noncomputable def sk (ds:List D) (c:Nat):Prop:=∃ (y z:D) (m n:Int),ds=[y,z,.int m,.int n]/\shO y/\shO z/\(cn y m && cn z n)=false/\c=2
noncomputable def pP (ds:List D) (c:Nat):Prop:=∃ (R C:Nat) (M:List (List Rat)),ds=[tbQ M]/\Tq R C M/\R ≠ C/\c=3
noncomputable def sj (ds:List D) (c:Nat):Prop:=(∃ x y z,ds=[x,y,z]/\ml x=false/\c=1)\/∃ (R C:Nat) (M:List (List Rat)) (y z:D),ds=[tbQ M,y,z]/\Tq R C M/\shO y/\shO z/\(cn y (R:Nat) && cn z (C:Nat))=false/\c=2
noncomputable def vm (ds:List D) (c:Nat):Prop:=sj ds c\/∃ (R C:Nat) (M:List (List Rat)) (rs cs:List Int),ds=[tbQ M,.lst (rs.map .int),.lst (cs.map .int)]/\Tq R C M/\ChO R rs/\ChO C cs/\rs.length ≠ cs.length/\c=3
section
variable {P:Program} {w:World} {K:PySem.W.Frag} {mg:Str->Option Value} {base:Heap} {k:Nat} {f:Addr} {fd:FuncData} {qual:Str}
theorem mW (F:Fun K "part_of" qual (top 37) f fd) (hb:∀ x ∈ ai,mg x=none) (c_look_table:Cal P w K mg base k "look_table" bh) (c_look_choices:Cal P w K mg base k "look_choices" bA) (c_chosen:Cal P w K mg base k "chosen" d8):aJ P w K mg base CX0 (k + 1) f fd ["table","rows","columns"] (spD K gB):=by
 refine fnD F iM hb (by rintro _ _ ⟨_,_,_,_,_,rfl,_⟩; rfl) ?_
 rintro _ _ ⟨R,C,M,rs,cs,rfl,t,hr,hc,rfl⟩ cdv A outer s H E b
 have r1:=t.r1
 have e0:atI (M.map rwQ) 0=some (rwQ (M.getD 0 [])):=a5 [] (i:=0) (by rw [t.len]; omega)
 refine cM (x_call b c_look_table (aa (ae 0) af) ⟨R,C,M,rfl,t,rfl⟩) ?_
 refine cM (x_call b c_look_choices (aa (ae 1) (aa (ae 2) (aa (aQ b (aa (ae 0) af) (bI (n:=R) (by rw [List.length_map]; exact t.len))) (aa (aQ b (aa (aG (ae 0) ag (ax e0)) af) (bI (n:=C) (by rw [List.length_map]; exact t.at_ (by omega)))) af)))) ⟨rs,cs,R,C,rfl,hr,hc,rfl⟩) ?_
 exact au (x_call b c_chosen (aa (ae 0) (aa (ae 1) (aa (ae 2) af))) ⟨R,C,M,rs,cs,rfl,t,hr.pk,hc.pk,rfl⟩) rfl
theorem oY (F:Fun K "turned" qual (top 39) f fd) (hb:∀ x ∈ ai,mg x=none) (c_look_table:Cal P w K mg base k "look_table" bh) (c_columns_of:Cal P w K mg base k "columns_of" dj):aJ P w K mg base CX0 (k + 1) f fd ["table"] (spD K iB):=by
 refine fnD F jU hb (by rintro _ _ ⟨_,_,_,rfl,_⟩; rfl) ?_
 rintro _ _ ⟨R,C,M,rfl,t,rfl⟩ cdv A outer s H E b
 refine cM (x_call b c_look_table (aa (ae 0) af) ⟨R,C,M,rfl,t,rfl⟩) ?_
 exact au (x_call b c_columns_of (aa (ae 0) af) ⟨R,C,M,rfl,t,rfl⟩) rfl
theorem jh {cl:Nat->Addr} {cs:List Nat} (F:Fun K "look_table" qual (top 34) f fd) (hb:∀ x ∈ ai,mg x=none) (Z:Cls K mg cl cs) (h1:1 ∈ cs) (c_is_table2:Cal P w K mg base k "is_table" eL):aJ P w K mg base (Hx.CXe P w cl) (k + 1) f fd ["thing"] (spX K cl gE):=by
 obtain ⟨S,hS,hx⟩:=Z.ex
 refine fnX F eW hb (by rintro _ _ ⟨_,rfl,_⟩; rfl) ?_
 rintro _ _ ⟨x,rfl,h2,rfl⟩ cdv A outer s H E hr b ps lv
 refine aT (PT.nox (aV (aR (x_call b c_is_table2 (aa (ae 0) af) ⟨x,rfl,rfl⟩)))) (λ_=>gZ (lv 1) (Z.nm 1 (by decide)) (hx 1 h1).1 (aa aU af)) λh=>?_
 rw [h2] at h; cases h
theorem gW {cl:Nat->Addr} {cs:List Nat} (F:Fun K "look_choices" qual (top 35) f fd) (hb:∀ x ∈ ai,mg x=none) (Z:Cls K mg cl cs) (h1:2 ∈ cs) (c_is_choice2:Cal P w K mg base k "is_choice" cw):aJ P w K mg base (Hx.CXe P w cl) (k + 1) f fd ["rows","columns","many_rows","many_columns"] (spX K cl sk):=by
 obtain ⟨S,hS,hx⟩:=Z.ex
 refine fnX F dJ hb (by rintro _ _ ⟨_,_,_,_,rfl,_⟩; rfl) ?_
 rintro _ _ ⟨y,z,m,n,rfl,sy,sz,h2,rfl⟩ cdv A outer s H E hr b ps lv
 refine aT (PT.nox (aV (aR (x_call b c_is_choice2 (aa (ae 0) (aa (ae 2) af)) ⟨y,m,rfl,sy,rfl⟩)))) (λ_=>gZ (lv 2) (Z.nm 2 (by decide)) (hx 2 h1).1 (aa aU af)) λh=>?_
 have e1:cn y m=true:=by simpa using h
 rw [e1,Bool.true_and] at h2
 refine aT (PT.nox (aV (aR (x_call b c_is_choice2 (aa (ae 1) (aa (ae 3) af)) ⟨z,n,rfl,sz,rfl⟩)))) (λ_=>gZ (lv 2) (Z.nm 2 (by decide)) (hx 2 h1).1 (aa aU af)) λh=>?_
 rw [h2] at h; cases h
theorem ia {cl:Nat->Addr} {cs:List Nat} (F:Fun K "look_square" qual (top 45) f fd) (hb:∀ x ∈ ai,mg x=none) (Z:Cls K mg cl cs) (h1:3 ∈ cs):aJ P w K mg base (Hx.CXe P w cl) (k + 1) f fd ["table"] (spX K cl pP):=by
 obtain ⟨S,hS,hx⟩:=Z.ex
 refine fnX F d0 hb (by rintro _ _ ⟨_,_,_,rfl,_⟩; rfl) ?_
 rintro _ _ ⟨R,C,M,rfl,t,ne,rfl⟩ cdv A outer s H E hr b ps lv
 have r1:=t.r1
 have e0:atI (M.map rwQ) 0=some (rwQ (M.getD 0 [])):=a5 [] (i:=0) (by rw [t.len]; omega)
 refine aT (PT.nox (aH (aQ b (aa (ae 0) af) (bI (n:=R) (by rw [List.length_map]; exact t.len))) (aQ b (aa (aG (ae 0) ag (ax e0)) af) (bI (n:=C) (by rw [List.length_map]; exact t.at_ (by omega)))) ly)) (λ_=>gZ (lv 3) (Z.nm 3 (by decide)) (hx 3 h1).1 (aa aU af)) λh=>?_
 have:(R:Int)=C:=by simpa using h
 exact absurd (by omega) ne
theorem dQ {cl:Nat->Addr} (F:Fun K "square_determinant" qual (top 44) f fd) (hb:∀ x ∈ ai,mg x=none) (x_look_square:cH P w K mg base cl k "look_square" pP):aJ P w K mg base (Hx.CXe P w cl) (k + 1) f fd ["table"] (spX K cl pP):=by
 refine fnX F bx hb (by rintro _ _ ⟨_,_,_,rfl,_⟩; rfl) ?_
 rintro _ _ ⟨R,C,M,rfl,t,ne,rfl⟩ cdv A outer s H E hr b ps lv
 exact eQ (bG (c:=3) (C:=false) hr ps x_look_square (aa (ae 0) af) ⟨R,C,M,rfl,t,ne,rfl⟩)
theorem pS {cl:Nat->Addr} (F:Fun K "turned" qual (top 39) f fd) (hb:∀ x ∈ ai,mg x=none) (x_look_table:cH P w K mg base cl k "look_table" gE):aJ P w K mg base (Hx.CXe P w cl) (k + 1) f fd ["table"] (spX K cl gE):=by
 refine fnX F jU hb (by rintro _ _ ⟨_,rfl,_⟩; rfl) ?_
 rintro _ _ ⟨x,rfl,h2,rfl⟩ cdv A outer s H E hr b ps lv
 exact eQ (bG (c:=1) (C:=false) hr ps x_look_table (aa (ae 0) af) ⟨x,rfl,h2,rfl⟩)
theorem ni {cl:Nat->Addr} (F:Fun K "part_of" qual (top 37) f fd) (hb:∀ x ∈ ai,mg x=none) (c_look_table:Cal P w K mg base k "look_table" bh) (x_look_table:cH P w K mg base cl k "look_table" gE) (x_look_choices:cH P w K mg base cl k "look_choices" sk):aJ P w K mg base (Hx.CXe P w cl) (k + 1) f fd ["table","rows","columns"] (spX K cl sj):=by
 refine fnX F iM hb (by rintro _ _ (⟨_,_,_,rfl,_⟩ | ⟨_,_,_,_,_,rfl,_⟩) <;> rfl) ?_
 rintro _ _ (⟨x,y,z,rfl,h2,rfl⟩ | ⟨R,C,M,y,z,rfl,t,sy,sz,h2,rfl⟩) cdv A outer s H E hr b ps lv
 · exact eQ (bG (c:=1) (C:=false) hr ps x_look_table (aa (ae 0) af) ⟨x,rfl,h2,rfl⟩)
 · have r1:=t.r1
   have e0:atI (M.map rwQ) 0=some (rwQ (M.getD 0 [])):=a5 [] (i:=0) (by rw [t.len]; omega)
   refine cM (PE.nox (x_call b c_look_table (aa (ae 0) af) ⟨R,C,M,rfl,t,rfl⟩)) ?_
   exact eQ (bG (c:=2) (C:=false) hr ps x_look_choices (aa (ae 1) (aa (ae 2) (aa (PE.nox (aQ b (aa (ae 0) af) (bI (n:=R) (by rw [List.length_map]; exact t.len)))) (aa (PE.nox (aQ b (aa (aG (ae 0) ag (ax e0)) af) (bI (n:=C) (by rw [List.length_map]; exact t.at_ (by omega))))) af)))) ⟨y,z,R,C,rfl,sy,sz,h2,rfl⟩)
theorem rS {cl:Nat->Addr} (F:Fun K "minor" qual (top 43) f fd) (hb:∀ x ∈ ai,mg x=none) (c_look_table:Cal P w K mg base k "look_table" bh) (x_look_table:cH P w K mg base cl k "look_table" gE) (c_look_choices:Cal P w K mg base k "look_choices" bA) (x_look_choices:cH P w K mg base cl k "look_choices" sk) (c_chosen:Cal P w K mg base k "chosen" d8) (x_square_determinant:cH P w K mg base cl k "square_determinant" pP):aJ P w K mg base (Hx.CXe P w cl) (k + 1) f fd ["table","rows","columns"] (spX K cl vm):=by
 refine fnX F kY hb (by rintro _ _ ((⟨_,_,_,rfl,_⟩ | ⟨_,_,_,_,_,rfl,_⟩) | ⟨_,_,_,_,_,rfl,_⟩) <;> rfl) ?_
 rintro _ _ ((⟨x,y,z,rfl,h2,rfl⟩ | ⟨R,C,M,y,z,rfl,t,sy,sz,h2,rfl⟩) | ⟨R,C,M,rs,cs,rfl,t,hrs,hcs,ne,rfl⟩) cdv A outer s H E hr b ps lv
 · exact eQ (bG (c:=1) (C:=false) hr ps x_look_table (aa (ae 0) af) ⟨x,rfl,h2,rfl⟩)
 · have r1:=t.r1
   have e0:atI (M.map rwQ) 0=some (rwQ (M.getD 0 [])):=a5 [] (i:=0) (by rw [t.len]; omega)
   refine cM (PE.nox (x_call b c_look_table (aa (ae 0) af) ⟨R,C,M,rfl,t,rfl⟩)) ?_
   exact eQ (bG (c:=2) (C:=false) hr ps x_look_choices (aa (ae 1) (aa (ae 2) (aa (PE.nox (aQ b (aa (ae 0) af) (bI (n:=R) (by rw [List.length_map]; exact t.len)))) (aa (PE.nox (aQ b (aa (aG (ae 0) ag (ax e0)) af) (bI (n:=C) (by rw [List.length_map]; exact t.at_ (by omega))))) af)))) ⟨y,z,R,C,rfl,sy,sz,h2,rfl⟩)
 · have r1:=t.r1
   have e0:atI (M.map rwQ) 0=some (rwQ (M.getD 0 [])):=a5 [] (i:=0) (by rw [t.len]; omega)
   refine cM (PE.nox (x_call b c_look_table (aa (ae 0) af) ⟨R,C,M,rfl,t,rfl⟩)) ?_
   refine cM (PE.nox (x_call b c_look_choices (aa (ae 1) (aa (ae 2) (aa (aQ b (aa (ae 0) af) (bI (n:=R) (by rw [List.length_map]; exact t.len))) (aa (aQ b (aa (aG (ae 0) ag (ax e0)) af) (bI (n:=C) (by rw [List.length_map]; exact t.at_ (by omega)))) af)))) ⟨rs,cs,R,C,rfl,hrs,hcs,rfl⟩)) ?_
   exact wd (bG (c:=3) (C:=false) hr ps x_square_determinant (aa (PE.nox (aM (x_call b c_chosen (aa (ae 0) (aa (ae 1) (aa (ae 2) af))) ⟨R,C,M,rs,cs,rfl,t,hrs.pk,hcs.pk,rfl⟩))) af) ⟨_,_,chM M rs cs,rfl,tZ t hrs hcs,ne,rfl⟩)
end
noncomputable def whw (x:D):Bool:=eS .int x && !eS .bool x
noncomputable def gq (ds:List D) (r:Sl):Prop:=∃ x,ds=[x]/\r=.d (.bl (whw x))
theorem oK {ns:List Int} {m:Int} (ne:ns ≠ []):cn (.lst (ns.map .int)) m=(kK ns && (decide (ns.getD 0 0 ≥ 0) && decide (gU ns < m))):=by
 have e:∀ ns:List Int,bC (ns.map .int)=some ns:=λns=>by
   induction ns with
   | nil=>rfl
   | cons n ns ih=>rw [List.map_cons,bC,ih]; rfl
 show (match bC (ns.map .int) with | some (n :: ns)=>kK (n :: ns) && (decide (n ≥ 0) && decide (gU (n :: ns) < m)) | _=>false)=_
 rw [e]
 cases ns with
 | nil=>exact absurd rfl ne
 | cons n ns=>rfl
theorem pM {xs:List D} {m:Int} (h:bC xs=none):cn (.lst xs) m=false:=by
 show (match bC xs with | some (n :: ns)=>kK (n :: ns) && (decide (n ≥ 0) && decide (gU (n :: ns) < m)) | _=>false)=_
 rw [h]
noncomputable def fG (ds:List D) (r:Sl):Prop:=∃ (x:D) (m:Int),ds=[x,.int m]/\shO x/\r=.d (.bl (cn x m))
section
variable {P:Program} {w:World} {K:PySem.W.Frag} {mg:Str->Option Value} {base:Heap} {k:Nat} {f:Addr} {fd:FuncData} {qual:Str}
theorem l6 (F:Fun K "_law_whole" qual (top 62) f fd) (hb:∀ x ∈ ai,mg x=none):aJ P w K mg base CX0 (k + 1) f fd ["_law_thing"] (spD K gq):=by
 refine fnD F mV hb (by rintro _ _ ⟨_,rfl,_⟩; rfl) ?_
 rintro _ _ ⟨x,rfl,rfl⟩ cdv A outer s H E b
 exact au (cB (bZ .int b (ae 0)) λh=>(eF (uv (bZ .bool b (ae 0))))) rfl
theorem oZ (F:Fun K "_law_good" qual (top 65) f fd) (hb:∀ x ∈ ai,mg x=none) (c_l_whole:Cal P w K mg base k "_law_whole" gq):aJ P w K mg base CX0 (k + 1) f fd ["_law_thing","_law_many"] (spD K fG):=by
 refine fnD F pj hb (by rintro _ _ ⟨_,_,rfl,_⟩; rfl) ?_
 rintro _ _ ⟨x,m,rfl,hx,rfl⟩ cdv A outer s H E b
 by_cases ht:eS .list x=true
 · obtain ⟨xs,rfl⟩:∃ xs,x=.lst xs:=by cases x <;> first | exact ⟨_,rfl⟩ | cases ht
   have hl:=hx xs rfl
   have eA:((List.range xs.length).map λl=>whl (xs.getD l .non)).all id=(bC xs).isSome:=by rw [iA whl xs,gf]
   refine aT (PW.pt (cG (aV (aR (bZ .list b (ae 0)))) λh=>(cG (aH (aQ b (aa (ae 0) af) cj) ag bt) λh=>(cX (aV (aR (aQ b (aa (aM (cI (cmp 0 (f:=λl=>.bl (whl (xs.getD l .non))) b (bD (ae 0)) lL (by omega) λl hl s0 H0 fp=>(x_call (b.comp s0 H0 _ fp) c_l_whole (aa (ae 0) af) ⟨_,rfl,rfl⟩)))) af) (dM b.calm ((List.range xs.length).map λl=>whl (xs.getD l .non)) (by rw [List.map_map]; rfl))))))))) (λz=>?_) λz=>?_
   · rw [eA] at z
     have z:(decide ((xs.length:Int)=0) || !(bC xs).isSome)=true:=z
     refine au fj ?_
     by_cases h0:xs=[]
     · subst h0; rfl
     · rw [decide_eq_false (by have:=List.length_pos_iff.mpr h0; omega),Bool.false_or] at z
       cases e:bC xs with
       | none=>rw [pM e]
       | some ns=>rw [e] at z; cases z
   · rw [eA] at z
     have z:(decide ((xs.length:Int)=0) || !(bC xs).isSome)=false:=z
     rw [Bool.or_eq_false_iff] at z
     have z0:=of_decide_eq_false z.1
     cases e:bC xs with
     | none=>rw [e] at z; cases z.2
     | some ns=>
       have exs:=dC e
       subst exs
       rw [List.length_map] at hl z0
       have ln:0 < ns.length:=by omega
       have ne:ns ≠ []:=List.length_pos_iff.mp ln
       rw [oK ne]
       refine aT (PW.pt (cG (aH (aG (ae 0) ag (ax (a5 (f:=D.int) (xs:=ns) 0 (i:=0) ln))) ag mJ) λh=>(cX (aH (aG (ae 0) (i4 ag) (ax (j3 ne))) (ae 1) pG)))) (λz=>?_) λz=>?_
       · refine au fj ?_
         rw [Bool.or_eq_true] at z
         rcases z with z | z
         · rw [decide_eq_false (p:=ns.getD 0 0 ≥ 0) (by have:=of_decide_eq_true z; omega),Bool.false_and,Bool.and_false]
         · rw [decide_eq_false (p:=gU ns < m) (by have:=of_decide_eq_true z; omega),Bool.and_false,Bool.and_false]
       · rw [Bool.or_eq_false_iff] at z
         have z1:=of_decide_eq_false z.1
         have z2:=of_decide_eq_false z.2
         rw [decide_eq_true (p:=ns.getD 0 0 ≥ 0) (by omega),decide_eq_true (p:=gU ns < m) (by omega)]
         refine au (aQ b (aa (aM (cI (cmp 0 (g:=λi=>.int (1 + (i:Nat))) (f:=λi=>.bl (decide (ns.getD i 0 < ns.getD (i + 1) 0))) b (iU b ag (aQ b (aa (ae 0) af) cj) (by rw [List.length_map]; omega)) (λi h=>eP 1 _ i h) (by rw [aw,List.length_map]; omega) λi hi s0 H0 fp=>?_))) af) (dM b.calm ((List.range (ns.length - 1)).map λi=>decide (ns.getD i 0 < ns.getD (i + 1) 0)) ?_)) ?_
         · rw [aw,List.length_map] at hi
           have e1:(1:Int) + (i:Nat) - 1=(i:Nat):=by omega
           have e2:(1:Int) + (i:Nat)=((i + 1:Nat):Int):=by omega
           have a1:atI (ns.map D.int) ((1:Int) + (i:Nat) - 1)=some (.int (ns.getD i 0)):=by rw [e1]; exact a5 0 (by omega)
           have a2:atI (ns.map D.int) ((1:Int) + (i:Nat))=some (.int (ns.getD (i + 1) 0)):=by rw [e2]; exact a5 0 (by omega)
           exact cA (aG (ae 1) (ae 0) (ax a2)) (aG (ae 1) (aC (ae 0) ag fJ) (ax a1)) xA
         · rw [aw,List.length_map,List.map_map]
           have e:(((ns.length:Nat):Int) - 1).toNat=ns.length - 1:=by omega
           rw [e]
           rfl
         · show _=Sl.d (.bl (kK ns && (true && true)))
           rw [Bool.and_true,Bool.and_true]
           rfl
 · have e:eS .list x=false:=by simpa using ht
   have ef:cn x m=false:=by cases x <;> first | rfl | cases e
   refine aT (PW.pt (cG (q:=true) (aV (aR (bZ .list b (ae 0)))) λh=>(by rw [e] at h; cases h))) (λh=>?_) λh=>?_
   · exact au fj (by rw [ef])
   · rw [e] at h; cases h
end
noncomputable def kR (w:Int) (no:Bool) (R C:Nat) (y z:D):Str:=if no then "NoTable" else if w=1 then "" else if (cn y (R:Nat) && cn z (C:Nat))=false then "NoChoice" else if w=2/\cV y ≠ cV z then "NoSquare" else ""
theorem uZ {R C:Nat} {y z:D}:kR 1 false R C y z = "":=rfl
theorem rh {w:Int} {R C:Nat} {y z:D} (h1:¬w=1) (h:(cn y (R:Nat) && cn z (C:Nat))=false):kR w false R C y z = "NoChoice":=by
 unfold kR
 rw [if_neg (by decide),if_neg h1,if_pos h]
theorem mM {w:Int} {R C:Nat} {y z:D} (h1:¬w=1) (h:(cn y (R:Nat) && cn z (C:Nat))=true):kR w false R C y z=(if w=2/\cV y ≠ cV z then ("NoSquare" : Str) else ("" : Str)):=by
 unfold kR
 rw [if_neg (by decide),if_neg h1,if_neg (by rw [h]; decide)]
noncomputable def jY (ds:List D) (r:Sl):Prop:=∃ (w:Int) (R C:Nat) (M:List (List Rat)) (x y z:D) (no:Bool),ds=[.int w,x,y,z,.bl no]/\(no=false->x=tbQ M/\Tq R C M)/\shO y/\shO z/\r=.d (.str (kR w no R C y z))
section
variable {P:Program} {w:World} {K:PySem.W.Frag} {mg:Str->Option Value} {base:Heap} {k:Nat} {f:Addr} {fd:FuncData} {qual:Str}
theorem qJ (F:Fun K "_law_due" qual (top 68) f fd) (hb:∀ x ∈ ai,mg x=none) (c_l_good:Cal P w K mg base k "_law_good" fG):aJ P w K mg base CX0 (k + 1) f fd ["_law_what","_law_table_here","_law_rows","_law_columns","_law_none"] (spD K jY):=by
 refine fnD F la hb (by rintro _ _ ⟨_,_,_,_,_,_,_,_,rfl,_⟩; rfl) ?_
 rintro _ _ ⟨w,R,C,M,x,y,z,no,rfl,ht,sy,sz,rfl⟩ cdv A outer s H E b
 have nd:=la.nd
 refine aT (aR (ae 4)) (λh=>?_) λh=>?_
 · have h:no=true:=h
   subst h
   exact au aU rfl
 have h:no=false:=h
 subst h
 obtain ⟨rfl,t⟩:=ht rfl
 have r1:=t.r1
 have e0:atI (M.map rwQ) 0=some (rwQ (M.getD 0 [])):=a5 [] (i:=0) (by rw [t.len]; omega)
 refine aT (aH (ae 0) ag bt) (λh=>?_) λh=>?_
 · refine au aU ?_
   rw [of_decide_eq_true h,uZ]
 have h1:=of_decide_eq_false h
 refine aT (PW.pt (cG (aV (aR (x_call b c_l_good (aa (ae 2) (aa (aQ b (aa (ae 1) af) (bI (n:=R) (by rw [List.length_map]; exact t.len))) af)) ⟨y,_,rfl,sy,rfl⟩))) λh=>(cX (aV (aR (x_call b c_l_good (aa (ae 3) (aa (aQ b (aa (aG (ae 1) ag (ax e0)) af) (bI (n:=C) (by rw [List.length_map]; exact t.at_ (by omega)))) af)) ⟨z,_,rfl,sz,rfl⟩)))))) (λh=>?_) λh=>?_
 · refine au aU ?_
   have h:(!cn y (R:Nat) || !cn z (C:Nat))=true:=h
   rw [<- Bool.not_and,Bool.not_eq_true'] at h
   rw [rh h1 h]
 · have h2:(cn y (R:Nat) && cn z (C:Nat))=true:=by rw [<- Bool.not_and,Bool.not_eq_false'] at h; exact h
   have h2':=h2
   rw [Bool.and_eq_true] at h2'
   obtain ⟨rs,rfl,hr⟩:=eO sy h2'.1
   obtain ⟨cs,rfl,hc⟩:=eO sz h2'.2
   have e:(decide (w=2) && !decide (((rs.map D.int).length:Int)=((cs.map D.int).length:Nat)))=decide (w=2/\cV (.lst (rs.map .int)) ≠ cV (.lst (cs.map .int))):=by
     rw [Bool.decide_and,decide_not]
     congr 2
     exact decide_eq_decide.mpr Int.ofNat_inj
   refine au (aG (aM (ba (aa aU (aa aU af)))) (pB b (aa (cB (cA (ae 0) ag bt) λh=>(eF (cA (aQ b (aa (ae 2) af) cj) (aQ b (aa (ae 3) af) cj) ly))) af) nr) (ax (z:=.str (kR w false R C (.lst (rs.map .int)) (.lst (cs.map .int)))) ?_)) rfl
   rw [e]
   rw [mM h1 h2]
   by_cases q:w=2/\cV (.lst (rs.map .int)) ≠ cV (.lst (cs.map .int))
   · rw [if_pos q,decide_eq_true q]; rfl
   · rw [if_neg q,decide_eq_false q]; rfl
end
noncomputable def fq (ds:List D) (r:Sl):Prop:=∃ (w:Int) (R C d v:Nat) (M:List (List Rat)) (x y z:D) (no:Bool),ds=[.int w,x,y,z]/\(no=true->ml x=false)/\(no=false->x=tbQ M/\Tq R C M/\(∀ r ∈ M,∀ x ∈ r,Qs d v x)/\∀ m,m<=7->Bz m d v)/\(w=0\/w=1\/w=2)/\shO y/\shO z/\r=.d (.str (kR w no R C y z))
section
variable {P:Program} {w:World} {K:PySem.W.Frag} {mg:Str->Option Value} {base:Heap} {k:Nat} {f:Addr} {fd:FuncData} {qual:Str}
set_option maxHeartbeats 1000000 in
theorem k9 {cl:Nat->Addr} {cs:List Nat} {fw:Addr} (F:Fun K "_law_answer" qual (top 67) f fd) (hb:∀ x ∈ ai,mg x=none) (Z:Cls K mg cl cs) (k1:1 ∈ cs) (k2:2 ∈ cs) (k3:3 ∈ cs) (hm:mg "_law_word" = some (.ref fw)) (hk:PySem.W.keepIn K (.ref fw)=true) (hW:∀ c ∈ cs,dz P w K mg base cl k fw c) (c_part_of:Cal P w K mg base k "part_of" gB) (c_turned:Cal P w K mg base k "turned" iB) (c_minor:Cal P w K mg base k "minor" j4) (x_part_of:cH P w K mg base cl k "part_of" sj) (x_turned:cH P w K mg base cl k "turned" gE) (x_minor:cH P w K mg base cl k "minor" vm):aJ P w K mg base CX0 (k + 1) f fd ["_law_what","_law_table_here","_law_rows","_law_columns"] (spD K fq):=by
 obtain ⟨S,hS,hx⟩:=Z.ex
 refine fnD F gI hb (by rintro _ _ ⟨_,_,_,_,_,_,_,_,_,_,rfl,_⟩; rfl) ?_
 have nd:=gI.nd
 rintro _ _ ⟨w,R,C,d,v,M,x,y,z,no,rfl,hn,ht,hw,sy,sz,rfl⟩ cdv A outer s H E b
 cases no with
 | true=>
   have hn:=hn rfl
   refine l9 b nd (λpins E Ex ps=>?_) rfl hS (hx 1 k1).2 hm hk (hW 1 k1) 5
   refine eU (M:=λ_=>False) (aH (ae 0) ag bt) (λ_=>?_) (λ_=>?_) λ_ z=>z.elim
   · exact gc 4 nd (bG (c:=1) (C:=false) b.room ps x_part_of (aa (ae 1) (aa (ae 2) (aa (ae 3) af))) (.inl ⟨x,y,z,rfl,hn,rfl⟩))
   refine eU (M:=λ_=>False) (aH (ae 0) ag bt) (λ_=>?_) (λ_=>?_) λ_ z=>z.elim
   · exact gc 4 nd (bG (c:=1) (C:=false) b.room ps x_turned (aa (ae 1) af) ⟨x,rfl,hn,rfl⟩)
   · exact gc 4 nd (bG (c:=1) (C:=false) b.room ps x_minor (aa (ae 1) (aa (ae 2) (aa (ae 3) af))) (.inl (.inl ⟨x,y,z,rfl,hn,rfl⟩)))
 | false=>
   obtain ⟨rfl,t,hq,hz⟩:=ht rfl
   by_cases w1:w=1
   · subst w1
     refine mP (M:=λτ=>τ=[.d (.int 1),.d (tbQ M),.d y,.d z,.d (tbQ (jy M C)),.un]) nd (λpins=>?_) hS 5 λτ e=>?_
     · refine eU (M:=λτ=>τ=[.d (.int 1),.d (tbQ M),.d y,.d z,.d (tbQ (jy M C)),.un]) (aH (ae 0) ag bt) (λh=>by cases h) (λ_=>?_) λ_ e=>aZ e
       refine eU (M:=λτ=>τ=[.d (.int 1),.d (tbQ M),.d y,.d z,.d (tbQ (jy M C)),.un]) (aH (ae 0) ag bt) (λ_=>?_) (λh=>by cases h) λ_ e=>aZ e
       exact aF 4 nd (aM (x_call (b.xn pins) c_turned (aa (ae 1) af) ⟨R,C,M,rfl,t,rfl⟩)) (aZ rfl)
     · subst e
       refine cc (aH (ae 0) ag bt) rfl ?_
       exact au (aG (aM (ba (aa aU (aa aU af)))) (pB b (aa (bZ .list b (ae 4)) af) nr) (ax (z:=.str "") rfl)) rfl
   · cases hc:cn y (R:Nat) && cn z (C:Nat) with
     | false=>
       refine l9 b nd (λpins E Ex ps=>?_) (by rw [rh w1 hc]; rfl) hS (hx 2 k2).2 hm hk (hW 2 k2) 5
       refine eU (M:=λ_=>False) (aH (ae 0) ag bt) (λ_=>?_) (λ_=>?_) λ_ z=>z.elim
       · exact gc 4 nd (bG (c:=2) (C:=false) b.room ps x_part_of (aa (ae 1) (aa (ae 2) (aa (ae 3) af))) (.inr ⟨R,C,M,y,z,rfl,t,sy,sz,hc,rfl⟩))
       refine eU (M:=λ_=>False) (aH (ae 0) ag bt) (λh=>?_) (λ_=>?_) λ_ z=>z.elim
       · exact absurd (of_decide_eq_true h) w1
       · exact gc 4 nd (bG (c:=2) (C:=false) b.room ps x_minor (aa (ae 1) (aa (ae 2) (aa (ae 3) af))) (.inl (.inr ⟨R,C,M,y,z,rfl,t,sy,sz,hc,rfl⟩)))
     | true=>
       have hc':=hc
       rw [Bool.and_eq_true] at hc'
       obtain ⟨rs,rfl,hrs⟩:=eO sy hc'.1
       obtain ⟨cs',rfl,hcs⟩:=eO sz hc'.2
       have l1:cV (.lst (rs.map D.int))=rs.length:=List.length_map ..
       have l2:cV (.lst (cs'.map D.int))=cs'.length:=List.length_map ..
       rcases hw with w0 | w2 | w2
       · subst w0
         rw [mM w1 hc,if_neg λh=>absurd h.1 (by decide)]
         refine mP (M:=λτ=>τ=[.d (.int 0),.d (tbQ M),.d (.lst (rs.map .int)),.d (.lst (cs'.map .int)),.d (tbQ (chM M rs cs')),.un]) nd (λpins=>?_) hS 5 λτ e=>?_
         · refine eU (M:=λτ=>τ=[.d (.int 0),.d (tbQ M),.d (.lst (rs.map .int)),.d (.lst (cs'.map .int)),.d (tbQ (chM M rs cs')),.un]) (aH (ae 0) ag bt) (λ_=>?_) (λh=>by cases h) λ_ e=>aZ e
           exact aF 4 nd (aM (x_call (b.xn pins) c_part_of (aa (ae 1) (aa (ae 2) (aa (ae 3) af))) ⟨R,C,M,rs,cs',rfl,t,hrs,hcs,rfl⟩)) (aZ rfl)
         · subst e
           refine cc (aH (ae 0) ag bt) rfl ?_
           exact au (aG (aM (ba (aa aU (aa aU af)))) (pB b (aa (bZ .list b (ae 4)) af) nr) (ax (z:=.str "") rfl)) rfl
       · exact absurd w2 w1
       · subst w2
         rw [mM w1 hc]
         by_cases ne:rs.length=cs'.length
         · rw [if_neg (by rw [l1,l2]; exact λh=>h.2 ne)]
           have r7:rs.length<=7:=Nat.le_trans hrs.le t.r7
           refine mP (M:=λτ=>τ=[.d (.int 2),.d (tbQ M),.d (.lst (rs.map .int)),.d (.lst (cs'.map .int)),.d (frD (mnQ M rs cs')),.un]) nd (λpins=>?_) hS 5 λτ e=>?_
           · refine eU (M:=λτ=>τ=[.d (.int 2),.d (tbQ M),.d (.lst (rs.map .int)),.d (.lst (cs'.map .int)),.d (frD (mnQ M rs cs')),.un]) (aH (ae 0) ag bt) (λh=>by cases h) (λ_=>?_) λ_ e=>aZ e
             refine eU (M:=λτ=>τ=[.d (.int 2),.d (tbQ M),.d (.lst (rs.map .int)),.d (.lst (cs'.map .int)),.d (frD (mnQ M rs cs')),.un]) (aH (ae 0) ag bt) (λh=>by cases h) (λ_=>?_) λ_ e=>aZ e
             exact aF 4 nd (x_call (b.xn pins) c_minor (aa (ae 1) (aa (ae 2) (aa (ae 3) af))) ⟨R,C,rs.length,d,v,M,rs,cs',rfl,t,hrs,hcs,rfl,ne.symm,r7,hq,hz _ r7,rfl⟩) (aZ rfl)
           · subst e
             generalize mnQ M rs cs'=q
             refine aT (aH (ae 0) ag bt) (λ_=>?_) λh=>by cases h
             exact au (aG (aM (ba (aa aU (aa aU af)))) (pB b (aa (bZ .tuple b (ae 4)) af) nr) (ax (z:=.str "") rfl)) rfl
         · rw [if_pos (by rw [l1,l2]; exact ⟨rfl,ne⟩)]
           refine l9 b nd (λpins E Ex ps=>?_) rfl hS (hx 3 k3).2 hm hk (hW 3 k3) 5
           refine eU (M:=λ_=>False) (aH (ae 0) ag bt) (λh=>by cases h) (λ_=>?_) λ_ z=>z.elim
           refine eU (M:=λ_=>False) (aH (ae 0) ag bt) (λh=>by cases h) (λ_=>?_) λ_ z=>z.elim
           exact gc 4 nd (bG (c:=3) (C:=false) b.room ps x_minor (aa (ae 1) (aa (ae 2) (aa (ae 3) af))) (.inr ⟨R,C,M,rs,cs',rfl,t,hrs,hcs,ne,rfl⟩))
end
noncomputable def anA (a:Int):List D:=[.int a,.bl true,.bl false,.non,.str "",.str "1",.tup [.int 1,.int 1],.lst [],.lst [.lst []],.tup [],.int (-1),.tup [.int a,.int 2],.lst [.int 1],.lst [.tup [.int 1,.int 1]],.tup [.int 1,.bl true]]
noncomputable def anB (a:Int):List D:=anA a++[.tup [.tup [.int 1,.int 1]],.lst [.lst [.tup [.int 1,.int 1]]],.tup [.int 2,.int 4],.tup [.int 1,.int 0],.tup [.int 3,.int (-1)],.lst [.lst [.int 1]],.lst [.str "(1, 1)"],.lst [.non],.tup [.int 1,.int 1,.int 1]]
noncomputable def anC (a:Int):List D:=anB a++[.lst [.lst [.tup [.int 1,.int 1]],.lst []]]
noncomputable def g8 (ds:List D) (r:Sl):Prop:=∃ (i:Nat) (a:Int),ds=[.lst [.int i,.int a]]/\i < 25/\r=.d ((anC a).getD i .non)
noncomputable def szU (c:Int):List Int:=nums c [8,4,4,7,7]
noncomputable def szM (c:Int):Nat:=(if (szU c).getD 0 0=1 then 1 + (szU c).getD 3 0 else 1 + (szU c).getD 1 0).toNat
noncomputable def szW (c:Int):Nat:=(if (szU c).getD 0 0=1 then 1 + (szU c).getD 4 0 else 1 + (szU c).getD 2 0).toNat
theorem ud (c:Int):(0<=(szU c).getD 1 0/\(szU c).getD 1 0 < 4)/\(0<=(szU c).getD 2 0/\(szU c).getD 2 0 < 4)/\(0<=(szU c).getD 3 0/\(szU c).getD 3 0 < 7)/\(0<=(szU c).getD 4 0/\(szU c).getD 4 0 < 7):=by
 have hp:∀ b ∈ ([8,4,4,7,7]:List Int),0 < b:=by decide
 exact ⟨fS (c:=c) hp (i:=1) (by decide),fS (c:=c) hp (i:=2) (by decide),fS (c:=c) hp (i:=3) (by decide),fS (c:=c) hp (i:=4) (by decide)⟩
theorem uN (c:Int):1<=szM c/\szM c<=7/\1<=szW c/\szW c<=7:=by
 have:=ud c
 unfold szM szW
 split <;> omega
noncomputable def iI (ds:List D) (r:Sl):Prop:=∃ c:Int,ds=[.int c]/\r=.d (.tup [.int (szM c:Nat),.int (szW c:Nat)])
section
variable {P:Program} {w:World} {K:PySem.W.Frag} {mg:Str->Option Value} {base:Heap} {k:Nat} {f:Addr} {fd:FuncData} {qual:Str}
theorem pd (F:Fun K "_law_size" qual (top 61) f fd) (hb:∀ x ∈ ai,mg x=none) (c_l_numbers:Cal P w K mg base k "_law_numbers" cf):aJ P w K mg base CX0 (k + 1) f fd ["_law_cell_here"] (spD K iI):=by
 refine fnD F jI hb (by rintro _ _ ⟨_,rfl,_⟩; rfl) ?_
 rintro _ _ ⟨c,rfl,rfl⟩ cdv A outer s H E b
 have nd:=jI.nd
 have hl:(szU c).length=5:=ja ..
 have hu:=ud c
 refine aF 1 nd (x_call b c_l_numbers (aa (ae 0) (aa (aM (ba (aa ag (aa ag (aa ag (aa ag (aa ag af))))))) af)) ⟨c,[8,4,4,7,7],rfl,by decide,λb hb=>rb (by revert b; decide) (by revert b; decide),rfl⟩) (j5 1 ?_)
 refine aT (aH (aG (ae 1) ag (ax (cC (ns:=szU c) (i:=0) (by decide) (by rw [hl]; decide)))) ag bt) (λh=>?_) λh=>?_
 · refine au (eK (aa (aC ag (aG (ae 1) ag (ax (cC (ns:=szU c) (i:=3) (by decide) (by rw [hl]; decide)))) bX) (aa (aC ag (aG (ae 1) ag (ax (cC (ns:=szU c) (i:=4) (by decide) (by rw [hl]; decide)))) bX) af))) ?_
   have h:(szU c).getD 0 0=1:=of_decide_eq_true h
   unfold szM szW
   rw [if_pos h,if_pos h,Int.toNat_of_nonneg (by omega),Int.toNat_of_nonneg (by omega)]
   rfl
 · refine au (eK (aa (aC ag (aG (ae 1) ag (ax (cC (ns:=szU c) (i:=1) (by decide) (by rw [hl]; decide)))) bX) (aa (aC ag (aG (ae 1) ag (ax (cC (ns:=szU c) (i:=2) (by decide) (by rw [hl]; decide)))) bX) af))) ?_
   have h:¬ (szU c).getD 0 0=1:=of_decide_eq_false h
   unfold szM szW
   rw [if_neg h,if_neg h,Int.toNat_of_nonneg (by omega),Int.toNat_of_nonneg (by omega)]
   rfl
set_option maxHeartbeats 1000000 in
theorem qV (F:Fun K "_law_any" qual (top 64) f fd) (hb:∀ x ∈ ai,mg x=none):aJ P w K mg base CX0 (k + 1) f fd ["_law_parts"] (spD K g8):=by
 refine fnQ F lV hb (by rintro _ _ ⟨_,_,rfl,_⟩; rfl) ?_
 rintro _ _ ⟨i,a,rfl,hi,rfl⟩ cdv A outer s H E b
 have nd:=lV.nd
 have a0:atI [D.int (i:Nat),D.int a] 0=some (.int (i:Nat)):=rfl
 have a1:atI [D.int (i:Nat),D.int a] 1=some (.int a):=rfl
 refine uj 1 nd (rH (t8 (aG (ae 0) ag (ax a1)) (vX (vX (uo (qx (qx (cU (bH (bH a9)) (df a9 (df (df a9 a9) (cU a9 (uf (i4 ag) (cU (t8 (aG (ae 0) ag (ax a1)) (bH a9)) (df (bH a9) (df (cU (bH (bH a9)) a9) (cU (bH (vX a9)) a9)))))))))))))))) (wZ 1 ?_) (hs:=vc)
 show PQ _ _ (dS K [.d (.lst [.int (i:Nat),.int a]),.d (.lst (anA a))] _)
 refine uj 1 nd (xt (ae 1) (rH (cU (cU (bH (bH a9)) a9) (df (df (cU (bH (bH a9)) a9) a9) (cU (bH (bH a9)) (cU (bH (bH a9)) (cU (bH (uf (i4 ag) a9)) (df (df (bH a9) a9) (df (qx a9) (df (uo a9) (cU (bH (bH (bH a9))) a9)))))))))) (by show (15:Nat) + 9 < 1000000; decide)) ?_ (hs:=vj)
 show PQ _ _ (dS K [.d (.lst [.int (i:Nat),.int a]),.o (anB a)] _)
 refine xW 1 (yT (aM (rH (df (cU (bH (bH a9)) a9) (df a9 a9))).out)) ?_ (wZ 1 ?_)
 · show (24:Nat) < 1000000
   decide
 show PQ _ _ (dS K [.d (.lst [.int (i:Nat),.int a]),.d (.lst (anC a))] _)
 have hl:i < (anC a).length:=hi
 exact xa (aG (ae 1) (aG (ae 0) ag (ax a0)) (ax (a4 (x:=(anC a).getD i .non) (by simp [hl])))) rfl
end
noncomputable def chF (p:Int) (m:Nat):List Int:=((List.range m).filter λk=>decide (Builtin.bitAnd (p / 2 ^ k) 1=1)).map λk:Nat=>(k:Int)
noncomputable def chE (p:Int) (m:Nat):List Int:=if chF p m=[] then [p.fmod m] else chF p m
noncomputable def chX (p:Int) (m:Nat):List D:=(chE p m).map .int
noncomputable def dU (p q:Int) (m:Nat):Int:=q.fmod ((chE p m).length:Nat)
noncomputable def ch3 (m:Nat) (r:Int):List D:=[.int (-1),.int (m:Nat),.int ((m:Nat) + r)]
noncomputable def ch6:List D:=[.bl true,.bl false,.str "0",.non,.tup [.int 0,.int 1],.int 0]
noncomputable def chD (p w q r:Int) (m:Nat):D:=
 if w=1 then .lst [] else
 if w=2 then .lst (cutD (chX p m) none (some (dU p q m))++[(ch3 m r).getD (q.fmod 3).toNat .non]++cutD (chX p m) (some (dU p q m)) none) else
 if w=3 then .lst (cutD (chX p m) none (some (dU p q m))++[.int ((chE p m).getD (dU p q m).toNat 0)]++cutD (chX p m) (some (dU p q m)) none) else
 if w=4 then .lst (chX p m).reverse else
 if w=5 then .lst (cutD (chX p m) none (some (dU p q m))++[ch6.getD (q.fmod 6).toNat .non]++cutD (chX p m) (some (dU p q m + 1)) none) else
 if w=6 then .tup (chX p m) else
 if w=7 then (anC r).getD (q.fmod 25).toNat .non else .lst (chX p m)
theorem gm (xs:List D) (l u:Option Int):(cutD xs l u).length<=xs.length:=by
 unfold Hy.cutD
 rw [List.length_take,List.length_drop]
 omega
theorem nJ {p:Int} {m:Nat} (h:1<=m):1<=(chE p m).length/\(chE p m).length<=m:=by
 unfold chE
 by_cases e:chF p m=[]
 · rw [if_pos e]; exact ⟨Nat.le_refl _,h⟩
 · rw [if_neg e]
   refine ⟨List.length_pos_iff.mpr e,?_⟩
   unfold chF
   rw [List.length_map]
   exact Nat.le_trans (List.length_filter_le _ _) (by rw [List.length_range]; exact Nat.le_refl _)
theorem qh {p w q r:Int} {m:Nat} (h:1<=m) (h7:m<=7) (hq:0<=q):shO (chD p w q r m):=by
 have hl:=nJ (p:=p) h
 have hx:(chX p m).length<=7:=by unfold chX; rw [List.length_map]; omega
 have c1:=gm (chX p m) none (some (dU p q m))
 have c2:=gm (chX p m) (some (dU p q m)) none
 have c3:=gm (chX p m) (some (dU p q m + 1)) none
 intro xs e
 unfold chD at e
 repeat' split at e
 · injection e with e; subst e; exact Nat.zero_le _
 · injection e with e; subst e; simp only [List.length_append,List.length_cons,List.length_nil]; omega
 · injection e with e; subst e; simp only [List.length_append,List.length_cons,List.length_nil]; omega
 · injection e with e; subst e; rw [List.length_reverse]; omega
 · injection e with e; subst e; simp only [List.length_append,List.length_cons,List.length_nil]; omega
 · cases e
 · have:∀ i,i < 25->∀ xs,(anC r).getD i .non=.lst xs->xs.length<=2:=λi hi xs e=>by
     revert e
     match i,hi with
     | 0,_ | 1,_ | 2,_ | 3,_ | 4,_ | 5,_ | 6,_ | 9,_ | 10,_ | 11,_ | 14,_ | 15,_ | 17,_ | 18,_ | 19,_ | 23,_=>exact λe=>nomatch e
     | 7,_ | 8,_ | 12,_ | 13,_ | 16,_ | 20,_ | 21,_ | 22,_ | 24,_=>intro e; injection e with e; subst e; decide
     | i + 25,h=>omega
   have f:0<=q.fmod 25/\q.fmod 25 < 25:=by rw [Int.fmod_eq_emod_of_nonneg _ (by decide)]; omega
   have:=this (q.fmod 25).toNat (by omega) xs e
   omega
 · injection e with e; subst e; omega
theorem eq_nil {ns:List Int}:Ev.eqD (.lst (ns.map .int)) (.lst [])=decide (ns=[]):=by
 cases ns with
 | nil=>simp [Ev.eqD,Ev.jb]
 | cons n ns=>simp [Ev.eqD,Ev.jb]
theorem rV:∀ (ns:List Int),Ev.fW (.lst (ns.map .int)):=λns=>by
 have:Ev.i9 (ns.map .int)=true/\Ev.kx (ns.map .int)<=1:=by
   induction ns with
   | nil=>simp [Ev.i9,Ev.kx]
   | cons n ns ih=>rw [List.map_cons,Ev.i9,Ev.kx,ih.1]; simp only [Ev.cln,Ev.dep]; exact ⟨rfl,by omega⟩
 unfold Ev.fW
 simp only [Ev.cln,Ev.dep,this.1]
 exact ⟨trivial,by omega⟩
noncomputable def eY (ds:List D) (r:Sl):Prop:=∃ (p w q s:Int) (m:Nat),ds=[.lst [.int p,.int w,.int q,.int s],.int m]/\0<=p/\0<=q/\1<=m/\m<=7/\r=.d (chD p w q s m)
section
variable {P:Program} {w:World} {K:PySem.W.Frag} {mg:Str->Option Value} {base:Heap} {k:Nat} {f:Addr} {fd:FuncData} {qual:Str}
set_option maxHeartbeats 2000000 in
theorem lA (F:Fun K "_law_choice" qual (top 66) f fd) (hb:∀ x ∈ ai,mg x=none) (c_l_any:Cal P w K mg base k "_law_any" g8):aJ P w K mg base CX0 (k + 1) f fd ["_law_parts","_law_many"] (spD K eY):=by
 refine fnD F gF hb (by rintro _ _ ⟨_,_,_,_,_,rfl,_⟩; rfl) ?_
 rintro _ _ ⟨p,v,q,r,m,rfl,hp,hq,m1,m7,rfl⟩ cdv A outer s H E b
 have nd:=gF.nd
 have a0:atI [D.int p,D.int v,D.int q,D.int r] 0=some (.int p):=rfl
 have a1:atI [D.int p,D.int v,D.int q,D.int r] 1=some (.int v):=rfl
 have a2:atI [D.int p,D.int v,D.int q,D.int r] 2=some (.int q):=rfl
 have a3:atI [D.int p,D.int v,D.int q,D.int r] 3=some (.int r):=rfl
 have hl:=nJ (p:=p) m1
 have hX:(chX p m).length=(chE p m).length:=List.length_map ..
 refine mK 2 nd (s:=.d (.lst ((chF p m).map .int))) (xl 0 (t:=λk=>decide (Builtin.bitAnd (p / 2 ^ k) 1=1)) (f:=λk=>.int (k:Nat)) b (gO b (ae 1) (by omega) (by omega)) fL (by rw [aw]; omega) (λk hk s0 H0 fp=>aH (aC (aC (aG (ae 1) ag (ax a0)) (ae 0) (xr (by omega))) ag yh) ag bt) λk hk _ s0 H0 fp=>ae 0) (.inr ?_) ?_
 · rw [aw,Int.toNat_natCast]
   unfold chF
   rw [List.map_map]
   rfl
 refine eU (M:=λτ=>τ=[.d (.lst [.int p,.int v,.int q,.int r]),.d (.int (m:Nat)),.d (.lst (chX p m)),.un,.un]) (aH (ae 2) (aM (ba af)) (xT b (rV _) (by decide +kernel))) (λh=>?_) (λh=>?_) ?_
 · rw [eq_nil] at h
   refine aF 2 nd (aM (ba (aa (aC (aG (ae 0) ag (ax a0)) (ae 1) (bM (by omega))) af))) (aZ ?_)
   unfold chX chE
   rw [if_pos (of_decide_eq_true h)]
   rfl
 · rw [eq_nil] at h
   refine aZ ?_
   unfold chX chE
   rw [if_neg (of_decide_eq_false h)]
   rfl
 rintro _ rfl
 have el:gx (Xc P w K mg base ["_law_parts","_law_many","_law_choice_here","_law_at","_law_way"] qual (top 66) f cdv A outer s H E) (.builtin "len") [.lst (chX p m)] (.d (.int ((chE p m).length:Nat))):=bI hX
 refine aF 3 nd (s:=.d (.int (dU p q m))) (aC (aG (ae 0) ag (ax a2)) (aQ b (aa (ae 2) af) el) (bM (by omega))) ?_
 refine aF 4 nd (aG (ae 0) ag (ax a1)) ?_
 show PSs _ _ (dS K [.d (.lst [.int p,.int v,.int q,.int r]),.d (.int (m:Nat)),.d (.lst (chX p m)),.d (.int (dU p q m)),.d (.int v)] _)
 have f:∀ n:Nat,0 < n->0<=q.fmod n/\q.fmod n < n:=λn hn=>by
   rw [Int.fmod_eq_emod_of_nonneg _ (by omega)]
   exact ⟨Int.emod_nonneg _ (by omega),Int.emod_lt_of_pos _ (by omega)⟩
 have fa:0<=dU p q m/\dU p q m < (chE p m).length:=f _ (by omega)
 have c1:=gm (chX p m) none (some (dU p q m))
 have c2:=gm (chX p m) (some (dU p q m)) none
 have c3:=gm (chX p m) (some (dU p q m + 1)) none
 unfold chD
 refine aT (aH (ae 4) ag bt) (λh=>?_) λh=>?_
 · rw [if_pos (of_decide_eq_true h)]
   exact au (aM (ba af)) rfl
 rw [if_neg (of_decide_eq_false h)]
 refine aT (aH (ae 4) ag bt) (λh=>?_) λh=>?_
 · rw [if_pos (of_decide_eq_true h)]
   have g:0<=q.fmod 3/\q.fmod 3 < 3:=f 3 (by decide)
   refine au (aM (dH (aM (dH (aM (k8 (ae 2) e8 (dn (ae 3)))) (aM (ba (aa (aG (aM (ba (aa (i4 ag) (aa (ae 1) (aa (aC (ae 1) (aG (ae 0) ag (ax a3)) bX) af))))) (aC (aG (ae 0) ag (ax a2)) ag (bM (by decide))) (ax (xs:=ch3 m r) (z:=(ch3 m r).getD (q.fmod 3).toNat .non) ?_)) af))) (by show _ + 1 < _; omega))) (aM (k8 (ae 2) (dn (ae 3)) e8)) (by rw [List.length_append]; show _ + 1 + _ < _; omega))) rfl
   have:=a4 (xs:=ch3 m r) (i:=(q.fmod 3).toNat) (x:=(ch3 m r).getD (q.fmod 3).toNat .non) (by simp [show (q.fmod 3).toNat < (ch3 m r).length from by show _ < 3; omega])
   rwa [Int.toNat_of_nonneg (by omega)] at this
 rw [if_neg (of_decide_eq_false h)]
 refine aT (aH (ae 4) ag bt) (λh=>?_) λh=>?_
 · rw [if_pos (of_decide_eq_true h)]
   refine au (aM (dH (aM (dH (aM (k8 (ae 2) e8 (dn (ae 3)))) (aM (ba (aa (aG (ae 2) (ae 3) (ax (z:=.int ((chE p m).getD (dU p q m).toNat 0)) (cC fa.1 (by omega)))) af))) (by show _ + 1 < _; omega))) (aM (k8 (ae 2) (dn (ae 3)) e8)) (by rw [List.length_append]; show _ + 1 + _ < _; omega))) rfl
 rw [if_neg (of_decide_eq_false h)]
 refine aT (aH (ae 4) ag bt) (λh=>?_) λh=>?_
 · rw [if_pos (of_decide_eq_true h)]
   exact au (aM (vB b (ae 2))) rfl
 rw [if_neg (of_decide_eq_false h)]
 refine aT (aH (ae 4) ag bt) (λh=>?_) λh=>?_
 · rw [if_pos (of_decide_eq_true h)]
   have g:0<=q.fmod 6/\q.fmod 6 < 6:=f 6 (by decide)
   refine au (aM (dH (aM (dH (aM (k8 (ae 2) e8 (dn (ae 3)))) (aM (ba (aa (aG (aM (ba (aa fj (aa fj (aa aU (aa kO (aa (eK (aa ag (aa ag af))) (aa ag af)))))))) (aC (aG (ae 0) ag (ax a2)) ag (bM (by decide))) (ax (xs:=ch6) (z:=ch6.getD (q.fmod 6).toNat .non) ?_)) af))) (by show _ + 1 < _; omega))) (aM (k8 (ae 2) (dn (aC (ae 3) ag bX)) e8)) (by rw [List.length_append]; show _ + 1 + _ < _; omega))) rfl
   have:=a4 (xs:=ch6) (i:=(q.fmod 6).toNat) (x:=ch6.getD (q.fmod 6).toNat .non) (by simp [show (q.fmod 6).toNat < ch6.length from by show _ < 6; omega])
   rwa [Int.toNat_of_nonneg (by omega)] at this
 rw [if_neg (of_decide_eq_false h)]
 refine aT (aH (ae 4) ag bt) (λh=>?_) λh=>?_
 · rw [if_pos (of_decide_eq_true h)]
   exact au (pB b (aa (ae 2) af) vI) rfl
 rw [if_neg (of_decide_eq_false h)]
 refine aT (aH (ae 4) ag bt) (λh=>?_) λh=>?_
 · rw [if_pos (of_decide_eq_true h)]
   have g:0<=q.fmod 25/\q.fmod 25 < 25:=f 25 (by decide)
   refine au (x_call b c_l_any (aa (aM (ba (aa (aC (aG (ae 0) ag (ax a2)) ag (bM (by decide))) (aa (aG (ae 0) ag (ax a3)) af)))) af) ⟨(q.fmod 25).toNat,r,?_,by omega,rfl⟩) rfl
   rw [Int.toNat_of_nonneg (by omega)]
 rw [if_neg (of_decide_eq_false h)]
 exact au (ae 2) rfl
end
noncomputable def eE (ds:List D) (r:Sl):Prop:=∃ a b:Int,ds=[.int a,.int b]/\r=.d (.int (Int.gcd a b:Int))
noncomputable def iq (ds:List D) (r:Sl):Prop:=∃ (t b:Int) (q:Rat),ds=[.int t,.int b]/\0 < b/\Bd 8999 b/\(t:Rat)=q * (b:Rat)/\r=.d (frD q)
noncomputable def iX (ds:List D) (r:Sl):Prop:=∃ (ns:List Int) (k:Nat),ds=[.lst (ns.map .int),.int k]/\r=.d (.int (ns.getD k 0))
noncomputable def rsZ (c u:Int):Int:=if decide ((10:Int) ^ Int.toNat 18<=nc c)=true then c.fdiv u else c + u
noncomputable def iD (ds:List D) (r:Sl):Prop:=∃ c u:Int,ds=[.int c,.int u]/\0 < u/\u < 2 ^ 60/\r=.d (.int (rsZ c u))
theorem Qs.of {t b:Int} {q:Rat} {d v:Nat} (hb:0 < b) (h:(t:Rat)=q * (b:Rat)) (hd:Bd d b) (hv:t.natAbs<=2 ^ v):Qs d v q:=by
 obtain ⟨e1,e2⟩:=mZ hb h
 refine ⟨by rw [e2]; exact hd.ediv _,?_⟩
 have g:=Int.gcd_dvd_left (a:=t) (b:=b)
 have h1:q.num.natAbs<=t.natAbs:=by rw [e1]; exact Int.natAbs_ediv_le_natAbs ..
 exact Nat.le_trans h1 (Nat.le_trans hv (Nat.le_mul_of_pos_right _ q.den_pos))
noncomputable def nmT (kd:Nat) (p:Int):Int:=if kd=1 then p.fmod 5 - 2 else if kd=3 then (p.fdiv 2).fmod (10 ^ 40) * (1 - 2 * p.fmod 2) else if kd=2 then p.fmod 10 else p.fmod 19 - 9
noncomputable def nmB (kd:Nat) (p:Int):Int:=if kd=1 then 1 else if kd=3 then 1 + (p.fdiv (2 * 10 ^ 40)).fmod (10 ^ 40 - 1) else if kd=2 then 1 + (p.fdiv 10).fmod 6 else 1 + (p.fdiv 19).fmod 6
noncomputable def nmQ (kd:Nat) (p:Int):Rat:=if kd=1 then ((p.fmod 5 - 2:Int):Rat) else ((nmT kd p:Int):Rat) / ((nmB kd p:Int):Rat)
noncomputable def kD (kd:Nat):Nat:=if kd=3 then 133 else 3
noncomputable def kV (kd:Nat):Nat:=if kd=3 then 133 else 4
theorem fmn {a b:Int} (h:0 < b):0<=a.fmod b/\a.fmod b < b:=⟨Int.fmod_nonneg_of_pos a h,Int.fmod_lt_of_pos a h⟩
theorem kB {kd:Nat} (p:Int):0 < nmB kd p/\Bd (kD kd) (nmB kd p):=by
 unfold nmB kD
 by_cases h1:kd=1
 · rw [if_pos h1,if_neg (by omega)]; exact ⟨by decide,by unfold Bd; decide⟩
 · rw [if_neg h1]
   by_cases h3:kd=3
   · rw [if_pos h3,if_pos h3]
     have:=fmn (a:=p.fdiv (2 * 10 ^ 40)) (b:=10 ^ 40 - 1) (by decide)
     refine ⟨by omega,?_⟩
     unfold Bd
     have:(10:Int) ^ 40 < 2 ^ 133:=by decide
     have e:((2 ^ 133:Nat):Int)=2 ^ 133:=by decide
     omega
   · rw [if_neg h3,if_neg h3]
     by_cases h2:kd=2
     · rw [if_pos h2]
       have:=fmn (a:=p.fdiv 10) (b:=6) (by decide)
       exact ⟨by omega,by unfold Bd; omega⟩
     · rw [if_neg h2]
       have:=fmn (a:=p.fdiv 19) (b:=6) (by decide)
       exact ⟨by omega,by unfold Bd; omega⟩
theorem uK {kd:Nat} (p:Int):(nmT kd p).natAbs<=2 ^ kV kd:=by
 unfold nmT kV
 by_cases h1:kd=1
 · rw [if_pos h1,if_neg (by omega)]
   have:=fmn (a:=p) (b:=5) (by decide)
   omega
 · rw [if_neg h1]
   by_cases h3:kd=3
   · rw [if_pos h3,if_pos h3]
     have h4:=fmn (a:=p.fdiv 2) (b:=10 ^ 40) (by decide)
     have h5:=fmn (a:=p) (b:=2) (by decide)
     have:(10:Int) ^ 40 < 2 ^ 133:=by decide
     have e:((2 ^ 133:Nat):Int)=2 ^ 133:=by decide
     rw [Int.natAbs_mul,show (1 - 2 * p.fmod 2).natAbs=1 by omega,Nat.mul_one]
     omega
   · rw [if_neg h3,if_neg h3]
     by_cases h2:kd=2
     · rw [if_pos h2]
       have:=fmn (a:=p) (b:=10) (by decide)
       omega
     · rw [if_neg h2]
       have:=fmn (a:=p) (b:=19) (by decide)
       omega
theorem rR {kd:Nat} (p:Int):((nmT kd p:Int):Rat)=nmQ kd p * ((nmB kd p:Int):Rat):=by
 unfold nmQ
 by_cases h1:kd=1
 · rw [if_pos h1]
   unfold nmT nmB
   rw [if_pos h1,if_pos h1]
   exact (Rat.mul_one _).symm
 · rw [if_neg h1]
   exact (Rat.div_mul_cancel (uX (kB p).1)).symm
theorem ya {kd:Nat} (p:Int):Qs (kD kd) (kV kd) (nmQ kd p):=Qs.of (kB p).1 (rR p) (kB p).2 (uK p)
noncomputable def fm (ds:List D) (r:Sl):Prop:=∃ (kd:Nat) (p:Int),ds=[.int (kd:Nat),.int p]/\kd < 4/\r=.d (frD (nmQ kd p))
theorem m40:aN ((2:Int) * 10 ^ 40) (10 ^ 40):=(show Bd 140 ((2:Int) * 10 ^ 40) by unfold Bd; decide).aN (show Bd 140 ((10:Int) ^ 40) by unfold Bd; decide) (by decide) (by decide)
theorem yX:aK ((2:Int) * 10 ^ 40):=(show Bd 140 ((2:Int) * 10 ^ 40) by unfold Bd; decide).aK (by decide) (by decide)
section
variable {P:Program} {w:World} {K:PySem.W.Frag} {mg:Str->Option Value} {base:Heap} {k:Nat} {f:Addr} {fd:FuncData} {qual:Str}
theorem kl (F:Fun K "_law_divisor" qual (top 57) f fd) (hb:∀ x ∈ ai,mg x=none):aJ P w K mg base CX0 (k + 1) f fd ["_law_one","_law_other"] (spD K eE):=by
 refine fnD F fF hb (by rintro _ _ ⟨_,_,rfl,_⟩; rfl) ?_
 rintro _ _ ⟨x,y,rfl,rfl⟩ cdv A outer s H E b
 have nd:=fF.nd
 refine aF 0 nd (aQ b (aa (ae 0) af) jO) (aF 1 nd (aQ b (aa (ae 1) af) jO) ?_)
 rw [fx,fx]
 refine nW (λn t τ=>∃ (g:Nat) (s2:Sl),Nat.gcd g n=Int.gcd x y/\t=(decide ((0:Int) < n))/\τ=[.d (.int g),.d (.int n),s2]) b ⟨_,_,_,_,rfl,rfl,rfl⟩ (λn t τ h=>?_) (λn τ h=>?_) λn τ h=>?_
 · obtain ⟨g,s2,_,rfl,rfl⟩:=h
   exact aH (ae 1) ag xA
 · obtain ⟨g,s2,hg,ht,rfl⟩:=h
   have hl:n ≠ 0:=λz=>by simp [z] at ht
   have e:(g:Int).fmod n=((g % n:Nat):Int):=by rw [Int.fmod_eq_emod_of_nonneg _ (by omega)]; rfl
   refine aF 2 nd (aC (ae 0) (ae 1) (bM (by omega))) ?_
   rw [e]
   refine aF 0 nd (ae 1) (aF 1 nd (ae 2) (aZ ⟨g % n,_,Nat.mod_lt g (Nat.pos_of_ne_zero hl),n,_,?_,rfl,rfl⟩))
   rw [<- hg,Nat.gcd_comm n,<- Nat.gcd_rec,Nat.gcd_comm]
 · obtain ⟨g,s2,hg,ht,rfl⟩:=h
   have hl:n=0:=by have:=of_decide_eq_false ht.symm; omega
   refine au (ae 0) ?_
   rw [<- hg,hl,Nat.gcd_zero_right]
theorem pA (F:Fun K "_law_made" qual (top 58) f fd) (hb:∀ x ∈ ai,mg x=none) (c_l_divisor:Cal P w K mg base k "_law_divisor" eE):aJ P w K mg base CX0 (k + 1) f fd ["_law_top","_law_bottom"] (spD K iq):=by
 refine fnD F jD hb (by rintro _ _ ⟨_,_,_,rfl,_⟩; rfl) ?_
 rintro _ _ ⟨t,c,q,rfl,h0,h1,hq,rfl⟩ cdv A outer s H E b
 have nd:=jD.nd
 have dv:aK (Int.gcd t c:Int):=(h1.gcd (by omega)).aK (kJ (by omega)) (by decide)
 obtain ⟨e1,e2⟩:=mZ h0 hq
 refine aF 2 nd (x_call b c_l_divisor (aa (ae 0) (aa (ae 1) af)) ⟨_,_,rfl,rfl⟩) (au (eK (aa (aC (ae 0) (ae 2) (bW dv)) (aa (aC (ae 1) (ae 2) (bW dv)) af))) ?_)
 rw [c9,c9,<- e1,<- e2]
 rfl
theorem pz (F:Fun K "_law_cell" qual (top 54) f fd) (hb:∀ x ∈ ai,mg x=none):aJ P w K mg base CX0 (k + 1) f fd ["_law_script","_law_k"] (spD K iX):=by
 refine fnD F oX hb (by rintro _ _ ⟨_,_,rfl,_⟩; rfl) ?_
 rintro _ _ ⟨ns,n,rfl,rfl⟩ cdv A outer s H E b
 refine aT (aH (ae 1) (aQ b (aa (ae 0) af) cj) mJ) (λh=>?_) λh=>?_
 · have h:=of_decide_eq_true h
   rw [List.length_map] at h
   exact au (aG (ae 0) (ae 1) (ax (cC (by omega) (by omega)))) rfl
 · have h:=of_decide_eq_false h
   rw [List.length_map] at h
   refine au ag ?_
   show Sl.d (.int 0)=_
   rw [getD_none (by omega)]
theorem oP (F:Fun K "_law_rest" qual (top 56) f fd) (hb:∀ x ∈ ai,mg x=none):aJ P w K mg base CX0 (k + 1) f fd ["_law_cell_here","_law_used"] (spD K iD):=by
 refine fnD F oW hb (by rintro _ _ ⟨_,_,rfl,_⟩; rfl) ?_
 rintro _ _ ⟨c,u,rfl,h0,h1,rfl⟩ cdv A outer s H E b
 refine aT (aH (aQ b (aa (ae 0) af) jO) (aC ag ag (fH ⟨by decide,by decide,by decide⟩)) pG) (λh=>?_) λh=>?_
 · refine au (aC (ae 0) (ae 1) (bW (mkD (by omega) (by omega)))) ?_
   unfold rsZ
   rw [if_pos (show decide ((10:Int) ^ Int.toNat 18<=nc c)=true from h)]
 · refine au (aC (ae 0) (ae 1) bX) ?_
   unfold rsZ
   rw [if_neg (λz=>by rw [show decide ((10:Int) ^ Int.toNat 18<=nc c)=false from h] at z; cases z)]
theorem lJ (F:Fun K "_law_number" qual (top 59) f fd) (hb:∀ x ∈ ai,mg x=none) (c_l_made:Cal P w K mg base k "_law_made" iq):aJ P w K mg base CX0 (k + 1) f fd ["_law_kind","_law_part"] (spD K fm):=by
 refine fnD F gK hb (by rintro _ _ ⟨_,_,rfl,_⟩; rfl) ?_
 rintro _ _ ⟨kd,p,rfl,h4,rfl⟩ cdv A outer s H E b
 have nd:=gK.nd
 obtain ⟨b0,b1⟩:=kB (kd:=kd) p
 have b2:Bd 8999 (nmB kd p):=b1.mono (by unfold kD; split <;> decide)
 have hm:=rR (kd:=kd) p
 refine aT (aH (ae 0) ag bt) (λh=>?_) λh=>?_
 · have h1:kd=1:=by have:=of_decide_eq_true h; omega
   refine au (eK (aa (aC (aC (ae 1) ag (bM (by decide))) ag fJ) (aa ag af))) ?_
   unfold nmQ
   rw [if_pos h1]
   rfl
 have n1:¬ kd=1:=by have:=of_decide_eq_false h; omega
 refine aT (aH (ae 0) ag bt) (λh=>?_) λh=>?_
 · have h3:kd=3:=by have:=of_decide_eq_true h; omega
   have eT:nmT kd p=(p.fdiv 2).fmod (10 ^ 40) * (1 - 2 * p.fmod 2):=by unfold nmT; rw [if_neg n1,if_pos h3]
   have eB:nmB kd p=1 + (p.fdiv (2 * 10 ^ 40)).fmod (10 ^ 40 - 1):=by unfold nmB; rw [if_neg n1,if_pos h3]
   rw [eT] at hm
   rw [eB] at hm b0 b2
   refine aF 2 nd (aC (aC (aC (ae 1) ag (bW (mkD (by decide) (by decide)))) (aC ag ag (fH ⟨by decide,by decide,by decide⟩)) (bM (by decide))) (aC ag (aC ag (aC (ae 1) ag (bM (by decide))) (bR (mkL (by decide)))) fJ) (bR (mkR ?_))) ?_
   · have:=fmn (a:=p) (b:=2) (by decide); omega
   exact au (x_call b c_l_made (aa (ae 2) (aa (aC ag (aC (aC (ae 1) (aC ag (aC ag ag (fH ⟨by decide,by decide,by decide⟩)) (bR (mkL (by decide)))) (bW yX)) (aC (aC ag ag (fH ⟨by decide,by decide,by decide⟩)) ag fJ) (bM (by decide))) bX) af)) ⟨_,_,nmQ kd p,rfl,b0,b2,hm,rfl⟩) rfl
 have n3:¬ kd=3:=by have:=of_decide_eq_false h; omega
 refine aT (aH (ae 0) ag bt) (λh=>?_) λh=>?_
 · have h2:kd=2:=by have:=of_decide_eq_true h; omega
   have eT:nmT kd p=p.fmod 10:=by unfold nmT; rw [if_neg n1,if_neg n3,if_pos h2]
   have eB:nmB kd p=1 + (p.fdiv 10).fmod 6:=by unfold nmB; rw [if_neg n1,if_neg n3,if_pos h2]
   rw [eT] at hm
   rw [eB] at hm b0 b2
   exact au (x_call b c_l_made (aa (aC (ae 1) ag (bM (by decide))) (aa (aC ag (aC (aC (ae 1) ag (bW (mkD (by decide) (by decide)))) ag (bM (by decide))) bX) af)) ⟨_,_,nmQ kd p,rfl,b0,b2,hm,rfl⟩) rfl
 · have n2:¬ kd=2:=by have:=of_decide_eq_false h; omega
   have eT:nmT kd p=p.fmod 19 - 9:=by unfold nmT; rw [if_neg n1,if_neg n3,if_neg n2]
   have eB:nmB kd p=1 + (p.fdiv 19).fmod 6:=by unfold nmB; rw [if_neg n1,if_neg n3,if_neg n2]
   rw [eT] at hm
   rw [eB] at hm b0 b2
   exact au (x_call b c_l_made (aa (aC (aC (ae 1) ag (bM (by decide))) ag fJ) (aa (aC ag (aC (aC (ae 1) ag (bW (mkD (by decide) (by decide)))) ag (bM (by decide))) bX) af)) ⟨_,_,nmQ kd p,rfl,b0,b2,hm,rfl⟩) rfl
end
noncomputable def tlB (kd:Nat):Int:=if kd=0 then 114 else if kd=1 then 5 else if kd=2 then 60 else 2 * 10 ^ 40 * 10 ^ 40
noncomputable def tlP (c:Int) (n kd:Nat):List Int:=nums c (List.replicate n (tlB kd))
noncomputable def tlM (c:Int) (R C kd:Nat):List (List Rat):=(List.range R).map λi=>(List.range C).map λj=>nmQ kd ((tlP c (R * C) kd).getD (C * i + j) 0)
theorem yf {kd:Nat} (h:kd < 4):atI [D.int 114,.int 5,.int 60,.int (2 * 10 ^ 40 * 10 ^ 40)] (kd:Int)=some (.int (tlB kd)):=by
 rcases (by omega:kd=0\/kd=1\/kd=2\/kd=3) with rfl | rfl | rfl | rfl <;> rfl
theorem ve {kd:Nat}:0 < tlB kd/\aK (tlB kd):=by
 unfold tlB
 split
 · exact rb (by decide) (by decide)
 · split
   · exact rb (by decide) (by decide)
   · split
     · exact rb (by decide) (by decide)
     · exact ⟨by decide,(show Bd 280 ((2:Int) * 10 ^ 40 * 10 ^ 40) by unfold Bd; decide +kernel).aK (by decide) (by decide)⟩
theorem uG {c:Int} {R C kd:Nat} (h1:1<=R) (h2:R<=7) (h3:1<=C) (h4:C<=7):Tq R C (tlM c R C kd):=⟨h1,h2,h3,h4,by simp [tlM],λr hr=>by
 unfold tlM at hr
 obtain ⟨i,_,rfl⟩:=List.mem_map.mp hr
 simp⟩
theorem vO {c:Int} {R C kd:Nat}:∀ r ∈ tlM c R C kd,∀ x ∈ r,Qs (kD kd) (kV kd) x:=λr hr x hx=>by
 unfold tlM at hr
 obtain ⟨i,_,rfl⟩:=List.mem_map.mp hr
 obtain ⟨j,_,rfl⟩:=List.mem_map.mp hx
 exact ya _
noncomputable def gu (ds:List D) (r:Sl):Prop:=∃ (c:Int) (R C kd:Nat),ds=[.int c,.int (R:Nat),.int (C:Nat),.int (kd:Nat)]/\R<=7/\C<=7/\kd < 4/\r=.o ((tlM c R C kd).map rwQ)
section
variable {P:Program} {w:World} {K:PySem.W.Frag} {mg:Str->Option Value} {base:Heap} {k:Nat} {f:Addr} {fd:FuncData} {qual:Str}
set_option maxHeartbeats 4000000 in
theorem me (F:Fun K "_law_table" qual (top 60) f fd) (hb:∀ x ∈ ai,mg x=none) (c_l_numbers:Cal P w K mg base k "_law_numbers" cf) (c_l_number:Cal P w K mg base k "_law_number" fm):aJ P w K mg base CX0 (k + 1) f fd ["_law_cell_here","_law_many","_law_wide","_law_kind"] (spD K gu):=by
 refine fnD F iz hb (by rintro _ _ ⟨_,_,_,_,rfl,_⟩; rfl) ?_
 rintro _ _ ⟨c,R,C,kd,rfl,r7,c7,k4,rfl⟩ cdv A outer s H E b
 have nd:=iz.nd
 have rc:R * C<=49:=Nat.mul_le_mul r7 c7
 have eRC:(R:Int) * (C:Int)=((R * C:Nat):Int):=by rw [Int.natCast_mul]
 refine aF 4 nd (aG (aM (ba (aa ag (aa ag (aa ag (aa (aC (aC ag (aC ag ag (fH ⟨by decide,by decide,by decide⟩)) (bR (mkL (by decide)))) (aC ag ag (fH ⟨by decide,by decide,by decide⟩)) (bR m40)) af)))))) (ae 3) (ax (yf k4))) ?_
 refine aF 5 nd (aM (x_call b c_l_numbers (aa (ae 0) (aa (aM (cI (cmp 0 (f:=λ_=>.int (tlB kd)) b (gO (n:=((R * C:Nat):Int)) b (by rw [<- eRC]; exact aC (ae 1) (ae 2) (bR (mkL (by omega)))) (by omega) (by omega)) fL (by rw [aw]; omega) λi hi s0 H0 fp=>(ae 1)))) af)) ⟨c,List.replicate (R * C) (tlB kd),?_,?_,?_,rfl⟩)) ?_
 · rw [aw,Int.toNat_natCast,List.map_replicate]
   refine congrArg (λl=>[D.int c,D.lst l]) (List.ext_getElem (by simp) λi h1 h2=>by simp)
 · rw [List.length_replicate]; omega
 · intro x hx
   rw [(List.mem_replicate.mp hx).2]
   exact ve
 have lp:(tlP c (R * C) kd).length=R * C:=by unfold tlP; rw [ja,List.length_replicate]
 refine au (cI (cmp 0 (f:=λi=>rwQ ((List.range C).map λj=>nmQ kd ((tlP c (R * C) kd).getD (C * i + j) 0))) b (gO b (ae 1) (by omega) (by omega)) fL (by rw [aw]; omega) λi hi s0 H0 fp=>?_)) ?_
 · rw [aw,Int.toNat_natCast] at hi
   refine aM (cI (cmp 0 (f:=λj=>frD (nmQ kd ((tlP c (R * C) kd).getD (C * i + j) 0))) (b.comp s0 H0 _ fp) (gO (b.comp s0 H0 _ fp) (ae 3) (by omega) (by omega)) fL (by rw [aw]; omega) λj hj s1 H1 fp1=>?_)) ?_
   · rw [aw,Int.toNat_natCast] at hj
     have h1:C * i + j < R * C:=by
       have:C * (i + 1)<=C * R:=Nat.mul_le_mul_left _ (by omega)
       rw [Nat.mul_succ,Nat.mul_comm C R] at this
       omega
     have e:(C:Int) * (i:Int) + (j:Int)=((C * i + j:Nat):Int):=by rw [Int.natCast_add,Int.natCast_mul]
     refine x_call ((b.comp s0 H0 _ fp).comp s1 H1 _ fp1) c_l_number (aa (ae 2) (aa (aG (ae 3) (aC (aC (ae 4) (ae 1) (bR (mkL (by omega)))) (ae 0) bX) (ax ?_)) af)) ⟨kd,_,rfl,k4,rfl⟩
     rw [e]
     exact atR (show C * i + j < (tlP c (R * C) kd).length by rw [lp]; exact h1)
   · rw [aw,Int.toNat_natCast]
     refine congrArg (λl=>some (D.lst l)) ?_
     rw [List.map_map]
     rfl
 · unfold tlM
   rw [aw,Int.toNat_natCast,List.map_map]
   rfl
end
theorem wW:∀ i,i < 25->i ≠ 16->ml ((anC 3).getD i .non)=false:=by decide +kernel
theorem xG (r:Int):∀ i,i < 25->shO ((anC r).getD i .non):=λi hi xs e=>by
 have:xs.length<=2:=by
   revert e
   match i,hi with
   | 0,_ | 1,_ | 2,_ | 3,_ | 4,_ | 5,_ | 6,_ | 9,_ | 10,_ | 11,_ | 14,_ | 15,_ | 17,_ | 18,_ | 19,_ | 23,_=>exact λe=>nomatch e
   | 7,_ | 8,_ | 12,_ | 13,_ | 16,_ | 20,_ | 21,_ | 22,_ | 24,_=>intro e; injection e with e; subst e; decide
   | i + 25,h=>omega
 omega
theorem bz7:∀ m,m < 8->(1 + m * 3<=8999)/\(m * (4 + (1 + m * 3) + 3)<=8998)/\(1 + m * (1 + m * 3)<=8999)/\4 + 3<=8999:=by decide +kernel
noncomputable def se:List Int:=[128,14,42,10 ^ 30,128,14,42,10 ^ 30,6,25]
theorem oD:∀ b ∈ se,0 < b/\aK b:=λb hb=>by
 have:b=10 ^ 30\/(0 < b/\b < 2 ^ 60):=by revert b; decide +kernel
 rcases this with rfl | h
 · exact ⟨by decide,(show Bd 100 ((10:Int) ^ 30) by unfold Bd; decide +kernel).aK (by decide) (by decide)⟩
 · exact rb h.1 h.2
theorem oE:∀ b:Bool,Ev.fW (.bl b):=λb=>by cases b <;> decide +kernel
theorem xk:∀ b:Bool,Ev.eqD (.bl b) (.bl b)=true:=λb=>by cases b <;> decide +kernel
theorem ten {ps:List Int} (h:ps.length=10):∃ p0 p1 p2 p3 p4 p5 p6 p7 p8 p9,ps=[p0,p1,p2,p3,p4,p5,p6,p7,p8,p9]:=by
 match ps,h with
 | [p0,p1,p2,p3,p4,p5,p6,p7,p8,p9],_=>exact ⟨p0,p1,p2,p3,p4,p5,p6,p7,p8,p9,rfl⟩
noncomputable def om (ds:List D) (r:Sl):Prop:=∃ ns:List Int,ns.length<=63/\ds=[.lst (ns.map .int)]/\r=.d (.bl true)
section
variable {P:Program} {w:World} {K:PySem.W.Frag} {mg:Str->Option Value} {base:Heap} {k:Nat} {f:Addr} {fd:FuncData} {qual:Str}
set_option maxHeartbeats 4000000 in
theorem uM (F:Fun K "law" qual (top 69) f fd) (hb:∀ x ∈ ai,mg x=none) (c_l_cell:Cal P w K mg base k "_law_cell" iX) (c_l_size:Cal P w K mg base k "_law_size" iI) (c_l_table:Cal P w K mg base k "_law_table" gu) (c_l_numbers:Cal P w K mg base k "_law_numbers" cf) (c_l_choice:Cal P w K mg base k "_law_choice" eY) (c_l_rest:Cal P w K mg base k "_law_rest" iD) (c_is_choice2:Cal P w K mg base k "is_choice" cw) (c_l_any:Cal P w K mg base k "_law_any" g8) (c_l_answer:Cal P w K mg base k "_law_answer" fq) (c_l_due:Cal P w K mg base k "_law_due" jY) (c_l_good:Cal P w K mg base k "_law_good" fG):aJ P w K mg base CX0 (k + 1) f fd ["_law_script"] (spD K om):=by
 refine fnD F rq hb (by rintro _ _ ⟨_,_,rfl,_⟩; rfl) ?_
 rintro _ _ ⟨ns,hn,rfl,rfl⟩ cdv A outer s H E b
 have nd:=rq.nd
 have hN:∃ N:Nat,(if (if ((ns.map D.int).length:Int) < 20 then ((ns.map D.int).length:Int) else 20) > 1 then (if ((ns.map D.int).length:Int) < 20 then ((ns.map D.int).length:Int) else 20) else 1)=(N:Nat)/\N<=20:=by
   refine ⟨(if (if ((ns.map D.int).length:Int) < 20 then ((ns.map D.int).length:Int) else 20) > 1 then (if ((ns.map D.int).length:Int) < 20 then ((ns.map D.int).length:Int) else 20) else 1).toNat,?_,?_⟩
   · repeat' split
     all_goals omega
   · repeat' split
     all_goals omega
 obtain ⟨N,eN,N6⟩:=hN
 refine gJ 1 (λi τ=>∃ s1 s2 s3 s4 s5 s6 s7 s8 s9 s10 s11 s12 s13,τ=[.d (.lst (ns.map .int)),s1,s2,s3,s4,s5,s6,s7,s8,s9,s10,s11,s12,s13]) b nd (gO (n:=(N:Nat)) b (by rw [<- eN]; exact aQ b (aa ag (aa (aQ b (aa ag (aa (aQ b (aa (ae 0) af) cj) af)) (xj b.calm)) af)) (xx b.calm)) (by omega) (by omega)) fL ⟨.un,.un,.un,.un,.un,.un,.un,.un,.un,.un,.un,.un,.un,rfl⟩ (λi hi τ h=>?_) λτ h=>?_
 · obtain ⟨s1,s2,s3,s4,s5,s6,s7,s8,s9,s10,s11,s12,s13,rfl⟩:=h
   refine aF 2 nd (x_call b c_l_cell (aa (ae 0) (aa (ae 1) af)) ⟨ns,i,rfl,rfl⟩) ?_
   generalize ns.getD i 0=c
   refine vL (x_call b c_l_size (aa (ae 2) af) ⟨c,rfl,rfl⟩) (xZ b.calm (oz 3 nd (oz 4 nd u6))) ?_
   obtain ⟨R1,R7,C1,C7⟩:=uN c
   generalize szM c=R at R1 R7
   generalize szW c=C at C1 C7
   obtain ⟨kd,ek,k3⟩:∃ kd:Nat,c.fmod 3=(kd:Nat)/\kd < 3:=by
     have:=fmn (a:=c) (b:=3) (by decide)
     exact ⟨(c.fmod 3).toNat,by omega,by omega⟩
   refine aF 5 nd (aM (x_call b c_l_table (aa (x_call b c_l_rest (aa (ae 2) (aa ag af)) ⟨_,_,rfl,by decide,by decide,rfl⟩) (aa (ae 3) (aa (ae 4) (aa (aC (ae 2) ag (bM (by decide))) af)))) ⟨_,R,C,kd,by rw [ek],by omega,by omega,by omega,rfl⟩)) ?_
   have t:=uG (c:=rsZ c 6272) (R:=R) (C:=C) (kd:=kd) R1 R7 C1 C7
   have q:=vO (c:=rsZ c 6272) (R:=R) (C:=C) (kd:=kd)
   have ed:kD kd=3/\kV kd=4:=by unfold kD kV; rw [if_neg (by omega),if_neg (by omega)]; exact ⟨rfl,rfl⟩
   rw [ed.1,ed.2] at q
   generalize tlM (rsZ c 6272) R C kd=M at t q ⊢
   refine aF 6 nd (aM (x_call b c_l_numbers (aa (aC (aC (x_call b c_l_cell (aa (ae 0) (aa (aC (ae 1) ag bX) af)) ⟨ns,i + 1,rfl,rfl⟩) ag (bR (mkR (by decide)))) (ae 1) bX) (aa (aM (ba (aa ag (aa ag (aa ag (aa (aC ag ag (fH ⟨by decide,by decide,by decide⟩)) (aa ag (aa ag (aa ag (aa (aC ag ag (fH ⟨by decide,by decide,by decide⟩)) (aa ag (aa ag af)))))))))))) af)) ⟨_,se,rfl,by decide,oD,rfl⟩)) ?_
   generalize ns.getD (i + 1) 0 * 2 + (i:Nat)=c2
   have l10:(nums c2 se).length=10:=ja ..
   have lt:=λi (h:i < 10)=>fS (c:=c2) (λb hb=>(oD b hb).1) (i:=i) h
   generalize nums c2 se=ps at l10 lt
   obtain ⟨p0,p1,p2,p3,p4,p5,p6,p7,p8,p9,rfl⟩:=ten l10
   have t0:0<=p0:=(lt 0 (by decide)).1
   have t2:0<=p2:=(lt 2 (by decide)).1
   have t4:0<=p4:=(lt 4 (by decide)).1
   have t6:0<=p6:=(lt 6 (by decide)).1
   have t9:0<=p9/\p9 < 25:=lt 9 (by decide)
   clear lt l10
   obtain ⟨j9,rfl⟩:=Int.eq_ofNat_of_zero_le t9.1
   have j25:j9 < 25:=by omega
   refine aF 7 nd (x_call b c_l_choice (aa (aM (x:=.lst [.int p0,.int p1,.int p2,.int p3]) (k8 (ae 6) e8 (dn ag)) rfl) (aa (ae 3) af)) ⟨p0,p1,p2,p3,R,rfl,t0,t2,R1,R7,rfl⟩) ?_
   refine aF 8 nd (x_call b c_l_choice (aa (aM (x:=.lst [.int p4,.int p5,.int p6,.int p7]) (k8 (ae 6) (dn ag) (dn ag)) rfl) (aa (ae 4) af)) ⟨p4,p5,p6,p7,C,rfl,t4,t6,C1,C7,rfl⟩) ?_
   have sy:shO (chD p0 p1 p2 p3 R):=qh R1 R7 t2
   have sz:shO (chD p4 p5 p6 p7 C):=qh C1 C7 t6
   generalize chD p0 p1 p2 p3 R=y at sy ⊢
   generalize chD p4 p5 p6 p7 C=z at sz ⊢
   have sa:=xG 0 j9 j25
   refine rE 9 10 (g:=λl=>([y,z,(anC 0).getD j9 .non]:List D).getD l .non) (g':=λl=>.int ((([R,C,R]:List Nat).getD l 0:Nat):Int)) (λl τ=>∃ s9 s10 s11,τ=[.d (.lst (ns.map .int)),.d (.int (i:Nat)),.d (.int c),.d (.int (R:Nat)),.d (.int (C:Nat)),.d (tbQ M),.d (.lst ([p0,p1,p2,p3,p4,p5,p6,p7,p8,(j9:Int)].map .int)),.d y,.d z,s9,s10,s11,s12,s13]) b nd (yg (eK (aa (eK (aa (ae 7) (aa (ae 3) af))) (aa (eK (aa (ae 8) (aa (ae 4) af))) (aa (eK (aa (x_call b c_l_any (aa (aM (ba (aa (aG (ae 6) ag (ax (a4 (i:=9) rfl))) (aa ag af)))) af) ⟨j9,0,rfl,j25,rfl⟩) (aa (ae 3) af))) af))))) (λl hl=>match l,hl with | 0,_=>rfl | 1,_=>rfl | 2,_=>rfl) ⟨_,_,_,rfl⟩ (λl hl τ h=>?_) λτ h=>?_
   · obtain ⟨s9,s10,s11,rfl⟩:=h
     have sl:shO (([y,z,(anC 0).getD j9 .non]:List D).getD l .non):=match l,hl with
       | 0,_=>sy
       | 1,_=>sz
       | 2,_=>sa
     generalize ([y,z,(anC 0).getD j9 .non]:List D).getD l .non=x at sl ⊢
     generalize ([R,C,R]:List Nat).getD l 0=m
     refine aF 11 nd (x_call b c_is_choice2 (aa (ae 9) (aa (ae 10) af)) ⟨x,_,rfl,sl,rfl⟩) ?_
     refine cc (PW.pt (cG (aV (aR (bZ .bool b (ae 11)))) λh=>(cX (aH (ae 11) (x_call b c_l_good (aa (ae 9) (aa (ae 10) af)) ⟨x,_,rfl,sl,rfl⟩) (xN b (oE _) (oE _)))))) ?_ (aZ ⟨_,_,_,rfl⟩)
     show (false || !Ev.eqD (.bl (cn x (m:Nat))) (.bl (cn x (m:Nat))))=false
     rw [xk]
     rfl
   obtain ⟨s9,s10,s11,rfl⟩:=h
   refine aF 12 nd (cB (cA (aG (ae 6) ag (ax (a4 (i:=8) rfl))) ag bt) λh=>(eF (cA (aG (ae 6) ag (ax (a4 (i:=9) rfl))) ag ly))) ?_
   have en:(decide (p8=1) && !decide ((j9:Int)=16))=true->j9 ≠ 16:=λh e=>by
     subst e
     rw [Bool.and_eq_true] at h
     cases h.2
   generalize (decide (p8=1) && !decide ((j9:Int)=16))=no at en ⊢
   refine eU (M:=λτ=>τ=[.d (.lst (ns.map .int)),.d (.int (i:Nat)),.d (.int c),.d (.int (R:Nat)),.d (.int (C:Nat)),.d (if no then (anC 3).getD j9 .non else tbQ M),.d (.lst ([p0,p1,p2,p3,p4,p5,p6,p7,p8,(j9:Int)].map .int)),.d y,.d z,s9,s10,s11,.d (.bl no),s13]) (aR (ae 12)) (λh=>?_) (λh=>?_) ?_
   · have h:no=true:=h
     subst h
     exact aF 5 nd (x_call b c_l_any (aa (aM (ba (aa (aG (ae 6) ag (ax (a4 (i:=9) rfl))) (aa ag af)))) af) ⟨j9,3,rfl,j25,rfl⟩) (aZ rfl)
   · have h:no=false:=h
     subst h
     exact aZ rfl
   rintro _ rfl
   have hno:no=true->ml (if no then (anC 3).getD j9 .non else tbQ M)=false:=λh=>by
     rw [if_pos h]
     exact wW j9 j25 (en h)
   have hyes:no=false->(if no then (anC 3).getD j9 .non else tbQ M)=tbQ M:=λh=>by rw [h]; rfl
   generalize (if no then (anC 3).getD j9 .non else tbQ M)=x at hno hyes ⊢
   refine gJ 13 (λl τ=>∃ s13,τ=[.d (.lst (ns.map .int)),.d (.int (i:Nat)),.d (.int c),.d (.int (R:Nat)),.d (.int (C:Nat)),.d x,.d (.lst ([p0,p1,p2,p3,p4,p5,p6,p7,p8,(j9:Int)].map .int)),.d y,.d z,s9,s10,s11,.d (.bl no),s13]) b nd (gO (n:=((3:Nat):Int)) b ag (by decide) (by decide)) fL ⟨_,rfl⟩ (λl hl τ h=>?_) λτ h=>?_
   · obtain ⟨s13,rfl⟩:=h
     have l3:l < 3:=hl
     refine cc (aH (x_call b c_l_answer (aa (ae 13) (aa (ae 5) (aa (ae 7) (aa (ae 8) af)))) ⟨_,R,C,3,4,M,x,y,z,no,rfl,hno,λh=>⟨hyes h,t,q,λm hm=>⟨(bz7 m (by omega)).1,(bz7 m (by omega)).2.1,(bz7 m (by omega)).2.2.1,(bz7 m (by omega)).2.2.2⟩⟩,by omega,sy,sz,rfl⟩) (x_call b c_l_due (aa (ae 13) (aa (ae 5) (aa (ae 7) (aa (ae 8) (aa (ae 12) af))))) ⟨_,R,C,M,x,y,z,no,rfl,λh=>⟨hyes h,t⟩,sy,sz,rfl⟩) xY) ?_ (aZ ⟨_,rfl⟩)
     rw [decide_eq_true rfl]
     rfl
   · obtain ⟨s13,rfl⟩:=h
     exact aZ ⟨_,_,_,_,_,_,_,_,_,_,_,_,_,rfl⟩
 · obtain ⟨s1,s2,s3,s4,s5,s6,s7,s8,s9,s10,s11,s12,s13,rfl⟩:=h
   exact au fj rfl
end
end K07
namespace K07
open PySem PySem.Spec PyProof.Rows L2 Hy
set_option maxHeartbeats 0 in
theorem all_mk {l:PySem.W.OpenLaw} {w:World} {K:PySem.W.Frag} {h:Heap} {mg:Str->Option Value} {fa f0 f1 f2 f3 f4 f5 f6 f7 f8 f9 f10 f11 f12 f13 f14 f15 f16 f17 f18 f19 f20 f21 f22 f23 f24 f25 f26 f27 f28 f29 f30 f31 f32 f33 f34 f35 f36 f37 f38 f39 f40 f41 f42 f43:Addr} {t0:Tok} {SM:Addr} {ddS:Option Addr} {slS:Array (Option Value)} {cdS:ClassData} {oNS:Obj} {C0 C1 C2 C3 C4 C5 C6 C7 C8 C9 C10 C11 C12 C13 C14 C15 C16 C17 C18:Addr} {dd0:Option Addr} {kd0:ClassData} {sl0x:Array (Option Value)} {nm1 qn1:Str} {N1:Addr} {bs1 sub1:List Value} {hd1 ab1:Bool} {sn1:List Str} {col1:Option Bool} {dd1:Option Addr} {ka1 kb1 kc1 kd1 ke1:Option Value} {oN1:Obj} {nm2 qn2:Str} {N2:Addr} {bs2 sub2:List Value} {hd2 ab2:Bool} {sn2:List Str} {col2:Option Bool} {dd2:Option Addr} {ka2 kb2 kc2 kd2 ke2:Option Value} {oN2:Obj} {nm3 qn3:Str} {N3:Addr} {bs3 sub3:List Value} {hd3 ab3:Bool} {sn3:List Str} {col3:Option Bool} {dd3:Option Addr} {ka3 kb3 kc3 kd3 ke3:Option Value} {oN3:Obj} {dd4:Option Addr} {kd4:ClassData} {sl4x:Array (Option Value)} {dd5:Option Addr} {kd5:ClassData} {sl5x:Array (Option Value)} {dd6:Option Addr} {kd6:ClassData} {sl6x:Array (Option Value)} {dd7:Option Addr} {kd7:ClassData} {sl7x:Array (Option Value)} {dd8:Option Addr} {kd8:ClassData} {sl8x:Array (Option Value)} {dd9:Option Addr} {kd9:ClassData} {sl9x:Array (Option Value)} {dd10:Option Addr} {kd10:ClassData} {sl10x:Array (Option Value)} {dd11:Option Addr} {kd11:ClassData} {sl11x:Array (Option Value)} {dd12:Option Addr} {kd12:ClassData} {sl12x:Array (Option Value)} {dd13:Option Addr} {kd13:ClassData} {sl13x:Array (Option Value)} {dd14:Option Addr} {kd14:ClassData} {sl14x:Array (Option Value)} {dd15:Option Addr} {kd15:ClassData} {sl15x:Array (Option Value)} {dd16:Option Addr} {kd16:ClassData} {sl16x:Array (Option Value)} {dd17:Option Addr} {kd17:ClassData} {sl17x:Array (Option Value)} {dd18:Option Addr} {kd18:ClassData} {sl18x:Array (Option Value)} (X:K.In h) (G:h.Ns mainGlobals mg) (hfa:mg "law" = some (.ref fa))
   (h0:Dfn K "_law_cell" (top 54) f0) (h1:Dfn K "_law_numbers" (top 55) f1) (h2:Dfn K "_law_size" (top 61) f2) (h3:Dfn K "_law_divisor" (top 57) f3) (h4:Dfn K "_law_made" (top 58) f4) (h5:Dfn K "_law_number" (top 59) f5) (h6:Dfn K "_law_table" (top 60) f6) (h7:Dfn K "_law_any" (top 64) f7) (h8:Dfn K "_law_choice" (top 66) f8) (h9:Dfn K "_law_rest" (top 56) f9) (h10:Dfn K "is_rising" (top 33) f10) (h11:Dfn K "is_whole" (top 22) f11) (h12:Dfn K "is_choice" (top 32) f12) (h13:Dfn K "is_short_list" (top 29) f13) (h14:Dfn K "common_divisor" (top 24) f14) (h15:Dfn K "is_fraction" (top 23) f15) (h16:Dfn K "is_row" (top 30) f16) (h17:Dfn K "is_table" (top 31) f17) (h18:Dfn K "look_table" (top 34) f18) (h19:Dfn K "look_choices" (top 35) f19) (h20:Dfn K "picked" (top 36) f20) (h21:Dfn K "chosen" (top 38) f21) (h22:Dfn K "part_of" (top 37) f22) (h23:Dfn K "_law_word" (top 63) f23) (h24:Dfn K "column_of" (top 41) f24) (h25:Dfn K "columns_of" (top 40) f25) (h26:Dfn K "turned" (top 39) f26) (h27:Dfn K "look_square" (top 45) f27) (h28:Dfn K "in_lowest_terms" (top 25) f28) (h29:qL K "fraction" (top 26) f29 (1)) (h30:Dfn K "scale_of" (top 46) f30) (h31:Dfn K "pivot_place" (top 51) f31) (h32:Dfn K "cleared" (top 52) f32) (h33:Dfn K "whole_determinant" (top 50) f33) (h34:Dfn K "product_of_all" (top 49) f34) (h35:Dfn K "whole_row" (top 47) f35) (h36:Dfn K "whole_rows" (top 48) f36) (h37:Dfn K "square_determinant" (top 44) f37) (h38:Dfn K "minor" (top 43) f38) (h39:Dfn K "_law_answer" (top 67) f39) (h40:Dfn K "_law_whole" (top 62) f40) (h41:Dfn K "_law_good" (top 65) f41) (h42:Dfn K "_law_due" (top 68) f42) (h43:Dfn K "law" (top 69) f43) (hz:nsL K ai) (z0:PySem.W.nsIn K mainGlobals "MOST" = some (some (.int 7 t0))) (aS:PySem.W.nsIn K mainGlobals "SmoothError" = some (some (.ref SM))) (lS:K.lookup SM=some ⟨.type "type",ddS,.cls cdS,slS⟩) (nS:K.lookup cdS.ns=some oNS) (oS:Hx.nsO oNS=true) (iS:PySem.W.nsIn K cdS.ns "__init__" = some none) (bS:PySem.W.subIn K (.ref SM) (.type "BaseException")=some true) (zV:PySem.W.nsIn K mainGlobals "ValueError" = some none) (gG:PySem.W.specialIn K (.builtin "object.__class__") "__get__" = some (some (.builtin "getset_descriptor.__get__"))) (gT:PySem.W.takesIn K (.builtin "object.__class__")=some true) (x0:PySem.W.nsIn K mainGlobals "NoFraction" = some (some (.ref C0))) (x1:PySem.W.nsIn K mainGlobals "NoTable" = some (some (.ref C1))) (x2:PySem.W.nsIn K mainGlobals "NoChoice" = some (some (.ref C2))) (x3:PySem.W.nsIn K mainGlobals "NoSquare" = some (some (.ref C3))) (x4:PySem.W.nsIn K mainGlobals "NoFit" = some (some (.ref C4))) (x5:PySem.W.nsIn K mainGlobals "NoUndoing" = some (some (.ref C5))) (x6:PySem.W.nsIn K mainGlobals "NoLadder" = some (some (.ref C6))) (x7:PySem.W.nsIn K mainGlobals "TooMany" = some (some (.ref C7))) (x8:PySem.W.nsIn K mainGlobals "NoPaper" = some (some (.ref C8))) (x9:PySem.W.nsIn K mainGlobals "NoRow" = some (some (.ref C9))) (x10:PySem.W.nsIn K mainGlobals "NoStairs" = some (some (.ref C10))) (x11:PySem.W.nsIn K mainGlobals "NoNumber" = some (some (.ref C11))) (x12:PySem.W.nsIn K mainGlobals "NoCorner" = some (some (.ref C12))) (x13:PySem.W.nsIn K mainGlobals "NoName" = some (some (.ref C13))) (x14:PySem.W.nsIn K mainGlobals "NoStep" = some (some (.ref C14))) (x15:PySem.W.nsIn K mainGlobals "NoWeight" = some (some (.ref C15))) (x16:PySem.W.nsIn K mainGlobals "NoDeed" = some (some (.ref C16))) (x17:PySem.W.nsIn K mainGlobals "NoText" = some (some (.ref C17))) (x18:PySem.W.nsIn K mainGlobals "NoWord" = some (some (.ref C18))) (w1:K.lookup C1=some (excClassObj nm1 qn1 C1 N1 bs1 (.ref SM :: Hx.bmV) hd1 sn1 sub1 ab1 col1 dd1 ka1 kb1 kc1 kd1 ke1 "ValueError.__new__")) (v1:K.lookup N1=some oN1) (o1:Hx.nsO oN1=true) (i1:PySem.W.nsIn K N1 "__init__" = some none) (ga1:PySem.W.findIn K (.ref C1) "__getattribute__" = some (some (.builtin "BaseException.__getattribute__"))) (gb1:PySem.W.findIn K (.ref C1) "__getattr__" = some none) (gc1:PySem.W.findIn K (.ref C1) "__class__" = some (some (.builtin "object.__class__"))) (gd1:PySem.W.mroIn K C1 (.type "object")=some true) (ge1:PySem.W.mroIn K C1 (.type "BaseException")=some true) (sS1:PySem.W.subIn K (.ref C1) (.ref SM)=some true) (nx1:(Value.ref C1 == Value.ref SM)=false) (sV1:PySem.W.subIn K (.ref C1) (.type "ValueError")=some true) (s1_0:PySem.W.subIn K (.ref C1) (.ref C0)=some false) (n1_0:(Value.ref C1 == Value.ref C0)=false) (s1_2:PySem.W.subIn K (.ref C1) (.ref C2)=some false) (n1_2:(Value.ref C1 == Value.ref C2)=false) (s1_3:PySem.W.subIn K (.ref C1) (.ref C3)=some false) (n1_3:(Value.ref C1 == Value.ref C3)=false) (s1_4:PySem.W.subIn K (.ref C1) (.ref C4)=some false) (n1_4:(Value.ref C1 == Value.ref C4)=false) (s1_5:PySem.W.subIn K (.ref C1) (.ref C5)=some false) (n1_5:(Value.ref C1 == Value.ref C5)=false) (s1_6:PySem.W.subIn K (.ref C1) (.ref C6)=some false) (n1_6:(Value.ref C1 == Value.ref C6)=false) (s1_7:PySem.W.subIn K (.ref C1) (.ref C7)=some false) (n1_7:(Value.ref C1 == Value.ref C7)=false) (s1_8:PySem.W.subIn K (.ref C1) (.ref C8)=some false) (n1_8:(Value.ref C1 == Value.ref C8)=false) (s1_9:PySem.W.subIn K (.ref C1) (.ref C9)=some false) (n1_9:(Value.ref C1 == Value.ref C9)=false) (s1_10:PySem.W.subIn K (.ref C1) (.ref C10)=some false) (n1_10:(Value.ref C1 == Value.ref C10)=false) (s1_11:PySem.W.subIn K (.ref C1) (.ref C11)=some false) (n1_11:(Value.ref C1 == Value.ref C11)=false) (s1_12:PySem.W.subIn K (.ref C1) (.ref C12)=some false) (n1_12:(Value.ref C1 == Value.ref C12)=false) (s1_13:PySem.W.subIn K (.ref C1) (.ref C13)=some false) (n1_13:(Value.ref C1 == Value.ref C13)=false) (s1_14:PySem.W.subIn K (.ref C1) (.ref C14)=some false) (n1_14:(Value.ref C1 == Value.ref C14)=false) (s1_15:PySem.W.subIn K (.ref C1) (.ref C15)=some false) (n1_15:(Value.ref C1 == Value.ref C15)=false) (s1_16:PySem.W.subIn K (.ref C1) (.ref C16)=some false) (n1_16:(Value.ref C1 == Value.ref C16)=false) (s1_17:PySem.W.subIn K (.ref C1) (.ref C17)=some false) (n1_17:(Value.ref C1 == Value.ref C17)=false) (s1_18:PySem.W.subIn K (.ref C1) (.ref C18)=some false) (n1_18:(Value.ref C1 == Value.ref C18)=false) (w2:K.lookup C2=some (excClassObj nm2 qn2 C2 N2 bs2 (.ref SM :: Hx.bmV) hd2 sn2 sub2 ab2 col2 dd2 ka2 kb2 kc2 kd2 ke2 "ValueError.__new__")) (v2:K.lookup N2=some oN2) (o2:Hx.nsO oN2=true) (i2:PySem.W.nsIn K N2 "__init__" = some none) (ga2:PySem.W.findIn K (.ref C2) "__getattribute__" = some (some (.builtin "BaseException.__getattribute__"))) (gb2:PySem.W.findIn K (.ref C2) "__getattr__" = some none) (gc2:PySem.W.findIn K (.ref C2) "__class__" = some (some (.builtin "object.__class__"))) (gd2:PySem.W.mroIn K C2 (.type "object")=some true) (ge2:PySem.W.mroIn K C2 (.type "BaseException")=some true) (sS2:PySem.W.subIn K (.ref C2) (.ref SM)=some true) (nx2:(Value.ref C2 == Value.ref SM)=false) (sV2:PySem.W.subIn K (.ref C2) (.type "ValueError")=some true) (s2_0:PySem.W.subIn K (.ref C2) (.ref C0)=some false) (n2_0:(Value.ref C2 == Value.ref C0)=false) (s2_1:PySem.W.subIn K (.ref C2) (.ref C1)=some false) (n2_1:(Value.ref C2 == Value.ref C1)=false) (s2_3:PySem.W.subIn K (.ref C2) (.ref C3)=some false) (n2_3:(Value.ref C2 == Value.ref C3)=false) (s2_4:PySem.W.subIn K (.ref C2) (.ref C4)=some false) (n2_4:(Value.ref C2 == Value.ref C4)=false) (s2_5:PySem.W.subIn K (.ref C2) (.ref C5)=some false) (n2_5:(Value.ref C2 == Value.ref C5)=false) (s2_6:PySem.W.subIn K (.ref C2) (.ref C6)=some false) (n2_6:(Value.ref C2 == Value.ref C6)=false) (s2_7:PySem.W.subIn K (.ref C2) (.ref C7)=some false) (n2_7:(Value.ref C2 == Value.ref C7)=false) (s2_8:PySem.W.subIn K (.ref C2) (.ref C8)=some false) (n2_8:(Value.ref C2 == Value.ref C8)=false) (s2_9:PySem.W.subIn K (.ref C2) (.ref C9)=some false) (n2_9:(Value.ref C2 == Value.ref C9)=false) (s2_10:PySem.W.subIn K (.ref C2) (.ref C10)=some false) (n2_10:(Value.ref C2 == Value.ref C10)=false) (s2_11:PySem.W.subIn K (.ref C2) (.ref C11)=some false) (n2_11:(Value.ref C2 == Value.ref C11)=false) (s2_12:PySem.W.subIn K (.ref C2) (.ref C12)=some false) (n2_12:(Value.ref C2 == Value.ref C12)=false) (s2_13:PySem.W.subIn K (.ref C2) (.ref C13)=some false) (n2_13:(Value.ref C2 == Value.ref C13)=false) (s2_14:PySem.W.subIn K (.ref C2) (.ref C14)=some false) (n2_14:(Value.ref C2 == Value.ref C14)=false) (s2_15:PySem.W.subIn K (.ref C2) (.ref C15)=some false) (n2_15:(Value.ref C2 == Value.ref C15)=false) (s2_16:PySem.W.subIn K (.ref C2) (.ref C16)=some false) (n2_16:(Value.ref C2 == Value.ref C16)=false) (s2_17:PySem.W.subIn K (.ref C2) (.ref C17)=some false) (n2_17:(Value.ref C2 == Value.ref C17)=false) (s2_18:PySem.W.subIn K (.ref C2) (.ref C18)=some false) (n2_18:(Value.ref C2 == Value.ref C18)=false) (w3:K.lookup C3=some (excClassObj nm3 qn3 C3 N3 bs3 (.ref SM :: Hx.bmV) hd3 sn3 sub3 ab3 col3 dd3 ka3 kb3 kc3 kd3 ke3 "ValueError.__new__")) (v3:K.lookup N3=some oN3) (o3:Hx.nsO oN3=true) (i3:PySem.W.nsIn K N3 "__init__" = some none) (ga3:PySem.W.findIn K (.ref C3) "__getattribute__" = some (some (.builtin "BaseException.__getattribute__"))) (gb3:PySem.W.findIn K (.ref C3) "__getattr__" = some none) (gc3:PySem.W.findIn K (.ref C3) "__class__" = some (some (.builtin "object.__class__"))) (gd3:PySem.W.mroIn K C3 (.type "object")=some true) (ge3:PySem.W.mroIn K C3 (.type "BaseException")=some true) (sS3:PySem.W.subIn K (.ref C3) (.ref SM)=some true) (nx3:(Value.ref C3 == Value.ref SM)=false) (sV3:PySem.W.subIn K (.ref C3) (.type "ValueError")=some true) (s3_0:PySem.W.subIn K (.ref C3) (.ref C0)=some false) (n3_0:(Value.ref C3 == Value.ref C0)=false) (s3_1:PySem.W.subIn K (.ref C3) (.ref C1)=some false) (n3_1:(Value.ref C3 == Value.ref C1)=false) (s3_2:PySem.W.subIn K (.ref C3) (.ref C2)=some false) (n3_2:(Value.ref C3 == Value.ref C2)=false) (s3_4:PySem.W.subIn K (.ref C3) (.ref C4)=some false) (n3_4:(Value.ref C3 == Value.ref C4)=false) (s3_5:PySem.W.subIn K (.ref C3) (.ref C5)=some false) (n3_5:(Value.ref C3 == Value.ref C5)=false) (s3_6:PySem.W.subIn K (.ref C3) (.ref C6)=some false) (n3_6:(Value.ref C3 == Value.ref C6)=false) (s3_7:PySem.W.subIn K (.ref C3) (.ref C7)=some false) (n3_7:(Value.ref C3 == Value.ref C7)=false) (s3_8:PySem.W.subIn K (.ref C3) (.ref C8)=some false) (n3_8:(Value.ref C3 == Value.ref C8)=false) (s3_9:PySem.W.subIn K (.ref C3) (.ref C9)=some false) (n3_9:(Value.ref C3 == Value.ref C9)=false) (s3_10:PySem.W.subIn K (.ref C3) (.ref C10)=some false) (n3_10:(Value.ref C3 == Value.ref C10)=false) (s3_11:PySem.W.subIn K (.ref C3) (.ref C11)=some false) (n3_11:(Value.ref C3 == Value.ref C11)=false) (s3_12:PySem.W.subIn K (.ref C3) (.ref C12)=some false) (n3_12:(Value.ref C3 == Value.ref C12)=false) (s3_13:PySem.W.subIn K (.ref C3) (.ref C13)=some false) (n3_13:(Value.ref C3 == Value.ref C13)=false) (s3_14:PySem.W.subIn K (.ref C3) (.ref C14)=some false) (n3_14:(Value.ref C3 == Value.ref C14)=false) (s3_15:PySem.W.subIn K (.ref C3) (.ref C15)=some false) (n3_15:(Value.ref C3 == Value.ref C15)=false) (s3_16:PySem.W.subIn K (.ref C3) (.ref C16)=some false) (n3_16:(Value.ref C3 == Value.ref C16)=false) (s3_17:PySem.W.subIn K (.ref C3) (.ref C17)=some false) (n3_17:(Value.ref C3 == Value.ref C17)=false) (s3_18:PySem.W.subIn K (.ref C3) (.ref C18)=some false) (n3_18:(Value.ref C3 == Value.ref C18)=false) (w0:K.lookup C0=some ⟨.type "type",dd0,.cls kd0,sl0x⟩) (w4:K.lookup C4=some ⟨.type "type",dd4,.cls kd4,sl4x⟩) (w5:K.lookup C5=some ⟨.type "type",dd5,.cls kd5,sl5x⟩) (w6:K.lookup C6=some ⟨.type "type",dd6,.cls kd6,sl6x⟩) (w7:K.lookup C7=some ⟨.type "type",dd7,.cls kd7,sl7x⟩) (w8:K.lookup C8=some ⟨.type "type",dd8,.cls kd8,sl8x⟩) (w9:K.lookup C9=some ⟨.type "type",dd9,.cls kd9,sl9x⟩) (w10:K.lookup C10=some ⟨.type "type",dd10,.cls kd10,sl10x⟩) (w11:K.lookup C11=some ⟨.type "type",dd11,.cls kd11,sl11x⟩) (w12:K.lookup C12=some ⟨.type "type",dd12,.cls kd12,sl12x⟩) (w13:K.lookup C13=some ⟨.type "type",dd13,.cls kd13,sl13x⟩) (w14:K.lookup C14=some ⟨.type "type",dd14,.cls kd14,sl14x⟩) (w15:K.lookup C15=some ⟨.type "type",dd15,.cls kd15,sl15x⟩) (w16:K.lookup C16=some ⟨.type "type",dd16,.cls kd16,sl16x⟩) (w17:K.lookup C17=some ⟨.type "type",dd17,.cls kd17,sl17x⟩) (w18:K.lookup C18=some ⟨.type "type",dd18,.cls kd18,sl18x⟩) :
   ∃ fd:FuncData,(∀ (s:Shared) (v:Value),BindsTo s fd ⟨[v],[]⟩ [("_law_script",v)])/\∀ base:Heap,K.In base->base.Ns mainGlobals mg->aJ l.prog w K mg base CX0 8 fa fd ["_law_script"] (spD K om):=by
 have hb:=hz.none X G
 have y_MOST:∃ t,mg "MOST" = some (.int 7 t):=⟨_,PySem.W.mg_of X G z0⟩
 have E1:Hx.b6 K C1:=⟨by unfold PySem.W.clsIn; rw [w1]; rfl,ga1,gb1,gc1,gG,gT,gd1,ge1⟩
 have Y1:Hx.pF K C1 SM:=⟨⟨_,_,_,_,_,_,_,_,_,_,_,_,_,_,_,_,w1,v1,o1,i1⟩,⟨_,_,_,_,_,lS,nS,oS,iS⟩,E1⟩
 have E2:Hx.b6 K C2:=⟨by unfold PySem.W.clsIn; rw [w2]; rfl,ga2,gb2,gc2,gG,gT,gd2,ge2⟩
 have Y2:Hx.pF K C2 SM:=⟨⟨_,_,_,_,_,_,_,_,_,_,_,_,_,_,_,_,w2,v2,o2,i2⟩,⟨_,_,_,_,_,lS,nS,oS,iS⟩,E2⟩
 have E3:Hx.b6 K C3:=⟨by unfold PySem.W.clsIn; rw [w3]; rfl,ga3,gb3,gc3,gG,gT,gd3,ge3⟩
 have Y3:Hx.pF K C3 SM:=⟨⟨_,_,_,_,_,_,_,_,_,_,_,_,_,_,_,_,w3,v3,o3,i3⟩,⟨_,_,_,_,_,lS,nS,oS,iS⟩,E3⟩
 have Z:Cls K mg (λc=>([C0,C1,C2,C3,C4,C5,C6,C7,C8,C9,C10,C11,C12,C13,C14,C15,C16,C17,C18]:List Addr).getD c 0) [1,2,3]:=by
   refine ⟨by decide,⟨SM,PySem.W.mg_of X G aS,?_⟩,?_,?_,?_,PySem.W.mg_none_of X G zV⟩
   · intro c hc
     simp only [List.mem_cons,List.not_mem_nil,or_false] at hc
     rcases hc with rfl | rfl | rfl
     · exact ⟨Y1,mn bS (av nx1 lS sS1).1⟩
     · exact ⟨Y2,mn bS (av nx2 lS sS2).1⟩
     · exact ⟨Y3,mn bS (av nx3 lS sS3).1⟩
   · intro i hi
     rcases (by omega:i=0\/i=1\/i=2\/i=3\/i=4\/i=5\/i=6\/i=7\/i=8\/i=9\/i=10\/i=11\/i=12\/i=13\/i=14\/i=15\/i=16\/i=17\/i=18) with rfl | rfl | rfl | rfl | rfl | rfl | rfl | rfl | rfl | rfl | rfl | rfl | rfl | rfl | rfl | rfl | rfl | rfl | rfl
     · exact PySem.W.mg_of X G x0
     · exact PySem.W.mg_of X G x1
     · exact PySem.W.mg_of X G x2
     · exact PySem.W.mg_of X G x3
     · exact PySem.W.mg_of X G x4
     · exact PySem.W.mg_of X G x5
     · exact PySem.W.mg_of X G x6
     · exact PySem.W.mg_of X G x7
     · exact PySem.W.mg_of X G x8
     · exact PySem.W.mg_of X G x9
     · exact PySem.W.mg_of X G x10
     · exact PySem.W.mg_of X G x11
     · exact PySem.W.mg_of X G x12
     · exact PySem.W.mg_of X G x13
     · exact PySem.W.mg_of X G x14
     · exact PySem.W.mg_of X G x15
     · exact PySem.W.mg_of X G x16
     · exact PySem.W.mg_of X G x17
     · exact PySem.W.mg_of X G x18
   · intro c hc i hi
     simp only [List.mem_cons,List.not_mem_nil,or_false] at hc
     rcases hc with rfl | rfl | rfl
     · rcases (by omega:i=0\/i=1\/i=2\/i=3\/i=4\/i=5\/i=6\/i=7\/i=8\/i=9\/i=10\/i=11\/i=12\/i=13\/i=14\/i=15\/i=16\/i=17\/i=18) with rfl | rfl | rfl | rfl | rfl | rfl | rfl | rfl | rfl | rfl | rfl | rfl | rfl | rfl | rfl | rfl | rfl | rfl | rfl
       · exact (av n1_0 w0 s1_0).2
       · exact il
       · exact (av n1_2 w2 s1_2).2
       · exact (av n1_3 w3 s1_3).2
       · exact (av n1_4 w4 s1_4).2
       · exact (av n1_5 w5 s1_5).2
       · exact (av n1_6 w6 s1_6).2
       · exact (av n1_7 w7 s1_7).2
       · exact (av n1_8 w8 s1_8).2
       · exact (av n1_9 w9 s1_9).2
       · exact (av n1_10 w10 s1_10).2
       · exact (av n1_11 w11 s1_11).2
       · exact (av n1_12 w12 s1_12).2
       · exact (av n1_13 w13 s1_13).2
       · exact (av n1_14 w14 s1_14).2
       · exact (av n1_15 w15 s1_15).2
       · exact (av n1_16 w16 s1_16).2
       · exact (av n1_17 w17 s1_17).2
       · exact (av n1_18 w18 s1_18).2
     · rcases (by omega:i=0\/i=1\/i=2\/i=3\/i=4\/i=5\/i=6\/i=7\/i=8\/i=9\/i=10\/i=11\/i=12\/i=13\/i=14\/i=15\/i=16\/i=17\/i=18) with rfl | rfl | rfl | rfl | rfl | rfl | rfl | rfl | rfl | rfl | rfl | rfl | rfl | rfl | rfl | rfl | rfl | rfl | rfl
       · exact (av n2_0 w0 s2_0).2
       · exact (av n2_1 w1 s2_1).2
       · exact il
       · exact (av n2_3 w3 s2_3).2
       · exact (av n2_4 w4 s2_4).2
       · exact (av n2_5 w5 s2_5).2
       · exact (av n2_6 w6 s2_6).2
       · exact (av n2_7 w7 s2_7).2
       · exact (av n2_8 w8 s2_8).2
       · exact (av n2_9 w9 s2_9).2
       · exact (av n2_10 w10 s2_10).2
       · exact (av n2_11 w11 s2_11).2
       · exact (av n2_12 w12 s2_12).2
       · exact (av n2_13 w13 s2_13).2
       · exact (av n2_14 w14 s2_14).2
       · exact (av n2_15 w15 s2_15).2
       · exact (av n2_16 w16 s2_16).2
       · exact (av n2_17 w17 s2_17).2
       · exact (av n2_18 w18 s2_18).2
     · rcases (by omega:i=0\/i=1\/i=2\/i=3\/i=4\/i=5\/i=6\/i=7\/i=8\/i=9\/i=10\/i=11\/i=12\/i=13\/i=14\/i=15\/i=16\/i=17\/i=18) with rfl | rfl | rfl | rfl | rfl | rfl | rfl | rfl | rfl | rfl | rfl | rfl | rfl | rfl | rfl | rfl | rfl | rfl | rfl
       · exact (av n3_0 w0 s3_0).2
       · exact (av n3_1 w1 s3_1).2
       · exact (av n3_2 w2 s3_2).2
       · exact il
       · exact (av n3_4 w4 s3_4).2
       · exact (av n3_5 w5 s3_5).2
       · exact (av n3_6 w6 s3_6).2
       · exact (av n3_7 w7 s3_7).2
       · exact (av n3_8 w8 s3_8).2
       · exact (av n3_9 w9 s3_9).2
       · exact (av n3_10 w10 s3_10).2
       · exact (av n3_11 w11 s3_11).2
       · exact (av n3_12 w12 s3_12).2
       · exact (av n3_13 w13 s3_13).2
       · exact (av n3_14 w14 s3_14).2
       · exact (av n3_15 w15 s3_15).2
       · exact (av n3_16 w16 s3_16).2
       · exact (av n3_17 w17 s3_17).2
       · exact (av n3_18 w18 s3_18).2
   · intro c hc
     simp only [List.mem_cons,List.not_mem_nil,or_false] at hc
     rcases hc with rfl | rfl | rfl
     · exact j1 sV1
     · exact j1 sV2
     · exact j1 sV3
 obtain ⟨a,⟨oc,od,kV,dc,pm,an,cd,ct,sl,l0,c⟩,r⟩:=h43
 cases hfa.symm.trans (PySem.W.mg_of X G a)
 refine ⟨PySem.W.fnOf "law" "law" (cb (top 69)) (bo (top 69)) (ah (top 69)) .none kV dc pm an cd ct,λs v=>.of_eq rfl,λbase _ _=>?_⟩
 have c_l_cell:Cal l.prog w K mg base 1 "_law_cell" iX:=h0.cal (ps:=["_law_script","_law_k"]) X G (λ_ _ _ _ _ _=>Hy.bd2 λ_ _=>rfl) λ_ F=>pz (k:=0) F hb
 have c_l_numbers:Cal l.prog w K mg base 1 "_law_numbers" cf:=h1.cal (ps:=["_law_cell_here","_law_bases"]) X G (λ_ _ _ _ _ _=>Hy.bd2 λ_ _=>rfl) λ_ F=>kM (k:=0) F hb
 have c_l_size:Cal l.prog w K mg base 2 "_law_size" iI:=h2.cal (ps:=["_law_cell_here"]) X G (λ_ _ _ _ _ _=>Hy.bd1 λ_=>rfl) λ_ F=>pd (k:=1) F hb c_l_numbers
 have c_l_divisor:Cal l.prog w K mg base 1 "_law_divisor" eE:=h3.cal (ps:=["_law_one","_law_other"]) X G (λ_ _ _ _ _ _=>Hy.bd2 λ_ _=>rfl) λ_ F=>kl (k:=0) F hb
 have c_l_made:Cal l.prog w K mg base 2 "_law_made" iq:=h4.cal (ps:=["_law_top","_law_bottom"]) X G (λ_ _ _ _ _ _=>Hy.bd2 λ_ _=>rfl) λ_ F=>pA (k:=1) F hb c_l_divisor
 have c_l_number:Cal l.prog w K mg base 3 "_law_number" fm:=h5.cal (ps:=["_law_kind","_law_part"]) X G (λ_ _ _ _ _ _=>Hy.bd2 λ_ _=>rfl) λ_ F=>lJ (k:=2) F hb c_l_made
 have c_l_table:Cal l.prog w K mg base 4 "_law_table" gu:=h6.cal (ps:=["_law_cell_here","_law_many","_law_wide","_law_kind"]) X G (λ_ _ _ _ _ _=>Hy.bd4 λ_ _ _ _=>rfl) λ_ F=>me (k:=3) F hb (c_l_numbers.mono (by decide)) c_l_number
 have c_l_any:Cal l.prog w K mg base 1 "_law_any" g8:=h7.cal (ps:=["_law_parts"]) X G (λ_ _ _ _ _ _=>Hy.bd1 λ_=>rfl) λ_ F=>qV (k:=0) F hb
 have c_l_choice:Cal l.prog w K mg base 2 "_law_choice" eY:=h8.cal (ps:=["_law_parts","_law_many"]) X G (λ_ _ _ _ _ _=>Hy.bd2 λ_ _=>rfl) λ_ F=>lA (k:=1) F hb c_l_any
 have c_l_rest:Cal l.prog w K mg base 1 "_law_rest" iD:=h9.cal (ps:=["_law_cell_here","_law_used"]) X G (λ_ _ _ _ _ _=>Hy.bd2 λ_ _=>rfl) λ_ F=>oP (k:=0) F hb
 have c_is_rising:Cal l.prog w K mg base 1 "is_rising" eg:=h10.cal (ps:=["numbers"]) X G (λ_ _ _ _ _ _=>Hy.bd1 λ_=>rfl) λ_ F=>kG (k:=0) F hb
 have c_is_rising2:Cal l.prog w K mg base 1 "is_rising" dF:=h10.cal (ps:=["numbers"]) X G (λ_ _ _ _ _ _=>Hy.bd1 λ_=>rfl) λ_ F=>jl (k:=0) F hb
 have c_is_whole:Cal l.prog w K mg base 1 "is_whole" b7:=h11.cal (ps:=["thing"]) X G (λ_ _ _ _ _ _=>Hy.bd1 λ_=>rfl) λ_ F=>lD (k:=0) F hb
 have c_is_choice:Cal l.prog w K mg base 2 "is_choice" eH:=h12.cal (ps:=["thing","many"]) X G (λ_ _ _ _ _ _=>Hy.bd2 λ_ _=>rfl) λ_ F=>jZ (k:=1) F hb c_is_rising c_is_whole
 have c_is_choice2:Cal l.prog w K mg base 2 "is_choice" cw:=h12.cal (ps:=["thing","many"]) X G (λ_ _ _ _ _ _=>Hy.bd2 λ_ _=>rfl) λ_ F=>jd (k:=1) F hb  (c_is_rising2.mono (by decide)) (c_is_whole.mono (by decide))
 have c_is_short_list:Cal l.prog w K mg base 1 "is_short_list" bN:=h13.cal (ps:=["thing"]) X G (λ_ _ _ _ _ _=>Hy.bd1 λ_=>rfl) λ_ F=>gA (k:=0) F hb y_MOST
 have c_is_short_list2:Cal l.prog w K mg base 1 "is_short_list" bF:=h13.cal (ps:=["thing"]) X G (λ_ _ _ _ _ _=>Hy.bd1 λ_=>rfl) λ_ F=>fE (k:=0) F hb y_MOST
 have c_common_divisor:Cal l.prog w K mg base 1 "common_divisor" bf:=h14.cal (ps:=["one","other"]) X G (λ_ _ _ _ _ _=>Hy.bd2 λ_ _=>rfl) λ_ F=>fA (k:=0) F hb
 have c_is_fraction:Cal l.prog w K mg base 2 "is_fraction" b9:=h15.cal (ps:=["thing"]) X G (λ_ _ _ _ _ _=>Hy.bd1 λ_=>rfl) λ_ F=>iR (k:=1) F hb c_is_whole c_common_divisor
 have c_is_row:Cal l.prog w K mg base 3 "is_row" ie:=h16.cal (ps:=["thing"]) X G (λ_ _ _ _ _ _=>Hy.bd1 λ_=>rfl) λ_ F=>pR (k:=2) F hb (c_is_short_list.mono (by decide)) c_is_fraction
 have c_is_row2:Cal l.prog w K mg base 3 "is_row" gw:=h16.cal (ps:=["thing"]) X G (λ_ _ _ _ _ _=>Hy.bd1 λ_=>rfl) λ_ F=>mq (k:=2) F hb  (c_is_short_list2.mono (by decide)) (c_is_fraction.mono (by decide))
 have c_is_table:Cal l.prog w K mg base 4 "is_table" eZ:=h17.cal (ps:=["thing"]) X G (λ_ _ _ _ _ _=>Hy.bd1 λ_=>rfl) λ_ F=>kZ (k:=3) F hb (c_is_short_list.mono (by decide)) c_is_row
 have c_is_table2:Cal l.prog w K mg base 4 "is_table" eL:=h17.cal (ps:=["thing"]) X G (λ_ _ _ _ _ _=>Hy.bd1 λ_=>rfl) λ_ F=>kq (k:=3) F hb  (c_is_short_list2.mono (by decide)) (c_is_row2.mono (by decide))
 have c_look_table:Cal l.prog w K mg base 5 "look_table" bh:=h18.cal (ps:=["thing"]) X G (λ_ _ _ _ _ _=>Hy.bd1 λ_=>rfl) λ_ F=>jq (k:=4) F hb c_is_table
 have x_look_table:cH l.prog w K mg base (λc=>([C0,C1,C2,C3,C4,C5,C6,C7,C8,C9,C10,C11,C12,C13,C14,C15,C16,C17,C18]:List Addr).getD c 0) 5 "look_table" gE:=h18.mz (ps:=["thing"]) X G (λ_ _ _ _ _ _=>Hy.bd1 λ_=>rfl) λ_ F=>jh (k:=4) F hb Z (by decide) (c_is_table2.mono (by decide))
 have c_look_choices:Cal l.prog w K mg base 3 "look_choices" bA:=h19.cal (ps:=["rows","columns","many_rows","many_columns"]) X G (λ_ _ _ _ _ _=>Hy.bd4 λ_ _ _ _=>rfl) λ_ F=>gS (k:=2) F hb c_is_choice
 have x_look_choices:cH l.prog w K mg base (λc=>([C0,C1,C2,C3,C4,C5,C6,C7,C8,C9,C10,C11,C12,C13,C14,C15,C16,C17,C18]:List Addr).getD c 0) 3 "look_choices" sk:=h19.mz (ps:=["rows","columns","many_rows","many_columns"]) X G (λ_ _ _ _ _ _=>Hy.bd4 λ_ _ _ _=>rfl) λ_ F=>gW (k:=2) F hb Z (by decide) (c_is_choice2.mono (by decide))
 have c_picked:Cal l.prog w K mg base 1 "picked" iW:=h20.cal (ps:=["things","places"]) X G (λ_ _ _ _ _ _=>Hy.bd2 λ_ _=>rfl) λ_ F=>oR (k:=0) F hb
 have c_chosen:Cal l.prog w K mg base 2 "chosen" d8:=h21.cal (ps:=["table","rows","columns"]) X G (λ_ _ _ _ _ _=>Hy.bd3 λ_ _ _=>rfl) λ_ F=>pH (k:=1) F hb c_picked
 have c_part_of:Cal l.prog w K mg base 6 "part_of" gB:=h22.cal (ps:=["table","rows","columns"]) X G (λ_ _ _ _ _ _=>Hy.bd3 λ_ _ _=>rfl) λ_ F=>mW (k:=5) F hb c_look_table (c_look_choices.mono (by decide)) (c_chosen.mono (by decide))
 have x_part_of:cH l.prog w K mg base (λc=>([C0,C1,C2,C3,C4,C5,C6,C7,C8,C9,C10,C11,C12,C13,C14,C15,C16,C17,C18]:List Addr).getD c 0) 6 "part_of" sj:=h22.mz (ps:=["table","rows","columns"]) X G (λ_ _ _ _ _ _=>Hy.bd3 λ_ _ _=>rfl) λ_ F=>ni (k:=5) F hb  (c_look_table.mono (by decide)) (x_look_table.mono (by decide)) (x_look_choices.mono (by decide))
 obtain ⟨fdw,Fw,mw,kw,bw⟩:=h23.fn (ps:=["_law_e"]) X G (λ_ _ _ _ _ _=>Hy.bd1 λ_=>rfl)
 have Ww:∀ c ∈ [1,2,3],dz l.prog w K mg base (λc=>([C0,C1,C2,C3,C4,C5,C6,C7,C8,C9,C10,C11,C12,C13,C14,C15,C16,C17,C18]:List Addr).getD c 0) 1 f23 c:=λc hc=>pQ (k:=0) Fw hb bw Z hc
 have c_column_of:Cal l.prog w K mg base 1 "column_of" eC:=h24.cal (ps:=["table","j"]) X G (λ_ _ _ _ _ _=>Hy.bd2 λ_ _=>rfl) λ_ F=>ka (k:=0) F hb
 have c_columns_of:Cal l.prog w K mg base 2 "columns_of" dj:=h25.cal (ps:=["table"]) X G (λ_ _ _ _ _ _=>Hy.bd1 λ_=>rfl) λ_ F=>jt (k:=1) F hb c_column_of
 have c_turned:Cal l.prog w K mg base 6 "turned" iB:=h26.cal (ps:=["table"]) X G (λ_ _ _ _ _ _=>Hy.bd1 λ_=>rfl) λ_ F=>oY (k:=5) F hb c_look_table (c_columns_of.mono (by decide))
 have x_turned:cH l.prog w K mg base (λc=>([C0,C1,C2,C3,C4,C5,C6,C7,C8,C9,C10,C11,C12,C13,C14,C15,C16,C17,C18]:List Addr).getD c 0) 6 "turned" gE:=h26.mz (ps:=["table"]) X G (λ_ _ _ _ _ _=>Hy.bd1 λ_=>rfl) λ_ F=>pS (k:=5) F hb  (x_look_table.mono (by decide))
 have c_look_square:Cal l.prog w K mg base 1 "look_square" cR:=h27.cal (ps:=["table"]) X G (λ_ _ _ _ _ _=>Hy.bd1 λ_=>rfl) λ_ F=>iH (k:=0) F hb
 have x_look_square:cH l.prog w K mg base (λc=>([C0,C1,C2,C3,C4,C5,C6,C7,C8,C9,C10,C11,C12,C13,C14,C15,C16,C17,C18]:List Addr).getD c 0) 1 "look_square" pP:=h27.mz (ps:=["table"]) X G (λ_ _ _ _ _ _=>Hy.bd1 λ_=>rfl) λ_ F=>ia (k:=0) F hb Z (by decide)
 have c_in_lowest_terms:Cal l.prog w K mg base 2 "in_lowest_terms" b5:=h28.cal (ps:=["top","bottom"]) X G (λ_ _ _ _ _ _=>Hy.bd2 λ_ _=>rfl) λ_ F=>fg (k:=1) F hb c_common_divisor
 have c_fraction:Cal l.prog w K mg base 3 "fraction" fh:=h29.cal (ps:=["top","bottom"]) X G (λ_ _ _ _ _ _ _ _=>Hy.bd2 λ_ _=>⟨_,rfl,rfl⟩) λ_ F=>lB (k:=2) F hb c_in_lowest_terms (c_is_whole.mono (by decide))
 have c_scale_of:Cal l.prog w K mg base 2 "scale_of" e7:=h30.cal (ps:=["row"]) X G (λ_ _ _ _ _ _=>Hy.bd1 λ_=>rfl) λ_ F=>lb (k:=1) F hb c_common_divisor
 have c_pivot_place:Cal l.prog w K mg base 1 "pivot_place" cP:=h31.cal (ps:=["grid","k"]) X G (λ_ _ _ _ _ _=>Hy.bd2 λ_ _=>rfl) λ_ F=>iQ (k:=0) F hb
 have c_cleared:Cal l.prog w K mg base 1 "cleared" gj:=h32.cal (ps:=["row","pivot_row","k","last"]) X G (λ_ _ _ _ _ _=>Hy.bd4 λ_ _ _ _=>rfl) λ_ F=>mT (k:=0) F hb
 have c_whole_determinant:Cal l.prog w K mg base 2 "whole_determinant" bK:=h33.cal (ps:=["rows"]) X G (λ_ _ _ _ _ _=>Hy.bd1 λ_=>rfl) λ_ F=>dY (k:=1) F hb c_pivot_place c_cleared
 have c_product_of_all:Cal l.prog w K mg base 1 "product_of_all" b8:=h34.cal (ps:=["numbers"]) X G (λ_ _ _ _ _ _=>Hy.bd1 λ_=>rfl) λ_ F=>fO (k:=0) F hb
 have c_whole_row:Cal l.prog w K mg base 1 "whole_row" eI:=h35.cal (ps:=["row","scale"]) X G (λ_ _ _ _ _ _=>Hy.bd2 λ_ _=>rfl) λ_ F=>j7 (k:=0) F hb
 have c_whole_rows:Cal l.prog w K mg base 2 "whole_rows" du:=h36.cal (ps:=["table","scales"]) X G (λ_ _ _ _ _ _=>Hy.bd2 λ_ _=>rfl) λ_ F=>jr (k:=1) F hb c_whole_row
 have c_square_determinant:Cal l.prog w K mg base 4 "square_determinant" bB:=h37.cal (ps:=["table"]) X G (λ_ _ _ _ _ _=>Hy.bd1 λ_=>rfl) λ_ F=>dW (k:=3) F hb (c_look_square.mono (by decide)) c_fraction (c_scale_of.mono (by decide)) (c_whole_determinant.mono (by decide)) (c_product_of_all.mono (by decide)) (c_whole_rows.mono (by decide))
 have x_square_determinant:cH l.prog w K mg base (λc=>([C0,C1,C2,C3,C4,C5,C6,C7,C8,C9,C10,C11,C12,C13,C14,C15,C16,C17,C18]:List Addr).getD c 0) 2 "square_determinant" pP:=h37.mz (ps:=["table"]) X G (λ_ _ _ _ _ _=>Hy.bd1 λ_=>rfl) λ_ F=>dQ (k:=1) F hb  (x_look_square.mono (by decide))
 have c_minor:Cal l.prog w K mg base 6 "minor" j4:=h38.cal (ps:=["table","rows","columns"]) X G (λ_ _ _ _ _ _=>Hy.bd3 λ_ _ _=>rfl) λ_ F=>qG (k:=5) F hb c_look_table (c_look_choices.mono (by decide)) (c_square_determinant.mono (by decide)) (c_chosen.mono (by decide))
 have x_minor:cH l.prog w K mg base (λc=>([C0,C1,C2,C3,C4,C5,C6,C7,C8,C9,C10,C11,C12,C13,C14,C15,C16,C17,C18]:List Addr).getD c 0) 6 "minor" vm:=h38.mz (ps:=["table","rows","columns"]) X G (λ_ _ _ _ _ _=>Hy.bd3 λ_ _ _=>rfl) λ_ F=>rS (k:=5) F hb  (c_look_table.mono (by decide)) (x_look_table.mono (by decide)) (c_look_choices.mono (by decide)) (x_look_choices.mono (by decide)) (c_chosen.mono (by decide)) (x_square_determinant.mono (by decide))
 have c_l_answer:Cal l.prog w K mg base 7 "_law_answer" fq:=h39.cal (ps:=["_law_what","_law_table_here","_law_rows","_law_columns"]) X G (λ_ _ _ _ _ _=>Hy.bd4 λ_ _ _ _=>rfl) λ_ F=>k9 (k:=6) F hb Z (by decide) (by decide) (by decide) mw kw (λc hc=>(Ww c hc).mono (by decide)) (c_part_of.mono (by decide)) (c_turned.mono (by decide)) (c_minor.mono (by decide)) (x_part_of.mono (by decide)) (x_turned.mono (by decide)) (x_minor.mono (by decide))
 have c_l_whole:Cal l.prog w K mg base 1 "_law_whole" gq:=h40.cal (ps:=["_law_thing"]) X G (λ_ _ _ _ _ _=>Hy.bd1 λ_=>rfl) λ_ F=>l6 (k:=0) F hb
 have c_l_good:Cal l.prog w K mg base 2 "_law_good" fG:=h41.cal (ps:=["_law_thing","_law_many"]) X G (λ_ _ _ _ _ _=>Hy.bd2 λ_ _=>rfl) λ_ F=>oZ (k:=1) F hb c_l_whole
 have c_l_due:Cal l.prog w K mg base 3 "_law_due" jY:=h42.cal (ps:=["_law_what","_law_table_here","_law_rows","_law_columns","_law_none"]) X G (λ_ _ _ _ _ _=>Hy.bd5 λ_ _ _ _ _=>rfl) λ_ F=>qJ (k:=2) F hb c_l_good
 exact uM (k:=7) (ng l0 c r) hb (c_l_cell.mono (by decide)) (c_l_size.mono (by decide)) (c_l_table.mono (by decide)) (c_l_numbers.mono (by decide)) (c_l_choice.mono (by decide)) (c_l_rest.mono (by decide)) (c_is_choice2.mono (by decide)) (c_l_any.mono (by decide)) (c_l_answer.mono (by decide)) (c_l_due.mono (by decide)) (c_l_good.mono (by decide))
theorem walk {l:PySem.W.OpenLaw} {q:Program} {loose:List Str} {XP:(Str->Option Value)->Heap->Prop} {YP:World->Heap->Prop} {d:DefRec} {K:Params->PySem.W.Frag} (hn:l.most=some 63) (hdf:d.params.defaults=[])
   (hY:∀ (w:World) (h:Heap),YP w h->(K w.params).In h)
   (F:∀ (w:World) (mg:Str->Option Value) (fa:Addr) (h:Heap),(K w.params).In h->h.Ns mainGlobals mg->mg d.name=some (.ref fa) ->
     ∃ fd:FuncData,(∀ (s:Shared) (u:Value),BindsTo s fd ⟨[u],[]⟩ [("_law_script",u)])/\∀ base:Heap,(K w.params).In base->base.Ns mainGlobals mg->aJ l.prog w (K w.params) mg base CX0 8 fa fd ["_law_script"] (spD (K w.params) om)) :
   PySem.W.WalkO q loose XP YP l.row.toRowW d [] (λf vs=>PySem.call f vs):=
 L2.t5 (n:=63) (k:=8) (x:="_law_script") (CX:=λ_=>CX0) (sp:=λw=>spD (K w.params) om) hn (by decide) hdf ⟨rfl,by decide,by decide⟩ hY F
   (λw H a ns hl _ hS=>sC (λns h=>⟨ns,h,rfl,rfl⟩) H a ns hl hS) λ_ _ _ _ _ z=>z
end K07
open PySem PySem.W PyProof.Rows
namespace PySem.W.Fast
theorem tw13566372427003032612:True:=⟨⟩
theorem tw2744220121405708104:True:=⟨⟩
theorem tw3048615101418730568:True:=⟨⟩
theorem tw10359895742003773705:True:=⟨⟩
theorem tw488188812253850375:True:=⟨⟩
theorem tw10339245381908312646:True:=⟨⟩
theorem tw12224040151547216231:True:=⟨⟩
theorem tw17853384749834988600:True:=⟨⟩
theorem tw8007268057775889189:True:=⟨⟩
theorem tw12755322380156440527:True:=⟨⟩
theorem tw17968244746514159580:True:=⟨⟩
theorem tw10039055299684665060:True:=⟨⟩
theorem tw15772370546420514538:True:=⟨⟩
theorem tw5988472942404269872:True:=⟨⟩
theorem tw1357666094336561180:True:=⟨⟩
theorem tw14655749145638576854:True:=⟨⟩
theorem tw727230061926232503:True:=⟨⟩
theorem tw15020536552285320705:True:=⟨⟩
theorem tw11899877541141441805:True:=⟨⟩
theorem tw15820055711945912802:True:=⟨⟩
theorem tw1346320354737800999:True:=⟨⟩
theorem tw2292430168585597419:True:=⟨⟩
theorem tw10962986473380281804:True:=⟨⟩
theorem tw7064586958254751692:True:=⟨⟩
theorem tw11051562863094903021:True:=⟨⟩
theorem tw14325304108253801609:True:=⟨⟩
theorem tw11378001195699869166:True:=⟨⟩
theorem tw861767036419389265:True:=⟨⟩
theorem tw16311262840060842719:True:=⟨⟩
theorem tw10664366273641939583:True:=⟨⟩
theorem tw14937361467994762816:True:=⟨⟩
theorem tw11330677335843478157:True:=⟨⟩
theorem tw5585648189692354477:True:=⟨⟩
theorem tw5421121425981605866:True:=⟨⟩
theorem tw12645408489108093167:True:=⟨⟩
theorem tw5020457154846889682:True:=⟨⟩
theorem tw1286661235536306939:True:=⟨⟩
theorem tw1841322987775566570:True:=⟨⟩
theorem tw15508312504408546591:True:=⟨⟩
theorem tw6027630722179926386:True:=⟨⟩
theorem tw2272009363961993410:True:=⟨⟩
theorem tw3052009323390387477:True:=⟨⟩
theorem tw1009497008743861949:True:=⟨⟩
theorem tw17263205311032855938:True:=⟨⟩
theorem tw7058032904362426516:True:=⟨⟩
theorem tw4762332097121404676:True:=⟨⟩
theorem tw16581306632829956745:True:=⟨⟩
theorem tw4026586700226775925:True:=⟨⟩
theorem tw12352214324862492797:True:=⟨⟩
theorem tw11179625625838472251:True:=⟨⟩
theorem tw1939074174783166188:True:=⟨⟩
theorem tw10060136128253616637:True:=⟨⟩
theorem tw7993900426905094853:True:=⟨⟩
theorem tw14236780407283595077:True:=⟨⟩
theorem tw6888255332968000111:True:=⟨⟩
theorem tw11984272725478192649:True:=⟨⟩
theorem tw11102406148516184911:True:=⟨⟩
theorem tw365042512660551312:True:=⟨⟩
theorem tw5281315502442037248:True:=⟨⟩
theorem tw2143821066594374963:True:=⟨⟩
theorem tw7393420782820342813:True:=⟨⟩
theorem tw2282798505379709239:True:=⟨⟩
theorem tw4083190398245530412:True:=⟨⟩
theorem tw4558520564169456269:True:=⟨⟩
theorem tw16139317686148163261:True:=⟨⟩
theorem tw16015851877701319141:True:=⟨⟩
theorem tw2607481673184834646:True:=⟨⟩
theorem tw18445512887075798939:True:=⟨⟩
theorem tw10148528734786166402:True:=⟨⟩
theorem tw15617792725282741414:True:=⟨⟩
theorem tw14519454428021040619:True:=⟨⟩
theorem tw6338954369505667203:True:=⟨⟩
theorem tw9988192781350937802:True:=⟨⟩
theorem tw2117578728447494826:True:=⟨⟩
theorem tw12981083610861269792:True:=⟨⟩
theorem tw8137009384124252171:True:=⟨⟩
theorem tw10667999298648177848:True:=⟨⟩
end PySem.W.Fast
set_option maxRecDepth 100000 in
set_option maxHeartbeats 0 in
theorem PySem.Challenge.cw_signsmooth_k07_choices_refused_holds : PySem.Challenge.rw_signsmooth_k07_choices_refused.Holds := by
 w_on; o_law; k_head; (case hw=>w_witness2)
 k_fill
 refine K07.walk (l:=PySem.Challenge.rw_signsmooth_k07_choices_refused) rfl rfl (λw h Y=>PySem.W.kIn_of Y) ?F
 case F=>
   intro w mg fa h KX G hmg
   refine' K07.all_mk KX G hmg (.of ?_ ?_ ?_ ?_) (.of ?_ ?_ ?_ ?_) (.of ?_ ?_ ?_ ?_) (.of ?_ ?_ ?_ ?_) (.of ?_ ?_ ?_ ?_) (.of ?_ ?_ ?_ ?_) (.of ?_ ?_ ?_ ?_) (.of ?_ ?_ ?_ ?_) (.of ?_ ?_ ?_ ?_) (.of ?_ ?_ ?_ ?_) (.of ?_ ?_ ?_ ?_) (.of ?_ ?_ ?_ ?_) (.of ?_ ?_ ?_ ?_) (.of ?_ ?_ ?_ ?_) (.of ?_ ?_ ?_ ?_) (.of ?_ ?_ ?_ ?_) (.of ?_ ?_ ?_ ?_) (.of ?_ ?_ ?_ ?_) (.of ?_ ?_ ?_ ?_) (.of ?_ ?_ ?_ ?_) (.of ?_ ?_ ?_ ?_) (.of ?_ ?_ ?_ ?_) (.of ?_ ?_ ?_ ?_) (.of ?_ ?_ ?_ ?_) (.of ?_ ?_ ?_ ?_) (.of ?_ ?_ ?_ ?_) (.of ?_ ?_ ?_ ?_) (.of ?_ ?_ ?_ ?_) (.of ?_ ?_ ?_ ?_) (.of ?_ ?_ ?_ ?_ ?_) (.of ?_ ?_ ?_ ?_) (.of ?_ ?_ ?_ ?_) (.of ?_ ?_ ?_ ?_) (.of ?_ ?_ ?_ ?_) (.of ?_ ?_ ?_ ?_) (.of ?_ ?_ ?_ ?_) (.of ?_ ?_ ?_ ?_) (.of ?_ ?_ ?_ ?_) (.of ?_ ?_ ?_ ?_) (.of ?_ ?_ ?_ ?_) (.of ?_ ?_ ?_ ?_) (.of ?_ ?_ ?_ ?_) (.of ?_ ?_ ?_ ?_) (.of ?_ ?_ ?_ ?_) ⟨?_,?_,?_,?_,?_,?_,?_,?_,?_,?_,?_,?_,?_,?_,?_,?_,?_,?_,trivial⟩ ?_ ?_ ?_ ?_ ?_ ?_ ?_ ?_ ?_ ?_ ?_ ?_ ?_ ?_ ?_ ?_ ?_ ?_ ?_ ?_ ?_ ?_ ?_ ?_ ?_ ?_ ?_ ?_ ?_ ?_ ?_ ?_ ?_ ?_ ?_ ?_ ?_ ?_ ?_ ?_ ?_ ?_ ?_ ?_ ?_ ?_ ?_ ?_ ?_ ?_ ?_ ?_ ?_ ?_ ?_ ?_ ?_ ?_ ?_ ?_ ?_ ?_ ?_ ?_ ?_ ?_ ?_ ?_ ?_ ?_ ?_ ?_ ?_ ?_ ?_ ?_ ?_ ?_ ?_ ?_ ?_ ?_ ?_ ?_ ?_ ?_ ?_ ?_ ?_ ?_ ?_ ?_ ?_ ?_ ?_ ?_ ?_ ?_ ?_ ?_ ?_ ?_ ?_ ?_ ?_ ?_ ?_ ?_ ?_ ?_ ?_ ?_ ?_ ?_ ?_ ?_ ?_ ?_ ?_ ?_ ?_ ?_ ?_ ?_ ?_ ?_ ?_ ?_ ?_ ?_ ?_ ?_ ?_ ?_ ?_ ?_ ?_ ?_ ?_ ?_ ?_ ?_ ?_ ?_ ?_ ?_ ?_ ?_ ?_ ?_ ?_ ?_ ?_ ?_ ?_ ?_ ?_ ?_ ?_ ?_ ?_ ?_ ?_ ?_ ?_ ?_ ?_ ?_ ?_ ?_ ?_ ?_ ?_ ?_ ?_ ?_ ?_ ?_ ?_ ?_ ?_ ?_ ?_ ?_ ?_ ?_ ?_ ?_ ?_
   all_goals try k_is
   all_goals first | rfl | decide
#print axioms PySem.Challenge.cw_signsmooth_k07_choices_refused_holds
