import PyProof.Rows.All
import Wide.All
import OpenK.AllK
import Wide.FinOn
import Lean
import PyProof.EqAt
import PyProof.EqKinds
import PyProof.TupleCall
import PyProof.DictKeyH
import PyProof.DictFindH
import PyProof.StrCalls2
import PyProof.StrCalls3
import PyProof.StrCalls
import PyProof.StrWalks
import PyProof.FString
import KE.KIntText
import PyProof.FitsReplace
import PyProof.StrLawsTight
import PyProof.StrLawsOcc
import PyProof.StrBlockI
import PyProof.SliceStr2
import PyProof.StrLawsChain
import PyProof.StrLaws
import PyProof.Rows.StrJoinMade
import PyProof.StrLawsIdx
import PyProof.StrLawsJoin
import PyProof.Rows.SortStr
import KE.KDictSum
import PySem.Challenge.RW_signsmooth_k66_cut
set_option genSizeOf false
set_option bootstrap.genMatcherCode false
set_option Elab.async false
set_option linter.all false
set_option maxRecDepth 100000
set_option exponentiation.threshold 4000
namespace Hx
open PySem PySem.Spec PyProof.Rows
theorem jw:entryFor table "proto.unchain" = some Builtin.«proto.unchain»:=entryFor_of_tree (by kernel_rfl)
section
variable {prog:Program} {w:World} {A:Around} {E:Value->Shared->Prop} {s:Shared}
theorem l6 {α:Type} {a h:Addr} {oa oh:Obj} {us vs:Array Value} {Q:α->Shared->Prop} (hh:A.handled=some (.ref h)) (hne:h ≠ a) (ha:s.heap.get? a=some oa) (hda:oa.data=.fields us) (hsz:2 < us.size)
   (ho:s.heap.get? h=some oh) (hd:oh.data=.fields vs) (h2:vs[2]?=some .none)
   (q:E (.ref a) { s with heap:=s.heap.update a (Obj.mapFields (·.setIfInBounds 2 (.ref h))) }):wpAny (model prog w) A (raiseNew (.ref a):Sem α) Q E s:=by
 unfold raiseNew; refine wpAny_bind (wpAny_handled ?_); rw [hh]
 dsimp only
 rw [if_pos (show (Value.ref h != Value.ref a)=true by simp [hne])]
 refine wpAny_bind (wpAny_holding (wpAny_runValue (codeAny_builtin jw ?_)))
 unfold Builtin.«proto.unchain»
 dsimp only
 refine wpAny_bind (wpAny_field ho hd h2 ?_)
 rw [if_pos (show (Value.none == Value.none)=true by decide)]
 refine wpAny_pure ?_
 show wpAny _ A (do let _ <- updateField a 2 (.ref h); throw (Value.ref a)) _ _ _
 unfold updateField
 refine wpAny_bind (wpAny_bind (wpAny_load ha ?_))
 rw [hda]
 dsimp only
 rw [if_pos hsz]
 exact wpAny_update ha (wpAny_throw q)
theorem m7 {r h:Addr} {v left step:Int} {oh:Obj} {vs:Array Value} {Q:Option Value->Shared->Prop} (hh:A.handled=some (.ref h)) (ho:s.heap.get? h=some oh) (hd:oh.data=.fields vs) (h2:vs[2]?=some .none)
   (hr:IsRangeIter s.heap r v left step) (hl:left<=0) (k:∀ h',Heap.ExtBut r s.heap h'->Q none { s with heap:=h' }):wpAny (model prog w) A (pyNext (.ref r)) Q E s:=by
 have ty:s.TypeIs (.ref r) "range_iterator":=⟨_,hr,rfl⟩
 have hlt:=Heap.lt_size ho
 have fl:∀ {α:Type} {B:Around} {F:Value->Shared->Prop} {R:α->Shared->Prop} (i:Nat) (y:Int) {f:Value->Sem α},(#[rawInt v,rawInt left,rawInt step]:Array Value)[i]?=some (rawInt y)->wpAny (model prog w) B (f (rawInt y)) R F s->wpAny (model prog w) B (field (.ref r) i >>= f) R F s:=by
   intro α B F R i y f e q
   exact wpAny_bind (wpAny_field hr rfl e q)
 unfold pyNext
 refine wpAny_bind (wpAny_attempt (wpAny_callSpecial?_slot (name:=Str.ofString "__next__") ty F.slot_range_iterator_next (wpAny_call_entry F.slot_range_iterator_next ty F.entry_range_iterator_next (fl 0 v rfl (fl 1 left rfl (fl 2 step rfl ?_))) (F.args_range_iterator_next_1 _))))
 show wpAny (model prog w) A.in1 (if left<=0 then _ else _) _ _ s
 rw [if_pos hl]
 refine wpAny_bind (wpAny_rule (wpAny_bind ?_))
 show wpAny _ _ (do let e <- newExc (.type "StopIteration") []; _) _ _ _
 refine wpAny_bind ?_
 simp only [newExc,newTuple]
 refine wpAny_bind (wpAny_newObj_type (wpAny_bind (m:=firstArgMember _ _) (wpAny_of_eq (a:=.none) (by first | rfl | (simp only [firstArgMember]; rfl)) (wpAny_newObj_type ?_ (by size_fits)))) (by size_fits))
 have hg:((s.heap.push { cls:=.type "tuple",data:=.seq ([]:List Value).toArray }).push { cls:=.type "StopIteration",data:=.fields (#[Value.ref s.heap.objs.size,.none,.none,.none,.bool false,.none]++ownMembersOf (.type "StopIteration") []) }).get? (s.heap.push { cls:=.type "tuple",data:=.seq ([]:List Value).toArray }).objs.size
     = some { cls:=.type "StopIteration",data:=.fields (#[Value.ref s.heap.objs.size,.none,.none,.none,.bool false,.none]++ownMembersOf (.type "StopIteration") []) }:=Heap.get?_push_size _ rfl
 refine l6 (h:=h) (A:=A.in1) hh ?_ hg rfl (by rw [Array.size_append]; exact Nat.lt_of_lt_of_le (by decide:2 < 6) (Nat.le_add_right _ _)) (Heap.get?_push_of_some _ (Heap.get?_push_of_some _ ho)) hd h2 ?_
 · intro z
   rw [Heap.size_push] at z
   exact absurd hlt (by rw [z]; exact Nat.not_lt.mpr (Nat.le_succ _))
 have hu:=Heap.get?_update_self (Obj.mapFields (·.setIfInBounds 2 (.ref h))) hg rfl
 refine wpAny_bind (wpAny_isInstance (T:="StopIteration") (b:=true) ⟨_,hu,rfl⟩ isSubtype_stop ?_)
 refine wpAny_pure (k _ λb o hb e=>?_)
 have bl:=Heap.lt_size e
 rw [Heap.get?_update_other _ _ (by intro z; rw [Heap.size_push] at z; exact absurd bl (by rw [<- z]; exact Nat.not_lt.mpr (Nat.le_succ _)))]
 exact Heap.get?_push_of_some _ (Heap.get?_push_of_some _ e)
end
end Hx
set_option linter.all false
set_option maxRecDepth 100000
namespace L2
open PySem PySem.Spec PyProof.Rows
noncomputable abbrev Key:=Sum Int Str
noncomputable def jW:Key->Value->Bool
 | .inl k,v=>Value.isInt k v
 | .inr x,v=>Value.isStrOf x v
noncomputable def Ah (w:World):Key->Int
 | .inl k=>hashInt k
 | .inr x=>hashStr w x
theorem a7:∀ {k:Key} {v:Value},jW k v=true->(∃ i t,k=Sum.inl i/\v=Value.int i t)\/(∃ x t,k=Sum.inr x/\v=Value.str x t)
 | .inl i,v,h=>by
   obtain ⟨t,e⟩:=Value.isInt_shape (k:=i) (v:=v) h
   exact .inl ⟨i,t,rfl,e⟩
 | .inr x,v,h=>by
   obtain ⟨t,e⟩:=Value.isStrOf_shape (x:=x) (v:=v) h
   exact .inr ⟨x,t,rfl,e⟩
theorem qi (i:Int) (t:Tok):jW (.inl i) (.int i t)=true:=by simp [jW,Value.isInt]
theorem qg (x:Str) (t:Tok):jW (.inr x) (.str x t)=true:=by simp [jW,Value.isStrOf]
theorem wI (a b:Int):decide ((Sum.inl a:Key)=Sum.inl b)=(a == b):=by
 by_cases e:a=b
 · subst e; simp
 · have h:¬ (Sum.inl a:Key)=Sum.inl b:=λq=>e (Sum.inl.inj q)
   rw [decide_eq_false h]
   exact (beq_eq_false_iff_ne.mpr e).symm
theorem yg (a b:Str):decide ((Sum.inr a:Key)=Sum.inr b)=decide (a=b):=by
 by_cases e:a=b
 · subst e; simp
 · have h:¬ (Sum.inr a:Key)=Sum.inr b:=λq=>e (Sum.inr.inj q)
   rw [decide_eq_false h,decide_eq_false e]
theorem yh (a:Int) (b:Str):decide ((Sum.inl a:Key)=Sum.inr b)=false:=decide_eq_false (λq=>nomatch q)
theorem wR (a:Str) (b:Int):decide ((Sum.inr a:Key)=Sum.inl b)=false:=decide_eq_false (λq=>nomatch q)
noncomputable def bH (prog:Program) (w:World):PySem.KeyKind prog w Key where
 is:=jW
 hash:=Ah w
 inj:=λv a b ha hb=>by
   rcases a7 ha with ⟨i,t,rfl,rfl⟩ | ⟨x,t,rfl,rfl⟩
   · rcases a7 hb with ⟨j,u,rfl,e⟩ | ⟨y,u,rfl,e⟩
     · injection e with e1 _; rw [e1]
     · exact nomatch e
   · rcases a7 hb with ⟨j,u,rfl,e⟩ | ⟨y,u,rfl,e⟩
     · exact nomatch e
     · injection e with e1 _; rw [e1]
 byValue:=λk v h=>by
   rcases a7 h with ⟨i,t,rfl,rfl⟩ | ⟨x,t,rfl,rfl⟩ <;> rfl
 pyHash:=λhv h=>by
   rcases a7 hv with ⟨i,t,rfl,rfl⟩ | ⟨x,t,rfl,rfl⟩
   · exact wpAny_pyHash_int h
   · exact wpAny_pyHash_str h
 eqBool:=λhu hv h=>by
   rcases a7 hu with ⟨i,t,rfl,rfl⟩ | ⟨x,t,rfl,rfl⟩
   · rcases a7 hv with ⟨j,u,rfl,rfl⟩ | ⟨y,u,rfl,rfl⟩
     · rw [wI] at h; exact wpAny_eqBool_int h
     · rw [yh] at h; exact SeqAt.EqAt.int_str i t y u _ _ _ _ h
   · rcases a7 hv with ⟨j,u,rfl,rfl⟩ | ⟨y,u,rfl,rfl⟩
     · rw [wR] at h; exact SeqAt.EqAt.str_int x t j u _ _ _ _ h
     · rw [yg] at h; exact wpAny_eqBool_str h
 «strs»:=λk x t v h=>by
   rcases a7 h with ⟨i,u,rfl,e⟩ | ⟨y,u,rfl,e⟩
   · exact nomatch e
   · injection e with e1 _
     subst e1
     cases v <;> rfl
theorem mB (prog:Program) (w:World) (i:Int) (t:Tok):(bH prog w).is (.inl i) (.int i t)=true:=qi i t
theorem mE (prog:Program) (w:World) (x:Str) (t:Tok):(bH prog w).is (.inr x) (.str x t)=true:=qg x t
inductive V where
 | non | bl (b:Bool) | int (i:Int) | str (x:Str) | byt (b:Array UInt8) | flt (b:UInt64) | ref (a:Addr) | ty (n:String)
 deriving DecidableEq
noncomputable def RelV:V->Value->Prop
 | .non,u=>u=Value.none
 | .bl b,u=>u=Value.bool b
 | .int i,u=>∃ t,u=Value.int i t
 | .str x,u=>∃ t,u=Value.str x t
 | .byt b,u=>∃ t,u=Value.bytes b t
 | .flt b,u=>∃ t,u=Value.float b t
 | .ref a,u=>u=Value.ref a
 | .ty n,u=>u=Value.type n
noncomputable abbrev Vals:List V->List Value->Prop:=Paired RelV
theorem Vals.length {xs:List V} {us:List Value} (r:Vals xs us):xs.length=us.length:=Paired.length r
theorem Vals.get:∀ {xs:List V} {us:List Value} {i:Nat} {x:V},Vals xs us->xs[i]?=some x->∃ u,us[i]?=some u/\RelV x u
 | _,_,_,_,.nil,e=>by simp at e
 | _,_,0,_,.cons r _,e=>by simp at e; subst e; exact ⟨_,rfl,r⟩
 | _,_,i + 1,x,.cons _ t,e=>by
   obtain ⟨u,h1,h2⟩:=Vals.get (i:=i) (x:=x) t (by simpa using e)
   exact ⟨u,by simpa using h1,h2⟩
theorem Vals.set {x:V} {u:Value} (r:RelV x u):∀ {xs:List V} {us:List Value} (i:Nat),Vals xs us->Vals (xs.set i x) (us.set i u)
 | _,_,_,.nil=>.nil
 | _,_,0,.cons _ t=>.cons r t
 | _,_,i + 1,.cons q t=>.cons q (Vals.set r i t)
theorem Vals.append:∀ {xs ys:List V} {us ws:List Value},Vals xs us->Vals ys ws->Vals (xs++ys) (us++ws)
 | _,_,_,_,.nil,s=>s
 | _,_,_,_,.cons r t,s=>.cons r (Vals.append t s)
theorem Vals.take:∀ {xs:List V} {us:List Value} (n:Nat),Vals xs us->Vals (xs.take n) (us.take n)
 | _,_,0,_=>.nil
 | _,_,_ + 1,.nil=>.nil
 | _,_,n + 1,.cons r t=>.cons r (Vals.take n t)
theorem Vals.drop:∀ {xs:List V} {us:List Value} (n:Nat),Vals xs us->Vals (xs.drop n) (us.drop n)
 | _,_,0,r=>r
 | _,_,_ + 1,.nil=>.nil
 | _,_,n + 1,.cons _ t=>Vals.drop n t
noncomputable def fg:Option V->Option Value->Prop
 | some v,some u=>RelV v u
 | none,none=>True
 | _,_=>False
noncomputable def KV {κ:Type}:List (κ × V)->List (κ × Value)->Prop:=Paired λ(p:κ × V) (q:κ × Value)=>p.1=q.1/\RelV p.2 q.2
noncomputable def kV:Key->V
 | .inl i=>.int i
 | .inr x=>.str x
inductive HO where
 | lst (xs:List V)
 | tup (xs:List V)
 | dK (kvs:List (Key × V)) | dT (kvs:List (List Key × V))
 | set (S:Int->Bool) (n:Nat)
 | ins (C dx:Addr) (fs:List (Str × V))
 | own (x:Addr)
 | xd (fs:List (Str × V))
 | met (f x:Addr)
 | rng (lo hi:Int)
 | frz (o:Obj) (u:HO)
 | tbl (ps:Array Value)
 | ext (φ:Heap->Prop)
noncomputable abbrev Hp:=Addr->Option HO
noncomputable def upd (H:Hp) (a:Addr) (o:HO):Hp:=λb=>if b=a then some o else H b
theorem aA {H:Hp} {a:Addr} {o:HO}:upd H a o a=some o:=by unfold upd; rw [if_pos rfl]
theorem aq {H:Hp} {a b:Addr} {o:HO} (h:b ≠ a):upd H a o b=H b:=by unfold upd; rw [if_neg h]
theorem aL {H:Hp} {a b:Addr} {o:HO} (h:H a=some o) (h':H b=none):a ≠ b:=by
 intro e; subst e; rw [h] at h'; cases h'
section
variable (P:Program) (w:World)
noncomputable def bG (H:Hp) (h:Heap) (a:Addr):HO->Prop
 | .lst xs=>xs.length<=sizeLine/\∃ (its:List Value) (n:Nat),Vals xs its/\h.get? a=some { cls:=.type "list",data:=.seq its.toArray n }
 | .tup xs=>xs.length<=sizeLine/\∃ its:List Value,Vals xs its/\IsTup h a its.toArray
 | .dK kvs=>kvs.length<=sizeLine/\(a == sysModules)=false/\∃ vs,KV kvs vs/\h.DictOf (bH P w) a vs
 | .dT kvs=>kvs.length<=sizeLine/\(a == sysModules)=false/\∃ xs:List (List Key × Addr × Value),
     Paired (λ(p:List Key × V) (q:List Key × Addr × Value)=>p.1=q.1/\H q.2.1=some (.tup (p.1.map kV))/\RelV p.2 q.2.2) kvs xs /\
     ∃ o es ep,h.get? a=some o/\o.ExactDict/\o.data=.dict es ep/\es.toList=xs.map (entryOfKey (tupleKind (bH P w)))/\(xs.map (·.1)).Nodup
 | .set S n=>h.SetOf (intKind P w) a S n
 | .ins C dx fs=>H dx=some (.own a)/\fs.length<=1000/\dx ≠ a/\h.get? a=some (PySem.W.instObj C dx) /\
     ∃ mA,h.Ns1 dx mA/\(∀ f,fg (fs.lookup f) (mA f))/\PySem.Within mA (fs.map (·.1))
 | .own _=>∃ o,h.get? a=some o
 | .xd fs=>∃ mA,h.Ns1 a mA/\∀ f,fg (fs.lookup f) (mA f)
 | .rng lo hi=>∃ t u v,h.get? a=some { cls:=.type "range",data:=.fields #[.int lo t,.int hi u,.int 1 v] }
 | .frz o u=>h.get? a=some o/\bG H h a u
 | .tbl ps=>h.get? a=some { cls:=.none,data:=.fields ps }
 | .met f x=>h.get? a=some (PySem.W.methodObj (.ref f) (.ref x))
 | .ext φ=>φ h/\(∃ o,h.get? a=some o)/\∀ h1 h2:Heap,φ h1->(∀ o,h1.get? a=some o->h2.get? a=some o)->φ h2
noncomputable def HOk (H:Hp) (h:Heap):Prop:=∀ a o,H a=some o->bG P w H h a o
end
section
variable {P:Program} {w:World} {H H':Hp} {h h':Heap} {a:Addr} {o:HO}
theorem bG.lt (x:bG P w H h a o):a < h.objs.size:=by
 cases o with
 | lst xs=>obtain ⟨_,_,_,_,e⟩:=x; exact Heap.lt_size e
 | tup xs=>obtain ⟨_,_,_,p⟩:=x; exact p.lt
 | dK kvs=>obtain ⟨_,_,_,_,o,_,_,e,_⟩:=x; exact Heap.lt_size e
 | dT kvs=>obtain ⟨_,_,_,_,o,_,_,e,_⟩:=x; exact Heap.lt_size e
 | set S n=>obtain ⟨o,_,_,_,e,_⟩:=x; exact Heap.lt_size e
 | ins C dx fs=>obtain ⟨_,_,_,e,_⟩:=x; exact Heap.lt_size e
 | own y=>obtain ⟨_,e⟩:=x; exact Heap.lt_size e
 | xd fs=>obtain ⟨_,⟨_,_,_,e,_⟩,_⟩:=x; exact Heap.lt_size e
 | rng lo hi=>obtain ⟨_,_,_,e⟩:=x; exact Heap.lt_size e
 | frz ob u=>obtain ⟨e,_⟩:=x; exact Heap.lt_size e
 | tbl ps=>exact Heap.lt_size (show h.get? a=some _ from x)
 | met f y=>exact Heap.lt_size (show h.get? a=some _ from x)
 | ext φ=>obtain ⟨_,⟨_,e⟩,_⟩:=x; exact Heap.lt_size e
theorem Paired.wX {α β:Type} {F G:α->β->Prop}:∀ {l₁:List α} {l₂:List β},Paired F l₁ l₂->(∀ a b,F a b->G a b)->Paired G l₁ l₂
 | _,_,.nil,_=>.nil
 | _,_,.cons r t,f=>.cons (f _ _ r) (Paired.wX t f)
theorem bG.i6 (x:bG P w H h a o) (k:∀ b u,(b=a\/H b=some (.own a))->h.get? b=some u->h'.get? b=some u)
   (ho:∀ b,H b=some (.own a)->H' b=some (.own a)) (ht:∀ b xs,H b=some (.tup xs)->H' b=some (.tup xs)):bG P w H' h' a o:=by
 induction o with
 | lst xs=>obtain ⟨z,its,n,r,e⟩:=x; exact ⟨z,its,n,r,k _ _ (.inl rfl) e⟩
 | tup xs=>obtain ⟨z,its,r,ob,e,c⟩:=x; exact ⟨z,its,r,ob,k _ _ (.inl rfl) e,c⟩
 | dK kvs=>obtain ⟨z,y,vs,r,ob,es,ep,e,c⟩:=x; exact ⟨z,y,vs,r,ob,es,ep,k _ _ (.inl rfl) e,c⟩
 | dT kvs=>
   obtain ⟨z,y,xs,r,ob,es,ep,e,c⟩:=x
   exact ⟨z,y,xs,Paired.wX r λp q z=>⟨z.1,ht _ _ z.2.1,z.2.2⟩,ob,es,ep,k _ _ (.inl rfl) e,c⟩
 | set S n=>obtain ⟨ob,es,ep,t,e,c⟩:=x; exact ⟨ob,es,ep,t,k _ _ (.inl rfl) e,c⟩
 | ins C dx fs=>
   obtain ⟨d,z,ne,e,mA,⟨od,es,ep,e2,c⟩,r⟩:=x
   exact ⟨ho _ d,z,ne,k _ _ (.inl rfl) e,mA,⟨od,es,ep,k _ _ (.inr d) e2,c⟩,r⟩
 | own y=>obtain ⟨ob,e⟩:=x; exact ⟨ob,k _ _ (.inl rfl) e⟩
 | xd fs=>obtain ⟨mA,⟨od,es,ep,e,c⟩,r⟩:=x; exact ⟨mA,⟨od,es,ep,k _ _ (.inl rfl) e,c⟩,r⟩
 | rng lo hi=>obtain ⟨t,u,v,e⟩:=x; exact ⟨t,u,v,k _ _ (.inl rfl) e⟩
 | frz ob u ih=>obtain ⟨e,q⟩:=x; exact ⟨k _ _ (.inl rfl) e,ih q⟩
 | tbl ps=>
   have e:h.get? a=some { cls:=.none,data:=.fields ps }:=x
   show h'.get? a=some { cls:=.none,data:=.fields ps }
   exact k a _ (.inl rfl) e
 | met f y=>
   have e:h.get? a=some (PySem.W.methodObj (.ref f) (.ref y)):=x
   show h'.get? a=some (PySem.W.methodObj (.ref f) (.ref y))
   exact k a _ (.inl rfl) e
 | ext φ=>obtain ⟨p,⟨o,e⟩,st⟩:=x; exact ⟨st _ _ p λo q=>k _ _ (.inl rfl) q,⟨o,k _ _ (.inl rfl) e⟩,st⟩
theorem HOk.lt (x:HOk P w H h) (e:H a=some o):a < h.objs.size:=(x a o e).lt
theorem HOk.fresh (x:HOk P w H h) (e:h.objs.size<=a):H a=none:=by
 cases q:H a with
 | none=>rfl
 | some u=>exact absurd (Nat.lt_of_lt_of_le (x.lt q) e) (Nat.lt_irrefl _)
theorem HOk.kept (x:HOk P w H h) (k:∀ b u,h.get? b=some u->h'.get? b=some u):HOk P w H h':=λa o e=>
 (x a o e).i6 (λb u _ q=>k b u q) (λ_ q=>q) λ_ _ q=>q
theorem HOk.laid (x:HOk P w H h) (k:∀ b u,h.get? b=some u->h'.get? b=some u) (hp:h.objs.size<=a) (new:bG P w (upd H a o) h' a o):HOk P w (upd H a o) h':=λb u e=>by
 have hn:=x.fresh hp
 by_cases hb:b=a
 · subst hb; rw [aA] at e; cases e; exact new
 · rw [aq hb] at e
   exact (x b u e).i6 (λc v _ q=>k c v q) (λc q=>by rw [aq (aL q hn)]; exact q) λc xs q=>by rw [aq (aL q hn)]; exact q
end
noncomputable def Rd (H:Hp) (a:Addr) (u:HO):Prop:=H a=some u\/∃ o,H a=some (.frz o u)
theorem Rd.of {H:Hp} {a:Addr} {u:HO} (h:H a=some u):Rd H a u:=.inl h
theorem Rd.ok {P:Program} {w:World} {H:Hp} {h:Heap} {a:Addr} {u:HO} (r:Rd H a u) (x:HOk P w H h):bG P w H h a u:=by
 rcases r with r | ⟨o,r⟩
 · exact x a u r
 · obtain ⟨_,q⟩:=x a _ r
   exact q
noncomputable def Mut:Option HO->Prop
 | some (.lst _)=>True
 | some (.dK _)=>True
 | some (.dT _)=>True
 | some (.set _ _)=>True
 | some (.ins _ _ _)=>True
 | some (.ext _)=>True
 | _=>False
section
variable {P:Program} {w:World} {H:Hp} {h h':Heap} {x e:Addr} {o':HO}
theorem HOk.write (ok:HOk P w H h) (mu:Mut (H x)) (he:e=x\/H e=some (.own x)) (k:∀ b u,b ≠ e->h.get? b=some u->h'.get? b=some u) (heo:∃ u,h'.get? e=some u)
   (new:bG P w (upd H x o') h' x o'):HOk P w (upd H x o') h':=λb u q=>by
 have nown:∀ c y,H c=some (.own y)->c ≠ x:=λc y r z=>by subst z; rw [r] at mu; exact mu
 have ntup:∀ c xs,H c=some (.tup xs)->c ≠ x:=λc xs r z=>by subst z; rw [r] at mu; exact mu
 by_cases hb:b=x
 · subst hb; rw [aA] at q; cases q; exact new
 · rw [aq hb] at q
   by_cases hbe:b=e
   · have q':H b=some (.own x):=by
       rcases he with z | z
       · exact absurd (hbe.trans z) hb
       · rw [hbe]; exact z
     rw [q] at q'; cases q'
     obtain ⟨v,hv⟩:=heo
     exact ⟨v,by rw [hbe]; exact hv⟩
   · refine (ok b u q).i6 (λc v hc r=>k c v ?_ r) (λc r=>by rw [aq (nown c b r)]; exact r) λc xs r=>by rw [aq (ntup c xs r)]; exact r
     rcases hc with rfl | hc
     · exact hbe
     · rintro rfl
       rcases he with z | z
       · exact nown c b hc z
       · rw [hc] at z; cases z; exact hb rfl
end
structure Un (fs ex:List Addr) (H H':Hp) (h h':Heap):Prop where
 keep:∀ b o,h.get? b=some o->H b=none->b ∉ fs->b ∉ ex->h'.get? b=some o
 slot:∀ b o,h.get? b=some o->H b=none->b ∈ fs->b ∉ ex->∃ sl,h'.get? b=some { o with slots:=sl }
 free:∀ b o,h.get? b=some o->H b=none->b ∉ ex->H' b=none
 there:∀ b o,h.get? b=some o->b ∉ ex->∃ o',h'.get? b=some o'
 tups:∀ b xs,H b=some (.tup xs)->H' b=some (.tup xs)
 frzs:∀ b o u,H b=some (.frz o u)->H' b=some (.frz o u)
 tbls:∀ b ps,H b=some (.tbl ps)->∃ more,H' b=some (.tbl (ps++more))
section
variable {fs fs' ex ex':List Addr} {H H1 H2:Hp} {h h1 h2 h':Heap} {a x e:Addr} {o:HO}
theorem Un.any (u:Un fs ex H H1 h h1) {b:Addr} {ob:Obj} (q:h.get? b=some ob) (n:H b=none) (hx:b ∉ ex):∃ sl,h1.get? b=some { ob with slots:=sl }:=by
 by_cases hb:b ∈ fs
 · exact u.slot b ob q n hb hx
 · exact ⟨ob.slots,u.keep b ob q n hb hx⟩
theorem Un.kept (k:∀ b u,h.get? b=some u->h'.get? b=some u):Un fs ex H H h h':=
 ⟨λb ob q _ _ _=>k b ob q,λb ob q _ _ _=>⟨ob.slots,k b ob q⟩,λ_ _ _ n _=>n,λb ob q _=>⟨ob,k b ob q⟩,λ_ _ q=>q,λ_ _ _ q=>q,λ_ ps q=>⟨#[],by rw [q]; simp⟩⟩
theorem Un.refl:Un fs ex H H h h:=Un.kept λ_ _ q=>q
theorem Un.laid (k:∀ b u,h.get? b=some u->h'.get? b=some u) (hp:h.objs.size<=a) (hn:H a=none):Un fs ex H (upd H a o) h h' where
 keep:=λb u q _ _ _=>k b u q
 slot:=λb u q _ _ _=>⟨u.slots,k b u q⟩
 free:=λb u q n _=>by rw [aq (Nat.ne_of_lt (Nat.lt_of_lt_of_le (Heap.lt_size q) hp))]; exact n
 there:=λb u q _=>⟨u,k b u q⟩
 tups:=λb xs q=>by rw [aq (aL q hn)]; exact q
 frzs:=λb u xs q=>by rw [aq (aL q hn)]; exact q
 tbls:=λb ps q=>⟨#[],by rw [aq (aL q hn),q]; simp⟩
theorem Un.write (mu:Mut (H x)) (he:e=x\/H e=some (.own x)) (k:∀ b u,b ≠ e->h.get? b=some u->h'.get? b=some u) (heo:∃ u,h'.get? e=some u):Un fs ex H (upd H x o) h h':=by
 have hx:∀ b,H b=none->b ≠ x:=λb n z=>by subst z; rw [n] at mu; exact mu
 have hb:∀ b,H b=none->b ≠ e:=λb n z=>by
   subst z
   rcases he with r | r
   · exact hx b n r
   · rw [n] at r; cases r
 have hm:∀ b u,H b=some u->¬ Mut (some u)->b ≠ x:=λb u q nm z=>by subst z; rw [q] at mu; exact nm mu
 refine ⟨λb u q n _ _=>k b u (hb b n) q,λb u q n _ _=>⟨u.slots,k b u (hb b n) q⟩,λb u q n _=>by rw [aq (hx b n)]; exact n,λb u q _=>?_,
   λb xs q=>by rw [aq (hm b _ q λz=>z)]; exact q,λb u xs q=>by rw [aq (hm b _ q λz=>z)]; exact q,λb ps q=>⟨#[],by rw [aq (hm b _ q λz=>z),q]; simp⟩⟩
 by_cases hbe:b=e
 · subst hbe; exact heo
 · exact ⟨u,k b u hbe q⟩
end
noncomputable def trk (h:Heap) (H:Hp):List Addr:=(List.range h.objs.size).filter λa=>(H a).isSome
noncomputable def kG (h:Heap) (H:Hp):Heap:=PySem.W.hideAll h (trk h H)
theorem qV (h:Heap) (H:Hp):(kG h H).objs.size=h.objs.size:=PySem.W.hideAll_size _ _
theorem t9 {h:Heap} {H:Hp} {b:Addr} {o:Obj} (e:h.get? b=some o) (n:H b=none):(kG h H).get? b=some o:=
 PySem.W.hideAll_get _ e λhm=>by
   have q:(H b).isSome=true:=(List.mem_filter.mp hm).2
   rw [n] at q; simp at q
theorem ue {h:Heap} {H:Hp} {b:Addr} {o:Obj} (e:(kG h H).get? b=some o):h.get? b=some o/\H b=none:=by
 have e':h.get? b=some o:=PySem.W.of_hideAll (trk h H) e
 refine ⟨e',?_⟩
 cases q:H b with
 | none=>rfl
 | some x=>
   have hm:b ∈ trk h H:=List.mem_filter.mpr ⟨List.mem_range.mpr (Heap.lt_size e'),by simp [q]⟩
   have z:(kG h H).get? b=none:=PySem.W.hideAll_none (trk h H) hm
   rw [z] at e; cases e
noncomputable def uc (g h:Heap) (L:Addr):List (Addr × Obj):=(List.range h.objs.size).filterMap λa=>if a=L\/(g.get? a).isSome=true then none else (h.get? a).map λo=>(a,o)
noncomputable def rest (g h:Heap) (L d:Addr):List (Addr × Obj):=(uc g h L).filter λp=>decide (p.1 ≠ d)
structure Mod (K:PySem.W.Frag) (mg:Str->Option Value) (base:Heap):Prop where
 kin:K.In base
 glob:base.Ns mainGlobals mg
 blt:∃ mb,base.Ns builtinsNs mb/\∀ x:Str,x ≠ "__name__" -> mb x=bootBuiltins x
 nolimit:base.NoLimit
structure Cx where
 prog:Program
 w:World
 K:PySem.W.Frag
 mg:Str->Option Value
 base:Heap
 A:Around
 N:List Str
 s₀:Shared
 H₀:Hp
 env:Env
 outer:List Env
 stack:List Env
 ex:List Addr
 fn:Str->Bool
 calm:Bool
 pn:List (Addr × Obj)
 xe:Value->Shared->Prop
noncomputable def frs (l:List Env):List Addr:=l.filterMap (·.frame)
noncomputable abbrev Cx.fs (X:Cx):List Addr:=frs X.outer
noncomputable def Vis (sc:Scope) (x:Str):Prop:=sc.names.lookup x=some .local\/sc.names.lookup x=some .cell\/sc.names.lookup x=some .free
noncomputable def Loc (sc:Scope) (x:Str):Prop:=sc.names.lookup x=some .local\/sc.names.lookup x=some .cell
noncomputable def Look (env:Env) (h:Heap) (m:Str->Option Value) (x:Str) (u:Value):Prop:=
 (env.kindOf x=some .local/\m x=some u)\/((env.kindOf x=some .cell\/env.kindOf x=some .free)/\∃ c,env.cells.lookup x=some c/\h.IsCell c (some u))
structure Cx.Ok (X:Cx):Prop where
 mod:Mod X.K X.mg X.base
 kind:X.env.scope.kind=.function
 glob:X.env.globals=mainGlobals
 blt:X.env.builtins=builtinsNs
 above:X.s₀.heap.objs.size<=X.env.locals
 inj:∀ x y c,X.env.cells.lookup x=some c->X.env.cells.lookup y=some c->x=y
 has:∀ x,(X.env.kindOf x=some .cell\/X.env.kindOf x=some .free)->∃ c,X.env.cells.lookup x=some c
 cab:∀ x c,X.fn x=true->X.env.cells.lookup x=some c->X.s₀.heap.objs.size<=c
 hd:X.calm=true->X.A.handled=none
 frames:X.A.frames=some X.stack
 stk:X.stack=X.outer\/(X.stack=X.env :: X.outer/\X.env.frame=some X.env.locals)
 exf:∀ b ∈ X.ex,b ≠ X.env.locals/\∀ x c,X.env.cells.lookup x=some c->c ≠ b
 bs:∀ b o,X.base.get? b=some o->X.s₀.heap.get? b=some o/\X.H₀ b=none
 bsz:X.base.objs.size<=X.s₀.heap.objs.size
 noex:∀ b o,X.base.get? b=some o->b ∉ X.ex
 exfs:∀ b ∈ X.ex,b ∉ X.fs
 ir:X.s₀.heap.FunFrames X.base X.outer
 frf:∀ b ∈ X.fs,X.H₀ b=none
structure Inv (X:Cx) (pins:List (Addr × Obj)) (σ:List (Option V)) (H:Hp) (s:Shared):Prop where
 ok:X.Ok
 os:s.os=X.s₀.os
 bare:AllBare s.gens
 base:Un X.fs X.ex X.H₀ H X.s₀.heap s.heap
 loc:∃ m,s.heap.Ns X.env.locals m/\∀ (i:Nat) (x:Str) (v:V),X.N[i]?=some x->σ[i]?=some (some v)->Vis X.env.scope x->∃ u,RelV v u/\Look X.env s.heap m x u
 cell:∀ x c,X.env.cells.lookup x=some c->∃ v,s.heap.IsCell c v
 free:H X.env.locals=none
 freeC:∀ x c,X.env.cells.lookup x=some c->H c=none
 pin:∀ p ∈ X.pn++pins,s.heap.get? p.1=some p.2/\H p.1=none/\p.1 ≠ X.env.locals/\p.1 ∉ X.fs/\∀ v,p.2.data ≠ .cell v
 hok:HOk X.prog X.w H s.heap
 len:σ.length=X.N.length
section
variable {X:Cx} {pins:List (Addr × Obj)} {σ:List (Option V)} {H H':Hp} {s:Shared} {h':Heap}
theorem Cx.Ok.Ai (ok:X.Ok) {b:Addr} {o:Obj} (e:X.base.get? b=some o):b ∉ X.fs:=λhb=>by
 have:=(ok.ir.mem hb).1
 rw [e] at this; cases this
theorem Inv.bs (I:Inv X pins σ H s):∀ b o,X.base.get? b=some o->s.heap.get? b=some o/\H b=none:=λb o e=>
 ⟨I.base.keep b o (I.ok.bs b o e).1 (I.ok.bs b o e).2 (I.ok.Ai e) (I.ok.noex b o e),I.base.free b o (I.ok.bs b o e).1 (I.ok.bs b o e).2 (I.ok.noex b o e)⟩
theorem Inv.bk (I:Inv X pins σ H s):∀ b o,X.base.get? b=some o->s.heap.get? b=some o:=λb o e=>(I.bs b o e).1
theorem Inv.mod (I:Inv X pins σ H s):Mod X.K X.mg X.base:=I.ok.mod
theorem Inv.kIn (I:Inv X pins σ H s):X.K.In s.heap:=I.ok.mod.kin.keeps I.bk
theorem Inv.lt (I:Inv X pins σ H s):X.env.locals < s.heap.objs.size:=let ⟨_,hn,_⟩:=I.loc; hn.lt
theorem Inv.sz (I:Inv X pins σ H s):X.s₀.heap.objs.size<=s.heap.objs.size:=Nat.le_trans I.ok.above (Nat.le_of_lt I.lt)
theorem Inv.Ad (I:Inv X pins σ H s) {a:Addr} (h:s.heap.objs.size<=a):a ∉ X.fs:=λhb=>by
 obtain ⟨_,o,ho,_⟩:=I.ok.ir.mem hb
 exact absurd (Nat.lt_of_lt_of_le (Heap.lt_size ho) (Nat.le_trans I.sz h)) (Nat.lt_irrefl _)
theorem Inv.cne (I:Inv X pins σ H s):∀ x c,X.env.cells.lookup x=some c->c ≠ X.env.locals:=λx c e z=>by
 obtain ⟨v,o,ho,hd⟩:=I.cell x c e
 obtain ⟨m,⟨o',es,ep,ho',hd',_⟩,_⟩:=I.loc
 rw [z,ho'] at ho; cases ho; rw [hd'] at hd; cases hd
theorem Inv.ir (I:Inv X pins σ H s):s.heap.FunFrames X.base X.outer:=by
 have all:∀ (l:List Env),(∀ b ∈ frs l,b ∈ X.fs)->X.s₀.heap.FunFrames X.base l->s.heap.FunFrames X.base l:=by
   intro l
   induction l with
   | nil=>intro _ _; trivial
   | cons env r ih=>
     intro hs hl
     obtain ⟨hk,⟨L,o,hf,hn,ho,hd⟩,hr⟩:=hl
     have hL:L ∈ X.fs:=hs L (by unfold frs; rw [List.filterMap_cons,hf]; exact List.mem_cons_self)
     obtain ⟨sl,e⟩:=I.base.slot L o ho (I.ok.frf L hL) hL λz=>I.ok.exfs L z hL
     exact ⟨hk,⟨L,_,hf,hn,e,hd⟩,ih (λb hb=>hs b (by unfold frs; rw [List.filterMap_cons,hf]; exact List.mem_cons_of_mem _ hb)) hr⟩
 exact all X.outer (λ_ hb=>hb) I.ok.ir
theorem Inv.stack (I:Inv X pins σ H s):s.heap.FunFrames X.base X.stack:=by
 rcases I.ok.stk with e | ⟨e,hf⟩
 · rw [e]; exact I.ir
 · rw [e]
   obtain ⟨m,hn,_⟩:=I.loc
   refine .cons (by rw [I.ok.kind]; decide) hf hn ?_ I.ir
   exact Heap.get?_none_of_le (Nat.le_trans I.ok.bsz I.ok.above)
theorem Inv.nZ (I:Inv X pins σ H s):∀ b ∈ frs X.stack,b ∈ X.env.locals :: X.fs:=λb hb=>by
 rcases I.ok.stk with e | ⟨e,hf⟩
 · rw [e] at hb; exact List.mem_cons_of_mem _ hb
 · rw [e] at hb
   unfold frs at hb
   rw [List.filterMap_cons,hf] at hb
   exact hb
theorem Inv.oP (I:Inv X pins σ H s):∀ b ∈ frs X.stack,H b=none:=λb hb=>by
 rcases List.mem_cons.mp (I.nZ b hb) with e | hb
 · rw [e]; exact I.free
 · obtain ⟨_,o,ho,_⟩:=I.ok.ir.mem hb
   exact I.base.free b o ho (I.ok.frf b hb) λz=>I.ok.exfs b z hb
theorem Inv.step {g':Array GenState} {t':Nat} {d':Drawn} {ch:List Addr} (I:Inv X pins σ H s)
   (hch:∀ b ∈ ch,(b ∈ X.ex\/X.s₀.heap.objs.size<=b)/\b ≠ X.env.locals/\(∀ x c,X.env.cells.lookup x=some c->c ≠ b)/\∀ p ∈ X.pn++pins,p.1 ≠ b)
   (keep:∀ b o,b ≠ X.env.locals->b ∉ X.fs->b ∉ ch->s.heap.get? b=some o->H b=none->h'.get? b=some o)
   (slot:∀ b o,b ≠ X.env.locals->b ∈ X.fs->b ∉ ch->s.heap.get? b=some o->H b=none->∃ sl,h'.get? b=some { o with slots:=sl }) (free:∀ b o,b ∉ ch->s.heap.get? b=some o->H b=none->H' b=none)
   (there:∀ b o,b ∉ ch->s.heap.get? b=some o->∃ o',h'.get? b=some o')
   (tups:∀ b xs,H b=some (.tup xs)->H' b=some (.tup xs)) (frzs:∀ b o u,H b=some (.frz o u)->H' b=some (.frz o u)) (tbls:∀ b ps,H b=some (.tbl ps)->∃ more,H' b=some (.tbl (ps++more)))
   (ns:∀ m,s.heap.Ns X.env.locals m->h'.Ns X.env.locals m) (hok:HOk X.prog X.w H' h') (hg:AllBare g') :
   Inv X pins σ H' { s with heap:=h',gens:=g',drawn:=d',toks:=t' }:=by
 have neL:∀ b o,X.s₀.heap.get? b=some o->b ≠ X.env.locals:=λb o e=>Nat.ne_of_lt (Nat.lt_of_lt_of_le (Heap.lt_size e) I.ok.above)
 have neC:∀ b o,X.s₀.heap.get? b=some o->b ∉ X.ex->b ∉ ch:=λb o e hx hb=>by
   rcases (hch b hb).1 with z | z
   · exact hx z
   · exact absurd (Nat.lt_of_lt_of_le (Heap.lt_size e) z) (Nat.lt_irrefl _)
 have cellK:∀ x c,X.env.cells.lookup x=some c->∀ v,s.heap.IsCell c v->h'.IsCell c v:=λx c e v ⟨o,ho,hd⟩=>by
   have nch:c ∉ ch:=λz=>(hch c z).2.2.1 x c e rfl
   by_cases hc:c ∈ X.fs
   · obtain ⟨sl,q⟩:=slot c o (I.cne x c e) hc nch ho (I.freeC x c e)
     exact ⟨_,q,hd⟩
   · exact ⟨o,keep c o (I.cne x c e) hc nch ho (I.freeC x c e),hd⟩
 refine ⟨I.ok,I.os,hg,⟨λb o e n hb hx=>?_,λb o e n hb hx=>?_,λb o e n hx=>?_,λb o e hx=>?_,λb xs e=>tups b xs (I.base.tups b xs e),λb o xs e=>frzs b o xs (I.base.frzs b o xs e),λb ps e=>?_⟩,?_,λx c e=>?_,?_,λx c e=>?_,λp hp=>?_,hok,I.len⟩
 · exact keep b o (neL b o e) hb (neC b o e hx) (I.base.keep b o e n hb hx) (I.base.free b o e n hx)
 · obtain ⟨sl,e1⟩:=I.base.slot b o e n hb hx
   obtain ⟨sl',e2⟩:=slot b _ (neL b o e) hb (neC b o e hx) e1 (I.base.free b o e n hx)
   exact ⟨sl',e2⟩
 · obtain ⟨o',e1⟩:=I.base.there b o e hx
   exact free b o' (neC b o e hx) e1 (I.base.free b o e n hx)
 · obtain ⟨o',e1⟩:=I.base.there b o e hx
   exact there b o' (neC b o e hx) e1
 · obtain ⟨m1,e1⟩:=I.base.tbls b ps e
   obtain ⟨m2,e2⟩:=tbls b _ e1
   exact ⟨m1++m2,by rw [e2,Array.append_assoc]⟩
 · obtain ⟨m,hn,hl⟩:=I.loc
   refine ⟨m,ns m hn,λi x v e1 e2 e3=>?_⟩
   obtain ⟨u,r,l⟩:=hl i x v e1 e2 e3
   refine ⟨u,r,?_⟩
   rcases l with l | ⟨k,c,e,z⟩
   · exact .inl l
   · exact .inr ⟨k,c,e,cellK x c e _ z⟩
 · obtain ⟨v,z⟩:=I.cell x c e
   exact ⟨v,cellK x c e v z⟩
 · obtain ⟨m,⟨o,_,_,ho,_⟩,_⟩:=I.loc
   exact free _ o (λz=>(hch _ z).2.1 rfl) ho I.free
 · obtain ⟨v,o,ho,hd⟩:=I.cell x c e
   exact free c o (λz=>(hch c z).2.2.1 x c e rfl) ho (I.freeC x c e)
 · obtain ⟨e,n,ne,nf,d⟩:=I.pin p hp
   have nch:p.1 ∉ ch:=λz=>(hch p.1 z).2.2.2 p hp rfl
   exact ⟨keep p.1 p.2 ne nf nch e n,free p.1 p.2 nch e n,ne,nf,d⟩
theorem Inv.un {t':Nat} (I:Inv X pins σ H s) (u:Un X.fs [] H H' s.heap h') (hok:HOk X.prog X.w H' h'):Inv X pins σ H' { s with heap:=h',toks:=t' }:=by
 obtain ⟨m,⟨o,es,ep,ho,r⟩,_⟩:=id I.loc
 obtain ⟨sl,hL⟩:=u.any ho I.free (by simp)
 exact I.step (g':=s.gens) (d':=s.drawn) (ch:=[]) (λ_ z=>nomatch z) (λb o _ hb _ e n=>u.keep b o e n hb (by simp)) (λb o _ hb _ e n=>u.slot b o e n hb (by simp)) (λb o _ e n=>u.free b o e n (by simp)) (λb o _ e=>u.there b o e (by simp)) u.tups u.frzs u.tbls (λm' hm=>by
   obtain ⟨o',es',ep',ho',r'⟩:=hm
   rw [ho] at ho'; cases ho'
   exact ⟨_,es',ep',hL,r'⟩) hok I.bare
theorem Inv.call {g':Array GenState} {t':Nat} {d':Drawn} {ch:List Addr} (I:Inv X pins σ H s) (u:Un (frs X.stack) ch H H' s.heap h') (hok:HOk X.prog X.w H' h') (hg:AllBare g')
   (hch:∀ b ∈ ch,(b ∈ X.ex\/X.s₀.heap.objs.size<=b)/\b ≠ X.env.locals/\(∀ x c,X.env.cells.lookup x=some c->c ≠ b)/\∀ p ∈ X.pn++pins,p.1 ≠ b) :
   Inv X pins σ H' { s with heap:=h',gens:=g',drawn:=d',toks:=t' }:=by
 obtain ⟨m,⟨o,es,ep,ho,r⟩,_⟩:=id I.loc
 obtain ⟨sl,hL⟩:=u.any ho I.free λz=>(hch _ z).2.1 rfl
 exact I.step (ch:=ch) hch (λb o hL hb hc e n=>u.keep b o e n (λz=>(List.mem_cons.mp (I.nZ b z)).elim hL hb) hc) (λb o _ _ hc e n=>u.any e n hc) (λb o hc e n=>u.free b o e n hc) (λb o hc e=>u.there b o e hc) u.tups u.frzs u.tbls (λm' hm=>by
   obtain ⟨o',es',ep',ho',r'⟩:=hm
   rw [ho] at ho'; cases ho'
   exact ⟨_,es',ep',hL,r'⟩) hok hg
theorem Inv.turned {t':Nat} {it:Addr} (I:Inv X pins σ H s) (k:∀ b o,b ≠ it->s.heap.get? b=some o->h'.get? b=some o) (hn:H it=none) (hL:it ≠ X.env.locals)
   (h1:it ∈ X.ex\/X.s₀.heap.objs.size<=it) (h2:∀ x c,X.env.cells.lookup x=some c->c ≠ it) (h3:∀ p ∈ X.pn++pins,p.1 ≠ it):Inv X pins σ H { s with heap:=h',toks:=t' }:=by
 have nit:∀ b u,H b=some u->b ≠ it:=λb u e z=>by rw [z,hn] at e; cases e
 refine I.step (g':=s.gens) (d':=s.drawn) (ch:=[it]) (λb hb=>?_) (λb o _ _ hc e _=>k b o (λz=>hc (by simp [z])) e) (λb o _ _ hc e _=>⟨o.slots,k b o (λz=>hc (by simp [z])) e⟩) (λ_ _ _ _ n=>n)
   (λb o hc e=>⟨o,k b o (λz=>hc (by simp [z])) e⟩) (λ_ _ e=>e) (λ_ _ _ e=>e) (λb ps e=>⟨#[],by rw [e]; simp⟩) (λm hm=>?_) (λb u e=>?_) I.bare
 · have e:b=it:=by simpa using hb
   subst e
   exact ⟨h1,hL,h2,h3⟩
 · obtain ⟨o,es,ep,ho,r⟩:=hm
   exact ⟨o,es,ep,k _ o (Ne.symm hL) ho,r⟩
 · refine (I.hok b u e).i6 (λc v hc q=>k c v ?_ q) (λ_ q=>q) λ_ _ q=>q
   rcases hc with z | z
   · rw [z]; exact nit b u e
   · exact nit c _ z
theorem Inv.tok (I:Inv X pins σ H s) (t:Nat):Inv X pins σ H { s with toks:=t }:=I.un (h':=s.heap) (t':=t) Un.refl I.hok
theorem Inv.kept {t':Nat} (I:Inv X pins σ H s) (k:∀ b u,s.heap.get? b=some u->h'.get? b=some u):Inv X pins σ H { s with heap:=h',toks:=t' }:=I.un (Un.kept k) (I.hok.kept k)
theorem Inv.laid {a:Addr} {o:HO} {t':Nat} (I:Inv X pins σ H s) (k:∀ b u,s.heap.get? b=some u->h'.get? b=some u) (hp:s.heap.objs.size<=a) (new:bG X.prog X.w (upd H a o) h' a o) :
   Inv X pins σ (upd H a o) { s with heap:=h',toks:=t' }:=I.un (Un.laid k hp (I.hok.fresh hp)) (I.hok.laid k hp new)
theorem Inv.write {x e:Addr} {o:HO} {t':Nat} (I:Inv X pins σ H s) (mu:Mut (H x)) (he:e=x\/H e=some (.own x)) (k:∀ b u,b ≠ e->s.heap.get? b=some u->h'.get? b=some u) (heo:∃ u,h'.get? e=some u)
   (new:bG X.prog X.w (upd H x o) h' x o):Inv X pins σ (upd H x o) { s with heap:=h',toks:=t' }:=I.un (Un.write mu he k heo) (I.hok.write mu he k heo new)
theorem Inv.pB {pins':List (Addr × Obj)} (I:Inv X pins σ H s) (h:∀ p ∈ pins',s.heap.get? p.1=some p.2/\H p.1=none/\p.1 ≠ X.env.locals/\p.1 ∉ X.fs/\∀ v,p.2.data ≠ .cell v):Inv X pins' σ H s:=
 ⟨I.ok,I.os,I.bare,I.base,I.loc,I.cell,I.free,I.freeC,λp hp=>(List.mem_append.mp hp).elim (λz=>I.pin p (List.mem_append_left _ z)) (h p),I.hok,I.len⟩
theorem mM {N:List Str} (hN:N.Nodup) {i j:Nat} {x:Str} (a:N[i]?=some x) (b:N[j]?=some x):i=j:=by
 obtain ⟨h1,e1⟩:=List.getElem?_eq_some_iff.mp a
 obtain ⟨h2,e2⟩:=List.getElem?_eq_some_iff.mp b
 exact (List.getElem_inj hN).mp (e1.trans e2.symm)
theorem qm {M:Model} {A:Around} {E:Value->Shared->Prop} {i:Nat} {x:Str} {v:V} {u:Value} {Q:Unit->Shared->Prop} (I:Inv X pins σ H s) (hN:X.N.Nodup) (hi:X.N[i]?=some x) (hx:Loc X.env.scope x) (r:RelV v u)
   (h:∀ s',Inv X pins (σ.set i (some v)) H s'->(∃ a,Heap.SameBut a s.heap s'.heap/\(a=X.env.locals\/X.env.cells.lookup x=some a))->Q () s') (hf:X.fn x=true\/X.env.scope.names.lookup x=some .local:=by first | exact .inl rfl | exact .inr rfl | assumption):wpAny M A (storeName X.env x u) Q E s:=by
 obtain ⟨m,hn,hl⟩:=id I.loc
 have hcls:(X.env.scope.kind == .class || (X.env.scope.kind == .module && X.env.locals != X.env.globals))=false:=by rw [I.ok.kind]; rfl
 have hiσ:i < σ.length:=by rw [I.len]; exact (List.getElem?_eq_some_iff.mp hi).1
 have cne:=I.cne
 have tracked:∀ {a:Addr} {h':Heap},(∃ o,s.heap.get? a=some o/\H a=none)->Heap.SameBut a s.heap h'->HOk X.prog X.w H h':=λ{a h'} ha hs b ob e=>by
   obtain ⟨_,_,hfree⟩:=ha
   refine (I.hok b ob e).i6 (λc w' hc q=>(hs.2 c ?_).trans q) (λ_ q=>q) λ_ _ q=>q
   rintro rfl
   rcases hc with rfl | hc
   · rw [hfree] at e; cases e
   · rw [hfree] at hc; cases hc
 rcases hx with hk | hk
 · refine wpAny_storeName_local hk hn (λh' hn' hs=>?_) hcls
   obtain ⟨oL,_,_,hoL,_⟩:=id hn
   refine h _ ⟨I.ok,I.os,I.bare,⟨λb o e n hb hx=>?_,λb o e n hb hx=>?_,I.base.free,λb o e hx=>?_,I.base.tups,I.base.frzs,I.base.tbls⟩,⟨_,hn',λj y v' e1 e2 e3=>?_⟩,λy c e=>?_,I.free,I.freeC,λp hp=>?_,tracked ⟨oL,hoL,I.free⟩ hs,by simpa using I.len⟩ ⟨_,hs,.inl rfl⟩
   · exact (hs.2 b (Nat.ne_of_lt (Nat.lt_of_lt_of_le (Heap.lt_size e) I.ok.above))).trans (I.base.keep b o e n hb hx)
   · obtain ⟨sl,e1⟩:=I.base.slot b o e n hb hx
     exact ⟨sl,(hs.2 b (Nat.ne_of_lt (Nat.lt_of_lt_of_le (Heap.lt_size e) I.ok.above))).trans e1⟩
   · obtain ⟨o',e1⟩:=I.base.there b o e hx
     exact ⟨o',(hs.2 b (Nat.ne_of_lt (Nat.lt_of_lt_of_le (Heap.lt_size e) I.ok.above))).trans e1⟩
   · by_cases hj:j=i
     · subst hj
       rw [hi] at e1; cases e1
       rw [List.getElem?_set_self hiσ] at e2
       cases e2
       exact ⟨u,r,.inl ⟨hk,by simp⟩⟩
     · rw [List.getElem?_set_ne (Ne.symm hj)] at e2
       obtain ⟨u',r',q⟩:=hl j y v' e1 e2 e3
       refine ⟨u',r',?_⟩
       rcases q with ⟨k,e⟩ | ⟨k,c,e,z⟩
       · refine .inl ⟨k,?_⟩
         have:y ≠ x:=λe=>hj (mM hN e1 (e ▸ hi))
         simp [this,e]
       · exact .inr ⟨k,c,e,z.sameBut hs (cne y c e)⟩
   · obtain ⟨w',z⟩:=I.cell y c e
     exact ⟨w',z.sameBut hs (cne y c e)⟩
   · obtain ⟨e,n,ne,nf,d⟩:=I.pin p hp
     exact ⟨(hs.2 p.1 ne).trans e,n,ne,nf,d⟩
 · have hfn:X.fn x=true:=by
     rcases hf with z | z
     · exact z
     · rw [z] at hk; cases hk
   obtain ⟨c,hc⟩:=I.ok.has x (.inl hk)
   obtain ⟨w',z⟩:=I.cell x c hc
   refine wpAny_storeName_cell I.ok.kind hk hc z (λh' hc' hs=>?_)
   obtain ⟨oc,hoc,hocd⟩:=id z
   refine h { s with heap:=h' } ⟨I.ok,I.os,I.bare,⟨λb o e n hb hx=>?_,λb o e n hb hx=>?_,I.base.free,λb o e hx=>?_,I.base.tups,I.base.frzs,I.base.tbls⟩,⟨m,hn.sameBut hs (Ne.symm (cne x c hc)),λj y v' e1 e2 e3=>?_⟩,λy c' e=>?_,I.free,I.freeC,λp hp=>?_,tracked ⟨oc,hoc,I.freeC x c hc⟩ hs,by simpa using I.len⟩ ⟨c,hs,.inr hc⟩
   · exact (hs.2 b (Nat.ne_of_lt (Nat.lt_of_lt_of_le (Heap.lt_size e) (I.ok.cab x c hfn hc)))).trans (I.base.keep b o e n hb hx)
   · obtain ⟨sl,e1⟩:=I.base.slot b o e n hb hx
     exact ⟨sl,(hs.2 b (Nat.ne_of_lt (Nat.lt_of_lt_of_le (Heap.lt_size e) (I.ok.cab x c hfn hc)))).trans e1⟩
   · obtain ⟨o',e1⟩:=I.base.there b o e hx
     exact ⟨o',(hs.2 b (Nat.ne_of_lt (Nat.lt_of_lt_of_le (Heap.lt_size e) (I.ok.cab x c hfn hc)))).trans e1⟩
   · by_cases hj:j=i
     · subst hj
       rw [hi] at e1; cases e1
       rw [List.getElem?_set_self hiσ] at e2
       cases e2
       exact ⟨u,r,.inr ⟨.inl hk,c,hc,hc'⟩⟩
     · rw [List.getElem?_set_ne (Ne.symm hj)] at e2
       obtain ⟨u',r',q⟩:=hl j y v' e1 e2 e3
       refine ⟨u',r',?_⟩
       rcases q with q | ⟨k,c',e,z'⟩
       · exact .inl q
       · refine .inr ⟨k,c',e,z'.sameBut hs ?_⟩
         rintro rfl
         exact hj (mM hN e1 (I.ok.inj _ _ _ e hc ▸ hi))
   · by_cases hcc:c'=c
     · subst hcc; exact ⟨_,hc'⟩
     · obtain ⟨w2,z2⟩:=I.cell y c' e
       exact ⟨w2,z2.sameBut hs hcc⟩
   · obtain ⟨e,n,ne,nf,d⟩:=I.pin p hp
     refine ⟨(hs.2 p.1 ?_).trans e,n,ne,nf,d⟩
     intro q
     rw [q,hoc] at e
     have q':oc=p.2:=Option.some.inj e
     exact d w' (by rw [<- q']; exact hocd)
theorem mC {M:Model} {A:Around} {E:Value->Shared->Prop} {i:Nat} {x:Str} {v:V} {u:Value} {Q:Unit->Shared->Prop} (I:Inv X pins σ H s) (hN:X.N.Nodup) (hi:X.N[i]?=some x) (hx:Loc X.env.scope x) (r:RelV v u)
   (h:∀ s',Inv X pins (σ.set i (some v)) H s'->Q () s') (hf:X.fn x=true\/X.env.scope.names.lookup x=some .local:=by first | exact .inl rfl | exact .inr rfl | assumption):wpAny M A (storeName X.env x u) Q E s:=
 qm I hN hi hx r (λs' I' _=>h s' I') hf
theorem Inv.vN {s':Shared} {ch:List Addr} (I:Inv X pins σ H s) (ho:s'.os=s.os) (u:Un (frs X.stack) ch H H' s.heap s'.heap) (hok:HOk X.prog X.w H' s'.heap) (hg:AllBare s'.gens)
   (hch:∀ b ∈ ch,(b ∈ X.ex\/X.s₀.heap.objs.size<=b)/\b ≠ X.env.locals/\(∀ x c,X.env.cells.lookup x=some c->c ≠ b)/\∀ p ∈ X.pn++pins,p.1 ≠ b):Inv X pins σ H' s':=by
 obtain ⟨h',g',d',t',o'⟩:=s'
 have e:o'=s.os:=ho
 subst e
 exact I.call (g':=g') (t':=t') (d':=d') u hok hg hch
end
noncomputable abbrev XK:=Value->Option Addr->Hp->Prop
noncomputable abbrev St:=List (Option V)
noncomputable abbrev VK:=V->Hp->Prop
noncomputable abbrev TE:=St->Hp->VK->Prop
noncomputable abbrev TT:=St->Hp->(Bool->Hp->Prop)->Prop
noncomputable abbrev TA:=St->Hp->(List V->Hp->Prop)->Prop
structure Ends where
 nx:St->Hp->Prop
 rt:VK
 bk:St->Hp->Prop:=λ_ _=>False
 ct:St->Hp->Prop:=λ_ _=>False
noncomputable abbrev TS:=Ends->St->Hp->Prop
noncomputable def EP (X:Cx) (pins:List (Addr × Obj)) (σ:St) (Q:VK) (u:Value) (s':Shared):Prop:=∃ v H',Inv X pins σ H' s'/\RelV v u/\Q v H'
noncomputable def TP (X:Cx) (pins:List (Addr × Obj)) (σ:St) (Q:Bool->Hp->Prop) (b:Bool) (s':Shared):Prop:=∃ H',Inv X pins σ H' s'/\Q b H'
noncomputable def AP (X:Cx) (pins:List (Addr × Obj)) (σ:St) (Q:List V->Hp->Prop) (us:List Value) (s':Shared):Prop:=∃ vs H',Inv X pins σ H' s'/\Vals vs us/\Q vs H'
noncomputable def SP (X:Cx) (pins:List (Addr × Obj)) (D:Ends) (f:Flow) (s':Shared):Prop:=
 match f with
 | .next=>∃ σ' H',Inv X pins σ' H' s'/\D.nx σ' H'
 | .brk=>∃ σ' H',Inv X pins σ' H' s'/\D.bk σ' H'
 | .cont=>∃ σ' H',Inv X pins σ' H' s'/\D.ct σ' H'
 | .ret u=>∃ v σ' H',Inv X pins σ' H' s'/\RelV v u/\D.rt v H'
noncomputable def PE (X:Cx) (e:Expr) (t:TE):Prop:=
 ∀ (pins:List (Addr × Obj)) (s:Shared) (σ:St) (H:Hp) (Q:VK),Inv X pins σ H s->t σ H Q->wpAny (model X.prog X.w) X.A (eval e X.env) (EP X pins σ Q) X.xe s
noncomputable def PT (X:Cx) (e:Expr) (t:TT):Prop:=
 ∀ (pins:List (Addr × Obj)) (s:Shared) (σ:St) (H:Hp) (Q:Bool->Hp->Prop),Inv X pins σ H s->t σ H Q->wpAny (model X.prog X.w) X.A (isTrue e X.env (eval e X.env)) (TP X pins σ Q) X.xe s
noncomputable def PW (X:Cx) (e:Expr) (t:TT):Prop:=
 ∀ (whole:Sem Value) (pins:List (Addr × Obj)) (s:Shared) (σ:St) (H:Hp) (Q:Bool->Hp->Prop),Inv X pins σ H s->t σ H Q->wpAny (model X.prog X.w) X.A (isTrue e X.env whole) (TP X pins σ Q) X.xe s
theorem PW.pt {X:Cx} {e:Expr} {t:TT} (h:PW X e t):PT X e t:=h _
noncomputable def PA (X:Cx) (es:List Expr) (t:TA):Prop:=
 ∀ (pos:Pos) (pins:List (Addr × Obj)) (s:Shared) (σ:St) (H:Hp) (Q:List V->Hp->Prop),Inv X pins σ H s->t σ H Q->wpAny (model X.prog X.w) X.A (spliced (backTo pos (starEach es X.env))) (AP X pins σ Q) X.xe s
noncomputable def PS (X:Cx) (st:Stmt) (t:TS):Prop:=
 ∀ (pins:List (Addr × Obj)) (s:Shared) (σ:St) (H:Hp) (D:Ends),Inv X pins σ H s->t D σ H->wpAny (model X.prog X.w) X.A (exec st X.env) (SP X pins D) X.xe s
noncomputable def PSs (X:Cx) (st:List Stmt) (t:TS):Prop:=
 ∀ (pins:List (Addr × Obj)) (s:Shared) (σ:St) (H:Hp) (D:Ends),Inv X pins σ H s->t D σ H->wpAny (model X.prog X.w) X.A (execs st X.env) (SP X pins D) X.xe s
theorem thn {α:Type} {t:Sem α} {Q Q':α->Shared->Prop} {M:Model} {A:Around} {E:Value->Shared->Prop} {s:Shared} (h:wpAny M A t Q E s) (hQ:∀ a s,Q a s->Q' a s):wpAny M A t Q' E s:=wpAny_mono h hQ λ_ _ x=>x
section
variable {X:Cx}
theorem bin {a b:Expr} {ta tb:TE} (ha:PE X a ta) (hb:PE X b tb) {pins:List (Addr × Obj)} {s:Shared} {σ:St} {H:Hp} {R:V->V->Hp->Prop} (I:Inv X pins σ H s) (h:ta σ H λx H1=>tb σ H1 λy H2=>R x y H2)
   {α:Type} {Q:α->Shared->Prop} {f:Value->Value->Sem α}
   (hf:∀ v u s2 x y H2,Inv X pins σ H2 s2->RelV x v->RelV y u->R x y H2->wpAny (model X.prog X.w) X.A (f v u) Q X.xe s2) :
   wpAny (model X.prog X.w) X.A (eval a X.env) (λv s₁=>wpAny (model X.prog X.w) X.A (eval b X.env) (λu s₂=>wpAny (model X.prog X.w) X.A (f v u) Q X.xe s₂) X.xe s₁) X.xe s:=by
 refine thn (ha pins s σ H _ I h) λv s1 ⟨x,H1,I1,r1,q1⟩=>?_
 refine thn (hb pins s1 σ H1 _ I1 q1) λu s2 ⟨y,H2,I2,r2,q2⟩=>?_
 exact hf v u s2 x y H2 I2 r1 r2 q2
noncomputable def v9 (i:Nat):TE:=λσ H Q=>∃ v,σ[i]?=some (some v)/\Q v H
noncomputable def tC (v:V):TE:=λ_ H Q=>Q v H
theorem bh {i:Nat} {x:Str} {pos:Pos} (hN:X.N[i]?=some x) (hv:Vis X.env.scope x) (hd:(x == ("__debug__" : Str))=false:=by decide) (hcd:(x == ("__classdict__" : Str))=false:=by decide):PE X (.Name x pos) (v9 i):=by
 intro pins s σ H Q I h
 obtain ⟨v,e,h⟩:=h
 obtain ⟨m,hn,hl⟩:=I.loc
 obtain ⟨u,r,l⟩:=hl i x v hN e hv
 have fin:EP X pins σ Q u s:=⟨v,H,I,r,h⟩
 rcases l with ⟨hk,hm⟩ | ⟨hk,c,hc,hcell⟩
 · exact wpAny_Name (wpAny_loadName_local I.ok.kind hk hn hm fin) hd
 · rcases hk with hk | hk
   · exact wpAny_Name (wpAny_loadName_cell I.ok.kind hk hc hcell fin) hd
   · exact wpAny_Name (wpAny_loadName_free I.ok.kind hk hc hcell fin hcd) hd
theorem wY {i j pos}:PE X (.Constant (.int i) j pos) (tC (.int i)):=λ_ _ _ H _ I h=>wpAny_Constant_int ⟨.int i,H,I.tok _,⟨_,rfl⟩,h⟩
theorem zi {b j pos}:PE X (.Constant (.bool b) j pos) (tC (.bl b)):=λ_ _ _ H _ I h=>Constant_bool ⟨.bl b,H,I,rfl,h⟩
theorem xH {x j pos}:PE X (.Constant (.str x) j pos) (tC (.str x)):=λ_ _ _ H _ I h=>Calls.Constant_str ⟨.str x,H,I.tok _,⟨_,rfl⟩,h⟩
noncomputable def Gl (X:Cx) (x:Str):Prop:=X.env.kindOf x=some .globalImplicit
theorem lU {E:Value->Shared->Prop} {pins:List (Addr × Obj)} {s:Shared} {σ:St} {H:Hp} {x:Str} {u:Value} {pos:Pos} {Q:Value->Shared->Prop} (I:Inv X pins σ H s) (hg:Gl X x) (hm:X.mg x=some u) (h:Q u s)
   (hd:(x == ("__debug__" : Str))=false:=by decide):wpAny (model X.prog X.w) X.A (eval (.Name x pos) X.env) Q E s:=
 Calls.Name_function_global I.ok.kind hg (Calls.loadGlobal_global (by rw [I.ok.glob]; exact I.mod.glob.keeps I.bk) hm h) hd
theorem dg {E:Value->Shared->Prop} {pins:List (Addr × Obj)} {s:Shared} {σ:St} {H:Hp} {x:Str} {u:Value} {pos:Pos} {Q:Value->Shared->Prop} (I:Inv X pins σ H s) (hg:Gl X x) (hm:X.mg x=none) (hv:bootBuiltins x=some u) (h:Q u s)
   (hn:x ≠ "__name__":=by decide) (hd:(x == ("__debug__" : Str))=false:=by decide):wpAny (model X.prog X.w) X.A (eval (.Name x pos) X.env) Q E s:=by
 obtain ⟨mb,h1,h2⟩:=I.mod.blt
 exact Calls.Name_function_global I.ok.kind hg (Calls.loadGlobal_builtin (by rw [I.ok.glob]; exact I.mod.glob.keeps I.bk) hm (by rw [I.ok.blt]; exact h1.keeps I.bk) ((h2 x hn).trans hv) h) hd
theorem k8 {x:Str} {v:V} {u:Value} {pos:Pos} (hg:Gl X x) (hm:X.mg x=some u) (r:RelV v u) (hd:(x == ("__debug__" : Str))=false:=by decide):PE X (.Name x pos) (tC v):=
 λ_ _ _ H _ I h=>lU I hg hm ⟨v,H,I,r,h⟩ hd
theorem vg {x:Str} {v:V} {u:Value} {pos:Pos} (hg:Gl X x) (hm:X.mg x=none) (hv:bootBuiltins x=some u) (r:RelV v u) (hn:x ≠ "__name__":=by decide) (hd:(x == ("__debug__" : Str))=false:=by decide):PE X (.Name x pos) (tC v):=
 λ_ _ _ H _ I h=>dg I hg hm hv ⟨v,H,I,r,h⟩ hn hd
variable {a b:Expr} {ta tb:TE} {pos:Pos}
noncomputable def PC (X:Cx) (op:CmpOp) (a b:Expr) (t:TE):Prop:=
 ∀ (pins:List (Addr × Obj)) (s:Shared) (σ:St) (H:Hp) (Q:VK),Inv X pins σ H s->t σ H Q ->
   wpAny (model X.prog X.w) X.A (eval a X.env) (λv s₁=>wpAny (model X.prog X.w) X.A (eval b X.env) (λu s₂=>wpAny (model X.prog X.w) X.A (compareOp op v u) (EP X pins σ Q) X.xe s₂) X.xe s₁) X.xe s
theorem jk (b:Expr) {op:CmpOp} (h:op ≠ .In) (h2:op ≠ .NotIn):behindInMarks op b=false:=by
 have e1:(op == CmpOp.In)=false:=by cases op <;> first | rfl | exact absurd rfl h
 have e2:(op == CmpOp.NotIn)=false:=by cases op <;> first | rfl | exact absurd rfl h2
 cases b <;> simp [behindInMarks,e1,e2]
noncomputable def yC (ta:TE):TE:=λσ H Q=>ta σ H λx H1=>Q (.bl (!decide (x=.non))) H1
theorem RelV.sC {x:V} {v:Value} (r:RelV x v):(v == Value.none)=decide (x=.non):=by
 cases x with
 | non=>cases r; rfl
 | bl _=>cases r; rfl
 | int _=>obtain ⟨t,rfl⟩:=r; rfl
 | str _=>obtain ⟨t,rfl⟩:=r; rfl
 | byt _=>obtain ⟨t,rfl⟩:=r; rfl
 | flt _=>obtain ⟨t,rfl⟩:=r; rfl
 | ref _=>cases r; rfl
 | ty _=>cases r; rfl
theorem uG {j pos'} (ha:PE X a ta):PC X .IsNot a (.Constant .none j pos') (yC ta):=by
 intro pins s σ H Q I h
 refine thn (ha pins s σ H _ I h) λv s1 ⟨x,H1,I1,r1,q1⟩=>?_
 exact Constant_none (isnot_none_gen ⟨.bl _,H1,I1,by rw [r1.sC]; rfl,q1⟩)
noncomputable def tB (t:TE):TT:=λσ H Q=>t σ H λx H1=>∃ c,x=.bl c/\Q c H1
theorem nE {op:CmpOp} {t:TE} (h:PC X op a b t) (h1:behindInMarks op b=false:=by first | exact jk _ (by decide) (by decide) | rfl):PT X (.Compare a [op] [b] pos) (tB t):=by
 intro pins s σ H Q I hw
 refine wpAny_isTrue_Compare1 (thn (h pins s σ H _ I hw) λv s1 h1=>thn h1 λu s2 h2=>thn h2 λc s3 ⟨x,H1,I1,r1,q1⟩=>?_) h1
 obtain ⟨d,rfl,q⟩:=q1
 cases r1
 exact wpAny_truthy_bool ⟨H1,I1,q⟩
theorem xT {e:Expr} {t:TE} (h:PE X e t) (he:∀ whole,isTrue e X.env whole=(do let v <- whole; standAt e.pos; holding [v] (truthy v)):=by intro _; rfl):PT X e (tB t):=by
 intro pins s σ H Q I hw
 refine isTrue_plain (thn (h pins s σ H _ I hw) λv s1 ⟨x,H1,I1,r1,q1⟩=>?_) (he _)
 obtain ⟨d,rfl,q⟩:=q1
 cases r1
 exact wpAny_truthy_bool ⟨H1,I1,q⟩
variable {tA tB':TT} {rest:List Expr}
noncomputable def As (t u:TT):TT:=λσ H Q=>t σ H λc H1=>if c=true then u σ H1 Q else Q false H1
noncomputable def tOr (t u:TT):TT:=λσ H Q=>t σ H λc H1=>if c=true then Q true H1 else u σ H1 Q
noncomputable def Ay (t:TT):TT:=λσ H Q=>t σ H λc H1=>Q (!c) H1
theorem pw_and1 (ha:PT X a tA):PW X (.BoolOp .And [a] pos) tA:=by
 intro wh pins s σ H Q I h
 refine isTrue_and (thn (ha pins s σ H Q I h) λc s1 e=>?_)
 cases c with
 | true=>exact isTrue_and_nil e
 | false=>exact e
theorem pw_or1 (ha:PT X a tA):PW X (.BoolOp .Or [a] pos) tA:=by
 intro wh pins s σ H Q I h
 refine isTrue_or (thn (ha pins s σ H Q I h) λc s1 e=>?_)
 cases c with
 | false=>exact isTrue_or_nil e
 | true=>exact e
theorem pw_and (ha:PT X a tA) (hb:PW X (.BoolOp .And (b :: rest) pos) tB'):PW X (.BoolOp .And (a :: b :: rest) pos) (As tA tB'):=by
 intro wh pins s σ H Q I h
 refine isTrue_and (thn (ha pins s σ H _ I h) λc s1 ⟨H1,I1,q1⟩=>?_)
 cases c with
 | true=>exact hb wh pins s1 σ H1 Q I1 q1
 | false=>exact ⟨H1,I1,q1⟩
theorem pw_or (ha:PT X a tA) (hb:PW X (.BoolOp .Or (b :: rest) pos) tB'):PW X (.BoolOp .Or (a :: b :: rest) pos) (tOr tA tB'):=by
 intro wh pins s σ H Q I h
 refine isTrue_or (thn (ha pins s σ H _ I h) λc s1 ⟨H1,I1,q1⟩=>?_)
 cases c with
 | true=>exact ⟨H1,I1,q1⟩
 | false=>exact hb wh pins s1 σ H1 Q I1 q1
theorem xK (ha:PT X a tA):PT X (.UnaryOp .Not a pos) (Ay tA):=by
 intro pins s σ H Q I h
 exact isTrue_not (ha pins s σ H (λc H1=>Q (!c) H1) I h)
noncomputable def yt (ta tb:TE):TE:=λσ H Q=>ta σ H λx H1=>∃ c,x=.bl c/\if c=true then tb σ H1 Q else Q (.bl false) H1
noncomputable def yZ (ta:TE):TE:=λσ H Q=>ta σ H λx H1=>∃ c,x=.bl c/\Q (.bl (!c)) H1
theorem yk {op} {t:TE} (h:PE X a t):PE X (.BoolOp op [a] pos) t:=λpins s σ H Q I hw=>BoolOp_one (h pins s σ H Q I hw)
theorem rj (ha:PE X a ta) (hb:PE X (.BoolOp .And (b :: rest) pos) tb):PE X (.BoolOp .And (a :: b :: rest) pos) (yt ta tb):=by
 intro pins s σ H Q I h
 refine BoolOp_and (thn (ha pins s σ H _ I h) λv s1 ⟨x,H1,I1,r1,q1⟩=>?_)
 obtain ⟨c,rfl,q1⟩:=q1
 cases r1
 refine wpAny_truthy_bool ?_
 cases c with
 | true=>exact hb pins s1 σ H1 Q I1 q1
 | false=>exact ⟨.bl false,H1,I1,rfl,q1⟩
theorem wG (ha:PE X a ta):PE X (.UnaryOp .Not a pos) (yZ ta):=by
 intro pins s σ H Q I h
 refine UnaryOp_ (thn (ha pins s σ H _ I h) λv s1 ⟨x,H1,I1,r1,q1⟩=>?_)
 obtain ⟨c,rfl,q1⟩:=q1
 cases r1
 exact not_of (wpAny_truthy_bool ⟨.bl (!c),H1,I1,rfl,q1⟩)
noncomputable def tIf (t:TT) (ta tb:TE):TE:=λσ H Q=>t σ H λc H1=>if c=true then ta σ H1 Q else tb σ H1 Q
theorem mf {c:Expr} (hc:PT X c tA) (ha:PE X a ta) (hb:PE X b tb):PE X (.IfExp c a b pos) (tIf tA ta tb):=by
 intro pins s σ H Q I h
 refine wpAny_IfExp (thn (hc pins s σ H _ I h) λd s1 ⟨H1,I1,q1⟩=>?_)
 cases d with
 | true=>exact ha pins s1 σ H1 Q I1 q1
 | false=>exact hb pins s1 σ H1 Q I1 q1
end
noncomputable def SqL (K:PySem.W.Frag) (H:Hp) (a:Addr) (xs:List V):Prop:=
 Rd H a (.lst xs) \/
   ∃ (o:Obj) (its:Array Value) (n:Nat),K.lookup a=some o/\o.cls=.type "list" /\ o.dict=none/\o.data=.seq its n/\its.size<=sizeLine/\Vals xs its.toList
noncomputable def SqT (K:PySem.W.Frag) (H:Hp) (a:Addr) (xs:List V):Prop:=
 Rd H a (.tup xs) \/
   ∃ (o:Obj) (its:Array Value) (n:Nat),K.lookup a=some o/\o.cls=.type "tuple" /\ o.data=.seq its n/\its.size<=sizeLine/\Vals xs its.toList
noncomputable def zQ:Value->Option V
 | .none=>some .non
 | .bool b=>some (.bl b)
 | .int i _=>some (.int i)
 | .str x _=>some (.str x)
 | .bytes b _=>some (.byt b)
 | .float b _=>some (.flt b)
 | .ref a=>some (.ref a)
 | .type n=>some (.ty n)
 | _=>none
theorem RelV.abs {x:V} {u:Value} (r:RelV x u):zQ u=some x:=by
 cases x with
 | non=>cases r; rfl
 | bl _=>cases r; rfl
 | int _=>obtain ⟨t,rfl⟩:=r; rfl
 | str _=>obtain ⟨t,rfl⟩:=r; rfl
 | byt _=>obtain ⟨t,rfl⟩:=r; rfl
 | flt _=>obtain ⟨t,rfl⟩:=r; rfl
 | ref _=>cases r; rfl
 | ty _=>cases r; rfl
theorem RelV.inj {x y:V} {u:Value} (r:RelV x u) (q:RelV y u):x=y:=Option.some.inj (r.abs.symm.trans q.abs)
theorem Vals.inj:∀ {xs ys:List V} {us:List Value},Vals xs us->Vals ys us->xs=ys
 | _,_,_,.nil,.nil=>rfl
 | _,_,_,.cons r t,.cons r' t'=>by rw [r.inj r',Vals.inj t t']
section
variable {X:Cx} {pins:List (Addr × Obj)} {σ:St} {H:Hp} {s:Shared} {a:Addr} {xs ys:List V}
theorem SqL.of {K:PySem.W.Frag} (h:H a=some (.lst xs)):SqL K H a xs:=.inl (.inl h)
theorem SqT.of {K:PySem.W.Frag} (h:H a=some (.tup xs)):SqT K H a xs:=.inl (.inl h)
theorem Inv.list (I:Inv X pins σ H s) (h:SqL X.K H a xs):∃ its:List Value,Vals xs its/\PlainL s.heap a its.toArray/\xs.length<=sizeLine:=by
 rcases h with h | ⟨o,its,n,hk,hc,hd,hs,hz,r⟩
 · obtain ⟨z,its,n,r,e⟩:=h.ok I.hok
   exact ⟨its,r,⟨_,n,e,rfl,rfl,rfl⟩,z⟩
 · refine ⟨its.toList,r,⟨o,n,I.kIn a o hk,hc,hd,by simpa using hs⟩,?_⟩
   have e:=r.length
   simp only [Array.length_toList] at e
   omega
theorem Inv.tuple (I:Inv X pins σ H s) (h:SqT X.K H a xs):∃ its:List Value,Vals xs its/\IsTup s.heap a its.toArray/\xs.length<=sizeLine:=by
 rcases h with h | ⟨o,its,n,hk,hc,hs,hz,r⟩
 · obtain ⟨z,its,r,p⟩:=h.ok I.hok
   exact ⟨its,r,p,z⟩
 · refine ⟨its.toList,r,⟨o,I.kIn a o hk,hc,n,by simpa using hs⟩,?_⟩
   have e:=r.length
   simp only [Array.length_toList] at e
   omega
theorem Inv.eL (I:Inv X pins σ H s) (h:SqL X.K H a xs) (h':SqL X.K H a ys):xs=ys:=by
 obtain ⟨its,r,⟨o,n,e,_,_,d⟩,_⟩:=I.list h
 obtain ⟨its',r',⟨o',n',e',_,_,d'⟩,_⟩:=I.list h'
 rw [e] at e'; cases e'
 rw [d] at d'
 injection d' with d1 _
 have:its=its':=by simpa using congrArg Array.toList d1
 subst this
 exact r.inj r'
theorem Inv.qk (I:Inv X pins σ H s) (h:SqT X.K H a xs) (h':SqT X.K H a ys):xs=ys:=by
 obtain ⟨its,r,⟨o,e,_,n,d⟩,_⟩:=I.tuple h
 obtain ⟨its',r',⟨o',e',_,n',d'⟩,_⟩:=I.tuple h'
 rw [e] at e'; cases e'
 rw [d] at d'
 injection d' with d1 _
 have:its=its':=by simpa using congrArg Array.toList d1
 subst this
 exact r.inj r'
end
noncomputable abbrev Cx.jD (X:Cx) (E:Value->Shared->Prop):Cx:={ X with xe:=E }
noncomputable abbrev Cx.nox (X:Cx):Cx:=X.jD λ_ _=>False
theorem Cx.Ok.jD {X:Cx} (ok:X.Ok) (E:Value->Shared->Prop):(X.jD E).Ok:=
 ⟨ok.mod,ok.kind,ok.glob,ok.blt,ok.above,ok.inj,ok.has,ok.cab,ok.hd,ok.frames,ok.stk,ok.exf,ok.bs,ok.bsz,ok.noex,ok.exfs,ok.ir,ok.frf⟩
theorem Cx.Ok.eJ {X:Cx} {E:Value->Shared->Prop} (ok:(X.jD E).Ok):X.Ok:=
 ⟨ok.mod,ok.kind,ok.glob,ok.blt,ok.above,ok.inj,ok.has,ok.cab,ok.hd,ok.frames,ok.stk,ok.exf,ok.bs,ok.bsz,ok.noex,ok.exfs,ok.ir,ok.frf⟩
section
variable {X:Cx} {pins:List (Addr × Obj)} {σ:St} {H:Hp} {s:Shared} {E:Value->Shared->Prop}
theorem Inv.jD (I:Inv X pins σ H s) (E:Value->Shared->Prop):Inv (X.jD E) pins σ H s:=⟨I.ok.jD E,I.os,I.bare,I.base,I.loc,I.cell,I.free,I.freeC,I.pin,I.hok,I.len⟩
theorem Inv.eJ (I:Inv (X.jD E) pins σ H s):Inv X pins σ H s:=⟨I.ok.eJ,I.os,I.bare,I.base,I.loc,I.cell,I.free,I.freeC,I.pin,I.hok,I.len⟩
theorem SP.eJ {D:Ends} {f:Flow} {s':Shared} (h:SP (X.jD E) pins D f s'):SP X pins D f s':=by
 cases f with
 | next=>obtain ⟨σ',H',I,q⟩:=h; exact ⟨σ',H',I.eJ,q⟩
 | brk=>obtain ⟨σ',H',I,q⟩:=h; exact ⟨σ',H',I.eJ,q⟩
 | cont=>obtain ⟨σ',H',I,q⟩:=h; exact ⟨σ',H',I.eJ,q⟩
 | ret u=>obtain ⟨v,σ',H',I,r,q⟩:=h; exact ⟨v,σ',H',I.eJ,r,q⟩
theorem PSs.nox {st:List Stmt} {t:TS} (h:PSs X.nox st t):PSs X st t:=λpins s σ H D I hw=>
 wpAny_mono (h pins s σ H D (I.jD _) hw) (λ_ _ q=>q.eJ) λ_ _ z=>False.elim z
end
section
variable {X:Cx} {st:Stmt} {rest:List Stmt} {t u:TS} {e:Expr} {te:TE} {pos:Pos}
noncomputable def yu:TS:=λD σ H=>D.nx σ H
noncomputable def zF (t u:TS):TS:=λD σ H=>t { D with nx:=u D } σ H
theorem uI:PSs X [] yu:=λ_ _ σ H _ I h=>wpAny_execs_nil ⟨σ,H,I,h⟩
theorem mT (h1:PS X st t) (h2:PSs X rest u):PSs X (st :: rest) (zF t u):=by
 intro pins s σ H D I h
 refine wpAny_execs_cons (thn (h1 pins s σ H { D with nx:=u D } I h) λf s1 q=>?_)
 cases f with
 | next=>
   obtain ⟨σ',H',I',q⟩:=q
   exact h2 pins s1 σ' H' D I' q
 | ret v=>exact q
 | brk=>exact q
 | cont=>exact q
theorem pd (h1:PS X st t):PSs X [st] t:=by
 intro pins s σ H D I h
 refine wpAny_execs_cons (thn (h1 pins s σ H D I h) λf s1 q=>?_)
 cases f with
 | next=>exact wpAny_execs_nil q
 | ret v=>exact q
 | brk=>exact q
 | cont=>exact q
theorem Inv.quiet {pins:List (Addr × Obj)} {σ:St} {H:Hp} {s:Shared} (I:Inv X pins σ H s):interactive X.env=false:=by simp [interactive,I.ok.kind]
noncomputable def zG (te:TE):TS:=λD σ H=>te σ H λ_ H1=>D.nx σ H1
theorem da (he:PE X e te) (hs:swapsWith e none pos.line X.env=pure false:=by rfl):PS X (.Expr e pos) (zG te):=by
 intro pins s σ H D I h
 exact wpAny_Expr_any (thn (he pins s σ H _ I h) λv s1 ⟨x,H1,I1,r1,q1⟩=>⟨σ,H1,I1,q1⟩) I.quiet hs
noncomputable def Aq (te:TE):TS:=λD σ H=>te σ H D.rt
theorem n9 (he:PE X e te):PS X (.Return (some e) pos) (Aq te):=by
 intro pins s σ H D I h
 exact wpAny_Return_some (thn (he pins s σ H _ I h) λv s1 ⟨x,H1,I1,r1,q1⟩=>⟨x,σ,H1,I1,r1,q1⟩)
noncomputable def Ac (c:TT) (t u:TS):TS:=λD σ H=>c σ H λb H1=>if b=true then t D σ H1 else u D σ H1
theorem vA {c:Expr} {a b:List Stmt} {tc:TT} (hc:PT X c tc) (ha:PSs X a t) (hb:PSs X b u):PS X (.If c a b pos) (Ac tc t u):=by
 intro pins s σ H D I h
 refine wpAny_If (thn (hc pins s σ H _ I h) λd s1 ⟨H1,I1,q1⟩=>?_)
 cases d with
 | true=>exact ha pins s1 σ H1 D I1 q1
 | false=>exact hb pins s1 σ H1 D I1 q1
noncomputable def xP:TS:=λ_ _ _=>False
theorem jY {sts:List Stmt}:PSs X sts xP:=λ_ _ _ _ _ _ h=>h.elim
end
noncomputable abbrev TG:=V->St->Hp->(St->Hp->Prop)->Prop
noncomputable abbrev TGs:=List V->St->Hp->(St->Hp->Prop)->Prop
noncomputable def PG (X:Cx) (target:Expr) (t:TG):Prop:=
 ∀ (pins:List (Addr × Obj)) (s:Shared) (σ:St) (H:Hp) (v:V) (u:Value) (Q:St->Hp->Prop),Inv X pins σ H s->RelV v u->t v σ H Q ->
   wpAny (model X.prog X.w) X.A (assign target X.env u) (λ_ s'=>∃ σ' H',Inv X pins σ' H' s'/\Q σ' H') X.xe s
noncomputable def PGs (X:Cx) (ts:List Expr) (t:TGs):Prop:=
 ∀ (pins:List (Addr × Obj)) (s:Shared) (σ:St) (H:Hp) (vs:List V) (us:List Value) (Q:St->Hp->Prop),Inv X pins σ H s->Vals vs us->t vs σ H Q ->
   wpAny (model X.prog X.w) X.A (assignInOrder ((assignEach ts X.env).map (·.2)) us) (λ_ s'=>∃ σ' H',Inv X pins σ' H' s'/\Q σ' H') X.xe s
noncomputable abbrev w4:=V->V->V->Hp->(Hp->Prop)->Prop
noncomputable def zD (X:Cx) (t:w4):Prop:=
 ∀ (pins:List (Addr × Obj)) (s:Shared) (σ:St) (H:Hp) (o i v:V) (ov iv u:Value) (Q:Hp->Prop),Inv X pins σ H s->RelV o ov->RelV i iv->RelV v u->t o i v H Q ->
   wpAny (model X.prog X.w) X.A (setItem ov iv u) (λ_ s'=>∃ H',Inv X pins σ H' s'/\Q H') X.xe s
section
variable {X:Cx} {pos:Pos}
noncomputable def v7 (i:Nat):TG:=λv σ H Q=>Q (σ.set i (some v)) H
theorem gf {i:Nat} {x:Str} (hN:X.N.Nodup) (hi:X.N[i]?=some x) (hx:Loc X.env.scope x) (hf:X.fn x=true\/X.env.scope.names.lookup x=some .local:=by first | exact .inl rfl | exact .inr rfl | assumption):PG X (.Name x pos) (v7 i):=by
 intro pins s σ H v u Q I r h
 exact wpAny_assign_Name (mC I hN hi hx r (λs' I'=>⟨_,H,I',h⟩) hf)
noncomputable def Aj:TGs:=λvs σ H Q=>vs=[]/\Q σ H
noncomputable def yV (t:TG) (u:TGs):TGs:=λvs σ H Q=>∃ v r,vs=v :: r/\t v σ H λσ' H'=>u r σ' H' Q
theorem pE:PGs X [] Aj:=by
 intro pins s σ H vs us Q I r h
 obtain ⟨e,h⟩:=h
 subst e
 cases r
 exact assignInOrder_nil ⟨σ,H,I,h⟩
theorem iH {e:Expr} {es:List Expr} {t:TG} {u:TGs} (h1:PG X e t) (h2:PGs X es u)
   (hs:(assignEach (e :: es) X.env).map (·.2)=assign e X.env :: (assignEach es X.env).map (·.2):=by rfl):PGs X (e :: es) (yV t u):=by
 intro pins s σ H vs us Q I r h
 obtain ⟨v,vr,e1,h⟩:=h
 subst e1
 cases r with
 | cons r rr=>
   rw [hs]
   refine assignInOrder_cons (thn (h1 pins s σ H _ _ _ I r h) λ_ s1 ⟨σ1,H1,I1,q1⟩=>?_)
   exact h2 pins s1 σ1 H1 _ _ Q I1 rr q1
noncomputable def Ax (K:PySem.W.Frag) (n:Nat) (t:TGs):TG:=λv σ H Q=>∃ a xs,v=.ref a/\SqT K H a xs/\xs.length=n/\t xs σ H Q
theorem rL {es:List Expr} {k:Nat} {t:TGs} {n:Nat} (hc:X.calm=true) (h:PGs X es t)
   (hn:(assignEach es X.env).length=n:=by rfl) (hst:(assignEach es X.env).findIdx? (·.1)=none:=by rfl):PG X (.Tuple es k pos) (Ax X.K n t):=by
 intro pins s σ H v u Q I r hw
 obtain ⟨a,xs,e1,hq,hl,hw⟩:=hw
 subst e1
 cases r
 obtain ⟨its,rv,ht,hz⟩:=I.tuple hq
 refine assign_Tuple_tuple (I.ok.hd hc) ht (by simp [hn,<- hl,rv.length]) hst λh' hx=>?_
 have I1:Inv X pins σ H { s with heap:=h' }:=I.kept (t':=s.toks) λb o e=>hx b o (Nat.ne_of_lt (Heap.lt_size e)) e
 exact h pins _ σ H xs _ Q I1 (by simpa using rv) hw
noncomputable def zZ (to ti:TE) (t:w4):TG:=λv σ H Q=>to σ H λo H1=>ti σ H1 λi H2=>t o i v H2 λH3=>Q σ H3
theorem xJ {o i:Expr} {to ti:TE} {t:w4} (ho:PE X o to) (hi:PE X i ti) (hs:zD X t)
   (ha:∀ v,assign (.Subscript o i pos) X.env v=(do
     let ov <- holding [v] (eval o X.env)
     let iv <- holding [v,ov] (eval i X.env)
     standAt pos
     holding [v,ov,iv] (setItem ov iv v)
     release [v,ov,iv] []):=by intro _; rfl):PG X (.Subscript o i pos) (zZ to ti t):=by
 intro pins s σ H v u Q I r h
 rw [ha]
 refine wpAny_bind (wpAny_holding (thn (ho pins s σ H _ I h) λov s1 ⟨x,H1,I1,r1,q1⟩=>?_))
 refine wpAny_bind (wpAny_holding (thn (hi pins s1 σ H1 _ I1 q1) λiv s2 ⟨y,H2,I2,r2,q2⟩=>?_))
 refine wpAny_bind (wpAny_standAt (wpAny_bind (wpAny_holding (thn (hs pins s2 σ H2 x y v ov iv u _ I2 r1 r2 r q2) λ_ s3 ⟨H3,I3,q3⟩=>?_))))
 exact wpAny_release ⟨σ,H3,I3,q3⟩
noncomputable def xm (te:TE) (g:TG):TS:=λD σ H=>te σ H λx H1=>g x σ H1 D.nx
theorem sY {tg e:Expr} {te:TE} {g:TG} (he:PE X e te) (hg:PG X tg g) (hs:swapsWithSole [tg] e pos.line X.env=pure false:=by rfl) (hw:swappedStores [tg] e X.env=pure none:=by rfl)
   (h1:(assignEach [tg] X.env).map (·.2)=[assign tg X.env]:=by rfl):PS X (.Assign [tg] e pos) (xm te g):=by
 intro pins s σ H D I h
 refine wpAny_Assign_stores (thn (he pins s σ H _ I h) λv s1 ⟨x,H1,I1,r1,q1⟩=>?_) hs hw
 rw [h1]
 exact thn (hg pins s1 σ H1 x v _ I1 r1 q1) λ_ s2 q=>q
theorem tO {i:Nat} {x:Str} {e:Expr} {te:TE} {pos':Pos} (hN:X.N.Nodup) (hi:X.N[i]?=some x) (hx:Loc X.env.scope x) (he:PE X e te) (hs:swapsWith e (some (.Name x pos')) pos.line X.env=pure false:=by rfl) (hf:X.fn x=true\/X.env.scope.names.lookup x=some .local:=by first | exact .inl rfl | exact .inr rfl | assumption) :
   PS X (.Assign [.Name x pos'] e pos) (xm te (v7 i)):=by
 intro pins s σ H D I h
 refine wpAny_Assign_Name (thn (he pins s σ H _ I h) λv s1 ⟨y,H1,I1,r1,q1⟩=>?_) hs
 exact mC I1 hN hi hx r1 (λs2 I2=>⟨_,H1,I2,q1⟩) hf
end
section
variable {X:Cx} {pos:Pos}
noncomputable def xE (c:TT) (tb:TS):TS:=λD σ H=>∃ W:Nat->St->Hp->Prop,(∃ m,W m σ H)/\∀ m σ H,W m σ H ->
 c σ H λb H1=>if b=true then ∃ N:St->Hp->Prop,(∀ σ' H',N σ' H'->∃ m',m' < m/\W m' σ' H')/\tb { D with nx:=N,ct:=N,bk:=D.nx } σ H1 else D.nx σ H1
theorem tH {c:Expr} {body:List Stmt} {tc:TT} {tb:TS} (hp:PassesOwn (model X.prog X.w) X.A X.env X.xe) (hc:PT X c tc) (hb:PSs X body tb):PS X (.While c body [] pos) (xE tc tb):=by
 intro pins s σ H D I h
 obtain ⟨W,⟨m0,w0⟩,turn⟩:=h
 refine wpAny_While (codeAny_whileLoop (λn s'=>∃ σ' H',Inv X pins σ' H' s'/\W n σ' H') ?_ m0 ⟨σ,H,I,w0⟩)
 rintro n s1 ⟨σ1,H1,I1,w1⟩
 refine wpAny_passesOwn hp (thn (hc pins s1 σ1 H1 _ I1 (turn n σ1 H1 w1)) λb s2 ⟨H2,I2,q2⟩=>?_)
 cases b with
 | true=>
   obtain ⟨N,hN,q2⟩:=q2
   rw [if_pos rfl]
   refine wpAny_passesOwn hp (thn (hb pins s2 σ1 H2 _ I2 q2) λf s3 q3=>?_)
   cases f with
   | next=>
     obtain ⟨σ3,H3,I3,n3⟩:=q3
     obtain ⟨m',hm,w3⟩:=hN σ3 H3 n3
     exact ⟨m',hm,σ3,H3,I3,w3⟩
   | cont=>
     obtain ⟨σ3,H3,I3,n3⟩:=q3
     obtain ⟨m',hm,w3⟩:=hN σ3 H3 n3
     exact ⟨m',hm,σ3,H3,I3,w3⟩
   | brk=>exact q3
   | ret v=>exact q3
 | false=>
   rw [if_neg Bool.false_ne_true]
   exact wpAny_execs_nil ⟨σ1,H2,I2,q2⟩
end
structure It where
 go:Nat->Hp->Prop
 yld:Nat->Hp->V->Hp->Prop
 stop:Nat->Hp->Prop
noncomputable def jP (X:Cx) (pins:List (Addr × Obj)) (H:Hp) (b:Addr):Prop:=
 H b=none/\b ≠ X.env.locals/\b ∉ X.fs/\(b ∈ X.ex\/X.s₀.heap.objs.size<=b)/\(∀ x c,X.env.cells.lookup x=some c->c ≠ b)/\∀ p ∈ X.pn++pins,p.1 ≠ b
theorem Inv.jx {X:Cx} {pins:List (Addr × Obj)} {σ:St} {H H':Hp} {s:Shared} {b:Addr} (I:Inv X pins σ H s) (hb:s.heap.objs.size<=b) (hn:H' b=none):jP X pins H' b:=by
 refine ⟨hn,Nat.ne_of_gt (Nat.lt_of_lt_of_le I.lt hb),I.Ad hb,.inr (Nat.le_trans I.sz hb),λx c e z=>?_,λp hp z=>?_⟩
 · obtain ⟨v,q⟩:=I.cell x c e
   exact absurd (Nat.lt_of_lt_of_le q.lt (by rw [z]; exact hb)) (Nat.lt_irrefl _)
 · exact absurd (Nat.lt_of_lt_of_le (Heap.lt_size (I.pin p hp).1) (by rw [z]; exact hb)) (Nat.lt_irrefl _)
noncomputable def Ar (X:Cx):Prop:=∃ h o u vs,X.A.handled=some (.ref h)/\X.H₀ h=some (.frz o u)/\o.data=.fields vs/\vs[2]?=some .none
noncomputable def Ck (kd:Bool) (X:Cx):Prop:=X.calm=true\/(kd=true/\Ar X)
theorem Ck.calm {X:Cx} (h:Ck false X):X.calm=true:=h.resolve_right λz=>nomatch z.1
structure Turn (P:Program) (w:World) (K:PySem.W.Frag) (kd:Bool) (tg:Expr) (J:It) (fp:List Addr) (it:Addr) (tn:Nat->Heap->Prop):Prop where
 mem:it ∈ fp
 obj:∀ i h,tn i h->∀ b ∈ fp,∃ o,h.get? b=some o/\∀ v,o.data ≠ .cell v
 keep:∀ i h h',tn i h->(∀ b ∈ fp,∀ o,h.get? b=some o->h'.get? b=some o)->tn i h'
 item:∀ (X:Cx),X.prog=P->X.w=w->X.K=K->Ck kd X->∀ (i:Nat) (pins:List (Addr × Obj)) (s:Shared) (σ:St) (H:Hp) (E:Value->Shared->Prop),Inv X pins σ H s->(∀ b ∈ fp,jP X pins H b)->tn i s.heap->J.go i H ->
   wpAny (model P w) X.A (pyNext (.ref it)) (λr s1=>∃ u,r=some u /\
     wpAny (model P w) X.A (letOwnedTupleGo tg (.ref it) u) (λ_ s2=>∃ x H',Inv X pins σ H' s2/\RelV x u/\J.yld i H x H'/\tn (i + 1) s2.heap/\∀ b ∈ fp,H' b=none) E s1) E s
 done:∀ (X:Cx),X.prog=P->X.w=w->X.K=K->Ck kd X->∀ (i:Nat) (pins:List (Addr × Obj)) (s:Shared) (σ:St) (H:Hp) (E:Value->Shared->Prop),Inv X pins σ H s->(∀ b ∈ fp,jP X pins H b)->tn i s.heap->J.stop i H ->
   wpAny (model P w) X.A (pyNext (.ref it)) (λr s1=>r=none/\Inv X pins σ H s1) E s
 self:∀ (A:Around) (i:Nat) (s:Shared) (Q:Value->Shared->Prop) (E:Value->Shared->Prop),tn i s.heap->Q (.ref it) s->wpAny (model P w) A (pyIter (.ref it)) Q E s
noncomputable abbrev TI:=St->Hp->(It->Hp->Prop)->Prop
noncomputable def PIE (X:Cx) (pins:List (Addr × Obj)) (σ:St) (tg:Expr) (R:It->Hp->Prop) (itv:Value) (s2:Shared):Prop:=
 ∃ (kd:Bool) (it:Addr) (fp:List Addr) (tn:Nat->Heap->Prop) (J:It) (H':Hp),itv=.ref it/\Inv X pins σ H' s2/\Ck kd X/\Turn X.prog X.w X.K kd tg J fp it tn/\tn 0 s2.heap/\(∀ b ∈ fp,jP X pins H' b)/\R J H'
noncomputable def PI (X:Cx) (tg iter:Expr) (wi:TI):Prop:=
 ∀ (pins:List (Addr × Obj)) (s:Shared) (σ:St) (H:Hp) (R:It->Hp->Prop),Inv X pins σ H s->wi σ H R ->
   wpAny (model X.prog X.w) X.A (eval iter X.env) (λv s1=>wpAny (model X.prog X.w) X.A (pyIter v) (PIE X pins σ tg R) X.xe s1) X.xe s
theorem jV {M:Model} {A:Around} {E:Value->Shared->Prop} {s:Shared} {tg:Expr} {it:Addr} {u:Value} {o:Obj} {n:String} {vs:Array Value} {Q:Unit->Shared->Prop} (ho:s.heap.get? it=some o) (hc:o.cls=.type n) (hd:o.data=.fields vs)
   (hn:["enumerate","zip","dict_itemiterator","dict_reverseitemiterator","odict_iterator","itertools.zip_longest","itertools.pairwise"].contains n=false) (hQ:Q () s):wpAny M A (letOwnedTupleGo tg (.ref it) u) Q E s:=by
 unfold letOwnedTupleGo
 cases tg <;> first
   | exact wpAny_pure hQ
   | (cases u <;> first
       | exact wpAny_pure hQ
       | (refine wpAny_bind (wpAny_load ho ?_)
          rw [hc,hd]
          show wpAny M A (if (["enumerate","zip","dict_itemiterator","dict_reverseitemiterator","odict_iterator","itertools.zip_longest","itertools.pairwise"].contains n && vs[0]? == some (rawInt _))=true then _ else _) Q E s
          rw [if_neg (by intro h; rw [hn,Bool.false_and] at h; cases h)]
          exact wpAny_pure hQ))
noncomputable def Itl (K:PySem.W.Frag) (a:Addr):It:=
 ⟨λi H=>∃ xs x,SqL K H a xs/\xs[i]?=some x,λi H x H'=>H'=H/\∀ xs,SqL K H a xs->xs[i]?=some x,λi H=>∃ xs,SqL K H a xs/\xs.length<=i⟩
noncomputable def Itt (K:PySem.W.Frag) (a:Addr):It:=
 ⟨λi H=>∃ xs x,SqT K H a xs/\xs[i]?=some x,λi H x H'=>H'=H/\∀ xs,SqT K H a xs->xs[i]?=some x,λi H=>∃ xs,SqT K H a xs/\xs.length<=i⟩
noncomputable def Itr (lo:Int) (n:Nat):It:=⟨λi _=>i < n,λi H x H'=>H'=H/\x=.int (lo + i),λi _=>n<=i⟩
theorem qC {P:Program} {w:World} {K:PySem.W.Frag} {tg:Expr} (a it:Addr):Turn P w K false tg (Itl K a) [it] it (λi h=>h.IsListIter it a i) where
 mem:=by simp
 obj:=λi h st b hb=>by
   have e:b=it:=by simpa using hb
   subst e
   obtain ⟨o,e,c,d⟩:=st
   exact ⟨o,e,λv z=>by rw [d] at z; cases z⟩
 keep:=λi h h' st k=>st.at λo e=>k it (by simp) o e
 item:=by
   intro X hP hw hK hc i pins s σ H E I hf st hg
   subst hP hw hK
   obtain ⟨xs,x,hq,hx⟩:=hg
   obtain ⟨its,rv,p,hz⟩:=I.list hq
   obtain ⟨u,hu,ru⟩:=rv.get hx
   obtain ⟨f0,f1,f2,f3,f4,f5⟩:=hf it (by simp)
   refine wpAny_pyNext_list_item st p.isList (x:=u) (by simpa using hu) λh' st' sb=>?_
   have I1:Inv X pins σ H { s with heap:=h' }:=I.turned (t':=s.toks) (λb o hb e=>(sb.2 b hb).trans e) f0 f1 f3 f4 f5
   obtain ⟨o,e,c,d⟩:=id st'
   exact ⟨u,rfl,jV (s:={ s with heap:=h' }) e c d (by decide) ⟨x,H,I1,ru,⟨rfl,λys hy=>by rw [I.eL hy hq]; exact hx⟩,st',λb hb=>(hf b hb).1⟩⟩
 done:=by
   intro X hP hw hK hc i pins s σ H E I hf st hg
   subst hP hw hK
   obtain ⟨xs,hq,hx⟩:=hg
   obtain ⟨its,rv,p,hz⟩:=I.list hq
   obtain ⟨f0,f1,f2,f3,f4,f5⟩:=hf it (by simp)
   have hl:=rv.length
   exact wpAny_pyNext_list_end (I.ok.hd hc.calm) st p.isList (by simp; omega) λh' eb=>⟨rfl,I.turned (t':=s.toks) (λb o hb e=>eb b o hb e) f0 f1 f3 f4 f5⟩
 self:=λ_ _ _ _ _ st h=>wpAny_pyIter_listiter st h
theorem nN {P:Program} {w:World} {K:PySem.W.Frag} {tg:Expr} (a it:Addr):Turn P w K false tg (Itt K a) [it] it (λi h=>h.IsTupleIter it a i) where
 mem:=by simp
 obj:=λi h st b hb=>by
   have e:b=it:=by simpa using hb
   subst e
   obtain ⟨o,e,c,d⟩:=st
   exact ⟨o,e,λv z=>by rw [d] at z; cases z⟩
 keep:=λi h h' st k=>st.at λo e=>k it (by simp) o e
 item:=by
   intro X hP hw hK hc i pins s σ H E I hf st hg
   subst hP hw hK
   obtain ⟨xs,x,hq,hx⟩:=hg
   obtain ⟨its,rv,p,hz⟩:=I.tuple hq
   obtain ⟨u,hu,ru⟩:=rv.get hx
   obtain ⟨f0,f1,f2,f3,f4,f5⟩:=hf it (by simp)
   refine wpAny_pyNext_tuple_item st (show s.heap.IsTuple a its.toArray from p) (x:=u) (by simpa using hu) λh' st' sb=>?_
   have I1:Inv X pins σ H { s with heap:=h' }:=I.turned (t':=s.toks) (λb o hb e=>(sb.2 b hb).trans e) f0 f1 f3 f4 f5
   obtain ⟨o,e,c,d⟩:=id st'
   exact ⟨u,rfl,jV (s:={ s with heap:=h' }) e c d (by decide) ⟨x,H,I1,ru,⟨rfl,λys hy=>by rw [I.qk hy hq]; exact hx⟩,st',λb hb=>(hf b hb).1⟩⟩
 done:=by
   intro X hP hw hK hc i pins s σ H E I hf st hg
   subst hP hw hK
   obtain ⟨xs,hq,hx⟩:=hg
   obtain ⟨its,rv,p,hz⟩:=I.tuple hq
   obtain ⟨f0,f1,f2,f3,f4,f5⟩:=hf it (by simp)
   have hl:=rv.length
   exact wpAny_pyNext_tuple_end (I.ok.hd hc.calm) st (show s.heap.IsTuple a its.toArray from p) (by simp; omega) λh' eb=>⟨rfl,I.turned (t':=s.toks) (λb o hb e=>eb b o hb e) f0 f1 f3 f4 f5⟩
 self:=λ_ _ _ _ _ st h=>wpAny_pyIter_tupleiter st h
theorem nu {P:Program} {w:World} {K:PySem.W.Frag} {tg:Expr} (it:Addr) (lo:Int) (n:Nat):Turn P w K true tg (Itr lo n) [it] it (λi h=>IsRangeIter h it (lo + (i:Nat) * 1) ((n:Int) - (i:Nat)) 1) where
 mem:=by simp
 obj:=λi h st b hb=>by
   have e:b=it:=by simpa using hb
   subst e
   exact ⟨_,st,λv z=>by
     have z':Data.fields _=Data.cell v:=z
     cases z'⟩
 keep:=λi h h' st k=>k it (by simp) _ st
 item:=by
   intro X hP hw hK hc i pins s σ H E I hf st hg
   subst hP hw hK
   obtain ⟨f0,f1,f2,f3,f4,f5⟩:=hf it (by simp)
   refine wpAny_pyNext_range_item st (by have:i < n:=hg; omega) λh' st0 sb=>?_
   have st':IsRangeIter h' it (lo + ((i + 1:Nat):Int) * 1) ((n:Int) - ((i + 1:Nat):Int)) 1:=by
     have e1:lo + ((i + 1:Nat):Int) * 1=lo + (i:Nat) * 1 + 1:=by omega
     have e2:(n:Int) - ((i + 1:Nat):Int)=(n:Int) - (i:Nat) - 1:=by omega
     rw [e1,e2]; exact st0
   have I1:Inv X pins σ H { s with heap:=h',toks:=s.toks + 1 }:=I.turned (λb o hb e=>(sb.2 b hb).trans e) f0 f1 f3 f4 f5
   refine ⟨_,rfl,jV (s:={ s with heap:=h',toks:=s.toks + 1 }) (n:="range_iterator") st' rfl rfl (by decide) ⟨.int (lo + i),H,I1,⟨s.toks,?_⟩,⟨rfl,rfl⟩,st',λb hb=>(hf b hb).1⟩⟩
   rw [Int.mul_one]
 done:=by
   intro X hP hw hK hc i pins s σ H E I hf st hg
   subst hP hw hK
   obtain ⟨f0,f1,f2,f3,f4,f5⟩:=hf it (by simp)
   rcases hc with hc | ⟨_,q,o,u,vs,e1,e2,e3,e4⟩
   · exact wpAny_pyNext_range_end (I.ok.hd hc) st (by have:n<=i:=hg; omega) λh' eb=>⟨rfl,I.turned (t':=s.toks) (λb o hb e=>eb b o hb e) f0 f1 f3 f4 f5⟩
   · have e5:=I.hok q _ (I.base.frzs q o u e2)
     exact Hx.m7 e1 e5.1 e3 e4 st (by have:n<=i:=hg; omega) λh' eb=>⟨rfl,I.turned (t':=s.toks) (λb o hb e=>eb b o hb e) f0 f1 f3 f4 f5⟩
 self:=λ_ _ _ _ _ st h=>wpAny_pyIter_rangeiter st h
section
variable {X:Cx} {tg:Expr}
noncomputable def zg (K:PySem.W.Frag) (tl:TE):TI:=λσ H R=>tl σ H λx H1=>∃ a,x=.ref a/\(∃ xs,SqL K H1 a xs)/\R (Itl K a) H1
noncomputable def An (K:PySem.W.Frag) (tl:TE):TI:=λσ H R=>tl σ H λx H1=>∃ a,x=.ref a/\(∃ xs,SqT K H1 a xs)/\R (Itt K a) H1
theorem ug {l:Expr} {tl:TE} (hc:X.calm=true) (hl:PE X l tl):PI X tg l (zg X.K tl):=by
 intro pins s σ H R I h
 refine thn (hl pins s σ H _ I h) λv s1 ⟨x,H1,I1,r1,q1⟩=>?_
 obtain ⟨a,e,⟨xs,hq⟩,q⟩:=q1
 subst e
 cases r1
 obtain ⟨its,rv,p,hz⟩:=I1.list hq
 refine wpAny_pyIter_list p.isList ?_
 refine ⟨false,s1.heap.objs.size,[s1.heap.objs.size],_,_,H1,rfl,I1.kept (t':=s1.toks) λb o e=>Heap.get?_push_of_some _ e,.inl hc,qC a _,⟨_,Heap.get?_push_size _ rfl,rfl,rfl⟩,λb hb=>?_,q⟩
 have e:b=s1.heap.objs.size:=by simpa using hb
 subst e
 exact I1.jx (Nat.le_refl _) (I1.hok.fresh (Nat.le_refl _))
theorem xI {l:Expr} {tl:TE} (hc:X.calm=true) (hl:PE X l tl):PI X tg l (An X.K tl):=by
 intro pins s σ H R I h
 refine thn (hl pins s σ H _ I h) λv s1 ⟨x,H1,I1,r1,q1⟩=>?_
 obtain ⟨a,e,⟨xs,hq⟩,q⟩:=q1
 subst e
 cases r1
 obtain ⟨its,rv,p,hz⟩:=I1.tuple hq
 refine wpAny_pyIter_tuple (show s1.heap.IsTuple a its.toArray from p) ?_
 refine ⟨false,s1.heap.objs.size,[s1.heap.objs.size],_,_,H1,rfl,I1.kept (t':=s1.toks) λb o e=>Heap.get?_push_of_some _ e,.inl hc,nN a _,⟨_,Heap.get?_push_size _ rfl,rfl,rfl⟩,λb hb=>?_,q⟩
 have e:b=s1.heap.objs.size:=by simpa using hb
 subst e
 exact I1.jx (Nat.le_refl _) (I1.hok.fresh (Nat.le_refl _))
theorem l7 {pins:List (Addr × Obj)} {σ:St} {H:Hp} {s:Shared} {R:It->Hp->Prop} {E:Value->Shared->Prop} {lo hi:Int} {t u v:Tok} {tk:Nat} (hc:Ck true X) (I:Inv X pins σ H s) (h1:-(2 ^ 62)<=lo) (h2:lo < 2 ^ 62) (h3:-(2 ^ 62)<=hi) (h4:hi < 2 ^ 62)
   (q:R (Itr lo (hi - lo).toNat) H):wpAny (model X.prog X.w) X.A (pyIter (.ref s.heap.objs.size)) (PIE X pins σ tg R) E { s with heap:=s.heap.push { cls:=.type "range",data:=.fields #[.int lo t,.int hi u,.int 1 v] },toks:=tk }:=by
 refine wpAny_pyIter_range (IsRange.new ..) (small_one h1 h2 h3 h4) ?_
 have I1:Inv X pins σ H { s with heap:=s.heap.push { cls:=.type "range",data:=.fields #[.int lo t,.int hi u,.int 1 v] },toks:=tk }:=I.kept λb o e=>Heap.get?_push_of_some _ e
 refine ⟨true,(s.heap.push { cls:=.type "range",data:=.fields #[.int lo t,.int hi u,.int 1 v] }).objs.size,[(s.heap.push { cls:=.type "range",data:=.fields #[.int lo t,.int hi u,.int 1 v] }).objs.size],_,_,H,rfl,
   I1.kept (t':=tk) λb o e=>Heap.get?_push_of_some _ e,hc,nu _ lo (hi - lo).toNat,?_,λb hb=>?_,q⟩
 · have e1:lo + ((0:Nat):Int) * 1=lo:=by simp
   have e2:(((hi - lo).toNat:Nat):Int) - ((0:Nat):Int)=Builtin.Range.rangeSize lo hi 1:=by rw [rangeSize_one]; split <;> omega
   show IsRangeIter _ _ (lo + ((0:Nat):Int) * 1) ((((hi - lo).toNat:Nat):Int) - ((0:Nat):Int)) 1
   rw [e1,e2]
   exact Heap.get?_push_size _ rfl
 · have e:b=(s.heap.push { cls:=.type "range",data:=.fields #[.int lo t,.int hi u,.int 1 v] }).objs.size:=by simpa using hb
   subst e
   exact I1.jx (Nat.le_refl _) (I1.hok.fresh (Nat.le_refl _))
noncomputable def yY (ta:TA):TI:=λσ H R=>ta σ H λvs H1=>∃ j:Int,vs=[.int j]/\-(2 ^ 62)<=j/\j < 2 ^ 62/\R (Itr 0 j.toNat) H1
noncomputable def yv (ta:TA):TI:=λσ H R=>ta σ H λvs H1=>∃ i j:Int,vs=[.int i,.int j]/\(-(2 ^ 62)<=i/\i < 2 ^ 62/\-(2 ^ 62)<=j/\j < 2 ^ 62)/\R (Itr i (j - i).toNat) H1
theorem qG {a:Expr} {ta:TA} {p pos:Pos} (hc:Ck true X) (hg:Gl X "range") (hm:X.mg "range" = none) (ha:PA X [a] ta) (hs:starEach [a] X.env=[(false,eval a X.env)]:=by rfl):PI X tg (.Call (.Name "range" p) [a] [] pos) (yY ta):=by
 intro pins s σ H R I h
 refine Call_ (dg I hg hm boot_range (PyProof.Rows.callWith_type1 (thn (ha pos pins s σ H _ I h) λus s1 ⟨vs,H1,I1,r1,q1⟩=>?_) hs rfl))
 obtain ⟨j,e,q1,q2,q⟩:=q1
 subst e
 cases r1 with
 | cons r rr=>
   cases rr
   obtain ⟨t,rfl⟩:=r
   exact call_range_1 (l7 hc I1 (by omega) (by omega) q1 q2 (by simpa using q))
theorem pV {a b:Expr} {ta:TA} {p pos:Pos} (hc:Ck true X) (hg:Gl X "range") (hm:X.mg "range" = none) (ha:PA X [a,b] ta) (hs:starEach [a,b] X.env=[(false,eval a X.env),(false,eval b X.env)]:=by rfl) (hs2:starEach [b] X.env=[(false,eval b X.env)]:=by rfl) :
   PI X tg (.Call (.Name "range" p) [a,b] [] pos) (yv ta):=by
 intro pins s σ H R I h
 refine Call_ (dg I hg hm boot_range (PyProof.Rows.callWith_type1 (thn (ha pos pins s σ H _ I h) λus s1 ⟨vs,H1,I1,r1,q1⟩=>?_) (by rw [hs,hs2]) (by rw [hs2]; rfl)))
 obtain ⟨i,j,e,⟨q1,q2,q3,q4⟩,q⟩:=q1
 subst e
 cases r1 with
 | cons r rr=>
   cases rr with
   | cons r' rr=>
     cases rr
     obtain ⟨t,rfl⟩:=r
     obtain ⟨t',rfl⟩:=r'
     exact call_range_2 (l7 hc I1 q1 q2 q3 q4 q)
noncomputable def Ae (wi:TI) (g:TG) (tb:TS):TS:=λD σ H=>wi σ H λJ H1=>∃ W:Nat->Nat->St->Hp->Prop,(∃ m,W 0 m σ H1)/\∀ i m σ H,W i m σ H ->
 (J.stop i H/\D.nx σ H)\/(J.go i H/\∃ N:St->Hp->Prop,(∀ σ' H',N σ' H'->∃ m',m' < m/\W (i + 1) m' σ' H')/\∀ x H',J.yld i H x H'->g x σ H' λσ2 H2=>tb { D with nx:=N,ct:=N,bk:=D.nx } σ2 H2)
noncomputable def fH (fp:List Addr) (h:Heap):List (Addr × Obj):=fp.filterMap λb=>(h.get? b).map λo=>(b,o)
theorem bK {fp:List Addr} {h:Heap} {b:Addr} {o:Obj} (hb:b ∈ fp) (e:h.get? b=some o):(b,o) ∈ fH fp h:=List.mem_filterMap.mpr ⟨b,hb,by rw [e]; rfl⟩
theorem qA {fp:List Addr} {h:Heap} {p:Addr × Obj} (hp:p ∈ fH fp h):p.1 ∈ fp/\h.get? p.1=some p.2:=by
 obtain ⟨b,hb,e⟩:=List.mem_filterMap.mp hp
 cases q:h.get? b with
 | none=>rw [q] at e; cases e
 | some o=>
   rw [q] at e
   have e':(b,o)=p:=Option.some.inj e
   subst e'
   exact ⟨hb,q⟩
theorem Inv.pinned {pins:List (Addr × Obj)} {σ:St} {H:Hp} {s:Shared} {fp:List Addr} (I:Inv X pins σ H s) (hf:∀ b ∈ fp,jP X pins H b) (ho:∀ b ∈ fp,∃ o,s.heap.get? b=some o/\∀ v,o.data ≠ .cell v):Inv X (pins++fH fp s.heap) σ H s:=
 I.pB λp hp=>(List.mem_append.mp hp).elim (λz=>I.pin p (List.mem_append_right _ z)) λz=>by
   obtain ⟨hb,e⟩:=qA z
   obtain ⟨f0,f1,f2,_⟩:=hf p.1 hb
   obtain ⟨o,e',d⟩:=ho p.1 hb
   rw [e] at e'; cases e'
   exact ⟨e,f0,f1,f2,d⟩
theorem Inv.cV {pins pl:List (Addr × Obj)} {σ:St} {H:Hp} {s:Shared} (I:Inv X (pins++pl) σ H s):Inv X pins σ H s:=I.pB λp hp=>I.pin p (List.mem_append_right _ (List.mem_append_left _ hp))
theorem xw {iter:Expr} {body:List Stmt} {wi:TI} {g:TG} {tb:TS} {pos:Pos} (hp:PassesOwn (model X.prog X.w) X.A X.env X.xe) (hi:PI X tg iter wi) (hg:PG X tg g) (hb:PSs X body tb)
   (hs:∀ x,foldedSetIterable iter X.env x=pure x:=by intro _; rfl):PS X (.For tg iter body [] pos) (Ae wi g tb):=by
 intro pins s σ H D I h
 refine wpAny_For (thn (hi pins s σ H _ I h) λv s1 h1=>thn h1 λitv s2 h2=>?_) hs
 obtain ⟨kd,it,fp,tn,J,H2,e,I2,hc,T,st2,f2,W,⟨m0,w0⟩,turn⟩:=h2
 subst e
 have stat:∀ {H':Hp},(∀ b ∈ fp,H' b=none)->∀ b ∈ fp,jP X pins H' b:=λhn b hb=>⟨hn b hb,(f2 b hb).2⟩
 refine codeAny_forLoop_any (λn s'=>∃ i σ' H',Inv X pins σ' H' s'/\tn i s'.heap/\(∀ b ∈ fp,H' b=none)/\W i n σ' H') ?_ m0 ⟨0,σ,H2,I2,st2,λb hb=>(f2 b hb).1,w0⟩
 rintro n s3 ⟨i,σ3,H3,I3,st3,fr3,w3⟩
 rcases turn i n σ3 H3 w3 with ⟨stop,qn⟩ | ⟨go,N,hN,step⟩
 · refine wpAny_passesOwn hp (thn (T.done X rfl rfl rfl hc i pins s3 σ3 H3 X.xe I3 (stat fr3) st3 stop) λr s4 ⟨hr,I4⟩=>?_)
   subst hr
   exact wpAny_execs_nil ⟨σ3,H3,I4,qn⟩
 · refine wpAny_passesOwn hp (thn (T.item X rfl rfl rfl hc i pins s3 σ3 H3 X.xe I3 (stat fr3) st3 go) λr s4 ⟨u,hr,h4⟩=>?_)
   subst hr
   refine wpAny_passesOwn hp (thn h4 λ_ s5 ⟨x,H5,I5,r5,y5,st5,fr5⟩=>?_)
   have I5':=I5.pinned (stat fr5) (T.obj _ _ st5)
   refine wpAny_passesOwn hp (thn (hg _ s5 σ3 H5 x u _ I5' r5 (step x H5 y5)) λ_ s6 ⟨σ6,H6,I6,q6⟩=>?_)
   refine wpAny_passesOwn hp (thn (hb _ s6 σ6 H6 _ I6 q6) λf s7 q7=>?_)
   have again:∀ {σ7:St} {H7:Hp},Inv X (pins++fH fp s5.heap) σ7 H7 s7->N σ7 H7->∃ m,m < n/\∃ i σ' H',Inv X pins σ' H' s7/\tn i s7.heap/\(∀ b ∈ fp,H' b=none)/\W i m σ' H':=λ{σ7 H7} I7 n7=>by
     obtain ⟨m',hm,w7⟩:=hN σ7 H7 n7
     refine ⟨m',hm,i + 1,σ7,H7,I7.cV,T.keep _ _ _ st5 λb hb o e=>(I7.pin (b,o) (List.mem_append_right _ (List.mem_append_right _ (bK hb e)))).1,λb hb=>?_,w7⟩
     obtain ⟨o,e,d⟩:=T.obj _ _ st5 b hb
     exact (I7.pin (b,o) (List.mem_append_right _ (List.mem_append_right _ (bK hb e)))).2.1
   cases f with
   | next=>obtain ⟨σ7,H7,I7,n7⟩:=q7; exact again I7 n7
   | cont=>obtain ⟨σ7,H7,I7,n7⟩:=q7; exact again I7 n7
   | brk=>obtain ⟨σ7,H7,I7,q7⟩:=q7; exact ⟨σ7,H7,I7.cV,q7⟩
   | ret v=>obtain ⟨x7,σ7,H7,I7,r7,q7⟩:=q7; exact ⟨x7,σ7,H7,I7.cV,r7,q7⟩
end
noncomputable abbrev R2:=V->V->Hp->VK->Prop
noncomputable def OpR (X:Cx) (f:Value->Value->Sem Value) (r:R2):Prop:=
 ∀ (pins:List (Addr × Obj)) (s:Shared) (σ:St) (H:Hp) (x y:V) (v u:Value) (Q:VK),Inv X pins σ H s->RelV x v->RelV y u->r x y H Q ->
   wpAny (model X.prog X.w) X.A (f v u) (EP X pins σ Q) X.xe s
noncomputable def UnR (X:Cx) (f:Value->Sem Value) (r:V->Hp->VK->Prop):Prop:=
 ∀ (pins:List (Addr × Obj)) (s:Shared) (σ:St) (H:Hp) (x:V) (v:Value) (Q:VK),Inv X pins σ H s->RelV x v->r x H Q ->
   wpAny (model X.prog X.w) X.A (f v) (EP X pins σ Q) X.xe s
noncomputable def dJ (X:Cx) (f:Value) (r:List V->Hp->VK->Prop):Prop:=
 ∀ (pins:List (Addr × Obj)) (s:Shared) (σ:St) (H:Hp) (xs:List V) (us:List Value) (Q:VK),Inv X pins σ H s->Vals xs us->r xs H Q ->
   wpAny (model X.prog X.w) X.A (call f us) (EP X pins σ Q) X.xe s
noncomputable def tOp (r:R2) (ta tb:TE):TE:=λσ H Q=>ta σ H λx H1=>tb σ H1 λy H2=>r x y H2 Q
noncomputable def tUn (r:V->Hp->VK->Prop) (ta:TE):TE:=λσ H Q=>ta σ H λx H1=>r x H1 Q
noncomputable def rI (C:Int->Int->Prop) (g:Int->Int->V):R2:=λx y H Q=>∃ i j,x=.int i/\y=.int j/\C i j/\Q (g i j) H
noncomputable def rI0 (g:Int->Int->V):R2:=λx y H Q=>∃ i j,x=.int i/\y=.int j/\Q (g i j) H
noncomputable def rU (g:Int->V):V->Hp->VK->Prop:=λx H Q=>∃ i,x=.int i/\Q (g i) H
section
variable {X:Cx} {a b c:Expr} {ta tb tc:TE} {pos:Pos}
theorem wy (ha:PE X a ta) (hb:PE X b tb) {pins:List (Addr × Obj)} {s:Shared} {σ:St} {H:Hp} {R:V->V->Hp->Prop} (I:Inv X pins σ H s)
   (h:ta σ H λx H1=>tb σ H1 λy H2=>R x y H2) {Q:Value->Shared->Prop} {f:Value->Value->Sem Value}
   (hf:∀ v u s2 x y H2,Inv X pins σ H2 s2->RelV x v->RelV y u->R x y H2->wpAny (model X.prog X.w) X.A (f v u) Q X.xe s2) :
   wpAny (model X.prog X.w) X.A (eval a X.env) (λv s₁=>wpAny (model X.prog X.w) X.A (eval b X.env) (λu s₂=>wpAny (model X.prog X.w) X.A (f v u) Q X.xe s₂) X.xe s₁) X.xe s:=by
 refine thn (ha pins s σ H _ I h) λv s1 ⟨x,H1,I1,r1,q1⟩=>?_
 refine thn (hb pins s1 σ H1 _ I1 q1) λu s2 ⟨y,H2,I2,r2,q2⟩=>?_
 exact hf v u s2 x y H2 I2 r1 r2 q2
theorem q9 {op:Operator} {r:R2} (ho:OpR X (binaryOp op) r) (ha:PE X a ta) (hb:PE X b tb):PE X (.BinOp a op b pos) (tOp r ta tb):=by
 intro pins s σ H Q I h
 exact wpAny_BinOp (wy ha hb I h λv u s2 x y H2 I2 rx ry q=>ho pins s2 σ H2 x y v u Q I2 rx ry q)
theorem yI {op:UnaryOp} {r:V->Hp->VK->Prop} (ho:UnR X (unaryOp op) r) (ha:PE X a ta):PE X (.UnaryOp op a pos) (tUn r ta):=by
 intro pins s σ H Q I h
 exact UnaryOp_ (thn (ha pins s σ H _ I h) λv s1 ⟨x,H1,I1,r1,q1⟩=>ho pins s1 σ H1 x v Q I1 r1 q1)
theorem opI {f:Value->Value->Sem Value} {C:Int->Int->Prop} {g:Int->Int->Int}
   (rule:∀ (i j:Int) (t u:Tok) (s:Shared) (Q:Value->Shared->Prop) (E:Value->Shared->Prop),C i j->Q (.int (g i j) s.toks) { s with toks:=s.toks + 1 }->wpAny (model X.prog X.w) X.A (f (.int i t) (.int j u)) Q E s) :
   OpR X f (rI C λi j=>.int (g i j)):=by
 intro pins s σ H x y v u Q I rx ry h
 obtain ⟨i,j,rfl,rfl,hc,q⟩:=h
 obtain ⟨t,rfl⟩:=rx
 obtain ⟨t',rfl⟩:=ry
 exact rule i j t t' s _ _ hc ⟨.int (g i j),H,I.tok _,⟨_,rfl⟩,q⟩
theorem xY {f:Value->Value->Sem Value} {g:Int->Int->Int}
   (rule:∀ (i j:Int) (t u:Tok) (s:Shared) (Q:Value->Shared->Prop) (E:Value->Shared->Prop),Q (.int (g i j) s.toks) { s with toks:=s.toks + 1 }->wpAny (model X.prog X.w) X.A (f (.int i t) (.int j u)) Q E s) :
   OpR X f (rI0 λi j=>.int (g i j)):=by
 intro pins s σ H x y v u Q I rx ry h
 obtain ⟨i,j,rfl,rfl,q⟩:=h
 obtain ⟨t,rfl⟩:=rx
 obtain ⟨t',rfl⟩:=ry
 exact rule i j t t' s _ _ ⟨.int (g i j),H,I.tok _,⟨_,rfl⟩,q⟩
theorem uu {f:Value->Value->Sem Value} {g:Int->Int->Bool}
   (rule:∀ (i j:Int) (t u:Tok) (s:Shared) (Q:Value->Shared->Prop) (E:Value->Shared->Prop),Q (.bool (g i j)) s->wpAny (model X.prog X.w) X.A (f (.int i t) (.int j u)) Q E s) :
   OpR X f (rI0 λi j=>.bl (g i j)):=by
 intro pins s σ H x y v u Q I rx ry h
 obtain ⟨i,j,rfl,rfl,q⟩:=h
 obtain ⟨t,rfl⟩:=rx
 obtain ⟨t',rfl⟩:=ry
 exact rule i j t t' s _ _ ⟨.bl (g i j),H,I,rfl,q⟩
noncomputable def r6 (i j:Int):Prop:=0<=j/\j<=1000000/\i.natAbs < 2 ^ 64
theorem nO (k:Nat):(0:Int)<=2 ^ k:=by
 rw [two_pow_cast]
 exact Int.natCast_nonneg _
theorem x8:OpR X (binaryOp .Add) (rI0 λi j=>.int (i + j)):=xY λ_ _ _ _ _ _ _ q=>add_int q
theorem xp:OpR X (binaryOp .Sub) (rI0 λi j=>.int (i - j)):=xY λ_ _ _ _ _ _ _ q=>sub_int q
theorem va:OpR X (binaryOp .Mod) (rI (λ_ j=>j ≠ 0) λi j=>.int (i.fmod j)):=opI λ_ _ _ _ _ _ _ hc q=>mod_int' hc q
theorem xl:OpR X (binaryOp .Pow) (rI r6 λi j=>.int (i ^ j.toNat)):=opI λ_ _ _ _ _ _ _ hc q=>pow_int_small hc.1 hc.2.1 hc.2.2 q
theorem xF:OpR X (binaryOp .LShift) (rI r6 λi j=>.int (i * 2 ^ j.toNat)):=opI λ_ _ _ _ _ _ _ hc q=>lshift_int_small hc.1 hc.2.1 hc.2.2 q
theorem wx:OpR X (binaryOp .RShift) (rI (λ_ j=>0<=j) λi j=>.int (i / 2 ^ j.toNat)):=opI λi j _ _ _ _ _ hc q=>
 rshift_int hc (by rw [Int.fdiv_eq_ediv_of_nonneg i (nO _)]; exact q)
theorem xQ:OpR X (binaryOp .BitAnd) (rI0 λi j=>.int (Builtin.bitAnd i j)):=xY λ_ _ _ _ _ _ _ q=>and_int q
theorem unI {f:Value->Sem Value} {g:Int->Int}
   (rule:∀ (i:Int) (t:Tok) (s:Shared) (Q:Value->Shared->Prop) (E:Value->Shared->Prop),Q (.int (g i) s.toks) { s with toks:=s.toks + 1 }->wpAny (model X.prog X.w) X.A (f (.int i t)) Q E s) :
   UnR X f (rU λi=>.int (g i)):=by
 intro pins s σ H x v Q I rx h
 obtain ⟨i,rfl,q⟩:=h
 obtain ⟨t,rfl⟩:=rx
 exact rule i t s _ _ ⟨.int (g i),H,I.tok _,⟨_,rfl⟩,q⟩
theorem xV:UnR X (unaryOp .USub) (rU λi=>.int (-i)):=unI λ_ _ _ _ _ q=>neg_int q
end
noncomputable def zx:V->V->Bool
 | .non,.non=>true | .non,.int _=>true | .int _,.non=>true | .non,.bl _=>true | .bl _,.non=>true | .non,.str _=>true | .str _,.non=>true
 | .int _,.int _=>true | .bl _,.bl _=>true | .str _,.str _=>true | .byt _,.byt _=>true
 | .int _,.str _=>true | .str _,.int _=>true | .bl _,.str _=>true | .str _,.bl _=>true
 | _,_=>false
noncomputable def rEq:R2:=λx y H Q=>zx x y=true/\Q (.bl (decide (x=y))) H
noncomputable def rNe:R2:=λx y H Q=>zx x y=true/\Q (.bl (!decide (x=y))) H
theorem pL {i j:Int}:decide (V.int i=V.int j)=(i == j):=by
 rw [Bool.eq_iff_iff]
 simp
theorem tQ {i j:Bool}:decide (V.bl i=V.bl j)=(i == j):=by
 rw [Bool.eq_iff_iff]
 simp
theorem pb {i j:Str}:decide (V.str i=V.str j)=(i == j):=by
 rw [Bool.eq_iff_iff]
 simp
theorem pU {i j:Array UInt8}:decide (V.byt i=V.byt j)=(i.toList == j.toList):=by
 rw [Bool.eq_iff_iff]
 cases i
 cases j
 simp
section
variable {X:Cx} {a b c:Expr} {ta tb tc:TE} {pos:Pos}
theorem aP {pins:List (Addr × Obj)} {σ:St} {H:Hp} {s:Shared} {Q:VK} {k k':Bool} (I:Inv X pins σ H s) (q:Q (.bl k) H) (e:k=k'):EP X pins σ Q (.bool k') s:=by
 subst e
 exact ⟨.bl k,H,I,rfl,q⟩
theorem vJ:OpR X (compareOp .Eq) rEq:=by
 intro pins s σ H x y v u Q I rx ry h
 obtain ⟨hs,q⟩:=h
 cases x with
 | non=>
   cases rx
   cases y with
   | non=>cases ry; exact PySem.EqNone.eq_none_none (aP I q (by simp))
   | bl j=>cases ry; exact PySem.EqNone.eq_none_bool (aP I q (by simp))
   | int j=>obtain ⟨t',rfl⟩:=ry; exact PySem.EqNone.eq_none_int (aP I q (by simp))
   | str j=>obtain ⟨t',rfl⟩:=ry; exact PySem.EqNone.eq_none_str (aP I q (by simp))
   | _=>exact absurd (show false=true from hs) Bool.false_ne_true
 | bl i=>
   cases rx
   cases y with
   | non=>cases ry; exact PySem.EqNone.eq_bool_none (aP I q (by simp))
   | bl j=>cases ry; exact eq_bool (aP I q tQ)
   | str j=>obtain ⟨t',rfl⟩:=ry; exact PySem.EqMixed.eq_bool_str (aP I q (by simp))
   | _=>exact absurd (show false=true from hs) Bool.false_ne_true
 | int i=>
   obtain ⟨t,rfl⟩:=rx
   cases y with
   | non=>cases ry; exact PySem.EqNone.eq_int_none (aP I q (by simp))
   | int j=>obtain ⟨t',rfl⟩:=ry; exact eq_int (aP I q pL)
   | str j=>obtain ⟨t',rfl⟩:=ry; exact PySem.EqMixed.eq_int_str (aP I q (by simp))
   | _=>exact absurd (show false=true from hs) Bool.false_ne_true
 | str i=>
   obtain ⟨t,rfl⟩:=rx
   cases y with
   | non=>cases ry; exact PySem.EqNone.eq_str_none (aP I q (by simp))
   | bl j=>cases ry; exact PySem.EqMixed.eq_str_bool (aP I q (by simp))
   | int j=>obtain ⟨t',rfl⟩:=ry; exact PySem.EqMixed.eq_str_int (aP I q (by simp))
   | str j=>obtain ⟨t',rfl⟩:=ry; exact eq_str (aP I q pb)
   | _=>exact absurd (show false=true from hs) Bool.false_ne_true
 | byt i=>
   obtain ⟨t,rfl⟩:=rx
   cases y with
   | byt j=>obtain ⟨t',rfl⟩:=ry; exact PySem.W.eq_bytes (aP I q pU)
   | _=>exact absurd (show false=true from hs) Bool.false_ne_true
 | _=>cases y <;> exact absurd (show false=true from hs) Bool.false_ne_true
theorem vB:OpR X (compareOp .NotEq) rNe:=by
 intro pins s σ H x y v u Q I rx ry h
 obtain ⟨hs,q⟩:=h
 cases x with
 | non=>
   cases rx
   cases y with
   | non=>cases ry; exact PySem.EqNone.ne_none_none (aP I q (by simp))
   | bl j=>cases ry; exact PySem.EqNone.ne_none_bool (aP I q (by simp))
   | int j=>obtain ⟨t',rfl⟩:=ry; exact PySem.EqNone.ne_none_int (aP I q (by simp))
   | str j=>obtain ⟨t',rfl⟩:=ry; exact PySem.EqNone.ne_none_str (aP I q (by simp))
   | _=>exact absurd (show false=true from hs) Bool.false_ne_true
 | bl i=>
   cases rx
   cases y with
   | non=>cases ry; exact PySem.EqNone.ne_bool_none (aP I q (by simp))
   | bl j=>cases ry; exact ne_bool (aP I q (congrArg not tQ))
   | str j=>obtain ⟨t',rfl⟩:=ry; exact PySem.EqMixed.ne_bool_str (aP I q (by simp))
   | _=>exact absurd (show false=true from hs) Bool.false_ne_true
 | int i=>
   obtain ⟨t,rfl⟩:=rx
   cases y with
   | non=>cases ry; exact PySem.EqNone.ne_int_none (aP I q (by simp))
   | int j=>obtain ⟨t',rfl⟩:=ry; exact ne_int (aP I q (congrArg not pL))
   | str j=>obtain ⟨t',rfl⟩:=ry; exact PySem.EqMixed.ne_int_str (aP I q (by simp))
   | _=>exact absurd (show false=true from hs) Bool.false_ne_true
 | str i=>
   obtain ⟨t,rfl⟩:=rx
   cases y with
   | non=>cases ry; exact PySem.EqNone.ne_str_none (aP I q (by simp))
   | bl j=>cases ry; exact PySem.EqMixed.ne_str_bool (aP I q (by simp))
   | int j=>obtain ⟨t',rfl⟩:=ry; exact PySem.EqMixed.ne_str_int (aP I q (by simp))
   | str j=>obtain ⟨t',rfl⟩:=ry; exact ne_str (aP I q (congrArg not pb))
   | _=>exact absurd (show false=true from hs) Bool.false_ne_true
 | byt i=>
   obtain ⟨t,rfl⟩:=rx
   cases y with
   | byt j=>obtain ⟨t',rfl⟩:=ry; exact PySem.W.ne_bytes (aP I q (congrArg not pU))
   | _=>exact absurd (show false=true from hs) Bool.false_ne_true
 | _=>cases y <;> exact absurd (show false=true from hs) Bool.false_ne_true
theorem yR:OpR X (compareOp .Lt) (rI0 λi j=>.bl (decide (i < j))):=uu λ_ _ _ _ _ _ _ q=>lt_int q
theorem yx:OpR X (compareOp .LtE) (rI0 λi j=>.bl (decide (i<=j))):=uu λ_ _ _ _ _ _ _ q=>le_int q
theorem yM:OpR X (compareOp .Gt) (rI0 λi j=>.bl (decide (j < i))):=uu λ_ _ _ _ _ _ _ q=>gt_int q
theorem zt:OpR X (compareOp .GtE) (rI0 λi j=>.bl (decide (j<=i))):=uu λ_ _ _ _ _ _ _ q=>ge_int q
theorem qO:OpR X (compareOp .In) (λx y H Q=>∃ i j,x=.str i/\y=.str j/\Q (.bl (!(Builtin.Str.occurrences j i 0 j.length 1).isEmpty)) H):=by
 intro pins s σ H x y v u Q I rx ry h
 obtain ⟨i,j,rfl,rfl,q⟩:=h
 obtain ⟨t,rfl⟩:=rx
 obtain ⟨t',rfl⟩:=ry
 exact in_str (aP I q rfl)
theorem sQ (b:Expr) {op:CmpOp} (h:op ≠ .In:=by decide) (h2:op ≠ .NotIn:=by decide):behindInMarks op b=false:=by
 have e1:(op == CmpOp.In)=false:=by cases op <;> first | rfl | exact absurd rfl h
 have e2:(op == CmpOp.NotIn)=false:=by cases op <;> first | rfl | exact absurd rfl h2
 cases b <;> simp [behindInMarks,e1,e2]
theorem u6 {op:CmpOp} {r:R2} (ho:OpR X (compareOp op) r) (ha:PE X a ta) (hb:PE X b tb) (hm:behindInMarks op b=false):PE X (.Compare a [op] [b] pos) (tOp r ta tb):=by
 intro pins s σ H Q I h
 exact wpAny_Compare1 (wy ha hb I h λv u s2 x y H2 I2 rx ry q=>ho pins s2 σ H2 x y v u Q I2 rx ry q) hm
noncomputable def vZ (t:TE):TT:=λσ H Q=>t σ H λx H'=>∃ k,x=.bl k/\Q k H'
theorem uo {op:CmpOp} {r:R2} (ho:OpR X (compareOp op) r) (ha:PE X a ta) (hb:PE X b tb) (hm:behindInMarks op b=false):PT X (.Compare a [op] [b] pos) (vZ (tOp r ta tb)):=by
 intro pins s σ H Q I h
 refine wpAny_isTrue_Compare1 (thn (ha pins s σ H _ I h) λv s1 ⟨x,H1,I1,r1,q1⟩=>thn (hb pins s1 σ H1 _ I1 q1) λu s2 ⟨y,H2,I2,r2,q2⟩=>
   thn (ho pins s2 σ H2 x y v u _ I2 r1 r2 q2) λc s3 ⟨z,H3,I3,r3,k,e,q3⟩=>?_) hm
 subst e
 cases r3
 exact wpAny_truthy_bool ⟨H3,I3,q3⟩
noncomputable def nH (r r':R2) (ta tb tc:TE):TE:=λσ H Q=>ta σ H λx H1=>tb σ H1 λy H2=>r x y H2 λz H3=>∃ k,z=.bl k /\
 (if k=true then tc σ H3 λw' H4=>r' y w' H4 Q else Q (.bl false) H3)
theorem tm {op op':CmpOp} {r r':R2} (ho:OpR X (compareOp op) r) (ho':OpR X (compareOp op') r') (ha:PE X a ta) (hb:PE X b tb) (hc:PE X c tc)
   (hm:lastMarks [op,op'] [b,c]=false:=by with_unfolding_all rfl):PE X (.Compare a [op,op'] [b,c] pos) (nH r r' ta tb tc):=by
 intro pins s σ H Q I h
 refine Compare_chain (thn (ha pins s σ H _ I h) λv s1 ⟨x,H1,I1,r1,q1⟩=>chain_link (thn (hb pins s1 σ H1 _ I1 q1) λu s2 ⟨y,H2,I2,r2,q2⟩=>
   thn (ho pins s2 σ H2 x y v u _ I2 r1 r2 q2) λd s3 ⟨z,H3,I3,r3,k,e,q3⟩=>?_)) hm
 subst e
 cases r3
 refine wpAny_truthy_bool ?_
 cases k with
 | false=>exact ite_ff ⟨.bl false,H3,I3,rfl,q3⟩
 | true=>exact ite_tt (chain_last (thn (hc pins s3 σ H3 _ I3 q3) λw' s4 ⟨z',H4,I4,r4,q4⟩=>ho' pins s4 σ H4 y z' u w' Q I4 r2 r4 q4))
theorem sx {op op':CmpOp} {r r':R2} (ho:OpR X (compareOp op) r) (ho':OpR X (compareOp op') r') (ha:PE X a ta) (hb:PE X b tb) (hc:PE X c tc)
   (hm:lastMarks [op,op'] [b,c]=false:=by with_unfolding_all rfl):PT X (.Compare a [op,op'] [b,c] pos) (vZ (nH r r' ta tb tc)):=by
 intro pins s σ H Q I h
 refine isTrue_chain (thn (ha pins s σ H _ I h) λv s1 ⟨x,H1,I1,r1,q1⟩=>test_link (thn (hb pins s1 σ H1 _ I1 q1) λu s2 ⟨y,H2,I2,r2,q2⟩=>
   thn (ho pins s2 σ H2 x y v u _ I2 r1 r2 q2) λd s3 ⟨z,H3,I3,r3,k,e,q3⟩=>?_)) hm
 subst e
 cases r3
 refine wpAny_truthy_bool ?_
 cases k with
 | false=>
   obtain ⟨k',e',q'⟩:=q3
   cases e'
   exact ite_ff ⟨H3,I3,q'⟩
 | true=>
   refine ite_tt (test_last (thn (hc pins s3 σ H3 _ I3 q3) λw' s4 ⟨z',H4,I4,r4,q4⟩=>thn (ho' pins s4 σ H4 y z' u w' _ I4 r2 r4 q4) λd' s5 ⟨z2,H5,I5,r5,k2,e2,q5⟩=>?_))
   subst e2
   cases r5
   exact wpAny_truthy_bool ⟨H5,I5,q5⟩
theorem gM:(sizeLine:Nat) < 2 ^ 63:=by rw [sizeLine_eq]; decide
theorem ni:OpR X (binaryOp .Add) (λx y H Q=>∃ i j,x=.str i/\y=.str j/\i.length + j.length<=sizeLine/\Q (.str (i++j)) H):=by
 intro pins s σ H x y v u Q I rx ry h
 obtain ⟨i,j,rfl,rfl,hz,q⟩:=h
 obtain ⟨t,rfl⟩:=rx
 obtain ⟨t',rfl⟩:=ry
 exact add_str (λt' tk=>⟨.str (i++j),H,I.tok _,⟨_,rfl⟩,q⟩) hz
theorem vals1 {x:V} {us:List Value} (r:Vals [x] us):∃ u,us=[u]/\RelV x u:=by
 cases r with
 | cons r1 r2=>cases r2; exact ⟨_,rfl,r1⟩
theorem vals2 {x y:V} {us:List Value} (r:Vals [x,y] us):∃ u w',us=[u,w']/\RelV x u/\RelV y w':=by
 cases r with
 | cons r1 r2=>
   cases r2 with
   | cons r3 r4=>cases r4; exact ⟨_,_,rfl,r1,r3⟩
theorem rS:dJ X (.builtin "abs") (λxs H Q=>∃ i,xs=[.int i]/\Q (.int (if i < 0 then -i else i)) H):=by
 intro pins s σ H xs us Q I r h
 obtain ⟨i,rfl,q⟩:=h
 obtain ⟨u,rfl,t,rfl⟩:=vals1 r
 exact call_abs_int λu tk=>⟨.int (if i < 0 then -i else i),H,I.tok _,⟨_,rfl⟩,q⟩
theorem qY (hc:X.calm=true):dJ X (.builtin "max") (λxs H Q=>∃ i j,xs=[.int i,.int j]/\Q (.int (if j > i then j else i)) H):=by
 intro pins s σ H xs us Q I r h
 obtain ⟨i,j,rfl,q⟩:=h
 obtain ⟨u,w',rfl,⟨t,rfl⟩,⟨t',rfl⟩⟩:=vals2 r
 refine max_two_ints (I.ok.hd hc) λh' tk k=>⟨_,H,I.kept k,?_,q⟩
 by_cases hj:j > i
 · rw [if_pos hj,if_pos hj]; exact ⟨_,rfl⟩
 · rw [if_neg hj,if_neg hj]; exact ⟨_,rfl⟩
theorem pW (hc:X.calm=true):dJ X (.builtin "min") (λxs H Q=>∃ i j,xs=[.int i,.int j]/\Q (.int (if j < i then j else i)) H):=by
 intro pins s σ H xs us Q I r h
 obtain ⟨i,j,rfl,q⟩:=h
 obtain ⟨u,w',rfl,⟨t,rfl⟩,⟨t',rfl⟩⟩:=vals2 r
 refine min_two_ints (I.ok.hd hc) λh' tk k=>⟨_,H,I.kept k,?_,q⟩
 by_cases hj:j < i
 · rw [if_pos hj,if_pos hj]; exact ⟨_,rfl⟩
 · rw [if_neg hj,if_neg hj]; exact ⟨_,rfl⟩
theorem qN:dJ X (.type "int") (λxs H Q=>(∃ i,xs=[.int i]/\Q (.int i) H)\/∃ k,xs=[.bl k]/\Q (.int (if k then 1 else 0)) H):=by
 intro pins s σ H xs us Q I r h
 rcases h with ⟨i,rfl,q⟩ | ⟨k,rfl,q⟩
 · obtain ⟨u,rfl,t,rfl⟩:=vals1 r
   exact call_int_int ⟨.int i,H,I,⟨_,rfl⟩,q⟩
 · obtain ⟨u,rfl,r1⟩:=vals1 r
   cases r1
   exact call_int_bool ⟨.int (if k then 1 else 0),H,I.tok _,⟨_,rfl⟩,q⟩
end
structure nU (h:Heap) (x dx C:Addr) (mA:Str->Option Value):Prop where
 obj:h.get? x=some (PySem.W.instObj C dx)
 ns:h.Ns1 dx mA
 ne:dx ≠ x
theorem qM {h:Heap} {dx:Addr} {mA:Str->Option Value} (n:h.Ns1 dx mA):∃ od,h.get? dx=some od/\∀ name,PySem.W.lookIn name od=some (mA name):=by
 obtain ⟨o,es,ep,ho,hd,hk,_,hm⟩:=n
 refine ⟨o,ho,λname=>?_⟩
 have e:=hm name
 unfold nsFind findBy at e
 rw [<- Array.find?_toList] at e
 unfold PySem.W.lookIn
 rw [hd]
 dsimp only
 split
 · rename_i y q
   rw [q] at e
   exact congrArg some e
 · rename_i q
   rw [q] at e
   have a:es.toList.any (·.refKey)=false:=by
     rw [List.any_eq_false]
     intro y hy
     obtain ⟨z,t,hkey⟩:=hk y (Array.mem_toList_iff.mp hy)
     simp [DictEntry.refKey,hkey]
   have a':¬ es.toList.any (·.refKey)=true:=by rw [a]; exact Bool.false_ne_true
   rw [if_neg a']
   exact congrArg some e
theorem nU.look {h:Heap} {x dx C:Addr} {mA:Str->Option Value} (I:nU h x dx C mA):∃ od,PySem.W.InstAt h x (PySem.W.instObj C dx) C (some od)/\∀ name,PySem.W.lookIn name od=some (mA name):=
 let ⟨od,ho,hl⟩:=qM I.ns
 ⟨od,⟨I.obj,rfl,rfl,ho⟩,hl⟩
section
variable {prog:Program} {w:World} {A:Around} {E:Value->Shared->Prop} {s:Shared} {K:PySem.W.Frag} {x dx C f:Addr} {mA:Str->Option Value} {name:Str} {v:Value}
theorem get_map {expr:Bool} {Q:Value->Shared->Prop} (X:K.In s.heap) (I:nU s.heap x dx C mA) (hg:PySem.W.plainGet K C name=true) (hh:PySem.W.hasDictIn K C=true)
   (ha:PySem.W.findIn K (.ref C) name=some none) (hv:mA name=some v) (hv':PySem.W.handedIn v=true) (h:Q v { s with toks:=s.toks + 1 }) :
   wpAny (model prog w) A (getAttr (.ref x) name expr) Q E s:=by
 obtain ⟨od,J,hl⟩:=I.look
 exact PySem.W.get_value X J (PySem.W.plainGet_of hg).1 (PySem.W.findObj_own hh ha rfl (by rw [hl,hv])) hv' h
theorem rN {pl:Sem Bool} {Q:Value × List Value->Shared->Prop} (X:K.In s.heap) (I:nU s.heap x dx C mA) (hg:PySem.W.plainGet K C name=true)
   (hf:PySem.W.findIn K (.ref C) name=some (some (.ref f))) (ht:PySem.W.isFn K (.ref f)=true) (hv:mA name=none) (h:Q (.ref f,[.ref x]) s) :
   wpAny (model prog w) A (getMethod (.ref x) name pl) Q E s:=by
 obtain ⟨od,J,hl⟩:=I.look
 exact PySem.W.method_fn X J (PySem.W.plainGet_of hg).1 (PySem.W.plainGet_of hg).2 hf (beq_iff_eq.mp ht) (by show (PySem.W.lookIn name od).map (·.isSome)=some false; rw [hl,hv]; rfl) h
theorem uJ {ns:List Str} {Q:Unit->Shared->Prop} (X:K.In s.heap) (I:nU s.heap x dx C mA)
   (hs:PySem.W.findIn K (.ref C) "__setattr__" = some (some (.builtin "object.__setattr__"))) (hp:PySem.W.plainOver K C=true) (ht:PySem.W.takerIn K C name=some none) (hh:PySem.W.hasDictIn K C=true)
   (hw:PySem.Within mA ns) (hsz:ns.length<=sizeLine)
   (h:∀ h',nU h' x dx C (λy=>if y=name then some v else mA y)->Heap.SameBut dx s.heap h'->Q () { s with heap:=h',toks:=s.toks + 2 }) :
   wpAny (model prog w) A (setAttr (.ref x) name v) Q E s:=by
 obtain ⟨od,J,hl⟩:=I.look
 refine PySem.W.set_plain X J hs (PySem.W.osa_open (s:={ s with toks:=s.toks + 1 }) (r:=none) X J hp ht λb=>?_)
 obtain ⟨cd,hc,hd'⟩:=PySem.W.any_some hh
 have hx:s.heap.get? x=some ⟨.ref C,some dx,.plain,#[]⟩:=I.obj
 refine wpAny_bind (wpAny_pure (wpAny_bind (wpAny_bind (wpAny_loadPart hx (wpAny_bind (PySem.W.Looks.here (s:={ s with toks:=s.toks + 1 }) (PySem.W.looks_clsIn X hc) ?_))))))
 rw [hd']
 refine wpAny_pure (a:=some dx) (wpAny_bind (wpAny_pure (wpAny_bind ?_)))
 refine wpAny_nsSet1 (s:={ s with toks:=s.toks + 1 }) I.ns λh' hn2 hs2=>?_
 obtain ⟨oD,esD,epD,hoD,hdD,hcD⟩:=hn2.count (PySem.Within.cons name v hw)
 refine wpAny_bind (wpAny_lookBehind hoD (by rw [hdD]; exact pastItsLine_dict (Nat.le_trans hcD (by rw [List.length_cons]; omega))) ?_)
 exact wpAny_pure (h _ ⟨(hs2.2 _ (Ne.symm I.ne)).trans I.obj,hn2,I.ne⟩ hs2)
theorem sU {R:Result->Shared->Prop} {vs:List Value} {kw:List (Str × Value)} (X:K.In s.heap) (hm:PySem.W.makesIn K C=true)
   (hi:PySem.W.findIn K (.ref C) "__init__" = some (some (.ref f))) (hf:PySem.W.typeIn K (.ref f)=some (.type "function"))
   (h:codeAny (model prog w) (A.under (.builtin "type.__call__" ⟨.ref C :: vs,kw⟩)) (.call (.ref f) ⟨.ref (s.heap.objs.size + 1) :: vs,kw⟩) (PySem.W.InitBack (s.heap.objs.size + 1) R)
     { s with heap:=(s.heap.push PySem.W.emptyDict).push (PySem.W.instObj C s.heap.objs.size) }) :
   codeAny (model prog w) A (.call (.ref C) ⟨vs,kw⟩) R s:=by
 obtain ⟨hh,g,d,t,os⟩:=s
 exact PySem.W.make_core (PySem.W.makes_of X hm) (PySem.W.looks_findIn X hi) (λself=>PySem.W.bind_fn X self hf) (.inl rfl) h
end
noncomputable def fj (f:Str) (v:V):List (Str × V)->List (Str × V)
 | []=>[(f,v)]
 | (g,x) :: r=>if g=f then (g,v) :: r else (g,x) :: fj f v r
theorem gX (f g:Str) (v:V):∀ fs:List (Str × V),(fj f v fs).lookup g=if g=f then some v else fs.lookup g
 | []=>by
   show List.lookup g [(f,v)]=_
   by_cases h:g=f
   · have hb:(g == f)=true:=beq_iff_eq.mpr h
     simp only [List.lookup,hb,if_pos h]
   · have hb:(g == f)=false:=beq_eq_false_iff_ne.mpr h
     simp only [List.lookup,hb,if_neg h]
 | (k,x) :: r=>by
   have ih:=gX f g v r
   rw [show fj f v ((k,x) :: r)=(if k=f then (k,v) :: r else (k,x) :: fj f v r) from rfl]
   by_cases hk:k=f
   · rw [if_pos hk]
     by_cases h:g=k
     · have hb:(g == k)=true:=beq_iff_eq.mpr h
       simp only [List.lookup,hb,if_pos (h.trans hk)]
     · have hb:(g == k)=false:=beq_eq_false_iff_ne.mpr h
       simp only [List.lookup,hb,if_neg (λe:g=f=>h (e.trans hk.symm))]
   · rw [if_neg hk]
     by_cases h:g=k
     · have hb:(g == k)=true:=beq_iff_eq.mpr h
       simp only [List.lookup,hb,if_neg (λe:g=f=>hk (h.symm.trans e))]
     · have hb:(g == k)=false:=beq_eq_false_iff_ne.mpr h
       simp only [List.lookup,hb]
       exact ih
theorem gG (f:Str) (v:V):∀ fs:List (Str × V),f ∈ (fj f v fs).map (·.1)/\∀ g,g ∈ fs.map (·.1)->g ∈ (fj f v fs).map (·.1)
 | []=>⟨by simp [fj],λg h=>by simp at h⟩
 | (k,x) :: r=>by
   obtain ⟨i1,i2⟩:=gG f v r
   rw [show fj f v ((k,x) :: r)=(if k=f then (k,v) :: r else (k,x) :: fj f v r) from rfl]
   by_cases hk:k=f
   · rw [if_pos hk]
     subst hk
     exact ⟨by simp,λg h=>by simpa using h⟩
   · rw [if_neg hk]
     refine ⟨?_,λg h=>?_⟩
     · rw [List.map_cons]
       exact List.mem_cons_of_mem _ i1
     · rw [List.map_cons] at h ⊢
       rcases List.mem_cons.mp h with e | e
       · exact List.mem_cons.mpr (.inl e)
       · exact List.mem_cons_of_mem _ (i2 g e)
theorem hU (f:Str) (v:V):∀ fs:List (Str × V),(fj f v fs).length<=fs.length + 1
 | []=>by simp [fj]
 | (k,x) :: r=>by
   have ih:=hU f v r
   rw [show fj f v ((k,x) :: r)=(if k=f then (k,v) :: r else (k,x) :: fj f v r) from rfl]
   by_cases hk:k=f
   · rw [if_pos hk,List.length_cons,List.length_cons]; omega
   · rw [if_neg hk,List.length_cons,List.length_cons]; omega
theorem fg.some_of {v:V} {o:Option Value} (r:fg (some v) o):∃ u,o=some u/\RelV v u:=by
 cases o with
 | none=>exact (show False from r).elim
 | some u=>exact ⟨u,rfl,r⟩
theorem fg.none_of {o:Option Value} (r:fg none o):o=none:=by
 cases o with
 | none=>rfl
 | some u=>exact (show False from r).elim
theorem qP {v:V} {u:Value} (r:RelV v u):PySem.W.handedIn u=true:=by
 cases v with
 | non=>cases (show u=Value.none from r); rfl
 | bl b=>cases (show u=Value.bool b from r); rfl
 | int i=>obtain ⟨t,e⟩:=(show ∃ t,u=Value.int i t from r); cases e; rfl
 | str x=>obtain ⟨t,e⟩:=(show ∃ t,u=Value.str x t from r); cases e; rfl
 | byt b=>obtain ⟨t,e⟩:=(show ∃ t,u=Value.bytes b t from r); cases e; rfl
 | flt b=>obtain ⟨t,e⟩:=(show ∃ t,u=Value.float b t from r); cases e; rfl
 | ref a=>cases (show u=Value.ref a from r); rfl
 | ty n=>cases (show u=Value.type n from r); rfl
section
variable {P:Program} {w:World} {H H':Hp} {h h':Heap} {a C dx:Addr} {fs fs':List (Str × V)}
theorem ly (hok:HOk P w H h) (e:H a=some (.ins C dx fs)):∃ mA,nU h a dx C mA/\(∀ f,fg (fs.lookup f) (mA f))/\PySem.Within mA (fs.map (·.1))/\fs.length<=1000/\H dx=some (.own a):=by
 obtain ⟨d,z,ne,ob,mA,n,r,q⟩:=(show bG P w H h a (.ins C dx fs) from hok a _ e)
 exact ⟨mA,⟨ob,n,ne⟩,r,q,z,d⟩
end
structure Cls (K:PySem.W.Frag) (C:Addr):Prop where
 pg:PySem.W.plainGet K C Str.empty=true
 hd:PySem.W.hasDictIn K C=true
 po:PySem.W.plainOver K C=true
 sa:PySem.W.findIn K (.ref C) "__setattr__" = some (some (.builtin "object.__setattr__"))
theorem Cls.get {K:PySem.W.Frag} {C:Addr} (c:Cls K C) (f:Str):PySem.W.plainGet K C f=true:=c.pg
noncomputable def a6 (K:PySem.W.Frag) (C:Addr) (f:Str):Prop:=PySem.W.findIn K (.ref C) f=some none
theorem a6.za {K:PySem.W.Frag} {C:Addr} {f:Str} (n:a6 K C f):PySem.W.takerIn K C f=some none:=by
 unfold PySem.W.takerIn
 rw [show PySem.W.findIn K (.ref C) f=some none from n]
 rfl
structure Meth (K:PySem.W.Frag) (C:Addr) (m:Str) (f:Addr):Prop where
 at_:PySem.W.findIn K (.ref C) m=some (some (.ref f))
 fn:PySem.W.isFn K (.ref f)=true
 kp:PySem.W.keepIn K (.ref f)=true
section
variable {X:Cx} {pins:List (Addr × Obj)} {σ:St} {H:Hp} {s:Shared} {a C dx:Addr} {fs:List (Str × V)} {f:Str} {v:V} {A:Around} {E:Value->Shared->Prop}
theorem oA {b:Bool} {Q:Value->Shared->Prop} (I:Inv X pins σ H s) (e:H a=some (.ins C dx fs)) (c:Cls X.K C) (n:a6 X.K C f) (l:fs.lookup f=some v)
   (h:∀ u s',Inv X pins σ H s'->RelV v u->Q u s'):wpAny (model X.prog X.w) A (getAttr (.ref a) f b) Q E s:=by
 obtain ⟨mA,O,r,_,_,_⟩:=ly I.hok e
 obtain ⟨u,hu,ru⟩:=fg.some_of (v:=v) (o:=mA f) (by rw [<- l]; exact r f)
 exact get_map I.kIn O (c.get f) c.hd n hu (qP ru) (h u _ (I.tok _) ru)
theorem jv {m:Str} {g:Addr} {pl:Sem Bool} {Q:Value × List Value->Shared->Prop} (I:Inv X pins σ H s) (e:H a=some (.ins C dx fs)) (c:Cls X.K C) (k:Meth X.K C m g) (l:fs.lookup m=none)
   (h:Q (.ref g,[.ref a]) s):wpAny (model X.prog X.w) A (getMethod (.ref a) m pl) Q E s:=by
 obtain ⟨mA,O,r,_,_,_⟩:=ly I.hok e
 have hn:mA m=none:=fg.none_of (by rw [<- l]; exact r m)
 exact rN I.kIn O (c.get m) k.at_ k.fn hn h
theorem nP {y:V} {u:Value} {Q:Unit->Shared->Prop} (I:Inv X pins σ H s) (e:H a=some (.ins C dx fs)) (c:Cls X.K C) (n:a6 X.K C f) (hl:fs.length < 1000) (ry:RelV y u)
   (h:∀ s',Inv X pins σ (upd H a (.ins C dx (fj f y fs))) s'->Q () s'):wpAny (model X.prog X.w) A (setAttr (.ref a) f u) Q E s:=by
 obtain ⟨mA,O,r,wi,_,ho⟩:=ly I.hok e
 have hz:(fs.map (·.1)).length<=sizeLine:=by rw [List.length_map,sizeLine_eq]; omega
 refine uJ I.kIn O c.sa c.po n.za c.hd wi hz λh' O' sb=>h _ ?_
 have hd:∃ o,h'.get? dx=some o:=let ⟨o,_,_,e',_⟩:=O'.ns; ⟨o,e'⟩
 refine I.write (x:=a) (e:=dx) (by rw [e]; exact True.intro) (.inr ho) (λb q hb z=>(sb.2 b hb).trans z) hd ?_
 refine ⟨by rw [aq O.ne]; exact ho,?_,O.ne,O'.obj,_,O'.ns,λg=>?_,λg hg=>?_⟩
 · have:=hU f y fs; omega
 · show fg ((fj f y fs).lookup g) (if g=f then some u else mA g)
   rw [gX]
   by_cases q:g=f
   · rw [if_pos q,if_pos q]; exact ry
   · rw [if_neg q,if_neg q]; exact r g
 · by_cases q:g=f
   · rw [q]; exact (gG f y fs).1
   · refine (gG f y fs).2 g (wi g λz=>hg ?_)
     show (if g=f then some u else mA g)=none
     rw [if_neg q]; exact z
theorem Inv.made (I:Inv X pins σ H s):Inv X pins σ (upd (upd H s.heap.objs.size (.own (s.heap.objs.size + 1))) (s.heap.objs.size + 1) (.ins C s.heap.objs.size []))
   { s with heap:=(s.heap.push PySem.W.emptyDict).push (PySem.W.instObj C s.heap.objs.size) }:=by
 have e1:(s.heap.push PySem.W.emptyDict).get? s.heap.objs.size=some PySem.W.emptyDict:=Heap.get?_push_size s.heap rfl
 have e2:((s.heap.push PySem.W.emptyDict).push (PySem.W.instObj C s.heap.objs.size)).get? (s.heap.objs.size + 1)=some (PySem.W.instObj C s.heap.objs.size):=by
   have:=Heap.get?_push_size (s.heap.push PySem.W.emptyDict) (o:=PySem.W.instObj C s.heap.objs.size) rfl
   rwa [Heap.size_push] at this
 have e3:(s.heap.push PySem.W.emptyDict).Ns s.heap.objs.size (λ_=>none):=⟨PySem.W.emptyDict,#[],_,e1,rfl,(λe he=>absurd he (by simp)),λ_=>rfl⟩
 have I1:=I.laid (a:=s.heap.objs.size) (o:=.own (s.heap.objs.size + 1)) (h':=s.heap.push PySem.W.emptyDict) (t':=s.toks) (λb u q=>Heap.get?_push_of_some _ q) (Nat.le_refl _) ⟨_,e1⟩
 refine I1.laid (a:=s.heap.objs.size + 1) (o:=.ins C s.heap.objs.size []) (t':=s.toks) (λb u q=>Heap.get?_push_of_some _ q) (Nat.le_of_eq (Heap.size_push _ _)) ?_
 have ne:s.heap.objs.size ≠ s.heap.objs.size + 1:=Nat.ne_of_lt (Nat.lt_succ_self _)
 refine ⟨by rw [aq ne,aA],Nat.zero_le _,ne,e2,λ_=>none,(Heap.Ns1.of_empty e3).at λo q=>Heap.get?_push_of_some _ q,λ_=>True.intro,λy hy=>absurd rfl hy⟩
theorem uV {prog:Program} {w:World} {env:Env} {e:Expr} {f:Str} {pos:Pos} {s:Shared} {Q:Value->Shared->Prop} (hb:attributeBase e f env (eval e env)=eval e env)
   (h:wpAny (model prog w) A (eval e env) (λo s₁=>wpAny (model prog w) A (getAttr o f true) Q E s₁) E s):wpAny (model prog w) A (eval (.Attribute e f pos) env) Q E s:=
 Attribute_any_ h (by rw [arm_eval_Attribute,hb])
end
noncomputable def zR (K:PySem.W.Frag) (ta:TE) (f:Str):TE:=λσ H Q=>ta σ H λx H1=>∃ a C dx fs v,x=.ref a/\H1 a=some (.ins C dx fs)/\Cls K C/\a6 K C f/\fs.lookup f=some v/\Q v H1
noncomputable def Ag (K:PySem.W.Frag) (ta tv:TE) (f:Str):TS:=λD σ H=>tv σ H λy H1=>ta σ H1 λx H2=>∃ a C dx fs,x=.ref a/\H2 a=some (.ins C dx fs)/\Cls K C/\a6 K C f/\fs.length < 1000 /\
 D.nx σ (upd H2 a (.ins C dx (fj f y fs)))
section
variable {X:Cx} {o e value:Expr} {f:Str} {pos pos' tpos:Pos} {ta tv:TE}
theorem n8 (he:PE X e ta) (hb:attributeBase e f X.env (eval e X.env)=eval e X.env):PE X (.Attribute e f pos) (zR X.K ta f):=by
 intro pins s σ H Q I h
 refine uV hb (thn (he pins s σ H _ I h) λu s1 ⟨x,H1,I1,rx,a,C,dx,fs,v,ex,ea,c,n,l,q⟩=>?_)
 subst ex
 obtain rfl:u=Value.ref a:=rx
 exact oA I1 ea c n l λu' s2 I2 ru=>⟨v,H1,I2,ru,q⟩
theorem tK (ha:PE X o ta) (hv:PE X value tv) (hs:swapsWith value (some (.Attribute o f pos')) pos.line X.env=pure false):PS X (.Assign [.Attribute o f pos'] value pos) (Ag X.K ta tv f):=by
 intro pins s σ H D I h
 refine plainObj_wpAny_Assign_Attribute (thn (hv pins s σ H _ I h) λu s1 ⟨y,H1,I1,ry,q⟩=>thn (ha pins s1 σ H1 _ I1 q) λov s2 ⟨x,H2,I2,rx,a,C,dx,fs,ex,ea,c,n,l,q2⟩=>?_) hs
 subst ex
 obtain rfl:ov=Value.ref a:=rx
 exact nP I2 ea c n l ry λs3 I3=>⟨σ,_,I3,q2⟩
theorem vR {pl:Sem Bool} {m:Str} {apos:Pos} {args:List Expr} {pins:List (Addr × Obj)} {s:Shared} {σ:St} {H:Hp} {Q:Value->Shared->Prop} {te:TE} (he:PE X e te) (I:Inv X pins σ H s)
   (h:te σ H λx H1=>∃ a C dx fs g,x=.ref a/\H1 a=some (.ins C dx fs)/\Cls X.K C/\Meth X.K C m g/\fs.lookup m=none /\
     ∀ s1,Inv X pins σ H1 s1->wpAny (model X.prog X.w) X.A (callWith pos (.ref g) [.ref a] (backTo pos (starEach args X.env)) (backToKw pos (keywordEach [] X.env))) Q X.xe s1)
   (ht:eval (.Call (.Attribute e m apos) args [] pos) X.env=(do
     let ov <- eval e X.env
     standAt apos.atName
     let (f,first) <- holding [ov] (getMethod ov m pl)
     callWith pos f first (backTo pos (starEach args X.env)) (backToKw pos (keywordEach [] X.env)))) :
   wpAny (model X.prog X.w) X.A (eval (.Call (.Attribute e m apos) args [] pos) X.env) Q X.xe s:=by
 refine PySem.W.methodCall_KW (pl:=pl) (thn (he pins s σ H _ I h) λu s1 ⟨x,H1,I1,rx,a,C,dx,fs,g,ex,ea,c,k,l,q⟩=>?_) ht
 subst ex
 obtain rfl:u=Value.ref a:=rx
 exact jv I1 ea c k l (q s1 I1)
end
section
variable {X:Cx} {pins:List (Addr × Obj)} {σ:St} {H:Hp} {s:Shared} {A:Around} {E:Value->Shared->Prop} {Q:Value->Shared->Prop} {c:Value} {b:Bool}
end
structure b9 (k:Nat) (A:Around):Prop where
 hd:A.handled=none
 dp:A.depth + 3 * k + 5 < recursionLimit
 un:A.units + 16 * k + 200 < cLine
theorem b9.mono {j k:Nat} {A:Around} (r:b9 k A) (h:j<=k):b9 j A:=⟨r.hd,by have:=r.dp; omega,by have:=r.un; omega⟩
theorem b9.deeper {k:Nat} {A:Around} (r:b9 (k + 1) A) (env:Env):b9 k (A.deeper env):=
 ⟨r.hd,by have:=r.dp; show A.depth + 1 + 3 * k + 5 < _; omega,by have:=r.un; show A.units + 3 + 16 * k + 200 < _; omega⟩
theorem m4 {A:Around} {C:Addr} {us:List Value} {kw:List (Str × Value)}:(A.under (.builtin "type.__call__" ⟨.ref C :: us,kw⟩)).depth=A.depth + 1:=by
 first | rfl | simp [Around.under,Code.weight,Code.isCreation,Code.isGuard,Code.isCaller,Code.frames,Code.isFrame,guardIds]
theorem nW {A:Around} {C:Addr} {us:List Value} {kw:List (Str × Value)}:(A.under (.builtin "type.__call__" ⟨.ref C :: us,kw⟩)).units=A.units + 1:=by
 first | rfl | simp [Around.under,Code.cUnits,Code.frames,Code.isFrame]
theorem b9.make {k:Nat} {A:Around} (r:b9 (k + 1) A) (C:Addr) (us:List Value) (kw:List (Str × Value)):b9 k (A.under (.builtin "type.__call__" ⟨.ref C :: us,kw⟩)):=
 ⟨r.hd,by have:=r.dp; rw [m4]; omega,by have:=r.un; rw [nW]; omega⟩
theorem b9.depth {k:Nat} {A:Around} (r:b9 k A):A.depth < recursionLimit:=by have:=r.dp; omega
theorem b9.units {k:Nat} {A:Around} (r:b9 k A):A.units + 64 < cLine:=by have:=r.un; omega
noncomputable def zP:TA:=λ_ H Q=>Q [] H
noncomputable def yw (ta:TE) (tr:TA):TA:=λσ H Q=>ta σ H λx H1=>tr σ H1 λxs H2=>Q (x :: xs) H2
section
variable {X:Cx} {e:Expr} {es:List Expr} {te:TE} {t:TA} {pos:Pos}
theorem di:PA X [] zP:=λ_ _ _ _ H Q I h=>Calls.spliced_nil ⟨[],H,I,.nil,h⟩
theorem bw (ha:PE X e te) (hr:PA X es t) (hs:starEach (e :: es) X.env=(false,eval e X.env) :: starEach es X.env:=by rfl):PA X (e :: es) (yw te t):=by
 intro pos pins s σ H Q I h
 rw [hs]
 show wpAny _ _ (spliced ((false,eval e X.env) :: backTo pos (starEach es X.env))) _ _ s
 refine Calls.spliced_cons (thn (ha pins s σ H _ I h) λu s1 ⟨x,H1,I1,r1,q1⟩=>?_)
 exact thn (hr pos pins s1 σ H1 _ I1 q1) λus s2 ⟨xs,H2,I2,r2,q2⟩=>⟨x :: xs,H2,I2,.cons r1 r2,q2⟩
noncomputable def zS (t:TA):TE:=λσ H Q=>t σ H λxs H1=>xs.length<=sizeLine/\∀ p,H1 p=none->Q (.ref p) (upd H1 p (.tup xs))
noncomputable def Av (t:TA):TE:=λσ H Q=>t σ H λxs H1=>xs.length<=sizeLine/\∀ p,H1 p=none->Q (.ref p) (upd H1 p (.lst xs))
theorem xq {x1} (h:PA X es t):PE X (.Tuple es x1 pos) (zS t):=by
 intro pins s σ H Q I hq
 refine wpAny_Tuple_spliced (thn (h pos pins s σ H _ I hq) λus s1 ⟨xs,H1,I1,r,z,q⟩=>⟨by rw [<- r.length]; exact z,?_⟩)
 have hf:H1 s1.heap.objs.size=none:=I1.hok.fresh (Nat.le_refl _)
 refine ⟨.ref s1.heap.objs.size,upd H1 s1.heap.objs.size (.tup xs),I1.laid (t':=s1.toks) (λb u e=>Heap.get?_push_of_some _ e) (Nat.le_refl _) ?_,rfl,q _ hf⟩
 exact ⟨z,us,r,⟨_,Heap.get?_push_size _ rfl,rfl,_,rfl⟩⟩
theorem nA (h:PA X es t):PE X (.List es pos) (Av t):=by
 intro pins s σ H Q I hq
 refine wpAny_List_spliced (thn (h pos pins s σ H _ I hq) λus s1 ⟨xs,H1,I1,r,z,q⟩=>⟨by rw [<- r.length]; exact z,?_⟩)
 have hf:H1 s1.heap.objs.size=none:=I1.hok.fresh (Nat.le_refl _)
 refine ⟨.ref s1.heap.objs.size,upd H1 s1.heap.objs.size (.lst xs),I1.laid (t':=s1.toks) (λb u e=>Heap.get?_push_of_some _ e) (Nat.le_refl _) ?_,rfl,q _ hf⟩
 exact ⟨z,us,0,r,Heap.get?_push_size _ rfl⟩
end
noncomputable abbrev Sp:=List V->Hp->VK->XK->Prop
noncomputable abbrev CXT:=List Env->Hp->Shared->XK->Value->Shared->Prop
structure nq (P:Program) (w:World) (K:PySem.W.Frag) (mg:Str->Option Value) (base:Heap) (A:Around) (outer:List Env) (s:Shared) (H:Hp):Prop where
 frames:A.frames=some outer
 mod:Mod K mg base
 bs:∀ b o,base.get? b=some o->s.heap.get? b=some o/\H b=none
 bsz:base.objs.size<=s.heap.objs.size
 ir:s.heap.FunFrames base outer
 frf:∀ b ∈ frs outer,H b=none
 hok:HOk P w H s.heap
 bare:AllBare s.gens
noncomputable def CE (outer:List Env) (P:Program) (w:World) (H:Hp) (s:Shared) (Q:VK) (u:Value) (s':Shared):Prop:=
 ∃ v H',s'.os=s.os/\AllBare s'.gens/\Un (frs outer) [] H H' s.heap s'.heap/\HOk P w H' s'.heap/\RelV v u/\Q v H'
noncomputable def CR (CX:CXT) (outer:List Env) (P:Program) (w:World) (H:Hp) (s:Shared) (Q:VK) (E:XK) (r:Result) (s':Shared):Prop:=
 match r with
 | .ok (.ret u)=>CE outer P w H s Q u s'
 | .ok _=>False
 | .error e=>CX outer H s E e s'
structure aG (P:Program) (w:World) (K:PySem.W.Frag) (mg:Str->Option Value) (base:Heap) (CX:CXT) (k:Nat) (f:Addr) (fd:FuncData) (ps:List Str) (sp:Sp):Prop where
 len:∀ vs H Q E,sp vs H Q E->vs.length=ps.length
 run:∀ (A:Around) (outer:List Env) (s:Shared) (H:Hp) (args:Args) (us:List Value) (vs:List V) (Q:VK) (E:XK),b9 k A->nq P w K mg base A outer s H->BindsTo s fd args (ps.zip us)->Vals vs us->sp vs H Q E ->
   codeAny (model P w) A (.call (.ref f) args) (CR CX outer P w H s Q E) s
theorem aG.mono {P:Program} {w:World} {K:PySem.W.Frag} {mg:Str->Option Value} {base:Heap} {CX:CXT} {j k:Nat} {f:Addr} {fd:FuncData} {ps:List Str} {sp:Sp} (F:aG P w K mg base CX j f fd ps sp) (h:j<=k) :
   aG P w K mg base CX k f fd ps sp:=⟨F.len,λA outer s H args us vs Q E hr=>F.run A outer s H args us vs Q E (hr.mono h)⟩
theorem nq.make {P:Program} {w:World} {K:PySem.W.Frag} {mg:Str->Option Value} {base:Heap} {A:Around} {outer:List Env} {s:Shared} {H:Hp} (e:nq P w K mg base A outer s H) (C:Addr) (us:List Value) (kw:List (Str × Value)) :
   nq P w K mg base (A.under (.builtin "type.__call__" ⟨.ref C :: us,kw⟩)) outer s H:=⟨by first | exact e.frames | (simpa [Around.under,Code.envs,Code.isFrame,pushEnvs] using e.frames),e.mod,e.bs,e.bsz,e.ir,e.frf,e.hok,e.bare⟩
section
variable {X:Cx} {pins:List (Addr × Obj)} {σ:St} {H:Hp} {s s':Shared}
theorem Inv.yG (I:Inv X pins σ H s):nq X.prog X.w X.K X.mg X.base X.A X.stack s H:=
 ⟨I.ok.frames,I.ok.mod,I.bs,Nat.le_trans I.ok.bsz I.sz,I.stack,I.oP,I.hok,I.bare⟩
theorem Inv.after {Q:VK} {u:Value} (I:Inv X pins σ H s) (h:CE X.stack X.prog X.w H s Q u s'):EP X pins σ Q u s':=by
 obtain ⟨v,H',os,bare,un,hok,r,q⟩:=h
 obtain ⟨hh,g,d,t,os'⟩:=s'
 obtain rfl:os'=s.os:=os
 exact ⟨v,H',I.call (h':=hh) (g':=g) (d':=d) (t':=t) (ch:=[]) un hok bare (λb z=>absurd z (by simp)),r,q⟩
end
noncomputable def zy (sp:Sp) (dvs:List V) (E:XK) (t:TA):TE:=λσ H Q=>t σ H λvs H1=>sp (vs++dvs) H1 Q E
noncomputable def yP (C:Addr) (m:Str) (sp:Sp) (dvs:List V) (E:XK) (ta:TE) (t:TA):TE:=λσ H Q=>ta σ H λx H1=>∃ a dx fs,x=.ref a/\H1 a=some (.ins C dx fs)/\fs.lookup m=none /\
 t σ H1 λvs H2=>sp (x :: (vs++dvs)) H2 Q E
noncomputable def yF (C:Addr) (sp:Sp) (dvs:List V) (E:XK) (t:TA):TE:=λσ H Q=>t σ H λvs H1=>∀ x dx,H1 x=none->H1 dx=none->dx ≠ x ->
 sp (.ref x :: (vs++dvs)) (upd (upd H1 dx (.own x)) x (.ins C dx [])) (λv H2=>v=.non/\Q (.ref x) H2) E
noncomputable def Binds (K:PySem.W.Frag) (fd:FuncData) (ps:List Str) (ds:List Value):Prop:=
 ∀ (s:Shared) (us:List Value),K.In s.heap->(us++ds).length=ps.length->BindsTo s fd ⟨us,[]⟩ (ps.zip (us++ds))
theorem Binds.all {K:PySem.W.Frag} {fd:FuncData} {ps:List Str} (h:∀ us:List Value,us.length=ps.length->bindArgs fd ⟨us,[]⟩=pure (ps.zip us)):Binds K fd ps []:=λs us _ hl=>by
 rw [List.append_nil] at hl ⊢
 exact .of_eq (h us hl)
noncomputable def Passes (CX:CXT) (X:Cx) (E:XK):Prop:=∀ (pins:List (Addr × Obj)) (σ:St) (H:Hp) (s:Shared) (e:Value) (s':Shared),Inv X pins σ H s->CX X.stack H s E e s'->X.xe e s'
section
variable {X:Cx} {CX:CXT} {k:Nat} {f C:Addr} {fd:FuncData} {ps:List Str} {sp:Sp} {dvs:List V} {ds:List Value} {E:XK} {x m:Str} {p pos apos:Pos} {e o:Expr} {es:List Expr} {ta:TE} {t:TA}
theorem tw {pins:List (Addr × Obj)} {σ:St} {H:Hp} {s:Shared} {Q:VK} {us:List Value} {vs:List V} (F:aG X.prog X.w X.K X.mg X.base CX k f fd ps sp) (hr:b9 k X.A) (hb:Binds X.K fd ps ds) (hd:Vals dvs ds) (hx:Passes CX X E)
   (I:Inv X pins σ H s) (r:Vals vs us) (h:sp (vs++dvs) H Q E):wpAny (model X.prog X.w) X.A (call (.ref f) us) (EP X pins σ Q) X.xe s:=by
 have r2:Vals (vs++dvs) (us++ds):=r.append hd
 have hl:(us++ds).length=ps.length:=by rw [<- r2.length]; exact F.len _ _ _ _ h
 refine wpAny_call (codeAny_mono (F.run X.A X.stack s H ⟨us,[]⟩ (us++ds) (vs++dvs) Q E hr I.yG (hb s us I.kIn hl) r2 h) λr s' hq=>?_)
 cases r with
 | error e=>exact hx pins σ H s e s' I hq
 | ok fl=>
   cases fl with
   | ret u=>exact I.after hq
   | next=>exact False.elim hq
   | brk=>exact False.elim hq
   | cont=>exact False.elim hq
theorem oI (F:aG X.prog X.w X.K X.mg X.base CX k f fd ps sp) (hr:b9 k X.A) (hg:Gl X x) (hm:X.mg x=some (.ref f)) (hk:PySem.W.keepIn X.K (.ref f)=true) (hb:Binds X.K fd ps ds) (hd:Vals dvs ds) (hx:Passes CX X E)
   (ha:PA X (e :: es) t) (hdb:(x == ("__debug__" : Str))=false:=by decide) (he:starEach (e :: es) X.env=(false,eval e X.env) :: starEach es X.env:=by rfl) (hpl:(backTo pos (starEach es X.env)).any (·.1)=false:=by rfl) :
   PE X (.Call (.Name x p) (e :: es) [] pos) (zy sp dvs E t):=by
 intro pins s σ H Q I h
 refine wpAny_Call_Name_kw (lU I hg hm ?_ hdb)
 refine PySem.W.callWith_K (h₀:=X.base) I.ok.mod.kin hk (thn (ha pos pins s σ H _ I h) λus s1 ⟨vs,H1,I1,r,q⟩=>⟨I1.kIn,?_⟩) he hpl
 exact tw F hr hb hd hx I1 r q
theorem k9 {pl:Sem Bool} (he:PE X o ta) (c:Cls X.K C) (hm:Meth X.K C m f) (F:aG X.prog X.w X.K X.mg X.base CX k f fd ps sp) (hr:b9 k X.A) (hb:Binds X.K fd ps ds) (hd:Vals dvs ds) (hx:Passes CX X E) (ha:PA X (e :: es) t)
   (hst:starEach (e :: es) X.env=(false,eval e X.env) :: starEach es X.env:=by rfl) (hpl:(backTo pos (starEach es X.env)).any (·.1)=false:=by rfl)
   (ht:eval (.Call (.Attribute o m apos) (e :: es) [] pos) X.env=(do
     let ov <- eval o X.env
     standAt apos.atName
     let (f,first) <- holding [ov] (getMethod ov m pl)
     callWith pos f first (backTo pos (starEach (e :: es) X.env)) (backToKw pos (keywordEach [] X.env))):=by rfl) :
   PE X (.Call (.Attribute o m apos) (e :: es) [] pos) (yP C m sp dvs E ta t):=by
 intro pins s σ H Q I h
 refine PySem.W.methodCall_KW (pl:=pl) (thn (he pins s σ H _ I h) λu s1 ⟨x,H1,I1,rx,a,dx,fs,ex,ea,l,q⟩=>?_) ht
 subst ex
 obtain rfl:u=Value.ref a:=rx
 refine jv I1 ea c hm l ?_
 refine PySem.W.callWith_K (first:=[.ref a]) (h₀:=X.base) I.ok.mod.kin hm.kp (thn (ha pos pins s1 σ H1 _ I1 q) λus s2 ⟨vs,H2,I2,r,q2⟩=>⟨I2.kIn,?_⟩) hst hpl
 exact tw (us:=.ref a :: us) (vs:=.ref a :: vs) F hr hb hd hx I2 (.cons rfl r) q2
structure Mk (K:PySem.W.Frag) (C f:Addr):Prop where
 makes:PySem.W.makesIn K C=true
 init:PySem.W.findIn K (.ref C) "__init__" = some (some (.ref f))
 fn:PySem.W.isFn K (.ref f)=true
 kp:PySem.W.keepIn K (.ref C)=true
theorem t5 {pins:List (Addr × Obj)} {σ:St} {H:Hp} {s:Shared} {Q:VK} {us:List Value} {vs:List V} (M:Mk X.K C f) (F:aG X.prog X.w X.K X.mg X.base CX k f fd ps sp) (hr:b9 (k + 1) X.A) (hb:Binds X.K fd ps ds) (hd:Vals dvs ds)
   (hx:Passes CX X E) (I:Inv X pins σ H s) (r:Vals vs us)
   (h:∀ x dx,H x=none->H dx=none->dx ≠ x->sp (.ref x :: (vs++dvs)) (upd (upd H dx (.own x)) x (.ins C dx [])) (λv H2=>v=.non/\Q (.ref x) H2) E) :
   wpAny (model X.prog X.w) X.A (call (.ref C) us) (EP X pins σ Q) X.xe s:=by
 have hq:=h (s.heap.objs.size + 1) s.heap.objs.size (I.hok.fresh (Nat.le_succ _)) (I.hok.fresh (Nat.le_refl _)) (Nat.ne_of_lt (Nat.lt_succ_self _))
 have I2:=Inv.made (C:=C) I
 have r2:Vals (V.ref (s.heap.objs.size + 1) :: (vs++dvs)) (Value.ref (s.heap.objs.size + 1) :: (us++ds)):=.cons rfl (r.append hd)
 have hl:(Value.ref (s.heap.objs.size + 1) :: us++ds).length=ps.length:=by
   have e:=r2.length
   rw [F.len _ _ _ _ hq] at e
   exact e.symm
 refine wpAny_call (sU (f:=f) I.kIn M.makes M.init (beq_iff_eq.mp M.fn) (codeAny_mono (F.run _ X.stack _ _ ⟨Value.ref (s.heap.objs.size + 1) :: us,[]⟩ (Value.ref (s.heap.objs.size + 1) :: (us++ds)) _ _ E (hr.make C us [])
   (I2.yG.make C us []) (hb _ (Value.ref (s.heap.objs.size + 1) :: us) I2.kIn hl) r2 hq) λr s' hq'=>?_))
 cases r with
 | error e=>exact hx pins σ _ _ e s' I2 hq'
 | ok fl=>
   cases fl with
   | ret u=>
     obtain ⟨v,H',I3,rv,ev,q3⟩:=I2.after hq'
     subst ev
     exact ⟨rv,⟨V.ref (s.heap.objs.size + 1),H',I3,rfl,q3⟩⟩
   | next=>exact False.elim hq'
   | brk=>exact False.elim hq'
   | cont=>exact False.elim hq'
theorem t8 (M:Mk X.K C f) (F:aG X.prog X.w X.K X.mg X.base CX k f fd ps sp) (hr:b9 (k + 1) X.A) (hg:Gl X x) (hm:X.mg x=some (.ref C)) (hb:Binds X.K fd ps ds) (hd:Vals dvs ds) (hx:Passes CX X E)
   (hdb:(x == ("__debug__" : Str))=false:=by decide):PE X (.Call (.Name x p) [] [] pos) (yF C sp dvs E zP):=by
 intro pins s σ H Q I h
 refine wpAny_Call_Name_kw (lU I hg hm ?_ hdb)
 exact PySem.W.callWith_K0 I.kIn M.kp (t5 (us:=[]) M F hr hb hd hx I .nil h)
end
section
variable {X:Cx} {CX:CXT} {k:Nat} {f C:Addr} {fd:FuncData} {ps ks:List Str} {sp:Sp} {E:XK} {x m:Str} {p pos apos kpos:Pos} {e o:Expr} {es:List Expr} {kws:List Keyword} {te ta:TE} {t tk:TA} {nm:Option Str}
variable {g:List Value->List Value->List Value} {gV:List V->List V->List V}
end
structure ar (N P:List Str) (sc:Scope):Prop where
 kind:sc.kind=.function
 co:sc.isCoroutine=false
 gen:sc.isGenerator=false
 nd:N.Nodup
 pre:N.take P.length=P
 par:∀ x ∈ P,sc.names.lookup x=some .local\/sc.names.lookup x=some .cell
 nofree:∀ y ∈ sc.names,y.2 ≠ .free
theorem ke {kindOf:Str->Option NameKind} {x:Str}:∀ {binds:List (Str × Value)} {m:Str->Option Value},(∀ v,(x,v) ∉ binds)->bindL kindOf binds m x=m x
 | [],_,_=>rfl
 | (n,v) :: r,m,h=>by
   unfold bindL
   rw [ke λw hw=>h w (List.mem_cons_of_mem _ hw)]
   split
   · have:x ≠ n:=by rintro rfl; exact h v List.mem_cons_self
     simp [this]
   · rfl
theorem kg {kindOf:Str->Option NameKind} {x:Str}:∀ {binds:List (Str × Value)} {m:Str->Option Value},(∀ v,(x,v) ∉ binds)->bindC kindOf binds m x=m x
 | [],_,_=>rfl
 | (n,v) :: r,m,h=>by
   unfold bindC
   rw [kg λw hw=>h w (List.mem_cons_of_mem _ hw)]
   split
   · rfl
   · have:x ≠ n:=by rintro rfl; exact h v List.mem_cons_self
     simp [this]
theorem jS {kindOf:Str->Option NameKind} {x:Str} {v:Value}:∀ {P:List Str} {vs:List Value} {i:Nat} {m:Str->Option Value},P.Nodup->P[i]?=some x->vs[i]?=some v->kindOf x=some .local ->
   bindL kindOf (P.zip vs) m x=some v
 | [],_,_,_,_,h,_,_=>by simp at h
 | _ :: _,[],_,_,_,_,h,_=>by simp at h
 | p :: P,w :: vs,0,m,nd,h1,h2,hk=>by
   simp at h1 h2; subst h1; subst h2
   show bindL kindOf ((p,w) :: P.zip vs) m p=_
   unfold bindL
   rw [ke λv hv=>(List.nodup_cons.mp nd).1 (List.of_mem_zip hv).1,if_pos hk]
   simp
 | p :: P,w :: vs,i + 1,m,nd,h1,h2,hk=>by
   show bindL kindOf ((p,w) :: P.zip vs) m x=_
   unfold bindL
   exact jS (i:=i) (List.nodup_cons.mp nd).2 (by simpa using h1) (by simpa using h2) hk
theorem kj {kindOf:Str->Option NameKind} {x:Str} {v:Value}:∀ {P:List Str} {vs:List Value} {i:Nat} {m:Str->Option Value},P.Nodup->P[i]?=some x->vs[i]?=some v->kindOf x ≠ some .local ->
   bindC kindOf (P.zip vs) m x=some v
 | [],_,_,_,_,h,_,_=>by simp at h
 | _ :: _,[],_,_,_,_,h,_=>by simp at h
 | p :: P,w :: vs,0,m,nd,h1,h2,hk=>by
   simp at h1 h2; subst h1; subst h2
   show bindC kindOf ((p,w) :: P.zip vs) m p=_
   unfold bindC
   rw [kg λv hv=>(List.nodup_cons.mp nd).1 (List.of_mem_zip hv).1,if_neg hk]
   simp
 | p :: P,w :: vs,i + 1,m,nd,h1,h2,hk=>by
   show bindC kindOf ((p,w) :: P.zip vs) m x=_
   unfold bindC
   exact kj (i:=i) (List.nodup_cons.mp nd).2 (by simpa using h1) (by simpa using h2) hk
noncomputable def start (N:List Str) (vs:List V):St:=vs.map some++List.replicate (N.length - vs.length) none
noncomputable def m6 (CX:CXT) (P:Program) (w:World) (K:PySem.W.Frag) (mg:Str->Option Value) (base:Heap) (N:List Str) (qual:Str) (scope:Scope) (f:Addr) (cd:Value) (A:Around) (outer:List Env) (s:Shared) (H:Hp) (E:XK):Cx where
 prog:=P
 w:=w
 K:=K
 mg:=mg
 base:=base
 A:=A.deeper (envOfC qual scope s.heap.objs.size f cd)
 N:=N
 s₀:=s
 H₀:=H
 env:=envOfC qual scope s.heap.objs.size f cd
 outer:=outer
 stack:=envOfC qual scope s.heap.objs.size f cd :: outer
 ex:=[]
 calm:=true
 fn:=λ_=>true
 pn:=[]
 xe:=λe s'=>wpAny (model P w) (A.deeper (envOfC qual scope s.heap.objs.size f cd)) (leaving (envOfC qual scope s.heap.objs.size f cd) e) (λ_ s''=>CX outer H s E e s'') (λe' s''=>CX outer H s E e' s'') s'
theorem mL {sc:Scope} {n:Nat} {x:Str} (h:sc.names.lookup x=some .cell):∃ c,(cellsFrom n sc.names []).lookup x=some c:=by
 have q:=PySem.W.cellsFrom_some sc.names n [] (.inl h)
 exact Option.isSome_iff_exists.mp q
theorem qF {CX:CXT} {P:Program} {w:World} {K:PySem.W.Frag} {mg:Str->Option Value} {base:Heap} {N ps:List Str} {qual:Str} {scope:Scope} {f:Addr} {cd:Value} {A:Around} {outer:List Env} {s s1:Shared} {H:Hp} {E:XK} {us:List Value} {vs:List V}
   (S:ar N ps scope) {cm:Bool} (hd:cm=true->A.handled=none) (e0:nq P w K mg base A outer s H) (hl:vs.length=ps.length) (r:Vals vs us)
   (x:InCallC s s.heap.objs.size (bindL (envOfC qual scope s.heap.objs.size f cd).kindOf (ps.zip us) λ_=>none) (cellsFrom (s.heap.objs.size + 1) scope.names []) (bindC (envOfC qual scope s.heap.objs.size f cd).kindOf (ps.zip us) λ_=>none) s1) :
   Inv { m6 CX P w K mg base N qual scope f cd A outer s H E with calm:=cm } [] (start N vs) H s1:=by
 have hpl:ps.length<=N.length:=by have:=congrArg List.length S.pre; rw [List.length_take] at this; omega
 obtain ⟨h1,tk,rfl,hk⟩:=x.done
 have noA:∀ b:Addr,b ∉ (m6 CX P w K mg base N qual scope f cd A outer s H E).ex:=λb z=>absurd (show b ∈ ([]:List Addr) from z) (by simp)
 refine ⟨⟨e0.mod,S.kind,rfl,rfl,Nat.le_refl _,λy z c h1 h2=>?_,λy hy=>?_,λy c _ h=>?_,hd,Around.frames_deeper e0.frames,.inr ⟨rfl,rfl⟩,λb z=>absurd z (noA b),e0.bs,e0.bsz,λb _ _=>noA b,λb z=>absurd z (noA b),e0.ir,e0.frf⟩,
   rfl,e0.bare,Un.kept hk,⟨_,x.toInCall.ns,λi y v h1 h2 h3=>?_⟩,λy c h=>⟨_,x.cell y c h⟩,e0.hok.fresh (Nat.le_refl _),λy c h=>?_,λp hp=>absurd (show p ∈ ([]:List (Addr × Obj)) from hp) (by simp),e0.hok.kept hk,?_⟩
 · exact name_of_addr x.apart (PySem.mem_of_lookup h1) (PySem.mem_of_lookup h2)
 · have hy:scope.names.lookup y=some .cell\/scope.names.lookup y=some .free:=hy
   rcases hy with hy | hy
   · exact mL hy
   · exact absurd rfl (S.nofree _ (PySem.mem_of_lookup hy))
 · exact Nat.le_of_lt (x.above y c (PySem.mem_of_lookup h))
 · have hi:i < vs.length:=by
     unfold start at h2
     by_cases hi:i < vs.length
     · exact hi
     · rw [List.getElem?_append_right (by simpa using hi)] at h2
       rw [List.getElem?_replicate] at h2
       split at h2 <;> cases h2
   have ha:vs[i]?=some v:=by
     unfold start at h2
     rw [List.getElem?_append_left (by simpa using hi),List.getElem?_map] at h2
     cases e:vs[i]? with
     | none=>rw [e] at h2; cases h2
     | some a=>rw [e] at h2; cases h2; rfl
   obtain ⟨u,hu,rv⟩:=r.get ha
   have hp:ps[i]?=some y:=by
     rw [<- S.pre,List.getElem?_take_of_lt (by omega)]; exact h1
   have ndP:ps.Nodup:=by rw [<- S.pre]; exact S.nd.sublist (List.take_sublist _ _)
   refine ⟨u,rv,?_⟩
   rcases S.par y (List.mem_of_getElem? hp) with k | k
   · exact .inl ⟨k,jS ndP hp hu k⟩
   · obtain ⟨c,e⟩:=mL (n:=s.heap.objs.size + 1) k
     refine .inr ⟨.inl k,c,e,?_⟩
     have q:=x.cell y c e
     rw [kj ndP hp hu (by show scope.names.lookup y ≠ _; rw [k]; decide)] at q
     exact q
 · exact e0.hok.fresh (Nat.le_of_lt (x.above y c (PySem.mem_of_lookup h)))
 · unfold start
   show _=N.length
   rw [List.length_append,List.length_map,List.length_replicate]
   omega
theorem yD {CX:CXT} {P:Program} {w:World} {K:PySem.W.Frag} {mg:Str->Option Value} {base:Heap} {k:Nat} {f:Addr} {name qual:Str} {params:Arguments} {body:List Stmt} {scope:Scope} {dV kV doc pm cdv ct oc:Value} {an od:Option Addr}
   {osl:Array (Option Value)} {N ps:List Str} {sp:Sp} (lk:K.lookup f=some ⟨oc,od,.func (PySem.W.fnOf name qual params body scope dV kV doc pm an cdv ct),osl⟩) (hcd:PySem.W.codeIn K cdv qual=true) (S:ar N ps scope)
   (len:∀ vs H Q E,sp vs H Q E->vs.length=ps.length)
   (hbody:∀ (A:Around) (outer:List Env) (s:Shared) (H:Hp) (vs:List V) (Q:VK) (E:XK),b9 k (A.deeper (envOfC qual scope s.heap.objs.size f cdv))->sp vs H Q E ->
     ∃ t,PSs (m6 CX P w K mg base N qual scope f cdv A outer s H E) body t/\t { nx:=λ_ H'=>Q .non H',rt:=Q } (start N vs) H) :
   aG P w K mg base CX (k + 1) f (PySem.W.fnOf name qual params body scope dV kV doc pm an cdv ct) ps sp:=by
 refine ⟨len,λA outer s H args us vs Q E hr e0 hb r hsp=>?_⟩
 have hl:=len _ _ _ _ hsp
 have KX:K.In s.heap:=e0.mod.kin.keeps λb o e=>(e0.bs b o e).1
 have lim:s.heap.NoLimit:=e0.mod.nolimit.keeps λb o e=>(e0.bs b o e).1
 have hkind:∀ y ∈ ps.zip us,scope.names.lookup y.1=some .local\/(scope.names.lookup y.1=some .cell/\((cellsFrom (s.heap.objs.size + 1) scope.names []).lookup y.1).isSome=true):=λ⟨n,v⟩ hy=>by
   rcases S.par n (List.of_mem_zip hy).1 with q | q
   · exact .inl q
   · exact .inr ⟨q,PySem.W.cellsFrom_some _ _ _ (.inl q)⟩
 refine codeAny_call_function hr.depth (KX _ _ lk) rfl S.co S.gen rfl (PySem.W.codeRec_of KX hcd) (hb _ _ _ _ ?_)
 refine wpAny_newFunctionEnv_cells S.kind hkind λenv he s1 x=>?_
 subst he
 refine ⟨lim.keeps x.toInCall.keep,codeAny_func ?_⟩
 obtain ⟨t,ht,hq⟩:=hbody A outer s H vs Q E (hr.deeper _) hsp
 have I:Inv (m6 CX P w K mg base N qual scope f cdv A outer s H E) [] (start N vs) H s1:=qF (cm:=true) S (λ_=>hr.hd) e0 hl r x
 refine wpAny_mono (ht [] s1 (start N vs) H _ I hq) (λfl s' hs=>?_) λe s' hs=>hs
 have fin:∀ {σ':St} {H':Hp} {v:V} {u:Value},Inv (m6 CX P w K mg base N qual scope f cdv A outer s H E) [] σ' H' s'->RelV v u->Q v H'->CE outer P w H s Q u s':=
   λ{σ' H' v u} J rv q=>⟨v,H',J.os,J.bare,J.base,J.hok,rv,q⟩
 cases fl with
 | ret u=>
   obtain ⟨v,σ',H',J,rv,q⟩:=hs
   exact fin J rv q
 | next=>
   obtain ⟨σ',H',J,q⟩:=hs
   exact fin (v:=V.non) (u:=Value.none) J rfl q
 | brk=>
   obtain ⟨_,_,_,q⟩:=hs
   exact False.elim q
 | cont=>
   obtain ⟨_,_,_,q⟩:=hs
   exact False.elim q
section
variable {X:Cx} {x:Str} {p pos:Pos} {e:Expr} {es:List Expr} {t:TA} {id T:String} {r:List V->Hp->VK->Prop}
noncomputable def tCB (r:List V->Hp->VK->Prop) (t:TA):TE:=λσ H Q=>t σ H λvs H1=>r vs H1 Q
theorem me (hc:dJ X (.builtin id) r) (hg:Gl X x) (hm:X.mg x=none) (hv:bootBuiltins x=some (.builtin id)) (ha:PA X (e :: es) t) (hn:x ≠ "__name__":=by decide) (hdb:(x == ("__debug__" : Str))=false:=by decide)
   (he:starEach (e :: es) X.env=(false,eval e X.env) :: starEach es X.env:=by rfl) (hpl:(backTo pos (starEach es X.env)).any (·.1)=false:=by rfl):PE X (.Call (.Name x p) (e :: es) [] pos) (tCB r t):=by
 intro pins s σ H Q I h
 refine wpAny_Call_Name_kw (dg I hg hm hv ?_ hn hdb)
 exact PyProof.Rows.callWith_builtin1 (thn (ha pos pins s σ H _ I h) λus s1 ⟨vs,H1,I1,r1,q1⟩=>hc pins s1 σ H1 vs us Q I1 r1 q1) he hpl
theorem qJ (hc:dJ X (.type T) r) (hg:Gl X x) (hm:X.mg x=none) (hv:bootBuiltins x=some (.type T)) (ha:PA X (e :: es) t) (hn:x ≠ "__name__":=by decide) (hdb:(x == ("__debug__" : Str))=false:=by decide)
   (he:starEach (e :: es) X.env=(false,eval e X.env) :: starEach es X.env:=by rfl) (hpl:(backTo pos (starEach es X.env)).any (·.1)=false:=by rfl):PE X (.Call (.Name x p) (e :: es) [] pos) (tCB r t):=by
 intro pins s σ H Q I h
 refine wpAny_Call_Name_kw (dg I hg hm hv ?_ hn hdb)
 exact PyProof.Rows.callWith_type1 (thn (ha pos pins s σ H _ I h) λus s1 ⟨vs,H1,I1,r1,q1⟩=>hc pins s1 σ H1 vs us Q I1 r1 q1) he hpl
end
end L2
namespace HT
open PySem PyProof.Rows
section
open PySem.SeqAt
open PySem.AutoSeq1 (wpAny_loadPart')
open PySem.MeetsSeq PySem.MeetsSeq2 PySem.MeetsSeq3
end
section
variable {prog:Program} {w:World} {A:Around} {E:Value->Shared->Prop} {s:Shared}
noncomputable def sIx (n d:Nat):Option Int->Nat
 | none=>d
 | some v=>if v < 0 then (v + (n:Int)).toNat else min v.toNat n
theorem rD (n d:Nat):sIx n d none=d:=rfl
theorem k4 (n d k:Nat):sIx n d (some (k:Int))=min k n:=by
 show (if (k:Int) < 0 then ((k:Int) + (n:Int)).toNat else min (k:Int).toNat n)=min k n
 rw [if_neg (by omega),Int.toNat_natCast]
theorem xx (n d:Nat) (hd:d<=n) (o:Option Int):sIx n d o<=n:=by
 cases o with
 | none=>exact hd
 | some v=>
   show (if v < 0 then (v + (n:Int)).toNat else min v.toNat n)<=n
   by_cases hv:v < 0
   · rw [if_pos hv]; omega
   · rw [if_neg hv]; exact Nat.min_le_right _ _
theorem pF (v:Int) (n d:Nat):(if v < 0 then max (v + (n:Int)) 0 else min v (n:Int))=((sIx n d (some v):Nat):Int):=by
 show (if v < 0 then max (v + (n:Int)) 0 else min v (n:Int))=(((if v < 0 then (v + (n:Int)).toNat else min v.toNat n):Nat):Int)
 by_cases hv:v < 0
 · simp only [if_pos hv]; omega
 · simp only [if_neg hv]; omega
theorem og (lo hi:Option Int) (n:Nat):Builtin.Slice.sliceAdjust lo hi 1 (n:Int)=(((sIx n 0 lo:Nat):Int),((sIx n n hi:Nat):Int)):=by
 have h1:¬ ((1:Int) < 0):=by omega
 unfold Builtin.Slice.sliceAdjust
 simp only [h1,if_false]
 refine Prod.ext ?_ ?_
 · cases lo with
   | none=>rfl
   | some v=>exact pF v n 0
 · cases hi with
   | none=>rfl
   | some v=>exact pF v n n
theorem oq (i j:Nat):Builtin.Slice.slicePlaces (i:Int) (j:Int) 1=j - i:=by
 unfold Builtin.Slice.slicePlaces
 have h1:(1:Int) > 0:=by omega
 simp only [h1,if_true,Int.ediv_one]
 split <;> omega
theorem iS {v:Value} {o:Option Int} {Q:Option Int->Shared->Prop} (p:IsPart v o) (h:Q o s):wpAny (model prog w) A (Builtin.Slice.slicePartIndex v) Q E s:=by
 cases p with
 | none=>exact slicePart_none h
 | int i t=>exact slicePart_int h
theorem gI {sl:Addr} {vl vu:Value} {lo hi:Option Int} {n:Nat} {Q:Int × Int × Nat->Shared->Prop} (hs:s.heap.IsSliceOf sl vl vu .none) (pl:IsPart vl lo) (pu:IsPart vu hi)
   (h:Q (((sIx n 0 lo:Nat):Int),1,sIx n n hi - sIx n 0 lo) s):wpAny (model prog w) A (Builtin.Slice.sliceApplied (.ref sl) (pure (n:Int))) Q E s:=by
 obtain ⟨os,hos,hcs,hds⟩:=id hs
 unfold Builtin.Slice.sliceApplied Builtin.Slice.sliceFields
 refine wpAny_bind (wpAny_bind (wpAny_field hos hds (x:=vl) rfl (wpAny_bind (wpAny_field hos hds (x:=vu) rfl (wpAny_bind (wpAny_field hos hds (x:=.none) rfl (wpAny_pure ?_)))))))
 refine wpAny_bind (slicePart_none ?_)
 show wpAny _ _ (if ((1:Int) == 0)=true then _ else _) _ _ s
 rw [if_neg (by decide)]
 refine wpAny_bind (iS pl (wpAny_bind (iS pu (wpAny_bind (wpAny_pure ?_)))))
 show wpAny _ _ (match Builtin.Slice.sliceAdjust lo hi 1 (n:Int) with | (lo,hi)=>pure (lo,(1:Int),Builtin.Slice.slicePlaces lo hi 1)) _ _ s
 rw [og lo hi n]
 show wpAny _ _ (pure (((sIx n 0 lo:Nat):Int),(1:Int),Builtin.Slice.slicePlaces ((sIx n 0 lo:Nat):Int) ((sIx n n hi:Nat):Int) 1)) _ _ s
 rw [oq]
 exact wpAny_pure h
theorem r9 (xs:Array Value) (i k:Nat):((List.range k).filterMap λ(m:Nat)=>xs[((i:Int) + (m:Int) * 1).toNat]?).toArray=((xs.toList.drop i).take k).toArray:=by
 have e:(λ(m:Nat)=>xs[((i:Int) + (m:Int) * 1).toNat]?)=λm=>xs[i + m]?:=by
   funext m
   have:((i:Int) + (m:Int) * 1).toNat=i + m:=by omega
   rw [this]
 rw [e]
 have:=pick_run xs i k
 rw [List.filterMap_map] at this
 have e2:((λx=>xs[x]?) ∘ λx=>i + x)=λm=>xs[i + m]?:=rfl
 rw [e2] at this
 rw [this]
theorem gz {t sl:Addr} {items:Array Value} {vl vu:Value} {lo hi:Option Int} {Q:Value->Shared->Prop} (ht:IsTup s.heap t items) (hs:s.heap.IsSliceOf sl vl vu .none) (pl:IsPart vl lo) (pu:IsPart vu hi)
   (hw:¬ (sIx items.size 0 lo=0/\sIx items.size items.size hi=items.size))
   (h:Q (.ref s.heap.objs.size) { s with heap:=s.heap.push { cls:=.type "tuple",data:=.seq ((items.toList.drop (sIx items.size 0 lo)).take (sIx items.size items.size hi - sIx items.size 0 lo)).toArray } })
   (hsz:items.size<=sizeLine):wpAny (model prog w) A (getItem (.ref t) (.ref sl)) Q E s:=by
 have htake:sizeOk (.seq ((items.toList.drop (sIx items.size 0 lo)).take (sIx items.size items.size hi - sIx items.size 0 lo)).toArray):=by
   show ((items.toList.drop (sIx items.size 0 lo)).take (sIx items.size items.size hi - sIx items.size 0 lo)).toArray.size<=sizeLine
   rw [List.size_toArray,List.length_take,List.length_drop,Array.length_toList]
   omega
 have hj:sIx items.size items.size hi<=items.size:=xx _ _ (Nat.le_refl _) hi
 obtain ⟨os,hos,hcs,hds⟩:=id hs
 have hTs:s.TypeIs (.ref sl) "slice":=⟨os,hos,hcs⟩
 unfold getItem
 try with_reducible refine wpAny_holding ?_
 first | refine wpAny_bind (wpAny_pure ?_) | skip
 refine wpAny_bind (wpAny_sequenceKey ht.typeIs (by decide) ?_)
 refine wpAny_bind (wpAny_callSpecial?_slot (name:=Str.ofString "__getitem__") ht.typeIs PyProof.Rows.slot_tuple_getitem
   (wpAny_call_entry PyProof.Rows.slot_tuple_getitem ht.typeIs entry_tuple_getitem ?_ (args_tuple_getitem _ _)))
 show wpAny _ _ (Builtin.Tuple.tupleItemsOf (.ref t) >>= _) _ _ s
 refine wpAny_bind (tupleItemsOf_ ht ?_)
 refine wpAny_bind (wpAny_typeOf hTs ?_)
 rw [if_pos (by decide)]
 refine wpAny_bind (gI hs pl pu ?_)
 have hno:¬ ((((sIx items.size 0 lo:Nat):Int) == 0 && (1:Int) == 1 && (sIx items.size items.size hi - sIx items.size 0 lo) == items.size)=true):=by
   intro q
   rw [Bool.and_eq_true,Bool.and_eq_true] at q
   have q1:((sIx items.size 0 lo:Nat):Int)=0:=eq_of_beq q.1.1
   have q2:sIx items.size items.size hi - sIx items.size 0 lo=items.size:=eq_of_beq q.2
   exact hw ⟨by omega,by omega⟩
 show wpAny _ _ (if (((sIx items.size 0 lo:Nat):Int) == 0 && (1:Int) == 1 && (sIx items.size items.size hi - sIx items.size 0 lo) == items.size)=true then _ else _) _ _ s
 rw [if_neg hno,r9]
 first
   | exact wpAny_bind (m:=Builtin.Tuple.tupleExact _) (wpAny_newObj_type (wpAny_pure ⟨_,rfl,wpAny_pure h⟩) htake)
   | exact wpAny_bind (m:=Builtin.Tuple.tupleExact _) (wpAny_newObj_type (wpAny_bind (wpAny_pure (wpAny_pure ⟨_,rfl,wpAny_pure h⟩))) htake)
   | exact wpAny_bind (wpAny_bind (m:=Builtin.Tuple.tupleExact _) (wpAny_newObj_type (wpAny_pure (wpAny_pure ⟨_,rfl,wpAny_pure h⟩)) htake))
   | exact wpAny_bind (wpAny_bind (m:=Builtin.Tuple.tupleExact _) (wpAny_newObj_type (wpAny_pure ⟨_,rfl,wpAny_pure h⟩) htake))
end
end HT
namespace L2
open PySem PySem.Spec PyProof.Rows
noncomputable abbrev TO:=St->Hp->(Option Int->Hp->Prop)->Prop
noncomputable def PO (X:Cx) (e:Option Expr) (t:TO):Prop:=
 ∀ (pins:List (Addr × Obj)) (s:Shared) (σ:St) (H:Hp) (Q:Option Int->Hp->Prop),Inv X pins σ H s->t σ H Q ->
   wpAny (model X.prog X.w) X.A (evalPart e X.env) (λu s'=>∃ o H',Inv X pins σ H' s'/\IsPart u o/\Q o H') X.xe s
noncomputable def uH:TO:=λ_ H Q=>Q none H
noncomputable def yA (t:TE):TO:=λσ H Q=>t σ H λx H1=>∃ i,x=.int i/\Q (some i) H1
section
variable {X:Cx} {e:Expr} {te:TE} {lo hi:Option Expr} {tl th:TO} {pos p2:Pos}
theorem vi:PO X none uH:=by
 intro pins s σ H Q I h
 rw [evalPart_none]
 exact wpAny_pure ⟨none,H,I,.none,h⟩
theorem ud (h:PE X e te):PO X (some e) (yA te):=by
 intro pins s σ H Q I hw
 rw [evalPart_some]
 refine thn (h pins s σ H _ I hw) λu s1 ⟨x,H1,I1,r1,q1⟩=>?_
 obtain ⟨i,rfl,q⟩:=q1
 obtain ⟨t,rfl⟩:=r1
 exact ⟨some i,H1,I1,.int i t,q⟩
noncomputable def SlR (X:Cx) (r:V->Option Int->Option Int->Hp->VK->Prop):Prop:=
 ∀ (pins:List (Addr × Obj)) (s:Shared) (σ:St) (H:Hp) (x:V) (v vl vu:Value) (lo hi:Option Int) (sl:Addr) (Q:VK),Inv X pins σ H s->RelV x v->s.heap.IsSliceOf sl vl vu .none->IsPart vl lo->IsPart vu hi->r x lo hi H Q ->
   ∃ T id,typeLookup (.type T) "__getitem__" = pure (some (.builtin id))/\s.TypeIs v T/\wpAny (model X.prog X.w) X.A (getItem v (.ref sl)) (EP X pins σ Q) X.xe s
noncomputable def tSl (r:V->Option Int->Option Int->Hp->VK->Prop) (te:TE) (tl th:TO):TE:=λσ H Q=>te σ H λx H1=>tl σ H1 λl H2=>th σ H2 λu H3=>r x l u H3 Q
theorem mx {r:V->Option Int->Option Int->Hp->VK->Prop} (hr:SlR X r) (he:PE X e te) (hl:PO X lo tl) (hu:PO X hi th):PE X (.Subscript e (.Slice lo hi none p2) pos) (tSl r te tl th):=by
 intro pins s σ H Q I h
 refine Subscript_ (thn (he pins s σ H _ I h) λv s1 ⟨x,H1,I1,r1,q1⟩=>?_)
 refine wpAny_Slice (thn (hl pins s1 σ H1 _ I1 q1) λvl s2 ⟨l,H2,I2,pl,q2⟩=>thn (hu pins s2 σ H2 _ I2 q2) λvu s3 ⟨u,H3,I3,pu,q3⟩=>?_)
 rw [evalPart_none]
 refine wpAny_pure ?_
 have I4:Inv X pins σ H3 { s3 with heap:=s3.heap.push { cls:=.type "slice",data:=.fields #[vl,vu,.none] } }:=I3.kept (t':=s3.toks) λb ob q=>Heap.get?_push_of_some _ q
 obtain ⟨T,id,hT,ht,hg⟩:=hr pins { s3 with heap:=s3.heap.push { cls:=.type "slice",data:=.fields #[vl,vu,.none] } } σ H3 x v vl vu l u s3.heap.objs.size Q I4 r1 (Heap.IsSliceOf.new ..) pl pu q3
 show wpAny (model X.prog X.w) X.A (subscriptTail e (.Slice lo hi none p2) v (.ref s3.heap.objs.size)) (EP X pins σ Q) X.xe { s3 with heap:=s3.heap.push { cls:=.type "slice",data:=.fields #[vl,vu,.none] } }
 exact tail_any (ops:=[.ref s3.heap.objs.size,v]) ht hT hg (by with_unfolding_all rfl)
noncomputable def js (xs:List V) (lo hi:Option Int):List V:=(xs.drop (HT.sIx xs.length 0 lo)).take (HT.sIx xs.length xs.length hi - HT.sIx xs.length 0 lo)
theorem gS (xs:List V) (lo hi:Option Int):(js xs lo hi).length<=xs.length:=by
 unfold js
 rw [List.length_take,List.length_drop]
 omega
noncomputable def zW (K:PySem.W.Frag):V->Option Int->Option Int->Hp->VK->Prop:=λx lo hi H Q=>∃ a xs,x=.ref a/\SqT K H a xs /\
 ¬ (HT.sIx xs.length 0 lo=0/\HT.sIx xs.length xs.length hi=xs.length)/\∀ p,H p=none->Q (.ref p) (upd H p (.tup (js xs lo hi)))
theorem yd:SlR X (zW X.K):=by
 intro pins s σ H x v vl vu lo hi sl Q I rx hs pl pu h
 obtain ⟨a,xs,rfl,hx,hw,q⟩:=h
 cases rx
 obtain ⟨its,r,ht,hz⟩:=I.tuple hx
 have hlen:its.toArray.size=xs.length:=by rw [List.size_toArray]; exact r.length.symm
 refine ⟨"tuple",_,PyProof.Rows.slot_tuple_getitem.lookup,ht.typeIs,?_⟩
 refine HT.gz ht hs pl pu (by rw [hlen]; exact hw) ?_ (by rw [hlen]; exact hz)
 rw [hlen]
 refine ⟨.ref s.heap.objs.size,_,I.laid (t':=s.toks) (o:=.tup (js xs lo hi)) (λb ob q=>Heap.get?_push_of_some _ q) (Nat.le_refl _) ?_,rfl,q _ (I.hok.fresh (Nat.le_refl _))⟩
 exact ⟨Nat.le_trans (gS xs lo hi) hz,_,(r.drop (HT.sIx xs.length 0 lo)).take (HT.sIx xs.length xs.length hi - HT.sIx xs.length 0 lo),IsTup.new _ _⟩
end
noncomputable def ixN (n:Nat) (i:Int):Option Nat:=if 0<=i then (if i < n then some i.toNat else none) else if -(n:Int)<=i then some (i + n).toNat else none
noncomputable def atI {α:Type} (xs:List α) (i:Int):Option α:=(ixN xs.length i).bind λj=>xs[j]?
theorem oR {n:Nat} {i:Int} {j:Nat} (h:ixN n i=some j):seqIndex? i n=some j/\j < n/\-(n:Int)<=i/\i < n:=by
 unfold ixN at h
 by_cases h0:0<=i
 · rw [if_pos h0] at h
   by_cases h1:i < n
   · rw [if_pos h1] at h
     have e:i.toNat=j:=Option.some.inj h
     exact ⟨by rw [seqIndex_of h0 h1,e],by omega,by omega,h1⟩
   · rw [if_neg h1] at h; cases h
 · rw [if_neg h0] at h
   by_cases h1:-(n:Int)<=i
   · rw [if_pos h1] at h
     have e:(i + n).toNat=j:=Option.some.inj h
     exact ⟨by rw [seqIndex_neg (by omega) h1,e],by omega,h1,by omega⟩
   · rw [if_neg h1] at h; cases h
theorem kx {α:Type} {xs:List α} {i:Int} {v:α} (h:atI xs i=some v):∃ j,seqIndex? i xs.length=some j/\xs[j]?=some v/\j < xs.length/\-(xs.length:Int)<=i/\i < xs.length:=by
 unfold atI at h
 cases e:ixN xs.length i with
 | none=>rw [e] at h; cases h
 | some j=>
   rw [e] at h
   obtain ⟨h1,h2,h3,h4⟩:=oR e
   exact ⟨j,h1,h,h2,h3,h4⟩
noncomputable def iB (b:Expr):Prop:=∀ o i,subscripted b false o i=operate [o,i] (getItem o i)
noncomputable def IxR (X:Cx) (r:R2):Prop:=
 ∀ (value slice:Expr) (pins:List (Addr × Obj)) (s:Shared) (σ:St) (H:Hp) (x y:V) (v u:Value) (Q:VK),Inv X pins σ H s->RelV x v->RelV y u->r x y H Q ->
   subscripted slice false v u=operate [v,u] (getItem v u)->wpAny (model X.prog X.w) X.A (subscriptTail value slice v u) (EP X pins σ Q) X.xe s
noncomputable def MtR (X:Cx) (id:String) (r:V->List V->Hp->VK->Prop):Prop:=
 ∀ (pins:List (Addr × Obj)) (s:Shared) (σ:St) (H:Hp) (x:V) (xs:List V) (v:Value) (us:List Value) (Q:VK),Inv X pins σ H s->RelV x v->Vals xs us->r x xs H Q ->
   wpAny (model X.prog X.w) X.A (call (.builtin id) (v :: us)) (EP X pins σ Q) X.xe s
section
variable {X:Cx} {a b:Expr} {ta tb:TE} {pos:Pos}
theorem rm {r:R2} (hr:IxR X r) (ha:PE X a ta) (hb:PE X b tb) (hs:iB b):PE X (.Subscript a b pos) (tOp r ta tb):=by
 intro pins s σ H Q I h
 exact Subscript_ (wy ha hb I h λv u s2 x y H2 I2 rx ry q=>hr a b pins s2 σ H2 x y v u Q I2 rx ry q (hs _ _))
noncomputable def AB (K:PySem.W.Frag):R2:=λx y H Q=>∃ p xs i v,x=.ref p/\y=.int i/\SqL K H p xs/\atI xs i=some v/\Q v H
noncomputable def Aa (K:PySem.W.Frag):R2:=λx y H Q=>∃ p xs i v,x=.ref p/\y=.int i/\SqT K H p xs/\atI xs i=some v/\Q v H
noncomputable def Aw:R2:=λx y H Q=>∃ z i c,x=.str z/\y=.int i/\z.length<=sizeLine/\atI z.cps.toList i=some c/\Q (.str ⟨#[c]⟩) H
theorem kM:IxR X (AB X.K):=by
 intro value slice pins s σ H x y v u Q I rx ry h hs
 obtain ⟨p,xs,i,z,rfl,rfl,hq,he,q⟩:=h
 cases rx
 obtain ⟨t,rfl⟩:=ry
 obtain ⟨its,r,pl,hz⟩:=I.list hq
 obtain ⟨j,h1,h2,h3,h4,h5⟩:=kx he
 obtain ⟨w,ew,rw'⟩:=r.get h2
 have hl:=r.length
 have hn:=gM
 have fin:EP X pins σ Q w s:=⟨z,H,I,rw',q⟩
 by_cases h0:0<=i
 · have hj:i.toNat=j:=by
     rw [seqIndex_of h0 h5] at h1
     exact Option.some.inj h1
   exact item_listR pl.isList h0 (by omega) (by rw [hj]; simpa using ew) fin hs
 · have hj:(i + (its.toArray.size:Int)).toNat=j:=by
     rw [seqIndex_neg (by omega) h4] at h1
     rw [List.size_toArray,<- hl]
     exact Option.some.inj h1
   exact subscriptTail_builtinR (x:=w) pl.isList.typeIs slot_list_getitem.lookup
     (wpAny_getItem_list_neg (Q:=λr s'=>r=w/\EP X pins σ Q r s') pl.isList (by omega) (by rw [List.size_toArray] <;> omega) (by omega) (by rw [hj]; simpa using ew) ⟨rfl,fin⟩) hs
theorem wb:IxR X (Aa X.K):=by
 intro value slice pins s σ H x y v u Q I rx ry h hs
 obtain ⟨p,xs,i,z,rfl,rfl,hq,he,q⟩:=h
 cases rx
 obtain ⟨t,rfl⟩:=ry
 obtain ⟨its,r,pl,hz⟩:=I.tuple hq
 obtain ⟨j,h1,h2,h3,h4,h5⟩:=kx he
 obtain ⟨w,ew,rw'⟩:=r.get h2
 have hl:=r.length
 have hn:=gM
 have fin:EP X pins σ Q w s:=⟨z,H,I,rw',q⟩
 exact subscriptTail_builtinR (x:=w) pl.typeIs slot_tuple_getitem.lookup
   (getItem_tuple (j:=j) (Q:=λr s'=>r=w/\EP X pins σ Q r s') pl (by omega) (by omega) (by rw [List.size_toArray,<- hl]; exact h1) (by simpa using ew) ⟨rfl,fin⟩) hs
theorem yj:IxR X Aw:=by
 intro value slice pins s σ H x y v u Q I rx ry h hs
 obtain ⟨z,i,c,rfl,rfl,hz,he,q⟩:=h
 obtain ⟨t,rfl⟩:=rx
 obtain ⟨t',rfl⟩:=ry
 obtain ⟨j,h1,h2,h3,h4,h5⟩:=kx he
 have hl:z.cps.toList.length=z.length:=by simp [Str.length]
 rw [hl] at h1 h4 h5
 have hn:=gM
 exact tail_any (typeIs_str s z t) slot_str_getitem.lookup (getItem_str (c:=c) (by
   have e1:decide (i < -(2 ^ 63:Int))=false:=decide_eq_false (by omega)
   have e2:decide (i ≥ 2 ^ 63)=false:=decide_eq_false (by omega)
   rw [e1,e2,Bool.or_false]) (by rw [h1]; simpa using h2) ⟨.str ⟨#[c]⟩,H,I.tok _,⟨_,rfl⟩,q⟩) hs
theorem oi (its:List Value) (n j:Nat) (u:Value):Obj.mapSeq (·.setIfInBounds j u) { cls:=.type "list",data:=.seq its.toArray n }={ cls:=.type "list",data:=.seq (its.set j u).toArray n }:=by
 simp [Obj.mapSeq]
theorem Inv.lst {pins:List (Addr × Obj)} {σ:St} {H:Hp} {s:Shared} {p:Addr} {xs:List V} (I:Inv X pins σ H s) (h:H p=some (.lst xs)) :
   ∃ (its:List Value) (n:Nat),Vals xs its/\s.heap.get? p=some { cls:=.type "list",data:=.seq its.toArray n }/\xs.length<=sizeLine:=by
 obtain ⟨z,its,n,r,e⟩:=I.hok p _ h
 exact ⟨its,n,r,e,z⟩
theorem Inv.xR {pins:List (Addr × Obj)} {σ:St} {H:Hp} {s:Shared} {p:Addr} {xs ys:List V} {its its':List Value} {n n':Nat} {f:Obj->Obj} (I:Inv X pins σ H s) (h:H p=some (.lst xs))
   (ho:s.heap.get? p=some { cls:=.type "list",data:=.seq its.toArray n }) (hf:f { cls:=.type "list",data:=.seq its.toArray n }={ cls:=.type "list",data:=.seq its'.toArray n' }) (r:Vals ys its') (hz:ys.length<=sizeLine) (t:Nat) :
   Inv X pins σ (upd H p (.lst ys)) { s with heap:=s.heap.update p f,toks:=t }:=by
 have e:(s.heap.update p f).get? p=some { cls:=.type "list",data:=.seq its'.toArray n' }:=by
   rw [Heap.get?_update_self f ho (by rw [hf] <;> rfl),hf]
 refine I.write (x:=p) (e:=p) (by rw [h]; trivial) (.inl rfl) (λb u hb q=>(Heap.get?_update_other _ _ (Ne.symm hb)).trans q) ⟨_,e⟩ ?_
 exact ⟨hz,its',n',r,e⟩
noncomputable def zN:V->V->V->Hp->(Hp->Prop)->Prop:=λo i v H Q=>∃ p xs k j,o=.ref p/\i=.int k/\H p=some (.lst xs)/\ixN xs.length k=some j/\Q (upd H p (.lst (xs.set j v)))
theorem set_list:zD X zN:=by
 intro pins s σ H o i v ov iv u Q I ro ri rv h
 obtain ⟨p,xs,k,j,rfl,rfl,hp,hj,q⟩:=h
 cases ro
 obtain ⟨t,rfl⟩:=ri
 obtain ⟨its,n,r,ho,hz⟩:=I.lst hp
 obtain ⟨h1,h2,h3,h4⟩:=oR hj
 have hl:=r.length
 have hn:=gM
 have I':Inv X pins σ (upd H p (.lst (xs.set j v))) { s with heap:=s.heap.update p (Obj.mapSeq (·.setIfInBounds j u)) }:=
   I.xR hp ho (oi its n j u) (r.set rv j) (by rw [List.length_set]; exact hz) s.toks
 by_cases h0:0<=k
 · have hk:k.toNat=j:=by
     rw [seqIndex_of h0 h4] at h1
     exact Option.some.inj h1
   exact PySem.W.ki_setAt ho h0 (by omega) (by rw [List.size_toArray,<- hl]; exact h4) (by rw [hk]; exact ⟨_,I',q⟩)
 · have hk:(k + (its.toArray.size:Int)).toNat=j:=by
     rw [seqIndex_neg (by omega) h3] at h1
     rw [List.size_toArray,<- hl]
     exact Option.some.inj h1
   exact PySem.W.ki_setBack ho (by omega) (by rw [List.size_toArray,<- hl]; exact h3) (by omega) (by rw [hk]; exact ⟨_,I',q⟩)
theorem kW (lo hi:Option Int) (n:Nat):(sliceBounds lo hi none n).1=((HT.sIx n 0 lo:Nat):Int)/\(sliceBounds lo hi none n).2.1=((HT.sIx n n hi:Nat):Int)/\(sliceBounds lo hi none n).2.2=1:=by
 refine ⟨?_,?_,rfl⟩
 · cases lo with
   | none=>simp [sliceBounds,HT.sIx]
   | some i=>
     simp only [sliceBounds,HT.sIx,Option.getD_none,show (1:Int) > 0 by decide,if_true]
     by_cases h:i < 0
     · simp only [h,if_true] <;> omega
     · simp only [h,if_false] <;> omega
 · cases hi with
   | none=>simp [sliceBounds,HT.sIx]
   | some i=>
     simp only [sliceBounds,HT.sIx,Option.getD_none,show (1:Int) > 0 by decide,if_true]
     by_cases h:i < 0
     · simp only [h,if_true] <;> omega
     · simp only [h,if_false] <;> omega
theorem jJ (its:List Value) (lo hi:Option Int):slicePick its.toArray lo hi none=((its.drop (HT.sIx its.length 0 lo)).take (HT.sIx its.length its.length hi - HT.sIx its.length 0 lo)).toArray:=by
 obtain ⟨h1,h2,h3⟩:=kW lo hi its.toArray.size
 unfold slicePick
 rw [h1,h2,h3]
 simp only [sliceRange_one,pick_run,List.size_toArray] <;> rfl
noncomputable def zY (K:PySem.W.Frag):V->Option Int->Option Int->Hp->VK->Prop:=λx lo hi H Q=>∃ a xs,x=.ref a/\SqL K H a xs/\∀ p,H p=none->Q (.ref p) (upd H p (.lst (js xs lo hi)))
theorem vf:SlR X (zY X.K):=by
 intro pins s σ H x v vl vu lo hi sl Q I rx hs pl pu h
 obtain ⟨a,xs,rfl,hx,q⟩:=h
 cases rx
 obtain ⟨its,r,ht,hz⟩:=I.list hx
 have hlen:=r.length
 refine ⟨"list",_,slot_list_getitem.lookup,ht.isList.typeIs,?_⟩
 refine wpAny_getItem_list_slice ht.isList hs pl pu .none (by simp) ?_ (by rw [List.size_toArray] <;> omega)
 rw [jJ,<- hlen]
 refine ⟨.ref s.heap.objs.size,_,I.laid (t':=s.toks) (o:=.lst (js xs lo hi)) (λb ob q=>Heap.get?_push_of_some _ q) (Nat.le_refl _) ?_,rfl,q _ (I.hok.fresh (Nat.le_refl _))⟩
 exact ⟨Nat.le_trans (gS xs lo hi) hz,_,0,(r.drop (HT.sIx xs.length 0 lo)).take (HT.sIx xs.length xs.length hi - HT.sIx xs.length 0 lo),Heap.get?_push_size _ rfl⟩
noncomputable def gZ:V->Bool
 | .non=>true
 | .bl _=>true
 | .int _=>true
 | .str _=>true
 | _=>false
noncomputable def eqV:V->V->Bool
 | .non,.non=>true
 | .bl a,.bl b=>a == b
 | .bl a,.int b=>(if a then 1 else 0) == b
 | .int a,.bl b=>a == (if b then 1 else 0)
 | .int a,.int b=>a == b
 | .str a,.str b=>a == b
 | _,_=>false
theorem wO {A:Around} {s:Shared} {y x:V} {u v:Value} (ry:RelV y u) (rx:RelV x v) (fy:gZ y=true) (fx:gZ x=true):SeqAt.EqAt A s u v (eqV y x):=by
 cases y with
 | non=>
   cases ry
   cases x with
   | non=>cases rx; exact SeqAt.EqAt.same _
   | bl b=>cases rx; exact SeqAt.EqAt.none_bool b
   | int b=>obtain ⟨t,rfl⟩:=rx; exact SeqAt.EqAt.none_int b t
   | str b=>obtain ⟨t,rfl⟩:=rx; exact SeqAt.EqAt.none_str b t
   | _=>exact absurd (show false=true from fx) Bool.false_ne_true
 | bl a=>
   cases ry
   cases x with
   | non=>cases rx; exact SeqAt.EqAt.bool_none a
   | bl b=>cases rx; exact SeqAt.EqAt.bool_bool a b
   | int b=>obtain ⟨t,rfl⟩:=rx; exact SeqAt.EqAt.bool_int a b t
   | str b=>obtain ⟨t,rfl⟩:=rx; exact SeqAt.EqAt.bool_str a b t
   | _=>exact absurd (show false=true from fx) Bool.false_ne_true
 | int a=>
   obtain ⟨t',rfl⟩:=ry
   cases x with
   | non=>cases rx; exact SeqAt.EqAt.int_none a t'
   | bl b=>cases rx; exact SeqAt.EqAt.int_bool a t' b
   | int b=>obtain ⟨t,rfl⟩:=rx; exact SeqAt.EqAt.int_int a t' b t
   | str b=>obtain ⟨t,rfl⟩:=rx; exact SeqAt.EqAt.int_str a t' b t
   | _=>exact absurd (show false=true from fx) Bool.false_ne_true
 | str a=>
   obtain ⟨t',rfl⟩:=ry
   cases x with
   | non=>cases rx; exact SeqAt.EqAt.str_none a t'
   | bl b=>cases rx; exact SeqAt.EqAt.str_bool a t' b
   | int b=>obtain ⟨t,rfl⟩:=rx; exact SeqAt.EqAt.str_int a t' b t
   | str b=>obtain ⟨t,rfl⟩:=rx; exact SeqAt.EqAt.str_str a t' b t
   | _=>exact absurd (show false=true from fx) Bool.false_ne_true
 | _=>exact absurd (show false=true from fy) Bool.false_ne_true
noncomputable def eqU (x:V) (u:Value):Bool:=match u with
 | .none=>eqV .non x
 | .bool b=>eqV (.bl b) x
 | .int i _=>eqV (.int i) x
 | .str z _=>eqV (.str z) x
 | _=>false
theorem sH {x y:V} {u:Value} (r:RelV y u) (f:gZ y=true):eqU x u=eqV y x:=by
 cases y with
 | non=>cases r; rfl
 | bl b=>cases r; rfl
 | int i=>obtain ⟨t,rfl⟩:=r; rfl
 | str z=>obtain ⟨t,rfl⟩:=r; rfl
 | _=>exact absurd (show false=true from f) Bool.false_ne_true
theorem gv {x:V}:∀ {xs:List V} {us:List Value},Vals xs us->xs.all gZ=true->us.any (eqU x)=xs.any λy=>eqV y x
 | _,_,.nil,_=>rfl
 | y :: xs,u :: us,.cons r t,f=>by
   rw [List.all_cons,Bool.and_eq_true] at f
   rw [List.any_cons,List.any_cons,sH r f.1,gv t f.2]
theorem dY {A:Around} {s:Shared} {x:V} {v:Value} (rx:RelV x v) (fx:gZ x=true):∀ {xs:List V} {us:List Value},Vals xs us->xs.all gZ=true->∀ u ∈ us,SeqAt.EqAt A s u v (eqU x u)
 | _,_,.nil,_=>λu hu=>by cases hu
 | y :: xs,u :: us,.cons r t,f=>λu' hu=>by
   rw [List.all_cons,Bool.and_eq_true] at f
   rcases List.mem_cons.mp hu with rfl | hu
   · rw [sH r f.1]; exact wO r rx f.1 fx
   · exact dY rx fx t f.2 u' hu
noncomputable def inV (x:V) (xs:List V):Bool:=xs.any λy=>eqV y x
noncomputable def rIn (K:PySem.W.Frag) (neg:Bool):R2:=λx y H Q=>∃ p xs,y=.ref p/\(SqL K H p xs\/SqT K H p xs)/\gZ x=true/\xs.all gZ=true/\Q (.bl (if neg then !inV x xs else inV x xs)) H
theorem qv:OpR X (compareOp .In) (rIn X.K false):=by
 intro pins s σ H x y v u Q I rx ry h
 obtain ⟨p,xs,rfl,hq,fx,fs,q⟩:=h
 cases ry
 rcases hq with hq | hq
 · obtain ⟨its,r,pl,hz⟩:=I.list hq
   refine SeqAt.in_listAt (eqU x) pl.isList (λw hw=>dY rx fx r fs w (by simpa using hw)) ⟨.bl _,H,I,rfl,?_⟩
   rw [show its.toArray.any (eqU x)=its.any (eqU x) by simp,gv r fs]
   exact q
 · obtain ⟨its,r,pl,hz⟩:=I.tuple hq
   refine SeqAt.in_tupleAt (eqU x) pl (λw hw=>dY rx fx r fs w (by simpa using hw)) ⟨.bl _,H,I,rfl,?_⟩
   rw [show its.toArray.any (eqU x)=its.any (eqU x) by simp,gv r fs]
   exact q
theorem kC:OpR X (compareOp .NotIn) (rIn X.K true):=by
 intro pins s σ H x y v u Q I rx ry h
 obtain ⟨p,xs,rfl,hq,fx,fs,q⟩:=h
 cases ry
 rcases hq with hq | hq
 · obtain ⟨its,r,pl,hz⟩:=I.list hq
   refine SeqAt.notIn_listAt (eqU x) pl.isList (λw hw=>dY rx fx r fs w (by simpa using hw)) ⟨.bl _,H,I,rfl,?_⟩
   rw [show its.toArray.any (eqU x)=its.any (eqU x) by simp,gv r fs]
   exact q
 · obtain ⟨its,r,pl,hz⟩:=I.tuple hq
   refine SeqAt.notIn_tupleAt (eqU x) pl (λw hw=>dY rx fx r fs w (by simpa using hw)) ⟨.bl _,H,I,rfl,?_⟩
   rw [show its.toArray.any (eqU x)=its.any (eqU x) by simp,gv r fs]
   exact q
theorem gj:dJ X (.builtin "len") (λxs H Q=>∃ p ys,xs=[.ref p]/\(SqL X.K H p ys\/SqT X.K H p ys)/\Q (.int ys.length) H):=by
 intro pins s σ H xs us Q I r h
 obtain ⟨p,ys,rfl,hq,q⟩:=h
 obtain ⟨u,rfl,rx⟩:=vals1 r
 cases rx
 have hn:=gM
 rcases hq with hq | hq
 · obtain ⟨its,r',pl,hz⟩:=I.list hq
   have hlen:=r'.length
   exact Calls.call_len_list pl.isList (by simp only [List.size_toArray] <;> omega) ⟨.int ys.length,H,I.tok _,⟨s.toks + 1,by rw [List.size_toArray,hlen]⟩,q⟩
 · obtain ⟨its,r',pl,hz⟩:=I.tuple hq
   have hlen:=r'.length
   exact len_tuple pl (by simp only [List.size_toArray] <;> omega) ⟨.int ys.length,H,I.tok _,⟨s.toks + 1,by rw [List.size_toArray,hlen]⟩,q⟩
theorem kE:dJ X (.builtin "len") (λxs H Q=>∃ z,xs=[.str z]/\z.length<=sizeLine/\Q (.int z.length) H):=by
 intro pins s σ H xs us Q I r h
 obtain ⟨z,rfl,hz,q⟩:=h
 obtain ⟨u,rfl,t,rfl⟩:=vals1 r
 have hn:=gM
 exact len_str (by omega) ⟨.int z.length,H,I.tok _,⟨_,rfl⟩,q⟩
theorem ky:dJ X (.type "list") (λxs H Q=>∃ p ys,xs=[.ref p]/\(SqL X.K H p ys\/SqT X.K H p ys)/\∀ l,H l=none->Q (.ref l) (upd H l (.lst ys))):=by
 intro pins s σ H xs us Q I r h
 obtain ⟨p,ys,rfl,hq,q⟩:=h
 obtain ⟨u,rfl,rx⟩:=vals1 r
 cases rx
 have fin:∀ (its:List Value),Vals ys its->ys.length<=sizeLine->∀ (h':Heap) (c':Nat),(∀ b o',s.heap.get? b=some o'->h'.get? b=some o') ->
     h'.get? s.heap.objs.size=some { cls:=.type "list",dict:=none,data:=.seq its.toArray c',slots:=#[] }->EP X pins σ Q (.ref s.heap.objs.size) { s with heap:=h' }:=λits r' hz h' c' kp e=>
   ⟨.ref s.heap.objs.size,_,I.laid (t':=s.toks) kp (Nat.le_refl _) (show bG X.prog X.w _ h' _ (.lst ys) from ⟨hz,its,c',r',e⟩),rfl,q _ (I.hok.fresh (Nat.le_refl _))⟩
 rcases hq with hq | hq
 · obtain ⟨its,r',pl,hz⟩:=I.list hq
   have hlen:=r'.length
   obtain ⟨o,ho,hc,n,hd⟩:=pl.isList
   exact call_list_seq p (.inl rfl) ho hc hd (λh' c' kp e=>fin its r' hz h' c' kp e) (by simp only [List.size_toArray] <;> omega)
 · obtain ⟨its,r',pl,hz⟩:=I.tuple hq
   have hlen:=r'.length
   obtain ⟨o,ho,hc,n,hd⟩:=pl
   exact call_list_seq p (.inr rfl) ho hc hd (λh' c' kp e=>fin its r' hz h' c' kp e) (by simp only [List.size_toArray] <;> omega)
noncomputable def tyV (K:PySem.W.Frag) (T:String) (x:V) (H:Hp):Prop:=match x with
 | .str _=>T = "str"
 | .int _=>T = "int"
 | .ref p=>(T = "list" /\ ∃ xs,SqL K H p xs)\/(T = "tuple" /\ ∃ o,K.lookup p=some o/\o.cls=.type "tuple" /\ o.dict=none) \/
     (T = "dict" /\ ((∃ kvs,H p=some (.dK kvs))\/∃ kvs,H p=some (.dT kvs)))\/(T = "set" /\ ∃ S n,H p=some (.set S n))
 | _=>False
theorem rX {pins:List (Addr × Obj)} {σ:St} {H:Hp} {s:Shared} {T:String} {x:V} {v:Value} (I:Inv X pins σ H s) (r:RelV x v) (ty:tyV X.K T x H) :
   s.TypeIs v T/\∀ a,v=.ref a->∃ ob,s.heap.get? a=some ob/\ob.dict=none:=by
 cases x with
 | str z=>
   obtain ⟨t,rfl⟩:=r
   cases (show T = "str" from ty)
   exact ⟨typeIs_str s z t,λ_ e=>nomatch e⟩
 | int i=>
   obtain ⟨t,rfl⟩:=r
   cases (show T = "int" from ty)
   exact ⟨typeIs_int s i t,λ_ e=>nomatch e⟩
 | ref p=>
   cases r
   rcases ty with ⟨rfl,xs,hq⟩ | ⟨rfl,o,hk,hc,hd⟩ | ⟨rfl,hk⟩ | ⟨rfl,S,n,hk⟩
   · obtain ⟨its,_,pl,_⟩:=I.list hq
     refine ⟨pl.isList.typeIs,λa e=>?_⟩
     cases e
     obtain ⟨o,n,e,c,hd,_⟩:=pl
     exact ⟨o,e,hd⟩
   · refine ⟨⟨o,I.kIn p o hk,hc⟩,λa e=>?_⟩
     cases e
     exact ⟨o,I.kIn _ o hk,hd⟩
   · have z:∃ o,s.heap.get? p=some o/\o.ExactDict:=by
       rcases hk with ⟨kvs,hk⟩ | ⟨kvs,hk⟩
       · obtain ⟨_,_,_,_,o,_,_,e,ex,_⟩:=I.hok p _ hk
         exact ⟨o,e,ex⟩
       · obtain ⟨_,_,_,_,o,_,_,e,ex,_⟩:=I.hok p _ hk
         exact ⟨o,e,ex⟩
     obtain ⟨o,e,ex⟩:=z
     refine ⟨⟨o,e,ex.1⟩,λa e2=>?_⟩
     cases e2
     exact ⟨o,e,ex.2.1⟩
   · obtain ⟨o,_,_,_,e,ex,_⟩:=I.hok p _ hk
     refine ⟨⟨o,e,ex.1⟩,λa e2=>?_⟩
     cases e2
     exact ⟨o,e,ex.2.1⟩
 | _=>exact False.elim ty
noncomputable def Ab (K:PySem.W.Frag) (T:String) (r:V->List V->Hp->VK->Prop) (to:TE):TE:=λσ H Q=>to σ H λx H1=>tyV K T x H1/\r x [] H1 Q
noncomputable def tBM (K:PySem.W.Frag) (T:String) (r:V->List V->Hp->VK->Prop) (to:TE) (t:TA):TE:=λσ H Q=>to σ H λx H1=>tyV K T x H1/\t σ H1 λxs H2=>r x xs H2 Q
variable {o e:Expr} {es:List Expr} {to:TE} {t:TA} {name:Str} {apos cpos:Pos} {T id:String} {r:V->List V->Hp->VK->Prop}
theorem w6 (pa:PlainAttrs T) (slot:Slot T name id) (hty:typeOf (.builtin id)=pure (.type "method_descriptor")) (hm:MtR X id r) (ho:PE X o to)
   (hbase:attributeBase o name X.env (eval o X.env)=eval o X.env:=by rfl) (hline:(apos.endLine == cpos.line)=true:=by rfl):PE X (.Call (.Attribute o name apos) [] [] cpos) (Ab X.K T r to):=by
 intro pins s σ H Q I h
 refine wpAny_Call_method0_late hbase hline (thn (ho pins s σ H _ I h) λv s1 ⟨x,H1,I1,r1,ty,q1⟩=>?_)
 obtain ⟨h1,h2⟩:=rX I1 r1 ty
 exact ⟨T,id,pa,slot,hty,h1,h2,Calls.callWith_builtin rfl (PySem.evalArgs_none (hm pins s1 σ H1 x [] v [] Q I1 r1 .nil q1))⟩
theorem pK (pa:PlainAttrs T) (slot:Slot T name id) (hty:typeOf (.builtin id)=pure (.type "method_descriptor")) (hm:MtR X id r) (ho:PE X o to) (ha:PA X (e :: es) t)
   (hbase:attributeBase o name X.env (eval o X.env)=eval o X.env:=by rfl)
   (hfew:((backTo cpos (starEach (e :: es) X.env)).all (λx=>!x.1) && (backToKw cpos (keywordEach [] X.env)).all (λx=>x.1.isSome)
     && decide ((e :: es).length + ([]:List Keyword).length + (if ([]:List Keyword).isEmpty then 0 else 1) < 30))=true:=by rfl)
   (hline:(apos.endLine == cpos.line)=true:=by rfl) (hs:starEach (e :: es) X.env=(false,eval e X.env) :: starEach es X.env:=by rfl) (hplain:(backTo cpos (starEach es X.env)).any (·.1)=false:=by rfl) :
   PE X (.Call (.Attribute o name apos) (e :: es) [] cpos) (tBM X.K T r to t):=by
 intro pins s σ H Q I h
 refine wpAny_Call_method_late hbase hfew hline rfl (thn (ho pins s σ H _ I h) λv s1 ⟨x,H1,I1,r1,ty,q1⟩=>?_)
 obtain ⟨h1,h2⟩:=rX I1 r1 ty
 refine ⟨T,id,pa,slot,hty,h1,h2,?_⟩
 have hA:=ha cpos pins s1 σ H1 _ I1 q1
 rw [hs] at hA ⊢
 refine Calls.callWith_builtin (by show (false || (backTo cpos (starEach es X.env)).any (·.1))=false; rw [hplain] <;> rfl) (Calls.evalArgs_plain ?_)
 exact thn hA λus s2 ⟨vs,H2,I2,r2,q2⟩=>hm pins s2 σ H2 x vs v us Q I2 r1 r2 q2
end
noncomputable def MtM (X:Cx) (id:String) (r:V->List V->Hp->VK->Prop):Prop:=
 ∀ (pins:List (Addr × Obj)) (s:Shared) (σ:St) (H:Hp) (x:V) (xs:List V) (v:Value) (us:List Value) (Q:VK),Inv X pins σ H s->RelV x v->Vals xs us->r x xs H Q ->
   wpAny (model X.prog X.w) X.A (call (.builtin id) (v :: us)) (EP X pins σ Q) X.xe s
theorem Vals.one:∀ {x:V} {us:List Value},Vals [x] us->∃ u,us=[u]/\RelV x u
 | _,_,.cons r .nil=>⟨_,rfl,r⟩
theorem Vals.zero:∀ {us:List Value},Vals [] us->us=[]
 | _,.nil=>rfl
theorem Vals.rep {xs:List V} {us:List Value} (h:Vals xs us):∀ k:Nat,Vals (List.replicate k xs).flatten (List.replicate k us).flatten
 | 0=>.nil
 | k + 1=>by
   rw [List.replicate_succ,List.replicate_succ,List.flatten_cons,List.flatten_cons]
   exact Vals.append h (Vals.rep h k)
theorem foldl_rep (its:List Value):∀ (k:Nat) (acc:List Value),
   List.foldl (λx1 x2=>x1++x2) acc.toArray (List.replicate k its.toArray)=(acc++(List.replicate k its).flatten).toArray
 | 0,acc=>by simp
 | k + 1,acc=>by
   have e:acc.toArray++its.toArray=(acc++its).toArray:=by simp
   have e2:(acc++its)++(List.replicate k its).flatten=acc++(List.replicate (k + 1) its).flatten:=by
     rw [List.replicate_succ,List.flatten_cons,List.append_assoc]
   rw [<- e2,<- foldl_rep its k (acc++its),<- e,List.replicate_succ,List.foldl_cons]
section
variable {X:Cx} {pins:List (Addr × Obj)} {σ:St} {H:Hp} {s:Shared} {l b:Addr} {xs ys zs:List V}
theorem Inv.uO {its its':List Value} {n:Nat} {f:Array Value->Array Value} {t':Nat} (I:Inv X pins σ H s) (hH:H l=some (.lst xs))
   (e:s.heap.get? l=some { cls:=.type "list",data:=.seq its.toArray n }) (hf:f its.toArray=its'.toArray) (hv:Vals ys its') (hz:ys.length<=sizeLine) :
   Inv X pins σ (upd H l (.lst ys)) { s with heap:=s.heap.update l (Obj.mapSeq f),toks:=t' }:=by
 have q:=PySem.IsL.update e f
 rw [hf] at q
 refine I.write (x:=l) (e:=l) (by rw [hH]; exact trivial) (.inl rfl) (λb' u hb hu=>(Heap.get?_update_other s.heap (Obj.mapSeq f) (Ne.symm hb)).trans hu) ⟨_,q⟩ ?_
 exact ⟨hz,its',_,hv,q⟩
theorem Inv.zj {its:List Value} {t':Nat} (I:Inv X pins σ H s) (hv:Vals ys its) (hz:ys.length<=sizeLine) :
   Inv X pins σ (upd H s.heap.objs.size (.lst ys)) { s with heap:=s.heap.push { cls:=.type "list",data:=.seq its.toArray },toks:=t' }:=
 I.laid (λ_ _ q=>Heap.get?_push_of_some _ q) (Nat.le_refl _) ⟨hz,its,0,hv,Heap.get?_push_size _ rfl⟩
theorem Inv.fresh (I:Inv X pins σ H s):H s.heap.objs.size=none:=I.hok.fresh (Nat.le_refl _)
theorem Inv.rJ (I:Inv X pins σ H s) (hH:H l=some (.lst xs)):xs.length<=sizeLine/\∃ (its:List Value) (n:Nat),Vals xs its/\xs.length=its.length/\s.heap.get? l=some { cls:=.type "list",data:=.seq its.toArray n }:=by
 obtain ⟨z,its,n,r,e⟩:=I.hok l _ hH
 exact ⟨z,its,n,r,r.length,e⟩
theorem iX {n:Nat} (h:n<=sizeLine):Builtin.List.listTooLong n=false:=by
 unfold Builtin.List.listTooLong
 exact decide_eq_false (by omega)
end
section
variable {X:Cx}
noncomputable def uP:V->List V->Hp->VK->Prop:=λx vs H Q=>∃ l xs y,x=.ref l/\vs=[y]/\H l=some (.lst xs)/\xs.length < sizeLine/\Q .non (upd H l (.lst (xs++[y])))
theorem eZ:MtM X "list.append" uP:=by
 intro pins s σ H x vs v us Q I rx rv h
 obtain ⟨l,xs,y,rfl,rfl,hH,hz,q⟩:=h
 cases rx
 obtain ⟨u,rfl,ru⟩:=rv.one
 obtain ⟨z,its,n,r,hl,e⟩:=I.rJ hH
 refine call_meets F.slot_list_append ⟨_,e,rfl⟩ F.entry_list_append (F.args_list_append_2 _ _) (PySem.list_append l its.toArray n u (by rw [List.size_toArray]; omega)) ⟨e,?_⟩
 refine ⟨.non,_,I.uO (its':=its++[u]) hH e (by simp) (r.append (.cons ru .nil)) ?_,rfl,q⟩
 rw [List.length_append,List.length_singleton]
 omega
noncomputable def vb:V->List V->Hp->VK->Prop:=λx vs H Q=>∃ l b xs zs,x=.ref l/\vs=[.ref b]/\H l=some (.lst xs)/\H b=some (.lst zs)/\xs.length + zs.length<=sizeLine/\Q .non (upd H l (.lst (xs++zs)))
theorem qU:MtM X "list.extend" vb:=by
 intro pins s σ H x vs v us Q I rx rv h
 obtain ⟨l,b,xs,zs,rfl,rfl,hH,hB,hz,q⟩:=h
 cases rx
 obtain ⟨u,rfl,ru⟩:=rv.one
 cases ru
 obtain ⟨z,its,n,r,hl,e⟩:=I.rJ hH
 obtain ⟨z2,its2,n2,r2,hl2,e2⟩:=I.rJ hB
 have hsz:its.toArray.size + its2.toArray.size<=sizeLine:=by rw [List.size_toArray,List.size_toArray]; omega
 have hlong:¬ (!its.toArray.isEmpty && Builtin.List.listTooLong (its.toArray.size + its2.toArray.size))=true:=by
   rw [iX hsz,Bool.and_false]
   exact Bool.false_ne_true
 refine call_meets F.slot_list_extend ⟨_,e,rfl⟩ F.entry_list_extend (F.args_list_extend_2 _ _)
   (AutoSeq1.list_extend_list_list_0 l its.toArray n b its2.toArray n2 hlong (by rw [List.size_toArray]; omega) (by omega)) ⟨e,e2,?_⟩
 refine ⟨.non,_,I.uO (its':=its++its2) hH e (by simp) (r.append r2) ?_,rfl,q⟩
 rw [List.length_append]
 omega
noncomputable def xn:V->List V->Hp->VK->Prop:=λx vs H Q=>∃ l xs,x=.ref l/\vs=[]/\H l=some (.lst xs)/\Q .non (upd H l (.lst []))
theorem sF:MtM X "list.clear" xn:=by
 intro pins s σ H x vs v us Q I rx rv h
 obtain ⟨l,xs,rfl,rfl,hH,q⟩:=h
 cases rx
 have hus:=rv.zero
 subst hus
 obtain ⟨z,its,n,r,hl,e⟩:=I.rJ hH
 refine call_meets F.slot_list_clear ⟨_,e,rfl⟩ F.entry_list_clear (F.args_list_clear_1 _) (AutoSeq1.list_clear_list_0 l its.toArray n (by rw [List.size_toArray]; omega)) ⟨e,?_⟩
 exact ⟨.non,_,I.uO (its':=[]) (ys:=[]) hH e rfl .nil (Nat.zero_le _),rfl,q⟩
theorem len_rep {α:Type} (xs:List α) (k:Nat):(List.replicate k xs).flatten.length=k * xs.length:=by
 induction k with
 | zero=>simp
 | succ k ih=>rw [List.replicate_succ,List.flatten_cons,List.length_append,ih,Nat.succ_mul,Nat.add_comm]
end
section
variable {prog:Program} {w:World} {A:Around} {E:Value->Shared->Prop} {s:Shared}
end
section
variable {X:Cx}
end
end L2
namespace Att
open PySem PySem.W PySem.Calls PyProof.Rows
theorem ic {P:Params} {h:Heap}:∀ (ns:List Int) (vs:List Value),WellAll P h vs (ns.map WData.int)->IntsAre vs ns:=by
 intro ns
 induction ns with
 | nil=>
   intro vs w
   rw [List.map_nil] at w
   cases w
   exact .nil
 | cons n ns ih=>
   intro vs w
   rw [List.map_cons] at w
   cases w with
   | cons a b=>
     cases a
     exact .cons _ _ (ih _ b)
theorem qT {l:OpenLaw} {n:Nat} (hn:l.most=some n) {P:Params} {h:Heap} {args:List WData} {vals:List Value}
   (hpre:l.row.toRowW.claim.pre args=true) (hwl:WellAll P h vals args) :
   ∃ a vs ns,vals=[Value.ref a]/\args=[WData.list (ns.map WData.int)]/\h.get? a=some { cls:=.type "list",data:=.seq vs.toArray }/\IntsAre vs ns/\ns.length<=n:=by
 have hsh:WShape.hasAll [] args [.list .int]=true:=(pre_splitW hpre).1
 have hc:l.pre.holds [] { args:=args }=true:=(pre_splitW hpre).2
 obtain ⟨d,r,rfl,h1,h2⟩:=hasAllW_cons hsh
 obtain rfl:=hasAllW_nil h2
 obtain ⟨xs,rfl,h3⟩:=hasW_list h1
 obtain ⟨ns,rfl⟩:=items_int h3
 have hlen:ns.length<=n:=by
   unfold OpenLaw.pre at hc
   have h4:(WTm.not (.lt (.lit (.int (n:Int))) (.len (.arg 0)))).holds [] { args:=[.list (ns.map .int)] }=true:=by
     have h4:=(holds_andW hc).1
     rw [hn] at h4
     exact h4
   have h5:=condW_of h4 (w_not (w_lt w_lit (w_len_list (w_arg rfl))))
   rw [List.length_map] at h5
   refine Nat.le_of_not_lt λq=>?_
   have q':(n:Int) < ((ns.length:Nat):Int):=by omega
   first
     | (rw [decide_eq_true q'] at h5; exact absurd h5 (by decide))
     | (simp at h5; omega)
 cases hwl with
 | cons w1 w2=>
   cases w2
   cases w1 with
   | list ho hall=>exact ⟨_,_,ns,rfl,rfl,ho,ic ns _ hall,hlen⟩
theorem qK (l:OpenLaw) (args:List WData):l.row.toRowW.claim.post args (.bool true) args=true:=
 postW_of (r:=l.row.toRowW) (X:=(true == true))
   (show WShape.has [] (.bool true) .bool=true by first | rfl | decide | simp [WShape.has,WShape.arms,WShape.armsAll])
   (show (WTm.eq .res (.lit (.bool true))).value [] { args:=args,res:=some (.bool true),after:=args }=some (.bool (true == true)) from w_eq_bool (w_res rfl) w_lit) rfl
theorem mN {l:OpenLaw} {n:Nat} {q:Program} {loose:List Str} {XP:(Str->Option Value)->Heap->Prop} {YP:World->Heap->Prop} {d:DefRec}
   (hn:l.most=some n) (hdf:d.params.defaults=[])
   (call:∀ (w:World) (s₀ s₁:Shared) (mg mb:Str->Option Value) (fa:Addr) (o:Obj) (pm cd doc:Value) (a:Addr) (vs:List Value) (ns:List Int),
     Ground q loose [] XP w s₀ mg mb s₁.heap->YP w s₁.heap ->
     s₁.heap.get? fa=some o->o.data=.func (docDef d.name d.params d.body d.scope pm cd doc)->s₁.heap.CodeRec cd d.name->mg d.name=some (.ref fa) ->
     s₁.heap.get? a=some { cls:=.type "list",data:=.seq vs.toArray }->IntsAre vs ns->ns.length<=n->s₁.gens=#[] ->
     codeAny (model l.prog w) callerA (.call (.ref fa) ⟨[.ref a],[]⟩) (λr s'=>r=.ok (.ret (.bool true))/\OldK s₁.heap s'.heap/\s'.os=s₁.os/\AllBare s'.gens) s₁) :
   WalkO q loose XP YP l.row.toRowW d [] (λf vs=>PySem.call f vs):=by
 intro w s₀ s₁ mg mb G Y fa o pm cd doc dV kV ho hd hcd hD hmg hg args vals as hpre hlay hrd hwl hlo
 obtain rfl:dV=.none:=Dflts.none hD hdf
 obtain rfl:kV=.none:=Dflts.noKw hD
 obtain ⟨a,vs,ns,rfl,rfl,hobj,hints,hlen⟩:=qT hn hpre hwl
 refine enter_call (codeAny_mono (call w s₀ s₁ mg mb fa o pm cd doc a vs ns G Y ho (fd_plain hd) hcd hmg hobj hints hlen hg) λr s' hq=>?_)
 obtain ⟨rfl,h2,h3,h4⟩:=hq
 exact ⟨.inl ⟨.bool true,.bool true,[],rfl,λ_=>rfl,.bool true,qK l _,λ_=>⟨List.Pairwise.nil,λ_ hm=>(nomatch hm)⟩⟩,h2,h3,h4⟩
section
variable {prog:Program} {w:World} {A:Around} {E:Value->Shared->Prop} {s:Shared} {K:Frag}
end
end Att
namespace L2
open PySem PySem.Spec PyProof.Rows
theorem jU:∀ {vs:List Value} {ns:List Int},IntsAre vs ns->Vals (ns.map V.int) vs
 | _,_,.nil=>.nil
 | _,_,.cons n t h=>.cons ⟨t,rfl⟩ (jU h)
noncomputable def wt (H:Hp):Prop:=∀ b,H b=none\/∃ o xs,H b=some (.frz o (.lst xs))
theorem tS {P:Program} {w:World} {K:PySem.W.Frag} {mg mb:Str->Option Value} {CX:CXT} {k:Nat} {fa a:Addr} {fd:FuncData} {x:Str} {sp:Sp} {s₁:Shared} {vs:List Value} {ns:List Int}
   (KX:K.In s₁.heap) (hns:s₁.heap.Ns mainGlobals mg) (hb:s₁.heap.Ns builtinsNs mb) (hbb:∀ x:Str,x ≠ "__name__" -> mb x=bootBuiltins x) (hlim:s₁.heap.NoLimit) (hg:s₁.gens=#[])
   (ha:s₁.heap.get? a=some { cls:=.type "list",data:=.seq vs.toArray }) (hi:IntsAre vs ns) (hl:ns.length<=sizeLine) (hr:b9 k callerA)
   (F:∀ base:Heap,K.In base->base.Ns mainGlobals mg->aG P w K mg base CX k fa fd [x] sp) (hbind:∀ (s:Shared) (u:Value),BindsTo s fd ⟨[u],[]⟩ [(x,u)])
   (hsp:∀ H:Hp,wt H->SqL K H a (ns.map V.int)->sp [.ref a] H (λv _=>v=.bl true) λ_ _ _=>False)
   (hCX:∀ H e s',CX [] H s₁ (λ_ _ _=>False) e s'->False) :
   codeAny (model P w) callerA (.call (.ref fa) ⟨[.ref a],[]⟩) (λr s'=>r=.ok (.ret (.bool true))/\OldK s₁.heap s'.heap/\s'.os=s₁.os/\AllBare s'.gens) s₁:=by
 have rv:=jU hi
 have lenV:=hi.length
 have core:∀ H:Hp,wt H->SqL K H a (ns.map V.int)->HOk P w H s₁.heap->(∀ b,H b ≠ none->b=a)->(H a ≠ none->K.lookup a=none) ->
     codeAny (model P w) callerA (.call (.ref fa) ⟨[.ref a],[]⟩) (λr s'=>r=.ok (.ret (.bool true))/\OldK s₁.heap s'.heap/\s'.os=s₁.os/\AllBare s'.gens) s₁:=by
   intro H hO hS hok hA hK
   have base_of:∀ {b:Addr} {o:Obj},s₁.heap.get? b=some o->H b=none->(kG s₁.heap H).get? b=some o:=λe n=>t9 e n
   have noA:∀ {b:Addr} {o:Obj} {es:Array DictEntry} {ep:Nat},s₁.heap.get? b=some o->o.data=.dict es ep->H b=none:=λ{b o es ep} e d=>by
     cases q:H b with
     | none=>rfl
     | some u=>
       have e':b=a:=hA b (by rw [q]; simp)
       subst e'
       rw [ha] at e; cases e
       have d':Data.seq vs.toArray _=Data.dict es ep:=d
       cases d'
   have nsK:∀ {b:Addr} {m:Str->Option Value},s₁.heap.Ns b m->(kG s₁.heap H).Ns b m:=λ{b m} ⟨o,es,ep,e,d,r⟩=>⟨o,es,ep,base_of e (noA e d),d,r⟩
   have hKb:K.In (kG s₁.heap H):=λb o e=>base_of (KX b o e) (by
     cases q:H b with
     | none=>rfl
     | some u=>
       have e':b=a:=hA b (by rw [q]; simp)
       subst e'
       rw [hK (by rw [q]; simp)] at e; cases e)
   have hM:Mod K mg (kG s₁.heap H):=⟨hKb,nsK hns,⟨mb,nsK hb,hbb⟩,let ⟨mc,h1,h2⟩:=hlim; ⟨mc,nsK h1,h2⟩⟩
   have e0:nq P w K mg (kG s₁.heap H) callerA [] s₁ H:=⟨rfl,hM,λb o e=>ue e,Nat.le_of_eq (qV _ _),trivial,λb hb=>absurd (show b ∈ ([]:List Addr) from hb) (by simp),hok,.of_eq hg⟩
   refine codeAny_mono ((F _ hKb (nsK hns)).run callerA [] s₁ H ⟨[.ref a],[]⟩ [.ref a] [.ref a] _ _ hr e0 (hbind s₁ (.ref a)) (.cons rfl .nil) (hsp H hO hS)) λr s' h=>?_
   cases r with
   | error e=>exact (hCX H e s' h).elim
   | ok fl=>
     cases fl with
     | next=>exact False.elim h
     | brk=>exact False.elim h
     | cont=>exact False.elim h
     | ret u=>
       obtain ⟨v,H',os,bare,un,hok',r',q⟩:=h
       have q':v=.bl true:=q
       subst q'
       obtain rfl:u=Value.bool true:=r'
       refine ⟨rfl,OldK.of_keep λb o e=>?_,os,bare⟩
       cases q:H b with
       | none=>exact un.keep b o e q (by intro z; exact absurd (show b ∈ ([]:List Addr) from z) (by simp)) (by simp)
       | some u=>
         rcases hO b with z | ⟨ob,xs,z⟩
         · rw [q] at z; cases z
         · have z2:=un.frzs b ob _ z
           obtain ⟨e1,_⟩:=hok b _ z
           obtain ⟨e2,_⟩:=hok' b _ z2
           rw [e] at e1; cases e1
           exact e2
 cases hk:K.lookup a with
 | some o=>
   have e:=KX a o hk
   rw [ha] at e
   cases e
   refine core (λ_=>none) (λ_=>.inl rfl) (.inr ⟨_,vs.toArray,_,hk,rfl,rfl,rfl,by rw [List.size_toArray,lenV]; exact hl,by simpa using rv⟩) (λb u z=>by have z':(none:Option HO)=some u:=z; cases z') (λb z=>absurd rfl z) λz=>absurd rfl z
 | none=>
   refine core (λb=>if b=a then some (.frz { cls:=.type "list",data:=.seq vs.toArray } (.lst (ns.map V.int))) else none) (λb=>?_) (.inl (.inr ⟨{ cls:=.type "list",data:=.seq vs.toArray },if_pos rfl⟩)) (λb u z=>?_) (λb z=>?_) λ_=>hk
   · by_cases hb:b=a
     · exact .inr ⟨_,_,if_pos hb⟩
     · exact .inl (if_neg hb)
   · by_cases hb:b=a
     · have z':=(if_pos hb).symm.trans z
       cases z'
       subst hb
       exact ⟨ha,by rw [List.length_map]; exact hl,vs,_,rv,ha⟩
     · have z':=(if_neg hb).symm.trans z
       cases z'
   · by_cases hb:b=a
     · exact hb
     · exact absurd (if_neg hb) z
theorem uT {l:PySem.W.OpenLaw} {n k:Nat} {q:Program} {loose:List Str} {XP:(Str->Option Value)->Heap->Prop} {YP:World->Heap->Prop} {d:DefRec} {K:Params->PySem.W.Frag} {CX:World->CXT} {sp:World->Sp} {x:Str}
   (hn:l.most=some n) (hn2:n<=sizeLine) (hdf:d.params.defaults=[]) (hr:b9 k callerA)
   (hY:∀ (w:World) (h:Heap),YP w h->(K w.params).In h)
   (F:∀ (w:World) (mg:Str->Option Value) (fa:Addr) (h:Heap),(K w.params).In h->h.Ns mainGlobals mg->mg d.name=some (.ref fa) ->
     ∃ fd:FuncData,(∀ (s:Shared) (u:Value),BindsTo s fd ⟨[u],[]⟩ [(x,u)]) /\
       ∀ base:Heap,(K w.params).In base->base.Ns mainGlobals mg->aG l.prog w (K w.params) mg base (CX w) k fa fd [x] (sp w))
   (hsp:∀ (w:World) (H:Hp) (a:Addr) (ns:List Int),ns.length<=n->wt H->SqL (K w.params) H a (ns.map V.int)->sp w [.ref a] H (λv _=>v=.bl true) λ_ _ _=>False)
   (hCX:∀ (w:World) (H:Hp) (s:Shared) (e:Value) (s':Shared),CX w [] H s (λ_ _ _=>False) e s'->False) :
   PySem.W.WalkO q loose XP YP l.row.toRowW d [] (λf vs=>PySem.call f vs):=by
 refine Att.mN hn hdf λw s₀ s₁ mg mb fa o pm cd doc a vs ns G Y ho hd hcd hmg hobj hints hlen hg=>?_
 have KX:=hY w _ Y
 obtain ⟨fd,hb,hF⟩:=F w mg fa _ KX G.T.g hmg
 exact tS KX G.T.g G.T.b G.T.builtins G.T.nolimit hg hobj hints (Nat.le_trans hlen hn2) hr hF hb (λH hO hS=>hsp w H a ns hlen hO hS) λH e s'=>hCX w H s₁ e s'
noncomputable def bz (s:Stmt):Arguments:=match s with
 | .FunctionDef _ a _ _ _ _ _ _ _ _=>a
 | _=>{ posonlyargs:=[],args:=[],vararg:=none,kwonlyargs:=[],kw_defaults:=[],kwarg:=none,defaults:=[] }
noncomputable def aW (s:Stmt):List Stmt:=match s with
 | .FunctionDef _ _ b _ _ _ _ _ _ _=>b
 | _=>[]
noncomputable def ah (s:Stmt):Scope:=match s with
 | .FunctionDef _ _ _ _ _ _ sc _ _ _=>sc
 | _=>{ kind:=.function,names:=[],isGenerator:=false,isCoroutine:=false }
noncomputable abbrev CX0:CXT:=λ_ _ _ _ _ _=>False
noncomputable abbrev E0:XK:=λ_ _ _=>False
theorem jX {X:Cx}:Passes CX0 X E0:=λ_ _ _ _ _ _ _ h=>h.elim
structure Fun (K:PySem.W.Frag) (x qual:Str) (st:Stmt) (f:Addr) (fd:FuncData):Prop where
 ex:∃ (oc:Value) (od:Option Addr) (dV kV doc pm:Value) (an:Option Addr) (cdv ct:Value) (osl:Array (Option Value)),
   fd=PySem.W.fnOf x qual (bz st) (aW st) (ah st) dV kV doc pm an cdv ct/\K.lookup f=some ⟨oc,od,.func fd,osl⟩/\PySem.W.codeIn K cdv qual=true
 kp:PySem.W.keepIn K (.ref f)=true
section
variable {P:Program} {w:World} {K:PySem.W.Frag} {mg:Str->Option Value} {base:Heap}
theorem Fun.ok {x qual:Str} {st:Stmt} {f:Addr} {fd:FuncData} {N ps:List Str} {k:Nat} {sp:Sp} (F:Fun K x qual st f fd) (S:ar N ps (ah st)) (len:∀ vs H Q E,sp vs H Q E->vs.length=ps.length)
   (hbody:∀ (cdv:Value) (A:Around) (outer:List Env) (s:Shared) (H:Hp) (vs:List V) (Q:VK) (E:XK),b9 k (A.deeper (envOfC qual (ah st) s.heap.objs.size f cdv))->sp vs H Q E ->
     ∃ t,PSs (m6 CX0 P w K mg base N qual (ah st) f cdv A outer s H E).nox (aW st) t/\t { nx:=λ_ H'=>Q .non H',rt:=Q } (start N vs) H):aG P w K mg base CX0 (k + 1) f fd ps sp:=by
 obtain ⟨oc,od,dV,kV,doc,pm,an,cdv,ct,osl,rfl,lk,hcd⟩:=F.ex
 refine yD lk hcd S len λA outer s H vs Q E hr hsp=>?_
 obtain ⟨t,h,q⟩:=hbody cdv A outer s H vs Q E hr hsp
 exact ⟨t,h.nox,q⟩
theorem Fun.binds {x qual:Str} {st:Stmt} {f:Addr} {fd:FuncData} {ps:List Str} (_:Fun K x qual st f fd) (h:∀ us:List Value,us.length=ps.length->bindArgs fd ⟨us,[]⟩=pure (ps.zip us)):Binds K fd ps []:=.all h
theorem kZ {x qual:Str} {st:Stmt} {f:Addr} {oc:Value} {od an:Option Addr} {osl:Array (Option Value)} {dV kV doc pm cdv ct:Value} (l:K.lookup f=some ⟨oc,od,.func (PySem.W.fnOf x qual (bz st) (aW st) (ah st) dV kV doc pm an cdv ct),osl⟩)
   (c:PySem.W.codeIn K cdv qual=true) (k:PySem.W.keepIn K (.ref f)=true):Fun K x qual st f (PySem.W.fnOf x qual (bz st) (aW st) (ah st) dV kV doc pm an cdv ct):=⟨⟨oc,od,dV,kV,doc,pm,an,cdv,ct,osl,rfl,l,c⟩,k⟩
end
theorem gB {n:Nat} (h:n<=1000):n < sizeLine:=Nat.lt_of_le_of_lt h (by decide)
section
variable {X:Cx}
theorem pv (i:Nat) {x:Str} {pos:Pos} (hN:X.N[i]?=some x:=by rfl) (hv:Vis X.env.scope x:=by first | exact Or.inl rfl | exact Or.inr (Or.inl rfl) | exact Or.inr (Or.inr rfl)) (hd:(x == ("__debug__" : Str))=false:=by decide)
   (hcd:(x == ("__classdict__" : Str))=false:=by decide):PE X (.Name x pos) (v9 i):=bh hN hv hd hcd
end
theorem qS {A B:Prop} (h:B):if false=true then A else B:=by
 rw [if_neg Bool.false_ne_true]
 exact h
theorem oy {A B:Prop} (h:A):if true=true then A else B:=by
 rw [if_pos rfl]
 exact h
noncomputable def ak (H H':Hp):Prop:=∀ b o,H b=some o->H' b=some o
theorem ak.refl (H:Hp):ak H H:=λ_ _ h=>h
theorem ak.trans {H H1 H2:Hp} (a:ak H H1) (b:ak H1 H2):ak H H2:=λc o h=>b c o (a c o h)
theorem ak.free {H H':Hp} (e:ak H H') {l:Addr} (h:H' l=Option.none):H l=Option.none:=by
 cases q:H l with
 | none=>rfl
 | some o=>
   rw [e l o q] at h
   cases h
theorem ak.seq {K:PySem.W.Frag} {H H':Hp} {a:Addr} {xs:List V} (e:ak H H') (h:SqL K H a xs):SqL K H' a xs:=by
 rcases h with (h | ⟨o,h⟩) | h
 · exact .inl (.inl (e _ _ h))
 · exact .inl (.inr ⟨o,e _ _ h⟩)
 · exact .inr h
end L2
set_option linter.all false
set_option maxRecDepth 100000
namespace Ev
open PySem PySem.Spec PyProof.Rows L2
structure Bx where
 p:PySem.W.Frag->Hp->Addr->Prop
 mono:∀ {K:PySem.W.Frag} {H H':Hp} {a:Addr},ak H H'->p K H a->p K H' a
 isd:∀ {K:PySem.W.Frag} {H:Hp} {a:Addr},p K H a->∃ o:HO,H a=some o/\∀ (P:Program) (w:World) (H':Hp) (h:Heap),bG P w H' h a o->∃ ob,h.get? a=some ob/\ob.cls=.type "dict"
inductive D where
 | non | bl (b:Bool) | int (i:Int) | str (x:Str) | tup (xs:List D) | lst (xs:List D) | box (x:Bx)
noncomputable instance:Inhabited D:=⟨.non⟩
mutual
inductive Den (K:PySem.W.Frag) (H:Hp):V->D->Prop where
 | non:Den K H .non .non
 | bl {b:Bool}:Den K H (.bl b) (.bl b)
 | int {i:Int}:Den K H (.int i) (.int i)
 | str {x:Str}:Den K H (.str x) (.str x)
 | tup {a:Addr} {vs:List V} {ds:List D} (h:SqT K H a vs) (r:ax K H vs ds):Den K H (.ref a) (.tup ds)
 | lst {a:Addr} {vs:List V} {ds:List D} (h:SqL K H a vs) (r:ax K H vs ds):Den K H (.ref a) (.lst ds)
 | box {a:Addr} {x:Bx} (h:x.p K H a):Den K H (.ref a) (.box x)
inductive ax (K:PySem.W.Frag) (H:Hp):List V->List D->Prop where
 | nil:ax K H [] []
 | cons {v:V} {d:D} {vs:List V} {ds:List D} (h:Den K H v d) (r:ax K H vs ds):ax K H (v :: vs) (d :: ds)
end
section
variable {K:PySem.W.Frag} {H H':Hp}
theorem aR (e:ak H H') {a:Addr} {xs:List V} (h:SqT K H a xs):SqT K H' a xs:=by
 rcases h with (h | ⟨o,h⟩) | h
 · exact .inl (.inl (e _ _ h))
 · exact .inl (.inr ⟨o,e _ _ h⟩)
 · exact .inr h
theorem aF (e:ak H H') {a:Addr} {xs:List V} (h:SqL K H a xs):SqL K H' a xs:=e.seq h
mutual
theorem Den.mono (e:ak H H'):∀ {v:V} {d:D},Den K H v d->Den K H' v d
 | _,_,.non=>.non
 | _,_,.bl=>.bl
 | _,_,.int=>.int
 | _,_,.str=>.str
 | _,_,.tup h r=>.tup (aR e h) (ax.mono e r)
 | _,_,.lst h r=>.lst (aF e h) (ax.mono e r)
 | _,_,.box (x:=x) h=>.box (x.mono e h)
theorem ax.mono (e:ak H H'):∀ {vs:List V} {ds:List D},ax K H vs ds->ax K H' vs ds
 | _,_,.nil=>.nil
 | _,_,.cons h r=>.cons (Den.mono e h) (ax.mono e r)
end
theorem ax.length:∀ {vs:List V} {ds:List D},ax K H vs ds->vs.length=ds.length
 | _,_,.nil=>rfl
 | _,_,.cons _ r=>congrArg (· + 1) r.length
theorem ax.get:∀ {vs:List V} {ds:List D} {i:Nat} {d:D},ax K H vs ds->ds[i]?=some d->∃ v,vs[i]?=some v/\Den K H v d
 | _,_,_,_,.nil,e=>by simp at e
 | _,_,0,_,.cons h _,e=>by simp at e; subst e; exact ⟨_,rfl,h⟩
 | _,_,i + 1,d,.cons _ r,e=>by
   obtain ⟨v,h1,h2⟩:=ax.get (i:=i) (d:=d) r (by simpa using e)
   exact ⟨v,by simpa using h1,h2⟩
theorem ax.append:∀ {xs ys:List V} {ds es:List D},ax K H xs ds->ax K H ys es->ax K H (xs++ys) (ds++es)
 | _,_,_,_,.nil,s=>s
 | _,_,_,_,.cons h r,s=>.cons h (ax.append r s)
theorem ax.take:∀ {xs:List V} {ds:List D} (n:Nat),ax K H xs ds->ax K H (xs.take n) (ds.take n)
 | _,_,0,_=>.nil
 | _,_,_ + 1,.nil=>.nil
 | _,_,n + 1,.cons h r=>.cons h (ax.take n r)
theorem ax.drop:∀ {xs:List V} {ds:List D} (n:Nat),ax K H xs ds->ax K H (xs.drop n) (ds.drop n)
 | _,_,0,r=>r
 | _,_,_ + 1,.nil=>.nil
 | _,_,n + 1,.cons _ r=>ax.drop n r
end
noncomputable def aM (i j:Int):Prop:=i.natAbs.log2 < 64\/j.natAbs.log2 < 64\/(i.natAbs.log2 < 1000000/\j.natAbs.log2 < 1000000)
noncomputable def aK (j:Int):Prop:=j ≠ 0/\j.natAbs.log2 < 9000
theorem au {H:Hp} {p:Addr} (h:H p=none) (o:HO):ak H (upd H p o):=λb u q=>by rw [aq (aL q h)]; exact q
noncomputable def Ite (K:PySem.W.Frag) (a:Addr):L2.It:=
 ⟨λi H=>∃ xs x,SqL K H a xs/\xs[i]?=some x,λi H v H'=>∃ p x,H p=none/\v=.ref p/\H'=upd H p (.tup [.int (i:Nat),x])/\∀ xs,SqL K H a xs->xs[i]?=some x,λi H=>∃ xs,SqL K H a xs/\xs.length<=i⟩
theorem qR {P:Program} {w:World} {K:PySem.W.Frag} {ts:List Expr} {q:Nat} {tp:Pos} (a e it:Addr) (hne:e ≠ it) :
   Turn P w K false (.Tuple ts q tp) (Ite K a) [e,it] e (λi h=>(∃ old,IsEnum h e it (i:Nat) old)/\h.IsListIter it a i) where
 mem:=by simp
 obj:=λi h st b hb=>by
   obtain ⟨⟨old,h1⟩,o,h2,h3,h4⟩:=st
   rcases List.mem_cons.mp hb with rfl | hb
   · exact ⟨_,h1,λv z=>nomatch z⟩
   · have z:b=it:=by simpa using hb
     subst z
     exact ⟨o,h2,λv z=>by rw [h4] at z; cases z⟩
 keep:=λi h h' st k=>by
   obtain ⟨⟨old,h1⟩,o,h2,h3,h4⟩:=st
   exact ⟨⟨old,k e (by simp) _ h1⟩,o,k it (by simp) o h2,h3,h4⟩
 item:=by
   intro X hP hw hK hc i pins s σ H E I hf st hg
   subst hP hw hK
   obtain ⟨xs,x,hq,hx⟩:=hg
   obtain ⟨its,rv,p,hz⟩:=I.list hq
   obtain ⟨u,hu,ru⟩:=rv.get hx
   obtain ⟨⟨old,h1⟩,h2⟩:=st
   have fe:=hf e (by simp)
   have fi:=hf it (by simp)
   refine wpAny_pyNext_enum_item h1 h2 p.isList (x:=u) (by simpa using hu) hne λh' g1 g2 g3 g4 g5=>⟨_,rfl,?_⟩
   refine wpAny_letOwnedTupleGo_enum (s:={ s with heap:=h',toks:=s.toks + 1 }) g1 λh2' k1 k2=>?_
   have hn:H s.heap.objs.size=none:=I.hok.fresh (Nat.le_refl _)
   have le1:e < s.heap.objs.size:=Heap.lt_size h1
   have le2:it < s.heap.objs.size:=by obtain ⟨o,z,_⟩:=h2; exact Heap.lt_size z
   have kp:∀ b o,b ≠ e->b ≠ it->s.heap.get? b=some o->h2'.get? b=some o:=λb o b1 b2 z=>(k2.2 b b1).trans (g5 b o b1 b2 z)
   have nt:h2'.get? s.heap.objs.size=some { cls:=.type "tuple",data:=.seq #[.int (i:Nat) s.toks,u] }:=(k2.2 _ (Nat.ne_of_gt le1)).trans g3
   have ne1:∀ b v,H b=some v->b ≠ e:=λb v z q=>by rw [q,fe.1] at z; cases z
   have ne2:∀ b v,H b=some v->b ≠ it:=λb v z q=>by rw [q,fi.1] at z; cases z
   have hok0:HOk X.prog X.w H h2':=λb v z=>(I.hok b v z).i6 (λc v' hc' q=>kp c v' (by
       rcases hc' with hc' | hc'
       · rw [hc']; exact ne1 b v z
       · exact ne1 c _ hc') (by
       rcases hc' with hc' | hc'
       · rw [hc']; exact ne2 b v z
       · exact ne2 c _ hc') q) (λ_ q=>q) λ_ _ q=>q
   have hok1:HOk X.prog X.w (upd H s.heap.objs.size (.tup [.int (i:Nat),x])) h2':=λb v z=>by
     by_cases hb:b=s.heap.objs.size
     · subst hb
       rw [aA] at z; cases z
       exact ⟨(by show 2<=sizeLine; decide),[.int (i:Nat) s.toks,u],.cons ⟨_,rfl⟩ (.cons ru .nil),_,nt,rfl,_,rfl⟩
     · rw [aq hb] at z
       exact (hok0 b v z).i6 (λc v' _ q=>q) (λc q=>by rw [aq (aL q hn)]; exact q) λc ys q=>by rw [aq (aL q hn)]; exact q
   have I1:Inv X pins σ (upd H s.heap.objs.size (.tup [.int (i:Nat),x])) { s with heap:=h2',toks:=s.toks + 1 }:=by
     refine I.step (g':=s.gens) (d':=s.drawn) (ch:=[e,it]) (λb hb=>?_) (λb o _ _ hc' z _=>kp b o (λq=>hc' (by simp [q])) (λq=>hc' (by simp [q])) z)
       (λb o _ _ hc' z _=>⟨o.slots,kp b o (λq=>hc' (by simp [q])) (λq=>hc' (by simp [q])) z⟩)
       (λb o hc' z n=>by rw [aq (Nat.ne_of_lt (Heap.lt_size z))]; exact n) (λb o hc' z=>⟨o,kp b o (λq=>hc' (by simp [q])) (λq=>hc' (by simp [q])) z⟩)
       (λb ys z=>by rw [aq (aL z hn)]; exact z) (λb o u z=>by rw [aq (aL z hn)]; exact z) (λb ps z=>⟨#[],by rw [aq (aL z hn),z]; simp⟩) (λm hm=>?_) hok1 I.bare
     · rcases List.mem_cons.mp hb with rfl | hb
       · exact ⟨fe.2.2.2.1,fe.2.1,fe.2.2.2.2.1,fe.2.2.2.2.2⟩
       · have z:b=it:=by simpa using hb
         subst z
         exact ⟨fi.2.2.2.1,fi.2.1,fi.2.2.2.2.1,fi.2.2.2.2.2⟩
     · obtain ⟨o,es,ep,ho,r⟩:=hm
       exact ⟨o,es,ep,kp _ o (Ne.symm fe.2.1) (Ne.symm fi.2.1) ho,r⟩
   refine ⟨.ref s.heap.objs.size,_,I1,rfl,⟨s.heap.objs.size,x,hn,rfl,rfl,λys hy=>by rw [I.eL hy hq]; exact hx⟩,⟨⟨_,k1⟩,?_⟩,λb hb=>?_⟩
   · obtain ⟨o,z1,z2,z3⟩:=g2
     exact ⟨o,(k2.2 it (Ne.symm hne)).trans z1,z2,z3⟩
   · rcases List.mem_cons.mp hb with rfl | hb
     · rw [aq (Nat.ne_of_lt le1)]; exact fe.1
     · have z:b=it:=by simpa using hb
       subst z
       rw [aq (Nat.ne_of_lt le2)]; exact fi.1
 done:=by
   intro X hP hw hK hc i pins s σ H E I hf st hg
   subst hP hw hK
   obtain ⟨xs,hq,hx⟩:=hg
   obtain ⟨its,rv,p,hz⟩:=I.list hq
   obtain ⟨⟨old,h1⟩,h2⟩:=st
   obtain ⟨f0,f1,f2,f3,f4,f5⟩:=hf it (by simp)
   have hl:=rv.length
   exact wpAny_pyNext_enum_end (I.ok.hd hc.calm) h1 h2 p.isList (by simp; omega) λh' eb=>⟨rfl,I.turned (t':=s.toks) (λb o hb z=>eb b o hb z) f0 f1 f3 f4 f5⟩
 self:=λ_ _ _ _ _ st h=>by
   obtain ⟨⟨old,h1⟩,_⟩:=st
   exact wpAny_pyIter_enum h1 h
section
variable {X:Cx}
noncomputable def yy (K:PySem.W.Frag) (ta:TA):TI:=λσ H R=>ta σ H λvs H1=>∃ a,vs=[.ref a]/\(∃ xs,SqL K H1 a xs)/\R (Ite K a) H1
theorem qj:bootBuiltins "enumerate" = some (.type "enumerate"):=by decide +kernel
theorem pj {ts:List Expr} {q:Nat} {tp:Pos} {a:Expr} {ta:TA} {p pos:Pos} (hc:X.calm=true) (hg:Gl X "enumerate") (hm:X.mg "enumerate" = none) (ha:PA X [a] ta) (hs:starEach [a] X.env=[(false,eval a X.env)]) :
   PI X (.Tuple ts q tp) (.Call (.Name "enumerate" p) [a] [] pos) (yy X.K ta):=by
 intro pins s σ H R I h
 refine Call_ (dg I hg hm qj (PyProof.Rows.callWith_type1 (thn (ha pos pins s σ H _ I h) λus s1 ⟨vs,H1,I1,r1,q1⟩=>?_) hs rfl))
 obtain ⟨l,e,⟨xs,hq⟩,q⟩:=q1
 subst e
 obtain ⟨u,rfl,ru⟩:=vals1 r1
 cases ru
 obtain ⟨its,rv,pl,hz⟩:=I1.list hq
 refine call_enumerate_list pl.isList λh' g1 g2 g3 g4=>?_
 refine wpAny_pyIter_enum (s:={ s1 with heap:=h' }) g1 ?_
 have I2:Inv X pins σ H1 { s1 with heap:=h' }:=I1.kept (t':=s1.toks) g4
 have n1:H1 (s1.heap.objs.size + 1)=none:=I1.hok.fresh (by omega)
 have n2:H1 s1.heap.objs.size=none:=I1.hok.fresh (Nat.le_refl _)
 refine ⟨false,s1.heap.objs.size + 1,[s1.heap.objs.size + 1,s1.heap.objs.size],_,_,H1,rfl,I2,.inl hc,qR l (s1.heap.objs.size + 1) s1.heap.objs.size (Nat.succ_ne_self _),⟨⟨_,g1⟩,g2⟩,λb hb=>?_,q⟩
 rcases List.mem_cons.mp hb with rfl | hb
 · exact I1.jx (by omega) n1
 · have z:b=s1.heap.objs.size:=by simpa using hb
   subst z
   exact I1.jx (Nat.le_refl _) n2
end
noncomputable def Itz (K:PySem.W.Frag) (a b:Addr):L2.It:=
 ⟨λi H=>∃ xs ys x y,SqL K H a xs/\SqL K H b ys/\xs[i]?=some x/\ys[i]?=some y,
  λi H v H'=>∃ p x y,H p=none/\v=.ref p/\H'=upd H p (.tup [x,y])/\(∀ xs,SqL K H a xs->xs[i]?=some x)/\∀ ys,SqL K H b ys->ys[i]?=some y,
  λi H=>∃ xs ys,SqL K H a xs/\SqL K H b ys/\(xs.length<=i\/ys.length<=i)⟩
noncomputable def zSt (a b z TI TO i1 i2:Addr) (i:Nat) (h:Heap):Prop:=
 IsZip h z TI TO .none/\IsPair h TI (.ref i1) (.ref i2)/\(∃ u v,IsPair h TO u v)/\h.IsListIter i1 a i/\h.IsListIter i2 b i
theorem j4 {h:Heap} {a b z TI TO i1 i2:Addr} {i:Nat} {xs ys:Array Value} (n:TI ≠ TO) (m:i1 ≠ i2) (s:zSt a b z TI TO i1 i2 i h) (l1:h.IsList a xs) (l2:h.IsList b ys):ZipApart z TI TO i1 i2 a b:=by
 obtain ⟨h1,h2,⟨u,v,h3⟩,⟨o4,h4,c4,d4⟩,⟨o5,h5,c5,d5⟩⟩:=s
 obtain ⟨o6,h6,c6,n6,d6⟩:=l1
 obtain ⟨o7,h7,c7,n7,d7⟩:=l2
 have kk:∀ {x y:Addr} {o p:Obj},h.get? x=some o->h.get? y=some p->o.cls ≠ p.cls->x ≠ y:=λe1 e2 c q=>by subst q; rw [e1] at e2; cases e2; exact c rfl
 have cz:∀ {s t:String},s ≠ t->Value.type s ≠ Value.type t:=λn q=>n (by cases q; rfl)
 refine ⟨kk h2 h1 (cz (by decide)),kk h3 h1 (cz (by decide)),kk h4 h1 ?_,kk h5 h1 ?_,n,kk h2 h4 ?_,kk h2 h5 ?_,kk h3 h4 ?_,kk h3 h5 ?_,m,kk h6 h1 ?_,kk h6 h3 ?_,kk h6 h4 ?_,kk h6 h5 ?_,kk h7 h1 ?_,kk h7 h3 ?_,kk h7 h4 ?_,kk h7 h5 ?_⟩
 all_goals first | (rw [c4]; exact cz (by decide)) | (rw [c5]; exact cz (by decide)) | (rw [c6]; exact cz (by decide)) | (rw [c7]; exact cz (by decide)) | (rw [c6,c4]; exact cz (by decide)) | (rw [c6,c5]; exact cz (by decide)) | (rw [c7,c4]; exact cz (by decide)) | (rw [c7,c5]; exact cz (by decide))
theorem sW {P:Program} {w:World} {K:PySem.W.Frag} {ts:List Expr} {q:Nat} {tp:Pos} (a b z TI TO i1 i2:Addr) (nT:TI ≠ TO) (nI:i1 ≠ i2) :
   Turn P w K false (.Tuple ts q tp) (Itz K a b) [z,TI,TO,i1,i2] z (zSt a b z TI TO i1 i2) where
 mem:=by simp
 obj:=λi h st c hb=>by
   obtain ⟨h1,h2,⟨u,v,h3⟩,⟨o4,h4,c4,d4⟩,⟨o5,h5,c5,d5⟩⟩:=st
   simp only [List.mem_cons,List.not_mem_nil,or_false] at hb
   rcases hb with rfl | rfl | rfl | rfl | rfl
   · exact ⟨_,h1,λv z=>nomatch z⟩
   · exact ⟨_,h2,λv z=>nomatch z⟩
   · exact ⟨_,h3,λv z=>nomatch z⟩
   · exact ⟨_,h4,λv z=>by rw [d4] at z; cases z⟩
   · exact ⟨_,h5,λv z=>by rw [d5] at z; cases z⟩
 keep:=λi h h' st k=>by
   obtain ⟨h1,h2,⟨u,v,h3⟩,⟨o4,h4,c4,d4⟩,⟨o5,h5,c5,d5⟩⟩:=st
   exact ⟨k z (by simp) _ h1,k TI (by simp) _ h2,⟨u,v,k TO (by simp) _ h3⟩,⟨o4,k i1 (by simp) _ h4,c4,d4⟩,⟨o5,k i2 (by simp) _ h5,c5,d5⟩⟩
 item:=by
   intro X hP hw hK hc i pins s σ H E I hf st hg
   subst hP hw hK
   obtain ⟨xs,ys,x,y,hq1,hq2,hx,hy⟩:=hg
   obtain ⟨its1,rv1,p1,hz1⟩:=I.list hq1
   obtain ⟨its2,rv2,p2,hz2⟩:=I.list hq2
   obtain ⟨u1,hu1,ru1⟩:=rv1.get hx
   obtain ⟨u2,hu2,ru2⟩:=rv2.get hy
   have D:=j4 nT nI st p1.isList p2.isList
   obtain ⟨h1,h2,⟨u,v,h3⟩,h4,h5⟩:=st
   refine wpAny_pyNext_zip_item D h1 h2 h3 h4 h5 p1.isList p2.isList (x:=u1) (y:=u2) (by simpa using hu1) (by simpa using hu2) λh' g1 g2 g3 g4 g5 g6 g7=>⟨_,rfl,?_⟩
   refine wpAny_letOwnedTupleGo_zip (s:={ s with heap:=h' }) g1 λh2' k1 k2=>?_
   have hn:H s.heap.objs.size=none:=I.hok.fresh (Nat.le_refl _)
   have le1:z < s.heap.objs.size:=Heap.lt_size h1
   have lt2:TI < s.heap.objs.size:=Heap.lt_size h2
   have lt3:TO < s.heap.objs.size:=Heap.lt_size h3
   have lt4:i1 < s.heap.objs.size:=by obtain ⟨o,z,_⟩:=h4; exact Heap.lt_size z
   have lt5:i2 < s.heap.objs.size:=by obtain ⟨o,z,_⟩:=h5; exact Heap.lt_size z
   have kp:∀ c o,c ≠ z->c ≠ TO->c ≠ i1->c ≠ i2->s.heap.get? c=some o->h2'.get? c=some o:=λc o b1 b2 b3 b4 e=>(k2.2 c b1).trans (g7 c o b1 b2 b3 b4 e)
   have nt:IsPair h2' s.heap.objs.size u1 u2:=(k2.2 _ (Nat.ne_of_gt le1)).trans g5
   have ne:∀ c,c ∈ [z,TI,TO,i1,i2]->∀ d v,H d=some v->d ≠ c:=λc hc d v e q=>by
     have:=(hf c hc).1
     rw [q,this] at e; cases e
   have hok0:HOk X.prog X.w H h2':=λd v e=>(I.hok d v e).i6 (λc v' hc' q=>kp c v'
       (by rcases hc' with hc' | hc'
           · rw [hc']; exact ne z (by simp) d v e
           · exact ne z (by simp) c _ hc')
       (by rcases hc' with hc' | hc'
           · rw [hc']; exact ne TO (by simp) d v e
           · exact ne TO (by simp) c _ hc')
       (by rcases hc' with hc' | hc'
           · rw [hc']; exact ne i1 (by simp) d v e
           · exact ne i1 (by simp) c _ hc')
       (by rcases hc' with hc' | hc'
           · rw [hc']; exact ne i2 (by simp) d v e
           · exact ne i2 (by simp) c _ hc') q) (λ_ q=>q) λ_ _ q=>q
   have hok1:HOk X.prog X.w (upd H s.heap.objs.size (.tup [x,y])) h2':=λd v e=>by
     by_cases hb:d=s.heap.objs.size
     · subst hb
       rw [aA] at e; cases e
       exact ⟨(by show 2<=sizeLine; decide),[u1,u2],.cons ru1 (.cons ru2 .nil),_,nt,rfl,_,rfl⟩
     · rw [aq hb] at e
       exact (hok0 d v e).i6 (λc v' _ q=>q) (λc q=>by rw [aq (aL q hn)]; exact q) λc ys q=>by rw [aq (aL q hn)]; exact q
   have I1:Inv X pins σ (upd H s.heap.objs.size (.tup [x,y])) { s with heap:=h2' }:=by
     refine I.step (t':=s.toks) (g':=s.gens) (d':=s.drawn) (ch:=[z,TO,i1,i2]) (λc hb=>?_) (λc o _ _ hc' e _=>kp c o (λq=>hc' (by simp [q])) (λq=>hc' (by simp [q])) (λq=>hc' (by simp [q])) (λq=>hc' (by simp [q])) e)
       (λc o _ _ hc' e _=>⟨o.slots,kp c o (λq=>hc' (by simp [q])) (λq=>hc' (by simp [q])) (λq=>hc' (by simp [q])) (λq=>hc' (by simp [q])) e⟩)
       (λc o hc' e n=>by rw [aq (Nat.ne_of_lt (Heap.lt_size e))]; exact n) (λc o hc' e=>⟨o,kp c o (λq=>hc' (by simp [q])) (λq=>hc' (by simp [q])) (λq=>hc' (by simp [q])) (λq=>hc' (by simp [q])) e⟩)
       (λc ys e=>by rw [aq (aL e hn)]; exact e) (λc o u e=>by rw [aq (aL e hn)]; exact e) (λc ps e=>⟨#[],by rw [aq (aL e hn),e]; simp⟩) (λm hm=>?_) hok1 I.bare
     · have hb':c ∈ [z,TI,TO,i1,i2]:=by
         simp only [List.mem_cons,List.not_mem_nil,or_false] at hb ⊢
         rcases hb with h | h | h | h <;> simp [h]
       have fe:=hf c hb'
       exact ⟨fe.2.2.2.1,fe.2.1,fe.2.2.2.2.1,fe.2.2.2.2.2⟩
     · obtain ⟨o,es,ep,ho,r⟩:=hm
       exact ⟨o,es,ep,kp _ o (Ne.symm (hf z (by simp)).2.1) (Ne.symm (hf TO (by simp)).2.1) (Ne.symm (hf i1 (by simp)).2.1) (Ne.symm (hf i2 (by simp)).2.1) ho,r⟩
   refine ⟨.ref s.heap.objs.size,_,I1,rfl,⟨s.heap.objs.size,x,y,hn,rfl,rfl,λzs hy'=>by rw [I.eL hy' hq1]; exact hx,λzs hy'=>by rw [I.eL hy' hq2]; exact hy⟩,⟨k1,?_,⟨u1,u2,(k2.2 TO D.TOz).trans g2⟩,?_,?_⟩,λc hb=>?_⟩
   · exact kp TI _ D.TIz D.TITO D.TIi1 D.TIi2 h2
   · obtain ⟨o,z1,z2,z3⟩:=g3
     exact ⟨o,(k2.2 i1 D.i1z).trans z1,z2,z3⟩
   · obtain ⟨o,z1,z2,z3⟩:=g4
     exact ⟨o,(k2.2 i2 D.i2z).trans z1,z2,z3⟩
   · have fc:=(hf c hb).1
     have lt:c < s.heap.objs.size:=by
       simp only [List.mem_cons,List.not_mem_nil,or_false] at hb
       rcases hb with rfl | rfl | rfl | rfl | rfl <;> assumption
     rw [aq (Nat.ne_of_lt lt)]
     exact fc
 done:=by
   intro X hP hw hK hc i pins s σ H E I hf st hg
   subst hP hw hK
   obtain ⟨xs,ys,hq1,hq2,hx⟩:=hg
   obtain ⟨its1,rv1,p1,hz1⟩:=I.list hq1
   obtain ⟨its2,rv2,p2,hz2⟩:=I.list hq2
   have D:=j4 nT nI st p1.isList p2.isList
   obtain ⟨h1,h2,⟨u,v,h3⟩,h4,h5⟩:=st
   have hl1:=rv1.length
   have hl2:=rv2.length
   refine wpAny_pyNext_zip_end (I.ok.hd hc.calm) D h1 h2 h3 h4 h5 p1.isList p2.isList (by
     rcases hx with hx | hx
     · left; simp; omega
     · right; simp; omega) λh' eb=>⟨rfl,?_⟩
   have ne:∀ c,c ∈ [z,TI,TO,i1,i2]->∀ d v,H d=some v->d ≠ c:=λc hc d v e q=>by
     have:=(hf c hc).1
     rw [q,this] at e; cases e
   have hok0:HOk X.prog X.w H h':=λd v e=>(I.hok d v e).i6 (λc v' hc' q=>eb c v'
       (by rcases hc' with hc' | hc'
           · rw [hc']; exact ne z (by simp) d v e
           · exact ne z (by simp) c _ hc')
       (by rcases hc' with hc' | hc'
           · rw [hc']; exact ne TO (by simp) d v e
           · exact ne TO (by simp) c _ hc')
       (by rcases hc' with hc' | hc'
           · rw [hc']; exact ne i1 (by simp) d v e
           · exact ne i1 (by simp) c _ hc')
       (by rcases hc' with hc' | hc'
           · rw [hc']; exact ne i2 (by simp) d v e
           · exact ne i2 (by simp) c _ hc') q) (λ_ q=>q) λ_ _ q=>q
   refine I.step (t':=s.toks) (g':=s.gens) (d':=s.drawn) (ch:=[z,TO,i1,i2]) (λc hb=>?_) (λc o _ _ hc' e _=>eb c o (λq=>hc' (by simp [q])) (λq=>hc' (by simp [q])) (λq=>hc' (by simp [q])) (λq=>hc' (by simp [q])) e)
       (λc o _ _ hc' e _=>⟨o.slots,eb c o (λq=>hc' (by simp [q])) (λq=>hc' (by simp [q])) (λq=>hc' (by simp [q])) (λq=>hc' (by simp [q])) e⟩)
       (λc o hc' e n=>n) (λc o hc' e=>⟨o,eb c o (λq=>hc' (by simp [q])) (λq=>hc' (by simp [q])) (λq=>hc' (by simp [q])) (λq=>hc' (by simp [q])) e⟩)
       (λc ys e=>e) (λc o u e=>e) (λc ps e=>⟨#[],by rw [e]; simp⟩) (λm hm=>?_) hok0 I.bare
   · have hb':c ∈ [z,TI,TO,i1,i2]:=by
       simp only [List.mem_cons,List.not_mem_nil,or_false] at hb ⊢
       rcases hb with h | h | h | h <;> simp [h]
     have fe:=hf c hb'
     exact ⟨fe.2.2.2.1,fe.2.1,fe.2.2.2.2.1,fe.2.2.2.2.2⟩
   · obtain ⟨o,es,ep,ho,r⟩:=hm
     exact ⟨o,es,ep,eb _ o (Ne.symm (hf z (by simp)).2.1) (Ne.symm (hf TO (by simp)).2.1) (Ne.symm (hf i1 (by simp)).2.1) (Ne.symm (hf i2 (by simp)).2.1) ho,r⟩
 self:=λ_ _ _ _ _ st h=>wpAny_pyIter_zip st.1 h
section
variable {X:Cx}
noncomputable def wW (K:PySem.W.Frag) (ta:TA):TI:=λσ H R=>ta σ H λvs H1=>∃ a b,vs=[.ref a,.ref b]/\(∃ xs,SqL K H1 a xs)/\(∃ ys,SqL K H1 b ys)/\R (Itz K a b) H1
theorem nB {ts:List Expr} {q:Nat} {tp:Pos} {a b:Expr} {ta:TA} {p pos:Pos} (hc:X.calm=true) (hg:Gl X "zip") (hm:X.mg "zip" = none) (ha:PA X [a,b] ta) (hs:starEach [a,b] X.env=(false,eval a X.env) :: starEach [b] X.env) (hs2:starEach [b] X.env=[(false,eval b X.env)]) :
   PI X (.Tuple ts q tp) (.Call (.Name "zip" p) [a,b] [] pos) (wW X.K ta):=by
 intro pins s σ H R I h
 refine Call_ (dg I hg hm boot_zip (PyProof.Rows.callWith_type1 (thn (ha pos pins s σ H _ I h) λus s1 ⟨vs,H1,I1,r1,q1⟩=>?_) hs (by rw [hs2]; rfl)))
 obtain ⟨l,l',e,⟨xs,hq1⟩,⟨ys,hq2⟩,q⟩:=q1
 subst e
 obtain ⟨u,u',rfl,ru,ru'⟩:=vals2 r1
 cases ru
 cases ru'
 obtain ⟨its1,rv1,pl1,hz1⟩:=I1.list hq1
 obtain ⟨its2,rv2,pl2,hz2⟩:=I1.list hq2
 refine call_zip_2 pl1.isList pl2.isList λh' g1 g2 g3 g4 g5 g6 g7=>?_
 refine wpAny_pyIter_zip (s:={ s1 with heap:=h' }) g1 ?_
 have I2:Inv X pins σ H1 { s1 with heap:=h' }:=I1.kept (t':=s1.toks) g7
 have nn:∀ j,H1 (s1.heap.objs.size + j)=none:=λj=>I1.hok.fresh (by omega)
 refine ⟨false,s1.heap.objs.size + 4,[s1.heap.objs.size + 4,s1.heap.objs.size + 2,s1.heap.objs.size + 3,s1.heap.objs.size,s1.heap.objs.size + 1],_,_,H1,rfl,I2,.inl hc,sW l l' (s1.heap.objs.size + 4) (s1.heap.objs.size + 2) (s1.heap.objs.size + 3) s1.heap.objs.size (s1.heap.objs.size + 1) (by simp) (Ne.symm (Nat.succ_ne_self _)),⟨g1,g2,⟨_,_,g3⟩,g4,g5⟩,λc hb=>?_,q⟩
 have hb':∃ j,c=s1.heap.objs.size + j:=by
   simp only [List.mem_cons,List.not_mem_nil,or_false] at hb
   rcases hb with h | h | h | h | h
   · exact ⟨_,h⟩
   · exact ⟨_,h⟩
   · exact ⟨_,h⟩
   · exact ⟨0,h⟩
   · exact ⟨_,h⟩
 obtain ⟨j,rfl⟩:=hb'
 exact I1.jx (Nat.le_add_right _ _) (nn j)
end
noncomputable def Itv (K:PySem.W.Frag) (a:Addr) (n:Nat):L2.It:=
 ⟨λi H=>i < n/\∃ xs x,SqL K H a xs/\xs[n - 1 - i]?=some x,λi H x H'=>H'=H/\∀ xs,SqL K H a xs->xs[n - 1 - i]?=some x,λi _=>n<=i⟩
theorem rB {P:Program} {w:World} {K:PySem.W.Frag} {tg:Expr} (a it:Addr) (n:Nat) :
   Turn P w K false tg (Itv K a n) [it] it (λi h=>i<=n/\h.IsRevIter it a ((n:Int) - 1 - (i:Int))) where
 mem:=by simp
 obj:=λi h st b hb=>by
   have e:b=it:=by simpa using hb
   subst e
   obtain ⟨o,e,c,d⟩:=st.2
   exact ⟨o,e,λv z=>by rw [d] at z; cases z⟩
 keep:=λi h h' st k=>⟨st.1,st.2.at λo e=>k it (by simp) o e⟩
 item:=by
   intro X hP hw hK hc i pins s σ H E I hf st hg
   subst hP hw hK
   obtain ⟨hi,xs,x,hq,hx⟩:=hg
   obtain ⟨its,rv,p,hz⟩:=I.list hq
   obtain ⟨u,hu,ru⟩:=rv.get hx
   obtain ⟨f0,f1,f2,f3,f4,f5⟩:=hf it (by simp)
   have st2:=st.2
   rw [show (n:Int) - 1 - (i:Int)=((n - 1 - i:Nat):Int) by omega] at st2
   refine wpAny_pyNext_rev_item st2 p.isList (x:=u) (by simpa using hu) λh' st' sb=>?_
   have I1:Inv X pins σ H { s with heap:=h' }:=I.turned (t':=s.toks) (λb o hb e=>(sb.2 b hb).trans e) f0 f1 f3 f4 f5
   obtain ⟨o,e,c,d⟩:=id st'
   refine ⟨u,rfl,jV (s:={ s with heap:=h' }) e c d (by decide) ⟨x,H,I1,ru,⟨rfl,λys hy=>by rw [I.eL hy hq]; exact hx⟩,⟨hi,?_⟩,λb hb=>(hf b hb).1⟩⟩
   rw [show (n:Int) - 1 - ((i + 1:Nat):Int)=((n - 1 - i:Nat):Int) - 1 by omega]
   exact st'
 done:=by
   intro X hP hw hK hc i pins s σ H E I hf st hg
   subst hP hw hK
   obtain ⟨f0,f1,f2,f3,f4,f5⟩:=hf it (by simp)
   have st2:=st.2
   have hg:n<=i:=hg
   rw [show (n:Int) - 1 - (i:Int)=-1 by have:=st.1; omega] at st2
   exact wpAny_pyNext_rev_end (I.ok.hd hc.calm) st2 λh' eb=>⟨rfl,I.turned (t':=s.toks) (λb o hb e=>eb b o hb e) f0 f1 f3 f4 f5⟩
 self:=λ_ _ _ _ _ st h=>wpAny_pyIter_revIter st.2 h
section
variable {X:Cx} {tg:Expr}
noncomputable def wM (K:PySem.W.Frag) (ta:TA):TI:=λσ H R=>ta σ H λvs H1=>∃ a xs,vs=[.ref a]/\SqL K H1 a xs/\R (Itv K a xs.length) H1
theorem tJ:bootBuiltins "reversed" = some (.type "reversed"):=by decide +kernel
theorem nL {a:Expr} {ta:TA} {p pos:Pos} (hc:X.calm=true) (hg:Gl X "reversed") (hm:X.mg "reversed" = none) (ha:PA X [a] ta) (hs:starEach [a] X.env=[(false,eval a X.env)]):PI X tg (.Call (.Name "reversed" p) [a] [] pos) (wM X.K ta):=by
 intro pins s σ H R I h
 refine Call_ (dg I hg hm tJ (PyProof.Rows.callWith_type1 (thn (ha pos pins s σ H _ I h) λus s1 ⟨vs,H1,I1,r1,q1⟩=>?_) hs rfl))
 obtain ⟨l,xs,e,hq,q⟩:=q1
 subst e
 obtain ⟨u,rfl,ru⟩:=vals1 r1
 cases ru
 obtain ⟨its,rv,pl,hz⟩:=I1.list hq
 have hl:=rv.length
 refine call_reversed_list pl.isList ?_
 have st:({ s1 with heap:=s1.heap.push (revObj l ((its.toArray.size:Int) - 1)) }:Shared).heap.IsRevIter s1.heap.objs.size l ((its.toArray.size:Int) - 1):=⟨_,Heap.get?_push_size _ rfl,rfl,rfl⟩
 refine wpAny_pyIter_revIter st ?_
 refine ⟨false,s1.heap.objs.size,[s1.heap.objs.size],_,_,H1,rfl,I1.kept (t':=s1.toks) (λb o e=>Heap.get?_push_of_some _ e),.inl hc,rB l _ xs.length,⟨Nat.zero_le _,?_⟩,λb hb=>?_,q⟩
 · rw [show (xs.length:Int) - 1 - ((0:Nat):Int)=(its.toArray.size:Int) - 1 by rw [List.size_toArray,<- hl]; omega]
   exact st
 · have e:b=s1.heap.objs.size:=by simpa using hb
   subst e
   exact I1.jx (Nat.le_refl _) (I1.hok.fresh (Nat.le_refl _))
end
theorem tL:∀ (names:List (Str × NameKind)) (n:Nat) (acc:List (Str × Addr)) (x:Str) (c:Addr),(cellsFrom n names acc).lookup x=some c->n<=c\/acc.lookup x=some c
 | [],_,_,_,_,h=>.inr h
 | (y,k) :: r,n,acc,x,c,h=>by
   unfold cellsFrom at h
   split at h
   · rcases tL r (n + 1) _ x c h with q | q
     · exact .inl (by omega)
     · rw [List.lookup_cons] at q
       split at q
       · cases q; exact .inl (Nat.le_refl _)
       · exact .inr q
   · exact tL r n acc x c h
theorem iZ:∀ (names:List (Str × NameKind)) (n:Nat) (acc:List (Str × Addr)) (x:Str),(x,NameKind.cell) ∉ names->(cellsFrom n names acc).lookup x=acc.lookup x
 | [],_,_,_,_=>rfl
 | (y,k) :: r,n,acc,x,h=>by
   have h1:(x,NameKind.cell) ∉ r:=λz=>h (List.mem_cons_of_mem _ z)
   unfold cellsFrom
   split
   · rename_i hk
     rw [iZ r _ _ x h1,List.lookup_cons]
     have:(x == y)=false:=by
       rw [beq_eq_false_iff_ne]
       rintro rfl
       exact h (by rw [eq_of_beq hk]; exact List.mem_cons_self)
     rw [this]
   · exact iZ r n acc x h1
theorem kY:∀ (names:List (Str × NameKind)) (n:Nat) (acc:List (Str × Addr)) (x:Str),(x,NameKind.cell) ∈ names->∃ c,(cellsFrom n names acc).lookup x=some c/\n<=c
 | (y,k) :: r,n,acc,x,h=>by
   unfold cellsFrom
   by_cases hr:(x,NameKind.cell) ∈ r
   · split
     · obtain ⟨c,e,l⟩:=kY r (n + 1) ((y,n) :: acc) x hr
       exact ⟨c,e,by omega⟩
     · exact kY r n acc x hr
   · rcases List.mem_cons.mp h with q | q
     · cases q
       rw [if_pos (by rfl),iZ r _ _ _ hr]
       exact ⟨n,by simp [List.lookup_cons],Nat.le_refl _⟩
     · exact absurd q hr
theorem nG:∀ (names:List (Str × NameKind)) (n:Nat) (acc:List (Str × Addr)),(∀ x c,acc.lookup x=some c->c < n)->(∀ x y c,acc.lookup x=some c->acc.lookup y=some c->x=y) ->
   ∀ x y c,(cellsFrom n names acc).lookup x=some c->(cellsFrom n names acc).lookup y=some c->x=y
 | [],_,_,_,h=>h
 | (z,k) :: r,n,acc,hl,h=>by
   unfold cellsFrom
   split
   · refine nG r (n + 1) _ (λx c e=>?_) (λx y c e1 e2=>?_)
     · rw [List.lookup_cons] at e
       split at e
       · cases e; exact Nat.lt_succ_self _
       · exact Nat.lt_succ_of_lt (hl x c e)
     · rw [List.lookup_cons] at e1 e2
       split at e1
       · rename_i q1
         cases e1
         split at e2
         · rename_i q2
           exact (eq_of_beq q1).trans (eq_of_beq q2).symm
         · exact absurd (hl y _ e2) (Nat.lt_irrefl _)
       · split at e2
         · cases e2
           exact absurd (hl x _ e1) (Nat.lt_irrefl _)
         · exact h x y c e1 e2
   · exact nG r n acc hl h
theorem kS:∀ (names:List (Str × NameKind)) (h:Heap) (acc:List (Str × Addr)),(∀ x c,acc.lookup x=some c->∃ v,h.IsCell c v)->∀ x c,(cellsFrom h.objs.size names acc).lookup x=some c->∃ v,(pushCells h names).IsCell c v
 | [],_,_,ha,x,c,e=>ha x c e
 | (z,k) :: r,h,acc,ha,x,c,e=>by
   unfold cellsFrom at e
   unfold pushCells
   split at e
   · rename_i hk
     rw [if_pos hk]
     refine kS r _ ((z,h.objs.size) :: acc) (λy d q=>?_) x c (by rw [Heap.size_push]; exact e)
     rw [List.lookup_cons] at q
     split at q
     · cases q
       exact ⟨none,_,Heap.get?_push_size _ rfl,rfl⟩
     · obtain ⟨v,o,ho,hd⟩:=ha y d q
       exact ⟨v,o,Heap.get?_push_of_some _ ho,hd⟩
   · rename_i hk
     rw [if_neg hk]
     exact kS r h acc ha x c e
noncomputable def bZ (env:PySem.Env):List (Str × NameKind)->List (Str × Addr)->List (Str × Addr)
 | [],acc=>acc
 | (n,k) :: r,acc=>if k == .free then (match env.cells.lookup n with | some c=>bZ env r ((n,c) :: acc) | none=>bZ env r acc) else bZ env r acc
theorem iT (env:PySem.Env):∀ (names:List (Str × NameKind)) (acc:List (Str × Addr)),(∀ x ∈ names,x.2=.free->∃ c,env.cells.lookup x.1=some c) ->
   (forIn (m:=Sem) names acc λx cs=>do
     let (name,kind):=x
     if kind == .free then do
       let c <- cellOf env name
       pure (ForInStep.yield ((name,c) :: cs))
     else pure (ForInStep.yield cs))=pure (bZ env names acc)
 | [],acc,_=>rfl
 | (n,k) :: r,acc,h=>by
   rw [List.forIn_cons]
   unfold bZ
   by_cases hk:(k == .free)=true
   · obtain ⟨c,hc⟩:=h (n,k) List.mem_cons_self (eq_of_beq hk)
     simp only [hk,if_true,cellOf,hc,pure_bind]
     exact iT env r _ λx hx=>h x (List.mem_cons_of_mem _ hx)
   · simp only [hk,Bool.false_eq_true,if_false,pure_bind]
     exact iT env r _ λx hx=>h x (List.mem_cons_of_mem _ hx)
theorem pP {env:PySem.Env} {scope:Scope} (h:∀ x ∈ scope.names,x.2=.free->∃ c,env.cells.lookup x.1=some c):closureFor scope env=pure (bZ env scope.names []):=by
 unfold closureFor
 have:=iT env scope.names [] h
 simp only [bind_pure]
 exact this
theorem c8 (env:PySem.Env):∀ (names:List (Str × NameKind)) (acc:List (Str × Addr)) (x:Str) (c:Addr),(∀ y d,acc.lookup y=some d->env.cells.lookup y=some d)->(bZ env names acc).lookup x=some c->env.cells.lookup x=some c
 | [],_,x,c,ha,h=>ha x c h
 | (n,k) :: r,acc,x,c,ha,h=>by
   unfold bZ at h
   split at h
   · split at h
     · rename_i c' hc
       refine c8 env r _ x c (λy d q=>?_) h
       rw [List.lookup_cons] at q
       split at q
       · rename_i qq
         cases q
         rw [eq_of_beq qq]; exact hc
       · exact ha y d q
     · exact c8 env r acc x c ha h
   · exact c8 env r acc x c ha h
theorem cv (env:PySem.Env):∀ (names:List (Str × NameKind)) (acc:List (Str × Addr)) (x:Str) (c:Addr),(∀ y d,acc.lookup y=some d->env.cells.lookup y=some d)->env.cells.lookup x=some c->((x,NameKind.free) ∈ names\/acc.lookup x=some c)->(bZ env names acc).lookup x=some c
 | [],_,x,c,_,_,h=>h.elim (λz=>absurd z (by simp)) id
 | (n,k) :: r,acc,x,c,ha,hc,h=>by
   unfold bZ
   split
   · split
     · rename_i c' hc'
       refine cv env r _ x c (λy d q=>?_) hc ?_
       · rw [List.lookup_cons] at q
         split at q
         · rename_i qq
           cases q
           rw [eq_of_beq qq]; exact hc'
         · exact ha y d q
       · by_cases q:x=n
         · subst q
           rw [hc] at hc'; cases hc'
           exact .inr (by simp [List.lookup_cons])
         · rcases h with h | h
           · rcases List.mem_cons.mp h with z | z
             · cases z; exact absurd rfl q
             · exact .inl z
           · refine .inr ?_
             rw [List.lookup_cons,beq_eq_false_iff_ne.mpr q]
             exact h
     · rename_i hc'
       refine cv env r acc x c ha hc ?_
       rcases h with h | h
       · rcases List.mem_cons.mp h with z | z
         · cases z; rw [hc] at hc'; cases hc'
         · exact .inl z
       · exact .inr h
   · rename_i hk
     refine cv env r acc x c ha hc ?_
     rcases h with h | h
     · rcases List.mem_cons.mp h with z | z
       · cases z; exact absurd rfl hk
       · exact .inl z
     · exact .inr h
theorem ka {M:Model} {A:Around} {E:Value->Shared->Prop} {s:Shared} {scope:Scope} {cl:List (Str × Addr)} {env:PySem.Env} {Q:PySem.Env->Shared->Prop}
   (h:Q (newEnv scope s.heap.objs.size env.globals (cellsFrom (s.heap.objs.size + 1) scope.names cl) env.qual none .none (some env) builtinsNs) { s with heap:=pushCells (s.heap.push { cls:=.type "dict",data:=.dict #[] }) scope.names }) :
   wpAny M A (newFunctionEnv scope env.globals cl [] env.qual none .none (some env)) Q E s:=by
 simp only [newFunctionEnv,Option.isSome_some,if_true]
 refine wpAny_bind (wpAny_alloc ?_)
 refine wpAny_bind (wpAny_layCells _ (λname kind cells=>by cases hkc:kind == NameKind.cell <;> simp [hkc]) _ _ _ _ ?_)
 rw [show ({ s with heap:=s.heap.push { cls:=.type "dict",data:=.dict #[] } }:Shared).heap.objs.size=s.heap.objs.size + 1 from Heap.size_push ..]
 exact wpAny_bind (wpAny_pure (wpAny_pure h))
noncomputable def aE (X:Cx) (s:Shared) (H:Hp) (scope:Scope) (N:List Str) (fp:List Addr):Cx:=
 { prog:=X.prog,w:=X.w,K:=X.K,mg:=X.mg,base:=X.base,A:=X.A,N:=N,s₀:=s,H₀:=H
   env:=compEnvC scope (cellsFrom (s.heap.objs.size + 1 + 1) scope.names (bZ X.env scope.names [])) (s.heap.objs.size + 1) X.env
   outer:=X.stack,stack:=X.stack,ex:=fp,fn:=λx=>decide ((x,NameKind.cell) ∈ scope.names),calm:=X.calm,pn:=[],xe:=λ_ _=>False }
noncomputable def dR (σ:L2.St) (caps:List (Option Nat)):L2.St:=caps.map λo=>o.bind λi=>(σ[i]?).join
structure cD (X:Cx) (scope:Scope) (N:List Str) (caps:List (Option Nat)):Prop where
 kind:scope.kind=.function
 loc:∀ x ∈ scope.names,x.2=.local->scope.names.lookup x.1=some .local
 fre:∀ x ∈ scope.names,x.2=.free->X.env.kindOf x.1=some .cell
 one:∀ x,(x,NameKind.free) ∈ scope.names->(x,NameKind.cell) ∉ scope.names
 noboth:∀ x,(x,NameKind.free) ∈ scope.names->(x,NameKind.local) ∉ scope.names
 len:N.length=caps.length + 1
 cap:∀ (j i:Nat),caps[j]?=some (some i)->∃ x,N[j]?=some x/\X.N[i]?=some x/\(x,NameKind.free) ∈ scope.names
 acc:∃ z,N[caps.length]?=some z/\¬ Vis (relabel scope X.env) z
section
variable {X:Cx} {pins:List (Addr × Obj)} {σ:L2.St} {H:Hp} {s:Shared} {scope:Scope} {N:List Str} {caps:List (Option Nat)} {fp:List Addr}
theorem dC {env:PySem.Env} {x:Str} {names:List (Str × NameKind)} (h:∀ y,(y,NameKind.free) ∈ names->env.kindOf y=some .cell) (hk:env.scope.kind=.function) {k:NameKind}
   (e:(names.map λ(n,k)=>if (k == NameKind.free && env.scope.kind == .function && env.kindOf n == some .cell) then (n,NameKind.cell) else (n,k)).lookup x=some k) :
   (x,k) ∈ names\/((x,NameKind.free) ∈ names/\k=.cell):=by
 induction names with
 | nil=>cases e
 | cons p r ih=>
   obtain ⟨n,q⟩:=p
   rw [List.map_cons] at e
   have hr:∀ y,(y,NameKind.free) ∈ r->env.kindOf y=some .cell:=λy hy=>h y (List.mem_cons_of_mem _ hy)
   have sub:((x,k) ∈ r\/((x,NameKind.free) ∈ r/\k=.cell))->(x,k) ∈ (n,q) :: r\/((x,NameKind.free) ∈ (n,q) :: r/\k=.cell):=λz=>
     z.elim (λy=>.inl (List.mem_cons_of_mem _ y)) λy=>.inr ⟨List.mem_cons_of_mem _ y.1,y.2⟩
   dsimp only at e
   split at e
   · rename_i c
     rw [List.lookup_cons] at e
     split at e
     · rename_i qq
       cases e
       rw [Bool.and_eq_true,Bool.and_eq_true] at c
       rw [eq_of_beq qq,eq_of_beq c.1.1]
       exact .inr ⟨List.mem_cons_self,rfl⟩
     · exact sub (ih hr e)
   · rename_i c
     rw [List.lookup_cons] at e
     split at e
     · rename_i qq
       cases e
       rw [eq_of_beq qq]
       exact .inl List.mem_cons_self
     · exact sub (ih hr e)
theorem fR (I:Inv X pins σ H s) (c:cD X scope N caps):∀ x ∈ scope.names,x.2=.free->∃ d,X.env.cells.lookup x.1=some d:=λx hx hf=>I.ok.has x.1 (.inl (c.fre x hx hf))
theorem lZ (I:Inv X pins σ H s) (hf:∀ b ∈ fp,jP X pins H b) (ho:∀ b ∈ fp,∃ o,s.heap.get? b=some o) (c:cD X scope N caps) :
   Inv (aE X s H scope N fp) [] (dR σ caps++[some (.ref s.heap.objs.size)]) (upd H s.heap.objs.size (.lst []))
     { s with heap:=pushCells ((s.heap.push { cls:=.type "list",data:=.seq ([]:List Value).toArray }).push { cls:=.type "dict",data:=.dict #[] }) scope.names }:=by
 have hcl:∀ x d,(bZ X.env scope.names []).lookup x=some d->X.env.cells.lookup x=some d:=λx d=>c8 X.env scope.names [] x d (λy d z=>by simp at z)
 have kp:∀ b o,s.heap.get? b=some o->(pushCells ((s.heap.push { cls:=.type "list",data:=.seq ([]:List Value).toArray }).push { cls:=.type "dict",data:=.dict #[] }) scope.names).get? b=some o:=λb o e=>
   pushCells_keeps _ _ b o (Heap.get?_push_of_some _ (Heap.get?_push_of_some _ e))
 have sz2:((s.heap.push { cls:=.type "list",data:=.seq ([]:List Value).toArray }).push { cls:=.type "dict",data:=.dict #[] }).objs.size=s.heap.objs.size + 1 + 1:=by rw [Heap.size_push,Heap.size_push]
 have oldc:∀ x d,X.env.cells.lookup x=some d->d < s.heap.objs.size:=λx d e=>by
   obtain ⟨v,o,q,_⟩:=I.cell x d e
   exact Heap.lt_size q
 have cel:∀ x d,(aE X s H scope N fp).env.cells.lookup x=some d->s.heap.objs.size + 1 + 1<=d\/X.env.cells.lookup x=some d:=λx d e=>by
   rcases tL _ _ _ x d e with q | q
   · exact .inl q
   · exact .inr (hcl x d q)
 have ok:(aE X s H scope N fp).Ok:=by
   refine ⟨I.ok.mod,c.kind,I.ok.glob,I.ok.blt,Nat.le_succ _,?_,?_,?_,I.ok.hd,I.ok.frames,.inl rfl,?_,I.bs,Nat.le_trans I.ok.bsz I.sz,?_,?_,I.stack,I.oP⟩
   · exact nG _ _ _ (λx d e=>Nat.lt_of_lt_of_le (oldc x d (hcl x d e)) (by omega)) λx y d e1 e2=>I.ok.inj x y d (hcl x d e1) (hcl y d e2)
   · intro x hx
     have hfk:∀ y,(y,NameKind.free) ∈ scope.names->X.env.kindOf y=some .cell:=λy hy=>c.fre _ hy rfl
     have fre:(x,NameKind.free) ∈ scope.names->∃ d,(aE X s H scope N fp).env.cells.lookup x=some d:=λhm=>by
       obtain ⟨d,hd⟩:=fR I c _ hm rfl
       exact ⟨d,by
         show (cellsFrom _ scope.names _).lookup x=_
         rw [iZ _ _ _ x (c.one x hm)]
         exact cv X.env scope.names [] x d (λy e z=>by simp at z) hd (.inl hm)⟩
     have own:(x,NameKind.cell) ∈ scope.names->∃ d,(aE X s H scope N fp).env.cells.lookup x=some d:=λhm=>by
       obtain ⟨d,e,_⟩:=kY scope.names (s.heap.objs.size + 1 + 1) (bZ X.env scope.names []) x hm
       exact ⟨d,e⟩
     rcases hx with hx | hx
     · rcases dC hfk I.ok.kind (show (scope.names.map _).lookup x=some .cell from hx) with q | q
       · exact own q
       · exact fre q.1
     · rcases dC hfk I.ok.kind (show (scope.names.map _).lookup x=some .free from hx) with q | q
       · exact fre q
       · exact fre q.1
   · intro x d hfn e
     have hm:(x,NameKind.cell) ∈ scope.names:=of_decide_eq_true hfn
     obtain ⟨d',e',l⟩:=kY scope.names (s.heap.objs.size + 1 + 1) (bZ X.env scope.names []) x hm
     have e2:(cellsFrom (s.heap.objs.size + 1 + 1) scope.names (bZ X.env scope.names [])).lookup x=some d:=e
     rw [e'] at e2; cases e2
     exact Nat.le_trans (Nat.le_trans (Nat.le_succ _) (Nat.le_succ _)) l
   · intro b hb
     obtain ⟨o,q⟩:=ho b hb
     have bl:=Heap.lt_size q
     refine ⟨λz=>?_,λx d e z=>?_⟩
     · have z':b=s.heap.objs.size + 1:=z
       rw [z'] at bl
       exact absurd bl (Nat.not_lt.mpr (Nat.le_succ _))
     · subst z
       rcases cel x d e with q | q
       · exact absurd (Nat.lt_of_lt_of_le bl (Nat.le_trans (Nat.le_trans (Nat.le_succ _) (Nat.le_succ _)) q)) (Nat.lt_irrefl _)
       · exact (hf d hb).2.2.2.2.1 x d q rfl
   · intro b o e hb
     rcases (hf b hb).2.2.2.1 with q | q
     · exact I.ok.noex b o e q
     · have:=Nat.lt_of_lt_of_le (Heap.lt_size e) I.ok.bsz
       exact absurd (Nat.lt_of_lt_of_le this q) (Nat.lt_irrefl _)
   · intro b hb hm
     rcases List.mem_cons.mp (I.nZ b hm) with q | q
     · exact (hf b hb).2.1 q
     · exact (hf b hb).2.2.1 q
 have hD:(pushCells ((s.heap.push { cls:=.type "list",data:=.seq ([]:List Value).toArray }).push { cls:=.type "dict",data:=.dict #[] }) scope.names).get? s.heap.objs.size=some { cls:=.type "list",data:=.seq ([]:List Value).toArray }:=
   pushCells_keeps _ _ _ _ (Heap.get?_push_of_some _ (Heap.get?_push_size _ rfl))
 have fr:∀ a,s.heap.objs.size<=a->a ≠ s.heap.objs.size->(upd H s.heap.objs.size (.lst [])) a=none:=λa h1 h2=>by rw [aq h2]; exact I.hok.fresh h1
 refine ⟨ok,rfl,I.bare,Un.laid kp (Nat.le_refl _) (I.hok.fresh (Nat.le_refl _)),⟨λ_=>none,?_,λi x v e1 e2 e3=>?_⟩,λx d e=>?_,?_,λx d e=>?_,λp hp=>absurd (show p ∈ ([]:List (Addr × Obj)) from hp) (by simp),?_,?_⟩
 · have:=Heap.Ns.new (s.heap.push { cls:=.type "list",data:=.seq ([]:List Value).toArray }) (.type "dict")
   rw [Heap.size_push] at this
   exact this.keeps (pushCells_keeps _ _)
 · by_cases hi:i < caps.length
   · rw [List.getElem?_append_left (by unfold dR; rw [List.length_map]; exact hi)] at e2
     unfold dR at e2
     rw [List.getElem?_map] at e2
     cases hc:caps[i]? with
     | none=>rw [hc] at e2; cases e2
     | some o=>
       rw [hc] at e2
       cases o with
       | none=>cases e2
       | some j=>
         have e2':(σ[j]?).join=some v:=Option.some.inj e2
         have e4:σ[j]?=some (some v):=by
           cases q:σ[j]? with
           | none=>rw [q] at e2'; cases e2'
           | some y=>rw [q] at e2'; exact congrArg some e2'
         obtain ⟨x',g1,g2,g3⟩:=c.cap i j hc
         rw [show (aE X s H scope N fp).N=N from rfl,g1] at e1
         cases e1
         have hkc:=c.fre _ g3 rfl
         obtain ⟨m,_,hl⟩:=I.loc
         obtain ⟨u,ru,look⟩:=hl j x v g2 e4 (.inr (.inl hkc))
         refine ⟨u,ru,?_⟩
         rcases look with ⟨k,_⟩ | ⟨k,d,hd,hcell⟩
         · rw [hkc] at k; cases k
         · have e5:(aE X s H scope N fp).env.cells.lookup x=some d:=by
             show (cellsFrom _ scope.names _).lookup x=_
             rw [iZ _ _ _ x (c.one x g3)]
             exact cv X.env scope.names [] x d (λy e z=>by simp at z) hd (.inl g3)
           have hcell':Heap.IsCell (pushCells ((s.heap.push { cls:=.type "list",data:=.seq ([]:List Value).toArray }).push { cls:=.type "dict",data:=.dict #[] }) scope.names) d (some u):=by
             obtain ⟨o,q1,q2⟩:=hcell
             exact ⟨o,kp _ _ q1,q2⟩
           refine .inr ⟨?_,d,e5,hcell'⟩
           rcases e3 with e3 | e3 | e3
           · exfalso
             rcases dC (λy hy=>c.fre _ hy rfl) I.ok.kind (show (scope.names.map _).lookup x=some .local from e3) with q | q
             · have q1:=c.loc _ q rfl
               exact c.noboth x g3 q
             · cases q.2
           · exact .inl e3
           · exact .inr e3
   · exfalso
     obtain ⟨z,z1,z2⟩:=c.acc
     have hl:i < N.length:=(List.getElem?_eq_some_iff.mp e1).1
     have:i=caps.length:=by have:=c.len; omega
     subst this
     rw [show (aE X s H scope N fp).N=N from rfl,z1] at e1
     cases e1
     exact z2 e3
 · rw [show (aE X s H scope N fp).env.cells=cellsFrom (s.heap.objs.size + 1 + 1) scope.names (bZ X.env scope.names []) from rfl,<- sz2] at e
   refine kS scope.names _ _ (λy d' q=>?_) x d e
   obtain ⟨v,o,q1,q2⟩:=I.cell y d' (hcl y d' q)
   exact ⟨v,o,Heap.get?_push_of_some _ (Heap.get?_push_of_some _ q1),q2⟩
 · exact fr _ (Nat.le_succ _) (Nat.succ_ne_self _)
 · rcases cel x d e with q | q
   · exact fr d (by omega) (by intro z; omega)
   · rw [aq (Nat.ne_of_lt (oldc x d q))]; exact I.freeC x d q
 · exact I.hok.laid kp (Nat.le_refl _) ⟨Nat.zero_le _,[],0,.nil,hD⟩
 · rw [List.length_append]
   unfold dR
   rw [List.length_map,show (aE X s H scope N fp).N=N from rfl,c.len]
   rfl
end
noncomputable def PTs (X:Cx) (ifs:List Expr) (t:TT):Prop:=
 ∀ (pins:List (Addr × Obj)) (s:Shared) (σ:L2.St) (H:Hp) (Q:Bool->Hp->Prop),Inv X pins σ H s->t σ H Q ->
   wpAny (model X.prog X.w) X.A (forIn ifs true λc r=>if r=true then do let ok <- isTrue c X.env (eval c X.env); pure (ForInStep.yield ok) else pure (ForInStep.yield r)) (TP X pins σ Q) X.xe s
section
variable {prog:Program} {w:World} {A:Around} {R:Result->Shared->Prop} {s:Shared}
theorem ja {elt target iter:Expr} {ifs:List Expr} {scope:Scope} {pos:Pos} {it acc:Value} {env:PySem.Env} (Iv:Nat->Shared->Prop)
   (step:∀ n s,Iv n s->wpAny (model prog w) A (pyNext it) (λr s₁=>match r with
     | none=>R (.ok .next) s₁
     | some v=>wpAny (model prog w) A (letOwnedTupleGo target it v) (λ_ s₀=>wpAny (model prog w) A (assign target env v) (λ_ s₂=>
         wpAny (model prog w) A (forIn ifs true λc r=>if r=true then do let ok <- isTrue c env (eval c env); pure (ForInStep.yield ok) else pure (ForInStep.yield r)) (λok s₃=>
           if ok=true then wpAny (model prog w) A (eval elt env) (λx s₄=>
             wpAny (model prog w) A (call (.builtin "list.append") [acc,x]) (λ_ s₅=>∃ m,m < n/\Iv m s₅) (λ_ _=>False) s₄) (λ_ _=>False) s₃
           else ∃ m,m < n/\Iv m s₃) (λ_ _=>False) s₂) (λ_ _=>False) s₀) (λ_ _=>False) s₁) (λ_ _=>False) s)
   (n:Nat) (h:Iv n s):codeAny (model prog w) A (.compLoop (.ListComp elt [⟨target,iter,ifs,0⟩] scope pos) 0 it acc env) R s:=by
 have no:∀ {α:Type} {t:Sem α} {Q:α->Shared->Prop} {s:Shared} {E:Value->Shared->Prop},wpAny (model prog w) A t Q (λ_ _=>False) s->wpAny (model prog w) A t Q E s:=λh=>wpAny_mono h (λ_ _ q=>q) λ_ _ q=>q.elim
 refine codeAny_loop rfl Iv (λn s hI=>?_) n h
 show wpAny _ A (Sem.onRaise (compTurn (.ListComp elt [⟨target,iter,ifs,0⟩] scope pos) 0 it acc env) (λx=>do noteFrame x env; theTreesLotGoes x)) _ _ s
 refine wpAny_noted ?_
 rw [compTurn_list]
 refine wpAny_bind (wpAny_standAt (wpAny_bind (thn (no (step n s hI)) λr s₁ h₁=>?_)))
 cases r with
 | none=>exact wpAny_pure h₁
 | some v=>
   refine wpAny_bind (thn (no h₁) λ_ s₀ h₀=>wpAny_bind (thn (no h₀) λ_ s₂ h₂=>wpAny_bind (thn (no h₂) λok s₃ h₃=>?_)))
   cases ok with
   | false=>exact wpAny_pure ⟨rfl,h₃⟩
   | true=>exact wpAny_bind (wpAny_bind (thn (no h₃) λx s₄ h₄=>wpAny_bind (thn (no h₄) λ_ s₅ h₅=>wpAny_pure (wpAny_pure ⟨rfl,h₅⟩))))
end
theorem oH {X:Cx} {kd:Bool} {pins:List (Addr × Obj)} {σ:L2.St} {H:Hp} {s:Shared} {scope:Scope} {N:List Str} {fp:List Addr} (h:Ck kd X) (I:Inv X pins σ H s):Ck kd (aE X s H scope N fp):=by
 rcases h with h | ⟨hk,q,o,u,vs,e1,e2,e3,e4⟩
 · exact .inl h
 · exact .inr ⟨hk,q,o,u,vs,e1,I.base.frzs q o u e2,e3,e4⟩
noncomputable def cP (In:TG->TT->TE->Prop) (caps:List (Option Nat)) (wi:TI):TE:=λσ H Q=>wi σ H λJ H1=>∃ g tt te,In g tt te/\∀ D,H1 D=none ->
 ∃ Z:Nat->Nat->L2.St->Hp->Prop,(∃ m,Z 0 m (dR σ caps++[some (.ref D)]) (upd H1 D (.lst [])))/\∀ i m σ' H',Z i m σ' H' ->
   (J.stop i H'/\Q (.ref D) H')\/(J.go i H'/\∀ x H2,J.yld i H' x H2->g x σ' H2 λσ2 H3=>tt σ2 H3 λb H4=>
     if b=true then te σ2 H4 λv H5=>∃ vs m',H5 D=some (.lst vs)/\vs.length < sizeLine/\m' < m/\Z (i + 1) m' σ2 (upd H5 D (.lst (vs++[v]))) else ∃ m',m' < m/\Z (i + 1) m' σ2 H4)
theorem bT {X:Cx} {elt tg iter:Expr} {ifs:List Expr} {scope:Scope} {N:List Str} {caps:List (Option Nat)} {pos:Pos} {wi:TI} {In:TG->TT->TE->Prop} (c:cD X scope N caps) (hi:PI X tg iter wi)
   (hs:∀ x,foldedSetIterable iter X.env x=pure x)
   (hin:∀ g tt te,In g tt te->∀ s H fp,PG (aE X s H scope N fp) tg g/\PTs (aE X s H scope N fp) ifs tt/\PE (aE X s H scope N fp) elt te) :
   PE X (.ListComp elt [⟨tg,iter,ifs,0⟩] scope pos) (cP In caps wi):=by
 intro pins s σ H Q I h
 rw [eval_ListComp]
 have hcl:=pP (fR I c)
 refine wpAny_comprehension_free (use:=none) (g:=⟨tg,iter,ifs,0⟩) (gs:=[]) rfl hs hcl c.kind c.loc ?_
 show wpAny _ _ (eval iter X.env) _ _ s
 refine thn (hi pins s σ H _ I h) λv s1 h1=>thn h1 λitv s2 h2=>?_
 obtain ⟨kd,it,fp,tn,J,H2,e,I2,hck,T,st2,f2,g,tt,te,hI,q⟩:=h2
 have hc:=oH (scope:=scope) (N:=N) (fp:=fp) hck I2
 subst e
 obtain ⟨Z,⟨m0,z0⟩,turn⟩:=q s2.heap.objs.size (I2.hok.fresh (Nat.le_refl _))
 have ho:∀ b ∈ fp,∃ o,s2.heap.get? b=some o:=λb hb=>let ⟨o,e,_⟩:=T.obj _ _ st2 b hb; ⟨o,e⟩
 have I4:=lZ (scope:=scope) (N:=N) (caps:=caps) I2 f2 ho c
 obtain ⟨hg,ht,he⟩:=hin g tt te hI s2 H2 fp
 refine wpAny_newObj_type (ka ?_) (by show 0<=sizeLine; decide)
 have hC:(s2.heap.push { cls:=.type "list",dict:=none,data:=.seq ([]:List Value).toArray }).objs.size=s2.heap.objs.size + 1:=Heap.size_push ..
 dsimp only
 rw [hC]
 have kp:∀ b o,s2.heap.get? b=some o->(pushCells ((s2.heap.push { cls:=.type "list",data:=.seq ([]:List Value).toArray }).push { cls:=.type "dict",data:=.dict #[] }) scope.names).get? b=some o:=λb o e=>
   pushCells_keeps _ _ b o (Heap.get?_push_of_some _ (Heap.get?_push_of_some _ e))
 have st4:tn 0 (pushCells ((s2.heap.push { cls:=.type "list",data:=.seq ([]:List Value).toArray }).push { cls:=.type "dict",data:=.dict #[] }) scope.names):=T.keep _ _ _ st2 λb _ o e=>kp b o e
 have stat:∀ {H':Hp},(∀ b ∈ fp,H' b=none)->∀ b ∈ fp,jP (aE X s2 H2 scope N fp) [] H' b:=λhn b hb=>
   ⟨hn b hb,(I4.ok.exf b hb).1,I4.ok.exfs b hb,.inl hb,(I4.ok.exf b hb).2,λp hp=>absurd (show p ∈ ([]:List (Addr × Obj)) from hp) (by simp)⟩
 have fr4:∀ b ∈ fp,(upd H2 s2.heap.objs.size (.lst [])) b=none:=λb hb=>by
   obtain ⟨o,e⟩:=ho b hb
   rw [aq (Nat.ne_of_lt (Heap.lt_size e))]; exact (f2 b hb).1
 have loop:codeAny (model X.prog X.w) X.A (.compLoop (.ListComp elt [⟨tg,iter,ifs,0⟩] scope pos) 0 (.ref it) (.ref s2.heap.objs.size) (aE X s2 H2 scope N fp).env)
     (compPost (model X.prog X.w) X.A X.xe none (EP X pins σ Q) (.ref s2.heap.objs.size) (s2.heap.objs.size + 1))
     { s2 with heap:=pushCells ((s2.heap.push { cls:=.type "list",data:=.seq ([]:List Value).toArray }).push { cls:=.type "dict",data:=.dict #[] }) scope.names }:=by
   refine ja (λn s'=>∃ i σ' H',Inv (aE X s2 H2 scope N fp) [] σ' H' s'/\tn i s'.heap/\(∀ b ∈ fp,H' b=none)/\Z i n σ' H') ?_ m0 ⟨0,_,_,I4,st4,fr4,z0⟩
   rintro n s3 ⟨i,σ3,H3,I3,st3,fr3,w3⟩
   rcases turn i n σ3 H3 w3 with ⟨stop,qn⟩ | ⟨go,step⟩
   · refine thn (T.done (aE X s2 H2 scope N fp) rfl rfl rfl hc i [] s3 σ3 H3 _ I3 (stat fr3) st3 stop) λr s5 ⟨hr,I5⟩=>?_
     subst hr
     obtain ⟨m,hn,_⟩:=id I5.loc
     refine ⟨m,hn,λh' sb=>⟨.ref s2.heap.objs.size,H3,?_,rfl,qn⟩⟩
     have lt:∀ b o,s2.heap.get? b=some o->b ≠ s2.heap.objs.size + 1:=λb o e=>Nat.ne_of_lt (Nat.lt_succ_of_lt (Heap.lt_size e))
     have u:=I5.base
     have u':Un (frs X.stack) fp H2 H3 s2.heap h':=⟨λb o e n1 n2 n3=>(sb.2 b (lt b o e)).trans (u.keep b o e n1 n2 n3),λb o e n1 n2 n3=>let ⟨sl,z⟩:=u.slot b o e n1 n2 n3; ⟨sl,(sb.2 b (lt b o e)).trans z⟩,
       u.free,λb o e n1=>let ⟨o',z⟩:=u.there b o e n1; ⟨o',(sb.2 b (lt b o e)).trans z⟩,u.tups,u.frzs,u.tbls⟩
     have fC:H3 (s2.heap.objs.size + 1)=none:=I5.free
     refine I2.vN (s':={ s5 with heap:=h' }) I5.os u' (λb o e=>(I5.hok b o e).i6 (λd v hd z=>(sb.2 d ?_).trans z) (λ_ z=>z) λ_ _ z=>z) I5.bare λb hb=>⟨(f2 b hb).2.2.2.1,(f2 b hb).2.1,(f2 b hb).2.2.2.2.1,(f2 b hb).2.2.2.2.2⟩
     rcases hd with hd | hd
     · rw [hd]; exact aL e fC
     · exact aL hd fC
   · refine thn (T.item (aE X s2 H2 scope N fp) rfl rfl rfl hc i [] s3 σ3 H3 _ I3 (stat fr3) st3 go) λr s4 ⟨u,hr,h4⟩=>?_
     subst hr
     refine thn h4 λ_ s5 ⟨x,H5,I5,r5,y5,st5,fr5⟩=>?_
     have I5':=I5.pinned (stat fr5) (T.obj _ _ st5)
     refine thn (hg _ s5 σ3 H5 x u _ I5' r5 (step x H5 y5)) λ_ s6 ⟨σ6,H6,I6,q6⟩=>?_
     have again:∀ {s7:Shared} {σ7:L2.St} {H7:Hp} {m':Nat},Inv (aE X s2 H2 scope N fp) ([]++fH fp s5.heap) σ7 H7 s7->m' < n->Z (i + 1) m' σ7 H7 ->
         ∃ m,m < n/\∃ i σ' H',Inv (aE X s2 H2 scope N fp) [] σ' H' s7/\tn i s7.heap/\(∀ b ∈ fp,H' b=none)/\Z i m σ' H':=λ{s7 σ7 H7 m'} I7 hm z7=>by
       refine ⟨m',hm,i + 1,σ7,H7,I7.cV,T.keep _ _ _ st5 λb hb o e=>(I7.pin (b,o) (List.mem_append_right _ (List.mem_append_right _ (bK hb e)))).1,λb hb=>?_,z7⟩
       obtain ⟨o,e,d⟩:=T.obj _ _ st5 b hb
       exact (I7.pin (b,o) (List.mem_append_right _ (List.mem_append_right _ (bK hb e)))).2.1
     refine thn (ht _ s6 σ6 H6 _ I6 q6) λok s7 ⟨H7,I7,q7⟩=>?_
     cases ok with
     | false=>
       rw [if_neg (by decide)] at q7
       obtain ⟨m',hm,z7⟩:=q7
       exact again I7 hm z7
     | true=>
       rw [if_pos rfl] at q7
       refine thn (he _ s7 σ6 H7 _ I7 q7) λv' s8 ⟨v,H8,I8,r8,vs,m',q8,l8,hm,z8⟩=>?_
       refine thn (eZ (X:=aE X s2 H2 scope N fp) _ s8 σ6 H8 (.ref s2.heap.objs.size) [v] (.ref s2.heap.objs.size) [v'] (λ_ H9=>H9=upd H8 s2.heap.objs.size (.lst (vs++[v]))) I8 rfl (.cons r8 .nil) ⟨_,vs,v,rfl,rfl,q8,l8,rfl⟩) λ_ s9 ⟨_,H9,I9,_,e9⟩=>?_
       subst e9
       exact again I9 hm z8
 exact codeAny_compStart_list loop (T.self _ 0 _ _ _ st4 loop)
end Ev
namespace Hy
open PySem PySem.Spec PyProof.Rows L2
open Ev (D Den ax)
open Classical in
noncomputable def hd (H:Hp) (M:Addr->Prop):Hp:=λb=>if M b then none else H b
theorem ao {H:Hp} {M:Addr->Prop} {b:Addr} {o:HO}:hd H M b=some o ↔ ¬ M b/\H b=some o:=by
 unfold hd
 by_cases h:M b
 · rw [if_pos h]; exact ⟨λz=>(nomatch z),λz=>absurd h z.1⟩
 · rw [if_neg h]; exact ⟨λz=>⟨h,z⟩,λz=>z.2⟩
theorem av {H H':Hp} {M M':Addr->Prop} (e:ak H H') (m:∀ b,M' b->M b):ak (hd H M) (hd H' M'):=λb _ h=>ao.mpr ⟨λz=>(ao.mp h).1 (m b z),e b _ (ao.mp h).2⟩
theorem aN {H:Hp} {M:Addr->Prop}:ak (hd H M) H:=λ_ _ h=>(ao.mp h).2
inductive Nd where
 | d (x:D) | l (xs:List Nd) | t (xs:List Nd)
structure Ex where
 p:PySem.W.Frag->Hp->HO->Addr->Prop
 mono:∀ {K:PySem.W.Frag} {G G':Hp} {o:HO} {a:Addr},ak G G'->p K G o a->p K G' o a
 ext:∀ {K:PySem.W.Frag} {G:Hp} {o:HO} {a:Addr},p K G o a->(∃ φ,o=.ext φ)\/(∃ ob φ,o=.frz ob (.ext φ))\/∃ kvs,o=.dK kvs\/∃ ob,o=.frz ob (.dK kvs)
noncomputable def z9:HO->Prop
 | .lst _=>True
 | .ins _ _ _=>True
 | .own _=>True
 | .dK _=>True
 | _=>False
structure Wx where
 p:PySem.W.Frag->Hp->Hp->V->List Addr->Prop
 fr:∀ {K:PySem.W.Frag} {G G' H H':Hp} {u:V} {bs:List Addr},ak G G'->(∀ b ∈ bs,H' b=H b)->p K G H u bs->p K G' H' u bs
 al:∀ {K:PySem.W.Frag} {G H:Hp} {u:V} {bs:List Addr},p K G H u bs->∀ b ∈ bs,∃ o,H b=some o/\z9 o
inductive Sl where
 | un | d (x:D) | o (xs:List D) | n (t:Nd) | x (E:Ex) | w (W:Wx)
mutual
inductive bE (K:PySem.W.Frag) (G H:Hp):V->List Addr->Nd->Prop where
 | d {u:V} {x:D} (h:Den K G u x):bE K G H u [] (.d x)
 | l {a:Addr} {vs:List V} {bs:List Addr} {xs:List Nd} (h:H a=some (.lst vs)) (r:aO K G H vs bs xs):bE K G H (.ref a) (a :: bs) (.l xs)
 | t {a:Addr} {vs:List V} {bs:List Addr} {xs:List Nd} (h:H a=some (.tup vs)) (r:aO K G H vs bs xs):bE K G H (.ref a) (a :: bs) (.t xs)
inductive aO (K:PySem.W.Frag) (G H:Hp):List V->List Addr->List Nd->Prop where
 | nil:aO K G H [] [] []
 | cons {v:V} {vs:List V} {b1 b2:List Addr} {s:Nd} {ss:List Nd} (h:bE K G H v b1 s) (r:aO K G H vs b2 ss):aO K G H (v :: vs) (b1++b2) (s :: ss)
end
noncomputable def bJ (K:PySem.W.Frag) (G H:Hp) (v:Option V) (bs:List Addr):Sl->Prop
 | .un=>bs=[]
 | .d x=>bs=[]/\∃ u,v=some u/\Den K G u x
 | .o xs=>∃ a vs,bs=[a]/\v=some (.ref a)/\H a=some (.lst vs)/\ax K G vs xs
 | .n t=>bs.Nodup/\∃ u,v=some u/\bE K G H u bs t
 | .x E=>∃ a o,bs=[a]/\v=some (.ref a)/\H a=some o/\E.p K G o a
 | .w W=>bs.Nodup/\∃ u,v=some u/\W.p K G H u bs
section
variable {K:PySem.W.Frag} {G G' H H':Hp}
mutual
theorem bE.frame (g:ak G G'):∀ {u:V} {bs:List Addr} {t:Nd},(∀ b ∈ bs,H' b=H b)->bE K G H u bs t->bE K G' H' u bs t
 | _,_,_,_,.d h=>.d (h.mono g)
 | _,_,_,e,.l h r=>.l (by rw [e _ (List.mem_cons_self ..)]; exact h) (aO.frame g (λb hb=>e b (List.mem_cons_of_mem _ hb)) r)
 | _,_,_,e,.t h r=>.t (by rw [e _ (List.mem_cons_self ..)]; exact h) (aO.frame g (λb hb=>e b (List.mem_cons_of_mem _ hb)) r)
theorem aO.frame (g:ak G G'):∀ {vs:List V} {bs:List Addr} {xs:List Nd},(∀ b ∈ bs,H' b=H b)->aO K G H vs bs xs->aO K G' H' vs bs xs
 | _,_,_,_,.nil=>.nil
 | _,_,_,e,.cons h r=>.cons (bE.frame g (λb hb=>e b (List.mem_append_left _ hb)) h) (aO.frame g (λb hb=>e b (List.mem_append_right _ hb)) r)
end
mutual
theorem bE.some_of:∀ {u:V} {bs:List Addr} {t:Nd},bE K G H u bs t->∀ b ∈ bs,∃ o,H b=some o
 | _,_,_,.d _,_,z=>nomatch z
 | _,_,_,.l h r,b,z=>(List.mem_cons.mp z).elim (λe=>e ▸ ⟨_,h⟩) λz=>aO.some_of r b z
 | _,_,_,.t h r,b,z=>(List.mem_cons.mp z).elim (λe=>e ▸ ⟨_,h⟩) λz=>aO.some_of r b z
theorem aO.some_of:∀ {vs:List V} {bs:List Addr} {xs:List Nd},aO K G H vs bs xs->∀ b ∈ bs,∃ o,H b=some o
 | _,_,_,.nil,_,z=>nomatch z
 | _,_,_,.cons h r,b,z=>(List.mem_append.mp z).elim (λz=>bE.some_of h b z) λz=>aO.some_of r b z
end
theorem bE.mono (g:ak G G') (e:ak H H') {u:V} {bs:List Addr} {t:Nd} (h:bE K G H u bs t):bE K G' H' u bs t:=h.frame g λb hb=>by
 obtain ⟨o,q⟩:=h.some_of b hb
 rw [q,e b o q]
theorem bJ.mono (g:ak G G') (e:ak H H') {v:Option V} {bs:List Addr}:∀ {s:Sl},bJ K G H v bs s->bJ K G' H' v bs s
 | .un,h=>h
 | .d _,⟨h,u,e1,h2⟩=>⟨h,u,e1,h2.mono g⟩
 | .o _,⟨a,vs,h1,h2,h3,h4⟩=>⟨a,vs,h1,h2,e _ _ h3,h4.mono g⟩
 | .n _,⟨h0,u,h1,h2⟩=>⟨h0,u,h1,h2.mono g e⟩
 | .x E,⟨a,o,h1,h2,h3,h4⟩=>⟨a,o,h1,h2,e _ _ h3,E.mono g h4⟩
 | .w W,⟨h0,u,h1,h2⟩=>⟨h0,u,h1,W.fr g (λb hb=>by obtain ⟨o,q,_⟩:=W.al h2 b hb; rw [q,e b o q]) h2⟩
end
noncomputable def own (A:Addr->Prop) (B:Nat->List Addr) (b:Addr):Prop:=A b\/∃ i,b ∈ B i
noncomputable def vw (C:Bool) (A:Addr->Prop) (B:Nat->List Addr):Addr->Prop:=match C with
 | true=>own A B
 | false=>A
structure Sta (K:PySem.W.Frag) (A:Addr->Prop) (H₀:Hp) (τ:List Sl) (B:Nat->List Addr) (σ:L2.St) (H:Hp):Prop where
 same:ak H₀ H
 len:σ.length=τ.length
 sl:∀ i s,τ[i]?=some s->bJ K (hd H (own A B)) H (σ[i]?).join (B i) s
 fr:∀ i b,b ∈ B i->H₀ b=none
 uq:∀ i j b,b ∈ B i->b ∈ B j->i=j
 ad:∀ b,A b->∃ o,H₀ b=some o
 bd:∀ i b,b ∈ B i->∃ o,H b=some o
noncomputable def upB (B:Nat->List Addr) (i:Nat) (bs:List Addr):Nat->List Addr:=λj=>if j=i then bs else B j
section
variable {K:PySem.W.Frag} {A:Addr->Prop} {H₀ H H':Hp} {τ:List Sl} {B:Nat->List Addr} {σ:L2.St}
theorem Sta.dm (S:Sta K A H₀ τ B σ H) (b:Addr) (h:own A B b):∃ o,H b=some o:=h.elim (λz=>let ⟨o,q⟩:=S.ad b z; ⟨o,S.same _ _ q⟩) λ⟨i,z⟩=>S.bd i b z
theorem Sta.mono (S:Sta K A H₀ τ B σ H) (e:ak H H'):Sta K A H₀ τ B σ H' where
 same:=S.same.trans e
 len:=S.len
 sl:=λi s h=>(S.sl i s h).mono (av e λ_ z=>z) e
 fr:=S.fr
 uq:=S.uq
 ad:=S.ad
 bd:=λi b h=>let ⟨o,q⟩:=S.bd i b h; ⟨o,e _ _ q⟩
theorem a5 {i j:Nat} {bs:List Addr} {b:Addr} (h:b ∈ upB B i bs j):(j=i/\b ∈ bs)\/(j ≠ i/\b ∈ B j):=by
 unfold upB at h
 by_cases e:j=i
 · rw [if_pos e] at h; exact .inl ⟨e,h⟩
 · rw [if_neg e] at h; exact .inr ⟨e,h⟩
theorem Sta.set (S:Sta K A H₀ τ B σ H) (e:ak H H') {i:Nat} {v:V} {s:Sl} {bs:List Addr} (hf:∀ b ∈ bs,H b=none/\∃ o,H' b=some o) (h:bJ K (hd H' λb=>own A B b\/b ∈ bs) H' (some v) bs s) :
   Sta K A H₀ (τ.set i s) (upB B i bs) (σ.set i (some v)) H':=by
 have sub:∀ b,own A (upB B i bs) b->own A B b\/b ∈ bs:=λb z=>z.elim (λz=>.inl (.inl z)) λ⟨j,z⟩=>(a5 z).elim (λz=>.inr z.2) λz=>.inl (.inr ⟨j,z.2⟩)
 have some_of:∀ b j,b ∈ B j->∃ o,H b=some o:=λb j z=>S.dm b (.inr ⟨j,z⟩)
 refine ⟨S.same.trans e,by rw [List.length_set,List.length_set,S.len],λj t hj=>?_,λj b hb=>?_,λj k b h1 h2=>?_,S.ad,λj b hb=>?_⟩
 · by_cases ej:j=i
   · subst ej
     have hl:j < τ.length:=by
       have:=(List.getElem?_eq_some_iff.mp hj).1
       rwa [List.length_set] at this
     rw [List.getElem?_set_self hl] at hj
     cases hj
     rw [List.getElem?_set_self (by rw [S.len]; exact hl)]
     unfold upB
     rw [if_pos rfl]
     exact h.mono (av (ak.refl _) sub) (ak.refl _)
   · rw [List.getElem?_set_ne (λz=>ej z.symm)] at hj
     rw [List.getElem?_set_ne (λz=>ej z.symm)]
     unfold upB
     rw [if_neg ej]
     have q:=S.sl j t hj
     refine q.mono (λb o z=>?_) e
     obtain ⟨z1,z2⟩:=ao.mp z
     refine ao.mpr ⟨λy=>?_,e _ _ z2⟩
     rcases sub b y with y | y
     · exact z1 y
     · rw [(hf b y).1] at z2; cases z2
 · rcases a5 hb with ⟨_,z⟩ | ⟨_,z⟩
   · exact S.same.free (hf b z).1
   · exact S.fr j b z
 · rcases a5 h1 with ⟨e1,z1⟩ | ⟨e1,z1⟩ <;> rcases a5 h2 with ⟨e2,z2⟩ | ⟨e2,z2⟩
   · exact e1.trans e2.symm
   · obtain ⟨o,q⟩:=some_of b k z2; rw [(hf b z1).1] at q; cases q
   · obtain ⟨o,q⟩:=some_of b j z1; rw [(hf b z2).1] at q; cases q
   · exact S.uq j k b z1 z2
 · rcases a5 hb with ⟨_,z⟩ | ⟨_,z⟩
   · exact (hf b z).2
   · obtain ⟨o,q⟩:=S.bd j b z; exact ⟨o,e _ _ q⟩
theorem Sta.less (S:Sta K A H₀ τ B σ H) {i:Nat} {s:Sl} {bs:List Addr} (hb:∀ b ∈ bs,b ∈ B i) (h:∀ G:Hp,ak (hd H (own A B)) G->(∀ b o,b ∈ B i->b ∉ bs->H b=some o->G b=some o)->bJ K G H (σ[i]?).join bs s):Sta K A H₀ (τ.set i s) (upB B i bs) σ H:=by
 have sub:∀ b,own A (upB B i bs) b->own A B b:=λb z=>z.elim .inl λ⟨j,z⟩=>(a5 z).elim (λz=>.inr ⟨i,hb b z.2⟩) λz=>.inr ⟨j,z.2⟩
 refine ⟨S.same,by rw [List.length_set,S.len],λj t hj=>?_,λj b h=>?_,λj k b h1 h2=>?_,S.ad,λj b h=>(a5 h).elim (λz=>S.bd i b (hb b z.2)) λz=>S.bd j b z.2⟩
 · by_cases ej:j=i
   · subst ej
     have hl:j < τ.length:=by
       have:=(List.getElem?_eq_some_iff.mp hj).1
       rwa [List.length_set] at this
     rw [List.getElem?_set_self hl] at hj
     cases hj
     unfold upB
     rw [if_pos rfl]
     refine h _ (av (ak.refl _) sub) λb o z1 z2 z3=>ao.mpr ⟨λy=>?_,z3⟩
     rcases y with y | ⟨m,y⟩
     · obtain ⟨_,q⟩:=S.ad b y
       rw [S.fr j b z1] at q; cases q
     · rcases a5 y with ⟨e,y⟩ | ⟨e,y⟩
       · exact z2 y
       · exact e (S.uq m j b y z1)
   · rw [List.getElem?_set_ne (λz=>ej z.symm)] at hj
     unfold upB
     rw [if_neg ej]
     exact (S.sl j t hj).mono (av (ak.refl _) sub) (ak.refl _)
 · rcases a5 h with ⟨e,z⟩ | ⟨_,z⟩
   · exact S.fr i b (hb b z)
   · exact S.fr j b z
 · rcases a5 h1 with ⟨e1,z1⟩ | ⟨e1,z1⟩ <;> rcases a5 h2 with ⟨e2,z2⟩ | ⟨e2,z2⟩
   · exact e1.trans e2.symm
   · exact absurd (S.uq k i b z2 (hb b z1)) e2
   · exact absurd (S.uq j i b z1 (hb b z2)) e1
   · exact S.uq j k b z1 z2
end
end Hy
namespace Hy
open PySem PySem.Spec PyProof.Rows L2
open Ev (D Den ax aM aK au aR aF)
noncomputable def Fr (H H':Hp) (bs:List Addr):Prop:=∀ b ∈ bs,H b=none/\∃ o,H' b=some o
noncomputable def dE (K:PySem.W.Frag) (C:Bool) (τ:List Sl) (s:Sl):TE:=λσ H Q=>∃ A H₀ B,Sta K A H₀ τ B σ H /\
 ∀ v H' bs,ak H H'->Fr H H' bs->bJ K (hd H' λb=>vw C A B b\/b ∈ bs) H' (some v) bs s->Q v H'
noncomputable def dA (K:PySem.W.Frag) (C:Bool) (τ:List Sl) (ds:List D):TA:=λσ H Q=>∃ A H₀ B,Sta K A H₀ τ B σ H /\
 ∀ vs H',ak H H'->ax K (hd H' (vw C A B)) vs ds->Q vs H'
noncomputable def dT (K:PySem.W.Frag) (τ:List Sl) (c:Bool):TT:=λσ H Q=>∃ A H₀ B,Sta K A H₀ τ B σ H/\∀ H',ak H H'->Q c H'
structure Po where
 nx:List Sl->Prop
 rt:Sl->Prop
 bk:List Sl->Prop:=λ_=>False
 ct:List Sl->Prop:=λ_=>False
 xc:Hp->Prop:=λ_=>True
structure Meets (K:PySem.W.Frag) (A:Addr->Prop) (H₀:Hp) (N:Po) (D:Ends):Prop where
 nx:∀ τ B σ H,N.nx τ->Sta K A H₀ τ B σ H->D.nx σ H
 bk:∀ τ B σ H,N.bk τ->Sta K A H₀ τ B σ H->D.bk σ H
 ct:∀ τ B σ H,N.ct τ->Sta K A H₀ τ B σ H->D.ct σ H
 rt:∀ v H bs s,N.rt s->ak H₀ H->Fr H₀ H bs->bJ K (hd H λb=>A b\/b ∈ bs) H (some v) bs s->D.rt v H
 xc:∀ H,ak H₀ H->N.xc H
noncomputable def dS (K:PySem.W.Frag) (τ:List Sl) (N:Po):TS:=λD σ H=>∃ A H₀ B,Sta K A H₀ τ B σ H/\Meets K A H₀ N D
theorem peW {X:Cx} {e:Expr} {t t':TE} (h:PE X e t) (f:∀ σ H Q,t' σ H Q->t σ H Q):PE X e t':=λpins s σ H Q I q=>h pins s σ H Q I (f σ H Q q)
theorem ptW {X:Cx} {e:Expr} {t t':TT} (h:PT X e t) (f:∀ σ H Q,t' σ H Q->t σ H Q):PT X e t':=λpins s σ H Q I q=>h pins s σ H Q I (f σ H Q q)
theorem pwW {X:Cx} {e:Expr} {t t':TT} (h:PW X e t) (f:∀ σ H Q,t' σ H Q->t σ H Q):PW X e t':=λwh pins s σ H Q I q=>h wh pins s σ H Q I (f σ H Q q)
theorem paW {X:Cx} {e:List Expr} {t t':TA} (h:PA X e t) (f:∀ σ H Q,t' σ H Q->t σ H Q):PA X e t':=λp pins s σ H Q I q=>h p pins s σ H Q I (f σ H Q q)
theorem psW {X:Cx} {e:Stmt} {t t':TS} (h:PS X e t) (f:∀ D σ H,t' D σ H->t D σ H):PS X e t':=λpins s σ H D I q=>h pins s σ H D I (f D σ H q)
theorem p8 {X:Cx} {e:List Stmt} {t t':TS} (h:PSs X e t) (f:∀ D σ H,t' D σ H->t D σ H):PSs X e t':=λpins s σ H D I q=>h pins s σ H D I (f D σ H q)
section
variable {K:PySem.W.Frag} {C:Bool} {τ:List Sl} {A:Addr->Prop} {H₀ H H':Hp} {B:Nat->List Addr} {σ:L2.St} {x y z:D} {Q:VK}
theorem iM {b:Addr} (h:vw C A B b):own A B b:=by
 cases C with
 | true=>exact h
 | false=>exact .inl h
theorem Sta.vd (S:Sta K A H₀ τ B σ H) (b:Addr) (h:vw C A B b):∃ o,H b=some o:=S.dm b (iM h)
theorem aH (S:Sta K A H₀ τ B σ H) (k:∀ v H',ak H H'->Den K (hd H' (vw C A B)) v x->Q v H'):dE K C τ (.d x) σ H Q:=
 ⟨A,H₀,B,S,λv H' bs e _ ⟨hb,u,eu,h⟩=>by
   cases eu
   exact k v H' e (h.mono (av (ak.refl _) λ_ z=>.inl z))⟩
theorem cO (h:dE K C τ (.d x) σ H Q):∃ A H₀ B,Sta K A H₀ τ B σ H/\∀ v H',ak H H'->Den K (hd H' (vw C A B)) v x->Q v H':=by
 obtain ⟨A,H₀,B,S,k⟩:=h
 exact ⟨A,H₀,B,S,λv H' e d=>k v H' [] e (λ_ z=>nomatch z) ⟨rfl,v,rfl,d.mono (av (ak.refl _) λ_ z=>z.elim id λz=>nomatch z)⟩⟩
theorem cF {ds:List D} {Q:List V->Hp->Prop} (S:Sta K A H₀ τ B σ H) (k:∀ vs H',ak H H'->ax K (hd H' (vw C A B)) vs ds->Q vs H'):dA K C τ ds σ H Q:=⟨A,H₀,B,S,k⟩
theorem kI {M:Addr->Prop} {p:Addr} {o:HO} (hM:∀ b,M b->∃ o,H b=some o) (hp:H p=none):hd (upd H p o) M p=some o:=
 ao.mpr ⟨λz=>(by obtain ⟨o,q⟩:=hM p z; rw [hp] at q; cases q),aA⟩
mutual
noncomputable def ndD:Nd->D
 | .d x=>x
 | .l xs=>.lst (jI xs)
 | .t xs=>.tup (jI xs)
noncomputable def jI:List Nd->List D
 | []=>[]
 | x :: xs=>ndD x :: jI xs
end
noncomputable def fzD:Sl->Option D
 | .un=>none
 | .d x=>some x
 | .o xs=>some (.lst xs)
 | .n t=>some (ndD t)
 | .x _=>none
 | .w _=>none
mutual
theorem bE.den {G G':Hp} (g:ak G G'):∀ {u:V} {bs:List Addr} {t:Nd},(∀ b ∈ bs,∀ o,H b=some o->G' b=some o)->bE K G H u bs t->Den K G' u (ndD t)
 | _,_,_,_,.d h=>h.mono g
 | _,_,_,e,.l h r=>.lst (SqL.of (e _ (List.mem_cons_self ..) _ h)) (aO.den g (λb hb=>e b (List.mem_cons_of_mem _ hb)) r)
 | _,_,_,e,.t h r=>.tup (SqT.of (e _ (List.mem_cons_self ..) _ h)) (aO.den g (λb hb=>e b (List.mem_cons_of_mem _ hb)) r)
theorem aO.den {G G':Hp} (g:ak G G'):∀ {vs:List V} {bs:List Addr} {xs:List Nd},(∀ b ∈ bs,∀ o,H b=some o->G' b=some o)->aO K G H vs bs xs->ax K G' vs (jI xs)
 | _,_,_,_,.nil=>.nil
 | _,_,_,e,.cons h r=>.cons (bE.den g (λb hb=>e b (List.mem_append_left _ hb)) h) (aO.den g (λb hb=>e b (List.mem_append_right _ hb)) r)
end
theorem bJ.den {G G':Hp} {v:Option V} {bs:List Addr} {s:Sl} (h:bJ K G H v bs s) (g:ak G G') (hv:∀ b ∈ bs,∀ o,H b=some o->G' b=some o) (e:fzD s=some x):∃ u,v=some u/\Den K G' u x:=by
 cases s with
 | un=>cases e
 | d y=>cases e; obtain ⟨_,u,e,q⟩:=h; exact ⟨u,e,q.mono g⟩
 | o xs=>
   cases e
   obtain ⟨a,vs,rfl,h2,h3,h4⟩:=h
   exact ⟨_,h2,.lst (SqL.of (hv a (List.mem_cons_self ..) _ h3)) (h4.mono g)⟩
 | n t=>
   cases e
   obtain ⟨_,u,e,q⟩:=h
   exact ⟨u,e,q.den g hv⟩
 | x E=>cases e
 | w W=>cases e
theorem slot_of {i:Nat} {u:V} (h:(σ[i]?).join=some u):σ[i]?=some (some u):=by
 cases e:σ[i]? with
 | none=>rw [e] at h; cases h
 | some o=>rw [e] at h; exact congrArg some h
end
section
variable {X:Cx} {C:Bool} {τ:List Sl} {x y z:D} {a b e:Expr} {es:List Expr} {pos:Pos}
theorem aa (i:Nat) {n:Str} {x:D} (h:τ[i]?=some (.d x):=by rfl) (hN:X.N[i]?=some n:=by rfl) (hv:Vis X.env.scope n:=by first | exact Or.inl rfl | exact Or.inr (Or.inl rfl) | exact Or.inr (Or.inr rfl))
   (hd:(n == ("__debug__" : Str))=false:=by decide) (hcd:(n == ("__classdict__" : Str))=false:=by decide):PE X (.Name n pos) (dE X.K C τ (.d x)):=peW (bh hN hv hd hcd) λσ H Q q=>by
 obtain ⟨A,H₀,B,S,k⟩:=cO q
 obtain ⟨_,u,e,d⟩:=S.sl i _ h
 exact ⟨u,slot_of e,k u H (ak.refl _) (d.mono (av (ak.refl _) λ_ z=>iM z))⟩
theorem tN (i:Nat) {n:Str} {s:Sl} {x:D} (h:τ[i]?=some s:=by rfl) (hx:fzD s=some x:=by rfl) (hN:X.N[i]?=some n:=by rfl) (hv:Vis X.env.scope n:=by first | exact Or.inl rfl | exact Or.inr (Or.inl rfl) | exact Or.inr (Or.inr rfl))
   (hd:(n == ("__debug__" : Str))=false:=by decide) (hcd:(n == ("__classdict__" : Str))=false:=by decide):PE X (.Name n pos) (dE X.K false τ (.d x)):=peW (bh hN hv hd hcd) λσ H Q q=>by
 obtain ⟨A,H₀,B,S,k⟩:=cO q
 obtain ⟨u,e,d⟩:=(S.sl i _ h).den (G':=Hy.hd H A) (av (ak.refl _) λ_ z=>.inl z) (λb hb o ho=>ao.mpr ⟨λz=>(by obtain ⟨_,q⟩:=S.ad b z; rw [S.fr i b hb] at q; cases q),ho⟩) hx
 exact ⟨u,slot_of e,k u H (ak.refl _) d⟩
theorem kf {v:V} (h:PE X e (tC v)) (d:∀ H,Den X.K H v x):PE X e (dE X.K C τ (.d x)):=peW h λσ H Q q=>by
 obtain ⟨A,H₀,B,S,k⟩:=cO q
 exact k v H (ak.refl _) (d _)
theorem af {i j}:PE X (.Constant (.int i) j pos) (dE X.K C τ (.d (.int i))):=kf wY λ_=>.int
theorem xj {b j}:PE X (.Constant (.bool b) j pos) (dE X.K C τ (.d (.bl b))):=kf zi λ_=>.bl
theorem bD {s j}:PE X (.Constant (.str s) j pos) (dE X.K C τ (.d (.str s))):=kf xH λ_=>.str
theorem kA {n:Str} {i:Int} (hm:∃ t,X.mg n=some (.int i t)) (hg:Gl X n:=by rfl) (hd:(n == ("__debug__" : Str))=false:=by decide):PE X (.Name n pos) (dE X.K C τ (.d (.int i))):=by
 obtain ⟨t,hm⟩:=hm
 exact kf (k8 (v:=.int i) hg hm ⟨t,rfl⟩ hd) λ_=>.int
theorem bA {s:Sl} (h:PE X e (dE X.K C τ s)) (hx:fzD s=some x:=by rfl):PE X e (dE X.K C τ (.d x)):=peW h λσ H Q q=>by
 obtain ⟨A,H₀,B,S,k⟩:=cO q
 refine ⟨A,H₀,B,S,λv H' bs e hf q=>?_⟩
 have vd:=S.vd (C:=C)
 obtain ⟨u,e1,d⟩:=q.den (G':=Hy.hd H' (vw C A B)) (av (ak.refl _) λ_ z=>.inl z) (λb hb o ho=>ao.mpr ⟨λz=>(by obtain ⟨_,q⟩:=vd b z; rw [(hf b hb).1] at q; cases q),ho⟩) hx
 cases e1
 exact k v H' e d
noncomputable def flat:D->Bool
 | .tup _=>false
 | .lst _=>false
 | .box _=>false
 | _=>true
theorem sA {K:PySem.W.Frag} {G G':Hp} {v:V} (h:Den K G v x) (f:flat x=true):Den K G' v x:=by
 cases h with
 | non=>exact .non
 | bl=>exact .bl
 | int=>exact .int
 | str=>exact .str
 | tup _ _=>cases f
 | lst _ _=>cases f
 | box _=>cases f
noncomputable def bP (X:Cx) (f:Value->Value->Sem Value) (x y z:D):Prop:=∃ r:R2,OpR X f r /\
 ∀ (M:Addr->Prop) (v w:V) (H:Hp) (Q:VK),(∀ b,M b->∃ o,H b=some o)->Den X.K (hd H M) v x->Den X.K (hd H M) w y->(∀ u H',ak H H'->Den X.K (hd H' M) u z->Q u H')->r v w H Q
theorem two {r:R2} (hr:∀ (M:Addr->Prop) (v w:V) (H:Hp) (Q:VK),(∀ b,M b->∃ o,H b=some o)->Den X.K (hd H M) v x->Den X.K (hd H M) w y->(∀ u H',ak H H'->Den X.K (hd H' M) u z->Q u H')->r v w H Q) :
   ∀ σ H Q,dE X.K C τ (.d z) σ H Q->tOp r (dE X.K C τ (.d x)) (dE X.K C τ (.d y)) σ H Q:=by
 intro σ H Q h
 obtain ⟨A,H₀,B,S,k⟩:=cO h
 refine aH S λv H1 e1 d1=>aH (S.mono e1) λw H2 e2 d2=>hr (vw C A B) v w H2 Q ((S.mono e1).mono e2).vd (d1.mono (av e2 λ_ z=>z)) d2 λu H' e3 d3=>k u H' (e1.trans (e2.trans e3)) d3
theorem aB {op:Operator} (ha:PE X a (dE X.K C τ (.d x))) (hb:PE X b (dE X.K C τ (.d y))) (ho:bP X (binaryOp op) x y z):PE X (.BinOp a op b pos) (dE X.K C τ (.d z)):=by
 obtain ⟨r,h1,h2⟩:=ho
 exact peW (q9 h1 ha hb) (two h2)
theorem cu {op:CmpOp} (ha:PE X a (dE X.K C τ (.d x))) (hb:PE X b (dE X.K C τ (.d y))) (ho:bP X (compareOp op) x y z) (hm:behindInMarks op b=false:=by first | exact sQ _ | rfl):PE X (.Compare a [op] [b] pos) (dE X.K C τ (.d z)):=by
 obtain ⟨r,h1,h2⟩:=ho
 exact peW (u6 h1 ha hb hm) (two h2)
theorem tG {t:TE} {c:Bool} (h:∀ σ H Q,dE X.K false τ (.d (.bl c)) σ H Q->t σ H Q):∀ σ H Q,dT X.K τ c σ H Q->t σ H λx H'=>∃ k,x=.bl k/\Q k H':=λσ H Q ⟨A,H₀,B,S,k⟩=>
 h σ H _ (aH S λv H' e d=>by cases d; exact ⟨c,rfl,k H' e⟩)
theorem aY {op:CmpOp} {c:Bool} (ha:PE X a (dE X.K false τ (.d x))) (hb:PE X b (dE X.K false τ (.d y))) (ho:bP X (compareOp op) x y (.bl c)) (hm:behindInMarks op b=false:=by first | exact sQ _ | rfl):PT X (.Compare a [op] [b] pos) (dT X.K τ c):=by
 obtain ⟨r,h1,h2⟩:=ho
 exact ptW (uo h1 ha hb hm) (tG (two h2))
theorem aZ {c:Bool} (h:PE X e (dE X.K false τ (.d (.bl c)))) (he:∀ whole,isTrue e X.env whole=(do let v <- whole; standAt e.pos; holding [v] (truthy v)):=by intro _; rfl):PT X e (dT X.K τ c):=
 ptW (xT h he) (tG λ_ _ _ q=>q)
theorem j6 {g:Int->Int->V} {P:Int->Int->Prop} {i j:Int} (hc:P i j) (hz:∀ K H,Den K H (g i j) z):∀ (M:Addr->Prop) (v w:V) (H:Hp) (Q:VK),(∀ b,M b->∃ o,H b=some o)->Den X.K (hd H M) v (.int i)->Den X.K (hd H M) w (.int j) ->
   (∀ u H',ak H H'->Den X.K (hd H' M) u z->Q u H')->rI P g v w H Q:=λ_ v w H Q _ d1 d2 k=>by
 cases d1
 cases d2
 exact ⟨i,j,rfl,rfl,hc,k _ H (ak.refl _) (hz _ _)⟩
theorem iR {g:Int->Int->V} {i j:Int} (hz:∀ K H,Den K H (g i j) z):∀ (M:Addr->Prop) (v w:V) (H:Hp) (Q:VK),(∀ b,M b->∃ o,H b=some o)->Den X.K (hd H M) v (.int i)->Den X.K (hd H M) w (.int j) ->
   (∀ u H',ak H H'->Den X.K (hd H' M) u z->Q u H')->rI0 g v w H Q:=λ_ v w H Q _ d1 d2 k=>by
 cases d1
 cases d2
 exact ⟨i,j,rfl,rfl,k _ H (ak.refl _) (hz _ _)⟩
variable {i j:Int}
theorem bc:bP X (binaryOp .Add) (.int i) (.int j) (.int (i + j)):=⟨_,x8,iR λ_ _=>.int⟩
theorem dM:bP X (binaryOp .Sub) (.int i) (.int j) (.int (i - j)):=⟨_,xp,iR λ_ _=>.int⟩
theorem vE:bP X (binaryOp .BitAnd) (.int i) (.int j) (.int (Builtin.bitAnd i j)):=⟨_,xQ,iR λ_ _=>.int⟩
theorem aM.ok' {i j:Int} (h:aM i j):IntMulOk i j:=by
 have b:∀ {k:Int} {n:Nat},k.natAbs.log2 < n->Builtin.Int.intBits k<=n:=λ{k n} q=>by
   unfold Builtin.Int.intBits
   split
   · exact Nat.zero_le _
   · exact q
 rcases h with h | h | ⟨h1,h2⟩
 · exact .of_left (b h)
 · exact .of_right (b h)
 · exact .of_bits (Nat.le_trans (b h1) (by decide)) (Nat.le_trans (b h2) (by decide))
theorem bu (h:aM i j):bP X (binaryOp .Mult) (.int i) (.int j) (.int (i * j)):=⟨rI aM λi j=>.int (i * j),opI λ_ _ _ _ _ _ _ hc q=>mul_int q (aM.ok' hc),j6 h λ_ _=>.int⟩
theorem bg (h:aK j):bP X (binaryOp .FloorDiv) (.int i) (.int j) (.int (i.fdiv j)):=⟨rI (λ_ j=>aK j) λi j=>.int (i.fdiv j),opI λ_ _ _ _ _ _ _ hc q=>floordiv_int hc.1 q (.inl (PyProof.noPylong_of_log2 hc.2)),j6 h λ_ _=>.int⟩
theorem bV (h:j ≠ 0):bP X (binaryOp .Mod) (.int i) (.int j) (.int (i.fmod j)):=⟨_,va,j6 h λ_ _=>.int⟩
theorem vH (h:r6 i j):bP X (binaryOp .Pow) (.int i) (.int j) (.int (i ^ j.toNat)):=⟨_,xl,j6 h λ_ _=>.int⟩
theorem v8 (h:r6 i j):bP X (binaryOp .LShift) (.int i) (.int j) (.int (i * 2 ^ j.toNat)):=⟨_,xF,j6 h λ_ _=>.int⟩
theorem vO (h:0<=j):bP X (binaryOp .RShift) (.int i) (.int j) (.int (i / 2 ^ j.toNat)):=⟨_,wx,j6 h λ_ _=>.int⟩
theorem sZ:bP X (compareOp .Lt) (.int i) (.int j) (.bl (decide (i < j))):=⟨_,yR,iR λ_ _=>.bl⟩
theorem l5:bP X (compareOp .LtE) (.int i) (.int j) (.bl (decide (i<=j))):=⟨_,yx,iR λ_ _=>.bl⟩
theorem vy:bP X (compareOp .Gt) (.int i) (.int j) (.bl (decide (j < i))):=⟨_,yM,iR λ_ _=>.bl⟩
theorem qX:bP X (compareOp .GtE) (.int i) (.int j) (.bl (decide (j<=i))):=⟨_,zt,iR λ_ _=>.bl⟩
theorem jo:bP X (compareOp .Eq) (.int i) (.int j) (.bl (decide (i=j))):=⟨_,vJ,λ_ v w H Q _ d1 d2 k=>by
 cases d1
 cases d2
 exact ⟨rfl,by rw [show decide (V.int i=V.int j)=decide (i=j) by simp]; exact k _ H (ak.refl _) .bl⟩⟩
theorem lH:bP X (compareOp .NotEq) (.int i) (.int j) (.bl (!decide (i=j))):=⟨_,vB,λ_ v w H Q _ d1 d2 k=>by
 cases d1
 cases d2
 exact ⟨rfl,by rw [show decide (V.int i=V.int j)=decide (i=j) by simp]; exact k _ H (ak.refl _) .bl⟩⟩
theorem mO (h:PE X a (dE X.K C τ (.d (.int i)))):PE X (.UnaryOp .USub a pos) (dE X.K C τ (.d (.int (-i)))):=peW (yI xV h) λσ H Q q=>by
 obtain ⟨A,H₀,B,S,k⟩:=cO q
 refine aH S λv H1 e1 d1=>?_
 cases d1
 exact ⟨i,rfl,k _ H1 e1 .int⟩
theorem tE {e:Expr}:PE X e λ_ _ _=>False:=λ_ _ _ _ _ _ h=>h.elim
theorem pw_no {e:Expr}:PW X e λ_ _ _=>False:=λ_ _ _ _ _ _ _ h=>h.elim
variable {p q:Bool} {c:Expr} {rest:List Expr}
theorem gp {op} {s:Sl} (h:PE X a (dE X.K C τ s)):PE X (.BoolOp op [a] pos) (dE X.K C τ s):=yk h
theorem eG (ha:PE X a (dE X.K C τ (.d (.bl p)))) (hb:p=true->PE X (.BoolOp .And (b :: rest) pos) (dE X.K C τ (.d (.bl q)))):PE X (.BoolOp .And (a :: b :: rest) pos) (dE X.K C τ (.d (.bl (p && q)))):=by
 cases p with
 | false=>
   refine peW (rj ha tE) λσ H Q z=>?_
   obtain ⟨A,H₀,B,S,k⟩:=cO z
   exact aH S λv H' e d=>by cases d; exact ⟨_,rfl,k _ H' e .bl⟩
 | true=>
   refine peW (rj ha (hb rfl)) λσ H Q z=>?_
   obtain ⟨A,H₀,B,S,k⟩:=cO z
   exact aH S λv H' e d=>by cases d; exact ⟨_,rfl,aH (S.mono e) λv H2 e2 d2=>k v H2 (e.trans e2) d2⟩
theorem vF (ha:PE X a (dE X.K C τ (.d (.bl p)))):PE X (.UnaryOp .Not a pos) (dE X.K C τ (.d (.bl (!p)))):=peW (wG ha) λσ H Q z=>by
 obtain ⟨A,H₀,B,S,k⟩:=cO z
 exact aH S λv H' e d=>by cases d; exact ⟨_,rfl,k _ H' e .bl⟩
theorem wQ (ha:PT X a (dT X.K τ p)):PW X (.BoolOp .And [a] pos) (dT X.K τ p):=pw_and1 ha
theorem bQ (ha:PT X a (dT X.K τ p)):PW X (.BoolOp .Or [a] pos) (dT X.K τ p):=pw_or1 ha
theorem yO (ha:PT X a (dT X.K τ p)) (hb:p=true->PW X (.BoolOp .And (b :: rest) pos) (dT X.K τ q)):PW X (.BoolOp .And (a :: b :: rest) pos) (dT X.K τ (p && q)):=by
 cases p with
 | false=>exact pwW (pw_and ha pw_no) λσ H Q ⟨A,H₀,B,S,k⟩=>⟨A,H₀,B,S,λH' e=>qS (k H' e)⟩
 | true=>exact pwW (pw_and ha (hb rfl)) λσ H Q ⟨A,H₀,B,S,k⟩=>⟨A,H₀,B,S,λH' e=>oy (⟨A,H₀,B,S.mono e,λH2 e2=>k H2 (e.trans e2)⟩)⟩
theorem bO (ha:PT X a (dT X.K τ p)) (hb:p=false->PW X (.BoolOp .Or (b :: rest) pos) (dT X.K τ q)):PW X (.BoolOp .Or (a :: b :: rest) pos) (dT X.K τ (p || q)):=by
 cases p with
 | true=>exact pwW (pw_or ha pw_no) λσ H Q ⟨A,H₀,B,S,k⟩=>⟨A,H₀,B,S,λH' e=>oy (k H' e)⟩
 | false=>exact pwW (pw_or ha (hb rfl)) λσ H Q ⟨A,H₀,B,S,k⟩=>⟨A,H₀,B,S,λH' e=>qS (⟨A,H₀,B,S.mono e,λH2 e2=>k H2 (e.trans e2)⟩)⟩
theorem aX (ha:PT X a (dT X.K τ p)):PT X (.UnaryOp .Not a pos) (dT X.K τ (!p)):=ptW (xK ha) λσ H Q ⟨A,H₀,B,S,k⟩=>⟨A,H₀,B,S,λH' e=>k H' e⟩
theorem rn {s:Sl} (hc:PT X c (dT X.K τ p)) (ha:p=true->PE X a (dE X.K C τ s)) (hb:p=false->PE X b (dE X.K C τ s)):PE X (.IfExp c a b pos) (dE X.K C τ s):=by
 have fin:∀ {σ H H' Q} {A:Addr->Prop} {H₀ B},Sta X.K A H₀ τ B σ H->(∀ v H' bs,ak H H'->Fr H H' bs->bJ X.K (hd H' λb=>vw C A B b\/b ∈ bs) H' (some v) bs s->Q v H')->ak H H'->dE X.K C τ s σ H' Q:=λS k e=>
   ⟨_,_,_,S.mono e,λv H2 bs e2 hf h=>k v H2 bs (e.trans e2) (λb hb=>⟨e.free (hf b hb).1,(hf b hb).2⟩) h⟩
 cases p with
 | true=>exact peW (mf hc (ha rfl) tE) λσ H Q ⟨A,H₀,B,S,k⟩=>⟨A,H₀,B,S,λH' e=>oy (fin S k e)⟩
 | false=>exact peW (mf hc tE (hb rfl)) λσ H Q ⟨A,H₀,B,S,k⟩=>⟨A,H₀,B,S,λH' e=>qS (fin S k e)⟩
theorem iy {op op':CmpOp} (ha:PE X a (dE X.K C τ (.d x))) (hb:PE X b (dE X.K C τ (.d y))) (hc:PE X c (dE X.K C τ (.d z))) (h1:bP X (compareOp op) x y (.bl p)) (h2:bP X (compareOp op') y z (.bl q))
   (hm:lastMarks [op,op'] [b,c]=false:=by with_unfolding_all rfl):PE X (.Compare a [op,op'] [b,c] pos) (dE X.K C τ (.d (.bl (p && q))))/\(C=false->PT X (.Compare a [op,op'] [b,c] pos) (dT X.K τ (p && q))):=by
 obtain ⟨r,o1,k1⟩:=h1
 obtain ⟨r',o2,k2⟩:=h2
 have key:∀ σ H Q,dE X.K C τ (.d (.bl (p && q))) σ H Q->nH r r' (dE X.K C τ (.d x)) (dE X.K C τ (.d y)) (dE X.K C τ (.d z)) σ H Q:=λσ H Q h=>by
   obtain ⟨A,H₀,B,S,k⟩:=cO h
   refine aH S λv H1 e1 d1=>aH (S.mono e1) λw H2 e2 d2=>k1 (vw C A B) v w H2 _ ((S.mono e1).mono e2).vd (d1.mono (av e2 λ_ z=>z)) d2 λu H3 e3 d3=>?_
   cases d3
   refine ⟨p,rfl,?_⟩
   cases p with
   | false=>exact qS (k _ H3 (e1.trans (e2.trans e3)) .bl)
   | true=>exact oy (aH (((S.mono e1).mono e2).mono e3) λw' H4 e4 d4=>k2 (vw C A B) w w' H4 Q ((((S.mono e1).mono e2).mono e3).mono e4).vd (d2.mono (av (e3.trans e4) λ_ z=>z)) d4 λu H5 e5 d5=>k u H5 (e1.trans (e2.trans (e3.trans (e4.trans e5)))) d5)
 exact ⟨peW (tm o1 o2 ha hb hc hm) key,λhC=>by subst hC; exact ptW (sx o1 o2 ha hb hc hm) (tG key)⟩
theorem ag:PA X [] (dA X.K C τ []):=paW di λσ H Q ⟨A,H₀,B,S,k⟩=>k [] H (ak.refl _) .nil
theorem ae {ds:List D} (ha:PE X e (dE X.K C τ (.d x))) (hr:PA X es (dA X.K C τ ds)) (hs:starEach (e :: es) X.env=(false,eval e X.env) :: starEach es X.env:=by rfl):PA X (e :: es) (dA X.K C τ (x :: ds)):=paW (bw ha hr hs) λσ H Q ⟨A,H₀,B,S,k⟩=>
 aH S λv H1 e1 d1=>cF (S.mono e1) λvs H2 e2 d2=>k _ H2 (e1.trans e2) (.cons (d1.mono (av e2 λ_ z=>z)) d2)
theorem bX {ds:List D} {m} (h:PA X es (dA X.K C τ ds)) (hl:Nat.ble ds.length 1000=true:=by rfl):PE X (.Tuple es m pos) (dE X.K C τ (.d (.tup ds))):=peW (xq h) λσ H Q q=>by
 obtain ⟨A,H₀,B,S,k⟩:=cO q
 refine cF S λvs H1 e1 d1=>⟨by rw [d1.length]; exact Nat.le_of_lt (gB (Nat.le_of_ble_eq_true hl)),λp hp=>k _ _ (e1.trans (au hp _)) ?_⟩
 exact .tup (SqT.of (kI (S.mono e1).vd hp)) (d1.mono (av (au hp _) λ_ z=>z))
theorem cA {ds:List D} (h:PA X es (dA X.K C τ ds)) (hl:Nat.ble ds.length 1000=true:=by rfl):PE X (.List es pos) (dE X.K C τ (.o ds)):=peW (nA h) λσ H Q ⟨A,H₀,B,S,k⟩=>
 cF S λvs H1 e1 d1=>⟨by rw [d1.length]; exact Nat.le_of_lt (gB (Nat.le_of_ble_eq_true hl)),λp hp=>k _ _ [p] (e1.trans (au hp _)) (λb hb=>by
   obtain rfl:=List.mem_singleton.mp hb
   exact ⟨e1.free hp,_,aA⟩) ⟨p,vs,rfl,rfl,aA,d1.mono λb o z=>by
     obtain ⟨z1,z2⟩:=ao.mp z
     refine ao.mpr ⟨λy=>?_,au hp _ _ _ z2⟩
     rcases y with y | y
     · exact z1 y
     · rw [List.mem_singleton.mp y] at z2; rw [hp] at z2; cases z2⟩⟩
end
noncomputable def spD (K:PySem.W.Frag) (Φ:List D->Sl->Prop):Sp:=λvs H Q _=>∃ A ds s,(∀ b,A b->∃ o,H b=some o)/\ax K (hd H A) vs ds/\Φ ds s /\
 ∀ v H' bs,ak H H'->Fr H H' bs->bJ K (hd H' λb=>A b\/b ∈ bs) H' (some v) bs s->Q v H'
noncomputable def Cal (P:Program) (w:World) (K:PySem.W.Frag) (mg:Str->Option Value) (base:Heap) (k:Nat) (n:Str) (Φ:List D->Sl->Prop):Prop:=
 ∃ f fd ps,aG P w K mg base CX0 k f fd ps (spD K Φ)/\mg n=some (.ref f)/\PySem.W.keepIn K (.ref f)=true/\Binds K fd ps []
theorem Cal.mono {P:Program} {w:World} {K:PySem.W.Frag} {mg:Str->Option Value} {base:Heap} {j k:Nat} {n:Str} {Φ:List D->Sl->Prop} (c:Cal P w K mg base j n Φ) (h:j<=k):Cal P w K mg base k n Φ:=
 let ⟨f,fd,ps,F,r⟩:=c; ⟨f,fd,ps,F.mono h,r⟩
noncomputable def aj:List Str:=["len","abs","max","min","int","bool","list","tuple","str","isinstance","range","enumerate","all","zip","sorted","sum","any","reversed"]
structure Bk (X:Cx) (k:Nat):Prop where
 room:b9 k X.A
 calm:X.calm=true
 blt:∀ x ∈ aj,X.mg x=none
 po:PassesOwn (model X.prog X.w) X.A X.env X.xe
section
variable {X:Cx} {C:Bool} {τ:List Sl} {x y z:D} {a b e:Expr} {es:List Expr} {pos p:Pos} {k:Nat} {s:Sl} {ds:List D} {i j:Int}
theorem x_call {n:Str} {Φ:List D->Sl->Prop} (B:Bk X k) (c:Cal X.prog X.w X.K X.mg X.base k n Φ) (ha:PA X (e :: es) (dA X.K C τ ds)) (h:Φ ds s) (hg:Gl X n:=by rfl) (hdb:(n == ("__debug__" : Str))=false:=by decide)
   (he:starEach (e :: es) X.env=(false,eval e X.env) :: starEach es X.env:=by rfl) (hpl:(backTo pos (starEach es X.env)).any (·.1)=false:=by rfl):PE X (.Call (.Name n p) (e :: es) [] pos) (dE X.K C τ s):=by
 obtain ⟨f,fd,ps,F,hm,hk,hb⟩:=c
 refine peW (oI F B.room hg hm hk hb .nil jX ha hdb he hpl) λσ H Q ⟨A,H₀,B,S,q⟩=>cF S λvs H1 e1 d1=>?_
 rw [List.append_nil]
 exact ⟨vw C A B,ds,s,(S.mono e1).vd,d1,h,λv H' bs e2 hf h2=>q v H' bs (e1.trans e2) (λb hb=>⟨e1.free (hf b hb).1,(hf b hb).2⟩) h2⟩
noncomputable def hX (X:Cx) (f:Value) (ds:List D) (s:Sl):Prop:=∃ r:List V->Hp->VK->Prop,dJ X f r /\
 ∀ (M:Addr->Prop) (vs:List V) (H:Hp) (Q:VK),(∀ b,M b->∃ o,H b=some o)->ax X.K (hd H M) vs ds->(∀ u H' bs,ak H H'->Fr H H' bs->bJ X.K (hd H' λb=>M b\/b ∈ bs) H' (some u) bs s->Q u H')->r vs H Q
theorem sT {r:List V->Hp->VK->Prop} (hr:∀ (M:Addr->Prop) (vs:List V) (H:Hp) (Q:VK),(∀ b,M b->∃ o,H b=some o)->ax X.K (hd H M) vs ds->(∀ u H' bs,ak H H'->Fr H H' bs->bJ X.K (hd H' λb=>M b\/b ∈ bs) H' (some u) bs s->Q u H')->r vs H Q) :
   ∀ σ H Q,dE X.K C τ s σ H Q->tCB r (dA X.K C τ ds) σ H Q:=λσ H Q ⟨A,H₀,B,S,q⟩=>
 cF S λvs H1 e1 d1=>hr (vw C A B) vs H1 Q (S.mono e1).vd d1 λv H' bs e2 hf h2=>q v H' bs (e1.trans e2) (λb hb=>⟨e1.free (hf b hb).1,(hf b hb).2⟩) h2
theorem bC {n:Str} {id:String} (B:Bk X k) (ha:PA X (e :: es) (dA X.K C τ ds)) (c:hX X (.builtin id) ds s) (hn:n ∈ aj:=by decide) (hg:Gl X n:=by rfl) (hv:bootBuiltins n=some (.builtin id):=by decide +kernel) (h1:n ≠ "__name__":=by decide) (hdb:(n == ("__debug__" : Str))=false:=by decide)
   (he:starEach (e :: es) X.env=(false,eval e X.env) :: starEach es X.env:=by rfl) (hpl:(backTo pos (starEach es X.env)).any (·.1)=false:=by rfl):PE X (.Call (.Name n p) (e :: es) [] pos) (dE X.K C τ s):=by
 obtain ⟨r,h1,h2⟩:=c
 exact peW (me h1 hg (B.blt _ hn) hv ha (by assumption) hdb he hpl) (sT h2)
theorem qt {n:Str} {T:String} (B:Bk X k) (ha:PA X (e :: es) (dA X.K C τ ds)) (c:hX X (.type T) ds s) (hn:n ∈ aj:=by decide) (hg:Gl X n:=by rfl) (hv:bootBuiltins n=some (.type T):=by decide +kernel) (h1:n ≠ "__name__":=by decide) (hdb:(n == ("__debug__" : Str))=false:=by decide)
   (he:starEach (e :: es) X.env=(false,eval e X.env) :: starEach es X.env:=by rfl) (hpl:(backTo pos (starEach es X.env)).any (·.1)=false:=by rfl):PE X (.Call (.Name n p) (e :: es) [] pos) (dE X.K C τ s):=by
 obtain ⟨r,h1,h2⟩:=c
 exact peW (qJ h1 hg (B.blt _ hn) hv ha (by assumption) hdb he hpl) (sT h2)
theorem gy {K:PySem.W.Frag} {H:Hp} {M:Addr->Prop} {v:V} (h:Den K (hd H M) v x):bJ K (hd H λb=>M b\/b ∈ ([]:List Addr)) H (some v) [] (.d x):=⟨rfl,v,rfl,h.mono (av (ak.refl _) λ_ z=>z.elim id λz=>nomatch z)⟩
theorem cN {H H':Hp}:Fr H H' []:=λ_ z=>nomatch z
theorem iP {xs:List D}:hX X (.builtin "len") [.lst xs] (.d (.int xs.length)):=⟨_,gj,λM vs H Q _ d q=>by
 cases d with
 | cons d r=>
   cases r
   cases d with
   | lst h r=>
     refine ⟨_,_,rfl,.inl (aF aN h),?_⟩
     rw [r.length]
     exact q _ H [] (ak.refl _) cN (gy .int)⟩
theorem gL {xs:List D}:hX X (.builtin "len") [.tup xs] (.d (.int xs.length)):=⟨_,gj,λM vs H Q _ d q=>by
 cases d with
 | cons d r=>
   cases r
   cases d with
   | tup h r=>
     refine ⟨_,_,rfl,.inr (aR aN h),?_⟩
     rw [r.length]
     exact q _ H [] (ak.refl _) cN (gy .int)⟩
noncomputable def uK (i:Int):Int:=if i < 0 then -i else i
theorem mQ:hX X (.builtin "abs") [.int i] (.d (.int (uK i))):=⟨_,rS,λM vs H Q _ d q=>by
 cases d with
 | cons d r=>
   cases r
   cases d
   exact ⟨_,rfl,q _ H [] (ak.refl _) cN (gy .int)⟩⟩
theorem vM (hc:X.calm=true):hX X (.builtin "max") [.int i,.int j] (.d (.int (if j > i then j else i))):=⟨_,qY hc,λM vs H Q _ d q=>by
 cases d with
 | cons d r=>
   cases r with
   | cons d' r=>
     cases r
     cases d
     cases d'
     exact ⟨_,_,rfl,q _ H [] (ak.refl _) cN (gy .int)⟩⟩
theorem yK (hc:X.calm=true):hX X (.builtin "min") [.int i,.int j] (.d (.int (if j < i then j else i))):=⟨_,pW hc,λM vs H Q _ d q=>by
 cases d with
 | cons d r=>
   cases r with
   | cons d' r=>
     cases r
     cases d
     cases d'
     exact ⟨_,_,rfl,q _ H [] (ak.refl _) cN (gy .int)⟩⟩
theorem vI {c:Bool}:hX X (.type "int") [.bl c] (.d (.int (if c then 1 else 0))):=⟨_,qN,λM vs H Q _ d q=>by
 cases d with
 | cons d r=>
   cases r
   cases d
   exact .inr ⟨_,rfl,q _ H [] (ak.refl _) cN (gy .int)⟩⟩
theorem kT {K:PySem.W.Frag} {H:Hp} {M:Addr->Prop} {p:Addr} {vs:List V} {xs:List D} (hp:H p=none) (d:ax K (hd H M) vs xs) :
   ak H (upd H p (.lst vs))/\Fr H (upd H p (.lst vs)) [p]/\bJ K (hd (upd H p (.lst vs)) λb=>M b\/b ∈ [p]) (upd H p (.lst vs)) (some (.ref p)) [p] (.o xs):=
 ⟨au hp _,λb hb=>by
   obtain rfl:=List.mem_singleton.mp hb
   exact ⟨hp,_,aA⟩,p,vs,rfl,rfl,aA,d.mono λb o z=>by
     obtain ⟨z1,z2⟩:=ao.mp z
     refine ao.mpr ⟨λy=>?_,au hp _ _ _ z2⟩
     rcases y with y | y
     · exact z1 y
     · rw [List.mem_singleton.mp y] at z2; rw [hp] at z2; cases z2⟩
theorem kr {xs:List D}:hX X (.type "list") [.lst xs] (.o xs):=⟨_,ky,λM vs H Q _ d q=>by
 cases d with
 | cons d r=>
   cases r
   cases d with
   | lst h r=>
     refine ⟨_,_,rfl,.inl (aF aN h),λp hp=>?_⟩
     obtain ⟨z1,z2,z3⟩:=kT (K:=X.K) (M:=M) hp r
     exact q _ _ [p] z1 z2 z3⟩
theorem nS {K:PySem.W.Frag} {H:Hp} {vs:List V} {ds:List D} {i:Int} {d:D} (r:ax K H vs ds) (h:atI ds i=some d):∃ v,atI vs i=some v/\Den K H v d:=by
 unfold atI at h ⊢
 rw [r.length]
 cases e:ixN ds.length i with
 | none=>rw [e] at h; cases h
 | some j=>rw [e] at h; exact r.get h
noncomputable def uB (X:Cx) (x y z:D):Prop:=∃ r:R2,IxR X r /\
 ∀ (M:Addr->Prop) (v w:V) (H:Hp) (Q:VK),(∀ b,M b->∃ o,H b=some o)->Den X.K (hd H M) v x->Den X.K (hd H M) w y->(∀ u H',ak H H'->Den X.K (hd H' M) u z->Q u H')->r v w H Q
theorem ay (ha:PE X a (dE X.K C τ (.d x))) (hb:PE X b (dE X.K C τ (.d y))) (ho:uB X x y z) (hs:iB b:=by exact λ_ _=>rfl):PE X (.Subscript a b pos) (dE X.K C τ (.d z)):=by
 obtain ⟨r,h1,h2⟩:=ho
 exact peW (rm h1 ha hb hs) (two h2)
theorem aU {xs:List D} (h:atI xs i=some z):uB X (.lst xs) (.int i) z:=⟨_,kM,λM v w H Q _ d1 d2 q=>by
 cases d2
 cases d1 with
 | lst hs r=>
   obtain ⟨v,e,d⟩:=nS r h
   exact ⟨_,_,_,_,rfl,rfl,aF aN hs,e,q _ H (ak.refl _) d⟩⟩
theorem aw {xs:List D} (h:atI xs i=some z):uB X (.tup xs) (.int i) z:=⟨_,wb,λM v w H Q _ d1 d2 q=>by
 cases d2
 cases d1 with
 | tup hs r=>
   obtain ⟨v,e,d⟩:=nS r h
   exact ⟨_,_,_,_,rfl,rfl,aR aN hs,e,q _ H (ak.refl _) d⟩⟩
theorem hJ (n:Nat) {nm:Str} {xs:List D} (hb:PE X b (dE X.K false τ (.d (.int i)))) (hz:atI xs i=some z) (h:τ[n]?=some (.o xs):=by rfl) (hs:iB b:=by exact λ_ _=>rfl) (hN:X.N[n]?=some nm:=by rfl)
   (hv:Vis X.env.scope nm:=by first | exact Or.inl rfl | exact Or.inr (Or.inl rfl) | exact Or.inr (Or.inr rfl)) (hd:(nm == ("__debug__" : Str))=false:=by decide) (hcd:(nm == ("__classdict__" : Str))=false:=by decide):PE X (.Subscript (.Name nm p) b pos) (dE X.K C τ (.d z)):=
 peW (rm kM (bh (i:=n) hN hv hd hcd) hb hs) λσ H Q q=>by
   obtain ⟨A,H₀,B,S,k⟩:=cO q
   obtain ⟨l,vs,hb,e1,e2,d⟩:=S.sl n _ h
   refine ⟨_,slot_of e1,aH S λw H1 e3 d1=>?_⟩
   cases d1
   obtain ⟨v,e4,d4⟩:=nS d hz
   exact ⟨l,vs,i,v,rfl,rfl,SqL.of (e3 _ _ e2),e4,k v H1 e3 (d4.mono (av e3 λ_ z=>iM z))⟩
noncomputable def dO (K:PySem.W.Frag) (τ:List Sl) (c:Option Int):TO:=λσ H Q=>∃ A H₀ B,Sta K A H₀ τ B σ H/\∀ H',ak H H'->Q c H'
theorem zE {e:Option Expr} {t t':TO} (h:PO X e t) (f:∀ σ H Q,t' σ H Q->t σ H Q):PO X e t':=λpins s σ H Q I q=>h pins s σ H Q I (f σ H Q q)
theorem mX:PO X none (dO X.K τ none):=zE vi λσ H Q ⟨A,H₀,B,S,k⟩=>k H (ak.refl _)
theorem jj (h:PE X e (dE X.K false τ (.d (.int i)))):PO X (some e) (dO X.K τ (some i)):=zE (ud h) λσ H Q ⟨A,H₀,B,S,k⟩=>aH S λv H1 e1 d1=>by
 cases d1
 exact ⟨_,rfl,k H1 e1⟩
noncomputable def cutD (xs:List D) (lo hi:Option Int):List D:=(xs.drop (HT.sIx xs.length 0 lo)).take (HT.sIx xs.length xs.length hi - HT.sIx xs.length 0 lo)
theorem wC {lo hi:Option Expr} {l u:Option Int} {xs:List D} {p2:Pos} (ha:PE X a (dE X.K C τ (.d (.lst xs)))) (hl:PO X lo (dO X.K τ l)) (hu:PO X hi (dO X.K τ u)):PE X (.Subscript a (.Slice lo hi none p2) pos) (dE X.K C τ (.o (cutD xs l u))):=
 peW (mx vf ha hl hu) λσ H Q ⟨A,H₀,B,S,k⟩=>aH S λv H1 e1 d1=>⟨A,H₀,B,S.mono e1,λH2 e2=>⟨A,H₀,B,(S.mono e1).mono e2,λH3 e3=>by
   cases d1 with
   | @lst _ ws _ h r=>
     have h:=aF (e2.trans e3) (aF aN h)
     refine ⟨_,_,rfl,h,λp hp=>?_⟩
     have r:=r.mono (av (e2.trans e3) λ_ z=>z)
     have r':ax X.K (hd H3 (vw C A B)) (js ws l u) (cutD xs l u):=by
       unfold js cutD
       rw [r.length]
       exact (r.drop _).take _
     obtain ⟨z1,z2,z3⟩:=kT (K:=X.K) hp r'
     exact k _ _ [p] (e1.trans (e2.trans (e3.trans z1))) (λb hb=>⟨(e1.trans (e2.trans e3)).free (z2 b hb).1,(z2 b hb).2⟩) z3⟩⟩
inductive Ty where
 | int | bool | str | list | tuple
noncomputable def tyN:Ty->String
 | .int=>"int" | .bool=>"bool" | .str=>"str" | .list=>"list" | .tuple=>"tuple"
noncomputable def yW:D->String
 | .non=>"NoneType" | .bl _=>"bool" | .int _=>"int" | .str _=>"str" | .tup _=>"tuple" | .lst _=>"list" | .box _=>"dict"
noncomputable def jR:Ty->D->Bool
 | .int,.int _=>true
 | .int,.bl _=>true
 | .bool,.bl _=>true
 | .str,.str _=>true
 | .list,.lst _=>true
 | .tuple,.tup _=>true
 | _,_=>false
theorem wj (K:PySem.W.Frag) (d:D) (t:Ty):PySem.W.kitOne K (.type (yW d)) (.type (tyN t))=some (jR t d):=by
 cases d <;> cases t <;> (show PySem.W.kitOne K (.type _) (.type _)=some _) <;> with_unfolding_all rfl
theorem wu (t:Ty):dJ X (.builtin "isinstance") (λxs H Q=>∃ G x d,ak G H/\xs=[x,.ty (tyN t)]/\Den X.K G x d/\Q (.bl (jR t d)) H):=by
 intro pins s σ H xs us Q I r q
 obtain ⟨G,x,d,sg,rfl,dx,q⟩:=q
 obtain ⟨u,w,rfl,rx,rt⟩:∃ u w,us=[u,w]/\RelV x u/\RelV (.ty (tyN t)) w:=by
   cases r with
   | cons r1 r=>cases r with
     | cons r2 r=>cases r; exact ⟨_,_,rfl,r1,r2⟩
 cases (show w=Value.type (tyN t) from rt)
 have kt:=wj X.K d t
 have fin:∀ tk,EP X pins σ Q (.bool (jR t d)) { s with toks:=tk }:=λtk=>⟨.bl _,H,I.tok _,rfl,q⟩
 cases dx with
 | non=>cases (show u=Value.none from rx); exact PySem.W.kia_one PySem.W.kitx_none I.kIn True.intro kt (λz=>nomatch z) fin
 | bl=>cases (show u=Value.bool _ from rx); exact PySem.W.kia_one PySem.W.kitx_bool I.kIn True.intro kt (λz=>nomatch z) fin
 | int=>obtain ⟨t',z⟩:=(show ∃ t,u=Value.int _ t from rx); cases z; exact PySem.W.kia_one PySem.W.kitx_int I.kIn True.intro kt (λz=>nomatch z) fin
 | str=>obtain ⟨t',z⟩:=(show ∃ t,u=Value.str _ t from rx); cases z; exact PySem.W.kia_one PySem.W.kitx_str I.kIn True.intro kt (λz=>nomatch z) fin
 | tup h r1=>
   cases (show u=Value.ref _ from rx)
   obtain ⟨its,_,⟨o,h1,h2,_⟩,_⟩:=I.tuple (aR sg h)
   exact PySem.W.kia_one PySem.W.kitx_tuple I.kIn ⟨o,h1,h2⟩ kt (λz=>nomatch z) fin
 | lst h r1=>
   cases (show u=Value.ref _ from rx)
   obtain ⟨its,_,⟨o,n,h1,h2,_⟩,_⟩:=I.list (aF sg h)
   exact PySem.W.kia_one PySem.W.kitx_list I.kIn ⟨o,h1,h2⟩ kt (λz=>nomatch z) fin
 | @box a x h=>
   cases (show u=Value.ref _ from rx)
   obtain ⟨o',h1,h2⟩:=x.isd h
   obtain ⟨o,h3,h4⟩:=h2 _ _ _ _ (I.hok a _ (sg _ _ h1))
   exact PySem.W.kia_one PySem.W.kitx_dict I.kIn ⟨o,h3,h4⟩ kt (λz=>nomatch z) fin
theorem bY {n:Str} {q:Pos} (t:Ty) (B:Bk X k) (ha:PE X a (dE X.K false τ (.d x))) (hn:n ∈ aj:=by decide) (ht:bootBuiltins n=some (.type (tyN t)):=by decide +kernel) (hg:Gl X "isinstance":=by rfl) (hg':Gl X n:=by rfl) (h1:n ≠ "__name__":=by decide) (hdb:(n == ("__debug__" : Str))=false:=by decide)
   (he:starEach [a,.Name n q] X.env=(false,eval a X.env) :: starEach [.Name n q] X.env:=by rfl) (hpl:(backTo pos (starEach [.Name n q] X.env)).any (·.1)=false:=by rfl):PE X (.Call (.Name "isinstance" p) [a,.Name n q] [] pos) (dE X.K C τ (.d (.bl (jR t x)))):=by
 refine peW (me (wu t) hg (B.blt _ (by decide)) (by decide +kernel) (bw ha (bw (vg (v:=.ty (tyN t)) hg' (B.blt _ hn) ht rfl h1 hdb) di) he) (by decide) (by decide) he hpl) λσ H Q q=>?_
 obtain ⟨A,H₀,B,S,k⟩:=cO q
 exact aH S λv H1 e1 d1=>⟨_,v,x,aN,rfl,d1,k _ H1 e1 .bl⟩
end
section
variable {K:PySem.W.Frag} {A:Addr->Prop} {H₀ H H':Hp} {τ:List Sl} {B:Nat->List Addr} {σ:L2.St}
theorem Sta.put (S:Sta K A H₀ τ B σ H) {i:Nat} {a:Addr} {xs ys:List D} {vs:List V} (hi:τ[i]?=some (.o xs)) (hB:B i=[a]) (d:ax K (hd H (own A B)) vs ys):Sta K A H₀ (τ.set i (.o ys)) B σ (upd H a (.lst vs)):=by
 have ha:own A B a:=.inr ⟨i,by rw [hB]; exact List.mem_singleton.mpr rfl⟩
 have ne:∀ b,b ≠ a->upd H a (.lst vs) b=H b:=λb h=>aq h
 have sm:ak (hd H (own A B)) (hd (upd H a (.lst vs)) (own A B)):=λb o z=>by
   obtain ⟨z1,z2⟩:=ao.mp z
   exact ao.mpr ⟨z1,by rw [ne b (λe=>z1 (e ▸ ha))]; exact z2⟩
 have f0:H₀ a=none:=S.fr i a (by rw [hB]; exact List.mem_singleton.mpr rfl)
 have hs:ak H₀ (upd H a (.lst vs)):=λb o z=>by rw [ne b (λe=>by rw [e,f0] at z; cases z)]; exact S.same b o z
 refine ⟨hs,by rw [List.length_set,S.len],λj t hj=>?_,S.fr,S.uq,S.ad,λj b hb=>?_⟩
 · by_cases ej:j=i
   · subst ej
     have hl:=(List.getElem?_eq_some_iff.mp hi).1
     rw [List.getElem?_set_self hl] at hj
     cases hj
     obtain ⟨a',vs',e1,e2,_,_⟩:=S.sl j _ hi
     rw [hB] at e1
     cases e1
     exact ⟨a,vs,hB,e2,aA,d.mono sm⟩
   · rw [List.getElem?_set_ne (λz=>ej z.symm)] at hj
     have q:=S.sl j t hj
     have off:∀ b ∈ B j,b ≠ a:=λb hb e=>ej (S.uq j i a (e ▸ hb) (by rw [hB]; exact List.mem_singleton.mpr rfl))
     cases t with
     | un=>exact q
     | d x=>obtain ⟨z,u,e,d⟩:=q; exact ⟨z,u,e,d.mono sm⟩
     | o zs=>
       obtain ⟨c,ws,z1,z2,z3,z4⟩:=q
       exact ⟨c,ws,z1,z2,by rw [ne c (off c (by rw [z1]; exact List.mem_singleton.mpr rfl))]; exact z3,z4.mono sm⟩
     | n t=>
       obtain ⟨z0,u,z1,z2⟩:=q
       exact ⟨z0,u,z1,z2.frame sm λb hb=>ne b (off b hb)⟩
     | x E=>
       obtain ⟨c,o,z1,z2,z3,z4⟩:=q
       exact ⟨c,o,z1,z2,by rw [ne c (off c (by rw [z1]; exact List.mem_singleton.mpr rfl))]; exact z3,E.mono sm z4⟩
     | w W=>
       obtain ⟨z0,u,z1,z2⟩:=q
       exact ⟨z0,u,z1,W.fr sm (λb hb=>ne b (off b hb)) z2⟩
 · by_cases e:b=a
   · subst e; exact ⟨_,aA⟩
   · rw [ne b e]; exact S.bd j b hb
theorem Sta.fz (S:Sta K A H₀ τ B σ H) {i:Nat} {s:Sl} {x:D} (hi:τ[i]?=some s) (hx:fzD s=some x):Sta K A H₀ (τ.set i (.d x)) (upB B i []) σ H:=
 S.less (λ_ z=>nomatch z) λG g hv=>by
   obtain ⟨u,e,d⟩:=(S.sl i s hi).den (G':=G) g (λb hb o ho=>hv b o hb (λz=>nomatch z) ho) hx
   exact ⟨rfl,u,e,d⟩
end
section
variable {X:Cx} {C:Bool} {τ:List Sl} {x y z:D} {a b e c:Expr} {es:List Expr} {pos p:Pos} {k:Nat} {s:Sl} {ds:List D} {N:Po} {st:Stmt} {rest body els:List Stmt}
theorem aV (h:N.nx τ):PSs X [] (dS X.K τ N):=p8 uI λD σ H ⟨A,H₀,B,S,M⟩=>M.nx τ B σ H h S
theorem ba {M:List Sl->Prop} (h1:PS X st (dS X.K τ { N with nx:=M })) (h2:∀ τ',M τ'->PSs X rest (dS X.K τ' N)):PSs X (st :: rest) (dS X.K τ N):=by
 have h:PSs X rest λD σ H=>∃ τ',M τ'/\dS X.K τ' N D σ H:=λpins s σ H D I ⟨τ',m,q⟩=>h2 τ' m pins s σ H D I q
 exact p8 (mT h1 h) λD σ H ⟨A,H₀,B,S,Me⟩=>⟨A,H₀,B,S,λτ' B' σ' H' m S'=>⟨τ',m,A,H₀,B',S',Me⟩,Me.bk,Me.ct,Me.rt,Me.xc⟩
theorem iU (i:Nat) {s:Sl} {x:D} (h:PSs X rest (dS X.K (τ.set i (.d x)) N)) (hi:τ[i]?=some s:=by rfl) (hx:fzD s=some x:=by rfl):PSs X rest (dS X.K τ N):=p8 h λD σ H ⟨A,H₀,B,S,Me⟩=>⟨A,H₀,_,S.fz hi hx,Me⟩
theorem aI (i:Nat) {n:Str} {p:Pos} (hN:X.N.Nodup) (he:PE X e (dE X.K true τ s)) (hr:PSs X rest (dS X.K (τ.set i s) N)) (hi:X.N[i]?=some n:=by rfl) (hx:Loc X.env.scope n:=by first | exact .inl rfl | exact .inr rfl) (hs:swapsWith e (some (.Name n p)) pos.line X.env=pure false:=by rfl)
   (hf:X.fn n=true\/X.env.scope.names.lookup n=some .local:=by first | exact .inl rfl | exact .inr rfl | assumption):PSs X (.Assign [.Name n p] e pos :: rest) (dS X.K τ N):=
 ba (M:=(·=τ.set i s)) (psW (tO hN hi hx he hs hf) λD σ H ⟨A,H₀,B,S,Me⟩=>⟨A,H₀,B,S,λv H' bs e hf h=>Me.nx _ _ _ _ rfl (S.set e hf h)⟩) λ_ e=>e ▸ hr
theorem eI (he:PE X e (dE X.K true τ s)) (hr:PSs X rest (dS X.K τ N)) (hs:swapsWith e none pos.line X.env=pure false:=by rfl):PSs X (.Expr e pos :: rest) (dS X.K τ N):=
 ba (M:=(·=τ)) (psW (da he hs) λD σ H ⟨A,H₀,B,S,Me⟩=>⟨A,H₀,B,S,λv H' bs e hf h=>Me.nx _ _ _ _ rfl (S.mono e)⟩) λ_ e=>e ▸ hr
theorem aJ (he:PE X e (dE X.K false τ s)) (h:N.rt s):PSs X (.Return (some e) pos :: rest) (dS X.K τ N):=
 ba (M:=λ_=>False) (psW (n9 he) λD σ H ⟨A,H₀,B,S,Me⟩=>⟨A,H₀,B,S,λv H' bs e hf q=>Me.rt v H' bs s h (S.same.trans e) (λb hb=>⟨S.same.free (hf b hb).1,(hf b hb).2⟩) q⟩) λ_ e=>e.elim
theorem rq (i:Nat) {n:Str} (h:N.rt s) (hi:τ[i]?=some s:=by rfl) (h0:s ≠ .un:=by exact nofun) (hN:X.N[i]?=some n:=by rfl) (hv:Vis X.env.scope n:=by first | exact Or.inl rfl | exact Or.inr (Or.inl rfl) | exact Or.inr (Or.inr rfl))
   (hd:(n == ("__debug__" : Str))=false:=by decide) (hcd:(n == ("__classdict__" : Str))=false:=by decide):PSs X (.Return (some (.Name n p)) pos :: rest) (dS X.K τ N):=
 ba (M:=λ_=>False) (psW (n9 (bh hN hv hd hcd)) λD σ H ⟨A,H₀,B,S,Me⟩=>by
   have q:=S.sl i s hi
   obtain ⟨u,e⟩:∃ u,(σ[i]?).join=some u:=by
     cases s with
     | un=>exact absurd rfl h0
     | d x=>obtain ⟨_,u,e,_⟩:=q; exact ⟨u,e⟩
     | o xs=>obtain ⟨_,_,_,e,_⟩:=q; exact ⟨_,e⟩
     | n t=>obtain ⟨_,u,e,_⟩:=q; exact ⟨u,e⟩
     | x E=>obtain ⟨_,_,_,e,_⟩:=q; exact ⟨_,e⟩
     | w W=>obtain ⟨_,u,e,_⟩:=q; exact ⟨u,e⟩
   rw [e] at q
   exact ⟨u,slot_of e,Me.rt u H (B i) s h S.same (λb hb=>⟨S.fr i b hb,S.bd i b hb⟩) (q.mono (av (ak.refl _) λb z=>z.elim .inl λz=>.inr ⟨i,z⟩) (ak.refl _))⟩) λ_ e=>e.elim
theorem vU {H H':Hp} {σ:L2.St} {D:Ends} {A:Addr->Prop} {H₀:Hp} {B:Nat->List Addr} (S:Sta X.K A H₀ τ B σ H) (Me:Meets X.K A H₀ N D) (e:ak H H'):dS X.K τ N D σ H':=⟨A,H₀,B,S.mono e,Me⟩
theorem AA {t:Bool} (hc:PT X c (dT X.K τ t)) (ha:t=true->PSs X body (dS X.K τ N)) (hb:t=false->PSs X els (dS X.K τ N)):PS X (.If c body els pos) (dS X.K τ N):=by
 cases t with
 | true=>exact psW (vA hc (ha rfl) jY) λD σ H ⟨A,H₀,B,S,Me⟩=>⟨A,H₀,B,S,λH' e=>oy (vU S Me e)⟩
 | false=>exact psW (vA hc jY (hb rfl)) λD σ H ⟨A,H₀,B,S,Me⟩=>⟨A,H₀,B,S,λH' e=>qS (vU S Me e)⟩
theorem nR {t:Bool} {M:List Sl->Prop} (hc:PT X c (dT X.K τ t)) (ha:t=true->PSs X body (dS X.K τ { N with nx:=M })) (hb:t=false->PSs X els (dS X.K τ { N with nx:=M })) (hr:∀ τ',M τ'->PSs X rest (dS X.K τ' N)):PSs X (.If c body els pos :: rest) (dS X.K τ N):=
 ba (AA hc ha hb) hr
theorem fB {t:Bool} (hc:PT X c (dT X.K τ t)) (ha:t=true->PSs X body (dS X.K τ { N with nx:=λ_=>False })) (hr:t=false->PSs X rest (dS X.K τ N)):PSs X (.If c body [] pos :: rest) (dS X.K τ N):=by
 cases t with
 | true=>exact nR (M:=λ_=>False) hc ha (λz=>nomatch z) λ_ z=>z.elim
 | false=>exact nR (M:=(·=τ)) hc (λz=>nomatch z) (λ_=>aV rfl) λ_ e=>e ▸ hr rfl
theorem br {t:Bool} (hc:PT X c (dT X.K τ t)) (ht:t=false) (hr:PSs X rest (dS X.K τ N)):PSs X (.If c body [] pos :: rest) (dS X.K τ N):=fB hc (λz=>by rw [ht] at z; cases z) λ_=>hr
theorem tq (i:Nat) {n:Str} {xs:List D} {ap cp:Pos} (he:PE X e (dE X.K true τ (.d x))) (hl:xs.length < 1000000) (hr:PSs X rest (dS X.K (τ.set i (.o (xs++[x]))) N)) (hi:τ[i]?=some (.o xs):=by rfl) (hN:X.N[i]?=some n:=by rfl)
   (hv:Vis X.env.scope n:=by first | exact Or.inl rfl | exact Or.inr (Or.inl rfl) | exact Or.inr (Or.inr rfl)) (hd:(n == ("__debug__" : Str))=false:=by decide) (hcd:(n == ("__classdict__" : Str))=false:=by decide)
   (hfew:((backTo cp (starEach [e] X.env)).all (λx=>!x.1) && (backToKw cp (keywordEach [] X.env)).all (λx=>x.1.isSome) && decide (([e]:List Expr).length + ([]:List Keyword).length + (if ([]:List Keyword).isEmpty then 0 else 1) < 30))=true:=by rfl)
   (hline:(ap.endLine == cp.line)=true:=by rfl) (hst:starEach [e] X.env=(false,eval e X.env) :: starEach [] X.env:=by rfl) (hpl:(backTo cp (starEach [] X.env)).any (·.1)=false:=by rfl)
   (hs:swapsWith (.Call (.Attribute (.Name n p) "append" ap) [e] [] cp) none pos.line X.env=pure false:=by rfl) (hbase:attributeBase (.Name n p) "append" X.env (eval (.Name n p) X.env)=eval (.Name n p) X.env:=by rfl) :
   PSs X (.Expr (.Call (.Attribute (.Name n p) "append" ap) [e] [] cp) pos :: rest) (dS X.K τ N):=
 ba (M:=(·=τ.set i (.o (xs++[x])))) (psW (da (pK PySem.F.plainAttrs_list PySem.F.slot_list_append PySem.F.type_list_append eZ (bh hN hv hd hcd) (bw he di hst) hbase hfew hline hst hpl) hs) λD σ H ⟨A,H₀,B,S,Me⟩=>by
   obtain ⟨l,vs,hb,e1,e2,d⟩:=S.sl i _ hi
   refine ⟨_,slot_of e1,.inl ⟨rfl,_,SqL.of e2⟩,aH S λv H1 e3 d1=>⟨l,vs,v,rfl,rfl,e3 _ _ e2,by rw [d.length]; exact Nat.lt_trans hl (by decide),?_⟩⟩
   exact Me.nx _ _ _ _ rfl ((S.mono e3).put hi hb ((d.mono (av e3 λ_ z=>z)).append (.cons d1 .nil)))) λ_ e=>e ▸ hr
theorem o8 {K:PySem.W.Frag} {H:Hp}:∀ {vs:List V} {ds:List D} {v:V} {d:D} (j:Nat),ax K H vs ds->Den K H v d->ax K H (vs.set j v) (ds.set j d)
 | _,_,_,_,_,.nil,_=>.nil
 | _,_,_,_,0,.cons _ r,h=>.cons h r
 | _,_,_,_,j + 1,.cons h' r,h=>.cons h' (o8 j r h)
theorem mI (i:Nat) {n:Str} {xs:List D} {m:Int} {j:Nat} {ix:Expr} {sp:Pos} (hx:PE X ix (dE X.K false τ (.d (.int m)))) (he:PE X e (dE X.K true τ (.d x))) (hj:ixN xs.length m=some j) (hr:PSs X rest (dS X.K (τ.set i (.o (xs.set j x))) N)) (hi:τ[i]?=some (.o xs):=by rfl) (hN:X.N[i]?=some n:=by rfl)
   (hv:Vis X.env.scope n:=by first | exact Or.inl rfl | exact Or.inr (Or.inl rfl) | exact Or.inr (Or.inr rfl)) (hd:(n == ("__debug__" : Str))=false:=by decide) (hcd:(n == ("__classdict__" : Str))=false:=by decide)
   (hs:swapsWithSole [.Subscript (.Name n p) ix sp] e pos.line X.env=pure false:=by rfl) (hw:swappedStores [.Subscript (.Name n p) ix sp] e X.env=pure none:=by rfl) (h1:(assignEach [.Subscript (.Name n p) ix sp] X.env).map (·.2)=[assign (.Subscript (.Name n p) ix sp) X.env]:=by rfl)
   (ha:∀ v,assign (.Subscript (.Name n p) ix sp) X.env v=(do
     let ov <- holding [v] (eval (.Name n p) X.env)
     let iv <- holding [v,ov] (eval ix X.env)
     standAt sp
     holding [v,ov,iv] (setItem ov iv v)
     release [v,ov,iv] []):=by intro _; rfl) :
   PSs X (.Assign [.Subscript (.Name n p) ix sp] e pos :: rest) (dS X.K τ N):=
 ba (M:=(·=τ.set i (.o (xs.set j x)))) (psW (sY he (xJ (bh hN hv hd hcd) hx set_list ha) hs hw h1) λD σ H ⟨A,H₀,B,S,Me⟩=>aH S λv H1 e1 d1=>by
   obtain ⟨l,vs,hb,f1,f2,d⟩:=(S.mono e1).sl i _ hi
   refine ⟨_,slot_of f1,aH (S.mono e1) λw H2 e2 d2=>?_⟩
   cases d2
   refine ⟨l,vs,m,j,rfl,rfl,e2 _ _ f2,by rw [d.length]; exact hj,?_⟩
   exact Me.nx _ _ _ _ rfl (((S.mono e1).mono e2).put hi hb (o8 j (d.mono (av e2 λ_ z=>z)) (d1.mono (av e2 λ_ z=>z))))) λ_ e=>e ▸ hr
end
end Hy
namespace Hy
open PySem PySem.Spec PyProof.Rows L2
open Ev (D Den ax au aR aF Ite Itz Itv yy wW wM pj nB nL aE dR cD PTs bT cP)
noncomputable def Yl (K:PySem.W.Frag) (J:L2.It) (xs:List D) (G:Hp):Prop:=∀ H,ak G H->(∀ i,xs.length<=i->J.stop i H)/\∀ (i:Nat) (h:i < xs.length),J.go i H /\
 ∀ x H',J.yld i H x H'->ak H H'/\∀ M:Addr->Prop,(∀ b,M b->∃ o,H b=some o)->ak G (hd H M)->Den K (hd H' M) x xs[i]
noncomputable def dI (K:PySem.W.Frag) (τ:List Sl) (xs:List D):TI:=λσ H R=>∃ A H₀ B,Sta K A H₀ τ B σ H/\∀ J H',ak H H'->Yl K J xs (hd H' (own A B))->R J H'
noncomputable def dG (K:PySem.W.Frag) (τ:List Sl) (x:D) (τ':List Sl):TG:=λv σ H Q=>∃ A H₀ B,Sta K A H₀ τ B σ H/\Den K (hd H (own A B)) v x/\∀ σ' B',Sta K A H₀ τ' B' σ' H->Q σ' H
theorem piW {X:Cx} {tg e:Expr} {t t':TI} (h:PI X tg e t) (f:∀ σ H Q,t' σ H Q->t σ H Q):PI X tg e t':=λpins s σ H Q I q=>h pins s σ H Q I (f σ H Q q)
theorem pgW {X:Cx} {e:Expr} {t t':TG} (h:PG X e t) (f:∀ v σ H Q,t' v σ H Q->t v σ H Q):PG X e t':=λpins s σ H v u Q I r q=>h pins s σ H v u Q I r (f v σ H Q q)
section
variable {K:PySem.W.Frag} {G:Hp} {a:Addr} {vs:List V} {xs:List D}
theorem u0 (h:SqL K G a vs) (r:ax K G vs xs):Yl K (Itl K a) xs G:=by
 intro H sg
 have hl:=r.length
 refine ⟨λi hi=>⟨vs,aF sg h,by omega⟩,λi hi=>?_⟩
 obtain ⟨v,hv,dv⟩:=r.get (List.getElem?_eq_getElem hi)
 refine ⟨⟨vs,v,aF sg h,hv⟩,λx H' ⟨e1,e2⟩=>?_⟩
 subst e1
 have ex:x=v:=by have:=e2 vs (aF sg h); rw [hv] at this; exact (Option.some.inj this).symm
 subst ex
 exact ⟨ak.refl _,λM _ sv=>dv.mono sv⟩
theorem wa (h:SqT K G a vs) (r:ax K G vs xs):Yl K (Itt K a) xs G:=by
 intro H sg
 have hl:=r.length
 refine ⟨λi hi=>⟨vs,aR sg h,by omega⟩,λi hi=>?_⟩
 obtain ⟨v,hv,dv⟩:=r.get (List.getElem?_eq_getElem hi)
 refine ⟨⟨vs,v,aR sg h,hv⟩,λx H' ⟨e1,e2⟩=>?_⟩
 subst e1
 have ex:x=v:=by have:=e2 vs (aR sg h); rw [hv] at this; exact (Option.some.inj this).symm
 subst ex
 exact ⟨ak.refl _,λM _ sv=>dv.mono sv⟩
noncomputable def fo (lo:Int) (n:Nat):List D:=(List.range n).map λk=>D.int (lo + (k:Nat))
theorem aD (lo:Int) (n:Nat):(fo lo n).length=n:=by simp [fo]
theorem iu (lo:Int) (n i:Nat) (h:i < (fo lo n).length):(fo lo n)[i]=.int (lo + (i:Nat)):=by simp [fo]
theorem qZ (lo:Int) (n:Nat):Yl K (Itr lo n) (fo lo n) G:=by
 intro H sg
 refine ⟨λi hi=>by rw [aD] at hi; exact hi,λi hi=>?_⟩
 have hi':i < n:=by rw [aD] at hi; exact hi
 refine ⟨hi',λx H' ⟨e1,e2⟩=>?_⟩
 subst e1 e2
 refine ⟨ak.refl _,λM _ sv=>?_⟩
 rw [iu]
 exact .int
noncomputable def iQ (xs:List D):List D:=(List.range xs.length).map λi=>D.tup [.int (i:Nat),xs.getD i .non]
theorem eo (xs:List D):(iQ xs).length=xs.length:=by simp [iQ]
theorem oU (xs:List D) (i:Nat) (h:i < (iQ xs).length):(iQ xs)[i]=.tup [.int (i:Nat),xs.getD i .non]:=by simp [iQ]
theorem wB (h:SqL K G a vs) (r:ax K G vs xs):Yl K (Ite K a) (iQ xs) G:=by
 intro H sg
 have hl:=r.length
 have el:=eo xs
 refine ⟨λi hi=>⟨vs,aF sg h,by omega⟩,λi hi=>?_⟩
 have hi':i < xs.length:=by omega
 obtain ⟨v,hv,dv⟩:=r.get (List.getElem?_eq_getElem hi')
 refine ⟨⟨vs,v,aF sg h,hv⟩,λy H' ⟨p,x,hp,e0,e1,e2⟩=>?_⟩
 subst e0 e1
 have ex:x=v:=by have:=e2 vs (aF sg h); rw [hv] at this; exact (Option.some.inj this).symm
 subst ex
 refine ⟨au hp _,λM hM sv=>?_⟩
 rw [oU,show xs.getD i .non=xs[i] by simp [List.getD,hi']]
 exact .tup (SqT.of (kI hM hp)) (.cons .int (.cons (dv.mono (sv.trans (av (au hp _) λ_ z=>z))) .nil))
end
section
variable {X:Cx} {C:Bool} {τ:List Sl} {x y z:D} {a b e c tg it:Expr} {es:List Expr} {pos p q:Pos} {k:Nat} {s:Sl} {xs:List D} {N:Po} {st:Stmt} {rest body els:List Stmt}
theorem bL (h:PE X it (dE X.K true τ (.d (.lst xs)))) (hc:X.calm=true:=by first | rfl | assumption):PI X tg it (dI X.K τ xs):=piW (ug hc h) λσ H R ⟨A,H₀,B,S,k⟩=>aH S λv H1 e1 d1=>by
 cases d1 with
 | lst h r=>exact ⟨_,rfl,⟨_,aF aN h⟩,k _ H1 e1 (u0 h r)⟩
theorem yQ (h:PE X it (dE X.K true τ (.d (.tup xs)))) (hc:X.calm=true:=by first | rfl | assumption):PI X tg it (dI X.K τ xs):=piW (xI hc h) λσ H R ⟨A,H₀,B,S,k⟩=>aH S λv H1 e1 d1=>by
 cases d1 with
 | tup h r=>exact ⟨_,rfl,⟨_,aR aN h⟩,k _ H1 e1 (wa h r)⟩
theorem cW {n:Int} (B:Bk X k) (h:PE X a (dE X.K false τ (.d (.int n)))) (h1:-(2 ^ 62)<=n) (h2:n < 2 ^ 62) (hg:Gl X "range":=by rfl) (hs:starEach [a] X.env=[(false,eval a X.env)]:=by rfl):PI X tg (.Call (.Name "range" p) [a] [] pos) (dI X.K τ (fo 0 n.toNat)):=
 piW (qG (.inl B.calm) hg (B.blt _ (by decide)) (ae h ag hs) hs) λσ H R ⟨A,H₀,B,S,k⟩=>cF S λvs H1 e1 d1=>by
   cases d1 with
   | cons d r=>
     cases r
     cases d
     exact ⟨n,rfl,h1,h2,k _ H1 e1 (qZ 0 _)⟩
theorem tU {m n:Int} (B:Bk X k) (h:PE X a (dE X.K false τ (.d (.int m)))) (h':PE X b (dE X.K false τ (.d (.int n)))) (h1:-(2 ^ 62)<=m/\m < 2 ^ 62/\-(2 ^ 62)<=n/\n < 2 ^ 62) (hg:Gl X "range":=by rfl) (hs:starEach [a,b] X.env=[(false,eval a X.env),(false,eval b X.env)]:=by rfl)
   (hs2:starEach [b] X.env=[(false,eval b X.env)]:=by rfl):PI X tg (.Call (.Name "range" p) [a,b] [] pos) (dI X.K τ (fo m (n - m).toNat)):=
 piW (pV (.inl B.calm) hg (B.blt _ (by decide)) (ae h (ae h' ag hs2) (by rw [hs,hs2])) hs hs2) λσ H R ⟨A,H₀,B,S,k⟩=>cF S λvs H1 e1 d1=>by
   cases d1 with
   | cons d r=>
     cases r with
     | cons d' r=>
       cases r
       cases d
       cases d'
       exact ⟨m,n,rfl,h1,k _ H1 e1 (qZ m _)⟩
theorem vY {ts:List Expr} {m:Nat} {tp:Pos} (B:Bk X k) (h:PE X a (dE X.K true τ (.d (.lst xs)))) (hg:Gl X "enumerate":=by rfl) (hs:starEach [a] X.env=[(false,eval a X.env)]:=by rfl):PI X (.Tuple ts m tp) (.Call (.Name "enumerate" p) [a] [] pos) (dI X.K τ (iQ xs)):=
 piW (pj B.calm hg (B.blt _ (by decide)) (ae h ag hs) hs) λσ H R ⟨A,H₀,B,S,k⟩=>cF S λvs H1 e1 d1=>by
   cases d1 with
   | cons d r=>
     cases r
     cases d with
     | lst h r=>exact ⟨_,rfl,⟨_,aF aN h⟩,k _ H1 e1 (wB h r)⟩
theorem vk (i:Nat) {n:Str} (hN:X.N.Nodup) (hi:X.N[i]?=some n:=by rfl) (hx:Loc X.env.scope n:=by first | exact .inl rfl | exact .inr rfl) (hf:X.fn n=true\/X.env.scope.names.lookup n=some .local:=by first | exact .inl rfl | exact .inr rfl | assumption):PG X (.Name n p) (dG X.K τ x (τ.set i (.d x))):=
 pgW (gf (i:=i) hN hi hx hf) λv σ H Q ⟨A,H₀,B,S,d,k⟩=>k _ _ (S.set (ak.refl _) (bs:=[]) (λ_ z=>nomatch z) (gy d))
theorem vC (i j:Nat) {n m:Str} {p2 pt:Pos} {md:Nat} (hc:X.calm=true) (hN:X.N.Nodup) (hi:X.N[i]?=some n:=by rfl) (hj:X.N[j]?=some m:=by rfl) (hx:Loc X.env.scope n:=by first | exact .inl rfl | exact .inr rfl) (hy:Loc X.env.scope m:=by first | exact .inl rfl | exact .inr rfl)
   (hf:X.fn n=true\/X.env.scope.names.lookup n=some .local:=by first | exact .inl rfl | exact .inr rfl | assumption) (hf':X.fn m=true\/X.env.scope.names.lookup m=some .local:=by first | exact .inl rfl | exact .inr rfl | assumption) :
   PG X (.Tuple [.Name n p,.Name m p2] md pt) (dG X.K τ (.tup [x,y]) ((τ.set i (.d x)).set j (.d y))):=by
 refine pgW (rL hc (iH (gf (i:=i) hN hi hx hf) (iH (gf (i:=j) hN hj hy hf') pE))) λv σ H Q ⟨A,H₀,B,S,d,k⟩=>?_
 cases d with
 | tup h r=>
   cases r with
   | cons d1 r=>
     cases r with
     | cons d2 r=>
       cases r
       have S1:=S.set (i:=i) (ak.refl _) (bs:=[]) (λ_ z=>nomatch z) (gy d1)
       have sub:∀ b,own A (upB B i []) b->own A B b:=λb z=>z.elim .inl λ⟨j,z⟩=>(a5 z).elim (λz=>nomatch z.2) λz=>.inr ⟨j,z.2⟩
       exact ⟨_,_,rfl,aR aN h,rfl,_,_,rfl,_,_,rfl,rfl,k _ _ (S1.set (i:=j) (ak.refl _) (bs:=[]) (λ_ z=>nomatch z) (gy (d2.mono (av (ak.refl _) sub))))⟩
theorem Sta.base {K:PySem.W.Frag} {A:Addr->Prop} {H₀ H:Hp} {τ:List Sl} {B:Nat->List Addr} {σ:L2.St} (S:Sta K A H₀ τ B σ H):ak H₀ (hd H λb=>∃ i,b ∈ B i)/\Sta K A (hd H λb=>∃ i,b ∈ B i) τ B σ H:=by
 have s0:ak H₀ (hd H λb=>∃ i,b ∈ B i):=λb o h=>ao.mpr ⟨λ⟨i,z⟩=>(by rw [S.fr i b z] at h; cases h),S.same _ _ h⟩
 exact ⟨s0,aN,S.len,S.sl,λi b hb=>by
   cases e:hd H (λb=>∃ i,b ∈ B i) b with
   | none=>rfl
   | some o=>exact absurd ⟨i,hb⟩ (ao.mp e).1,S.uq,λb hb=>let ⟨o,q⟩:=S.ad b hb; ⟨o,s0 _ _ q⟩,S.bd⟩
theorem Sta.back {K:PySem.W.Frag} {A:Addr->Prop} {H₀ G H:Hp} {τ:List Sl} {B:Nat->List Addr} {σ:L2.St} (S:Sta K A G τ B σ H) (s:ak H₀ G) (ad:∀ b,A b->∃ o,H₀ b=some o):Sta K A H₀ τ B σ H:=
 ⟨s.trans S.same,S.len,S.sl,λi b hb=>s.free (S.fr i b hb),S.uq,ad,S.bd⟩
theorem sE {M:Nat->List Sl->Prop} {T:Nat->List Sl->List Sl} (B:Bk X k) (hi:PI X tg it (dI X.K τ xs)) (h0:M 0 τ) (hg:∀ i (h:i < xs.length) τ',M i τ'->PG X tg (dG X.K τ' xs[i] (T i τ')))
   (hb:∀ i,i < xs.length->∀ τ',M i τ'->PSs X body (dS X.K (T i τ') { N with nx:=M (i + 1),ct:=M (i + 1),bk:=N.nx })) (hn:∀ τ',M xs.length τ'->N.nx τ')
   (hs:∀ x,foldedSetIterable it X.env x=pure x:=by intro _; rfl):PS X (.For tg it body [] pos) (dS X.K τ N):=by
 have hg':PG X tg λv σ H Q=>∃ (i:Nat) (h:i < xs.length) (τ':List Sl),M i τ'/\dG X.K τ' xs[i] (T i τ') v σ H Q:=λpins s σ H v u Q I r ⟨i,h,τ',m,q⟩=>hg i h τ' m pins s σ H v u Q I r q
 have hb':PSs X body λD σ H=>∃ i τ',i < xs.length/\M i τ'/\dS X.K (T i τ') { N with nx:=M (i + 1),ct:=M (i + 1),bk:=N.nx } D σ H:=λpins s σ H D I ⟨i,τ',h,m,q⟩=>hb i h τ' m pins s σ H D I q
 refine psW (xw B.po hi hg' hb' hs) λD σ H ⟨A,H₀,B,S,Me⟩=>⟨A,H₀,B,S,λJ H1 e1 yl=>?_⟩
 obtain ⟨s0,S1⟩:=(S.mono e1).base
 have sub:∀ {H'},ak (hd H1 λb=>∃ i,b ∈ B i) H'->ak (hd H1 (own A B)) H':=λe=>(av (ak.refl _) λ_ z=>.inr z).trans e
 refine ⟨λi m σ' H'=>m=xs.length - i/\i<=xs.length/\∃ τ' B',M i τ'/\Sta X.K A (hd H1 λb=>∃ i,b ∈ B i) τ' B' σ' H',⟨xs.length,rfl,Nat.zero_le _,τ,B,h0,S1⟩,?_⟩
 rintro i m σ' H' ⟨rfl,hi,τ',B',hM,S'⟩
 obtain ⟨y1,y2⟩:=yl H' (sub S'.same)
 by_cases hlt:i < xs.length
 · obtain ⟨g,y⟩:=y2 i hlt
   refine .inr ⟨g,λσ2 H2=>∃ τ2 B2,M (i + 1) τ2/\Sta X.K A (hd H1 λb=>∃ i,b ∈ B i) τ2 B2 σ2 H2,λσ2 H2 q=>⟨xs.length - (i + 1),by omega,rfl,hlt,q⟩,λx H2 hy=>?_⟩
   obtain ⟨e2,dx⟩:=y x H2 hy
   have S2:=S'.mono e2
   refine ⟨i,hlt,τ',hM,A,_,B',S2,dx (own A B') S'.dm ?_,λσ3 B3 S3=>⟨i,τ',hlt,hM,A,_,B3,S3,?_⟩⟩
   · intro b o z
     obtain ⟨z1,z2⟩:=ao.mp z
     have z3:hd H1 (λb=>∃ i,b ∈ B i) b=some o:=ao.mpr ⟨λy=>z1 (.inr y),z2⟩
     refine ao.mpr ⟨λy=>?_,S'.same _ _ z3⟩
     rcases y with y | ⟨l,y⟩
     · exact z1 (.inl y)
     · rw [S'.fr l b y] at z3; cases z3
   · exact ⟨λτ3 B3 σ3 H3 m S3=>⟨τ3,B3,m,S3⟩,λτ3 B3 σ3 H3 m S3=>Me.nx τ3 B3 σ3 H3 m (S3.back s0 S.ad),λτ3 B3 σ3 H3 m S3=>⟨τ3,B3,m,S3⟩,
       λv H3 bs s3 hr e3 hf q=>Me.rt v H3 bs s3 hr (s0.trans e3) (λb hb=>⟨s0.free (hf b hb).1,(hf b hb).2⟩) q,λH3 e3=>Me.xc H3 (s0.trans e3)⟩
 · have e:i=xs.length:=by omega
   subst e
   exact .inl ⟨y1 _ (Nat.le_refl _),Me.nx τ' B' σ' H' (hn τ' hM) (S'.back s0 S.ad)⟩
theorem fA (j:Nat) {n:Str} (M:Nat->List Sl->Prop) {g:Nat->D} (B:Bk X k) (hN:X.N.Nodup) (hi:PI X (.Name n p) it (dI X.K τ xs)) (hx:∀ i (h:i < xs.length),xs[i]=g i) (h0:M 0 τ)
   (hb:∀ i,i < xs.length->∀ τ',M i τ'->PSs X body (dS X.K (τ'.set j (.d (g i))) { N with nx:=M (i + 1),ct:=M (i + 1),bk:=λ_=>False }))
   (hr:∀ τ',M xs.length τ'->PSs X rest (dS X.K τ' N)) (hs:∀ x,foldedSetIterable it X.env x=pure x:=by intro _; rfl) (hi':X.N[j]?=some n:=by rfl) (hl:Loc X.env.scope n:=by first | exact .inl rfl | exact .inr rfl)
   (hf:X.fn n=true\/X.env.scope.names.lookup n=some .local:=by first | exact .inl rfl | exact .inr rfl | assumption):PSs X (.For (.Name n p) it body [] pos :: rest) (dS X.K τ N):=
 ba (M:=M xs.length) (sE (M:=M) (T:=λi τ'=>τ'.set j (.d (g i))) B hi h0 (λi h τ' m=>by rw [hx i h]; exact vk j hN hi' hl hf)
   (λi h τ' m=>p8 (hb i h τ' m) λD σ H ⟨A,H₀,B,S,Me⟩=>⟨A,H₀,B,S,Me.nx,λ_ _ _ _ z=>z.elim,Me.ct,Me.rt,Me.xc⟩) (λ_ m=>m) hs) hr
theorem tY (j l:Nat) {n m:Str} {p2 pt:Pos} {md:Nat} (M:Nat->List Sl->Prop) {g g':Nat->D} (B:Bk X k) (hN:X.N.Nodup) (hi:PI X (.Tuple [.Name n p,.Name m p2] md pt) it (dI X.K τ xs)) (hx:∀ i (h:i < xs.length),xs[i]=.tup [g i,g' i]) (h0:M 0 τ)
   (hb:∀ i,i < xs.length->∀ τ',M i τ'->PSs X body (dS X.K ((τ'.set j (.d (g i))).set l (.d (g' i))) { N with nx:=M (i + 1),ct:=M (i + 1),bk:=λ_=>False }))
   (hr:∀ τ',M xs.length τ'->PSs X rest (dS X.K τ' N)) (hs:∀ x,foldedSetIterable it X.env x=pure x:=by intro _; rfl) (hi':X.N[j]?=some n:=by rfl) (hj':X.N[l]?=some m:=by rfl) (hl:Loc X.env.scope n:=by first | exact .inl rfl | exact .inr rfl) (hl':Loc X.env.scope m:=by first | exact .inl rfl | exact .inr rfl)
   (hf:X.fn n=true\/X.env.scope.names.lookup n=some .local:=by first | exact .inl rfl | exact .inr rfl | assumption) (hf':X.fn m=true\/X.env.scope.names.lookup m=some .local:=by first | exact .inl rfl | exact .inr rfl | assumption):PSs X (.For (.Tuple [.Name n p,.Name m p2] md pt) it body [] pos :: rest) (dS X.K τ N):=
 ba (M:=M xs.length) (sE (M:=M) (T:=λi τ'=>(τ'.set j (.d (g i))).set l (.d (g' i))) B hi h0 (λi h τ' m=>by rw [hx i h]; exact vC j l B.calm hN hi' hj' hl hl' hf hf')
   (λi h τ' m=>p8 (hb i h τ' m) λD σ H ⟨A,H₀,B,S,Me⟩=>⟨A,H₀,B,S,Me.nx,λ_ _ _ _ z=>z.elim,Me.ct,Me.rt,Me.xc⟩) (λ_ m=>m) hs) hr
theorem cU {n:Nat} (i:Nat) (h:i < (fo 0 n).length):(fo 0 n)[i]=.int (i:Nat):=by rw [iu,Int.zero_add]
theorem j0 {bs:List Int} (i:Nat) (h:i < (bs.map D.int).length):(bs.map D.int)[i]=.int (bs.getD i 0):=by
 have:i < bs.length:=by simpa using h
 simp [this]
theorem vK {bs:List Int} (i:Nat) (h:i < (iQ (bs.map D.int)).length):(iQ (bs.map D.int))[i]=.tup [.int (i:Nat),.int (bs.getD i 0)]:=by
 have:i < bs.length:=by rw [eo] at h; simpa using h
 rw [oU]
 simp [this]
end
end Hy
namespace Ev
open PySem PySem.Spec PyProof.Rows L2
theorem lY {X:Cx} {gT:TG} {y:Str} {py spos:Pos} {elt tg iter:Expr} {ifs:List Expr} {scope:Scope} {N:List Str} {caps:List (Option Nat)} {pos:Pos} {wi:TI} {In:TG->TT->TE->Prop} (hT:PG X (.Name y py) gT) (c:cD X scope N caps) (hi:PI X tg iter wi)
   (hs:∀ x,foldedSetIterable iter X.env x=pure x)
   (hin:∀ g tt te,In g tt te->∀ s H fp,PG (aE X s H scope N fp) tg g/\PTs (aE X s H scope N fp) ifs tt/\PE (aE X s H scope N fp) elt te)
   (hsw:swapsWith (.ListComp elt [⟨tg,iter,ifs,0⟩] scope pos) (some (.Name y py)) spos.line X.env=pure true) :
   PS X (.Assign [.Name y py] (.ListComp elt [⟨tg,iter,ifs,0⟩] scope pos) spos) (xm (cP In caps wi) gT):=by
 intro pins s σ H D I h
 rw [exec_Assign_Name_used _ _ _ _ hsw]
 refine wpAny_bind (wpAny_standAt (wpAny_bind ?_))
 show wpAny _ _ (do let _ <- comprehension (.ListComp elt [⟨tg,iter,ifs,0⟩] scope pos) scope X.env _ (newList []) false _ (some (assign (.Name y py) X.env))) _ _ s
 refine wpAny_bind ?_
 have hcl:=pP (fR I c)
 refine wpAny_comprehension_free (use:=some (assign (.Name y py) X.env)) (Q:=λ_ s'=>wpAny (model X.prog X.w) X.A (pure ()) (λ_ s''=>wpAny (model X.prog X.w) X.A (pure Flow.next) (SP X pins D) X.xe s'') X.xe s') (g:=⟨tg,iter,ifs,0⟩) (gs:=[]) rfl hs hcl c.kind c.loc ?_
 show wpAny _ _ (eval iter X.env) _ _ s
 refine thn (hi pins s σ H _ I h) λv s1 h1=>thn h1 λitv s2 h2=>?_
 obtain ⟨kd,it,fp,tn,J,H2,e,I2,hck,T,st2,f2,g,tt,te,hI,q⟩:=h2
 have hc:=oH (scope:=scope) (N:=N) (fp:=fp) hck I2
 subst e
 obtain ⟨Z,⟨m0,z0⟩,turn⟩:=q s2.heap.objs.size (I2.hok.fresh (Nat.le_refl _))
 have ho:∀ b ∈ fp,∃ o,s2.heap.get? b=some o:=λb hb=>let ⟨o,e,_⟩:=T.obj _ _ st2 b hb; ⟨o,e⟩
 have I4:=lZ (scope:=scope) (N:=N) (caps:=caps) I2 f2 ho c
 obtain ⟨hg,ht,he⟩:=hin g tt te hI s2 H2 fp
 refine wpAny_newObj_type (ka ?_) (by show 0<=sizeLine; decide)
 have hC:(s2.heap.push { cls:=.type "list",dict:=none,data:=.seq ([]:List Value).toArray }).objs.size=s2.heap.objs.size + 1:=Heap.size_push ..
 dsimp only
 rw [hC]
 have kp:∀ b o,s2.heap.get? b=some o->(pushCells ((s2.heap.push { cls:=.type "list",data:=.seq ([]:List Value).toArray }).push { cls:=.type "dict",data:=.dict #[] }) scope.names).get? b=some o:=λb o e=>
   pushCells_keeps _ _ b o (Heap.get?_push_of_some _ (Heap.get?_push_of_some _ e))
 have st4:tn 0 (pushCells ((s2.heap.push { cls:=.type "list",data:=.seq ([]:List Value).toArray }).push { cls:=.type "dict",data:=.dict #[] }) scope.names):=T.keep _ _ _ st2 λb _ o e=>kp b o e
 have stat:∀ {H':Hp},(∀ b ∈ fp,H' b=none)->∀ b ∈ fp,jP (aE X s2 H2 scope N fp) [] H' b:=λhn b hb=>
   ⟨hn b hb,(I4.ok.exf b hb).1,I4.ok.exfs b hb,.inl hb,(I4.ok.exf b hb).2,λp hp=>absurd (show p ∈ ([]:List (Addr × Obj)) from hp) (by simp)⟩
 have fr4:∀ b ∈ fp,(upd H2 s2.heap.objs.size (.lst [])) b=none:=λb hb=>by
   obtain ⟨o,e⟩:=ho b hb
   rw [aq (Nat.ne_of_lt (Heap.lt_size e))]; exact (f2 b hb).1
 have loop:codeAny (model X.prog X.w) X.A (.compLoop (.ListComp elt [⟨tg,iter,ifs,0⟩] scope pos) 0 (.ref it) (.ref s2.heap.objs.size) (aE X s2 H2 scope N fp).env)
     (compPost (model X.prog X.w) X.A X.xe (some (assign (.Name y py) X.env)) (λ_ s'=>wpAny (model X.prog X.w) X.A (pure ()) (λ_ s''=>wpAny (model X.prog X.w) X.A (pure Flow.next) (SP X pins D) X.xe s'') X.xe s') (.ref s2.heap.objs.size) (s2.heap.objs.size + 1))
     { s2 with heap:=pushCells ((s2.heap.push { cls:=.type "list",data:=.seq ([]:List Value).toArray }).push { cls:=.type "dict",data:=.dict #[] }) scope.names }:=by
   refine ja (λn s'=>∃ i σ' H',Inv (aE X s2 H2 scope N fp) [] σ' H' s'/\tn i s'.heap/\(∀ b ∈ fp,H' b=none)/\Z i n σ' H') ?_ m0 ⟨0,_,_,I4,st4,fr4,z0⟩
   rintro n s3 ⟨i,σ3,H3,I3,st3,fr3,w3⟩
   rcases turn i n σ3 H3 w3 with ⟨stop,qn⟩ | ⟨go,step⟩
   · refine thn (T.done (aE X s2 H2 scope N fp) rfl rfl rfl hc i [] s3 σ3 H3 _ I3 (stat fr3) st3 stop) λr s5 ⟨hr,I5⟩=>?_
     subst hr
     obtain ⟨m,hn,_⟩:=id I5.loc
     have I6:Inv X pins σ H3 s5:=by
       have lt:∀ b o,s2.heap.get? b=some o->b ≠ s2.heap.objs.size + 1:=λb o e=>Nat.ne_of_lt (Nat.lt_succ_of_lt (Heap.lt_size e))
       have u:=I5.base
       have u':Un (frs X.stack) fp H2 H3 s2.heap s5.heap:=⟨λb o e n1 n2 n3=>u.keep b o e n1 n2 n3,λb o e n1 n2 n3=>u.slot b o e n1 n2 n3,u.free,λb o e n1=>u.there b o e n1,u.tups,u.frzs,u.tbls⟩
       exact I2.vN (s':=s5) I5.os u' I5.hok I5.bare λb hb=>⟨(f2 b hb).2.2.2.1,(f2 b hb).2.1,(f2 b hb).2.2.2.2.1,(f2 b hb).2.2.2.2.2⟩
     have fC:H3 (s2.heap.objs.size + 1)=none:=I5.free
     have fk:jP X pins H3 (s2.heap.objs.size + 1):=I2.jx (Nat.le_succ _) fC
     obtain ⟨oC,es,ep,hoC,hdC,rC⟩:=id hn
     have hpin:=I6.pinned (fp:=[s2.heap.objs.size + 1]) (λb hb=>by rw [List.mem_singleton.mp hb]; exact fk) (λb hb=>by rw [List.mem_singleton.mp hb]; exact ⟨oC,hoC,λv z=>by rw [hdC] at z; cases z⟩)
     have hmem:(s2.heap.objs.size + 1,oC) ∈ fH [s2.heap.objs.size + 1] s5.heap:=bK (List.mem_singleton_self _) hoC
     refine thn (hT _ s5 σ H3 (.ref s2.heap.objs.size) (.ref s2.heap.objs.size) _ hpin rfl qn) λ_ s6 ⟨σ6,H6,I7,q7⟩=>?_
     obtain ⟨p1,p2,p3,p4,p5⟩:=I7.pin _ (List.mem_append_right _ (List.mem_append_right _ hmem))
     refine ⟨m,⟨oC,es,ep,p1,hdC,rC⟩,λh' sb=>wpAny_pure (wpAny_pure ?_)⟩
     refine ⟨σ6,H6,?_,q7⟩
     exact (I7.cV).turned (t':=s6.toks) (it:=s2.heap.objs.size + 1) (λb o hb e=>(sb.2 b hb).trans e) p2 p3 fk.2.2.2.1 fk.2.2.2.2.1 fk.2.2.2.2.2
   · refine thn (T.item (aE X s2 H2 scope N fp) rfl rfl rfl hc i [] s3 σ3 H3 _ I3 (stat fr3) st3 go) λr s4 ⟨u,hr,h4⟩=>?_
     subst hr
     refine thn h4 λ_ s5 ⟨x,H5,I5,r5,y5,st5,fr5⟩=>?_
     have I5':=I5.pinned (stat fr5) (T.obj _ _ st5)
     refine thn (hg _ s5 σ3 H5 x u _ I5' r5 (step x H5 y5)) λ_ s6 ⟨σ6,H6,I6,q6⟩=>?_
     have again:∀ {s7:Shared} {σ7:L2.St} {H7:Hp} {m':Nat},Inv (aE X s2 H2 scope N fp) ([]++fH fp s5.heap) σ7 H7 s7->m' < n->Z (i + 1) m' σ7 H7 ->
         ∃ m,m < n/\∃ i σ' H',Inv (aE X s2 H2 scope N fp) [] σ' H' s7/\tn i s7.heap/\(∀ b ∈ fp,H' b=none)/\Z i m σ' H':=λ{s7 σ7 H7 m'} I7 hm z7=>by
       refine ⟨m',hm,i + 1,σ7,H7,I7.cV,T.keep _ _ _ st5 λb hb o e=>(I7.pin (b,o) (List.mem_append_right _ (List.mem_append_right _ (bK hb e)))).1,λb hb=>?_,z7⟩
       obtain ⟨o,e,d⟩:=T.obj _ _ st5 b hb
       exact (I7.pin (b,o) (List.mem_append_right _ (List.mem_append_right _ (bK hb e)))).2.1
     refine thn (ht _ s6 σ6 H6 _ I6 q6) λok s7 ⟨H7,I7,q7⟩=>?_
     cases ok with
     | false=>
       rw [if_neg (by decide)] at q7
       obtain ⟨m',hm,z7⟩:=q7
       exact again I7 hm z7
     | true=>
       rw [if_pos rfl] at q7
       refine thn (he _ s7 σ6 H7 _ I7 q7) λv' s8 ⟨v,H8,I8,r8,vs,m',q8,l8,hm,z8⟩=>?_
       refine thn (eZ (X:=aE X s2 H2 scope N fp) _ s8 σ6 H8 (.ref s2.heap.objs.size) [v] (.ref s2.heap.objs.size) [v'] (λ_ H9=>H9=upd H8 s2.heap.objs.size (.lst (vs++[v]))) I8 rfl (.cons r8 .nil) ⟨_,vs,v,rfl,rfl,q8,l8,rfl⟩) λ_ s9 ⟨_,H9,I9,_,e9⟩=>?_
       subst e9
       exact again I9 hm z8
 exact codeAny_compStart_list loop (T.self _ 0 _ _ _ st4 loop)
end Ev
namespace Hy
open PySem PySem.Spec PyProof.Rows L2
open Ev (D Den ax au aR aF aE dR cD PTs bT cP lY)
noncomputable def slot:List Str->Str->Option Nat
 | [],_=>none
 | y :: r,x=>if x=y then some 0 else (slot r x).map (· + 1)
theorem slot_get:∀ {N:List Str} {x:Str} {i:Nat},slot N x=some i->N[i]?=some x
 | [],_,_,h=>by cases h
 | y :: r,x,i,h=>by
   unfold slot at h
   split at h
   · cases h; rename_i e; rw [e]; rfl
   · cases e:slot r x with
     | none=>rw [e] at h; cases h
     | some j=>rw [e] at h; cases h; simpa using slot_get e
noncomputable def sV (scope sc:Scope):Scope:={ scope with names:=scope.names.map λ(n,k)=>if (k == .free && sc.kind == .function && sc.names.lookup n == some .cell) then (n,.cell) else (n,k) }
noncomputable def bNm (scope:Scope):List Str:=(scope.names.filter λp=>(p.2 == .local || p.2 == .cell || p.2 == .free) && p.1 != (".0" : Str)).map (·.1)
noncomputable def bCp (No:List Str) (scope:Scope):List (Option Nat):=(bNm scope).map λx=>if (x,NameKind.free) ∈ scope.names then slot No x else none
noncomputable def bOk (sc scope:Scope):Bool:=
 scope.kind == .function && scope.names.all (λp=>p.2 != .local || scope.names.lookup p.1 == some .local) && scope.names.all (λp=>p.2 != .free || sc.names.lookup p.1 == some .cell)
   && scope.names.all (λp=>p.2 != .free || (!decide ((p.1,NameKind.cell) ∈ scope.names) && !decide ((p.1,NameKind.local) ∈ scope.names))) && decide (bNm scope++[("#" : Str)]).Nodup
   && (sV scope sc).names.all (λp=>p.1 != ("#" : Str))
theorem tW {a b:Bool} (h:(a && b)=true):a=true/\b=true:=by rw [Bool.and_eq_true] at h; exact h
theorem ra {x:Str} {q:NameKind}:∀ {names:List (Str × NameKind)},names.lookup x=some q->(x,q) ∈ names
 | (y,k) :: r,h=>by
   rw [List.lookup_cons] at h
   split at h
   · rename_i e; cases h; rw [eq_of_beq e]; exact List.mem_cons_self ..
   · exact List.mem_cons_of_mem _ (ra h)
theorem ff {X:Cx} {scope:Scope} (h:bOk X.env.scope scope=true):cD X scope (bNm scope++[("#" : Str)]) (bCp X.N scope)/\(bNm scope++[("#" : Str)]).Nodup:=by
 unfold bOk at h
 obtain ⟨h,h6⟩:=tW h
 obtain ⟨h,h5⟩:=tW h
 obtain ⟨h,h4⟩:=tW h
 obtain ⟨h,h3⟩:=tW h
 obtain ⟨h1,h2⟩:=tW h
 rw [List.all_eq_true] at h2 h3 h4 h6
 refine ⟨⟨eq_of_beq h1,λx hx hk=>?_,λx hx hk=>?_,λx hx hm=>?_,λx hx hm=>?_,?_,λj i hj=>?_,?_⟩,of_decide_eq_true h5⟩
 · have:=h2 x hx; rw [hk] at this; simpa using this
 · have:=h3 x hx; rw [hk] at this; show X.env.scope.names.lookup x.1=_; simpa using this
 · have:=h4 _ hx; simp [hm] at this
 · have:=h4 _ hx; simp [hm] at this
 · unfold bCp; rw [List.length_append,List.length_map]; rfl
 · unfold bCp at hj
   rw [List.getElem?_map] at hj
   cases e:(bNm scope)[j]? with
   | none=>rw [e] at hj; cases hj
   | some x=>
     rw [e] at hj
     simp only [Option.map_some,Option.some.injEq] at hj
     split at hj
     · exact ⟨x,by rw [List.getElem?_append_left (List.getElem?_eq_some_iff.mp e).1]; exact e,slot_get hj,by assumption⟩
     · cases hj
 · refine ⟨("#" : Str),?_,λhv=>?_⟩
   · unfold bCp; rw [List.length_map,List.getElem?_append_right (Nat.le_refl _),Nat.sub_self]; rfl
   · have key:∀ q,(sV scope X.env.scope).names.lookup ("#" : Str) ≠ some q:=λq hq=>by
       have:=h6 _ (ra hq)
       simp at this
     rcases hv with hv | hv | hv <;> exact key _ hv
noncomputable abbrev cpX (X:Cx) (s:Shared) (H:Hp) (scope:Scope) (fp:List Addr):Cx:=aE X s H scope (bNm scope++[("#" : Str)]) fp
theorem Bk.comp {X:Cx} {k:Nat} (B:Bk X k) (s:Shared) (H:Hp) (scope:Scope) (fp:List Addr):Bk (cpX X s H scope fp) k:=⟨B.room,B.calm,B.blt,PassesOwn.never⟩
noncomputable def a9 (τ:List Sl) (caps:List (Option Nat)):List Sl:=caps.map λo=>match o with
 | some i=>match τ[i]? with
   | some (.d x)=>.d x
   | _=>.un
 | none=>.un
theorem kQ {X:Cx}:PTs X [] λ_ H Q=>Q true H:=λpins s σ H Q I q=>by
 show wpAny _ _ (pure true) _ _ _
 exact wpAny_pure ⟨H,I,q⟩
section
variable {X:Cx} {C:Bool} {τ:List Sl} {x y z:D} {a b e c tg it elt:Expr} {es ifs:List Expr} {pos p q:Pos} {k:Nat} {xs:List D} {scope:Scope}
structure Cmp (X:Cx) (elt tg it:Expr) (ifs:List Expr) (scope:Scope) (τ:List Sl) (ys:List D):Prop where
 ex:∃ (In:TG->TT->TE->Prop) (caps:List (Option Nat)) (N:List Str) (wi:TI),cD X scope N caps/\PI X tg it wi/\(∀ g tt te,In g tt te->∀ s H fp,PG (aE X s H scope N fp) tg g/\PTs (aE X s H scope N fp) ifs tt/\PE (aE X s H scope N fp) elt te) /\
   ∀ C σ H Q,dE X.K C τ (.o ys) σ H Q->cP In caps wi σ H Q
 hs:∀ x,foldedSetIterable it X.env x=pure x
theorem cH {ys:List D} (h:Cmp X elt tg it ifs scope τ ys):PE X (.ListComp elt [⟨tg,it,ifs,0⟩] scope pos) (dE X.K C τ (.o ys)):=by
 obtain ⟨In,caps,N,wi,h1,h2,h3,h4⟩:=h.ex
 exact peW (bT h1 h2 h.hs h3) (h4 C)
theorem k6 (i:Nat) {n:Str} {p spos:Pos} {rest:List Stmt} {N:Po} {ys:List D} {s:Sl} (hN:X.N.Nodup) (h:Cmp X elt tg it ifs scope τ ys) (hz:s=.o ys\/s=.d (.lst ys)) (hr:PSs X rest (dS X.K (τ.set i s) N)) (hi:X.N[i]?=some n:=by rfl) (hx:Loc X.env.scope n:=by first | exact .inl rfl | exact .inr rfl)
   (hsw:swapsWith (.ListComp elt [⟨tg,it,ifs,0⟩] scope pos) (some (.Name n p)) spos.line X.env=pure true:=by rfl) (hf:X.fn n=true\/X.env.scope.names.lookup n=some .local:=by first | exact .inl rfl | exact .inr rfl | assumption) :
   PSs X (.Assign [.Name n p] (.ListComp elt [⟨tg,it,ifs,0⟩] scope pos) spos :: rest) (dS X.K τ N):=by
 obtain ⟨In,caps,N',wi,h1,h2,h3,h4⟩:=h.ex
 have h5:∀ σ H Q,dE X.K true τ s σ H Q->cP In caps wi σ H Q:=by
   rcases hz with rfl | rfl
   · exact h4 true
   · intro σ H Q q
     obtain ⟨A,H₀,B,S,k⟩:=cO q
     refine h4 true σ H Q ⟨A,H₀,B,S,λv H' bs e hf q=>?_⟩
     obtain ⟨u,e1,d⟩:=q.den (G':=Hy.hd H' (vw true A B)) (av (ak.refl _) λ_ z=>.inl z) (λb hb o ho=>ao.mpr ⟨λz=>(by obtain ⟨_,q⟩:=S.vd (C:=true) b z; rw [(hf b hb).1] at q; cases q),ho⟩) rfl
     cases e1
     exact k v H' e d
 exact ba (M:=(·=τ.set i s)) (psW (lY (gf (i:=i) hN hi hx hf) h1 h2 h.hs h3 hsw) λD σ H ⟨A,H₀,B,S,Me⟩=>h5 _ _ _ ⟨A,H₀,B,S,λv H' bs e hf h=>Me.nx _ _ _ _ rfl (S.set e hf h)⟩) λ_ e=>e ▸ hr
theorem oj {T:Nat->List Sl} {t:Nat->Bool} {f:Nat->D} (hc:bOk X.env.scope scope=true) (hi:PI X tg it (dI X.K τ xs)) (hT:∀ i,(T i).length=(a9 τ (bCp X.N scope)++[Sl.un]).length/\∀ (l:Nat) (x:D),(a9 τ (bCp X.N scope)++[Sl.un])[l]?=some (.d x)->(T i)[l]?=some (.d x))
   (hg:∀ i (h:i < xs.length) s H fp,PG (cpX X s H scope fp) tg (dG X.K (a9 τ (bCp X.N scope)++[Sl.un]) xs[i] (T i)))
   (ht:∀ i,i < xs.length->∀ s H fp,PTs (cpX X s H scope fp) ifs (dT X.K (T i) (t i)))
   (he:∀ i,i < xs.length->t i=true->∀ s H fp,PE (cpX X s H scope fp) elt (dE X.K true (T i) (.d (f i)))) (hl:xs.length < 1000000) (hs:∀ x,foldedSetIterable it X.env x=pure x:=by intro _; rfl) :
   Cmp X elt tg it ifs scope τ (((List.range xs.length).filter t).map f):=by
 obtain ⟨cap,_⟩:=ff hc
 generalize hτ:a9 τ (bCp X.N scope)++[Sl.un]=τb at *
 refine ⟨⟨λg tt te=>g=(λv σ H Q=>∃ (i:Nat) (h:i < xs.length),dG X.K τb xs[i] (T i) v σ H Q)/\tt=(λσ H Q=>∃ i,i < xs.length/\dT X.K (T i) (t i) σ H Q)/\te=(λσ H Q=>∃ i,i < xs.length/\t i=true/\dE X.K true (T i) (.d (f i)) σ H Q),_,_,_,cap,hi,?_,?_⟩,hs⟩
 · rintro g tt te ⟨rfl,rfl,rfl⟩ s H fp
   exact ⟨λpins s' σ H' v u Q I r ⟨i,h,q⟩=>hg i h s H fp pins s' σ H' v u Q I r q,λpins s' σ H' Q I ⟨i,h,q⟩=>ht i h s H fp pins s' σ H' Q I q,λpins s' σ H' Q I ⟨i,h,h',q⟩=>he i h h' s H fp pins s' σ H' Q I q⟩
 rintro C σ H Q ⟨A,H₀,B,S,kk⟩
 refine ⟨A,H₀,B,S,λJ H1 e1 yl=>⟨_,_,_,⟨rfl,rfl,rfl⟩,λD hD=>?_⟩⟩
 have S1:=S.mono e1
 have nD:¬ own A B D:=λz=>by obtain ⟨o,q⟩:=S1.dm D z; rw [hD] at q; cases q
 have noN:∀ (l:Nat) (t:Nd),τb[l]?=some (.n t)->0 ≠ 0:=λl t h=>by
   exfalso
   rw [<- hτ] at h
   have:=List.mem_of_getElem? h
   rcases List.mem_append.mp this with z | z
   · unfold a9 at z
     obtain ⟨o,_,ho⟩:=List.mem_map.mp z
     split at ho
     · split at ho <;> cases ho
     · cases ho
   · cases List.mem_singleton.mp z
 have noW:∀ (l:Nat) (t:Wx),τb[l]?=some (.w t)->0 ≠ 0:=λl t h=>by
   exfalso
   rw [<- hτ] at h
   have:=List.mem_of_getElem? h
   rcases List.mem_append.mp this with z | z
   · unfold a9 at z
     obtain ⟨o,_,ho⟩:=List.mem_map.mp z
     split at ho
     · split at ho <;> cases ho
     · cases ho
   · cases List.mem_singleton.mp z
 have slots:∀ {σ':L2.St} {H':Hp},ak H1 H'->(∃ o,H' D=some o)->σ'.length=τb.length->(∀ (l:Nat) (s:Sl),τb[l]?=some s->bJ X.K (hd H' λb=>own A B b\/b=D) H' (σ'[l]?).join [] s)->Sta X.K (λb=>own A B b\/b=D) H' τb (λ_=>[]) σ' H':=λ{σ' H'} e1 e2 e3 e4=>
   ⟨ak.refl _,e3,λl s h=>(e4 l s h).mono (av (ak.refl _) λ_ z=>z.elim id λ⟨_,z⟩=>(nomatch z)) (ak.refl _),λ_ _ z=>(nomatch z),λ_ _ _ z=>(nomatch z),λb z=>z.elim (λz=>let ⟨o,q⟩:=S1.dm b z; ⟨o,e1 _ _ q⟩) λz=>z ▸ e2,λ_ _ z=>(nomatch z)⟩
 refine ⟨λi m σ' H'=>m=xs.length - i/\i<=xs.length/\ak H1 H'/\(∃ vs,H' D=some (.lst vs)/\vs.length<=i/\ax X.K (hd H' λb=>own A B b\/b=D) vs (((List.range i).filter t).map f)) /\
   σ'.length=τb.length/\∀ (l:Nat) (s:Sl),τb[l]?=some s->bJ X.K (hd H' λb=>own A B b\/b=D) H' (σ'[l]?).join [] s,⟨xs.length,rfl,Nat.zero_le _,au hD _,⟨[],aA,Nat.le_refl _,.nil⟩,?_,λl s h=>?_⟩,?_⟩
 · rw [<- hτ]; unfold dR a9; rw [List.length_append,List.length_append,List.length_map,List.length_map]; rfl
 · have hv:ak (hd H (own A B)) (hd (upd H1 D (.lst [])) λb=>own A B b\/b=D):=λb o z=>by
     obtain ⟨z1,z2⟩:=ao.mp z
     have z2:=e1 _ _ z2
     have ne:b ≠ D:=λz=>by rw [z,hD] at z2; cases z2
     exact ao.mpr ⟨λy=>y.elim z1 ne,by rw [aq ne]; exact z2⟩
   cases s with
   | un=>rfl
   | d x=>
     rw [<- hτ] at h
     have hlt:l < (bCp X.N scope).length:=by
       rcases Nat.lt_or_ge l (bCp X.N scope).length with h' | h'
       · exact h'
       · exfalso
         rw [List.getElem?_append_right (by unfold a9; rw [List.length_map]; exact h')] at h
         cases e:l - (a9 τ (bCp X.N scope)).length with
         | zero=>rw [e] at h; cases h
         | succ n=>rw [e] at h; cases h
     rw [List.getElem?_append_left (by unfold a9; rw [List.length_map]; exact hlt)] at h
     rw [List.getElem?_append_left (by unfold dR; rw [List.length_map]; exact hlt)]
     unfold a9 at h
     unfold dR
     rw [List.getElem?_map] at h ⊢
     cases e:(bCp X.N scope)[l]? with
     | none=>rw [e] at h; cases h
     | some o=>
       rw [e] at h
       cases o with
       | none=>cases h
       | some i=>
         simp only [Option.map_some,Option.some.injEq] at h
         split at h
         · rename_i x' hx'
           cases h
           obtain ⟨_,u,eu,d⟩:=S.sl i _ hx'
           exact ⟨rfl,u,by simpa using eu,d.mono hv⟩
         · cases h
   | o xs'=>
     exfalso
     rw [<- hτ] at h
     have:=List.mem_of_getElem? h
     rcases List.mem_append.mp this with z | z
     · unfold a9 at z
       obtain ⟨o,_,ho⟩:=List.mem_map.mp z
       split at ho
       · split at ho <;> cases ho
       · cases ho
     · cases List.mem_singleton.mp z
   | n t'=>
     exfalso
     rw [<- hτ] at h
     have:=List.mem_of_getElem? h
     rcases List.mem_append.mp this with z | z
     · unfold a9 at z
       obtain ⟨o,_,ho⟩:=List.mem_map.mp z
       split at ho
       · split at ho <;> cases ho
       · cases ho
     · cases List.mem_singleton.mp z
   | x E'=>
     exfalso
     rw [<- hτ] at h
     have:=List.mem_of_getElem? h
     rcases List.mem_append.mp this with z | z
     · unfold a9 at z
       obtain ⟨o,_,ho⟩:=List.mem_map.mp z
       split at ho
       · split at ho <;> cases ho
       · cases ho
     · cases List.mem_singleton.mp z
   | w W'=>
     exfalso
     rw [<- hτ] at h
     have:=List.mem_of_getElem? h
     rcases List.mem_append.mp this with z | z
     · unfold a9 at z
       obtain ⟨o,_,ho⟩:=List.mem_map.mp z
       split at ho
       · split at ho <;> cases ho
       · cases ho
     · cases List.mem_singleton.mp z
 rintro i m σ' H' ⟨rfl,hi,e2,⟨vs,hv1,hv2,hv3⟩,hlen,hsl⟩
 obtain ⟨y1,y2⟩:=yl H' (aN.trans e2)
 by_cases hlt:i < xs.length
 · obtain ⟨g,y⟩:=y2 i hlt
   refine .inr ⟨g,λx H2 hy=>?_⟩
   obtain ⟨e3,dx⟩:=y x H2 hy
   have S2:Sta X.K (λb=>own A B b\/b=D) H' τb (λ_=>[]) σ' H':=slots e2 ⟨_,hv1⟩ hlen hsl
   have o0:∀ b,own (λb=>own A B b\/b=D) (λ_=>([]:List Addr)) b->own A B b\/b=D:=λb z=>z.elim id λ⟨_,z⟩=>(nomatch z)
   have dx':=dx _ S2.dm (λb o z=>by
     obtain ⟨z1,z2⟩:=ao.mp z
     exact ao.mpr ⟨λy=>(o0 b y).elim z1 λy=>(by rw [y,hD] at z2; cases z2),e2 _ _ z2⟩)
   refine ⟨i,hlt,_,_,_,S2.mono e3,dx',λσ2 B2 S3=>?_⟩
   have hB2:∀ j b,b ∈ B2 j->b ≠ D:=λj b hb z=>by
     have:=S3.fr j b hb
     rw [z,hv1] at this
     cases this
   have back:∀ {H5:Hp},ak H2 H5->σ2.length=τb.length/\∀ (l:Nat) (s:Sl),τb[l]?=some s->bJ X.K (hd H5 λb=>own A B b\/b=D) H5 (σ2[l]?).join [] s:=λ{H5} e5=>by
     refine ⟨S3.len.trans (hT i).1,λl s h=>?_⟩
     cases s with
     | un=>rfl
     | d x=>
       obtain ⟨_,u,eu,d⟩:=S3.sl l _ ((hT i).2 l x h)
       exact ⟨rfl,u,eu,d.mono (av e5 λ_ z=>.inl z)⟩
     | o xs'=>exact absurd (hsl l _ h) (λ⟨_,_,z,_⟩=>(nomatch z))
     | n t'=>exact absurd rfl (noN l t' h)
     | x E'=>exact absurd (hsl l _ h) (λ⟨_,_,z,_⟩=>(nomatch z))
     | w W'=>exact absurd rfl (noW l W' h)
   refine ⟨i,hlt,_,_,_,S3,λH4 e4=>?_⟩
   cases ht:t i with
   | false=>
     rw [if_neg Bool.false_ne_true]
     obtain ⟨b1,b2⟩:=back e4
     refine ⟨xs.length - (i + 1),by omega,rfl,hlt,e2.trans (e3.trans e4),⟨vs,e4 _ _ (e3 _ _ hv1),by omega,?_⟩,b1,b2⟩
     rw [List.range_succ,List.filter_append,List.map_append,List.filter_cons,ht]
     simpa using hv3.mono (av (e3.trans e4) λ_ z=>z)
   | true=>
     rw [if_pos rfl]
     refine ⟨i,hlt,ht,aH (S3.mono e4) λv H5 e5 d5=>?_⟩
     have e6:=e3.trans (e4.trans e5)
     have hv5:=e6 _ _ hv1
     refine ⟨vs,xs.length - (i + 1),hv5,Nat.lt_trans (Nat.lt_of_le_of_lt hv2 (Nat.lt_trans hlt hl)) (by decide),by omega,rfl,hlt,?_,?_⟩
     · intro b o z
       have ne:b ≠ D:=λy=>by rw [y,hD] at z; cases z
       rw [aq ne]
       exact e6 _ _ (e2 _ _ z)
     have sm:ak (hd H5 λb=>own A B b\/b=D) (hd (upd H5 D (.lst (vs++[v]))) λb=>own A B b\/b=D):=λb o z=>by
       obtain ⟨z1,z2⟩:=ao.mp z
       exact ao.mpr ⟨z1,by rw [aq λy=>z1 (.inr y)]; exact z2⟩
     obtain ⟨b1,b2⟩:=back (e4.trans e5)
     refine ⟨⟨vs++[v],aA,by rw [List.length_append]; exact Nat.succ_le_succ hv2,?_⟩,b1,λl s h=>?_⟩
     · rw [List.range_succ,List.filter_append,List.map_append,List.filter_cons,ht,if_pos rfl]
       refine ax.append (hv3.mono ((av e6 λ_ z=>z).trans sm)) (.cons (d5.mono ((av (ak.refl _) λ_ z=>.inl z).trans sm)) .nil)
     · cases s with
       | un=>rfl
       | d x=>obtain ⟨z1,u,eu,d⟩:=b2 l _ h; exact ⟨z1,u,eu,d.mono sm⟩
       | o xs'=>exact absurd (hsl l _ h) (λ⟨_,_,z,_⟩=>(nomatch z))
       | n t'=>exact absurd rfl (noN l t' h)
       | x E'=>exact absurd (hsl l _ h) (λ⟨_,_,z,_⟩=>(nomatch z))
       | w W'=>exact absurd rfl (noW l W' h)
 · have e:i=xs.length:=by omega
   subst e
   refine .inl ⟨y1 _ (Nat.le_refl _),kk _ _ [D] (e1.trans e2) (λb hb=>?_) ⟨D,vs,rfl,rfl,hv1,hv3.mono (av (ak.refl _) λb z=>z.elim (λz=>.inl (iM z)) λz=>.inr (List.mem_singleton.mp z))⟩⟩
   obtain rfl:=List.mem_singleton.mp hb
   exact ⟨e1.free hD,_,hv1⟩
theorem cmp (j:Nat) {n:Str} {g f:Nat->D} (B:Bk X k) (hi:PI X (.Name n p) it (dI X.K τ xs)) (hx:∀ i (h:i < xs.length),xs[i]=g i) (hl:xs.length < 1000000)
   (he:∀ i,i < xs.length->∀ s H fp,PE (cpX X s H scope fp) elt (dE X.K true ((a9 τ (bCp X.N scope)++[Sl.un]).set j (.d (g i))) (.d (f i))))
   (hc:bOk X.env.scope scope=true:=by kernel_rfl) (hu:(a9 τ (bCp X.N scope)++[Sl.un])[j]?=some .un:=by rfl) (hN:(bNm scope++[("#" : Str)])[j]?=some n:=by rfl) (hv:∀ s H fp,Loc (cpX X s H scope fp).env.scope n:=by intro _ _ _; first | exact .inl rfl | exact .inr rfl)
   (hf:∀ s H fp,(cpX X s H scope fp).fn n=true\/(cpX X s H scope fp).env.scope.names.lookup n=some .local:=by intro _ _ _; first | exact .inr rfl | exact .inl rfl) (hs:∀ x,foldedSetIterable it X.env x=pure x:=by intro _; rfl) :
   Cmp X elt (.Name n p) it [] scope τ ((List.range xs.length).map f):=by
 have h:=oj (T:=λi=>(a9 τ (bCp X.N scope)++[Sl.un]).set j (.d (g i))) (t:=λ_=>true) (f:=f) (elt:=elt) (ifs:=[]) hc hi (λi=>⟨List.length_set,λl x h=>?_⟩) (λi h s H fp=>?_) (λi h s H fp=>?_) (λi h _ s H fp=>he i h s H fp) hl hs
 · rwa [List.filter_eq_self.mpr λ_ _=>rfl] at h
 · rw [List.getElem?_set_ne (λz=>by rw [<- z,hu] at h; cases h)]
   exact h
 · rw [hx i h]
   exact vk j (ff hc).2 hN (hv s H fp) (hf s H fp)
 · exact λpins s' σ H' Q I ⟨A,H₀,B,S,q⟩=>kQ pins s' σ H' Q I (q H' (ak.refl _))
end
section
variable {P:Program} {w:World} {K:PySem.W.Frag} {mg:Str->Option Value} {base:Heap}
noncomputable def w8 (N:List Str) (ds:List D):List Sl:=ds.map .d++List.replicate (N.length - ds.length) .un
noncomputable abbrev Xc (P:Program) (w:World) (K:PySem.W.Frag) (mg:Str->Option Value) (base:Heap) (N:List Str) (qual:Str) (st:Stmt) (f:Addr) (cdv:Value) (A:Around) (outer:List Env) (s:Shared) (H:Hp) (E:XK):Cx:=(m6 CX0 P w K mg base N qual (ah st) f cdv A outer s H E).nox
theorem fnD {x qual:Str} {st:Stmt} {f:Addr} {fd:FuncData} {N ps:List Str} {k:Nat} {Φ:List D->Sl->Prop} (F:Fun K x qual st f fd) (S:ar N ps (ah st)) (hb:∀ x ∈ aj,mg x=none) (len:∀ ds r,Φ ds r->ds.length=ps.length)
   (body:∀ ds r,Φ ds r->∀ cdv A outer s H E,Bk (Xc P w K mg base N qual st f cdv A outer s H E) k->PSs (Xc P w K mg base N qual st f cdv A outer s H E) (aW st) (dS K (w8 N ds) { nx:=λ_=>r=.d .non,rt:=λr'=>r'=r })) :
   aG P w K mg base CX0 (k + 1) f fd ps (spD K Φ):=by
 refine F.ok S (λvs H Q E ⟨A,ds,r,_,d,h,_⟩=>d.length.trans (len ds r h)) λcdv A outer s H vs Q E hr ⟨A',ds,r,ha,d,h,q⟩=>⟨_,body ds r h cdv A outer s H E ⟨hr,rfl,hb,PassesOwn.never⟩,A',H,λ_=>[],⟨ak.refl _,?_,λi s hi=>?_,λ_ _ z=>(nomatch z),λ_ _ _ z=>(nomatch z),ha,λ_ _ z=>(nomatch z)⟩,λτ B σ H' h S=>?_,λ_ _ _ _ h=>h.elim,λ_ _ _ _ h=>h.elim,λv H' bs s h e hf z=>?_,λ_ _=>trivial⟩
 · unfold L2.start w8
   simp [d.length]
 · have hl:=d.length
   unfold w8 at hi
   unfold L2.start
   by_cases hlt:i < ds.length
   · rw [List.getElem?_append_left (by simpa using hlt),List.getElem?_map,List.getElem?_eq_getElem hlt] at hi
     cases hi
     obtain ⟨v,e,dv⟩:=d.get (List.getElem?_eq_getElem hlt)
     refine ⟨rfl,v,?_,dv.mono (av (ak.refl _) λ_ z=>z.elim id λ⟨_,z⟩=>(nomatch z))⟩
     rw [List.getElem?_append_left (by simpa [hl] using hlt),List.getElem?_map,e]
     rfl
   · rw [List.getElem?_append_right (by simpa using hlt),List.getElem?_replicate] at hi
     split at hi
     · cases hi; rfl
     · cases hi
 · obtain rfl:=(h:r=_)
   exact q .non H' [] S.same cN (gy .non)
 · obtain rfl:=(h:s=r)
   exact q v H' bs e hf z
theorem uw {K:PySem.W.Frag} {Φ:List D->Sl->Prop} (hΦ:∀ ns:List Int,ns.length<=63->Φ [.lst (ns.map .int)] (.d (.bl true))) (H:Hp) (a:Addr) (ns:List Int) (hl:ns.length<=63) (hS:SqL K H a (ns.map V.int)):spD K Φ [.ref a] H (λv _=>v=.bl true) λ_ _ _=>False:=by
 have hh:hd H (λ_=>False)=H:=by funext b; unfold hd; rw [if_neg id]
 refine ⟨λ_=>False,_,_,λ_ z=>z.elim,.cons (.lst (vs:=ns.map V.int) (by rw [hh]; exact hS) ?_) .nil,hΦ ns hl,λv H' bs _ _ h=>?_⟩
 · clear hl hS
   induction ns with
   | nil=>exact .nil
   | cons n ns ih=>exact .cons .int ih
 · obtain ⟨_,u,e,d⟩:=h
   cases e
   cases d
   rfl
end
end Hy
namespace K66
open PySem PySem.Spec PyProof.Rows L2 Hy
noncomputable def top (i:Nat):Stmt:=PySem.Challenge.pw_signsmooth_k66_cut.main.body.getD i (.Pass ⟨0,0,0,0⟩)
noncomputable def mth (i j:Nat):Stmt:=match top i with
 | .ClassDef _ _ _ b _ _ _ _ _ _ _=>b.getD j (.Pass ⟨0,0,0,0⟩)
 | s=>s
theorem fS:ar ["_law_cell_here","_law_bases","_law_row","_law_base","_law_k","_law_mixed"] ["_law_cell_here","_law_bases"] (ah (top 81)):=⟨rfl,rfl,rfl,by decide +kernel,rfl,by decide +kernel,by decide +kernel⟩
theorem gu:ar ["_law_one_here","_law_other","_law_rest"] ["_law_one_here","_law_other"] (ah (top 82)):=⟨rfl,rfl,rfl,by decide +kernel,rfl,by decide +kernel,by decide +kernel⟩
theorem kh:ar ["_law_top","_law_bottom","_law_common"] ["_law_top","_law_bottom"] (ah (top 83)):=⟨rfl,rfl,rfl,by decide +kernel,rfl,by decide +kernel,by decide +kernel⟩
theorem mS:ar ["_law_many","_law_number","_law_k"] ["_law_many"] (ah (top 79)):=⟨rfl,rfl,rfl,by decide +kernel,rfl,by decide +kernel,by decide +kernel⟩
theorem gW:ar ["_law_part","_law_figures","_law_ten_here"] ["_law_part","_law_figures"] (ah (top 85)):=⟨rfl,rfl,rfl,by decide +kernel,rfl,by decide +kernel,by decide +kernel⟩
theorem g9:ar ["_law_cell_here","_law_tracks","_law_rows","_law_columns","_law_many","_law_figures","_law_parts","_law_steps","_law_k","_law_word","_law_at"] ["_law_cell_here","_law_tracks","_law_rows","_law_columns","_law_many","_law_figures"] (ah (top 86)):=⟨rfl,rfl,rfl,by decide +kernel,rfl,by decide +kernel,by decide +kernel⟩
theorem iI:ar ["_law_cell_here","_law_tracks","_law_rows","_law_columns","_law_most","_law_parts"] ["_law_cell_here","_law_tracks","_law_rows","_law_columns","_law_most"] (ah (top 95)):=⟨rfl,rfl,rfl,by decide +kernel,rfl,by decide +kernel,by decide +kernel⟩
theorem pZ:ar ["_law_script","_law_k"] ["_law_script","_law_k"] (ah (top 80)):=⟨rfl,rfl,rfl,by decide +kernel,rfl,by decide +kernel,by decide +kernel⟩
theorem mn:ar ["_law_script","_law_parts","_law_tracks"] ["_law_script"] (ah (top 96)):=⟨rfl,rfl,rfl,by decide +kernel,rfl,by decide +kernel,by decide +kernel⟩
theorem jg:ar ["_law_cell_here","_law_many","_law_letters","_law_parts","_law_base","_law_rest","_law_k"] ["_law_cell_here","_law_many"] (ah (top 90)):=⟨rfl,rfl,rfl,by decide +kernel,rfl,by decide +kernel,by decide +kernel⟩
theorem gb:ar ["self"] ["self"] (ah (mth 70 0)):=⟨rfl,rfl,rfl,by decide +kernel,rfl,by decide +kernel,by decide +kernel⟩
theorem m8:ar ["thing"] ["thing"] (ah (top 69)):=⟨rfl,rfl,rfl,by decide +kernel,rfl,by decide +kernel,by decide +kernel⟩
theorem fX:ar ["self","name"] ["self","name"] (ah (mth 70 1)):=⟨rfl,rfl,rfl,by decide +kernel,rfl,by decide +kernel,by decide +kernel⟩
theorem ml:ar ["thing"] ["thing"] (ah (top 13)):=⟨rfl,rfl,rfl,by decide +kernel,rfl,by decide +kernel,by decide +kernel⟩
theorem jH:ar ["thing","least","most"] ["thing","least","most"] (ah (top 14)):=⟨rfl,rfl,rfl,by decide +kernel,rfl,by decide +kernel,by decide +kernel⟩
theorem cC:ar ["one","other","greater","lesser","rest"] ["one","other"] (ah (top 16)):=⟨rfl,rfl,rfl,by decide +kernel,rfl,by decide +kernel,by decide +kernel⟩
theorem jf:ar ["thing"] ["thing"] (ah (top 15)):=⟨rfl,rfl,rfl,by decide +kernel,rfl,by decide +kernel,by decide +kernel⟩
theorem kO:ar ["thing"] ["thing"] (ah (top 46)):=⟨rfl,rfl,rfl,by decide +kernel,rfl,by decide +kernel,by decide +kernel⟩
theorem nC:ar ["thing","tracks"] ["thing","tracks"] (ah (top 47)):=⟨rfl,rfl,rfl,by decide +kernel,rfl,by decide +kernel,by decide +kernel⟩
theorem kR:ar ["thing"] ["thing"] (ah (top 48)):=⟨rfl,rfl,rfl,by decide +kernel,rfl,by decide +kernel,by decide +kernel⟩
theorem iK:ar ["thing"] ["thing"] (ah (top 49)):=⟨rfl,rfl,rfl,by decide +kernel,rfl,by decide +kernel,by decide +kernel⟩
theorem jN:ar ["self","name","ladder"] ["self","name","ladder"] (ah (mth 70 3)):=⟨rfl,rfl,rfl,by decide +kernel,rfl,by decide +kernel,by decide +kernel⟩
theorem jz:ar ["ladder","steps"] ["ladder","steps"] (ah (top 71)):=⟨rfl,rfl,rfl,by decide +kernel,rfl,by decide +kernel,by decide +kernel⟩
theorem w5:ar ["ladder"] ["ladder"] (ah (top 72)):=⟨rfl,rfl,rfl,by decide +kernel,rfl,by decide +kernel,by decide +kernel⟩
theorem lV:ar ["self","name","ladder"] ["self","name","ladder"] (ah (mth 70 4)):=⟨rfl,rfl,rfl,by decide +kernel,rfl,by decide +kernel,by decide +kernel⟩
theorem oB:ar ["_law_one_here","_law_other"] ["_law_one_here","_law_other"] (ah (top 88)):=⟨rfl,rfl,rfl,by decide +kernel,rfl,by decide +kernel,by decide +kernel⟩
theorem qW:ar ["_law_one_here","_law_other"] ["_law_one_here","_law_other"] (ah (top 87)):=⟨rfl,rfl,rfl,by decide +kernel,rfl,by decide +kernel,by decide +kernel⟩
theorem cj:ar ["_law_ladder_here","_law_tracks","_law_rows","_law_columns","_law_steps","_law_lines","_law_word","_law_k","_law_weight_here"] ["_law_ladder_here"] (ah (top 89)):=⟨rfl,rfl,rfl,by decide +kernel,rfl,by decide +kernel,by decide +kernel⟩
theorem qr:ar ["_law_ladder_here"] ["_law_ladder_here"] (ah (top 94)):=⟨rfl,rfl,rfl,by decide +kernel,rfl,by decide +kernel,by decide +kernel⟩
theorem fK:ar ["self","name"] ["self","name"] (ah (mth 70 2)):=⟨rfl,rfl,rfl,by decide +kernel,rfl,by decide +kernel,by decide +kernel⟩
theorem ku:ar ["numbers"] ["numbers"] (ah (top 30)):=⟨rfl,rfl,rfl,by decide +kernel,rfl,by decide +kernel,by decide +kernel⟩
theorem lI:ar ["thing","many"] ["thing","many"] (ah (top 29)):=⟨rfl,rfl,rfl,by decide +kernel,rfl,by decide +kernel,by decide +kernel⟩
theorem il:ar ["rows","columns","many_rows","many_columns"] ["rows","columns","many_rows","many_columns"] (ah (top 32)):=⟨rfl,rfl,rfl,by decide +kernel,rfl,by decide +kernel,by decide +kernel⟩
theorem lu:ar ["table","j"] ["table","j"] (ah (top 35)):=⟨rfl,rfl,rfl,by decide +kernel,rfl,by decide +kernel,by decide +kernel⟩
theorem jQ:ar ["table"] ["table"] (ah (top 34)):=⟨rfl,rfl,rfl,by decide +kernel,rfl,by decide +kernel,by decide +kernel⟩
theorem cn:ar ["top","bottom","divisor"] ["top","bottom"] (ah (top 18)):=⟨rfl,rfl,rfl,by decide +kernel,rfl,by decide +kernel,by decide +kernel⟩
theorem rY:ar ["step"] ["step"] (ah (top 52)):=⟨rfl,rfl,rfl,by decide +kernel,rfl,by decide +kernel,by decide +kernel⟩
theorem jK:ar ["track","rows"] ["track","rows"] (ah (top 54)):=⟨rfl,rfl,rfl,by decide +kernel,rfl,by decide +kernel,by decide +kernel⟩
theorem cy:ar ["number","others","found","other"] ["number","others"] (ah (top 17)):=⟨rfl,rfl,rfl,by decide +kernel,rfl,by decide +kernel,by decide +kernel⟩
theorem dH:ar ["sums","weight","above","below","factor"] ["sums","weight"] (ah (top 56)):=⟨rfl,rfl,rfl,by decide +kernel,rfl,by decide +kernel,by decide +kernel⟩
theorem fE:ar ["one","other","shared","one_factor","other_factor","tops","divisor"] ["one","other"] (ah (top 57)):=⟨rfl,rfl,rfl,by decide +kernel,rfl,by decide +kernel,by decide +kernel⟩
theorem mh:ar ["top","bottom"] ["top","bottom"] (ah (top 19)):=⟨rfl,rfl,rfl,by decide +kernel,rfl,by decide +kernel,by decide +kernel⟩
theorem kU:ar ["sums"] ["sums"] (ah (top 55)):=⟨rfl,rfl,rfl,by decide +kernel,rfl,by decide +kernel,by decide +kernel⟩
theorem mi:ar ["step"] ["step"] (ah (top 51)):=⟨rfl,rfl,rfl,by decide +kernel,rfl,by decide +kernel,by decide +kernel⟩
theorem jA:ar ["step"] ["step"] (ah (top 50)):=⟨rfl,rfl,rfl,by decide +kernel,rfl,by decide +kernel,by decide +kernel⟩
theorem gU:ar ["ladder","tracks","step","carried"] ["ladder"] (ah (top 53)):=⟨rfl,rfl,rfl,by decide +kernel,rfl,by decide +kernel,by decide +kernel⟩
theorem pX:ar ["tracks","steps","parts","length","found","start"] ["tracks","steps"] (ah (top 76)):=⟨rfl,rfl,rfl,by decide +kernel,rfl,by decide +kernel,by decide +kernel⟩
theorem ux:ar ["track"] ["track"] (ah (top 73)):=⟨rfl,rfl,rfl,by decide +kernel,rfl,by decide +kernel,by decide +kernel⟩
theorem fu:ar ["ladder","rows","columns","steps","k","track"] ["ladder","rows","columns"] (ah (top 75)):=⟨rfl,rfl,rfl,by decide +kernel,rfl,by decide +kernel,by decide +kernel⟩
theorem lN:ar ["self","new","one","rows","columns"] ["self","new","one","rows","columns"] (ah (mth 70 8)):=⟨rfl,rfl,rfl,by decide +kernel,rfl,by decide +kernel,by decide +kernel⟩
theorem iq:ar ["self","name"] ["self","name"] (ah (mth 70 16)):=⟨rfl,rfl,rfl,by decide +kernel,rfl,by decide +kernel,by decide +kernel⟩
theorem i7:ar ["self","name"] ["self","name"] (ah (mth 70 17)):=⟨rfl,rfl,rfl,by decide +kernel,rfl,by decide +kernel,by decide +kernel⟩
theorem nJ:ar ["_law_thing"] ["_law_thing"] (ah (top 84)):=⟨rfl,rfl,rfl,by decide +kernel,rfl,by decide +kernel,by decide +kernel⟩
theorem jm:ar ["_law_thing"] ["_law_thing"] (ah (top 91)):=⟨rfl,rfl,rfl,by decide +kernel,rfl,by decide +kernel,by decide +kernel⟩
theorem gr:ar ["_law_thing","_law_tracks","_law_most"] ["_law_thing","_law_tracks"] (ah (top 92)):=⟨rfl,rfl,rfl,by decide +kernel,rfl,by decide +kernel,by decide +kernel⟩
theorem eM:ar ["_law_found","_law_rows","_law_columns"] ["_law_found","_law_rows","_law_columns"] (ah (top 93)):=⟨rfl,rfl,rfl,by decide +kernel,rfl,by decide +kernel,by decide +kernel⟩
theorem j8:ar ["_law_works","_law_name","_law_due","_law_found"] ["_law_works","_law_name","_law_due"] (ah (top 97)):=⟨rfl,rfl,rfl,by decide +kernel,rfl,by decide +kernel,by decide +kernel⟩
theorem tD:ar ["_law_script","_law_one_here","_law_names_here","_law_works","_law_table","_law_k","_law_cell_here","_law_parts","_law_rows","_law_columns","_law_handed","_law_told_here"] ["_law_script"] (ah (top 98)):=⟨rfl,rfl,rfl,by decide +kernel,rfl,by decide +kernel,by decide +kernel⟩
end K66
namespace Hy
open PySem PySem.Spec PyProof.Rows L2
open Ev (D Den ax aM aK au aR aF)
section
variable {X:Cx} {C:Bool} {τ:List Sl} {x y z:D} {a b e:Expr} {es:List Expr} {pos p:Pos} {k:Nat} {s:Sl} {ds:List D} {i j:Int}
theorem mr {K:PySem.W.Frag} {H:Hp}:∀ {vs:List V} {ns:List Int},ax K H vs (ns.map .int)->vs=ns.map V.int
 | _,[],h=>by cases h; rfl
 | _,n :: ns,h=>by
   cases h with
   | cons d r=>cases d; rw [mr r]; rfl
theorem uD:OpR X (binaryOp .Add) (λx y H Q=>∃ l b xs zs,x=.ref l/\y=.ref b/\SqL X.K H l xs/\SqL X.K H b zs/\xs.length + zs.length<=sizeLine/\∀ p,H p=none->Q (.ref p) (upd H p (.lst (xs++zs)))):=by
 intro pins s σ H x y v u Q I rx ry h
 obtain ⟨l,b,xs,zs,rfl,rfl,hH,hB,hz,q⟩:=h
 cases rx
 cases ry
 obtain ⟨its,r,pl,_⟩:=I.list hH
 obtain ⟨its2,r2,pl2,_⟩:=I.list hB
 have hl:=r.length
 have hl2:=r2.length
 obtain ⟨⟨cls,dd,data,sl⟩,ho,hc,n,hd⟩:=pl.isList
 obtain ⟨⟨cls2,dd2,data2,sl2⟩,ho2,hc2,n2,hd2⟩:=pl2.isList
 simp only at hc hd hc2 hd2
 subst hc hd hc2 hd2
 have e:its.toArray++its2.toArray=(its++its2).toArray:=by simp
 refine concat_meets ⟨_,ho,rfl⟩ ⟨_,ho2,rfl⟩ noFill_list_add seq_list_add PySem.F.slot_list_add PySem.F.entry_list_add (PySem.F.args_list_add_2 _ _) (list_addW l b its.toArray its2.toArray n n2 dd dd2 sl sl2 (by rw [List.size_toArray,List.size_toArray]; omega)) ⟨ho,ho2,?_⟩
 rw [e]
 exact ⟨.ref _,_,I.zj (t':=s.toks) (r.append r2) (by rw [List.length_append]; omega),rfl,q _ I.fresh⟩
theorem yX {xs ys:List D} (ha:PE X a (dE X.K C τ (.d (.lst xs)))) (hb:PE X b (dE X.K C τ (.d (.lst ys)))) (hl:xs.length + ys.length < 1000000):PE X (.BinOp a .Add b pos) (dE X.K C τ (.o (xs++ys))):=peW (q9 uD ha hb) λσ H Q ⟨A,H₀,B,S,k⟩=>
 aH S λv H1 e1 d1=>aH (S.mono e1) λw H2 e2 d2=>by
   cases d1 with
   | lst h1 r1=>cases d2 with
     | lst h2 r2=>
       refine ⟨_,_,_,_,rfl,rfl,aF (aN.trans e2) h1,aF aN h2,by rw [r1.length,r2.length]; exact Nat.le_of_lt (Nat.lt_trans hl (by decide)),λp hp=>?_⟩
       obtain ⟨z1,z2,z3⟩:=kT (K:=X.K) hp ((r1.mono (av e2 λ_ z=>z)).append r2)
       exact k _ _ [p] (e1.trans (e2.trans z1)) (λb hb=>⟨(e1.trans e2).free (z2 b hb).1,(z2 b hb).2⟩) z3
theorem mkL (h:i.natAbs < 2 ^ 60):aM i j:=.inl (by
 rcases Nat.eq_zero_or_pos i.natAbs with z | z
 · rw [z]; decide
 · exact Nat.lt_trans ((Nat.log2_lt (by omega)).mpr h) (by decide))
theorem mkR (h:j.natAbs < 2 ^ 60):aM i j:=.inr (.inl (by
 rcases Nat.eq_zero_or_pos j.natAbs with z | z
 · rw [z]; decide
 · exact Nat.lt_trans ((Nat.log2_lt (by omega)).mpr h) (by decide)))
theorem mkD (h0:j ≠ 0) (h:j.natAbs < 2 ^ 62):aK j:=⟨h0,Nat.lt_trans ((Nat.log2_lt (by omega)).mpr h) (by decide)⟩
end
theorem ai {α:Type} {xs:List α} {i:Nat} {x:α} (h:xs[i]?=some x):atI xs (i:Int)=some x:=by
 unfold atI ixN
 have:=(List.getElem?_eq_some_iff.mp h).1
 rw [if_pos (by omega),if_pos (by omega)]
 simpa using h
theorem bf {ns:List Int} {i:Int} (h0:0<=i) (h:i.toNat < ns.length):atI (ns.map D.int) i=some (.int (ns.getD i.toNat 0)):=by
 obtain ⟨n,rfl⟩:=Int.eq_ofNat_of_zero_le h0
 exact ai (by
   have h:n < ns.length:=h
   simp [h])
theorem lL {xs:List D} (n:Nat):cutD xs none (some (n:Int))=xs.take n:=by
 unfold cutD
 rw [HT.k4,HT.rD,List.drop_zero,Nat.sub_zero]
 rcases Nat.le_total n xs.length with h | h
 · rw [Nat.min_eq_left h]
 · rw [Nat.min_eq_right h,List.take_of_length_le (Nat.le_refl _),List.take_of_length_le h]
theorem uf {xs:List D} (m n:Nat):cutD xs (some (m:Int)) (some (n:Int))=(xs.take n).drop m:=by
 unfold cutD
 rw [HT.k4,HT.k4]
 rw [<- List.drop_take]
 rcases Nat.le_total n xs.length with h | h
 · rw [Nat.min_eq_left h]
   rcases Nat.le_total m xs.length with h' | h'
   · rw [Nat.min_eq_left h']
   · rw [Nat.min_eq_right h',List.drop_eq_nil_of_le (by simp; omega),List.drop_eq_nil_of_le (by simp; omega)]
 · rw [Nat.min_eq_right h,List.take_of_length_le (Nat.le_refl _),List.take_of_length_le h]
   rcases Nat.le_total m xs.length with h' | h'
   · rw [Nat.min_eq_left h']
   · rw [Nat.min_eq_right h',List.drop_eq_nil_of_le (Nat.le_refl _),List.drop_eq_nil_of_le h']
theorem getD_none {α:Type} {xs:List α} {i:Nat} {d:α} (h:xs.length<=i):xs.getD i d=d:=by simp [List.getD,h]
theorem ex1 {α:Type} {p:α->Prop} {a:α} (h:p a):∃ a,p a:=⟨a,h⟩
theorem ex3 {α:Type} {p:α->α->α->Prop} {a b c:α} (h:p a b c):∃ a b c,p a b c:=⟨a,b,c,h⟩
end Hy
namespace Hy
open PySem PySem.Spec PyProof.Rows L2
open Ev (D Den ax au aR aF)
noncomputable def lO:List Nat->Nd->Option Nd
 | [],t=>some t
 | i :: p,.l xs=>(xs[i]?).bind (lO p)
 | i :: p,.t xs=>(xs[i]?).bind (lO p)
 | _ :: _,.d _=>none
noncomputable def gd:List Nat->Nd->Nd->Nd
 | [],_,n=>n
 | i :: p,.l xs,n=>.l (xs.set i (gd p (xs.getD i (.d .non)) n))
 | i :: p,.t xs,n=>.t (xs.set i (gd p (xs.getD i (.d .non)) n))
 | _ :: _,.d x,_=>.d x
noncomputable def cE (H:Hp):List Nat->V->V->Prop
 | [],u,v=>v=u
 | i :: p,u,v=>∃ a vs w,u=.ref a/\(H a=some (.lst vs)\/H a=some (.tup vs))/\vs[i]?=some w/\cE H p w v
theorem cE.mono {H H':Hp} (e:ak H H'):∀ {p:List Nat} {u v:V},cE H p u v->cE H' p u v
 | [],_,_,h=>h
 | _ :: _,_,_,⟨a,vs,w,h1,h2,h3,h4⟩=>⟨a,vs,w,h1,h2.elim (λz=>.inl (e _ _ z)) (λz=>.inr (e _ _ z)),h3,h4.mono e⟩
theorem cE.snoc {H:Hp} {i:Nat} {a:Addr} {vs:List V} {w:V}:∀ {p:List Nat} {u:V},cE H p u (.ref a)->(H a=some (.lst vs)\/H a=some (.tup vs))->vs[i]?=some w->cE H (p++[i]) u w
 | [],_,h,h1,h2=>⟨a,vs,w,h.symm,h1,h2,rfl⟩
 | _ :: _,_,⟨b,us,x,z1,z2,z3,z4⟩,h1,h2=>⟨b,us,x,z1,z2,z3,z4.snoc h1 h2⟩
section
variable {K:PySem.W.Frag} {G H:Hp}
theorem aO.length:∀ {vs:List V} {bs:List Addr} {xs:List Nd},aO K G H vs bs xs->vs.length=xs.length
 | _,_,_,.nil=>rfl
 | _,_,_,.cons _ r=>congrArg (· + 1) r.length
theorem aO.part:∀ {vs:List V} {bs:List Addr} {xs:List Nd} {i:Nat} {c:Nd},aO K G H vs bs xs->xs[i]?=some c->∃ v l m r,vs[i]?=some v/\bs=l++(m++r)/\bE K G H v m c /\
   ∀ {G' H':Hp} {m':List Addr} {c':Nd},ak G G'->(∀ b,b ∈ l\/b ∈ r->H' b=H b)->bE K G' H' v m' c'->aO K G' H' vs (l++(m'++r)) (xs.set i c')
 | _,_,_,_,_,.nil,e=>by cases e
 | _,_,_,0,_,.cons (b1:=b1) (b2:=b2) h r,e=>by
   cases e
   exact ⟨_,[],b1,b2,rfl,rfl,h,λg e h'=>by rw [List.nil_append]; exact .cons h' (r.frame g λb hb=>e b (.inr hb))⟩
 | _,_,_,i + 1,c,.cons (b1:=b1) h r,e=>by
   obtain ⟨v,l,m,q,h1,h2,h3,h4⟩:=aO.part (i:=i) (c:=c) r (by simpa using e)
   refine ⟨v,b1++l,m,q,by simpa using h1,by rw [h2,List.append_assoc],h3,λ{G' H' m' c'} g e h'=>?_⟩
   rw [List.append_assoc]
   exact .cons (h.frame g λb hb=>e b (.inl (List.mem_append_left _ hb))) (h4 g (λb hb=>e b (hb.elim (λz=>.inl (List.mem_append_right _ z)) .inr)) h')
theorem bE.focus:∀ (p:List Nat) {u:V} {bs:List Addr} {t c:Nd},bE K G H u bs t->lO p t=some c->∃ v l m r,cE H p u v/\bs=l++(m++r)/\bE K G H v m c /\
   ∀ {G' H':Hp} {m':List Addr} {c':Nd},ak G G'->(∀ b,b ∈ l\/b ∈ r->H' b=H b)->bE K G' H' v m' c'->bE K G' H' u (l++(m'++r)) (gd p t c')
 | [],u,bs,tr,c,h,e=>by
   cases e
   exact ⟨u,[],bs,[],rfl,by simp,h,λg _ h'=>by simpa [gd] using h'⟩
 | i :: p,_,_,.l xs,c,.l (a:=a) (bs:=bs) hH r,e=>by
   rw [lO] at e
   cases ei:xs[i]? with
   | none=>rw [ei] at e; cases e
   | some x=>
     rw [ei] at e
     obtain ⟨v,l,m,q,h1,h2,h3,h4⟩:=r.part ei
     obtain ⟨w,l',m',q',g1,g2,g3,g4⟩:=bE.focus p h3 e
     refine ⟨w,a :: (l++l'),m',q'++q,⟨a,_,v,rfl,.inl hH,h1,g1⟩,by rw [h2,g2]; simp,g3,λ{G' H' m2 c2} g e2 h'=>?_⟩
     have k1:=g4 g (λb hb=>e2 b (hb.elim (λz=>.inl (List.mem_cons_of_mem _ (List.mem_append_right _ z))) λz=>.inr (List.mem_append_left _ z))) h'
     have k2:=h4 g (λb hb=>e2 b (hb.elim (λz=>.inl (List.mem_cons_of_mem _ (List.mem_append_left _ z))) λz=>.inr (List.mem_append_right _ z))) k1
     rw [gd,show xs.getD i (.d .non)=x by simp [List.getD,ei]]
     have k3:=bE.l (G:=G') (K:=K) (a:=a) (by rw [e2 a (.inl (List.mem_cons_self ..))]; exact hH) k2
     simpa using k3
 | i :: p,_,_,.t xs,c,.t (a:=a) (bs:=bs) hH r,e=>by
   rw [lO] at e
   cases ei:xs[i]? with
   | none=>rw [ei] at e; cases e
   | some x=>
     rw [ei] at e
     obtain ⟨v,l,m,q,h1,h2,h3,h4⟩:=r.part ei
     obtain ⟨w,l',m',q',g1,g2,g3,g4⟩:=bE.focus p h3 e
     refine ⟨w,a :: (l++l'),m',q'++q,⟨a,_,v,rfl,.inr hH,h1,g1⟩,by rw [h2,g2]; simp,g3,λ{G' H' m2 c2} g e2 h'=>?_⟩
     have k1:=g4 g (λb hb=>e2 b (hb.elim (λz=>.inl (List.mem_cons_of_mem _ (List.mem_append_right _ z))) λz=>.inr (List.mem_append_left _ z))) h'
     have k2:=h4 g (λb hb=>e2 b (hb.elim (λz=>.inl (List.mem_cons_of_mem _ (List.mem_append_left _ z))) λz=>.inr (List.mem_append_right _ z))) k1
     rw [gd,show xs.getD i (.d .non)=x by simp [List.getD,ei]]
     have k3:=bE.t (G:=G') (K:=K) (a:=a) (by rw [e2 a (.inl (List.mem_cons_self ..))]; exact hH) k2
     simpa using k3
theorem cE.det:∀ {p:List Nat} {u v w:V},cE H p u v->cE H p u w->v=w
 | [],_,_,_,h,h'=>h.trans h'.symm
 | _ :: _,_,_,_,⟨a,vs,x,h1,h2,h3,h4⟩,⟨b,us,y,g1,g2,g3,g4⟩=>by
   rw [h1] at g1
   cases g1
   have e:vs=us:=by
     rcases h2 with h2 | h2 <;> rcases g2 with g2 | g2 <;> rw [h2] at g2 <;> cases g2 <;> rfl
   subst e
   rw [h3] at g3
   cases g3
   exact h4.det g4
theorem bJ.frame {G' H':Hp} (g:ak G G') {v:Option V} {bs:List Addr}:∀ {s:Sl},(∀ b ∈ bs,H' b=H b)->bJ K G H v bs s->bJ K G' H' v bs s
 | .un,_,h=>h
 | .d _,_,⟨h,u,e1,h2⟩=>⟨h,u,e1,h2.mono g⟩
 | .o _,e,⟨a,vs,h1,h2,h3,h4⟩=>⟨a,vs,h1,h2,by rw [e a (by rw [h1]; exact List.mem_cons_self ..)]; exact h3,h4.mono g⟩
 | .n _,e,⟨h0,u,h1,h2⟩=>⟨h0,u,h1,h2.frame g e⟩
 | .x E,e,⟨a,o,h1,h2,h3,h4⟩=>⟨a,o,h1,h2,by rw [e a (by rw [h1]; exact List.mem_cons_self ..)]; exact h3,E.mono g h4⟩
 | .w W,e,⟨h0,u,h1,h2⟩=>⟨h0,u,h1,W.fr g e h2⟩
theorem om {l r b0 b1:List Addr} {a:Addr} (h:(l++((a :: b0)++r)).Nodup) (h1:b1.Nodup) (hb:∀ b ∈ b1,b ∈ b0\/(b ∉ l/\b ≠ a/\b ∉ r)):(l++((a :: b1)++r)).Nodup:=by
 obtain ⟨z1,z2,z3⟩:=List.nodup_append.mp h
 rw [List.cons_append] at z2
 obtain ⟨z4,z5⟩:=List.nodup_cons.mp z2
 obtain ⟨z6,z7,z8⟩:=List.nodup_append.mp z5
 refine List.nodup_append.mpr ⟨z1,?_,λx hx y hy=>?_⟩
 · rw [List.cons_append]
   refine List.nodup_cons.mpr ⟨λz=>?_,List.nodup_append.mpr ⟨h1,z7,λx hx y hy=>?_⟩⟩
   · rcases List.mem_append.mp z with z | z
     · rcases hb a z with q | q
       · exact z4 (List.mem_append_left _ q)
       · exact q.2.1 rfl
     · exact z4 (List.mem_append_right _ z)
   · rcases hb x hx with q | q
     · exact z8 x q y hy
     · exact λe=>q.2.2 (e ▸ hy)
 · rw [List.cons_append] at hy
   rcases List.mem_cons.mp hy with q | q
   · exact z3 x hx y (by rw [q]; exact List.mem_append_left _ (List.mem_cons_self ..))
   · rcases List.mem_append.mp q with q | q
     · rcases hb y q with q | q
       · exact z3 x hx y (List.mem_append_left _ (List.mem_cons_of_mem _ q))
       · exact λe=>q.1 (e ▸ hx)
     · exact z3 x hx y (List.mem_append_right _ q)
theorem Sta.putN {A:Addr->Prop} {H₀:Hp} {τ:List Sl} {B:Nat->List Addr} {σ:L2.St} {i:Nat} {t:Nd} {p:List Nat} {xs:List Nd} (S:Sta K A H₀ τ B σ H) (hi:τ[i]?=some (.n t)) (hp:lO p t=some (.l xs)) :
   ∃ u a vs bs0,(σ[i]?).join=some u/\cE H p u (.ref a)/\H a=some (.lst vs)/\aO K (hd H (own A B)) H vs bs0 xs/\bs0.Nodup/\own A B a/\(∀ b ∈ bs0,own A B b/\b ≠ a) /\
     ∀ {H1:Hp} {vs':List V} {bs1:List Addr} {xs':List Nd},ak H H1->bs1.Nodup->(∀ b ∈ bs1,b ∈ bs0\/(H b=none/\∃ o,H1 b=some o))->aO K (hd (upd H1 a (.lst vs')) λb=>own A B b\/b ∈ bs1) (upd H1 a (.lst vs')) vs' bs1 xs' ->
       ∃ B',Sta K A H₀ (τ.set i (.n (gd p t (.l xs')))) B' σ (upd H1 a (.lst vs')):=by
 obtain ⟨nd,u,eu,ok⟩:=S.sl i _ hi
 obtain ⟨v,l,m,r,pv,hbs,okc,back⟩:=ok.focus p hp
 cases okc with
 | @l a vs bs0 _ hH r0=>
   have mem:∀ b,b ∈ l\/b=a\/b ∈ bs0\/b ∈ r->b ∈ B i:=λb hb=>by
     rw [hbs]
     rcases hb with z | z | z | z
     · exact List.mem_append_left _ z
     · exact List.mem_append_right _ (by rw [z]; exact List.mem_append_left _ (List.mem_cons_self ..))
     · exact List.mem_append_right _ (List.mem_append_left _ (List.mem_cons_of_mem _ z))
     · exact List.mem_append_right _ (List.mem_append_right _ z)
   have nd':=nd
   rw [hbs] at nd'
   obtain ⟨n1,n2,n3⟩:=List.nodup_append.mp nd'
   rw [List.cons_append] at n2
   obtain ⟨n4,n5⟩:=List.nodup_cons.mp n2
   obtain ⟨n6,_,_⟩:=List.nodup_append.mp n5
   have ha:own A B a:=.inr ⟨i,mem a (.inr (.inl rfl))⟩
   refine ⟨u,a,vs,bs0,eu,pv,hH,r0,n6,ha,λb hb=>⟨.inr ⟨i,mem b (.inr (.inr (.inl hb)))⟩,λz=>n4 (z ▸ List.mem_append_left _ hb)⟩,λ{H1 vs' bs1 xs'} e h1 hb hx=>?_⟩
   have keep:∀ b o,b ≠ a->H b=some o->upd H1 a (.lst vs') b=H b:=λb o ne h=>by rw [aq ne,e _ _ h,h]
   have la:∀ b,b ∈ l\/b ∈ r->b ≠ a:=λb hb z=>by
     rcases hb with q | q
     · exact n3 b q a (List.mem_append_left _ (List.mem_cons_self ..)) z
     · exact n4 (z ▸ List.mem_append_right _ q)
   have fresh:∀ b ∈ bs1,b ∈ bs0\/(b ∉ l/\b ≠ a/\b ∉ r):=λb hb1=>by
     rcases hb b hb1 with q | ⟨q,_⟩
     · exact .inl q
     · have no:∀ c,c ∈ B i->b ≠ c:=λc hc z=>by obtain ⟨o,hc⟩:=S.bd i c hc; rw [<- z,q] at hc; cases hc
       exact .inr ⟨λz=>no b (mem b (.inl z)) rfl,no a (mem a (.inr (.inl rfl))),λz=>no b (mem b (.inr (.inr (.inr z)))) rfl⟩
   have sub:∀ b,own A (upB B i (l++((a :: bs1)++r))) b->own A B b\/b ∈ bs1:=λb z=>by
     rcases z with z | ⟨j,z⟩
     · exact .inl (.inl z)
     · rcases a5 z with ⟨_,z⟩ | ⟨_,z⟩
       · rcases List.mem_append.mp z with z | z
         · exact .inl (.inr ⟨i,mem b (.inl z)⟩)
         · rw [List.cons_append] at z
           rcases List.mem_cons.mp z with z | z
           · exact .inl (z ▸ ha)
           · rcases List.mem_append.mp z with z | z
             · exact .inr z
             · exact .inl (.inr ⟨i,mem b (.inr (.inr (.inr z)))⟩)
       · exact .inl (.inr ⟨j,z⟩)
   have sm:ak (hd H (own A B)) (hd (upd H1 a (.lst vs')) (own A (upB B i (l++((a :: bs1)++r))))):=λb o z=>by
     obtain ⟨z1,z2⟩:=ao.mp z
     refine ao.mpr ⟨λy=>?_,by rw [keep b o (λq=>z1 (q ▸ ha)) z2]; exact z2⟩
     rcases sub b y with y | y
     · exact z1 y
     · rcases hb b y with q | ⟨q,_⟩
       · exact z1 (.inr ⟨i,mem b (.inr (.inr (.inl q)))⟩)
       · rw [q] at z2; cases z2
   have hs:ak H₀ (upd H1 a (.lst vs')):=λb o z=>by
     have f0:=S.fr i a (mem a (.inr (.inl rfl)))
     rw [aq (λq=>by rw [q,f0] at z; cases z)]
     exact e _ _ (S.same _ _ z)
   refine ⟨upB B i (l++((a :: bs1)++r)),hs,by rw [List.length_set,S.len],λj s hj=>?_,λj b z=>?_,λj k b z1 z2=>?_,S.ad,λj b z=>?_⟩
   · by_cases ej:j=i
     · subst ej
       have hl:=(List.getElem?_eq_some_iff.mp hi).1
       rw [List.getElem?_set_self hl] at hj
       cases hj
       unfold upB
       rw [if_pos rfl]
       refine ⟨om nd' h1 fresh,u,eu,back sm (λb hb=>?_) (.l aA (hx.frame (av (ak.refl _) sub) λ_ _=>rfl))⟩
       obtain ⟨o,q⟩:=S.bd j b (mem b (hb.elim .inl λz=>.inr (.inr (.inr z))))
       exact keep b o (la b hb) q
     · rw [List.getElem?_set_ne (λz=>ej z.symm)] at hj
       unfold upB
       rw [if_neg ej]
       refine (S.sl j s hj).frame sm λb hb=>?_
       obtain ⟨o,q⟩:=S.bd j b hb
       exact keep b o (λz=>ej (S.uq j i a (z ▸ hb) (mem a (.inr (.inl rfl))))) q
   · rcases a5 z with ⟨_,z⟩ | ⟨_,z⟩
     · rcases sub b (.inr ⟨i,by unfold upB; rw [if_pos rfl]; exact z⟩) with y | y
       · rcases List.mem_append.mp z with z | z
         · exact S.fr i b (mem b (.inl z))
         · rw [List.cons_append] at z
           rcases List.mem_cons.mp z with z | z
           · exact S.fr i b (mem b (.inr (.inl z)))
           · rcases List.mem_append.mp z with z | z
             · rcases hb b z with q | ⟨q,_⟩
               · exact S.fr i b (mem b (.inr (.inr (.inl q))))
               · exact S.same.free q
             · exact S.fr i b (mem b (.inr (.inr (.inr z))))
       · rcases hb b y with q | ⟨q,_⟩
         · exact S.fr i b (mem b (.inr (.inr (.inl q))))
         · exact S.same.free q
     · exact S.fr j b z
   · have inB:∀ {c},c ∈ l++((a :: bs1)++r)->c ∈ B i\/H c=none:=λ{c} z=>by
       rcases List.mem_append.mp z with z | z
       · exact .inl (mem c (.inl z))
       · rw [List.cons_append] at z
         rcases List.mem_cons.mp z with z | z
         · exact .inl (mem c (.inr (.inl z)))
         · rcases List.mem_append.mp z with z | z
           · rcases hb c z with q | ⟨q,_⟩
             · exact .inl (mem c (.inr (.inr (.inl q))))
             · exact .inr q
           · exact .inl (mem c (.inr (.inr (.inr z))))
     have cross:∀ {j},j ≠ i->b ∈ B j->b ∈ l++((a :: bs1)++r)->False:=λ{j} nj y1 y2=>by
       rcases inB y2 with q | q
       · exact nj (S.uq j i b y1 q)
       · obtain ⟨o,w⟩:=S.bd j b y1; rw [q] at w; cases w
     rcases a5 z1 with ⟨e1,y1⟩ | ⟨e1,y1⟩ <;> rcases a5 z2 with ⟨e2,y2⟩ | ⟨e2,y2⟩
     · exact e1.trans e2.symm
     · exact (cross e2 y2 y1).elim
     · exact (cross e1 y1 y2).elim
     · exact S.uq j k b y1 y2
   · rcases a5 z with ⟨_,z⟩ | ⟨_,z⟩
     · by_cases e':b=a
       · exact ⟨_,by rw [e']; exact aA⟩
       · rw [aq e']
         have old:b ∈ B i->∃ o,H1 b=some o:=λq=>let ⟨o,w⟩:=S.bd i b q; ⟨o,e _ _ w⟩
         rcases List.mem_append.mp z with z | z
         · exact old (mem b (.inl z))
         · rw [List.cons_append] at z
           rcases List.mem_cons.mp z with z | z
           · exact absurd z e'
           · rcases List.mem_append.mp z with z | z
             · rcases hb b z with q | ⟨_,q⟩
               · exact old (mem b (.inr (.inr (.inl q))))
               · exact q
             · exact old (mem b (.inr (.inr (.inr z))))
     · by_cases e':b=a
       · exact ⟨_,by rw [e']; exact aA⟩
       · rw [aq e']
         obtain ⟨o,w⟩:=S.bd j b z
         exact ⟨o,e _ _ w⟩
end
noncomputable def dP (K:PySem.W.Frag) (τ:List Sl) (i:Nat) (p:List Nat):TE:=λσ H Q=>∃ A H₀ B,Sta K A H₀ τ B σ H/\∀ u v H',(σ[i]?).join=some u->ak H H'->cE H' p u v->Q v H'
noncomputable def uS:Sl->Option Nd
 | .un=>none
 | .d x=>some (.d x)
 | .o xs=>some (.l (xs.map .d))
 | .n t=>some t
 | .x _=>none
 | .w _=>none
section
variable {K:PySem.W.Frag} {G H:Hp}
theorem tT:∀ {vs:List V} {xs:List D},ax K G vs xs->aO K G H vs [] (xs.map .d)
 | _,_,.nil=>.nil
 | _,_,.cons h r=>.cons (b1:=[]) (b2:=[]) (.d h) (tT r)
theorem bJ.nd {v:V} {bs:List Addr} {s:Sl} {c:Nd} (h:bJ K G H (some v) bs s) (e:uS s=some c):bE K G H v bs c/\bs.Nodup:=by
 cases s with
 | un=>cases e
 | d x=>cases e; obtain ⟨rfl,u,eu,d⟩:=h; cases eu; exact ⟨.d d,List.nodup_nil⟩
 | o xs=>cases e; obtain ⟨a,vs,rfl,e2,h3,h4⟩:=h; cases e2; exact ⟨.l h3 (tT h4),by simp⟩
 | n t=>cases e; obtain ⟨h0,u,eu,h2⟩:=h; cases eu; exact ⟨h2,h0⟩
 | x E=>cases e
 | w W=>cases e
theorem aO.snoc {v:V} {c:Nd} {b2:List Addr} (h:bE K G H v b2 c):∀ {vs:List V} {bs:List Addr} {xs:List Nd},aO K G H vs bs xs->aO K G H (vs++[v]) (bs++b2) (xs++[c])
 | _,_,_,.nil=>by have:=aO.cons h .nil; rw [List.append_nil] at this; exact this
 | _,_,_,.cons h1 r=>by rw [List.append_assoc]; exact .cons h1 (aO.snoc h r)
end
section
variable {X:Cx} {C:Bool} {τ:List Sl} {x y z:D} {a b e o ix:Expr} {es:List Expr} {pos p q:Pos} {k:Nat} {s:Sl} {N:Po} {rest:List Stmt} {i:Nat} {t c:Nd} {pt:List Nat} {xs:List Nd} {j:Int} {m:Nat}
theorem kq (i:Nat) {n:Str} {t:Nd} (h:τ[i]?=some (.n t):=by rfl) (hN:X.N[i]?=some n:=by rfl) (hv:Vis X.env.scope n:=by first | exact Or.inl rfl | exact Or.inr (Or.inl rfl) | exact Or.inr (Or.inr rfl))
   (hd:(n == ("__debug__" : Str))=false:=by decide) (hcd:(n == ("__classdict__" : Str))=false:=by decide):PE X (.Name n pos) (dP X.K τ i []):=peW (bh hN hv hd hcd) λσ H Q ⟨A,H₀,B,S,k⟩=>by
 obtain ⟨_,u,e,_⟩:=S.sl i _ h
 exact ⟨u,slot_of e,k u u H e (ak.refl _) rfl⟩
theorem Sta.at {K:PySem.W.Frag} {A:Addr->Prop} {H₀ H:Hp} {τ:List Sl} {B:Nat->List Addr} {σ:L2.St} (S:Sta K A H₀ τ B σ H) (hi:τ[i]?=some (.n t)) (hp:lO pt t=some c):∃ u v m,(σ[i]?).join=some u/\cE H pt u v/\bE K (hd H (own A B)) H v m c/\∀ b ∈ m,b ∈ B i:=by
 obtain ⟨_,u,e,ok⟩:=S.sl i _ hi
 obtain ⟨v,l,m,r,h1,h2,h3,_⟩:=ok.focus pt hp
 exact ⟨u,v,m,e,h1,h3,λb hb=>by rw [h2]; exact List.mem_append_right _ (List.mem_append_left _ hb)⟩
theorem vx {K:PySem.W.Frag} {G H:Hp} {vs:List V} {bs:List Addr} {m:Nat} (r:aO K G H vs bs xs) (hm:m < xs.length):∃ v,vs[m]?=some v:=⟨vs[m]'(by rw [r.length]; exact hm),List.getElem?_eq_getElem _⟩
theorem xf {n m:Nat} {j:Int} (h:ixN n j=some m):m < n:=by
 unfold ixN at h
 split at h
 · split at h
   · cases h; omega
   · cases h
 · split at h
   · cases h; omega
   · cases h
theorem pJ (ha:PE X a (dP X.K τ i pt)) (hb:PE X b (dE X.K false τ (.d (.int j)))) (hi:τ[i]?=some (.n t)) (hp:lO pt t=some (.l xs)) (hj:ixN xs.length j=some m) (hs:iB b:=by exact λ_ _=>rfl):PE X (.Subscript a b pos) (dP X.K τ i (pt++[m])):=
 peW (rm kM ha hb hs) λσ H Q ⟨A,H₀,B,S,k⟩=>⟨A,H₀,B,S,λu v H1 eu e1 pv=>aH (S.mono e1) λw H2 e2 d2=>by
   cases d2
   obtain ⟨u',v',m',eu',pv',ok,_⟩:=((S.mono e1).mono e2).at hi hp
   rw [eu] at eu'
   cases eu'
   obtain rfl:=(pv.mono e2).det pv'
   cases ok with
   | @l ad vs _ _ hH r=>
     obtain ⟨x,hx⟩:=vx r (xf hj)
     exact ⟨ad,vs,j,x,rfl,rfl,SqL.of hH,by unfold atI; rw [r.length,hj]; exact hx,k u x H2 eu (e1.trans e2) (pv'.snoc (.inl hH) hx)⟩⟩
end
end Hy
namespace Ev
open PySem PySem.Spec PyProof.Rows L2
noncomputable def bad:Str:=⟨#[0x110000]⟩
mutual
noncomputable def eqD:D->D->Bool
 | .non,.non=>true
 | .bl a,.bl b=>a == b
 | .bl a,.int j=>(if a then 1 else 0) == j
 | .int i,.bl b=>i == (if b then 1 else 0)
 | .int a,.int b=>a == b
 | .str a,.str b=>a == b
 | .tup xs,.tup ys=>jl xs ys
 | .lst xs,.lst ys=>jl xs ys
 | .box _,.box _=>true
 | .box _,.str b=>bad == b
 | .str a,.box _=>a == bad
 | .box _,.non | .box _,.bl _ | .box _,.int _ | .box _,.tup _ | .box _,.lst _=>false
 | .non,.box _ | .bl _,.box _ | .int _,.box _ | .tup _,.box _ | .lst _,.box _=>false
 | .non,.bl _ | .non,.int _ | .non,.str _ | .non,.tup _ | .non,.lst _=>false
 | .bl _,.non | .bl _,.str _ | .bl _,.tup _ | .bl _,.lst _=>false
 | .int _,.non | .int _,.str _ | .int _,.tup _ | .int _,.lst _=>false
 | .str _,.non | .str _,.bl _ | .str _,.int _ | .str _,.tup _ | .str _,.lst _=>false
 | .tup _,.non | .tup _,.bl _ | .tup _,.int _ | .tup _,.str _ | .tup _,.lst _=>false
 | .lst _,.non | .lst _,.bl _ | .lst _,.int _ | .lst _,.str _ | .lst _,.tup _=>false
noncomputable def jl:List D->List D->Bool
 | [],[]=>true
 | x :: xs,y :: ys=>eqD x y && jl xs ys
 | [],_ :: _=>false
 | _ :: _,[]=>false
end
mutual
noncomputable def toP:D->PyData
 | .non=>.none
 | .bl b=>.bool b
 | .int i=>.int i
 | .str x=>.str x
 | .tup xs=>.tuple (ft xs)
 | .lst xs=>.list (ft xs)
 | .box _=>.str bad
noncomputable def ft:List D->List PyData
 | []=>[]
 | x :: xs=>toP x :: ft xs
end
mutual
noncomputable def cln:D->Bool
 | .str x=>PyData.strOk x
 | .tup xs=>b6 xs
 | .lst xs=>b6 xs
 | .box _=>false
 | .non | .bl _ | .int _=>true
noncomputable def b6:List D->Bool
 | []=>true
 | x :: xs=>cln x && b6 xs
end
mutual
noncomputable def dep:D->Nat
 | .tup xs=>cx xs + 1
 | .lst xs=>cx xs + 1
 | .non | .bl _ | .int _ | .str _ | .box _=>0
noncomputable def cx:List D->Nat
 | []=>0
 | x :: xs=>max (dep x) (cx xs)
end
noncomputable def dX (x:D):Prop:=cln x=true/\dep x<=64
noncomputable instance (x:D):Decidable (dX x):=inferInstanceAs (Decidable (_/\_))
mutual
theorem iz:∀ x y:D,PyData.eqv (toP x) (toP y)=eqD x y
 | .non,y=>by cases y <;> simp [toP,PyData.eqv,eqD]
 | .bl a,y=>by cases y <;> simp [toP,PyData.eqv,eqD]
 | .int a,y=>by cases y <;> simp [toP,PyData.eqv,eqD]
 | .str a,y=>by cases y <;> simp [toP,PyData.eqv,eqD]
 | .tup xs,.tup ys=>by simp only [toP,PyData.eqv,eqD]; exact ju xs ys
 | .lst xs,.lst ys=>by simp only [toP,PyData.eqv,eqD]; exact ju xs ys
 | .tup xs,.non=>by simp [toP,PyData.eqv,eqD]
 | .tup xs,.bl _=>by simp [toP,PyData.eqv,eqD]
 | .tup xs,.int _=>by simp [toP,PyData.eqv,eqD]
 | .tup xs,.str _=>by simp [toP,PyData.eqv,eqD]
 | .tup xs,.lst _=>by simp [toP,PyData.eqv,eqD]
 | .lst xs,.non=>by simp [toP,PyData.eqv,eqD]
 | .lst xs,.bl _=>by simp [toP,PyData.eqv,eqD]
 | .lst xs,.int _=>by simp [toP,PyData.eqv,eqD]
 | .lst xs,.str _=>by simp [toP,PyData.eqv,eqD]
 | .lst xs,.tup _=>by simp [toP,PyData.eqv,eqD]
 | .tup xs,.box _=>by simp [toP,PyData.eqv,eqD]
 | .lst xs,.box _=>by simp [toP,PyData.eqv,eqD]
 | .box _,y=>by cases y <;> simp [toP,PyData.eqv,eqD]
theorem ju:∀ xs ys:List D,PyData.eqvAll (ft xs) (ft ys)=jl xs ys
 | [],[]=>by simp [ft,PyData.eqvAll,jl]
 | [],_ :: _=>by simp [ft,PyData.eqvAll,jl]
 | _ :: _,[]=>by simp [ft,PyData.eqvAll,jl]
 | x :: xs,y :: ys=>by simp only [ft,PyData.eqvAll,jl]; rw [iz x y,ju xs ys]
end
mutual
theorem oG:∀ x:D,(toP x).canLay0=cln x
 | .non=>by simp [toP,PyData.canLay0,cln]
 | .bl _=>by simp [toP,PyData.canLay0,cln]
 | .int _=>by simp [toP,PyData.canLay0,cln]
 | .str _=>by simp [toP,PyData.canLay0,cln]
 | .tup xs=>by simp only [toP,PyData.canLay0,cln]; exact iW xs
 | .lst xs=>by simp only [toP,PyData.canLay0,cln]; exact iW xs
 | .box _=>by simp only [toP,PyData.canLay0,cln]; decide +kernel
theorem iW:∀ xs:List D,PyData.canLayAll0 (ft xs)=b6 xs
 | []=>by simp [ft,PyData.canLayAll0,b6]
 | x :: xs=>by simp only [ft,PyData.canLayAll0,b6]; rw [oG x,iW xs]
end
mutual
theorem pG:∀ x:D,(toP x).depth=dep x
 | .non=>by simp [toP,PyData.depth,dep]
 | .bl _=>by simp [toP,PyData.depth,dep]
 | .int _=>by simp [toP,PyData.depth,dep]
 | .str _=>by simp [toP,PyData.depth,dep]
 | .tup xs=>by simp only [toP,PyData.depth,dep]; rw [iJ xs]
 | .lst xs=>by simp only [toP,PyData.depth,dep]; rw [iJ xs]
 | .box _=>by simp [toP,PyData.depth,dep]
theorem iJ:∀ xs:List D,PyData.depthAll (ft xs)=cx xs
 | []=>by simp [ft,PyData.depthAll,cx]
 | x :: xs=>by simp only [ft,PyData.depthAll,cx]; rw [pG x,iJ xs]
end
theorem ck {x:D} (h:dX x):SeqAt.shaped (toP x)=true:=by
 unfold SeqAt.shaped
 rw [oG,pG,h.1,Bool.true_and]
 exact decide_eq_true h.2
section
variable {X:Cx} {pins:List (Addr × Obj)} {σ:L2.St} {H G:Hp} {s:Shared}
mutual
theorem cR (I:Inv X pins σ H s) (e:ak G H):∀ {v:V} {d:D} {u:Value},Den X.K G v d->RelV v u->cln d=true->∃ as,Reads s.heap u (toP d) as
 | _,_,_,.non,r,_=>by cases r; exact ⟨_,.none⟩
 | _,_,_,.bl,r,_=>by cases r; exact ⟨_,.bool _⟩
 | _,_,_,.int,r,_=>by obtain ⟨t,rfl⟩:=r; exact ⟨_,.int _ _⟩
 | _,_,_,.str,r,_=>by obtain ⟨t,rfl⟩:=r; exact ⟨_,.str _ _⟩
 | _,_,_,.tup h q,r,c=>by
   cases r
   obtain ⟨its,rv,⟨o,h1,h2,n,h3⟩,_⟩:=I.tuple (aR e h)
   obtain ⟨as,z⟩:=gK I e q rv (by rw [cln] at c; exact c)
   exact ⟨_,.tuple h1 h2 h3 (by simpa using z)⟩
 | _,_,_,.lst h q,r,c=>by
   cases r
   obtain ⟨its,rv,⟨o,n,h1,h2,_,h3⟩,_⟩:=I.list (aF e h)
   obtain ⟨as,z⟩:=gK I e q rv (by rw [cln] at c; exact c)
   exact ⟨_,.list h1 h2 h3 (by simpa using z)⟩
 | _,_,_,.box _,_,c=>by rw [cln] at c; cases c
theorem gK (I:Inv X pins σ H s) (e:ak G H):∀ {vs:List V} {ds:List D} {us:List Value},ax X.K G vs ds->Vals vs us->b6 ds=true->∃ as,ReadsAll s.heap us (ft ds) as
 | _,_,_,.nil,.nil,_=>⟨_,.nil⟩
 | _,_,_,.cons h q,.cons r rs,c=>by
   rw [b6,Bool.and_eq_true] at c
   obtain ⟨as,z⟩:=cR I e h r c.1
   obtain ⟨bs,z'⟩:=gK I e q rs c.2
   exact ⟨_,.cons z z'⟩
end
end
end Ev
namespace Hy
open PySem PySem.Spec PyProof.Rows L2
open Ev (D Den ax au aR aF Itz Itv wW wM nB nL eqD dX cR ck iz)
section
variable {X:Cx} {C:Bool} {τ:List Sl} {x y z:D} {a b e c tg it elt:Expr} {es ifs:List Expr} {pos p q:Pos} {k:Nat} {s:Sl} {N:Po} {rest body:List Stmt} {ds xs ys:List D} {i j:Int} {scope:Scope}
theorem oW (M:Nat->Bool->List Sl->Prop) (B:Bk X k) (h0:∃ n t,M n t τ) (hc:∀ n t τ',M n t τ'->PT X c (dT X.K τ' t)) (hb:∀ n τ',M n true τ'->PSs X body (dS X.K τ' { N with nx:=λτ2=>∃ m t,m < n/\M m t τ2,ct:=λτ2=>∃ m t,m < n/\M m t τ2,bk:=λ_=>False }))
   (hr:∀ n τ',M n false τ'->PSs X rest (dS X.K τ' N)):PSs X (.While c body [] pos :: rest) (dS X.K τ N):=by
 have hc':PT X c λσ H Q=>∃ n t τ',M n t τ'/\dT X.K τ' t σ H Q:=λpins s σ H Q I ⟨n,t,τ',m,q⟩=>hc n t τ' m pins s σ H Q I q
 have hb':PSs X body λD σ H=>∃ n τ',M n true τ'/\dS X.K τ' { N with nx:=λτ2=>∃ m t,m < n/\M m t τ2,ct:=λτ2=>∃ m t,m < n/\M m t τ2,bk:=λ_=>False } D σ H:=λpins s σ H D I ⟨n,τ',m,q⟩=>hb n τ' m pins s σ H D I q
 refine ba (M:=λτ'=>∃ n,M n false τ') (psW (tH B.po hc' hb') λD σ H ⟨A,H₀,B,S,Me⟩=>⟨λm σ' H'=>∃ t τ' B',M m t τ'/\Sta X.K A H₀ τ' B' σ' H',?_,?_⟩) λτ' h=>let ⟨n,h⟩:=h; hr n τ' h
 · obtain ⟨n,t,h0⟩:=h0
   exact ⟨n,t,τ,B,h0,S⟩
 rintro m σ' H' ⟨t,τ',B',hM,S'⟩
 refine ⟨m,t,τ',hM,A,H₀,B',S',λH1 e1=>?_⟩
 cases t with
 | false=>exact qS (Me.nx τ' B' σ' H1 ⟨m,hM⟩ (S'.mono e1))
 | true=>
   refine oy ⟨λσ2 H2=>∃ τ2 B2,(∃ n t,n < m/\M n t τ2)/\Sta X.K A H₀ τ2 B2 σ2 H2,λσ2 H2 ⟨τ2,B2,⟨n,t,l,q⟩,S2⟩=>⟨n,l,t,τ2,B2,q,S2⟩,m,τ',hM,A,H₀,B',S'.mono e1,?_⟩
   exact ⟨λτ2 B2 σ2 H2 m S2=>⟨τ2,B2,m,S2⟩,λ_ _ _ _ z=>z.elim,λτ2 B2 σ2 H2 m S2=>⟨τ2,B2,m,S2⟩,Me.rt,Me.xc⟩
noncomputable def gA (xs ys:List D):List D:=(xs.zip ys).map λp=>.tup [p.1,p.2]
theorem cq:(gA xs ys).length=min xs.length ys.length:=by simp [gA]
theorem kP (i:Nat) (h:i < (gA xs ys).length):(gA xs ys)[i]=.tup [xs.getD i .non,ys.getD i .non]:=by
 rw [cq] at h
 simp [gA,show i < xs.length by omega,show i < ys.length by omega]
theorem yf {K:PySem.W.Frag} {G:Hp} {a b:Addr} {vs ws:List V} (h:SqL K G a vs) (r:ax K G vs xs) (h':SqL K G b ws) (r':ax K G ws ys):Yl K (Itz K a b) (gA xs ys) G:=by
 intro H sg
 have hl:=r.length
 have hl':=r'.length
 refine ⟨λi hi=>⟨vs,ws,aF sg h,aF sg h',by rw [cq] at hi; omega⟩,λi hi=>?_⟩
 have hi':=hi
 rw [cq] at hi'
 obtain ⟨v,hv,dv⟩:=r.get (List.getElem?_eq_getElem (show i < xs.length by omega))
 obtain ⟨w,hw,dw⟩:=r'.get (List.getElem?_eq_getElem (show i < ys.length by omega))
 refine ⟨⟨vs,ws,v,w,aF sg h,aF sg h',hv,hw⟩,λy H' ⟨p,x1,x2,hp,e0,e1,e2,e3⟩=>?_⟩
 subst e0 e1
 have ex:x1=v:=by have:=e2 vs (aF sg h); rw [hv] at this; exact (Option.some.inj this).symm
 have ey:x2=w:=by have:=e3 ws (aF sg h'); rw [hw] at this; exact (Option.some.inj this).symm
 subst ex ey
 refine ⟨au hp _,λM hM sv=>?_⟩
 rw [kP,show xs.getD i .non=xs[i] by simp [show i < xs.length by omega],show ys.getD i .non=ys[i] by simp [show i < ys.length by omega]]
 have up:=sv.trans (av (au hp (.tup [x1,x2])) λ_ z=>z)
 exact .tup (SqT.of (kI hM hp)) (.cons (dv.mono up) (.cons (dw.mono up) .nil))
theorem rb {ts:List Expr} {m:Nat} {tp:Pos} (B:Bk X k) (h:PE X a (dE X.K true τ (.d (.lst xs)))) (h':PE X b (dE X.K true τ (.d (.lst ys)))) (hg:Gl X "zip":=by rfl) (hs:starEach [a,b] X.env=(false,eval a X.env) :: starEach [b] X.env:=by rfl) (hs2:starEach [b] X.env=[(false,eval b X.env)]:=by rfl) :
   PI X (.Tuple ts m tp) (.Call (.Name "zip" p) [a,b] [] pos) (dI X.K τ (gA xs ys)):=
 piW (nB B.calm hg (B.blt _ (by decide)) (ae h (ae h' ag hs2) hs) hs hs2) λσ H R ⟨A,H₀,B,S,k⟩=>cF S λvs H1 e1 d1=>by
   cases d1 with
   | cons d r=>
     cases r with
     | cons d' r=>
       cases r
       cases d with
       | lst h r=>cases d' with
         | lst h' r'=>exact ⟨_,_,rfl,⟨_,aF aN h⟩,⟨_,aF aN h'⟩,k _ H1 e1 (yf h r h' r')⟩
theorem wm {K:PySem.W.Frag} {G:Hp} {a:Addr} {vs:List V} (h:SqL K G a vs) (r:ax K G vs xs):Yl K (Itv K a vs.length) xs.reverse G:=by
 intro H sg
 have hl:=r.length
 refine ⟨λi hi=>by rw [List.length_reverse] at hi; show vs.length<=i; omega,λi hi=>?_⟩
 rw [List.length_reverse] at hi
 obtain ⟨v,hv,dv⟩:=r.get (List.getElem?_eq_getElem (show xs.length - 1 - i < xs.length by omega))
 rw [<- hl] at hv
 refine ⟨⟨by omega,vs,v,aF sg h,hv⟩,λx H' ⟨e1,e2⟩=>?_⟩
 subst e1
 have ex:x=v:=by have:=e2 vs (aF sg h); rw [hv] at this; exact (Option.some.inj this).symm
 subst ex
 refine ⟨ak.refl _,λM _ sv=>?_⟩
 rw [List.getElem_reverse]
 exact dv.mono sv
theorem zM (B:Bk X k) (h:PE X a (dE X.K true τ (.d (.lst xs)))) (hg:Gl X "reversed":=by rfl) (hs:starEach [a] X.env=[(false,eval a X.env)]:=by rfl):PI X tg (.Call (.Name "reversed" p) [a] [] pos) (dI X.K τ xs.reverse):=
 piW (nL B.calm hg (B.blt _ (by decide)) (ae h ag hs) hs) λσ H R ⟨A,H₀,B,S,k⟩=>cF S λvs H1 e1 d1=>by
   cases d1 with
   | cons d r=>
     cases r
     cases d with
     | lst h r=>exact ⟨_,_,rfl,aF aN h,k _ H1 e1 (wm h r)⟩
theorem wN (hu:X.A.units + 64 < cLine):OpR X (compareOp .Eq) (λx y H Q=>∃ G d e,ak G H/\Den X.K G x d/\Den X.K G y e/\dX d/\dX e/\Q (.bl (eqD d e)) H):=by
 intro pins s σ H x y v u Q I rx ry ⟨G,d,e,sg,dx,dy,o1,o2,q⟩
 obtain ⟨as,r1⟩:=cR I sg dx rx o1.1
 obtain ⟨bs,r2⟩:=cR I sg dy ry o2.1
 exact eq_dataH r1 r2 (ck o1) (ck o2) hu ⟨.bl _,H,I,by rw [iz]; rfl,q⟩
theorem xy (hu:X.A.units + 64 < cLine):OpR X (compareOp .NotEq) (λx y H Q=>∃ G d e,ak G H/\Den X.K G x d/\Den X.K G y e/\dX d/\dX e/\Q (.bl (!eqD d e)) H):=by
 intro pins s σ H x y v u Q I rx ry ⟨G,d,e,sg,dx,dy,o1,o2,q⟩
 obtain ⟨as,r1⟩:=cR I sg dx rx o1.1
 obtain ⟨bs,r2⟩:=cR I sg dy ry o2.1
 exact ne_dataH r1 r2 (ck o1) (ck o2) hu ⟨.bl _,H,I,by rw [iz]; rfl,q⟩
theorem vS (B:Bk X k) (h1:dX x) (h2:dX y):bP X (compareOp .Eq) x y (.bl (eqD x y)):=⟨_,wN B.room.units,λM v w H Q _ d1 d2 q=>⟨_,x,y,aN,d1,d2,h1,h2,q _ H (ak.refl _) .bl⟩⟩
theorem v5 (B:Bk X k) (h1:dX x) (h2:dX y):bP X (compareOp .NotEq) x y (.bl (!eqD x y)):=⟨_,xy B.room.units,λM v w H Q _ d1 d2 q=>⟨_,x,y,aN,d1,d2,h1,h2,q _ H (ak.refl _) .bl⟩⟩
variable {u v:Str}
theorem jZ:bP X (compareOp .Eq) (.str u) (.str v) (.bl (decide (u=v))):=⟨_,vJ,λ_ v' w H Q _ d1 d2 k=>by
 cases d1
 cases d2
 exact ⟨rfl,by rw [show decide (V.str u=V.str v)=decide (u=v) by simp]; exact k _ H (ak.refl _) .bl⟩⟩
theorem vW:bP X (compareOp .NotEq) (.str u) (.str v) (.bl (!decide (u=v))):=⟨_,vB,λ_ v' w H Q _ d1 d2 k=>by
 cases d1
 cases d2
 exact ⟨rfl,by rw [show decide (V.str u=V.str v)=decide (u=v) by simp]; exact k _ H (ak.refl _) .bl⟩⟩
theorem yJ {us:List Str}:bP X (compareOp .In) (.str u) (.tup (us.map .str)) (.bl (us.any λw=>decide (w=u))):=⟨_,qv,λM x' y' H Q _ d1 d2 q=>by
 cases d1
 cases d2 with
 | @tup ad vs _ h r=>
   have ev:vs=us.map V.str:=by
     clear h q
     induction us generalizing vs with
     | nil=>cases r; rfl
     | cons w ws ih=>
       cases r with
       | cons d r=>cases d; rw [ih r]; rfl
   subst ev
   refine ⟨_,_,rfl,.inr (aR aN h),rfl,?_,?_⟩
   · rw [List.all_map,List.all_eq_true]; intro _ _; rfl
   · rw [if_neg Bool.false_ne_true]
     unfold inV
     rw [List.any_map]
     exact q _ H (ak.refl _) (by
       have e:(us.any λw=>decide (w=u))=us.any ((λy=>eqV y (V.str u)) ∘ V.str):=by
         congr 1
       rw [e]; exact .bl)⟩
theorem g8:∀ {bs:List Bool} {us:List Value},Vals (bs.map V.bl) us->us=bs.map Value.bool
 | [],_,h=>by cases h; rfl
 | b :: bs,_,h=>by
   cases h with
   | cons rv rs=>rw [g8 rs,show _=Value.bool b from rv]; rfl
theorem t4 (hc:X.calm=true):dJ X (.builtin "all") (λxs H Q=>∃ (p:Addr) (bs:List Bool),xs=[.ref p]/\SqL X.K H p (bs.map V.bl)/\Q (.bl (bs.all id)) H):=by
 intro pins s σ H xs us Q I r q
 obtain ⟨p,bs,rfl,h,q⟩:=q
 obtain ⟨u,rfl,ru⟩:∃ u,us=[u]/\RelV (.ref p) u:=by
   cases r with
   | cons r1 r=>cases r; exact ⟨_,rfl,r1⟩
 cases (show u=Value.ref _ from ru)
 obtain ⟨its,rv,pl,hz⟩:=I.list h
 obtain rfl:=g8 rv
 have lt:∀ a,s.heap.IsList a (bs.map Value.bool).toArray->a ≠ s.heap.objs.size:=λa ⟨o,z,_⟩=>Nat.ne_of_lt (Heap.lt_size z)
 refine call_all_walk (wpAny_pyIter_list pl.isList ⟨_,_,_,_,_,_,λi=>(bs.map Value.bool)[i]? == some (Value.bool true),rfl,Walks.list (A:=X.A.in1) (I.ok.hd hc) _ _ (lt _ pl.isList) (bs.map Value.bool).toArray,⟨⟨_,Heap.get?_push_size _ rfl,rfl,rfl⟩,?_⟩,λi v s' Q' E' hP hQ=>?_,λh' tk hk=>?_⟩)
 · obtain ⟨o,z1,z2⟩:=pl.isList
   exact ⟨o,Heap.get?_push_of_some _ z1,z2⟩
 · have hP':(bs.map Value.bool)[i]?=some v:=by simpa using hP
   obtain ⟨c,_,rfl⟩:=List.mem_map.mp (List.mem_of_getElem? hP')
   refine wpAny_truthy_bool ?_
   have hQ:Q' ((bs.map Value.bool)[i]? == some (Value.bool true)) s':=hQ
   rw [hP'] at hQ
   cases c
   · exact hQ
   · exact hQ
 · refine ⟨.bl (bs.all id),H,I.kept (t':=tk) λb' o z=>?_,?_,q⟩
   · refine hk b' o (λhm=>?_) (Heap.get?_push_of_some _ z)
     have:b'=s.heap.objs.size:=by simpa using hm
     exact absurd (Heap.lt_size z) (by rw [this]; exact Nat.lt_irrefl _)
   · have e:∀ bs:List Bool,bs.all id=(List.range (bs.map Value.bool).toArray.size).all λi=>(bs.map Value.bool)[i]? == some (Value.bool true):=λbs=>by
       rw [List.size_toArray,List.length_map]
       induction bs with
       | nil=>rfl
       | cons b bs ih=>
         rw [List.all_cons,ih,List.length_cons,List.range_succ_eq_map,List.all_cons,List.all_map]
         congr 1
         cases b <;> rfl
     rw [e]; rfl
theorem oO {K:PySem.W.Frag} {H:Hp}:∀ {vs:List V} {bs:List Bool},ax K H vs (bs.map .bl)->vs=bs.map V.bl
 | _,[],h=>by cases h; rfl
 | _,_ :: _,h=>by
   cases h with
   | cons d r=>cases d; rw [oO r]; rfl
theorem j5 (hc:X.calm=true) (bs:List Bool) (hx:xs=bs.map .bl):hX X (.builtin "all") [.lst xs] (.d (.bl (bs.all id))):=⟨_,t4 hc,λM vs H Q _ d q=>by
 subst hx
 cases d with
 | cons d r=>
   cases r
   cases d with
   | lst h r=>
     cases oO r
     exact ⟨_,_,rfl,aF aN h,q _ H [] (ak.refl _) cN (gy .bl)⟩⟩
end
end Hy
namespace Hy
open PySem PySem.Spec PyProof.Rows L2
open Ev (D Den ax au aR aF aE dR cD PTs bT cP)
section
variable {X:Cx} {C:Bool} {τ:List Sl} {x y z:D} {a b e c tg it elt o:Expr} {es ifs:List Expr} {pos p q:Pos} {k:Nat} {s:Sl} {N:Po} {rest body:List Stmt} {ds xs ys:List D} {i j:Int} {scope:Scope}
theorem vv:OpR X (binaryOp .Mult) (λx y H Q=>∃ l k xs,x=.ref l/\y=.int k/\SqL X.K H l xs/\0<=k/\k < 100000/\xs.length * k.toNat<=sizeLine/\∀ p,H p=none->Q (.ref p) (upd H p (.lst (List.replicate k.toNat xs).flatten))):=by
 intro pins s σ H x y v u Q I rx ry h
 obtain ⟨l,k,xs,rfl,rfl,hH,h1,h2,hz,q⟩:=h
 cases rx
 obtain ⟨t,rfl⟩:=ry
 obtain ⟨its,r,pl,_⟩:=I.list hH
 have hl:=r.length
 obtain ⟨⟨cls,dd,data,sl⟩,e,hc,n,hd⟩:=pl.isList
 simp only at hc hd
 subst hc hd
 have hlen:its.toArray.size * k.toNat<=sizeLine:=by rw [List.size_toArray,<- hl]; exact hz
 have hcap:¬ its.toArray.size * k.toNat > (2 ^ 63 - 1) / 8:=by
   have:(sizeLine:Nat)<=(2 ^ 63 - 1) / 8:=by decide
   omega
 have hfit:¬ (!Builtin.List.listFitsIndex k)=true:=by
   rw [fitsIndex_both (by omega) (by omega)]
   exact Bool.false_ne_true
 have hlong:¬ Builtin.List.listTooLong (its.toArray.size * k.toNat)=true:=by
   rw [iX hlen]
   exact Bool.false_ne_true
 have hnew:List.foldl (λx1 x2=>x1++x2) #[] (List.replicate (if its.toArray.isEmpty=true then 0 else k.toNat) its.toArray)=(List.replicate k.toNat its).flatten.toArray:=by
   have f0:∀ m:Nat,List.foldl (λx1 x2=>x1++x2) #[] (List.replicate m its.toArray)=(List.replicate m its).flatten.toArray:=λm=>by
     have:=foldl_rep its m []
     rw [List.nil_append] at this
     exact this
   rw [f0]
   cases its with
   | nil=>simp
   | cons a r'=>rw [if_neg (by simp)]
 refine wpAny_binaryOp_repeat_ref (T:="list") (U:="int") (by decide) ⟨_,e,rfl⟩ (λs'=>typeIs_int s' k t) noFill_list_mul F.fills_int_mul F.slot_int_rmul repeat_list F.slot_int_index.lookup
   (call_meets F.slot_int_rmul (typeIs_int s k t) F.entry_int_rmul (F.args_int_rmul_2 _ _) (lm_int_rmul_list_any k t l its.toArray n dd sl)
     ⟨e,rfl,⟨_,e,rfl⟩,call_meets F.slot_list_mul ⟨_,e,rfl⟩ F.entry_list_mul (F.args_list_mul_2 _ _) (lm_list_mul_any l its.toArray n dd sl k t hfit hcap hlong) ⟨e,?_⟩⟩)
 rw [hnew]
 exact ⟨.ref _,_,I.zj (t':=s.toks) (r.rep k.toNat) (by rw [len_rep,Nat.mul_comm]; exact hz),rfl,q _ I.fresh⟩
theorem oT {K:PySem.W.Frag} {H:Hp} {vs:List V} (h:ax K H vs xs):∀ k:Nat,ax K H (List.replicate k vs).flatten (List.replicate k xs).flatten
 | 0=>.nil
 | k + 1=>by rw [List.replicate_succ,List.replicate_succ,List.flatten_cons,List.flatten_cons]; exact h.append (oT h k)
theorem y8 (ha:PE X a (dE X.K C τ (.d (.lst xs)))) (hb:PE X b (dE X.K C τ (.d (.int j)))) (h0:0<=j) (h1:j < 100000) (hl:xs.length * j.toNat < 1000000):PE X (.BinOp a .Mult b pos) (dE X.K C τ (.o (List.replicate j.toNat xs).flatten)):=peW (q9 vv ha hb) λσ H Q ⟨A,H₀,B,S,k⟩=>
 aH S λv H1 e1 d1=>aH (S.mono e1) λw H2 e2 d2=>by
   cases d2
   cases d1 with
   | lst h1' r1=>
     refine ⟨_,j,_,rfl,rfl,aF (aN.trans e2) h1',h0,h1,by rw [r1.length]; exact Nat.le_of_lt (Nat.lt_trans hl (by decide)),λp hp=>?_⟩
     obtain ⟨z1,z2,z3⟩:=kT (K:=X.K) hp (oT (r1.mono (av e2 λ_ z=>z)) j.toNat)
     exact k _ _ [p] (e1.trans (e2.trans z1)) (λb hb=>⟨(e1.trans e2).free (z2 b hb).1,(z2 b hb).2⟩) z3
noncomputable def dN' (K:PySem.W.Frag) (C:Bool) (τ:List Sl) (ns:List Nd):TA:=λσ H Q=>∃ A H₀ B,Sta K A H₀ τ B σ H/\∀ vs H' bs,ak H H'->Fr H H' bs->bs.Nodup->aO K (hd H' λb=>vw C A B b\/b ∈ bs) H' vs bs ns->Q vs H'
theorem yL:PA X [] (dN' X.K C τ []):=paW di λσ H Q ⟨A,H₀,B,S,k⟩=>k [] H [] (ak.refl _) cN List.nodup_nil .nil
theorem Sta.hide {K:PySem.W.Frag} {A:Addr->Prop} {H₀ H H1:Hp} {B:Nat->List Addr} {σ:L2.St} {b1:List Addr} (S:Sta K A H₀ τ B σ H) (e:ak H H1) (f:Fr H H1 b1):Sta K (λb=>A b\/b ∈ b1) (hd H1 λb=>∃ i,b ∈ B i) τ B σ H1 where
 same:=aN
 len:=S.len
 sl:=λi s h=>(S.sl i s h).mono (λb o z=>by
   obtain ⟨z1,z2⟩:=ao.mp z
   refine ao.mpr ⟨λw=>?_,e _ _ z2⟩
   rcases w with (w | w) | w
   · exact z1 (.inl w)
   · rw [(f b w).1] at z2; cases z2
   · exact z1 (.inr w)) e
 fr:=λi b hb=>by
   cases q:hd H1 (λb=>∃ i,b ∈ B i) b with
   | none=>rfl
   | some o=>exact absurd ⟨i,hb⟩ (ao.mp q).1
 uq:=S.uq
 ad:=λb hb=>by
   rcases hb with z | z
   · obtain ⟨o,q⟩:=S.ad b z
     exact ⟨o,ao.mpr ⟨λ⟨i,w⟩=>(by rw [S.fr i b w] at q; cases q),e _ _ (S.same _ _ q)⟩⟩
   · obtain ⟨w1,o,w2⟩:=f b z
     exact ⟨o,ao.mpr ⟨λ⟨i,w⟩=>(by obtain ⟨o',q⟩:=S.bd i b w; rw [w1] at q; cases q),w2⟩⟩
 bd:=λi b hb=>let ⟨o,q⟩:=S.bd i b hb; ⟨o,e _ _ q⟩
theorem pe {A:Addr->Prop} {B:Nat->List Addr} {b1:List Addr} {b:Addr} (h:vw C A B b\/b ∈ b1):vw C (λb=>A b\/b ∈ b1) B b:=by
 cases C with
 | true=>
   rcases h with (h | h) | h
   · exact .inl (.inl h)
   · exact .inr h
   · exact .inl (.inr h)
 | false=>exact h
theorem sI {n:Nd} {ns:List Nd} (ha:PE X e (dE X.K C τ s)) (hn:uS s=some n) (hr:PA X es (dN' X.K C τ ns)) (hs:starEach (e :: es) X.env=(false,eval e X.env) :: starEach es X.env:=by rfl):PA X (e :: es) (dN' X.K C τ (n :: ns)):=paW (bw ha hr hs) λσ H Q ⟨A,H₀,B,S,k⟩=>
 ⟨A,H₀,B,S,λv H1 b1 e1 f1 h1=>⟨_,_,B,S.hide e1 f1,λvs H2 b2 e2 f2 n2 h2=>by
   obtain ⟨q1,n1⟩:=h1.nd hn
   refine k _ H2 (b1++b2) (e1.trans e2) (λb hb=>?_) (List.nodup_append.mpr ⟨n1,n2,λx hx y hy z=>?_⟩) (.cons (q1.frame ?_ λb hb=>?_) (h2.frame ?_ λ_ _=>rfl))
   · rcases List.mem_append.mp hb with z | z
     · obtain ⟨w1,o,w2⟩:=f1 b z; exact ⟨w1,o,e2 _ _ w2⟩
     · exact ⟨e1.free (f2 b z).1,(f2 b z).2⟩
   · obtain ⟨_,o,w⟩:=f1 x hx; rw [z,(f2 y hy).1] at w; cases w
   · intro b o z
     obtain ⟨z1,z2⟩:=ao.mp z
     refine ao.mpr ⟨λw=>?_,e2 _ _ z2⟩
     rcases w with w | w
     · exact z1 (.inl w)
     · rcases List.mem_append.mp w with w | w
       · exact z1 (.inr w)
       · rw [(f2 b w).1] at z2; cases z2
   · obtain ⟨_,o,w⟩:=f1 b hb
     rw [w,e2 _ _ w]
   · refine av (ak.refl _) λb w=>?_
     rcases w with w | w
     · exact .inl (pe (.inl w))
     · rcases List.mem_append.mp w with w | w
       · exact .inl (pe (.inr w))
       · exact .inr w⟩⟩
theorem wD {K:PySem.W.Frag} {H:Hp} {M:Addr->Prop} {p:Addr} {o:HO} {vs:List V} {bs:List Addr} {ns:List Nd} (hp:H p=none) (d:aO K (hd H λb=>M b\/b ∈ bs) H vs bs ns) (nd:bs.Nodup) :
   aO K (hd (upd H p o) λb=>M b\/b ∈ p :: bs) (upd H p o) vs bs ns/\(p :: bs).Nodup:=by
 have off:∀ b ∈ bs,b ≠ p:=λb hb z=>by obtain ⟨w,q⟩:=d.some_of b hb; rw [z,hp] at q; cases q
 refine ⟨d.frame (λb w z=>?_) λb hb=>aq (off b hb),List.nodup_cons.mpr ⟨λz=>off p z rfl,nd⟩⟩
 obtain ⟨z1,z2⟩:=ao.mp z
 have ne:b ≠ p:=λy=>by rw [y,hp] at z2; cases z2
 refine ao.mpr ⟨λy=>?_,by rw [aq ne]; exact z2⟩
 rcases y with y | y
 · exact z1 (.inl y)
 · rcases List.mem_cons.mp y with y | y
   · exact ne y
   · exact z1 (.inr y)
theorem wF {ns:List Nd} (h:PA X es (dN' X.K C τ ns)) (hl:Nat.ble ns.length 1000=true:=by rfl):PE X (.List es pos) (dE X.K C τ (.n (.l ns))):=peW (nA h) λσ H Q ⟨A,H₀,B,S,k⟩=>
 ⟨A,H₀,B,S,λvs H1 bs e1 f1 n1 h1=>⟨by rw [h1.length]; exact Nat.le_of_lt (gB (Nat.le_of_ble_eq_true hl)),λp hp=>by
   obtain ⟨z1,z2⟩:=wD (o:=.lst vs) hp h1 n1
   exact k _ _ (p :: bs) (e1.trans (au hp _)) (λb hb=>by
     rcases List.mem_cons.mp hb with w | w
     · subst w; exact ⟨e1.free hp,_,aA⟩
     · obtain ⟨w1,o,w2⟩:=f1 b w; exact ⟨w1,o,au hp _ _ _ w2⟩) ⟨z2,_,rfl,.l aA z1⟩⟩⟩
end
section
variable {X:Cx} {C:Bool} {τ τ':List Sl} {x y z:D} {a b e c tg it elt o ix:Expr} {es ifs:List Expr} {pos p q:Pos} {k:Nat} {s:Sl} {N:Po} {rest body:List Stmt} {ds xs ys:List D} {i:Nat} {j:Int} {scope:Scope}
noncomputable def dGs (K:PySem.W.Frag) (τ:List Sl) (xs:List D) (τ':List Sl):TGs:=λvs σ H Q=>∃ A H₀ B,Sta K A H₀ τ B σ H/\ax K (hd H (own A B)) vs xs/\∀ σ' B',Sta K A H₀ τ' B' σ' H->Q σ' H
theorem yn {es:List Expr} {t t':TGs} (h:PGs X es t) (f:∀ v σ H Q,t' v σ H Q->t v σ H Q):PGs X es t':=λpins s σ H v u Q I r q=>h pins s σ H v u Q I r (f v σ H Q q)
theorem sd:PGs X [] (dGs X.K τ [] τ):=yn pE λv σ H Q ⟨A,H₀,B,S,d,k⟩=>by
 cases d
 exact ⟨rfl,k σ B S⟩
theorem dk (i:Nat) {n:Str} (hN:X.N.Nodup) (h:PGs X es (dGs X.K (τ.set i (.d x)) xs τ')) (hi:X.N[i]?=some n:=by rfl) (hx:Loc X.env.scope n:=by first | exact .inl rfl | exact .inr rfl) (hf:X.fn n=true\/X.env.scope.names.lookup n=some .local:=by first | exact .inl rfl | exact .inr rfl | assumption):PGs X (.Name n p :: es) (dGs X.K τ (x :: xs) τ'):=
 yn (iH (gf (i:=i) hN hi hx hf) h) λv σ H Q ⟨A,H₀,B,S,d,k⟩=>by
   cases d with
   | cons d r=>
     have sub:∀ b,own A (upB B i []) b->own A B b:=λb z=>z.elim .inl λ⟨j,z⟩=>(a5 z).elim (λz=>nomatch z.2) λz=>.inr ⟨j,z.2⟩
     exact ⟨_,_,rfl,A,H₀,_,S.set (ak.refl _) (bs:=[]) (λ_ z=>nomatch z) (gy d),r.mono (av (ak.refl _) sub),k⟩
theorem vP {m:Nat} (hc:X.calm=true) (h:PGs X es (dGs X.K τ xs τ')) (hl:(assignEach es X.env).length=xs.length:=by rfl) (hst:(assignEach es X.env).findIdx? (·.1)=none:=by rfl):PG X (.Tuple es m pos) (dG X.K τ (.tup xs) τ'):=
 pgW (rL (n:=xs.length) hc h hl hst) λv σ H Q ⟨A,H₀,B,S,d,k⟩=>by
   cases d with
   | tup h r=>exact ⟨_,_,rfl,aR aN h,r.length,A,H₀,B,S,r,k⟩
theorem xA {m:Nat} (he:PE X e (dE X.K true τ (.d x))) (hg:PG X (.Tuple es m p) (dG X.K τ x τ')) (hr:PSs X rest (dS X.K τ' N)) (hs:swapsWithSole [.Tuple es m p] e pos.line X.env=pure false:=by rfl) (hw:swappedStores [.Tuple es m p] e X.env=pure none:=by rfl)
   (h1:(assignEach [.Tuple es m p] X.env).map (·.2)=[assign (.Tuple es m p) X.env]:=by rfl):PSs X (.Assign [.Tuple es m p] e pos :: rest) (dS X.K τ N):=
 ba (M:=(·=τ')) (psW (sY he hg hs hw h1) λD σ H ⟨A,H₀,B,S,Me⟩=>aH S λv H1 e1 d1=>⟨A,H₀,B,S.mono e1,d1,λσ' B' S'=>Me.nx _ _ _ _ rfl S'⟩) λ_ e=>e ▸ hr
theorem wL (M:Nat->List Sl->Prop) (T:Nat->List Sl->List Sl) (B:Bk X k) (hi:PI X tg it (dI X.K τ xs)) (hg:∀ i (h:i < xs.length) τ',M i τ'->PG X tg (dG X.K τ' xs[i] (T i τ'))) (h0:M 0 τ)
   (hb:∀ i,i < xs.length->∀ τ',M i τ'->PSs X body (dS X.K (T i τ') { N with nx:=M (i + 1),ct:=M (i + 1),bk:=λ_=>False }))
   (hr:∀ τ',M xs.length τ'->PSs X rest (dS X.K τ' N)) (hs:∀ x,foldedSetIterable it X.env x=pure x:=by intro _; rfl):PSs X (.For tg it body [] pos :: rest) (dS X.K τ N):=
 ba (M:=M xs.length) (sE (M:=M) (T:=T) B hi h0 hg (λi h τ' m=>p8 (hb i h τ' m) λD σ H ⟨A,H₀,B,S,Me⟩=>⟨A,H₀,B,S,Me.nx,λ_ _ _ _ z=>z.elim,Me.ct,Me.rt,Me.xc⟩) (λ_ m=>m) hs) hr
theorem Al (T:Nat->List Sl) {f:Nat->D} (B:Bk X k) (hi:PI X tg it (dI X.K τ xs)) (hl:xs.length < 1000000) (hT:∀ i,(T i).length=(a9 τ (bCp X.N scope)++[Sl.un]).length/\∀ (l:Nat) (x:D),(a9 τ (bCp X.N scope)++[Sl.un])[l]?=some (.d x)->(T i)[l]?=some (.d x))
   (hg:∀ i (h:i < xs.length) s H fp,PG (cpX X s H scope fp) tg (dG X.K (a9 τ (bCp X.N scope)++[.un]) xs[i] (T i)))
   (he:∀ i,i < xs.length->∀ s H fp,PE (cpX X s H scope fp) elt (dE X.K true (T i) (.d (f i)))) (hc:bOk X.env.scope scope=true:=by kernel_rfl) (hs:∀ x,foldedSetIterable it X.env x=pure x:=by intro _; rfl) :
   Cmp X elt tg it [] scope τ ((List.range xs.length).map f):=by
 have h:=oj (T:=T) (t:=λ_=>true) (f:=f) (elt:=elt) (ifs:=[]) hc hi hT hg (λi h s H fp=>λpins s' σ H' Q I ⟨A,H₀,B,S,q⟩=>kQ pins s' σ H' Q I (q H' (ak.refl _))) (λi h _ s H fp=>he i h s H fp) hl hs
 rwa [List.filter_eq_self.mpr λ_ _=>rfl] at h
theorem u9 {c:Expr} {t:TT} (h:PT X c t):PTs X [c] t:=λpins s σ H Q I q=>wpAny_tests_one (h pins s σ H Q I q)
theorem rg (j:Nat) {n:Str} {g f:Nat->D} {t:Nat->Bool} (B:Bk X k) (hi:PI X (.Name n p) it (dI X.K τ xs)) (hx:∀ i (h:i < xs.length),xs[i]=g i) (hl:xs.length < 1000000)
   (ht:∀ i,i < xs.length->∀ s H fp,PT (cpX X s H scope fp) c (dT X.K ((a9 τ (bCp X.N scope)++[Sl.un]).set j (.d (g i))) (t i)))
   (he:∀ i,i < xs.length->t i=true->∀ s H fp,PE (cpX X s H scope fp) elt (dE X.K true ((a9 τ (bCp X.N scope)++[Sl.un]).set j (.d (g i))) (.d (f i))))
   (hc:bOk X.env.scope scope=true:=by kernel_rfl) (hu:(a9 τ (bCp X.N scope)++[Sl.un])[j]?=some .un:=by rfl) (hN:(bNm scope++[("#" : Str)])[j]?=some n:=by rfl) (hv:∀ s H fp,Loc (cpX X s H scope fp).env.scope n:=by intro _ _ _; first | exact .inl rfl | exact .inr rfl)
   (hf:∀ s H fp,(cpX X s H scope fp).fn n=true\/(cpX X s H scope fp).env.scope.names.lookup n=some .local:=by intro _ _ _; first | exact .inr rfl | exact .inl rfl) (hs:∀ x,foldedSetIterable it X.env x=pure x:=by intro _; rfl) :
   Cmp X elt (.Name n p) it [c] scope τ (((List.range xs.length).filter t).map f):=by
 refine oj (T:=λi=>(a9 τ (bCp X.N scope)++[Sl.un]).set j (.d (g i))) (t:=t) (f:=f) (elt:=elt) (ifs:=[c]) hc hi (λi=>⟨List.length_set,λl x h=>?_⟩) (λi h s H fp=>?_) (λi h s H fp=>u9 (ht i h s H fp)) he hl hs
 · rw [List.getElem?_set_ne (λz=>by rw [<- z,hu] at h; cases h)]
   exact h
 · rw [hx i h]
   exact vk j (ff hc).2 hN (hv s H fp) (hf s H fp)
structure wc (X:Cx) (elt tg it:Expr) (ifs:List Expr) (scope:Scope) (τ:List Sl) (ns:List Nd):Prop where
 ex:∃ (In:TG->TT->TE->Prop) (caps:List (Option Nat)) (N:List Str) (wi:TI),cD X scope N caps/\PI X tg it wi/\(∀ g tt te,In g tt te->∀ s H fp,PG (aE X s H scope N fp) tg g/\PTs (aE X s H scope N fp) ifs tt/\PE (aE X s H scope N fp) elt te) /\
   ∀ C σ H Q,dE X.K C τ (.n (.l ns)) σ H Q->cP In caps wi σ H Q
 hs:∀ x,foldedSetIterable it X.env x=pure x
theorem zp {ns:List Nd} (h:wc X elt tg it ifs scope τ ns):PE X (.ListComp elt [⟨tg,it,ifs,0⟩] scope pos) (dE X.K C τ (.n (.l ns))):=by
 obtain ⟨In,caps,N,wi,h1,h2,h3,h4⟩:=h.ex
 exact peW (bT h1 h2 h.hs h3) (h4 C)
theorem um {T:Nat->List Sl} {f:Nat->Nd} {S':Nat->Sl} (B:Bk X k) (hc:bOk X.env.scope scope=true) (hi:PI X tg it (dI X.K τ xs)) (hT:∀ i,(T i).length=(a9 τ (bCp X.N scope)++[Sl.un]).length/\∀ (l:Nat) (x:D),(a9 τ (bCp X.N scope)++[Sl.un])[l]?=some (.d x)->(T i)[l]?=some (.d x))
   (hg:∀ i (h:i < xs.length) s H fp,PG (cpX X s H scope fp) tg (dG X.K (a9 τ (bCp X.N scope)++[.un]) xs[i] (T i)))
   (he:∀ i,i < xs.length->∀ s H fp,PE (cpX X s H scope fp) elt (dE X.K true (T i) (S' i))) (hn:∀ i,i < xs.length->uS (S' i)=some (f i)) (hl:xs.length < 1000000) (hs:∀ x,foldedSetIterable it X.env x=pure x:=by intro _; rfl) :
   wc X elt tg it [] scope τ ((List.range xs.length).map f):=by
 obtain ⟨cap,_⟩:=ff hc
 generalize hτ:a9 τ (bCp X.N scope)++[Sl.un]=τb at *
 refine ⟨⟨λg tt te=>g=(λv σ H Q=>∃ (i:Nat) (h:i < xs.length),dG X.K τb xs[i] (T i) v σ H Q)/\tt=(λσ H Q=>Q true H)/\te=(λσ H Q=>∃ i,i < xs.length/\dE X.K true (T i) (S' i) σ H Q),_,_,_,cap,hi,?_,?_⟩,hs⟩
 · rintro g tt te ⟨rfl,rfl,rfl⟩ s H fp
   exact ⟨λpins s' σ H' v u Q I r ⟨i,h,q⟩=>hg i h s H fp pins s' σ H' v u Q I r q,kQ,λpins s' σ H' Q I ⟨i,h,q⟩=>he i h s H fp pins s' σ H' Q I q⟩
 rintro C σ H Q ⟨A,H₀,B,S,kk⟩
 refine ⟨A,H₀,B,S,λJ H1 e1 yl=>⟨_,_,_,⟨rfl,rfl,rfl⟩,λD hD=>?_⟩⟩
 have S1:=S.mono e1
 have flat:∀ (l:Nat) (s:Sl),τb[l]?=some s->s=.un\/∃ x,s=.d x:=λl s h=>by
   rw [<- hτ] at h
   rcases List.mem_append.mp (List.mem_of_getElem? h) with z | z
   · unfold a9 at z
     obtain ⟨o,_,ho⟩:=List.mem_map.mp z
     split at ho
     · split at ho
       · exact .inr ⟨_,ho.symm⟩
       · exact .inl ho.symm
     · exact .inl ho.symm
   · exact .inl (List.mem_singleton.mp z)
 have slots:∀ {σ':L2.St} {H':Hp} {rs:List Addr},ak H1 H'->(∃ o,H' D=some o)->(∀ b ∈ rs,∃ o,H' b=some o)->σ'.length=τb.length->(∀ (l:Nat) (s:Sl),τb[l]?=some s->bJ X.K (hd H' λb=>own A B b\/b=D\/b ∈ rs) H' (σ'[l]?).join [] s)->Sta X.K (λb=>own A B b\/b=D\/b ∈ rs) H' τb (λ_=>[]) σ' H':=λ{σ' H' rs} e1 e2 e5 e3 e4=>
   ⟨ak.refl _,e3,λl s h=>(e4 l s h).mono (av (ak.refl _) λ_ z=>z.elim id λ⟨_,z⟩=>(nomatch z)) (ak.refl _),λ_ _ z=>(nomatch z),λ_ _ _ z=>(nomatch z),λb z=>z.elim (λz=>let ⟨o,q⟩:=S1.dm b z; ⟨o,e1 _ _ q⟩) λz=>z.elim (λz=>z ▸ e2) (e5 b),λ_ _ z=>(nomatch z)⟩
 refine ⟨λi m σ' H'=>m=xs.length - i/\i<=xs.length/\ak H1 H'/\(∃ vs rs,H' D=some (.lst vs)/\vs.length<=i/\aO X.K (hd H' λb=>own A B b\/b=D\/b ∈ rs) H' vs rs ((List.range i).map f)/\(D :: rs).Nodup/\(∀ b ∈ rs,H1 b=none) /\
   σ'.length=τb.length/\∀ (l:Nat) (s:Sl),τb[l]?=some s->bJ X.K (hd H' λb=>own A B b\/b=D\/b ∈ rs) H' (σ'[l]?).join [] s),⟨xs.length,rfl,Nat.zero_le _,au hD _,[],[],aA,Nat.le_refl _,.nil,by simp,λ_ z=>(nomatch z),?_,λl s h=>?_⟩,?_⟩
 · rw [<- hτ]; unfold dR a9; rw [List.length_append,List.length_append,List.length_map,List.length_map]; rfl
 · have hv:ak (hd H (own A B)) (hd (upd H1 D (.lst [])) λb=>own A B b\/b=D\/b ∈ ([]:List Addr)):=λb o z=>by
     obtain ⟨z1,z2⟩:=ao.mp z
     have z2:=e1 _ _ z2
     have ne:b ≠ D:=λz=>by rw [z,hD] at z2; cases z2
     exact ao.mpr ⟨λy=>y.elim z1 λy=>y.elim ne λy=>(nomatch y),by rw [aq ne]; exact z2⟩
   rcases flat l s h with rfl | ⟨x,rfl⟩
   · rfl
   · rw [<- hτ] at h
     have hlt:l < (bCp X.N scope).length:=by
       rcases Nat.lt_or_ge l (bCp X.N scope).length with h' | h'
       · exact h'
       · exfalso
         rw [List.getElem?_append_right (by unfold a9; rw [List.length_map]; exact h')] at h
         cases e:l - (a9 τ (bCp X.N scope)).length with
         | zero=>rw [e] at h; cases h
         | succ n=>rw [e] at h; cases h
     rw [List.getElem?_append_left (by unfold a9; rw [List.length_map]; exact hlt)] at h
     rw [List.getElem?_append_left (by unfold dR; rw [List.length_map]; exact hlt)]
     unfold a9 at h
     unfold dR
     rw [List.getElem?_map] at h ⊢
     cases e:(bCp X.N scope)[l]? with
     | none=>rw [e] at h; cases h
     | some o=>
       rw [e] at h
       cases o with
       | none=>cases h
       | some i=>
         simp only [Option.map_some,Option.some.injEq] at h
         split at h
         · rename_i x' hx'
           cases h
           obtain ⟨_,u,eu,d⟩:=S.sl i _ hx'
           exact ⟨rfl,u,by simpa using eu,d.mono hv⟩
         · cases h
 rintro i m σ' H' ⟨rfl,hi,e2,vs,rs,hv1,hv2,hv3,hnd,hfr,hlen,hsl⟩
 obtain ⟨y1,y2⟩:=yl H' (aN.trans e2)
 have rsd:∀ b ∈ rs,∃ o,H' b=some o:=hv3.some_of
 by_cases hlt:i < xs.length
 · obtain ⟨g,y⟩:=y2 i hlt
   refine .inr ⟨g,λx H2 hy=>?_⟩
   obtain ⟨e3,dx⟩:=y x H2 hy
   have S2:=slots e2 ⟨_,hv1⟩ rsd hlen hsl
   have o0:∀ b,own (λb=>own A B b\/b=D\/b ∈ rs) (λ_=>([]:List Addr)) b->own A B b\/b=D\/b ∈ rs:=λb z=>z.elim id λ⟨_,z⟩=>(nomatch z)
   have dx':=dx _ S2.dm (λb o z=>by
     obtain ⟨z1,z2⟩:=ao.mp z
     exact ao.mpr ⟨λy=>(o0 b y).elim z1 λy=>y.elim (λy=>(by rw [y,hD] at z2; cases z2)) λy=>(by rw [hfr b y] at z2; cases z2),e2 _ _ z2⟩)
   refine ⟨i,hlt,_,_,_,S2.mono e3,dx',λσ2 B2 S3=>?_⟩
   refine oy ⟨i,hlt,_,_,_,S3,λv H5 bs e5 hf5 d5=>?_⟩
   obtain ⟨nv,ndv⟩:=d5.nd (hn i hlt)
   have e6:=e3.trans e5
   have hv5:=e6 _ _ hv1
   have bsD:∀ b ∈ bs,b ≠ D:=λb hb z=>by have:=(hf5 b hb).1; rw [z,e3 _ _ hv1] at this; cases this
   have bsR:∀ b ∈ bs,b ∉ rs:=λb hb z=>by obtain ⟨o,q⟩:=rsd b z; have:=(hf5 b hb).1; rw [e3 _ _ q] at this; cases this
   refine ⟨vs,xs.length - (i + 1),hv5,Nat.lt_trans (Nat.lt_of_le_of_lt hv2 (Nat.lt_trans hlt hl)) (by decide),by omega,rfl,hlt,?_,vs++[v],rs++bs,aA,by rw [List.length_append]; exact Nat.succ_le_succ hv2,?_,?_,?_,S3.len.trans (hT i).1,λl s h=>?_⟩
   · intro b o z
     have ne:b ≠ D:=λy=>by rw [y,hD] at z; cases z
     rw [aq ne]
     exact e6 _ _ (e2 _ _ z)
   · rw [List.range_succ,List.map_append]
     have sm1:ak (hd H5 λb=>vw true (λb=>own A B b\/b=D\/b ∈ rs) B2 b\/b ∈ bs) (hd (upd H5 D (.lst (vs++[v]))) λb=>own A B b\/b=D\/b ∈ rs++bs):=λb o z=>by
       obtain ⟨z1,z2⟩:=ao.mp z
       refine ao.mpr ⟨λy=>z1 ?_,by rw [aq (λy:b=D=>z1 (.inl (.inl (.inr (.inl y)))))]; exact z2⟩
       rcases y with y | y | y
       · exact .inl (.inl (.inl y))
       · exact .inl (.inl (.inr (.inl y)))
       · exact (List.mem_append.mp y).elim (λy=>.inl (.inl (.inr (.inr y)))) .inr
     have sm2:ak (hd H' λb=>own A B b\/b=D\/b ∈ rs) (hd (upd H5 D (.lst (vs++[v]))) λb=>own A B b\/b=D\/b ∈ rs++bs):=λb o z=>by
       obtain ⟨z1,z2⟩:=ao.mp z
       refine ao.mpr ⟨λy=>?_,by rw [aq (λy:b=D=>z1 (.inr (.inl y)))]; exact e6 _ _ z2⟩
       rcases y with y | y | y
       · exact z1 (.inl y)
       · exact z1 (.inr (.inl y))
       · rcases List.mem_append.mp y with y | y
         · exact z1 (.inr (.inr y))
         · have:=(hf5 b y).1; rw [e3 _ _ z2] at this; cases this
     refine aO.snoc (nv.frame sm1 λb hb=>aq (bsD b hb)) (hv3.frame sm2 λb hb=>?_)
     obtain ⟨o,q⟩:=rsd b hb
     rw [aq (λz:b=D=>(List.nodup_cons.mp hnd).1 (by rw [<- z]; exact hb)),e6 _ _ q,q]
   · obtain ⟨n1,n2⟩:=List.nodup_cons.mp hnd
     refine List.nodup_cons.mpr ⟨λz=>?_,List.nodup_append.mpr ⟨n2,ndv,λx hx y hy z=>bsR y hy (z ▸ hx)⟩⟩
     exact (List.mem_append.mp z).elim n1 λz=>bsD D z rfl
   · intro b hb
     rcases List.mem_append.mp hb with z | z
     · exact hfr b z
     · exact (e2.trans e3).free (hf5 b z).1
   · rcases flat l s h with rfl | ⟨x,rfl⟩
     · rfl
     · obtain ⟨_,u,eu,d⟩:=S3.sl l _ ((hT i).2 l x h)
       refine ⟨rfl,u,eu,d.mono λb o z=>?_⟩
       obtain ⟨z1,z2⟩:=ao.mp z
       refine ao.mpr ⟨λy=>?_,by rw [aq (λy:b=D=>z1 (.inl (.inr (.inl y))))]; exact e5 _ _ z2⟩
       rcases y with y | y | y
       · exact z1 (.inl (.inl y))
       · exact z1 (.inl (.inr (.inl y)))
       · rcases List.mem_append.mp y with y | y
         · exact z1 (.inl (.inr (.inr y)))
         · rw [(hf5 b y).1] at z2; cases z2
 · have e:i=xs.length:=by omega
   subst e
   refine .inl ⟨y1 _ (Nat.le_refl _),kk _ _ (D :: rs) (e1.trans e2) (λb hb=>?_) ⟨hnd,_,rfl,.l hv1 (hv3.frame (av (ak.refl _) λb z=>?_) λ_ _=>rfl)⟩⟩
   · rcases List.mem_cons.mp hb with rfl | z
     · exact ⟨e1.free hD,_,hv1⟩
     · exact ⟨e1.free (hfr b z),rsd b z⟩
   · rcases z with z | z
     · exact .inl (iM z)
     · exact .inr ((List.mem_cons.mp z).elim .inl .inr)
theorem Ao (j:Nat) {n:Str} {g:Nat->D} {f:Nat->Nd} {S':Nat->Sl} (B:Bk X k) (hi:PI X (.Name n p) it (dI X.K τ xs)) (hx:∀ i (h:i < xs.length),xs[i]=g i) (hl:xs.length < 1000000)
   (he:∀ i,i < xs.length->∀ s H fp,PE (cpX X s H scope fp) elt (dE X.K true ((a9 τ (bCp X.N scope)++[Sl.un]).set j (.d (g i))) (S' i))) (hn:∀ i,i < xs.length->uS (S' i)=some (f i))
   (hc:bOk X.env.scope scope=true:=by kernel_rfl) (hu:(a9 τ (bCp X.N scope)++[Sl.un])[j]?=some .un:=by rfl) (hN:(bNm scope++[("#" : Str)])[j]?=some n:=by rfl) (hv:∀ s H fp,Loc (cpX X s H scope fp).env.scope n:=by intro _ _ _; first | exact .inl rfl | exact .inr rfl)
   (hf:∀ s H fp,(cpX X s H scope fp).fn n=true\/(cpX X s H scope fp).env.scope.names.lookup n=some .local:=by intro _ _ _; first | exact .inr rfl | exact .inl rfl) (hs:∀ x,foldedSetIterable it X.env x=pure x:=by intro _; rfl) :
   wc X elt (.Name n p) it [] scope τ ((List.range xs.length).map f):=by
 refine um (T:=λi=>(a9 τ (bCp X.N scope)++[Sl.un]).set j (.d (g i))) B hc hi (λi=>⟨List.length_set,λl x h=>?_⟩) (λi h s H fp=>?_) he hn hl hs
 · rw [List.getElem?_set_ne (λz=>by rw [<- z,hu] at h; cases h)]
   exact h
 · rw [hx i h]
   exact vk j (ff hc).2 hN (hv s H fp) (hf s H fp)
end
end Hy
namespace K66
open PySem PySem.Spec PyProof.Rows L2 Hy
open Ev (D Den ax aM aK)
noncomputable def frD (q:Rat):D:=.tup [.int q.num,.int (q.den:Nat)]
theorem e7 (x:Rat):x * (((x.den:Nat):Int):Rat)=(x.num:Rat):=by
 have h:mkRat x.num x.den=x:=by rw [<- Rat.normalize_eq_mkRat x.den_nz]; exact Rat.normalize_self x
 rw [Rat.mkRat_eq_div] at h
 have hd:((x.den:Nat):Rat) ≠ 0:=λz=>x.den_nz (Rat.natCast_eq_zero_iff.mp z)
 rw [Rat.intCast_natCast]
 conv=>lhs; lhs; rw [<- h]
 exact Rat.div_mul_cancel hd
theorem cG {t b:Int} {x:Rat} (hb:0 < b) (h:(t:Rat)=x * (b:Rat)):x.num=t / (Int.gcd t b:Int)/\((x.den:Nat):Int)=b / (Int.gcd t b:Int):=by
 have hb0:((b.toNat:Nat):Rat) ≠ 0:=λz=>by have:=Rat.natCast_eq_zero_iff.mp z; omega
 have hbb:((b:Int):Rat)=((b.toNat:Nat):Rat):=by rw [<- Rat.intCast_natCast,Int.toNat_of_nonneg (by omega)]
 have e:x=mkRat t b.toNat:=by
   rw [Rat.mkRat_eq_div,h,hbb,Rat.mul_div_cancel hb0]
 have g:b.toNat.gcd t.natAbs=Int.gcd t b:=by
   rw [Int.gcd,Nat.gcd_comm,show b.natAbs=b.toNat by omega]
 have nz:¬ b.toNat=0:=by omega
 constructor
 · rw [e,Rat.num_mkRat,if_neg nz,g]
 · rw [e,Rat.den_mkRat,if_neg nz,g,Int.natCast_ediv,Int.toNat_of_nonneg (by omega)]
theorem den_pos (q:Rat):0 < ((q.den:Nat):Int):=by have:=q.den_pos; omega
theorem k5 {b:Int} (hb:0 < b):(b:Rat) ≠ 0:=λz=>by have:=Rat.intCast_eq_zero_iff.mp z; omega
noncomputable def Bd (n:Nat) (i:Int):Prop:=i.natAbs < 2 ^ n
theorem Bd.mono {m n:Nat} {i:Int} (h:Bd m i) (hm:m<=n):Bd n i:=Nat.lt_of_lt_of_le h (Nat.pow_le_pow_right (by decide) hm)
theorem Bd.log {n:Nat} {i:Int} (h:Bd n i) (hn:0 < n):i.natAbs.log2 < n:=by
 rcases Nat.eq_zero_or_pos i.natAbs with z | z
 · rw [z]; exact hn
 · exact (Nat.log2_lt (by omega)).mpr h
theorem Bd.mul {m n:Nat} {i j:Int} (h:Bd m i) (g:Bd n j):Bd (m + n) (i * j):=by
 unfold Bd at *
 rw [Int.natAbs_mul,Nat.pow_add]
 rcases Nat.eq_zero_or_pos j.natAbs with z | z
 · rw [z,Nat.mul_zero]; exact Nat.mul_pos (Nat.two_pow_pos m) (Nat.two_pow_pos n)
 · exact Nat.lt_of_lt_of_le (Nat.mul_lt_mul_of_pos_right h z) (Nat.mul_le_mul_left _ (Nat.le_of_lt g))
theorem Bd.aM {m n:Nat} {i j:Int} (h:Bd m i) (g:Bd n j) (hm:m<=1000000) (hn:n<=1000000):aM i j:=
 .inr (.inr ⟨(h.mono (Nat.le_succ_of_le hm)).log (by omega) |> λz=>by
   rcases Nat.eq_zero_or_pos i.natAbs with q | q
   · rw [q]; decide
   · exact Nat.lt_of_lt_of_le ((Nat.log2_lt (by omega)).mpr h) hm,by
   rcases Nat.eq_zero_or_pos j.natAbs with q | q
   · rw [q]; decide
   · exact Nat.lt_of_lt_of_le ((Nat.log2_lt (by omega)).mpr g) hn⟩)
theorem Bd.aK {n:Nat} {j:Int} (h:Bd n j) (h0:j ≠ 0) (hn:n<=9000):aK j:=⟨h0,Nat.lt_of_lt_of_le ((Nat.log2_lt (by omega)).mpr h) hn⟩
theorem Bd.of_dvd {n:Nat} {i j:Int} (h:Bd n j) (hd:i ∣ j) (h0:j ≠ 0):Bd n i:=Nat.lt_of_le_of_lt (Nat.le_of_dvd (by omega) (Int.natAbs_dvd_natAbs.mpr hd)) h
theorem Bd.ediv {n:Nat} {i:Int} (h:Bd n i) (j:Int):Bd n (i / j):=Nat.lt_of_le_of_lt (Int.natAbs_ediv_le_natAbs i j) h
theorem Bd.gcd {n:Nat} {i j:Int} (h:Bd n j) (h0:j ≠ 0):Bd n (Int.gcd i j:Int):=h.of_dvd (Int.gcd_dvd_right ..) h0
theorem oz {i j:Int} (h0:j ≠ 0):(Int.gcd i j:Int) ≠ 0:=λz=>h0 (by have:=Int.gcd_eq_zero_iff.mp (Int.ofNat_eq_zero.mp z); exact this.2)
theorem fT {i j:Int} (t:Int):t.fdiv (Int.gcd i j:Int)=t / (Int.gcd i j:Int):=Int.fdiv_eq_ediv_of_nonneg _ (Int.natCast_nonneg _)
structure Sq (n:Nat) (q:Rat):Prop where
 num:Bd n q.num
 den:Bd n (q.den:Nat)
theorem Sq.mono {m n:Nat} {q:Rat} (h:Sq m q) (hm:m<=n):Sq n q:=⟨h.num.mono hm,h.den.mono hm⟩
theorem Sq.cG {n:Nat} {t b:Int} {x:Rat} (hb:0 < b) (h:(t:Rat)=x * (b:Rat)) (h1:Bd n t) (h2:Bd n b):Sq n x:=by
 obtain ⟨e1,e2⟩:=K66.cG hb h
 exact ⟨by rw [e1]; exact h1.ediv _,by rw [e2]; exact h2.ediv _⟩
noncomputable def whl (x:D):Bool:=jR .int x && !jR .bool x
noncomputable def bR (ds:List D) (r:Sl):Prop:=∃ x,ds=[x]/\r=.d (.bl (whl x))
noncomputable def whw (x:D):Bool:=jR .int x && !jR .bool x
noncomputable def cY (ds:List D) (r:Sl):Prop:=∃ x,ds=[x]/\r=.d (.bl (whw x))
noncomputable def b7 (ds:List D) (r:Sl):Prop:=∃ i l m:Int,ds=[.int i,.int l,.int m]/\r=.d (.bl (decide (l<=i) && decide (i<=m)))
noncomputable def aT (ds:List D) (r:Sl):Prop:=∃ a b:Int,ds=[.int a,.int b]/\r=.d (.int (Int.gcd a b:Int))
theorem gm (i:Int):uK i=(i.natAbs:Int):=by unfold uK; omega
noncomputable def cB (ds:List D) (r:Sl):Prop:=∃ a b:Int,ds=[.int a,.int b]/\r=.d (.int (Int.gcd a b:Int))
noncomputable def qh:D->Bool
 | .tup [.int a,.int b]=>decide (1<=b) && decide ((Int.gcd a b:Int)=1)
 | _=>false
theorem uN (q:Rat):qh (frD q)=true:=by
 have h1:=den_pos q
 have h2:Int.gcd q.num (q.den:Nat)=1:=q.reduced
 show (decide ((1:Int)<=(q.den:Nat)) && decide ((Int.gcd q.num (q.den:Nat):Int)=1))=true
 rw [h2,decide_eq_true (show (1:Int)<=(q.den:Nat) by omega)]
 rfl
theorem rQ {xs:List D} (h:xs.length ≠ 2):qh (.tup xs)=false:=by
 unfold qh
 split
 · rename_i e; cases e; exact absurd rfl h
 · rfl
noncomputable def cJ (ds:List D) (r:Sl):Prop:=∃ x,ds=[x]/\r=.d (.bl (qh x))
noncomputable def bM (ds:List D) (r:Sl):Prop:=∃ (t b:Int) (q:Rat),ds=[.int t,.int b]/\0 < b/\Bd 8999 b/\(t:Rat)=q * (b:Rat)/\r=.d (frD q)
noncomputable def fI (ds:List D) (r:Sl):Prop:=∃ (t b:Int) (q:Rat),ds=[.int t,.int b]/\0 < b/\Bd 8999 b/\(t:Rat)=q * (b:Rat)/\r=.d (frD q)
noncomputable def eO (ds:List D) (r:Sl):Prop:=∃ (t b:Int) (q:Rat),ds=[.int t,.int b]/\0 < b/\Bd 8999 b/\(t:Rat)=q * (b:Rat)/\r=.d (frD q)
noncomputable def gN (ds:List D) (r:Sl):Prop:=∃ (m n:Nat) (p q:Rat),ds=[frD p,frD q]/\Sq m p/\Sq n q/\m + n<=8999/\r=.d (frD (p * q))
theorem mD (p q:Rat):((p.num * q.num:Int):Rat)=p * q * (((p.den:Nat):Int) * ((q.den:Nat):Int):Int):=by
 rw [Rat.intCast_mul,Rat.intCast_mul,<- e7 p,<- e7 q]
 grind
theorem lA {a b:Int} (h:0 < a) (g:0 < b):0 < a * b:=Int.mul_pos h g
theorem Sq.mul {m n:Nat} {p q:Rat} (h:Sq m p) (g:Sq n q):Sq (m + n) (p * q):=Sq.cG (lA (den_pos p) (den_pos q)) (mD p q) (h.num.mul g.num) (h.den.mul g.den)
noncomputable def i0 (ds:List D) (r:Sl):Prop:=∃ (m n:Nat) (p q:Rat),ds=[frD p,frD q]/\Sq m p/\Sq n q/\m + n<=8999/\r=.d (frD (p + q))
theorem tX (p q:Rat):((p.num * ((q.den:Nat):Int) + q.num * ((p.den:Nat):Int):Int):Rat)=(p + q) * (((p.den:Nat):Int) * ((q.den:Nat):Int):Int):=by
 rw [Rat.intCast_add,Rat.intCast_mul,Rat.intCast_mul,Rat.intCast_mul,<- e7 p,<- e7 q]
 grind
section
variable {P:Program} {w:World} {K:PySem.W.Frag} {mg:Str->Option Value} {base:Heap} {k:Nat} {f:Addr} {fd:FuncData} {qual:Str}
theorem mj (F:Fun K "is_whole" qual (top 13) f fd) (hb:∀ x ∈ aj,mg x=none):aG P w K mg base CX0 (k + 1) f fd ["thing"] (spD K bR):=by
 refine fnD F ml hb (by rintro _ _ ⟨_,rfl,_⟩; rfl) ?_
 rintro _ _ ⟨x,rfl,rfl⟩ cdv A outer s H E b
 exact aJ (eG (bY .int b (aa 0)) λh=>(gp (vF (bY .bool b (aa 0))))) rfl
theorem oE (F:Fun K "_law_whole" qual (top 84) f fd) (hb:∀ x ∈ aj,mg x=none):aG P w K mg base CX0 (k + 1) f fd ["_law_thing"] (spD K cY):=by
 refine fnD F nJ hb (by rintro _ _ ⟨_,rfl,_⟩; rfl) ?_
 rintro _ _ ⟨x,rfl,rfl⟩ cdv A outer s H E b
 exact aJ (eG (bY .int b (aa 0)) λh=>(gp (vF (bY .bool b (aa 0))))) rfl
theorem jF (F:Fun K "is_between" qual (top 14) f fd) (hb:∀ x ∈ aj,mg x=none) (c_is_whole:Cal P w K mg base k "is_whole" bR):aG P w K mg base CX0 (k + 1) f fd ["thing","least","most"] (spD K b7):=by
 refine fnD F jH hb (by rintro _ _ ⟨_,_,_,rfl,_⟩; rfl) ?_
 rintro _ _ ⟨i,l,m,rfl,rfl⟩ cdv A outer s H E b
 exact aJ (eG (x_call b c_is_whole (ae (aa 0) ag) ⟨_,rfl,rfl⟩) λh=>(gp (iy (aa 1) (aa 0) (aa 2) l5 l5).1)) rfl
theorem gg (F:Fun K "common_divisor" qual (top 16) f fd) (hb:∀ x ∈ aj,mg x=none):aG P w K mg base CX0 (k + 1) f fd ["one","other"] (spD K aT):=by
 refine fnD F cC hb (by rintro _ _ ⟨_,_,rfl,_⟩; rfl) ?_
 rintro _ _ ⟨x,y,rfl,rfl⟩ cdv A outer s H E b
 have nd:=cC.nd
 refine aI 2 nd (bC b (ae (aa 0) ag) mQ) (aI 3 nd (bC b (ae (aa 1) ag) mQ) ?_)
 rw [gm,gm]
 refine oW (λn t τ=>∃ (g:Nat) (s4:Sl),Nat.gcd g n=Int.gcd x y/\t=(!decide ((n:Int)=0))/\τ=[.d (.int x),.d (.int y),.d (.int g),.d (.int n),s4]) b ⟨_,_,_,_,rfl,rfl,rfl⟩ (λn t τ h=>?_) (λn τ h=>?_) λn τ h=>?_
 · obtain ⟨g,s4,_,rfl,rfl⟩:=h
   exact aY (aa 3) af lH
 · obtain ⟨g,s4,hg,ht,rfl⟩:=h
   have hl:n ≠ 0:=λz=>by simp [z] at ht
   have e:(g:Int).fmod n=((g % n:Nat):Int):=by rw [Int.fmod_eq_emod_of_nonneg _ (by omega)]; rfl
   refine aI 4 nd (aB (aa 2) (aa 3) (bV (by omega))) ?_
   rw [e]
   refine aI 2 nd (aa 3) (aI 3 nd (aa 4) (aV ⟨g % n,_,Nat.mod_lt g (Nat.pos_of_ne_zero hl),n,_,?_,rfl,rfl⟩))
   rw [<- hg,Nat.gcd_comm n,<- Nat.gcd_rec,Nat.gcd_comm]
 · obtain ⟨g,s4,hg,ht,rfl⟩:=h
   have hl:n=0:=by simpa using ht
   refine aJ (aa 2) ?_
   rw [<- hg,hl,Nat.gcd_zero_right]
theorem lB (F:Fun K "_law_divisor" qual (top 82) f fd) (hb:∀ x ∈ aj,mg x=none):aG P w K mg base CX0 (k + 1) f fd ["_law_one_here","_law_other"] (spD K cB):=by
 refine fnD F gu hb (by rintro _ _ ⟨_,_,rfl,_⟩; rfl) ?_
 rintro _ _ ⟨x,y,rfl,rfl⟩ cdv A outer s H E b
 have nd:=gu.nd
 refine aI 0 nd (bC b (ae (aa 0) ag) mQ) (aI 1 nd (bC b (ae (aa 1) ag) mQ) ?_)
 rw [gm,gm]
 refine oW (λn t τ=>∃ (g:Nat) (s2:Sl),Nat.gcd g n=Int.gcd x y/\t=(decide ((0:Int) < n))/\τ=[.d (.int g),.d (.int n),s2]) b ⟨_,_,_,_,rfl,rfl,rfl⟩ (λn t τ h=>?_) (λn τ h=>?_) λn τ h=>?_
 · obtain ⟨g,s2,_,rfl,rfl⟩:=h
   exact aY (aa 1) af vy
 · obtain ⟨g,s2,hg,ht,rfl⟩:=h
   have hl:n ≠ 0:=λz=>by simp [z] at ht
   have e:(g:Int).fmod n=((g % n:Nat):Int):=by rw [Int.fmod_eq_emod_of_nonneg _ (by omega)]; rfl
   refine aI 2 nd (aB (aa 0) (aa 1) (bV (by omega))) ?_
   rw [e]
   refine aI 0 nd (aa 1) (aI 1 nd (aa 2) (aV ⟨g % n,_,Nat.mod_lt g (Nat.pos_of_ne_zero hl),n,_,?_,rfl,rfl⟩))
   rw [<- hg,Nat.gcd_comm n,<- Nat.gcd_rec,Nat.gcd_comm]
 · obtain ⟨g,s2,hg,ht,rfl⟩:=h
   have hl:n=0:=by have:=of_decide_eq_false ht.symm; omega
   refine aJ (aa 0) ?_
   rw [<- hg,hl,Nat.gcd_zero_right]
theorem iN (F:Fun K "is_fraction" qual (top 15) f fd) (hb:∀ x ∈ aj,mg x=none) (c_is_whole:Cal P w K mg base k "is_whole" bR) (c_common_divisor:Cal P w K mg base k "common_divisor" aT):aG P w K mg base CX0 (k + 1) f fd ["thing"] (spD K cJ):=by
 refine fnD F jf hb (by rintro _ _ ⟨_,rfl,_⟩; rfl) ?_
 rintro _ _ ⟨x,rfl,rfl⟩ cdv A outer s H E b
 by_cases ht:jR .tuple x=true
 · obtain ⟨xs,rfl⟩:∃ xs,x=.tup xs:=by cases x <;> first | exact ⟨_,rfl⟩ | cases ht
   refine fB (PW.pt (bO (aX (aZ (bY .tuple b (aa 0)))) λh=>(bQ (aY (bC b (ae (aa 0) ag) gL) af lH)))) (λh=>?_) λh=>?_
   · refine aJ xj ?_
     have h:(!decide ((xs.length:Int)=2))=true:=h
     have:xs.length ≠ 2:=λz=>by rw [z] at h; cases h
     rw [rQ this]
   · have h:(!decide ((xs.length:Int)=2))=false:=h
     have h2:xs.length=2:=by simp at h; omega
     obtain ⟨u,v,rfl⟩:∃ u v,xs=[u,v]:=by
       match xs,h2 with
       | [u,v],_=>exact ⟨u,v,rfl⟩
     refine fB (PW.pt (bO (aX (aZ (x_call b c_is_whole (ae (ay (aa 0) af (aw (ai (i:=0) rfl))) ag) ⟨_,rfl,rfl⟩))) λh=>(bQ (aX (aZ (x_call b c_is_whole (ae (ay (aa 0) af (aw (ai (i:=1) rfl))) ag) ⟨_,rfl,rfl⟩)))))) (λh=>?_) λh=>?_
     · refine aJ xj ?_
       have:qh (.tup [u,v])=false:=by cases u <;> cases v <;> first | rfl | cases h
       rw [this]
     · obtain ⟨i,j,rfl,rfl⟩:∃ i j,u=.int i/\v=.int j:=by cases u <;> cases v <;> first | exact ⟨_,_,rfl,rfl⟩ | cases h
       exact aJ (eG (cu (ay (aa 0) af (aw (ai (i:=1) rfl))) af qX) λh=>(gp (cu (x_call b c_common_divisor (ae (ay (aa 0) af (aw (ai (i:=0) rfl))) (ae (ay (aa 0) af (aw (ai (i:=1) rfl))) ag)) ⟨_,_,rfl,rfl⟩) af jo))) rfl
 · have e:jR .tuple x=false:=by simpa using ht
   have ef:qh x=false:=by cases x <;> first | rfl | cases e
   refine fB (PW.pt (bO (q:=true) (aX (aZ (bY .tuple b (aa 0)))) λh=>(by rw [e] at h; cases h))) (λh=>?_) λh=>?_
   · refine aJ xj ?_
     rw [ef]
   · rw [Bool.or_true] at h; cases h
theorem fL (F:Fun K "in_lowest_terms" qual (top 18) f fd) (hb:∀ x ∈ aj,mg x=none) (c_common_divisor:Cal P w K mg base k "common_divisor" aT):aG P w K mg base CX0 (k + 1) f fd ["top","bottom"] (spD K bM):=by
 refine fnD F cn hb (by rintro _ _ ⟨_,_,_,rfl,_⟩; rfl) ?_
 rintro _ _ ⟨t,c,q,rfl,h0,h1,hq,rfl⟩ cdv A outer s H E b
 have nd:=cn.nd
 refine aI 2 nd (x_call b c_common_divisor (ae (aa 0) (ae (aa 1) ag)) ⟨_,_,rfl,rfl⟩) ?_
 have dv:aK (Int.gcd t c:Int):=(h1.gcd (by omega)).aK (oz (by omega)) (by decide)
 obtain ⟨e1,e2⟩:=cG h0 hq
 refine br (aY (aa 1) af sZ) (decide_eq_false (by omega)) (aJ (bX (ae (aB (aa 0) (aa 2) (bg dv)) (ae (aB (aa 1) (aa 2) (bg dv)) ag))) ?_)
 rw [fT,fT,<- e1,<- e2]
 rfl
theorem mF (F:Fun K "fraction" qual (top 19) f fd) (hb:∀ x ∈ aj,mg x=none) (c_in_lowest_terms:Cal P w K mg base k "in_lowest_terms" bM) (c_is_whole:Cal P w K mg base k "is_whole" bR):aG P w K mg base CX0 (k + 1) f fd ["top","bottom"] (spD K fI):=by
 refine fnD F mh hb (by rintro _ _ ⟨_,_,_,rfl,_⟩; rfl) ?_
 rintro _ _ ⟨t,c,q,rfl,h0,h1,hq,rfl⟩ cdv A outer s H E b
 refine br (PW.pt (bO (aX (aZ (x_call b c_is_whole (ae (aa 0) ag) ⟨_,rfl,rfl⟩))) λh=>(bQ (aX (aZ (x_call b c_is_whole (ae (aa 1) ag) ⟨_,rfl,rfl⟩)))))) rfl ?_
 refine br (aY (aa 1) af jo) (decide_eq_false (by omega)) ?_
 exact aJ (x_call b c_in_lowest_terms (ae (aa 0) (ae (aa 1) ag)) ⟨t,c,q,rfl,h0,h1,hq,rfl⟩) rfl
theorem qE (F:Fun K "_law_made" qual (top 83) f fd) (hb:∀ x ∈ aj,mg x=none) (c_l_divisor:Cal P w K mg base k "_law_divisor" cB):aG P w K mg base CX0 (k + 1) f fd ["_law_top","_law_bottom"] (spD K eO):=by
 refine fnD F kh hb (by rintro _ _ ⟨_,_,_,rfl,_⟩; rfl) ?_
 rintro _ _ ⟨t,c,q,rfl,h0,h1,hq,rfl⟩ cdv A outer s H E b
 have nd:=kh.nd
 have dv:aK (Int.gcd t c:Int):=(h1.gcd (by omega)).aK (oz (by omega)) (by decide)
 obtain ⟨e1,e2⟩:=cG h0 hq
 refine aI 2 nd (x_call b c_l_divisor (ae (aa 0) (ae (aa 1) ag)) ⟨_,_,rfl,rfl⟩) (aJ (bX (ae (aB (aa 0) (aa 2) (bg dv)) (ae (aB (aa 1) (aa 2) (bg dv)) ag))) ?_)
 rw [fT,fT,<- e1,<- e2]
 rfl
theorem ou (F:Fun K "_law_times" qual (top 88) f fd) (hb:∀ x ∈ aj,mg x=none) (c_l_made:Cal P w K mg base k "_law_made" eO):aG P w K mg base CX0 (k + 1) f fd ["_law_one_here","_law_other"] (spD K gN):=by
 refine fnD F oB hb (by rintro _ _ ⟨_,_,_,_,rfl,_⟩; rfl) ?_
 rintro _ _ ⟨m,n,p,q,rfl,h1,h2,hl,rfl⟩ cdv A outer s H E b
 exact aJ (x_call b c_l_made (ae (aB (ay (aa 0) af (aw (ai (i:=0) rfl))) (ay (aa 1) af (aw (ai (i:=0) rfl))) (bu (h1.num.aM h2.num (by omega) (by omega)))) (ae (aB (ay (aa 0) af (aw (ai (i:=1) rfl))) (ay (aa 1) af (aw (ai (i:=1) rfl))) (bu (h1.den.aM h2.den (by omega) (by omega)))) ag)) ⟨_,_,_,rfl,lA (den_pos p) (den_pos q),(h1.den.mul h2.den).mono hl,mD p q,rfl⟩) rfl
theorem qu (F:Fun K "_law_plus" qual (top 87) f fd) (hb:∀ x ∈ aj,mg x=none) (c_l_made:Cal P w K mg base k "_law_made" eO):aG P w K mg base CX0 (k + 1) f fd ["_law_one_here","_law_other"] (spD K i0):=by
 refine fnD F qW hb (by rintro _ _ ⟨_,_,_,_,rfl,_⟩; rfl) ?_
 rintro _ _ ⟨m,n,p,q,rfl,h1,h2,hl,rfl⟩ cdv A outer s H E b
 exact aJ (x_call b c_l_made (ae (aB (aB (ay (aa 0) af (aw (ai (i:=0) rfl))) (ay (aa 1) af (aw (ai (i:=1) rfl))) (bu (h1.num.aM h2.den (by omega) (by omega)))) (aB (ay (aa 1) af (aw (ai (i:=0) rfl))) (ay (aa 0) af (aw (ai (i:=1) rfl))) (bu (h2.num.aM h1.den (by omega) (by omega)))) bc) (ae (aB (ay (aa 0) af (aw (ai (i:=1) rfl))) (ay (aa 1) af (aw (ai (i:=1) rfl))) (bu (h1.den.aM h2.den (by omega) (by omega)))) ag)) ⟨_,_,_,rfl,lA (den_pos p) (den_pos q),(h1.den.mul h2.den).mono hl,tX p q,rfl⟩) rfl
end
noncomputable def eE (ds:List D) (r:Sl):Prop:=∃ q:Rat,ds=[frD q]/\0<=q.num/\r=.d (.bl true)
noncomputable abbrev Stp:=Str × Nat × Rat
noncomputable def stD (s:Stp):D:=.tup [.str s.1,.int (s.2.1:Nat),frD s.2.2]
noncomputable def okS (T:Nat) (s:Stp):Prop:=0<=s.2.2.num/\((s.1 = "weigh" /\ s.2.1 < T)\/((s.1 = "down" \/ s.1 = "up")/\s.2.1 + 1 < T))
noncomputable def gF (ds:List D) (r:Sl):Prop:=∃ (T:Nat) (s:Stp),ds=[stD s,.int T]/\okS T s/\r=.d (.bl true)
noncomputable def aS (T R C:Nat) (ss:List Stp):D:=.tup [.int T,.int R,.int C,.lst (ss.map stD)]
structure okL (T R C:Nat) (ss:List Stp):Prop where
 t1:1<=T
 t7:T<=7
 r1:1<=R
 rT:R<=T
 c1:1<=C
 cT:C<=T
 len:ss.length<=400
 st:∀ i,i < ss.length->okS T (ss.getD i ("weigh",0,0))
theorem wA {ss:List Stp} (i:Nat) (h:i < (ss.map stD).length):(ss.map stD)[i]=stD (ss.getD i ("weigh",0,0)):=by
 have:i < ss.length:=by simpa using h
 simp [this]
noncomputable def dZ (ds:List D) (r:Sl):Prop:=∃ (T R C:Nat) (ss:List Stp),ds=[aS T R C ss]/\okL T R C ss/\r=.d (.bl true)
noncomputable def bF (ds:List D) (r:Sl):Prop:=∃ (T R C:Nat) (ss:List Stp),ds=[aS T R C ss]/\okL T R C ss/\r=.d .non
noncomputable def rgS (s:Stp):Nat:=if s.1 = "down" then s.2.1 else s.2.1 + 1
noncomputable def df (ds:List D) (r:Sl):Prop:=∃ s:Stp,ds=[stD s]/\r=.d (.int (rgS s:Nat))
noncomputable def rgE (s:Stp):Nat:=if s.1 = "down" then s.2.1 + 1 else s.2.1
noncomputable def fP (ds:List D) (r:Sl):Prop:=∃ s:Stp,ds=[stD s]/\r=.d (.int (rgE s:Nat))
section
variable {P:Program} {w:World} {K:PySem.W.Frag} {mg:Str->Option Value} {base:Heap} {k:Nat} {f:Addr} {fd:FuncData} {qual:Str}
theorem kn (F:Fun K "is_weight" qual (top 46) f fd) (hb:∀ x ∈ aj,mg x=none) (c_is_fraction:Cal P w K mg base k "is_fraction" cJ):aG P w K mg base CX0 (k + 1) f fd ["thing"] (spD K eE):=by
 refine fnD F kO hb (by rintro _ _ ⟨_,rfl,_⟩; rfl) ?_
 rintro _ _ ⟨q,rfl,h0,rfl⟩ cdv A outer s H E b
 refine aJ (eG (x_call b c_is_fraction (ae (aa 0) ag) ⟨_,rfl,rfl⟩) λh=>(gp (cu (ay (aa 0) af (aw (ai (i:=0) rfl))) af qX))) ?_
 rw [uN,decide_eq_true h0]
 rfl
theorem nY (F:Fun K "is_step" qual (top 47) f fd) (hb:∀ x ∈ aj,mg x=none) (c_is_between:Cal P w K mg base k "is_between" b7) (c_is_weight:Cal P w K mg base k "is_weight" eE):aG P w K mg base CX0 (k + 1) f fd ["thing","tracks"] (spD K gF):=by
 refine fnD F nC hb (by rintro _ _ ⟨_,_,rfl,_⟩; rfl) ?_
 rintro _ _ ⟨T,⟨u,n,q⟩,rfl,⟨h0,h1⟩,rfl⟩ cdv A outer s H E b
 refine br (PW.pt (bO (aX (aZ (bY .tuple b (aa 0)))) λh=>(bO (aY (bC b (ae (aa 0) ag) gL) af lH) λh=>(bQ (aX (aZ (x_call b c_is_weight (ae (ay (aa 0) af (aw (ai (i:=2) rfl))) ag) ⟨q,rfl,h0,rfl⟩))))))) rfl ?_
 refine fB (aY (ay (aa 0) af (aw (ai (i:=0) rfl))) bD jZ) (λh=>?_) λh=>?_
 · refine aJ (x_call b c_is_between (ae (ay (aa 0) af (aw (ai (i:=1) rfl))) (ae af (ae (aB (aa 1) af dM) ag))) ⟨_,_,_,rfl,rfl⟩) ?_
   have e:=of_decide_eq_true h
   have hn:n < T:=by
     rcases h1 with h1 | h1
     · exact h1.2
     · have:=h1.2; simp only at this; omega
   rw [decide_eq_true (show (0:Int)<=n by omega),decide_eq_true (show (n:Int)<=(T:Int) - 1 by omega)]
   rfl
 · have e:=of_decide_eq_false h
   obtain ⟨e1,e2⟩:(u = "down" \/ u = "up")/\n + 1 < T:=by
     rcases h1 with h1 | h1
     · exact absurd h1.1 e
     · exact h1
   refine aJ (eG (cu (ay (aa 0) af (aw (ai (i:=0) rfl))) (bX (ae bD (ae bD ag))) (yJ (us:=["down","up"]))) λh=>(gp (x_call b c_is_between (ae (ay (aa 0) af (aw (ai (i:=1) rfl))) (ae af (ae (aB (aa 1) af dM) ag))) ⟨_,_,_,rfl,rfl⟩))) ?_
   rw [decide_eq_true (show (0:Int)<=n by omega),decide_eq_true (show (n:Int)<=(T:Int) - 2 by omega)]
   have:(([("down" : Str),"up"]:List Str).any λw=>decide (w=u))=true:=by
     clear h e h1 h0
     rcases e1 with rfl | rfl <;> decide +kernel
   show Sl.d (.bl ((([("down" : Str),"up"]:List Str).any λw=>decide (w=u)) && _))=_
   rw [this]
   rfl
theorem kD (F:Fun K "is_ladder" qual (top 48) f fd) (hb:∀ x ∈ aj,mg x=none) (y_MOST:∃ t,mg "MOST" = some (.int 7 t)) (y_MOST_STEPS:∃ t,mg "MOST_STEPS" = some (.int 400 t)) (c_is_between:Cal P w K mg base k "is_between" b7) (c_is_step:Cal P w K mg base k "is_step" gF):aG P w K mg base CX0 (k + 1) f fd ["thing"] (spD K dZ):=by
 refine fnD F kR hb (by rintro _ _ ⟨_,_,_,_,rfl,_⟩; rfl) ?_
 rintro _ _ ⟨T,R,C,ss,rfl,h,rfl⟩ cdv A outer s H E b
 have ht:decide ((1:Int)<=T)=true/\decide ((T:Int)<=7)=true:=⟨decide_eq_true (by have:=h.t1; omega),decide_eq_true (by have:=h.t7; omega)⟩
 have hr:decide ((1:Int)<=R)=true/\decide ((R:Int)<=T)=true:=⟨decide_eq_true (by have:=h.r1; omega),decide_eq_true (by have:=h.rT; omega)⟩
 have hc:decide ((1:Int)<=C)=true/\decide ((C:Int)<=T)=true:=⟨decide_eq_true (by have:=h.c1; omega),decide_eq_true (by have:=h.cT; omega)⟩
 have hl:(ss.map stD).length=ss.length:=List.length_map ..
 have hlen:=h.len
 refine br (PW.pt (bO (aX (aZ (bY .tuple b (aa 0)))) λh=>(bO (aY (bC b (ae (aa 0) ag) gL) af lH) λh=>(bQ (aX (aZ (x_call b c_is_between (ae (ay (aa 0) af (aw (ai (i:=0) rfl))) (ae af (ae (kA y_MOST) ag))) ⟨_,_,_,rfl,rfl⟩))))))) ?_ ?_
 · rw [ht.1,ht.2]; rfl
 refine br (PW.pt (bO (aX (aZ (x_call b c_is_between (ae (ay (aa 0) af (aw (ai (i:=1) rfl))) (ae af (ae (ay (aa 0) af (aw (ai (i:=0) rfl))) ag))) ⟨_,_,_,rfl,rfl⟩))) λh=>(bQ (aX (aZ (x_call b c_is_between (ae (ay (aa 0) af (aw (ai (i:=2) rfl))) (ae af (ae (ay (aa 0) af (aw (ai (i:=0) rfl))) ag))) ⟨_,_,_,rfl,rfl⟩)))))) ?_ ?_
 · rw [hr.1,hr.2,hc.1,hc.2]; rfl
 refine br (PW.pt (bO (aX (aZ (bY .list b (ay (aa 0) af (aw (ai (i:=3) rfl)))))) λh=>(bQ (aY (bC b (ae (ay (aa 0) af (aw (ai (i:=3) rfl))) ag) iP) (kA y_MOST_STEPS) vy)))) ?_ ?_
 · rw [hl,decide_eq_false (show ¬ (400:Int) < ss.length by omega)]; rfl
 refine aJ (bC b (ae (bA (cH (cmp 0 (f:=λ_=>.bl true) b (bL (ay (aa 0) af (aw (ai (i:=3) rfl)))) wA ?_ λi hi s0 H0 fp=>(x_call (b.comp s0 H0 _ fp) c_is_step (ae (aa 0) (ae (ay (aa 1) af (aw (ai (i:=0) rfl))) ag)) ⟨T,_,rfl,h.st i (by omega),rfl⟩)))) ag) (j5 b.calm ((List.range (ss.map stD).length).map λ_=>true) (by rw [List.map_map]; rfl))) ?_
 · omega
 · have:((List.range (ss.map stD).length).map λ_=>true).all id=true:=by rw [List.all_map,List.all_eq_true]; intro _ _; rfl
   rw [this]
theorem jh (F:Fun K "look_ladder" qual (top 49) f fd) (hb:∀ x ∈ aj,mg x=none) (c_is_ladder:Cal P w K mg base k "is_ladder" dZ):aG P w K mg base CX0 (k + 1) f fd ["thing"] (spD K bF):=by
 refine fnD F iK hb (by rintro _ _ ⟨_,_,_,_,rfl,_⟩; rfl) ?_
 rintro _ _ ⟨T,R,C,ss,rfl,h,rfl⟩ cdv A outer s H E b
 exact br (aX (aZ (x_call b c_is_ladder (ae (aa 0) ag) ⟨T,R,C,ss,rfl,h,rfl⟩))) rfl (aV rfl)
theorem jO (F:Fun K "rung_start" qual (top 50) f fd) (hb:∀ x ∈ aj,mg x=none):aG P w K mg base CX0 (k + 1) f fd ["step"] (spD K df):=by
 refine fnD F jA hb (by rintro _ _ ⟨_,rfl,_⟩; rfl) ?_
 rintro _ _ ⟨⟨u,n,q⟩,rfl,rfl⟩ cdv A outer s H E b
 refine aJ (s:=.d (.int (rgS (u,n,q):Nat))) (rn (aY (ay (aa 0) af (aw (ai (i:=0) rfl))) bD jZ) (λh=>?_) λh=>?_) rfl
 · rw [show rgS (u,n,q)=n from if_pos (of_decide_eq_true h)]
   exact ay (aa 0) af (aw (ai (i:=1) rfl))
 · rw [show rgS (u,n,q)=n + 1 from if_neg (of_decide_eq_false h)]
   exact aB (ay (aa 0) af (aw (ai (i:=1) rfl))) af bc
theorem mq (F:Fun K "rung_end" qual (top 51) f fd) (hb:∀ x ∈ aj,mg x=none):aG P w K mg base CX0 (k + 1) f fd ["step"] (spD K fP):=by
 refine fnD F mi hb (by rintro _ _ ⟨_,rfl,_⟩; rfl) ?_
 rintro _ _ ⟨⟨u,n,q⟩,rfl,rfl⟩ cdv A outer s H E b
 refine aJ (s:=.d (.int (rgE (u,n,q):Nat))) (rn (aY (ay (aa 0) af (aw (ai (i:=0) rfl))) bD jZ) (λh=>?_) λh=>?_) rfl
 · rw [show rgE (u,n,q)=n + 1 from if_pos (of_decide_eq_true h)]
   exact aB (ay (aa 0) af (aw (ai (i:=1) rfl))) af bc
 · rw [show rgE (u,n,q)=n from if_neg (of_decide_eq_false h)]
   exact ay (aa 0) af (aw (ai (i:=1) rfl))
end
theorem cQ {α:Type} (f:Nat->α) {n i:Nat} (h:i < n) (d:α):((List.range n).map f).getD i d=f i:=by simp [h]
theorem vQ {t u:List Rat} (i:Nat) (h:i < (gA (t.map frD) (u.map frD)).length):(gA (t.map frD) (u.map frD))[i]=.tup [frD (t.getD i 0),frD (u.getD i 0)]:=by
 rw [kP]
 rw [cq,List.length_map,List.length_map] at h
 simp [show i < t.length by omega,show i < u.length by omega]
noncomputable def gn (ds:List D) (r:Sl):Prop:=∃ (ns:List Int) (k:Nat),ds=[.lst (ns.map .int),.int k]/\r=.d (.int (ns.getD k 0))
noncomputable def iG:Int->List Int->List Int
 | _,[]=>[]
 | c,b :: r=>c.fmod b :: iG (c.fdiv b) r
noncomputable def uk (c:Int) (bs:List Int):Int:=bs.foldl (λc b=>c.fdiv b) c
noncomputable def xZ (c:Int) (k:Nat) (b:Int):Int:=(((((c * 48271 + (k:Int) * k * 69621 + (k:Int) * 16807 + 11).fmod 2147483647) * 40692 + c + 31 * (k:Int)).fmod 2147483399).fdiv 7).fmod b
noncomputable def uy (c:Int) (bs:List Int):List Int:=(List.range bs.length).map λk=>xZ c k (bs.getD k 0)
noncomputable def nums (c:Int) (bs:List Int):List Int:=if (10:Int) ^ (18:Int).toNat<=uK c then iG c bs else uy c bs
theorem jT:∀ (bs:List Int) (c b:Int),iG c (bs++[b])=iG c bs++[(uk c bs).fmod b]
 | [],_,_=>rfl
 | a :: bs,c,b=>by rw [List.cons_append,iG,iG,jT bs]; rfl
theorem ji:∀ (bs:List Int) (c:Int),(iG c bs).length=bs.length
 | [],_=>rfl
 | _ :: bs,c=>congrArg (· + 1) (ji bs _)
theorem eD (c:Int) (bs:List Int):(nums c bs).length=bs.length:=by
 unfold nums
 split
 · exact ji bs c
 · simp [uy]
theorem pA:∀ (bs:List Int) (c:Int),(∀ b ∈ bs,0 < b)->∀ (i:Nat),i < bs.length->0<=(iG c bs).getD i 0/\(iG c bs).getD i 0 < bs.getD i 0
 | b :: bs,c,h,0,_=>by
   have:=h b (List.mem_cons_self ..)
   exact ⟨Int.fmod_nonneg_of_pos c this,Int.fmod_lt_of_pos c this⟩
 | b :: bs,c,h,i + 1,hi=>by
   have:=pA bs (c.fdiv b) (λx hx=>h x (List.mem_cons_of_mem _ hx)) i (by simpa using hi)
   simpa [iG] using this
theorem gw {c:Int} {bs:List Int} (h:∀ b ∈ bs,0 < b) {i:Nat} (hi:i < bs.length):0<=(nums c bs).getD i 0/\(nums c bs).getD i 0 < bs.getD i 0:=by
 unfold nums
 split
 · exact pA bs c h i hi
 · have hp:0 < bs.getD i 0:=h _ (by simp [hi])
   have e:(uy c bs).getD i 0=xZ c i (bs.getD i 0):=by simp [uy,hi]
   rw [e]
   exact ⟨Int.fmod_nonneg_of_pos _ hp,Int.fmod_lt_of_pos _ hp⟩
theorem take_snoc {α:Type} {xs:List α} {i:Nat} (d:α) (h:i < xs.length):xs.take (i + 1)=xs.take i++[xs.getD i d]:=by
 rw [List.take_add_one,List.getElem?_eq_getElem h]
 simp [h]
theorem qH {b:Int} (h0:0 < b) (h:b < 2 ^ 60):0 < b/\aK b:=⟨h0,mkD (by omega) (by omega)⟩
noncomputable def bo (ds:List D) (r:Sl):Prop:=∃ (c:Int) (bs:List Int),ds=[.int c,.lst (bs.map .int)]/\bs.length<=10000/\(∀ b ∈ bs,0 < b/\aK b)/\r=.o ((nums c bs).map .int)
noncomputable def hZ (t:List (List Rat)):D:=.lst (t.map λr=>.lst (r.map frD))
theorem yS {t:List (List Rat)} (i:Nat) (h:i < (t.map λr=>D.lst (r.map frD)).length):(t.map λr=>D.lst (r.map frD))[i]=.lst ((t.getD i []).map frD):=by
 have:i < t.length:=by simpa using h
 simp [this]
theorem zA {r:List Rat} {i:Int} (h0:0<=i) (h:i.toNat < r.length):atI (r.map frD) i=some (frD (r.getD i.toNat 0)):=by
 obtain ⟨n,rfl⟩:=Int.eq_ofNat_of_zero_le h0
 exact ai (by
   have h:n < r.length:=h
   simp [h])
theorem y0 {t:List (List Rat)} {i:Int} (h0:0<=i) (h:i.toNat < t.length):atI (t.map λr=>D.lst (r.map frD)) i=some (.lst ((t.getD i.toNat []).map frD)):=by
 obtain ⟨n,rfl⟩:=Int.eq_ofNat_of_zero_le h0
 exact ai (by
   have h:n < t.length:=h
   simp [h])
noncomputable def rG (t:List (List Rat)) (j:Nat):List Rat:=(List.range t.length).map λi=>(t.getD i []).getD j 0
noncomputable def eS (ds:List D) (r:Sl):Prop:=∃ (t:List (List Rat)) (j:Nat),ds=[hZ t,.int j]/\t.length<=1000/\(∀ i,i < t.length->j < (t.getD i []).length)/\r=.o ((rG t j).map frD)
noncomputable def pH (t:List (List Rat)) (n:Nat):List (List Rat):=(List.range n).map (rG t)
noncomputable def rO (t:List (List Rat)):Nd:=.l (t.map λr=>.l ((r.map frD).map .d))
noncomputable def de (ds:List D) (r:Sl):Prop:=∃ (t:List (List Rat)) (n:Nat),ds=[hZ t]/\1<=t.length/\t.length<=1000/\n<=1000/\(∀ i,i < t.length->(t.getD i []).length=n)/\r=.n (rO (pH t n))
noncomputable def smD (s:List Int × Int):D:=.tup [.lst (s.1.map .int),.int s.2]
noncomputable def iY (k R:Nat):List Int × Int:=((List.range R).map λi=>if i=k then 1 else 0,1)
noncomputable def c9 (ds:List D) (r:Sl):Prop:=∃ k R:Nat,ds=[.int k,.int R]/\R<=7/\r=.d (smD (iY k R))
noncomputable def cL (n:Int) (ns:List Int):Int:=ns.foldl (λf o=>(Int.gcd o f:Int)) n
noncomputable def bx (ds:List D) (r:Sl):Prop:=∃ (n:Int) (ns:List Int),ds=[.int n,.lst (ns.map .int)]/\r=.d (.int (cL n ns))
structure yp (s:List Int × Int) (v:List Rat):Prop where
 len:s.1.length=v.length
 pos:0 < s.2
 val:∀ i,i < v.length->((s.1.getD i 0:Int):Rat)=v.getD i 0 * (s.2:Rat)
noncomputable def eK (ds:List D) (r:Sl):Prop:=∃ (s:List Int × Int) (v:List Rat),ds=[smD s]/\yp s v/\v.length<=1000/\Bd 8999 s.2/\r=.o (v.map frD)
section
variable {P:Program} {w:World} {K:PySem.W.Frag} {mg:Str->Option Value} {base:Heap} {k:Nat} {f:Addr} {fd:FuncData} {qual:Str}
theorem p7 (F:Fun K "_law_cell" qual (top 80) f fd) (hb:∀ x ∈ aj,mg x=none):aG P w K mg base CX0 (k + 1) f fd ["_law_script","_law_k"] (spD K gn):=by
 refine fnD F pZ hb (by rintro _ _ ⟨_,_,rfl,_⟩; rfl) ?_
 rintro _ _ ⟨ns,n,rfl,rfl⟩ cdv A outer s H E b
 refine fB (aY (aa 1) (bC b (ae (aa 0) ag) iP) sZ) (λh=>?_) λh=>?_
 · have h:=of_decide_eq_true h
   rw [List.length_map] at h
   exact aJ (ay (aa 0) (aa 1) (aU (bf (by omega) (by omega)))) rfl
 · have h:=of_decide_eq_false h
   rw [List.length_map] at h
   refine aJ af ?_
   show Sl.d (.int 0)=_
   rw [getD_none (by omega)]
theorem kF (F:Fun K "_law_numbers" qual (top 81) f fd) (hb:∀ x ∈ aj,mg x=none):aG P w K mg base CX0 (k + 1) f fd ["_law_cell_here","_law_bases"] (spD K bo):=by
 refine fnD F fS hb (by rintro _ _ ⟨_,_,rfl,_⟩; rfl) ?_
 rintro _ _ ⟨c,bs,rfl,hl,hbs,rfl⟩ cdv A outer s H E b
 have nd:=fS.nd
 have hp:∀ i,i < bs.length->0 < bs.getD i 0/\aK (bs.getD i 0):=λi hi=>hbs _ (by simp [hi])
 refine aI 2 nd (cA ag) ?_
 refine fB (aY (bC b (ae (aa 0) ag) mQ) (aB af af (vH ⟨by decide,by decide,by decide⟩)) qX) (λh=>?_) λh=>?_
 · refine fA 3 (λi τ=>∃ s3,τ=[.d (.int (uk c (bs.take i))),.d (.lst (bs.map .int)),.o ((iG c (bs.take i)).map .int),s3,.un,.un]) b nd (bL (aa 1)) j0 ⟨_,rfl⟩ (λi hi τ h=>?_) λτ h=>?_
   · obtain ⟨s3,rfl⟩:=h
     have hi:i < bs.length:=by simpa using hi
     obtain ⟨p1,p2⟩:=hp i hi
     refine tq 2 (aB (aa 0) (aa 3) (bV (by omega))) ?_ ?_
     · rw [List.length_map,ji,List.length_take]; omega
     refine aI 0 nd (aB (aa 0) (aa 3) (bg p2)) (aV ?_)
     apply ex1
     show [Sl.d (.int ((uk c (bs.take i)).fdiv (bs.getD i 0))),_,Sl.o _,_,_,_]=_
     rw [take_snoc 0 hi,jT,List.map_append]
     unfold uk
     rw [List.foldl_append]
     rfl
   · obtain ⟨s3,rfl⟩:=h
     refine rq 2 ?_
     rw [List.length_map,List.take_of_length_le (Nat.le_refl _)]
     unfold nums
     rw [if_pos (of_decide_eq_true h)]
 · refine tY 4 3 (λi τ=>∃ s3 s4 s5,τ=[.d (.int c),.d (.lst (bs.map .int)),.o (((List.range i).map λk=>xZ c k (bs.getD k 0)).map .int),s3,s4,s5]) b nd (vY b (aa 1)) vK ⟨_,_,_,rfl⟩ (λi hi τ h=>?_) λτ h=>?_
   · obtain ⟨s3,s4,s5,rfl⟩:=h
     have hi:i < bs.length:=by rw [eo,List.length_map] at hi; exact hi
     obtain ⟨p1,p2⟩:=hp i hi
     refine aI 5 nd (aB (aB (aB (aB (aB (aa 0) af (bu (mkR (by decide)))) (aB (aB (aa 4) (aa 4) (bu (mkL (by omega)))) af (bu (mkR (by decide)))) bc) (aB (aa 4) af (bu (mkR (by decide)))) bc) af bc) af (bV (by decide))) ?_
     refine tq 2 (aB (aB (aB (aB (aB (aB (aa 5) af (bu (mkR (by decide)))) (aa 0) bc) (aB af (aa 4) (bu (mkL (by decide)))) bc) af (bV (by decide))) af (bg (mkD (by decide) (by decide)))) (aa 3) (bV (by omega))) ?_ (aV ?_)
     · rw [List.length_map,List.length_map,List.length_range]; omega
     apply ex3
     rw [List.range_succ,List.map_append,List.map_append]
     rfl
   · obtain ⟨s3,s4,s5,rfl⟩:=h
     refine rq 2 ?_
     rw [eo,List.length_map]
     unfold nums
     rw [if_neg (of_decide_eq_false h)]
     rfl
theorem lx (F:Fun K "column_of" qual (top 35) f fd) (hb:∀ x ∈ aj,mg x=none):aG P w K mg base CX0 (k + 1) f fd ["table","j"] (spD K eS):=by
 refine fnD F lu hb (by rintro _ _ ⟨_,_,rfl,_⟩; rfl) ?_
 rintro _ _ ⟨t,j,rfl,hl,hj,rfl⟩ cdv A outer s H E b
 refine aJ (cH (cmp 0 (f:=λi=>frD ((t.getD i []).getD j 0)) b (bL (aa 0)) yS (by rw [List.length_map]; omega) λi hi s0 H0 fp=>(ay (aa 0) (aa 1) (aU (zA (r:=t.getD i []) (i:=(j:Int)) (by omega) (hj i (by rw [List.length_map] at hi; exact hi))))))) ?_
 rw [List.length_map]
 unfold rG
 rw [List.map_map]
 rfl
theorem jy (F:Fun K "columns_of" qual (top 34) f fd) (hb:∀ x ∈ aj,mg x=none) (c_column_of:Cal P w K mg base k "column_of" eS):aG P w K mg base CX0 (k + 1) f fd ["table"] (spD K de):=by
 refine fnD F jQ hb (by rintro _ _ ⟨_,_,rfl,_⟩; rfl) ?_
 rintro _ _ ⟨t,n,rfl,h1,hl,hn,hj,rfl⟩ cdv A outer s H E b
 have e0:((t.getD 0 []).map frD).length=n:=by rw [List.length_map]; exact hj 0 h1
 refine aJ (zp (Ao 0 (f:=λj=>.l (((rG t j).map frD).map .d)) b (cW b (bC b (ae (ay (aa 0) af (aU (y0 (i:=0) (by omega) (by omega)))) ag) iP) ?_ ?_) cU ?_ (λj hjn s0 H0 fp=>(x_call (b.comp s0 H0 _ fp) c_column_of (ae (aa 1) (ae (aa 0) ag)) ⟨t,j,rfl,hl,λi hi=>?_,rfl⟩)) λj _=>rfl)) ?_
 · omega
 · simp only [Int.toNat_zero,e0]; omega
 · rw [aD]; simp only [Int.toNat_zero,e0,Int.toNat_natCast]; omega
 · rw [aD] at hjn; simp only [Int.toNat_zero,e0,Int.toNat_natCast] at hjn; rw [hj i hi]; exact hjn
 · rw [aD]
   simp only [Int.toNat_zero,e0,Int.toNat_natCast]
   unfold rO pH
   rw [List.map_map]
   rfl
theorem jG (F:Fun K "first_sums" qual (top 54) f fd) (hb:∀ x ∈ aj,mg x=none):aG P w K mg base CX0 (k + 1) f fd ["track","rows"] (spD K c9):=by
 refine fnD F jK hb (by rintro _ _ ⟨_,_,rfl,_⟩; rfl) ?_
 rintro _ _ ⟨n,R,rfl,hR,rfl⟩ cdv A outer s H E b
 refine aJ (bX (ae (bA (cH (cmp 0 (f:=λi=>.int (if i=n then 1 else 0)) b (cW b (aa 1) (by omega) (by omega)) cU (by rw [aD]; omega) λi hi s0 H0 fp=>(rn (aY (aa 0) (aa 1) jo) (λh=>?_) λh=>?_)))) (ae af ag))) ?_
 · have h:=of_decide_eq_true h
   rw [if_pos (by omega)]
   exact af
 · have h:=of_decide_eq_false h
   rw [if_neg (by omega)]
   exact af
 · rw [aD,Int.toNat_natCast]
   unfold smD iY
   rw [List.map_map]
   rfl
theorem fZ (F:Fun K "shared_divisor" qual (top 17) f fd) (hb:∀ x ∈ aj,mg x=none) (c_common_divisor:Cal P w K mg base k "common_divisor" aT):aG P w K mg base CX0 (k + 1) f fd ["number","others"] (spD K bx):=by
 refine fnD F cy hb (by rintro _ _ ⟨_,_,rfl,_⟩; rfl) ?_
 rintro _ _ ⟨n,ns,rfl,rfl⟩ cdv A outer s H E b
 have nd:=cy.nd
 refine aI 2 nd (aa 0) ?_
 refine fA 3 (λi τ=>∃ s3,τ=[.d (.int n),.d (.lst (ns.map .int)),.d (.int (cL n (ns.take i))),s3]) b nd (bL (aa 1)) j0 ⟨_,rfl⟩ (λi hi τ h=>?_) λτ h=>?_
 · obtain ⟨s3,rfl⟩:=h
   rw [List.length_map] at hi
   refine aI 2 nd (x_call b c_common_divisor (ae (aa 3) (ae (aa 2) ag)) ⟨_,_,rfl,rfl⟩) (aV ?_)
   apply ex1
   rw [take_snoc 0 hi]
   unfold cL
   rw [List.foldl_append]
   rfl
 · obtain ⟨s3,rfl⟩:=h
   refine aJ (aa 2) ?_
   rw [List.length_map,List.take_of_length_le (Nat.le_refl _)]
theorem lQ (F:Fun K "told_sums" qual (top 55) f fd) (hb:∀ x ∈ aj,mg x=none) (c_fraction:Cal P w K mg base k "fraction" fI):aG P w K mg base CX0 (k + 1) f fd ["sums"] (spD K eK):=by
 refine fnD F kU hb (by rintro _ _ ⟨_,_,rfl,_⟩; rfl) ?_
 rintro _ _ ⟨⟨ns,d⟩,v,rfl,h,hl,hd,rfl⟩ cdv A outer s H E b
 have hlen:ns.length=v.length:=h.len
 refine aJ (cH (cmp 0 (f:=λi=>frD (v.getD i 0)) b (bL (ay (aa 0) af (aw (ai (i:=0) rfl)))) j0 (by simp only [List.length_map]; omega) λi hi s0 H0 fp=>(x_call (b.comp s0 H0 _ fp) c_fraction (ae (aa 0) (ae (ay (aa 1) af (aw (ai (i:=1) rfl))) ag)) ⟨_,d,v.getD i 0,rfl,h.pos,hd,h.val i (by simp only [List.length_map] at hi; omega),rfl⟩))) ?_
 rw [List.length_map,hlen]
 congr 1
 refine List.ext_getElem (by simp) λi h1 h2=>?_
 have:i < v.length:=by simpa using h2
 simp [this]
end
theorem ed:∀ (ns:List Int) (n:Int),cL n ns ∣ n/\∀ x ∈ ns,cL n ns ∣ x
 | [],n=>⟨Int.dvd_refl n,λ_ z=>nomatch z⟩
 | y :: ns,n=>by
   obtain ⟨h1,h2⟩:=ed ns (Int.gcd y n:Int)
   refine ⟨Int.dvd_trans h1 (Int.gcd_dvd_right ..),λx hx=>?_⟩
   rcases List.mem_cons.mp hx with rfl | hx
   · exact Int.dvd_trans h1 (Int.gcd_dvd_left ..)
   · exact h2 x hx
theorem l3 {i j:Int} (h:0 < j):0 < (Int.gcd i j:Int):=by
 have:=oz (i:=i) (j:=j) (by omega)
 omega
theorem eN:∀ (ns:List Int) (n:Int),0 < n->0 < cL n ns
 | [],_,h=>h
 | y :: ns,n,h=>eN ns (Int.gcd y n:Int) (l3 h)
structure Sm (R:Nat) (P:Int) (s:List Int × Int) (v:Nat->Rat):Prop where
 len:s.1.length=R
 pos:0 < s.2
 dvd:s.2 ∣ P
 val:∀ i,i < R->((s.1.getD i 0:Int):Rat)=v i * (s.2:Rat)
theorem Sm.up {R:Nat} {P:Int} {s:List Int × Int} {v:Nat->Rat} (h:Sm R P s v) (c:Int):Sm R (P * c) s v:=⟨h.len,h.pos,Int.dvd_mul_of_dvd_left h.dvd,h.val⟩
noncomputable def wsm (s:List Int × Int) (q:Rat):List Int × Int:=(s.1.map λx=>x / cL (q.den:Nat) s.1 * (q.num / (Int.gcd q.num s.2:Int)),s.2 / (Int.gcd q.num s.2:Int) * (((q.den:Nat):Int) / cL (q.den:Nat) s.1))
theorem getD_map {f:Int->Int} {xs:List Int} {i:Nat} (h:i < xs.length):(xs.map f).getD i 0=f (xs.getD i 0):=by simp [h]
theorem getD_mem {xs:List Int} {i:Nat} (h:i < xs.length):xs.getD i 0 ∈ xs:=by simp [h]
theorem yH {a b c:Rat} (hc:c ≠ 0) (h:a * c=b * c):a=b:=by
 have:(a - b) * c=0:=by grind
 rcases Rat.mul_eq_zero.mp this with z | z
 · grind
 · exact absurd z hc
theorem p6 {a b:Int} (h:0 < a * b) (ha:0 < a):0 < b:=by
 rcases Int.lt_or_le 0 b with z | z
 · exact z
 · have:=Int.mul_le_mul_of_nonneg_left z (Int.le_of_lt ha)
   rw [Int.mul_zero] at this
   omega
theorem quo {a b:Int} (h0:0 < a) (h:a ∣ b):∃ c,b=a * c/\b / a=c:=by
 obtain ⟨c,rfl⟩:=h
 exact ⟨c,rfl,Int.mul_ediv_cancel_left _ (by omega)⟩
theorem iF {R:Nat} {P:Int} {s:List Int × Int} {v:Nat->Rat} {q:Rat} (h:Sm R P s v):Sm R (P * ((q.den:Nat):Int)) (wsm s q) λi=>q * v i:=by
 obtain ⟨ns,d⟩:=s
 have hd:0 < d:=h.pos
 have hB:=eN ns (q.den:Nat) (den_pos q)
 obtain ⟨b1,b2⟩:=ed ns (q.den:Nat)
 have hG:0 < (Int.gcd q.num d:Int):=l3 hd
 obtain ⟨f,ef,qf⟩:=quo hG (Int.gcd_dvd_left q.num d)
 obtain ⟨a,ea,qa⟩:=quo hG (Int.gcd_dvd_right q.num d)
 obtain ⟨e,ee,qe⟩:=quo hB b1
 unfold wsm
 simp only
 rw [qf,qa,qe]
 generalize cL ((q.den:Nat):Int) ns=B at *
 generalize (Int.gcd q.num d:Int)=G at *
 have ap:0 < a:=p6 (by rw [<- ea]; exact hd) (by assumption)
 have ep:0 < e:=p6 (by rw [<- ee]; exact den_pos q) (by assumption)
 refine ⟨by rw [List.length_map]; exact h.len,Int.mul_pos ap ep,Int.mul_dvd_mul (Int.dvd_trans ⟨G,by rw [ea,Int.mul_comm]⟩ h.dvd) ⟨B,by rw [ee,Int.mul_comm]⟩,λi hi=>?_⟩
 have hi':i < ns.length:=by rw [show ns.length=R from h.len]; exact hi
 simp only
 rw [getD_map hi']
 obtain ⟨y,ey,qy⟩:=quo hB (b2 _ (getD_mem hi'))
 rw [qy]
 have hv:=h.val i hi
 simp only at hv
 rw [ey,ea] at hv
 have hq:=e7 q
 rw [ef,ee] at hq
 refine yH (c:=(B:Rat) * (G:Rat)) (λz=>(Rat.mul_eq_zero.mp z).elim (k5 hB) (k5 hG)) ?_
 simp only [Rat.intCast_mul] at *
 grind
noncomputable def asm (s u:List Int × Int):List Int × Int:=
 let sh:Int:=(Int.gcd s.2 u.2:Int)
 let tops:=(List.range s.1.length).map λi=>s.1.getD i 0 * (u.2 / sh) + u.1.getD i 0 * (s.2 / sh)
 (tops.map λx=>x / cL sh tops,s.2 / sh * (u.2 / cL sh tops))
theorem x5 {R:Nat} {P:Int} {s u:List Int × Int} {v w:Nat->Rat} (h:Sm R P s v) (g:Sm R P u w):Sm R P (asm s u) λi=>v i + w i:=by
 obtain ⟨ns,d⟩:=s
 obtain ⟨ms,e⟩:=u
 have hd:0 < d:=h.pos
 have he:0 < e:=g.pos
 have hS:0 < (Int.gcd d e:Int):=l3 he
 obtain ⟨a,ea,qa⟩:=quo hS (Int.gcd_dvd_left d e)
 obtain ⟨b,eb,qb⟩:=quo hS (Int.gcd_dvd_right d e)
 have cop:Int.gcd a b=1:=by
   have h1:=Int.gcd_ediv (Int.gcd_dvd_left d e) (Int.gcd_dvd_right d e)
   rw [qa,qb,Int.natAbs_natCast,Nat.div_self (by omega)] at h1
   exact h1
 unfold asm
 simp only
 rw [qa,qb]
 generalize hT:((List.range ns.length).map λi=>ns.getD i 0 * b + ms.getD i 0 * a)=tops
 have tl:tops.length=R:=by rw [<- hT,List.length_map,List.length_range]; exact h.len
 obtain ⟨b1,b2⟩:=ed tops (Int.gcd d e:Int)
 have hV:=eN tops _ hS
 have hVe:cL (Int.gcd d e:Int) tops ∣ e:=Int.dvd_trans b1 (Int.gcd_dvd_right d e)
 obtain ⟨c,ec,qc⟩:=quo hV hVe
 rw [qc]
 generalize cL (Int.gcd d e:Int) tops=V at *
 generalize (Int.gcd d e:Int)=S at *
 have ap:0 < a:=p6 (by rw [<- ea]; exact hd) (by assumption)
 have cp:0 < c:=p6 (by rw [<- ec]; exact he) (by assumption)
 refine ⟨by rw [List.length_map]; exact tl,Int.mul_pos ap cp,?_,λi hi=>?_⟩
 · obtain ⟨p1,e1⟩:=h.dvd
   obtain ⟨p2,e2⟩:=g.dvd
   simp only at e1 e2
   have e3:a * p1=b * p2:=by
     have:S * (a * p1)=S * (b * p2):=by rw [<- Int.mul_assoc,<- Int.mul_assoc,<- ea,<- eb,<- e1,<- e2]
     exact Int.eq_of_mul_eq_mul_left (by omega) this
   have e4:a ∣ p2:=by
     have:=Int.dvd_gcd_mul_iff_dvd_mul.mpr (show a ∣ b * p2 from ⟨p1,e3.symm⟩)
     rwa [cop,Int.natCast_one,Int.one_mul] at this
   obtain ⟨p3,e5⟩:=e4
   exact ⟨V * p3,by simp only; rw [e2,e5,ec]; grind⟩
 · simp only
   rw [getD_map (by omega)]
   obtain ⟨z,ez,qz⟩:=quo hV (b2 _ (getD_mem (i:=i) (by omega)))
   rw [qz]
   have et:tops.getD i 0=ns.getD i 0 * b + ms.getD i 0 * a:=by
     rw [<- hT]
     have:i < ns.length:=by rw [show ns.length=R from h.len]; exact hi
     simp [this]
   have hv:=h.val i hi
   have hw:=g.val i hi
   simp only at hv hw
   have t1:((tops.getD i 0:Int):Rat)=((ns.getD i 0:Int):Rat) * (b:Rat) + ((ms.getD i 0:Int):Rat) * (a:Rat):=by rw [et,Rat.intCast_add,Rat.intCast_mul,Rat.intCast_mul]
   rw [ez,hv,hw] at t1
   have cd:(d:Rat)=(S:Rat) * (a:Rat):=by rw [ea,Rat.intCast_mul]
   have ce:(e:Rat)=(S:Rat) * (b:Rat):=by rw [eb,Rat.intCast_mul]
   have cf:(e:Rat)=(V:Rat) * (c:Rat):=by rw [ec,Rat.intCast_mul]
   refine yH (c:=(V:Rat)) (k5 hV) ?_
   rw [Rat.intCast_mul] at t1 ⊢
   grind
noncomputable def Zq (P:Int) (n:Nat) (v:Rat):Prop:=∃ z:Int,0<=z/\z<=2 ^ n/\(z:Rat)=v * (P:Rat)
structure Wq (e:Nat) (q:Rat):Prop where
 n0:0<=q.num
 sq:Sq e q
theorem p2 (m n:Nat):(2:Int) ^ (m + n)=2 ^ m * 2 ^ n:=Int.pow_add ..
theorem p0 (n:Nat):(0:Int)<=2 ^ n:=by
 have e:((2 ^ n:Nat):Int)=(2:Int) ^ n:=Int.natCast_pow ..
 rw [<- e]
 exact Int.natCast_nonneg _
theorem bd2 {n:Nat} {i:Int} (h:Bd n i):i<=2 ^ n:=by
 have h:i.natAbs < 2 ^ n:=h
 have e:((2 ^ n:Nat):Int)=(2:Int) ^ n:=Int.natCast_pow ..
 omega
theorem Zq.mul {P:Int} {n e:Nat} {v q:Rat} (h:Zq P n v) (g:Wq e q):Zq (P * ((q.den:Nat):Int)) (n + e) (q * v):=by
 obtain ⟨z,h0,h1,h2⟩:=h
 refine ⟨z * q.num,Int.mul_nonneg h0 g.n0,?_,?_⟩
 · rw [p2]; exact Int.mul_le_mul h1 (bd2 g.sq.num) g.n0 (p0 n)
 · have:=e7 q
   rw [Rat.intCast_mul,Rat.intCast_mul]; grind
theorem Zq.up {P:Int} {n e:Nat} {v q:Rat} (h:Zq P n v) (g:Wq e q):Zq (P * ((q.den:Nat):Int)) (n + e) v:=by
 obtain ⟨z,h0,h1,h2⟩:=h
 have:=den_pos q
 refine ⟨z * ((q.den:Nat):Int),Int.mul_nonneg h0 (by omega),?_,?_⟩
 · rw [p2]; exact Int.mul_le_mul h1 (bd2 g.sq.den) (by omega) (p0 n)
 · rw [Rat.intCast_mul,Rat.intCast_mul]; grind
theorem Zq.add {P:Int} {n:Nat} {v w:Rat} (h:Zq P n v) (g:Zq P n w):Zq P (n + 1) (v + w):=by
 obtain ⟨z,h0,h1,h2⟩:=h
 obtain ⟨y,g0,g1,g2⟩:=g
 refine ⟨z + y,by omega,by rw [p2]; omega,?_⟩
 rw [Rat.intCast_add]; grind
theorem Zq.mono {P:Int} {m n:Nat} {v:Rat} (h:Zq P m v) (g:m<=n):Zq P n v:=by
 obtain ⟨z,h0,h1,h2⟩:=h
 refine ⟨z,h0,Int.le_trans h1 ?_,h2⟩
 exact_mod_cast Nat.pow_le_pow_right (n:=2) (by decide) g
theorem pT {n:Nat} {i:Int} (h0:0<=i) (h:i<=2 ^ n):Bd (n + 1) i:=by
 unfold Bd
 have e:((2 ^ n:Nat):Int)=(2:Int) ^ n:=Int.natCast_pow ..
 have:=Nat.pow_succ (n:=2) (m:=n)
 have:=Nat.two_pow_pos n
 omega
theorem Zq.sq {P:Int} {m n:Nat} {v:Rat} (h:Zq P n v) (hP:0 < P) (g:P<=2 ^ m) (hm:m<=n):Sq (n + 1) v:=by
 obtain ⟨z,h0,h1,h2⟩:=h
 exact Sq.cG hP h2 (pT h0 h1) ((pT (by omega) g).mono (by omega))
theorem Sm.bd {R:Nat} {P:Int} {s:List Int × Int} {v:Nat->Rat} {m n:Nat} (h:Sm R P s v) (hP:0 < P) (g:P<=2 ^ m) (hz:∀ i,i < R->Zq P n (v i)):Bd (m + 1) s.2/\∀ x ∈ s.1,Bd (n + 1) x:=by
 refine ⟨(pT (by omega) g).of_dvd h.dvd (by omega),λx hx=>?_⟩
 obtain ⟨i,hi,rfl⟩:=List.getElem_of_mem hx
 have hR:i < R:=by rw [<- h.len]; exact hi
 obtain ⟨z,h0,h1,h2⟩:=hz i hR
 obtain ⟨c,ec⟩:=h.dvd
 have hv:=h.val i hR
 have eg:s.1.getD i 0=s.1[i]:=by simp [hi]
 rw [eg] at hv
 have ez:z=s.1[i] * c:=by
   apply Rat.intCast_inj.mp
   rw [h2,ec,Rat.intCast_mul,Rat.intCast_mul,hv]; grind
 rcases Int.lt_or_eq_of_le h0 with z0 | z0
 · exact (pT h0 h1).of_dvd ⟨c,ez⟩ (by omega)
 · have cp:0 < c:=p6 (by rw [<- ec]; exact hP) h.pos
   have:s.1[i]=0:=by
     rcases Int.mul_eq_zero.mp (ez.symm.trans z0.symm) with q | q
     · exact q
     · omega
   rw [this]
   exact Nat.two_pow_pos _
section
variable {P:Program} {w:World} {K:PySem.W.Frag} {mg:Str->Option Value} {base:Heap} {k:Nat} {f:Addr} {fd:FuncData} {qual:Str}
end
end K66
namespace Hy
open PySem PySem.Spec PyProof.Rows L2
open Ev (D Den ax au aR aF aE dR cD PTs bT cP)
section
variable {X:Cx} {C:Bool} {τ τ':List Sl} {x y z:D} {a b e c tg it elt o ix:Expr} {es ifs:List Expr} {pos p q:Pos} {k:Nat} {s:Sl} {N:Po} {rest body:List Stmt} {ds xs ys:List D} {i:Nat} {scope:Scope}
theorem xU (j l:Nat) {n m:Str} {p2 pt:Pos} {md:Nat} {g g' f:Nat->D} (B:Bk X k) (hi:PI X (.Tuple [.Name n p,.Name m p2] md pt) it (dI X.K τ xs)) (hx:∀ i (h:i < xs.length),xs[i]=.tup [g i,g' i]) (hl:xs.length < 1000000)
   (he:∀ i,i < xs.length->∀ s H fp,PE (cpX X s H scope fp) elt (dE X.K true (((a9 τ (bCp X.N scope)++[Sl.un]).set j (.d (g i))).set l (.d (g' i))) (.d (f i))))
   (hc:bOk X.env.scope scope=true:=by kernel_rfl) (hu:(a9 τ (bCp X.N scope)++[Sl.un])[j]?=some .un:=by rfl) (hu':(a9 τ (bCp X.N scope)++[Sl.un])[l]?=some .un:=by rfl) (hN:(bNm scope++[("#" : Str)])[j]?=some n:=by rfl) (hN':(bNm scope++[("#" : Str)])[l]?=some m:=by rfl) (hv:∀ s H fp,Loc (cpX X s H scope fp).env.scope n:=by intro _ _ _; first | exact .inl rfl | exact .inr rfl) (hv':∀ s H fp,Loc (cpX X s H scope fp).env.scope m:=by intro _ _ _; first | exact .inl rfl | exact .inr rfl)
   (hf:∀ s H fp,(cpX X s H scope fp).fn n=true\/(cpX X s H scope fp).env.scope.names.lookup n=some .local:=by intro _ _ _; first | exact .inr rfl | exact .inl rfl) (hf':∀ s H fp,(cpX X s H scope fp).fn m=true\/(cpX X s H scope fp).env.scope.names.lookup m=some .local:=by intro _ _ _; first | exact .inr rfl | exact .inl rfl) (hs:∀ x,foldedSetIterable it X.env x=pure x:=by intro _; rfl) :
   Cmp X elt (.Tuple [.Name n p,.Name m p2] md pt) it [] scope τ ((List.range xs.length).map f):=
 Al (λi=>((a9 τ (bCp X.N scope)++[Sl.un]).set j (.d (g i))).set l (.d (g' i))) B hi hl (λi=>⟨by rw [List.length_set,List.length_set],λr x h=>by
     rw [List.getElem?_set_ne (λz=>by rw [<- z,hu'] at h; cases h),List.getElem?_set_ne (λz=>by rw [<- z,hu] at h; cases h)]
     exact h⟩)
   (λi h s H fp=>by rw [hx i h]; exact vC j l (B.comp s H scope fp).calm (ff hc).2 hN hN' (hv s H fp) (hv' s H fp) (hf s H fp) (hf' s H fp)) he hc hs
theorem y9 {ns ms:List Int} (i:Nat) (h:i < (gA (ns.map D.int) (ms.map D.int)).length):(gA (ns.map D.int) (ms.map D.int))[i]=.tup [.int (ns.getD i 0),.int (ms.getD i 0)]:=by
 rw [kP]
 rw [cq,List.length_map,List.length_map] at h
 simp [show i < ns.length by omega,show i < ms.length by omega]
end
end Hy
namespace K66
open PySem PySem.Spec PyProof.Rows L2 Hy
open Ev (D Den ax aM aK)
noncomputable def cw (ds:List D) (r:Sl):Prop:=∃ (s:List Int × Int) (q:Rat),ds=[smD s,frD q]/\0 < s.2/\Bd 8000 s.2/\(∀ x ∈ s.1,Bd 8000 x)/\Sq 100 q/\s.1.length<=1000/\r=.d (smD (wsm s q))
theorem bW {a b:Int} (h:0 < b):a.fdiv b=a / b:=Int.fdiv_eq_ediv_of_nonneg _ (by omega)
theorem oK (ns:List Int) (g:Int->D):(List.range (ns.map D.int).length).map (λi=>g (ns.getD i 0))=ns.map g:=by
 refine List.ext_getElem (by simp) λi h1 h2=>?_
 have:i < ns.length:=by simpa using h2
 simp [this]
noncomputable def du (ds:List D) (r:Sl):Prop:=∃ s u:List Int × Int,ds=[smD s,smD u]/\0 < s.2/\Bd 8000 s.2/\0 < u.2/\Bd 8000 u.2/\(∀ x ∈ s.1,Bd 8000 x)/\(∀ x ∈ u.1,Bd 8000 x)/\s.1.length=u.1.length/\s.1.length<=1000/\r=.d (smD (asm s u))
section
variable {P:Program} {w:World} {K:PySem.W.Frag} {mg:Str->Option Value} {base:Heap} {k:Nat} {f:Addr} {fd:FuncData} {qual:Str}
theorem ig (F:Fun K "weighed_sums" qual (top 56) f fd) (hb:∀ x ∈ aj,mg x=none) (c_common_divisor:Cal P w K mg base k "common_divisor" aT) (c_shared_divisor:Cal P w K mg base k "shared_divisor" bx):aG P w K mg base CX0 (k + 1) f fd ["sums","weight"] (spD K cw):=by
 refine fnD F dH hb (by rintro _ _ ⟨_,_,rfl,_⟩; rfl) ?_
 rintro _ _ ⟨⟨ns,d⟩,q,rfl,hd,hd2,hns,hq,hl,rfl⟩ cdv A outer s H E b
 have nd:=dH.nd
 have hd:0 < d:=hd
 have hG:0 < (Int.gcd q.num d:Int):=l3 hd
 have hB:=eN ns (q.den:Nat) (den_pos q)
 have dG:aK (Int.gcd q.num d:Int):=(Bd.gcd hd2 (by show d ≠ 0; omega)).aK (Int.ne_of_gt hG) (by decide)
 have dB:aK (cL (q.den:Nat) ns):=(hq.den.of_dvd (ed ns _).1 (Int.ne_of_gt (den_pos q))).aK (Int.ne_of_gt hB) (by decide)
 have qn:Bd 8000 (q.num / (Int.gcd q.num d:Int)):=(hq.num.ediv _).mono (by decide)
 refine aI 2 nd (x_call b c_common_divisor (ae (ay (aa 1) af (aw (ai (i:=0) rfl))) (ae (ay (aa 0) af (aw (ai (i:=1) rfl))) ag)) ⟨_,_,rfl,rfl⟩) ?_
 refine aI 3 nd (x_call b c_shared_divisor (ae (ay (aa 1) af (aw (ai (i:=1) rfl))) (ae (ay (aa 0) af (aw (ai (i:=0) rfl))) ag)) ⟨_,_,rfl,rfl⟩) ?_
 refine aI 4 nd (aB (ay (aa 1) af (aw (ai (i:=0) rfl))) (aa 2) (bg dG)) ?_
 rw [bW hG]
 refine aJ (bX (ae (bA (cH (cmp 0 (f:=λi=>.int (ns.getD i 0 / cL (q.den:Nat) ns * (q.num / (Int.gcd q.num d:Int)))) b (bL (ay (aa 0) af (aw (ai (i:=0) rfl)))) j0 (by rw [List.length_map]; have:ns.length<=1000:=hl; omega) λi hi s0 H0 fp=>?_))) (ae (aB (aB (ay (aa 0) af (aw (ai (i:=1) rfl))) (aa 2) (bg dG)) (aB (ay (aa 1) af (aw (ai (i:=1) rfl))) (aa 3) (bg dB)) (bu ?_)) ag))) ?_
 · have hi:i < ns.length:=by rw [List.length_map] at hi; exact hi
   rw [<- bW hB]
   exact aB (aB (aa 0) (aa 1) (bg dB)) (aa 2) (bu (by rw [bW hB]; exact ((hns _ (getD_mem hi)).ediv _).aM qn (by decide) (by decide)))
 · rw [bW hG,bW hB]
   exact (hd2.ediv _).aM (hq.den.ediv _) (by decide) (by decide)
 · rw [bW hG,bW hB,oK ns λx=>.int (x / cL (q.den:Nat) ns * (q.num / (Int.gcd q.num d:Int)))]
   unfold smD wsm
   rw [List.map_map]
   rfl
theorem jE (F:Fun K "added_sums" qual (top 57) f fd) (hb:∀ x ∈ aj,mg x=none) (c_common_divisor:Cal P w K mg base k "common_divisor" aT) (c_shared_divisor:Cal P w K mg base k "shared_divisor" bx):aG P w K mg base CX0 (k + 1) f fd ["one","other"] (spD K du):=by
 refine fnD F fE hb (by rintro _ _ ⟨_,_,rfl,_⟩; rfl) ?_
 rintro _ _ ⟨⟨ns,d⟩,⟨ms,e⟩,rfl,hd,hd2,he,he2,hns,hms,hll,hl,rfl⟩ cdv A outer s H E b
 have nd:=fE.nd
 have hd:0 < d:=hd
 have he:0 < e:=he
 have hll:ns.length=ms.length:=hll
 have hl:ns.length<=1000:=hl
 have hS:0 < (Int.gcd d e:Int):=l3 he
 have bS:Bd 8000 (Int.gcd d e:Int):=Bd.gcd he2 (by show e ≠ 0; omega)
 have dS:aK (Int.gcd d e:Int):=bS.aK (by omega) (by decide)
 refine aI 2 nd (x_call b c_common_divisor (ae (ay (aa 0) af (aw (ai (i:=1) rfl))) (ae (ay (aa 1) af (aw (ai (i:=1) rfl))) ag)) ⟨_,_,rfl,rfl⟩) ?_
 refine aI 3 nd (aB (ay (aa 1) af (aw (ai (i:=1) rfl))) (aa 2) (bg dS)) ?_
 refine aI 4 nd (aB (ay (aa 0) af (aw (ai (i:=1) rfl))) (aa 2) (bg dS)) ?_
 rw [bW hS,bW hS]
 have be:Bd 8000 (e / (Int.gcd d e:Int)):=Bd.ediv he2 _
 have bd:Bd 8000 (d / (Int.gcd d e:Int)):=Bd.ediv hd2 _
 have zl:(gA (ns.map D.int) (ms.map D.int)).length=ns.length:=by rw [cq,List.length_map,List.length_map]; omega
 refine k6 5 nd (xU 0 1 (f:=λi=>.int (ns.getD i 0 * (e / (Int.gcd d e:Int)) + ms.getD i 0 * (d / (Int.gcd d e:Int)))) b (rb b (ay (aa 0) af (aw (ai (i:=0) rfl))) (ay (aa 1) af (aw (ai (i:=0) rfl)))) y9 (by rw [zl]; omega) λi hi s0 H0 fp=>?_) (.inr rfl) ?_
 · have hi:i < ns.length:=by rw [zl] at hi; exact hi
   exact aB (aB (aa 0) (aa 2) (bu ((hns _ (getD_mem hi)).aM be (by decide) (by decide)))) (aB (aa 1) (aa 3) (bu ((hms _ (getD_mem (xs:=ms) (by omega))).aM bd (by decide) (by decide)))) bc
 rw [zl]
 have ec:((List.range ns.length).map λi=>D.int (ns.getD i 0 * (e / (Int.gcd d e:Int)) + ms.getD i 0 * (d / (Int.gcd d e:Int))))=((List.range ns.length).map λi=>ns.getD i 0 * (e / (Int.gcd d e:Int)) + ms.getD i 0 * (d / (Int.gcd d e:Int))).map .int:=by rw [List.map_map]; rfl
 rw [ec]
 have er:asm (ns,d) (ms,e)=((((List.range ns.length).map λi=>ns.getD i 0 * (e / (Int.gcd d e:Int)) + ms.getD i 0 * (d / (Int.gcd d e:Int)))).map λx=>x / cL (Int.gcd d e:Int) ((List.range ns.length).map λi=>ns.getD i 0 * (e / (Int.gcd d e:Int)) + ms.getD i 0 * (d / (Int.gcd d e:Int))),d / (Int.gcd d e:Int) * (e / cL (Int.gcd d e:Int) ((List.range ns.length).map λi=>ns.getD i 0 * (e / (Int.gcd d e:Int)) + ms.getD i 0 * (d / (Int.gcd d e:Int))))):=rfl
 rw [er]
 have tl:((List.range ns.length).map λi=>ns.getD i 0 * (e / (Int.gcd d e:Int)) + ms.getD i 0 * (d / (Int.gcd d e:Int))).length<=1000:=by rw [List.length_map,List.length_range]; exact hl
 generalize ((List.range ns.length).map λi=>ns.getD i 0 * (e / (Int.gcd d e:Int)) + ms.getD i 0 * (d / (Int.gcd d e:Int)))=tops at tl
 have hV:=eN tops _ hS
 have dV:aK (cL (Int.gcd d e:Int) tops):=(bS.of_dvd (ed tops _).1 (by omega)).aK (by omega) (by decide)
 refine aI 6 nd (x_call b c_shared_divisor (ae (aa 2) (ae (aa 5) ag)) ⟨_,_,rfl,rfl⟩) ?_
 refine aJ (bX (ae (bA (cH (cmp 0 (f:=λi=>.int (tops.getD i 0 / cL (Int.gcd d e:Int) tops)) b (bL (aa 5)) j0 (by rw [List.length_map]; omega) λi hi s0 H0 fp=>?_))) (ae (aB (aa 4) (aB (ay (aa 1) af (aw (ai (i:=1) rfl))) (aa 6) (bg dV)) (bu ?_)) ag))) ?_
 · rw [<- bW hV]
   exact aB (aa 0) (aa 1) (bg dV)
 · rw [bW hV]
   exact bd.aM (Bd.ediv he2 _) (by decide) (by decide)
 · rw [bW hV,oK tops λx=>.int (x / cL (Int.gcd d e:Int) tops)]
   unfold smD
   rw [List.map_map]
   rfl
end
noncomputable def fh (V:Nat->Nat->Rat) (n:Nat) (r:Nat->Rat):Nat->Nat->Rat:=λk=>if k=n then r else V k
noncomputable def stV (V:Nat->Nat->Rat) (st:Stp):Nat->Nat->Rat:=if st.1 = "weigh" then fh V st.2.1 λi=>st.2.2 * V st.2.1 i else fh V (rgE st) λi=>V (rgE st) i + st.2.2 * V (rgS st) i
noncomputable def V0 (k i:Nat):Rat:=if i=k then 1 else 0
noncomputable def fwd (ss:List Stp):Nat->Nat->Rat:=ss.foldl stV V0
theorem i4 {n m:Nat} (h:m < n):ixN n (m:Int)=some m:=by
 unfold ixN
 rw [if_pos (by omega),if_pos (by omega)]
 simp
structure TrI (p n T R:Nat) (P:Int) (tr:List (List Int × Int)) (V:Nat->Nat->Rat):Prop where
 len:tr.length=T
 pos:0 < P
 le:P<=2 ^ p
 sm:∀ k,k < T->Sm R P (tr.getD k ([],1)) (V k)
 zq:∀ k,k < T->∀ i,i < R->Zq P n (V k i)
theorem tF {α:Type} {xs:List α} {k j:Nat} {x d:α} (h:k < xs.length):(xs.set k x).getD j d=if j=k then x else xs.getD j d:=by
 by_cases e:j=k
 · subst e; simp [h]
 · simp [List.getD,e,List.getElem?_set_ne (Ne.symm e)]
theorem Zq.upn {P:Int} {e n:Nat} {v q:Rat} (h:Zq P n v) (g:Wq e q):Zq (P * ((q.den:Nat):Int)) (n + e + 1) v:=(h.up g).mono (by omega)
theorem TrI.put {e p n T R k:Nat} {P:Int} {tr:List (List Int × Int)} {V:Nat->Nat->Rat} {q:Rat} (h:TrI p n T R P tr V) (g:Wq e q) (hk:k < T) {s':List Int × Int} {v':Nat->Rat} (hs:Sm R (P * ((q.den:Nat):Int)) s' v')
   (hz:∀ i,i < R->Zq (P * ((q.den:Nat):Int)) (n + e + 1) (v' i)):TrI (p + e) (n + e + 1) T R (P * ((q.den:Nat):Int)) (tr.set k s') (fh V k v'):=by
 refine ⟨by rw [List.length_set]; exact h.len,Int.mul_pos h.pos (den_pos q),?_,λj hj=>?_,λj hj i hi=>?_⟩
 · rw [p2]
   exact Int.mul_le_mul h.le (bd2 g.sq.den) (by have:=den_pos q; omega) (p0 _)
 · rw [tF (by rw [h.len]; exact hk)]
   unfold fh
   split
   · exact hs
   · exact (h.sm j hj).up _
 · unfold fh
   split
   · exact hz i hi
   · exact (h.zq j hj i hi).upn g
theorem TrI.start {T R:Nat}:TrI 0 0 T R 1 ((List.range T).map λk=>iY k R) V0:=by
 refine ⟨by simp,by decide,by simp,λk hk=>?_,λk hk i hi=>?_⟩
 · rw [show ((List.range T).map λk=>iY k R).getD k ([],1)=iY k R by simp [hk]]
   refine ⟨by simp [iY],by show (0:Int) < 1; decide,Int.dvd_refl _,λi hi=>?_⟩
   rw [show (iY k R).1.getD i 0=if i=k then 1 else 0 by simp [iY,hi]]
   unfold V0 iY
   split
   · exact (Rat.one_mul _).symm
   · exact (Rat.zero_mul _).symm
 · unfold V0
   split
   · exact ⟨1,by decide,by simp,(Rat.one_mul _).symm⟩
   · exact ⟨0,by decide,by simp,(Rat.zero_mul _).symm⟩
theorem TrI.bd {p n T R:Nat} {P:Int} {tr:List (List Int × Int)} {V:Nat->Nat->Rat} (h:TrI p n T R P tr V) (hp:p<=n) (hn:n<=1500) {k:Nat} (hk:k < T):0 < (tr.getD k ([],1)).2/\Bd 8000 (tr.getD k ([],1)).2/\(∀ x ∈ (tr.getD k ([],1)).1,Bd 8000 x)/\(tr.getD k ([],1)).1.length=R:=by
 obtain ⟨h1,h2⟩:=(h.sm k hk).bd h.pos h.le (h.zq k hk)
 exact ⟨(h.sm k hk).pos,h1.mono (by omega),λx hx=>(h2 x hx).mono (by omega),(h.sm k hk).len⟩
theorem rA {tr:List (List Int × Int)} {i:Nat} (h:i < tr.length):atI (tr.map smD) (i:Int)=some (smD (tr.getD i ([],1))):=ai (by simp [h])
theorem kN {tr:List (List Int × Int)} {C:Nat} (h:C<=tr.length):(cutD (tr.map smD) none (some (C:Int))).length=C:=by rw [lL,List.length_take,List.length_map]; omega
theorem zO {tr:List (List Int × Int)} {C:Nat} (i:Nat) (h:i < (cutD (tr.map smD) none (some (C:Int))).length):(cutD (tr.map smD) none (some (C:Int)))[i]=smD (tr.getD i ([],1)):=by
 rw [List.getElem_of_eq (lL C)]
 rw [lL,List.length_take,List.length_map] at h
 simp [show i < tr.length by omega]
theorem Sm.sums {R:Nat} {P:Int} {s:List Int × Int} {v:Nat->Rat} (h:Sm R P s v):yp s ((List.range R).map v):=by
 refine ⟨by rw [h.len]; simp,h.pos,λi hi=>?_⟩
 have hi:i < R:=by simpa using hi
 rw [h.val i hi]
 simp [hi]
theorem sO {e p n T R:Nat} {P:Int} {tr:List (List Int × Int)} {V:Nat->Nat->Rat} {m:Nat} {q:Rat} (h:TrI p n T R P tr V) (g:Wq e q) (hn:m < T):TrI (p + e) (n + e + 1) T R (P * ((q.den:Nat):Int)) (tr.set m (wsm (tr.getD m ([],1)) q)) (stV V ("weigh",m,q)):=by
 unfold stV
 rw [if_pos rfl]
 exact h.put g hn (iF (h.sm m hn)) λi hi=>((h.zq m hn i hi).mul g).mono (by omega)
theorem xk {e p n T R:Nat} {P:Int} {tr:List (List Int × Int)} {V:Nat->Nat->Rat} {st:Stp} (h:TrI p n T R P tr V) (g:Wq e st.2.2) (h0:st.1 ≠ "weigh") (h1:rgS st < T) (h2:rgE st < T):TrI (p + e) (n + e + 1) T R (P * ((st.2.2.den:Nat):Int)) (tr.set (rgE st) (asm (tr.getD (rgE st) ([],1)) (wsm (tr.getD (rgS st) ([],1)) st.2.2))) (stV V st):=by
 unfold stV
 rw [if_neg h0]
 exact h.put g h2 (x5 ((h.sm _ h2).up _) (iF (h.sm _ h1))) λi hi=>(((h.zq _ h2 i hi).up g).add ((h.zq _ h1 i hi).mul g))
noncomputable def a8 (E:Stp->Nat) (ss:List Stp):Nat:=(ss.map E).sum
theorem eU {E:Stp->Nat} (a b:List Stp):a8 E (a++b)=a8 E a + a8 E b:=by unfold a8; rw [List.map_append,List.sum_append]
theorem l9 {E:Stp->Nat} (s:Stp):a8 E [s]=E s:=by unfold a8; simp
theorem eX {E:Stp->Nat} (ss:List Stp) (i:Nat):a8 E (ss.take i)<=a8 E ss:=by
 have:=eU (E:=E) (ss.take i) (ss.drop i)
 rw [List.take_append_drop] at this
 omega
theorem rh {E:Stp->Nat} (ss:List Stp):a8 E ss.reverse=a8 E ss:=by unfold a8; rw [List.map_reverse,List.sum_reverse]
theorem ym {T:Nat} {st:Stp} (h:okS T st) (h0:st.1 ≠ "weigh"):rgS st < T/\rgE st < T/\rgS st ≠ rgE st:=by
 obtain ⟨_,h | h⟩:=h
 · exact absurd h.1 h0
 · have:=h.2
   unfold rgS rgE
   split <;> omega
noncomputable def fU (C R:Nat) (V:Nat->Nat->Rat):List (List Rat):=(List.range R).map λi=>(List.range C).map λj=>V j i
noncomputable def dj (ds:List D) (r:Sl):Prop:=∃ (E:Stp->Nat) (T R C:Nat) (ss:List Stp),ds=[aS T R C ss]/\okL T R C ss/\(∀ st ∈ ss,Wq (E st) st.2.2/\E st<=100)/\a8 E ss + ss.length<=1500/\r=.n (rO (fU C R (fwd ss)))
theorem qL (C R:Nat) (V:Nat->Nat->Rat):pH ((List.range C).map λj=>(List.range R).map λi=>V j i) R=fU C R V:=by
 unfold pH fU
 refine List.map_congr_left λi hi=>?_
 have hi:i < R:=List.mem_range.mp hi
 unfold rG
 rw [List.length_map,List.length_range]
 refine List.map_congr_left λj hj=>?_
 have hj:j < C:=List.mem_range.mp hj
 simp [hi,hj]
section
variable {P:Program} {w:World} {K:PySem.W.Frag} {mg:Str->Option Value} {base:Heap} {k:Nat} {f:Addr} {fd:FuncData} {qual:Str}
theorem l4 (F:Fun K "table_of" qual (top 53) f fd) (hb:∀ x ∈ aj,mg x=none) (c_look_ladder:Cal P w K mg base k "look_ladder" bF) (c_columns_of:Cal P w K mg base k "columns_of" de) (c_first_sums:Cal P w K mg base k "first_sums" c9) (c_weighed_sums:Cal P w K mg base k "weighed_sums" cw) (c_added_sums:Cal P w K mg base k "added_sums" du) (c_told_sums:Cal P w K mg base k "told_sums" eK) (c_rung_end:Cal P w K mg base k "rung_end" fP) (c_rung_start:Cal P w K mg base k "rung_start" df):aG P w K mg base CX0 (k + 1) f fd ["ladder"] (spD K dj):=by
 refine fnD F gU hb (by rintro _ _ ⟨_,_,_,_,_,rfl,_⟩; rfl) ?_
 rintro _ _ ⟨EE,T,R,C,ss,rfl,h,hw,hn,rfl⟩ cdv A outer s H E b
 have nd:=gU.nd
 have hT:=h.t7
 have h00:=h
 have hRT:=h.rT
 have hCT:=h.cT
 refine eI (x_call b c_look_ladder (ae (aa 0) ag) ⟨T,R,C,ss,rfl,h,rfl⟩) ?_
 refine k6 1 nd (cmp 0 (f:=λk=>smD (iY k R)) b (cW b (ay (aa 0) af (aw (ai (i:=0) rfl))) (by omega) (by omega)) cU (by rw [aD]; omega) λi hi s0 H0 fp=>(x_call (b.comp s0 H0 _ fp) c_first_sums (ae (aa 0) (ae (ay (aa 1) af (aw (ai (i:=1) rfl))) ag)) ⟨_,R,rfl,by omega,rfl⟩)) (.inl rfl) ?_
 rw [aD,Int.toNat_natCast]
 refine fA 2 (λi τ=>∃ P tr s2 s3,TrI (a8 EE (ss.take i)) (a8 EE (ss.take i) + i) T R P tr ((ss.take i).foldl stV V0)/\τ=[.d (aS T R C ss),.o (tr.map smD),s2,s3]) b nd (bL (ay (aa 0) af (aw (ai (i:=3) rfl)))) wA ⟨1,(List.range T).map λk=>iY k R,.un,.un,TrI.start,?_⟩ (λi hi τ h=>?_) λτ h=>?_
 · rw [List.map_map]; rfl
 · obtain ⟨P,tr,s2,s3,I,rfl⟩:=h
   have hi:i < ss.length:=by rw [List.length_map] at hi; exact hi
   have mem:ss.getD i ("weigh",0,0) ∈ ss:=by simp [hi]
   obtain ⟨g,he⟩:=hw _ mem
   have es:a8 EE (ss.take (i + 1))=a8 EE (ss.take i) + EE (ss.getD i ("weigh",0,0)):=by rw [take_snoc (("weigh",0,0):Stp) hi,eU,l9]
   have hn0:=eX (E:=EE) ss i
   have hn1:=eX (E:=EE) ss (i + 1)
   have hn':a8 EE (ss.take i) + i<=1500:=by omega
   have hn2:a8 EE (ss.take (i + 1)) + (i + 1)<=1500:=by omega
   rw [es] at hn2 ⊢
   have ok:=h00.st i hi
   have nx:∀ V,(ss.take (i + 1)).foldl stV V=stV ((ss.take i).foldl stV V) (ss.getD i ("weigh",0,0)):=λV=>by rw [take_snoc (("weigh",0,0):Stp) hi,List.foldl_append]; rfl
   rw [nx]
   rw [show a8 EE (ss.take i) + EE (ss.getD i ("weigh",0,0)) + (i + 1)=a8 EE (ss.take i) + i + EE (ss.getD i ("weigh",0,0)) + 1 by omega]
   generalize ss.getD i ("weigh",0,0)=st at *
   generalize EE st=e at *
   generalize a8 EE (ss.take i)=p at *
   obtain ⟨u,n,q⟩:=st
   have sq:Sq 100 q:=g.sq.mono he
   refine nR (M:=λτ=>∃ P tr s2 s3,TrI (p + e) (p + i + e + 1) T R P tr (stV ((ss.take i).foldl stV V0) (u,n,q))/\τ=[.d (aS T R C ss),.o (tr.map smD),s2,s3]) (aY (ay (aa 2) af (aw (ai (i:=0) rfl))) bD jZ) (λh=>?_) (λh=>?_) λτ h=>aV h
   · obtain rfl:=of_decide_eq_true h
     have hnT:n < T:=by
       rcases ok.2 with z | z
       · exact z.2
       · have:=z.2; simp only at this; omega
     obtain ⟨z1,z2,z3,z4⟩:=I.bd (Nat.le_add_right ..) hn' hnT
     have hnl:n < tr.length:=by rw [I.len]; exact hnT
     refine mI 1 (xs:=tr.map smD) (j:=n) (ay (aa 2) af (aw (ai (i:=1) rfl))) (x_call b c_weighed_sums (ae (hJ 1 (ay (aa 2) af (aw (ai (i:=1) rfl))) (rA hnl)) (ae (ay (aa 2) af (aw (ai (i:=2) rfl))) ag)) ⟨_,q,rfl,z1,z2,z3,sq,by omega,rfl⟩) (by rw [List.length_map]; exact i4 hnl) (aV ⟨_,_,.d (stD ("weigh",n,q)),s3,sO I g hnT,?_⟩)
     rw [List.map_set]
     rfl
   · have h0:u ≠ "weigh":=of_decide_eq_false h
     obtain ⟨hS,hE,_⟩:=ym ok h0
     obtain ⟨z1,z2,z3,z4⟩:=I.bd (Nat.le_add_right ..) hn' hS
     obtain ⟨y1,y2,y3,y4⟩:=I.bd (Nat.le_add_right ..) hn' hE
     have lS:rgS (u,n,q) < tr.length:=by rw [I.len]; exact hS
     have lE:rgE (u,n,q) < tr.length:=by rw [I.len]; exact hE
     obtain ⟨w1,w2⟩:=(iF (q:=q) (I.sm _ hS)).bd (m:=p + e) (n:=p + i + e) (Int.mul_pos I.pos (den_pos q)) (by rw [p2]; exact Int.mul_le_mul I.le (bd2 g.sq.den) (by have:=den_pos q; omega) (p0 _)) λr hr=>((I.zq _ hS r hr).mul g)
     have w0:=(iF (q:=q) (I.sm _ hS)).pos
     have w3:=(iF (q:=q) (I.sm _ hS)).len
     refine aI 3 nd (x_call b c_weighed_sums (ae (hJ 1 (x_call b c_rung_start (ae (aa 2) ag) ⟨(u,n,q),rfl,rfl⟩) (rA lS)) (ae (ay (aa 2) af (aw (ai (i:=2) rfl))) ag)) ⟨_,q,rfl,z1,z2,z3,sq,by omega,rfl⟩) ?_
     refine mI 1 (xs:=tr.map smD) (j:=rgE (u,n,q)) (x_call b c_rung_end (ae (aa 2) ag) ⟨(u,n,q),rfl,rfl⟩) (x_call b c_added_sums (ae (hJ 1 (x_call b c_rung_end (ae (aa 2) ag) ⟨(u,n,q),rfl,rfl⟩) (rA lE)) (ae (aa 3) ag)) ⟨_,_,rfl,y1,y2,w0,w1.mono (by omega),y3,λx hx=>(w2 x hx).mono (by omega),by rw [y4,w3],by omega,rfl⟩) (by rw [List.length_map]; exact i4 lE) (aV ⟨_,_,.d (stD (u,n,q)),.d (smD (wsm (tr.getD (rgS (u,n,q)) ([],1)) q)),xk I g h0 hS hE,?_⟩)
     rw [List.map_set]
     rfl
 · obtain ⟨P,tr,s2,s3,I,rfl⟩:=h
   rw [List.length_map,List.take_of_length_le (Nat.le_refl _)] at I
   have bds:∀ j,j < T->_:=λj hj=>I.bd (Nat.le_add_right ..) hn hj
   have hCl:C<=tr.length:=by rw [I.len]; exact hCT
   refine iU 1 (aJ (x_call b c_columns_of (ae (bA (cH (cmp 0 (f:=λj=>.lst (((List.range R).map (fwd ss j)).map frD)) b (bL (bA (wC (aa 1) mX (jj (ay (aa 0) af (aw (ai (i:=2) rfl))))))) zO (by rw [kN hCl]; omega) λj hj s0 H0 fp=>?_))) ag) ⟨(List.range C).map λj=>(List.range R).map (fwd ss j),R,?_,?_,?_,?_,?_,rfl⟩) ?_)
   · rw [kN hCl] at hj
     have hjT:j < T:=by omega
     exact bA (x_call (b.comp s0 H0 _ fp) c_told_sums (ae (aa 0) ag) ⟨tr.getD j ([],1),(List.range R).map (fwd ss j),rfl,(I.sm j hjT).sums,by rw [List.length_map,List.length_range]; omega,(bds j hjT).2.1.mono (by decide),rfl⟩)
   · rw [kN hCl]
     unfold hZ
     rw [List.map_map]
     rfl
   · rw [List.length_map,List.length_range]; exact h00.c1
   · rw [List.length_map,List.length_range]; omega
   · omega
   · intro j hj
     rw [List.length_map,List.length_range] at hj
     simp [hj]
   · rw [qL]
end
noncomputable def iw (ds:List D) (r:Sl):Prop:=∃ n:Nat,ds=[.int n]/\n<=1000/\r=.d (.int (10 ^ n))
noncomputable def wgT (p:Int) (g:Nat):Int:=if 0 < g then p.fmod (10 ^ g) else p.fmod 7
noncomputable def wgB (p:Int) (g:Nat):Int:=if 0 < g then 1 + (p.fdiv (10 ^ g)).fmod (10 ^ g - 1) else 1 + (p.fdiv 7).fmod 4
noncomputable def wgt (p:Int) (g:Nat):Rat:=(wgT p g:Rat) / (wgB p g:Rat)
noncomputable def fQ (ds:List D) (r:Sl):Prop:=∃ (p:Int) (g:Nat),ds=[.int p,.int g]/\g<=40/\r=.d (frD (wgt p g))
theorem fm {a b:Int} (h:0 < b):0<=a.fmod b/\a.fmod b < b:=⟨Int.fmod_nonneg_of_pos a h,Int.fmod_lt_of_pos a h⟩
theorem tV {g:Nat} (h:g<=40):(10:Int) ^ g < 2 ^ 140:=by
 have h1:(10:Nat) ^ g<=10 ^ 40:=Nat.pow_le_pow_right (by decide) h
 have h2:(10:Nat) ^ 40 < 2 ^ 140:=by decide
 have:((10 ^ g:Nat):Int) < ((2 ^ 140:Nat):Int):=Int.ofNat_lt.mpr (Nat.lt_of_le_of_lt h1 h2)
 simpa using this
theorem pO {g:Nat} (h:0 < g):(10:Int)<=10 ^ g:=by
 have h1:(10:Nat) ^ 1<=10 ^ g:=Nat.pow_le_pow_right (by decide) h
 have:((10 ^ 1:Nat):Int)<=((10 ^ g:Nat):Int):=Int.ofNat_le.mpr h1
 simpa using this
theorem lX {x:Int} (h0:0<=x) (h:x < 2 ^ 140):Bd 140 x:=by
 unfold Bd
 have:(x.natAbs:Int) < ((2 ^ 140:Nat):Int):=by rw [Int.natAbs_of_nonneg h0]; simpa using h
 exact Int.ofNat_lt.mp this
theorem sP (p:Int) {g:Nat} (h:g<=40):0<=wgT p g/\Bd 140 (wgT p g)/\0 < wgB p g/\Bd 140 (wgB p g):=by
 unfold wgT wgB
 by_cases h0:0 < g
 · have h1:=tV h
   have h2:=pO h0
   have f1:=fm (a:=p) (b:=10 ^ g) (by omega)
   have f2:=fm (a:=p.fdiv (10 ^ g)) (b:=10 ^ g - 1) (by omega)
   rw [if_pos h0,if_pos h0]
   exact ⟨f1.1,lX f1.1 (by omega),by omega,lX (by omega) (by omega)⟩
 · have f1:=fm (a:=p) (b:=7) (by decide)
   have f2:=fm (a:=p.fdiv 7) (b:=4) (by decide)
   rw [if_neg h0,if_neg h0]
   exact ⟨f1.1,lX f1.1 (by omega),by omega,lX (by omega) (by omega)⟩
theorem gk (p:Int) {g:Nat} (h:g<=40):(wgT p g:Rat)=wgt p g * (wgB p g:Rat):=(Rat.div_mul_cancel (k5 (sP p h).2.2.1)).symm
theorem ny (p:Int) {g:Nat} (h:g<=40):0<=(wgt p g).num/\Sq 140 (wgt p g):=by
 obtain ⟨h1,h2,h3,h4⟩:=sP p h
 refine ⟨?_,Sq.cG h3 (gk p h) h2 h4⟩
 rw [(cG h3 (gk p h)).1]
 exact Int.ediv_nonneg h1 (Int.natCast_nonneg _)
section
variable {P:Program} {w:World} {K:PySem.W.Frag} {mg:Str->Option Value} {base:Heap} {k:Nat} {f:Addr} {fd:FuncData} {qual:Str}
theorem tR (F:Fun K "_law_ten" qual (top 79) f fd) (hb:∀ x ∈ aj,mg x=none):aG P w K mg base CX0 (k + 1) f fd ["_law_many"] (spD K iw):=by
 refine fnD F mS hb (by rintro _ _ ⟨_,rfl,_⟩; rfl) ?_
 rintro _ _ ⟨n,rfl,hn,rfl⟩ cdv A outer s H E b
 have nd:=mS.nd
 refine aI 1 nd af ?_
 refine fA 2 (λi τ=>∃ s2,τ=[.d (.int n),.d (.int (10 ^ i)),s2]) b nd (cW b (aa 0) (by omega) (by omega)) cU ⟨_,rfl⟩ (λi hi τ h=>?_) λτ h=>?_
 · obtain ⟨s2,rfl⟩:=h
   refine aI 1 nd (aB af (aa 1) (bu (mkL (by decide)))) (aV ⟨.d (.int (i:Nat)),?_⟩)
   rw [Int.pow_succ,Int.mul_comm]
   rfl
 · obtain ⟨s2,rfl⟩:=h
   refine aJ (aa 1) ?_
   rw [aD,Int.toNat_natCast]
theorem mR (F:Fun K "_law_weight" qual (top 85) f fd) (hb:∀ x ∈ aj,mg x=none) (c_l_made:Cal P w K mg base k "_law_made" eO) (c_l_ten:Cal P w K mg base k "_law_ten" iw):aG P w K mg base CX0 (k + 1) f fd ["_law_part","_law_figures"] (spD K fQ):=by
 refine fnD F gW hb (by rintro _ _ ⟨_,_,rfl,_⟩; rfl) ?_
 rintro _ _ ⟨p,g,rfl,hg,rfl⟩ cdv A outer s H E b
 have nd:=gW.nd
 obtain ⟨h1,h2,h3,h4⟩:=sP p hg
 have hm:=gk p hg
 refine fB (aY (aa 1) af vy) (λh=>?_) λh=>?_
 · have h0:0 < g:=by have:=of_decide_eq_true h; omega
   have t2:=pO h0
   have eT:wgT p g=p.fmod (10 ^ g):=if_pos h0
   have eB:wgB p g=1 + (p.fdiv (10 ^ g)).fmod (10 ^ g - 1):=if_pos h0
   have dv:aK ((10:Int) ^ g):=(lX (by omega) (tV hg)).aK (by omega) (by decide)
   refine aI 2 nd (x_call b c_l_ten (ae (aa 1) ag) ⟨g,rfl,by omega,rfl⟩) ?_
   exact aJ (x_call b c_l_made (ae (aB (aa 0) (aa 2) (bV (by omega))) (ae (aB af (aB (aB (aa 0) (aa 2) (bg dv)) (aB (aa 2) af dM) (bV (by omega))) bc) ag)) ⟨wgT p g,wgB p g,wgt p g,by rw [eT,eB],h3,h4.mono (by decide),hm,rfl⟩) rfl
 · have h0:g=0:=by have:=of_decide_eq_false h; omega
   subst h0
   exact aJ (x_call b c_l_made (ae (aB (aa 0) af (bV (by decide))) (ae (aB af (aB (aB (aa 0) af (bg (mkD (by decide) (by decide)))) af (bV (by decide))) bc) ag)) ⟨wgT p 0,wgB p 0,wgt p 0,rfl,h3,h4.mono (by decide),hm,rfl⟩) rfl
end
noncomputable def wrd (i:Int):Str:=if i=0 then "down" else if i=1 then "up" else "weigh"
theorem xh {i:Int} (h0:0<=i) (h:i < 3):atI [D.str "down",D.str "up",D.str "weigh"] i=some (.str (wrd i)):=by
 obtain ⟨n,rfl⟩:=Int.eq_ofNat_of_zero_le h0
 rcases (by omega:n=0\/n=1\/n=2) with rfl | rfl | rfl <;> rfl
theorem iC {α:Type} (a b c:α):∀ n,(List.replicate n [a,b,c]).flatten.length=3 * n
 | 0=>rfl
 | n + 1=>by rw [List.replicate_succ,List.flatten_cons,List.length_append,iC a b c n]; simp; omega
theorem pk {a b c:Int} {n:Nat} {x:Int} (h:x ∈ (List.replicate n [a,b,c]).flatten):x=a\/x=b\/x=c:=by
 obtain ⟨l,h1,h2⟩:=List.mem_flatten.mp h
 rw [(List.mem_replicate.mp h1).2] at h2
 simpa using h2
theorem sf {a b c:Int}:∀ (n k:Nat),k < n->(List.replicate n [a,b,c]).flatten.getD (3 * k) 0=a/\(List.replicate n [a,b,c]).flatten.getD (3 * k + 1) 0=b/\(List.replicate n [a,b,c]).flatten.getD (3 * k + 2) 0=c
 | n + 1,0,_=>by rw [List.replicate_succ,List.flatten_cons]; exact ⟨rfl,rfl,rfl⟩
 | n + 1,k + 1,h=>by
   have:=sf (a:=a) (b:=b) (c:=c) n k (by omega)
   rw [List.replicate_succ,List.flatten_cons]
   exact this
theorem vq (a b c:Int) (n:Nat):(List.replicate n [D.int a,D.int b,D.int c]).flatten=((List.replicate n [a,b,c]).flatten).map .int:=by
 rw [List.map_flatten,List.map_replicate]; rfl
noncomputable def adB (g:Nat):Int:=10 ^ (2 * (if (g:Int) > 1 then (g:Int) else 1).toNat) * 28
noncomputable def adP (c:Int) (n g:Nat):List Int:=nums c (List.replicate n [3,7,adB g]).flatten
noncomputable def adW (ps:List Int) (T k:Nat):Str:=if wrd (ps.getD (3 * k) 0) ≠ "weigh" /\ T=1 then "weigh" else wrd (ps.getD (3 * k) 0)
noncomputable def adA (ps:List Int) (T k:Nat):Int:=if adW ps T k = "weigh" then (ps.getD (3 * k + 1) 0).fmod T else (ps.getD (3 * k + 1) 0).fmod ((T:Int) - 1)
noncomputable def adS (ps:List Int) (T g k:Nat):Stp:=(adW ps T k,(adA ps T k).toNat,wgt (ps.getD (3 * k + 2) 0) g)
theorem vL {g:Nat} (h:g<=40):0 < adB g/\aK (adB g):=by
 unfold adB
 have hk:(2 * (if (g:Int) > 1 then (g:Int) else 1).toNat)<=80:=by split <;> omega
 generalize (2 * (if (g:Int) > 1 then (g:Int) else 1).toNat)=k at hk
 have h1:(10:Nat) ^ k<=10 ^ 80:=Nat.pow_le_pow_right (by decide) hk
 have h2:0 < (10:Nat) ^ k:=Nat.pow_pos (by decide)
 have e:(10:Int) ^ k * 28=((10 ^ k * 28:Nat):Int):=by simp
 rw [e]
 have h3:Bd 300 ((10 ^ k * 28:Nat):Int):=by
   unfold Bd
   rw [Int.natAbs_natCast]
   exact Nat.lt_of_le_of_lt (Nat.mul_le_mul_right 28 h1) (by decide)
 exact ⟨by omega,h3.aK (by omega) (by decide)⟩
theorem zK {c:Int} {n g k:Nat} (h:g<=40) (hk:k < n):0<=(adP c n g).getD (3 * k) 0/\(adP c n g).getD (3 * k) 0 < 3:=by
 have hp:∀ b ∈ (List.replicate n [3,7,adB g]).flatten,0 < b:=λb hb=>by
   have:=vL h
   rcases pk hb with rfl | rfl | rfl <;> omega
 have:=gw (c:=c) hp (i:=3 * k) (by rw [iC]; omega)
 rw [(sf n k hk).1] at this
 exact this
theorem rR {ps:List Int} {T k:Nat} (hT:1<=T):0<=adA ps T k/\(adW ps T k = "weigh" -> adA ps T k < T)/\(adW ps T k ≠ "weigh" -> 2<=T/\adA ps T k + 1 < T):=by
 unfold adA
 split
 · rename_i h
   have:=fm (a:=ps.getD (3 * k + 1) 0) (b:=T) (by omega)
   exact ⟨this.1,λ_=>this.2,λz=>absurd h z⟩
 · rename_i h
   have hT1:T ≠ 1:=λz=>h (by
     unfold adW
     split
     · rfl
     · rename_i y
       exact Decidable.byContradiction λx=>y ⟨x,z⟩)
   have:=fm (a:=ps.getD (3 * k + 1) 0) (b:=(T:Int) - 1) (by omega)
   exact ⟨this.1,λz=>absurd z h,λ_=>by omega⟩
theorem xr (i:Int):wrd i = "weigh" \/ wrd i = "down" \/ wrd i = "up":=by
 unfold wrd
 split
 · exact .inr (.inl rfl)
 · split
   · exact .inr (.inr rfl)
   · exact .inl rfl
theorem wg {ps:List Int} {T g k:Nat} (hT:1<=T) (hg:g<=40):okS T (adS ps T g k)/\Sq 140 (adS ps T g k).2.2:=by
 obtain ⟨h1,h2,h3⟩:=rR (ps:=ps) (k:=k) hT
 have hw:=ny (ps.getD (3 * k + 2) 0) hg
 refine ⟨⟨hw.1,?_⟩,hw.2⟩
 by_cases e:adW ps T k = "weigh"
 · exact .inl ⟨e,by have:=h2 e; show (adA ps T k).toNat < T; omega⟩
 · refine .inr ⟨?_,by have:=h3 e; show (adA ps T k).toNat + 1 < T; omega⟩
   show adW ps T k = "down" \/ adW ps T k = "up"
   unfold adW at e ⊢
   split at e
   · exact absurd rfl e
   · rename_i y
     rw [if_neg y]
     exact (xr _).resolve_left e
noncomputable def fF (ds:List D) (r:Sl):Prop:=∃ (c:Int) (T R C n g:Nat),ds=[.int c,.int T,.int R,.int C,.int n,.int g]/\1<=T/\n<=40/\g<=40/\r=.d (aS T R C ((List.range n).map (adS (adP c n g) T g)))
section
variable {P:Program} {w:World} {K:PySem.W.Frag} {mg:Str->Option Value} {base:Heap} {k:Nat} {f:Addr} {fd:FuncData} {qual:Str}
theorem ma (F:Fun K "_law_ladder" qual (top 86) f fd) (hb:∀ x ∈ aj,mg x=none) (c_l_numbers:Cal P w K mg base k "_law_numbers" bo) (c_l_weight:Cal P w K mg base k "_law_weight" fQ) (c_l_ten:Cal P w K mg base k "_law_ten" iw):aG P w K mg base CX0 (k + 1) f fd ["_law_cell_here","_law_tracks","_law_rows","_law_columns","_law_many","_law_figures"] (spD K fF):=by
 refine fnD F g9 hb (by rintro _ _ ⟨_,_,_,_,_,_,rfl,_⟩; rfl) ?_
 rintro _ _ ⟨c,T,R,C,n,g,rfl,hT,hn,hg,rfl⟩ cdv A outer s H E b
 have nd:=g9.nd
 have hmx:0<=(if (g:Int) > 1 then (g:Int) else 1)/\(if (g:Int) > 1 then (g:Int) else 1)<=40:=by split <;> omega
 have hB:=vL hg
 have hlen:(adP c n g).length=3 * n:=by unfold adP; rw [eD,iC]
 refine aI 6 nd (x_call b c_l_numbers (ae (aa 0) (ae (bA (y8 (bA (cA (ae af (ae af (ae (aB (x_call b c_l_ten (ae (aB af (bC b (ae af (ae (aa 5) ag)) (vM b.calm)) (bu (mkL (by decide)))) ag) ⟨2 * (if (g:Int) > 1 then (g:Int) else 1).toNat,?_,by omega,rfl⟩) af (bu (mkR (by decide)))) ag))))) (aa 4) (by omega) (by omega) ?_)) ag)) ⟨c,(List.replicate n [3,7,adB g]).flatten,?_,?_,?_,rfl⟩) ?_
 · congr 2; omega
 · simp; omega
 · rw [Int.toNat_natCast,<- vq]; rfl
 · rw [iC]; omega
 · intro x hx
   rcases pk hx with rfl | rfl | rfl
   · exact qH (by decide) (by decide)
   · exact qH (by decide) (by decide)
   · exact hB
 refine iU 6 ?_
 refine aI 7 nd (cA ag) ?_
 refine fA 8 (λi τ=>∃ s8 s9 s10,τ=[.d (.int c),.d (.int T),.d (.int R),.d (.int C),.d (.int n),.d (.int g),.d (.lst ((adP c n g).map .int)),.o (((List.range i).map (adS (adP c n g) T g)).map stD),s8,s9,s10]) b nd (cW b (aa 4) (by omega) (by omega)) cU ⟨_,_,_,rfl⟩ (λi hi τ h=>?_) λτ h=>?_
 · obtain ⟨s8,s9,s10,rfl⟩:=h
   have hi:i < n:=by rw [aD] at hi; omega
   have lt3:=zK (c:=c) hg hi
   have e0:(3 * (i:Int)).toNat=3 * i:=by omega
   have e1:(3 * (i:Int) + 1).toNat=3 * i + 1:=by omega
   have e2:(3 * (i:Int) + 2).toNat=3 * i + 2:=by omega
   have k0:atI ((adP c n g).map D.int) (3 * (i:Int))=some (.int ((adP c n g).getD (3 * i) 0)):=by rw [<- e0]; exact bf (by omega) (by omega)
   have k1:atI ((adP c n g).map D.int) (3 * (i:Int) + 1)=some (.int ((adP c n g).getD (3 * i + 1) 0)):=by rw [<- e1]; exact bf (by omega) (by omega)
   have k2:atI ((adP c n g).map D.int) (3 * (i:Int) + 2)=some (.int ((adP c n g).getD (3 * i + 2) 0)):=by rw [<- e2]; exact bf (by omega) (by omega)
   obtain ⟨a1,a2,a3⟩:=rR (ps:=adP c n g) (k:=i) hT
   refine aI 9 nd (ay (bA (cA (ae bD (ae bD (ae bD ag))))) (ay (aa 6) (aB af (aa 8) (bu (mkL (by decide)))) (aU k0)) (aU (xh lt3.1 lt3.2))) ?_
   refine aI 10 nd (aB (ay (aa 6) (aB (aB af (aa 8) (bu (mkL (by decide)))) af bc) (aU k1)) (aa 1) (bV (by omega))) ?_
   refine nR (M:=λτ=>τ=[.d (.int c),.d (.int T),.d (.int R),.d (.int C),.d (.int n),.d (.int g),.d (.lst ((adP c n g).map .int)),.o (((List.range i).map (adS (adP c n g) T g)).map stD),.d (.int i),.d (.str (adW (adP c n g) T i)),.d (.int (((adP c n g).getD (3 * i + 1) 0).fmod T))]) (PW.pt (yO (aY (aa 9) bD vW) λh=>(wQ (aY (aa 1) af jo)))) (λh=>?_) (λh=>?_) ?_
   · refine aI 9 nd bD (aV ?_)
     have:wrd ((adP c n g).getD (3 * i) 0) ≠ "weigh" /\ T=1:=by
       simp only [Bool.and_eq_true,Bool.not_eq_true',decide_eq_true_eq,decide_eq_false_iff_not] at h
       exact ⟨h.1,by omega⟩
     unfold adW
     rw [if_pos this]
     rfl
   · refine aV ?_
     have:¬ (wrd ((adP c n g).getD (3 * i) 0) ≠ "weigh" /\ T=1):=λ⟨z1,z2⟩=>by
       rw [decide_eq_false z1,decide_eq_true (show (T:Int)=1 by omega)] at h
       cases h
     unfold adW
     rw [if_neg this]
     rfl
   · rintro _ rfl
     refine nR (M:=λτ=>τ=[.d (.int c),.d (.int T),.d (.int R),.d (.int C),.d (.int n),.d (.int g),.d (.lst ((adP c n g).map .int)),.o (((List.range i).map (adS (adP c n g) T g)).map stD),.d (.int i),.d (.str (adW (adP c n g) T i)),.d (.int (adA (adP c n g) T i))]) (aY (aa 9) bD vW) (λh=>?_) (λh=>?_) ?_
     · have h:adW (adP c n g) T i ≠ "weigh":=by simpa using h
       have:=a3 h
       refine aI 10 nd (aB (ay (aa 6) (aB (aB af (aa 8) (bu (mkL (by decide)))) af bc) (aU k1)) (aB (aa 1) af dM) (bV (by omega))) (aV ?_)
       unfold adA
       rw [if_neg h]
       rfl
     · have h:adW (adP c n g) T i = "weigh":=by simpa using h
       refine aV ?_
       unfold adA
       rw [if_pos h]
     · rintro _ rfl
       refine tq 7 (bX (ae (aa 9) (ae (aa 10) (ae (x_call b c_l_weight (ae (ay (aa 6) (aB (aB af (aa 8) (bu (mkL (by decide)))) af bc) (aU k2)) (ae (aa 5) ag)) ⟨_,g,rfl,hg,rfl⟩) ag)))) ?_ (aV ⟨.d (.int i),.d (.str (adW (adP c n g) T i)),.d (.int (adA (adP c n g) T i)),?_⟩)
       · rw [List.length_map,List.length_map,List.length_range]; omega
       · rw [List.range_succ,List.map_append,List.map_append]
         have:((adA (adP c n g) T i).toNat:Int)=adA (adP c n g) T i:=Int.toNat_of_nonneg a1
         show _=[_,_,_,_,_,_,_,Sl.o (_++[D.tup [.str _,.int ((adA (adP c n g) T i).toNat:Int),frD _]]),_,_,_]
         rw [this]
         rfl
 · obtain ⟨s8,s9,s10,rfl⟩:=h
   rw [aD,Int.toNat_natCast]
   exact aJ (bX (ae (aa 1) (ae (aa 2) (ae (aa 3) (ae (tN 7) ag))))) rfl
end
noncomputable def bkV (L:Nat->Nat->Rat) (st:Stp):Nat->Nat->Rat:=if st.1 = "weigh" then fh L st.2.1 λi=>st.2.2 * L st.2.1 i else fh L (rgS st) λi=>L (rgS st) i + st.2.2 * L (rgE st) i
noncomputable def bwd (ss:List Stp):Nat->Nat->Rat:=ss.reverse.foldl bkV V0
noncomputable def dot:Nat->(Nat->Rat)->(Nat->Rat)->Rat
 | 0,_,_=>0
 | T + 1,f,g=>dot T f g + f T * g T
theorem lW {f f' g g':Nat->Rat}:∀ T,(∀ k,k < T->f k=f' k)->(∀ k,k < T->g k=g' k)->dot T f g=dot T f' g'
 | 0,_,_=>rfl
 | T + 1,h,e=>by rw [dot,dot,lW T (λk hk=>h k (by omega)) (λk hk=>e k (by omega)),h T (by omega),e T (by omega)]
theorem cX {f g:Nat->Rat}:∀ T,dot T f g=dot T g f
 | 0=>rfl
 | T + 1=>by rw [dot,dot,cX T,Rat.mul_comm]
theorem fW {f g:Nat->Rat} {n:Nat} {x:Rat}:∀ T,n < T->dot T (λk=>if k=n then x else f k) g=dot T f g + (x - f n) * g n
 | T + 1,h=>by
   rw [dot,dot]
   by_cases e:T=n
   · subst e
     rw [if_pos rfl,lW (f':=f) (g':=g) T (λk hk=>if_neg (by omega)) λ_ _=>rfl]
     grind
   · rw [if_neg e,fW T (by omega)]
     grind
theorem lJ {g:Nat->Rat} {n:Nat}:∀ T,n < T->dot T (λk=>if n=k then 1 else 0) g=g n
 | T + 1,h=>by
   rw [dot]
   by_cases e:n=T
   · subst e
     have z:∀ m,m<=n->dot m (λk=>if n=k then 1 else 0) g=0:=by
       intro m
       induction m with
       | zero=>intro _; rfl
       | succ m ih=>intro hm; rw [dot,ih (by omega),if_neg (by omega)]; grind
     rw [z n (Nat.le_refl _),if_pos rfl]
     grind
   · rw [if_neg e,lJ T (by omega)]
     grind
theorem iE (V:Nat->Nat->Rat) (n:Nat) (r:Nat->Rat) (i:Nat):(λk=>fh V n r k i)=λk=>if k=n then r i else V k i:=by
 funext k
 unfold fh
 split <;> rfl
theorem tj {T:Nat} {V L:Nat->Nat->Rat} {st:Stp} (h:okS T st) (i j:Nat):dot T (λk=>stV V st k i) (λk=>L k j)=dot T (λk=>V k i) λk=>bkV L st k j:=by
 unfold stV bkV
 by_cases e:st.1 = "weigh"
 · rw [if_pos e,if_pos e,iE,iE]
   have hn:st.2.1 < T:=by
     rcases h.2 with z | z
     · exact z.2
     · have:=z.2; omega
   rw [fW T hn,cX T (g:=λk=>if k=st.2.1 then _ else _),fW T hn,cX T]
   grind
 · obtain ⟨h1,h2,h3⟩:=ym h e
   rw [if_neg e,if_neg e,iE,iE,fW T h2,cX T (g:=λk=>if k=rgS st then _ else _),fW T h1,cX T]
   grind
theorem pD {T:Nat} (i j:Nat):∀ (ss:List Stp) (V L:Nat->Nat->Rat),(∀ st ∈ ss,okS T st)->dot T (λk=>ss.foldl stV V k i) (λk=>L k j)=dot T (λk=>V k i) λk=>ss.foldr (λst L=>bkV L st) L k j
 | [],_,_,_=>rfl
 | st :: ss,V,L,h=>by
   rw [List.foldl_cons,List.foldr_cons,pD i j ss (stV V st) L λs hs=>h s (List.mem_cons_of_mem _ hs)]
   exact tj (h st (List.mem_cons_self ..)) i j
theorem ko {T:Nat} {ss:List Stp} {i j:Nat} (h:∀ st ∈ ss,okS T st) (hi:i < T) (hj:j < T):fwd ss j i=bwd ss i j:=by
 have:=pD i j ss V0 V0 h
 unfold fwd bwd
 rw [List.foldl_reverse]
 have e1:(λk=>V0 k j)=λk=>if j=k then (1:Rat) else 0:=rfl
 have e2:(λk=>V0 k i)=λk=>if i=k then (1:Rat) else 0:=rfl
 rw [e1,cX,lJ T hj,e2,lJ T hi] at this
 exact this
noncomputable def bB (C T:Nat) (L:Nat->Nat->Rat):List D:=(List.range T).map λk=>.lst (((List.range C).map (L k)).map frD)
theorem lG {C T n:Nat} {L:Nat->Nat->Rat} {r:Nat->Rat} (h:n < T):(bB C T L).set n (.lst (((List.range C).map r).map frD))=bB C T (fh L n r):=by
 refine List.ext_getElem (by simp [bB]) λk h1 h2=>?_
 have hk:k < T:=by simpa [bB] using h2
 rw [List.getElem_set]
 unfold bB fh
 by_cases e:n=k
 · subst e; simp
 · rw [if_neg e]; simp [Ne.symm e]
theorem fG {C T n:Nat} {L:Nat->Nat->Rat} (h:n < T):atI (bB C T L) (n:Int)=some (.lst (((List.range C).map (L n)).map frD)):=ai (by simp [bB,h])
theorem vj {C T R:Nat} {L:Nat->Nat->Rat} (h:R<=T):cutD (bB C T L) none (some (R:Int))=bB C R L:=by
 rw [lL]
 unfold bB
 rw [<- List.map_take,List.take_range,Nat.min_eq_left h]
structure BkI (p n T C:Nat) (P:Int) (L:Nat->Nat->Rat):Prop where
 pos:0 < P
 le:P<=2 ^ p
 zq:∀ k,k < T->∀ j,j < C->Zq P n (L k j)
theorem BkI.put {e p n T C m:Nat} {P:Int} {L:Nat->Nat->Rat} {q:Rat} (h:BkI p n T C P L) (g:Wq e q) {r:Nat->Rat} (hz:∀ j,j < C->Zq (P * ((q.den:Nat):Int)) (n + e + 1) (r j)):BkI (p + e) (n + e + 1) T C (P * ((q.den:Nat):Int)) (fh L m r):=by
 refine ⟨Int.mul_pos h.pos (den_pos q),?_,λk hk j hj=>?_⟩
 · rw [p2]
   exact Int.mul_le_mul h.le (bd2 g.sq.den) (by have:=den_pos q; omega) (p0 _)
 · unfold fh
   split
   · exact hz j hj
   · exact (h.zq k hk j hj).upn g
theorem BkI.start {T C:Nat}:BkI 0 0 T C 1 V0:=⟨by decide,by simp,λk hk j hj=>by
 unfold V0
 split
 · exact ⟨1,by decide,by simp,(Rat.one_mul _).symm⟩
 · exact ⟨0,by decide,by simp,(Rat.zero_mul _).symm⟩⟩
theorem BkI.sq {p n T C:Nat} {P:Int} {L:Nat->Nat->Rat} (h:BkI p n T C P L) (hp:p<=n) (hn:n<=1500) {k j:Nat} (hk:k < T) (hj:j < C):Sq 1501 (L k j):=((h.zq k hk j hj).sq h.pos h.le hp).mono (by omega)
theorem BkI.step {e p n T C:Nat} {P:Int} {L:Nat->Nat->Rat} {st:Stp} (h:BkI p n T C P L) (g:Wq e st.2.2) (ok:okS T st):BkI (p + e) (n + e + 1) T C (P * ((st.2.2.den:Nat):Int)) (bkV L st):=by
 unfold bkV
 by_cases e0:st.1 = "weigh"
 · rw [if_pos e0]
   have hn:st.2.1 < T:=by
     rcases ok.2 with z | z
     · exact z.2
     · have:=z.2; omega
   exact h.put g λj hj=>((h.zq _ hn j hj).mul g).mono (by omega)
 · rw [if_neg e0]
   obtain ⟨h1,h2,h3⟩:=ym ok e0
   exact h.put g λj hj=>(((h.zq _ h1 j hj).up g).add ((h.zq _ h2 j hj).mul g))
theorem Am {r:List Rat} (i:Nat) (h:i < (r.map frD).length):(r.map frD)[i]=frD (r.getD i 0):=by
 have:i < r.length:=by simpa using h
 simp [this]
theorem eY {C:Nat} {r u:Nat->Rat}:(gA (((List.range C).map r).map frD) (((List.range C).map u).map frD)).length=C:=by rw [cq]; simp
theorem m3 {C m:Nat} (hm:m=C) (r:Nat->Rat):((List.range m).map λj=>frD (r j))=((List.range C).map r).map frD:=by
 subst hm
 rw [List.map_map]
 rfl
theorem zo {ss:List Stp} (i:Nat) (h:i < (ss.map stD).reverse.length):(ss.map stD).reverse[i]=stD (ss.reverse.getD i ("weigh",0,0)):=by
 have:i < ss.length:=by simpa using h
 simp [this]
noncomputable def bj (ds:List D) (r:Sl):Prop:=∃ (E:Stp->Nat) (T R C:Nat) (ss:List Stp),ds=[aS T R C ss]/\okL T R C ss/\(∀ st ∈ ss,Wq (E st) st.2.2/\E st<=100)/\a8 E ss + ss.length<=1500/\r=.o (bB C R (bwd ss))
section
variable {P:Program} {w:World} {K:PySem.W.Frag} {mg:Str->Option Value} {base:Heap} {k:Nat} {f:Addr} {fd:FuncData} {qual:Str}
theorem fN (F:Fun K "_law_ladders_table" qual (top 89) f fd) (hb:∀ x ∈ aj,mg x=none) (c_l_times:Cal P w K mg base k "_law_times" gN) (c_l_plus:Cal P w K mg base k "_law_plus" i0):aG P w K mg base CX0 (k + 1) f fd ["_law_ladder_here"] (spD K bj):=by
 refine fnD F cj hb (by rintro _ _ ⟨_,_,_,_,_,rfl,_⟩; rfl) ?_
 rintro _ _ ⟨EE,T,R,C,ss,rfl,h00,hw,hn,rfl⟩ cdv A outer s H E b
 have nd:=cj.nd
 have hT:=h00.t7
 have hRT:=h00.rT
 have hCT:=h00.cT
 refine xA (aa 0) (vP b.calm (dk 1 nd (dk 2 nd (dk 3 nd (dk 4 nd sd))))) ?_
 refine k6 5 nd (cmp 0 (f:=λk=>.lst ((List.range (fo 0 (C:Int).toNat).length).map λj=>frD (V0 k j))) b (cW b (aa 1) (by omega) (by omega)) cU (by rw [aD]; omega) λk hk s0 H0 fp=>bA (cH (cmp 0 (f:=λj=>frD (V0 k j)) (b.comp s0 H0 _ fp) (cW (b.comp s0 H0 _ fp) (aa 1) (by omega) (by omega)) cU (by rw [aD]; omega) λj hj s1 H1 fq=>?_))) (.inl rfl) ?_
 · have ev:frD (V0 k j)=.tup [.int (if decide ((j:Int)=(k:Int)) then 1 else 0),.int 1]:=by
     unfold V0
     by_cases z:j=k
     · rw [if_pos z,decide_eq_true (by omega)]; rfl
     · rw [if_neg z,decide_eq_false (by omega)]; rfl
   rw [ev]
   exact bX (ae (qt ((b.comp s0 H0 _ fp).comp s1 H1 _ fq) (ae (cu (aa 0) (aa 1) jo) ag) vI) (ae af ag))
 have el:((List.range (fo 0 (T:Int).toNat).length).map λk=>D.lst ((List.range (fo 0 (C:Int).toNat).length).map λj=>frD (V0 k j)))=bB C T V0:=by
   rw [aD,aD,Int.toNat_natCast,Int.toNat_natCast]
   unfold bB
   exact List.map_congr_left λk _=>by rw [List.map_map]; rfl
 rw [el]
 have rl:(ss.map stD).reverse.length=ss.length:=by simp
 refine wL (λi τ=>∃ P s6 s7 s8,BkI (a8 EE (ss.reverse.take i)) (a8 EE (ss.reverse.take i) + i) T C P ((ss.reverse.take i).foldl bkV V0)/\τ=[.d (aS T R C ss),.d (.int T),.d (.int R),.d (.int C),.d (.lst (ss.map stD)),.o (bB C T ((ss.reverse.take i).foldl bkV V0)),s6,s7,s8])
   (λi τ=>((τ.set 6 (.d (.str (ss.reverse.getD i ("weigh",0,0)).1))).set 7 (.d (.int ((ss.reverse.getD i ("weigh",0,0)).2.1:Nat)))).set 8 (.d (frD (ss.reverse.getD i ("weigh",0,0)).2.2))) b (zM b (aa 4)) (λi hi τ _=>by rw [zo i hi]; exact vP b.calm (dk 6 nd (dk 7 nd (dk 8 nd sd)))) ⟨1,.un,.un,.un,BkI.start,rfl⟩ (λi hi τ h=>?_) λτ h=>?_
 · obtain ⟨P,s6,s7,s8,I,rfl⟩:=h
   have hi:i < ss.length:=by rw [rl] at hi; exact hi
   have lr:i < ss.reverse.length:=by simpa using hi
   have ei:ss.reverse.getD i ("weigh",0,0)=ss.getD (ss.length - 1 - i) ("weigh",0,0):=by simp [List.getD,List.getElem?_reverse hi]
   have mem:ss.reverse.getD i ("weigh",0,0) ∈ ss:=by
     rw [ei]
     have:ss.length - 1 - i < ss.length:=by omega
     simp [this]
   obtain ⟨g,he⟩:=hw _ mem
   have es:a8 EE (ss.reverse.take (i + 1))=a8 EE (ss.reverse.take i) + EE (ss.reverse.getD i ("weigh",0,0)):=by rw [take_snoc (("weigh",0,0):Stp) lr,eU,l9]
   have hn0:=eX (E:=EE) ss.reverse i
   have hn1:=eX (E:=EE) ss.reverse (i + 1)
   rw [rh] at hn0 hn1
   have hn':a8 EE (ss.reverse.take i) + i<=1500:=by omega
   rw [es]
   rw [show a8 EE (ss.reverse.take i) + EE (ss.reverse.getD i ("weigh",0,0)) + (i + 1)=a8 EE (ss.reverse.take i) + i + EE (ss.reverse.getD i ("weigh",0,0)) + 1 by omega]
   have ok:okS T (ss.reverse.getD i ("weigh",0,0)):=by rw [ei]; exact h00.st _ (by omega)
   have nx:∀ V,(ss.reverse.take (i + 1)).foldl bkV V=bkV ((ss.reverse.take i).foldl bkV V) (ss.reverse.getD i ("weigh",0,0)):=λV=>by rw [take_snoc (("weigh",0,0):Stp) (show i < ss.reverse.length by simpa using hi),List.foldl_append]; rfl
   rw [nx]
   have I2:=I.step g ok
   have sqL:∀ k,k < T->∀ j,j < C->Sq 1501 ((ss.reverse.take i).foldl bkV V0 k j):=λk hk j hj=>I.sq (Nat.le_add_right ..) hn' hk hj
   generalize (ss.reverse.take i).foldl bkV V0=V at *
   generalize ss.reverse.getD i ("weigh",0,0)=st at *
   generalize EE st=e at *
   generalize a8 EE (ss.reverse.take i)=p at *
   obtain ⟨u,n,q⟩:=st
   have sq:Sq 100 q:=g.sq.mono he
   have ll:(bB C T V).length=T:=by simp [bB]
   have sqm:∀ k,k < T->∀ j,j < C->Sq 1601 (q * V k j):=λk hk j hj=>(sq.mul (sqL k hk j hj)).mono (by decide)
   refine nR (M:=λτ=>∃ P s6 s7 s8,BkI (p + e) (p + i + e + 1) T C P (bkV V (u,n,q))/\τ=[.d (aS T R C ss),.d (.int T),.d (.int R),.d (.int C),.d (.lst (ss.map stD)),.o (bB C T (bkV V (u,n,q))),s6,s7,s8]) (aY (aa 6) bD jZ) (λh=>?_) (λh=>?_) λτ h=>aV h
   · obtain rfl:=of_decide_eq_true h
     have hnT:n < T:=by
       rcases ok.2 with z | z
       · exact z.2
       · have:=z.2; simp only at this; omega
     refine mI 5 (xs:=bB C T V) (j:=n) (aa 7) (bA (cH (cmp 0 (f:=λj=>frD (q * V n j)) b (bL (hJ 5 (aa 7) (fG hnT))) Am (by simp; omega) λj hj s0 H0 fp=>?_))) (by rw [ll]; exact i4 hnT) (aV ⟨_,.d (.str "weigh"),.d (.int n),.d (frD q),I2,?_⟩)
     · have hj:j < C:=by simpa using hj
       rw [cQ _ hj]
       exact x_call (b.comp s0 H0 _ fp) c_l_times (ae (aa 1) (ae (aa 0) ag)) ⟨100,1501,q,V n j,rfl,sq,sqL n hnT j hj,by decide,rfl⟩
     · rw [m3 (C:=C) (by simp) λj=>q * V n j]
       show [_,_,_,_,_,Sl.o ((bB C T V).set n _),_,_,_]=_
       rw [lG hnT]
       rfl
   · have h0:u ≠ "weigh":=of_decide_eq_false h
     have hnT:n + 1 < T:=by
       rcases ok.2 with z | z
       · exact absurd z.1 h0
       · exact z.2
     have hnT':n < T:=by omega
     refine nR (M:=λτ=>∃ P s6 s7 s8,BkI (p + e) (p + i + e + 1) T C P (bkV V (u,n,q))/\τ=[.d (aS T R C ss),.d (.int T),.d (.int R),.d (.int C),.d (.lst (ss.map stD)),.o (bB C T (bkV V (u,n,q))),s6,s7,s8]) (aY (aa 6) bD jZ) (λh=>?_) (λh=>?_) λτ h=>aV h
     · obtain rfl:=of_decide_eq_true h
       have eb:bkV V ("down",n,q)=fh V n λj=>V n j + q * V (n + 1) j:=by
         unfold bkV
         rw [if_neg h0]
         rfl
       refine mI 5 (xs:=bB C T V) (j:=n) (aa 7) (bA (cH (xU 0 1 (f:=λj=>frD (V n j + q * V (n + 1) j)) b (rb b (hJ 5 (aa 7) (fG hnT')) (hJ 5 (aB (aa 7) af bc) (fG hnT))) vQ (by rw [eY]; omega) λj hj s0 H0 fp=>?_))) (by rw [ll]; exact i4 hnT') (aV ⟨_,.d (.str "down"),.d (.int n),.d (frD q),I2,?_⟩)
       · have hj:j < C:=by rw [eY] at hj; exact hj
         rw [cQ _ hj,cQ _ hj]
         exact x_call (b.comp s0 H0 _ fp) c_l_plus (ae (aa 0) (ae (x_call (b.comp s0 H0 _ fp) c_l_times (ae (aa 2) (ae (aa 1) ag)) ⟨100,1501,q,V (n + 1) j,rfl,sq,sqL _ hnT j hj,by decide,rfl⟩) ag)) ⟨1501,1601,V n j,q * V (n + 1) j,rfl,sqL _ hnT' j hj,sqm _ hnT j hj,by decide,rfl⟩
       · rw [m3 eY λj=>V n j + q * V (n + 1) j,eb]
         show [_,_,_,_,_,Sl.o ((bB C T V).set n _),_,_,_]=_
         rw [lG hnT']
     · have h1:u ≠ "down":=of_decide_eq_false h
       have eb:bkV V (u,n,q)=fh V (n + 1) λj=>V (n + 1) j + q * V n j:=by
         unfold bkV rgS rgE
         rw [if_neg h0,if_neg h1,if_neg h1]
       refine mI 5 (xs:=bB C T V) (j:=n + 1) (aB (aa 7) af bc) (bA (cH (xU 0 1 (f:=λj=>frD (V (n + 1) j + q * V n j)) b (rb b (hJ 5 (aa 7) (fG hnT')) (hJ 5 (aB (aa 7) af bc) (fG hnT))) vQ (by rw [eY]; omega) λj hj s0 H0 fp=>?_))) (by rw [ll]; exact i4 hnT) (aV ⟨_,.d (.str u),.d (.int n),.d (frD q),I2,?_⟩)
       · have hj:j < C:=by rw [eY] at hj; exact hj
         rw [cQ _ hj,cQ _ hj]
         exact x_call (b.comp s0 H0 _ fp) c_l_plus (ae (aa 1) (ae (x_call (b.comp s0 H0 _ fp) c_l_times (ae (aa 2) (ae (aa 0) ag)) ⟨100,1501,q,V n j,rfl,sq,sqL _ hnT' j hj,by decide,rfl⟩) ag)) ⟨1501,1601,V (n + 1) j,q * V n j,rfl,sqL _ hnT j hj,sqm _ hnT' j hj,by decide,rfl⟩
       · rw [m3 eY λj=>V (n + 1) j + q * V n j,eb]
         show [_,_,_,_,_,Sl.o ((bB C T V).set (n + 1) _),_,_,_]=_
         rw [lG hnT]
 · obtain ⟨P,s6,s7,s8,I,rfl⟩:=h
   rw [rl,List.take_of_length_le (by simp)]
   refine iU 5 (aJ (wC (aa 5) mX (jj (aa 2))) ?_)
   rw [vj hRT]
   rfl
end
theorem gc {T R C:Nat} {ss:List Stp} (h:okL T R C ss):∀ s ∈ ss,okS T s:=λs hs=>by
 obtain ⟨i,hi,rfl⟩:=List.getElem_of_mem hs
 have:=h.st i hi
 simpa [hi] using this
noncomputable def dD (ds:List D) (r:Sl):Prop:=∃ (T R C:Nat) (ss ss':List Stp),ds=[aS T R C ss,.lst (ss'.map stD)]/\r=.d (aS T R C ss')
noncomputable def jn (ds:List D) (r:Sl):Prop:=∃ (T R C:Nat) (ss:List Stp),ds=[aS T R C ss]/\r=.d (aS T R C ss)
noncomputable def iO (ds:List D) (r:Sl):Prop:=∃ (T R C:Nat) (ss:List Stp),ds=[aS T R C ss]/\r=.d (aS T R C ss)
section
variable {P:Program} {w:World} {K:PySem.W.Frag} {mg:Str->Option Value} {base:Heap} {k:Nat} {f:Addr} {fd:FuncData} {qual:Str}
theorem jB (F:Fun K "with_steps" qual (top 71) f fd) (hb:∀ x ∈ aj,mg x=none):aG P w K mg base CX0 (k + 1) f fd ["ladder","steps"] (spD K dD):=by
 refine fnD F jz hb (by rintro _ _ ⟨_,_,_,_,_,rfl,_⟩; rfl) ?_
 rintro _ _ ⟨T,R,C,ss,ss',rfl,rfl⟩ cdv A outer s H E b
 exact aJ (bX (ae (ay (aa 0) af (aw (ai (i:=0) rfl))) (ae (ay (aa 0) af (aw (ai (i:=1) rfl))) (ae (ay (aa 0) af (aw (ai (i:=2) rfl))) (ae (aa 1) ag))))) rfl
theorem wH (F:Fun K "own" qual (top 72) f fd) (hb:∀ x ∈ aj,mg x=none) (c_with_steps:Cal P w K mg base k "with_steps" dD):aG P w K mg base CX0 (k + 1) f fd ["ladder"] (spD K jn):=by
 refine fnD F w5 hb (by rintro _ _ ⟨_,_,_,_,rfl,_⟩; rfl) ?_
 rintro _ _ ⟨T,R,C,ss,rfl,rfl⟩ cdv A outer s H E b
 exact aJ (x_call b c_with_steps (ae (aa 0) (ae (bA (qt b (ae (ay (aa 0) af (aw (ai (i:=3) rfl))) ag) kr)) ag)) ⟨T,R,C,ss,ss,rfl,rfl⟩) rfl
theorem qd (F:Fun K "_law_copy" qual (top 94) f fd) (hb:∀ x ∈ aj,mg x=none):aG P w K mg base CX0 (k + 1) f fd ["_law_ladder_here"] (spD K iO):=by
 refine fnD F qr hb (by rintro _ _ ⟨_,_,_,_,rfl,_⟩; rfl) ?_
 rintro _ _ ⟨T,R,C,ss,rfl,rfl⟩ cdv A outer s H E b
 exact aJ (bX (ae (ay (aa 0) af (aw (ai (i:=0) rfl))) (ae (ay (aa 0) af (aw (ai (i:=1) rfl))) (ae (ay (aa 0) af (aw (ai (i:=2) rfl))) (ae (bA (qt b (ae (ay (aa 0) af (aw (ai (i:=3) rfl))) ag) kr)) ag))))) rfl
end
mutual
theorem dW:∀ x:D,Ev.eqD x x=true
 | .non=>by rw [Ev.eqD]
 | .bl a=>by simp [Ev.eqD]
 | .int a=>by simp [Ev.eqD]
 | .str a=>by simp [Ev.eqD]
 | .tup xs=>by rw [Ev.eqD]; exact gE xs
 | .lst xs=>by rw [Ev.eqD]; exact gE xs
 | .box x=>by rw [Ev.eqD]
theorem gE:∀ xs:List D,Ev.jl xs xs=true
 | []=>by rw [Ev.jl]
 | x :: xs=>by rw [Ev.jl,dW x,gE xs]; rfl
end
theorem pM:∀ r:List Rat,Ev.b6 (r.map frD)=true/\Ev.cx (r.map frD)<=1
 | []=>by simp [Ev.b6,Ev.cx]
 | x :: r=>by
   obtain ⟨h1,h2⟩:=pM r
   rw [List.map_cons,Ev.b6,Ev.cx,h1,frD]
   refine ⟨by simp [Ev.cln,Ev.b6],?_⟩
   have:Ev.dep (.tup [.int x.num,.int (x.den:Nat)])=1:=by simp [Ev.dep,Ev.cx]
   rw [this]
   omega
theorem oZ:∀ m:List (List Rat),Ev.b6 (m.map λr=>.lst (r.map frD))=true/\Ev.cx (m.map λr=>.lst (r.map frD))<=2
 | []=>by simp [Ev.b6,Ev.cx]
 | r :: m=>by
   obtain ⟨h1,h2⟩:=oZ m
   obtain ⟨h3,h4⟩:=pM r
   rw [List.map_cons,Ev.b6,Ev.cx,h1,Ev.cln,Ev.dep,h3]
   exact ⟨rfl,by omega⟩
theorem kX (m:List (List Rat)):Ev.dX (hZ m):=by
 obtain ⟨h1,h2⟩:=oZ m
 unfold hZ Ev.dX
 rw [Ev.cln,Ev.dep,h1]
 exact ⟨rfl,by omega⟩
theorem ya {T:Nat} {s:Stp} (h:okS T s):Ev.cln (stD s)=true/\Ev.dep (stD s)<=2:=by
 obtain ⟨u,n,q⟩:=s
 have hu:PyData.strOk u=true:=by
   rcases h.2 with z | z
   · obtain rfl:u = "weigh":=z.1
     decide +kernel
   · rcases z.1 with y | y
     · obtain rfl:u = "down":=y
       decide +kernel
     · obtain rfl:u = "up":=y
       decide +kernel
 simp [stD,frD,Ev.cln,Ev.b6,Ev.dep,Ev.cx,hu]
theorem oV {T:Nat}:∀ (ss:List Stp),(∀ s ∈ ss,okS T s)->Ev.b6 (ss.map stD)=true/\Ev.cx (ss.map stD)<=2
 | [],_=>by simp [Ev.b6,Ev.cx]
 | s :: ss,h=>by
   obtain ⟨h1,h2⟩:=ya (h s (List.mem_cons_self ..))
   obtain ⟨h3,h4⟩:=oV ss λs hs=>h s (List.mem_cons_of_mem _ hs)
   rw [List.map_cons,Ev.b6,Ev.cx,h1,h3]
   exact ⟨rfl,by omega⟩
theorem sR {T R C:Nat} {ss:List Stp} (h:okL T R C ss):Ev.dX (aS T R C ss):=by
 obtain ⟨h1,h2⟩:=oV ss (gc h)
 unfold aS Ev.dX
 simp only [Ev.cln,Ev.b6,Ev.dep,Ev.cx,h1]
 refine ⟨rfl,by omega⟩
theorem mJ (xs:List D):jI (xs.map .d)=xs:=by
 induction xs with
 | nil=>rfl
 | cons x xs ih=>rw [List.map_cons,jI,ndD,ih]
theorem kb {α:Type} (f:α->List Nd):∀ t:List α,jI (t.map λr=>.l (f r))=t.map λr=>D.lst (jI (f r))
 | []=>rfl
 | r :: t=>by rw [List.map_cons,jI,ndD,kb f t]; rfl
theorem xD (t:List (List Rat)):ndD (rO t)=hZ t:=by
 unfold rO hZ
 rw [ndD,kb]
 congr 1
 exact List.map_congr_left λr _=>by rw [mJ]
theorem tu (C R:Nat) (L:Nat->Nat->Rat):D.lst (bB C R L)=hZ (fU C R λj i=>L i j):=by
 unfold bB hZ fU
 rw [List.map_map]
 rfl
theorem lh {T R C:Nat} {ss:List Stp} (h:okL T R C ss):D.lst (bB C R (bwd ss))=hZ (fU C R (fwd ss)):=by
 have h1:=h.rT
 have h2:=h.cT
 rw [tu]
 congr 1
 unfold fU
 refine List.map_congr_left λi hi=>List.map_congr_left λj hj=>?_
 have hi:=List.mem_range.mp hi
 have hj:=List.mem_range.mp hj
 exact (ko (gc h) (by omega) (by omega)).symm
theorem uQ (C R:Nat) (L:Nat->Nat->Rat):(bB C R L).length=R:=by simp [bB]
section
variable {P:Program} {w:World} {K:PySem.W.Frag} {mg:Str->Option Value} {base:Heap} {k:Nat} {f:Addr} {fd:FuncData} {qual:Str}
end
noncomputable def stv (v:Nat->Rat) (st:Stp):Nat->Rat:=if st.1 = "weigh" then λk=>if k=st.2.1 then st.2.2 * v st.2.1 else v k else λk=>if k=rgE st then v (rgE st) + st.2.2 * v (rgS st) else v k
theorem vn (V:Nat->Nat->Rat) (st:Stp) (i:Nat):(λk=>stV V st k i)=stv (λk=>V k i) st:=by
 unfold stV stv
 split <;> (funext k; unfold fh; split <;> rfl)
theorem mP:∀ (ss:List Stp) (V:Nat->Nat->Rat) (i:Nat),(λk=>ss.foldl stV V k i)=ss.foldl stv λk=>V k i
 | [],_,_=>rfl
 | s :: ss,V,i=>by rw [List.foldl_cons,List.foldl_cons,mP ss,vn]
noncomputable def ev1 (i:Nat):Nat->Rat:=λk=>if i=k then 1 else 0
theorem oF (ss:List Stp) (k i:Nat):fwd ss k i=ss.foldl stv (ev1 i) k:=congrFun (mP ss V0 i) k
noncomputable def dwT (t:Nat):List Stp:=[("down",t,1),("weigh",t,0)]
noncomputable def upT (t:Nat):List Stp:=[("up",t,1),("weigh",t + 1,0)]
theorem zw (t:Nat) (v:Nat->Rat):(dwT t).foldl stv v=λk=>if k=t then 0 else if k=t + 1 then v (t + 1) + v t else v k:=by
 have n1:¬ (("down" : Str) = "weigh"):=by decide
 funext k
 unfold dwT
 simp only [List.foldl_cons,List.foldl_nil]
 unfold stv
 simp only [n1,if_false,if_true]
 unfold rgE rgS
 simp only [if_true]
 by_cases h:k=t
 · rw [if_pos h,if_pos h,Rat.zero_mul]
 · rw [if_neg h,if_neg h]
   by_cases h2:k=t + 1
   · rw [if_pos h2,if_pos h2,Rat.one_mul]
   · rw [if_neg h2,if_neg h2]
theorem y7 (t:Nat) (v:Nat->Rat):(upT t).foldl stv v=λk=>if k=t + 1 then 0 else if k=t then v t + v (t + 1) else v k:=by
 have n1:¬ (("up" : Str) = "weigh"):=by decide
 have n2:¬ (("up" : Str) = "down"):=by decide
 funext k
 unfold upT
 simp only [List.foldl_cons,List.foldl_nil]
 unfold stv
 simp only [n1,if_false,if_true]
 unfold rgE rgS
 simp only [n2,if_false]
 by_cases h:k=t + 1
 · rw [if_pos h,if_pos h,Rat.zero_mul]
 · rw [if_neg h,if_neg h]
   by_cases h2:k=t
   · rw [if_pos h2,if_pos h2,Rat.one_mul]
   · rw [if_neg h2,if_neg h2]
noncomputable def dwS (a n:Nat):List Stp:=((List.range n).map λj=>dwT (a + j)).flatten
noncomputable def upS (b n:Nat):List Stp:=((List.range n).map λj=>upT (b - 1 - j)).flatten
theorem b5 {α:Type} (f:Nat->List α) (n:Nat):((List.range (n + 1)).map f).flatten=((List.range n).map f).flatten++f n:=by
 rw [List.range_succ,List.map_append,List.flatten_append]
 simp
theorem pS (a:Nat) (v:Nat->Rat):∀ n,(∀ j,1<=j->j<=n->v (a + j)=0)->(dwS a n).foldl stv v=λk=>if k=a + n then v a else if a<=k/\k < a + n then 0 else v k
 | 0,_=>by
   funext k
   show v k=_
   by_cases h:k=a + 0
   · rw [if_pos h,h,Nat.add_zero]
   · rw [if_neg h,if_neg (by omega)]
 | n + 1,h=>by
   have ih:=pS a v n λj h1 h2=>h j h1 (by omega)
   unfold dwS at ih ⊢
   rw [b5,List.foldl_append,ih,zw]
   funext k
   have z:=h (n + 1) (by omega) (Nat.le_refl _)
   simp only [if_true]
   by_cases h1:k=a + n
   · rw [if_pos h1,if_neg (by omega),if_pos (by omega)]
   · rw [if_neg h1]
     by_cases h2:k=a + n + 1
     · rw [if_pos h2,if_neg (by omega),if_neg (by omega),if_pos (by omega),show a + n + 1=a + (n + 1) by omega,z,Rat.zero_add]
     · rw [if_neg h2,if_neg h1,if_neg (show ¬ k=a + (n + 1) by omega)]
       by_cases h3:a<=k/\k < a + n
       · rw [if_pos h3,if_pos (by omega)]
       · rw [if_neg h3,if_neg (by omega)]
theorem vV (b:Nat) (v:Nat->Rat):∀ n,n<=b->(∀ j,b - n<=j->j < b->v j=0)->(upS b n).foldl stv v=λk=>if k=b - n then v b else if b - n < k/\k<=b then 0 else v k
 | 0,_,_=>by
   funext k
   show v k=_
   by_cases h:k=b - 0
   · rw [if_pos h,h,Nat.sub_zero]
   · rw [if_neg h,if_neg (by omega)]
 | n + 1,hb,h=>by
   have ih:=vV b v n (by omega) λj h1 h2=>h j (by omega) h2
   unfold upS at ih ⊢
   rw [b5,List.foldl_append,ih,y7]
   funext k
   have z:=h (b - 1 - n) (by omega) (by omega)
   rw [show b - 1 - n + 1=b - n by omega]
   simp only [if_true]
   by_cases h1:k=b - n
   · rw [if_pos h1,if_neg (by omega),if_pos (by omega)]
   · rw [if_neg h1]
     by_cases h2:k=b - 1 - n
     · rw [if_pos h2,if_neg (show ¬ b - 1 - n=b - n by omega),if_neg (by omega),if_pos (show k=b - (n + 1) by omega),z,Rat.zero_add]
     · rw [if_neg h2,if_neg h1,if_neg (show ¬ k=b - (n + 1) by omega)]
       by_cases h3:b - n < k/\k<=b
       · rw [if_pos h3,if_pos (by omega)]
       · rw [if_neg h3,if_neg (by omega)]
structure bN (N:Nat) (rs:List Nat):Prop where
 one:1<=rs.length
 lt:∀ k,k < rs.length->rs.getD k 0 < N
 up:∀ j k,j < k->k < rs.length->rs.getD j 0 < rs.getD k 0
theorem bN.ge {N:Nat} {rs:List Nat} (h:bN N rs):∀ k,k < rs.length->k<=rs.getD k 0
 | 0,_=>Nat.zero_le _
 | k + 1,hk=>by
   have:=h.ge k (by omega)
   have:=h.up k (k + 1) (by omega) hk
   omega
theorem bN.len {N:Nat} {rs:List Nat} (h:bN N rs):rs.length<=N:=by
 have h1:=h.one
 have:=h.ge (rs.length - 1) (by omega)
 have:=h.lt (rs.length - 1) (by omega)
 omega
noncomputable def eh (rs:List Nat):List Stp:=((List.range rs.length).map λj=>dwS (rs.length - 1 - j) (rs.getD (rs.length - 1 - j) 0 - (rs.length - 1 - j))).flatten
theorem xB {N:Nat} {rs:List Nat} (h:bN N rs) {i:Nat} (hi:i < rs.length):(eh rs).foldl stv (ev1 i)=ev1 (rs.getD i 0):=by
 have key:∀ j,j<=rs.length->(((List.range j).map λj=>dwS (rs.length - 1 - j) (rs.getD (rs.length - 1 - j) 0 - (rs.length - 1 - j))).flatten).foldl stv (ev1 i)=if rs.length - j<=i then ev1 (rs.getD i 0) else ev1 i:=by
   intro j
   induction j with
   | zero=>
     intro _
     rw [if_neg (by omega)]
     rfl
   | succ j ih=>
     intro hj
     have ih:=ih (by omega)
     rw [b5,List.foldl_append,ih]
     generalize hk:rs.length - 1 - j=k
     have kl:k < rs.length:=by omega
     have ge:=h.ge k kl
     by_cases c1:rs.length - j<=i
     · rw [if_pos c1,if_pos (by omega)]
       have lt:=h.up k i (by omega) hi
       rw [pS _ _ _ λq q1 q2=>by unfold ev1; exact if_neg (by omega)]
       funext x
       unfold ev1
       by_cases y1:x=k + (rs.getD k 0 - k)
       · rw [if_pos y1,if_neg (by omega),if_neg (by omega)]
       · rw [if_neg y1]
         by_cases y2:k<=x/\x < k + (rs.getD k 0 - k)
         · rw [if_pos y2,if_neg (by omega)]
         · rw [if_neg y2]
     · rw [if_neg c1]
       by_cases c2:i=k
       · subst c2
         rw [if_pos (by omega)]
         rw [pS _ _ _ λq q1 q2=>by unfold ev1; exact if_neg (by omega)]
         funext x
         unfold ev1
         rw [if_pos rfl]
         by_cases y1:x=i + (rs.getD i 0 - i)
         · rw [if_pos y1,if_pos (by omega)]
         · rw [if_neg y1,if_neg (show ¬ rs.getD i 0=x by omega)]
           by_cases y2:i<=x/\x < i + (rs.getD i 0 - i)
           · rw [if_pos y2]
           · rw [if_neg y2,if_neg (by omega)]
       · rw [if_neg (by omega)]
         rw [pS _ _ _ λq q1 q2=>by unfold ev1; exact if_neg (by omega)]
         funext x
         unfold ev1
         by_cases y1:x=k + (rs.getD k 0 - k)
         · rw [if_pos y1,if_neg (by omega),if_neg (by omega)]
         · rw [if_neg y1]
           by_cases y2:k<=x/\x < k + (rs.getD k 0 - k)
           · rw [if_pos y2,if_neg (by omega)]
           · rw [if_neg y2]
 have:=key rs.length (Nat.le_refl _)
 rw [if_pos (by omega)] at this
 exact this
noncomputable def cK (ts:List Nat):List Stp:=ts.map λt=>("weigh",t,0)
theorem sS:∀ (ts:List Nat) (v:Nat->Rat),(cK ts).foldl stv v=λk=>if k ∈ ts then 0 else v k
 | [],v=>by funext k; simp [cK]
 | t :: ts,v=>by
   show (cK ts).foldl stv (stv v ("weigh",t,0))=_
   rw [sS ts]
   funext k
   unfold stv
   rw [if_pos rfl]
   by_cases h:k ∈ ts
   · rw [if_pos h,if_pos (List.mem_cons_of_mem _ h)]
   · rw [if_neg h]
     by_cases h2:k=t
     · rw [if_pos h2,if_pos (by rw [h2]; exact List.mem_cons_self ..),Rat.zero_mul]
     · rw [if_neg h2,if_neg (λz=>(List.mem_cons.mp z).elim h2 h)]
noncomputable def dQ (cs:List Nat):Nat:=cs.getD (cs.length - 1) 0
noncomputable def dz (cs:List Nat):List Nat:=(List.range (dQ cs)).filter λt=>!decide (t ∈ cs)
noncomputable def i5 (cs:List Nat):List Stp:=((List.range cs.length).map λk=>upS (cs.getD k 0) (cs.getD k 0 - k)).flatten
theorem kJ {cs:List Nat} {t:Nat}:t ∈ cs ↔ ∃ j,j < cs.length/\cs.getD j 0=t:=by
 constructor
 · intro h
   obtain ⟨j,hj,rfl⟩:=List.getElem_of_mem h
   exact ⟨j,hj,by simp [hj]⟩
 · rintro ⟨j,hj,rfl⟩
   simp [hj]
open Classical in
theorem xS {N:Nat} {cs:List Nat} (h:bN N cs) (w:Nat->Rat) {k:Nat} (hk:k < cs.length):(cK (dz cs)++i5 cs).foldl stv w k=w (cs.getD k 0):=by
 have h1:=h.one
 have le:∀ j,j < cs.length->cs.getD j 0<=dQ cs:=λj hj=>by
   unfold dQ
   by_cases e:j=cs.length - 1
   · rw [e]; exact Nat.le_refl _
   · exact Nat.le_of_lt (h.up j _ (by omega) (by omega))
 have key:∀ K,K<=cs.length->∀ x,x<=dQ cs->(cK (dz cs)++((List.range K).map λk=>upS (cs.getD k 0) (cs.getD k 0 - k)).flatten).foldl stv w x=if x < K then w (cs.getD x 0) else if ∃ j,K<=j/\j < cs.length/\cs.getD j 0=x then w x else 0:=by
   intro K
   induction K with
   | zero=>
     intro _ x hx
     show (cK (dz cs)++[]).foldl stv w x=_
     rw [List.append_nil,sS,if_neg (Nat.not_lt_zero x)]
     dsimp only
     by_cases e:x ∈ cs
     · obtain ⟨j,hj,ej⟩:=kJ.mp e
       rw [if_neg,if_pos ⟨j,Nat.zero_le _,hj,ej⟩]
       intro z
       have:=(List.mem_filter.mp z).2
       simp [e] at this
     · have ne:¬ ∃ j,0<=j/\j < cs.length/\cs.getD j 0=x:=λ⟨j,_,hj,ej⟩=>e (kJ.mpr ⟨j,hj,ej⟩)
       have lt:x < dQ cs:=by
         rcases Nat.lt_or_eq_of_le hx with z | z
         · exact z
         · exact absurd (kJ.mpr ⟨cs.length - 1,by omega,z.symm⟩) e
       rw [if_pos,if_neg ne]
       unfold dz
       rw [List.mem_filter,List.mem_range]
       exact ⟨lt,by simp [e]⟩
   | succ K ih=>
     intro hK x hx
     have ih:=ih (by omega)
     have ge:=h.ge K (by omega)
     have lK:=le K (by omega)
     rw [b5,<- List.append_assoc,List.foldl_append]
     generalize (cK (dz cs)++((List.range K).map λk=>upS (cs.getD k 0) (cs.getD k 0 - k)).flatten).foldl stv w=s at ih
     rw [vV (cs.getD K 0) s (cs.getD K 0 - K) (by omega) λj j1 j2=>by
       rw [ih j (by omega),if_neg (by omega),if_neg]
       rintro ⟨q,q1,q2,q3⟩
       by_cases e:q=K
       · rw [e] at q3; omega
       · have:=h.up K q (by omega) q2; omega]
     rw [show cs.getD K 0 - (cs.getD K 0 - K)=K by omega]
     dsimp only
     by_cases c1:x=K
     · subst c1
       rw [if_pos rfl,if_pos (by omega),ih _ lK]
       by_cases c2:cs.getD x 0 < x
       · omega
       · rw [if_neg c2,if_pos ⟨x,Nat.le_refl _,by omega,rfl⟩]
     · rw [if_neg c1]
       by_cases c2:K < x/\x<=cs.getD K 0
       · rw [if_pos c2,if_neg (by omega),if_neg]
         rintro ⟨q,q1,q2,q3⟩
         have:=h.up K q (by omega) q2
         omega
       · rw [if_neg c2,ih x hx]
         by_cases c3:x < K
         · rw [if_pos c3,if_pos (by omega)]
         · rw [if_neg c3,if_neg (show ¬ x < K + 1 by omega)]
           by_cases c4:∃ j,K<=j/\j < cs.length/\cs.getD j 0=x
           · obtain ⟨j,j1,j2,j3⟩:=c4
             rw [if_pos ⟨j,j1,j2,j3⟩,if_pos]
             refine ⟨j,?_,j2,j3⟩
             by_cases e:j=K
             · rw [e] at j3; omega
             · omega
           · rw [if_neg c4,if_neg]
             rintro ⟨j,j1,j2,j3⟩
             exact c4 ⟨j,by omega,j2,j3⟩
 have:=key cs.length (Nat.le_refl _) k (Nat.le_trans (h.ge k hk) (le k hk))
 rw [if_pos hk] at this
 exact this
noncomputable def cb (ss:List Stp) (rs cs:List Nat):List Stp:=eh rs++ss++(cK (dz cs)++i5 cs)
theorem uh {M N:Nat} {ss:List Stp} {rs cs:List Nat} (hr:bN M rs) (hc:bN N cs) {k i:Nat} (hk:k < cs.length) (hi:i < rs.length):fwd (cb ss rs cs) k i=fwd ss (cs.getD k 0) (rs.getD i 0):=by
 rw [oF,oF]
 unfold cb
 rw [List.foldl_append,List.foldl_append (l':=ss),xB hr hi,xS hc _ hk]
noncomputable def plS (T:Nat) (s:Stp):Prop:=okS T s/\(s.2.2=0\/s.2.2=1)
theorem rW {T t:Nat} (h:t < T):plS T ("weigh",t,0):=⟨⟨by show 0<=(0:Rat).num; decide,.inl ⟨rfl,h⟩⟩,.inl rfl⟩
theorem yT {T t:Nat} (h:t + 1 < T):plS T ("down",t,1):=⟨⟨by show 0<=(1:Rat).num; decide,.inr ⟨.inl rfl,h⟩⟩,.inr rfl⟩
theorem zL {T t:Nat} (h:t + 1 < T):plS T ("up",t,1):=⟨⟨by show 0<=(1:Rat).num; decide,.inr ⟨.inr rfl,h⟩⟩,.inr rfl⟩
theorem dq {α:Type} {f:Nat->List α} {B:Nat}:∀ n,(∀ j,j < n->(f j).length<=B)->(((List.range n).map f).flatten).length<=B * n
 | 0,_=>by simp
 | n + 1,h=>by
   have:=dq n λj hj=>h j (by omega)
   have:=h n (by omega)
   rw [b5,List.length_append,Nat.mul_succ]
   omega
theorem kK {α:Type} {f:Nat->List α} {P:α->Prop} {n:Nat} (h:∀ j,j < n->∀ s ∈ f j,P s):∀ s ∈ ((List.range n).map f).flatten,P s:=λs hs=>by
 obtain ⟨l,h1,h2⟩:=List.mem_flatten.mp hs
 obtain ⟨j,hj,rfl⟩:=List.mem_map.mp h1
 exact h j (List.mem_range.mp hj) s h2
theorem oo {T a n:Nat} (h:a + n < T):(∀ s ∈ dwS a n,plS T s)/\(dwS a n).length<=2 * n:=⟨kK λj hj s hs=>by
 simp only [dwT,List.mem_cons,List.not_mem_nil,or_false] at hs
 rcases hs with rfl | rfl
 · exact yT (by omega)
 · exact rW (by omega),dq n λ_ _=>Nat.le_refl 2⟩
theorem mV {T b n:Nat} (h:b < T) (hn:n<=b):(∀ s ∈ upS b n,plS T s)/\(upS b n).length<=2 * n:=⟨kK λj hj s hs=>by
 simp only [upT,List.mem_cons,List.not_mem_nil,or_false] at hs
 rcases hs with rfl | rfl
 · exact zL (by omega)
 · exact rW (by omega),dq n λ_ _=>Nat.le_refl 2⟩
theorem o9 {T N:Nat} {rs:List Nat} (h:bN N rs) (hN:N<=T) (hT:T<=7):(∀ s ∈ eh rs,plS T s)/\(eh rs).length<=84:=by
 have hl:=h.len
 refine ⟨kK λj hj=>(oo ?_).1,Nat.le_trans (dq (B:=12) _ λj hj=>?_) (by omega)⟩
 · have:=h.ge (rs.length - 1 - j) (by omega); have:=h.lt (rs.length - 1 - j) (by omega); omega
 · have g1:=h.ge (rs.length - 1 - j) (by omega)
   have g2:=h.lt (rs.length - 1 - j) (by omega)
   have:=(oo (T:=T) (a:=rs.length - 1 - j) (n:=rs.getD (rs.length - 1 - j) 0 - (rs.length - 1 - j)) (by omega)).2
   omega
theorem pN {T N:Nat} {cs:List Nat} (h:bN N cs) (hN:N<=T) (hT:T<=7):(∀ s ∈ i5 cs,plS T s)/\(i5 cs).length<=84:=by
 have hl:=h.len
 refine ⟨kK λj hj=>(mV ?_ (Nat.sub_le ..)).1,Nat.le_trans (dq (B:=12) _ λj hj=>?_) (by omega)⟩
 · have:=h.lt j hj; omega
 · have g2:=h.lt j hj
   have:=(mV (T:=T) (b:=cs.getD j 0) (n:=cs.getD j 0 - j) (by omega) (Nat.sub_le ..)).2
   omega
theorem oY {T N:Nat} {cs:List Nat} (h:bN N cs) (hN:N<=T) (hT:T<=7):(∀ s ∈ cK (dz cs),plS T s)/\(cK (dz cs)).length<=7:=by
 have h1:=h.one
 have g:=h.lt (cs.length - 1) (by omega)
 have e:dQ cs < N:=g
 refine ⟨λs hs=>?_,?_⟩
 · obtain ⟨t,ht,rfl⟩:=List.mem_map.mp hs
   have:=List.mem_range.mp (List.mem_filter.mp ht).1
   exact rW (by omega)
 · unfold cK dz
   rw [List.length_map]
   have:=List.length_filter_le (λt=>!decide (t ∈ cs)) (List.range (dQ cs))
   rw [List.length_range] at this
   omega
theorem sX {T R C:Nat} {ss:List Stp} {rs cs:List Nat} (h:okL T R C ss) (hr:bN R rs) (hc:bN C cs):(∀ s ∈ eh rs,plS T s)/\(∀ s ∈ cK (dz cs)++i5 cs,plS T s)/\(eh rs).length + (cK (dz cs)++i5 cs).length<=175:=by
 obtain ⟨a1,a2⟩:=o9 hr h.rT h.t7
 obtain ⟨b1,b2⟩:=pN hc h.cT h.t7
 obtain ⟨c1,c2⟩:=oY hc h.cT h.t7
 refine ⟨a1,λs hs=>(List.mem_append.mp hs).elim (c1 s) (b1 s),?_⟩
 rw [List.length_append]
 omega
theorem m9 {T R C:Nat} {ss:List Stp} {rs cs:List Nat} (h:okL T R C ss) (hr:bN R rs) (hc:bN C cs) (hl:ss.length<=200):okL T rs.length cs.length (cb ss rs cs):=by
 obtain ⟨a1,a2,a3⟩:=sX h hr hc
 have h1:=hr.len
 have h2:=hc.len
 have h3:=h.rT
 have h4:=h.cT
 refine ⟨h.t1,h.t7,hr.one,by omega,hc.one,by omega,?_,λi hi=>?_⟩
 · unfold cb
   rw [List.length_append,List.length_append]
   omega
 · have:(cb ss rs cs).getD i ("weigh",0,0) ∈ cb ss rs cs:=by simp [hi]
   unfold cb at this ⊢
   rw [List.mem_append,List.mem_append] at this
   rcases this with (z | z) | z
   · exact (a1 _ z).1
   · exact gc h _ z
   · exact (a2 _ z).1
noncomputable def eC (e:Nat) (s:Stp):Nat:=if s.2.2=0\/s.2.2=1 then 1 else e
theorem Az {e:Nat} {s:Stp} (h:(s.2.2=0\/s.2.2=1)\/Wq e s.2.2):Wq (eC e s) s.2.2:=by
 unfold eC
 by_cases z:s.2.2=0\/s.2.2=1
 · rw [if_pos z]
   rcases z with z | z <;> rw [z]
   · exact ⟨by decide,by unfold Bd; decide,by unfold Bd; decide⟩
   · exact ⟨by decide,by unfold Bd; decide,by unfold Bd; decide⟩
 · rw [if_neg z]; exact h.resolve_left z
theorem lF {e T:Nat}:∀ ss:List Stp,(∀ s ∈ ss,plS T s)->a8 (eC e) ss=ss.length
 | [],_=>rfl
 | s :: ss,h=>by
   have ih:=lF (e:=e) ss λx hx=>h x (List.mem_cons_of_mem _ hx)
   have:a8 (eC e) (s :: ss)=eC e s + a8 (eC e) ss:=rfl
   rw [this,ih]
   unfold eC
   rw [if_pos (h s (List.mem_cons_self ..)).2,List.length_cons]
   omega
theorem px {e:Nat} (he:1<=e):∀ ss:List Stp,a8 (eC e) ss<=e * ss.length
 | []=>by simp [a8]
 | s :: ss=>by
   have ih:=px he ss
   have:a8 (eC e) (s :: ss)=eC e s + a8 (eC e) ss:=rfl
   rw [this,List.length_cons,Nat.mul_succ]
   have:eC e s<=e:=by unfold eC; split <;> omega
   omega
noncomputable def Szl (ss:List Stp):Prop:=∃ E:Stp->Nat,(∀ st ∈ ss,Wq (E st) st.2.2/\E st<=100)/\a8 E ss + ss.length<=1500
theorem xv {e T R C:Nat} {ss:List Stp} {rs cs:List Nat} (h:okL T R C ss) (hr:bN R rs) (hc:bN C cs) (he:1<=e/\e<=100) (hl:(e + 1) * ss.length<=1000) (hw:∀ s ∈ ss,Wq e s.2.2):Szl (cb ss rs cs):=by
 obtain ⟨a1,a2,a3⟩:=sX h hr hc
 refine ⟨eC e,λs hs=>⟨Az ?_,by unfold eC; split <;> omega⟩,?_⟩
 · unfold cb at hs
   rw [List.mem_append,List.mem_append] at hs
   rcases hs with (z | z) | z
   · exact .inl (a1 s z).2
   · exact .inr (hw s z)
   · exact .inl (a2 s z).2
 · unfold cb
   have z1:=eU (E:=eC e) (eh rs++ss) (cK (dz cs)++i5 cs)
   have z2:=eU (E:=eC e) (eh rs) ss
   rw [lF _ a2] at z1
   rw [lF _ a1] at z2
   have z3:(eh rs++ss++(cK (dz cs)++i5 cs)).length=(eh rs).length + ss.length + (cK (dz cs)++i5 cs).length:=by rw [List.length_append,List.length_append (as:=eh rs)]
   have:=px he.1 ss
   rw [Nat.succ_mul] at hl
   omega
theorem Szl.of {e:Nat} {ss:List Stp} (he:e<=100) (hl:(e + 1) * ss.length<=1000) (hw:∀ s ∈ ss,Wq e s.2.2):Szl ss:=by
 refine ⟨λ_=>e,λs hs=>⟨hw s hs,he⟩,?_⟩
 have:∀ ss:List Stp,a8 (λ_=>e) ss=e * ss.length:=by
   intro ss
   induction ss with
   | nil=>simp [a8]
   | cons s ss ih=>
     have z:a8 (λ_=>e) (s :: ss)=e + a8 (λ_=>e) ss:=rfl
     rw [z,ih,List.length_cons,Nat.mul_succ]
     omega
 rw [this]
 rw [Nat.succ_mul] at hl
 omega
section
variable {P:Program} {w:World} {K:PySem.W.Frag} {mg:Str->Option Value} {base:Heap} {k:Nat} {f:Addr} {fd:FuncData} {qual:Str}
end
end K66
namespace Hy
open PySem PySem.Spec PyProof.Rows L2
open Ev (D Den ax aM aK au aR aF)
section
variable {X:Cx} {i:Int}
theorem ye {ns:List Int}:bP X (compareOp .NotIn) (.int i) (.lst (ns.map .int)) (.bl (!ns.any λw=>decide (w=i))):=⟨_,kC,λM x' y' H Q _ d1 d2 q=>by
 cases d1
 cases d2 with
 | @lst ad vs _ h r=>
   cases mr r
   refine ⟨_,_,rfl,.inl (aF aN h),rfl,?_,?_⟩
   · rw [List.all_map,List.all_eq_true]; intro _ _; rfl
   · have e:(ns.any λw=>decide (w=i))=inV (.int i) (ns.map V.int):=by unfold inV; rw [List.any_map]; congr 1
     rw [if_pos rfl]
     rw [e] at q
     exact q _ H (ak.refl _) .bl⟩
end
end Hy
namespace Su
open PySem PyProof.Rows HT
open PySem.SeqAt
open PySem.AutoSeq1 (wpAny_loadPart')
open PySem.MeetsSeq PySem.MeetsSeq2 PySem.MeetsSeq3
section
variable {prog:Program} {w:World} {A:Around} {E:Value->Shared->Prop} {s:Shared}
end
end Su
namespace Hy
open PySem PySem.Spec PyProof.Rows L2
open Ev (D Den ax aM aK au aR aF)
section
variable {X:Cx} {C:Bool} {τ:List Sl} {x y z:D} {a b e:Expr} {es:List Expr} {pos p:Pos} {k:Nat} {s:Sl} {ds xs ys:List D} {i j:Int} {N:Po} {rest:List Stmt}
end
section
variable {X:Cx} {C:Bool} {τ:List Sl} {x y z:D} {a b e:Expr} {es:List Expr} {pos p:Pos} {k:Nat} {s:Sl} {ds xs ys:List D} {N:Po} {rest:List Stmt}
theorem rP (i:Nat) {n:Str} {ap cp:Pos} (he:PE X e (dE X.K true τ (.o ys))) (hl:xs.length + ys.length < 1000000) (hr:PSs X rest (dS X.K (τ.set i (.o (xs++ys))) N)) (hi:τ[i]?=some (.o xs):=by rfl) (hN:X.N[i]?=some n:=by rfl)
   (hv:Vis X.env.scope n:=by first | exact Or.inl rfl | exact Or.inr (Or.inl rfl) | exact Or.inr (Or.inr rfl)) (hd:(n == ("__debug__" : Str))=false:=by decide) (hcd:(n == ("__classdict__" : Str))=false:=by decide)
   (hfew:((backTo cp (starEach [e] X.env)).all (λx=>!x.1) && (backToKw cp (keywordEach [] X.env)).all (λx=>x.1.isSome) && decide (([e]:List Expr).length + ([]:List Keyword).length + (if ([]:List Keyword).isEmpty then 0 else 1) < 30))=true:=by rfl)
   (hline:(ap.endLine == cp.line)=true:=by rfl) (hst:starEach [e] X.env=(false,eval e X.env) :: starEach [] X.env:=by rfl) (hpl:(backTo cp (starEach [] X.env)).any (·.1)=false:=by rfl)
   (hs:swapsWith (.Call (.Attribute (.Name n p) "extend" ap) [e] [] cp) none pos.line X.env=pure false:=by rfl) (hbase:attributeBase (.Name n p) "extend" X.env (eval (.Name n p) X.env)=eval (.Name n p) X.env:=by rfl) :
   PSs X (.Expr (.Call (.Attribute (.Name n p) "extend" ap) [e] [] cp) pos :: rest) (dS X.K τ N):=
 ba (M:=(·=τ.set i (.o (xs++ys)))) (psW (da (pK PySem.F.plainAttrs_list PySem.F.slot_list_extend PySem.F.type_list_extend qU (bh hN hv hd hcd) (bw he di hst) hbase hfew hline hst hpl) hs) λD σ H ⟨A,H₀,B,S,Me⟩=>by
   obtain ⟨l,vs,hb,e1,e2,d⟩:=S.sl i _ hi
   refine ⟨_,slot_of e1,.inl ⟨rfl,_,SqL.of e2⟩,A,H₀,B,S,λv H1 bs e3 fr ⟨l2,ws,eb,ev,h2,d2⟩=>?_⟩
   cases ev
   have lim:1000000<=sizeLine:=by decide
   refine ⟨l,l2,vs,ws,rfl,rfl,e3 _ _ e2,h2,by rw [d.length,d2.length]; omega,?_⟩
   exact Me.nx _ _ _ _ rfl ((S.mono e3).put hi hb ((d.mono (av e3 λ_ z=>z)).append (d2.mono (av (ak.refl _) λ_ z=>.inl z))))) λ_ e=>e ▸ hr
end
end Hy
namespace Hy
open PySem PySem.Spec PyProof.Rows L2
open Ev (D Den ax au aR aF)
section
variable {X:Cx}
noncomputable def zJ (K:PySem.W.Frag):V->List V->Hp->VK->Prop:=λx vs H Q=>∃ l b xs zs,x=.ref l/\vs=[.ref b]/\H l=some (.lst xs)/\SqL K H b zs/\xs.length + zs.length<=sizeLine/\Q .non (upd H l (.lst (xs++zs)))
theorem uA:MtM X "list.extend" (zJ X.K):=by
 intro pins s σ H x vs v us Q I rx rv h
 obtain ⟨l,b,xs,zs,rfl,rfl,hH,hB,hz,q⟩:=h
 cases rx
 obtain ⟨u,rfl,ru⟩:=rv.one
 cases ru
 obtain ⟨z,its,n,r,hl,e⟩:=I.rJ hH
 obtain ⟨its2,r2,pl,hz2⟩:=I.list hB
 obtain ⟨o2,e2,hc2,n2,hd2⟩:=pl.isList
 have hl2:its2.length=zs.length:=r2.length.symm
 have hsz:its.toArray.size + its2.toArray.size<=sizeLine:=by rw [List.size_toArray,List.size_toArray]; omega
 have hlong:¬ (!its.toArray.isEmpty && Builtin.List.listTooLong (its.toArray.size + its2.toArray.size))=true:=by
   rw [iX hsz,Bool.and_false]
   exact Bool.false_ne_true
 refine wpAny_call_entry F.slot_list_extend ⟨_,e,rfl⟩ F.entry_list_extend ?_ (F.args_list_extend_2 _ _)
 show wpAny _ _ (Builtin.List.listExtendWith (.ref l) (.ref b) .none) _ _ s
 unfold Builtin.List.listExtendWith
 refine wpAny_bind (wpAny_typeOf (T:="list") ⟨o2,e2,hc2⟩ ?_)
 have ht:(Value.type "list" == Value.type "list")=true:=by rfl
 rw [if_pos (by rw [ht]; simp)]
 refine wpAny_bind (PyProof.Rows.listItems_at e2 hd2 ?_)
 refine wpAny_bind (PyProof.Rows.listItems_at e rfl ?_)
 rw [if_neg hlong]
 refine wpAny_bind (PyProof.Rows.listUpdate_at e rfl ?_ (by rw [List.size_toArray]; omega) (by rw [Array.size_append]; omega))
 refine wpAny_pure ⟨_,rfl,.non,_,I.uO (its':=its++its2) hH e (by simp) (r.append r2) ?_,rfl,q⟩
 rw [List.length_append]
 omega
end
section
variable {X:Cx} {τ:List Sl} {e:Expr} {pos p:Pos} {N:Po} {rest:List Stmt} {xs ys:List D}
theorem we (i:Nat) {n:Str} {ap cp:Pos} (he:PE X e (dE X.K true τ (.d (.lst ys)))) (hl:xs.length + ys.length < 1000000) (hr:PSs X rest (dS X.K (τ.set i (.o (xs++ys))) N)) (hi:τ[i]?=some (.o xs):=by rfl) (hN:X.N[i]?=some n:=by rfl)
   (hv:Vis X.env.scope n:=by first | exact Or.inl rfl | exact Or.inr (Or.inl rfl) | exact Or.inr (Or.inr rfl)) (hd:(n == ("__debug__" : Str))=false:=by decide) (hcd:(n == ("__classdict__" : Str))=false:=by decide)
   (hfew:((backTo cp (starEach [e] X.env)).all (λx=>!x.1) && (backToKw cp (keywordEach [] X.env)).all (λx=>x.1.isSome) && decide (([e]:List Expr).length + ([]:List Keyword).length + (if ([]:List Keyword).isEmpty then 0 else 1) < 30))=true:=by rfl)
   (hline:(ap.endLine == cp.line)=true:=by rfl) (hst:starEach [e] X.env=(false,eval e X.env) :: starEach [] X.env:=by rfl) (hpl:(backTo cp (starEach [] X.env)).any (·.1)=false:=by rfl)
   (hs:swapsWith (.Call (.Attribute (.Name n p) "extend" ap) [e] [] cp) none pos.line X.env=pure false:=by rfl) (hbase:attributeBase (.Name n p) "extend" X.env (eval (.Name n p) X.env)=eval (.Name n p) X.env:=by rfl) :
   PSs X (.Expr (.Call (.Attribute (.Name n p) "extend" ap) [e] [] cp) pos :: rest) (dS X.K τ N):=
 ba (M:=(·=τ.set i (.o (xs++ys)))) (psW (da (pK PySem.F.plainAttrs_list PySem.F.slot_list_extend PySem.F.type_list_extend uA (bh hN hv hd hcd) (bw he di hst) hbase hfew hline hst hpl) hs) λD σ H ⟨A,H₀,B,S,Me⟩=>by
   obtain ⟨l,vs,hb,e1,e2,d⟩:=S.sl i _ hi
   refine ⟨_,slot_of e1,.inl ⟨rfl,_,SqL.of e2⟩,aH S λv H1 e3 d2=>?_⟩
   cases d2 with
   | @lst b ws _ h2 r2=>
     have lim:1000000<=sizeLine:=by decide
     refine ⟨l,b,vs,ws,rfl,rfl,e3 _ _ e2,aF aN h2,by rw [d.length,r2.length]; omega,?_⟩
     exact Me.nx _ _ _ _ rfl ((S.mono e3).put hi hb ((d.mono (av e3 λ_ z=>z)).append r2))) λ_ e=>e ▸ hr
end
end Hy
namespace L2
open PySem PySem.Spec PyProof.Rows
section
variable {κ:Type} [DecidableEq κ]
noncomputable def b8 (kvs:List (κ × V)) (k:κ):Option V:=(kvs.find? λkv=>decide (kv.1=k)).map (·.2)
noncomputable def putK (kvs:List (κ × V)) (k:κ) (v:V):List (κ × V):=
 if (kvs.any λkv=>decide (kv.1=k))=true then kvs.map (λkv=>if kv.1=k then (kv.1,v) else kv) else kvs++[(k,v)]
theorem bp {p:κ × V} {r:List (κ × V)} {k:κ} (e:p.1=k):b8 (p :: r) k=some p.2:=by simp [b8,List.find?_cons,e]
theorem bq {p:κ × V} {r:List (κ × V)} {k:κ} (e:¬ p.1=k):b8 (p :: r) k=b8 r k:=by simp [b8,List.find?_cons,e]
theorem jc (k:κ):∀ kvs:List (κ × V),(kvs.any λkv=>decide (kv.1=k))=(b8 kvs k).isSome
 | []=>rfl
 | p :: r=>by
   rw [List.any_cons]
   by_cases e:p.1=k
   · simp only [bp e,decide_eq_true e,Bool.true_or,Option.isSome_some]
   · rw [bq e,decide_eq_false e,Bool.false_or]; exact jc k r
theorem mH (k j:κ) (y:V):∀ kvs:List (κ × V),b8 (kvs.map λkv=>if kv.1=k then (kv.1,y) else kv) j=(b8 kvs j).map λx=>if j=k then y else x
 | []=>rfl
 | p :: r=>by
   have ih:=mH k j y r
   rw [List.map_cons]
   by_cases h:p.1=k
   · rw [if_pos h]
     by_cases e:p.1=j
     · rw [bp (p:=(p.1,y)) e,bp e,Option.map_some,if_pos (e.symm.trans h)]
     · rw [bq (p:=(p.1,y)) e,bq e,ih]
   · rw [if_neg h]
     by_cases e:p.1=j
     · rw [bp (p:=p) e,bp e,Option.map_some,if_neg (λz=>h (e.trans z))]
     · rw [bq (p:=p) e,bq e,ih]
theorem ki (k j:κ) (y:V):∀ kvs:List (κ × V),b8 kvs k=none->b8 (kvs++[(k,y)]) j=if j=k then some y else b8 kvs j
 | [],_=>by
   by_cases e:k=j
   · rw [if_pos e.symm]; exact bp (p:=(k,y)) e
   · rw [if_neg (λz=>e z.symm)]; exact bq (p:=(k,y)) e
 | p :: r,hn=>by
   rw [List.cons_append]
   have hk:¬ p.1=k:=λz=>by rw [bp z] at hn; cases hn
   rw [bq hk] at hn
   have ih:=ki k j y r hn
   by_cases e:p.1=j
   · rw [bp e,bp e,if_neg (λz=>hk (e.trans z))]
   · rw [bq e,bq e,ih]
theorem je (kvs:List (κ × V)) (k j:κ) (y:V):b8 (putK kvs k y) j=if j=k then some y else b8 kvs j:=by
 unfold putK
 by_cases a:(kvs.any λkv=>decide (kv.1=k))=true
 · rw [if_pos a,mH]
   rw [jc] at a
   by_cases e:j=k
   · obtain ⟨x,hx⟩:=Option.isSome_iff_exists.mp a
     rw [if_pos e,e,hx,Option.map_some,if_pos rfl]
   · rw [if_neg e]
     cases b8 kvs j with
     | none=>rfl
     | some x=>rw [Option.map_some,if_neg e]
 · rw [if_neg a]
   refine ki k j y kvs ?_
   rw [jc] at a
   cases q:b8 kvs k with
   | none=>rfl
   | some x=>rw [q] at a; exact (a rfl).elim
theorem gQ (kvs:List (κ × V)) (k:κ) (v:V):(putK kvs k v).length<=kvs.length + 1:=by
 unfold putK
 split
 · rw [List.length_map]; omega
 · rw [List.length_append,List.length_cons,List.length_nil]; omega
theorem fg.j9 {o:Option V} {u:Option Value} (r:fg o u):o.isSome=u.isSome:=by
 cases o with
 | none=>cases u with
   | none=>rfl
   | some _=>exact (show False from r).elim
 | some _=>cases u with
   | none=>exact (show False from r).elim
   | some _=>rfl
theorem fg.getD {o:Option V} {u:Option Value} {d:V} {d':Value} (r:fg o u) (rd:RelV d d'):RelV (o.getD d) (u.getD d'):=by
 cases o with
 | none=>cases u with
   | none=>exact rd
   | some _=>exact (show False from r).elim
 | some _=>cases u with
   | none=>exact (show False from r).elim
   | some _=>exact r
theorem KV.val {kvs:List (κ × V)} {vs:List (κ × Value)} (r:KV kvs vs) (k:κ):fg (b8 kvs k) (valueAt vs k):=by
 unfold KV at r
 induction r with
 | nil=>exact True.intro
 | @cons p q ps qs h t ih=>
   obtain ⟨h1,h2⟩:=h
   by_cases e:p.1=k
   · have e':q.1=k:=h1.symm.trans e
     have b:valueAt (q :: qs) k=some q.2:=by simp [valueAt,List.find?_cons,e']
     rw [bp e,b]; exact h2
   · have e':¬ q.1=k:=λz=>e (h1.trans z)
     have b:valueAt (q :: qs) k=valueAt qs k:=by simp [valueAt,List.find?_cons,e']
     rw [bq e,b]; exact ih
theorem KV.any {kvs:List (κ × V)} {vs:List (κ × Value)} (r:KV kvs vs) (k:κ):(kvs.any λkv=>decide (kv.1=k))=vs.any λkv=>decide (kv.1=k):=by
 unfold KV at r
 induction r with
 | nil=>rfl
 | cons h t ih=>rw [List.any_cons,List.any_cons,ih,h.1]
theorem KV.zU {kvs:List (κ × V)} {vs:List (κ × Value)} (r:KV kvs vs) (k:κ) {y:V} {u:Value} (ry:RelV y u) :
   KV (kvs.map λkv=>if kv.1=k then (kv.1,y) else kv) (vs.map λkv=>if kv.1=k then (kv.1,u) else kv):=by
 unfold KV at r ⊢
 induction r with
 | nil=>exact .nil
 | @cons p q ps qs h t ih=>
   rw [List.map_cons,List.map_cons]
   refine .cons ?_ ih
   obtain ⟨h1,h2⟩:=h
   by_cases e:p.1=k
   · rw [if_pos e,if_pos (h1.symm.trans e)]; exact ⟨h1,ry⟩
   · rw [if_neg e,if_neg (λz=>e (h1.trans z))]; exact ⟨h1,h2⟩
theorem KV.put {kvs:List (κ × V)} {vs:List (κ × Value)} (r:KV kvs vs) (k:κ) {y:V} {u:Value} (ry:RelV y u):KV (putK kvs k y) (stored vs k u):=by
 unfold putK stored
 rw [r.any k]
 by_cases e:(vs.any λkv=>decide (kv.1=k))=true
 · rw [if_pos e,if_pos e]; exact r.zU k ry
 · rw [if_neg e,if_neg e]; exact Paired.snoc r ⟨rfl,ry⟩
theorem KV.length {kvs:List (κ × V)} {vs:List (κ × Value)} (r:KV kvs vs):kvs.length=vs.length:=Paired.length r
end
theorem jt {P:Program} {w:World} {k:Key} {u:Value} (r:RelV (kV k) u):(bH P w).is k u=true:=by
 cases k with
 | inl i=>obtain ⟨t,e⟩:=(show ∃ t,u=Value.int i t from r); subst e; exact mB P w i t
 | inr x=>obtain ⟨t,e⟩:=(show ∃ t,u=Value.str x t from r); subst e; exact mE P w x t
noncomputable abbrev KT (H:Hp):List (List Key × V)->List (List Key × Addr × Value)->Prop:=Paired λp q=>p.1=q.1/\H q.2.1=some (.tup (p.1.map kV))/\RelV p.2 q.2.2
theorem KT.keeps {H H':Hp} {kvs:List (List Key × V)} {xs:List (List Key × Addr × Value)} (r:KT H kvs xs) (ht:∀ b ys,H b=some (.tup ys)->H' b=some (.tup ys)):KT H' kvs xs:=
 Paired.wX r λ_ _ z=>⟨z.1,ht _ _ z.2.1,z.2.2⟩
section
variable {P:Program} {w:World} {H:Hp} {h:Heap} {a:Addr}
theorem yo {u:HO} (ok:HOk P w H h) (e:Rd H a u):bG P w H h a u:=e.ok ok
theorem gY {kvs:List (Key × V)} (ok:HOk P w H h) (e:Rd H a (.dK kvs)):kvs.length<=sizeLine/\(a == sysModules)=false/\∃ vs,KV kvs vs/\h.DictOf (bH P w) a vs:=
 show bG P w H h a (.dK kvs) from yo ok e
theorem vX {kvs:List (Key × V)} (ok:HOk P w H h) (e:H a=some (.dK kvs)):kvs.length<=sizeLine/\(a == sysModules)=false/\∃ vs,KV kvs vs/\h.DictOf (bH P w) a vs:=gY ok (.inl e)
end
noncomputable def dU (H:Hp) (a:Addr) (y:V) (r:Option V):Prop:=∃ kvs k,Rd H a (.dK kvs)/\y=kV k/\r=b8 kvs k
noncomputable def sD (H:Hp) (a:Addr) (y v:V) (H':Hp):Prop:=∃ kvs k,H a=some (.dK kvs)/\y=kV k/\kvs.length < sizeLine/\H'=upd H a (.dK (putK kvs k v))
theorem dU.k {H:Hp} {a:Addr} {kvs:List (Key × V)} {k:Key} (e:H a=some (.dK kvs)):dU H a (kV k) (b8 kvs k):=⟨kvs,k,.inl e,rfl,rfl⟩
theorem sD.k {H:Hp} {a:Addr} {kvs:List (Key × V)} {k:Key} {v:V} (e:H a=some (.dK kvs)) (hl:kvs.length < sizeLine):sD H a (kV k) v (upd H a (.dK (putK kvs k v))):=⟨kvs,k,e,rfl,hl,rfl⟩
section
variable {X:Cx} {pins:List (Addr × Obj)} {σ:St} {H:Hp} {s:Shared} {a:Addr} {y v:V} {u r:Value} {o:Option V} {A:Around} {E:Value->Shared->Prop}
theorem Inv.big (I:Inv X pins σ H s):sysModules < s.heap.objs.size:=by
 have h:mainGlobals < s.heap.objs.size:=(I.mod.glob.keeps I.bk).lt
 exact Nat.lt_trans (by decide) h
theorem qo {Q:Value->Shared->Prop} (hu:A.units + 1 < cLine) (I:Inv X pins σ H s) (g:dU H a y (some v)) (ry:RelV y u) (h:∀ w' s',Inv X pins σ H s'->RelV v w'->Q w' s') :
   wpAny (model X.prog X.w) A (getItem (.ref a) u) Q E s:=by
 obtain ⟨kvs,k,e,ey,l⟩:=g
 subst ey
 obtain ⟨z,hd,vs,rel,dd⟩:=gY I.hok e
 obtain ⟨w',hw,rw'⟩:=fg.some_of (v:=v) (o:=valueAt vs k) (by rw [l]; exact rel.val k)
 exact wpAny_getItem_of (jt ry) dd.mapOf hw (h w' _ (I.tok _) rw')
theorem zX {Q:Value->Shared->Prop} (hu:A.units + 1 < cLine) (I:Inv X pins σ H s) (g:dU H a y o) (ry:RelV y u) (h:∀ s',Inv X pins σ H s'->Q (.bool o.isSome) s') :
   wpAny (model X.prog X.w) A (compareOp .In u (.ref a)) Q E s:=by
 obtain ⟨kvs,k,e,ey,l⟩:=g
 subst ey
 obtain ⟨z,hd,vs,rel,dd⟩:=gY I.hok e
 refine wpAny_in_of (jt ry) hd dd.mapOf ?_
 rw [<- (rel.val k).j9,<- l]
 exact h _ (I.tok _)
theorem vt {Q:Value->Shared->Prop} (hu:A.units + 1 < cLine) (I:Inv X pins σ H s) (g:dU H a y o) (ry:RelV y u) (h:∀ s',Inv X pins σ H s'->Q (.bool (!o.isSome)) s') :
   wpAny (model X.prog X.w) A (compareOp .NotIn u (.ref a)) Q E s:=by
 obtain ⟨kvs,k,e,ey,l⟩:=g
 subst ey
 obtain ⟨z,hd,vs,rel,dd⟩:=gY I.hok e
 refine wpAny_notIn_of (jt ry) hd dd.mapOf ?_
 rw [<- (rel.val k).j9,<- l]
 exact h _ (I.tok _)
theorem oJ {h':Heap} {t':Nat} {ob:HO} (I:Inv X pins σ H s) (mu:Mut (H a)) (hs:Heap.SameBut a s.heap h') (he:∃ q,h'.get? a=some q) (new:bG X.prog X.w (upd H a ob) h' a ob) :
   Inv X pins σ (upd H a ob) { s with heap:=h',toks:=t' }:=
 I.write (x:=a) (e:=a) mu (.inl rfl) (λb q hb z=>(hs.2 b hb).trans z) he new
theorem sy {P:Program} {w:World} {H':Hp} {h':Heap} {kvs:List (Key × V)} {vs:List (Key × Value)} (z:kvs.length<=sizeLine) (hd:(a == sysModules)=false) (rel:KV kvs vs) (dd:h'.DictOf (bH P w) a vs) :
   bG P w H' h' a (.dK kvs):=⟨z,hd,vs,rel,dd⟩
theorem qB {H':Hp} {Q:Unit->Shared->Prop} (hu:A.units + 1 < cLine) (I:Inv X pins σ H s) (g:sD H a y v H') (ry:RelV y u) (rv:RelV v r) (h:∀ s',Inv X pins σ H' s'->Q () s') :
   wpAny (model X.prog X.w) A (setItem (.ref a) u r) Q E s:=by
 obtain ⟨kvs,k,e,ey,l,eH⟩:=g
 subst ey eH
 obtain ⟨z,hd,vs,rel,dd⟩:=vX I.hok e
 have hz:vs.length<=sizeLine:=by rw [<- rel.length]; exact z
 have hl:(putK kvs k v).length<=sizeLine:=by have:=gQ kvs k v; omega
 refine wpAny_setItem_pairs (hsz:=hz) (jt ry) dd λh' dd' hs=>h _ ?_
 have he:∃ q,h'.get? a=some q:=let ⟨q,_,_,hq,_⟩:=dd'; ⟨q,hq⟩
 exact oJ I (by rw [e]; exact True.intro) hs he (sy hl hd (rel.put k rv) dd')
end
section
variable {X:Cx} {pins:List (Addr × Obj)} {σ:St} {H:Hp} {s:Shared} {a:Addr} {kvs:List (Key × V)} {k:Key} {u:Value} {A:Around} {E:Value->Shared->Prop}
end
noncomputable def wV (i:Expr):Prop:=∀ ov iv,subscripted i false ov iv=operate [ov,iv] (getItem ov iv)
theorem vm {prog:Program} {w:World} {A:Around} {E:Value->Shared->Prop} {s:Shared} {env:Env} {value slice:Expr} {pos:Pos} {T id:String} {Q:Value->Shared->Prop}
   (hl:typeLookup (.type T) "__getitem__" = pure (some (.builtin id))) (hs:wV slice)
   (h:wpAny (model prog w) A (eval value env) (λo s₁=>wpAny (model prog w) A (eval slice env) (λi s₂=>s₂.TypeIs o T/\wpAny (model prog w) A (getItem o i) Q E s₂) E s₁) E s) :
   wpAny (model prog w) A (eval (.Subscript value slice pos) env) Q E s:=by
 refine Subscript_ (wpAny_mono h (λo s₁ h₁=>wpAny_mono h₁ (λi s₂ h₂=>?_) λ_ _ x=>x) λ_ _ x=>x)
 obtain ⟨hT,h₂⟩:=h₂
 unfold subscriptTail
 refine wpAny_bind ?_
 rw [getitemInPython_of_ne hT.not_modules]
 refine wpAny_bind (wpAny_specialOf hT hl ?_)
 have fin:wpAny (model prog w) A (subscripted slice false o i) (λr s₃=>wpAny (model prog w) A (letTemporaryGo value o r >>= λ_=>pure r) Q E s₃) E s₂:=by
   rw [hs o i]
   exact wpAny_operating (wpAny_mono h₂ (λr s₃ h₃=>wpAny_bind (wpAny_letTemporaryGo (wpAny_pure h₃))) λ_ _ x=>x)
 first
   | exact wpAny_pure (wpAny_bind fin)
   | exact wpAny_bind (wpAny_pure (wpAny_bind fin))
   | exact wpAny_bind fin
theorem my {X:Cx} {pins:List (Addr × Obj)} {σ:St} {H:Hp} {s:Shared} {a:Addr} {y:V} {o:Option V} (I:Inv X pins σ H s) (g:dU H a y o):s.TypeIs (.ref a) "dict":=by
 obtain ⟨kvs,k,e,_,_⟩:=g
 obtain ⟨_,_,vs,_,dd⟩:=gY I.hok e
 exact dd.typeIs
noncomputable def yE (td ty:TE):TE:=λσ H Q=>td σ H λx H1=>ty σ H1 λy H2=>∃ a v,x=.ref a/\dU H2 a y (some v)/\Q v H2
noncomputable def Af (ty td:TE):TE:=λσ H Q=>ty σ H λy H1=>td σ H1 λx H2=>∃ a o,x=.ref a/\dU H2 a y o/\Q (.bl o.isSome) H2
noncomputable def uF (ty td:TE):TE:=λσ H Q=>ty σ H λy H1=>td σ H1 λx H2=>∃ a o,x=.ref a/\dU H2 a y o/\Q (.bl (!o.isSome)) H2
noncomputable def zu (td ty tv:TE):TS:=λD σ H=>tv σ H λv H1=>td σ H1 λx H2=>ty σ H2 λy H3=>∃ a H4,x=.ref a/\sD H3 a y v H4/\D.nx σ H4
section
variable {X:Cx} {o i e value:Expr} {pos pos' tpos:Pos} {td ty tv:TE}
theorem uv (hu:X.A.units + 1 < cLine) (ho:PE X o td) (hi:PE X i ty) (hs:wV i):PE X (.Subscript o i pos) (yE td ty):=by
 intro pins s σ H Q I h
 refine vm PySem.F.slot_dict_getitem.lookup hs (thn (ho pins s σ H _ I h) λu s1 ⟨x,H1,I1,rx,q1⟩=>thn (hi pins s1 σ H1 _ I1 q1) λiv s2 ⟨y,H2,I2,ry,a,v,ex,g,q2⟩=>?_)
 subst ex
 obtain rfl:u=Value.ref a:=rx
 exact ⟨my I2 g,qo hu I2 g ry λw' s3 I3 rw'=>⟨v,H2,I3,rw',q2⟩⟩
theorem yi (hu:X.A.units + 1 < cLine) (hi:PE X i ty) (ho:PE X o td):PC X .In i o (Af ty td):=by
 intro pins s σ H Q I h
 refine thn (hi pins s σ H _ I h) λiv s1 ⟨y,H1,I1,ry,q1⟩=>thn (ho pins s1 σ H1 _ I1 q1) λu s2 ⟨x,H2,I2,rx,a,ov,ex,g,q2⟩=>?_
 subst ex
 obtain rfl:u=Value.ref a:=rx
 exact zX hu I2 g ry λs3 I3=>⟨.bl ov.isSome,H2,I3,rfl,q2⟩
theorem ql (hu:X.A.units + 1 < cLine) (hi:PE X i ty) (ho:PE X o td):PC X .NotIn i o (uF ty td):=by
 intro pins s σ H Q I h
 refine thn (hi pins s σ H _ I h) λiv s1 ⟨y,H1,I1,ry,q1⟩=>thn (ho pins s1 σ H1 _ I1 q1) λu s2 ⟨x,H2,I2,rx,a,ov,ex,g,q2⟩=>?_
 subst ex
 obtain rfl:u=Value.ref a:=rx
 exact vt hu I2 g ry λs3 I3=>⟨.bl (!ov.isSome),H2,I3,rfl,q2⟩
theorem vo (hu:X.A.units + 1 < cLine) (ho:PE X o td) (hi:PE X i ty) (hv:PE X value tv) (hs:swapsWith value (some (.Subscript o i pos')) pos.line X.env=pure false) :
   PS X (.Assign [.Subscript o i pos'] value pos) (zu td ty tv):=by
 intro pins s σ H D I h
 refine wpAny_Assign_Subscript (thn (hv pins s σ H _ I h) λr s1 ⟨v,H1,I1,rv,q1⟩=>thn (ho pins s1 σ H1 _ I1 q1) λu s2 ⟨x,H2,I2,rx,q2⟩=>thn (hi pins s2 σ H2 _ I2 q2) λiv s3 ⟨y,H3,I3,ry,a,H4,ex,g,q3⟩=>?_) hs
 subst ex
 obtain rfl:u=Value.ref a:=rx
 exact qB hu I3 g ry rv λs4 I4=>⟨σ,H4,I4,q3⟩
end
theorem mG {P:Program} {w:World} {H:Hp} (h:Heap) (hb:sysModules < h.objs.size):bG P w H (h.push { cls:=.type "dict",data:=.dict #[] }) h.objs.size (.dK []):=
 ⟨Nat.zero_le _,beq_eq_false_iff_ne.mpr (Ne.symm (Nat.ne_of_lt hb)),[],.nil,Heap.DictOf.new h⟩
noncomputable def xW:TE:=λ_ H Q=>∀ p,H p=none->Q (.ref p) (upd H p (.dK []))
section
variable {X:Cx} {pos:Pos}
theorem tZ:PE X (.Dict [] [] pos) xW:=λpins s σ H Q I h=>
 wpAny_Dict_empty ⟨.ref s.heap.objs.size,_,I.laid (a:=s.heap.objs.size) (o:=.dK []) (t':=s.toks) (λ_ _ q=>Heap.get?_push_of_some _ q) (Nat.le_refl _) (mG s.heap I.big),rfl,h _ (I.hok.fresh (Nat.le_refl _))⟩
end
noncomputable def nh:List (TE × TE)->St->Hp->(List (V × V)->Hp->Prop)->Prop
 | [],_,H,Q=>Q [] H
 | (tk,tv) :: r,σ,H,Q=>tk σ H λx H1=>tv σ H1 λy H2=>nh r σ H2 λps H3=>Q ((x,y) :: ps) H3
noncomputable abbrev VV:List (V × V)->List (Value × Value)->Prop:=Paired λp q=>RelV p.1 q.1/\RelV p.2 q.2
noncomputable def PPs (X:Cx) (pos:Pos) (keys:List (Option Expr)) (values:List Expr) (trs:List (TE × TE)):Prop:=
 ∀ (pins:List (Addr × Obj)) (s:Shared) (σ:St) (H:Hp) (Q:List (V × V)->Hp->Prop),Inv X pins σ H s->nh trs σ H Q ->
   wpAny (model X.prog X.w) X.A (evalPairs (pairTrees keys values X.env pos)) (λvs s'=>∃ ps H',Inv X pins σ H' s'/\VV ps vs/\Q ps H') X.xe s
theorem uZ {X:Cx} {pos:Pos}:PPs X pos [] [] []:=λpins s σ H Q I h=>pairTrees_nil_walk ⟨[],H,I,.nil,h⟩
theorem jr {X:Cx} {pos:Pos} {k v:Expr} {ks:List (Option Expr)} {vs:List Expr} {tk tv:TE} {trs:List (TE × TE)} (hk:PE X k tk) (hv:PE X v tv) (hr:PPs X pos ks vs trs) :
   PPs X pos (some k :: ks) (v :: vs) ((tk,tv) :: trs):=λpins s σ H Q I h=>
 pairTrees_cons_walk (thn (hk pins s σ H _ I h) λu s1 ⟨x,H1,I1,rx,q1⟩=>thn (hv pins s1 σ H1 _ I1 q1) λw2 s2 ⟨y,H2,I2,ry,q2⟩=>
   thn (hr pins s2 σ H2 _ I2 q2) λws s3 ⟨ps,H3,I3,rel,q3⟩=>⟨(x,y) :: ps,H3,I3,.cons ⟨rx,ry⟩ rel,q3⟩)
noncomputable def fO (kvs more:List (Key × V)):List (Key × V):=more.foldl (λacc kv=>putK acc kv.1 kv.2) kvs
theorem KV.merge:∀ {more:List (Key × V)} {rs:List (Key × Value)} {kvs:List (Key × V)} {vs:List (Key × Value)},KV more rs->KV kvs vs->KV (fO kvs more) (merged vs rs):=by
 intro more rs kvs vs r
 unfold KV at r
 induction r generalizing kvs vs with
 | nil=>intro q; exact q
 | @cons p q ps qs h t ih=>
   intro r0
   have e:KV (putK kvs p.1 p.2) (stored vs q.1 q.2):=by
     have:=r0.put p.1 h.2
     rw [<- h.1]; exact this
   exact ih e
theorem fD:∀ (more kvs:List (Key × V)),(fO kvs more).length<=kvs.length + more.length
 | [],kvs=>by show kvs.length<=kvs.length + 0; omega
 | p :: r,kvs=>by
   have h1:=fD r (putK kvs p.1 p.2)
   have h2:=gQ kvs p.1 p.2
   show (fO (putK kvs p.1 p.2) r).length<=_
   rw [List.length_cons]; omega
theorem i9 {P:Program} {w:World}:∀ {kvs:List (Key × V)} {ws:List (Value × Value)},VV (kvs.map λkv=>(kV kv.1,kv.2)) ws->∃ rs,Carries (bH P w) ws rs/\KV kvs rs
 | [],_,r=>by rw [List.map_nil] at r; cases r; exact ⟨[],True.intro,.nil⟩
 | p :: kvs,_,r=>by
   rw [List.map_cons] at r
   cases r with
   | @cons a b as bs h t=>
     obtain ⟨rs,c,q⟩:=i9 (P:=P) (w:=w) t
     obtain ⟨b1,b2⟩:=b
     exact ⟨(p.1,b2) :: rs,⟨jt h.1,rfl,c⟩,.cons ⟨rfl,h.2⟩ q⟩
noncomputable def y6 (trs:List (TE × TE)):TE:=λσ H Q=>∀ p,H p=none->nh trs σ (upd H p (.dK [])) λps H2=>H2 p=some (.dK [])/\∃ kvs:List (Key × V),ps=kvs.map (λkv=>(kV kv.1,kv.2))/\kvs.length<=15/\Q (.ref p) (upd H2 p (.dK (fO [] kvs)))
theorem uE {X:Cx} {pos:Pos} {keys:List (Option Expr)} {values:List Expr} {trs:List (TE × TE)} (h:PPs X pos keys values trs) (hall:keys.all (·.isSome)=true) (hl:keys.length=values.length) (h0:keys ≠ [])
   (h15:keys.length<=15):PE X (.Dict keys values pos) (y6 trs):=by
 intro pins s σ H Q I q
 have hn:=I.hok.fresh (Nat.le_refl s.heap.objs.size)
 have I1:=I.laid (a:=s.heap.objs.size) (o:=.dK []) (h':=s.heap.push { cls:=.type "dict",data:=.dict #[] }) (t':=s.toks) (λ_ _ q=>Heap.get?_push_of_some _ q) (Nat.le_refl _) (mG s.heap I.big)
 refine wpAny_Dict_walk (knd:=bH X.prog X.w) hall hl h0 h15 (thn (h pins _ σ _ _ I1 (q _ hn)) λws s2 ⟨ps,H2,I2,rel,e,kvs,ep,lk,q2⟩=>?_)
 subst ep
 obtain ⟨rs,c,rk⟩:=i9 (P:=X.prog) (w:=X.w) rel
 obtain ⟨z,hd,vs0,r0,dd⟩:=vX I2.hok e
 cases r0
 refine ⟨rs,c,dd,λh' dd' hs=>⟨.ref s.heap.objs.size,_,?_,rfl,q2⟩⟩
 have hz:(fO [] kvs).length<=sizeLine:=by
   have h1:=fD kvs []
   rw [List.length_nil] at h1
   rw [sizeLine_eq]; omega
 have he:∃ q,h'.get? s.heap.objs.size=some q:=let ⟨q,_,_,hq,_⟩:=dd'; ⟨q,hq⟩
 exact oJ I2 (by rw [e]; exact True.intro) hs he (sy hz hd (rk.merge .nil) dd')
structure M1 (X:Cx) (o:Expr) (m:Str) (apos:Pos) (e:Expr) (cpos:Pos):Prop where
 base:attributeBase o m X.env (eval o X.env)=eval o X.env
 few:((backTo cpos (starEach [e] X.env)).all (λx=>!x.1) && (backToKw cpos (keywordEach [] X.env)).all (λx=>x.1.isSome)
   && decide (([e]:List Expr).length + ([]:List Keyword).length + (if ([]:List Keyword).isEmpty then 0 else 1) < 30))=true
 line:(apos.endLine == cpos.line)=true
 trees:backTo cpos (starEach [e] X.env)=[(false,eval e X.env)]
structure M2 (X:Cx) (o:Expr) (m:Str) (apos:Pos) (e f:Expr) (cpos:Pos):Prop where
 base:attributeBase o m X.env (eval o X.env)=eval o X.env
 few:((backTo cpos (starEach [e,f] X.env)).all (λx=>!x.1) && (backToKw cpos (keywordEach [] X.env)).all (λx=>x.1.isSome)
   && decide (([e,f]:List Expr).length + ([]:List Keyword).length + (if ([]:List Keyword).isEmpty then 0 else 1) < 30))=true
 line:(apos.endLine == cpos.line)=true
 trees:backTo cpos (starEach [e,f] X.env)=[(false,eval e X.env),(false,eval f X.env)]
noncomputable def IsD (H:Hp) (a:Addr):Prop:=∃ kvs,Rd H a (.dK kvs)
theorem tM {X:Cx} {pins:List (Addr × Obj)} {σ:St} {H:Hp} {s:Shared} {a:Addr} (I:Inv X pins σ H s) (d:IsD H a) :
   s.TypeIs (.ref a) "dict" /\ (∀ b,Value.ref a=.ref b->∃ ob,s.heap.get? b=some ob/\ob.dict=none)/\(a == sysModules)=false:=by
 obtain ⟨kvs,e⟩:=d
 obtain ⟨_,hd,vs,_,dd⟩:=gY I.hok e
 refine ⟨dd.typeIs,λb q=>?_,hd⟩
 cases q
 obtain ⟨ob,_,_,h1,h2,_⟩:=dd
 exact ⟨ob,h1,h2.2.1⟩
section
variable {X:Cx} {pins:List (Addr × Obj)} {σ:St} {H:Hp} {s:Shared} {a:Addr} {y d:V} {u r:Value} {o:Option V} {A:Around} {E:Value->Shared->Prop}
theorem xi {Q:Value->Shared->Prop} (hu:A.units + 1 < cLine) (I:Inv X pins σ H s) (g:dU H a y o) (ry:RelV y u) (h:∀ w' s',Inv X pins σ H s'->RelV (o.getD .non) w'->Q w' s') :
   wpAny (model X.prog X.w) A (call (.builtin "dict.get") [.ref a,u]) Q E s:=by
 obtain ⟨kvs,k,e,ey,l⟩:=g
 subst ey
 obtain ⟨z,hd,vs,rel,dd⟩:=gY I.hok e
 refine call_meetsIn PySem.F.slot_dict_get dd.typeIs PySem.F.entry_dict_get (PySem.F.args_dict_get_2 _ _) (meets_dict_get (bH X.prog X.w) a (jt ry) hd) ⟨_,dd.mapOf,h _ _ (I.tok _) ?_⟩
 rw [l]
 exact (rel.val k).getD rfl
theorem xG {Q:Value->Shared->Prop} (hu:A.units + 1 < cLine) (I:Inv X pins σ H s) (g:dU H a y o) (ry:RelV y u) (rd:RelV d r) (h:∀ w' s',Inv X pins σ H s'->RelV (o.getD d) w'->Q w' s') :
   wpAny (model X.prog X.w) A (call (.builtin "dict.get") [.ref a,u,r]) Q E s:=by
 obtain ⟨kvs,k,e,ey,l⟩:=g
 subst ey
 obtain ⟨z,hd,vs,rel,dd⟩:=gY I.hok e
 refine call_meetsIn PySem.F.slot_dict_get dd.typeIs PySem.F.entry_dict_get (PySem.F.args_dict_get_3 _ _ _) (meets_dict_get_default (bH X.prog X.w) a (jt ry) hd r) ⟨_,dd.mapOf,h _ _ (I.tok _) ?_⟩
 rw [l]
 exact (rel.val k).getD rd
end
noncomputable def xC (td ty:TE):TE:=λσ H Q=>td σ H λx H1=>∃ a,x=.ref a/\IsD H1 a/\ty σ H1 λy H2=>∃ o,dU H2 a y o/\Q (o.getD .non) H2
noncomputable def x6 (td ty tx:TE):TE:=λσ H Q=>td σ H λx H1=>∃ a,x=.ref a/\IsD H1 a/\ty σ H1 λy H2=>tx σ H2 λz H3=>∃ o,dU H3 a y o/\Q (o.getD z) H3
section
variable {X:Cx} {o e f:Expr} {apos cpos:Pos} {td ty tx:TE}
theorem rV (hu:X.A.units + 1 < cLine) (ho:PE X o td) (he:PE X e ty) (m:M1 X o "get" apos e cpos):PE X (.Call (.Attribute o "get" apos) [e] [] cpos) (xC td ty):=by
 intro pins s σ H Q I h
 refine wpAny_Call_method m.base m.few m.line PySem.F.plainAttrs_dict PySem.F.slot_dict_get PySem.F.type_dict_get (thn (ho pins s σ H _ I h) λu s1 ⟨x,H1,I1,rx,a,ex,d,q1⟩=>?_)
 subst ex
 obtain rfl:u=Value.ref a:=rx
 obtain ⟨t1,t2,_⟩:=tM I1 d
 refine ⟨t1,t2,?_⟩
 rw [m.trees]
 refine Calls.callWith_builtin rfl (Calls.evalArgs_plain (Calls.spliced_cons (thn (he pins s1 σ H1 _ I1 q1) λiv s2 ⟨y,H2,I2,ry,ov,g,q2⟩=>Calls.spliced_nil ?_)))
 exact xi hu I2 g ry λw' s3 I3 rw'=>⟨_,H2,I3,rw',q2⟩
theorem rf (hu:X.A.units + 1 < cLine) (ho:PE X o td) (he:PE X e ty) (hf:PE X f tx) (m:M2 X o "get" apos e f cpos):PE X (.Call (.Attribute o "get" apos) [e,f] [] cpos) (x6 td ty tx):=by
 intro pins s σ H Q I h
 refine wpAny_Call_method m.base m.few m.line PySem.F.plainAttrs_dict PySem.F.slot_dict_get PySem.F.type_dict_get (thn (ho pins s σ H _ I h) λu s1 ⟨x,H1,I1,rx,a,ex,d,q1⟩=>?_)
 subst ex
 obtain rfl:u=Value.ref a:=rx
 obtain ⟨t1,t2,_⟩:=tM I1 d
 refine ⟨t1,t2,?_⟩
 rw [m.trees]
 refine Calls.callWith_builtin rfl (Calls.evalArgs_plain (Calls.spliced_cons (thn (he pins s1 σ H1 _ I1 q1) λiv s2 ⟨y,H2,I2,ry,q2⟩=>
   Calls.spliced_cons (thn (hf pins s2 σ H2 _ I2 q2) λfv s3 ⟨z,H3,I3,rz,ov,g,q3⟩=>Calls.spliced_nil ?_))))
 exact xG hu I3 g ry rz λw' s4 I4 rw'=>⟨_,H3,I4,rw',q3⟩
end
end L2
namespace Ev
open PySem PySem.Spec PyProof.Rows L2
open PySem.Builtin.Range (rangeFitsLong rangeSize)
section
variable {prog:Program} {w:World} {A:Around} {E:Value->Shared->Prop} {s:Shared}
end
section
variable {X:Cx} {tg:Expr}
end
end Ev
namespace Ev
open PySem PySem.Spec PyProof.Rows L2
section
variable {X:Cx} {tg:Expr}
end
end Ev
namespace Ev
open PySem PySem.Spec PyProof.Rows L2
open PySem.Builtin.Range (rangeSize)
noncomputable def Itg (m:Int) (n:Nat):L2.It:=⟨λi _=>i < n,λi H x H'=>H'=H/\x=.int (m - (i:Nat)),λi _=>n<=i⟩
theorem w9 {P:Program} {w:World} {K:PySem.W.Frag} {tg:Expr} (it:Addr) (m:Int) (n:Nat):Turn P w K false tg (Itg m n) [it] it (λi h=>i<=n/\IsRangeIter h it (m + (i:Nat) * (-1)) ((n:Int) - (i:Nat)) (-1)) where
 mem:=by simp
 obj:=λi h st b hb=>by
   have e:b=it:=by simpa using hb
   subst e
   exact ⟨_,st.2,λv z=>by
     have z':Data.fields _=Data.cell v:=z
     cases z'⟩
 keep:=λi h h' st k=>⟨st.1,k it (by simp) _ st.2⟩
 item:=by
   intro X hP hw hK hc i pins s σ H E I hf st hg
   subst hP hw hK
   obtain ⟨f0,f1,f2,f3,f4,f5⟩:=hf it (by simp)
   have W:=Walks.range (prog:=X.prog) (w:=X.w) (I.ok.hd hc.calm) it m (-1) n
   refine W.item i s _ _ hg st.2 λv h' tk hv st' kk=>?_
   obtain ⟨t,rfl⟩:=hv
   have I1:Inv X pins σ H { s with heap:=h',toks:=tk }:=I.turned (λb o hb e=>kk b o (by simpa using hb) e) f0 f1 f3 f4 f5
   refine ⟨_,rfl,jV (s:={ s with heap:=h',toks:=tk }) (n:="range_iterator") st' rfl rfl (by decide) ⟨.int (m - (i:Nat)),H,I1,⟨t,?_⟩,⟨rfl,rfl⟩,⟨hg,st'⟩,λb hb=>(hf b hb).1⟩⟩
   rw [Int.mul_neg,Int.mul_one,<- Int.sub_eq_add_neg]
 done:=by
   intro X hP hw hK hc i pins s σ H E I hf st hg
   subst hP hw hK
   obtain ⟨f0,f1,f2,f3,f4,f5⟩:=hf it (by simp)
   have hg:n<=i:=hg
   obtain rfl:i=n:=Nat.le_antisymm st.1 hg
   have W:=Walks.range (prog:=X.prog) (w:=X.w) (I.ok.hd hc.calm) it m (-1) i
   exact W.done s _ _ st.2 λh' tk kk=>⟨rfl,I.turned (λb o hb e=>kk b o (by simpa using hb) e) f0 f1 f3 f4 f5⟩
 self:=λ_ _ _ _ _ st h=>wpAny_pyIter_rangeiter st.2 h
theorem pI {m j:Int} {n:Nat} (h:m - j=n):rangeSize m j (-1)=n:=by
 unfold rangeSize
 rw [if_neg (by omega),Int.neg_neg,Int.ediv_one]
 split <;> omega
theorem rK {m j:Int} {n:Nat} (h:m - j=n) (h1:-(2 ^ 60)<=m/\m < 2 ^ 60/\-(2 ^ 60)<=j/\j < 2 ^ 60):Builtin.Range.small m j (-1)=true:=by
 unfold Builtin.Range.small
 rw [pI h]
 simp only [Builtin.Range.rangeFitsLong,Bool.and_eq_true,Bool.or_eq_true,decide_eq_true_eq,beq_iff_eq]
 simp
 omega
section
variable {X:Cx} {tg:Expr}
noncomputable def zv (ta:TA):TI:=λσ H R=>ta σ H λvs H1=>∃ (i j:Int) (n:Nat),vs=[.int i,.int j,.int (-1)]/\(-(2 ^ 30)<=i/\i < 2 ^ 30/\-(2 ^ 30)<=j/\j < 2 ^ 30)/\i - j=n/\R (Itg i n) H1
theorem j7 {a b c:Expr} {ta:TA} {p pos:Pos} (hc:X.calm=true) (hg:Gl X "range") (hm:X.mg "range" = none) (ha:PA X [a,b,c] ta) (hs:starEach [a,b,c] X.env=(false,eval a X.env) :: starEach [b,c] X.env:=by rfl) (hs2:starEach [b,c] X.env=(false,eval b X.env) :: starEach [c] X.env:=by rfl) (hs3:starEach [c] X.env=[(false,eval c X.env)]:=by rfl) :
   PI X tg (.Call (.Name "range" p) [a,b,c] [] pos) (zv ta):=by
 intro pins s σ H R I h
 refine Call_ (dg I hg hm boot_range (PyProof.Rows.callWith_type1 (thn (ha pos pins s σ H _ I h) λus s1 ⟨vs,H1,I1,r1,q1⟩=>?_) hs (by rw [hs2,hs3]; rfl)))
 obtain ⟨i,j,n,e,⟨q1,q2,q3,q4⟩,en,q⟩:=q1
 subst e
 cases r1 with
 | cons r rr=>
   cases rr with
   | cons r' rr=>
     cases rr with
     | cons r'' rr=>
       cases rr
       obtain ⟨t,rfl⟩:=r
       obtain ⟨t',rfl⟩:=r'
       obtain ⟨t'',rfl⟩:=r''
       refine call_range_3 (by decide) ?_ (Or.inl (PyProof.noPylong_small (by omega)))
       refine wpAny_pyIter_range (IsRange.new ..) (rK en ⟨by omega,by omega,by omega,by omega⟩) ?_
       have I2:Inv X pins σ H1 { s1 with heap:=s1.heap.push { cls:=.type "range",data:=.fields #[.int i t,.int j t',.int (-1) t''] },toks:=s1.toks }:=I1.kept λb o e=>Heap.get?_push_of_some _ e
       refine ⟨false,(s1.heap.push { cls:=.type "range",data:=.fields #[.int i t,.int j t',.int (-1) t''] }).objs.size,[(s1.heap.push { cls:=.type "range",data:=.fields #[.int i t,.int j t',.int (-1) t''] }).objs.size],_,_,H1,rfl,
         I2.kept (t':=s1.toks) λb o e=>Heap.get?_push_of_some _ e,.inl hc,w9 _ i n,⟨Nat.zero_le _,?_⟩,λb hb=>?_,q⟩
       · have e1:i + ((0:Nat):Int) * (-1)=i:=by simp
         have e2:((n:Nat):Int) - ((0:Nat):Int)=Builtin.Range.rangeSize i j (-1):=by rw [pI en]; simp
         rw [e1,e2]
         exact Heap.get?_push_size _ rfl
       · have e:b=(s1.heap.push { cls:=.type "range",data:=.fields #[.int i t,.int j t',.int (-1) t''] }).objs.size:=by simpa using hb
         subst e
         exact I2.jx (Nat.le_refl _) (I2.hok.fresh (Nat.le_refl _))
end
end Ev
namespace Hy
open PySem PySem.Spec PyProof.Rows L2
open Ev (D Den ax au aR aF Itg j7)
noncomputable def nM (m:Int) (n:Nat):List D:=(List.range n).map λk=>D.int (m - (k:Nat))
theorem cZ (m:Int) (n:Nat):(nM m n).length=n:=by simp [nM]
theorem lP (m:Int) (n i:Nat) (h:i < (nM m n).length):(nM m n)[i]=.int (m - (i:Nat)):=by simp [nM]
theorem uX {K:PySem.W.Frag} {G:Hp} (m:Int) (n:Nat):Yl K (Itg m n) (nM m n) G:=by
 intro H sg
 refine ⟨λi hi=>by rw [cZ] at hi; exact hi,λi hi=>?_⟩
 have hi':i < n:=by rw [cZ] at hi; exact hi
 refine ⟨hi',λx H' ⟨e1,e2⟩=>?_⟩
 subst e1 e2
 refine ⟨ak.refl _,λM _ sv=>?_⟩
 rw [lP]
 exact .int
theorem si {X:Cx} {k:Nat} {τ:List Sl} {a b c tg:Expr} {p pos:Pos} {m j:Int} (n:Nat) (B:Bk X k) (h:PE X a (dE X.K false τ (.d (.int m)))) (h':PE X b (dE X.K false τ (.d (.int j)))) (h'':PE X c (dE X.K false τ (.d (.int (-1))))) (h1:-(2 ^ 30)<=m/\m < 2 ^ 30/\-(2 ^ 30)<=j/\j < 2 ^ 30) (hn:m - j=n) (hg:Gl X "range":=by rfl)
   (hs:starEach [a,b,c] X.env=(false,eval a X.env) :: starEach [b,c] X.env:=by rfl) (hs2:starEach [b,c] X.env=(false,eval b X.env) :: starEach [c] X.env:=by rfl) (hs3:starEach [c] X.env=[(false,eval c X.env)]:=by rfl):PI X tg (.Call (.Name "range" p) [a,b,c] [] pos) (dI X.K τ (nM m n)):=
 piW (j7 B.calm hg (B.blt _ (by decide)) (ae h (ae h' (ae h'' ag hs3) hs2) hs) hs hs2 hs3) λσ H R ⟨A,H₀,B,S,k⟩=>cF S λvs H1 e1 d1=>by
   cases d1 with
   | cons d r=>
     cases r with
     | cons d' r=>
       cases r with
       | cons d'' r=>
         cases r
         cases d
         cases d'
         cases d''
         exact ⟨m,j,n,rfl,h1,hn,k _ H1 e1 (uX m n)⟩
end Hy
namespace L2
open PySem PySem.Spec PyProof.Rows PySem.SeqAt
section
variable {P:Program} {w:World} {A:Around} {E:Value->Shared->Prop} {s:Shared}
noncomputable def HK (P:Program) (w:World) (A:Around) (h:Heap) (v:Value) (x:Int) (d:Nat):Prop:=
 ∀ (s:Shared) (E:Value->Shared->Prop) (Q:Int->Shared->Prop),s.heap=h->Q x { s with toks:=s.toks + d }->wpAny (model P w) A (pyHash v) Q E s
end
noncomputable abbrev zI:=Int × Int × Bool
noncomputable def isN (h:Heap) (k:zI) (a:Addr):Prop:=∃ t c t',IsTup h a #[.int k.1 t,.ref c]/\IsTup h c #[.int k.2.1 t',.bool k.2.2]
theorem pQ {h:Heap} {a:Addr} {x y:Array Value} (p:IsTup h a x) (q:IsTup h a y):x=y:=by
 obtain ⟨o,ho,_,n,hd⟩:=p
 obtain ⟨o',ho',_,n',hd'⟩:=q
 rw [ho] at ho'; cases ho'
 rw [hd] at hd'; cases hd'; rfl
theorem isN.inj {h:Heap} {a:Addr} {x y:zI} (p:isN h x a) (q:isN h y a):x=y:=by
 obtain ⟨t,c,t',h1,h2⟩:=p
 obtain ⟨u,d,u',g1,g2⟩:=q
 have e:=pQ h1 g1
 simp only [Array.mk.injEq,List.cons.injEq,Value.int.injEq,Value.ref.injEq,and_true] at e
 obtain ⟨⟨e1,_⟩,rfl⟩:=e
 have e:=pQ h2 g2
 simp only [Array.mk.injEq,List.cons.injEq,Value.int.injEq,Value.bool.injEq,and_true] at e
 obtain ⟨⟨e2,_⟩,e3⟩:=e
 obtain ⟨_,_,_⟩:=x
 obtain ⟨_,_,_⟩:=y
 simp_all
structure IK (P:Program) (w:World) (K:Type) [DecidableEq K] where
 is:Heap->K->Value->Prop
 hash:K->Int
 draws:K->Nat
 dep:Nat
 inj:∀ {h:Heap} {v:Value} {x y:K},is h x v->is h y v->x=y
 keeps:∀ {h h':Heap} {k:K} {v:Value} {d:Addr} {o:Obj} {es ep},is h k v->h.get? d=some o->o.data=.dict es ep->Heap.SameBut d h h'->is h' k v
 hk:∀ {A:Around} {h:Heap} {k:K} {v:Value},is h k v->A.units + dep < cLine->HK P w A h v (hash k) (draws k)
 eq:∀ {A:Around} {s:Shared} {x y:K} {u v:Value},is s.heap x u->is s.heap y v->A.units + dep < cLine->EqAt A s u v (decide (x=y))
 quiet:∀ {s:Shared} {k:K} {v:Value} {n:Nat},dep < n->is s.heap k v->∀ A E Q,Q true s->wpAny (model P w) A (eqIsQuiet n v) Q E s
section
variable {P:Program} {w:World}
variable {K K':Type} [DecidableEq K] [DecidableEq K']
noncomputable def kindOf (a:IK P w K) (hd:a.dep<=7):HeapKind P w K where
 is:=λh k p=>a.is h k (.ref p)
 hash:=a.hash
 draws:=a.draws
 room:=λA=>A.units + 8 < cLine
 inj:=a.inj
 keeps:=a.keeps
 pyHash:=λ{A E s k p Q} hu hk h=>a.hk hk (by omega) s E Q rfl h
 eqBool:=λ{A E s x y p p' Q} hu hx hy h=>a.eq hx hy (by omega) _ _ _ _ h
 quiet:=λ{A E s k p Q} hk h=>a.quiet (by omega) hk A E Q h
end
inductive p9 {K:Type} (R:K->Value->Prop):List K->List Value->Prop where
 | nil:p9 R [] []
 | cons {x:K} {v:Value} {xs:List K} {vs:List Value} (h:R x v) (r:p9 R xs vs):p9 R (x :: xs) (v :: vs)
section
variable {K:Type}
theorem p9.inj {R:K->Value->Prop} (f:∀ x y v,R x v->R y v->x=y):∀ {xs ys:List K} {vs:List Value},p9 R xs vs->p9 R ys vs->xs=ys
 | _,_,_,.nil,.nil=>rfl
 | _,_,_,.cons h r,.cons g q=>by rw [f _ _ _ h g,r.inj f q]
end
section
variable {P:Program} {w:World} {K:Type} [DecidableEq K]
end
end L2
namespace Ev
open PySem PySem.Spec PyProof.Rows L2
structure KD (K:Type) [DecidableEq K] where
 ik:∀ (P:Program) (w:World),IK P w K
 dep:Nat
 dep_ok:∀ P w,(ik P w).dep=dep
 toD:K->D
 den:∀ {X:Cx} {pins:List (Addr × Obj)} {σ:L2.St} {H:Hp} {s:Shared} {v:V} {u:Value} {k:K},Inv X pins σ H s->Den X.K H v (toD k)->RelV v u->(ik X.prog X.w).is s.heap k u
section
variable {K K':Type} [DecidableEq K] [DecidableEq K']
noncomputable abbrev NEs (K:Type):=List (K × Addr × Value)
noncomputable def kd (a:KD K) (hd:a.dep<=7) (P:Program) (w:World):HeapKind P w K:=kindOf (a.ik P w) (by rw [a.dep_ok]; exact hd)
variable {a:KD K} {hd:a.dep<=7}
variable {X:Cx} {pins:List (Addr × Obj)} {σ:L2.St} {H:Hp} {s:Shared} {d b:Addr} {xs:NEs K} {k:K} {A:Around} {E:Value->Shared->Prop}
variable {o i e value:Expr} {pos pos':Pos} {td ty tv:TE}
end
end Ev
namespace Hy
open PySem PySem.Spec PyProof.Rows L2
open Ev (D Den ax KD NEs)
section
variable {K:Type} [DecidableEq K]
variable {a:KD K} {F:PySem.W.Frag} {G G':Hp}
end
end Hy
namespace Hy
open PySem PySem.Spec PyProof.Rows L2
open Ev (D Den ax KD NEs au)
section
variable {K:Type} [DecidableEq K] {a:KD K} {hd:a.dep<=7} {X:Cx} {C:Bool} {τ:List Sl} {x:D} {b e ix:Expr} {pos p q:Pos} {k:Nat} {N:Po} {rest:List Stmt} {m:List (K × D)} {key:K}
end
section
variable {K:PySem.W.Frag} {A:Addr->Prop} {H₀ H H':Hp} {τ:List Sl} {B:Nat->List Addr} {σ:L2.St}
end
section
variable {K:Type} [DecidableEq K] {a:KD K} {hd:a.dep<=7} {X:Cx} {C:Bool} {τ:List Sl} {x:D} {b e ix:Expr} {pos p q sp:Pos} {k:Nat} {N:Po} {rest:List Stmt} {m:List (K × D)} {key:K}
end
end Hy
namespace Hy
open PySem PySem.Spec PyProof.Rows L2
open Ev (D Den ax Bx au)
section
variable {K:PySem.W.Frag} {A:Addr->Prop} {H₀ H:Hp} {τ:List Sl} {B:Nat->List Addr} {σ:L2.St} {m:List (Int × Int)} {i:Nat}
end
section
variable {X:Cx} {C:Bool} {τ:List Sl} {x y:D} {a b e f o ix tg:Expr} {pos p q apos cpos sp:Pos} {k:Nat} {N:Po} {rest:List Stmt} {m:List (Int × Int)} {key v n:Int}
theorem mZ {xs:List D} {n:Nat} (h:xs.length=n):hX X (.builtin "len") [.lst xs] (.d (.int n)):=h ▸ iP
end
end Hy
namespace K66
open PySem PySem.Spec PyProof.Rows L2 Hy
open Ev (D Den ax aM aK)
noncomputable def Mk1 (K:PySem.W.Frag) (mg:Str->Option Value) (n:Str) (i j:Int):Prop:=∃ a,mg n=some (.ref a)/\∀ H,SqT K H a [.int i,.int j]
theorem sj {X:Cx} {C:Bool} {τ:List Sl} {pos:Pos} {n:Str} {i j:Int} (h:Mk1 X.K X.mg n i j) (hg:Gl X n:=by rfl) (hd:(n == ("__debug__" : Str))=false:=by decide):PE X (.Name n pos) (dE X.K C τ (.d (.tup [.int i,.int j]))):=by
 obtain ⟨a,hm,hb⟩:=h
 exact kf (k8 (v:=.ref a) hg hm rfl hd) λH=>.tup (hb H) (.cons .int (.cons .int .nil))
noncomputable def mW (ds:List D) (r:Sl):Prop:=∃ t:Nat,ds=[.int t]/\r=.d (stD ("weigh",t,0))
noncomputable def i8 (ds:List D) (r:Sl):Prop:=∃ (T:Nat) (xs:List D),ds=[.int T,.lst xs]/\xs.length<=400/\r=.d (.lst xs)
noncomputable def nI (rs:List Nat):List D:=rs.map λ(n:Nat)=>D.int (n:Int)
theorem dn (rs:List Nat):(nI rs).length=rs.length:=List.length_map ..
theorem vT {rs:List Nat} {k:Nat} (h:k < rs.length):atI (nI rs) (k:Int)=some (.int (rs.getD k 0:Nat)):=ai (by simp [nI,h])
theorem tP {rs:List Nat} (h:1<=rs.length):atI (nI rs) (-1)=some (.int (dQ rs:Nat)):=by
 unfold atI
 have:ixN (nI rs).length (-1)=some (rs.length - 1):=by
   rw [dn]
   unfold ixN
   rw [if_neg (by decide),if_pos (by omega)]
   congr 1
   omega
 rw [this]
 have h2:rs.length - 1 < rs.length:=by omega
 simp [nI,dQ,h2]
theorem wU (rs:List Nat) (t:Nat):((rs.map λ(n:Nat)=>(n:Int)).any λw=>decide (w=(t:Int)))=decide (t ∈ rs):=by
 rw [List.any_map,Bool.eq_iff_iff,List.any_eq_true,decide_eq_true_iff]
 constructor
 · rintro ⟨n,h1,h2⟩
   have e:(n:Int)=(t:Int):=of_decide_eq_true h2
   have:n=t:=by omega
   exact this ▸ h1
 · exact λh=>⟨t,h,decide_eq_true rfl⟩
theorem gh (cs:List Nat):nI cs=(cs.map λ(n:Nat)=>(n:Int)).map D.int:=by unfold nI; rw [List.map_map]; rfl
theorem u7 (cs:List Nat):((List.range (fo 0 ((dQ cs:Nat):Int).toNat).length).filter (λt=>!decide (t ∈ cs))).map (λt=>stD ("weigh",t,0))=(cK (dz cs)).map stD:=by
 rw [aD,Int.toNat_natCast]
 unfold cK dz
 rw [List.map_map]
 rfl
noncomputable def dF (ds:List D) (r:Sl):Prop:=∃ (T R C:Nat) (ss:List Stp) (rs cs:List Nat),ds=[aS T R C ss,.lst (nI rs),.lst (nI cs)]/\okL T R C ss/\ss.length<=200/\bN R rs/\bN C cs/\r=.d (aS T rs.length cs.length (cb ss rs cs))
section
variable {P:Program} {w:World} {K:PySem.W.Frag} {mg:Str->Option Value} {base:Heap} {k:Nat} {f:Addr} {fd:FuncData} {qual:Str}
theorem uz (F:Fun K "stop" qual (top 73) f fd) (hb:∀ x ∈ aj,mg x=none) (y_NOUGHT:Mk1 K mg "NOUGHT" 0 1):aG P w K mg base CX0 (k + 1) f fd ["track"] (spD K mW):=by
 refine fnD F ux hb (by rintro _ _ ⟨_,rfl,_⟩; rfl) ?_
 rintro _ _ ⟨t,rfl,rfl⟩ cdv A outer s H E b
 exact aJ (bX (ae bD (ae (aa 0) (ae (sj y_NOUGHT) ag)))) rfl
theorem qp (F:Fun K "fitted" qual (top 76) f fd) (hb:∀ x ∈ aj,mg x=none) (y_MOST_STEPS:∃ t,mg "MOST_STEPS" = some (.int 400 t)):aG P w K mg base CX0 (k + 1) f fd ["tracks","steps"] (spD K i8):=by
 refine fnD F pX hb (by rintro _ _ ⟨_,_,rfl,_⟩; rfl) ?_
 rintro _ _ ⟨T,xs,rfl,hl,rfl⟩ cdv A outer s H E b
 refine fB (aY (bC b (ae (aa 1) ag) iP) (kA y_MOST_STEPS) l5) (λh=>aJ (aa 1) rfl) λh=>?_
 have:=of_decide_eq_false h
 omega
set_option maxHeartbeats 1000000 in
theorem jC (F:Fun K "cut_ladder" qual (top 75) f fd) (hb:∀ x ∈ aj,mg x=none) (y_ONE:Mk1 K mg "ONE" 1 1) (c_fitted:Cal P w K mg base k "fitted" i8) (c_stop:Cal P w K mg base k "stop" mW):aG P w K mg base CX0 (k + 1) f fd ["ladder","rows","columns"] (spD K dF):=by
 refine fnD F fu hb (by rintro _ _ ⟨_,_,_,_,_,_,rfl,_⟩; rfl) ?_
 rintro _ _ ⟨T,R,C,ss,rs,cs,rfl,ok,hl,hr,hc,rfl⟩ cdv A outer s H E b
 have nd:=fu.nd
 have em:∀ a b:List Stp,(a++b).map stD=a.map stD++b.map stD:=λa b=>List.map_append
 have t7:=ok.t7
 have rT:=ok.rT
 have cT:=ok.cT
 have rl:=hr.len
 have cl:=hc.len
 have r1:=hr.one
 have c1:=hc.one
 obtain ⟨w1,w2⟩:=o9 hr rT t7
 obtain ⟨v1,v2⟩:=pN hc cT t7
 obtain ⟨u1,u2⟩:=oY hc cT t7
 have lR:(nI rs).length=rs.length:=dn rs
 have lC:(nI cs).length=cs.length:=dn cs
 refine aI 3 nd (cA ag) ?_
 refine fA 4 (λj τ=>∃ s4 s5,τ=[.d (aS T R C ss),.d (.lst (nI rs)),.d (.lst (nI cs)),.o ((((List.range j).map λj=>dwS (rs.length - 1 - j) (rs.getD (rs.length - 1 - j) 0 - (rs.length - 1 - j))).flatten).map stD),s4,s5]) b nd
   (si (m:=(rs.length:Int) - 1) (j:=-1) rs.length b (aB (bC b (ae (aa 1) ag) (mZ lR)) af dM) (mO af) (mO af) (by omega) (by omega)) (lP _ _) ⟨_,_,rfl⟩ (λj hj τ h=>?_) λτ h=>?_
 · obtain ⟨s4,s5,rfl⟩:=h
   rw [cZ] at hj
   have ek:(rs.length:Int) - 1 - (j:Nat)=((rs.length - 1 - j:Nat):Int):=by omega
   rw [ek,b5]
   have pl:(((List.range j).map λj=>dwS (rs.length - 1 - j) (rs.getD (rs.length - 1 - j) 0 - (rs.length - 1 - j))).flatten).length<=12 * j:=dq j λq hq=>by
     have g1:=hr.ge (rs.length - 1 - q) (by omega)
     have g2:=hr.lt (rs.length - 1 - q) (by omega)
     have:=(oo (T:=T) (a:=rs.length - 1 - q) (n:=rs.getD (rs.length - 1 - q) 0 - (rs.length - 1 - q)) (by omega)).2
     omega
   generalize ((List.range j).map λj=>dwS (rs.length - 1 - j) (rs.getD (rs.length - 1 - j) 0 - (rs.length - 1 - j))).flatten=pre at *
   have kl:rs.length - 1 - j < rs.length:=by omega
   generalize rs.length - 1 - j=kk at *
   have ge:=hr.ge kk kl
   have lt:=hr.lt kk kl
   have en:((rs.getD kk 0:Nat):Int) - (kk:Nat)=((rs.getD kk 0 - kk:Nat):Int):=by omega
   refine fA 5 (λq τ=>∃ s5,τ=[.d (aS T R C ss),.d (.lst (nI rs)),.d (.lst (nI cs)),.o ((pre++((List.range q).map λq=>dwT (kk + q)).flatten).map stD),.d (.int (kk:Nat)),s5]) b nd
     (tU b (aa 4) (ay (aa 1) (aa 4) (aU (vT kl))) (by omega)) (iu _ _) ⟨s5,by rw [List.range_zero,List.map_nil,List.flatten_nil,List.append_nil]; rfl⟩ (λq hq τ h=>?_) λτ h=>?_
   · obtain ⟨s5,rfl⟩:=h
     rw [aD,en,Int.toNat_natCast] at hq
     have fl:(((List.range q).map λq=>dwT (kk + q)).flatten).length<=2 * q:=dq q λ_ _=>Nat.le_refl 2
     have et:(kk:Int) + (q:Nat)=((kk + q:Nat):Int):=by omega
     rw [et]
     refine rP 3 (xs:=(pre++((List.range q).map λq=>dwT (kk + q)).flatten).map stD) (ys:=(dwT (kk + q)).map stD) (cA (ae (bX (ae bD (ae (aa 5) (ae (sj y_ONE) ag)))) (ae (x_call b c_stop (ae (aa 5) ag) ⟨kk + q,rfl,rfl⟩) ag))) ?_ (aV ⟨.d (.int ((kk + q:Nat):Int)),?_⟩)
     · rw [List.length_map,List.length_append,List.length_map]; show _ + 2 < _; omega
     · rw [b5,<- List.append_assoc,em _ (dwT (kk + q))]
       rfl
   · obtain ⟨s5,rfl⟩:=h
     rw [aD,en,Int.toNat_natCast]
     exact aV ⟨_,_,rfl⟩
 · obtain ⟨s4,s5,rfl⟩:=h
   rw [cZ]
   have eR:((List.range rs.length).map λj=>dwS (rs.length - 1 - j) (rs.getD (rs.length - 1 - j) 0 - (rs.length - 1 - j))).flatten=eh rs:=rfl
   rw [eR]
   refine we 3 (xs:=(eh rs).map stD) (ys:=ss.map stD) (ay (aa 0) af (aw (ai (i:=3) rfl))) (by rw [List.length_map,List.length_map]; omega) ?_
   rw [<- List.map_append]
   have lb:((eh rs++ss).map stD).length<=284:=by rw [List.length_map,List.length_append]; omega
   refine rP 3 (xs:=(eh rs++ss).map stD) (ys:=(cK (dz cs)).map stD) (by
     rw [<- u7 cs]
     exact cH (rg 0 (g:=λt=>.int (t:Nat)) (f:=λt=>stD ("weigh",t,0)) (t:=λt=>!decide (t ∈ cs)) b (cW b (ay (aa 2) (mO af) (aU (tP c1))) (by omega) (by unfold dQ; have:=hc.lt (cs.length - 1) (by omega); omega)) cU (by rw [aD,Int.toNat_natCast]; unfold dQ; have:=hc.lt (cs.length - 1) (by omega); omega)
       (λt ht s0 H0 fp=>by
         rw [<- wU]
         refine aY (aa 0) ?_ ye
         rw [<- gh]
         exact aa 1)
       λt ht hh s0 H0 fp=>x_call (b.comp s0 H0 _ fp) c_stop (ae (aa 0) ag) ⟨t,rfl,rfl⟩)) (by rw [List.length_map (as:=cK (dz cs))]; omega) ?_
   rw [<- List.map_append]
   generalize hA:eh rs++ss++cK (dz cs)=pre
   have lp:pre.length<=291:=by rw [<- hA,List.length_append,List.length_append]; omega
   refine fA 4 (λj τ=>∃ s4 s5,τ=[.d (aS T R C ss),.d (.lst (nI rs)),.d (.lst (nI cs)),.o ((pre++((List.range j).map λk=>upS (cs.getD k 0) (cs.getD k 0 - k)).flatten).map stD),s4,s5]) b nd
     (cW b (bC b (ae (aa 2) ag) (mZ lC)) (by omega) (by omega)) cU ⟨s4,s5,by rw [List.range_zero,List.map_nil,List.flatten_nil,List.append_nil]; rfl⟩ (λj hj τ h=>?_) λτ h=>?_
   · obtain ⟨s4,s5,rfl⟩:=h
     rw [aD,Int.toNat_natCast] at hj
     rw [b5,<- List.append_assoc]
     have pl:(pre++((List.range j).map λk=>upS (cs.getD k 0) (cs.getD k 0 - k)).flatten).length<=291 + 12 * j:=by
       have:=dq (f:=λk=>upS (cs.getD k 0) (cs.getD k 0 - k)) (B:=12) j λq hq=>by
         have g2:=hc.lt q (by omega)
         have:=(mV (T:=T) (b:=cs.getD q 0) (n:=cs.getD q 0 - q) (by omega) (Nat.sub_le ..)).2
         omega
       rw [List.length_append]
       omega
     generalize pre++((List.range j).map λk=>upS (cs.getD k 0) (cs.getD k 0 - k)).flatten=pp at *
     have ge:=hc.ge j hj
     have lt:=hc.lt j hj
     have ix:=vT hj
     generalize cs.getD j 0=bb at *
     refine fA 5 (λq τ=>∃ s5,τ=[.d (aS T R C ss),.d (.lst (nI rs)),.d (.lst (nI cs)),.o ((pp++((List.range q).map λq=>upT (bb - 1 - q)).flatten).map stD),.d (.int (j:Nat)),s5]) b nd
       (si (m:=(bb:Int) - 1) (j:=(j:Int) - 1) (bb - j) b (aB (ay (aa 2) (aa 4) (aU ix)) af dM) (aB (aa 4) af dM) (mO af) (by omega) (by omega)) (lP _ _) ⟨s5,by rw [List.range_zero,List.map_nil,List.flatten_nil,List.append_nil]; rfl⟩ (λq hq τ h=>?_) λτ h=>?_
     · obtain ⟨s5,rfl⟩:=h
       rw [cZ] at hq
       have fl:(((List.range q).map λq=>upT (bb - 1 - q)).flatten).length<=2 * q:=dq q λ_ _=>Nat.le_refl 2
       have et:(bb:Int) - 1 - (q:Nat)=((bb - 1 - q:Nat):Int):=by omega
       rw [et]
       generalize hk:bb - 1 - q=kk at *
       refine rP 3 (xs:=(pp++((List.range q).map λq=>upT (bb - 1 - q)).flatten).map stD) (ys:=(upT kk).map stD) (cA (ae (bX (ae bD (ae (aa 5) (ae (sj y_ONE) ag)))) (ae (x_call b c_stop (ae (aB (aa 5) af bc) ag) ⟨kk + 1,rfl,rfl⟩) ag))) ?_ (aV ⟨.d (.int (kk:Nat)),?_⟩)
       · rw [List.length_map,List.length_append,List.length_map]; show _ + 2 < _; omega
       · rw [b5,<- List.append_assoc,hk,em _ (upT kk)]
         rfl
     · obtain ⟨s5,rfl⟩:=h
       rw [cZ]
       exact aV ⟨_,_,rfl⟩
   · obtain ⟨s4,s5,rfl⟩:=h
     rw [aD,Int.toNat_natCast]
     have eCl:((List.range cs.length).map λk=>upS (cs.getD k 0) (cs.getD k 0 - k)).flatten=i5 cs:=rfl
     rw [eCl]
     have eA:pre++i5 cs=cb ss rs cs:=by rw [<- hA]; unfold cb; rw [List.append_assoc (eh rs++ss)]
     rw [eA]
     have ll:=(m9 ok hr hc hl).len
     refine iU 3 (aJ (bX (ae (ay (aa 0) af (aw (ai (i:=0) rfl))) (ae (bC b (ae (aa 1) ag) (mZ lR)) (ae (bC b (ae (aa 2) ag) (mZ lC)) (ae (x_call b c_fitted (ae (ay (aa 0) af (aw (ai (i:=0) rfl))) (ae (aa 3) ag)) ⟨T,_,rfl,by rw [List.length_map]; exact ll,rfl⟩) ag))))) rfl)
end
end K66
namespace Hy
open PySem PySem.Spec PyProof.Rows L2
open Ev (D Den ax au aR aF)
section
variable {X:Cx}
end
section
variable {X:Cx} {C:Bool} {τ:List Sl} {x y z:D} {a b e f o ix:Expr} {es:List Expr} {pos p q:Pos} {k:Nat} {s:Sl} {N:Po} {rest:List Stmt} {i:Nat} {t c:Nd} {pt:List Nat} {xs:List Nd} {j:Int} {m:Nat}
end
end Hy
namespace Hy
open PySem PySem.Spec PyProof.Rows L2
open Ev (D Den ax au aE dR cD PTs bT cP)
theorem gH {K:PySem.W.Frag} {G:Hp}:∀ {vs:List V} {ns:List Int},ax K G vs (ns.map .int)->vs=ns.map V.int
 | _,[],.nil=>rfl
 | _,n :: ns,.cons h r=>by cases h; rw [gH r]; rfl
section
variable {X:Cx}
end
section
variable {X:Cx} {C:Bool} {τ:List Sl} {e it:Expr} {pos p q p2 p6 tp ip vp rp ap cp p1:Pos} {k:Nat} {N:Po} {rest:List Stmt} {scope:Scope}
end
end Hy
namespace Hy
open PySem PySem.Spec PyProof.Rows L2
open Ev (D Den ax au)
section
variable {X:Cx} {τ:List Sl} {a b:Expr} {pos p q:Pos} {N:Po} {rest:List Stmt}
end
end Hy
namespace K66
open PySem PySem.Spec PyProof.Rows L2 Hy
open Ev (D Den ax aM aK)
noncomputable def uW (c:List Int):Int:=c.getD (c.length - 1) 0
theorem ui {c:List Int} (h:c ≠ []):atI (c.map D.int) (-1)=some (.int (uW c)):=by
 have hl:0 < c.length:=List.length_pos_iff.mpr h
 unfold atI ixN uW
 rw [if_neg (by decide),if_pos (by rw [List.length_map]; omega),List.length_map]
 simp only [Option.bind_some]
 have e:(-1 + (c.length:Int)).toNat=c.length - 1:=by omega
 rw [e]
 simp [(by omega:c.length - 1 < c.length)]
structure ChO (m:Int) (ns:List Int):Prop where
 ne:ns ≠ []
 up:∀ i,i + 1 < ns.length->ns.getD i 0 < ns.getD (i + 1) 0
 lo:0<=ns.getD 0 0
 hi:uW ns < m
 len:ns.length<=1000
noncomputable def eV (ds:List D) (r:Sl):Prop:=∃ ns:List Int,ds=[.lst (ns.map .int)]/\(∀ i,i + 1 < ns.length->ns.getD i 0 < ns.getD (i + 1) 0)/\ns.length<=1000/\r=.d (.bl true)
theorem su (n:Nat) (f:Nat->Bool) (h:∀ i,i < n->f i=true):((List.range n).map f).all id=true:=by
 rw [List.all_map,List.all_eq_true]
 intro i hi
 exact h i (List.mem_range.mp hi)
noncomputable def eF (ds:List D) (r:Sl):Prop:=∃ (ns:List Int) (m:Int),ds=[.lst (ns.map .int),.int m]/\ChO m ns/\r=.d (.bl true)
noncomputable def cg (ds:List D) (r:Sl):Prop:=∃ (ns ms:List Int) (m n:Int),ds=[.lst (ns.map .int),.lst (ms.map .int),.int m,.int n]/\ChO m ns/\ChO n ms/\r=.d .non
section
variable {P:Program} {w:World} {K:PySem.W.Frag} {mg:Str->Option Value} {base:Heap} {k:Nat} {f:Addr} {fd:FuncData} {qual:Str}
theorem kz (F:Fun K "is_rising" qual (top 30) f fd) (hb:∀ x ∈ aj,mg x=none):aG P w K mg base CX0 (k + 1) f fd ["numbers"] (spD K eV):=by
 refine fnD F ku hb (by rintro _ _ ⟨_,rfl,_⟩; rfl) ?_
 rintro _ _ ⟨ns,rfl,up,hl,rfl⟩ cdv A outer s H E b
 have el:(((ns.map D.int).length:Int) - 1).toNat=ns.length - 1:=by rw [List.length_map]; omega
 refine aJ (bC b (ae (bA (cH (cmp 0 (g:=λi=>.int (1 + (i:Nat))) (f:=λi=>.bl (decide (ns.getD i 0 < ns.getD (i + 1) 0))) b (tU b af (bC b (ae (aa 0) ag) iP) (by rw [List.length_map]; omega)) (λi h=>iu 1 _ i h) (by rw [aD]; omega) λi hi s0 H0 fp=>?_))) ag) (j5 b.calm ((List.range (ns.length - 1)).map λi=>decide (ns.getD i 0 < ns.getD (i + 1) 0)) (by rw [aD,el,List.map_map]; rfl))) ?_
 · have hi:i < ns.length - 1:=by rw [aD,el] at hi; exact hi
   have k0:atI (ns.map D.int) (1 + (i:Int) - 1)=some (.int (ns.getD i 0)):=by
     have e:(1 + (i:Int) - 1).toNat=i:=by omega
     have:=bf (ns:=ns) (i:=1 + (i:Int) - 1) (by omega) (by omega)
     rw [e] at this
     exact this
   have k1:atI (ns.map D.int) (1 + (i:Int))=some (.int (ns.getD (i + 1) 0)):=by
     have e:(1 + (i:Int)).toNat=i + 1:=by omega
     have:=bf (ns:=ns) (i:=1 + (i:Int)) (by omega) (by omega)
     rw [e] at this
     exact this
   exact cu (ay (aa 1) (aB (aa 0) af dM) (aU k0)) (ay (aa 1) (aa 0) (aU k1)) sZ
 · rw [su (ns.length - 1) (λi=>decide (ns.getD i 0 < ns.getD (i + 1) 0)) λi hi=>decide_eq_true (up i (by omega))]
theorem kH (F:Fun K "is_choice" qual (top 29) f fd) (hb:∀ x ∈ aj,mg x=none) (c_is_rising:Cal P w K mg base k "is_rising" eV) (c_is_whole:Cal P w K mg base k "is_whole" bR):aG P w K mg base CX0 (k + 1) f fd ["thing","many"] (spD K eF):=by
 refine fnD F lI hb (by rintro _ _ ⟨_,_,rfl,_⟩; rfl) ?_
 rintro _ _ ⟨ns,m,rfl,h,rfl⟩ cdv A outer s H E b
 have hl:=h.len
 have l0:0 < ns.length:=List.length_pos_iff.mpr h.ne
 refine br (PW.pt (bO (aX (aZ (x_call b c_is_whole (ae (aa 1) ag) ⟨_,rfl,rfl⟩))) λh=>(bO (aX (aZ (bY .list b (aa 0)))) λh=>(bQ (aY (bC b (ae (aa 0) ag) iP) af jo))))) ?_ ?_
 · rw [decide_eq_false (by rw [List.length_map]; omega)]; rfl
 refine br (aX (aZ (bC b (ae (bA (cH (cmp 0 (f:=λl=>.bl true) b (bL (aa 0)) j0 (by rw [List.length_map]; omega) λl hl s0 H0 fp=>(x_call (b.comp s0 H0 _ fp) c_is_whole (ae (aa 0) ag) ⟨_,rfl,rfl⟩)))) ag) (j5 b.calm ((List.range ns.length).map λ_=>true) (by rw [List.length_map,List.map_map]; rfl))))) ?_ ?_
 · rw [su ns.length (λ_=>true) λ_ _=>rfl]; rfl
 refine aJ (eG (x_call b c_is_rising (ae (aa 0) ag) ⟨ns,rfl,h.up,hl,rfl⟩) λ_=>(eG (cu (ay (aa 0) af (aU (bf (ns:=ns) (i:=0) (by decide) l0))) af qX) λ_=>(gp (cu (ay (aa 0) (mO af) (aU (ui h.ne))) (aa 1) sZ)))) ?_
 rw [decide_eq_true (show ns.getD (0:Int).toNat 0 ≥ 0 from h.lo),decide_eq_true h.hi]
 rfl
theorem ij (F:Fun K "look_choices" qual (top 32) f fd) (hb:∀ x ∈ aj,mg x=none) (c_is_choice:Cal P w K mg base k "is_choice" eF):aG P w K mg base CX0 (k + 1) f fd ["rows","columns","many_rows","many_columns"] (spD K cg):=by
 refine fnD F il hb (by rintro _ _ ⟨_,_,_,_,rfl,_⟩; rfl) ?_
 rintro _ _ ⟨ns,ms,m,n,rfl,h1,h2,rfl⟩ cdv A outer s H E b
 refine br (aX (aZ (x_call b c_is_choice (ae (aa 0) (ae (aa 2) ag)) ⟨ns,m,rfl,h1,rfl⟩))) rfl ?_
 exact br (aX (aZ (x_call b c_is_choice (ae (aa 1) (ae (aa 3) ag)) ⟨ms,n,rfl,h2,rfl⟩))) rfl (aV rfl)
end
end K66
namespace Ev
open PySem PySem.Spec PyProof.Rows L2
section
variable {X:Cx} {o e f g:Expr} {pos apos cpos:Pos} {td te tf tg:TE}
end
noncomputable def Its (x:Str):L2.It:=⟨λi _=>i < x.cps.size,λi H v H'=>H'=H/\v=.str ⟨#[x.cps.getD i 0]⟩,λi _=>x.cps.size<=i⟩
theorem rZ {P:Program} {w:World} {K:PySem.W.Frag} {tg:Expr} (it:Addr) (x:Str) (t:Tok):Turn P w K false tg (Its x) [it] it (λi h=>i<=x.cps.size/\h.IsStrIter it "str_ascii_iterator" x t i) where
 mem:=by simp
 obj:=λi h st b hb=>by
   have e:b=it:=by simpa using hb
   subst e
   obtain ⟨o,h1,h2,h3⟩:=st.2
   exact ⟨o,h1,λv z=>by rw [h3] at z; cases z⟩
 keep:=λi h h' st k=>⟨st.1,let ⟨o,h1,r⟩:=st.2; ⟨o,k it (by simp) _ h1,r⟩⟩
 item:=by
   intro X hP hw hK hc i pins s σ H E I hf st hg
   subst hP hw hK
   obtain ⟨f0,f1,f2,f3,f4,f5⟩:=hf it (by simp)
   have W:=Walks.strAscii (prog:=X.prog) (w:=X.w) (I.ok.hd hc.calm) it x t
   refine W.item i s _ _ hg st.2 λv h' tk hv st' kk=>?_
   obtain ⟨c,u,hc',rfl⟩:=hv
   have I1:Inv X pins σ H { s with heap:=h',toks:=tk }:=I.turned (λb o hb e=>kk b o (by simpa using hb) e) f0 f1 f3 f4 f5
   obtain ⟨o,o1,o2,o3⟩:=id st'
   refine ⟨_,rfl,jV (s:={ s with heap:=h',toks:=tk }) (n:="str_ascii_iterator") o1 o2 o3 (by decide) ⟨.str ⟨#[x.cps.getD i 0]⟩,H,I1,⟨u,?_⟩,⟨rfl,rfl⟩,⟨hg,st'⟩,λb hb=>(hf b hb).1⟩⟩
   have:x.cps.getD i 0=c:=by rw [Array.getD_eq_getD_getElem?,hc']; rfl
   rw [this]
 done:=by
   intro X hP hw hK hc i pins s σ H E I hf st hg
   subst hP hw hK
   obtain ⟨f0,f1,f2,f3,f4,f5⟩:=hf it (by simp)
   have hg:x.cps.size<=i:=hg
   obtain rfl:i=x.cps.size:=Nat.le_antisymm st.1 hg
   have W:=Walks.strAscii (prog:=X.prog) (w:=X.w) (I.ok.hd hc.calm) it x t
   exact W.done s _ _ st.2 λh' tk kk=>⟨rfl,I.turned (λb o hb e=>kk b o (by simpa using hb) e) f0 f1 f3 f4 f5⟩
 self:=λ_ _ _ _ _ st h=>wpAny_pyIter_striter_ascii st.2 h
section
variable {X:Cx} {tg l:Expr} {tl:TE}
noncomputable def Au (tl:TE):TI:=λσ H R=>tl σ H λx H1=>∃ z,x=.str z/\z.cps.all (· < 128)=true/\R (Its z) H1
theorem xu (hc:X.calm=true) (hl:PE X l tl):PI X tg l (Au tl):=by
 intro pins s σ H R I h
 refine thn (hl pins s σ H _ I h) λv s1 ⟨x,H1,I1,r1,z,e,ha,q⟩=>?_
 subst e
 obtain ⟨t,rfl⟩:=r1
 refine wpAny_pyIter_ascii ha ?_
 refine ⟨false,s1.heap.objs.size,[s1.heap.objs.size],_,_,H1,rfl,I1.kept (t':=s1.toks) λb o e=>Heap.get?_push_of_some _ e,.inl hc,rZ _ z t,⟨Nat.zero_le _,_,Heap.get?_push_size _ rfl,rfl,rfl⟩,λb hb=>?_,q⟩
 have e:b=s1.heap.objs.size:=by simpa using hb
 subst e
 exact I1.jx (Nat.le_refl _) (I1.hok.fresh (Nat.le_refl _))
end
end Ev
namespace Hy
open PySem PySem.Spec PyProof.Rows L2
open Ev (D Den ax au)
section
variable {X:Cx} {C:Bool} {τ:List Sl} {o e f g a b:Expr} {pos apos cpos p p2:Pos} {z w v:Str} {k:Nat} {xs:List D}
theorem vD {i:Int} {c:Nat} (hz:z.length<=sizeLine) (h:atI z.cps.toList i=some c):uB X (.str z) (.int i) (.str ⟨#[c]⟩):=⟨_,yj,λM v w H Q _ d1 d2 q=>by
 cases d1
 cases d2
 exact ⟨z,i,c,rfl,rfl,hz,h,q _ H (ak.refl _) .str⟩⟩
theorem xO (hz:z.length<=sizeLine):hX X (.builtin "len") [.str z] (.d (.int z.length)):=⟨_,kE,λM vs H Q hM d q=>by
 cases d with
 | cons d r=>
   cases r
   cases d
   exact ⟨z,rfl,hz,q _ H [] (ak.refl _) cN (gy .int)⟩⟩
theorem zh {c:Nat}:bP X (compareOp .In) (.str ⟨#[c]⟩) (.str z) (.bl (decide (c ∈ z.cps.toList))):=⟨_,qO,λ_ v w H Q _ d1 d2 k=>by
 cases d1
 cases d2
 exact ⟨_,z,rfl,rfl,by rw [StrLaws.found_one]; exact k _ H (ak.refl _) .bl⟩⟩
theorem sJ (h:z.length + w.length<=sizeLine):bP X (binaryOp .Add) (.str z) (.str w) (.str (z++w)):=⟨_,ni,λ_ v w' H Q _ d1 d2 k=>by
 cases d1
 cases d2
 exact ⟨z,w,rfl,rfl,h,k _ H (ak.refl _) .str⟩⟩
noncomputable def gD (z:Str):List D:=z.cps.toList.map λc=>.str ⟨#[c]⟩
theorem xM {tg:Expr} (h:PE X e (dE X.K true τ (.d (.str z)))) (ha:z.cps.all (· < 128)=true) (hc:X.calm=true:=by first | rfl | assumption):PI X tg e (dI X.K τ (gD z)):=piW (Ev.xu hc h) λσ H R ⟨A,H₀,B,S,k⟩=>aH S λv H1 e1 d1=>by
 cases d1
 refine ⟨z,rfl,ha,k _ H1 e1 λH2 s2=>⟨λi hi=>?_,λi hi=>⟨?_,λx H' ⟨e,ex⟩=>?_⟩⟩⟩
 · have:(gD z).length=z.cps.size:=by simp [gD]
   show z.cps.size<=i
   omega
 · have:(gD z).length=z.cps.size:=by simp [gD]
   show i < z.cps.size
   omega
 · subst e ex
   refine ⟨ak.refl _,λM _ _=>?_⟩
   have hi':i < z.cps.size:=by simpa [gD] using hi
   have:(gD z)[i]=.str ⟨#[z.cps.getD i 0]⟩:=by simp [gD,hi',Array.getD]
   rw [this]
   exact .str
end
end Hy
namespace Tx
open PySem
noncomputable def inj (c:Nat):List (List Nat)->List Nat
 | []=>[]
 | [a]=>a
 | a :: b :: r=>a++c :: inj c (b :: r)
noncomputable def cs (x:Str):List Nat:=x.cps.toList
theorem wd (x:Str):(cs x).length=x.length:=by simp [cs,Str.length]
end Tx
namespace K66
open PySem PySem.Spec PyProof.Rows L2 Hy
open Ev (D Den ax aM aK)
theorem Ak {X:Cx} {C:Bool} {τ:List Sl} {pos:Pos} {n x:Str} (h:∃ t,X.mg n=some (.str x t)) (hg:Gl X n:=by rfl) (hd:(n == ("__debug__" : Str))=false:=by decide):PE X (.Name n pos) (dE X.K C τ (.d (.str x))):=by
 obtain ⟨t,hm⟩:=h
 exact kf (k8 (v:=.str x) hg hm ⟨t,rfl⟩ hd) λ_=>.str
noncomputable def gP:Str:="abcdefghijklmnopqrstuvwxyz"
structure qD (n:Str):Prop where
 l1:1<=n.length
 l8:n.length<=8
 az:∀ c ∈ n.cps.toList,97<=c/\c < 123
noncomputable def a4 (ds:List D) (r:Sl):Prop:=∃ n:Str,ds=[.str n]/\qD n/\r=.d (.bl true)
theorem wz:∀ c,97<=c->c < 123->c ∈ gP.cps.toList:=by
 have:∀ c,c < 123->97<=c->c ∈ gP.cps.toList:=by decide +kernel
 exact λc h1 h2=>this c h2 h1
noncomputable def nmP (c:Int):List Int:=nums c [8,8031810176,26]
noncomputable def nmR (c:Int):Nat->Int
 | 0=>(nmP c).getD 1 0
 | i + 1=>(nmR c i).fdiv 26
noncomputable def ltr (i:Int):Str:=⟨#[97 + (i.fmod 26).toNat]⟩
noncomputable def nmB (c:Int):Nat->Str
 | 0=>""
 | i + 1=>nmB c i++ltr (nmR c i)
noncomputable def nm (c:Int) (k:Nat):Str:=nmB c ((nmP c).getD 0 0).toNat++ltr ((nmP c).getD 2 0 + (k:Int))
theorem rM (i:Int):atI gP.cps.toList (i.fmod 26)=some (97 + (i.fmod 26).toNat):=by
 have h:=fm (a:=i) (b:=26) (by decide)
 generalize i.fmod 26=m at h ⊢
 obtain ⟨n,rfl⟩:=Int.eq_ofNat_of_zero_le h.1
 have:∀ n,n < 26->gP.cps.toList[n]?=some (97 + n):=by decide +kernel
 have h2:=this n (by omega)
 exact ai h2
theorem gq (a b:Str):(a++b).cps.toList=a.cps.toList++b.cps.toList:=Array.toList_append
theorem iA (a:Str):a.length=a.cps.toList.length:=(Array.length_toList).symm
theorem lM (i:Int):(ltr i).cps.toList=[97 + (i.fmod 26).toNat]:=rfl
theorem iD (c:Int):∀ i,(nmB c i).length=i
 | 0=>rfl
 | i + 1=>by rw [nmB,iA,gq,List.length_append,<- iA,iD c i]; rfl
theorem sk (c:Int):∀ i,∀ x ∈ (nmB c i).cps.toList,97<=x/\x < 123
 | 0=>by intro x hx; exact absurd (show x ∈ ([]:List Nat) from hx) (by simp)
 | i + 1=>by
   intro x hx
   rw [nmB,gq,List.mem_append] at hx
   rcases hx with hx | hx
   · exact sk c i x hx
   · rw [lM,List.mem_singleton] at hx
     have h:=fm (a:=nmR c i) (b:=26) (by decide)
     omega
theorem zz (c:Int):(0<=(nmP c).getD 0 0/\(nmP c).getD 0 0 < 8):=by
 have hp:∀ b ∈ ([8,8031810176,26]:List Int),0 < b:=by decide
 exact gw (c:=c) hp (i:=0) (by decide)
theorem zk (c:Int) (k:Nat):qD (nm c k):=by
 have hp:=zz c
 have hl:(nm c k).length=((nmP c).getD 0 0).toNat + 1:=by rw [nm,iA,gq,List.length_append,<- iA,iD]; rfl
 refine ⟨by omega,by omega,λx hx=>?_⟩
 rw [nm,gq,List.mem_append] at hx
 rcases hx with hx | hx
 · exact sk c _ x hx
 · rw [lM,List.mem_singleton] at hx
   have h:=fm (a:=(nmP c).getD 2 0 + (k:Int)) (b:=26) (by decide)
   omega
theorem yz (c:Int) {i j:Nat} (h:i < j) (hj:j < 26):nm c i ≠ nm c j:=by
 intro e
 have e:=congrArg (λz:Str=>z.cps.toList) e
 simp only [nm,gq,lM] at e
 have e:=List.append_cancel_left e
 have e:=(List.cons.inj e).1
 have h1:=fm (a:=(nmP c).getD 2 0 + (i:Int)) (b:=26) (by decide)
 have h2:=fm (a:=(nmP c).getD 2 0 + (j:Int)) (b:=26) (by decide)
 have e1:((nmP c).getD 2 0 + (i:Int)).fmod 26=((nmP c).getD 2 0 + (j:Int)).fmod 26:=by omega
 have d1:=Int.mul_fdiv_add_fmod ((nmP c).getD 2 0 + (i:Int)) 26
 have d2:=Int.mul_fdiv_add_fmod ((nmP c).getD 2 0 + (j:Int)) 26
 omega
noncomputable def gO (ds:List D) (r:Sl):Prop:=∃ (c:Int) (m:Nat),ds=[.int c,.int m]/\m<=26/\r=.o ((List.range m).map λk=>.str (nm c k))
section
variable {P:Program} {w:World} {K:PySem.W.Frag} {mg:Str->Option Value} {base:Heap} {k:Nat} {f:Addr} {fd:FuncData} {qual:Str}
theorem nX (F:Fun K "is_name" qual (top 69) f fd) (hb:∀ x ∈ aj,mg x=none) (y_LETTERS:∃ t,mg "LETTERS" = some (.str gP t)) (y_MOST_LETTERS:∃ t,mg "MOST_LETTERS" = some (.int 8 t)):aG P w K mg base CX0 (k + 1) f fd ["thing"] (spD K a4):=by
 refine fnD F m8 hb (by rintro _ _ ⟨_,rfl,_⟩; rfl) ?_
 rintro _ _ ⟨n,rfl,h,rfl⟩ cdv A outer s H E b
 have l1:=h.l1
 have l8:=h.l8
 have sl:(1000:Nat)<=sizeLine:=by decide
 have cl:(Tx.cs n).length=n.length:=Tx.wd _
 have clen:(gD n).length=(Tx.cs n).length:=by simp [gD,Tx.cs]
 have cat:∀ j (hj:j < (gD n).length),(gD n)[j]=.str ⟨#[(Tx.cs n).getD j 0]⟩:=λj hj=>by
   rw [clen] at hj
   simp [gD,Tx.cs] at hj ⊢
   simp [hj]
 have asc:n.cps.all (· < 128)=true:=by
   rw [Array.all_eq_true']
   intro c hc
   have:=h.az c (by simpa using hc)
   exact decide_eq_true (by omega)
 have tr:(List.range (Tx.cs n).length).map (λj=>decide ((Tx.cs n).getD j 0 ∈ gP.cps.toList))=List.replicate (Tx.cs n).length true:=by
   rw [List.eq_replicate_iff]
   refine ⟨by simp,λb hb=>?_⟩
   obtain ⟨j,hj,rfl⟩:=List.mem_map.mp hb
   have hj:=List.mem_range.mp hj
   have:=h.az ((Tx.cs n).getD j 0) (show (Tx.cs n).getD j 0 ∈ Tx.cs n by simp [hj])
   exact decide_eq_true (wz _ this.1 this.2)
 refine br (PW.pt (bO (aX (aZ (bY .str b (aa 0)))) λh=>(bQ (aX ((iy af (bC b (ae (aa 0) ag) (xO (by omega))) (kA y_MOST_LETTERS) l5 l5).2 rfl))))) (by rw [decide_eq_true (show (1:Int)<=n.length by omega),decide_eq_true (show (n.length:Int)<=8 by omega)]; rfl) ?_
 refine aJ (bC b (ae (bA (cH (cmp 0 (g:=λj=>.str ⟨#[(Tx.cs n).getD j 0]⟩) (f:=λj=>.bl (decide ((Tx.cs n).getD j 0 ∈ gP.cps.toList))) b (xM (aa 0) asc) cat (by rw [clen,cl]; omega) λj hj s0 H0 fp=>cu (aa 0) (Ak y_LETTERS) zh))) ag) (j5 b.calm ((List.range (Tx.cs n).length).map λj=>decide ((Tx.cs n).getD j 0 ∈ gP.cps.toList)) (by rw [clen,List.map_map]; rfl))) ?_
 rw [tr]
 simp
theorem nQ (F:Fun K "_law_names" qual (top 90) f fd) (hb:∀ x ∈ aj,mg x=none) (c_l_numbers:Cal P w K mg base k "_law_numbers" bo):aG P w K mg base CX0 (k + 1) f fd ["_law_cell_here","_law_many"] (spD K gO):=by
 refine fnD F jg hb (by rintro _ _ ⟨_,_,rfl,_⟩; rfl) ?_
 rintro _ _ ⟨c,m,rfl,hm,rfl⟩ cdv A outer s H E b
 have nd:=jg.nd
 have hp:=zz c
 have hl:(nmP c).length=3:=eD ..
 have sl:(1000:Nat)<=sizeLine:=by decide
 have a0:atI ((nmP c).map D.int) 0=some (.int ((nmP c).getD 0 0)):=bf (by decide) (by rw [hl]; decide)
 have a1:atI ((nmP c).map D.int) 1=some (.int ((nmP c).getD 1 0)):=bf (by decide) (by rw [hl]; decide)
 have a2:atI ((nmP c).map D.int) 2=some (.int ((nmP c).getD 2 0)):=bf (by decide) (by rw [hl]; decide)
 have lz:gP.length<=sizeLine:=Nat.le_trans (by decide) sl
 refine aI 2 nd (bD (s:=gP)) ?_
 refine aI 3 nd (x_call b c_l_numbers (ae (aa 0) (ae (bA (cA (ae af (ae (aB af af (vH (by unfold L2.r6; decide))) (ae af ag))))) ag)) ⟨c,[8,8031810176,26],rfl,by decide,λb hb=>qH (by simp at hb; omega) (by simp at hb; omega),rfl⟩) (iU 3 ?_)
 refine aI 4 nd bD ?_
 refine aI 5 nd (ay (aa 3) af (aU a1)) ?_
 refine fA 6 (λi τ=>∃ s6,τ=[.d (.int c),.d (.int m),.d (.str gP),.d (.lst ((nmP c).map .int)),.d (.str (nmB c i)),.d (.int (nmR c i)),s6]) b nd (cW b (ay (aa 3) af (aU a0)) (by omega) (by omega)) cU ⟨_,rfl⟩ (λi hi τ h=>?_) λτ h=>?_
 · obtain ⟨s6,rfl⟩:=h
   rw [aD] at hi
   refine aI 4 nd (aB (aa 4) (ay (aa 2) (aB (aa 5) af (bV (by decide))) (vD lz (rM _))) (sJ ?_)) ?_
   · rw [iD]; show i + 1<=sizeLine; omega
   refine aI 5 nd (aB (aa 5) af (bg (mkD (by decide) (by decide)))) (aV ⟨_,rfl⟩)
 · obtain ⟨s6,rfl⟩:=h
   rw [aD]
   refine aJ (cH (cmp 0 (f:=λk=>.str (nm c k)) b (cW b (aa 1) (by omega) (by omega)) cU (by rw [aD]; omega) λi hi s0 H0 fp=>(aB (aa 1) (ay (aa 2) (aB (aB (ay (aa 3) af (aU a2)) (aa 0) bc) af (bV (by decide))) (vD lz (rM _))) (sJ ?_)))) ?_
   · rw [iD]; show _ + 1<=sizeLine; omega
   · rw [aD]; simp
end
end K66
namespace Hy
open PySem PySem.Spec PyProof.Rows L2
open Ev (D Den ax au)
section
variable {X:Cx} {C:Bool} {τ τ':List Sl} {k1 k2 k3 v1 v2 v3 e f tg:Expr} {z1 z2 z3 n:Str} {i1 i2 i3 x:Int} {dp apos cpos:Pos} {y:D}
theorem yc (hu:X.A.units + 1 < cLine) (a1:PE X k1 (dE X.K C τ (.d (.str z1)))) (b1:PE X v1 (dE X.K C τ (.d (.int i1)))) (a2:PE X k2 (dE X.K C τ (.d (.str z2)))) (b2:PE X v2 (dE X.K C τ (.d (.int i2)))) (a3:PE X k3 (dE X.K C τ (.d (.str z3)))) (b3:PE X v3 (dE X.K C τ (.d (.int i3))))
   (he:PE X e (dE X.K C τ (.d (.str n)))) (hf:PE X f (dE X.K C τ (.d (.int x)))) (m2:M2 X (.Dict [some k1,some k2,some k3] [v1,v2,v3] dp) "get" apos e f cpos:=by exact ⟨rfl,rfl,rfl,rfl⟩) :
   PE X (.Call (.Attribute (.Dict [some k1,some k2,some k3] [v1,v2,v3] dp) "get" apos) [e,f] [] cpos) (dE X.K C τ (.d (.int (if n=z3 then i3 else if n=z2 then i2 else if n=z1 then i1 else x)))):=
 peW (rf hu (uE (jr a1 b1 (jr a2 b2 (jr a3 b3 uZ))) rfl rfl (by simp) (by simp)) he hf m2) λσ H Q q=>by
   obtain ⟨A,H₀,B,S,kk⟩:=cO q
   intro p hp
   have E0:ak H (upd H p (.dK [])):=au hp _
   refine aH (S.mono E0) λ_ H1 e1 d1=>?_
   cases d1
   refine aH (S.mono (E0.trans e1)) λ_ H2 e2 d2=>?_
   cases d2
   refine aH (S.mono (E0.trans (e1.trans e2))) λ_ H3 e3 d3=>?_
   cases d3
   refine aH (S.mono (E0.trans (e1.trans (e2.trans e3)))) λ_ H4 e4 d4=>?_
   cases d4
   refine aH (S.mono (E0.trans (e1.trans (e2.trans (e3.trans e4))))) λ_ H5 e5 d5=>?_
   cases d5
   refine aH (S.mono (E0.trans (e1.trans (e2.trans (e3.trans (e4.trans e5)))))) λ_ H6 e6 d6=>?_
   cases d6
   have E6:ak (upd H p (.dK [])) H6:=e1.trans (e2.trans (e3.trans (e4.trans (e5.trans e6))))
   refine ⟨E6 _ _ aA,[(.inr z1,.int i1),(.inr z2,.int i2),(.inr z3,.int i3)],rfl,(show 3<=15 by decide),p,rfl,⟨_,.inl aA⟩,?_⟩
   have E7:ak H (upd H6 p (.dK (fO [] [(.inr z1,.int i1),(.inr z2,.int i2),(.inr z3,.int i3)]))):=λb o z=>by
     have ne:b ≠ p:=λw=>by rw [w,hp] at z; cases z
     rw [aq ne]
     exact E6 _ _ (E0 _ _ z)
   refine aH (S.mono E7) λ_ H8 e8 d8=>?_
   cases d8
   refine aH (S.mono (E7.trans e8)) λ_ H9 e9 d9=>?_
   cases d9
   refine ⟨_,dU.k (k:=.inr n) (e9 _ _ (e8 _ _ aA)),?_⟩
   have ev:(b8 (fO [] [(.inr z1,.int i1),(.inr z2,.int i2),(.inr z3,.int i3)]) (.inr n:Key)).getD (.int x)=.int (if n=z3 then i3 else if n=z2 then i2 else if n=z1 then i1 else x):=by
     show (b8 (putK (putK (putK [] (.inr z1) (.int i1)) (.inr z2) (.int i2)) (.inr z3) (.int i3)) (.inr n:Key)).getD (.int x)=_
     rw [je,je,je]
     by_cases h3:n=z3
     · rw [if_pos (congrArg _ h3),if_pos h3]; rfl
     · rw [if_neg (λz=>h3 (Sum.inr.inj z)),if_neg h3]
       by_cases h2:n=z2
       · rw [if_pos (congrArg _ h2),if_pos h2]; rfl
       · rw [if_neg (λz=>h2 (Sum.inr.inj z)),if_neg h2]
         by_cases h1:n=z1
         · rw [if_pos (congrArg _ h1),if_pos h1]; rfl
         · rw [if_neg (λz=>h1 (Sum.inr.inj z)),if_neg h1]; rfl
   rw [ev]
   exact kk _ H9 (E7.trans (e8.trans e9)) .int
theorem vG {C':Bool} (h:PE X e (dE X.K C' τ (.d y))) (f:flat y=true:=by rfl):PE X e (dE X.K C τ (.d y)):=peW h λσ H Q q=>by
 obtain ⟨A,H₀,B,S,k⟩:=cO q
 exact aH S λv H' e d=>k v H' e (sA d f)
end
end Hy
namespace Hx
open PySem PySem.Spec PyProof.Rows
section
variable {M:Model} {A:Around} {E:Value->Shared->Prop} {s:Shared}
end
end Hx
namespace Hx
open PySem PySem.Spec PySem.Calls PyProof.Rows PySem.W
section
variable {prog:Program} {w:World} {A:Around} {E:Value->Shared->Prop} {s:Shared} {K:Frag} {x D:Addr} {ox:Obj}
end
end Hx
namespace Hx
open PySem PySem.Spec PySem.Calls PyProof.Rows PySem.W L2
section
variable {X:Cx} {x:Str} {C S:Addr} {np cpos pos:Pos} {e:Expr} {es:List Expr} {t:TA}
end
section
variable {fs fs' ch:List Addr} {H H1:Hp} {h h1 h2:Heap} {old:Addr->Prop} {P:Program} {w:World} {a:Addr}
end
theorem there {P:Program} {w:World} {H:Hp} {h:Heap} {a:Addr} {o:HO} (x:bG P w H h a o):∃ u,h.get? a=some u:=by
 cases o with
 | lst xs=>obtain ⟨_,_,_,_,e⟩:=x; exact ⟨_,e⟩
 | tup xs=>obtain ⟨_,_,_,o,e,_⟩:=x; exact ⟨_,e⟩
 | dK kvs=>obtain ⟨_,_,_,_,o,_,_,e,_⟩:=x; exact ⟨_,e⟩
 | dT kvs=>obtain ⟨_,_,_,_,o,_,_,e,_⟩:=x; exact ⟨_,e⟩
 | set S n=>obtain ⟨o,_,_,_,e,_⟩:=x; exact ⟨_,e⟩
 | ins C dx fs=>obtain ⟨_,_,_,e,_⟩:=x; exact ⟨_,e⟩
 | own y=>exact x
 | xd fs=>obtain ⟨_,⟨o,_,_,e,_⟩,_⟩:=x; exact ⟨_,e⟩
 | met f y=>exact ⟨_,x⟩
 | rng lo hi=>obtain ⟨_,_,_,e⟩:=x; exact ⟨_,e⟩
 | frz o u=>exact ⟨_,x.1⟩
 | tbl ps=>exact ⟨_,x⟩
 | ext φ=>exact x.2.1
section
variable {P:Program} {w:World} {K:Frag} {mg:Str->Option Value} {base:Heap} {N:List Str} {qual:Str} {scope:Scope} {f:Addr} {cd:Value} {A:Around} {outer:List Env} {s0:Shared} {H0:Hp} {E:XK} {cl:Nat->Addr}
end
section
variable {X:Cx} {pins:List (Addr × Obj)} {σ:L2.St} {H:Hp} {s:Shared} {a:Addr}
end
section
variable {X:Cx} {cl:Nat->Addr} {ks:List Nat} {n sm:Str} {i:Nat} {S:Addr} {ret:Expr} {psm pr ph pos:Pos} {body:List Stmt} {tb:(Nat->Hp->Prop)->TS} {tr:Addr->Obj->TE}
end
end Hx
namespace Hy
open PySem PySem.Spec PyProof.Rows L2
open Ev (D Den ax au)
section
variable {X:Cx} {C:Bool} {τ:List Sl} {x y z:D} {a b e:Expr} {es:List Expr} {pos p np cpos:Pos} {k c:Nat} {s:Sl} {ds:List D} {N:Po} {rest body:List Stmt} {cl:Nat->Addr} {Ex:Nat->Hp->Prop} {Et:Hp->Prop}
end
section
variable {P:Program} {w:World} {K:PySem.W.Frag} {mg:Str->Option Value} {base:Heap} {cl:Nat->Addr}
end
section
variable {X:Cx} {C:Bool} {τ:List Sl} {e:Expr} {k c i:Nat} {N:Po} {rest body:List Stmt} {cl:Nat->Addr} {n:Str} {fw S:Addr} {p p' q psm pr ph pos:Pos}
end
end Hy
namespace Hx
open PySem PySem.Spec PyProof.Rows L2
section
variable {X:Cx} {body:List Stmt} {h0:ExceptHandler} {hs:List ExceptHandler} {pos:Pos} {t:TS}
end
end Hx
namespace Hy
open PySem PySem.Spec PyProof.Rows L2
end Hy
namespace Hy
open PySem PySem.Spec PyProof.Rows L2
open Ev (D Den ax au aR aF)
section
variable {X:Cx} {C:Bool} {τ:List Sl} {a b e e1 e2 e3 o:Expr} {pos p p2 tp:Pos} {k:Nat} {x x1 x2 x3:D} {N:Po} {rest:List Stmt}
theorem zr {lo hi:Option Expr} {l u:Option Int} {xs:List D} (ha:PE X a (dE X.K C τ (.d (.tup xs)))) (hl:PO X lo (dO X.K τ l)) (hu:PO X hi (dO X.K τ u)) (hw:¬ (HT.sIx xs.length 0 l=0/\HT.sIx xs.length xs.length u=xs.length)):PE X (.Subscript a (.Slice lo hi none p2) pos) (dE X.K C τ (.d (.tup (cutD xs l u)))):=
 peW (mx yd ha hl hu) λσ H Q q=>by
   obtain ⟨A,H₀,B,S,k⟩:=cO q
   exact aH S λv H1 e1 d1=>⟨A,H₀,B,S.mono e1,λH2 e2=>⟨A,H₀,B,(S.mono e1).mono e2,λH3 e3=>by
     cases d1 with
     | @tup _ ws _ h r=>
       have h:=aR (e2.trans e3) (aR aN h)
       have r:=r.mono (av (e2.trans e3) λ_ z=>z)
       refine ⟨_,_,rfl,h,by rw [r.length]; exact hw,λp hp=>?_⟩
       have r':ax X.K (hd H3 (vw C A B)) (js ws l u) (cutD xs l u):=by
         unfold js cutD
         rw [r.length]
         exact (r.drop _).take _
       have hM:=(((S.mono e1).mono e2).mono e3).vd (C:=C)
       have e4:=au hp (.tup (js ws l u))
       exact k _ _ ((e1.trans (e2.trans e3)).trans e4) (.tup (SqT.of (kI hM hp)) (r'.mono (av e4 λ_ z=>z)))⟩⟩
end
end Hy
namespace K66
open PySem PySem.Spec PyProof.Rows L2 Hy
open Ev (D Den ax aM aK)
noncomputable def cM (ds:List D) (r:Sl):Prop:=∃ q:Rat,ds=[frD q]/\0<=q.num/\r=.d (.bl true)
noncomputable def eQ (ds:List D) (r:Sl):Prop:=∃ (T:Nat) (s:Stp),ds=[stD s,.int T]/\okS T s/\r=.d (.bl true)
noncomputable def cI (ds:List D) (r:Sl):Prop:=∃ (T R C:Nat) (ss:List Stp),ds=[aS T R C ss,.int R,.int C]/\okL T R C ss/\r=.d (.bl true)
section
variable {P:Program} {w:World} {K:PySem.W.Frag} {mg:Str->Option Value} {base:Heap} {k:Nat} {f:Addr} {fd:FuncData} {qual:Str}
theorem iV (F:Fun K "_law_is_weight" qual (top 91) f fd) (hb:∀ x ∈ aj,mg x=none) (c_l_whole:Cal P w K mg base k "_law_whole" cY) (c_l_divisor:Cal P w K mg base k "_law_divisor" cB):aG P w K mg base CX0 (k + 1) f fd ["_law_thing"] (spD K cM):=by
 refine fnD F jm hb (by rintro _ _ ⟨_,rfl,_⟩; rfl) ?_
 rintro _ _ ⟨q,rfl,h0,rfl⟩ cdv A outer s H E b
 have dp:=den_pos q
 have g1:Int.gcd q.num (q.den:Nat)=1:=by have:=q.reduced; rwa [Int.gcd,Int.natAbs_natCast]
 refine br (PW.pt (bO (aX (aZ (bY .tuple b (aa 0)))) λh=>(bO (aY (bC b (ae (aa 0) ag) gL) af lH) λh=>(bO (aX (aZ (x_call b c_l_whole (ae (ay (aa 0) af (aw (ai (i:=0) rfl))) ag) ⟨_,rfl,rfl⟩))) λh=>(bQ (aX (aZ (x_call b c_l_whole (ae (ay (aa 0) af (aw (ai (i:=1) rfl))) ag) ⟨_,rfl,rfl⟩)))))))) rfl ?_
 refine aJ (eG (cu (ay (aa 0) af (aw (ai (i:=0) rfl))) af qX) λh=>(eG (cu (ay (aa 0) af (aw (ai (i:=1) rfl))) af qX) λh=>(gp (cu (x_call b c_l_divisor (ae (ay (aa 0) af (aw (ai (i:=0) rfl))) (ae (ay (aa 0) af (aw (ai (i:=1) rfl))) ag)) ⟨_,_,rfl,rfl⟩) af jo)))) ?_
 rw [g1,decide_eq_true h0,decide_eq_true (show (1:Int)<=(q.den:Nat) by omega)]
 rfl
theorem kB (F:Fun K "_law_is_step" qual (top 92) f fd) (hb:∀ x ∈ aj,mg x=none) (c_l_whole:Cal P w K mg base k "_law_whole" cY) (c_l_is_weight:Cal P w K mg base k "_law_is_weight" cM):aG P w K mg base CX0 (k + 1) f fd ["_law_thing","_law_tracks"] (spD K eQ):=by
 refine fnD F gr hb (by rintro _ _ ⟨_,_,rfl,_⟩; rfl) ?_
 rintro _ _ ⟨T,⟨u,n,q⟩,rfl,⟨h0,h1⟩,rfl⟩ cdv A outer s H E b
 have nd:=gr.nd
 refine br (PW.pt (bO (aX (aZ (bY .tuple b (aa 0)))) λh=>(bO (aY (bC b (ae (aa 0) ag) gL) af lH) λh=>(bO (aX (aZ (bY .str b (ay (aa 0) af (aw (ai (i:=0) rfl)))))) λh=>(bQ (aX (aZ (x_call b c_l_whole (ae (ay (aa 0) af (aw (ai (i:=1) rfl))) ag) ⟨_,rfl,rfl⟩)))))))) rfl ?_
 refine aI 2 nd (yc (by have:=b.room.units; omega) bD (aa 1) bD (aB (aa 1) af dM) bD (aB (aa 1) af dM) (ay (aa 0) af (aw (ai (i:=0) rfl))) af) ?_
 refine aJ (eG (iy af (ay (aa 0) af (aw (ai (i:=1) rfl))) (aa 2) l5 sZ).1 λh=>(gp (x_call b c_l_is_weight (ae (ay (aa 0) af (aw (ai (i:=2) rfl))) ag) ⟨q,rfl,h0,rfl⟩))) ?_
 have el:(decide ((0:Int)<=(n:Nat)) && decide (((n:Nat):Int) < (if u = "up" then (T:Int) - 1 else if u = "down" then (T:Int) - 1 else if u = "weigh" then (T:Int) else 0)))=true:=by
   rw [decide_eq_true (by omega),Bool.true_and]
   refine decide_eq_true ?_
   have h1:(u = "weigh" /\ n < T)\/((u = "down" \/ u = "up")/\n + 1 < T):=h1
   rcases h1 with ⟨rfl,h⟩ | ⟨rfl | rfl,h⟩
   · rw [if_neg (by decide),if_neg (by decide),if_pos rfl]; omega
   · rw [if_neg (by decide),if_pos rfl]; omega
   · rw [if_pos rfl]; omega
 rw [el]
 rfl
set_option maxHeartbeats 1000000 in
theorem iL (F:Fun K "_law_is_ladder" qual (top 93) f fd) (hb:∀ x ∈ aj,mg x=none) (c_l_is_step:Cal P w K mg base k "_law_is_step" eQ) (c_l_whole:Cal P w K mg base k "_law_whole" cY):aG P w K mg base CX0 (k + 1) f fd ["_law_found","_law_rows","_law_columns"] (spD K cI):=by
 refine fnD F eM hb (by rintro _ _ ⟨_,_,_,_,rfl,_⟩; rfl) ?_
 rintro _ _ ⟨T,R,C,ss,rfl,ok,rfl⟩ cdv A' outer s H E b
 have nd:=eM.nd
 have hl:=ok.len
 have t7:=ok.t7
 have rT:=ok.rT
 have cT:=ok.cT
 have e3:cutD [D.int T,.int R,.int C,.lst (ss.map stD)] none (some 3)=[.int T,.int R,.int C]:=rfl
 have sl3:∀ {X:Cx} {τ:List Sl} {e:Expr} {l2:Expr} {C':Bool} {p2 pos:Pos},PE X e (dE X.K C' τ (.d (aS T R C ss)))->PO X (some l2) (dO X.K τ (some 3))->PE X (.Subscript e (.Slice none (some l2) none p2) pos) (dE X.K C' τ (.d (.tup [.int T,.int R,.int C]))):=λ{X τ e l2 C' p2 pos} h u=>by
   have:=zr (pos:=pos) (p2:=p2) h mX u (λz=>by have:=z.2; simp [HT.sIx] at this)
   rw [e3] at this
   exact this
 refine br (PW.pt (bO (aX (aZ (bY .tuple b (aa 0)))) λh=>(bO (aY (bC b (ae (aa 0) ag) gL) af lH) λh=>(bQ (aX (aZ (bC b (ae (bA (cH (cmp 0 (g:=λi=>.int ((([(T:Int),(R:Int),(C:Int)]).getD i 0))) (f:=λi=>.bl true) b (yQ (sl3 (aa 0) (jj af))) (λi h=>by match i,h with | 0,_=>rfl | 1,_=>rfl | 2,_=>rfl) (by simp) λi hi s0 H0 fp=>(x_call (b.comp s0 H0 _ fp) c_l_whole (ae (aa 0) ag) ⟨_,rfl,rfl⟩)))) ag) (j5 b.calm [true,true,true] rfl)))))))) rfl ?_
 refine br (PW.pt (bO (aX ((iy (bC b (ae (aa 1) (ae (aa 2) ag)) (vM b.calm)) (ay (aa 0) af (aw (ai (i:=0) rfl))) af l5 l5).2 rfl)) λh=>(bO (aY (ay (aa 0) af (aw (ai (i:=1) rfl))) (aa 1) lH) λh=>(bQ (aY (ay (aa 0) af (aw (ai (i:=2) rfl))) (aa 2) lH))))) ?_ ?_
 · rw [decide_eq_true (show (if (C:Int) > (R:Int) then (C:Int) else (R:Int))<=(T:Int) by split <;> omega),decide_eq_true (show (T:Int)<=7 by omega)]
   simp
 refine br (PW.pt (bO (aX (aZ (bY .list b (ay (aa 0) af (aw (ai (i:=3) rfl)))))) λh=>(bQ (aY (bC b (ae (ay (aa 0) af (aw (ai (i:=3) rfl))) ag) (mZ (n:=ss.length) (by rw [List.length_map]))) af vy)))) (by rw [decide_eq_false (by omega)]; rfl) ?_
 refine aJ (bC b (ae (bA (cH (cmp 0 (g:=λi=>stD (ss.getD i ("weigh",0,0))) (f:=λi=>.bl true) b (bL (ay (aa 0) af (aw (ai (i:=3) rfl)))) wA (by rw [List.length_map]; omega) λi hi s0 H0 fp=>(x_call (b.comp s0 H0 _ fp) c_l_is_step (ae (aa 0) (ae (ay (aa 1) af (aw (ai (i:=0) rfl))) ag)) ⟨T,_,rfl,ok.st i (by simpa using hi),rfl⟩)))) ag) (j5 b.calm (List.replicate ss.length true) (by rw [List.map_replicate,List.length_map]; exact (List.map_const' ..).trans (by rw [List.length_range])))) ?_
 simp
end
end K66
namespace Hy
open PySem PySem.Spec PyProof.Rows L2
open Ev (D Den ax au aR aF)
section
variable {X:Cx} {C:Bool} {τ:List Sl} {x y z:D} {a b e o ix:Expr} {es:List Expr} {pos p q:Pos} {k:Nat} {s:Sl} {N:Po} {rest:List Stmt} {i j:Nat} {t c:Nd} {pt:List Nat} {xs:List Nd} {m:Nat}
end
end Hy
namespace Hy
open PySem PySem.Spec PyProof.Rows L2
open Ev (D Den ax)
noncomputable def wq (P:Program) (w:World) (K:PySem.W.Frag) (mg:Str->Option Value) (base:Heap) (k:Nat) (n:Str) (sp:Sp):Prop:=
 ∃ f fd ps,aG P w K mg base CX0 k f fd ps sp/\mg n=some (.ref f)/\PySem.W.keepIn K (.ref f)=true/\Binds K fd ps []
section
variable {K:PySem.W.Frag} {A:Addr->Prop} {H₀ H H':Hp} {τ:List Sl} {B:Nat->List Addr} {σ:L2.St}
end
section
variable {X:Cx} {τ:List Sl} {x y z:D} {a b e c:Expr} {es:List Expr} {pos p q:Pos} {k:Nat} {s:Sl} {ds:List D} {N:Po} {rest body:List Stmt}
end
section
variable {P:Program} {w:World} {K:PySem.W.Frag} {mg:Str->Option Value} {base:Heap}
end
section
variable {X:Cx} {τ:List Sl} {es:List Expr} {pos p q pr:Pos} {k:Nat} {s:Sl} {ds:List D} {N:Po} {rest:List Stmt}
end
end Hy
namespace Hy
open PySem PySem.Spec PyProof.Rows L2
open Ev (D Den ax au aR aF)
noncomputable def Pj (σ:L2.St) (H:Hp) (i j k:Nat):Prop:=∃ a vs v,(σ[i]?).join=some (.ref a)/\H a=some (.lst vs)/\vs[k]?=some v/\σ[j]?=some (some v)
noncomputable def dEJ (K:PySem.W.Frag) (τ:List Sl) (i j k:Nat) (x:D):TE:=λσ H Q=>∃ A H₀ B,Sta K A H₀ τ B σ H/\Pj σ H i j k/\∀ v H',ak H H'->Den K (hd H' A) v x->Q v H'
section
variable {X:Cx} {τ τ1 τ2:List Sl} {x y z:D} {a b e o ix:Expr} {es:List Expr} {pos p q:Pos} {l:Nat} {s:Sl} {N:Po} {st:Stmt} {body rest:List Stmt} {i j k:Nat} {t c:Nd} {pt:List Nat} {xs:List Nd} {m:Nat} {ds:List D}
end
section
variable {X:Cx} {τ τ1 τ2:List Sl} {x y z:D} {a b e o ix:Expr} {es:List Expr} {pos p q:Pos} {l:Nat} {s:Sl} {N:Po} {st:Stmt} {body rest:List Stmt} {i j k:Nat} {t c:Nd} {pt:List Nat} {xs:List Nd} {m:Nat} {ds:List D}
theorem ej (h:PE X e (dE X.K false τ (.d x))):PE X e (dEJ X.K τ i j k x):=peW h λσ H Q ⟨A,H₀,B,S,_,q⟩=>aH S λv H' e d=>q v H' e d
end
section
variable {X:Cx} {τ τ1 τ2:List Sl} {x y z:D} {a b e o ix:Expr} {pos p q:Pos} {l:Nat} {N:Po} {st:Stmt} {body rest:List Stmt} {i j k:Nat} {t c:Nd} {pt:List Nat} {ds:List D}
end
section
variable {K:PySem.W.Frag} {G H:Hp}
end
section
variable {X:Cx} {τ:List Sl} {ia ia2 ib ib2:Expr} {N:Po} {rest:List Stmt} {xs:List Nd} {xa xb:Nd}
end
section
variable {X:Cx} {τ:List Sl} {e2:Expr} {N:Po} {rest:List Stmt} {pos p tp:Pos} {x2:D} {t:Nd}
end
section
variable {P:Program} {w:World} {K:PySem.W.Frag} {mg:Str->Option Value} {base:Heap}
end
section
variable {X:Cx} {τ:List Sl} {es:List Expr} {pos p q pr:Pos} {k:Nat} {s:Sl} {ds:List D} {N:Po} {rest:List Stmt}
end
end Hy
namespace L2
open PySem PySem.Spec PyProof.Rows
theorem km (b:List Stmt) (env:Env):∀ a:List Stmt,execs (a++b) env=(do match <- execs a env with | .next=>execs b env | f=>pure f)
 | []=>by
   rw [List.nil_append,execs]
   exact (pure_bind _ _).symm
 | st :: a=>by
   rw [List.cons_append,execs,execs,bind_assoc]
   refine bind_congr λf=>?_
   cases f with
   | next=>exact km b env a
   | ret v=>exact (pure_bind _ _).symm
   | brk=>exact (pure_bind _ _).symm
   | cont=>exact (pure_bind _ _).symm
theorem vc {X:Cx} {a b:List Stmt} {t u:TS} (h1:PSs X a t) (h2:PSs X b u):PSs X (a++b) (zF t u):=by
 intro pins s σ H D I h
 rw [km]
 refine wpAny_bind (thn (h1 pins s σ H { D with nx:=u D } I h) λf s1 q=>?_)
 cases f with
 | next=>
   obtain ⟨σ',H',I',q⟩:=q
   exact h2 pins s1 σ' H' D I' q
 | ret v=>exact wpAny_pure q
 | brk=>exact wpAny_pure q
 | cont=>exact wpAny_pure q
end L2
namespace Hy
open PySem PySem.Spec PyProof.Rows L2
open Ev (D Den ax au aR aF aE dR cD PTs bT cP)
section
variable {P:Program} {w:World} {K:PySem.W.Frag} {mg:Str->Option Value} {base:Heap}
end
section
variable {X:Cx} {τ:List Sl} {es:List Expr} {pos p q pr:Pos} {k:Nat} {s:Sl} {ds xs:List D} {N:Po} {rest:List Stmt} {elt it:Expr} {scope:Scope}
end
end Hy
namespace Hy
open PySem PySem.Spec PyProof.Rows L2
open Ev (D Den ax)
noncomputable def nV (bs:List Addr) (H H':Hp):Prop:=∀ b o,b ∉ bs->H b=some o->H' b=some o
theorem nV.hd {H H':Hp} {bs:List Addr} {M:Addr->Prop} (e:nV bs H H') (h:∀ b ∈ bs,M b):ak (Hy.hd H M) (Hy.hd H' M):=λb o z=>by
 obtain ⟨z1,z2⟩:=ao.mp z
 exact ao.mpr ⟨z1,e b o (λy=>z1 (h b y)) z2⟩
noncomputable def qQ (M:Addr->Prop) (H:Hp) (bs:List Addr):Prop:=(∀ b ∈ bs,M b)/\∀ b,M b->∃ o,H b=some o
theorem qQ.but {M:Addr->Prop} {H H':Hp} {bs:List Addr} (h:qQ M H bs) (e:nV bs H H') (hd:∀ b ∈ bs,∃ o,H' b=some o):qQ M H' bs:=⟨h.1,λb z=>by
 by_cases q:b ∈ bs
 · exact hd b q
 · obtain ⟨o,y⟩:=h.2 b z
   exact ⟨o,e b o q y⟩⟩
section
variable {K:PySem.W.Frag} {A:Addr->Prop} {H₀ H H':Hp} {τ:List Sl} {B:Nat->List Addr} {σ:L2.St}
theorem Sta.qx (S:Sta K A H₀ τ B σ H) (i:Nat):qQ (own A B) H (B i):=⟨λ_ hb=>.inr ⟨i,hb⟩,S.dm⟩
theorem Sta.uL (S:Sta K A H₀ τ B σ H) {i:Nat} {W W':Wx} {u:V} (hi:τ[i]?=some (.w W)) (hu:(σ[i]?).join=some u) (e:nV (B i) H H') (d:W'.p K (hd H' (own A B)) H' u (B i)):Sta K A H₀ (τ.set i (.w W')) B σ H':=by
 have sm:ak (hd H (own A B)) (hd H' (own A B)):=e.hd (S.qx i).1
 obtain ⟨n0,u',e1,e2⟩:=S.sl i _ hi
 have ho:∀ b ∈ B i,∃ o,H' b=some o:=λb hb=>let ⟨o,z,_⟩:=W'.al d b hb; ⟨o,z⟩
 have hs:ak H₀ H':=λb o z=>e b o (λq=>by rw [S.fr i b q] at z; cases z) (S.same b o z)
 refine ⟨hs,by rw [List.length_set,S.len],λj t hj=>?_,S.fr,S.uq,S.ad,λj b hb=>((S.qx i).but e ho).2 b (.inr ⟨j,hb⟩)⟩
 by_cases ej:j=i
 · subst ej
   have hl:=(List.getElem?_eq_some_iff.mp hi).1
   rw [List.getElem?_set_self hl] at hj
   cases hj
   exact ⟨n0,u,hu,d⟩
 · rw [List.getElem?_set_ne (λz=>ej z.symm)] at hj
   have ne:∀ b ∈ B j,H' b=H b:=λb hb=>by
     obtain ⟨o,q⟩:=S.bd j b hb
     rw [q]
     exact e b o (λz=>ej (S.uq j i b hb z)) q
   exact (S.sl j t hj).frame sm ne
end
noncomputable def bU (P:Program) (w:World) (K:PySem.W.Frag) (mg:Str->Option Value) (base:Heap) (k:Nat) (C:Addr) (m:Str) (sp:Sp):Prop:=
 ∃ f fd ps,aG P w K mg base CX0 k f fd ps sp/\Meth K C m f/\Binds K fd ps []
noncomputable def vh (K:PySem.W.Frag) (C:Addr) (m:Str) (W:Wx):Prop:=∀ {G H:Hp} {u:V} {bs:List Addr},W.p K G H u bs->∃ a dx fs,u=.ref a/\H a=some (.ins C dx fs)/\fs.lookup m=none
noncomputable def fJ (R:V->List Addr->Prop) (W:Wx):Wx where
 p:=λK G H v cs=>R v cs/\W.p K G H v cs
 fr:=λg e ⟨h1,h3⟩=>⟨h1,W.fr g e h3⟩
 al:=λ⟨_,h⟩=>W.al h
noncomputable def pf (W:Wx) (u:V) (bs:List Addr) (Hf:Hp):Wx where
 p:=λK G H v cs=>v=u/\cs=bs/\(∀ b ∈ bs,H b=Hf b)/\W.p K G H v cs
 fr:=λg e ⟨h1,h2,h3,h4⟩=>⟨h1,h2,λb hb=>by rw [<- h3 b hb]; exact e b (by rw [h2]; exact hb),W.fr g e h4⟩
 al:=λ⟨_,_,_,h⟩=>W.al h
noncomputable def LeW (W' W:Wx):Prop:=∀ {K:PySem.W.Frag} {G H:Hp} {u:V} {bs:List Addr},W'.p K G H u bs->W.p K G H u bs
theorem LeW.res (R:V->List Addr->Prop) (W:Wx):LeW (fJ R W) W:=λh=>h.2
theorem LeW.keep (W:Wx) (u:V) (bs:List Addr) (Hf:Hp):LeW (pf W u bs Hf) W:=λh=>h.2.2.2
noncomputable def spW (K:PySem.W.Frag) (Φ:Wx->List D->Wx->Prop):Sp:=λvs H Q _=>∃ (M:Addr->Prop) (bs:List Addr) (u:V) (us:List V) (W:Wx) (ds:List D) (W':Wx),vs=u :: us/\qQ M H bs/\bs.Nodup/\W.p K (hd H M) H u bs/\ax K (hd H M) us ds/\Φ W ds W' /\
 ∀ H',nV bs H H'->W'.p K (hd H' M) H' u bs->Q .non H'
noncomputable def spV (K:PySem.W.Frag) (Φ:Wx->List D->Sl->Prop):Sp:=λvs H Q _=>∃ (M:Addr->Prop) (bs:List Addr) (u:V) (us:List V) (W:Wx) (ds:List D) (s:Sl),vs=u :: us/\qQ M H bs/\bs.Nodup/\W.p K (hd H M) H u bs/\ax K (hd H M) us ds/\Φ W ds s /\
 ∀ v H' cs,ak H H'->Fr H H' cs->bJ K (hd H' λb=>M b\/b ∈ cs) H' (some v) cs s->Q v H'
noncomputable def dN (K:PySem.W.Frag) (τ τ':List Sl):TE:=λσ H Q=>∃ A H₀ B,Sta K A H₀ τ B σ H/\∀ H',Sta K A H₀ τ' B σ H'->Q .non H'
section
variable {X:Cx} {τ τ':List Sl} {c e o:Expr} {es:List Expr} {pos p q pr apos:Pos} {k:Nat} {N:Po} {rest body:List Stmt} {ds:List D} {W W':Wx} {s:Sl} {R:V->List Addr->Prop}
theorem mU (i:Nat) {nk m:Str} {C:Addr} {Φ:Wx->List D->Wx->Prop} {pl:Sem Bool} (Bb:Bk X k) (hc:Cls X.K C) (cl:bU X.prog X.w X.K X.mg X.base k C m (spW X.K Φ)) (hW:vh X.K C m W) (hΦ:Φ W ds W') (hi:τ[i]?=some (.w (fJ R W))) (ha:PA X (e :: es) (dA X.K true τ ds)) (hNi:X.N[i]?=some nk:=by rfl)
   (hv:Vis X.env.scope nk:=by first | exact Or.inl rfl | exact Or.inr (Or.inl rfl) | exact Or.inr (Or.inr rfl)) (hd1:(nk == ("__debug__" : Str))=false:=by decide) (hcd:(nk == ("__classdict__" : Str))=false:=by decide)
   (hst:starEach (e :: es) X.env=(false,eval e X.env) :: starEach es X.env:=by rfl) (hpl:(backTo pos (starEach es X.env)).any (·.1)=false:=by rfl)
   (ht:eval (.Call (.Attribute (.Name nk q) m apos) (e :: es) [] pos) X.env=(do
     let ov <- eval (.Name nk q) X.env
     standAt apos.atName
     let (f,first) <- holding [ov] (getMethod ov m pl)
     callWith pos f first (backTo pos (starEach (e :: es) X.env)) (backToKw pos (keywordEach [] X.env))):=by rfl) :
   PE X (.Call (.Attribute (.Name nk q) m apos) (e :: es) [] pos) (dN X.K τ (τ.set i (.w (fJ R W')))):=by
 obtain ⟨f,fd,ps,F,hm,hb⟩:=cl
 refine peW (k9 (pl:=pl) (bh (i:=i) hNi hv hd1 hcd) hc hm F Bb.room hb .nil jX ha hst hpl ht) λσ H Q ⟨A,H₀,B,S,kk⟩=>?_
 obtain ⟨nd,u,h2,_,wp⟩:=S.sl i _ hi
 obtain ⟨a,dx,fs,rfl,ea,l⟩:=hW wp
 refine ⟨_,slot_of h2,a,dx,fs,rfl,ea,l,cF S λvs H1 e1 d1=>?_⟩
 have S1:=S.mono e1
 obtain ⟨nd1,u',g2,r1,wp1⟩:=S1.sl i _ hi
 rw [h2] at g2
 cases g2
 show spW X.K Φ (_ :: (_++[])) _ _ _
 rw [List.append_nil]
 exact ⟨own A B,B i,_,vs,W,ds,W',rfl,S1.qx i,nd1,wp1,d1,hΦ,λH' b1 w1=>kk H' (S1.uL hi h2 b1 ⟨r1,w1⟩)⟩
theorem eW (i:Nat) {nk m:Str} {C:Addr} {Φ:Wx->List D->Sl->Prop} {pl:Sem Bool} (Bb:Bk X k) (hc:Cls X.K C) (cl:bU X.prog X.w X.K X.mg X.base k C m (spV X.K Φ)) (hW:vh X.K C m W) (hΦ:Φ W ds s) (hi:τ[i]?=some (.w W')) (hle:LeW W' W) (ha:PA X (e :: es) (dA X.K true τ ds)) (hNi:X.N[i]?=some nk:=by rfl)
   (hv:Vis X.env.scope nk:=by first | exact Or.inl rfl | exact Or.inr (Or.inl rfl) | exact Or.inr (Or.inr rfl)) (hd1:(nk == ("__debug__" : Str))=false:=by decide) (hcd:(nk == ("__classdict__" : Str))=false:=by decide)
   (hst:starEach (e :: es) X.env=(false,eval e X.env) :: starEach es X.env:=by rfl) (hpl:(backTo pos (starEach es X.env)).any (·.1)=false:=by rfl)
   (ht:eval (.Call (.Attribute (.Name nk q) m apos) (e :: es) [] pos) X.env=(do
     let ov <- eval (.Name nk q) X.env
     standAt apos.atName
     let (f,first) <- holding [ov] (getMethod ov m pl)
     callWith pos f first (backTo pos (starEach (e :: es) X.env)) (backToKw pos (keywordEach [] X.env))):=by rfl) :
   PE X (.Call (.Attribute (.Name nk q) m apos) (e :: es) [] pos) (dE X.K true τ s):=by
 obtain ⟨f,fd,ps,F,hm,hb⟩:=cl
 refine peW (k9 (pl:=pl) (bh (i:=i) hNi hv hd1 hcd) hc hm F Bb.room hb .nil jX ha hst hpl ht) λσ H Q ⟨A,H₀,B,S,kk⟩=>?_
 obtain ⟨nd,u,h2,wp⟩:=S.sl i _ hi
 obtain ⟨a,dx,fs,rfl,ea,l⟩:=hW (hle wp)
 refine ⟨_,slot_of h2,a,dx,fs,rfl,ea,l,cF S λvs H1 e1 d1=>?_⟩
 have S1:=S.mono e1
 obtain ⟨nd1,u',g2,wp1⟩:=S1.sl i _ hi
 rw [h2] at g2
 cases g2
 show spV X.K Φ (_ :: (_++[])) _ _ _
 rw [List.append_nil]
 refine ⟨own A B,B i,_,vs,W,ds,s,rfl,S1.qx i,nd1,hle wp1,d1,hΦ,λv H' cs e2 fr z=>kk v H' cs (e1.trans e2) (λb hb=>⟨?_,(fr b hb).2⟩) z⟩
 have:=(fr b hb).1
 cases y:H b with
 | none=>rfl
 | some o=>rw [e1 b o y] at this; cases this
theorem xX (i:Nat) {nk f':Str} {Φ:Wx->List D->Sl->Prop} (Bb:Bk X k) (cl:wq X.prog X.w X.K X.mg X.base k f' (spV X.K Φ)) (hΦ:Φ W ds s) (hi:τ[i]?=some (.w W')) (hle:LeW W' W) (ha:PA X es (dA X.K true τ ds)) (hNi:X.N[i]?=some nk:=by rfl)
   (hv:Vis X.env.scope nk:=by first | exact Or.inl rfl | exact Or.inr (Or.inl rfl) | exact Or.inr (Or.inr rfl)) (hd1:(nk == ("__debug__" : Str))=false:=by decide) (hcd:(nk == ("__classdict__" : Str))=false:=by decide)
   (hg:Gl X f':=by rfl) (hdb:(f' == ("__debug__" : Str))=false:=by decide) (he:starEach (.Name nk q :: es) X.env=(false,eval (.Name nk q) X.env) :: starEach es X.env:=by rfl) (hpl:(backTo pos (starEach es X.env)).any (·.1)=false:=by rfl) :
   PE X (.Call (.Name f' p) (.Name nk q :: es) [] pos) (dE X.K true τ s):=by
 obtain ⟨f,fd,ps,F,hm,hk,hb⟩:=cl
 refine peW (oI F Bb.room hg hm hk hb .nil jX (bw (bh (i:=i) hNi hv hd1 hcd) ha he) hdb he hpl) λσ H Q ⟨A,H₀,B,S,kk⟩=>?_
 obtain ⟨nd,u,h2,wp⟩:=S.sl i _ hi
 refine ⟨_,slot_of h2,cF S λvs H1 e1 d1=>?_⟩
 have S1:=S.mono e1
 obtain ⟨nd1,u',g2,wp1⟩:=S1.sl i _ hi
 rw [h2] at g2
 cases g2
 show spV X.K Φ (_++[]) _ _ _
 rw [List.append_nil]
 refine ⟨own A B,B i,_,vs,W,ds,s,rfl,S1.qx i,nd1,hle wp1,d1,hΦ,λv H' cs e2 fr z=>kk v H' cs (e1.trans e2) (λb hb=>⟨?_,(fr b hb).2⟩) z⟩
 have:=(fr b hb).1
 cases y:H b with
 | none=>rfl
 | some o=>rw [e1 b o y] at this; cases this
theorem kL (h:PE X e (dN X.K τ τ')) (hr:PSs X rest (dS X.K τ' N)) (hs:swapsWith e none pr.line X.env=pure false:=by rfl):PSs X (.Expr e pr :: rest) (dS X.K τ N):=
 ba (M:=(·=τ')) (psW (da h hs) λD σ H ⟨A,H₀,B,S,Me⟩=>⟨A,H₀,B,S,λH' S'=>Me.nx _ _ _ _ rfl S'⟩) λ_ e=>e ▸ hr
end
section
variable {P:Program} {w:World} {K:PySem.W.Frag} {mg:Str->Option Value} {base:Heap}
theorem x9 {x qual:Str} {st:Stmt} {f:Addr} {fd:FuncData} {N ps:List Str} {k:Nat} {Φ:Wx->List D->Wx->Prop} (F:Fun K x qual st f fd) (S:ar N ps (ah st)) (hb:∀ x ∈ aj,mg x=none) (len:∀ W ds r,Φ W ds r->ds.length + 1=ps.length)
   (body:∀ W ds r,Φ W ds r->∀ R cdv A outer s H E0,Bk (Xc P w K mg base N qual st f cdv A outer s H E0) k->PSs (Xc P w K mg base N qual st f cdv A outer s H E0) (aW st) (dS K (.w (fJ R W) :: (ds.map .d++List.replicate (N.length - (ds.length + 1)) .un)) { nx:=λτ=>τ[0]?=some (.w (fJ R r)),rt:=λ_=>False })) :
   aG P w K mg base CX0 (k + 1) f fd ps (spW K Φ):=by
 refine F.ok S (λvs H Q E ⟨M,bs,u,us,W,ds,r,hvs,_,_,_,dd,h,_⟩=>by rw [hvs,List.length_cons,dd.length]; exact len _ ds r h) λcdv A outer s H vs Q E hr' ⟨M,bs,u,us,W,ds,r,hvs,hM,nd,hp,dd,h,q⟩=>?_
 subst hvs
 have key:=body W ds r h (λv cs=>v=u/\cs=bs) cdv A outer s H E ⟨hr',rfl,hb,PassesOwn.never⟩
 let B0:Nat->List Addr:=λi=>if i=0 then bs else []
 have hB:∀ i b,b ∈ B0 i->i=0/\b ∈ bs:=λi b z=>by
   by_cases e:i=0
   · simp only [B0,if_pos e] at z; exact ⟨e,z⟩
   · simp only [B0,if_neg e] at z; cases z
 have ow:∀ b,own (λb=>M b/\b ∉ bs) B0 b ↔ M b:=λb=>by
   refine ⟨λz=>z.elim (·.1) λ⟨i,z⟩=>hM.1 b (hB i b z).2,λz=>?_⟩
   by_cases e:b ∈ bs
   · exact .inr ⟨0,by simp [B0,e]⟩
   · exact .inl ⟨z,e⟩
 have vw:ak (Hy.hd H M) (Hy.hd H (own (λb=>M b/\b ∉ bs) B0)):=av (ak.refl _) λb z=>(ow b).mp z
 refine ⟨_,key,λb=>M b/\b ∉ bs,Hy.hd H (· ∈ bs),B0,⟨aN,?_,λi s hi=>?_,λi b z=>?_,λi j b z1 z2=>((hB i b z1).1).trans ((hB j b z2).1).symm,λb z=>?_,λi b z=>let ⟨o,y,_⟩:=W.al hp b (hB i b z).2; ⟨o,y⟩⟩,λτ B σ H' h S=>?_,λ_ _ _ _ h=>h.elim,λ_ _ _ _ h=>h.elim,λ_ _ _ _ h=>h.elim,λ_ _=>trivial⟩
 · unfold L2.start
   simp [dd.length]
 · have hl:=dd.length
   unfold L2.start
   match i,hi with
   | 0,hi=>
     cases hi
     exact ⟨nd,u,rfl,⟨rfl,rfl⟩,W.fr vw (λ_ _=>rfl) hp⟩
   | i + 1,hi=>
     rw [List.getElem?_cons_succ] at hi
     show bJ K _ H ((((us.map some)++_)[i]?).join) _ s
     by_cases hlt:i < ds.length
     · rw [List.getElem?_append_left (by simpa using hlt),List.getElem?_map,List.getElem?_eq_getElem hlt] at hi
       cases hi
       obtain ⟨v,e,dv⟩:=dd.get (List.getElem?_eq_getElem hlt)
       refine ⟨rfl,v,?_,dv.mono vw⟩
       rw [List.getElem?_append_left (by simpa [hl] using hlt),List.getElem?_map,e]
       rfl
     · rw [List.getElem?_append_right (by simpa using hlt),List.getElem?_replicate] at hi
       split at hi
       · cases hi; rfl
       · cases hi
 · unfold Hy.hd
   rw [if_pos (hB i b z).2]
 · obtain ⟨o,y⟩:=hM.2 b z.1
   exact ⟨o,ao.mpr ⟨λe=>z.2 e,y⟩⟩
 · obtain ⟨_,u',_,⟨h1,h2⟩,h3⟩:=S.sl 0 _ h
   subst h1
   have sub:∀ b,M b->own (λb=>M b/\b ∉ bs) B b:=λb z=>by
     by_cases e:b ∈ bs
     · exact .inr ⟨0,by rw [h2]; exact e⟩
     · exact .inl ⟨z,e⟩
   rw [h2] at h3
   exact q H' (λb o ne z=>S.same b o (ao.mpr ⟨ne,z⟩)) (r.fr (av (ak.refl _) sub) (λ_ _=>rfl) h3)
theorem fnV {x qual:Str} {st:Stmt} {f:Addr} {fd:FuncData} {N ps:List Str} {k:Nat} {Φ:Wx->List D->Sl->Prop} {e:Expr} {p2:Pos} {M':Wx->Wx->List D->List Sl->Prop} (F:Fun K x qual st f fd) (S:ar N ps (ah st)) (hb:∀ x ∈ aj,mg x=none) (len:∀ W ds r,Φ W ds r->ds.length + 1=ps.length)
   (hbody:aW st=(aW st).dropLast++[.Return (some e) p2])
   (hM:∀ W' W ds τ,M' W' W ds τ->τ[0]?=some (.w W'))
   (hret:∀ W ds r,Φ W ds r->∀ W',LeW W' W->∀ τ,M' W' W ds τ->∀ cdv A outer s H E0,Bk (Xc P w K mg base N qual st f cdv A outer s H E0) k->PE (Xc P w K mg base N qual st f cdv A outer s H E0) e (dE K true τ r))
   (body:∀ W ds r,Φ W ds r->∀ W',LeW W' W->∀ cdv A outer s H E0,Bk (Xc P w K mg base N qual st f cdv A outer s H E0) k->PSs (Xc P w K mg base N qual st f cdv A outer s H E0) (aW st).dropLast (dS K (.w W' :: (ds.map .d++List.replicate (N.length - (ds.length + 1)) .un)) { nx:=M' W' W ds,rt:=λ_=>False })) :
   aG P w K mg base CX0 (k + 1) f fd ps (spV K Φ):=by
 refine F.ok S (λvs H Q E ⟨M,bs,u,us,W,ds,r,hvs,_,_,_,dd,h,_⟩=>by rw [hvs,List.length_cons,dd.length]; exact len _ ds r h) λcdv A outer s H vs Q E hr' ⟨M,bs,u,us,W,ds,r,hvs,hH,nd,hp,dd,h,q⟩=>?_
 subst hvs
 have Bb:Bk (Xc P w K mg base N qual st f cdv A outer s H E) k:=⟨hr',rfl,hb,PassesOwn.never⟩
 have hle:LeW (pf W u bs H) W:=LeW.keep W u bs H
 have last:PSs (Xc P w K mg base N qual st f cdv A outer s H E) [.Return (some e) p2] λD σ H'=>∃ τ,M' (pf W u bs H) W ds τ/\∃ A H₀ B,Sta K A H₀ τ B σ H'/\∀ v H2 cs,ak H' H2->Fr H' H2 cs->bJ K (Hy.hd H2 λb=>own A B b\/b ∈ cs) H2 (some v) cs r->D.rt v H2:=λpins s' σ H' D I ⟨τ,hm,A1,H₀,B,S,q⟩=>pd (n9 (pos:=p2) (hret W ds r h _ hle τ hm cdv A outer s H E Bb)) pins s' σ H' D I ⟨A1,H₀,B,S,q⟩
 have key:=vc (body W ds r h _ hle cdv A outer s H E Bb) last
 rw [<- hbody] at key
 let B0:Nat->List Addr:=λi=>if i=0 then bs else []
 have hB:∀ i b,b ∈ B0 i->i=0/\b ∈ bs:=λi b z=>by
   by_cases e:i=0
   · simp only [B0,if_pos e] at z; exact ⟨e,z⟩
   · simp only [B0,if_neg e] at z; cases z
 have ow:∀ b,own (λb=>M b/\b ∉ bs) B0 b ↔ M b:=λb=>by
   refine ⟨λz=>z.elim (·.1) λ⟨i,z⟩=>hH.1 b (hB i b z).2,λz=>?_⟩
   by_cases e:b ∈ bs
   · exact .inr ⟨0,by simp [B0,e]⟩
   · exact .inl ⟨z,e⟩
 have vw:ak (Hy.hd H M) (Hy.hd H (own (λb=>M b/\b ∉ bs) B0)):=av (ak.refl _) λb z=>(ow b).mp z
 refine ⟨_,key,λb=>M b/\b ∉ bs,Hy.hd H (· ∈ bs),B0,⟨aN,?_,λi s hi=>?_,λi b z=>?_,λi j b z1 z2=>((hB i b z1).1).trans ((hB j b z2).1).symm,λb z=>?_,λi b z=>let ⟨o,y,_⟩:=W.al hp b (hB i b z).2; ⟨o,y⟩⟩,λτ B σ H' h S=>?_,λ_ _ _ _ h=>h.elim,λ_ _ _ _ h=>h.elim,λ_ _ _ _ h=>h.elim,λ_ _=>trivial⟩
 · unfold L2.start
   simp [dd.length]
 · have hl:=dd.length
   unfold L2.start
   match i,hi with
   | 0,hi=>
     cases hi
     exact ⟨nd,u,rfl,rfl,rfl,λ_ _=>rfl,W.fr vw (λ_ _=>rfl) hp⟩
   | i + 1,hi=>
     rw [List.getElem?_cons_succ] at hi
     show bJ K _ H ((((us.map some)++_)[i]?).join) _ s
     by_cases hlt:i < ds.length
     · rw [List.getElem?_append_left (by simpa using hlt),List.getElem?_map,List.getElem?_eq_getElem hlt] at hi
       cases hi
       obtain ⟨v,e,dv⟩:=dd.get (List.getElem?_eq_getElem hlt)
       refine ⟨rfl,v,?_,dv.mono vw⟩
       rw [List.getElem?_append_left (by simpa [hl] using hlt),List.getElem?_map,e]
       rfl
     · rw [List.getElem?_append_right (by simpa using hlt),List.getElem?_replicate] at hi
       split at hi
       · cases hi; rfl
       · cases hi
 · unfold Hy.hd
   rw [if_pos (hB i b z).2]
 · obtain ⟨o,y⟩:=hH.2 b z.1
   exact ⟨o,ao.mpr ⟨λe=>z.2 e,y⟩⟩
 · obtain ⟨_,u',_,h1,h2,h3,h4⟩:=S.sl 0 _ (hM _ _ _ _ h)
   subst h1
   have sub:∀ b,M b->own (λb=>M b/\b ∉ bs) B b:=λb z=>by
     by_cases e:b ∈ bs
     · exact .inr ⟨0,by rw [h2]; exact e⟩
     · exact .inl ⟨z,e⟩
   have sm:ak H H':=λb o z=>by
     by_cases e:b ∈ bs
     · rw [h3 b e]; exact z
     · exact S.same b o (ao.mpr ⟨e,z⟩)
   refine ⟨τ,h,_,_,_,S,λv H2 cs e2 fr z=>q v H2 cs (sm.trans e2) (λb hb=>⟨?_,(fr b hb).2⟩) (z.mono (av (ak.refl _) λb z=>z.imp (sub b) id) (ak.refl _))⟩
   have:=(fr b hb).1
   cases y:H b with
   | none=>rfl
   | some o=>rw [sm b o y] at this; cases this
theorem yB {x qual:Str} {st:Stmt} {f:Addr} {fd:FuncData} {N ps:List Str} {k:Nat} {Φ:Wx->List D->Prop} {M':Wx->Wx->List D->List Sl->Prop} (F:Fun K x qual st f fd) (S:ar N ps (ah st)) (hb:∀ x ∈ aj,mg x=none) (len:∀ W ds,Φ W ds->ds.length + 1=ps.length)
   (hM:∀ W' W ds τ,M' W' W ds τ->τ[0]?=some (.w W'))
   (body:∀ W ds,Φ W ds->∀ W',LeW W' W->∀ cdv A outer s H E0,Bk (Xc P w K mg base N qual st f cdv A outer s H E0) k->PSs (Xc P w K mg base N qual st f cdv A outer s H E0) (aW st) (dS K (.w W' :: (ds.map .d++List.replicate (N.length - (ds.length + 1)) .un)) { nx:=M' W' W ds,rt:=λ_=>False })) :
   aG P w K mg base CX0 (k + 1) f fd ps (spV K λW ds s=>Φ W ds/\s=.d .non):=by
 refine F.ok S (λvs H Q E ⟨M,bs,u,us,W,ds,r,hvs,_,_,_,dd,h,_⟩=>by rw [hvs,List.length_cons,dd.length]; exact len _ ds h.1) λcdv A outer s H vs Q E hr' ⟨M,bs,u,us,W,ds,r,hvs,hH,nd,hp,dd,h,q⟩=>?_
 subst hvs
 have Bb:Bk (Xc P w K mg base N qual st f cdv A outer s H E) k:=⟨hr',rfl,hb,PassesOwn.never⟩
 have hle:LeW (pf W u bs H) W:=LeW.keep W u bs H
 obtain ⟨h,rfl⟩:=h
 have key:=body W ds h _ hle cdv A outer s H E Bb
 let B0:Nat->List Addr:=λi=>if i=0 then bs else []
 have hB:∀ i b,b ∈ B0 i->i=0/\b ∈ bs:=λi b z=>by
   by_cases e:i=0
   · simp only [B0,if_pos e] at z; exact ⟨e,z⟩
   · simp only [B0,if_neg e] at z; cases z
 have ow:∀ b,own (λb=>M b/\b ∉ bs) B0 b ↔ M b:=λb=>by
   refine ⟨λz=>z.elim (·.1) λ⟨i,z⟩=>hH.1 b (hB i b z).2,λz=>?_⟩
   by_cases e:b ∈ bs
   · exact .inr ⟨0,by simp [B0,e]⟩
   · exact .inl ⟨z,e⟩
 have vw:ak (Hy.hd H M) (Hy.hd H (own (λb=>M b/\b ∉ bs) B0)):=av (ak.refl _) λb z=>(ow b).mp z
 refine ⟨_,key,λb=>M b/\b ∉ bs,Hy.hd H (· ∈ bs),B0,⟨aN,?_,λi s hi=>?_,λi b z=>?_,λi j b z1 z2=>((hB i b z1).1).trans ((hB j b z2).1).symm,λb z=>?_,λi b z=>let ⟨o,y,_⟩:=W.al hp b (hB i b z).2; ⟨o,y⟩⟩,λτ B σ H' h S=>?_,λ_ _ _ _ h=>h.elim,λ_ _ _ _ h=>h.elim,λ_ _ _ _ h=>h.elim,λ_ _=>trivial⟩
 · unfold L2.start
   simp [dd.length]
 · have hl:=dd.length
   unfold L2.start
   match i,hi with
   | 0,hi=>
     cases hi
     exact ⟨nd,u,rfl,rfl,rfl,λ_ _=>rfl,W.fr vw (λ_ _=>rfl) hp⟩
   | i + 1,hi=>
     rw [List.getElem?_cons_succ] at hi
     show bJ K _ H ((((us.map some)++_)[i]?).join) _ s
     by_cases hlt:i < ds.length
     · rw [List.getElem?_append_left (by simpa using hlt),List.getElem?_map,List.getElem?_eq_getElem hlt] at hi
       cases hi
       obtain ⟨v,e,dv⟩:=dd.get (List.getElem?_eq_getElem hlt)
       refine ⟨rfl,v,?_,dv.mono vw⟩
       rw [List.getElem?_append_left (by simpa [hl] using hlt),List.getElem?_map,e]
       rfl
     · rw [List.getElem?_append_right (by simpa using hlt),List.getElem?_replicate] at hi
       split at hi
       · cases hi; rfl
       · cases hi
 · unfold Hy.hd
   rw [if_pos (hB i b z).2]
 · obtain ⟨o,y⟩:=hH.2 b z.1
   exact ⟨o,ao.mpr ⟨λe=>z.2 e,y⟩⟩
 · obtain ⟨_,u',_,h1,h2,h3,h4⟩:=S.sl 0 _ (hM _ _ _ _ h)
   subst h1
   have sub:∀ b,M b->own (λb=>M b/\b ∉ bs) B b:=λb z=>by
     by_cases e:b ∈ bs
     · exact .inr ⟨0,by rw [h2]; exact e⟩
     · exact .inl ⟨z,e⟩
   have sm:ak H H':=λb o z=>by
     by_cases e:b ∈ bs
     · rw [h3 b e]; exact z
     · exact S.same b o (ao.mpr ⟨e,z⟩)
   exact q .non H' [] sm (λ_ z=>nomatch z) ⟨rfl,_,rfl,.non⟩
end
noncomputable def bI (K:PySem.W.Frag) (G:Hp):List (Key × V)->List (Str × D)->Prop
 | [],[]=>True
 | p :: r,q :: m=>(p.1=.inr q.1/\Den K G p.2 q.2)/\bI K G r m
 | _,_=>False
noncomputable def aQ (m:List (Str × D)) (n:Str):Option D:=(m.find? λp=>decide (p.1=n)).map (·.2)
noncomputable def jL (m:List (Str × D)) (n:Str) (d:D):List (Str × D):=
 if (m.any λp=>decide (p.1=n))=true then m.map (λp=>if p.1=n then (p.1,d) else p) else m++[(n,d)]
section
variable {K:PySem.W.Frag} {G G':Hp}
theorem bI.mono (g:ak G G'):∀ {kvs:List (Key × V)} {m:List (Str × D)},bI K G kvs m->bI K G' kvs m
 | [],[],_=>trivial
 | _ :: _,_ :: _,⟨⟨a,b⟩,c⟩=>⟨⟨a,b.mono g⟩,bI.mono g c⟩
 | [],_ :: _,h=>h.elim
 | _ :: _,[],h=>h.elim
theorem bI.len:∀ {kvs:List (Key × V)} {m:List (Str × D)},bI K G kvs m->kvs.length=m.length
 | [],[],_=>rfl
 | _ :: _,_ :: _,⟨_,c⟩=>by rw [List.length_cons,List.length_cons,bI.len c]
 | [],_ :: _,h=>h.elim
 | _ :: _,[],h=>h.elim
theorem bI.look (n:Str):∀ {kvs:List (Key × V)} {m:List (Str × D)},bI K G kvs m->(b8 kvs (.inr n)=none/\aQ m n=none)\/∃ v d,b8 kvs (.inr n)=some v/\aQ m n=some d/\Den K G v d
 | [],[],_=>.inl ⟨rfl,rfl⟩
 | p :: r,q :: m,⟨⟨a,b⟩,c⟩=>by
   by_cases e:q.1=n
   · exact .inr ⟨p.2,q.2,bp (by rw [a,e]),by simp [aQ,e],b⟩
   · have e':¬ p.1=.inr n:=λz=>e (by rw [a] at z; exact Sum.inr.inj z)
     rw [bq e',show aQ (q :: m) n=aQ m n by simp [aQ,e]]
     exact bI.look n c
 | [],_ :: _,h=>h.elim
 | _ :: _,[],h=>h.elim
theorem bI.any (n:Str):∀ {kvs:List (Key × V)} {m:List (Str × D)},bI K G kvs m->(kvs.any λkv=>decide (kv.1=.inr n))=m.any λp=>decide (p.1=n)
 | [],[],_=>rfl
 | p :: r,q :: m,⟨⟨a,b⟩,c⟩=>by
   rw [List.any_cons,List.any_cons,bI.any n c,a]
   simp
 | [],_ :: _,h=>h.elim
 | _ :: _,[],h=>h.elim
theorem bI.map {n:Str} {v:V} {d:D} (dv:Den K G v d):∀ {kvs:List (Key × V)} {m:List (Str × D)},bI K G kvs m->bI K G (kvs.map λkv=>if kv.1=.inr n then (kv.1,v) else kv) (m.map λp=>if p.1=n then (p.1,d) else p)
 | [],[],_=>trivial
 | p :: r,q :: m,⟨⟨a,b⟩,c⟩=>by
   rw [List.map_cons,List.map_cons]
   refine ⟨?_,bI.map dv c⟩
   by_cases e:q.1=n
   · rw [if_pos e,if_pos (by rw [a,e])]; exact ⟨a,dv⟩
   · rw [if_neg e,if_neg (λz=>e (by rw [a] at z; exact Sum.inr.inj z))]; exact ⟨a,b⟩
 | [],_ :: _,h=>h.elim
 | _ :: _,[],h=>h.elim
theorem bI.app {n:Str} {v:V} {d:D} (dv:Den K G v d):∀ {kvs:List (Key × V)} {m:List (Str × D)},bI K G kvs m->bI K G (kvs++[(.inr n,v)]) (m++[(n,d)])
 | [],[],_=>⟨⟨rfl,dv⟩,trivial⟩
 | _ :: _,_ :: _,⟨a,c⟩=>⟨a,bI.app dv c⟩
 | [],_ :: _,h=>h.elim
 | _ :: _,[],h=>h.elim
theorem bI.put {n:Str} {v:V} {d:D} {kvs:List (Key × V)} {m:List (Str × D)} (h:bI K G kvs m) (dv:Den K G v d):bI K G (putK kvs (.inr n) v) (jL m n d):=by
 unfold putK jL
 rw [h.any n]
 split
 · exact h.map dv
 · exact h.app dv
end
noncomputable def wkW (C:Addr) (m:List (Str × D)) (ds:List D):Wx where
 p:=λK G H u bs=>∃ x dx kd dl kvs vs,bs=[x,dx,kd,dl]/\u=.ref x/\H x=some (.ins C dx [("kept",.ref kd),("deeds",.ref dl)])/\H dx=some (.own x)/\H kd=some (.dK kvs)/\H dl=some (.lst vs)/\bI K G kvs m/\ax K G vs ds
 fr:=λ{K G G' H H' u bs} g e h=>by
   obtain ⟨x,dx,kd,dl,kvs,vs,h0,h1,h2,h3,h4,h5,h6,h7⟩:=h
   subst h0
   exact ⟨x,dx,kd,dl,kvs,vs,rfl,h1,by rw [e x (by simp)]; exact h2,by rw [e dx (by simp)]; exact h3,by rw [e kd (by simp)]; exact h4,by rw [e dl (by simp)]; exact h5,h6.mono g,h7.mono g⟩
 al:=λ{K G H u bs} h b hb=>by
   obtain ⟨x,dx,kd,dl,kvs,vs,h0,h1,h2,h3,h4,h5,h6,h7⟩:=h
   subst h0
   simp only [List.mem_cons,List.not_mem_nil,or_false] at hb
   rcases hb with rfl | rfl | rfl | rfl
   · exact ⟨_,h2,trivial⟩
   · exact ⟨_,h3,trivial⟩
   · exact ⟨_,h4,trivial⟩
   · exact ⟨_,h5,trivial⟩
theorem wkW.ins {K:PySem.W.Frag} {C:Addr} {m:List (Str × D)} {ds:List D} {f:Str} (h:(f == ("kept" : Str))=false/\(f == ("deeds" : Str))=false):vh K C f (wkW C m ds):=λ{G H u bs} ⟨x,dx,kd,dl,kvs,vs,h0,h1,h2,_⟩=>
 ⟨x,dx,_,h1,h2,by simp [List.lookup_cons,h.1,h.2]⟩
noncomputable def dKp (K:PySem.W.Frag) (τ:List Sl) (m:List (Str × D)):TE:=λσ H Q=>∃ A H₀ B,Sta K A H₀ τ B σ H/\∀ kd kvs,H kd=some (.dK kvs)->bI K (hd H (own A B)) kvs m->Q (.ref kd) H
section
variable {X:Cx} {τ τ':List Sl} {c e o:Expr} {es:List Expr} {pos p q pr apos cpos:Pos} {k:Nat} {N:Po} {rest body:List Stmt} {ds:List D} {W W':Wx} {s:Sl} {R:V->List Addr->Prop} {C:Addr} {m:List (Str × D)} {n:Str} {d:D}
theorem eP (i:Nat) {nk:Str} (hc:Cls X.K C) (hn:a6 X.K C "kept") (hi:τ[i]?=some (.w W)) (hle:LeW W (wkW C m ds)) (hb:attributeBase (.Name nk q) "kept" X.env (eval (.Name nk q) X.env)=eval (.Name nk q) X.env:=by rfl) (hNi:X.N[i]?=some nk:=by rfl)
   (hv:Vis X.env.scope nk:=by first | exact Or.inl rfl | exact Or.inr (Or.inl rfl) | exact Or.inr (Or.inr rfl)) (hd1:(nk == ("__debug__" : Str))=false:=by decide) (hcd:(nk == ("__classdict__" : Str))=false:=by decide) :
   PE X (.Attribute (.Name nk q) "kept" apos) (dKp X.K τ m):=by
 refine peW (n8 (bh (i:=i) hNi hv hd1 hcd) hb) λσ H Q ⟨A,H₀,B,S,kk⟩=>?_
 obtain ⟨nd,u,h2,wp⟩:=S.sl i _ hi
 obtain ⟨x,dx,kd,dl,kvs,vs,h0,rfl,h3,_,h5,_,h7,_⟩:=hle wp
 exact ⟨_,slot_of h2,x,C,dx,_,.ref kd,rfl,h3,hc,hn,rfl,kk kd kvs h5 h7⟩
theorem zT (hu:X.A.units + 1 < cLine) (hx:PE X e (dE X.K true τ (.d (.str n)))) (ho:PE X o (dKp X.K τ m)):PC X .In e o (dE X.K true τ (.d (.bl (aQ m n).isSome))):=by
 intro pins s σ H Q I h
 refine yi hu hx ho pins s σ H Q I ?_
 obtain ⟨A,H₀,B,S,kk⟩:=cO h
 refine aH S λv H1 e1 d1=>⟨A,H₀,B,S.mono e1,λkd kvs hk ok=>?_⟩
 cases d1
 refine ⟨kd,_,rfl,dU.k (k:=.inr n) hk,?_⟩
 have:(b8 kvs (.inr n)).isSome=(aQ m n).isSome:=by
   rcases ok.look n with ⟨z1,z2⟩ | ⟨_,_,z1,z2,_⟩ <;> rw [z1,z2] <;> rfl
 rw [this]
 exact kk _ H1 e1 .bl
theorem sr (hu:X.A.units + 1 < cLine) (ho:PE X o (dKp X.K τ m)) (hx:PE X e (dE X.K true τ (.d (.str n)))) (hs:wV e) (hd:aQ m n=some d):PE X (.Subscript o e pos) (dE X.K true τ (.d d)):=by
 intro pins s σ H Q I h
 refine uv hu ho hx hs pins s σ H Q I ?_
 obtain ⟨A,H₀,B,S,kk⟩:=cO h
 refine ⟨A,H₀,B,S,λkd kvs hk ok=>aH S λv H1 e1 d1=>?_⟩
 cases d1
 rcases ok.look n with ⟨_,z2⟩ | ⟨v,d',z1,z2,z3⟩
 · rw [hd] at z2; cases z2
 · rw [hd] at z2; cases z2
   exact ⟨kd,v,rfl,z1 ▸ dU.k (k:=.inr n) (e1 _ _ hk),kk _ H1 e1 (z3.mono (av e1 λ_ z=>z))⟩
theorem zH (hu:X.A.units + 1 < cLine) (ho:PE X o (dKp X.K τ m)) (hx:PE X e (dE X.K true τ (.d (.str n)))) (mm:M1 X o "get" apos e cpos):PE X (.Call (.Attribute o "get" apos) [e] [] cpos) (dE X.K true τ (.d ((aQ m n).getD .non))):=by
 intro pins s σ H Q I h
 refine rV hu ho hx mm pins s σ H Q I ?_
 obtain ⟨A,H₀,B,S,kk⟩:=cO h
 refine ⟨A,H₀,B,S,λkd kvs hk ok=>⟨kd,rfl,⟨kvs,.of hk⟩,aH S λv H1 e1 d1=>?_⟩⟩
 cases d1
 refine ⟨_,dU.k (k:=.inr n) (e1 _ _ hk),?_⟩
 rcases ok.look n with ⟨z1,z2⟩ | ⟨v,d',z1,z2,z3⟩
 · rw [z1]; exact kk _ H1 e1 (by rw [z2]; exact .non)
 · rw [z1]; exact kk _ H1 e1 (by rw [z2]; exact z3.mono (av e1 λ_ z=>z))
theorem x4 (i:Nat) {nk:Str} {x:D} {a1 ap cp:Pos} (hc:Cls X.K C) (hn:a6 X.K C "deeds") (he:PE X e (dE X.K true τ (.d x))) (hl:ds.length < 1000000) (hi:τ[i]?=some (.w (fJ R (wkW C m ds)))) (hr:PSs X rest (dS X.K (τ.set i (.w (fJ R (wkW C m (ds++[x]))))) N)) (hNi:X.N[i]?=some nk:=by rfl)
   (hb:attributeBase (.Name nk q) "deeds" X.env (eval (.Name nk q) X.env)=eval (.Name nk q) X.env:=by rfl)
   (hv:Vis X.env.scope nk:=by first | exact Or.inl rfl | exact Or.inr (Or.inl rfl) | exact Or.inr (Or.inr rfl)) (hd1:(nk == ("__debug__" : Str))=false:=by decide) (hcd:(nk == ("__classdict__" : Str))=false:=by decide)
   (hfew:((backTo cp (starEach [e] X.env)).all (λx=>!x.1) && (backToKw cp (keywordEach [] X.env)).all (λx=>x.1.isSome) && decide (([e]:List Expr).length + ([]:List Keyword).length + (if ([]:List Keyword).isEmpty then 0 else 1) < 30))=true:=by rfl)
   (hline:(ap.endLine == cp.line)=true:=by rfl) (hst:starEach [e] X.env=(false,eval e X.env) :: starEach [] X.env:=by rfl) (hpl:(backTo cp (starEach [] X.env)).any (·.1)=false:=by rfl)
   (hs:swapsWith (.Call (.Attribute (.Attribute (.Name nk q) "deeds" a1) "append" ap) [e] [] cp) none pos.line X.env=pure false:=by rfl) (hbase:attributeBase (.Attribute (.Name nk q) "deeds" a1) "append" X.env (eval (.Attribute (.Name nk q) "deeds" a1) X.env)=eval (.Attribute (.Name nk q) "deeds" a1) X.env:=by rfl) :
   PSs X (.Expr (.Call (.Attribute (.Attribute (.Name nk q) "deeds" a1) "append" ap) [e] [] cp) pos :: rest) (dS X.K τ N):=
 ba (M:=(·=τ.set i (.w (fJ R (wkW C m (ds++[x])))))) (psW (da (pK PySem.F.plainAttrs_list PySem.F.slot_list_append PySem.F.type_list_append eZ (n8 (bh (i:=i) hNi hv hd1 hcd) hb) (bw he di hst) hbase hfew hline hst hpl) hs) λD σ H ⟨A,H₀,B,S,Me⟩=>by
   obtain ⟨nd,u,h2,r,x0,dx,kd,dl,kvs,vs,h0,rfl,h3,h4,h5,h6,h7,h8⟩:=S.sl i _ hi
   refine ⟨_,slot_of h2,x0,C,dx,_,.ref dl,rfl,h3,hc,hn,rfl,.inl ⟨rfl,_,SqL.of h6⟩,aH S λv H1 e1 d1=>⟨dl,vs,v,rfl,rfl,e1 _ _ h6,by rw [h8.length]; exact Nat.lt_trans hl (by decide),?_⟩⟩
   rw [h0] at nd
   simp only [List.nodup_cons,List.mem_cons,List.not_mem_nil,or_false,not_or] at nd
   obtain ⟨⟨_,_,n1⟩,⟨_,n2⟩,n3,_⟩:=nd
   have bt:nV (B i) H1 (upd H1 dl (.lst (vs++[v]))):=λb o z y=>by
     rw [aq (λw:b=dl=>z (by rw [h0,w]; simp))]; exact y
   have sm:ak (hd H1 (own A B)) (hd (upd H1 dl (.lst (vs++[v]))) (own A B)):=bt.hd λb z=>.inr ⟨i,z⟩
   have sm0:ak (hd H (own A B)) (hd (upd H1 dl (.lst (vs++[v]))) (own A B)):=(av e1 λ_ z=>z).trans sm
   exact Me.nx _ _ _ _ rfl ((S.mono e1).uL hi h2 bt ⟨r,x0,dx,kd,dl,kvs,vs++[v],h0,rfl,by rw [aq n1]; exact e1 _ _ h3,by rw [aq n2]; exact e1 _ _ h4,by rw [aq n3]; exact e1 _ _ h5,aA,h7.mono sm0,(h8.mono sm0).append (.cons (d1.mono sm) .nil)⟩)) λ_ e=>e ▸ hr
theorem wJ (i:Nat) {nk:Str} {x:D} {y:Expr} {a1 pos':Pos} (hu:X.A.units + 1 < cLine) (hc:Cls X.K C) (hn:a6 X.K C "kept") (he:PE X e (dE X.K true τ (.d x))) (hy:PE X y (dE X.K true τ (.d (.str n)))) (hl:m.length < sizeLine) (hi:τ[i]?=some (.w (fJ R (wkW C m ds)))) (hr:PSs X rest (dS X.K (τ.set i (.w (fJ R (wkW C (jL m n x) ds)))) N)) (hNi:X.N[i]?=some nk:=by rfl)
   (hb:attributeBase (.Name nk q) "kept" X.env (eval (.Name nk q) X.env)=eval (.Name nk q) X.env:=by rfl)
   (hv:Vis X.env.scope nk:=by first | exact Or.inl rfl | exact Or.inr (Or.inl rfl) | exact Or.inr (Or.inr rfl)) (hd1:(nk == ("__debug__" : Str))=false:=by decide) (hcd:(nk == ("__classdict__" : Str))=false:=by decide)
   (hs:swapsWith e (some (.Subscript (.Attribute (.Name nk q) "kept" a1) y pos')) pos.line X.env=pure false:=by rfl) :
   PSs X (.Assign [.Subscript (.Attribute (.Name nk q) "kept" a1) y pos'] e pos :: rest) (dS X.K τ N):=
 ba (M:=(·=τ.set i (.w (fJ R (wkW C (jL m n x) ds))))) (psW (vo hu (n8 (bh (i:=i) hNi hv hd1 hcd) hb) hy he hs) λD σ H ⟨A,H₀,B,S,Me⟩=>aH S λv H1 e1 d1=>by
   have S1:=S.mono e1
   obtain ⟨nd,u,h2,r,x0,dx,kd,dl,kvs,vs,h0,rfl,h3,h4,h5,h6,h7,h8⟩:=S1.sl i _ hi
   refine ⟨_,slot_of h2,x0,C,dx,_,.ref kd,rfl,h3,hc,hn,rfl,aH S1 λw H2 e2 d2=>?_⟩
   cases d2
   refine ⟨kd,_,rfl,sD.k (k:=.inr n) (e2 _ _ h5) (by rw [h7.len]; exact hl),?_⟩
   rw [h0] at nd
   simp only [List.nodup_cons,List.mem_cons,List.not_mem_nil,or_false,not_or] at nd
   obtain ⟨⟨_,n1,_⟩,⟨n2,_⟩,n3,_⟩:=nd
   have bt:nV (B i) H2 (upd H2 kd (.dK (putK kvs (.inr n) v))):=λb o z y=>by
     rw [aq (λw:b=kd=>z (by rw [h0,w]; simp))]; exact y
   have sm:ak (hd H2 (own A B)) (hd (upd H2 kd (.dK (putK kvs (.inr n) v))) (own A B)):=bt.hd λb z=>.inr ⟨i,z⟩
   have sm0:ak (hd H1 (own A B)) (hd (upd H2 kd (.dK (putK kvs (.inr n) v))) (own A B)):=(av e2 λ_ z=>z).trans sm
   exact Me.nx _ _ _ _ rfl ((S1.mono e2).uL hi h2 bt ⟨r,x0,dx,kd,dl,_,vs,h0,rfl,by rw [aq n1]; exact e2 _ _ h3,by rw [aq n2]; exact e2 _ _ h4,aA,by rw [aq (Ne.symm n3)]; exact e2 _ _ h6,(h7.mono sm0).put (d1.mono sm0),h8.mono sm0⟩)) λ_ e=>e ▸ hr
theorem zV (hu:X.A.units + 1 < cLine) (hx:PE X e (dE X.K true τ (.d (.str n)))) (ho:PE X o (dKp X.K τ m)) (h1:behindInMarks .In o=false:=by first | exact jk _ (by decide) (by decide) | rfl):PT X (.Compare e [.In] [o] pos) (dT X.K τ (aQ m n).isSome):=
 ptW (nE (zT hu hx ho) h1) λσ H Q ⟨A,H₀,B,S,kk⟩=>aH S λv H1 e1 d1=>by cases d1; exact ⟨_,rfl,kk H1 e1⟩
theorem ub (hu:X.A.units + 1 < cLine) (hx:PE X e (dE X.K true τ (.d (.str n)))) (ho:PE X o (dKp X.K τ m)):PC X .NotIn e o (dE X.K true τ (.d (.bl (!(aQ m n).isSome)))):=by
 intro pins s σ H Q I h
 refine ql hu hx ho pins s σ H Q I ?_
 obtain ⟨A,H₀,B,S,kk⟩:=cO h
 refine aH S λv H1 e1 d1=>⟨A,H₀,B,S.mono e1,λkd kvs hk ok=>?_⟩
 cases d1
 refine ⟨kd,_,rfl,dU.k (k:=.inr n) hk,?_⟩
 have:(b8 kvs (.inr n)).isSome=(aQ m n).isSome:=by
   rcases ok.look n with ⟨z1,z2⟩ | ⟨_,_,z1,z2,_⟩ <;> rw [z1,z2] <;> rfl
 rw [this]
 exact kk _ H1 e1 .bl
theorem ve (hu:X.A.units + 1 < cLine) (hx:PE X e (dE X.K true τ (.d (.str n)))) (ho:PE X o (dKp X.K τ m)) (h1:behindInMarks .NotIn o=false:=by first | exact jk _ (by decide) (by decide) | rfl):PT X (.Compare e [.NotIn] [o] pos) (dT X.K τ !(aQ m n).isSome):=
 ptW (nE (ub hu hx ho) h1) λσ H Q ⟨A,H₀,B,S,kk⟩=>aH S λv H1 e1 d1=>by cases d1; exact ⟨_,rfl,kk H1 e1⟩
end
noncomputable def spI (C:Addr):Sp:=λvs H Q _=>∃ x,vs=[.ref x]/\H x=some (.ins C (match H x with | some (.ins _ dx _)=>dx | _=>0) [])/\∀ H' kd dl,(∀ b o,b ≠ x->H b=some o->H' b=some o)->H kd=none->H dl=none->kd ≠ dl->H' x=some (.ins C (match H x with | some (.ins _ dx _)=>dx | _=>0) [("kept",.ref kd),("deeds",.ref dl)])->H' kd=some (.dK [])->H' dl=some (.lst [])->Q .non H'
section
variable {P:Program} {w:World} {K:PySem.W.Frag} {mg:Str->Option Value} {base:Heap}
theorem fnI {x qual sn:Str} {st:Stmt} {f C:Addr} {fd:FuncData} {N ps:List Str} {k:Nat} {p1 p2 p3 p4 q1 q3 a1 a2:Pos} (F:Fun K x qual st f fd) (S:ar N ps (ah st)) (hps:ps.length=1) (hc:Cls K C) (hn1:a6 K C "kept") (hn2:a6 K C "deeds")
   (hbody:aW st=[.Assign [.Attribute (.Name sn q1) "kept" a1] (.Dict [] [] p1) p2,.Assign [.Attribute (.Name sn q3) "deeds" a2] (.List [] p3) p4])
   (hN:N=[sn]) (hd1:(sn == ("__debug__" : Str))=false) (hcd:(sn == ("__classdict__" : Str))=false)
   (hv:∀ cdv A outer s H E0,Vis (Xc P w K mg base N qual st f cdv A outer s H E0).env.scope sn)
   (hs1:∀ cdv A outer s H E0,swapsWith (.Dict [] [] p1) (some (.Attribute (.Name sn q1) "kept" a1)) p2.line (Xc P w K mg base N qual st f cdv A outer s H E0).env=pure false)
   (hs2:∀ cdv A outer s H E0,swapsWith (.List [] p3) (some (.Attribute (.Name sn q3) "deeds" a2)) p4.line (Xc P w K mg base N qual st f cdv A outer s H E0).env=pure false) :
   aG P w K mg base CX0 (k + 1) f fd ps (spI C):=by
 refine F.ok S (λvs H Q E ⟨x,hvs,_⟩=>by rw [hvs,hps]; rfl) λcdv A outer s H vs Q E hr ⟨x,hvs,hx,q⟩=>?_
 subst hvs
 have var:∀ {q1:Pos},PE (Xc P w K mg base N qual st f cdv A outer s H E) (.Name sn q1) (v9 0):=bh (i:=0) (by show N[0]?=_; rw [hN]; rfl) (hv cdv A outer s H E) hd1 hcd
 have key:=mT (tK var tZ (hs1 cdv A outer s H E)) (pd (tK var (nA di) (hs2 cdv A outer s H E)))
 rw [<- hbody] at key
 refine ⟨_,key,λkd hk=>?_⟩
 generalize (match H x with | some (.ins _ dx _)=>dx | _=>0:Addr)=dx at hx q
 have nx:kd ≠ x:=λe=>by rw [e,hx] at hk; cases hk
 refine ⟨_,rfl,x,C,dx,[],rfl,by rw [aq (Ne.symm nx)]; exact hx,hc,hn1,by decide,Nat.zero_le _,λdl hl=>⟨_,rfl,x,C,dx,[("kept",.ref kd)],rfl,?_⟩⟩
 have n1:dl ≠ x:=λe=>by rw [e,aA] at hl; cases hl
 rw [aq n1] at hl
 have n2:dl ≠ kd:=λe=>by rw [e,aA] at hl; cases hl
 rw [aq n2] at hl
 refine ⟨by rw [aq (Ne.symm n1)]; exact aA,hc,hn2,(by decide:1 < 1000),?_⟩
 refine q _ kd dl (λb o ne z=>?_) hk hl (Ne.symm n2) aA (by rw [aq nx,aq (Ne.symm n2),aq nx]; exact aA) (by rw [aq n1]; exact aA)
 have m1:b ≠ kd:=λe=>by rw [e,hk] at z; cases z
 have m2:b ≠ dl:=λe=>by rw [e,hl] at z; cases z
 rw [aq ne,aq m2,aq ne,aq m1]
 exact z
end
section
variable {X:Cx} {τ:List Sl} {p pos:Pos} {k:Nat} {f C:Addr} {fd:FuncData} {ps:List Str} {n:Str}
theorem uM (Bb:Bk X (k + 1)) (M:Mk X.K C f) (F:aG X.prog X.w X.K X.mg X.base CX0 k f fd ps (spI C)) (hb:Binds X.K fd ps []) (hg:Gl X n) (hm:X.mg n=some (.ref C)) (hdb:(n == ("__debug__" : Str))=false:=by decide) :
   PE X (.Call (.Name n p) [] [] pos) (dE X.K true τ (.w (fJ (λ_ _=>True) (wkW C [] [])))):=by
 refine peW (t8 M F Bb.room hg hm hb .nil jX hdb) λσ H Q ⟨A,H₀,B,S,kk⟩=>?_
 intro x dx hx hdx hne
 refine ⟨x,rfl,by rw [aA],λH' kd dl b1 k1 k2 k3 y1 y2 y3=>⟨rfl,?_⟩⟩
 rw [aA] at y1
 have e1:kd ≠ x:=λe=>by rw [e,aA] at k1; cases k1
 have e2:dl ≠ x:=λe=>by rw [e,aA] at k2; cases k2
 rw [aq e1] at k1
 rw [aq e2] at k2
 have e3:kd ≠ dx:=λe=>by rw [e,aA] at k1; cases k1
 have e4:dl ≠ dx:=λe=>by rw [e,aA] at k2; cases k2
 rw [aq e3] at k1
 rw [aq e4] at k2
 have y4:H' dx=some (.own x):=b1 dx _ hne (by rw [aq hne]; exact aA)
 refine kk (.ref x) H' [x,dx,kd,dl] (λb o z=>?_) (λb hb=>?_) ⟨?_,_,rfl,trivial,x,dx,kd,dl,[],[],rfl,rfl,y1,y4,y2,y3,trivial,.nil⟩
 · have ne:b ≠ x:=λe=>by rw [e,hx] at z; cases z
   have ne2:b ≠ dx:=λe=>by rw [e,hdx] at z; cases z
   exact b1 b o ne (by rw [aq ne,aq ne2]; exact z)
 · simp only [List.mem_cons,List.not_mem_nil,or_false] at hb
   rcases hb with rfl | rfl | rfl | rfl
   · exact ⟨hx,_,y1⟩
   · exact ⟨hdx,_,y4⟩
   · exact ⟨k1,_,y2⟩
   · exact ⟨k2,_,y3⟩
 · simp only [List.nodup_cons,List.mem_cons,List.not_mem_nil,or_false,not_or,List.nodup_nil,and_true,not_false_eq_true]
   exact ⟨⟨Ne.symm hne,Ne.symm e1,Ne.symm e2⟩,⟨Ne.symm e3,Ne.symm e4⟩,k3⟩
end
end Hy
namespace K66
open PySem PySem.Spec PyProof.Rows L2 Hy
open Ev (D Den ax)
noncomputable def lj (C:Addr):Wx->List D->Wx->Prop:=λW a W'=>∃ m ds n x,W=wkW C m ds/\a=[.str n,x]/\m.length < sizeLine/\ds.length < 1000000/\W'=wkW C (jL m n x) (ds++[.tup [.str n,(aQ m n).getD .non]])
section
variable {P:Program} {w:World} {K:PySem.W.Frag} {mg:Str->Option Value} {base:Heap} {qual:Str} {f:Addr} {fd:FuncData} {k:Nat} {C:Addr}
theorem jM (hc:Cls K C) (n1:a6 K C "kept") (n2:a6 K C "deeds") (F:Fun K "keep" qual (mth 70 3) f fd) (hb:∀ x ∈ aj,mg x=none):aG P w K mg base CX0 (k + 1) f fd ["self","name","ladder"] (spW K (lj C)):=by
 refine x9 F jN hb (by rintro _ _ _ ⟨_,_,_,_,_,rfl,_⟩; rfl) ?_
 rintro _ _ _ ⟨m,ds,n,x,rfl,rfl,h1,h2,rfl⟩ R cdv A outer s H E b
 refine x4 0 hc n2 (bX (ae (aa 1) (ae (zH (m:=m) (n:=n) ?_ (eP 0 hc n1 rfl (LeW.res _ _)) (aa 1) ⟨rfl,rfl,rfl,rfl⟩) ag))) h2 rfl ?_
 · have:=b.room.units; omega
 · refine wJ 0 ?_ hc n1 (aa 2) (aa 1) h1 rfl ?_
   · have:=b.room.units; omega
   · exact aV rfl
noncomputable def oQ (C:Addr) (Φn:List D->Sl->Prop):Wx->List D->Prop:=λW a=>∃ m ds n,W=wkW C m ds/\a=[.str n]/\Φn [.str n] (.d (.bl true))/\aQ m n=none
noncomputable def mv (C:Addr) (Φn:List D->Sl->Prop):Wx->List D->Prop:=λW a=>∃ m ds n x,W=wkW C m ds/\a=[.str n]/\Φn [.str n] (.d (.bl true))/\aQ m n=some x
theorem fY {Φn:List D->Sl->Prop} (hc:Cls K C) (n1:a6 K C "kept") (F:Fun K "look_new" qual (mth 70 1) f fd) (hb:∀ x ∈ aj,mg x=none) (c_is_name:Cal P w K mg base k "is_name" Φn):aG P w K mg base CX0 (k + 1) f fd ["self","name"] (spV K λW a s=>oQ C Φn W a/\s=.d .non):=by
 refine yB (M':=λW' _ _ τ=>τ[0]?=some (.w W')) F fX hb (by rintro _ _ ⟨_,_,_,_,rfl,_⟩; rfl) (λ_ _ _ _ h=>h) ?_
 rintro _ _ ⟨m,ds,n,rfl,rfl,h1,h2⟩ W' hle cdv A outer s H E b
 refine br (PW.pt (bO (aX (aZ (x_call b c_is_name (ae (aa 1) ag) h1))) λh=>(bQ (zV (m:=m) (n:=n) ?_ (aa 1) (eP 0 hc n1 rfl hle))))) ?_ ?_
 · have:=b.room.units; omega
 · rw [h2]; rfl
 · exact aV rfl
theorem fM {Φn:List D->Sl->Prop} (hc:Cls K C) (n1:a6 K C "kept") (F:Fun K "look_kept" qual (mth 70 2) f fd) (hb:∀ x ∈ aj,mg x=none) (c_is_name:Cal P w K mg base k "is_name" Φn):aG P w K mg base CX0 (k + 1) f fd ["self","name"] (spV K λW a s=>mv C Φn W a/\s=.d .non):=by
 refine yB (M':=λW' _ _ τ=>τ[0]?=some (.w W')) F fK hb (by rintro _ _ ⟨_,_,_,_,_,rfl,_⟩; rfl) (λ_ _ _ _ h=>h) ?_
 rintro _ _ ⟨m,ds,n,x,rfl,rfl,h1,h2⟩ W' hle cdv A outer s H E b
 refine br (PW.pt (bO (aX (aZ (x_call b c_is_name (ae (aa 1) ag) h1))) λh=>(bQ (ve (m:=m) (n:=n) ?_ (aa 1) (eP 0 hc n1 rfl hle))))) ?_ ?_
 · have:=b.room.units; omega
 · rw [h2]; rfl
 · exact aV rfl
noncomputable def rH (C:Addr) (Φn Φl Φo:List D->Sl->Prop):Wx->List D->Wx->Prop:=λW a W'=>∃ m ds n x y,W=wkW C m ds/\a=[.str n,x]/\Φn [.str n] (.d (.bl true))/\aQ m n=none/\Φl [x] (.d .non)/\Φo [x] (.d y)/\m.length < sizeLine/\ds.length < 1000000/\W'=wkW C (jL m n y) (ds++[.tup [.str n,(aQ m n).getD .non]])
theorem lD {Φn Φl Φo:List D->Sl->Prop} (hc:Cls K C) (F:Fun K "put" qual (mth 70 4) f fd) (hb:∀ x ∈ aj,mg x=none) (c_new:bU P w K mg base k C "look_new" (spV K λW a s=>oQ C Φn W a/\s=.d .non)) (c_look_ladder:Cal P w K mg base k "look_ladder" Φl) (c_own:Cal P w K mg base k "own" Φo) (c_keep:bU P w K mg base k C "keep" (spW K (lj C))) :
   aG P w K mg base CX0 (k + 1) f fd ["self","name","ladder"] (spW K (rH C Φn Φl Φo)):=by
 refine x9 F lV hb (by rintro _ _ _ ⟨_,_,_,_,_,_,rfl,_⟩; rfl) ?_
 rintro _ _ _ ⟨m,ds,n,x,y,rfl,rfl,h1,h2,h3,h4,h5,h6,rfl⟩ R cdv A outer s H E b
 refine eI (eW 0 b hc c_new (wkW.ins ⟨by decide,by decide⟩) ⟨⟨m,ds,n,rfl,rfl,h1,h2⟩,rfl⟩ rfl (LeW.res _ _) (ae (aa 1) ag)) ?_
 refine eI (x_call b c_look_ladder (ae (aa 2) ag) h3) ?_
 refine kL (mU 0 b hc c_keep (wkW.ins ⟨by decide,by decide⟩) ⟨m,ds,n,y,rfl,rfl,h5,h6,rfl⟩ rfl (ae (aa 1) (ae (x_call b c_own (ae (aa 2) ag) h4) ag))) ?_
 exact aV rfl
noncomputable def oe (C:Addr) (Φn Φo:List D->Sl->Prop):Wx->List D->Sl->Prop:=λW a s=>∃ m ds n x,W=wkW C m ds/\a=[.str n]/\Φn [.str n] (.d (.bl true))/\aQ m n=some x/\Φo [x] s
theorem ie {Φn Φo:List D->Sl->Prop} (hc:Cls K C) (n1:a6 K C "kept") (F:Fun K "ladder" qual (mth 70 16) f fd) (hb:∀ x ∈ aj,mg x=none) (c_old:bU P w K mg base k C "look_kept" (spV K λW a s=>mv C Φn W a/\s=.d .non)) (c_own:Cal P w K mg base k "own" Φo) :
   aG P w K mg base CX0 (k + 1) f fd ["self","name"] (spV K (oe C Φn Φo)):=by
 refine fnV (M':=λW' _ a τ=>τ=.w W' :: a.map .d) F iq hb (by rintro _ _ _ ⟨_,_,_,_,_,rfl,_⟩; rfl) rfl (by rintro _ _ _ _ rfl; rfl) ?_ ?_
 · rintro _ _ _ ⟨m,ds,n,x,rfl,rfl,h1,h2,h3⟩ W' hle _ rfl cdv A outer s H E b
   refine x_call b c_own (ae (sr (m:=m) (n:=n) (d:=x) ?_ (eP 0 hc n1 rfl hle) (aa 1) ?_ h2) ag) h3
   · have:=b.room.units; omega
   · exact λ_ _=>rfl
 · rintro _ _ _ ⟨m,ds,n,x,rfl,rfl,h1,h2,h3⟩ W' hle cdv A outer s H E b
   refine eI (eW 0 b hc c_old (wkW.ins ⟨by decide,by decide⟩) ⟨⟨m,ds,n,x,rfl,rfl,h1,h2⟩,rfl⟩ rfl hle (ae (aa 1) ag)) ?_
   exact aV rfl
theorem jb {Φn Φo:List D->Sl->Prop} (hc:Cls K C) (n1:a6 K C "kept") (F:Fun K "table" qual (mth 70 17) f fd) (hb:∀ x ∈ aj,mg x=none) (c_old:bU P w K mg base k C "look_kept" (spV K λW a s=>mv C Φn W a/\s=.d .non)) (c_table_of:Cal P w K mg base k "table_of" Φo) :
   aG P w K mg base CX0 (k + 1) f fd ["self","name"] (spV K (oe C Φn Φo)):=by
 refine fnV (M':=λW' _ a τ=>τ=.w W' :: a.map .d) F i7 hb (by rintro _ _ _ ⟨_,_,_,_,_,rfl,_⟩; rfl) rfl (by rintro _ _ _ _ rfl; rfl) ?_ ?_
 · rintro _ _ _ ⟨m,ds,n,x,rfl,rfl,h1,h2,h3⟩ W' hle _ rfl cdv A outer s H E b
   refine x_call b c_table_of (ae (sr (m:=m) (n:=n) (d:=x) ?_ (eP 0 hc n1 rfl hle) (aa 1) ?_ h2) ag) h3
   · have:=b.room.units; omega
   · exact λ_ _=>rfl
 · rintro _ _ _ ⟨m,ds,n,x,rfl,rfl,h1,h2,h3⟩ W' hle cdv A outer s H E b
   refine eI (eW 0 b hc c_old (wkW.ins ⟨by decide,by decide⟩) ⟨⟨m,ds,n,x,rfl,rfl,h1,h2⟩,rfl⟩ rfl hle (ae (aa 1) ag)) ?_
   exact aV rfl
end
end K66
namespace Hy
open PySem PySem.Spec PyProof.Rows L2
open Ev (D Den ax au)
section
variable {X:Cx}
end
section
variable {X:Cx} {τ:List Sl} {o:Expr} {pos p q apos:Pos} {k:Nat} {m:List (Str × D)} {W W':Wx} {s:Sl}
end
end Hy
namespace K66
open PySem PySem.Spec PyProof.Rows L2 Hy
open Ev (D Den ax aM aK)
theorem bN.cho {N:Nat} {rs:List Nat} (h:bN N rs) (hN:N<=7):ChO (N:Int) (rs.map λ(n:Nat)=>(n:Int)):=by
 have h1:=h.one
 have hl:=h.len
 have g:∀ i,i < rs.length->(rs.map λ(n:Nat)=>(n:Int)).getD i 0=(rs.getD i 0:Nat):=λi hi=>by simp [hi]
 have z:=h.lt (rs.length - 1) (by omega)
 refine ⟨λe=>?_,λi hi=>?_,?_,?_,by rw [List.length_map]; omega⟩
 · have:=congrArg List.length e
   rw [List.length_map] at this
   simp only [List.length_nil] at this
   omega
 · rw [List.length_map] at hi
   rw [g i (by omega),g (i + 1) hi]
   have:=h.up i (i + 1) (by omega) hi
   omega
 · rw [g 0 (by omega)]; omega
 · unfold uW
   rw [List.length_map,g _ (by omega)]
   omega
noncomputable def so (Cl:Addr):Wx->List D->Wx->Prop:=λW a W'=>∃ m ds n o T R C ss rs cs,W=wkW Cl m ds/\a=[.str n,.str o,.lst ((rs.map λ(n:Nat)=>(n:Int)).map .int),.lst ((cs.map λ(n:Nat)=>(n:Int)).map .int)]/\qD n/\aQ m n=none/\qD o/\aQ m o=some (aS T R C ss)/\okL T R C ss/\ss.length<=200/\bN R rs/\bN C cs/\m.length < sizeLine/\ds.length < 1000000 /\
 W'=wkW Cl (jL m n (aS T rs.length cs.length (cb ss rs cs))) (ds++[.tup [.str n,(aQ m n).getD .non]])
noncomputable def ng (Cl:Addr):Wx->List D->Sl->Prop:=λW a s=>∃ m ds n T R C ss,W=wkW Cl m ds/\a=[.str n,.lst (bB C R (bwd ss))]/\qD n/\aQ m n=some (aS T R C ss)/\okL T R C ss/\Szl ss/\s=.d (.bl true)
section
variable {P:Program} {w:World} {K:PySem.W.Frag} {mg:Str->Option Value} {base:Heap} {qual:Str} {f:Addr} {fd:FuncData} {k:Nat} {C:Addr}
theorem k7 (hc:Cls K C) (n1:a6 K C "kept") (F:Fun K "cut" qual (mth 70 8) f fd) (hb:∀ x ∈ aj,mg x=none) (c_new:bU P w K mg base k C "look_new" (spV K λW a s=>oQ C a4 W a/\s=.d .non)) (c_old:bU P w K mg base k C "look_kept" (spV K λW a s=>mv C a4 W a/\s=.d .non)) (c_look_choices:Cal P w K mg base k "look_choices" cg) (c_cut_ladder:Cal P w K mg base k "cut_ladder" dF) (c_keep:bU P w K mg base k C "keep" (spW K (lj C))) :
   aG P w K mg base CX0 (k + 1) f fd ["self","new","one","rows","columns"] (spW K (so C)):=by
 refine x9 F lN hb (by rintro _ _ _ ⟨_,_,_,_,_,_,_,_,_,_,_,rfl,_⟩; rfl) ?_
 rintro _ _ _ ⟨m,ds,n,o,T,R,C',ss,rs,cs,rfl,rfl,h1,h2,h3,h4,ok,hl,hr,hcs,h5,h6,rfl⟩ Rr cdv A outer s H E b
 have t7:=ok.t7
 have rT:=ok.rT
 have cT:=ok.cT
 have hu:∀ {u:Nat},u + 64 < cLine->u + 1 < cLine:=λh=>by omega
 refine eI (eW 0 b hc c_new (wkW.ins ⟨by decide,by decide⟩) ⟨⟨m,ds,n,rfl,rfl,⟨n,rfl,h1,rfl⟩,h2⟩,rfl⟩ rfl (LeW.res _ _) (ae (aa 1) ag)) ?_
 refine eI (eW 0 b hc c_old (wkW.ins ⟨by decide,by decide⟩) ⟨⟨m,ds,o,_,rfl,rfl,⟨o,rfl,h3,rfl⟩,h4⟩,rfl⟩ rfl (LeW.res _ _) (ae (aa 2) ag)) ?_
 refine eI (x_call b c_look_choices (ae (aa 3) (ae (aa 4) (ae (ay (sr (m:=m) (n:=o) (d:=aS T R C' ss) (hu b.room.units) (eP 0 hc n1 rfl (LeW.res _ _)) (aa 2) (λ_ _=>rfl) h4) af (aw (ai (i:=1) rfl))) (ae (ay (sr (m:=m) (n:=o) (d:=aS T R C' ss) (hu b.room.units) (eP 0 hc n1 rfl (LeW.res _ _)) (aa 2) (λ_ _=>rfl) h4) af (aw (ai (i:=2) rfl))) ag)))) ⟨_,_,_,_,rfl,hr.cho (by omega),hcs.cho (by omega),rfl⟩) ?_
 refine kL (mU 0 b hc c_keep (wkW.ins ⟨by decide,by decide⟩) ⟨m,ds,n,aS T rs.length cs.length (cb ss rs cs),rfl,rfl,h5,h6,rfl⟩ rfl (ae (aa 1) (ae (x_call b c_cut_ladder (ae (sr (m:=m) (n:=o) (d:=aS T R C' ss) (hu b.room.units) (eP 0 hc n1 rfl (LeW.res _ _)) (aa 2) (λ_ _=>rfl) h4) (ae (aa 3) (ae (aa 4) ag))) ⟨T,R,C',ss,rs,cs,by rw [gh,gh],ok,hl,hr,hcs,rfl⟩) ag))) ?_
 exact aV rfl
theorem pY (hc:Cls K C) (F:Fun K "_law_told" qual (top 97) f fd) (hb:∀ x ∈ aj,mg x=none) (c_ladder:bU P w K mg base k C "ladder" (spV K (oe C a4 jn))) (c_table:bU P w K mg base k C "table" (spV K (oe C a4 dj))) (c_l_is_ladder:Cal P w K mg base k "_law_is_ladder" cI) (c_l_ladders_table:Cal P w K mg base k "_law_ladders_table" bj) :
   aG P w K mg base CX0 (k + 1) f fd ["_law_works","_law_name","_law_due"] (spV K (ng C)):=by
 refine fnV (M':=λW' _ a τ=>∃ s,τ=.w W' :: (a.map .d++[s])) F j8 hb (by rintro _ _ _ ⟨_,_,_,_,_,_,_,_,rfl,_⟩; rfl) rfl (by rintro _ _ _ _ ⟨_,rfl⟩; rfl) ?_ ?_
 · rintro _ _ _ ⟨m,ds,n,T,R,C,ss,rfl,rfl,hn,hl,ok,⟨EE,hw,he⟩,rfl⟩ W' hle _ ⟨s3,rfl⟩ cdv A outer s H E b
   rw [show D.bl true=.bl (Ev.eqD (hZ (fU C R (fwd ss))) (hZ (fU C R (fwd ss)))) by rw [dW]]
   refine cu (bA (eW 0 b hc c_table (wkW.ins ⟨by decide,by decide⟩) ⟨m,ds,n,aS T R C ss,rfl,rfl,⟨n,rfl,hn,rfl⟩,hl,⟨EE,T,R,C,ss,rfl,ok,hw,he,rfl⟩⟩ rfl hle (ae (aa 1) ag)) (congrArg some (xD _))) ?_ (vS b (kX _) (kX _))
   rw [<- lh ok]
   exact aa 2
 · rintro _ _ _ ⟨m,ds,n,T,R,C,ss,rfl,rfl,hn,hl,ok,⟨EE,hw,he⟩,rfl⟩ W' hle cdv A outer s H E b
   have nd:=j8.nd
   have r0:atI (bB C R (bwd ss)) (0:Int)=some (.lst (((List.range C).map (bwd ss 0)).map frD)):=fG (n:=0) (by have:=ok.r1; omega)
   have ln:(((List.range C).map (bwd ss 0)).map frD).length=C:=by simp
   refine aI 3 nd (eW 0 b hc c_ladder (wkW.ins ⟨by decide,by decide⟩) ⟨m,ds,n,aS T R C ss,rfl,rfl,⟨n,rfl,hn,rfl⟩,hl,⟨T,R,C,ss,rfl,rfl⟩⟩ rfl hle (ae (aa 1) ag)) ?_
   refine br (PW.pt (bO (aX (aZ (x_call b c_l_is_ladder (ae (aa 3) (ae (bC b (ae (aa 2) ag) (mZ (uQ C R _))) (ae (bC b (ae (ay (aa 2) af (aU r0)) ag) (mZ ln)) ag))) ⟨T,R,C,ss,rfl,ok,rfl⟩))) λh=>(bQ (aY (bA (x_call b c_l_ladders_table (ae (aa 3) ag) ⟨EE,T,R,C,ss,rfl,ok,hw,he,rfl⟩)) (aa 2) (v5 b (by rw [lh ok]; exact kX _) (by rw [lh ok]; exact kX _)))))) (by rw [dW]; rfl) ?_
   exact aV ⟨_,rfl⟩
end
noncomputable def dnP (c:Int) (m:Nat):List Int:=nums c [8,1 + (m:Int)]
noncomputable def dnN (c:Int) (m:Nat):Nat:=if (dnP c m).getD 0 0=1 then min 4 ((dnP c m).getD 1 0).toNat else ((dnP c m).getD 1 0).toNat
noncomputable def dnG (c:Int) (m:Nat):Nat:=if (dnP c m).getD 0 0=1 then 20 else 0
noncomputable def ldS (c:Int) (T n g:Nat):List Stp:=(List.range n).map (adS (adP c n g) T g)
noncomputable def dnS (c:Int) (T m:Nat):List Stp:=ldS (c.fdiv 8) T (dnN c m) (dnG c m)
theorem wK (p:Int):Wq 3 (wgt p 0):=by
 have f1:=fm (a:=p) (b:=7) (by decide)
 have f2:=fm (a:=p.fdiv 7) (b:=4) (by decide)
 have eT:wgT p 0=p.fmod 7:=if_neg (by omega)
 have eB:wgB p 0=1 + (p.fdiv 7).fmod 4:=if_neg (by omega)
 have h:=gk p (g:=0) (by decide)
 exact ⟨(ny p (by decide)).1,Sq.cG (by rw [eB]; omega) h (by rw [eT]; unfold Bd; omega) (by rw [eB]; unfold Bd; omega)⟩
theorem ua (p:Int):Wq 67 (wgt p 20):=by
 have f1:=fm (a:=p) (b:=10 ^ 20) (by decide)
 have f2:=fm (a:=p.fdiv (10 ^ 20)) (b:=10 ^ 20 - 1) (by decide)
 have eT:wgT p 20=p.fmod (10 ^ 20):=if_pos (by omega)
 have eB:wgB p 20=1 + (p.fdiv (10 ^ 20)).fmod (10 ^ 20 - 1):=if_pos (by omega)
 have h:=gk p (g:=20) (by decide)
 have z:(10:Int) ^ 20 < 2 ^ 67:=by decide
 have z2:((2 ^ 67:Nat):Int)=(2:Int) ^ 67:=by decide
 generalize (10:Int) ^ 20=t at *
 exact ⟨(ny p (by decide)).1,Sq.cG (by rw [eB]; omega) h (by rw [eT]; unfold Bd; omega) (by rw [eB]; unfold Bd; omega)⟩
theorem fb (c:Int) (T n g:Nat):(ldS c T n g).length=n:=by simp [ldS]
theorem nF (c:Int) (T g:Nat) {n i:Nat} (h:i < n):(ldS c T n g).getD i ("weigh",0,0)=adS (adP c n g) T g i:=cQ _ h _
theorem xo (c:Int) {T n g:Nat} (hT:1<=T) (hg:g<=40):∀ i,i < (ldS c T n g).length->okS T ((ldS c T n g).getD i ("weigh",0,0)):=λi hi=>by
 rw [fb] at hi
 rw [nF c T g hi]
 exact (wg hT hg).1
theorem wo (c:Int) {T n:Nat}:∀ i,i < (ldS c T n 0).length->Wq 3 ((ldS c T n 0).getD i ("weigh",0,0)).2.2:=λi hi=>by
 rw [fb] at hi
 rw [nF c T 0 hi]
 exact wK _
theorem u5 (c:Int) {T n:Nat}:∀ i,i < (ldS c T n 20).length->Wq 67 ((ldS c T n 20).getD i ("weigh",0,0)).2.2:=λi hi=>by
 rw [fb] at hi
 rw [nF c T 20 hi]
 exact ua _
theorem wZ (c:Int) (m:Nat):0<=(dnP c m).getD 1 0/\(dnP c m).getD 1 0<=m:=by
 have hp:∀ b ∈ ([8,1 + (m:Int)]:List Int),0 < b:=by intro b hb; simp at hb; omega
 have h:0<=(dnP c m).getD 1 0/\(dnP c m).getD 1 0 < 1 + (m:Int):=gw (c:=c) hp (i:=1) (by simp)
 omega
theorem rE (c:Int) (T m:Nat):(dnS c T m).length<=m:=by
 have h:=wZ c m
 unfold dnS
 rw [fb]
 unfold dnN
 split <;> omega
noncomputable def gJ (ds:List D) (r:Sl):Prop:=∃ (c:Int) (T R C m:Nat),ds=[.int c,.int T,.int R,.int C,.int m]/\1<=T/\m<=40/\r=.d (aS T R C (dnS c T m))
noncomputable def oeP (ns:List Int):List Int:=nums (ns.getD 0 0) [8,7,7,7]
noncomputable def oeT (ns:List Int):Nat:=(1 + ((oeP ns).getD 1 0).fmod (if (oeP ns).getD 0 0=1 then 7 else 4)).toNat
noncomputable def oeR (ns:List Int):Nat:=(1 + ((oeP ns).getD 2 0).fmod (oeT ns)).toNat
noncomputable def oeC (ns:List Int):Nat:=(1 + ((oeP ns).getD 3 0).fmod (oeT ns)).toNat
noncomputable def oeS (ns:List Int):List Stp:=dnS (ns.getD 1 0) (oeT ns) 14
theorem oS (ns:List Int):1<=oeT ns/\oeT ns<=7/\1<=oeR ns/\oeR ns<=oeT ns/\1<=oeC ns/\oeC ns<=oeT ns:=by
 have hT:1<=oeT ns/\oeT ns<=7:=by
   unfold oeT
   split
   · have:=fm (a:=(oeP ns).getD 1 0) (b:=7) (by decide); omega
   · have:=fm (a:=(oeP ns).getD 1 0) (b:=4) (by decide); omega
 have h2:=fm (a:=(oeP ns).getD 2 0) (b:=oeT ns) (by omega)
 have h3:=fm (a:=(oeP ns).getD 3 0) (b:=oeT ns) (by omega)
 unfold oeR oeC
 omega
theorem yU (ns:List Int):1 + ((oeP ns).getD 1 0).fmod (if (oeP ns).getD 0 0=1 then 7 else 4)=(oeT ns:Nat):=by
 unfold oeT
 split
 · have:=fm (a:=(oeP ns).getD 1 0) (b:=7) (by decide); omega
 · have:=fm (a:=(oeP ns).getD 1 0) (b:=4) (by decide); omega
theorem zB (ns:List Int):1 + ((oeP ns).getD 2 0).fmod (oeT ns)=(oeR ns:Nat):=by
 have:=oS ns
 have:=fm (a:=(oeP ns).getD 2 0) (b:=oeT ns) (by omega)
 unfold oeR; omega
theorem yN (ns:List Int):1 + ((oeP ns).getD 3 0).fmod (oeT ns)=(oeC ns:Nat):=by
 have:=oS ns
 have:=fm (a:=(oeP ns).getD 3 0) (b:=oeT ns) (by omega)
 unfold oeC; omega
noncomputable def lq (ds:List D) (r:Sl):Prop:=∃ ns:List Int,ds=[.lst (ns.map .int)]/\r=.d (aS (oeT ns) (oeR ns) (oeC ns) (oeS ns))
section
variable {P:Program} {w:World} {K:PySem.W.Frag} {mg:Str->Option Value} {base:Heap} {k:Nat} {f:Addr} {fd:FuncData} {qual:Str}
theorem mY (F:Fun K "_law_drawn" qual (top 95) f fd) (hb:∀ x ∈ aj,mg x=none) (c_l_numbers:Cal P w K mg base k "_law_numbers" bo) (c_l_ladder:Cal P w K mg base k "_law_ladder" fF):aG P w K mg base CX0 (k + 1) f fd ["_law_cell_here","_law_tracks","_law_rows","_law_columns","_law_most"] (spD K gJ):=by
 refine fnD F iI hb (by rintro _ _ ⟨_,_,_,_,_,rfl,_⟩; rfl) ?_
 rintro _ _ ⟨c,T,R,C,m,rfl,hT,hm,rfl⟩ cdv A outer s H E b
 have nd:=iI.nd
 have hp:=wZ c m
 have hl:(dnP c m).length=2:=eD ..
 refine aI 5 nd (x_call b c_l_numbers (ae (aa 0) (ae (bA (cA (ae af (ae (aB af (aa 4) bc) ag)))) ag)) ⟨c,[8,1 + (m:Int)],rfl,by simp,λb hb=>qH (by simp at hb; omega) (by simp at hb; omega),rfl⟩) (iU 5 ?_)
 refine fB (aY (ay (aa 5) af (aU (bf (ns:=dnP c m) (i:=0) (by decide) (by rw [hl]; decide)))) af jo) (λh=>?_) λh=>?_
 · have h:(dnP c m).getD 0 0=1:=of_decide_eq_true h
   have e1:dnN c m=min 4 ((dnP c m).getD 1 0).toNat:=if_pos h
   have e2:dnG c m=20:=if_pos h
   refine aJ (x_call b c_l_ladder (ae (aB (aa 0) af (bg (mkD (by decide) (by decide)))) (ae (aa 1) (ae (aa 2) (ae (aa 3) (ae (bC b (ae af (ae (ay (aa 5) af (aU (bf (ns:=dnP c m) (i:=1) (by decide) (by rw [hl]; decide)))) ag)) (yK b.calm)) (ae af ag)))))) ⟨c.fdiv 8,T,R,C,dnN c m,20,?_,hT,by omega,by decide,rfl⟩) (by unfold dnS; rw [e2]; rfl)
   have:(if (dnP c m).getD 1 0 < 4 then (dnP c m).getD 1 0 else 4)=(dnN c m:Nat):=by rw [e1]; split <;> omega
   rw [<- this]
   rfl
 · have h:¬ (dnP c m).getD 0 0=1:=of_decide_eq_false h
   have e1:dnN c m=((dnP c m).getD 1 0).toNat:=if_neg h
   have e2:dnG c m=0:=if_neg h
   refine aJ (x_call b c_l_ladder (ae (aB (aa 0) af (bg (mkD (by decide) (by decide)))) (ae (aa 1) (ae (aa 2) (ae (aa 3) (ae (ay (aa 5) af (aU (bf (ns:=dnP c m) (i:=1) (by decide) (by rw [hl]; decide)))) (ae af ag)))))) ⟨c.fdiv 8,T,R,C,dnN c m,0,?_,hT,by omega,by decide,rfl⟩) (by unfold dnS; rw [e2]; rfl)
   have:(dnP c m).getD 1 0=(dnN c m:Nat):=by rw [e1]; omega
   rw [<- this]
   rfl
theorem sM (F:Fun K "_law_one" qual (top 96) f fd) (hb:∀ x ∈ aj,mg x=none) (c_l_numbers:Cal P w K mg base k "_law_numbers" bo) (c_l_cell:Cal P w K mg base k "_law_cell" gn) (c_l_drawn:Cal P w K mg base k "_law_drawn" gJ):aG P w K mg base CX0 (k + 1) f fd ["_law_script"] (spD K lq):=by
 refine fnD F mn hb (by rintro _ _ ⟨_,rfl,_⟩; rfl) ?_
 rintro _ _ ⟨ns,rfl,rfl⟩ cdv A outer s H E b
 have nd:=mn.nd
 have hl:(oeP ns).length=4:=eD ..
 obtain ⟨h1,h2,h3,h4,h5,h6⟩:=oS ns
 have eT:=yU ns
 have eR:=zB ns
 have eC:=yN ns
 have a0:atI ((oeP ns).map D.int) 0=some (.int ((oeP ns).getD 0 0)):=bf (by decide) (by rw [hl]; decide)
 have a1:atI ((oeP ns).map D.int) 1=some (.int ((oeP ns).getD 1 0)):=bf (by decide) (by rw [hl]; decide)
 have a2:atI ((oeP ns).map D.int) 2=some (.int ((oeP ns).getD 2 0)):=bf (by decide) (by rw [hl]; decide)
 have a3:atI ((oeP ns).map D.int) 3=some (.int ((oeP ns).getD 3 0)):=bf (by decide) (by rw [hl]; decide)
 have a47:atI [D.int 4,.int 7] (if decide ((oeP ns).getD 0 0=1) then 1 else 0)=some (.int (if (oeP ns).getD 0 0=1 then 7 else 4)):=by
   by_cases z:(oeP ns).getD 0 0=1
   · rw [if_pos z,decide_eq_true z]; rfl
   · rw [if_neg z,decide_eq_false z]; rfl
 refine aI 1 nd (x_call b c_l_numbers (ae (x_call b c_l_cell (ae (aa 0) (ae af ag)) ⟨ns,0,rfl,rfl⟩) (ae (bA (cA (ae af (ae af (ae af (ae af ag)))))) ag)) ⟨_,[8,7,7,7],rfl,by decide,λb hb=>qH (by simp at hb; omega) (by simp at hb; omega),rfl⟩) (iU 1 ?_)
 refine aI 2 nd (aB af (aB (ay (aa 1) af (aU a1)) (ay (bA (cA (ae af (ae af ag)))) (qt b (ae (cu (ay (aa 1) af (aU a0)) af jo) ag) vI) (aU a47)) (bV (by split <;> decide))) bc) ?_
 show PSs _ _ (dS _ [.d (.lst (ns.map .int)),.d (.lst ((oeP ns).map .int)),.d (.int (1 + ((oeP ns).getD 1 0).fmod (if (oeP ns).getD 0 0=1 then 7 else 4)))] _)
 rw [eT]
 refine aJ (x_call b c_l_drawn (ae (x_call b c_l_cell (ae (aa 0) (ae af ag)) ⟨ns,1,rfl,rfl⟩) (ae (aa 2) (ae (aB af (aB (ay (aa 1) af (aU a2)) (aa 2) (bV (by omega))) bc) (ae (aB af (aB (ay (aa 1) af (aU a3)) (aa 2) (bV (by omega))) bc) (ae af ag))))) ⟨_,oeT ns,oeR ns,oeC ns,14,by rw [eR,eC]; rfl,h1,by decide,rfl⟩) rfl
end
end K66
namespace Hy
open PySem PySem.Spec PyProof.Rows L2
open Ev (D Den ax)
noncomputable def dNE (K:PySem.W.Frag) (τ τ':List Sl) (d:D):TE:=λσ H Q=>∃ A H₀ B,Sta K A H₀ τ B σ H/\∀ v H',Sta K A H₀ τ' B σ H'->Den K (hd H' (own A B)) v d->Q v H'
section
variable {X:Cx} {τ τ' τ'':List Sl} {e:Expr} {es:List Expr} {pos p q:Pos} {k:Nat} {N:Po} {rest:List Stmt} {ds:List D} {W W':Wx} {d:D} {R:V->List Addr->Prop}
theorem Ap (h:PE X e (dN X.K τ τ')):PE X e (dNE X.K τ τ' .non):=peW h λσ H Q ⟨A,H₀,B,S,kk⟩=>⟨A,H₀,B,S,λH' S'=>kk _ H' S' .non⟩
theorem vz (i:Nat) {n:Str} {p:Pos} (hN:X.N.Nodup) (he:PE X e (dNE X.K τ τ' d)) (hr:PSs X rest (dS X.K (τ'.set i (.d d)) N)) (hi:X.N[i]?=some n:=by rfl) (hx:Loc X.env.scope n:=by first | exact .inl rfl | exact .inr rfl) (hs:swapsWith e (some (.Name n p)) pos.line X.env=pure false:=by rfl)
   (hf:X.fn n=true\/X.env.scope.names.lookup n=some .local:=by first | exact .inl rfl | exact .inr rfl | assumption):PSs X (.Assign [.Name n p] e pos :: rest) (dS X.K τ N):=
 ba (M:=(·=τ'.set i (.d d))) (psW (tO hN hi hx he hs hf) λD σ H ⟨A,H₀,B,S,Me⟩=>⟨A,H₀,B,S,λv H' S' dv=>Me.nx _ _ _ _ rfl (S'.set (ak.refl _) (bs:=[]) (λ_ z=>nomatch z) (gy dv))⟩) λ_ e=>e ▸ hr
end
section
variable {P:Program} {w:World} {K:PySem.W.Frag} {mg:Str->Option Value} {base:Heap}
end
end Hy
namespace Hy
open PySem PySem.Spec PyProof.Rows L2
open Ev (D Den ax au aR aF)
noncomputable def zC:D->Bool
 | .tup _=>true
 | _=>false
mutual
noncomputable def ltD:D->Bool
 | .tup xs=>cS xs
 | .lst xs=>xs.all zC && cS xs
 | .box _=>false
 | _=>true
noncomputable def cS:List D->Bool
 | []=>true
 | x :: xs=>ltD x && cS xs
end
noncomputable def uj (H:Hp) (b:Addr):Prop:=∃ vs,H b=some (.lst vs)/\vs ≠ []/\∀ v ∈ vs,∃ i,v=.int i
mutual
theorem oX {K:PySem.W.Frag} {H:Hp} {M M2:Addr->Prop} (hm:∀ b,M2 b->M b\/uj H b):∀ {v:V} {x:D},ltD x=true->Den K (hd H M) v x->Den K (hd H M2) v x
 | _,_,_,.non=>.non
 | _,_,_,.bl=>.bl
 | _,_,_,.int=>.int
 | _,_,_,.str=>.str
 | _,.tup ds,hx,.tup (a:=a) (vs:=vs) h r=>by
   rw [ltD] at hx
   refine .tup ?_ (fV hm hx r)
   rcases h with (h | ⟨o,h⟩) | h
   · obtain ⟨z1,z2⟩:=ao.mp h
     refine .inl (.inl (ao.mpr ⟨λz=>?_,z2⟩))
     rcases hm a z with w | ⟨us,w,_⟩
     · exact z1 w
     · rw [z2] at w; cases w
   · obtain ⟨z1,z2⟩:=ao.mp h
     refine .inl (.inr ⟨o,ao.mpr ⟨λz=>?_,z2⟩⟩)
     rcases hm a z with w | ⟨us,w,_⟩
     · exact z1 w
     · rw [z2] at w; cases w
   · exact .inr h
 | _,.lst ds,hx,.lst (a:=a) (vs:=vs) h r=>by
   rw [ltD,Bool.and_eq_true] at hx
   refine .lst ?_ (fV hm hx.2 r)
   rcases h with (h | ⟨o,h⟩) | h
   · obtain ⟨z1,z2⟩:=ao.mp h
     refine .inl (.inl (ao.mpr ⟨λz=>?_,z2⟩))
     rcases hm a z with w | ⟨us,w,n0,n1⟩
     · exact z1 w
     · rw [z2] at w
       cases w
       cases r with
       | nil=>exact n0 rfl
       | @cons v d vs' ds' dh dr=>
         obtain ⟨i,ev⟩:=n1 v (List.mem_cons_self ..)
         have:=List.all_eq_true.mp hx.1 d (List.mem_cons_self ..)
         cases dh with
         | tup _ _=>cases ev
         | non=>cases this
         | bl=>cases this
         | int=>cases this
         | str=>cases this
         | lst _ _=>cases this
         | box _=>cases this
   · obtain ⟨z1,z2⟩:=ao.mp h
     refine .inl (.inr ⟨o,ao.mpr ⟨λz=>?_,z2⟩⟩)
     rcases hm a z with w | ⟨us,w,_⟩
     · exact z1 w
     · rw [z2] at w; cases w
   · exact .inr h
 | _,.box _,hx,_=>by rw [ltD] at hx; cases hx
theorem fV {K:PySem.W.Frag} {H:Hp} {M M2:Addr->Prop} (hm:∀ b,M2 b->M b\/uj H b):∀ {vs:List V} {xs:List D},cS xs=true->ax K (hd H M) vs xs->ax K (hd H M2) vs xs
 | _,_,_,.nil=>.nil
 | _,_ :: _,hx,.cons h r=>by
   rw [cS,Bool.and_eq_true] at hx
   exact .cons (oX hm hx.1 h) (fV hm hx.2 r)
end
noncomputable def yq (W:Wx):Prop:=∀ {K:PySem.W.Frag} {H:Hp} {M M2:Addr->Prop} {u:V} {bs:List Addr},(∀ b,M2 b->M b\/uj H b)->W.p K (hd H M) H u bs->W.p K (hd H M2) H u bs
theorem bI.low {K:PySem.W.Frag} {H:Hp} {M M2:Addr->Prop} (hm:∀ b,M2 b->M b\/uj H b):∀ {kvs:List (Key × V)} {m:List (Str × D)},(∀ p ∈ m,ltD p.2=true)->bI K (hd H M) kvs m->bI K (hd H M2) kvs m
 | [],[],_,_=>trivial
 | _ :: _,q :: _,h,⟨⟨a,b⟩,c⟩=>⟨⟨a,oX hm (h q (List.mem_cons_self ..)) b⟩,bI.low hm (λp hp=>h p (List.mem_cons_of_mem _ hp)) c⟩
 | [],_ :: _,_,h=>h.elim
 | _ :: _,[],_,h=>h.elim
theorem wkW.low {C:Addr} {m:List (Str × D)} {ds:List D} (h1:∀ p ∈ m,ltD p.2=true) (h2:cS ds=true):yq (wkW C m ds):=λhm ⟨x,dx,kd,dl,kvs,vs,z0,z1,z2,z3,z4,z5,z6,z7⟩=>
 ⟨x,dx,kd,dl,kvs,vs,z0,z1,z2,z3,z4,z5,z6.low hm h1,fV hm h2 z7⟩
noncomputable def ot (ns ms:List Int):Nd:=.l [.l ((ns.map .int).map .d),.l ((ms.map .int).map .d)]
theorem jd {K:PySem.W.Frag} {G H:Hp}:∀ {vs:List V} {bs:List Addr} {xs:List D},aO K G H vs bs (xs.map .d)->ax K G vs xs/\bs=[]
 | _,_,[],.nil=>⟨.nil,rfl⟩
 | _,_,_ :: _,.cons h r=>by
   cases h with
   | d h=>
     obtain ⟨a,b⟩:=jd r
     exact ⟨.cons h a,by rw [b]; rfl⟩
section
variable {X:Cx} {τ:List Sl} {e1 e2 p0 p1:Expr} {pos q apos:Pos} {k:Nat} {x1 x2:D} {W W':Wx} {R:V->List Addr->Prop} {ns ms:List Int}
theorem Sta.two {K:PySem.W.Frag} {A:Addr->Prop} {H₀ H:Hp} {B:Nat->List Addr} {σ:L2.St} (S:Sta K A H₀ τ B σ H) {j:Nat} (hj:τ[j]?=some (.n (ot ns ms))) :
   ∃ t l0 l1 v0 v1,(σ[j]?).join=some (.ref t)/\H t=some (.lst [.ref l0,.ref l1])/\H l0=some (.lst v0)/\H l1=some (.lst v1)/\ax K (hd H (own A B)) v0 (ns.map .int)/\ax K (hd H (own A B)) v1 (ms.map .int)/\l0 ∈ B j/\l1 ∈ B j:=by
 obtain ⟨_,u,e,ok⟩:=S.sl j _ hj
 cases h:B j with
 | nil=>rw [h] at ok; cases ok
 | cons b0 bs=>
   rw [h] at ok
   cases ok with
   | l hH r=>
     cases r with
     | cons h0 r=>cases r with
       | cons h1 r=>
         cases r
         cases h0 with
         | l g0 r0=>cases h1 with
           | l g1 r1=>
             obtain ⟨d0,rfl⟩:=jd r0
             obtain ⟨d1,rfl⟩:=jd r1
             exact ⟨_,_,_,_,_,e,hH,g0,g1,d0,d1,by simp,by simp⟩
theorem uY (i j:Nat) {nk m:Str} {C:Addr} {Φ:Wx->List D->Wx->Prop} {pl:Sem Bool} (Bb:Bk X k) (hc:Cls X.K C) (cl:bU X.prog X.w X.K X.mg X.base k C m (spW X.K Φ)) (hW:vh X.K C m W) (hΦ:Φ W [x1,x2,.lst (ns.map .int),.lst (ms.map .int)] W') (hi:τ[i]?=some (.w (fJ R W))) (hj:τ[j]?=some (.n (ot ns ms))) (hij:i ≠ j) (hn:ns ≠ []) (hm0:ms ≠ []) (hlow:yq W')
   (h1:PE X e1 (dE X.K true τ (.d x1))) (h2:PE X e2 (dE X.K true τ (.d x2))) (h3:PE X p0 (dP X.K τ j [0])) (h4:PE X p1 (dP X.K τ j [1])) (hNi:X.N[i]?=some nk:=by rfl)
   (hv:Vis X.env.scope nk:=by first | exact Or.inl rfl | exact Or.inr (Or.inl rfl) | exact Or.inr (Or.inr rfl)) (hd1:(nk == ("__debug__" : Str))=false:=by decide) (hcd:(nk == ("__classdict__" : Str))=false:=by decide)
   (hs1:starEach [e1,e2,p0,p1] X.env=(false,eval e1 X.env) :: starEach [e2,p0,p1] X.env:=by rfl) (hs2:starEach [e2,p0,p1] X.env=(false,eval e2 X.env) :: starEach [p0,p1] X.env:=by rfl) (hs3:starEach [p0,p1] X.env=(false,eval p0 X.env) :: starEach [p1] X.env:=by rfl) (hs4:starEach [p1] X.env=(false,eval p1 X.env) :: starEach [] X.env:=by rfl)
   (hpl:(backTo pos (starEach [e2,p0,p1] X.env)).any (·.1)=false:=by rfl)
   (ht:eval (.Call (.Attribute (.Name nk q) m apos) [e1,e2,p0,p1] [] pos) X.env=(do
     let ov <- eval (.Name nk q) X.env
     standAt apos.atName
     let (f,first) <- holding [ov] (getMethod ov m pl)
     callWith pos f first (backTo pos (starEach [e1,e2,p0,p1] X.env)) (backToKw pos (keywordEach [] X.env))):=by rfl) :
   PE X (.Call (.Attribute (.Name nk q) m apos) [e1,e2,p0,p1] [] pos) (dN X.K τ (τ.set i (.w (fJ R W')))):=by
 obtain ⟨f,fd,ps,F,hm,hb⟩:=cl
 refine peW (k9 (pl:=pl) (bh (i:=i) hNi hv hd1 hcd) hc hm F Bb.room hb .nil jX (bw h1 (bw h2 (bw h3 (bw h4 di hs4) hs3) hs2) hs1) hs1 hpl ht) λσ H Q ⟨A,H₀,B,S,kk⟩=>?_
 obtain ⟨nd,u,g2,_,wp⟩:=S.sl i _ hi
 obtain ⟨a,dx,fs,rfl,ea,l⟩:=hW wp
 refine ⟨_,slot_of g2,a,dx,fs,rfl,ea,l,aH S λv1 H1 s1 d1=>aH (S.mono s1) λv2 H2 s2 d2=>?_⟩
 have S2:=(S.mono s1).mono s2
 refine ⟨A,H₀,B,S2,λu3 v3 H3 eu3 s3 pv3=>⟨A,H₀,B,S2.mono s3,λu4 v4 H4 eu4 s4 pv4=>?_⟩⟩
 have S4:=(S2.mono s3).mono s4
 obtain ⟨t,l0,l1,w0,w1,et,ht0,hl0,hl1,c0,c1,b0,b1⟩:=S4.two hj
 obtain ⟨nd4,u',k2,r1,wp4⟩:=S4.sl i _ hi
 rw [g2] at k2
 cases k2
 have p3:v3=.ref l0:=by
   rw [eu3] at et
   cases et
   obtain ⟨a',vs',w',z1,z2,z3,z4⟩:=pv3
   cases z1
   rcases z2 with z2 | z2
   · have:=s4 _ _ z2; rw [ht0] at this; cases this; cases z3; exact z4
   · have:=s4 _ _ z2; rw [ht0] at this; cases this
 have p4:v4=.ref l1:=by
   rw [eu4] at et
   cases et
   obtain ⟨a',vs',w',z1,z2,z3,z4⟩:=pv4
   cases z1
   rcases z2 with z2 | z2
   · rw [ht0] at z2; cases z2; cases z3; exact z4
   · rw [ht0] at z2; cases z2
 subst p3; subst p4
 have n0:∀ b,b ∈ B i->b ≠ l0/\b ≠ l1:=λb hb=>⟨λz=>hij (S4.uq i j b hb (z ▸ b0)),λz=>hij (S4.uq i j b hb (z ▸ b1))⟩
 have sub:∀ b,(own A B b/\b ≠ l0/\b ≠ l1)->own A B b:=λb z=>z.1
 have md:∀ {G:Hp} {v:V} {x:D},ak G H4->Den X.K (hd G (own A B)) v x->Den X.K (hd H4 λb=>own A B b/\b ≠ l0/\b ≠ l1) v x:=λsG dG=>dG.mono (av sG sub)
 have e0:=gH c0
 have e1':=gH c1
 refine ⟨λb=>own A B b/\b ≠ l0/\b ≠ l1,B i,_,_,W,_,W',rfl,⟨λb hb=>⟨.inr ⟨i,hb⟩,n0 b hb⟩,λb z=>(S4.qx i).2 b z.1⟩,nd4,W.fr (av (ak.refl _) sub) (λ_ _=>rfl) wp4,?_,hΦ,λH' bt w'=>kk H' ?_⟩
 · refine .cons (md (s2.trans (s3.trans s4)) d1) (.cons (md (s3.trans s4) d2) (.cons (.lst (vs:=w0) (.inl (.inl (ao.mpr ⟨λz=>z.2.1 rfl,hl0⟩))) (c0.mono (av (ak.refl _) sub))) (.cons (.lst (vs:=w1) (.inl (.inl (ao.mpr ⟨λz=>z.2.2 rfl,hl1⟩))) (c1.mono (av (ak.refl _) sub))) .nil)))
 · refine S4.uL hi g2 bt ⟨r1,hlow (λb z=>?_) w'⟩
   by_cases z0:b=l0
   · subst z0
     refine .inr ⟨w0,bt _ _ (λy=>(n0 _ y).1 rfl) hl0,by rw [e0]; simpa using hn,λv hv=>?_⟩
     rw [e0] at hv
     obtain ⟨i',_,rfl⟩:=List.mem_map.mp hv
     exact ⟨i',rfl⟩
   · by_cases z1:b=l1
     · subst z1
       refine .inr ⟨w1,bt _ _ (λy=>(n0 _ y).2 rfl) hl1,by rw [e1']; simpa using hm0,λv hv=>?_⟩
       rw [e1'] at hv
       obtain ⟨i',_,rfl⟩:=List.mem_map.mp hv
       exact ⟨i',rfl⟩
     · exact .inl ⟨z,z0,z1⟩
end
section
variable {X:Cx} {C:Bool} {τ:List Sl} {a b:Expr} {pos:Pos} {x y:D}
theorem t6 {j:Nat} {p':Pos} (h:PE X a (dE X.K C τ (.d .non))):PT X (.Compare a [.IsNot] [.Constant .none j p'] pos) (dT X.K τ false):=
 ptW (nE (uG h)) λσ H Q ⟨A,H₀,B,S,k⟩=>aH S λv H' e d=>by
   cases d
   exact ⟨_,rfl,k H' e⟩
end
end Hy
namespace Hy
open PySem PySem.Spec PyProof.Rows L2
open Ev (D Den ax au)
section
variable {X:Cx} {C:Bool} {τ:List Sl} {x y z:D} {a b e c0 tg it elt:Expr} {es ifs:List Expr} {pos p q q':Pos} {k c:Nat} {cl:Nat->Addr} {xs:List D} {scope:Scope}
end
section
variable {P:Program} {w:World} {K:PySem.W.Frag} {mg:Str->Option Value} {base:Heap} {cl:Nat->Addr}
end
end Hy
namespace Hy
open PySem PySem.Spec PyProof.Rows L2
open Ev (D Den ax bT cP)
section
variable {X:Cx} {C:Bool} {τ:List Sl} {a e tg it elt:Expr} {es ifs:List Expr} {pos p:Pos} {Et:Hp->Prop} {scope:Scope}
end
end Hy
namespace Hy
open PySem PySem.Spec PyProof.Rows L2
open Ev (D Den ax au)
section
variable {X:Cx} {C:Bool} {τ:List Sl} {e o:Expr} {k c i:Nat} {N:Po} {rest body:List Stmt} {cl:Nat->Addr} {n:Str} {fw S:Addr} {p p' q psm pr ph pos pc pq:Pos} {t:Nd} {pt:List Nat} {xs:List Nd}
theorem rF {ap cp:Pos} (ho:PE X o (dP X.K τ i pt)) (hi:τ[i]?=some (.n t)) (hp:lO pt t=some (.l xs)) (hr:PSs X rest (dS X.K (τ.set i (.n (gd pt t (.l [])))) N))
   (hline:(ap.endLine == cp.line)=true:=by rfl) (hs:swapsWith (.Call (.Attribute o "clear" ap) [] [] cp) none pos.line X.env=pure false:=by rfl) (hbase:attributeBase o "clear" X.env (eval o X.env)=eval o X.env:=by rfl) :
   PSs X (.Expr (.Call (.Attribute o "clear" ap) [] [] cp) pos :: rest) (dS X.K τ N):=
 ba (M:=(·=τ.set i (.n (gd pt t (.l []))))) (psW (da (w6 PySem.F.plainAttrs_list PySem.F.slot_list_clear PySem.F.type_list_clear sF ho hbase hline) hs) λD σ H ⟨A,H₀,B,S,Me⟩=>by
   refine ⟨A,H₀,B,S,λu v H1 eu e1 pv=>?_⟩
   have S1:=S.mono e1
   obtain ⟨u',l,vs,bs0,eu',pv',hH,r0,nd0,hal,hown,put⟩:=S1.putN hi hp
   rw [eu] at eu'
   cases eu'
   obtain rfl:=pv.det pv'
   obtain ⟨B',S'⟩:=put (H1:=H1) (vs':=[]) (bs1:=[]) (xs':=[]) (ak.refl _) List.nodup_nil (λ_ z=>nomatch z) .nil
   exact ⟨.inl ⟨rfl,_,SqL.of hH⟩,l,vs,rfl,rfl,hH,Me.nx _ B' _ _ rfl S'⟩) λ_ e=>e ▸ hr
end
end Hy
namespace K66
open PySem PySem.Spec PyProof.Rows L2 Hy
open Ev (D Den ax aM aK)
noncomputable def pz (ds:List D) (r:Sl):Prop:=∃ ns:List Int,ns.length<=63/\ds=[.lst (ns.map .int)]/\r=.d (.bl true)
theorem mK {m:List (Str × D)} {n:Str} {d:D} (h:aQ m n=none):jL m n d=m++[(n,d)]:=by
 unfold jL aQ at *
 have h:(m.find? λp=>decide (p.1=n))=none:=by
   cases e:m.find? λp=>decide (p.1=n) with
   | none=>rfl
   | some x=>rw [e] at h; cases h
 rw [if_neg]
 intro z
 obtain ⟨p,h1,h2⟩:=List.any_eq_true.mp z
 have:=List.find?_eq_none.mp h p h1
 exact this h2
theorem qw {m:List (Str × D)} {a n:Str} {d:D} (h:a=n):aQ ((a,d) :: m) n=some d:=by simp [aQ,h]
theorem qI {m:List (Str × D)} {a n:Str} {d:D} (h:a ≠ n):aQ ((a,d) :: m) n=aQ m n:=by simp [aQ,h]
theorem m5 {m l:List (Str × D)} {n:Str} {d:D} (h:aQ m n=some d):aQ (m++l) n=some d:=by
 unfold aQ at *
 rw [List.find?_append]
 cases e:m.find? λp=>decide (p.1=n) with
 | none=>rw [e] at h; cases h
 | some x=>rw [e] at h; exact h
theorem jq {m:List (Str × D)} {a n:Str} {d:D} (h:aQ m n=none):aQ (m++[(a,d)]) n=if a=n then some d else none:=by
 unfold aQ at *
 rw [List.find?_append]
 cases e:m.find? λp=>decide (p.1=n) with
 | some x=>rw [e] at h; cases h
 | none=>
   by_cases z:a=n
   · simp [z]
   · simp [z]
noncomputable def rsF (p:Int) (R:Nat):List Nat:=(List.range R).filter λk=>decide (Builtin.bitAnd (p / 2 ^ k) 1=1)
theorem xN:∀ R,R < 8->∀ p:Nat,p < 128->1<=p->p < 2 ^ R->((List.range R).any λk=>decide (Builtin.bitAnd ((p:Int) / 2 ^ k) 1=1))=true:=by decide +kernel
theorem mw {p:Int} {R:Nat} (h7:R<=7) (h1:1<=p) (h2:p < 2 ^ R):bN R (rsF p R):=by
 have pw:(rsF p R).Pairwise (· < ·):=List.Pairwise.filter _ List.pairwise_lt_range
 have lt:∀ x ∈ rsF p R,x < R:=λx hx=>List.mem_range.mp (List.mem_filter.mp hx).1
 have ge:∀ k (hk:k < (rsF p R).length),(rsF p R).getD k 0=(rsF p R)[k]:=λk hk=>by simp [hk]
 refine ⟨?_,λk hk=>?_,λj k hj hk=>?_⟩
 · obtain ⟨n,rfl⟩:=Int.eq_ofNat_of_zero_le (show 0<=p by omega)
   have e:((2 ^ R:Nat):Int)=(2:Int) ^ R:=Int.natCast_pow ..
   have l:(2:Nat) ^ R<=2 ^ 7:=Nat.pow_le_pow_right (by decide) h7
   have:=xN R (by omega) n (by omega) (by omega) (by omega)
   obtain ⟨x,hx,hb⟩:=List.any_eq_true.mp this
   exact List.length_pos_of_mem (List.mem_filter.mpr ⟨hx,hb⟩)
 · rw [ge k hk]
   exact lt _ (List.getElem_mem hk)
 · rw [ge k hk,ge j (by omega)]
   exact List.pairwise_iff_getElem.mp pw j k (by omega) hk hj
theorem oM (p:Int) (R:Nat):((List.range (fo 0 (R:Int).toNat).length).filter λk=>decide (Builtin.bitAnd (p / 2 ^ k) 1=1)).map (λk=>D.int (k:Nat))=nI (rsF p R):=by
 rw [aD,Int.toNat_natCast]
 rfl
theorem mz (ns ms:List Int):Ev.dX (.lst [.lst (ns.map .int),.lst (ms.map .int)]):=by
 have z:∀ ns:List Int,Ev.b6 (ns.map .int)=true/\Ev.cx (ns.map .int)=0:=λns=>by
   induction ns with
   | nil=>simp [Ev.b6,Ev.cx]
   | cons n ns ih=>rw [List.map_cons,Ev.b6,Ev.cx,ih.1,ih.2]; simp only [Ev.cln,Ev.dep]; exact ⟨rfl,rfl⟩
 unfold Ev.dX
 simp only [Ev.cln,Ev.b6,Ev.dep,Ev.cx,(z ns).1,(z ms).1,(z ns).2,(z ms).2]
 exact ⟨rfl,by decide⟩
theorem yb (ns ms:List Int):fzD (.n (ot ns ms))=some (.lst [.lst (ns.map .int),.lst (ms.map .int)]):=by
 show some (ndD (ot ns ms))=_
 unfold ot
 simp only [ndD,jI,mJ]
theorem yr (s:Stp):ltD (stD s)=true:=by simp [stD,frD,ltD,cS]
theorem sN:∀ ss:List Stp,cS (ss.map stD)=true/\(ss.map stD).all zC=true
 | []=>⟨by simp [cS],rfl⟩
 | s :: ss=>by
   obtain ⟨h1,h2⟩:=sN ss
   rw [List.map_cons,cS,yr,h1,List.all_cons,h2]
   exact ⟨rfl,rfl⟩
theorem sL (T R C:Nat) (ss:List Stp):ltD (aS T R C ss)=true:=by
 obtain ⟨h1,h2⟩:=sN ss
 simp [aS,ltD,cS,h1,h2]
theorem se {a b:List D} (h1:cS a=true) (h2:cS b=true):cS (a++b)=true:=by
 induction a with
 | nil=>exact h2
 | cons x a ih=>
   rw [cS,Bool.and_eq_true] at h1
   rw [List.cons_append,cS,h1.1,ih h1.2]
   rfl
theorem uU {T R C:Nat} {ss:List Stp} {rs cs:List Nat} (ok:okL T R C ss) (hr:bN R rs) (hc:bN C cs) (hl:ss.length<=200) {i k:Nat} (hi:i < rs.length) (hk:k < cs.length):bwd (cb ss rs cs) i k=bwd ss (rs.getD i 0) (cs.getD k 0):=by
 have h1:=hr.len
 have h2:=hc.len
 have h3:=ok.rT
 have h4:=ok.cT
 have h5:=hr.lt i hi
 have h6:=hc.lt k hk
 rw [<- ko (T:=T) (gc (m9 ok hr hc hl)) (by omega) (by omega),uh hr hc hk hi,ko (T:=T) (gc ok) (by omega) (by omega)]
theorem ur {T R C:Nat} {ss:List Stp} {rs cs:List Nat} (ok:okL T R C ss) (hr:bN R rs) (hc:bN C cs) (hl:ss.length<=200):((List.range (nI rs).length).map λi=>D.lst ((List.range (nI cs).length).map λk=>frD (bwd ss (rs.getD i 0) (cs.getD k 0))))=bB cs.length rs.length (bwd (cb ss rs cs)):=by
 unfold bB
 rw [dn,dn]
 refine List.map_congr_left λi hi=>?_
 have hi:=List.mem_range.mp hi
 rw [List.map_map]
 refine congrArg D.lst (List.map_congr_left λk hk=>?_)
 have hk:=List.mem_range.mp hk
 show _=frD (bwd (cb ss rs cs) i k)
 rw [uU ok hr hc hl hi hk]
theorem ze {rs:List Nat} (i:Nat) (h:i < (nI rs).length):(nI rs)[i]=.int (rs.getD i 0:Nat):=by
 have:i < rs.length:=by rw [dn] at h; exact h
 simp [nI,this]
theorem xt (ns:List Int):okL (oeT ns) (oeR ns) (oeC ns) (oeS ns):=by
 obtain ⟨h1,h2,h3,h4,h5,h6⟩:=oS ns
 have:=rE (ns.getD 1 0) (oeT ns) 14
 exact ⟨h1,h2,h3,h4,h5,h6,by unfold oeS; omega,xo _ h1 (by unfold dnG; split <;> decide)⟩
theorem zd (ns:List Int):∃ e,(1<=e/\e<=100)/\(e + 1) * (oeS ns).length<=1000/\∀ s ∈ oeS ns,Wq e s.2.2:=by
 have h:=wZ (ns.getD 1 0) 14
 have all:∀ (e:Nat) (ss:List Stp),(∀ i,i < ss.length->Wq e (ss.getD i ("weigh",0,0)).2.2)->∀ s ∈ ss,Wq e s.2.2:=λe ss hw s hs=>by
   obtain ⟨i,hi,rfl⟩:=List.getElem_of_mem hs
   have:=hw i hi
   simpa [hi] using this
 unfold oeS dnS dnG
 by_cases z:(dnP (ns.getD 1 0) 14).getD 0 0=1
 · rw [if_pos z]
   refine ⟨67,by decide,?_,all _ _ (u5 _)⟩
   rw [fb]
   unfold dnN
   rw [if_pos z]
   omega
 · rw [if_neg z]
   refine ⟨3,by decide,?_,all _ _ (wo _)⟩
   rw [fb]
   unfold dnN
   rw [if_neg z]
   omega
section
variable {P:Program} {w:World} {K:PySem.W.Frag} {mg:Str->Option Value} {base:Heap} {qual:Str} {f fi:Addr} {fd fdi:FuncData} {k:Nat} {Cl:Addr} {psi:List Str}
theorem gx (hc:Cls K Cl) (n1:a6 K Cl "kept") (n2:a6 K Cl "deeds") (F:Fun K "__init__" "Works.__init__" (mth 70 0) f fd) (hb:∀ x ∈ aj,mg x=none):aG P w K mg base CX0 (k + 1) f fd ["self"] (spI Cl):=
 fnI F gb rfl hc n1 n2 rfl rfl (by decide) (by decide) (λ_ _ _ _ _ _=>Or.inl rfl) (λ_ _ _ _ _ _=>rfl) (λ_ _ _ _ _ _=>rfl)
set_option maxHeartbeats 2000000 in
theorem xg (hc:Cls K Cl) (hmk:Mk K Cl fi) (hfi:aG P w K mg base CX0 k fi fdi psi (spI Cl)) (hbi:Binds K fdi psi []) (hcm:mg "Works" = some (.ref Cl)) (F:Fun K "law" qual (top 98) f fd) (hb:∀ x ∈ aj,mg x=none)
   (c_l_one:Cal P w K mg base (k + 1) "_law_one" lq) (c_l_names:Cal P w K mg base (k + 1) "_law_names" gO) (c_l_cell:Cal P w K mg base (k + 1) "_law_cell" gn) (c_l_copy:Cal P w K mg base (k + 1) "_law_copy" iO) (c_l_numbers:Cal P w K mg base (k + 1) "_law_numbers" bo) (c_l_ladders_table:Cal P w K mg base (k + 1) "_law_ladders_table" bj)
   (c_put:bU P w K mg base (k + 1) Cl "put" (spW K (rH Cl a4 bF jn))) (c_cut:bU P w K mg base (k + 1) Cl "cut" (spW K (so Cl))) (c_ladder:bU P w K mg base (k + 1) Cl "ladder" (spV K (oe Cl a4 jn)))
   (c_l_told:wq P w K mg base (k + 1) "_law_told" (spV K (ng Cl))):aG P w K mg base CX0 (k + 1 + 1) f fd ["_law_script"] (spD K pz):=by
 refine fnD F tD hb (by rintro _ _ ⟨_,_,rfl,_⟩; rfl) ?_
 rintro _ _ ⟨ns,hn,rfl,rfl⟩ cdv A outer s H E b
 have nd:=tD.nd
 have ok:=xt ns
 obtain ⟨e,he,hs,hw⟩:=zd ns
 have sz0:Szl (oeS ns):=.of he.2 hs hw
 have l14:=rE (ns.getD 1 0) (oeT ns) 14
 have l14:(oeS ns).length<=14:=l14
 refine aI 1 nd (x_call b c_l_one (ae (aa 0) ag) ⟨ns,rfl,rfl⟩) ?_
 generalize oeS ns=ss at *
 generalize oeT ns=T at *
 generalize oeR ns=R at *
 generalize oeC ns=C at *
 have r1:=ok.r1
 have c1:=ok.c1
 have rT:=ok.rT
 have cT:=ok.cT
 have t7:=ok.t7
 generalize hcn:ns.getD 2 0=c2
 have oN:∀ j,qD (nm c2 j):=zk c2
 have ne:∀ {i j},i < j->j < 26->nm c2 i ≠ nm c2 j:=λh h'=>yz c2 h h'
 refine aI 2 nd (x_call b c_l_names (ae (x_call b c_l_cell (ae (aa 0) (ae af ag)) ⟨ns,2,rfl,by rw [hcn]⟩) (ae af ag)) ⟨c2,6,rfl,by decide,rfl⟩) (iU 2 ?_)
 have an:∀ j:Nat,j < 6->atI ((List.range 6).map λk=>D.str (nm c2 k)) (j:Int)=some (.str (nm c2 j)):=λj hj=>ai (by simp [hj])
 have sl:(1000:Nat)<=sizeLine:=by decide
 refine aI 3 nd (uM b hmk hfi hbi rfl hcm) ?_
 have p1:jL [] (nm c2 0) (aS T R C ss)=[(nm c2 0,aS T R C ss)]:=mK rfl
 refine kL (mU 3 b hc c_put (W':=wkW Cl [(nm c2 0,aS T R C ss)] [.tup [.str (nm c2 0),.non]]) (wkW.ins ⟨by decide,by decide⟩) ⟨[],[],nm c2 0,aS T R C ss,aS T R C ss,rfl,rfl,⟨_,rfl,oN 0,rfl⟩,rfl,⟨T,R,C,ss,rfl,ok,rfl⟩,⟨T,R,C,ss,rfl,rfl⟩,by show 0 < sizeLine; omega,by decide,by rw [p1]; rfl⟩ rfl (ae (ay (aa 2) af (aU (an 0 (by decide)))) (ae (x_call b c_l_copy (ae (aa 1) ag) ⟨T,R,C,ss,rfl,rfl⟩) ag))) ?_
 refine aI 4 nd (x_call b c_l_ladders_table (ae (aa 1) ag) (by obtain ⟨EE,h1,h2⟩:=sz0; exact ⟨EE,T,R,C,ss,rfl,ok,h1,h2,rfl⟩)) (iU 4 ?_)
 have ex:∃ ms:List Int,ms.length<=4/\[D.int (ns.getD 3 0)]++Hy.cutD (ns.map D.int) (some 4) (some 7)=ms.map D.int:=by
   refine ⟨ns.getD 3 0 :: ((ns.take 7).drop 4),by simp; omega,?_⟩
   rw [show (4:Int)=((4:Nat):Int) from rfl,show (7:Int)=((7:Nat):Int) from rfl,uf,<- List.map_take,<- List.map_drop]
   rfl
 obtain ⟨ms,hms,ems⟩:=ex
 have lg:([D.int (ns.getD 3 0)]++Hy.cutD (ns.map D.int) (some 4) (some 7)).length<=4:=by rw [ems,List.length_map]; exact hms
 refine tY 5 6 (g:=λi=>.int (i:Nat)) (g':=λi=>.int (ms.getD i 0)) (λi τ=>∃ (m:List (Str × D)) (dd:List D),m.length<=1 + i/\dd.length<=1 + i/\(∀ p ∈ m,ltD p.2=true)/\cS dd=true/\aQ m (nm c2 0)=some (aS T R C ss)/\(∀ j,i < j->j < 26->aQ m (nm c2 j)=none)/\∃ s5 s6 s7 s8 s9 s10 s11,τ=[.d (.lst (ns.map .int)),.d (aS T R C ss),.d (.lst ((List.range 6).map λk=>D.str (nm c2 k))),.w (fJ (λ_ _=>True) (wkW Cl m dd)),.d (.lst (bB C R (bwd ss))),s5,s6,s7,s8,s9,s10,s11]) b nd
   (vY b (bA (yX (bA (cA (ae (x_call b c_l_cell (ae (aa 0) (ae af ag)) ⟨ns,3,rfl,rfl⟩) ag))) (bA (wC (aa 0) (jj af) (jj af))) ?_))) ?_
   ⟨[(nm c2 0,aS T R C ss)],[.tup [.str (nm c2 0),.non]],Nat.le_refl 1,Nat.le_refl 1,λp hp=>?_,?_,qw rfl,λj hj hj'=>(qI (ne hj hj')).trans rfl,_,_,_,_,_,_,_,rfl⟩ (λi hi τ h=>?_) λτ h=>?_
 · rw [List.length_append] at lg
   show [D.int (ns.getD 3 0)].length + _ < _
   omega
 · intro i h
   show (iQ ([D.int (ns.getD 3 0)]++Hy.cutD (ns.map D.int) (some 4) (some 7)))[i]=_
   simp only [ems]
   exact vK i _
 · obtain rfl:=List.mem_singleton.mp hp
   exact sL T R C ss
 · simp [cS,ltD]
 · obtain ⟨m,dd,hm,hd,lm,ld,l0,ln,s5,s6,s7,s8,s9,s10,s11,rfl⟩:=h
   have hi4:i < 4:=by
     have:i < (iQ ([D.int (ns.getD 3 0)]++Hy.cutD (ns.map D.int) (some 4) (some 7))).length:=hi
     rw [eo] at this
     omega
   generalize ms.getD i 0=cc
   have pR:((2 ^ R:Nat):Int)=(2:Int) ^ R:=Int.natCast_pow ..
   have pC:((2 ^ C:Nat):Int)=(2:Int) ^ C:=Int.natCast_pow ..
   have gR:(2:Nat) ^ 1<=2 ^ R:=Nat.pow_le_pow_right (by decide) r1
   have gC:(2:Nat) ^ 1<=2 ^ C:=Nat.pow_le_pow_right (by decide) c1
   have uR:(2:Nat) ^ R<=2 ^ 7:=Nat.pow_le_pow_right (by decide) (by omega)
   have uC:(2:Nat) ^ C<=2 ^ 7:=Nat.pow_le_pow_right (by decide) (by omega)
   have eB:∀ N:Nat,(1:Int) * 2 ^ ((N:Nat):Int).toNat - 1=2 ^ N - 1:=λN=>by rw [Int.toNat_natCast,Int.one_mul]
   generalize hq:nums cc [2 ^ R - 1,2 ^ C - 1]=q
   have hql:q.length=2:=by rw [<- hq]; exact eD ..
   have hb0:∀ b ∈ ([2 ^ R - 1,2 ^ C - 1]:List Int),0 < b:=by intro b hb; simp at hb; omega
   have q0:0<=q.getD 0 0/\q.getD 0 0 < 2 ^ R - 1:=by rw [<- hq]; exact gw (c:=cc) hb0 (i:=0) (by simp)
   have q1:0<=q.getD 1 0/\q.getD 1 0 < 2 ^ C - 1:=by rw [<- hq]; exact gw (c:=cc) hb0 (i:=1) (by simp)
   have a0:atI (q.map D.int) 0=some (.int (q.getD 0 0)):=bf (by decide) (by rw [hql]; decide)
   have a1:atI (q.map D.int) 1=some (.int (q.getD 1 0)):=bf (by decide) (by rw [hql]; decide)
   refine aI 7 nd (s:=.o (q.map .int)) (by
     rw [<- hq]
     exact x_call b c_l_numbers (ae (aa 6) (ae (bA (cA (ae (aB (aB af (ay (aa 1) af (aw (ai (i:=1) rfl))) (v8 ⟨by omega,by omega,by decide⟩)) af dM) (ae (aB (aB af (ay (aa 1) af (aw (ai (i:=2) rfl))) (v8 ⟨by omega,by omega,by decide⟩)) af dM) ag)))) ag)) ⟨cc,[2 ^ R - 1,2 ^ C - 1],by rw [eB,eB]; rfl,(by show 2<=10000; decide),λb hb=>qH (hb0 b hb) (by simp at hb; omega),rfl⟩) (iU 7 ?_)
   have riR:=mw (p:=1 + q.getD 0 0) (R:=R) (by omega) (by omega) (by omega)
   have riC:=mw (p:=1 + q.getD 1 0) (R:=C) (by omega) (by omega) (by omega)
   refine k6 8 nd (s:=.d (.lst (nI (rsF (1 + q.getD 0 0) R)))) (rg 0 (t:=λk=>decide (Builtin.bitAnd ((1 + q.getD 0 0) / 2 ^ k) 1=1)) (f:=λk=>.int (k:Nat)) b (cW b (ay (aa 1) af (aw (ai (i:=1) rfl))) (by omega) (by omega)) cU (by rw [aD]; omega) (λk hk s0 H0 fp=>aY (aB (aB (aB af (ay (aa 1) af (aU a0)) bc) (aa 0) (vO (by omega))) af vE) af jo) λk hk _ s0 H0 fp=>aa 0) (.inr ?_) ?_
   · rw [oM]
   refine aI 9 nd (s:=.o (((List.range (fo 0 (C:Int).toNat).length).filter λk=>decide (Builtin.bitAnd ((1 + q.getD 1 0) / 2 ^ k) 1=1)).map λk=>D.int (k:Nat))) (cH (rg 0 (t:=λk=>decide (Builtin.bitAnd ((1 + q.getD 1 0) / 2 ^ k) 1=1)) (f:=λk=>.int (k:Nat)) b (cW b (ay (aa 1) af (aw (ai (i:=2) rfl))) (by omega) (by omega)) cU (by rw [aD]; omega) (λk hk s0 H0 fp=>aY (aB (aB (aB af (ay (aa 1) af (aU a1)) bc) (aa 0) (vO (by omega))) af vE) af jo) λk hk _ s0 H0 fp=>aa 0)) ?_
   rw [oM]
   refine iU 9 ?_
   generalize rsF (1 + q.getD 0 0) R=rs at *
   generalize rsF (1 + q.getD 1 0) C=cs at *
   have ro:=riR.one
   have co:=riC.one
   have rl:=riR.len
   have cl:=riC.len
   have nr:(rs.map λ(n:Nat)=>(n:Int)) ≠ []:=λz=>by have:=congrArg List.length z; rw [List.length_map] at this; simp only [List.length_nil] at this; omega
   have nc:(cs.map λ(n:Nat)=>(n:Int)) ≠ []:=λz=>by have:=congrArg List.length z; rw [List.length_map] at this; simp only [List.length_nil] at this; omega
   refine aI 10 nd (s:=.n (ot (rs.map λ(n:Nat)=>(n:Int)) (cs.map λ(n:Nat)=>(n:Int)))) (by
     unfold ot
     rw [<- gh,<- gh]
     exact wF (sI (qt b (ae (aa 8) ag) kr) rfl (sI (qt b (ae (aa 9) ag) kr) rfl yL))) ?_
   have lk:=ln (1 + i) (by omega) (by omega)
   have ei:(1:Int) + (i:Nat)=((1 + i:Nat):Int):=by omega
   have okc:=m9 ok riR riC (by omega)
   have lm':∀ p ∈ m++[(nm c2 (1 + i),aS T rs.length cs.length (cb ss rs cs))],ltD p.2=true:=λp hp=>by
     rcases List.mem_append.mp hp with hp | hp
     · exact lm p hp
     · obtain rfl:=List.mem_singleton.mp hp
       exact sL ..
   have ld':cS (dd++[.tup [.str (nm c2 (1 + i)),.non]])=true:=se ld (by simp [cS,ltD])
   refine vz 11 nd (Ap (uY 3 10 (W':=wkW Cl (m++[(nm c2 (1 + i),aS T rs.length cs.length (cb ss rs cs))]) (dd++[.tup [.str (nm c2 (1 + i)),.non]])) b hc c_cut (wkW.ins ⟨by decide,by decide⟩) ⟨m,dd,nm c2 (1 + i),nm c2 0,T,R,C,ss,rs,cs,rfl,rfl,oN _,lk,oN _,l0,ok,by omega,riR,riC,by omega,by omega,by rw [mK lk,lk]; rfl⟩ rfl rfl (by decide) nr nc (wkW.low lm' ld') (ay (aa 2) (aB af (aa 5) bc) (aU (by rw [ei]; exact an (1 + i) (by omega)))) (ay (aa 2) af (aU (an 0 (by decide)))) (pJ (kq 10) af rfl rfl rfl) (pJ (kq 10) af rfl rfl rfl))) ?_
   refine br (PW.pt (bO (t6 (C:=true) (aa 11)) λh=>(bQ (aY (tN 10 rfl (yb _ _)) (bA (cA (ae (aa 8) (ae (aa 9) ag)))) (v5 b (mz _ _) (by rw [gh,gh]; exact mz _ _)))))) (by rw [gh,gh,dW]; rfl) ?_
   refine rF (pt:=[]++[0]) (xs:=((rs.map λ(n:Nat)=>(n:Int)).map .int).map .d) (pJ (kq 10) af rfl rfl rfl) rfl rfl ?_
   refine rF (pt:=[]++[1]) (xs:=((cs.map λ(n:Nat)=>(n:Int)).map .int).map .d) (pJ (kq 10) af rfl rfl rfl) rfl rfl ?_
   have szc:=xv ok riR riC he hs hw
   have lkc:aQ (m++[(nm c2 (1 + i),aS T rs.length cs.length (cb ss rs cs))]) (nm c2 (1 + i))=some (aS T rs.length cs.length (cb ss rs cs)):=by rw [jq lk,if_pos rfl]
   refine br (aX (aZ (vG (C':=true) (xX (W:=wkW Cl (m++[(nm c2 (1 + i),aS T rs.length cs.length (cb ss rs cs))]) (dd++[.tup [.str (nm c2 (1 + i)),.non]])) 3 b c_l_told ⟨_,_,nm c2 (1 + i),T,rs.length,cs.length,cb ss rs cs,rfl,rfl,oN _,lkc,okc,szc,rfl⟩ rfl (LeW.res _ _) (ae (ay (aa 2) (aB af (aa 5) bc) (aU (by rw [ei]; exact an (1 + i) (by omega)))) (ae ?_ ag)))))) rfl ?_
   · rw [<- ur ok riR riC (by omega)]
     refine bA (cH (cmp 0 (g:=λi=>.int (rs.getD i 0:Nat)) (f:=λi=>.lst ((List.range (nI cs).length).map λk=>frD (bwd ss (rs.getD i 0) (cs.getD k 0)))) b (bL (aa 8)) ze (by rw [dn]; omega) λi' hi' s0 H0 fp=>bA (cH (cmp 0 (g:=λk=>.int (cs.getD k 0:Nat)) (f:=λk=>frD (bwd ss (rs.getD i' 0) (cs.getD k 0))) (b.comp s0 H0 _ fp) (bL (aa 1)) ze (by rw [dn]; omega) λk' hk' s1 H1 fq=>?_))))
     rw [dn] at hi' hk'
     have h1:=riR.lt i' hi'
     have h2:=riC.lt k' hk'
     exact ay (ay (aa 2) (aa 1) (aU (fG h1))) (aa 0) (aU (ai (by rw [List.getElem?_map,List.getElem?_map,List.getElem?_range h2]; rfl)))
   · refine aV ⟨_,_,by rw [List.length_append]; show m.length + 1<=_; omega,by rw [List.length_append]; show dd.length + 1<=_; omega,lm',ld',m5 l0,λj hj hj'=>?_,_,_,_,_,_,_,_,rfl⟩
     rw [jq (ln j (by omega) hj'),if_neg (ne (by omega) hj')]
 · obtain ⟨m,dd,hm,hd,lm,ld,l0,ln,s5,s6,s7,s8,s9,s10,s11,rfl⟩:=h
   refine aJ (s:=.d (.bl (Ev.eqD (aS T R C ss) (aS T R C ss)))) (vG (C':=true) ?_) (by rw [dW])
   exact cu (eW 3 b hc c_ladder (wkW.ins ⟨by decide,by decide⟩) ⟨m,dd,nm c2 0,aS T R C ss,rfl,rfl,⟨_,rfl,oN 0,rfl⟩,l0,⟨T,R,C,ss,rfl,rfl⟩⟩ rfl (LeW.res _ _) (ae (ay (aa 2) af (aU (an 0 (by decide)))) ag)) (aa 1) (vS b (sR ok) (sR ok))
end
end K66
namespace Hy
open PySem PySem.Spec PyProof.Rows L2
open Ev (D Den ax)
noncomputable def Dfn (K:PySem.W.Frag) (x:Str) (st:Stmt) (f:Addr):Prop:=PySem.W.nsIn K mainGlobals x=some (some (.ref f))/\(∃ oc od kV dc pm an cd ct sl,K.lookup f=some ⟨oc,od,.func (PySem.W.fnOf x x (bz st) (aW st) (ah st) .none kV dc pm an cd ct),sl⟩/\PySem.W.codeIn K cd x=true)/\PySem.W.keepIn K (.ref f)=true
noncomputable def BdA (x:Str) (st:Stmt) (ps:List Str):Prop:=∀ (kV dc pm:Value) (an:Option Addr) (cd ct:Value) (us:List Value),us.length=ps.length->bindArgs (PySem.W.fnOf x x (bz st) (aW st) (ah st) .none kV dc pm an cd ct) ⟨us,[]⟩=pure (ps.zip us)
noncomputable def nsL (K:PySem.W.Frag):List Str->Prop
 | []=>True
 | x :: r=>PySem.W.nsIn K mainGlobals x=some none/\nsL K r
section
variable {P:Program} {w:World} {K:PySem.W.Frag} {h:Heap} {mg:Str->Option Value} {base:Heap} {x:Str} {st:Stmt} {f:Addr} {ps:List Str} {k:Nat} {Φ:List D->Sl->Prop}
theorem Dfn.of {oc:Value} {od an:Option Addr} {kV dc pm cd ct:Value} {sl:Array (Option Value)} (a:PySem.W.nsIn K mainGlobals x=some (some (.ref f))) (l:K.lookup f=some ⟨oc,od,.func (PySem.W.fnOf x x (bz st) (aW st) (ah st) .none kV dc pm an cd ct),sl⟩) (c:PySem.W.codeIn K cd x=true) (k:PySem.W.keepIn K (.ref f)=true):Dfn K x st f:=⟨a,⟨_,_,_,_,_,_,_,_,_,l,c⟩,k⟩
theorem nsL.none (X:K.In h) (G:h.Ns mainGlobals mg):∀ {l:List Str},nsL K l->∀ x ∈ l,mg x=none
 | _ :: _,z,x,m=>by
   rcases List.mem_cons.mp m with rfl | m
   · exact PySem.W.mg_none_of X G z.1
   · exact nsL.none X G z.2 x m
theorem Dfn.fn (d:Dfn K x st f) (X:K.In h) (G:h.Ns mainGlobals mg) (b:BdA x st ps):∃ fd,Fun K x x st f fd/\mg x=some (.ref f)/\PySem.W.keepIn K (.ref f)=true/\Binds K fd ps []:=by
 obtain ⟨a,⟨oc,od,kV,dc,pm,an,cd,ct,sl,l,c'⟩,q⟩:=d
 have F:=kZ l c' q
 exact ⟨_,F,PySem.W.mg_of X G a,q,F.binds (b kV dc pm an cd ct)⟩
theorem Dfn.cal (d:Dfn K x st f) (X:K.In h) (G:h.Ns mainGlobals mg) (b:BdA x st ps) (o:∀ fd,Fun K x x st f fd->aG P w K mg base CX0 k f fd ps (spD K Φ)):Cal P w K mg base k x Φ:=by
 obtain ⟨fd,F,h1,h2,h3⟩:=d.fn X G b
 exact ⟨f,fd,ps,o fd F,h1,h2,h3⟩
end
theorem bd1 {Q:List Value->Prop} (h:∀ a,Q [a]):∀ us:List Value,us.length=1->Q us:=λus e=>match us,e with | [a],_=>h a
theorem bd2 {Q:List Value->Prop} (h:∀ a b,Q [a,b]):∀ us:List Value,us.length=2->Q us:=λus e=>match us,e with | [a,b],_=>h a b
theorem bd3 {Q:List Value->Prop} (h:∀ a b c,Q [a,b,c]):∀ us:List Value,us.length=3->Q us:=λus e=>match us,e with | [a,b,c],_=>h a b c
theorem bd4 {Q:List Value->Prop} (h:∀ a b c d,Q [a,b,c,d]):∀ us:List Value,us.length=4->Q us:=λus e=>match us,e with | [a,b,c,d],_=>h a b c d
theorem bd5 {Q:List Value->Prop} (h:∀ a b c d e,Q [a,b,c,d,e]):∀ us:List Value,us.length=5->Q us:=λus e=>match us,e with | [a,b,c,d,f],_=>h a b c d f
theorem bd6 {Q:List Value->Prop} (h:∀ a b c d e f,Q [a,b,c,d,e,f]):∀ us:List Value,us.length=6->Q us:=λus e=>match us,e with | [a,b,c,d,f,g],_=>h a b c d f g
noncomputable def gi (K:PySem.W.Frag) (C:Addr) (x qual:Str) (st:Stmt) (f:Addr):Prop:=PySem.W.findIn K (.ref C) x=some (some (.ref f))/\PySem.W.isFn K (.ref f)=true/\(∃ oc od kV dc pm an cd ct sl,K.lookup f=some ⟨oc,od,.func (PySem.W.fnOf x qual (bz st) (aW st) (ah st) .none kV dc pm an cd ct),sl⟩/\PySem.W.codeIn K cd qual=true)/\PySem.W.keepIn K (.ref f)=true
noncomputable def BdM (x qual:Str) (st:Stmt) (ps:List Str):Prop:=∀ (kV dc pm:Value) (an:Option Addr) (cd ct:Value) (us:List Value),us.length=ps.length->bindArgs (PySem.W.fnOf x qual (bz st) (aW st) (ah st) .none kV dc pm an cd ct) ⟨us,[]⟩=pure (ps.zip us)
section
variable {P:Program} {w:World} {K:PySem.W.Frag} {mg:Str->Option Value} {base:Heap} {x qual:Str} {st:Stmt} {f C:Addr} {ps:List Str} {j k:Nat} {sp:Sp}
theorem gi.of {oc:Value} {od an:Option Addr} {kV dc pm cd ct:Value} {sl:Array (Option Value)} (a:PySem.W.findIn K (.ref C) x=some (some (.ref f))) (i:PySem.W.isFn K (.ref f)=true) (l:K.lookup f=some ⟨oc,od,.func (PySem.W.fnOf x qual (bz st) (aW st) (ah st) .none kV dc pm an cd ct),sl⟩) (c:PySem.W.codeIn K cd qual=true) (k:PySem.W.keepIn K (.ref f)=true):gi K C x qual st f:=⟨a,i,⟨_,_,_,_,_,_,_,_,_,l,c⟩,k⟩
theorem gi.fn (d:gi K C x qual st f) (b:BdM x qual st ps):∃ fd,Fun K x qual st f fd/\Binds K fd ps []:=by
 obtain ⟨a,i,⟨oc,od,kV,dc,pm,an,cd,ct,sl,l,c'⟩,q⟩:=d
 have F:=kZ l c' q
 exact ⟨_,F,F.binds (b kV dc pm an cd ct)⟩
theorem gi.cal (d:gi K C x qual st f) (b:BdM x qual st ps) (o:∀ fd,Fun K x qual st f fd->aG P w K mg base CX0 k f fd ps sp):bU P w K mg base k C x sp:=by
 obtain ⟨fd,F,h⟩:=d.fn b
 exact ⟨f,fd,ps,o fd F,⟨d.1,d.2.1,d.2.2.2⟩,h⟩
theorem bU.mono (c:bU P w K mg base j C x sp) (h:j<=k):bU P w K mg base k C x sp:=let ⟨f,fd,ps,F,r⟩:=c; ⟨f,fd,ps,F.mono h,r⟩
end
theorem _root_.L2.Fun.wk {K:PySem.W.Frag} {x qual:Str} {st:Stmt} {f T:Addr} {fd:FuncData} {ps:List Str} {c:Value} {d:Option Addr} {items:Array Value} {n:Nat} {sl:Array (Option Value)} (_:L2.Fun K x qual st f fd) (hd:fd.defaults=.ref T) (lT:K.lookup T=some ⟨c,d,.seq items n,sl⟩)
   (h:∀ us:List Value,us.length=ps.length->∃ k,bindArgs fd ⟨us,[]⟩=seqItems? fd.defaults >>= k/\k (some items)=pure (ps.zip us)):L2.Binds K fd ps []:=λs us X hl=>by
 rw [List.append_nil] at hl ⊢
 obtain ⟨k,h1,h2⟩:=h us hl
 exact .of_defaults hd (X _ _ lT) rfl h1 h2
noncomputable def tI (K:PySem.W.Frag) (x:Str) (st:Stmt) (f:Addr) (i:Int):Prop:=PySem.W.nsIn K mainGlobals x=some (some (.ref f))/\(∃ oc od kV dc pm an cd ct sl T td tl tc tt tn,K.lookup f=some ⟨oc,od,.func (PySem.W.fnOf x x (bz st) (aW st) (ah st) (.ref T) kV dc pm an cd ct),sl⟩/\PySem.W.codeIn K cd x=true/\K.lookup T=some ⟨tc,td,.seq #[.int i tt] tn,tl⟩)/\PySem.W.keepIn K (.ref f)=true
section
variable {P:Program} {w:World} {K:PySem.W.Frag} {h:Heap} {mg:Str->Option Value} {base:Heap} {x:Str} {st:Stmt} {f:Addr} {ps:List Str} {k:Nat} {Φ:List D->Sl->Prop} {i:Int}
theorem tI.of {oc tc:Value} {od an td:Option Addr} {kV dc pm cd ct:Value} {sl tl:Array (Option Value)} {T:Addr} {tt:Tok} {tn:Nat} (a:PySem.W.nsIn K mainGlobals x=some (some (.ref f))) (l:K.lookup f=some ⟨oc,od,.func (PySem.W.fnOf x x (bz st) (aW st) (ah st) (.ref T) kV dc pm an cd ct),sl⟩) (c:PySem.W.codeIn K cd x=true) (d:K.lookup T=some ⟨tc,td,.seq #[.int i tt] tn,tl⟩) (k:PySem.W.keepIn K (.ref f)=true):tI K x st f i:=⟨a,⟨_,_,_,_,_,_,_,_,_,_,_,_,_,_,_,l,c,d⟩,k⟩
theorem tI.cal (d:tI K x st f i) (X:K.In h) (G:h.Ns mainGlobals mg) (b:∀ (T:Addr) (tt:Tok) (kV dc pm:Value) (an:Option Addr) (cd ct:Value) (us:List Value),us.length=ps.length->∃ k,bindArgs (PySem.W.fnOf x x (bz st) (aW st) (ah st) (.ref T) kV dc pm an cd ct) ⟨us,[]⟩=seqItems? (.ref T) >>= k/\k (some #[.int i tt])=pure (ps.zip us))
   (o:∀ fd,Fun K x x st f fd->aG P w K mg base CX0 k f fd ps (spD K Φ)):Cal P w K mg base k x Φ:=by
 obtain ⟨a,⟨oc,od,kV,dc,pm,an,cd,ct,sl,T,td,tl,tc,tt,tn,l,c',dt⟩,q⟩:=d
 have F:=kZ l c' q
 exact ⟨f,_,ps,o _ F,PySem.W.mg_of X G a,q,F.wk rfl dt (b T tt kV dc pm an cd ct)⟩
end
end Hy
namespace K66
open PySem PySem.Spec PyProof.Rows L2 Hy
set_option maxHeartbeats 0 in
theorem all_mk {l:PySem.W.OpenLaw} {w:World} {K:PySem.W.Frag} {h:Heap} {mg:Str->Option Value} {fa f0 f1 f2 f3 f4 f5 f6 f7 f8 f9 f10 f11 f12 f13 f14 f15 f16 f17 f18 f19 f20 f21 f22 f23 f24 f25 f26 f27 f28 f29 f30 f31 f32 f33 f34 f35 f36 f37 f38 f39 f40 f41 f42 f43 f44 f45 f46 f47 f48 f49 f50 f51 f52 f53 f54 f55 f56 f57 f58 f59 f60 f61 f62 f63 f64 f65 f66 f67 f68 f69 f70 f71 f72 f73 f74 f75 f76 f77 f78 f79 f80 f81:Addr} {t0 t1 t2:Tok} {CW:Addr} {tb4:Tok} {ab ac:Addr} {tb1 tb2 tc1 tc2:Tok} {nb nc:Nat} {db dc:Option Addr} {sb sc:Array (Option Value)} (X:K.In h) (G:h.Ns mainGlobals mg) (hfa:mg "law" = some (.ref fa))
   (h0:Dfn K "_law_numbers" (top 81) f0) (h1:Dfn K "_law_divisor" (top 82) f1) (h2:Dfn K "_law_made" (top 83) f2) (h3:Dfn K "_law_ten" (top 79) f3) (h4:Dfn K "_law_weight" (top 85) f4) (h5:Dfn K "_law_ladder" (top 86) f5) (h6:Dfn K "_law_drawn" (top 95) f6) (h7:Dfn K "_law_cell" (top 80) f7) (h8:Dfn K "_law_one" (top 96) f8) (h9:Dfn K "_law_names" (top 90) f9) (h10:gi K CW "__init__" "Works.__init__" (mth 70 0) f10) (h11:Dfn K "is_name" (top 69) f11) (h12:gi K CW "look_new" "Works.look_new" (mth 70 1) f12) (h13:Dfn K "is_whole" (top 13) f13) (h14:Dfn K "is_between" (top 14) f14) (h15:Dfn K "common_divisor" (top 16) f15) (h16:Dfn K "is_fraction" (top 15) f16) (h17:Dfn K "is_weight" (top 46) f17) (h18:Dfn K "is_step" (top 47) f18) (h19:Dfn K "is_ladder" (top 48) f19) (h20:Dfn K "look_ladder" (top 49) f20) (h21:gi K CW "keep" "Works.keep" (mth 70 3) f21) (h22:Dfn K "with_steps" (top 71) f22) (h23:Dfn K "own" (top 72) f23) (h24:gi K CW "put" "Works.put" (mth 70 4) f24) (h25:Dfn K "_law_times" (top 88) f25) (h26:Dfn K "_law_plus" (top 87) f26) (h27:Dfn K "_law_ladders_table" (top 89) f27) (h28:Dfn K "_law_copy" (top 94) f28) (h29:gi K CW "look_kept" "Works.look_kept" (mth 70 2) f29) (h30:Dfn K "is_rising" (top 30) f30) (h31:Dfn K "is_choice" (top 29) f31) (h32:Dfn K "look_choices" (top 32) f32) (h33:Dfn K "most_steps_apart" (top 62) f33) (h34:Dfn K "is_short_list" (top 26) f34) (h35:Dfn K "is_row" (top 27) f35) (h36:Dfn K "is_table" (top 28) f36) (h37:Dfn K "look_table" (top 31) f37) (h38:Dfn K "choices_of" (top 33) f38) (h39:Dfn K "along_last_row" (top 43) f39) (h40:Dfn K "one_row_more" (top 42) f40) (h41:Dfn K "all_determinants" (top 41) f41) (h42:Dfn K "whole_row" (top 38) f42) (h43:Dfn K "whole_rows" (top 39) f43) (h44:Dfn K "scale_of" (top 37) f44) (h45:Dfn K "first_under" (top 40) f45) (h46:Dfn K "column_of" (top 35) f46) (h47:Dfn K "columns_of" (top 34) f47) (h48:Dfn K "lift_row" (top 64) f48) (h49:Dfn K "product_of" (top 22) f49) (h50:Dfn K "in_lowest_terms" (top 18) f50) (h51:Dfn K "quotient_of" (top 23) f51) (h52:Dfn K "sum_of" (top 20) f52) (h53:Dfn K "rest_of" (top 21) f53) (h54:Dfn K "take_off" (top 65) f54) (h55:Dfn K "clear_column" (top 63) f55) (h56:Dfn K "turned_step" (top 52) f56) (h57:Dfn K "steps_of" (top 61) f57) (h58:Dfn K "squared" (top 60) f58) (h59:Dfn K "taken_apart" (top 59) f59) (h60:Dfn K "first_sums" (top 54) f60) (h61:Dfn K "shared_divisor" (top 17) f61) (h62:Dfn K "weighed_sums" (top 56) f62) (h63:Dfn K "added_sums" (top 57) f63) (h64:tI K "fraction" (top 19) f64 (1)) (h65:Dfn K "told_sums" (top 55) f65) (h66:Dfn K "rung_end" (top 51) f66) (h67:Dfn K "rung_start" (top 50) f67) (h68:Dfn K "table_of" (top 53) f68) (h69:Dfn K "made_anew" (top 77) f69) (h70:Dfn K "fitted" (top 76) f70) (h71:Dfn K "stop" (top 73) f71) (h72:Dfn K "cut_ladder" (top 75) f72) (h73:gi K CW "cut" "Works.cut" (mth 70 8) f73) (h74:gi K CW "ladder" "Works.ladder" (mth 70 16) f74) (h75:gi K CW "table" "Works.table" (mth 70 17) f75) (h76:Dfn K "_law_whole" (top 84) f76) (h77:Dfn K "_law_is_weight" (top 91) f77) (h78:Dfn K "_law_is_step" (top 92) f78) (h79:Dfn K "_law_is_ladder" (top 93) f79) (h80:Dfn K "_law_told" (top 97) f80) (h81:Dfn K "law" (top 98) f81) (hz:nsL K aj) (z0:PySem.W.nsIn K mainGlobals "MOST" = some (some (.int 7 t0))) (z1:PySem.W.nsIn K mainGlobals "MOST_STEPS" = some (some (.int 400 t1))) (z2:PySem.W.nsIn K mainGlobals "MOST_LETTERS" = some (some (.int 8 t2))) (zf:PySem.W.nsIn K mainGlobals "LETTERS" = some (some (.str gP tb4))) (aC:PySem.W.nsIn K mainGlobals "Works" = some (some (.ref CW))) (pg:PySem.W.plainGet K CW Str.empty=true) (hd:PySem.W.hasDictIn K CW=true) (po:PySem.W.plainOver K CW=true) (sa:PySem.W.findIn K (.ref CW) "__setattr__" = some (some (.builtin "object.__setattr__"))) (mk:PySem.W.makesIn K CW=true) (kc:PySem.W.keepIn K (.ref CW)=true) (nK:PySem.W.findIn K (.ref CW) "kept" = some none) (nD:PySem.W.findIn K (.ref CW) "deeds" = some none) (zb:PySem.W.nsIn K mainGlobals "NOUGHT" = some (some (.ref ab))) (zl:K.lookup ab=some ⟨.type "tuple",db,.seq #[.int 0 tb1,.int 1 tb2] nb,sb⟩) (zc:PySem.W.nsIn K mainGlobals "ONE" = some (some (.ref ac))) (zm:K.lookup ac=some ⟨.type "tuple",dc,.seq #[.int 1 tc1,.int 1 tc2] nc,sc⟩) :
   ∃ fd:FuncData,(∀ (s:Shared) (v:Value),BindsTo s fd ⟨[v],[]⟩ [("_law_script",v)])/\∀ base:Heap,K.In base->base.Ns mainGlobals mg->aG l.prog w K mg base CX0 10 fa fd ["_law_script"] (spD K pz):=by
 have hb:=hz.none X G
 have y_MOST:∃ t,mg "MOST" = some (.int 7 t):=⟨_,PySem.W.mg_of X G z0⟩
 have y_MOST_STEPS:∃ t,mg "MOST_STEPS" = some (.int 400 t):=⟨_,PySem.W.mg_of X G z1⟩
 have y_MOST_LETTERS:∃ t,mg "MOST_LETTERS" = some (.int 8 t):=⟨_,PySem.W.mg_of X G z2⟩
 have y_NOUGHT:Mk1 K mg "NOUGHT" 0 1:=⟨ab,PySem.W.mg_of X G zb,λH=>.inr ⟨_,_,_,zl,rfl,rfl,(by show 2<=sizeLine; decide),.cons ⟨_,rfl⟩ (.cons ⟨_,rfl⟩ .nil)⟩⟩
 have y_ONE:Mk1 K mg "ONE" 1 1:=⟨ac,PySem.W.mg_of X G zc,λH=>.inr ⟨_,_,_,zm,rfl,rfl,(by show 2<=sizeLine; decide),.cons ⟨_,rfl⟩ (.cons ⟨_,rfl⟩ .nil)⟩⟩
 have y_LETTERS:∃ t,mg "LETTERS" = some (.str gP t):=⟨_,PySem.W.mg_of X G zf⟩
 have hc:Cls K CW:=⟨pg,hd,po,sa⟩
 have n1:a6 K CW "kept":=nK
 have n2:a6 K CW "deeds":=nD
 obtain ⟨a,⟨oc,od,kV,dc,pm,an,cd,ct,sl,l0,c⟩,r⟩:=h81
 cases hfa.symm.trans (PySem.W.mg_of X G a)
 refine ⟨PySem.W.fnOf "law" "law" (bz (top 98)) (aW (top 98)) (ah (top 98)) .none kV dc pm an cd ct,λs v=>.of_eq rfl,λbase _ _=>?_⟩
 have c_l_numbers:Cal l.prog w K mg base 1 "_law_numbers" bo:=h0.cal (ps:=["_law_cell_here","_law_bases"]) X G (λ_ _ _ _ _ _=>Hy.bd2 λ_ _=>rfl) λ_ F=>kF (k:=0) F hb
 have c_l_divisor:Cal l.prog w K mg base 1 "_law_divisor" cB:=h1.cal (ps:=["_law_one_here","_law_other"]) X G (λ_ _ _ _ _ _=>Hy.bd2 λ_ _=>rfl) λ_ F=>lB (k:=0) F hb
 have c_l_made:Cal l.prog w K mg base 2 "_law_made" eO:=h2.cal (ps:=["_law_top","_law_bottom"]) X G (λ_ _ _ _ _ _=>Hy.bd2 λ_ _=>rfl) λ_ F=>qE (k:=1) F hb c_l_divisor
 have c_l_ten:Cal l.prog w K mg base 1 "_law_ten" iw:=h3.cal (ps:=["_law_many"]) X G (λ_ _ _ _ _ _=>Hy.bd1 λ_=>rfl) λ_ F=>tR (k:=0) F hb
 have c_l_weight:Cal l.prog w K mg base 3 "_law_weight" fQ:=h4.cal (ps:=["_law_part","_law_figures"]) X G (λ_ _ _ _ _ _=>Hy.bd2 λ_ _=>rfl) λ_ F=>mR (k:=2) F hb c_l_made (c_l_ten.mono (by decide))
 have c_l_ladder:Cal l.prog w K mg base 4 "_law_ladder" fF:=h5.cal (ps:=["_law_cell_here","_law_tracks","_law_rows","_law_columns","_law_many","_law_figures"]) X G (λ_ _ _ _ _ _=>Hy.bd6 λ_ _ _ _ _ _=>rfl) λ_ F=>ma (k:=3) F hb (c_l_numbers.mono (by decide)) c_l_weight (c_l_ten.mono (by decide))
 have c_l_drawn:Cal l.prog w K mg base 5 "_law_drawn" gJ:=h6.cal (ps:=["_law_cell_here","_law_tracks","_law_rows","_law_columns","_law_most"]) X G (λ_ _ _ _ _ _=>Hy.bd5 λ_ _ _ _ _=>rfl) λ_ F=>mY (k:=4) F hb (c_l_numbers.mono (by decide)) c_l_ladder
 have c_l_cell:Cal l.prog w K mg base 1 "_law_cell" gn:=h7.cal (ps:=["_law_script","_law_k"]) X G (λ_ _ _ _ _ _=>Hy.bd2 λ_ _=>rfl) λ_ F=>p7 (k:=0) F hb
 have c_l_one:Cal l.prog w K mg base 6 "_law_one" lq:=h8.cal (ps:=["_law_script"]) X G (λ_ _ _ _ _ _=>Hy.bd1 λ_=>rfl) λ_ F=>sM (k:=5) F hb (c_l_numbers.mono (by decide)) (c_l_cell.mono (by decide)) c_l_drawn
 have c_l_names:Cal l.prog w K mg base 2 "_law_names" gO:=h9.cal (ps:=["_law_cell_here","_law_many"]) X G (λ_ _ _ _ _ _=>Hy.bd2 λ_ _=>rfl) λ_ F=>nQ (k:=1) F hb c_l_numbers
 have c_is_name:Cal l.prog w K mg base 1 "is_name" a4:=h11.cal (ps:=["thing"]) X G (λ_ _ _ _ _ _=>Hy.bd1 λ_=>rfl) λ_ F=>nX (k:=0) F hb y_LETTERS y_MOST_LETTERS
 have c_Works_look_new:bU l.prog w K mg base 2 CW "look_new" (spV K λW a s=>oQ CW a4 W a/\s=.d .non):=h12.cal (ps:=["self","name"]) (λ_ _ _ _ _ _=>Hy.bd2 λ_ _=>rfl) λ_ F=>fY (k:=1) hc n1 F hb c_is_name
 have c_is_whole:Cal l.prog w K mg base 1 "is_whole" bR:=h13.cal (ps:=["thing"]) X G (λ_ _ _ _ _ _=>Hy.bd1 λ_=>rfl) λ_ F=>mj (k:=0) F hb
 have c_is_between:Cal l.prog w K mg base 2 "is_between" b7:=h14.cal (ps:=["thing","least","most"]) X G (λ_ _ _ _ _ _=>Hy.bd3 λ_ _ _=>rfl) λ_ F=>jF (k:=1) F hb c_is_whole
 have c_common_divisor:Cal l.prog w K mg base 1 "common_divisor" aT:=h15.cal (ps:=["one","other"]) X G (λ_ _ _ _ _ _=>Hy.bd2 λ_ _=>rfl) λ_ F=>gg (k:=0) F hb
 have c_is_fraction:Cal l.prog w K mg base 2 "is_fraction" cJ:=h16.cal (ps:=["thing"]) X G (λ_ _ _ _ _ _=>Hy.bd1 λ_=>rfl) λ_ F=>iN (k:=1) F hb c_is_whole c_common_divisor
 have c_is_weight:Cal l.prog w K mg base 3 "is_weight" eE:=h17.cal (ps:=["thing"]) X G (λ_ _ _ _ _ _=>Hy.bd1 λ_=>rfl) λ_ F=>kn (k:=2) F hb c_is_fraction
 have c_is_step:Cal l.prog w K mg base 4 "is_step" gF:=h18.cal (ps:=["thing","tracks"]) X G (λ_ _ _ _ _ _=>Hy.bd2 λ_ _=>rfl) λ_ F=>nY (k:=3) F hb (c_is_between.mono (by decide)) c_is_weight
 have c_is_ladder:Cal l.prog w K mg base 5 "is_ladder" dZ:=h19.cal (ps:=["thing"]) X G (λ_ _ _ _ _ _=>Hy.bd1 λ_=>rfl) λ_ F=>kD (k:=4) F hb y_MOST y_MOST_STEPS (c_is_between.mono (by decide)) c_is_step
 have c_look_ladder:Cal l.prog w K mg base 6 "look_ladder" bF:=h20.cal (ps:=["thing"]) X G (λ_ _ _ _ _ _=>Hy.bd1 λ_=>rfl) λ_ F=>jh (k:=5) F hb c_is_ladder
 have c_Works_keep:bU l.prog w K mg base 1 CW "keep" (spW K (lj CW)):=h21.cal (ps:=["self","name","ladder"]) (λ_ _ _ _ _ _=>Hy.bd3 λ_ _ _=>rfl) λ_ F=>jM (k:=0) hc n1 n2 F hb
 have c_with_steps:Cal l.prog w K mg base 1 "with_steps" dD:=h22.cal (ps:=["ladder","steps"]) X G (λ_ _ _ _ _ _=>Hy.bd2 λ_ _=>rfl) λ_ F=>jB (k:=0) F hb
 have c_own:Cal l.prog w K mg base 2 "own" jn:=h23.cal (ps:=["ladder"]) X G (λ_ _ _ _ _ _=>Hy.bd1 λ_=>rfl) λ_ F=>wH (k:=1) F hb c_with_steps
 have c_Works_put:bU l.prog w K mg base 7 CW "put" (spW K (rH CW a4 bF jn)):=h24.cal (ps:=["self","name","ladder"]) (λ_ _ _ _ _ _=>Hy.bd3 λ_ _ _=>rfl) λ_ F=>lD (k:=6) hc F hb (c_Works_look_new.mono (by decide)) c_look_ladder (c_own.mono (by decide)) (c_Works_keep.mono (by decide))
 have c_l_times:Cal l.prog w K mg base 3 "_law_times" gN:=h25.cal (ps:=["_law_one_here","_law_other"]) X G (λ_ _ _ _ _ _=>Hy.bd2 λ_ _=>rfl) λ_ F=>ou (k:=2) F hb c_l_made
 have c_l_plus:Cal l.prog w K mg base 3 "_law_plus" i0:=h26.cal (ps:=["_law_one_here","_law_other"]) X G (λ_ _ _ _ _ _=>Hy.bd2 λ_ _=>rfl) λ_ F=>qu (k:=2) F hb c_l_made
 have c_l_ladders_table:Cal l.prog w K mg base 4 "_law_ladders_table" bj:=h27.cal (ps:=["_law_ladder_here"]) X G (λ_ _ _ _ _ _=>Hy.bd1 λ_=>rfl) λ_ F=>fN (k:=3) F hb c_l_times c_l_plus
 have c_l_copy:Cal l.prog w K mg base 1 "_law_copy" iO:=h28.cal (ps:=["_law_ladder_here"]) X G (λ_ _ _ _ _ _=>Hy.bd1 λ_=>rfl) λ_ F=>qd (k:=0) F hb
 have c_Works_look_kept:bU l.prog w K mg base 2 CW "look_kept" (spV K λW a s=>mv CW a4 W a/\s=.d .non):=h29.cal (ps:=["self","name"]) (λ_ _ _ _ _ _=>Hy.bd2 λ_ _=>rfl) λ_ F=>fM (k:=1) hc n1 F hb c_is_name
 have c_is_rising:Cal l.prog w K mg base 1 "is_rising" eV:=h30.cal (ps:=["numbers"]) X G (λ_ _ _ _ _ _=>Hy.bd1 λ_=>rfl) λ_ F=>kz (k:=0) F hb
 have c_is_choice:Cal l.prog w K mg base 2 "is_choice" eF:=h31.cal (ps:=["thing","many"]) X G (λ_ _ _ _ _ _=>Hy.bd2 λ_ _=>rfl) λ_ F=>kH (k:=1) F hb c_is_rising c_is_whole
 have c_look_choices:Cal l.prog w K mg base 3 "look_choices" cg:=h32.cal (ps:=["rows","columns","many_rows","many_columns"]) X G (λ_ _ _ _ _ _=>Hy.bd4 λ_ _ _ _=>rfl) λ_ F=>ij (k:=2) F hb c_is_choice
 have c_column_of:Cal l.prog w K mg base 1 "column_of" eS:=h46.cal (ps:=["table","j"]) X G (λ_ _ _ _ _ _=>Hy.bd2 λ_ _=>rfl) λ_ F=>lx (k:=0) F hb
 have c_columns_of:Cal l.prog w K mg base 2 "columns_of" de:=h47.cal (ps:=["table"]) X G (λ_ _ _ _ _ _=>Hy.bd1 λ_=>rfl) λ_ F=>jy (k:=1) F hb c_column_of
 have c_in_lowest_terms:Cal l.prog w K mg base 2 "in_lowest_terms" bM:=h50.cal (ps:=["top","bottom"]) X G (λ_ _ _ _ _ _=>Hy.bd2 λ_ _=>rfl) λ_ F=>fL (k:=1) F hb c_common_divisor
 have c_first_sums:Cal l.prog w K mg base 1 "first_sums" c9:=h60.cal (ps:=["track","rows"]) X G (λ_ _ _ _ _ _=>Hy.bd2 λ_ _=>rfl) λ_ F=>jG (k:=0) F hb
 have c_shared_divisor:Cal l.prog w K mg base 2 "shared_divisor" bx:=h61.cal (ps:=["number","others"]) X G (λ_ _ _ _ _ _=>Hy.bd2 λ_ _=>rfl) λ_ F=>fZ (k:=1) F hb c_common_divisor
 have c_weighed_sums:Cal l.prog w K mg base 3 "weighed_sums" cw:=h62.cal (ps:=["sums","weight"]) X G (λ_ _ _ _ _ _=>Hy.bd2 λ_ _=>rfl) λ_ F=>ig (k:=2) F hb (c_common_divisor.mono (by decide)) c_shared_divisor
 have c_added_sums:Cal l.prog w K mg base 3 "added_sums" du:=h63.cal (ps:=["one","other"]) X G (λ_ _ _ _ _ _=>Hy.bd2 λ_ _=>rfl) λ_ F=>jE (k:=2) F hb (c_common_divisor.mono (by decide)) c_shared_divisor
 have c_fraction:Cal l.prog w K mg base 3 "fraction" fI:=h64.cal (ps:=["top","bottom"]) X G (λ_ _ _ _ _ _ _ _=>Hy.bd2 λ_ _=>⟨_,rfl,rfl⟩) λ_ F=>mF (k:=2) F hb c_in_lowest_terms (c_is_whole.mono (by decide))
 have c_told_sums:Cal l.prog w K mg base 4 "told_sums" eK:=h65.cal (ps:=["sums"]) X G (λ_ _ _ _ _ _=>Hy.bd1 λ_=>rfl) λ_ F=>lQ (k:=3) F hb c_fraction
 have c_rung_end:Cal l.prog w K mg base 1 "rung_end" fP:=h66.cal (ps:=["step"]) X G (λ_ _ _ _ _ _=>Hy.bd1 λ_=>rfl) λ_ F=>mq (k:=0) F hb
 have c_rung_start:Cal l.prog w K mg base 1 "rung_start" df:=h67.cal (ps:=["step"]) X G (λ_ _ _ _ _ _=>Hy.bd1 λ_=>rfl) λ_ F=>jO (k:=0) F hb
 have c_table_of:Cal l.prog w K mg base 7 "table_of" dj:=h68.cal (ps:=["ladder"]) X G (λ_ _ _ _ _ _=>Hy.bd1 λ_=>rfl) λ_ F=>l4 (k:=6) F hb c_look_ladder (c_columns_of.mono (by decide)) (c_first_sums.mono (by decide)) (c_weighed_sums.mono (by decide)) (c_added_sums.mono (by decide)) (c_told_sums.mono (by decide)) (c_rung_end.mono (by decide)) (c_rung_start.mono (by decide))
 have c_fitted:Cal l.prog w K mg base 1 "fitted" i8:=h70.cal (ps:=["tracks","steps"]) X G (λ_ _ _ _ _ _=>Hy.bd2 λ_ _=>rfl) λ_ F=>qp (k:=0) F hb y_MOST_STEPS
 have c_stop:Cal l.prog w K mg base 1 "stop" mW:=h71.cal (ps:=["track"]) X G (λ_ _ _ _ _ _=>Hy.bd1 λ_=>rfl) λ_ F=>uz (k:=0) F hb y_NOUGHT
 have c_cut_ladder:Cal l.prog w K mg base 2 "cut_ladder" dF:=h72.cal (ps:=["ladder","rows","columns"]) X G (λ_ _ _ _ _ _=>Hy.bd3 λ_ _ _=>rfl) λ_ F=>jC (k:=1) F hb y_ONE c_fitted c_stop
 have c_Works_cut:bU l.prog w K mg base 4 CW "cut" (spW K (so CW)):=h73.cal (ps:=["self","new","one","rows","columns"]) (λ_ _ _ _ _ _=>Hy.bd5 λ_ _ _ _ _=>rfl) λ_ F=>k7 (k:=3) hc n1 F hb (c_Works_look_new.mono (by decide)) (c_Works_look_kept.mono (by decide)) c_look_choices (c_cut_ladder.mono (by decide)) (c_Works_keep.mono (by decide))
 have c_Works_ladder:bU l.prog w K mg base 3 CW "ladder" (spV K (oe CW a4 jn)):=h74.cal (ps:=["self","name"]) (λ_ _ _ _ _ _=>Hy.bd2 λ_ _=>rfl) λ_ F=>ie (k:=2) hc n1 F hb c_Works_look_kept c_own
 have c_Works_table:bU l.prog w K mg base 8 CW "table" (spV K (oe CW a4 dj)):=h75.cal (ps:=["self","name"]) (λ_ _ _ _ _ _=>Hy.bd2 λ_ _=>rfl) λ_ F=>jb (k:=7) hc n1 F hb (c_Works_look_kept.mono (by decide)) c_table_of
 have c_l_whole:Cal l.prog w K mg base 1 "_law_whole" cY:=h76.cal (ps:=["_law_thing"]) X G (λ_ _ _ _ _ _=>Hy.bd1 λ_=>rfl) λ_ F=>oE (k:=0) F hb
 have c_l_is_weight:Cal l.prog w K mg base 2 "_law_is_weight" cM:=h77.cal (ps:=["_law_thing"]) X G (λ_ _ _ _ _ _=>Hy.bd1 λ_=>rfl) λ_ F=>iV (k:=1) F hb c_l_whole c_l_divisor
 have c_l_is_step:Cal l.prog w K mg base 3 "_law_is_step" eQ:=h78.cal (ps:=["_law_thing","_law_tracks"]) X G (λ_ _ _ _ _ _=>Hy.bd2 λ_ _=>rfl) λ_ F=>kB (k:=2) F hb (c_l_whole.mono (by decide)) c_l_is_weight
 have c_l_is_ladder:Cal l.prog w K mg base 4 "_law_is_ladder" cI:=h79.cal (ps:=["_law_found","_law_rows","_law_columns"]) X G (λ_ _ _ _ _ _=>Hy.bd3 λ_ _ _=>rfl) λ_ F=>iL (k:=3) F hb c_l_is_step (c_l_whole.mono (by decide))
 obtain ⟨fd_l_told,F_l_told',m_l_told,k_l_told,b_l_told⟩:=h80.fn (ps:=["_law_works","_law_name","_law_due"]) X G (λ_ _ _ _ _ _=>Hy.bd3 λ_ _ _=>rfl)
 have c_l_told:wq l.prog w K mg base 9 "_law_told" (spV K (ng CW)):=⟨_,_,_,pY (k:=8) hc F_l_told' hb (c_Works_ladder.mono (by decide)) c_Works_table (c_l_is_ladder.mono (by decide)) (c_l_ladders_table.mono (by decide)),m_l_told,k_l_told,b_l_told⟩
 obtain ⟨fdi,Fi,bi⟩:=h10.fn (ps:=["self"]) (λ_ _ _ _ _ _=>Hy.bd1 λ_=>rfl)
 exact xg (k:=8) hc ⟨mk,h10.1,h10.2.1,kc⟩ (gx (k:=7) hc n1 n2 Fi hb) bi (PySem.W.mg_of X G aC) (kZ l0 c r) hb (c_l_one.mono (by decide)) (c_l_names.mono (by decide)) (c_l_cell.mono (by decide)) (c_l_copy.mono (by decide)) (c_l_numbers.mono (by decide)) (c_l_ladders_table.mono (by decide)) (c_Works_put.mono (by decide)) (c_Works_cut.mono (by decide)) (c_Works_ladder.mono (by decide)) c_l_told
theorem walk {l:PySem.W.OpenLaw} {q:Program} {loose:List Str} {XP:(Str->Option Value)->Heap->Prop} {YP:World->Heap->Prop} {d:DefRec} {K:Params->PySem.W.Frag} (hn:l.most=some 63) (hdf:d.params.defaults=[])
   (hY:∀ (w:World) (h:Heap),YP w h->(K w.params).In h)
   (F:∀ (w:World) (mg:Str->Option Value) (fa:Addr) (h:Heap),(K w.params).In h->h.Ns mainGlobals mg->mg d.name=some (.ref fa) ->
     ∃ fd:FuncData,(∀ (s:Shared) (u:Value),BindsTo s fd ⟨[u],[]⟩ [("_law_script",u)])/\∀ base:Heap,(K w.params).In base->base.Ns mainGlobals mg->aG l.prog w (K w.params) mg base CX0 10 fa fd ["_law_script"] (spD (K w.params) pz)) :
   PySem.W.WalkO q loose XP YP l.row.toRowW d [] (λf vs=>PySem.call f vs):=
 L2.uT (n:=63) (k:=10) (x:="_law_script") (CX:=λ_=>CX0) (sp:=λw=>spD (K w.params) pz) hn (by decide) hdf ⟨rfl,by decide,by decide⟩ hY F
   (λw H a ns hl _ hS=>uw (λns h=>⟨ns,h,rfl,rfl⟩) H a ns hl hS) λ_ _ _ _ _ z=>z
end K66
open PySem PySem.W PyProof.Rows
namespace PySem.W.Fast
theorem tw15297608375233013917:True:=⟨⟩
theorem tw2305937029098886358:True:=⟨⟩
theorem tw1647012528770358044:True:=⟨⟩
theorem tw5602483425694090245:True:=⟨⟩
theorem tw6495884461560795815:True:=⟨⟩
theorem tw14583546441194913537:True:=⟨⟩
theorem tw1034723299268129106:True:=⟨⟩
theorem tw2853309301334012113:True:=⟨⟩
theorem tw1124472472103437277:True:=⟨⟩
theorem tw2711313321681083848:True:=⟨⟩
theorem tw10941439074334357198:True:=⟨⟩
theorem tw356844447725997801:True:=⟨⟩
theorem tw11852304661413711830:True:=⟨⟩
theorem tw3439397375517605907:True:=⟨⟩
theorem tw9908950088944261925:True:=⟨⟩
theorem tw1571648795650242483:True:=⟨⟩
theorem tw11062284227012901157:True:=⟨⟩
theorem tw5451750130706448103:True:=⟨⟩
theorem tw1827903668152765509:True:=⟨⟩
theorem tw5244164068927641473:True:=⟨⟩
theorem tw16978225311428855101:True:=⟨⟩
theorem tw4472183644376378610:True:=⟨⟩
theorem tw8329856215350116416:True:=⟨⟩
theorem tw1883787021422363279:True:=⟨⟩
theorem tw17140494426049014826:True:=⟨⟩
theorem tw17037682577538686412:True:=⟨⟩
theorem tw18005734003060351745:True:=⟨⟩
theorem tw10333378120163922096:True:=⟨⟩
theorem tw1045094964823209725:True:=⟨⟩
theorem tw3317287948803448689:True:=⟨⟩
theorem tw4140274467090035230:True:=⟨⟩
theorem tw10365636248468679927:True:=⟨⟩
theorem tw16140914045283675829:True:=⟨⟩
theorem tw3656276615140495012:True:=⟨⟩
theorem tw1225981043663651554:True:=⟨⟩
theorem tw13387190059059013469:True:=⟨⟩
theorem tw8357838946595247420:True:=⟨⟩
theorem tw10412763492665545659:True:=⟨⟩
theorem tw14858985908243350690:True:=⟨⟩
theorem tw14221910500482785606:True:=⟨⟩
theorem tw6507944493009781026:True:=⟨⟩
theorem tw7701373975364644298:True:=⟨⟩
theorem tw11990400219892225922:True:=⟨⟩
theorem tw5283572948075706058:True:=⟨⟩
theorem tw2794511902553896125:True:=⟨⟩
theorem tw9647273638997805709:True:=⟨⟩
theorem tw14987787480072639487:True:=⟨⟩
theorem tw13146916460379988318:True:=⟨⟩
theorem tw14749732569061274176:True:=⟨⟩
theorem tw15157096832729810530:True:=⟨⟩
theorem tw6433319666319227840:True:=⟨⟩
theorem tw6937845941854686934:True:=⟨⟩
theorem tw354563676102467067:True:=⟨⟩
theorem tw676716570962956738:True:=⟨⟩
theorem tw1901055955774362402:True:=⟨⟩
theorem tw16272729120316108013:True:=⟨⟩
theorem tw2239852205103643556:True:=⟨⟩
theorem tw10422237524577625090:True:=⟨⟩
theorem tw2822617290669424724:True:=⟨⟩
theorem tw15157606745733480186:True:=⟨⟩
theorem tw5868859098387982595:True:=⟨⟩
theorem tw17593614207171704574:True:=⟨⟩
theorem tw11524899918731388390:True:=⟨⟩
theorem tw825873111601322973:True:=⟨⟩
theorem tw3505124068180120310:True:=⟨⟩
theorem tw12246652235060346993:True:=⟨⟩
theorem tw8577806119139405329:True:=⟨⟩
theorem tw17549828582787025825:True:=⟨⟩
theorem tw768130218736898013:True:=⟨⟩
theorem tw11199335994886635669:True:=⟨⟩
theorem tw8632903248435668167:True:=⟨⟩
theorem tw5639245260243939303:True:=⟨⟩
theorem tw14344657240724101339:True:=⟨⟩
theorem tw8341386091252173635:True:=⟨⟩
theorem tw17106103203230405856:True:=⟨⟩
theorem tw9344103135239142999:True:=⟨⟩
theorem tw3737233814974467063:True:=⟨⟩
theorem tw3166996462368905100:True:=⟨⟩
theorem tw3714434459284099506:True:=⟨⟩
theorem tw2181319809786839248:True:=⟨⟩
theorem tw17479668324982815046:True:=⟨⟩
theorem tw8618216061204606423:True:=⟨⟩
theorem tw3162539013975643200:True:=⟨⟩
theorem tw1626768487277731542:True:=⟨⟩
theorem tw5088517827751577011:True:=⟨⟩
theorem tw12814643034677152962:True:=⟨⟩
theorem tw836826364031520215:True:=⟨⟩
theorem tw15649140761685870321:True:=⟨⟩
theorem tw804505193579808094:True:=⟨⟩
theorem tw3386990529175624208:True:=⟨⟩
theorem tw498339870981156978:True:=⟨⟩
theorem tw9287805480490629841:True:=⟨⟩
theorem tw11858925681931726298:True:=⟨⟩
theorem tw14477739282778526133:True:=⟨⟩
theorem tw702226081418252114:True:=⟨⟩
theorem tw15939539150439255996:True:=⟨⟩
theorem tw10935195652736028331:True:=⟨⟩
theorem tw7308292287084296851:True:=⟨⟩
theorem tw5840798995070686391:True:=⟨⟩
theorem tw1136663729842403598:True:=⟨⟩
theorem tw17626840167029382921:True:=⟨⟩
theorem tw165204452551860486:True:=⟨⟩
theorem tw5877257992298039157:True:=⟨⟩
theorem tw17121534158524828716:True:=⟨⟩
theorem tw12255601508903001247:True:=⟨⟩
theorem tw1586342059713490603:True:=⟨⟩
theorem tw17356424372135405593:True:=⟨⟩
theorem tw4113393924575638735:True:=⟨⟩
theorem tw1826001791979606824:True:=⟨⟩
theorem tw17063019699962803206:True:=⟨⟩
theorem tw2625434772587384357:True:=⟨⟩
theorem tw11745941287839769095:True:=⟨⟩
theorem tw18108947685715187341:True:=⟨⟩
theorem tw7403414344644763209:True:=⟨⟩
theorem tw6239602214965064506:True:=⟨⟩
end PySem.W.Fast
set_option maxRecDepth 100000 in
set_option maxHeartbeats 0 in
theorem PySem.Challenge.cw_signsmooth_k66_cut_holds : PySem.Challenge.rw_signsmooth_k66_cut.Holds := by
 w_on; o_law; k_head; (case hw=>w_witness2)
 k_fill
 refine K66.walk (l:=PySem.Challenge.rw_signsmooth_k66_cut) rfl rfl (λw h Y=>PySem.W.kIn_of Y) ?F
 case F=>
   intro w mg fa h KX G hmg
   refine' K66.all_mk KX G hmg (.of ?_ ?_ ?_ ?_) (.of ?_ ?_ ?_ ?_) (.of ?_ ?_ ?_ ?_) (.of ?_ ?_ ?_ ?_) (.of ?_ ?_ ?_ ?_) (.of ?_ ?_ ?_ ?_) (.of ?_ ?_ ?_ ?_) (.of ?_ ?_ ?_ ?_) (.of ?_ ?_ ?_ ?_) (.of ?_ ?_ ?_ ?_) (.of ?_ ?_ ?_ ?_ ?_) (.of ?_ ?_ ?_ ?_) (.of ?_ ?_ ?_ ?_ ?_) (.of ?_ ?_ ?_ ?_) (.of ?_ ?_ ?_ ?_) (.of ?_ ?_ ?_ ?_) (.of ?_ ?_ ?_ ?_) (.of ?_ ?_ ?_ ?_) (.of ?_ ?_ ?_ ?_) (.of ?_ ?_ ?_ ?_) (.of ?_ ?_ ?_ ?_) (.of ?_ ?_ ?_ ?_ ?_) (.of ?_ ?_ ?_ ?_) (.of ?_ ?_ ?_ ?_) (.of ?_ ?_ ?_ ?_ ?_) (.of ?_ ?_ ?_ ?_) (.of ?_ ?_ ?_ ?_) (.of ?_ ?_ ?_ ?_) (.of ?_ ?_ ?_ ?_) (.of ?_ ?_ ?_ ?_ ?_) (.of ?_ ?_ ?_ ?_) (.of ?_ ?_ ?_ ?_) (.of ?_ ?_ ?_ ?_) (.of ?_ ?_ ?_ ?_) (.of ?_ ?_ ?_ ?_) (.of ?_ ?_ ?_ ?_) (.of ?_ ?_ ?_ ?_) (.of ?_ ?_ ?_ ?_) (.of ?_ ?_ ?_ ?_) (.of ?_ ?_ ?_ ?_) (.of ?_ ?_ ?_ ?_) (.of ?_ ?_ ?_ ?_) (.of ?_ ?_ ?_ ?_) (.of ?_ ?_ ?_ ?_) (.of ?_ ?_ ?_ ?_) (.of ?_ ?_ ?_ ?_) (.of ?_ ?_ ?_ ?_) (.of ?_ ?_ ?_ ?_) (.of ?_ ?_ ?_ ?_) (.of ?_ ?_ ?_ ?_) (.of ?_ ?_ ?_ ?_) (.of ?_ ?_ ?_ ?_) (.of ?_ ?_ ?_ ?_) (.of ?_ ?_ ?_ ?_) (.of ?_ ?_ ?_ ?_) (.of ?_ ?_ ?_ ?_) (.of ?_ ?_ ?_ ?_) (.of ?_ ?_ ?_ ?_) (.of ?_ ?_ ?_ ?_) (.of ?_ ?_ ?_ ?_) (.of ?_ ?_ ?_ ?_) (.of ?_ ?_ ?_ ?_) (.of ?_ ?_ ?_ ?_) (.of ?_ ?_ ?_ ?_) (.of ?_ ?_ ?_ ?_ ?_) (.of ?_ ?_ ?_ ?_) (.of ?_ ?_ ?_ ?_) (.of ?_ ?_ ?_ ?_) (.of ?_ ?_ ?_ ?_) (.of ?_ ?_ ?_ ?_) (.of ?_ ?_ ?_ ?_) (.of ?_ ?_ ?_ ?_) (.of ?_ ?_ ?_ ?_) (.of ?_ ?_ ?_ ?_ ?_) (.of ?_ ?_ ?_ ?_ ?_) (.of ?_ ?_ ?_ ?_ ?_) (.of ?_ ?_ ?_ ?_) (.of ?_ ?_ ?_ ?_) (.of ?_ ?_ ?_ ?_) (.of ?_ ?_ ?_ ?_) (.of ?_ ?_ ?_ ?_) (.of ?_ ?_ ?_ ?_) ⟨?_,?_,?_,?_,?_,?_,?_,?_,?_,?_,?_,?_,?_,?_,?_,?_,?_,?_,trivial⟩ ?_ ?_ ?_ ?_ ?_ ?_ ?_ ?_ ?_ ?_ ?_ ?_ ?_ ?_ ?_ ?_ ?_
   all_goals try k_is
   all_goals try k_is
#print axioms PySem.Challenge.cw_signsmooth_k66_cut_holds
