import PyProof.Rows.All
import Wide.All
import OpenK.AllK
import Wide.FinOn
import Lean
import PyProof.EqAt
import PyProof.EqKinds
import PyProof.TupleCall
import PyProof.DictKeyH
import PyProof.DictFindH
import KE.KDictList
import PyProof.DictWalks
import PyProof.StrCalls2
import PyProof.StrCalls3
import PyProof.StrCalls
import PyProof.StrWalks
import PyProof.FString
import KE.KIntText
import PyProof.FitsReplace
import PyProof.StrLawsTight
import PyProof.StrLawsOcc
import PyProof.StrBlockI
import PyProof.SliceStr2
import PyProof.StrLawsChain
import PyProof.StrLaws
import PyProof.Rows.StrJoinMade
import PyProof.StrLawsIdx
import PyProof.StrLawsJoin
import PySem.Challenge.RW_signsmooth_k61_none_left_out
set_option genSizeOf false
set_option bootstrap.genMatcherCode false
set_option Elab.async false
set_option linter.all false
set_option maxRecDepth 100000
set_option exponentiation.threshold 4000
namespace Hx
open PySem PySem.Spec PyProof.Rows
theorem j8:entryFor table "proto.unchain" = some Builtin.«proto.unchain»:=entryFor_of_tree (by kernel_rfl)
section
variable {prog:Program} {w:World} {A:Around} {E:Value->Shared->Prop} {s:Shared}
theorem nC {α:Type} {a h:Addr} {oa oh:Obj} {us vs:Array Value} {Q:α->Shared->Prop} (hh:A.handled=some (.ref h)) (hne:h ≠ a) (ha:s.heap.get? a=some oa) (hda:oa.data=.fields us) (hsz:2 < us.size)
   (ho:s.heap.get? h=some oh) (hd:oh.data=.fields vs) (h2:vs[2]?=some .none)
   (q:E (.ref a) { s with heap:=s.heap.update a (Obj.mapFields (·.setIfInBounds 2 (.ref h))) }):wpAny (model prog w) A (raiseNew (.ref a):Sem α) Q E s:=by
 unfold raiseNew; refine wpAny_bind (wpAny_handled ?_); rw [hh]
 dsimp only
 rw [if_pos (show (Value.ref h != Value.ref a)=true by simp [hne])]
 refine wpAny_bind (wpAny_holding (wpAny_runValue (codeAny_builtin j8 ?_)))
 unfold Builtin.«proto.unchain»
 dsimp only
 refine wpAny_bind (wpAny_field ho hd h2 ?_)
 rw [if_pos (show (Value.none == Value.none)=true by decide)]
 refine wpAny_pure ?_
 show wpAny _ A (do let _ <- updateField a 2 (.ref h); throw (Value.ref a)) _ _ _
 unfold updateField
 refine wpAny_bind (wpAny_bind (wpAny_load ha ?_))
 rw [hda]
 dsimp only
 rw [if_pos hsz]
 exact wpAny_update ha (wpAny_throw q)
theorem o8 {r h:Addr} {v left step:Int} {oh:Obj} {vs:Array Value} {Q:Option Value->Shared->Prop} (hh:A.handled=some (.ref h)) (ho:s.heap.get? h=some oh) (hd:oh.data=.fields vs) (h2:vs[2]?=some .none)
   (hr:IsRangeIter s.heap r v left step) (hl:left<=0) (k:∀ h',Heap.ExtBut r s.heap h'->Q none { s with heap:=h' }):wpAny (model prog w) A (pyNext (.ref r)) Q E s:=by
 have ty:s.TypeIs (.ref r) "range_iterator":=⟨_,hr,rfl⟩
 have hlt:=Heap.lt_size ho
 have fl:∀ {α:Type} {B:Around} {F:Value->Shared->Prop} {R:α->Shared->Prop} (i:Nat) (y:Int) {f:Value->Sem α},(#[rawInt v,rawInt left,rawInt step]:Array Value)[i]?=some (rawInt y)->wpAny (model prog w) B (f (rawInt y)) R F s->wpAny (model prog w) B (field (.ref r) i >>= f) R F s:=by
   intro α B F R i y f e q
   exact wpAny_bind (wpAny_field hr rfl e q)
 unfold pyNext
 refine wpAny_bind (wpAny_attempt (wpAny_callSpecial?_slot (name:=Str.ofString "__next__") ty F.slot_range_iterator_next (wpAny_call_entry F.slot_range_iterator_next ty F.entry_range_iterator_next (fl 0 v rfl (fl 1 left rfl (fl 2 step rfl ?_))) (F.args_range_iterator_next_1 _))))
 show wpAny (model prog w) A.in1 (if left<=0 then _ else _) _ _ s
 rw [if_pos hl]
 refine wpAny_bind (wpAny_rule (wpAny_bind ?_))
 show wpAny _ _ (do let e <- newExc (.type "StopIteration") []; _) _ _ _
 refine wpAny_bind ?_
 simp only [newExc,newTuple]
 refine wpAny_bind (wpAny_newObj_type (wpAny_bind (m:=firstArgMember _ _) (wpAny_of_eq (a:=.none) (by first | rfl | (simp only [firstArgMember]; rfl)) (wpAny_newObj_type ?_ (by size_fits)))) (by size_fits))
 have hg:((s.heap.push { cls:=.type "tuple",data:=.seq ([]:List Value).toArray }).push { cls:=.type "StopIteration",data:=.fields (#[Value.ref s.heap.objs.size,.none,.none,.none,.bool false,.none]++ownMembersOf (.type "StopIteration") []) }).get? (s.heap.push { cls:=.type "tuple",data:=.seq ([]:List Value).toArray }).objs.size
     = some { cls:=.type "StopIteration",data:=.fields (#[Value.ref s.heap.objs.size,.none,.none,.none,.bool false,.none]++ownMembersOf (.type "StopIteration") []) }:=Heap.get?_push_size _ rfl
 refine nC (h:=h) (A:=A.in1) hh ?_ hg rfl (by rw [Array.size_append]; exact Nat.lt_of_lt_of_le (by decide:2 < 6) (Nat.le_add_right _ _)) (Heap.get?_push_of_some _ (Heap.get?_push_of_some _ ho)) hd h2 ?_
 · intro z
   rw [Heap.size_push] at z
   exact absurd hlt (by rw [z]; exact Nat.not_lt.mpr (Nat.le_succ _))
 have hu:=Heap.get?_update_self (Obj.mapFields (·.setIfInBounds 2 (.ref h))) hg rfl
 refine wpAny_bind (wpAny_isInstance (T:="StopIteration") (b:=true) ⟨_,hu,rfl⟩ isSubtype_stop ?_)
 refine wpAny_pure (k _ λb o hb e=>?_)
 have bl:=Heap.lt_size e
 rw [Heap.get?_update_other _ _ (by intro z; rw [Heap.size_push] at z; exact absurd bl (by rw [<- z]; exact Nat.not_lt.mpr (Nat.le_succ _)))]
 exact Heap.get?_push_of_some _ (Heap.get?_push_of_some _ e)
end
end Hx
set_option linter.all false
set_option maxRecDepth 100000
namespace L2
open PySem PySem.Spec PyProof.Rows
noncomputable abbrev Key:=Sum Int Str
noncomputable def kP:Key->Value->Bool
 | .inl k,v=>Value.isInt k v
 | .inr x,v=>Value.isStrOf x v
noncomputable def BX (w:World):Key->Int
 | .inl k=>hashInt k
 | .inr x=>hashStr w x
theorem a6:∀ {k:Key} {v:Value},kP k v=true->(∃ i t,k=Sum.inl i/\v=Value.int i t)\/(∃ x t,k=Sum.inr x/\v=Value.str x t)
 | .inl i,v,h=>by
   obtain ⟨t,e⟩:=Value.isInt_shape (k:=i) (v:=v) h
   exact .inl ⟨i,t,rfl,e⟩
 | .inr x,v,h=>by
   obtain ⟨t,e⟩:=Value.isStrOf_shape (x:=x) (v:=v) h
   exact .inr ⟨x,t,rfl,e⟩
theorem sa (i:Int) (t:Tok):kP (.inl i) (.int i t)=true:=by simp [kP,Value.isInt]
theorem rM (x:Str) (t:Tok):kP (.inr x) (.str x t)=true:=by simp [kP,Value.isStrOf]
theorem yV (a b:Int):decide ((Sum.inl a:Key)=Sum.inl b)=(a == b):=by
 by_cases e:a=b
 · subst e; simp
 · have h:¬ (Sum.inl a:Key)=Sum.inl b:=λq=>e (Sum.inl.inj q)
   rw [decide_eq_false h]
   exact (beq_eq_false_iff_ne.mpr e).symm
theorem y3 (a b:Str):decide ((Sum.inr a:Key)=Sum.inr b)=decide (a=b):=by
 by_cases e:a=b
 · subst e; simp
 · have h:¬ (Sum.inr a:Key)=Sum.inr b:=λq=>e (Sum.inr.inj q)
   rw [decide_eq_false h,decide_eq_false e]
theorem zi (a:Int) (b:Str):decide ((Sum.inl a:Key)=Sum.inr b)=false:=decide_eq_false (λq=>nomatch q)
theorem yX (a:Str) (b:Int):decide ((Sum.inr a:Key)=Sum.inl b)=false:=decide_eq_false (λq=>nomatch q)
noncomputable def a5 (prog:Program) (w:World):PySem.KeyKind prog w Key where
 is:=kP
 hash:=BX w
 inj:=λv a b ha hb=>by
   rcases a6 ha with ⟨i,t,rfl,rfl⟩ | ⟨x,t,rfl,rfl⟩
   · rcases a6 hb with ⟨j,u,rfl,e⟩ | ⟨y,u,rfl,e⟩
     · injection e with e1 _; rw [e1]
     · exact nomatch e
   · rcases a6 hb with ⟨j,u,rfl,e⟩ | ⟨y,u,rfl,e⟩
     · exact nomatch e
     · injection e with e1 _; rw [e1]
 byValue:=λk v h=>by
   rcases a6 h with ⟨i,t,rfl,rfl⟩ | ⟨x,t,rfl,rfl⟩ <;> rfl
 pyHash:=λhv h=>by
   rcases a6 hv with ⟨i,t,rfl,rfl⟩ | ⟨x,t,rfl,rfl⟩
   · exact wpAny_pyHash_int h
   · exact wpAny_pyHash_str h
 eqBool:=λhu hv h=>by
   rcases a6 hu with ⟨i,t,rfl,rfl⟩ | ⟨x,t,rfl,rfl⟩
   · rcases a6 hv with ⟨j,u,rfl,rfl⟩ | ⟨y,u,rfl,rfl⟩
     · rw [yV] at h; exact wpAny_eqBool_int h
     · rw [zi] at h; exact SeqAt.EqAt.int_str i t y u _ _ _ _ h
   · rcases a6 hv with ⟨j,u,rfl,rfl⟩ | ⟨y,u,rfl,rfl⟩
     · rw [yX] at h; exact SeqAt.EqAt.str_int x t j u _ _ _ _ h
     · rw [y3] at h; exact wpAny_eqBool_str h
 «strs»:=λk x t v h=>by
   rcases a6 h with ⟨i,u,rfl,e⟩ | ⟨y,u,rfl,e⟩
   · exact nomatch e
   · injection e with e1 _
     subst e1
     cases v <;> rfl
theorem nB (prog:Program) (w:World) (i:Int) (t:Tok):(a5 prog w).is (.inl i) (.int i t)=true:=sa i t
theorem m9 (prog:Program) (w:World) (x:Str) (t:Tok):(a5 prog w).is (.inr x) (.str x t)=true:=rM x t
inductive V where
 | non | bl (b:Bool) | int (i:Int) | str (x:Str) | byt (b:Array UInt8) | flt (b:UInt64) | ref (a:Addr) | ty (n:String)
 deriving DecidableEq
noncomputable def RelV:V->Value->Prop
 | .non,u=>u=Value.none
 | .bl b,u=>u=Value.bool b
 | .int i,u=>∃ t,u=Value.int i t
 | .str x,u=>∃ t,u=Value.str x t
 | .byt b,u=>∃ t,u=Value.bytes b t
 | .flt b,u=>∃ t,u=Value.float b t
 | .ref a,u=>u=Value.ref a
 | .ty n,u=>u=Value.type n
noncomputable abbrev Vals:List V->List Value->Prop:=Paired RelV
theorem Vals.length {xs:List V} {us:List Value} (r:Vals xs us):xs.length=us.length:=Paired.length r
theorem Vals.get:∀ {xs:List V} {us:List Value} {i:Nat} {x:V},Vals xs us->xs[i]?=some x->∃ u,us[i]?=some u/\RelV x u
 | _,_,_,_,.nil,e=>by simp at e
 | _,_,0,_,.cons r _,e=>by simp at e; subst e; exact ⟨_,rfl,r⟩
 | _,_,i + 1,x,.cons _ t,e=>by
   obtain ⟨u,h1,h2⟩:=Vals.get (i:=i) (x:=x) t (by simpa using e)
   exact ⟨u,by simpa using h1,h2⟩
theorem Vals.set {x:V} {u:Value} (r:RelV x u):∀ {xs:List V} {us:List Value} (i:Nat),Vals xs us->Vals (xs.set i x) (us.set i u)
 | _,_,_,.nil=>.nil
 | _,_,0,.cons _ t=>.cons r t
 | _,_,i + 1,.cons q t=>.cons q (Vals.set r i t)
theorem Vals.append:∀ {xs ys:List V} {us ws:List Value},Vals xs us->Vals ys ws->Vals (xs++ys) (us++ws)
 | _,_,_,_,.nil,s=>s
 | _,_,_,_,.cons r t,s=>.cons r (Vals.append t s)
theorem Vals.take:∀ {xs:List V} {us:List Value} (n:Nat),Vals xs us->Vals (xs.take n) (us.take n)
 | _,_,0,_=>.nil
 | _,_,_ + 1,.nil=>.nil
 | _,_,n + 1,.cons r t=>.cons r (Vals.take n t)
theorem Vals.drop:∀ {xs:List V} {us:List Value} (n:Nat),Vals xs us->Vals (xs.drop n) (us.drop n)
 | _,_,0,r=>r
 | _,_,_ + 1,.nil=>.nil
 | _,_,n + 1,.cons _ t=>Vals.drop n t
noncomputable def nO:Option V->Option Value->Prop
 | some v,some u=>RelV v u
 | none,none=>True
 | _,_=>False
noncomputable def KV {κ:Type}:List (κ × V)->List (κ × Value)->Prop:=Paired λ(p:κ × V) (q:κ × Value)=>p.1=q.1/\RelV p.2 q.2
noncomputable def kV:Key->V
 | .inl i=>.int i
 | .inr x=>.str x
inductive HO where
 | lst (xs:List V)
 | tup (xs:List V)
 | dK (kvs:List (Key × V)) | dT (kvs:List (List Key × V))
 | set (S:Int->Bool) (n:Nat)
 | ins (C dx:Addr) (fs:List (Str × V))
 | own (x:Addr)
 | xd (fs:List (Str × V))
 | met (f x:Addr)
 | rng (lo hi:Int)
 | frz (o:Obj) (u:HO)
 | tbl (ps:Array Value)
 | ext (φ:Heap->Prop)
noncomputable abbrev Hp:=Addr->Option HO
noncomputable def upd (H:Hp) (a:Addr) (o:HO):Hp:=λb=>if b=a then some o else H b
theorem aA {H:Hp} {a:Addr} {o:HO}:upd H a o a=some o:=by unfold upd; rw [if_pos rfl]
theorem aw {H:Hp} {a b:Addr} {o:HO} (h:b ≠ a):upd H a o b=H b:=by unfold upd; rw [if_neg h]
theorem aN {H:Hp} {a b:Addr} {o:HO} (h:H a=some o) (h':H b=none):a ≠ b:=by
 intro e; subst e; rw [h] at h'; cases h'
section
variable (P:Program) (w:World)
noncomputable def bf (H:Hp) (h:Heap) (a:Addr):HO->Prop
 | .lst xs=>xs.length<=sizeLine/\∃ (its:List Value) (n:Nat),Vals xs its/\h.get? a=some { cls:=.type "list",data:=.seq its.toArray n }
 | .tup xs=>xs.length<=sizeLine/\∃ its:List Value,Vals xs its/\IsTup h a its.toArray
 | .dK kvs=>kvs.length<=sizeLine/\(a == sysModules)=false/\∃ vs,KV kvs vs/\h.DictOf (a5 P w) a vs
 | .dT kvs=>kvs.length<=sizeLine/\(a == sysModules)=false/\∃ xs:List (List Key × Addr × Value),
     Paired (λ(p:List Key × V) (q:List Key × Addr × Value)=>p.1=q.1/\H q.2.1=some (.tup (p.1.map kV))/\RelV p.2 q.2.2) kvs xs /\
     ∃ o es ep,h.get? a=some o/\o.ExactDict/\o.data=.dict es ep/\es.toList=xs.map (entryOfKey (tupleKind (a5 P w)))/\(xs.map (·.1)).Nodup
 | .set S n=>h.SetOf (intKind P w) a S n
 | .ins C dx fs=>H dx=some (.own a)/\fs.length<=1000/\dx ≠ a/\h.get? a=some (PySem.W.instObj C dx) /\
     ∃ mA,h.Ns1 dx mA/\(∀ f,nO (fs.lookup f) (mA f))/\PySem.Within mA (fs.map (·.1))
 | .own _=>∃ o,h.get? a=some o
 | .xd fs=>∃ mA,h.Ns1 a mA/\∀ f,nO (fs.lookup f) (mA f)
 | .rng lo hi=>∃ t u v,h.get? a=some { cls:=.type "range",data:=.fields #[.int lo t,.int hi u,.int 1 v] }
 | .frz o u=>h.get? a=some o/\bf H h a u
 | .tbl ps=>h.get? a=some { cls:=.none,data:=.fields ps }
 | .met f x=>h.get? a=some (PySem.W.methodObj (.ref f) (.ref x))
 | .ext φ=>φ h/\(∃ o,h.get? a=some o)/\∀ h1 h2:Heap,φ h1->(∀ o,h1.get? a=some o->h2.get? a=some o)->φ h2
noncomputable def HOk (H:Hp) (h:Heap):Prop:=∀ a o,H a=some o->bf P w H h a o
end
section
variable {P:Program} {w:World} {H H':Hp} {h h':Heap} {a:Addr} {o:HO}
theorem bf.lt (x:bf P w H h a o):a < h.objs.size:=by
 cases o with
 | lst xs=>obtain ⟨_,_,_,_,e⟩:=x; exact Heap.lt_size e
 | tup xs=>obtain ⟨_,_,_,p⟩:=x; exact p.lt
 | dK kvs=>obtain ⟨_,_,_,_,o,_,_,e,_⟩:=x; exact Heap.lt_size e
 | dT kvs=>obtain ⟨_,_,_,_,o,_,_,e,_⟩:=x; exact Heap.lt_size e
 | set S n=>obtain ⟨o,_,_,_,e,_⟩:=x; exact Heap.lt_size e
 | ins C dx fs=>obtain ⟨_,_,_,e,_⟩:=x; exact Heap.lt_size e
 | own y=>obtain ⟨_,e⟩:=x; exact Heap.lt_size e
 | xd fs=>obtain ⟨_,⟨_,_,_,e,_⟩,_⟩:=x; exact Heap.lt_size e
 | rng lo hi=>obtain ⟨_,_,_,e⟩:=x; exact Heap.lt_size e
 | frz ob u=>obtain ⟨e,_⟩:=x; exact Heap.lt_size e
 | tbl ps=>exact Heap.lt_size (show h.get? a=some _ from x)
 | met f y=>exact Heap.lt_size (show h.get? a=some _ from x)
 | ext φ=>obtain ⟨_,⟨_,e⟩,_⟩:=x; exact Heap.lt_size e
theorem Paired.By {α β:Type} {F G:α->β->Prop}:∀ {l₁:List α} {l₂:List β},Paired F l₁ l₂->(∀ a b,F a b->G a b)->Paired G l₁ l₂
 | _,_,.nil,_=>.nil
 | _,_,.cons r t,f=>.cons (f _ _ r) (Paired.By t f)
theorem bf.jh (x:bf P w H h a o) (k:∀ b u,(b=a\/H b=some (.own a))->h.get? b=some u->h'.get? b=some u)
   (ho:∀ b,H b=some (.own a)->H' b=some (.own a)) (ht:∀ b xs,H b=some (.tup xs)->H' b=some (.tup xs)):bf P w H' h' a o:=by
 induction o with
 | lst xs=>obtain ⟨z,its,n,r,e⟩:=x; exact ⟨z,its,n,r,k _ _ (.inl rfl) e⟩
 | tup xs=>obtain ⟨z,its,r,ob,e,c⟩:=x; exact ⟨z,its,r,ob,k _ _ (.inl rfl) e,c⟩
 | dK kvs=>obtain ⟨z,y,vs,r,ob,es,ep,e,c⟩:=x; exact ⟨z,y,vs,r,ob,es,ep,k _ _ (.inl rfl) e,c⟩
 | dT kvs=>
   obtain ⟨z,y,xs,r,ob,es,ep,e,c⟩:=x
   exact ⟨z,y,xs,Paired.By r λp q z=>⟨z.1,ht _ _ z.2.1,z.2.2⟩,ob,es,ep,k _ _ (.inl rfl) e,c⟩
 | set S n=>obtain ⟨ob,es,ep,t,e,c⟩:=x; exact ⟨ob,es,ep,t,k _ _ (.inl rfl) e,c⟩
 | ins C dx fs=>
   obtain ⟨d,z,ne,e,mA,⟨od,es,ep,e2,c⟩,r⟩:=x
   exact ⟨ho _ d,z,ne,k _ _ (.inl rfl) e,mA,⟨od,es,ep,k _ _ (.inr d) e2,c⟩,r⟩
 | own y=>obtain ⟨ob,e⟩:=x; exact ⟨ob,k _ _ (.inl rfl) e⟩
 | xd fs=>obtain ⟨mA,⟨od,es,ep,e,c⟩,r⟩:=x; exact ⟨mA,⟨od,es,ep,k _ _ (.inl rfl) e,c⟩,r⟩
 | rng lo hi=>obtain ⟨t,u,v,e⟩:=x; exact ⟨t,u,v,k _ _ (.inl rfl) e⟩
 | frz ob u ih=>obtain ⟨e,q⟩:=x; exact ⟨k _ _ (.inl rfl) e,ih q⟩
 | tbl ps=>
   have e:h.get? a=some { cls:=.none,data:=.fields ps }:=x
   show h'.get? a=some { cls:=.none,data:=.fields ps }
   exact k a _ (.inl rfl) e
 | met f y=>
   have e:h.get? a=some (PySem.W.methodObj (.ref f) (.ref y)):=x
   show h'.get? a=some (PySem.W.methodObj (.ref f) (.ref y))
   exact k a _ (.inl rfl) e
 | ext φ=>obtain ⟨p,⟨o,e⟩,st⟩:=x; exact ⟨st _ _ p λo q=>k _ _ (.inl rfl) q,⟨o,k _ _ (.inl rfl) e⟩,st⟩
theorem HOk.lt (x:HOk P w H h) (e:H a=some o):a < h.objs.size:=(x a o e).lt
theorem HOk.fresh (x:HOk P w H h) (e:h.objs.size<=a):H a=none:=by
 cases q:H a with
 | none=>rfl
 | some u=>exact absurd (Nat.lt_of_lt_of_le (x.lt q) e) (Nat.lt_irrefl _)
theorem HOk.kept (x:HOk P w H h) (k:∀ b u,h.get? b=some u->h'.get? b=some u):HOk P w H h':=λa o e=>
 (x a o e).jh (λb u _ q=>k b u q) (λ_ q=>q) λ_ _ q=>q
theorem HOk.laid (x:HOk P w H h) (k:∀ b u,h.get? b=some u->h'.get? b=some u) (hp:h.objs.size<=a) (new:bf P w (upd H a o) h' a o):HOk P w (upd H a o) h':=λb u e=>by
 have hn:=x.fresh hp
 by_cases hb:b=a
 · subst hb; rw [aA] at e; cases e; exact new
 · rw [aw hb] at e
   exact (x b u e).jh (λc v _ q=>k c v q) (λc q=>by rw [aw (aN q hn)]; exact q) λc xs q=>by rw [aw (aN q hn)]; exact q
end
noncomputable def Rd (H:Hp) (a:Addr) (u:HO):Prop:=H a=some u\/∃ o,H a=some (.frz o u)
theorem Rd.ok {P:Program} {w:World} {H:Hp} {h:Heap} {a:Addr} {u:HO} (r:Rd H a u) (x:HOk P w H h):bf P w H h a u:=by
 rcases r with r | ⟨o,r⟩
 · exact x a u r
 · obtain ⟨_,q⟩:=x a _ r
   exact q
noncomputable def Mut:Option HO->Prop
 | some (.lst _)=>True
 | some (.dK _)=>True
 | some (.dT _)=>True
 | some (.set _ _)=>True
 | some (.ins _ _ _)=>True
 | some (.ext _)=>True
 | _=>False
section
variable {P:Program} {w:World} {H:Hp} {h h':Heap} {x e:Addr} {o':HO}
theorem HOk.write (ok:HOk P w H h) (mu:Mut (H x)) (he:e=x\/H e=some (.own x)) (k:∀ b u,b ≠ e->h.get? b=some u->h'.get? b=some u) (heo:∃ u,h'.get? e=some u)
   (new:bf P w (upd H x o') h' x o'):HOk P w (upd H x o') h':=λb u q=>by
 have nown:∀ c y,H c=some (.own y)->c ≠ x:=λc y r z=>by subst z; rw [r] at mu; exact mu
 have ntup:∀ c xs,H c=some (.tup xs)->c ≠ x:=λc xs r z=>by subst z; rw [r] at mu; exact mu
 by_cases hb:b=x
 · subst hb; rw [aA] at q; cases q; exact new
 · rw [aw hb] at q
   by_cases hbe:b=e
   · have q':H b=some (.own x):=by
       rcases he with z | z
       · exact absurd (hbe.trans z) hb
       · rw [hbe]; exact z
     rw [q] at q'; cases q'
     obtain ⟨v,hv⟩:=heo
     exact ⟨v,by rw [hbe]; exact hv⟩
   · refine (ok b u q).jh (λc v hc r=>k c v ?_ r) (λc r=>by rw [aw (nown c b r)]; exact r) λc xs r=>by rw [aw (ntup c xs r)]; exact r
     rcases hc with rfl | hc
     · exact hbe
     · rintro rfl
       rcases he with z | z
       · exact nown c b hc z
       · rw [hc] at z; cases z; exact hb rfl
end
structure Un (fs ex:List Addr) (H H':Hp) (h h':Heap):Prop where
 keep:∀ b o,h.get? b=some o->H b=none->b ∉ fs->b ∉ ex->h'.get? b=some o
 slot:∀ b o,h.get? b=some o->H b=none->b ∈ fs->b ∉ ex->∃ sl,h'.get? b=some { o with slots:=sl }
 free:∀ b o,h.get? b=some o->H b=none->b ∉ ex->H' b=none
 there:∀ b o,h.get? b=some o->b ∉ ex->∃ o',h'.get? b=some o'
 tups:∀ b xs,H b=some (.tup xs)->H' b=some (.tup xs)
 frzs:∀ b o u,H b=some (.frz o u)->H' b=some (.frz o u)
 tbls:∀ b ps,H b=some (.tbl ps)->∃ more,H' b=some (.tbl (ps++more))
section
variable {fs fs' ex ex':List Addr} {H H1 H2:Hp} {h h1 h2 h':Heap} {a x e:Addr} {o:HO}
theorem Un.any (u:Un fs ex H H1 h h1) {b:Addr} {ob:Obj} (q:h.get? b=some ob) (n:H b=none) (hx:b ∉ ex):∃ sl,h1.get? b=some { ob with slots:=sl }:=by
 by_cases hb:b ∈ fs
 · exact u.slot b ob q n hb hx
 · exact ⟨ob.slots,u.keep b ob q n hb hx⟩
theorem Un.kept (k:∀ b u,h.get? b=some u->h'.get? b=some u):Un fs ex H H h h':=
 ⟨λb ob q _ _ _=>k b ob q,λb ob q _ _ _=>⟨ob.slots,k b ob q⟩,λ_ _ _ n _=>n,λb ob q _=>⟨ob,k b ob q⟩,λ_ _ q=>q,λ_ _ _ q=>q,λ_ ps q=>⟨#[],by rw [q]; simp⟩⟩
theorem Un.refl:Un fs ex H H h h:=Un.kept λ_ _ q=>q
theorem Un.laid (k:∀ b u,h.get? b=some u->h'.get? b=some u) (hp:h.objs.size<=a) (hn:H a=none):Un fs ex H (upd H a o) h h' where
 keep:=λb u q _ _ _=>k b u q
 slot:=λb u q _ _ _=>⟨u.slots,k b u q⟩
 free:=λb u q n _=>by rw [aw (Nat.ne_of_lt (Nat.lt_of_lt_of_le (Heap.lt_size q) hp))]; exact n
 there:=λb u q _=>⟨u,k b u q⟩
 tups:=λb xs q=>by rw [aw (aN q hn)]; exact q
 frzs:=λb u xs q=>by rw [aw (aN q hn)]; exact q
 tbls:=λb ps q=>⟨#[],by rw [aw (aN q hn),q]; simp⟩
theorem Un.write (mu:Mut (H x)) (he:e=x\/H e=some (.own x)) (k:∀ b u,b ≠ e->h.get? b=some u->h'.get? b=some u) (heo:∃ u,h'.get? e=some u):Un fs ex H (upd H x o) h h':=by
 have hx:∀ b,H b=none->b ≠ x:=λb n z=>by subst z; rw [n] at mu; exact mu
 have hb:∀ b,H b=none->b ≠ e:=λb n z=>by
   subst z
   rcases he with r | r
   · exact hx b n r
   · rw [n] at r; cases r
 have hm:∀ b u,H b=some u->¬ Mut (some u)->b ≠ x:=λb u q nm z=>by subst z; rw [q] at mu; exact nm mu
 refine ⟨λb u q n _ _=>k b u (hb b n) q,λb u q n _ _=>⟨u.slots,k b u (hb b n) q⟩,λb u q n _=>by rw [aw (hx b n)]; exact n,λb u q _=>?_,
   λb xs q=>by rw [aw (hm b _ q λz=>z)]; exact q,λb u xs q=>by rw [aw (hm b _ q λz=>z)]; exact q,λb ps q=>⟨#[],by rw [aw (hm b _ q λz=>z),q]; simp⟩⟩
 by_cases hbe:b=e
 · subst hbe; exact heo
 · exact ⟨u,k b u hbe q⟩
end
noncomputable def trk (h:Heap) (H:Hp):List Addr:=(List.range h.objs.size).filter λa=>(H a).isSome
noncomputable def lB (h:Heap) (H:Hp):Heap:=PySem.W.hideAll h (trk h H)
theorem rY (h:Heap) (H:Hp):(lB h H).objs.size=h.objs.size:=PySem.W.hideAll_size _ _
theorem t8 {h:Heap} {H:Hp} {b:Addr} {o:Obj} (e:h.get? b=some o) (n:H b=none):(lB h H).get? b=some o:=
 PySem.W.hideAll_get _ e λhm=>by
   have q:(H b).isSome=true:=(List.mem_filter.mp hm).2
   rw [n] at q; simp at q
theorem vq {h:Heap} {H:Hp} {b:Addr} {o:Obj} (e:(lB h H).get? b=some o):h.get? b=some o/\H b=none:=by
 have e':h.get? b=some o:=PySem.W.of_hideAll (trk h H) e
 refine ⟨e',?_⟩
 cases q:H b with
 | none=>rfl
 | some x=>
   have hm:b ∈ trk h H:=List.mem_filter.mpr ⟨List.mem_range.mpr (Heap.lt_size e'),by simp [q]⟩
   have z:(lB h H).get? b=none:=PySem.W.hideAll_none (trk h H) hm
   rw [z] at e; cases e
noncomputable def wb (g h:Heap) (L:Addr):List (Addr × Obj):=(List.range h.objs.size).filterMap λa=>if a=L\/(g.get? a).isSome=true then none else (h.get? a).map λo=>(a,o)
noncomputable def rest (g h:Heap) (L d:Addr):List (Addr × Obj):=(wb g h L).filter λp=>decide (p.1 ≠ d)
structure Mod (K:PySem.W.Frag) (mg:Str->Option Value) (base:Heap):Prop where
 kin:K.In base
 glob:base.Ns mainGlobals mg
 blt:∃ mb,base.Ns builtinsNs mb/\∀ x:Str,x ≠ "__name__" -> mb x=bootBuiltins x
 nolimit:base.NoLimit
structure Cx where
 prog:Program
 w:World
 K:PySem.W.Frag
 mg:Str->Option Value
 base:Heap
 A:Around
 N:List Str
 s₀:Shared
 H₀:Hp
 env:Env
 outer:List Env
 stack:List Env
 ex:List Addr
 fn:Str->Bool
 calm:Bool
 pn:List (Addr × Obj)
 xe:Value->Shared->Prop
noncomputable def frs (l:List Env):List Addr:=l.filterMap (·.frame)
noncomputable abbrev Cx.fs (X:Cx):List Addr:=frs X.outer
noncomputable def Vis (sc:Scope) (x:Str):Prop:=sc.names.lookup x=some .local\/sc.names.lookup x=some .cell\/sc.names.lookup x=some .free
noncomputable def Loc (sc:Scope) (x:Str):Prop:=sc.names.lookup x=some .local\/sc.names.lookup x=some .cell
noncomputable def Look (env:Env) (h:Heap) (m:Str->Option Value) (x:Str) (u:Value):Prop:=
 (env.kindOf x=some .local/\m x=some u)\/((env.kindOf x=some .cell\/env.kindOf x=some .free)/\∃ c,env.cells.lookup x=some c/\h.IsCell c (some u))
structure Cx.Ok (X:Cx):Prop where
 mod:Mod X.K X.mg X.base
 kind:X.env.scope.kind=.function
 glob:X.env.globals=mainGlobals
 blt:X.env.builtins=builtinsNs
 above:X.s₀.heap.objs.size<=X.env.locals
 inj:∀ x y c,X.env.cells.lookup x=some c->X.env.cells.lookup y=some c->x=y
 has:∀ x,(X.env.kindOf x=some .cell\/X.env.kindOf x=some .free)->∃ c,X.env.cells.lookup x=some c
 cab:∀ x c,X.fn x=true->X.env.cells.lookup x=some c->X.s₀.heap.objs.size<=c
 hd:X.calm=true->X.A.handled=none
 frames:X.A.frames=some X.stack
 stk:X.stack=X.outer\/(X.stack=X.env :: X.outer/\X.env.frame=some X.env.locals)
 exf:∀ b ∈ X.ex,b ≠ X.env.locals/\∀ x c,X.env.cells.lookup x=some c->c ≠ b
 bs:∀ b o,X.base.get? b=some o->X.s₀.heap.get? b=some o/\X.H₀ b=none
 bsz:X.base.objs.size<=X.s₀.heap.objs.size
 noex:∀ b o,X.base.get? b=some o->b ∉ X.ex
 exfs:∀ b ∈ X.ex,b ∉ X.fs
 jt:X.s₀.heap.FunFrames X.base X.outer
 frf:∀ b ∈ X.fs,X.H₀ b=none
structure Inv (X:Cx) (pins:List (Addr × Obj)) (σ:List (Option V)) (H:Hp) (s:Shared):Prop where
 ok:X.Ok
 os:s.os=X.s₀.os
 bare:AllBare s.gens
 base:Un X.fs X.ex X.H₀ H X.s₀.heap s.heap
 loc:∃ m,s.heap.Ns X.env.locals m/\∀ (i:Nat) (x:Str) (v:V),X.N[i]?=some x->σ[i]?=some (some v)->Vis X.env.scope x->∃ u,RelV v u/\Look X.env s.heap m x u
 cell:∀ x c,X.env.cells.lookup x=some c->∃ v,s.heap.IsCell c v
 free:H X.env.locals=none
 freeC:∀ x c,X.env.cells.lookup x=some c->H c=none
 pin:∀ p ∈ X.pn++pins,s.heap.get? p.1=some p.2/\H p.1=none/\p.1 ≠ X.env.locals/\p.1 ∉ X.fs/\∀ v,p.2.data ≠ .cell v
 hok:HOk X.prog X.w H s.heap
 len:σ.length=X.N.length
section
variable {X:Cx} {pins:List (Addr × Obj)} {σ:List (Option V)} {H H':Hp} {s:Shared} {h':Heap}
theorem Cx.Ok.Cg (ok:X.Ok) {b:Addr} {o:Obj} (e:X.base.get? b=some o):b ∉ X.fs:=λhb=>by
 have:=(ok.jt.mem hb).1
 rw [e] at this; cases this
theorem Inv.bs (I:Inv X pins σ H s):∀ b o,X.base.get? b=some o->s.heap.get? b=some o/\H b=none:=λb o e=>
 ⟨I.base.keep b o (I.ok.bs b o e).1 (I.ok.bs b o e).2 (I.ok.Cg e) (I.ok.noex b o e),I.base.free b o (I.ok.bs b o e).1 (I.ok.bs b o e).2 (I.ok.noex b o e)⟩
theorem Inv.bk (I:Inv X pins σ H s):∀ b o,X.base.get? b=some o->s.heap.get? b=some o:=λb o e=>(I.bs b o e).1
theorem Inv.mod (I:Inv X pins σ H s):Mod X.K X.mg X.base:=I.ok.mod
theorem Inv.kIn (I:Inv X pins σ H s):X.K.In s.heap:=I.ok.mod.kin.keeps I.bk
theorem Inv.lt (I:Inv X pins σ H s):X.env.locals < s.heap.objs.size:=let ⟨_,hn,_⟩:=I.loc; hn.lt
theorem Inv.sz (I:Inv X pins σ H s):X.s₀.heap.objs.size<=s.heap.objs.size:=Nat.le_trans I.ok.above (Nat.le_of_lt I.lt)
theorem Inv.B5 (I:Inv X pins σ H s) {a:Addr} (h:s.heap.objs.size<=a):a ∉ X.fs:=λhb=>by
 obtain ⟨_,o,ho,_⟩:=I.ok.jt.mem hb
 exact absurd (Nat.lt_of_lt_of_le (Heap.lt_size ho) (Nat.le_trans I.sz h)) (Nat.lt_irrefl _)
theorem Inv.cne (I:Inv X pins σ H s):∀ x c,X.env.cells.lookup x=some c->c ≠ X.env.locals:=λx c e z=>by
 obtain ⟨v,o,ho,hd⟩:=I.cell x c e
 obtain ⟨m,⟨o',es,ep,ho',hd',_⟩,_⟩:=I.loc
 rw [z,ho'] at ho; cases ho; rw [hd'] at hd; cases hd
theorem Inv.jt (I:Inv X pins σ H s):s.heap.FunFrames X.base X.outer:=by
 have all:∀ (l:List Env),(∀ b ∈ frs l,b ∈ X.fs)->X.s₀.heap.FunFrames X.base l->s.heap.FunFrames X.base l:=by
   intro l
   induction l with
   | nil=>intro _ _; trivial
   | cons env r ih=>
     intro hs hl
     obtain ⟨hk,⟨L,o,hf,hn,ho,hd⟩,hr⟩:=hl
     have hL:L ∈ X.fs:=hs L (by unfold frs; rw [List.filterMap_cons,hf]; exact List.mem_cons_self)
     obtain ⟨sl,e⟩:=I.base.slot L o ho (I.ok.frf L hL) hL λz=>I.ok.exfs L z hL
     exact ⟨hk,⟨L,_,hf,hn,e,hd⟩,ih (λb hb=>hs b (by unfold frs; rw [List.filterMap_cons,hf]; exact List.mem_cons_of_mem _ hb)) hr⟩
 exact all X.outer (λ_ hb=>hb) I.ok.jt
theorem Inv.stack (I:Inv X pins σ H s):s.heap.FunFrames X.base X.stack:=by
 rcases I.ok.stk with e | ⟨e,hf⟩
 · rw [e]; exact I.jt
 · rw [e]
   obtain ⟨m,hn,_⟩:=I.loc
   refine .cons (by rw [I.ok.kind]; decide) hf hn ?_ I.jt
   exact Heap.get?_none_of_le (Nat.le_trans I.ok.bsz I.ok.above)
theorem Inv.pH (I:Inv X pins σ H s):∀ b ∈ frs X.stack,b ∈ X.env.locals :: X.fs:=λb hb=>by
 rcases I.ok.stk with e | ⟨e,hf⟩
 · rw [e] at hb; exact List.mem_cons_of_mem _ hb
 · rw [e] at hb
   unfold frs at hb
   rw [List.filterMap_cons,hf] at hb
   exact hb
theorem Inv.q0 (I:Inv X pins σ H s):∀ b ∈ frs X.stack,H b=none:=λb hb=>by
 rcases List.mem_cons.mp (I.pH b hb) with e | hb
 · rw [e]; exact I.free
 · obtain ⟨_,o,ho,_⟩:=I.ok.jt.mem hb
   exact I.base.free b o ho (I.ok.frf b hb) λz=>I.ok.exfs b z hb
theorem Inv.step {g':Array GenState} {t':Nat} {d':Drawn} {ch:List Addr} (I:Inv X pins σ H s)
   (hch:∀ b ∈ ch,(b ∈ X.ex\/X.s₀.heap.objs.size<=b)/\b ≠ X.env.locals/\(∀ x c,X.env.cells.lookup x=some c->c ≠ b)/\∀ p ∈ X.pn++pins,p.1 ≠ b)
   (keep:∀ b o,b ≠ X.env.locals->b ∉ X.fs->b ∉ ch->s.heap.get? b=some o->H b=none->h'.get? b=some o)
   (slot:∀ b o,b ≠ X.env.locals->b ∈ X.fs->b ∉ ch->s.heap.get? b=some o->H b=none->∃ sl,h'.get? b=some { o with slots:=sl }) (free:∀ b o,b ∉ ch->s.heap.get? b=some o->H b=none->H' b=none)
   (there:∀ b o,b ∉ ch->s.heap.get? b=some o->∃ o',h'.get? b=some o')
   (tups:∀ b xs,H b=some (.tup xs)->H' b=some (.tup xs)) (frzs:∀ b o u,H b=some (.frz o u)->H' b=some (.frz o u)) (tbls:∀ b ps,H b=some (.tbl ps)->∃ more,H' b=some (.tbl (ps++more)))
   (ns:∀ m,s.heap.Ns X.env.locals m->h'.Ns X.env.locals m) (hok:HOk X.prog X.w H' h') (hg:AllBare g') :
   Inv X pins σ H' { s with heap:=h',gens:=g',drawn:=d',toks:=t' }:=by
 have neL:∀ b o,X.s₀.heap.get? b=some o->b ≠ X.env.locals:=λb o e=>Nat.ne_of_lt (Nat.lt_of_lt_of_le (Heap.lt_size e) I.ok.above)
 have neC:∀ b o,X.s₀.heap.get? b=some o->b ∉ X.ex->b ∉ ch:=λb o e hx hb=>by
   rcases (hch b hb).1 with z | z
   · exact hx z
   · exact absurd (Nat.lt_of_lt_of_le (Heap.lt_size e) z) (Nat.lt_irrefl _)
 have cellK:∀ x c,X.env.cells.lookup x=some c->∀ v,s.heap.IsCell c v->h'.IsCell c v:=λx c e v ⟨o,ho,hd⟩=>by
   have nch:c ∉ ch:=λz=>(hch c z).2.2.1 x c e rfl
   by_cases hc:c ∈ X.fs
   · obtain ⟨sl,q⟩:=slot c o (I.cne x c e) hc nch ho (I.freeC x c e)
     exact ⟨_,q,hd⟩
   · exact ⟨o,keep c o (I.cne x c e) hc nch ho (I.freeC x c e),hd⟩
 refine ⟨I.ok,I.os,hg,⟨λb o e n hb hx=>?_,λb o e n hb hx=>?_,λb o e n hx=>?_,λb o e hx=>?_,λb xs e=>tups b xs (I.base.tups b xs e),λb o xs e=>frzs b o xs (I.base.frzs b o xs e),λb ps e=>?_⟩,?_,λx c e=>?_,?_,λx c e=>?_,λp hp=>?_,hok,I.len⟩
 · exact keep b o (neL b o e) hb (neC b o e hx) (I.base.keep b o e n hb hx) (I.base.free b o e n hx)
 · obtain ⟨sl,e1⟩:=I.base.slot b o e n hb hx
   obtain ⟨sl',e2⟩:=slot b _ (neL b o e) hb (neC b o e hx) e1 (I.base.free b o e n hx)
   exact ⟨sl',e2⟩
 · obtain ⟨o',e1⟩:=I.base.there b o e hx
   exact free b o' (neC b o e hx) e1 (I.base.free b o e n hx)
 · obtain ⟨o',e1⟩:=I.base.there b o e hx
   exact there b o' (neC b o e hx) e1
 · obtain ⟨m1,e1⟩:=I.base.tbls b ps e
   obtain ⟨m2,e2⟩:=tbls b _ e1
   exact ⟨m1++m2,by rw [e2,Array.append_assoc]⟩
 · obtain ⟨m,hn,hl⟩:=I.loc
   refine ⟨m,ns m hn,λi x v e1 e2 e3=>?_⟩
   obtain ⟨u,r,l⟩:=hl i x v e1 e2 e3
   refine ⟨u,r,?_⟩
   rcases l with l | ⟨k,c,e,z⟩
   · exact .inl l
   · exact .inr ⟨k,c,e,cellK x c e _ z⟩
 · obtain ⟨v,z⟩:=I.cell x c e
   exact ⟨v,cellK x c e v z⟩
 · obtain ⟨m,⟨o,_,_,ho,_⟩,_⟩:=I.loc
   exact free _ o (λz=>(hch _ z).2.1 rfl) ho I.free
 · obtain ⟨v,o,ho,hd⟩:=I.cell x c e
   exact free c o (λz=>(hch c z).2.2.1 x c e rfl) ho (I.freeC x c e)
 · obtain ⟨e,n,ne,nf,d⟩:=I.pin p hp
   have nch:p.1 ∉ ch:=λz=>(hch p.1 z).2.2.2 p hp rfl
   exact ⟨keep p.1 p.2 ne nf nch e n,free p.1 p.2 nch e n,ne,nf,d⟩
theorem Inv.un {t':Nat} (I:Inv X pins σ H s) (u:Un X.fs [] H H' s.heap h') (hok:HOk X.prog X.w H' h'):Inv X pins σ H' { s with heap:=h',toks:=t' }:=by
 obtain ⟨m,⟨o,es,ep,ho,r⟩,_⟩:=id I.loc
 obtain ⟨sl,hL⟩:=u.any ho I.free (by simp)
 exact I.step (g':=s.gens) (d':=s.drawn) (ch:=[]) (λ_ z=>nomatch z) (λb o _ hb _ e n=>u.keep b o e n hb (by simp)) (λb o _ hb _ e n=>u.slot b o e n hb (by simp)) (λb o _ e n=>u.free b o e n (by simp)) (λb o _ e=>u.there b o e (by simp)) u.tups u.frzs u.tbls (λm' hm=>by
   obtain ⟨o',es',ep',ho',r'⟩:=hm
   rw [ho] at ho'; cases ho'
   exact ⟨_,es',ep',hL,r'⟩) hok I.bare
theorem Inv.call {g':Array GenState} {t':Nat} {d':Drawn} {ch:List Addr} (I:Inv X pins σ H s) (u:Un (frs X.stack) ch H H' s.heap h') (hok:HOk X.prog X.w H' h') (hg:AllBare g')
   (hch:∀ b ∈ ch,(b ∈ X.ex\/X.s₀.heap.objs.size<=b)/\b ≠ X.env.locals/\(∀ x c,X.env.cells.lookup x=some c->c ≠ b)/\∀ p ∈ X.pn++pins,p.1 ≠ b) :
   Inv X pins σ H' { s with heap:=h',gens:=g',drawn:=d',toks:=t' }:=by
 obtain ⟨m,⟨o,es,ep,ho,r⟩,_⟩:=id I.loc
 obtain ⟨sl,hL⟩:=u.any ho I.free λz=>(hch _ z).2.1 rfl
 exact I.step (ch:=ch) hch (λb o hL hb hc e n=>u.keep b o e n (λz=>(List.mem_cons.mp (I.pH b z)).elim hL hb) hc) (λb o _ _ hc e n=>u.any e n hc) (λb o hc e n=>u.free b o e n hc) (λb o hc e=>u.there b o e hc) u.tups u.frzs u.tbls (λm' hm=>by
   obtain ⟨o',es',ep',ho',r'⟩:=hm
   rw [ho] at ho'; cases ho'
   exact ⟨_,es',ep',hL,r'⟩) hok hg
theorem Inv.turned {t':Nat} {it:Addr} (I:Inv X pins σ H s) (k:∀ b o,b ≠ it->s.heap.get? b=some o->h'.get? b=some o) (hn:H it=none) (hL:it ≠ X.env.locals)
   (h1:it ∈ X.ex\/X.s₀.heap.objs.size<=it) (h2:∀ x c,X.env.cells.lookup x=some c->c ≠ it) (h3:∀ p ∈ X.pn++pins,p.1 ≠ it):Inv X pins σ H { s with heap:=h',toks:=t' }:=by
 have nit:∀ b u,H b=some u->b ≠ it:=λb u e z=>by rw [z,hn] at e; cases e
 refine I.step (g':=s.gens) (d':=s.drawn) (ch:=[it]) (λb hb=>?_) (λb o _ _ hc e _=>k b o (λz=>hc (by simp [z])) e) (λb o _ _ hc e _=>⟨o.slots,k b o (λz=>hc (by simp [z])) e⟩) (λ_ _ _ _ n=>n)
   (λb o hc e=>⟨o,k b o (λz=>hc (by simp [z])) e⟩) (λ_ _ e=>e) (λ_ _ _ e=>e) (λb ps e=>⟨#[],by rw [e]; simp⟩) (λm hm=>?_) (λb u e=>?_) I.bare
 · have e:b=it:=by simpa using hb
   subst e
   exact ⟨h1,hL,h2,h3⟩
 · obtain ⟨o,es,ep,ho,r⟩:=hm
   exact ⟨o,es,ep,k _ o (Ne.symm hL) ho,r⟩
 · refine (I.hok b u e).jh (λc v hc q=>k c v ?_ q) (λ_ q=>q) λ_ _ q=>q
   rcases hc with z | z
   · rw [z]; exact nit b u e
   · exact nit c _ z
theorem Inv.tok (I:Inv X pins σ H s) (t:Nat):Inv X pins σ H { s with toks:=t }:=I.un (h':=s.heap) (t':=t) Un.refl I.hok
theorem Inv.kept {t':Nat} (I:Inv X pins σ H s) (k:∀ b u,s.heap.get? b=some u->h'.get? b=some u):Inv X pins σ H { s with heap:=h',toks:=t' }:=I.un (Un.kept k) (I.hok.kept k)
theorem Inv.laid {a:Addr} {o:HO} {t':Nat} (I:Inv X pins σ H s) (k:∀ b u,s.heap.get? b=some u->h'.get? b=some u) (hp:s.heap.objs.size<=a) (new:bf X.prog X.w (upd H a o) h' a o) :
   Inv X pins σ (upd H a o) { s with heap:=h',toks:=t' }:=I.un (Un.laid k hp (I.hok.fresh hp)) (I.hok.laid k hp new)
theorem Inv.write {x e:Addr} {o:HO} {t':Nat} (I:Inv X pins σ H s) (mu:Mut (H x)) (he:e=x\/H e=some (.own x)) (k:∀ b u,b ≠ e->s.heap.get? b=some u->h'.get? b=some u) (heo:∃ u,h'.get? e=some u)
   (new:bf X.prog X.w (upd H x o) h' x o):Inv X pins σ (upd H x o) { s with heap:=h',toks:=t' }:=I.un (Un.write mu he k heo) (I.hok.write mu he k heo new)
theorem Inv.ql {pins':List (Addr × Obj)} (I:Inv X pins σ H s) (h:∀ p ∈ pins',s.heap.get? p.1=some p.2/\H p.1=none/\p.1 ≠ X.env.locals/\p.1 ∉ X.fs/\∀ v,p.2.data ≠ .cell v):Inv X pins' σ H s:=
 ⟨I.ok,I.os,I.bare,I.base,I.loc,I.cell,I.free,I.freeC,λp hp=>(List.mem_append.mp hp).elim (λz=>I.pin p (List.mem_append_left _ z)) (h p),I.hok,I.len⟩
theorem nX {N:List Str} (hN:N.Nodup) {i j:Nat} {x:Str} (a:N[i]?=some x) (b:N[j]?=some x):i=j:=by
 obtain ⟨h1,e1⟩:=List.getElem?_eq_some_iff.mp a
 obtain ⟨h2,e2⟩:=List.getElem?_eq_some_iff.mp b
 exact (List.getElem_inj hN).mp (e1.trans e2.symm)
theorem rE {M:Model} {A:Around} {E:Value->Shared->Prop} {i:Nat} {x:Str} {v:V} {u:Value} {Q:Unit->Shared->Prop} (I:Inv X pins σ H s) (hN:X.N.Nodup) (hi:X.N[i]?=some x) (hx:Loc X.env.scope x) (r:RelV v u)
   (h:∀ s',Inv X pins (σ.set i (some v)) H s'->(∃ a,Heap.SameBut a s.heap s'.heap/\(a=X.env.locals\/X.env.cells.lookup x=some a))->Q () s') (hf:X.fn x=true\/X.env.scope.names.lookup x=some .local:=by first | exact .inl rfl | exact .inr rfl | assumption):wpAny M A (storeName X.env x u) Q E s:=by
 obtain ⟨m,hn,hl⟩:=id I.loc
 have hcls:(X.env.scope.kind == .class || (X.env.scope.kind == .module && X.env.locals != X.env.globals))=false:=by rw [I.ok.kind]; rfl
 have hiσ:i < σ.length:=by rw [I.len]; exact (List.getElem?_eq_some_iff.mp hi).1
 have cne:=I.cne
 have tracked:∀ {a:Addr} {h':Heap},(∃ o,s.heap.get? a=some o/\H a=none)->Heap.SameBut a s.heap h'->HOk X.prog X.w H h':=λ{a h'} ha hs b ob e=>by
   obtain ⟨_,_,hfree⟩:=ha
   refine (I.hok b ob e).jh (λc w' hc q=>(hs.2 c ?_).trans q) (λ_ q=>q) λ_ _ q=>q
   rintro rfl
   rcases hc with rfl | hc
   · rw [hfree] at e; cases e
   · rw [hfree] at hc; cases hc
 rcases hx with hk | hk
 · refine wpAny_storeName_local hk hn (λh' hn' hs=>?_) hcls
   obtain ⟨oL,_,_,hoL,_⟩:=id hn
   refine h _ ⟨I.ok,I.os,I.bare,⟨λb o e n hb hx=>?_,λb o e n hb hx=>?_,I.base.free,λb o e hx=>?_,I.base.tups,I.base.frzs,I.base.tbls⟩,⟨_,hn',λj y v' e1 e2 e3=>?_⟩,λy c e=>?_,I.free,I.freeC,λp hp=>?_,tracked ⟨oL,hoL,I.free⟩ hs,by simpa using I.len⟩ ⟨_,hs,.inl rfl⟩
   · exact (hs.2 b (Nat.ne_of_lt (Nat.lt_of_lt_of_le (Heap.lt_size e) I.ok.above))).trans (I.base.keep b o e n hb hx)
   · obtain ⟨sl,e1⟩:=I.base.slot b o e n hb hx
     exact ⟨sl,(hs.2 b (Nat.ne_of_lt (Nat.lt_of_lt_of_le (Heap.lt_size e) I.ok.above))).trans e1⟩
   · obtain ⟨o',e1⟩:=I.base.there b o e hx
     exact ⟨o',(hs.2 b (Nat.ne_of_lt (Nat.lt_of_lt_of_le (Heap.lt_size e) I.ok.above))).trans e1⟩
   · by_cases hj:j=i
     · subst hj
       rw [hi] at e1; cases e1
       rw [List.getElem?_set_self hiσ] at e2
       cases e2
       exact ⟨u,r,.inl ⟨hk,by simp⟩⟩
     · rw [List.getElem?_set_ne (Ne.symm hj)] at e2
       obtain ⟨u',r',q⟩:=hl j y v' e1 e2 e3
       refine ⟨u',r',?_⟩
       rcases q with ⟨k,e⟩ | ⟨k,c,e,z⟩
       · refine .inl ⟨k,?_⟩
         have:y ≠ x:=λe=>hj (nX hN e1 (e ▸ hi))
         simp [this,e]
       · exact .inr ⟨k,c,e,z.sameBut hs (cne y c e)⟩
   · obtain ⟨w',z⟩:=I.cell y c e
     exact ⟨w',z.sameBut hs (cne y c e)⟩
   · obtain ⟨e,n,ne,nf,d⟩:=I.pin p hp
     exact ⟨(hs.2 p.1 ne).trans e,n,ne,nf,d⟩
 · have hfn:X.fn x=true:=by
     rcases hf with z | z
     · exact z
     · rw [z] at hk; cases hk
   obtain ⟨c,hc⟩:=I.ok.has x (.inl hk)
   obtain ⟨w',z⟩:=I.cell x c hc
   refine wpAny_storeName_cell I.ok.kind hk hc z (λh' hc' hs=>?_)
   obtain ⟨oc,hoc,hocd⟩:=id z
   refine h { s with heap:=h' } ⟨I.ok,I.os,I.bare,⟨λb o e n hb hx=>?_,λb o e n hb hx=>?_,I.base.free,λb o e hx=>?_,I.base.tups,I.base.frzs,I.base.tbls⟩,⟨m,hn.sameBut hs (Ne.symm (cne x c hc)),λj y v' e1 e2 e3=>?_⟩,λy c' e=>?_,I.free,I.freeC,λp hp=>?_,tracked ⟨oc,hoc,I.freeC x c hc⟩ hs,by simpa using I.len⟩ ⟨c,hs,.inr hc⟩
   · exact (hs.2 b (Nat.ne_of_lt (Nat.lt_of_lt_of_le (Heap.lt_size e) (I.ok.cab x c hfn hc)))).trans (I.base.keep b o e n hb hx)
   · obtain ⟨sl,e1⟩:=I.base.slot b o e n hb hx
     exact ⟨sl,(hs.2 b (Nat.ne_of_lt (Nat.lt_of_lt_of_le (Heap.lt_size e) (I.ok.cab x c hfn hc)))).trans e1⟩
   · obtain ⟨o',e1⟩:=I.base.there b o e hx
     exact ⟨o',(hs.2 b (Nat.ne_of_lt (Nat.lt_of_lt_of_le (Heap.lt_size e) (I.ok.cab x c hfn hc)))).trans e1⟩
   · by_cases hj:j=i
     · subst hj
       rw [hi] at e1; cases e1
       rw [List.getElem?_set_self hiσ] at e2
       cases e2
       exact ⟨u,r,.inr ⟨.inl hk,c,hc,hc'⟩⟩
     · rw [List.getElem?_set_ne (Ne.symm hj)] at e2
       obtain ⟨u',r',q⟩:=hl j y v' e1 e2 e3
       refine ⟨u',r',?_⟩
       rcases q with q | ⟨k,c',e,z'⟩
       · exact .inl q
       · refine .inr ⟨k,c',e,z'.sameBut hs ?_⟩
         rintro rfl
         exact hj (nX hN e1 (I.ok.inj _ _ _ e hc ▸ hi))
   · by_cases hcc:c'=c
     · subst hcc; exact ⟨_,hc'⟩
     · obtain ⟨w2,z2⟩:=I.cell y c' e
       exact ⟨w2,z2.sameBut hs hcc⟩
   · obtain ⟨e,n,ne,nf,d⟩:=I.pin p hp
     refine ⟨(hs.2 p.1 ?_).trans e,n,ne,nf,d⟩
     intro q
     rw [q,hoc] at e
     have q':oc=p.2:=Option.some.inj e
     exact d w' (by rw [<- q']; exact hocd)
theorem nN {M:Model} {A:Around} {E:Value->Shared->Prop} {i:Nat} {x:Str} {v:V} {u:Value} {Q:Unit->Shared->Prop} (I:Inv X pins σ H s) (hN:X.N.Nodup) (hi:X.N[i]?=some x) (hx:Loc X.env.scope x) (r:RelV v u)
   (h:∀ s',Inv X pins (σ.set i (some v)) H s'->Q () s') (hf:X.fn x=true\/X.env.scope.names.lookup x=some .local:=by first | exact .inl rfl | exact .inr rfl | assumption):wpAny M A (storeName X.env x u) Q E s:=
 rE I hN hi hx r (λs' I' _=>h s' I') hf
theorem Inv.xA {s':Shared} {ch:List Addr} (I:Inv X pins σ H s) (ho:s'.os=s.os) (u:Un (frs X.stack) ch H H' s.heap s'.heap) (hok:HOk X.prog X.w H' s'.heap) (hg:AllBare s'.gens)
   (hch:∀ b ∈ ch,(b ∈ X.ex\/X.s₀.heap.objs.size<=b)/\b ≠ X.env.locals/\(∀ x c,X.env.cells.lookup x=some c->c ≠ b)/\∀ p ∈ X.pn++pins,p.1 ≠ b):Inv X pins σ H' s':=by
 obtain ⟨h',g',d',t',o'⟩:=s'
 have e:o'=s.os:=ho
 subst e
 exact I.call (g':=g') (t':=t') (d':=d') u hok hg hch
end
noncomputable abbrev XK:=Value->Option Addr->Hp->Prop
noncomputable abbrev St:=List (Option V)
noncomputable abbrev VK:=V->Hp->Prop
noncomputable abbrev TE:=St->Hp->VK->Prop
noncomputable abbrev TT:=St->Hp->(Bool->Hp->Prop)->Prop
noncomputable abbrev TA:=St->Hp->(List V->Hp->Prop)->Prop
structure Ends where
 nx:St->Hp->Prop
 rt:VK
 bk:St->Hp->Prop:=λ_ _=>False
 ct:St->Hp->Prop:=λ_ _=>False
noncomputable abbrev TS:=Ends->St->Hp->Prop
noncomputable def EP (X:Cx) (pins:List (Addr × Obj)) (σ:St) (Q:VK) (u:Value) (s':Shared):Prop:=∃ v H',Inv X pins σ H' s'/\RelV v u/\Q v H'
noncomputable def TP (X:Cx) (pins:List (Addr × Obj)) (σ:St) (Q:Bool->Hp->Prop) (b:Bool) (s':Shared):Prop:=∃ H',Inv X pins σ H' s'/\Q b H'
noncomputable def AP (X:Cx) (pins:List (Addr × Obj)) (σ:St) (Q:List V->Hp->Prop) (us:List Value) (s':Shared):Prop:=∃ vs H',Inv X pins σ H' s'/\Vals vs us/\Q vs H'
noncomputable def SP (X:Cx) (pins:List (Addr × Obj)) (D:Ends) (f:Flow) (s':Shared):Prop:=
 match f with
 | .next=>∃ σ' H',Inv X pins σ' H' s'/\D.nx σ' H'
 | .brk=>∃ σ' H',Inv X pins σ' H' s'/\D.bk σ' H'
 | .cont=>∃ σ' H',Inv X pins σ' H' s'/\D.ct σ' H'
 | .ret u=>∃ v σ' H',Inv X pins σ' H' s'/\RelV v u/\D.rt v H'
noncomputable def PE (X:Cx) (e:Expr) (t:TE):Prop:=
 ∀ (pins:List (Addr × Obj)) (s:Shared) (σ:St) (H:Hp) (Q:VK),Inv X pins σ H s->t σ H Q->wpAny (model X.prog X.w) X.A (eval e X.env) (EP X pins σ Q) X.xe s
noncomputable def PT (X:Cx) (e:Expr) (t:TT):Prop:=
 ∀ (pins:List (Addr × Obj)) (s:Shared) (σ:St) (H:Hp) (Q:Bool->Hp->Prop),Inv X pins σ H s->t σ H Q->wpAny (model X.prog X.w) X.A (isTrue e X.env (eval e X.env)) (TP X pins σ Q) X.xe s
noncomputable def PW (X:Cx) (e:Expr) (t:TT):Prop:=
 ∀ (whole:Sem Value) (pins:List (Addr × Obj)) (s:Shared) (σ:St) (H:Hp) (Q:Bool->Hp->Prop),Inv X pins σ H s->t σ H Q->wpAny (model X.prog X.w) X.A (isTrue e X.env whole) (TP X pins σ Q) X.xe s
theorem PW.pt {X:Cx} {e:Expr} {t:TT} (h:PW X e t):PT X e t:=h _
noncomputable def PA (X:Cx) (es:List Expr) (t:TA):Prop:=
 ∀ (pos:Pos) (pins:List (Addr × Obj)) (s:Shared) (σ:St) (H:Hp) (Q:List V->Hp->Prop),Inv X pins σ H s->t σ H Q->wpAny (model X.prog X.w) X.A (spliced (backTo pos (starEach es X.env))) (AP X pins σ Q) X.xe s
noncomputable def PS (X:Cx) (st:Stmt) (t:TS):Prop:=
 ∀ (pins:List (Addr × Obj)) (s:Shared) (σ:St) (H:Hp) (D:Ends),Inv X pins σ H s->t D σ H->wpAny (model X.prog X.w) X.A (exec st X.env) (SP X pins D) X.xe s
noncomputable def PSs (X:Cx) (st:List Stmt) (t:TS):Prop:=
 ∀ (pins:List (Addr × Obj)) (s:Shared) (σ:St) (H:Hp) (D:Ends),Inv X pins σ H s->t D σ H->wpAny (model X.prog X.w) X.A (execs st X.env) (SP X pins D) X.xe s
theorem thn {α:Type} {t:Sem α} {Q Q':α->Shared->Prop} {M:Model} {A:Around} {E:Value->Shared->Prop} {s:Shared} (h:wpAny M A t Q E s) (hQ:∀ a s,Q a s->Q' a s):wpAny M A t Q' E s:=wpAny_mono h hQ λ_ _ x=>x
section
variable {X:Cx}
theorem bin {a b:Expr} {ta tb:TE} (ha:PE X a ta) (hb:PE X b tb) {pins:List (Addr × Obj)} {s:Shared} {σ:St} {H:Hp} {R:V->V->Hp->Prop} (I:Inv X pins σ H s) (h:ta σ H λx H1=>tb σ H1 λy H2=>R x y H2)
   {α:Type} {Q:α->Shared->Prop} {f:Value->Value->Sem α}
   (hf:∀ v u s2 x y H2,Inv X pins σ H2 s2->RelV x v->RelV y u->R x y H2->wpAny (model X.prog X.w) X.A (f v u) Q X.xe s2) :
   wpAny (model X.prog X.w) X.A (eval a X.env) (λv s₁=>wpAny (model X.prog X.w) X.A (eval b X.env) (λu s₂=>wpAny (model X.prog X.w) X.A (f v u) Q X.xe s₂) X.xe s₁) X.xe s:=by
 refine thn (ha pins s σ H _ I h) λv s1 ⟨x,H1,I1,r1,q1⟩=>?_
 refine thn (hb pins s1 σ H1 _ I1 q1) λu s2 ⟨y,H2,I2,r2,q2⟩=>?_
 exact hf v u s2 x y H2 I2 r1 r2 q2
noncomputable def Ad (i:Nat):TE:=λσ H Q=>∃ v,σ[i]?=some (some v)/\Q v H
noncomputable def tC (v:V):TE:=λ_ H Q=>Q v H
theorem bH {i:Nat} {x:Str} {pos:Pos} (hN:X.N[i]?=some x) (hv:Vis X.env.scope x) (hd:(x == ("__debug__" : Str))=false:=by decide) (hcd:(x == ("__classdict__" : Str))=false:=by decide):PE X (.Name x pos) (Ad i):=by
 intro pins s σ H Q I h
 obtain ⟨v,e,h⟩:=h
 obtain ⟨m,hn,hl⟩:=I.loc
 obtain ⟨u,r,l⟩:=hl i x v hN e hv
 have fin:EP X pins σ Q u s:=⟨v,H,I,r,h⟩
 rcases l with ⟨hk,hm⟩ | ⟨hk,c,hc,hcell⟩
 · exact wpAny_Name (wpAny_loadName_local I.ok.kind hk hn hm fin) hd
 · rcases hk with hk | hk
   · exact wpAny_Name (wpAny_loadName_cell I.ok.kind hk hc hcell fin) hd
   · exact wpAny_Name (wpAny_loadName_free I.ok.kind hk hc hcell fin hcd) hd
theorem oy {i j pos}:PE X (.Constant (.int i) j pos) (tC (.int i)):=λ_ _ _ H _ I h=>wpAny_Constant_int ⟨.int i,H,I.tok _,⟨_,rfl⟩,h⟩
theorem A5 {b j pos}:PE X (.Constant (.bool b) j pos) (tC (.bl b)):=λ_ _ _ H _ I h=>Constant_bool ⟨.bl b,H,I,rfl,h⟩
theorem zD {j pos}:PE X (.Constant .none j pos) (tC .non):=λ_ _ _ H _ I h=>Constant_none ⟨.non,H,I,rfl,h⟩
noncomputable def Gl (X:Cx) (x:Str):Prop:=X.env.kindOf x=some .globalImplicit
theorem qU {E:Value->Shared->Prop} {pins:List (Addr × Obj)} {s:Shared} {σ:St} {H:Hp} {x:Str} {u:Value} {pos:Pos} {Q:Value->Shared->Prop} (I:Inv X pins σ H s) (hg:Gl X x) (hm:X.mg x=some u) (h:Q u s)
   (hd:(x == ("__debug__" : Str))=false:=by decide):wpAny (model X.prog X.w) X.A (eval (.Name x pos) X.env) Q E s:=
 Calls.Name_function_global I.ok.kind hg (Calls.loadGlobal_global (by rw [I.ok.glob]; exact I.mod.glob.keeps I.bk) hm h) hd
theorem dJ {E:Value->Shared->Prop} {pins:List (Addr × Obj)} {s:Shared} {σ:St} {H:Hp} {x:Str} {u:Value} {pos:Pos} {Q:Value->Shared->Prop} (I:Inv X pins σ H s) (hg:Gl X x) (hm:X.mg x=none) (hv:bootBuiltins x=some u) (h:Q u s)
   (hn:x ≠ "__name__":=by decide) (hd:(x == ("__debug__" : Str))=false:=by decide):wpAny (model X.prog X.w) X.A (eval (.Name x pos) X.env) Q E s:=by
 obtain ⟨mb,h1,h2⟩:=I.mod.blt
 exact Calls.Name_function_global I.ok.kind hg (Calls.loadGlobal_builtin (by rw [I.ok.glob]; exact I.mod.glob.keeps I.bk) hm (by rw [I.ok.blt]; exact h1.keeps I.bk) ((h2 x hn).trans hv) h) hd
theorem qz {x:Str} {v:V} {u:Value} {pos:Pos} (hg:Gl X x) (hm:X.mg x=some u) (r:RelV v u) (hd:(x == ("__debug__" : Str))=false:=by decide):PE X (.Name x pos) (tC v):=
 λ_ _ _ H _ I h=>qU I hg hm ⟨v,H,I,r,h⟩ hd
theorem vI {x:Str} {v:V} {u:Value} {pos:Pos} (hg:Gl X x) (hm:X.mg x=none) (hv:bootBuiltins x=some u) (r:RelV v u) (hn:x ≠ "__name__":=by decide) (hd:(x == ("__debug__" : Str))=false:=by decide):PE X (.Name x pos) (tC v):=
 λ_ _ _ H _ I h=>dJ I hg hm hv ⟨v,H,I,r,h⟩ hn hd
variable {a b:Expr} {ta tb:TE} {pos:Pos}
noncomputable def PC (X:Cx) (op:CmpOp) (a b:Expr) (t:TE):Prop:=
 ∀ (pins:List (Addr × Obj)) (s:Shared) (σ:St) (H:Hp) (Q:VK),Inv X pins σ H s->t σ H Q ->
   wpAny (model X.prog X.w) X.A (eval a X.env) (λv s₁=>wpAny (model X.prog X.w) X.A (eval b X.env) (λu s₂=>wpAny (model X.prog X.w) X.A (compareOp op v u) (EP X pins σ Q) X.xe s₂) X.xe s₁) X.xe s
theorem sV (b:Expr) {op:CmpOp} (h:op ≠ .In) (h2:op ≠ .NotIn):behindInMarks op b=false:=by
 have e1:(op == CmpOp.In)=false:=by cases op <;> first | rfl | exact absurd rfl h
 have e2:(op == CmpOp.NotIn)=false:=by cases op <;> first | rfl | exact absurd rfl h2
 cases b <;> simp [behindInMarks,e1,e2]
noncomputable def tB (t:TE):TT:=λσ H Q=>t σ H λx H1=>∃ c,x=.bl c/\Q c H1
theorem B1 {op:CmpOp} {t:TE} (h:PC X op a b t) (h1:behindInMarks op b=false:=by first | exact sV _ (by decide) (by decide) | rfl):PT X (.Compare a [op] [b] pos) (tB t):=by
 intro pins s σ H Q I hw
 refine wpAny_isTrue_Compare1 (thn (h pins s σ H _ I hw) λv s1 h1=>thn h1 λu s2 h2=>thn h2 λc s3 ⟨x,H1,I1,r1,q1⟩=>?_) h1
 obtain ⟨d,rfl,q⟩:=q1
 cases r1
 exact wpAny_truthy_bool ⟨H1,I1,q⟩
theorem y8 {e:Expr} {t:TE} (h:PE X e t) (he:∀ whole,isTrue e X.env whole=(do let v <- whole; standAt e.pos; holding [v] (truthy v)):=by intro _; rfl):PT X e (tB t):=by
 intro pins s σ H Q I hw
 refine isTrue_plain (thn (h pins s σ H _ I hw) λv s1 ⟨x,H1,I1,r1,q1⟩=>?_) (he _)
 obtain ⟨d,rfl,q⟩:=q1
 cases r1
 exact wpAny_truthy_bool ⟨H1,I1,q⟩
variable {tA tB':TT} {rest:List Expr}
noncomputable def tOr (t u:TT):TT:=λσ H Q=>t σ H λc H1=>if c=true then Q true H1 else u σ H1 Q
noncomputable def B4 (t:TT):TT:=λσ H Q=>t σ H λc H1=>Q (!c) H1
theorem pw_or1 (ha:PT X a tA):PW X (.BoolOp .Or [a] pos) tA:=by
 intro wh pins s σ H Q I h
 refine isTrue_or (thn (ha pins s σ H Q I h) λc s1 e=>?_)
 cases c with
 | false=>exact isTrue_or_nil e
 | true=>exact e
theorem pw_or (ha:PT X a tA) (hb:PW X (.BoolOp .Or (b :: rest) pos) tB'):PW X (.BoolOp .Or (a :: b :: rest) pos) (tOr tA tB'):=by
 intro wh pins s σ H Q I h
 refine isTrue_or (thn (ha pins s σ H _ I h) λc s1 ⟨H1,I1,q1⟩=>?_)
 cases c with
 | true=>exact ⟨H1,I1,q1⟩
 | false=>exact hb wh pins s1 σ H1 Q I1 q1
theorem yu (ha:PT X a tA):PT X (.UnaryOp .Not a pos) (B4 tA):=by
 intro pins s σ H Q I h
 exact isTrue_not (ha pins s σ H (λc H1=>Q (!c) H1) I h)
noncomputable def AW (ta tb:TE):TE:=λσ H Q=>ta σ H λx H1=>∃ c,x=.bl c/\if c=true then tb σ H1 Q else Q (.bl false) H1
noncomputable def Al (ta:TE):TE:=λσ H Q=>ta σ H λx H1=>∃ c,x=.bl c/\Q (.bl (!c)) H1
theorem zI {op} {t:TE} (h:PE X a t):PE X (.BoolOp op [a] pos) t:=λpins s σ H Q I hw=>BoolOp_one (h pins s σ H Q I hw)
theorem uk (ha:PE X a ta) (hb:PE X (.BoolOp .And (b :: rest) pos) tb):PE X (.BoolOp .And (a :: b :: rest) pos) (AW ta tb):=by
 intro pins s σ H Q I h
 refine BoolOp_and (thn (ha pins s σ H _ I h) λv s1 ⟨x,H1,I1,r1,q1⟩=>?_)
 obtain ⟨c,rfl,q1⟩:=q1
 cases r1
 refine wpAny_truthy_bool ?_
 cases c with
 | true=>exact hb pins s1 σ H1 Q I1 q1
 | false=>exact ⟨.bl false,H1,I1,rfl,q1⟩
theorem x8 (ha:PE X a ta):PE X (.UnaryOp .Not a pos) (Al ta):=by
 intro pins s σ H Q I h
 refine UnaryOp_ (thn (ha pins s σ H _ I h) λv s1 ⟨x,H1,I1,r1,q1⟩=>?_)
 obtain ⟨c,rfl,q1⟩:=q1
 cases r1
 exact not_of (wpAny_truthy_bool ⟨.bl (!c),H1,I1,rfl,q1⟩)
noncomputable def tIf (t:TT) (ta tb:TE):TE:=λσ H Q=>t σ H λc H1=>if c=true then ta σ H1 Q else tb σ H1 Q
theorem oj {c:Expr} (hc:PT X c tA) (ha:PE X a ta) (hb:PE X b tb):PE X (.IfExp c a b pos) (tIf tA ta tb):=by
 intro pins s σ H Q I h
 refine wpAny_IfExp (thn (hc pins s σ H _ I h) λd s1 ⟨H1,I1,q1⟩=>?_)
 cases d with
 | true=>exact ha pins s1 σ H1 Q I1 q1
 | false=>exact hb pins s1 σ H1 Q I1 q1
end
noncomputable def SqL (K:PySem.W.Frag) (H:Hp) (a:Addr) (xs:List V):Prop:=
 Rd H a (.lst xs) \/
   ∃ (o:Obj) (its:Array Value) (n:Nat),K.lookup a=some o/\o.cls=.type "list" /\ o.dict=none/\o.data=.seq its n/\its.size<=sizeLine/\Vals xs its.toList
noncomputable def SqT (K:PySem.W.Frag) (H:Hp) (a:Addr) (xs:List V):Prop:=
 Rd H a (.tup xs) \/
   ∃ (o:Obj) (its:Array Value) (n:Nat),K.lookup a=some o/\o.cls=.type "tuple" /\ o.data=.seq its n/\its.size<=sizeLine/\Vals xs its.toList
noncomputable def BN:Value->Option V
 | .none=>some .non
 | .bool b=>some (.bl b)
 | .int i _=>some (.int i)
 | .str x _=>some (.str x)
 | .bytes b _=>some (.byt b)
 | .float b _=>some (.flt b)
 | .ref a=>some (.ref a)
 | .type n=>some (.ty n)
 | _=>none
theorem RelV.abs {x:V} {u:Value} (r:RelV x u):BN u=some x:=by
 cases x with
 | non=>cases r; rfl
 | bl _=>cases r; rfl
 | int _=>obtain ⟨t,rfl⟩:=r; rfl
 | str _=>obtain ⟨t,rfl⟩:=r; rfl
 | byt _=>obtain ⟨t,rfl⟩:=r; rfl
 | flt _=>obtain ⟨t,rfl⟩:=r; rfl
 | ref _=>cases r; rfl
 | ty _=>cases r; rfl
theorem RelV.inj {x y:V} {u:Value} (r:RelV x u) (q:RelV y u):x=y:=Option.some.inj (r.abs.symm.trans q.abs)
theorem Vals.inj:∀ {xs ys:List V} {us:List Value},Vals xs us->Vals ys us->xs=ys
 | _,_,_,.nil,.nil=>rfl
 | _,_,_,.cons r t,.cons r' t'=>by rw [r.inj r',Vals.inj t t']
section
variable {X:Cx} {pins:List (Addr × Obj)} {σ:St} {H:Hp} {s:Shared} {a:Addr} {xs ys:List V}
theorem SqL.of {K:PySem.W.Frag} (h:H a=some (.lst xs)):SqL K H a xs:=.inl (.inl h)
theorem SqT.of {K:PySem.W.Frag} (h:H a=some (.tup xs)):SqT K H a xs:=.inl (.inl h)
theorem Inv.list (I:Inv X pins σ H s) (h:SqL X.K H a xs):∃ its:List Value,Vals xs its/\PlainL s.heap a its.toArray/\xs.length<=sizeLine:=by
 rcases h with h | ⟨o,its,n,hk,hc,hd,hs,hz,r⟩
 · obtain ⟨z,its,n,r,e⟩:=h.ok I.hok
   exact ⟨its,r,⟨_,n,e,rfl,rfl,rfl⟩,z⟩
 · refine ⟨its.toList,r,⟨o,n,I.kIn a o hk,hc,hd,by simpa using hs⟩,?_⟩
   have e:=r.length
   simp only [Array.length_toList] at e
   omega
theorem Inv.tuple (I:Inv X pins σ H s) (h:SqT X.K H a xs):∃ its:List Value,Vals xs its/\IsTup s.heap a its.toArray/\xs.length<=sizeLine:=by
 rcases h with h | ⟨o,its,n,hk,hc,hs,hz,r⟩
 · obtain ⟨z,its,r,p⟩:=h.ok I.hok
   exact ⟨its,r,p,z⟩
 · refine ⟨its.toList,r,⟨o,I.kIn a o hk,hc,n,by simpa using hs⟩,?_⟩
   have e:=r.length
   simp only [Array.length_toList] at e
   omega
theorem Inv.gM (I:Inv X pins σ H s) (h:SqL X.K H a xs) (h':SqL X.K H a ys):xs=ys:=by
 obtain ⟨its,r,⟨o,n,e,_,_,d⟩,_⟩:=I.list h
 obtain ⟨its',r',⟨o',n',e',_,_,d'⟩,_⟩:=I.list h'
 rw [e] at e'; cases e'
 rw [d] at d'
 injection d' with d1 _
 have:its=its':=by simpa using congrArg Array.toList d1
 subst this
 exact r.inj r'
end
noncomputable abbrev Cx.kf (X:Cx) (E:Value->Shared->Prop):Cx:={ X with xe:=E }
noncomputable abbrev Cx.nox (X:Cx):Cx:=X.kf λ_ _=>False
theorem Cx.Ok.kf {X:Cx} (ok:X.Ok) (E:Value->Shared->Prop):(X.kf E).Ok:=
 ⟨ok.mod,ok.kind,ok.glob,ok.blt,ok.above,ok.inj,ok.has,ok.cab,ok.hd,ok.frames,ok.stk,ok.exf,ok.bs,ok.bsz,ok.noex,ok.exfs,ok.jt,ok.frf⟩
theorem Cx.Ok.fj {X:Cx} {E:Value->Shared->Prop} (ok:(X.kf E).Ok):X.Ok:=
 ⟨ok.mod,ok.kind,ok.glob,ok.blt,ok.above,ok.inj,ok.has,ok.cab,ok.hd,ok.frames,ok.stk,ok.exf,ok.bs,ok.bsz,ok.noex,ok.exfs,ok.jt,ok.frf⟩
section
variable {X:Cx} {pins:List (Addr × Obj)} {σ:St} {H:Hp} {s:Shared} {E:Value->Shared->Prop}
theorem Inv.kf (I:Inv X pins σ H s) (E:Value->Shared->Prop):Inv (X.kf E) pins σ H s:=⟨I.ok.kf E,I.os,I.bare,I.base,I.loc,I.cell,I.free,I.freeC,I.pin,I.hok,I.len⟩
theorem Inv.fj (I:Inv (X.kf E) pins σ H s):Inv X pins σ H s:=⟨I.ok.fj,I.os,I.bare,I.base,I.loc,I.cell,I.free,I.freeC,I.pin,I.hok,I.len⟩
theorem SP.fj {D:Ends} {f:Flow} {s':Shared} (h:SP (X.kf E) pins D f s'):SP X pins D f s':=by
 cases f with
 | next=>obtain ⟨σ',H',I,q⟩:=h; exact ⟨σ',H',I.fj,q⟩
 | brk=>obtain ⟨σ',H',I,q⟩:=h; exact ⟨σ',H',I.fj,q⟩
 | cont=>obtain ⟨σ',H',I,q⟩:=h; exact ⟨σ',H',I.fj,q⟩
 | ret u=>obtain ⟨v,σ',H',I,r,q⟩:=h; exact ⟨v,σ',H',I.fj,r,q⟩
theorem PSs.nox {st:List Stmt} {t:TS} (h:PSs X.nox st t):PSs X st t:=λpins s σ H D I hw=>
 wpAny_mono (h pins s σ H D (I.kf _) hw) (λ_ _ q=>q.fj) λ_ _ z=>False.elim z
end
section
variable {X:Cx} {st:Stmt} {rest:List Stmt} {t u:TS} {e:Expr} {te:TE} {pos:Pos}
noncomputable def A6:TS:=λD σ H=>D.nx σ H
noncomputable def Cf (t u:TS):TS:=λD σ H=>t { D with nx:=u D } σ H
theorem vm:PSs X [] A6:=λ_ _ σ H _ I h=>wpAny_execs_nil ⟨σ,H,I,h⟩
theorem tD (h1:PS X st t) (h2:PSs X rest u):PSs X (st :: rest) (Cf t u):=by
 intro pins s σ H D I h
 refine wpAny_execs_cons (thn (h1 pins s σ H { D with nx:=u D } I h) λf s1 q=>?_)
 cases f with
 | next=>
   obtain ⟨σ',H',I',q⟩:=q
   exact h2 pins s1 σ' H' D I' q
 | ret v=>exact q
 | brk=>exact q
 | cont=>exact q
theorem Inv.quiet {pins:List (Addr × Obj)} {σ:St} {H:Hp} {s:Shared} (I:Inv X pins σ H s):interactive X.env=false:=by simp [interactive,I.ok.kind]
noncomputable def AY (te:TE):TS:=λD σ H=>te σ H λ_ H1=>D.nx σ H1
theorem fB (he:PE X e te) (hs:swapsWith e none pos.line X.env=pure false:=by rfl):PS X (.Expr e pos) (AY te):=by
 intro pins s σ H D I h
 exact wpAny_Expr_any (thn (he pins s σ H _ I h) λv s1 ⟨x,H1,I1,r1,q1⟩=>⟨σ,H1,I1,q1⟩) I.quiet hs
noncomputable def Co (te:TE):TS:=λD σ H=>te σ H D.rt
theorem pM (he:PE X e te):PS X (.Return (some e) pos) (Co te):=by
 intro pins s σ H D I h
 exact wpAny_Return_some (thn (he pins s σ H _ I h) λv s1 ⟨x,H1,I1,r1,q1⟩=>⟨x,σ,H1,I1,r1,q1⟩)
noncomputable def BW (c:TT) (t u:TS):TS:=λD σ H=>c σ H λb H1=>if b=true then t D σ H1 else u D σ H1
theorem xJ {c:Expr} {a b:List Stmt} {tc:TT} (hc:PT X c tc) (ha:PSs X a t) (hb:PSs X b u):PS X (.If c a b pos) (BW tc t u):=by
 intro pins s σ H D I h
 refine wpAny_If (thn (hc pins s σ H _ I h) λd s1 ⟨H1,I1,q1⟩=>?_)
 cases d with
 | true=>exact ha pins s1 σ H1 D I1 q1
 | false=>exact hb pins s1 σ H1 D I1 q1
noncomputable def yK:TS:=λ_ _ _=>False
theorem kI {sts:List Stmt}:PSs X sts yK:=λ_ _ _ _ _ _ h=>h.elim
end
noncomputable abbrev TG:=V->St->Hp->(St->Hp->Prop)->Prop
noncomputable abbrev TGs:=List V->St->Hp->(St->Hp->Prop)->Prop
noncomputable def PG (X:Cx) (target:Expr) (t:TG):Prop:=
 ∀ (pins:List (Addr × Obj)) (s:Shared) (σ:St) (H:Hp) (v:V) (u:Value) (Q:St->Hp->Prop),Inv X pins σ H s->RelV v u->t v σ H Q ->
   wpAny (model X.prog X.w) X.A (assign target X.env u) (λ_ s'=>∃ σ' H',Inv X pins σ' H' s'/\Q σ' H') X.xe s
noncomputable def PGs (X:Cx) (ts:List Expr) (t:TGs):Prop:=
 ∀ (pins:List (Addr × Obj)) (s:Shared) (σ:St) (H:Hp) (vs:List V) (us:List Value) (Q:St->Hp->Prop),Inv X pins σ H s->Vals vs us->t vs σ H Q ->
   wpAny (model X.prog X.w) X.A (assignInOrder ((assignEach ts X.env).map (·.2)) us) (λ_ s'=>∃ σ' H',Inv X pins σ' H' s'/\Q σ' H') X.xe s
noncomputable abbrev zV:=V->V->V->Hp->(Hp->Prop)->Prop
noncomputable def Bp (X:Cx) (t:zV):Prop:=
 ∀ (pins:List (Addr × Obj)) (s:Shared) (σ:St) (H:Hp) (o i v:V) (ov iv u:Value) (Q:Hp->Prop),Inv X pins σ H s->RelV o ov->RelV i iv->RelV v u->t o i v H Q ->
   wpAny (model X.prog X.w) X.A (setItem ov iv u) (λ_ s'=>∃ H',Inv X pins σ H' s'/\Q H') X.xe s
section
variable {X:Cx} {pos:Pos}
noncomputable def xV (i:Nat):TG:=λv σ H Q=>Q (σ.set i (some v)) H
theorem dQ {i:Nat} {x:Str} (hN:X.N.Nodup) (hi:X.N[i]?=some x) (hx:Loc X.env.scope x) (hf:X.fn x=true\/X.env.scope.names.lookup x=some .local:=by first | exact .inl rfl | exact .inr rfl | assumption):PG X (.Name x pos) (xV i):=by
 intro pins s σ H v u Q I r h
 exact wpAny_assign_Name (nN I hN hi hx r (λs' I'=>⟨_,H,I',h⟩) hf)
noncomputable def BS:TGs:=λvs σ H Q=>vs=[]/\Q σ H
noncomputable def BF (t:TG) (u:TGs):TGs:=λvs σ H Q=>∃ v r,vs=v :: r/\t v σ H λσ' H'=>u r σ' H' Q
theorem pT:PGs X [] BS:=by
 intro pins s σ H vs us Q I r h
 obtain ⟨e,h⟩:=h
 subst e
 cases r
 exact assignInOrder_nil ⟨σ,H,I,h⟩
theorem jF {e:Expr} {es:List Expr} {t:TG} {u:TGs} (h1:PG X e t) (h2:PGs X es u)
   (hs:(assignEach (e :: es) X.env).map (·.2)=assign e X.env :: (assignEach es X.env).map (·.2):=by rfl):PGs X (e :: es) (BF t u):=by
 intro pins s σ H vs us Q I r h
 obtain ⟨v,vr,e1,h⟩:=h
 subst e1
 cases r with
 | cons r rr=>
   rw [hs]
   refine assignInOrder_cons (thn (h1 pins s σ H _ _ _ I r h) λ_ s1 ⟨σ1,H1,I1,q1⟩=>?_)
   exact h2 pins s1 σ1 H1 _ _ Q I1 rr q1
noncomputable def B7 (K:PySem.W.Frag) (n:Nat) (t:TGs):TG:=λv σ H Q=>∃ a xs,v=.ref a/\SqT K H a xs/\xs.length=n/\t xs σ H Q
theorem sL {es:List Expr} {k:Nat} {t:TGs} {n:Nat} (hc:X.calm=true) (h:PGs X es t)
   (hn:(assignEach es X.env).length=n:=by rfl) (hst:(assignEach es X.env).findIdx? (·.1)=none:=by rfl):PG X (.Tuple es k pos) (B7 X.K n t):=by
 intro pins s σ H v u Q I r hw
 obtain ⟨a,xs,e1,hq,hl,hw⟩:=hw
 subst e1
 cases r
 obtain ⟨its,rv,ht,hz⟩:=I.tuple hq
 refine assign_Tuple_tuple (I.ok.hd hc) ht (by simp [hn,<- hl,rv.length]) hst λh' hx=>?_
 have I1:Inv X pins σ H { s with heap:=h' }:=I.kept (t':=s.toks) λb o e=>hx b o (Nat.ne_of_lt (Heap.lt_size e)) e
 exact h pins _ σ H xs _ Q I1 (by simpa using rv) hw
noncomputable def BR (to ti:TE) (t:zV):TG:=λv σ H Q=>to σ H λo H1=>ti σ H1 λi H2=>t o i v H2 λH3=>Q σ H3
theorem o9 {o i:Expr} {to ti:TE} {t:zV} (ho:PE X o to) (hi:PE X i ti) (hs:Bp X t)
   (ha:∀ v,assign (.Subscript o i pos) X.env v=(do
     let ov <- holding [v] (eval o X.env)
     let iv <- holding [v,ov] (eval i X.env)
     standAt pos
     holding [v,ov,iv] (setItem ov iv v)
     release [v,ov,iv] []):=by intro _; rfl):PG X (.Subscript o i pos) (BR to ti t):=by
 intro pins s σ H v u Q I r h
 rw [ha]
 refine wpAny_bind (wpAny_holding (thn (ho pins s σ H _ I h) λov s1 ⟨x,H1,I1,r1,q1⟩=>?_))
 refine wpAny_bind (wpAny_holding (thn (hi pins s1 σ H1 _ I1 q1) λiv s2 ⟨y,H2,I2,r2,q2⟩=>?_))
 refine wpAny_bind (wpAny_standAt (wpAny_bind (wpAny_holding (thn (hs pins s2 σ H2 x y v ov iv u _ I2 r1 r2 r q2) λ_ s3 ⟨H3,I3,q3⟩=>?_))))
 exact wpAny_release ⟨σ,H3,I3,q3⟩
noncomputable def yz (te:TE) (g:TG):TS:=λD σ H=>te σ H λx H1=>g x σ H1 D.nx
theorem l9 {tg e:Expr} {te:TE} {g:TG} (he:PE X e te) (hg:PG X tg g) (hs:swapsWithSole [tg] e pos.line X.env=pure false:=by rfl) (hw:swappedStores [tg] e X.env=pure none:=by rfl)
   (h1:(assignEach [tg] X.env).map (·.2)=[assign tg X.env]:=by rfl):PS X (.Assign [tg] e pos) (yz te g):=by
 intro pins s σ H D I h
 refine wpAny_Assign_stores (thn (he pins s σ H _ I h) λv s1 ⟨x,H1,I1,r1,q1⟩=>?_) hs hw
 rw [h1]
 exact thn (hg pins s1 σ H1 x v _ I1 r1 q1) λ_ s2 q=>q
theorem zf {i:Nat} {x:Str} {e:Expr} {te:TE} {pos':Pos} (hN:X.N.Nodup) (hi:X.N[i]?=some x) (hx:Loc X.env.scope x) (he:PE X e te) (hs:swapsWith e (some (.Name x pos')) pos.line X.env=pure false:=by rfl) (hf:X.fn x=true\/X.env.scope.names.lookup x=some .local:=by first | exact .inl rfl | exact .inr rfl | assumption) :
   PS X (.Assign [.Name x pos'] e pos) (yz te (xV i)):=by
 intro pins s σ H D I h
 refine wpAny_Assign_Name (thn (he pins s σ H _ I h) λv s1 ⟨y,H1,I1,r1,q1⟩=>?_) hs
 exact nN I1 hN hi hx r1 (λs2 I2=>⟨_,H1,I2,q1⟩) hf
end
section
variable {X:Cx} {pos:Pos}
noncomputable def yE (c:TT) (tb:TS):TS:=λD σ H=>∃ W:Nat->St->Hp->Prop,(∃ m,W m σ H)/\∀ m σ H,W m σ H ->
 c σ H λb H1=>if b=true then ∃ N:St->Hp->Prop,(∀ σ' H',N σ' H'->∃ m',m' < m/\W m' σ' H')/\tb { D with nx:=N,ct:=N,bk:=D.nx } σ H1 else D.nx σ H1
theorem tX {c:Expr} {body:List Stmt} {tc:TT} {tb:TS} (hp:PassesOwn (model X.prog X.w) X.A X.env X.xe) (hc:PT X c tc) (hb:PSs X body tb):PS X (.While c body [] pos) (yE tc tb):=by
 intro pins s σ H D I h
 obtain ⟨W,⟨m0,w0⟩,turn⟩:=h
 refine wpAny_While (codeAny_whileLoop (λn s'=>∃ σ' H',Inv X pins σ' H' s'/\W n σ' H') ?_ m0 ⟨σ,H,I,w0⟩)
 rintro n s1 ⟨σ1,H1,I1,w1⟩
 refine wpAny_passesOwn hp (thn (hc pins s1 σ1 H1 _ I1 (turn n σ1 H1 w1)) λb s2 ⟨H2,I2,q2⟩=>?_)
 cases b with
 | true=>
   obtain ⟨N,hN,q2⟩:=q2
   rw [if_pos rfl]
   refine wpAny_passesOwn hp (thn (hb pins s2 σ1 H2 _ I2 q2) λf s3 q3=>?_)
   cases f with
   | next=>
     obtain ⟨σ3,H3,I3,n3⟩:=q3
     obtain ⟨m',hm,w3⟩:=hN σ3 H3 n3
     exact ⟨m',hm,σ3,H3,I3,w3⟩
   | cont=>
     obtain ⟨σ3,H3,I3,n3⟩:=q3
     obtain ⟨m',hm,w3⟩:=hN σ3 H3 n3
     exact ⟨m',hm,σ3,H3,I3,w3⟩
   | brk=>exact q3
   | ret v=>exact q3
 | false=>
   rw [if_neg Bool.false_ne_true]
   exact wpAny_execs_nil ⟨σ1,H2,I2,q2⟩
end
structure It where
 go:Nat->Hp->Prop
 yld:Nat->Hp->V->Hp->Prop
 stop:Nat->Hp->Prop
noncomputable def kn (X:Cx) (pins:List (Addr × Obj)) (H:Hp) (b:Addr):Prop:=
 H b=none/\b ≠ X.env.locals/\b ∉ X.fs/\(b ∈ X.ex\/X.s₀.heap.objs.size<=b)/\(∀ x c,X.env.cells.lookup x=some c->c ≠ b)/\∀ p ∈ X.pn++pins,p.1 ≠ b
theorem Inv.kg {X:Cx} {pins:List (Addr × Obj)} {σ:St} {H H':Hp} {s:Shared} {b:Addr} (I:Inv X pins σ H s) (hb:s.heap.objs.size<=b) (hn:H' b=none):kn X pins H' b:=by
 refine ⟨hn,Nat.ne_of_gt (Nat.lt_of_lt_of_le I.lt hb),I.B5 hb,.inr (Nat.le_trans I.sz hb),λx c e z=>?_,λp hp z=>?_⟩
 · obtain ⟨v,q⟩:=I.cell x c e
   exact absurd (Nat.lt_of_lt_of_le q.lt (by rw [z]; exact hb)) (Nat.lt_irrefl _)
 · exact absurd (Nat.lt_of_lt_of_le (Heap.lt_size (I.pin p hp).1) (by rw [z]; exact hb)) (Nat.lt_irrefl _)
noncomputable def BQ (X:Cx):Prop:=∃ h o u vs,X.A.handled=some (.ref h)/\X.H₀ h=some (.frz o u)/\o.data=.fields vs/\vs[2]?=some .none
noncomputable def Ck (kd:Bool) (X:Cx):Prop:=X.calm=true\/(kd=true/\BQ X)
theorem Ck.calm {X:Cx} (h:Ck false X):X.calm=true:=h.resolve_right λz=>nomatch z.1
structure Turn (P:Program) (w:World) (K:PySem.W.Frag) (kd:Bool) (tg:Expr) (J:It) (fp:List Addr) (it:Addr) (tn:Nat->Heap->Prop):Prop where
 mem:it ∈ fp
 obj:∀ i h,tn i h->∀ b ∈ fp,∃ o,h.get? b=some o/\∀ v,o.data ≠ .cell v
 keep:∀ i h h',tn i h->(∀ b ∈ fp,∀ o,h.get? b=some o->h'.get? b=some o)->tn i h'
 item:∀ (X:Cx),X.prog=P->X.w=w->X.K=K->Ck kd X->∀ (i:Nat) (pins:List (Addr × Obj)) (s:Shared) (σ:St) (H:Hp) (E:Value->Shared->Prop),Inv X pins σ H s->(∀ b ∈ fp,kn X pins H b)->tn i s.heap->J.go i H ->
   wpAny (model P w) X.A (pyNext (.ref it)) (λr s1=>∃ u,r=some u /\
     wpAny (model P w) X.A (letOwnedTupleGo tg (.ref it) u) (λ_ s2=>∃ x H',Inv X pins σ H' s2/\RelV x u/\J.yld i H x H'/\tn (i + 1) s2.heap/\∀ b ∈ fp,H' b=none) E s1) E s
 done:∀ (X:Cx),X.prog=P->X.w=w->X.K=K->Ck kd X->∀ (i:Nat) (pins:List (Addr × Obj)) (s:Shared) (σ:St) (H:Hp) (E:Value->Shared->Prop),Inv X pins σ H s->(∀ b ∈ fp,kn X pins H b)->tn i s.heap->J.stop i H ->
   wpAny (model P w) X.A (pyNext (.ref it)) (λr s1=>r=none/\Inv X pins σ H s1) E s
 self:∀ (A:Around) (i:Nat) (s:Shared) (Q:Value->Shared->Prop) (E:Value->Shared->Prop),tn i s.heap->Q (.ref it) s->wpAny (model P w) A (pyIter (.ref it)) Q E s
noncomputable abbrev TI:=St->Hp->(It->Hp->Prop)->Prop
noncomputable def PIE (X:Cx) (pins:List (Addr × Obj)) (σ:St) (tg:Expr) (R:It->Hp->Prop) (itv:Value) (s2:Shared):Prop:=
 ∃ (kd:Bool) (it:Addr) (fp:List Addr) (tn:Nat->Heap->Prop) (J:It) (H':Hp),itv=.ref it/\Inv X pins σ H' s2/\Ck kd X/\Turn X.prog X.w X.K kd tg J fp it tn/\tn 0 s2.heap/\(∀ b ∈ fp,kn X pins H' b)/\R J H'
noncomputable def PI (X:Cx) (tg iter:Expr) (wi:TI):Prop:=
 ∀ (pins:List (Addr × Obj)) (s:Shared) (σ:St) (H:Hp) (R:It->Hp->Prop),Inv X pins σ H s->wi σ H R ->
   wpAny (model X.prog X.w) X.A (eval iter X.env) (λv s1=>wpAny (model X.prog X.w) X.A (pyIter v) (PIE X pins σ tg R) X.xe s1) X.xe s
theorem kL {M:Model} {A:Around} {E:Value->Shared->Prop} {s:Shared} {tg:Expr} {it:Addr} {u:Value} {o:Obj} {n:String} {vs:Array Value} {Q:Unit->Shared->Prop} (ho:s.heap.get? it=some o) (hc:o.cls=.type n) (hd:o.data=.fields vs)
   (hn:["enumerate","zip","dict_itemiterator","dict_reverseitemiterator","odict_iterator","itertools.zip_longest","itertools.pairwise"].contains n=false) (hQ:Q () s):wpAny M A (letOwnedTupleGo tg (.ref it) u) Q E s:=by
 unfold letOwnedTupleGo
 cases tg <;> first
   | exact wpAny_pure hQ
   | (cases u <;> first
       | exact wpAny_pure hQ
       | (refine wpAny_bind (wpAny_load ho ?_)
          rw [hc,hd]
          show wpAny M A (if (["enumerate","zip","dict_itemiterator","dict_reverseitemiterator","odict_iterator","itertools.zip_longest","itertools.pairwise"].contains n && vs[0]? == some (rawInt _))=true then _ else _) Q E s
          rw [if_neg (by intro h; rw [hn,Bool.false_and] at h; cases h)]
          exact wpAny_pure hQ))
noncomputable def Itl (K:PySem.W.Frag) (a:Addr):It:=
 ⟨λi H=>∃ xs x,SqL K H a xs/\xs[i]?=some x,λi H x H'=>H'=H/\∀ xs,SqL K H a xs->xs[i]?=some x,λi H=>∃ xs,SqL K H a xs/\xs.length<=i⟩
noncomputable def Itr (lo:Int) (n:Nat):It:=⟨λi _=>i < n,λi H x H'=>H'=H/\x=.int (lo + i),λi _=>n<=i⟩
theorem rZ {P:Program} {w:World} {K:PySem.W.Frag} {tg:Expr} (a it:Addr):Turn P w K false tg (Itl K a) [it] it (λi h=>h.IsListIter it a i) where
 mem:=by simp
 obj:=λi h st b hb=>by
   have e:b=it:=by simpa using hb
   subst e
   obtain ⟨o,e,c,d⟩:=st
   exact ⟨o,e,λv z=>by rw [d] at z; cases z⟩
 keep:=λi h h' st k=>st.at λo e=>k it (by simp) o e
 item:=by
   intro X hP hw hK hc i pins s σ H E I hf st hg
   subst hP hw hK
   obtain ⟨xs,x,hq,hx⟩:=hg
   obtain ⟨its,rv,p,hz⟩:=I.list hq
   obtain ⟨u,hu,ru⟩:=rv.get hx
   obtain ⟨f0,f1,f2,f3,f4,f5⟩:=hf it (by simp)
   refine wpAny_pyNext_list_item st p.isList (x:=u) (by simpa using hu) λh' st' sb=>?_
   have I1:Inv X pins σ H { s with heap:=h' }:=I.turned (t':=s.toks) (λb o hb e=>(sb.2 b hb).trans e) f0 f1 f3 f4 f5
   obtain ⟨o,e,c,d⟩:=id st'
   exact ⟨u,rfl,kL (s:={ s with heap:=h' }) e c d (by decide) ⟨x,H,I1,ru,⟨rfl,λys hy=>by rw [I.gM hy hq]; exact hx⟩,st',λb hb=>(hf b hb).1⟩⟩
 done:=by
   intro X hP hw hK hc i pins s σ H E I hf st hg
   subst hP hw hK
   obtain ⟨xs,hq,hx⟩:=hg
   obtain ⟨its,rv,p,hz⟩:=I.list hq
   obtain ⟨f0,f1,f2,f3,f4,f5⟩:=hf it (by simp)
   have hl:=rv.length
   exact wpAny_pyNext_list_end (I.ok.hd hc.calm) st p.isList (by simp; omega) λh' eb=>⟨rfl,I.turned (t':=s.toks) (λb o hb e=>eb b o hb e) f0 f1 f3 f4 f5⟩
 self:=λ_ _ _ _ _ st h=>wpAny_pyIter_listiter st h
theorem pK {P:Program} {w:World} {K:PySem.W.Frag} {tg:Expr} (it:Addr) (lo:Int) (n:Nat):Turn P w K true tg (Itr lo n) [it] it (λi h=>IsRangeIter h it (lo + (i:Nat) * 1) ((n:Int) - (i:Nat)) 1) where
 mem:=by simp
 obj:=λi h st b hb=>by
   have e:b=it:=by simpa using hb
   subst e
   exact ⟨_,st,λv z=>by
     have z':Data.fields _=Data.cell v:=z
     cases z'⟩
 keep:=λi h h' st k=>k it (by simp) _ st
 item:=by
   intro X hP hw hK hc i pins s σ H E I hf st hg
   subst hP hw hK
   obtain ⟨f0,f1,f2,f3,f4,f5⟩:=hf it (by simp)
   refine wpAny_pyNext_range_item st (by have:i < n:=hg; omega) λh' st0 sb=>?_
   have st':IsRangeIter h' it (lo + ((i + 1:Nat):Int) * 1) ((n:Int) - ((i + 1:Nat):Int)) 1:=by
     have e1:lo + ((i + 1:Nat):Int) * 1=lo + (i:Nat) * 1 + 1:=by omega
     have e2:(n:Int) - ((i + 1:Nat):Int)=(n:Int) - (i:Nat) - 1:=by omega
     rw [e1,e2]; exact st0
   have I1:Inv X pins σ H { s with heap:=h',toks:=s.toks + 1 }:=I.turned (λb o hb e=>(sb.2 b hb).trans e) f0 f1 f3 f4 f5
   refine ⟨_,rfl,kL (s:={ s with heap:=h',toks:=s.toks + 1 }) (n:="range_iterator") st' rfl rfl (by decide) ⟨.int (lo + i),H,I1,⟨s.toks,?_⟩,⟨rfl,rfl⟩,st',λb hb=>(hf b hb).1⟩⟩
   rw [Int.mul_one]
 done:=by
   intro X hP hw hK hc i pins s σ H E I hf st hg
   subst hP hw hK
   obtain ⟨f0,f1,f2,f3,f4,f5⟩:=hf it (by simp)
   rcases hc with hc | ⟨_,q,o,u,vs,e1,e2,e3,e4⟩
   · exact wpAny_pyNext_range_end (I.ok.hd hc) st (by have:n<=i:=hg; omega) λh' eb=>⟨rfl,I.turned (t':=s.toks) (λb o hb e=>eb b o hb e) f0 f1 f3 f4 f5⟩
   · have e5:=I.hok q _ (I.base.frzs q o u e2)
     exact Hx.o8 e1 e5.1 e3 e4 st (by have:n<=i:=hg; omega) λh' eb=>⟨rfl,I.turned (t':=s.toks) (λb o hb e=>eb b o hb e) f0 f1 f3 f4 f5⟩
 self:=λ_ _ _ _ _ st h=>wpAny_pyIter_rangeiter st h
section
variable {X:Cx} {tg:Expr}
noncomputable def BJ (K:PySem.W.Frag) (tl:TE):TI:=λσ H R=>tl σ H λx H1=>∃ a,x=.ref a/\(∃ xs,SqL K H1 a xs)/\R (Itl K a) H1
theorem xh {l:Expr} {tl:TE} (hc:X.calm=true) (hl:PE X l tl):PI X tg l (BJ X.K tl):=by
 intro pins s σ H R I h
 refine thn (hl pins s σ H _ I h) λv s1 ⟨x,H1,I1,r1,q1⟩=>?_
 obtain ⟨a,e,⟨xs,hq⟩,q⟩:=q1
 subst e
 cases r1
 obtain ⟨its,rv,p,hz⟩:=I1.list hq
 refine wpAny_pyIter_list p.isList ?_
 refine ⟨false,s1.heap.objs.size,[s1.heap.objs.size],_,_,H1,rfl,I1.kept (t':=s1.toks) λb o e=>Heap.get?_push_of_some _ e,.inl hc,rZ a _,⟨_,Heap.get?_push_size _ rfl,rfl,rfl⟩,λb hb=>?_,q⟩
 have e:b=s1.heap.objs.size:=by simpa using hb
 subst e
 exact I1.kg (Nat.le_refl _) (I1.hok.fresh (Nat.le_refl _))
theorem nS {pins:List (Addr × Obj)} {σ:St} {H:Hp} {s:Shared} {R:It->Hp->Prop} {E:Value->Shared->Prop} {lo hi:Int} {t u v:Tok} {tk:Nat} (hc:Ck true X) (I:Inv X pins σ H s) (h1:-(2 ^ 62)<=lo) (h2:lo < 2 ^ 62) (h3:-(2 ^ 62)<=hi) (h4:hi < 2 ^ 62)
   (q:R (Itr lo (hi - lo).toNat) H):wpAny (model X.prog X.w) X.A (pyIter (.ref s.heap.objs.size)) (PIE X pins σ tg R) E { s with heap:=s.heap.push { cls:=.type "range",data:=.fields #[.int lo t,.int hi u,.int 1 v] },toks:=tk }:=by
 refine wpAny_pyIter_range (IsRange.new ..) (small_one h1 h2 h3 h4) ?_
 have I1:Inv X pins σ H { s with heap:=s.heap.push { cls:=.type "range",data:=.fields #[.int lo t,.int hi u,.int 1 v] },toks:=tk }:=I.kept λb o e=>Heap.get?_push_of_some _ e
 refine ⟨true,(s.heap.push { cls:=.type "range",data:=.fields #[.int lo t,.int hi u,.int 1 v] }).objs.size,[(s.heap.push { cls:=.type "range",data:=.fields #[.int lo t,.int hi u,.int 1 v] }).objs.size],_,_,H,rfl,
   I1.kept (t':=tk) λb o e=>Heap.get?_push_of_some _ e,hc,pK _ lo (hi - lo).toNat,?_,λb hb=>?_,q⟩
 · have e1:lo + ((0:Nat):Int) * 1=lo:=by simp
   have e2:(((hi - lo).toNat:Nat):Int) - ((0:Nat):Int)=Builtin.Range.rangeSize lo hi 1:=by rw [rangeSize_one]; split <;> omega
   show IsRangeIter _ _ (lo + ((0:Nat):Int) * 1) ((((hi - lo).toNat:Nat):Int) - ((0:Nat):Int)) 1
   rw [e1,e2]
   exact Heap.get?_push_size _ rfl
 · have e:b=(s.heap.push { cls:=.type "range",data:=.fields #[.int lo t,.int hi u,.int 1 v] }).objs.size:=by simpa using hb
   subst e
   exact I1.kg (Nat.le_refl _) (I1.hok.fresh (Nat.le_refl _))
noncomputable def A4 (ta:TA):TI:=λσ H R=>ta σ H λvs H1=>∃ j:Int,vs=[.int j]/\-(2 ^ 62)<=j/\j < 2 ^ 62/\R (Itr 0 j.toNat) H1
noncomputable def Bc (ta:TA):TI:=λσ H R=>ta σ H λvs H1=>∃ i j:Int,vs=[.int i,.int j]/\(-(2 ^ 62)<=i/\i < 2 ^ 62/\-(2 ^ 62)<=j/\j < 2 ^ 62)/\R (Itr i (j - i).toNat) H1
theorem rL {a:Expr} {ta:TA} {p pos:Pos} (hc:Ck true X) (hg:Gl X "range") (hm:X.mg "range" = none) (ha:PA X [a] ta) (hs:starEach [a] X.env=[(false,eval a X.env)]:=by rfl):PI X tg (.Call (.Name "range" p) [a] [] pos) (A4 ta):=by
 intro pins s σ H R I h
 refine Call_ (dJ I hg hm boot_range (PyProof.Rows.callWith_type1 (thn (ha pos pins s σ H _ I h) λus s1 ⟨vs,H1,I1,r1,q1⟩=>?_) hs rfl))
 obtain ⟨j,e,q1,q2,q⟩:=q1
 subst e
 cases r1 with
 | cons r rr=>
   cases rr
   obtain ⟨t,rfl⟩:=r
   exact call_range_1 (nS hc I1 (by omega) (by omega) q1 q2 (by simpa using q))
theorem rB {a b:Expr} {ta:TA} {p pos:Pos} (hc:Ck true X) (hg:Gl X "range") (hm:X.mg "range" = none) (ha:PA X [a,b] ta) (hs:starEach [a,b] X.env=[(false,eval a X.env),(false,eval b X.env)]:=by rfl) (hs2:starEach [b] X.env=[(false,eval b X.env)]:=by rfl) :
   PI X tg (.Call (.Name "range" p) [a,b] [] pos) (Bc ta):=by
 intro pins s σ H R I h
 refine Call_ (dJ I hg hm boot_range (PyProof.Rows.callWith_type1 (thn (ha pos pins s σ H _ I h) λus s1 ⟨vs,H1,I1,r1,q1⟩=>?_) (by rw [hs,hs2]) (by rw [hs2]; rfl)))
 obtain ⟨i,j,e,⟨q1,q2,q3,q4⟩,q⟩:=q1
 subst e
 cases r1 with
 | cons r rr=>
   cases rr with
   | cons r' rr=>
     cases rr
     obtain ⟨t,rfl⟩:=r
     obtain ⟨t',rfl⟩:=r'
     exact call_range_2 (nS hc I1 q1 q2 q3 q4 q)
noncomputable def Cb (wi:TI) (g:TG) (tb:TS):TS:=λD σ H=>wi σ H λJ H1=>∃ W:Nat->Nat->St->Hp->Prop,(∃ m,W 0 m σ H1)/\∀ i m σ H,W i m σ H ->
 (J.stop i H/\D.nx σ H)\/(J.go i H/\∃ N:St->Hp->Prop,(∀ σ' H',N σ' H'->∃ m',m' < m/\W (i + 1) m' σ' H')/\∀ x H',J.yld i H x H'->g x σ H' λσ2 H2=>tb { D with nx:=N,ct:=N,bk:=D.nx } σ2 H2)
noncomputable def fZ (fp:List Addr) (h:Heap):List (Addr × Obj):=fp.filterMap λb=>(h.get? b).map λo=>(b,o)
theorem bQ {fp:List Addr} {h:Heap} {b:Addr} {o:Obj} (hb:b ∈ fp) (e:h.get? b=some o):(b,o) ∈ fZ fp h:=List.mem_filterMap.mpr ⟨b,hb,by rw [e]; rfl⟩
theorem r6 {fp:List Addr} {h:Heap} {p:Addr × Obj} (hp:p ∈ fZ fp h):p.1 ∈ fp/\h.get? p.1=some p.2:=by
 obtain ⟨b,hb,e⟩:=List.mem_filterMap.mp hp
 cases q:h.get? b with
 | none=>rw [q] at e; cases e
 | some o=>
   rw [q] at e
   have e':(b,o)=p:=Option.some.inj e
   subst e'
   exact ⟨hb,q⟩
theorem Inv.pinned {pins:List (Addr × Obj)} {σ:St} {H:Hp} {s:Shared} {fp:List Addr} (I:Inv X pins σ H s) (hf:∀ b ∈ fp,kn X pins H b) (ho:∀ b ∈ fp,∃ o,s.heap.get? b=some o/\∀ v,o.data ≠ .cell v):Inv X (pins++fZ fp s.heap) σ H s:=
 I.ql λp hp=>(List.mem_append.mp hp).elim (λz=>I.pin p (List.mem_append_right _ z)) λz=>by
   obtain ⟨hb,e⟩:=r6 z
   obtain ⟨f0,f1,f2,_⟩:=hf p.1 hb
   obtain ⟨o,e',d⟩:=ho p.1 hb
   rw [e] at e'; cases e'
   exact ⟨e,f0,f1,f2,d⟩
theorem Inv.dh {pins pl:List (Addr × Obj)} {σ:St} {H:Hp} {s:Shared} (I:Inv X (pins++pl) σ H s):Inv X pins σ H s:=I.ql λp hp=>I.pin p (List.mem_append_right _ (List.mem_append_left _ hp))
theorem yF {iter:Expr} {body:List Stmt} {wi:TI} {g:TG} {tb:TS} {pos:Pos} (hp:PassesOwn (model X.prog X.w) X.A X.env X.xe) (hi:PI X tg iter wi) (hg:PG X tg g) (hb:PSs X body tb)
   (hs:∀ x,foldedSetIterable iter X.env x=pure x:=by intro _; rfl):PS X (.For tg iter body [] pos) (Cb wi g tb):=by
 intro pins s σ H D I h
 refine wpAny_For (thn (hi pins s σ H _ I h) λv s1 h1=>thn h1 λitv s2 h2=>?_) hs
 obtain ⟨kd,it,fp,tn,J,H2,e,I2,hc,T,st2,f2,W,⟨m0,w0⟩,turn⟩:=h2
 subst e
 have stat:∀ {H':Hp},(∀ b ∈ fp,H' b=none)->∀ b ∈ fp,kn X pins H' b:=λhn b hb=>⟨hn b hb,(f2 b hb).2⟩
 refine codeAny_forLoop_any (λn s'=>∃ i σ' H',Inv X pins σ' H' s'/\tn i s'.heap/\(∀ b ∈ fp,H' b=none)/\W i n σ' H') ?_ m0 ⟨0,σ,H2,I2,st2,λb hb=>(f2 b hb).1,w0⟩
 rintro n s3 ⟨i,σ3,H3,I3,st3,fr3,w3⟩
 rcases turn i n σ3 H3 w3 with ⟨stop,qn⟩ | ⟨go,N,hN,step⟩
 · refine wpAny_passesOwn hp (thn (T.done X rfl rfl rfl hc i pins s3 σ3 H3 X.xe I3 (stat fr3) st3 stop) λr s4 ⟨hr,I4⟩=>?_)
   subst hr
   exact wpAny_execs_nil ⟨σ3,H3,I4,qn⟩
 · refine wpAny_passesOwn hp (thn (T.item X rfl rfl rfl hc i pins s3 σ3 H3 X.xe I3 (stat fr3) st3 go) λr s4 ⟨u,hr,h4⟩=>?_)
   subst hr
   refine wpAny_passesOwn hp (thn h4 λ_ s5 ⟨x,H5,I5,r5,y5,st5,fr5⟩=>?_)
   have I5':=I5.pinned (stat fr5) (T.obj _ _ st5)
   refine wpAny_passesOwn hp (thn (hg _ s5 σ3 H5 x u _ I5' r5 (step x H5 y5)) λ_ s6 ⟨σ6,H6,I6,q6⟩=>?_)
   refine wpAny_passesOwn hp (thn (hb _ s6 σ6 H6 _ I6 q6) λf s7 q7=>?_)
   have again:∀ {σ7:St} {H7:Hp},Inv X (pins++fZ fp s5.heap) σ7 H7 s7->N σ7 H7->∃ m,m < n/\∃ i σ' H',Inv X pins σ' H' s7/\tn i s7.heap/\(∀ b ∈ fp,H' b=none)/\W i m σ' H':=λ{σ7 H7} I7 n7=>by
     obtain ⟨m',hm,w7⟩:=hN σ7 H7 n7
     refine ⟨m',hm,i + 1,σ7,H7,I7.dh,T.keep _ _ _ st5 λb hb o e=>(I7.pin (b,o) (List.mem_append_right _ (List.mem_append_right _ (bQ hb e)))).1,λb hb=>?_,w7⟩
     obtain ⟨o,e,d⟩:=T.obj _ _ st5 b hb
     exact (I7.pin (b,o) (List.mem_append_right _ (List.mem_append_right _ (bQ hb e)))).2.1
   cases f with
   | next=>obtain ⟨σ7,H7,I7,n7⟩:=q7; exact again I7 n7
   | cont=>obtain ⟨σ7,H7,I7,n7⟩:=q7; exact again I7 n7
   | brk=>obtain ⟨σ7,H7,I7,q7⟩:=q7; exact ⟨σ7,H7,I7.dh,q7⟩
   | ret v=>obtain ⟨x7,σ7,H7,I7,r7,q7⟩:=q7; exact ⟨x7,σ7,H7,I7.dh,r7,q7⟩
end
noncomputable abbrev R2:=V->V->Hp->VK->Prop
noncomputable def OpR (X:Cx) (f:Value->Value->Sem Value) (r:R2):Prop:=
 ∀ (pins:List (Addr × Obj)) (s:Shared) (σ:St) (H:Hp) (x y:V) (v u:Value) (Q:VK),Inv X pins σ H s->RelV x v->RelV y u->r x y H Q ->
   wpAny (model X.prog X.w) X.A (f v u) (EP X pins σ Q) X.xe s
noncomputable def UnR (X:Cx) (f:Value->Sem Value) (r:V->Hp->VK->Prop):Prop:=
 ∀ (pins:List (Addr × Obj)) (s:Shared) (σ:St) (H:Hp) (x:V) (v:Value) (Q:VK),Inv X pins σ H s->RelV x v->r x H Q ->
   wpAny (model X.prog X.w) X.A (f v) (EP X pins σ Q) X.xe s
noncomputable def eI (X:Cx) (f:Value) (r:List V->Hp->VK->Prop):Prop:=
 ∀ (pins:List (Addr × Obj)) (s:Shared) (σ:St) (H:Hp) (xs:List V) (us:List Value) (Q:VK),Inv X pins σ H s->Vals xs us->r xs H Q ->
   wpAny (model X.prog X.w) X.A (call f us) (EP X pins σ Q) X.xe s
noncomputable def tOp (r:R2) (ta tb:TE):TE:=λσ H Q=>ta σ H λx H1=>tb σ H1 λy H2=>r x y H2 Q
noncomputable def tUn (r:V->Hp->VK->Prop) (ta:TE):TE:=λσ H Q=>ta σ H λx H1=>r x H1 Q
noncomputable def rI (C:Int->Int->Prop) (g:Int->Int->V):R2:=λx y H Q=>∃ i j,x=.int i/\y=.int j/\C i j/\Q (g i j) H
noncomputable def rI0 (g:Int->Int->V):R2:=λx y H Q=>∃ i j,x=.int i/\y=.int j/\Q (g i j) H
noncomputable def rU (g:Int->V):V->Hp->VK->Prop:=λx H Q=>∃ i,x=.int i/\Q (g i) H
section
variable {X:Cx} {a b c:Expr} {ta tb tc:TE} {pos:Pos}
theorem yb (ha:PE X a ta) (hb:PE X b tb) {pins:List (Addr × Obj)} {s:Shared} {σ:St} {H:Hp} {R:V->V->Hp->Prop} (I:Inv X pins σ H s)
   (h:ta σ H λx H1=>tb σ H1 λy H2=>R x y H2) {Q:Value->Shared->Prop} {f:Value->Value->Sem Value}
   (hf:∀ v u s2 x y H2,Inv X pins σ H2 s2->RelV x v->RelV y u->R x y H2->wpAny (model X.prog X.w) X.A (f v u) Q X.xe s2) :
   wpAny (model X.prog X.w) X.A (eval a X.env) (λv s₁=>wpAny (model X.prog X.w) X.A (eval b X.env) (λu s₂=>wpAny (model X.prog X.w) X.A (f v u) Q X.xe s₂) X.xe s₁) X.xe s:=by
 refine thn (ha pins s σ H _ I h) λv s1 ⟨x,H1,I1,r1,q1⟩=>?_
 refine thn (hb pins s1 σ H1 _ I1 q1) λu s2 ⟨y,H2,I2,r2,q2⟩=>?_
 exact hf v u s2 x y H2 I2 r1 r2 q2
theorem xt {op:Operator} {r:R2} (ho:OpR X (binaryOp op) r) (ha:PE X a ta) (hb:PE X b tb):PE X (.BinOp a op b pos) (tOp r ta tb):=by
 intro pins s σ H Q I h
 exact wpAny_BinOp (yb ha hb I h λv u s2 x y H2 I2 rx ry q=>ho pins s2 σ H2 x y v u Q I2 rx ry q)
theorem A2 {op:UnaryOp} {r:V->Hp->VK->Prop} (ho:UnR X (unaryOp op) r) (ha:PE X a ta):PE X (.UnaryOp op a pos) (tUn r ta):=by
 intro pins s σ H Q I h
 exact UnaryOp_ (thn (ha pins s σ H _ I h) λv s1 ⟨x,H1,I1,r1,q1⟩=>ho pins s1 σ H1 x v Q I1 r1 q1)
theorem opI {f:Value->Value->Sem Value} {C:Int->Int->Prop} {g:Int->Int->Int}
   (rule:∀ (i j:Int) (t u:Tok) (s:Shared) (Q:Value->Shared->Prop) (E:Value->Shared->Prop),C i j->Q (.int (g i j) s.toks) { s with toks:=s.toks + 1 }->wpAny (model X.prog X.w) X.A (f (.int i t) (.int j u)) Q E s) :
   OpR X f (rI C λi j=>.int (g i j)):=by
 intro pins s σ H x y v u Q I rx ry h
 obtain ⟨i,j,rfl,rfl,hc,q⟩:=h
 obtain ⟨t,rfl⟩:=rx
 obtain ⟨t',rfl⟩:=ry
 exact rule i j t t' s _ _ hc ⟨.int (g i j),H,I.tok _,⟨_,rfl⟩,q⟩
theorem wx {f:Value->Value->Sem Value} {g:Int->Int->Int}
   (rule:∀ (i j:Int) (t u:Tok) (s:Shared) (Q:Value->Shared->Prop) (E:Value->Shared->Prop),Q (.int (g i j) s.toks) { s with toks:=s.toks + 1 }->wpAny (model X.prog X.w) X.A (f (.int i t) (.int j u)) Q E s) :
   OpR X f (rI0 λi j=>.int (g i j)):=by
 intro pins s σ H x y v u Q I rx ry h
 obtain ⟨i,j,rfl,rfl,q⟩:=h
 obtain ⟨t,rfl⟩:=rx
 obtain ⟨t',rfl⟩:=ry
 exact rule i j t t' s _ _ ⟨.int (g i j),H,I.tok _,⟨_,rfl⟩,q⟩
theorem wQ {f:Value->Value->Sem Value} {g:Int->Int->Bool}
   (rule:∀ (i j:Int) (t u:Tok) (s:Shared) (Q:Value->Shared->Prop) (E:Value->Shared->Prop),Q (.bool (g i j)) s->wpAny (model X.prog X.w) X.A (f (.int i t) (.int j u)) Q E s) :
   OpR X f (rI0 λi j=>.bl (g i j)):=by
 intro pins s σ H x y v u Q I rx ry h
 obtain ⟨i,j,rfl,rfl,q⟩:=h
 obtain ⟨t,rfl⟩:=rx
 obtain ⟨t',rfl⟩:=ry
 exact rule i j t t' s _ _ ⟨.bl (g i j),H,I,rfl,q⟩
noncomputable def v8 (i j:Int):Prop:=0<=j/\j<=1000000/\i.natAbs < 2 ^ 64
theorem oO (k:Nat):(0:Int)<=2 ^ k:=by
 rw [two_pow_cast]
 exact Int.natCast_nonneg _
theorem zO:OpR X (binaryOp .Add) (rI0 λi j=>.int (i + j)):=wx λ_ _ _ _ _ _ _ q=>add_int q
theorem zd:OpR X (binaryOp .Sub) (rI0 λi j=>.int (i - j)):=wx λ_ _ _ _ _ _ _ q=>sub_int q
theorem vC:OpR X (binaryOp .Mod) (rI (λ_ j=>j ≠ 0) λi j=>.int (i.fmod j)):=opI λ_ _ _ _ _ _ _ hc q=>mod_int' hc q
theorem yW:OpR X (binaryOp .Pow) (rI v8 λi j=>.int (i ^ j.toNat)):=opI λ_ _ _ _ _ _ _ hc q=>pow_int_small hc.1 hc.2.1 hc.2.2 q
theorem zS:OpR X (binaryOp .LShift) (rI v8 λi j=>.int (i * 2 ^ j.toNat)):=opI λ_ _ _ _ _ _ _ hc q=>lshift_int_small hc.1 hc.2.1 hc.2.2 q
theorem yT:OpR X (binaryOp .RShift) (rI (λ_ j=>0<=j) λi j=>.int (i / 2 ^ j.toNat)):=opI λi j _ _ _ _ _ hc q=>
 rshift_int hc (by rw [Int.fdiv_eq_ediv_of_nonneg i (oO _)]; exact q)
theorem yM:OpR X (binaryOp .BitAnd) (rI0 λi j=>.int (Builtin.bitAnd i j)):=wx λ_ _ _ _ _ _ _ q=>and_int q
theorem Bq:OpR X (binaryOp .BitOr) (rI0 λi j=>.int (Builtin.bitOr i j)):=wx λ_ _ _ _ _ _ _ q=>or_int q
theorem unI {f:Value->Sem Value} {g:Int->Int}
   (rule:∀ (i:Int) (t:Tok) (s:Shared) (Q:Value->Shared->Prop) (E:Value->Shared->Prop),Q (.int (g i) s.toks) { s with toks:=s.toks + 1 }->wpAny (model X.prog X.w) X.A (f (.int i t)) Q E s) :
   UnR X f (rU λi=>.int (g i)):=by
 intro pins s σ H x v Q I rx h
 obtain ⟨i,rfl,q⟩:=h
 obtain ⟨t,rfl⟩:=rx
 exact rule i t s _ _ ⟨.int (g i),H,I.tok _,⟨_,rfl⟩,q⟩
theorem y7:UnR X (unaryOp .USub) (rU λi=>.int (-i)):=unI λ_ _ _ _ _ q=>neg_int q
end
noncomputable def BH:V->V->Bool
 | .non,.non=>true | .non,.int _=>true | .int _,.non=>true | .non,.bl _=>true | .bl _,.non=>true | .non,.str _=>true | .str _,.non=>true
 | .int _,.int _=>true | .bl _,.bl _=>true | .str _,.str _=>true | .byt _,.byt _=>true
 | .int _,.str _=>true | .str _,.int _=>true | .bl _,.str _=>true | .str _,.bl _=>true
 | _,_=>false
noncomputable def rEq:R2:=λx y H Q=>BH x y=true/\Q (.bl (decide (x=y))) H
noncomputable def rNe:R2:=λx y H Q=>BH x y=true/\Q (.bl (!decide (x=y))) H
theorem qC {i j:Int}:decide (V.int i=V.int j)=(i == j):=by
 rw [Bool.eq_iff_iff]
 simp
theorem t4 {i j:Bool}:decide (V.bl i=V.bl j)=(i == j):=by
 rw [Bool.eq_iff_iff]
 simp
theorem qg {i j:Str}:decide (V.str i=V.str j)=(i == j):=by
 rw [Bool.eq_iff_iff]
 simp
theorem qH {i j:Array UInt8}:decide (V.byt i=V.byt j)=(i.toList == j.toList):=by
 rw [Bool.eq_iff_iff]
 cases i
 cases j
 simp
section
variable {X:Cx} {a b c:Expr} {ta tb tc:TE} {pos:Pos}
theorem aR {pins:List (Addr × Obj)} {σ:St} {H:Hp} {s:Shared} {Q:VK} {k k':Bool} (I:Inv X pins σ H s) (q:Q (.bl k) H) (e:k=k'):EP X pins σ Q (.bool k') s:=by
 subst e
 exact ⟨.bl k,H,I,rfl,q⟩
theorem BD:OpR X (compareOp .Eq) rEq:=by
 intro pins s σ H x y v u Q I rx ry h
 obtain ⟨hs,q⟩:=h
 cases x with
 | non=>
   cases rx
   cases y with
   | non=>cases ry; exact PySem.EqNone.eq_none_none (aR I q (by simp))
   | bl j=>cases ry; exact PySem.EqNone.eq_none_bool (aR I q (by simp))
   | int j=>obtain ⟨t',rfl⟩:=ry; exact PySem.EqNone.eq_none_int (aR I q (by simp))
   | str j=>obtain ⟨t',rfl⟩:=ry; exact PySem.EqNone.eq_none_str (aR I q (by simp))
   | _=>exact absurd (show false=true from hs) Bool.false_ne_true
 | bl i=>
   cases rx
   cases y with
   | non=>cases ry; exact PySem.EqNone.eq_bool_none (aR I q (by simp))
   | bl j=>cases ry; exact eq_bool (aR I q t4)
   | str j=>obtain ⟨t',rfl⟩:=ry; exact PySem.EqMixed.eq_bool_str (aR I q (by simp))
   | _=>exact absurd (show false=true from hs) Bool.false_ne_true
 | int i=>
   obtain ⟨t,rfl⟩:=rx
   cases y with
   | non=>cases ry; exact PySem.EqNone.eq_int_none (aR I q (by simp))
   | int j=>obtain ⟨t',rfl⟩:=ry; exact eq_int (aR I q qC)
   | str j=>obtain ⟨t',rfl⟩:=ry; exact PySem.EqMixed.eq_int_str (aR I q (by simp))
   | _=>exact absurd (show false=true from hs) Bool.false_ne_true
 | str i=>
   obtain ⟨t,rfl⟩:=rx
   cases y with
   | non=>cases ry; exact PySem.EqNone.eq_str_none (aR I q (by simp))
   | bl j=>cases ry; exact PySem.EqMixed.eq_str_bool (aR I q (by simp))
   | int j=>obtain ⟨t',rfl⟩:=ry; exact PySem.EqMixed.eq_str_int (aR I q (by simp))
   | str j=>obtain ⟨t',rfl⟩:=ry; exact eq_str (aR I q qg)
   | _=>exact absurd (show false=true from hs) Bool.false_ne_true
 | byt i=>
   obtain ⟨t,rfl⟩:=rx
   cases y with
   | byt j=>obtain ⟨t',rfl⟩:=ry; exact PySem.W.eq_bytes (aR I q qH)
   | _=>exact absurd (show false=true from hs) Bool.false_ne_true
 | _=>cases y <;> exact absurd (show false=true from hs) Bool.false_ne_true
theorem AB:OpR X (compareOp .NotEq) rNe:=by
 intro pins s σ H x y v u Q I rx ry h
 obtain ⟨hs,q⟩:=h
 cases x with
 | non=>
   cases rx
   cases y with
   | non=>cases ry; exact PySem.EqNone.ne_none_none (aR I q (by simp))
   | bl j=>cases ry; exact PySem.EqNone.ne_none_bool (aR I q (by simp))
   | int j=>obtain ⟨t',rfl⟩:=ry; exact PySem.EqNone.ne_none_int (aR I q (by simp))
   | str j=>obtain ⟨t',rfl⟩:=ry; exact PySem.EqNone.ne_none_str (aR I q (by simp))
   | _=>exact absurd (show false=true from hs) Bool.false_ne_true
 | bl i=>
   cases rx
   cases y with
   | non=>cases ry; exact PySem.EqNone.ne_bool_none (aR I q (by simp))
   | bl j=>cases ry; exact ne_bool (aR I q (congrArg not t4))
   | str j=>obtain ⟨t',rfl⟩:=ry; exact PySem.EqMixed.ne_bool_str (aR I q (by simp))
   | _=>exact absurd (show false=true from hs) Bool.false_ne_true
 | int i=>
   obtain ⟨t,rfl⟩:=rx
   cases y with
   | non=>cases ry; exact PySem.EqNone.ne_int_none (aR I q (by simp))
   | int j=>obtain ⟨t',rfl⟩:=ry; exact ne_int (aR I q (congrArg not qC))
   | str j=>obtain ⟨t',rfl⟩:=ry; exact PySem.EqMixed.ne_int_str (aR I q (by simp))
   | _=>exact absurd (show false=true from hs) Bool.false_ne_true
 | str i=>
   obtain ⟨t,rfl⟩:=rx
   cases y with
   | non=>cases ry; exact PySem.EqNone.ne_str_none (aR I q (by simp))
   | bl j=>cases ry; exact PySem.EqMixed.ne_str_bool (aR I q (by simp))
   | int j=>obtain ⟨t',rfl⟩:=ry; exact PySem.EqMixed.ne_str_int (aR I q (by simp))
   | str j=>obtain ⟨t',rfl⟩:=ry; exact ne_str (aR I q (congrArg not qg))
   | _=>exact absurd (show false=true from hs) Bool.false_ne_true
 | byt i=>
   obtain ⟨t,rfl⟩:=rx
   cases y with
   | byt j=>obtain ⟨t',rfl⟩:=ry; exact PySem.W.ne_bytes (aR I q (congrArg not qH))
   | _=>exact absurd (show false=true from hs) Bool.false_ne_true
 | _=>cases y <;> exact absurd (show false=true from hs) Bool.false_ne_true
theorem Ap:OpR X (compareOp .Lt) (rI0 λi j=>.bl (decide (i < j))):=wQ λ_ _ _ _ _ _ _ q=>lt_int q
theorem AM:OpR X (compareOp .LtE) (rI0 λi j=>.bl (decide (i<=j))):=wQ λ_ _ _ _ _ _ _ q=>le_int q
theorem Bb:OpR X (compareOp .Gt) (rI0 λi j=>.bl (decide (j < i))):=wQ λ_ _ _ _ _ _ _ q=>gt_int q
theorem z9:OpR X (compareOp .GtE) (rI0 λi j=>.bl (decide (j<=i))):=wQ λ_ _ _ _ _ _ _ q=>ge_int q
theorem uB:OpR X (compareOp .Is) (λx y H Q=>y=.non/\Q (.bl (decide (x=.non))) H):=by
 intro pins s σ H x y v u Q I rx ry h
 obtain ⟨rfl,q⟩:=h
 cases ry
 refine is_none_gen (aR I q ?_)
 cases x <;> first
   | (cases rx; rfl)
   | (obtain ⟨t,rfl⟩:=rx; rfl)
theorem sX (b:Expr) {op:CmpOp} (h:op ≠ .In:=by decide) (h2:op ≠ .NotIn:=by decide):behindInMarks op b=false:=by
 have e1:(op == CmpOp.In)=false:=by cases op <;> first | rfl | exact absurd rfl h
 have e2:(op == CmpOp.NotIn)=false:=by cases op <;> first | rfl | exact absurd rfl h2
 cases b <;> simp [behindInMarks,e1,e2]
theorem w9 {op:CmpOp} {r:R2} (ho:OpR X (compareOp op) r) (ha:PE X a ta) (hb:PE X b tb) (hm:behindInMarks op b=false):PE X (.Compare a [op] [b] pos) (tOp r ta tb):=by
 intro pins s σ H Q I h
 exact wpAny_Compare1 (yb ha hb I h λv u s2 x y H2 I2 rx ry q=>ho pins s2 σ H2 x y v u Q I2 rx ry q) hm
noncomputable def xq (t:TE):TT:=λσ H Q=>t σ H λx H'=>∃ k,x=.bl k/\Q k H'
theorem vJ {op:CmpOp} {r:R2} (ho:OpR X (compareOp op) r) (ha:PE X a ta) (hb:PE X b tb) (hm:behindInMarks op b=false):PT X (.Compare a [op] [b] pos) (xq (tOp r ta tb)):=by
 intro pins s σ H Q I h
 refine wpAny_isTrue_Compare1 (thn (ha pins s σ H _ I h) λv s1 ⟨x,H1,I1,r1,q1⟩=>thn (hb pins s1 σ H1 _ I1 q1) λu s2 ⟨y,H2,I2,r2,q2⟩=>
   thn (ho pins s2 σ H2 x y v u _ I2 r1 r2 q2) λc s3 ⟨z,H3,I3,r3,k,e,q3⟩=>?_) hm
 subst e
 cases r3
 exact wpAny_truthy_bool ⟨H3,I3,q3⟩
noncomputable def pF (r r':R2) (ta tb tc:TE):TE:=λσ H Q=>ta σ H λx H1=>tb σ H1 λy H2=>r x y H2 λz H3=>∃ k,z=.bl k /\
 (if k=true then tc σ H3 λw' H4=>r' y w' H4 Q else Q (.bl false) H3)
theorem tG {op op':CmpOp} {r r':R2} (ho:OpR X (compareOp op) r) (ho':OpR X (compareOp op') r') (ha:PE X a ta) (hb:PE X b tb) (hc:PE X c tc)
   (hm:lastMarks [op,op'] [b,c]=false:=by with_unfolding_all rfl):PE X (.Compare a [op,op'] [b,c] pos) (pF r r' ta tb tc):=by
 intro pins s σ H Q I h
 refine Compare_chain (thn (ha pins s σ H _ I h) λv s1 ⟨x,H1,I1,r1,q1⟩=>chain_link (thn (hb pins s1 σ H1 _ I1 q1) λu s2 ⟨y,H2,I2,r2,q2⟩=>
   thn (ho pins s2 σ H2 x y v u _ I2 r1 r2 q2) λd s3 ⟨z,H3,I3,r3,k,e,q3⟩=>?_)) hm
 subst e
 cases r3
 refine wpAny_truthy_bool ?_
 cases k with
 | false=>exact ite_ff ⟨.bl false,H3,I3,rfl,q3⟩
 | true=>exact ite_tt (chain_last (thn (hc pins s3 σ H3 _ I3 q3) λw' s4 ⟨z',H4,I4,r4,q4⟩=>ho' pins s4 σ H4 y z' u w' Q I4 r2 r4 q4))
theorem uR {op op':CmpOp} {r r':R2} (ho:OpR X (compareOp op) r) (ho':OpR X (compareOp op') r') (ha:PE X a ta) (hb:PE X b tb) (hc:PE X c tc)
   (hm:lastMarks [op,op'] [b,c]=false:=by with_unfolding_all rfl):PT X (.Compare a [op,op'] [b,c] pos) (xq (pF r r' ta tb tc)):=by
 intro pins s σ H Q I h
 refine isTrue_chain (thn (ha pins s σ H _ I h) λv s1 ⟨x,H1,I1,r1,q1⟩=>test_link (thn (hb pins s1 σ H1 _ I1 q1) λu s2 ⟨y,H2,I2,r2,q2⟩=>
   thn (ho pins s2 σ H2 x y v u _ I2 r1 r2 q2) λd s3 ⟨z,H3,I3,r3,k,e,q3⟩=>?_)) hm
 subst e
 cases r3
 refine wpAny_truthy_bool ?_
 cases k with
 | false=>
   obtain ⟨k',e',q'⟩:=q3
   cases e'
   exact ite_ff ⟨H3,I3,q'⟩
 | true=>
   refine ite_tt (test_last (thn (hc pins s3 σ H3 _ I3 q3) λw' s4 ⟨z',H4,I4,r4,q4⟩=>thn (ho' pins s4 σ H4 y z' u w' _ I4 r2 r4 q4) λd' s5 ⟨z2,H5,I5,r5,k2,e2,q5⟩=>?_))
   subst e2
   cases r5
   exact wpAny_truthy_bool ⟨H5,I5,q5⟩
theorem lQ:(sizeLine:Nat) < 2 ^ 63:=by rw [sizeLine_eq]; decide
theorem vals1 {x:V} {us:List Value} (r:Vals [x] us):∃ u,us=[u]/\RelV x u:=by
 cases r with
 | cons r1 r2=>cases r2; exact ⟨_,rfl,r1⟩
theorem vals2 {x y:V} {us:List Value} (r:Vals [x,y] us):∃ u w',us=[u,w']/\RelV x u/\RelV y w':=by
 cases r with
 | cons r1 r2=>
   cases r2 with
   | cons r3 r4=>cases r4; exact ⟨_,_,rfl,r1,r3⟩
theorem sG:eI X (.builtin "abs") (λxs H Q=>∃ i,xs=[.int i]/\Q (.int (if i < 0 then -i else i)) H):=by
 intro pins s σ H xs us Q I r h
 obtain ⟨i,rfl,q⟩:=h
 obtain ⟨u,rfl,t,rfl⟩:=vals1 r
 exact call_abs_int λu tk=>⟨.int (if i < 0 then -i else i),H,I.tok _,⟨_,rfl⟩,q⟩
theorem si (hc:X.calm=true):eI X (.builtin "min") (λxs H Q=>∃ i j,xs=[.int i,.int j]/\Q (.int (if j < i then j else i)) H):=by
 intro pins s σ H xs us Q I r h
 obtain ⟨i,j,rfl,q⟩:=h
 obtain ⟨u,w',rfl,⟨t,rfl⟩,⟨t',rfl⟩⟩:=vals2 r
 refine min_two_ints (I.ok.hd hc) λh' tk k=>⟨_,H,I.kept k,?_,q⟩
 by_cases hj:j < i
 · rw [if_pos hj,if_pos hj]; exact ⟨_,rfl⟩
 · rw [if_neg hj,if_neg hj]; exact ⟨_,rfl⟩
theorem r9:eI X (.type "int") (λxs H Q=>(∃ i,xs=[.int i]/\Q (.int i) H)\/∃ k,xs=[.bl k]/\Q (.int (if k then 1 else 0)) H):=by
 intro pins s σ H xs us Q I r h
 rcases h with ⟨i,rfl,q⟩ | ⟨k,rfl,q⟩
 · obtain ⟨u,rfl,t,rfl⟩:=vals1 r
   exact call_int_int ⟨.int i,H,I,⟨_,rfl⟩,q⟩
 · obtain ⟨u,rfl,r1⟩:=vals1 r
   cases r1
   exact call_int_bool ⟨.int (if k then 1 else 0),H,I.tok _,⟨_,rfl⟩,q⟩
end
section
variable {prog:Program} {w:World} {A:Around} {E:Value->Shared->Prop} {s:Shared} {K:PySem.W.Frag} {x dx C f:Addr} {mA:Str->Option Value} {name:Str} {v:Value}
end
theorem nO.some_of {v:V} {o:Option Value} (r:nO (some v) o):∃ u,o=some u/\RelV v u:=by
 cases o with
 | none=>exact (show False from r).elim
 | some u=>exact ⟨u,rfl,r⟩
section
variable {P:Program} {w:World} {H H':Hp} {h h':Heap} {a C dx:Addr} {fs fs':List (Str × V)}
end
section
variable {X:Cx} {pins:List (Addr × Obj)} {σ:St} {H:Hp} {s:Shared} {a C dx:Addr} {fs:List (Str × V)} {f:Str} {v:V} {A:Around} {E:Value->Shared->Prop}
end
section
variable {X:Cx} {o e value:Expr} {f:Str} {pos pos' tpos:Pos} {ta tv:TE}
end
section
variable {X:Cx} {pins:List (Addr × Obj)} {σ:St} {H:Hp} {s:Shared} {A:Around} {E:Value->Shared->Prop} {Q:Value->Shared->Prop} {c:Value} {b:Bool}
end
structure eJ (k:Nat) (A:Around):Prop where
 hd:A.handled=none
 dp:A.depth + 3 * k + 5 < recursionLimit
 un:A.units + 16 * k + 200 < cLine
theorem eJ.mono {j k:Nat} {A:Around} (r:eJ k A) (h:j<=k):eJ j A:=⟨r.hd,by have:=r.dp; omega,by have:=r.un; omega⟩
theorem eJ.deeper {k:Nat} {A:Around} (r:eJ (k + 1) A) (env:Env):eJ k (A.deeper env):=
 ⟨r.hd,by have:=r.dp; show A.depth + 1 + 3 * k + 5 < _; omega,by have:=r.un; show A.units + 3 + 16 * k + 200 < _; omega⟩
theorem eJ.depth {k:Nat} {A:Around} (r:eJ k A):A.depth < recursionLimit:=by have:=r.dp; omega
theorem eJ.units {k:Nat} {A:Around} (r:eJ k A):A.units + 64 < cLine:=by have:=r.un; omega
noncomputable def BZ:TA:=λ_ H Q=>Q [] H
noncomputable def AN (ta:TE) (tr:TA):TA:=λσ H Q=>ta σ H λx H1=>tr σ H1 λxs H2=>Q (x :: xs) H2
section
variable {X:Cx} {e:Expr} {es:List Expr} {te:TE} {t:TA} {pos:Pos}
theorem c8:PA X [] BZ:=λ_ _ _ _ H Q I h=>Calls.spliced_nil ⟨[],H,I,.nil,h⟩
theorem bJ (ha:PE X e te) (hr:PA X es t) (hs:starEach (e :: es) X.env=(false,eval e X.env) :: starEach es X.env:=by rfl):PA X (e :: es) (AN te t):=by
 intro pos pins s σ H Q I h
 rw [hs]
 show wpAny _ _ (spliced ((false,eval e X.env) :: backTo pos (starEach es X.env))) _ _ s
 refine Calls.spliced_cons (thn (ha pins s σ H _ I h) λu s1 ⟨x,H1,I1,r1,q1⟩=>?_)
 exact thn (hr pos pins s1 σ H1 _ I1 q1) λus s2 ⟨xs,H2,I2,r2,q2⟩=>⟨x :: xs,H2,I2,.cons r1 r2,q2⟩
noncomputable def BU (t:TA):TE:=λσ H Q=>t σ H λxs H1=>xs.length<=sizeLine/\∀ p,H1 p=none->Q (.ref p) (upd H1 p (.tup xs))
noncomputable def BO (t:TA):TE:=λσ H Q=>t σ H λxs H1=>xs.length<=sizeLine/\∀ p,H1 p=none->Q (.ref p) (upd H1 p (.lst xs))
theorem ui {x1} (h:PA X es t):PE X (.Tuple es x1 pos) (BU t):=by
 intro pins s σ H Q I hq
 refine wpAny_Tuple_spliced (thn (h pos pins s σ H _ I hq) λus s1 ⟨xs,H1,I1,r,z,q⟩=>⟨by rw [<- r.length]; exact z,?_⟩)
 have hf:H1 s1.heap.objs.size=none:=I1.hok.fresh (Nat.le_refl _)
 refine ⟨.ref s1.heap.objs.size,upd H1 s1.heap.objs.size (.tup xs),I1.laid (t':=s1.toks) (λb u e=>Heap.get?_push_of_some _ e) (Nat.le_refl _) ?_,rfl,q _ hf⟩
 exact ⟨z,us,r,⟨_,Heap.get?_push_size _ rfl,rfl,_,rfl⟩⟩
theorem yJ (h:PA X es t):PE X (.List es pos) (BO t):=by
 intro pins s σ H Q I hq
 refine wpAny_List_spliced (thn (h pos pins s σ H _ I hq) λus s1 ⟨xs,H1,I1,r,z,q⟩=>⟨by rw [<- r.length]; exact z,?_⟩)
 have hf:H1 s1.heap.objs.size=none:=I1.hok.fresh (Nat.le_refl _)
 refine ⟨.ref s1.heap.objs.size,upd H1 s1.heap.objs.size (.lst xs),I1.laid (t':=s1.toks) (λb u e=>Heap.get?_push_of_some _ e) (Nat.le_refl _) ?_,rfl,q _ hf⟩
 exact ⟨z,us,0,r,Heap.get?_push_size _ rfl⟩
end
noncomputable abbrev Sp:=List V->Hp->VK->XK->Prop
noncomputable abbrev CXT:=List Env->Hp->Shared->XK->Value->Shared->Prop
structure vO (P:Program) (w:World) (K:PySem.W.Frag) (mg:Str->Option Value) (base:Heap) (A:Around) (outer:List Env) (s:Shared) (H:Hp):Prop where
 frames:A.frames=some outer
 mod:Mod K mg base
 bs:∀ b o,base.get? b=some o->s.heap.get? b=some o/\H b=none
 bsz:base.objs.size<=s.heap.objs.size
 jt:s.heap.FunFrames base outer
 frf:∀ b ∈ frs outer,H b=none
 hok:HOk P w H s.heap
 bare:AllBare s.gens
noncomputable def CE (outer:List Env) (P:Program) (w:World) (H:Hp) (s:Shared) (Q:VK) (u:Value) (s':Shared):Prop:=
 ∃ v H',s'.os=s.os/\AllBare s'.gens/\Un (frs outer) [] H H' s.heap s'.heap/\HOk P w H' s'.heap/\RelV v u/\Q v H'
noncomputable def CR (CX:CXT) (outer:List Env) (P:Program) (w:World) (H:Hp) (s:Shared) (Q:VK) (E:XK) (r:Result) (s':Shared):Prop:=
 match r with
 | .ok (.ret u)=>CE outer P w H s Q u s'
 | .ok _=>False
 | .error e=>CX outer H s E e s'
structure aS (P:Program) (w:World) (K:PySem.W.Frag) (mg:Str->Option Value) (base:Heap) (CX:CXT) (k:Nat) (f:Addr) (fd:FuncData) (ps:List Str) (sp:Sp):Prop where
 len:∀ vs H Q E,sp vs H Q E->vs.length=ps.length
 run:∀ (A:Around) (outer:List Env) (s:Shared) (H:Hp) (args:Args) (us:List Value) (vs:List V) (Q:VK) (E:XK),eJ k A->vO P w K mg base A outer s H->BindsTo s fd args (ps.zip us)->Vals vs us->sp vs H Q E ->
   codeAny (model P w) A (.call (.ref f) args) (CR CX outer P w H s Q E) s
theorem aS.mono {P:Program} {w:World} {K:PySem.W.Frag} {mg:Str->Option Value} {base:Heap} {CX:CXT} {j k:Nat} {f:Addr} {fd:FuncData} {ps:List Str} {sp:Sp} (F:aS P w K mg base CX j f fd ps sp) (h:j<=k) :
   aS P w K mg base CX k f fd ps sp:=⟨F.len,λA outer s H args us vs Q E hr=>F.run A outer s H args us vs Q E (hr.mono h)⟩
section
variable {X:Cx} {pins:List (Addr × Obj)} {σ:St} {H:Hp} {s s':Shared}
theorem Inv.BP (I:Inv X pins σ H s):vO X.prog X.w X.K X.mg X.base X.A X.stack s H:=
 ⟨I.ok.frames,I.ok.mod,I.bs,Nat.le_trans I.ok.bsz I.sz,I.stack,I.q0,I.hok,I.bare⟩
theorem Inv.after {Q:VK} {u:Value} (I:Inv X pins σ H s) (h:CE X.stack X.prog X.w H s Q u s'):EP X pins σ Q u s':=by
 obtain ⟨v,H',os,bare,un,hok,r,q⟩:=h
 obtain ⟨hh,g,d,t,os'⟩:=s'
 obtain rfl:os'=s.os:=os
 exact ⟨v,H',I.call (h':=hh) (g':=g) (d':=d) (t':=t) (ch:=[]) un hok bare (λb z=>absurd z (by simp)),r,q⟩
end
noncomputable def AA (sp:Sp) (dvs:List V) (E:XK) (t:TA):TE:=λσ H Q=>t σ H λvs H1=>sp (vs++dvs) H1 Q E
noncomputable def Binds (K:PySem.W.Frag) (fd:FuncData) (ps:List Str) (ds:List Value):Prop:=
 ∀ (s:Shared) (us:List Value),K.In s.heap->(us++ds).length=ps.length->BindsTo s fd ⟨us,[]⟩ (ps.zip (us++ds))
theorem Binds.all {K:PySem.W.Frag} {fd:FuncData} {ps:List Str} (h:∀ us:List Value,us.length=ps.length->bindArgs fd ⟨us,[]⟩=pure (ps.zip us)):Binds K fd ps []:=λs us _ hl=>by
 rw [List.append_nil] at hl ⊢
 exact .of_eq (h us hl)
noncomputable def Passes (CX:CXT) (X:Cx) (E:XK):Prop:=∀ (pins:List (Addr × Obj)) (σ:St) (H:Hp) (s:Shared) (e:Value) (s':Shared),Inv X pins σ H s->CX X.stack H s E e s'->X.xe e s'
section
variable {X:Cx} {CX:CXT} {k:Nat} {f C:Addr} {fd:FuncData} {ps:List Str} {sp:Sp} {dvs:List V} {ds:List Value} {E:XK} {x m:Str} {p pos apos:Pos} {e o:Expr} {es:List Expr} {ta:TE} {t:TA}
theorem yP {pins:List (Addr × Obj)} {σ:St} {H:Hp} {s:Shared} {Q:VK} {us:List Value} {vs:List V} (F:aS X.prog X.w X.K X.mg X.base CX k f fd ps sp) (hr:eJ k X.A) (hb:Binds X.K fd ps ds) (hd:Vals dvs ds) (hx:Passes CX X E)
   (I:Inv X pins σ H s) (r:Vals vs us) (h:sp (vs++dvs) H Q E):wpAny (model X.prog X.w) X.A (call (.ref f) us) (EP X pins σ Q) X.xe s:=by
 have r2:Vals (vs++dvs) (us++ds):=r.append hd
 have hl:(us++ds).length=ps.length:=by rw [<- r2.length]; exact F.len _ _ _ _ h
 refine wpAny_call (codeAny_mono (F.run X.A X.stack s H ⟨us,[]⟩ (us++ds) (vs++dvs) Q E hr I.BP (hb s us I.kIn hl) r2 h) λr s' hq=>?_)
 cases r with
 | error e=>exact hx pins σ H s e s' I hq
 | ok fl=>
   cases fl with
   | ret u=>exact I.after hq
   | next=>exact False.elim hq
   | brk=>exact False.elim hq
   | cont=>exact False.elim hq
theorem vR (F:aS X.prog X.w X.K X.mg X.base CX k f fd ps sp) (hr:eJ k X.A) (hg:Gl X x) (hm:X.mg x=some (.ref f)) (hk:PySem.W.keepIn X.K (.ref f)=true) (hb:Binds X.K fd ps ds) (hd:Vals dvs ds) (hx:Passes CX X E)
   (ha:PA X (e :: es) t) (hdb:(x == ("__debug__" : Str))=false:=by decide) (he:starEach (e :: es) X.env=(false,eval e X.env) :: starEach es X.env:=by rfl) (hpl:(backTo pos (starEach es X.env)).any (·.1)=false:=by rfl) :
   PE X (.Call (.Name x p) (e :: es) [] pos) (AA sp dvs E t):=by
 intro pins s σ H Q I h
 refine wpAny_Call_Name_kw (qU I hg hm ?_ hdb)
 refine PySem.W.callWith_K (h₀:=X.base) I.ok.mod.kin hk (thn (ha pos pins s σ H _ I h) λus s1 ⟨vs,H1,I1,r,q⟩=>⟨I1.kIn,?_⟩) he hpl
 exact yP F hr hb hd hx I1 r q
end
section
variable {X:Cx} {CX:CXT} {k:Nat} {f C:Addr} {fd:FuncData} {ps ks:List Str} {sp:Sp} {E:XK} {x m:Str} {p pos apos kpos:Pos} {e o:Expr} {es:List Expr} {kws:List Keyword} {te ta:TE} {t tk:TA} {nm:Option Str}
variable {g:List Value->List Value->List Value} {gV:List V->List V->List V}
end
structure az (N P:List Str) (sc:Scope):Prop where
 kind:sc.kind=.function
 co:sc.isCoroutine=false
 gen:sc.isGenerator=false
 nd:N.Nodup
 pre:N.take P.length=P
 par:∀ x ∈ P,sc.names.lookup x=some .local\/sc.names.lookup x=some .cell
 nofree:∀ y ∈ sc.names,y.2 ≠ .free
theorem kN {kindOf:Str->Option NameKind} {x:Str}:∀ {binds:List (Str × Value)} {m:Str->Option Value},(∀ v,(x,v) ∉ binds)->bindL kindOf binds m x=m x
 | [],_,_=>rfl
 | (n,v) :: r,m,h=>by
   unfold bindL
   rw [kN λw hw=>h w (List.mem_cons_of_mem _ hw)]
   split
   · have:x ≠ n:=by rintro rfl; exact h v List.mem_cons_self
     simp [this]
   · rfl
theorem kO {kindOf:Str->Option NameKind} {x:Str}:∀ {binds:List (Str × Value)} {m:Str->Option Value},(∀ v,(x,v) ∉ binds)->bindC kindOf binds m x=m x
 | [],_,_=>rfl
 | (n,v) :: r,m,h=>by
   unfold bindC
   rw [kO λw hw=>h w (List.mem_cons_of_mem _ hw)]
   split
   · rfl
   · have:x ≠ n:=by rintro rfl; exact h v List.mem_cons_self
     simp [this]
theorem kM {kindOf:Str->Option NameKind} {x:Str} {v:Value}:∀ {P:List Str} {vs:List Value} {i:Nat} {m:Str->Option Value},P.Nodup->P[i]?=some x->vs[i]?=some v->kindOf x=some .local ->
   bindL kindOf (P.zip vs) m x=some v
 | [],_,_,_,_,h,_,_=>by simp at h
 | _ :: _,[],_,_,_,_,h,_=>by simp at h
 | p :: P,w :: vs,0,m,nd,h1,h2,hk=>by
   simp at h1 h2; subst h1; subst h2
   show bindL kindOf ((p,w) :: P.zip vs) m p=_
   unfold bindL
   rw [kN λv hv=>(List.nodup_cons.mp nd).1 (List.of_mem_zip hv).1,if_pos hk]
   simp
 | p :: P,w :: vs,i + 1,m,nd,h1,h2,hk=>by
   show bindL kindOf ((p,w) :: P.zip vs) m x=_
   unfold bindL
   exact kM (i:=i) (List.nodup_cons.mp nd).2 (by simpa using h1) (by simpa using h2) hk
theorem kR {kindOf:Str->Option NameKind} {x:Str} {v:Value}:∀ {P:List Str} {vs:List Value} {i:Nat} {m:Str->Option Value},P.Nodup->P[i]?=some x->vs[i]?=some v->kindOf x ≠ some .local ->
   bindC kindOf (P.zip vs) m x=some v
 | [],_,_,_,_,h,_,_=>by simp at h
 | _ :: _,[],_,_,_,_,h,_=>by simp at h
 | p :: P,w :: vs,0,m,nd,h1,h2,hk=>by
   simp at h1 h2; subst h1; subst h2
   show bindC kindOf ((p,w) :: P.zip vs) m p=_
   unfold bindC
   rw [kO λv hv=>(List.nodup_cons.mp nd).1 (List.of_mem_zip hv).1,if_neg hk]
   simp
 | p :: P,w :: vs,i + 1,m,nd,h1,h2,hk=>by
   show bindC kindOf ((p,w) :: P.zip vs) m x=_
   unfold bindC
   exact kR (i:=i) (List.nodup_cons.mp nd).2 (by simpa using h1) (by simpa using h2) hk
noncomputable def start (N:List Str) (vs:List V):St:=vs.map some++List.replicate (N.length - vs.length) none
noncomputable def oR (CX:CXT) (P:Program) (w:World) (K:PySem.W.Frag) (mg:Str->Option Value) (base:Heap) (N:List Str) (qual:Str) (scope:Scope) (f:Addr) (cd:Value) (A:Around) (outer:List Env) (s:Shared) (H:Hp) (E:XK):Cx where
 prog:=P
 w:=w
 K:=K
 mg:=mg
 base:=base
 A:=A.deeper (envOfC qual scope s.heap.objs.size f cd)
 N:=N
 s₀:=s
 H₀:=H
 env:=envOfC qual scope s.heap.objs.size f cd
 outer:=outer
 stack:=envOfC qual scope s.heap.objs.size f cd :: outer
 ex:=[]
 calm:=true
 fn:=λ_=>true
 pn:=[]
 xe:=λe s'=>wpAny (model P w) (A.deeper (envOfC qual scope s.heap.objs.size f cd)) (leaving (envOfC qual scope s.heap.objs.size f cd) e) (λ_ s''=>CX outer H s E e s'') (λe' s''=>CX outer H s E e' s'') s'
theorem mO {sc:Scope} {n:Nat} {x:Str} (h:sc.names.lookup x=some .cell):∃ c,(cellsFrom n sc.names []).lookup x=some c:=by
 have q:=PySem.W.cellsFrom_some sc.names n [] (.inl h)
 exact Option.isSome_iff_exists.mp q
theorem se {CX:CXT} {P:Program} {w:World} {K:PySem.W.Frag} {mg:Str->Option Value} {base:Heap} {N ps:List Str} {qual:Str} {scope:Scope} {f:Addr} {cd:Value} {A:Around} {outer:List Env} {s s1:Shared} {H:Hp} {E:XK} {us:List Value} {vs:List V}
   (S:az N ps scope) {cm:Bool} (hd:cm=true->A.handled=none) (e0:vO P w K mg base A outer s H) (hl:vs.length=ps.length) (r:Vals vs us)
   (x:InCallC s s.heap.objs.size (bindL (envOfC qual scope s.heap.objs.size f cd).kindOf (ps.zip us) λ_=>none) (cellsFrom (s.heap.objs.size + 1) scope.names []) (bindC (envOfC qual scope s.heap.objs.size f cd).kindOf (ps.zip us) λ_=>none) s1) :
   Inv { oR CX P w K mg base N qual scope f cd A outer s H E with calm:=cm } [] (start N vs) H s1:=by
 have hpl:ps.length<=N.length:=by have:=congrArg List.length S.pre; rw [List.length_take] at this; omega
 obtain ⟨h1,tk,rfl,hk⟩:=x.done
 have noA:∀ b:Addr,b ∉ (oR CX P w K mg base N qual scope f cd A outer s H E).ex:=λb z=>absurd (show b ∈ ([]:List Addr) from z) (by simp)
 refine ⟨⟨e0.mod,S.kind,rfl,rfl,Nat.le_refl _,λy z c h1 h2=>?_,λy hy=>?_,λy c _ h=>?_,hd,Around.frames_deeper e0.frames,.inr ⟨rfl,rfl⟩,λb z=>absurd z (noA b),e0.bs,e0.bsz,λb _ _=>noA b,λb z=>absurd z (noA b),e0.jt,e0.frf⟩,
   rfl,e0.bare,Un.kept hk,⟨_,x.toInCall.ns,λi y v h1 h2 h3=>?_⟩,λy c h=>⟨_,x.cell y c h⟩,e0.hok.fresh (Nat.le_refl _),λy c h=>?_,λp hp=>absurd (show p ∈ ([]:List (Addr × Obj)) from hp) (by simp),e0.hok.kept hk,?_⟩
 · exact name_of_addr x.apart (PySem.mem_of_lookup h1) (PySem.mem_of_lookup h2)
 · have hy:scope.names.lookup y=some .cell\/scope.names.lookup y=some .free:=hy
   rcases hy with hy | hy
   · exact mO hy
   · exact absurd rfl (S.nofree _ (PySem.mem_of_lookup hy))
 · exact Nat.le_of_lt (x.above y c (PySem.mem_of_lookup h))
 · have hi:i < vs.length:=by
     unfold start at h2
     by_cases hi:i < vs.length
     · exact hi
     · rw [List.getElem?_append_right (by simpa using hi)] at h2
       rw [List.getElem?_replicate] at h2
       split at h2 <;> cases h2
   have ha:vs[i]?=some v:=by
     unfold start at h2
     rw [List.getElem?_append_left (by simpa using hi),List.getElem?_map] at h2
     cases e:vs[i]? with
     | none=>rw [e] at h2; cases h2
     | some a=>rw [e] at h2; cases h2; rfl
   obtain ⟨u,hu,rv⟩:=r.get ha
   have hp:ps[i]?=some y:=by
     rw [<- S.pre,List.getElem?_take_of_lt (by omega)]; exact h1
   have ndP:ps.Nodup:=by rw [<- S.pre]; exact S.nd.sublist (List.take_sublist _ _)
   refine ⟨u,rv,?_⟩
   rcases S.par y (List.mem_of_getElem? hp) with k | k
   · exact .inl ⟨k,kM ndP hp hu k⟩
   · obtain ⟨c,e⟩:=mO (n:=s.heap.objs.size + 1) k
     refine .inr ⟨.inl k,c,e,?_⟩
     have q:=x.cell y c e
     rw [kR ndP hp hu (by show scope.names.lookup y ≠ _; rw [k]; decide)] at q
     exact q
 · exact e0.hok.fresh (Nat.le_of_lt (x.above y c (PySem.mem_of_lookup h)))
 · unfold start
   show _=N.length
   rw [List.length_append,List.length_map,List.length_replicate]
   omega
theorem Aw {CX:CXT} {P:Program} {w:World} {K:PySem.W.Frag} {mg:Str->Option Value} {base:Heap} {k:Nat} {f:Addr} {name qual:Str} {params:Arguments} {body:List Stmt} {scope:Scope} {dV kV doc pm cdv ct oc:Value} {an od:Option Addr}
   {osl:Array (Option Value)} {N ps:List Str} {sp:Sp} (lk:K.lookup f=some ⟨oc,od,.func (PySem.W.fnOf name qual params body scope dV kV doc pm an cdv ct),osl⟩) (hcd:PySem.W.codeIn K cdv qual=true) (S:az N ps scope)
   (len:∀ vs H Q E,sp vs H Q E->vs.length=ps.length)
   (hbody:∀ (A:Around) (outer:List Env) (s:Shared) (H:Hp) (vs:List V) (Q:VK) (E:XK),eJ k (A.deeper (envOfC qual scope s.heap.objs.size f cdv))->sp vs H Q E ->
     ∃ t,PSs (oR CX P w K mg base N qual scope f cdv A outer s H E) body t/\t { nx:=λ_ H'=>Q .non H',rt:=Q } (start N vs) H) :
   aS P w K mg base CX (k + 1) f (PySem.W.fnOf name qual params body scope dV kV doc pm an cdv ct) ps sp:=by
 refine ⟨len,λA outer s H args us vs Q E hr e0 hb r hsp=>?_⟩
 have hl:=len _ _ _ _ hsp
 have KX:K.In s.heap:=e0.mod.kin.keeps λb o e=>(e0.bs b o e).1
 have lim:s.heap.NoLimit:=e0.mod.nolimit.keeps λb o e=>(e0.bs b o e).1
 have hkind:∀ y ∈ ps.zip us,scope.names.lookup y.1=some .local\/(scope.names.lookup y.1=some .cell/\((cellsFrom (s.heap.objs.size + 1) scope.names []).lookup y.1).isSome=true):=λ⟨n,v⟩ hy=>by
   rcases S.par n (List.of_mem_zip hy).1 with q | q
   · exact .inl q
   · exact .inr ⟨q,PySem.W.cellsFrom_some _ _ _ (.inl q)⟩
 refine codeAny_call_function hr.depth (KX _ _ lk) rfl S.co S.gen rfl (PySem.W.codeRec_of KX hcd) (hb _ _ _ _ ?_)
 refine wpAny_newFunctionEnv_cells S.kind hkind λenv he s1 x=>?_
 subst he
 refine ⟨lim.keeps x.toInCall.keep,codeAny_func ?_⟩
 obtain ⟨t,ht,hq⟩:=hbody A outer s H vs Q E (hr.deeper _) hsp
 have I:Inv (oR CX P w K mg base N qual scope f cdv A outer s H E) [] (start N vs) H s1:=se (cm:=true) S (λ_=>hr.hd) e0 hl r x
 refine wpAny_mono (ht [] s1 (start N vs) H _ I hq) (λfl s' hs=>?_) λe s' hs=>hs
 have fin:∀ {σ':St} {H':Hp} {v:V} {u:Value},Inv (oR CX P w K mg base N qual scope f cdv A outer s H E) [] σ' H' s'->RelV v u->Q v H'->CE outer P w H s Q u s':=
   λ{σ' H' v u} J rv q=>⟨v,H',J.os,J.bare,J.base,J.hok,rv,q⟩
 cases fl with
 | ret u=>
   obtain ⟨v,σ',H',J,rv,q⟩:=hs
   exact fin J rv q
 | next=>
   obtain ⟨σ',H',J,q⟩:=hs
   exact fin (v:=V.non) (u:=Value.none) J rfl q
 | brk=>
   obtain ⟨_,_,_,q⟩:=hs
   exact False.elim q
 | cont=>
   obtain ⟨_,_,_,q⟩:=hs
   exact False.elim q
section
variable {X:Cx} {x:Str} {p pos:Pos} {e:Expr} {es:List Expr} {t:TA} {id T:String} {r:List V->Hp->VK->Prop}
noncomputable def tCB (r:List V->Hp->VK->Prop) (t:TA):TE:=λσ H Q=>t σ H λvs H1=>r vs H1 Q
theorem m5 (hc:eI X (.builtin id) r) (hg:Gl X x) (hm:X.mg x=none) (hv:bootBuiltins x=some (.builtin id)) (ha:PA X (e :: es) t) (hn:x ≠ "__name__":=by decide) (hdb:(x == ("__debug__" : Str))=false:=by decide)
   (he:starEach (e :: es) X.env=(false,eval e X.env) :: starEach es X.env:=by rfl) (hpl:(backTo pos (starEach es X.env)).any (·.1)=false:=by rfl):PE X (.Call (.Name x p) (e :: es) [] pos) (tCB r t):=by
 intro pins s σ H Q I h
 refine wpAny_Call_Name_kw (dJ I hg hm hv ?_ hn hdb)
 exact PyProof.Rows.callWith_builtin1 (thn (ha pos pins s σ H _ I h) λus s1 ⟨vs,H1,I1,r1,q1⟩=>hc pins s1 σ H1 vs us Q I1 r1 q1) he hpl
theorem kH (hc:eI X (.type T) r) (hg:Gl X x) (hm:X.mg x=none) (hv:bootBuiltins x=some (.type T)) (ha:PA X (e :: es) t) (hn:x ≠ "__name__":=by decide) (hdb:(x == ("__debug__" : Str))=false:=by decide)
   (he:starEach (e :: es) X.env=(false,eval e X.env) :: starEach es X.env:=by rfl) (hpl:(backTo pos (starEach es X.env)).any (·.1)=false:=by rfl):PE X (.Call (.Name x p) (e :: es) [] pos) (tCB r t):=by
 intro pins s σ H Q I h
 refine wpAny_Call_Name_kw (dJ I hg hm hv ?_ hn hdb)
 exact PyProof.Rows.callWith_type1 (thn (ha pos pins s σ H _ I h) λus s1 ⟨vs,H1,I1,r1,q1⟩=>hc pins s1 σ H1 vs us Q I1 r1 q1) he hpl
end
end L2
namespace HT
open PySem PyProof.Rows
section
open PySem.SeqAt
open PySem.AutoSeq1 (wpAny_loadPart')
open PySem.MeetsSeq PySem.MeetsSeq2 PySem.MeetsSeq3
end
section
variable {prog:Program} {w:World} {A:Around} {E:Value->Shared->Prop} {s:Shared}
theorem w5 {t b:Addr} {vs ws:List Value} {Q:Value->Shared->Prop} (ht:IsTup s.heap t vs.toArray) (hb:IsTup s.heap b ws.toArray) (hv:vs ≠ [])
   (h1:ws=[]->Q (.ref t) s) (h2:ws ≠ []->Q (.ref s.heap.objs.size) { s with heap:=s.heap.push { cls:=.type "tuple",data:=.seq (vs++ws).toArray } })
   (hsz:vs.length + ws.length<=sizeLine):wpAny (model prog w) A (binaryOp .Add (.ref t) (.ref b)) Q E s:=by
 obtain ⟨⟨cls,dd,data,sl⟩,ho,hc,n,hd⟩:=id ht
 obtain ⟨⟨cls2,dd2,data2,sl2⟩,ho2,hc2,n2,hd2⟩:=id hb
 simp only at hc hd hc2 hd2
 subst hc hd hc2 hd2
 have e:vs.toArray++ws.toArray=(vs++ws).toArray:=by simp
 by_cases hw:ws=[]
 · exact concat_meets ⟨_,ho,rfl⟩ ⟨_,ho2,rfl⟩ noFill_tuple_add seq_tuple_add PySem.F.slot_tuple_add PySem.F.entry_tuple_add (PySem.F.args_tuple_add_2 _ _)
     (tuple_addW1 t b vs.toArray ws.toArray n n2 dd dd2 sl sl2 (by simpa using hv) (by simp [hw])) ⟨ho,ho2,h1 hw⟩
 · refine concat_meets ⟨_,ho,rfl⟩ ⟨_,ho2,rfl⟩ noFill_tuple_add seq_tuple_add PySem.F.slot_tuple_add PySem.F.entry_tuple_add (PySem.F.args_tuple_add_2 _ _)
     (tuple_addW2 t b vs.toArray ws.toArray n n2 dd dd2 sl sl2 (by simpa using hv) (by simpa using hw) (by rw [List.size_toArray,List.size_toArray]; exact hsz)) ⟨ho,ho2,?_⟩
   rw [e]
   exact h2 hw
noncomputable def sIx (n d:Nat):Option Int->Nat
 | none=>d
 | some v=>if v < 0 then (v + (n:Int)).toNat else min v.toNat n
theorem je (n d:Nat):sIx n d none=d:=rfl
theorem fH (n d k:Nat):sIx n d (some (k:Int))=min k n:=by
 show (if (k:Int) < 0 then ((k:Int) + (n:Int)).toNat else min (k:Int).toNat n)=min k n
 rw [if_neg (by omega),Int.toNat_natCast]
theorem yf (n d:Nat) (hd:d<=n) (o:Option Int):sIx n d o<=n:=by
 cases o with
 | none=>exact hd
 | some v=>
   show (if v < 0 then (v + (n:Int)).toNat else min v.toNat n)<=n
   by_cases hv:v < 0
   · rw [if_pos hv]; omega
   · rw [if_neg hv]; exact Nat.min_le_right _ _
theorem p7 (v:Int) (n d:Nat):(if v < 0 then max (v + (n:Int)) 0 else min v (n:Int))=((sIx n d (some v):Nat):Int):=by
 show (if v < 0 then max (v + (n:Int)) 0 else min v (n:Int))=(((if v < 0 then (v + (n:Int)).toNat else min v.toNat n):Nat):Int)
 by_cases hv:v < 0
 · simp only [if_pos hv]; omega
 · simp only [if_neg hv]; omega
theorem pQ (lo hi:Option Int) (n:Nat):Builtin.Slice.sliceAdjust lo hi 1 (n:Int)=(((sIx n 0 lo:Nat):Int),((sIx n n hi:Nat):Int)):=by
 have h1:¬ ((1:Int) < 0):=by omega
 unfold Builtin.Slice.sliceAdjust
 simp only [h1,if_false]
 refine Prod.ext ?_ ?_
 · cases lo with
   | none=>rfl
   | some v=>exact p7 v n 0
 · cases hi with
   | none=>rfl
   | some v=>exact p7 v n n
theorem pz (i j:Nat):Builtin.Slice.slicePlaces (i:Int) (j:Int) 1=j - i:=by
 unfold Builtin.Slice.slicePlaces
 have h1:(1:Int) > 0:=by omega
 simp only [h1,if_true,Int.ediv_one]
 split <;> omega
theorem jr {v:Value} {o:Option Int} {Q:Option Int->Shared->Prop} (p:IsPart v o) (h:Q o s):wpAny (model prog w) A (Builtin.Slice.slicePartIndex v) Q E s:=by
 cases p with
 | none=>exact slicePart_none h
 | int i t=>exact slicePart_int h
theorem iE {sl:Addr} {vl vu:Value} {lo hi:Option Int} {n:Nat} {Q:Int × Int × Nat->Shared->Prop} (hs:s.heap.IsSliceOf sl vl vu .none) (pl:IsPart vl lo) (pu:IsPart vu hi)
   (h:Q (((sIx n 0 lo:Nat):Int),1,sIx n n hi - sIx n 0 lo) s):wpAny (model prog w) A (Builtin.Slice.sliceApplied (.ref sl) (pure (n:Int))) Q E s:=by
 obtain ⟨os,hos,hcs,hds⟩:=id hs
 unfold Builtin.Slice.sliceApplied Builtin.Slice.sliceFields
 refine wpAny_bind (wpAny_bind (wpAny_field hos hds (x:=vl) rfl (wpAny_bind (wpAny_field hos hds (x:=vu) rfl (wpAny_bind (wpAny_field hos hds (x:=.none) rfl (wpAny_pure ?_)))))))
 refine wpAny_bind (slicePart_none ?_)
 show wpAny _ _ (if ((1:Int) == 0)=true then _ else _) _ _ s
 rw [if_neg (by decide)]
 refine wpAny_bind (jr pl (wpAny_bind (jr pu (wpAny_bind (wpAny_pure ?_)))))
 show wpAny _ _ (match Builtin.Slice.sliceAdjust lo hi 1 (n:Int) with | (lo,hi)=>pure (lo,(1:Int),Builtin.Slice.slicePlaces lo hi 1)) _ _ s
 rw [pQ lo hi n]
 show wpAny _ _ (pure (((sIx n 0 lo:Nat):Int),(1:Int),Builtin.Slice.slicePlaces ((sIx n 0 lo:Nat):Int) ((sIx n n hi:Nat):Int) 1)) _ _ s
 rw [pz]
 exact wpAny_pure h
theorem tm (xs:Array Value) (i k:Nat):((List.range k).filterMap λ(m:Nat)=>xs[((i:Int) + (m:Int) * 1).toNat]?).toArray=((xs.toList.drop i).take k).toArray:=by
 have e:(λ(m:Nat)=>xs[((i:Int) + (m:Int) * 1).toNat]?)=λm=>xs[i + m]?:=by
   funext m
   have:((i:Int) + (m:Int) * 1).toNat=i + m:=by omega
   rw [this]
 rw [e]
 have:=pick_run xs i k
 rw [List.filterMap_map] at this
 have e2:((λx=>xs[x]?) ∘ λx=>i + x)=λm=>xs[i + m]?:=rfl
 rw [e2] at this
 rw [this]
theorem gz {t sl:Addr} {items:Array Value} {vl vu:Value} {lo hi:Option Int} {Q:Value->Shared->Prop} (ht:IsTup s.heap t items) (hs:s.heap.IsSliceOf sl vl vu .none) (pl:IsPart vl lo) (pu:IsPart vu hi)
   (hw:¬ (sIx items.size 0 lo=0/\sIx items.size items.size hi=items.size))
   (h:Q (.ref s.heap.objs.size) { s with heap:=s.heap.push { cls:=.type "tuple",data:=.seq ((items.toList.drop (sIx items.size 0 lo)).take (sIx items.size items.size hi - sIx items.size 0 lo)).toArray } })
   (hsz:items.size<=sizeLine):wpAny (model prog w) A (getItem (.ref t) (.ref sl)) Q E s:=by
 have htake:sizeOk (.seq ((items.toList.drop (sIx items.size 0 lo)).take (sIx items.size items.size hi - sIx items.size 0 lo)).toArray):=by
   show ((items.toList.drop (sIx items.size 0 lo)).take (sIx items.size items.size hi - sIx items.size 0 lo)).toArray.size<=sizeLine
   rw [List.size_toArray,List.length_take,List.length_drop,Array.length_toList]
   omega
 have hj:sIx items.size items.size hi<=items.size:=yf _ _ (Nat.le_refl _) hi
 obtain ⟨os,hos,hcs,hds⟩:=id hs
 have hTs:s.TypeIs (.ref sl) "slice":=⟨os,hos,hcs⟩
 unfold getItem
 try with_reducible refine wpAny_holding ?_
 first | refine wpAny_bind (wpAny_pure ?_) | skip
 refine wpAny_bind (wpAny_sequenceKey ht.typeIs (by decide) ?_)
 refine wpAny_bind (wpAny_callSpecial?_slot (name:=Str.ofString "__getitem__") ht.typeIs PyProof.Rows.slot_tuple_getitem
   (wpAny_call_entry PyProof.Rows.slot_tuple_getitem ht.typeIs entry_tuple_getitem ?_ (args_tuple_getitem _ _)))
 show wpAny _ _ (Builtin.Tuple.tupleItemsOf (.ref t) >>= _) _ _ s
 refine wpAny_bind (tupleItemsOf_ ht ?_)
 refine wpAny_bind (wpAny_typeOf hTs ?_)
 rw [if_pos (by decide)]
 refine wpAny_bind (iE hs pl pu ?_)
 have hno:¬ ((((sIx items.size 0 lo:Nat):Int) == 0 && (1:Int) == 1 && (sIx items.size items.size hi - sIx items.size 0 lo) == items.size)=true):=by
   intro q
   rw [Bool.and_eq_true,Bool.and_eq_true] at q
   have q1:((sIx items.size 0 lo:Nat):Int)=0:=eq_of_beq q.1.1
   have q2:sIx items.size items.size hi - sIx items.size 0 lo=items.size:=eq_of_beq q.2
   exact hw ⟨by omega,by omega⟩
 show wpAny _ _ (if (((sIx items.size 0 lo:Nat):Int) == 0 && (1:Int) == 1 && (sIx items.size items.size hi - sIx items.size 0 lo) == items.size)=true then _ else _) _ _ s
 rw [if_neg hno,tm]
 first
   | exact wpAny_bind (m:=Builtin.Tuple.tupleExact _) (wpAny_newObj_type (wpAny_pure ⟨_,rfl,wpAny_pure h⟩) htake)
   | exact wpAny_bind (m:=Builtin.Tuple.tupleExact _) (wpAny_newObj_type (wpAny_bind (wpAny_pure (wpAny_pure ⟨_,rfl,wpAny_pure h⟩))) htake)
   | exact wpAny_bind (wpAny_bind (m:=Builtin.Tuple.tupleExact _) (wpAny_newObj_type (wpAny_pure (wpAny_pure ⟨_,rfl,wpAny_pure h⟩)) htake))
   | exact wpAny_bind (wpAny_bind (m:=Builtin.Tuple.tupleExact _) (wpAny_newObj_type (wpAny_pure ⟨_,rfl,wpAny_pure h⟩) htake))
end
end HT
namespace L2
open PySem PySem.Spec PyProof.Rows
noncomputable abbrev TO:=St->Hp->(Option Int->Hp->Prop)->Prop
noncomputable def PO (X:Cx) (e:Option Expr) (t:TO):Prop:=
 ∀ (pins:List (Addr × Obj)) (s:Shared) (σ:St) (H:Hp) (Q:Option Int->Hp->Prop),Inv X pins σ H s->t σ H Q ->
   wpAny (model X.prog X.w) X.A (evalPart e X.env) (λu s'=>∃ o H',Inv X pins σ H' s'/\IsPart u o/\Q o H') X.xe s
noncomputable def wX:TO:=λ_ H Q=>Q none H
noncomputable def A7 (t:TE):TO:=λσ H Q=>t σ H λx H1=>∃ i,x=.int i/\Q (some i) H1
section
variable {X:Cx} {e:Expr} {te:TE} {lo hi:Option Expr} {tl th:TO} {pos p2:Pos}
theorem xl:PO X none wX:=by
 intro pins s σ H Q I h
 rw [evalPart_none]
 exact wpAny_pure ⟨none,H,I,.none,h⟩
theorem wO (h:PE X e te):PO X (some e) (A7 te):=by
 intro pins s σ H Q I hw
 rw [evalPart_some]
 refine thn (h pins s σ H _ I hw) λu s1 ⟨x,H1,I1,r1,q1⟩=>?_
 obtain ⟨i,rfl,q⟩:=q1
 obtain ⟨t,rfl⟩:=r1
 exact ⟨some i,H1,I1,.int i t,q⟩
noncomputable def SlR (X:Cx) (r:V->Option Int->Option Int->Hp->VK->Prop):Prop:=
 ∀ (pins:List (Addr × Obj)) (s:Shared) (σ:St) (H:Hp) (x:V) (v vl vu:Value) (lo hi:Option Int) (sl:Addr) (Q:VK),Inv X pins σ H s->RelV x v->s.heap.IsSliceOf sl vl vu .none->IsPart vl lo->IsPart vu hi->r x lo hi H Q ->
   ∃ T id,typeLookup (.type T) "__getitem__" = pure (some (.builtin id))/\s.TypeIs v T/\wpAny (model X.prog X.w) X.A (getItem v (.ref sl)) (EP X pins σ Q) X.xe s
noncomputable def tSl (r:V->Option Int->Option Int->Hp->VK->Prop) (te:TE) (tl th:TO):TE:=λσ H Q=>te σ H λx H1=>tl σ H1 λl H2=>th σ H2 λu H3=>r x l u H3 Q
theorem mT {r:V->Option Int->Option Int->Hp->VK->Prop} (hr:SlR X r) (he:PE X e te) (hl:PO X lo tl) (hu:PO X hi th):PE X (.Subscript e (.Slice lo hi none p2) pos) (tSl r te tl th):=by
 intro pins s σ H Q I h
 refine Subscript_ (thn (he pins s σ H _ I h) λv s1 ⟨x,H1,I1,r1,q1⟩=>?_)
 refine wpAny_Slice (thn (hl pins s1 σ H1 _ I1 q1) λvl s2 ⟨l,H2,I2,pl,q2⟩=>thn (hu pins s2 σ H2 _ I2 q2) λvu s3 ⟨u,H3,I3,pu,q3⟩=>?_)
 rw [evalPart_none]
 refine wpAny_pure ?_
 have I4:Inv X pins σ H3 { s3 with heap:=s3.heap.push { cls:=.type "slice",data:=.fields #[vl,vu,.none] } }:=I3.kept (t':=s3.toks) λb ob q=>Heap.get?_push_of_some _ q
 obtain ⟨T,id,hT,ht,hg⟩:=hr pins { s3 with heap:=s3.heap.push { cls:=.type "slice",data:=.fields #[vl,vu,.none] } } σ H3 x v vl vu l u s3.heap.objs.size Q I4 r1 (Heap.IsSliceOf.new ..) pl pu q3
 show wpAny (model X.prog X.w) X.A (subscriptTail e (.Slice lo hi none p2) v (.ref s3.heap.objs.size)) (EP X pins σ Q) X.xe { s3 with heap:=s3.heap.push { cls:=.type "slice",data:=.fields #[vl,vu,.none] } }
 exact tail_any (ops:=[.ref s3.heap.objs.size,v]) ht hT hg (by with_unfolding_all rfl)
noncomputable def jA (xs:List V) (lo hi:Option Int):List V:=(xs.drop (HT.sIx xs.length 0 lo)).take (HT.sIx xs.length xs.length hi - HT.sIx xs.length 0 lo)
theorem iK (xs:List V) (lo hi:Option Int):(jA xs lo hi).length<=xs.length:=by
 unfold jA
 rw [List.length_take,List.length_drop]
 omega
noncomputable def B6 (K:PySem.W.Frag):V->Option Int->Option Int->Hp->VK->Prop:=λx lo hi H Q=>∃ a xs,x=.ref a/\SqT K H a xs /\
 ¬ (HT.sIx xs.length 0 lo=0/\HT.sIx xs.length xs.length hi=xs.length)/\∀ p,H p=none->Q (.ref p) (upd H p (.tup (jA xs lo hi)))
theorem yU:SlR X (B6 X.K):=by
 intro pins s σ H x v vl vu lo hi sl Q I rx hs pl pu h
 obtain ⟨a,xs,rfl,hx,hw,q⟩:=h
 cases rx
 obtain ⟨its,r,ht,hz⟩:=I.tuple hx
 have hlen:its.toArray.size=xs.length:=by rw [List.size_toArray]; exact r.length.symm
 refine ⟨"tuple",_,PyProof.Rows.slot_tuple_getitem.lookup,ht.typeIs,?_⟩
 refine HT.gz ht hs pl pu (by rw [hlen]; exact hw) ?_ (by rw [hlen]; exact hz)
 rw [hlen]
 refine ⟨.ref s.heap.objs.size,_,I.laid (t':=s.toks) (o:=.tup (jA xs lo hi)) (λb ob q=>Heap.get?_push_of_some _ q) (Nat.le_refl _) ?_,rfl,q _ (I.hok.fresh (Nat.le_refl _))⟩
 exact ⟨Nat.le_trans (iK xs lo hi) hz,_,(r.drop (HT.sIx xs.length 0 lo)).take (HT.sIx xs.length xs.length hi - HT.sIx xs.length 0 lo),IsTup.new _ _⟩
noncomputable def Ai (K:PySem.W.Frag):R2:=λx y H Q=>∃ a b xs ys,x=.ref a/\y=.ref b/\SqT K H a xs/\SqT K H b ys/\xs ≠ []/\xs.length + ys.length<=sizeLine /\
 (ys=[]->Q (.ref a) H)/\(ys ≠ []->∀ p,H p=none->Q (.ref p) (upd H p (.tup (xs++ys))))
theorem Vals.l7 {xs:List V} {us:List Value} (r:Vals xs us):us=[] ↔ xs=[]:=by
 cases r with
 | nil=>simp
 | cons _ _=>simp
theorem wk:OpR X (binaryOp .Add) (Ai X.K):=by
 intro pins s σ H x y v u Q I rx ry h
 obtain ⟨a,b,xs,ys,rfl,rfl,ha,hb,hx,hz,q1,q2⟩:=h
 cases rx
 cases ry
 obtain ⟨its,r1,p1,_⟩:=I.tuple ha
 obtain ⟨its2,r2,p2,_⟩:=I.tuple hb
 refine HT.w5 p1 p2 (λz=>hx (r1.l7.mp z)) (λz=>⟨.ref a,H,I,rfl,q1 (r2.l7.mp z)⟩) (λz=>?_) (by rw [<- r1.length,<- r2.length]; exact hz)
 refine ⟨.ref s.heap.objs.size,_,I.laid (t':=s.toks) (o:=.tup (xs++ys)) (λb ob q=>Heap.get?_push_of_some _ q) (Nat.le_refl _) ?_,rfl,q2 (λw=>z (r2.l7.mpr w)) _ (I.hok.fresh (Nat.le_refl _))⟩
 exact ⟨by rw [List.length_append]; exact hz,_,r1.append r2,IsTup.new _ _⟩
end
noncomputable def ixN (n:Nat) (i:Int):Option Nat:=if 0<=i then (if i < n then some i.toNat else none) else if -(n:Int)<=i then some (i + n).toNat else none
noncomputable def atI {α:Type} (xs:List α) (i:Int):Option α:=(ixN xs.length i).bind λj=>xs[j]?
theorem qJ {n:Nat} {i:Int} {j:Nat} (h:ixN n i=some j):seqIndex? i n=some j/\j < n/\-(n:Int)<=i/\i < n:=by
 unfold ixN at h
 by_cases h0:0<=i
 · rw [if_pos h0] at h
   by_cases h1:i < n
   · rw [if_pos h1] at h
     have e:i.toNat=j:=Option.some.inj h
     exact ⟨by rw [seqIndex_of h0 h1,e],by omega,by omega,h1⟩
   · rw [if_neg h1] at h; cases h
 · rw [if_neg h0] at h
   by_cases h1:-(n:Int)<=i
   · rw [if_pos h1] at h
     have e:(i + n).toNat=j:=Option.some.inj h
     exact ⟨by rw [seqIndex_neg (by omega) h1,e],by omega,h1,by omega⟩
   · rw [if_neg h1] at h; cases h
theorem qZ {α:Type} {xs:List α} {i:Int} {v:α} (h:atI xs i=some v):∃ j,seqIndex? i xs.length=some j/\xs[j]?=some v/\j < xs.length/\-(xs.length:Int)<=i/\i < xs.length:=by
 unfold atI at h
 cases e:ixN xs.length i with
 | none=>rw [e] at h; cases h
 | some j=>
   rw [e] at h
   obtain ⟨h1,h2,h3,h4⟩:=qJ e
   exact ⟨j,h1,h,h2,h3,h4⟩
noncomputable def lh (b:Expr):Prop:=∀ o i,subscripted b false o i=operate [o,i] (getItem o i)
noncomputable def IxR (X:Cx) (r:R2):Prop:=
 ∀ (value slice:Expr) (pins:List (Addr × Obj)) (s:Shared) (σ:St) (H:Hp) (x y:V) (v u:Value) (Q:VK),Inv X pins σ H s->RelV x v->RelV y u->r x y H Q ->
   subscripted slice false v u=operate [v,u] (getItem v u)->wpAny (model X.prog X.w) X.A (subscriptTail value slice v u) (EP X pins σ Q) X.xe s
noncomputable def MtR (X:Cx) (id:String) (r:V->List V->Hp->VK->Prop):Prop:=
 ∀ (pins:List (Addr × Obj)) (s:Shared) (σ:St) (H:Hp) (x:V) (xs:List V) (v:Value) (us:List Value) (Q:VK),Inv X pins σ H s->RelV x v->Vals xs us->r x xs H Q ->
   wpAny (model X.prog X.w) X.A (call (.builtin id) (v :: us)) (EP X pins σ Q) X.xe s
section
variable {X:Cx} {a b:Expr} {ta tb:TE} {pos:Pos}
theorem xU {r:R2} (hr:IxR X r) (ha:PE X a ta) (hb:PE X b tb) (hs:lh b):PE X (.Subscript a b pos) (tOp r ta tb):=by
 intro pins s σ H Q I h
 exact Subscript_ (yb ha hb I h λv u s2 x y H2 I2 rx ry q=>hr a b pins s2 σ H2 x y v u Q I2 rx ry q (hs _ _))
noncomputable def BY (K:PySem.W.Frag):R2:=λx y H Q=>∃ p xs i v,x=.ref p/\y=.int i/\SqL K H p xs/\atI xs i=some v/\Q v H
noncomputable def Cj (K:PySem.W.Frag):R2:=λx y H Q=>∃ p xs i v,x=.ref p/\y=.int i/\SqT K H p xs/\atI xs i=some v/\Q v H
theorem rb:IxR X (BY X.K):=by
 intro value slice pins s σ H x y v u Q I rx ry h hs
 obtain ⟨p,xs,i,z,rfl,rfl,hq,he,q⟩:=h
 cases rx
 obtain ⟨t,rfl⟩:=ry
 obtain ⟨its,r,pl,hz⟩:=I.list hq
 obtain ⟨j,h1,h2,h3,h4,h5⟩:=qZ he
 obtain ⟨w,ew,rw'⟩:=r.get h2
 have hl:=r.length
 have hn:=lQ
 have fin:EP X pins σ Q w s:=⟨z,H,I,rw',q⟩
 by_cases h0:0<=i
 · have hj:i.toNat=j:=by
     rw [seqIndex_of h0 h5] at h1
     exact Option.some.inj h1
   exact item_listR pl.isList h0 (by omega) (by rw [hj]; simpa using ew) fin hs
 · have hj:(i + (its.toArray.size:Int)).toNat=j:=by
     rw [seqIndex_neg (by omega) h4] at h1
     rw [List.size_toArray,<- hl]
     exact Option.some.inj h1
   exact subscriptTail_builtinR (x:=w) pl.isList.typeIs slot_list_getitem.lookup
     (wpAny_getItem_list_neg (Q:=λr s'=>r=w/\EP X pins σ Q r s') pl.isList (by omega) (by rw [List.size_toArray] <;> omega) (by omega) (by rw [hj]; simpa using ew) ⟨rfl,fin⟩) hs
theorem yD:IxR X (Cj X.K):=by
 intro value slice pins s σ H x y v u Q I rx ry h hs
 obtain ⟨p,xs,i,z,rfl,rfl,hq,he,q⟩:=h
 cases rx
 obtain ⟨t,rfl⟩:=ry
 obtain ⟨its,r,pl,hz⟩:=I.tuple hq
 obtain ⟨j,h1,h2,h3,h4,h5⟩:=qZ he
 obtain ⟨w,ew,rw'⟩:=r.get h2
 have hl:=r.length
 have hn:=lQ
 have fin:EP X pins σ Q w s:=⟨z,H,I,rw',q⟩
 exact subscriptTail_builtinR (x:=w) pl.typeIs slot_tuple_getitem.lookup
   (getItem_tuple (j:=j) (Q:=λr s'=>r=w/\EP X pins σ Q r s') pl (by omega) (by omega) (by rw [List.size_toArray,<- hl]; exact h1) (by simpa using ew) ⟨rfl,fin⟩) hs
theorem pE (its:List Value) (n j:Nat) (u:Value):Obj.mapSeq (·.setIfInBounds j u) { cls:=.type "list",data:=.seq its.toArray n }={ cls:=.type "list",data:=.seq (its.set j u).toArray n }:=by
 simp [Obj.mapSeq]
theorem Inv.lst {pins:List (Addr × Obj)} {σ:St} {H:Hp} {s:Shared} {p:Addr} {xs:List V} (I:Inv X pins σ H s) (h:H p=some (.lst xs)) :
   ∃ (its:List Value) (n:Nat),Vals xs its/\s.heap.get? p=some { cls:=.type "list",data:=.seq its.toArray n }/\xs.length<=sizeLine:=by
 obtain ⟨z,its,n,r,e⟩:=I.hok p _ h
 exact ⟨its,n,r,e,z⟩
theorem Inv.yL {pins:List (Addr × Obj)} {σ:St} {H:Hp} {s:Shared} {p:Addr} {xs ys:List V} {its its':List Value} {n n':Nat} {f:Obj->Obj} (I:Inv X pins σ H s) (h:H p=some (.lst xs))
   (ho:s.heap.get? p=some { cls:=.type "list",data:=.seq its.toArray n }) (hf:f { cls:=.type "list",data:=.seq its.toArray n }={ cls:=.type "list",data:=.seq its'.toArray n' }) (r:Vals ys its') (hz:ys.length<=sizeLine) (t:Nat) :
   Inv X pins σ (upd H p (.lst ys)) { s with heap:=s.heap.update p f,toks:=t }:=by
 have e:(s.heap.update p f).get? p=some { cls:=.type "list",data:=.seq its'.toArray n' }:=by
   rw [Heap.get?_update_self f ho (by rw [hf] <;> rfl),hf]
 refine I.write (x:=p) (e:=p) (by rw [h]; trivial) (.inl rfl) (λb u hb q=>(Heap.get?_update_other _ _ (Ne.symm hb)).trans q) ⟨_,e⟩ ?_
 exact ⟨hz,its',n',r,e⟩
noncomputable def AE:V->V->V->Hp->(Hp->Prop)->Prop:=λo i v H Q=>∃ p xs k j,o=.ref p/\i=.int k/\H p=some (.lst xs)/\ixN xs.length k=some j/\Q (upd H p (.lst (xs.set j v)))
theorem set_list:Bp X AE:=by
 intro pins s σ H o i v ov iv u Q I ro ri rv h
 obtain ⟨p,xs,k,j,rfl,rfl,hp,hj,q⟩:=h
 cases ro
 obtain ⟨t,rfl⟩:=ri
 obtain ⟨its,n,r,ho,hz⟩:=I.lst hp
 obtain ⟨h1,h2,h3,h4⟩:=qJ hj
 have hl:=r.length
 have hn:=lQ
 have I':Inv X pins σ (upd H p (.lst (xs.set j v))) { s with heap:=s.heap.update p (Obj.mapSeq (·.setIfInBounds j u)) }:=
   I.yL hp ho (pE its n j u) (r.set rv j) (by rw [List.length_set]; exact hz) s.toks
 by_cases h0:0<=k
 · have hk:k.toNat=j:=by
     rw [seqIndex_of h0 h4] at h1
     exact Option.some.inj h1
   exact PySem.W.ki_setAt ho h0 (by omega) (by rw [List.size_toArray,<- hl]; exact h4) (by rw [hk]; exact ⟨_,I',q⟩)
 · have hk:(k + (its.toArray.size:Int)).toNat=j:=by
     rw [seqIndex_neg (by omega) h3] at h1
     rw [List.size_toArray,<- hl]
     exact Option.some.inj h1
   exact PySem.W.ki_setBack ho (by omega) (by rw [List.size_toArray,<- hl]; exact h3) (by omega) (by rw [hk]; exact ⟨_,I',q⟩)
theorem l6 (lo hi:Option Int) (n:Nat):(sliceBounds lo hi none n).1=((HT.sIx n 0 lo:Nat):Int)/\(sliceBounds lo hi none n).2.1=((HT.sIx n n hi:Nat):Int)/\(sliceBounds lo hi none n).2.2=1:=by
 refine ⟨?_,?_,rfl⟩
 · cases lo with
   | none=>simp [sliceBounds,HT.sIx]
   | some i=>
     simp only [sliceBounds,HT.sIx,Option.getD_none,show (1:Int) > 0 by decide,if_true]
     by_cases h:i < 0
     · simp only [h,if_true] <;> omega
     · simp only [h,if_false] <;> omega
 · cases hi with
   | none=>simp [sliceBounds,HT.sIx]
   | some i=>
     simp only [sliceBounds,HT.sIx,Option.getD_none,show (1:Int) > 0 by decide,if_true]
     by_cases h:i < 0
     · simp only [h,if_true] <;> omega
     · simp only [h,if_false] <;> omega
theorem kh (its:List Value) (lo hi:Option Int):slicePick its.toArray lo hi none=((its.drop (HT.sIx its.length 0 lo)).take (HT.sIx its.length its.length hi - HT.sIx its.length 0 lo)).toArray:=by
 obtain ⟨h1,h2,h3⟩:=l6 lo hi its.toArray.size
 unfold slicePick
 rw [h1,h2,h3]
 simp only [sliceRange_one,pick_run,List.size_toArray] <;> rfl
noncomputable def B8 (K:PySem.W.Frag):V->Option Int->Option Int->Hp->VK->Prop:=λx lo hi H Q=>∃ a xs,x=.ref a/\SqL K H a xs/\∀ p,H p=none->Q (.ref p) (upd H p (.lst (jA xs lo hi)))
theorem v3:SlR X (B8 X.K):=by
 intro pins s σ H x v vl vu lo hi sl Q I rx hs pl pu h
 obtain ⟨a,xs,rfl,hx,q⟩:=h
 cases rx
 obtain ⟨its,r,ht,hz⟩:=I.list hx
 have hlen:=r.length
 refine ⟨"list",_,slot_list_getitem.lookup,ht.isList.typeIs,?_⟩
 refine wpAny_getItem_list_slice ht.isList hs pl pu .none (by simp) ?_ (by rw [List.size_toArray] <;> omega)
 rw [kh,<- hlen]
 refine ⟨.ref s.heap.objs.size,_,I.laid (t':=s.toks) (o:=.lst (jA xs lo hi)) (λb ob q=>Heap.get?_push_of_some _ q) (Nat.le_refl _) ?_,rfl,q _ (I.hok.fresh (Nat.le_refl _))⟩
 exact ⟨Nat.le_trans (iK xs lo hi) hz,_,0,(r.drop (HT.sIx xs.length 0 lo)).take (HT.sIx xs.length xs.length hi - HT.sIx xs.length 0 lo),Heap.get?_push_size _ rfl⟩
theorem gZ:eI X (.builtin "len") (λxs H Q=>∃ p ys,xs=[.ref p]/\(SqL X.K H p ys\/SqT X.K H p ys)/\Q (.int ys.length) H):=by
 intro pins s σ H xs us Q I r h
 obtain ⟨p,ys,rfl,hq,q⟩:=h
 obtain ⟨u,rfl,rx⟩:=vals1 r
 cases rx
 have hn:=lQ
 rcases hq with hq | hq
 · obtain ⟨its,r',pl,hz⟩:=I.list hq
   have hlen:=r'.length
   exact Calls.call_len_list pl.isList (by simp only [List.size_toArray] <;> omega) ⟨.int ys.length,H,I.tok _,⟨s.toks + 1,by rw [List.size_toArray,hlen]⟩,q⟩
 · obtain ⟨its,r',pl,hz⟩:=I.tuple hq
   have hlen:=r'.length
   exact len_tuple pl (by simp only [List.size_toArray] <;> omega) ⟨.int ys.length,H,I.tok _,⟨s.toks + 1,by rw [List.size_toArray,hlen]⟩,q⟩
theorem gp:eI X (.type "list") (λxs H Q=>∃ p ys,xs=[.ref p]/\(SqL X.K H p ys\/SqT X.K H p ys)/\∀ l,H l=none->Q (.ref l) (upd H l (.lst ys))):=by
 intro pins s σ H xs us Q I r h
 obtain ⟨p,ys,rfl,hq,q⟩:=h
 obtain ⟨u,rfl,rx⟩:=vals1 r
 cases rx
 have fin:∀ (its:List Value),Vals ys its->ys.length<=sizeLine->∀ (h':Heap) (c':Nat),(∀ b o',s.heap.get? b=some o'->h'.get? b=some o') ->
     h'.get? s.heap.objs.size=some { cls:=.type "list",dict:=none,data:=.seq its.toArray c',slots:=#[] }->EP X pins σ Q (.ref s.heap.objs.size) { s with heap:=h' }:=λits r' hz h' c' kp e=>
   ⟨.ref s.heap.objs.size,_,I.laid (t':=s.toks) kp (Nat.le_refl _) (show bf X.prog X.w _ h' _ (.lst ys) from ⟨hz,its,c',r',e⟩),rfl,q _ (I.hok.fresh (Nat.le_refl _))⟩
 rcases hq with hq | hq
 · obtain ⟨its,r',pl,hz⟩:=I.list hq
   have hlen:=r'.length
   obtain ⟨o,ho,hc,n,hd⟩:=pl.isList
   exact call_list_seq p (.inl rfl) ho hc hd (λh' c' kp e=>fin its r' hz h' c' kp e) (by simp only [List.size_toArray] <;> omega)
 · obtain ⟨its,r',pl,hz⟩:=I.tuple hq
   have hlen:=r'.length
   obtain ⟨o,ho,hc,n,hd⟩:=pl
   exact call_list_seq p (.inr rfl) ho hc hd (λh' c' kp e=>fin its r' hz h' c' kp e) (by simp only [List.size_toArray] <;> omega)
noncomputable def tyV (K:PySem.W.Frag) (T:String) (x:V) (H:Hp):Prop:=match x with
 | .str _=>T = "str"
 | .int _=>T = "int"
 | .ref p=>(T = "list" /\ ∃ xs,SqL K H p xs)\/(T = "tuple" /\ ∃ o,K.lookup p=some o/\o.cls=.type "tuple" /\ o.dict=none) \/
     (T = "dict" /\ ((∃ kvs,H p=some (.dK kvs))\/∃ kvs,H p=some (.dT kvs)))\/(T = "set" /\ ∃ S n,H p=some (.set S n))
 | _=>False
theorem zN {pins:List (Addr × Obj)} {σ:St} {H:Hp} {s:Shared} {T:String} {x:V} {v:Value} (I:Inv X pins σ H s) (r:RelV x v) (ty:tyV X.K T x H) :
   s.TypeIs v T/\∀ a,v=.ref a->∃ ob,s.heap.get? a=some ob/\ob.dict=none:=by
 cases x with
 | str z=>
   obtain ⟨t,rfl⟩:=r
   cases (show T = "str" from ty)
   exact ⟨typeIs_str s z t,λ_ e=>nomatch e⟩
 | int i=>
   obtain ⟨t,rfl⟩:=r
   cases (show T = "int" from ty)
   exact ⟨typeIs_int s i t,λ_ e=>nomatch e⟩
 | ref p=>
   cases r
   rcases ty with ⟨rfl,xs,hq⟩ | ⟨rfl,o,hk,hc,hd⟩ | ⟨rfl,hk⟩ | ⟨rfl,S,n,hk⟩
   · obtain ⟨its,_,pl,_⟩:=I.list hq
     refine ⟨pl.isList.typeIs,λa e=>?_⟩
     cases e
     obtain ⟨o,n,e,c,hd,_⟩:=pl
     exact ⟨o,e,hd⟩
   · refine ⟨⟨o,I.kIn p o hk,hc⟩,λa e=>?_⟩
     cases e
     exact ⟨o,I.kIn _ o hk,hd⟩
   · have z:∃ o,s.heap.get? p=some o/\o.ExactDict:=by
       rcases hk with ⟨kvs,hk⟩ | ⟨kvs,hk⟩
       · obtain ⟨_,_,_,_,o,_,_,e,ex,_⟩:=I.hok p _ hk
         exact ⟨o,e,ex⟩
       · obtain ⟨_,_,_,_,o,_,_,e,ex,_⟩:=I.hok p _ hk
         exact ⟨o,e,ex⟩
     obtain ⟨o,e,ex⟩:=z
     refine ⟨⟨o,e,ex.1⟩,λa e2=>?_⟩
     cases e2
     exact ⟨o,e,ex.2.1⟩
   · obtain ⟨o,_,_,_,e,ex,_⟩:=I.hok p _ hk
     refine ⟨⟨o,e,ex.1⟩,λa e2=>?_⟩
     cases e2
     exact ⟨o,e,ex.2.1⟩
 | _=>exact False.elim ty
noncomputable def tBM (K:PySem.W.Frag) (T:String) (r:V->List V->Hp->VK->Prop) (to:TE) (t:TA):TE:=λσ H Q=>to σ H λx H1=>tyV K T x H1/\t σ H1 λxs H2=>r x xs H2 Q
variable {o e:Expr} {es:List Expr} {to:TE} {t:TA} {name:Str} {apos cpos:Pos} {T id:String} {r:V->List V->Hp->VK->Prop}
theorem kA (pa:PlainAttrs T) (slot:Slot T name id) (hty:typeOf (.builtin id)=pure (.type "method_descriptor")) (hm:MtR X id r) (ho:PE X o to) (ha:PA X (e :: es) t)
   (hbase:attributeBase o name X.env (eval o X.env)=eval o X.env:=by rfl)
   (hfew:((backTo cpos (starEach (e :: es) X.env)).all (λx=>!x.1) && (backToKw cpos (keywordEach [] X.env)).all (λx=>x.1.isSome)
     && decide ((e :: es).length + ([]:List Keyword).length + (if ([]:List Keyword).isEmpty then 0 else 1) < 30))=true:=by rfl)
   (hline:(apos.endLine == cpos.line)=true:=by rfl) (hs:starEach (e :: es) X.env=(false,eval e X.env) :: starEach es X.env:=by rfl) (hplain:(backTo cpos (starEach es X.env)).any (·.1)=false:=by rfl) :
   PE X (.Call (.Attribute o name apos) (e :: es) [] cpos) (tBM X.K T r to t):=by
 intro pins s σ H Q I h
 refine wpAny_Call_method_late hbase hfew hline rfl (thn (ho pins s σ H _ I h) λv s1 ⟨x,H1,I1,r1,ty,q1⟩=>?_)
 obtain ⟨h1,h2⟩:=zN I1 r1 ty
 refine ⟨T,id,pa,slot,hty,h1,h2,?_⟩
 have hA:=ha cpos pins s1 σ H1 _ I1 q1
 rw [hs] at hA ⊢
 refine Calls.callWith_builtin (by show (false || (backTo cpos (starEach es X.env)).any (·.1))=false; rw [hplain] <;> rfl) (Calls.evalArgs_plain ?_)
 exact thn hA λus s2 ⟨vs,H2,I2,r2,q2⟩=>hm pins s2 σ H2 x vs v us Q I2 r1 r2 q2
end
noncomputable def MtM (X:Cx) (id:String) (r:V->List V->Hp->VK->Prop):Prop:=
 ∀ (pins:List (Addr × Obj)) (s:Shared) (σ:St) (H:Hp) (x:V) (xs:List V) (v:Value) (us:List Value) (Q:VK),Inv X pins σ H s->RelV x v->Vals xs us->r x xs H Q ->
   wpAny (model X.prog X.w) X.A (call (.builtin id) (v :: us)) (EP X pins σ Q) X.xe s
theorem Vals.one:∀ {x:V} {us:List Value},Vals [x] us->∃ u,us=[u]/\RelV x u
 | _,_,.cons r .nil=>⟨_,rfl,r⟩
theorem Vals.two:∀ {x y:V} {us:List Value},Vals [x,y] us->∃ u v,us=[u,v]/\RelV x u/\RelV y v
 | _,_,_,.cons r (.cons q .nil)=>⟨_,_,rfl,r,q⟩
theorem Vals.eraseIdx:∀ {xs:List V} {us:List Value} (i:Nat),Vals xs us->Vals (xs.eraseIdx i) (us.eraseIdx i)
 | _,_,_,.nil=>.nil
 | _,_,0,.cons _ t=>t
 | _,_,i + 1,.cons r t=>.cons r (Vals.eraseIdx i t)
theorem Vals.rep {xs:List V} {us:List Value} (h:Vals xs us):∀ k:Nat,Vals (List.replicate k xs).flatten (List.replicate k us).flatten
 | 0=>.nil
 | k + 1=>by
   rw [List.replicate_succ,List.replicate_succ,List.flatten_cons,List.flatten_cons]
   exact Vals.append h (Vals.rep h k)
theorem k5 {α:Type}:∀ (l:List α) (i:Nat),(l.eraseIdx i).length<=l.length
 | [],_=>Nat.le_refl _
 | _ :: _,0=>Nat.le_succ _
 | _ :: r,i + 1=>Nat.succ_le_succ (k5 r i)
theorem foldl_rep (its:List Value):∀ (k:Nat) (acc:List Value),
   List.foldl (λx1 x2=>x1++x2) acc.toArray (List.replicate k its.toArray)=(acc++(List.replicate k its).flatten).toArray
 | 0,acc=>by simp
 | k + 1,acc=>by
   have e:acc.toArray++its.toArray=(acc++its).toArray:=by simp
   have e2:(acc++its)++(List.replicate k its).flatten=acc++(List.replicate (k + 1) its).flatten:=by
     rw [List.replicate_succ,List.flatten_cons,List.append_assoc]
   rw [<- e2,<- foldl_rep its k (acc++its),<- e,List.replicate_succ,List.foldl_cons]
section
variable {X:Cx} {pins:List (Addr × Obj)} {σ:St} {H:Hp} {s:Shared} {l b:Addr} {xs ys zs:List V}
theorem Inv.xn {its its':List Value} {n:Nat} {f:Array Value->Array Value} {t':Nat} (I:Inv X pins σ H s) (hH:H l=some (.lst xs))
   (e:s.heap.get? l=some { cls:=.type "list",data:=.seq its.toArray n }) (hf:f its.toArray=its'.toArray) (hv:Vals ys its') (hz:ys.length<=sizeLine) :
   Inv X pins σ (upd H l (.lst ys)) { s with heap:=s.heap.update l (Obj.mapSeq f),toks:=t' }:=by
 have q:=PySem.IsL.update e f
 rw [hf] at q
 refine I.write (x:=l) (e:=l) (by rw [hH]; exact trivial) (.inl rfl) (λb' u hb hu=>(Heap.get?_update_other s.heap (Obj.mapSeq f) (Ne.symm hb)).trans hu) ⟨_,q⟩ ?_
 exact ⟨hz,its',_,hv,q⟩
theorem Inv.B9 {its:List Value} {t':Nat} (I:Inv X pins σ H s) (hv:Vals ys its) (hz:ys.length<=sizeLine) :
   Inv X pins σ (upd H s.heap.objs.size (.lst ys)) { s with heap:=s.heap.push { cls:=.type "list",data:=.seq its.toArray },toks:=t' }:=
 I.laid (λ_ _ q=>Heap.get?_push_of_some _ q) (Nat.le_refl _) ⟨hz,its,0,hv,Heap.get?_push_size _ rfl⟩
theorem Inv.fresh (I:Inv X pins σ H s):H s.heap.objs.size=none:=I.hok.fresh (Nat.le_refl _)
theorem Inv.ua (I:Inv X pins σ H s) (hH:H l=some (.lst xs)):xs.length<=sizeLine/\∃ (its:List Value) (n:Nat),Vals xs its/\xs.length=its.length/\s.heap.get? l=some { cls:=.type "list",data:=.seq its.toArray n }:=by
 obtain ⟨z,its,n,r,e⟩:=I.hok l _ hH
 exact ⟨z,its,n,r,r.length,e⟩
theorem mI {n:Nat} (h:n<=sizeLine):Builtin.List.listTooLong n=false:=by
 unfold Builtin.List.listTooLong
 exact decide_eq_false (by omega)
end
section
variable {X:Cx}
noncomputable def vX:V->List V->Hp->VK->Prop:=λx vs H Q=>∃ l xs y,x=.ref l/\vs=[y]/\H l=some (.lst xs)/\xs.length < sizeLine/\Q .non (upd H l (.lst (xs++[y])))
theorem dF:MtM X "list.append" vX:=by
 intro pins s σ H x vs v us Q I rx rv h
 obtain ⟨l,xs,y,rfl,rfl,hH,hz,q⟩:=h
 cases rx
 obtain ⟨u,rfl,ru⟩:=rv.one
 obtain ⟨z,its,n,r,hl,e⟩:=I.ua hH
 refine call_meets F.slot_list_append ⟨_,e,rfl⟩ F.entry_list_append (F.args_list_append_2 _ _) (PySem.list_append l its.toArray n u (by rw [List.size_toArray]; omega)) ⟨e,?_⟩
 refine ⟨.non,_,I.xn (its':=its++[u]) hH e (by simp) (r.append (.cons ru .nil)) ?_,rfl,q⟩
 rw [List.length_append,List.length_singleton]
 omega
noncomputable def xf:V->List V->Hp->VK->Prop:=λx vs H Q=>∃ l b xs zs,x=.ref l/\vs=[.ref b]/\H l=some (.lst xs)/\H b=some (.lst zs)/\xs.length + zs.length<=sizeLine/\Q .non (upd H l (.lst (xs++zs)))
theorem rG:MtM X "list.extend" xf:=by
 intro pins s σ H x vs v us Q I rx rv h
 obtain ⟨l,b,xs,zs,rfl,rfl,hH,hB,hz,q⟩:=h
 cases rx
 obtain ⟨u,rfl,ru⟩:=rv.one
 cases ru
 obtain ⟨z,its,n,r,hl,e⟩:=I.ua hH
 obtain ⟨z2,its2,n2,r2,hl2,e2⟩:=I.ua hB
 have hsz:its.toArray.size + its2.toArray.size<=sizeLine:=by rw [List.size_toArray,List.size_toArray]; omega
 have hlong:¬ (!its.toArray.isEmpty && Builtin.List.listTooLong (its.toArray.size + its2.toArray.size))=true:=by
   rw [mI hsz,Bool.and_false]
   exact Bool.false_ne_true
 refine call_meets F.slot_list_extend ⟨_,e,rfl⟩ F.entry_list_extend (F.args_list_extend_2 _ _)
   (AutoSeq1.list_extend_list_list_0 l its.toArray n b its2.toArray n2 hlong (by rw [List.size_toArray]; omega) (by omega)) ⟨e,e2,?_⟩
 refine ⟨.non,_,I.xn (its':=its++its2) hH e (by simp) (r.append r2) ?_,rfl,q⟩
 rw [List.length_append]
 omega
noncomputable def zP:V->List V->Hp->VK->Prop:=λx vs H Q=>∃ l xs i k y,x=.ref l/\vs=[.int i]/\H l=some (.lst xs)/\-(2 ^ 63)<=i/\i < 2 ^ 63/\seqIndex? i xs.length=some k/\xs[k]?=some y/\Q y (upd H l (.lst (xs.eraseIdx k)))
theorem uU:MtM X "list.pop" zP:=by
 intro pins s σ H x vs v us Q I rx rv h
 obtain ⟨l,xs,i,k,y,rfl,rfl,hH,h1,h2,hk,hy,q⟩:=h
 cases rx
 obtain ⟨u,rfl,ru⟩:=rv.one
 obtain ⟨t,rfl⟩:=ru
 obtain ⟨z,its,n,r,hl,e⟩:=I.ua hH
 obtain ⟨w,hw,rw'⟩:=r.get hy
 refine call_meets F.slot_list_pop ⟨_,e,rfl⟩ F.entry_list_pop (F.args_list_pop_2 _ _)
   (MeetsSeq.list_pop_at l its.toArray n i t k w (fitsIndex_both h1 h2) (by rw [List.size_toArray,<- hl]; exact hk) (by rw [<- Array.getElem?_toList]; exact hw) (by rw [List.size_toArray]; omega)) ⟨e,?_⟩
 refine ⟨y,_,I.xn (its':=its.eraseIdx k) hH e ?_ (r.eraseIdx k) ?_,rw',q⟩
 · show its.toArray.eraseIdxIfInBounds k=(its.eraseIdx k).toArray
   rw [List.eraseIdxIfInBounds_toArray]
 · have:=k5 xs k
   omega
theorem len_rep {α:Type} (xs:List α) (k:Nat):(List.replicate k xs).flatten.length=k * xs.length:=by
 induction k with
 | zero=>simp
 | succ k ih=>rw [List.replicate_succ,List.flatten_cons,List.length_append,ih,Nat.succ_mul,Nat.add_comm]
end
section
variable {prog:Program} {w:World} {A:Around} {E:Value->Shared->Prop} {s:Shared}
end
section
variable {X:Cx}
end
end L2
namespace Att
open PySem PySem.W PySem.Calls PyProof.Rows
theorem iO {P:Params} {h:Heap}:∀ (ns:List Int) (vs:List Value),WellAll P h vs (ns.map WData.int)->IntsAre vs ns:=by
 intro ns
 induction ns with
 | nil=>
   intro vs w
   rw [List.map_nil] at w
   cases w
   exact .nil
 | cons n ns ih=>
   intro vs w
   rw [List.map_cons] at w
   cases w with
   | cons a b=>
     cases a
     exact .cons _ _ (ih _ b)
theorem rX {l:OpenLaw} {n:Nat} (hn:l.most=some n) {P:Params} {h:Heap} {args:List WData} {vals:List Value}
   (hpre:l.row.toRowW.claim.pre args=true) (hwl:WellAll P h vals args) :
   ∃ a vs ns,vals=[Value.ref a]/\args=[WData.list (ns.map WData.int)]/\h.get? a=some { cls:=.type "list",data:=.seq vs.toArray }/\IntsAre vs ns/\ns.length<=n:=by
 have hsh:WShape.hasAll [] args [.list .int]=true:=(pre_splitW hpre).1
 have hc:l.pre.holds [] { args:=args }=true:=(pre_splitW hpre).2
 obtain ⟨d,r,rfl,h1,h2⟩:=hasAllW_cons hsh
 obtain rfl:=hasAllW_nil h2
 obtain ⟨xs,rfl,h3⟩:=hasW_list h1
 obtain ⟨ns,rfl⟩:=items_int h3
 have hlen:ns.length<=n:=by
   unfold OpenLaw.pre at hc
   have h4:(WTm.not (.lt (.lit (.int (n:Int))) (.len (.arg 0)))).holds [] { args:=[.list (ns.map .int)] }=true:=by
     have h4:=(holds_andW hc).1
     rw [hn] at h4
     exact h4
   have h5:=condW_of h4 (w_not (w_lt w_lit (w_len_list (w_arg rfl))))
   rw [List.length_map] at h5
   refine Nat.le_of_not_lt λq=>?_
   have q':(n:Int) < ((ns.length:Nat):Int):=by omega
   first
     | (rw [decide_eq_true q'] at h5; exact absurd h5 (by decide))
     | (simp at h5; omega)
 cases hwl with
 | cons w1 w2=>
   cases w2
   cases w1 with
   | list ho hall=>exact ⟨_,_,ns,rfl,rfl,ho,iO ns _ hall,hlen⟩
theorem rQ (l:OpenLaw) (args:List WData):l.row.toRowW.claim.post args (.bool true) args=true:=
 postW_of (r:=l.row.toRowW) (X:=(true == true))
   (show WShape.has [] (.bool true) .bool=true by first | rfl | decide | simp [WShape.has,WShape.arms,WShape.armsAll])
   (show (WTm.eq .res (.lit (.bool true))).value [] { args:=args,res:=some (.bool true),after:=args }=some (.bool (true == true)) from w_eq_bool (w_res rfl) w_lit) rfl
theorem nq {l:OpenLaw} {n:Nat} {q:Program} {loose:List Str} {XP:(Str->Option Value)->Heap->Prop} {YP:World->Heap->Prop} {d:DefRec}
   (hn:l.most=some n) (hdf:d.params.defaults=[])
   (call:∀ (w:World) (s₀ s₁:Shared) (mg mb:Str->Option Value) (fa:Addr) (o:Obj) (pm cd doc:Value) (a:Addr) (vs:List Value) (ns:List Int),
     Ground q loose [] XP w s₀ mg mb s₁.heap->YP w s₁.heap ->
     s₁.heap.get? fa=some o->o.data=.func (docDef d.name d.params d.body d.scope pm cd doc)->s₁.heap.CodeRec cd d.name->mg d.name=some (.ref fa) ->
     s₁.heap.get? a=some { cls:=.type "list",data:=.seq vs.toArray }->IntsAre vs ns->ns.length<=n->s₁.gens=#[] ->
     codeAny (model l.prog w) callerA (.call (.ref fa) ⟨[.ref a],[]⟩) (λr s'=>r=.ok (.ret (.bool true))/\OldK s₁.heap s'.heap/\s'.os=s₁.os/\AllBare s'.gens) s₁) :
   WalkO q loose XP YP l.row.toRowW d [] (λf vs=>PySem.call f vs):=by
 intro w s₀ s₁ mg mb G Y fa o pm cd doc dV kV ho hd hcd hD hmg hg args vals as hpre hlay hrd hwl hlo
 obtain rfl:dV=.none:=Dflts.none hD hdf
 obtain rfl:kV=.none:=Dflts.noKw hD
 obtain ⟨a,vs,ns,rfl,rfl,hobj,hints,hlen⟩:=rX hn hpre hwl
 refine enter_call (codeAny_mono (call w s₀ s₁ mg mb fa o pm cd doc a vs ns G Y ho (fd_plain hd) hcd hmg hobj hints hlen hg) λr s' hq=>?_)
 obtain ⟨rfl,h2,h3,h4⟩:=hq
 exact ⟨.inl ⟨.bool true,.bool true,[],rfl,λ_=>rfl,.bool true,rQ l _,λ_=>⟨List.Pairwise.nil,λ_ hm=>(nomatch hm)⟩⟩,h2,h3,h4⟩
section
variable {prog:Program} {w:World} {A:Around} {E:Value->Shared->Prop} {s:Shared} {K:Frag}
end
end Att
namespace L2
open PySem PySem.Spec PyProof.Rows
theorem kK:∀ {vs:List Value} {ns:List Int},IntsAre vs ns->Vals (ns.map V.int) vs
 | _,_,.nil=>.nil
 | _,_,.cons n t h=>.cons ⟨t,rfl⟩ (kK h)
noncomputable def zp (H:Hp):Prop:=∀ b,H b=none\/∃ o xs,H b=some (.frz o (.lst xs))
theorem u5 {P:Program} {w:World} {K:PySem.W.Frag} {mg mb:Str->Option Value} {CX:CXT} {k:Nat} {fa a:Addr} {fd:FuncData} {x:Str} {sp:Sp} {s₁:Shared} {vs:List Value} {ns:List Int}
   (KX:K.In s₁.heap) (hns:s₁.heap.Ns mainGlobals mg) (hb:s₁.heap.Ns builtinsNs mb) (hbb:∀ x:Str,x ≠ "__name__" -> mb x=bootBuiltins x) (hlim:s₁.heap.NoLimit) (hg:s₁.gens=#[])
   (ha:s₁.heap.get? a=some { cls:=.type "list",data:=.seq vs.toArray }) (hi:IntsAre vs ns) (hl:ns.length<=sizeLine) (hr:eJ k callerA)
   (F:∀ base:Heap,K.In base->base.Ns mainGlobals mg->aS P w K mg base CX k fa fd [x] sp) (hbind:∀ (s:Shared) (u:Value),BindsTo s fd ⟨[u],[]⟩ [(x,u)])
   (hsp:∀ H:Hp,zp H->SqL K H a (ns.map V.int)->sp [.ref a] H (λv _=>v=.bl true) λ_ _ _=>False)
   (hCX:∀ H e s',CX [] H s₁ (λ_ _ _=>False) e s'->False) :
   codeAny (model P w) callerA (.call (.ref fa) ⟨[.ref a],[]⟩) (λr s'=>r=.ok (.ret (.bool true))/\OldK s₁.heap s'.heap/\s'.os=s₁.os/\AllBare s'.gens) s₁:=by
 have rv:=kK hi
 have lenV:=hi.length
 have core:∀ H:Hp,zp H->SqL K H a (ns.map V.int)->HOk P w H s₁.heap->(∀ b,H b ≠ none->b=a)->(H a ≠ none->K.lookup a=none) ->
     codeAny (model P w) callerA (.call (.ref fa) ⟨[.ref a],[]⟩) (λr s'=>r=.ok (.ret (.bool true))/\OldK s₁.heap s'.heap/\s'.os=s₁.os/\AllBare s'.gens) s₁:=by
   intro H hO hS hok hA hK
   have base_of:∀ {b:Addr} {o:Obj},s₁.heap.get? b=some o->H b=none->(lB s₁.heap H).get? b=some o:=λe n=>t8 e n
   have noA:∀ {b:Addr} {o:Obj} {es:Array DictEntry} {ep:Nat},s₁.heap.get? b=some o->o.data=.dict es ep->H b=none:=λ{b o es ep} e d=>by
     cases q:H b with
     | none=>rfl
     | some u=>
       have e':b=a:=hA b (by rw [q]; simp)
       subst e'
       rw [ha] at e; cases e
       have d':Data.seq vs.toArray _=Data.dict es ep:=d
       cases d'
   have nsK:∀ {b:Addr} {m:Str->Option Value},s₁.heap.Ns b m->(lB s₁.heap H).Ns b m:=λ{b m} ⟨o,es,ep,e,d,r⟩=>⟨o,es,ep,base_of e (noA e d),d,r⟩
   have hKb:K.In (lB s₁.heap H):=λb o e=>base_of (KX b o e) (by
     cases q:H b with
     | none=>rfl
     | some u=>
       have e':b=a:=hA b (by rw [q]; simp)
       subst e'
       rw [hK (by rw [q]; simp)] at e; cases e)
   have hM:Mod K mg (lB s₁.heap H):=⟨hKb,nsK hns,⟨mb,nsK hb,hbb⟩,let ⟨mc,h1,h2⟩:=hlim; ⟨mc,nsK h1,h2⟩⟩
   have e0:vO P w K mg (lB s₁.heap H) callerA [] s₁ H:=⟨rfl,hM,λb o e=>vq e,Nat.le_of_eq (rY _ _),trivial,λb hb=>absurd (show b ∈ ([]:List Addr) from hb) (by simp),hok,.of_eq hg⟩
   refine codeAny_mono ((F _ hKb (nsK hns)).run callerA [] s₁ H ⟨[.ref a],[]⟩ [.ref a] [.ref a] _ _ hr e0 (hbind s₁ (.ref a)) (.cons rfl .nil) (hsp H hO hS)) λr s' h=>?_
   cases r with
   | error e=>exact (hCX H e s' h).elim
   | ok fl=>
     cases fl with
     | next=>exact False.elim h
     | brk=>exact False.elim h
     | cont=>exact False.elim h
     | ret u=>
       obtain ⟨v,H',os,bare,un,hok',r',q⟩:=h
       have q':v=.bl true:=q
       subst q'
       obtain rfl:u=Value.bool true:=r'
       refine ⟨rfl,OldK.of_keep λb o e=>?_,os,bare⟩
       cases q:H b with
       | none=>exact un.keep b o e q (by intro z; exact absurd (show b ∈ ([]:List Addr) from z) (by simp)) (by simp)
       | some u=>
         rcases hO b with z | ⟨ob,xs,z⟩
         · rw [q] at z; cases z
         · have z2:=un.frzs b ob _ z
           obtain ⟨e1,_⟩:=hok b _ z
           obtain ⟨e2,_⟩:=hok' b _ z2
           rw [e] at e1; cases e1
           exact e2
 cases hk:K.lookup a with
 | some o=>
   have e:=KX a o hk
   rw [ha] at e
   cases e
   refine core (λ_=>none) (λ_=>.inl rfl) (.inr ⟨_,vs.toArray,_,hk,rfl,rfl,rfl,by rw [List.size_toArray,lenV]; exact hl,by simpa using rv⟩) (λb u z=>by have z':(none:Option HO)=some u:=z; cases z') (λb z=>absurd rfl z) λz=>absurd rfl z
 | none=>
   refine core (λb=>if b=a then some (.frz { cls:=.type "list",data:=.seq vs.toArray } (.lst (ns.map V.int))) else none) (λb=>?_) (.inl (.inr ⟨{ cls:=.type "list",data:=.seq vs.toArray },if_pos rfl⟩)) (λb u z=>?_) (λb z=>?_) λ_=>hk
   · by_cases hb:b=a
     · exact .inr ⟨_,_,if_pos hb⟩
     · exact .inl (if_neg hb)
   · by_cases hb:b=a
     · have z':=(if_pos hb).symm.trans z
       cases z'
       subst hb
       exact ⟨ha,by rw [List.length_map]; exact hl,vs,_,rv,ha⟩
     · have z':=(if_neg hb).symm.trans z
       cases z'
   · by_cases hb:b=a
     · exact hb
     · exact absurd (if_neg hb) z
theorem wC {l:PySem.W.OpenLaw} {n k:Nat} {q:Program} {loose:List Str} {XP:(Str->Option Value)->Heap->Prop} {YP:World->Heap->Prop} {d:DefRec} {K:Params->PySem.W.Frag} {CX:World->CXT} {sp:World->Sp} {x:Str}
   (hn:l.most=some n) (hn2:n<=sizeLine) (hdf:d.params.defaults=[]) (hr:eJ k callerA)
   (hY:∀ (w:World) (h:Heap),YP w h->(K w.params).In h)
   (F:∀ (w:World) (mg:Str->Option Value) (fa:Addr) (h:Heap),(K w.params).In h->h.Ns mainGlobals mg->mg d.name=some (.ref fa) ->
     ∃ fd:FuncData,(∀ (s:Shared) (u:Value),BindsTo s fd ⟨[u],[]⟩ [(x,u)]) /\
       ∀ base:Heap,(K w.params).In base->base.Ns mainGlobals mg->aS l.prog w (K w.params) mg base (CX w) k fa fd [x] (sp w))
   (hsp:∀ (w:World) (H:Hp) (a:Addr) (ns:List Int),ns.length<=n->zp H->SqL (K w.params) H a (ns.map V.int)->sp w [.ref a] H (λv _=>v=.bl true) λ_ _ _=>False)
   (hCX:∀ (w:World) (H:Hp) (s:Shared) (e:Value) (s':Shared),CX w [] H s (λ_ _ _=>False) e s'->False) :
   PySem.W.WalkO q loose XP YP l.row.toRowW d [] (λf vs=>PySem.call f vs):=by
 refine Att.nq hn hdf λw s₀ s₁ mg mb fa o pm cd doc a vs ns G Y ho hd hcd hmg hobj hints hlen hg=>?_
 have KX:=hY w _ Y
 obtain ⟨fd,hb,hF⟩:=F w mg fa _ KX G.T.g hmg
 exact u5 KX G.T.g G.T.b G.T.builtins G.T.nolimit hg hobj hints (Nat.le_trans hlen hn2) hr hF hb (λH hO hS=>hsp w H a ns hlen hO hS) λH e s'=>hCX w H s₁ e s'
noncomputable def cg (s:Stmt):Arguments:=match s with
 | .FunctionDef _ a _ _ _ _ _ _ _ _=>a
 | _=>{ posonlyargs:=[],args:=[],vararg:=none,kwonlyargs:=[],kw_defaults:=[],kwarg:=none,defaults:=[] }
noncomputable def bO (s:Stmt):List Stmt:=match s with
 | .FunctionDef _ _ b _ _ _ _ _ _ _=>b
 | _=>[]
noncomputable def ai (s:Stmt):Scope:=match s with
 | .FunctionDef _ _ _ _ _ _ sc _ _ _=>sc
 | _=>{ kind:=.function,names:=[],isGenerator:=false,isCoroutine:=false }
noncomputable abbrev CX0:CXT:=λ_ _ _ _ _ _=>False
noncomputable abbrev E0:XK:=λ_ _ _=>False
theorem Br {X:Cx}:Passes CX0 X E0:=λ_ _ _ _ _ _ _ h=>h.elim
structure Fun (K:PySem.W.Frag) (x qual:Str) (st:Stmt) (f:Addr) (fd:FuncData):Prop where
 ex:∃ (oc:Value) (od:Option Addr) (dV kV doc pm:Value) (an:Option Addr) (cdv ct:Value) (osl:Array (Option Value)),
   fd=PySem.W.fnOf x qual (cg st) (bO st) (ai st) dV kV doc pm an cdv ct/\K.lookup f=some ⟨oc,od,.func fd,osl⟩/\PySem.W.codeIn K cdv qual=true
 kp:PySem.W.keepIn K (.ref f)=true
section
variable {P:Program} {w:World} {K:PySem.W.Frag} {mg:Str->Option Value} {base:Heap}
theorem Fun.ok {x qual:Str} {st:Stmt} {f:Addr} {fd:FuncData} {N ps:List Str} {k:Nat} {sp:Sp} (F:Fun K x qual st f fd) (S:az N ps (ai st)) (len:∀ vs H Q E,sp vs H Q E->vs.length=ps.length)
   (hbody:∀ (cdv:Value) (A:Around) (outer:List Env) (s:Shared) (H:Hp) (vs:List V) (Q:VK) (E:XK),eJ k (A.deeper (envOfC qual (ai st) s.heap.objs.size f cdv))->sp vs H Q E ->
     ∃ t,PSs (oR CX0 P w K mg base N qual (ai st) f cdv A outer s H E).nox (bO st) t/\t { nx:=λ_ H'=>Q .non H',rt:=Q } (start N vs) H):aS P w K mg base CX0 (k + 1) f fd ps sp:=by
 obtain ⟨oc,od,dV,kV,doc,pm,an,cdv,ct,osl,rfl,lk,hcd⟩:=F.ex
 refine Aw lk hcd S len λA outer s H vs Q E hr hsp=>?_
 obtain ⟨t,h,q⟩:=hbody cdv A outer s H vs Q E hr hsp
 exact ⟨t,h.nox,q⟩
theorem Fun.binds {x qual:Str} {st:Stmt} {f:Addr} {fd:FuncData} {ps:List Str} (_:Fun K x qual st f fd) (h:∀ us:List Value,us.length=ps.length->bindArgs fd ⟨us,[]⟩=pure (ps.zip us)):Binds K fd ps []:=.all h
theorem oG {x qual:Str} {st:Stmt} {f:Addr} {oc:Value} {od an:Option Addr} {osl:Array (Option Value)} {dV kV doc pm cdv ct:Value} (l:K.lookup f=some ⟨oc,od,.func (PySem.W.fnOf x qual (cg st) (bO st) (ai st) dV kV doc pm an cdv ct),osl⟩)
   (c:PySem.W.codeIn K cdv qual=true) (k:PySem.W.keepIn K (.ref f)=true):Fun K x qual st f (PySem.W.fnOf x qual (cg st) (bO st) (ai st) dV kV doc pm an cdv ct):=⟨⟨oc,od,dV,kV,doc,pm,an,cdv,ct,osl,rfl,l,c⟩,k⟩
end
theorem kU {n:Nat} (h:n<=1000):n < sizeLine:=Nat.lt_of_le_of_lt h (by decide)
section
variable {X:Cx}
theorem pv (i:Nat) {x:Str} {pos:Pos} (hN:X.N[i]?=some x:=by rfl) (hv:Vis X.env.scope x:=by first | exact Or.inl rfl | exact Or.inr (Or.inl rfl) | exact Or.inr (Or.inr rfl)) (hd:(x == ("__debug__" : Str))=false:=by decide)
   (hcd:(x == ("__classdict__" : Str))=false:=by decide):PE X (.Name x pos) (Ad i):=bH hN hv hd hcd
end
theorem sA {A B:Prop} (h:B):if false=true then A else B:=by
 rw [if_neg Bool.false_ne_true]
 exact h
theorem rN {A B:Prop} (h:A):if true=true then A else B:=by
 rw [if_pos rfl]
 exact h
noncomputable def ah (H H':Hp):Prop:=∀ b o,H b=some o->H' b=some o
theorem ah.refl (H:Hp):ah H H:=λ_ _ h=>h
theorem ah.trans {H H1 H2:Hp} (a:ah H H1) (b:ah H1 H2):ah H H2:=λc o h=>b c o (a c o h)
theorem ah.free {H H':Hp} (e:ah H H') {l:Addr} (h:H' l=Option.none):H l=Option.none:=by
 cases q:H l with
 | none=>rfl
 | some o=>
   rw [e l o q] at h
   cases h
theorem ah.seq {K:PySem.W.Frag} {H H':Hp} {a:Addr} {xs:List V} (e:ah H H') (h:SqL K H a xs):SqL K H' a xs:=by
 rcases h with (h | ⟨o,h⟩) | h
 · exact .inl (.inl (e _ _ h))
 · exact .inl (.inr ⟨o,e _ _ h⟩)
 · exact .inr h
end L2
set_option linter.all false
set_option maxRecDepth 100000
namespace Hx
open PySem PySem.Spec PyProof.Rows
section
variable {M:Model} {A:Around} {E:Value->Shared->Prop} {s:Shared}
end
end Hx
namespace Hx
open PySem PySem.Spec PySem.Calls PyProof.Rows PySem.W
section
variable {prog:Program} {w:World} {A:Around} {E:Value->Shared->Prop} {s:Shared} {K:Frag} {x D:Addr} {ox:Obj}
end
end Hx
namespace Hx
open PySem PySem.Spec PySem.Calls PyProof.Rows PySem.W L2
section
variable {X:Cx} {x:Str} {C S:Addr} {np cpos pos:Pos} {e:Expr} {es:List Expr} {t:TA}
end
section
variable {fs fs' ch:List Addr} {H H1:Hp} {h h1 h2:Heap} {old:Addr->Prop} {P:Program} {w:World} {a:Addr}
end
theorem there {P:Program} {w:World} {H:Hp} {h:Heap} {a:Addr} {o:HO} (x:bf P w H h a o):∃ u,h.get? a=some u:=by
 cases o with
 | lst xs=>obtain ⟨_,_,_,_,e⟩:=x; exact ⟨_,e⟩
 | tup xs=>obtain ⟨_,_,_,o,e,_⟩:=x; exact ⟨_,e⟩
 | dK kvs=>obtain ⟨_,_,_,_,o,_,_,e,_⟩:=x; exact ⟨_,e⟩
 | dT kvs=>obtain ⟨_,_,_,_,o,_,_,e,_⟩:=x; exact ⟨_,e⟩
 | set S n=>obtain ⟨o,_,_,_,e,_⟩:=x; exact ⟨_,e⟩
 | ins C dx fs=>obtain ⟨_,_,_,e,_⟩:=x; exact ⟨_,e⟩
 | own y=>exact x
 | xd fs=>obtain ⟨_,⟨o,_,_,e,_⟩,_⟩:=x; exact ⟨_,e⟩
 | met f y=>exact ⟨_,x⟩
 | rng lo hi=>obtain ⟨_,_,_,e⟩:=x; exact ⟨_,e⟩
 | frz o u=>exact ⟨_,x.1⟩
 | tbl ps=>exact ⟨_,x⟩
 | ext φ=>exact x.2.1
section
variable {P:Program} {w:World} {K:Frag} {mg:Str->Option Value} {base:Heap} {N:List Str} {qual:Str} {scope:Scope} {f:Addr} {cd:Value} {A:Around} {outer:List Env} {s0:Shared} {H0:Hp} {E:XK} {cl:Nat->Addr}
end
section
variable {X:Cx} {pins:List (Addr × Obj)} {σ:L2.St} {H:Hp} {s:Shared} {a:Addr}
noncomputable abbrev XP (X:Cx) (pins:List (Addr × Obj)) (E:Value->Shared->Prop):Cx:={ X with pn:=X.pn++pins,xe:=E }
end
section
variable {X:Cx} {cl:Nat->Addr} {ks:List Nat} {n sm:Str} {i:Nat} {S:Addr} {ret:Expr} {psm pr ph pos:Pos} {body:List Stmt} {tb:(Nat->Hp->Prop)->TS} {tr:Addr->Obj->TE}
end
end Hx
namespace Ev
open PySem PySem.Spec PyProof.Rows L2
structure Bx where
 p:PySem.W.Frag->Hp->Addr->Prop
 mono:∀ {K:PySem.W.Frag} {H H':Hp} {a:Addr},ah H H'->p K H a->p K H' a
 isd:∀ {K:PySem.W.Frag} {H:Hp} {a:Addr},p K H a->∃ o:HO,H a=some o/\∀ (P:Program) (w:World) (H':Hp) (h:Heap),bf P w H' h a o->∃ ob,h.get? a=some ob/\ob.cls=.type "dict"
inductive D where
 | non | bl (b:Bool) | int (i:Int) | str (x:Str) | tup (xs:List D) | lst (xs:List D) | box (x:Bx)
noncomputable instance:Inhabited D:=⟨.non⟩
mutual
inductive Den (K:PySem.W.Frag) (H:Hp):V->D->Prop where
 | non:Den K H .non .non
 | bl {b:Bool}:Den K H (.bl b) (.bl b)
 | int {i:Int}:Den K H (.int i) (.int i)
 | str {x:Str}:Den K H (.str x) (.str x)
 | tup {a:Addr} {vs:List V} {ds:List D} (h:SqT K H a vs) (r:au K H vs ds):Den K H (.ref a) (.tup ds)
 | lst {a:Addr} {vs:List V} {ds:List D} (h:SqL K H a vs) (r:au K H vs ds):Den K H (.ref a) (.lst ds)
 | box {a:Addr} {x:Bx} (h:x.p K H a):Den K H (.ref a) (.box x)
inductive au (K:PySem.W.Frag) (H:Hp):List V->List D->Prop where
 | nil:au K H [] []
 | cons {v:V} {d:D} {vs:List V} {ds:List D} (h:Den K H v d) (r:au K H vs ds):au K H (v :: vs) (d :: ds)
end
section
variable {K:PySem.W.Frag} {H H':Hp}
theorem aT (e:ah H H') {a:Addr} {xs:List V} (h:SqT K H a xs):SqT K H' a xs:=by
 rcases h with (h | ⟨o,h⟩) | h
 · exact .inl (.inl (e _ _ h))
 · exact .inl (.inr ⟨o,e _ _ h⟩)
 · exact .inr h
theorem aJ (e:ah H H') {a:Addr} {xs:List V} (h:SqL K H a xs):SqL K H' a xs:=e.seq h
mutual
theorem Den.mono (e:ah H H'):∀ {v:V} {d:D},Den K H v d->Den K H' v d
 | _,_,.non=>.non
 | _,_,.bl=>.bl
 | _,_,.int=>.int
 | _,_,.str=>.str
 | _,_,.tup h r=>.tup (aT e h) (au.mono e r)
 | _,_,.lst h r=>.lst (aJ e h) (au.mono e r)
 | _,_,.box (x:=x) h=>.box (x.mono e h)
theorem au.mono (e:ah H H'):∀ {vs:List V} {ds:List D},au K H vs ds->au K H' vs ds
 | _,_,.nil=>.nil
 | _,_,.cons h r=>.cons (Den.mono e h) (au.mono e r)
end
theorem au.length:∀ {vs:List V} {ds:List D},au K H vs ds->vs.length=ds.length
 | _,_,.nil=>rfl
 | _,_,.cons _ r=>congrArg (· + 1) r.length
theorem au.get:∀ {vs:List V} {ds:List D} {i:Nat} {d:D},au K H vs ds->ds[i]?=some d->∃ v,vs[i]?=some v/\Den K H v d
 | _,_,_,_,.nil,e=>by simp at e
 | _,_,0,_,.cons h _,e=>by simp at e; subst e; exact ⟨_,rfl,h⟩
 | _,_,i + 1,d,.cons _ r,e=>by
   obtain ⟨v,h1,h2⟩:=au.get (i:=i) (d:=d) r (by simpa using e)
   exact ⟨v,by simpa using h1,h2⟩
theorem au.append:∀ {xs ys:List V} {ds es:List D},au K H xs ds->au K H ys es->au K H (xs++ys) (ds++es)
 | _,_,_,_,.nil,s=>s
 | _,_,_,_,.cons h r,s=>.cons h (au.append r s)
theorem au.take:∀ {xs:List V} {ds:List D} (n:Nat),au K H xs ds->au K H (xs.take n) (ds.take n)
 | _,_,0,_=>.nil
 | _,_,_ + 1,.nil=>.nil
 | _,_,n + 1,.cons h r=>.cons h (au.take n r)
theorem au.drop:∀ {xs:List V} {ds:List D} (n:Nat),au K H xs ds->au K H (xs.drop n) (ds.drop n)
 | _,_,0,r=>r
 | _,_,_ + 1,.nil=>.nil
 | _,_,n + 1,.cons _ r=>au.drop n r
end
noncomputable def aE (i j:Int):Prop:=i.natAbs.log2 < 64\/j.natAbs.log2 < 64\/(i.natAbs.log2 < 1000000/\j.natAbs.log2 < 1000000)
noncomputable def aD (j:Int):Prop:=j ≠ 0/\j.natAbs.log2 < 9000
theorem aj {H:Hp} {p:Addr} (h:H p=none) (o:HO):ah H (upd H p o):=λb u q=>by rw [aw (aN q h)]; exact q
noncomputable def Ite (K:PySem.W.Frag) (a:Addr):L2.It:=
 ⟨λi H=>∃ xs x,SqL K H a xs/\xs[i]?=some x,λi H v H'=>∃ p x,H p=none/\v=.ref p/\H'=upd H p (.tup [.int (i:Nat),x])/\∀ xs,SqL K H a xs->xs[i]?=some x,λi H=>∃ xs,SqL K H a xs/\xs.length<=i⟩
theorem rS {P:Program} {w:World} {K:PySem.W.Frag} {ts:List Expr} {q:Nat} {tp:Pos} (a e it:Addr) (hne:e ≠ it) :
   Turn P w K false (.Tuple ts q tp) (Ite K a) [e,it] e (λi h=>(∃ old,IsEnum h e it (i:Nat) old)/\h.IsListIter it a i) where
 mem:=by simp
 obj:=λi h st b hb=>by
   obtain ⟨⟨old,h1⟩,o,h2,h3,h4⟩:=st
   rcases List.mem_cons.mp hb with rfl | hb
   · exact ⟨_,h1,λv z=>nomatch z⟩
   · have z:b=it:=by simpa using hb
     subst z
     exact ⟨o,h2,λv z=>by rw [h4] at z; cases z⟩
 keep:=λi h h' st k=>by
   obtain ⟨⟨old,h1⟩,o,h2,h3,h4⟩:=st
   exact ⟨⟨old,k e (by simp) _ h1⟩,o,k it (by simp) o h2,h3,h4⟩
 item:=by
   intro X hP hw hK hc i pins s σ H E I hf st hg
   subst hP hw hK
   obtain ⟨xs,x,hq,hx⟩:=hg
   obtain ⟨its,rv,p,hz⟩:=I.list hq
   obtain ⟨u,hu,ru⟩:=rv.get hx
   obtain ⟨⟨old,h1⟩,h2⟩:=st
   have fe:=hf e (by simp)
   have fi:=hf it (by simp)
   refine wpAny_pyNext_enum_item h1 h2 p.isList (x:=u) (by simpa using hu) hne λh' g1 g2 g3 g4 g5=>⟨_,rfl,?_⟩
   refine wpAny_letOwnedTupleGo_enum (s:={ s with heap:=h',toks:=s.toks + 1 }) g1 λh2' k1 k2=>?_
   have hn:H s.heap.objs.size=none:=I.hok.fresh (Nat.le_refl _)
   have le1:e < s.heap.objs.size:=Heap.lt_size h1
   have le2:it < s.heap.objs.size:=by obtain ⟨o,z,_⟩:=h2; exact Heap.lt_size z
   have kp:∀ b o,b ≠ e->b ≠ it->s.heap.get? b=some o->h2'.get? b=some o:=λb o b1 b2 z=>(k2.2 b b1).trans (g5 b o b1 b2 z)
   have nt:h2'.get? s.heap.objs.size=some { cls:=.type "tuple",data:=.seq #[.int (i:Nat) s.toks,u] }:=(k2.2 _ (Nat.ne_of_gt le1)).trans g3
   have ne1:∀ b v,H b=some v->b ≠ e:=λb v z q=>by rw [q,fe.1] at z; cases z
   have ne2:∀ b v,H b=some v->b ≠ it:=λb v z q=>by rw [q,fi.1] at z; cases z
   have hok0:HOk X.prog X.w H h2':=λb v z=>(I.hok b v z).jh (λc v' hc' q=>kp c v' (by
       rcases hc' with hc' | hc'
       · rw [hc']; exact ne1 b v z
       · exact ne1 c _ hc') (by
       rcases hc' with hc' | hc'
       · rw [hc']; exact ne2 b v z
       · exact ne2 c _ hc') q) (λ_ q=>q) λ_ _ q=>q
   have hok1:HOk X.prog X.w (upd H s.heap.objs.size (.tup [.int (i:Nat),x])) h2':=λb v z=>by
     by_cases hb:b=s.heap.objs.size
     · subst hb
       rw [aA] at z; cases z
       exact ⟨(by show 2<=sizeLine; decide),[.int (i:Nat) s.toks,u],.cons ⟨_,rfl⟩ (.cons ru .nil),_,nt,rfl,_,rfl⟩
     · rw [aw hb] at z
       exact (hok0 b v z).jh (λc v' _ q=>q) (λc q=>by rw [aw (aN q hn)]; exact q) λc ys q=>by rw [aw (aN q hn)]; exact q
   have I1:Inv X pins σ (upd H s.heap.objs.size (.tup [.int (i:Nat),x])) { s with heap:=h2',toks:=s.toks + 1 }:=by
     refine I.step (g':=s.gens) (d':=s.drawn) (ch:=[e,it]) (λb hb=>?_) (λb o _ _ hc' z _=>kp b o (λq=>hc' (by simp [q])) (λq=>hc' (by simp [q])) z)
       (λb o _ _ hc' z _=>⟨o.slots,kp b o (λq=>hc' (by simp [q])) (λq=>hc' (by simp [q])) z⟩)
       (λb o hc' z n=>by rw [aw (Nat.ne_of_lt (Heap.lt_size z))]; exact n) (λb o hc' z=>⟨o,kp b o (λq=>hc' (by simp [q])) (λq=>hc' (by simp [q])) z⟩)
       (λb ys z=>by rw [aw (aN z hn)]; exact z) (λb o u z=>by rw [aw (aN z hn)]; exact z) (λb ps z=>⟨#[],by rw [aw (aN z hn),z]; simp⟩) (λm hm=>?_) hok1 I.bare
     · rcases List.mem_cons.mp hb with rfl | hb
       · exact ⟨fe.2.2.2.1,fe.2.1,fe.2.2.2.2.1,fe.2.2.2.2.2⟩
       · have z:b=it:=by simpa using hb
         subst z
         exact ⟨fi.2.2.2.1,fi.2.1,fi.2.2.2.2.1,fi.2.2.2.2.2⟩
     · obtain ⟨o,es,ep,ho,r⟩:=hm
       exact ⟨o,es,ep,kp _ o (Ne.symm fe.2.1) (Ne.symm fi.2.1) ho,r⟩
   refine ⟨.ref s.heap.objs.size,_,I1,rfl,⟨s.heap.objs.size,x,hn,rfl,rfl,λys hy=>by rw [I.gM hy hq]; exact hx⟩,⟨⟨_,k1⟩,?_⟩,λb hb=>?_⟩
   · obtain ⟨o,z1,z2,z3⟩:=g2
     exact ⟨o,(k2.2 it (Ne.symm hne)).trans z1,z2,z3⟩
   · rcases List.mem_cons.mp hb with rfl | hb
     · rw [aw (Nat.ne_of_lt le1)]; exact fe.1
     · have z:b=it:=by simpa using hb
       subst z
       rw [aw (Nat.ne_of_lt le2)]; exact fi.1
 done:=by
   intro X hP hw hK hc i pins s σ H E I hf st hg
   subst hP hw hK
   obtain ⟨xs,hq,hx⟩:=hg
   obtain ⟨its,rv,p,hz⟩:=I.list hq
   obtain ⟨⟨old,h1⟩,h2⟩:=st
   obtain ⟨f0,f1,f2,f3,f4,f5⟩:=hf it (by simp)
   have hl:=rv.length
   exact wpAny_pyNext_enum_end (I.ok.hd hc.calm) h1 h2 p.isList (by simp; omega) λh' eb=>⟨rfl,I.turned (t':=s.toks) (λb o hb z=>eb b o hb z) f0 f1 f3 f4 f5⟩
 self:=λ_ _ _ _ _ st h=>by
   obtain ⟨⟨old,h1⟩,_⟩:=st
   exact wpAny_pyIter_enum h1 h
section
variable {X:Cx}
noncomputable def zH (K:PySem.W.Frag) (ta:TA):TI:=λσ H R=>ta σ H λvs H1=>∃ a,vs=[.ref a]/\(∃ xs,SqL K H1 a xs)/\R (Ite K a) H1
theorem rh:bootBuiltins "enumerate" = some (.type "enumerate"):=by decide +kernel
theorem lZ {ts:List Expr} {q:Nat} {tp:Pos} {a:Expr} {ta:TA} {p pos:Pos} (hc:X.calm=true) (hg:Gl X "enumerate") (hm:X.mg "enumerate" = none) (ha:PA X [a] ta) (hs:starEach [a] X.env=[(false,eval a X.env)]) :
   PI X (.Tuple ts q tp) (.Call (.Name "enumerate" p) [a] [] pos) (zH X.K ta):=by
 intro pins s σ H R I h
 refine Call_ (dJ I hg hm rh (PyProof.Rows.callWith_type1 (thn (ha pos pins s σ H _ I h) λus s1 ⟨vs,H1,I1,r1,q1⟩=>?_) hs rfl))
 obtain ⟨l,e,⟨xs,hq⟩,q⟩:=q1
 subst e
 obtain ⟨u,rfl,ru⟩:=vals1 r1
 cases ru
 obtain ⟨its,rv,pl,hz⟩:=I1.list hq
 refine call_enumerate_list pl.isList λh' g1 g2 g3 g4=>?_
 refine wpAny_pyIter_enum (s:={ s1 with heap:=h' }) g1 ?_
 have I2:Inv X pins σ H1 { s1 with heap:=h' }:=I1.kept (t':=s1.toks) g4
 have n1:H1 (s1.heap.objs.size + 1)=none:=I1.hok.fresh (by omega)
 have n2:H1 s1.heap.objs.size=none:=I1.hok.fresh (Nat.le_refl _)
 refine ⟨false,s1.heap.objs.size + 1,[s1.heap.objs.size + 1,s1.heap.objs.size],_,_,H1,rfl,I2,.inl hc,rS l (s1.heap.objs.size + 1) s1.heap.objs.size (Nat.succ_ne_self _),⟨⟨_,g1⟩,g2⟩,λb hb=>?_,q⟩
 rcases List.mem_cons.mp hb with rfl | hb
 · exact I1.kg (by omega) n1
 · have z:b=s1.heap.objs.size:=by simpa using hb
   subst z
   exact I1.kg (Nat.le_refl _) n2
end
noncomputable def Itz (K:PySem.W.Frag) (a b:Addr):L2.It:=
 ⟨λi H=>∃ xs ys x y,SqL K H a xs/\SqL K H b ys/\xs[i]?=some x/\ys[i]?=some y,
  λi H v H'=>∃ p x y,H p=none/\v=.ref p/\H'=upd H p (.tup [x,y])/\(∀ xs,SqL K H a xs->xs[i]?=some x)/\∀ ys,SqL K H b ys->ys[i]?=some y,
  λi H=>∃ xs ys,SqL K H a xs/\SqL K H b ys/\(xs.length<=i\/ys.length<=i)⟩
noncomputable def zSt (a b z TI TO i1 i2:Addr) (i:Nat) (h:Heap):Prop:=
 IsZip h z TI TO .none/\IsPair h TI (.ref i1) (.ref i2)/\(∃ u v,IsPair h TO u v)/\h.IsListIter i1 a i/\h.IsListIter i2 b i
theorem ky {h:Heap} {a b z TI TO i1 i2:Addr} {i:Nat} {xs ys:Array Value} (n:TI ≠ TO) (m:i1 ≠ i2) (s:zSt a b z TI TO i1 i2 i h) (l1:h.IsList a xs) (l2:h.IsList b ys):ZipApart z TI TO i1 i2 a b:=by
 obtain ⟨h1,h2,⟨u,v,h3⟩,⟨o4,h4,c4,d4⟩,⟨o5,h5,c5,d5⟩⟩:=s
 obtain ⟨o6,h6,c6,n6,d6⟩:=l1
 obtain ⟨o7,h7,c7,n7,d7⟩:=l2
 have kk:∀ {x y:Addr} {o p:Obj},h.get? x=some o->h.get? y=some p->o.cls ≠ p.cls->x ≠ y:=λe1 e2 c q=>by subst q; rw [e1] at e2; cases e2; exact c rfl
 have cz:∀ {s t:String},s ≠ t->Value.type s ≠ Value.type t:=λn q=>n (by cases q; rfl)
 refine ⟨kk h2 h1 (cz (by decide)),kk h3 h1 (cz (by decide)),kk h4 h1 ?_,kk h5 h1 ?_,n,kk h2 h4 ?_,kk h2 h5 ?_,kk h3 h4 ?_,kk h3 h5 ?_,m,kk h6 h1 ?_,kk h6 h3 ?_,kk h6 h4 ?_,kk h6 h5 ?_,kk h7 h1 ?_,kk h7 h3 ?_,kk h7 h4 ?_,kk h7 h5 ?_⟩
 all_goals first | (rw [c4]; exact cz (by decide)) | (rw [c5]; exact cz (by decide)) | (rw [c6]; exact cz (by decide)) | (rw [c7]; exact cz (by decide)) | (rw [c6,c4]; exact cz (by decide)) | (rw [c6,c5]; exact cz (by decide)) | (rw [c7,c4]; exact cz (by decide)) | (rw [c7,c5]; exact cz (by decide))
theorem ub {P:Program} {w:World} {K:PySem.W.Frag} {ts:List Expr} {q:Nat} {tp:Pos} (a b z TI TO i1 i2:Addr) (nT:TI ≠ TO) (nI:i1 ≠ i2) :
   Turn P w K false (.Tuple ts q tp) (Itz K a b) [z,TI,TO,i1,i2] z (zSt a b z TI TO i1 i2) where
 mem:=by simp
 obj:=λi h st c hb=>by
   obtain ⟨h1,h2,⟨u,v,h3⟩,⟨o4,h4,c4,d4⟩,⟨o5,h5,c5,d5⟩⟩:=st
   simp only [List.mem_cons,List.not_mem_nil,or_false] at hb
   rcases hb with rfl | rfl | rfl | rfl | rfl
   · exact ⟨_,h1,λv z=>nomatch z⟩
   · exact ⟨_,h2,λv z=>nomatch z⟩
   · exact ⟨_,h3,λv z=>nomatch z⟩
   · exact ⟨_,h4,λv z=>by rw [d4] at z; cases z⟩
   · exact ⟨_,h5,λv z=>by rw [d5] at z; cases z⟩
 keep:=λi h h' st k=>by
   obtain ⟨h1,h2,⟨u,v,h3⟩,⟨o4,h4,c4,d4⟩,⟨o5,h5,c5,d5⟩⟩:=st
   exact ⟨k z (by simp) _ h1,k TI (by simp) _ h2,⟨u,v,k TO (by simp) _ h3⟩,⟨o4,k i1 (by simp) _ h4,c4,d4⟩,⟨o5,k i2 (by simp) _ h5,c5,d5⟩⟩
 item:=by
   intro X hP hw hK hc i pins s σ H E I hf st hg
   subst hP hw hK
   obtain ⟨xs,ys,x,y,hq1,hq2,hx,hy⟩:=hg
   obtain ⟨its1,rv1,p1,hz1⟩:=I.list hq1
   obtain ⟨its2,rv2,p2,hz2⟩:=I.list hq2
   obtain ⟨u1,hu1,ru1⟩:=rv1.get hx
   obtain ⟨u2,hu2,ru2⟩:=rv2.get hy
   have D:=ky nT nI st p1.isList p2.isList
   obtain ⟨h1,h2,⟨u,v,h3⟩,h4,h5⟩:=st
   refine wpAny_pyNext_zip_item D h1 h2 h3 h4 h5 p1.isList p2.isList (x:=u1) (y:=u2) (by simpa using hu1) (by simpa using hu2) λh' g1 g2 g3 g4 g5 g6 g7=>⟨_,rfl,?_⟩
   refine wpAny_letOwnedTupleGo_zip (s:={ s with heap:=h' }) g1 λh2' k1 k2=>?_
   have hn:H s.heap.objs.size=none:=I.hok.fresh (Nat.le_refl _)
   have le1:z < s.heap.objs.size:=Heap.lt_size h1
   have lt2:TI < s.heap.objs.size:=Heap.lt_size h2
   have lt3:TO < s.heap.objs.size:=Heap.lt_size h3
   have lt4:i1 < s.heap.objs.size:=by obtain ⟨o,z,_⟩:=h4; exact Heap.lt_size z
   have lt5:i2 < s.heap.objs.size:=by obtain ⟨o,z,_⟩:=h5; exact Heap.lt_size z
   have kp:∀ c o,c ≠ z->c ≠ TO->c ≠ i1->c ≠ i2->s.heap.get? c=some o->h2'.get? c=some o:=λc o b1 b2 b3 b4 e=>(k2.2 c b1).trans (g7 c o b1 b2 b3 b4 e)
   have nt:IsPair h2' s.heap.objs.size u1 u2:=(k2.2 _ (Nat.ne_of_gt le1)).trans g5
   have ne:∀ c,c ∈ [z,TI,TO,i1,i2]->∀ d v,H d=some v->d ≠ c:=λc hc d v e q=>by
     have:=(hf c hc).1
     rw [q,this] at e; cases e
   have hok0:HOk X.prog X.w H h2':=λd v e=>(I.hok d v e).jh (λc v' hc' q=>kp c v'
       (by rcases hc' with hc' | hc'
           · rw [hc']; exact ne z (by simp) d v e
           · exact ne z (by simp) c _ hc')
       (by rcases hc' with hc' | hc'
           · rw [hc']; exact ne TO (by simp) d v e
           · exact ne TO (by simp) c _ hc')
       (by rcases hc' with hc' | hc'
           · rw [hc']; exact ne i1 (by simp) d v e
           · exact ne i1 (by simp) c _ hc')
       (by rcases hc' with hc' | hc'
           · rw [hc']; exact ne i2 (by simp) d v e
           · exact ne i2 (by simp) c _ hc') q) (λ_ q=>q) λ_ _ q=>q
   have hok1:HOk X.prog X.w (upd H s.heap.objs.size (.tup [x,y])) h2':=λd v e=>by
     by_cases hb:d=s.heap.objs.size
     · subst hb
       rw [aA] at e; cases e
       exact ⟨(by show 2<=sizeLine; decide),[u1,u2],.cons ru1 (.cons ru2 .nil),_,nt,rfl,_,rfl⟩
     · rw [aw hb] at e
       exact (hok0 d v e).jh (λc v' _ q=>q) (λc q=>by rw [aw (aN q hn)]; exact q) λc ys q=>by rw [aw (aN q hn)]; exact q
   have I1:Inv X pins σ (upd H s.heap.objs.size (.tup [x,y])) { s with heap:=h2' }:=by
     refine I.step (t':=s.toks) (g':=s.gens) (d':=s.drawn) (ch:=[z,TO,i1,i2]) (λc hb=>?_) (λc o _ _ hc' e _=>kp c o (λq=>hc' (by simp [q])) (λq=>hc' (by simp [q])) (λq=>hc' (by simp [q])) (λq=>hc' (by simp [q])) e)
       (λc o _ _ hc' e _=>⟨o.slots,kp c o (λq=>hc' (by simp [q])) (λq=>hc' (by simp [q])) (λq=>hc' (by simp [q])) (λq=>hc' (by simp [q])) e⟩)
       (λc o hc' e n=>by rw [aw (Nat.ne_of_lt (Heap.lt_size e))]; exact n) (λc o hc' e=>⟨o,kp c o (λq=>hc' (by simp [q])) (λq=>hc' (by simp [q])) (λq=>hc' (by simp [q])) (λq=>hc' (by simp [q])) e⟩)
       (λc ys e=>by rw [aw (aN e hn)]; exact e) (λc o u e=>by rw [aw (aN e hn)]; exact e) (λc ps e=>⟨#[],by rw [aw (aN e hn),e]; simp⟩) (λm hm=>?_) hok1 I.bare
     · have hb':c ∈ [z,TI,TO,i1,i2]:=by
         simp only [List.mem_cons,List.not_mem_nil,or_false] at hb ⊢
         rcases hb with h | h | h | h <;> simp [h]
       have fe:=hf c hb'
       exact ⟨fe.2.2.2.1,fe.2.1,fe.2.2.2.2.1,fe.2.2.2.2.2⟩
     · obtain ⟨o,es,ep,ho,r⟩:=hm
       exact ⟨o,es,ep,kp _ o (Ne.symm (hf z (by simp)).2.1) (Ne.symm (hf TO (by simp)).2.1) (Ne.symm (hf i1 (by simp)).2.1) (Ne.symm (hf i2 (by simp)).2.1) ho,r⟩
   refine ⟨.ref s.heap.objs.size,_,I1,rfl,⟨s.heap.objs.size,x,y,hn,rfl,rfl,λzs hy'=>by rw [I.gM hy' hq1]; exact hx,λzs hy'=>by rw [I.gM hy' hq2]; exact hy⟩,⟨k1,?_,⟨u1,u2,(k2.2 TO D.TOz).trans g2⟩,?_,?_⟩,λc hb=>?_⟩
   · exact kp TI _ D.TIz D.TITO D.TIi1 D.TIi2 h2
   · obtain ⟨o,z1,z2,z3⟩:=g3
     exact ⟨o,(k2.2 i1 D.i1z).trans z1,z2,z3⟩
   · obtain ⟨o,z1,z2,z3⟩:=g4
     exact ⟨o,(k2.2 i2 D.i2z).trans z1,z2,z3⟩
   · have fc:=(hf c hb).1
     have lt:c < s.heap.objs.size:=by
       simp only [List.mem_cons,List.not_mem_nil,or_false] at hb
       rcases hb with rfl | rfl | rfl | rfl | rfl <;> assumption
     rw [aw (Nat.ne_of_lt lt)]
     exact fc
 done:=by
   intro X hP hw hK hc i pins s σ H E I hf st hg
   subst hP hw hK
   obtain ⟨xs,ys,hq1,hq2,hx⟩:=hg
   obtain ⟨its1,rv1,p1,hz1⟩:=I.list hq1
   obtain ⟨its2,rv2,p2,hz2⟩:=I.list hq2
   have D:=ky nT nI st p1.isList p2.isList
   obtain ⟨h1,h2,⟨u,v,h3⟩,h4,h5⟩:=st
   have hl1:=rv1.length
   have hl2:=rv2.length
   refine wpAny_pyNext_zip_end (I.ok.hd hc.calm) D h1 h2 h3 h4 h5 p1.isList p2.isList (by
     rcases hx with hx | hx
     · left; simp; omega
     · right; simp; omega) λh' eb=>⟨rfl,?_⟩
   have ne:∀ c,c ∈ [z,TI,TO,i1,i2]->∀ d v,H d=some v->d ≠ c:=λc hc d v e q=>by
     have:=(hf c hc).1
     rw [q,this] at e; cases e
   have hok0:HOk X.prog X.w H h':=λd v e=>(I.hok d v e).jh (λc v' hc' q=>eb c v'
       (by rcases hc' with hc' | hc'
           · rw [hc']; exact ne z (by simp) d v e
           · exact ne z (by simp) c _ hc')
       (by rcases hc' with hc' | hc'
           · rw [hc']; exact ne TO (by simp) d v e
           · exact ne TO (by simp) c _ hc')
       (by rcases hc' with hc' | hc'
           · rw [hc']; exact ne i1 (by simp) d v e
           · exact ne i1 (by simp) c _ hc')
       (by rcases hc' with hc' | hc'
           · rw [hc']; exact ne i2 (by simp) d v e
           · exact ne i2 (by simp) c _ hc') q) (λ_ q=>q) λ_ _ q=>q
   refine I.step (t':=s.toks) (g':=s.gens) (d':=s.drawn) (ch:=[z,TO,i1,i2]) (λc hb=>?_) (λc o _ _ hc' e _=>eb c o (λq=>hc' (by simp [q])) (λq=>hc' (by simp [q])) (λq=>hc' (by simp [q])) (λq=>hc' (by simp [q])) e)
       (λc o _ _ hc' e _=>⟨o.slots,eb c o (λq=>hc' (by simp [q])) (λq=>hc' (by simp [q])) (λq=>hc' (by simp [q])) (λq=>hc' (by simp [q])) e⟩)
       (λc o hc' e n=>n) (λc o hc' e=>⟨o,eb c o (λq=>hc' (by simp [q])) (λq=>hc' (by simp [q])) (λq=>hc' (by simp [q])) (λq=>hc' (by simp [q])) e⟩)
       (λc ys e=>e) (λc o u e=>e) (λc ps e=>⟨#[],by rw [e]; simp⟩) (λm hm=>?_) hok0 I.bare
   · have hb':c ∈ [z,TI,TO,i1,i2]:=by
       simp only [List.mem_cons,List.not_mem_nil,or_false] at hb ⊢
       rcases hb with h | h | h | h <;> simp [h]
     have fe:=hf c hb'
     exact ⟨fe.2.2.2.1,fe.2.1,fe.2.2.2.2.1,fe.2.2.2.2.2⟩
   · obtain ⟨o,es,ep,ho,r⟩:=hm
     exact ⟨o,es,ep,eb _ o (Ne.symm (hf z (by simp)).2.1) (Ne.symm (hf TO (by simp)).2.1) (Ne.symm (hf i1 (by simp)).2.1) (Ne.symm (hf i2 (by simp)).2.1) ho,r⟩
 self:=λ_ _ _ _ _ st h=>wpAny_pyIter_zip st.1 h
section
variable {X:Cx}
noncomputable def yZ (K:PySem.W.Frag) (ta:TA):TI:=λσ H R=>ta σ H λvs H1=>∃ a b,vs=[.ref a,.ref b]/\(∃ xs,SqL K H1 a xs)/\(∃ ys,SqL K H1 b ys)/\R (Itz K a b) H1
theorem pP {ts:List Expr} {q:Nat} {tp:Pos} {a b:Expr} {ta:TA} {p pos:Pos} (hc:X.calm=true) (hg:Gl X "zip") (hm:X.mg "zip" = none) (ha:PA X [a,b] ta) (hs:starEach [a,b] X.env=(false,eval a X.env) :: starEach [b] X.env) (hs2:starEach [b] X.env=[(false,eval b X.env)]) :
   PI X (.Tuple ts q tp) (.Call (.Name "zip" p) [a,b] [] pos) (yZ X.K ta):=by
 intro pins s σ H R I h
 refine Call_ (dJ I hg hm boot_zip (PyProof.Rows.callWith_type1 (thn (ha pos pins s σ H _ I h) λus s1 ⟨vs,H1,I1,r1,q1⟩=>?_) hs (by rw [hs2]; rfl)))
 obtain ⟨l,l',e,⟨xs,hq1⟩,⟨ys,hq2⟩,q⟩:=q1
 subst e
 obtain ⟨u,u',rfl,ru,ru'⟩:=vals2 r1
 cases ru
 cases ru'
 obtain ⟨its1,rv1,pl1,hz1⟩:=I1.list hq1
 obtain ⟨its2,rv2,pl2,hz2⟩:=I1.list hq2
 refine call_zip_2 pl1.isList pl2.isList λh' g1 g2 g3 g4 g5 g6 g7=>?_
 refine wpAny_pyIter_zip (s:={ s1 with heap:=h' }) g1 ?_
 have I2:Inv X pins σ H1 { s1 with heap:=h' }:=I1.kept (t':=s1.toks) g7
 have nn:∀ j,H1 (s1.heap.objs.size + j)=none:=λj=>I1.hok.fresh (by omega)
 refine ⟨false,s1.heap.objs.size + 4,[s1.heap.objs.size + 4,s1.heap.objs.size + 2,s1.heap.objs.size + 3,s1.heap.objs.size,s1.heap.objs.size + 1],_,_,H1,rfl,I2,.inl hc,ub l l' (s1.heap.objs.size + 4) (s1.heap.objs.size + 2) (s1.heap.objs.size + 3) s1.heap.objs.size (s1.heap.objs.size + 1) (by simp) (Ne.symm (Nat.succ_ne_self _)),⟨g1,g2,⟨_,_,g3⟩,g4,g5⟩,λc hb=>?_,q⟩
 have hb':∃ j,c=s1.heap.objs.size + j:=by
   simp only [List.mem_cons,List.not_mem_nil,or_false] at hb
   rcases hb with h | h | h | h | h
   · exact ⟨_,h⟩
   · exact ⟨_,h⟩
   · exact ⟨_,h⟩
   · exact ⟨0,h⟩
   · exact ⟨_,h⟩
 obtain ⟨j,rfl⟩:=hb'
 exact I1.kg (Nat.le_add_right _ _) (nn j)
end
section
variable {X:Cx} {tg:Expr}
theorem uQ:bootBuiltins "reversed" = some (.type "reversed"):=by decide +kernel
end
theorem t6:∀ (names:List (Str × NameKind)) (n:Nat) (acc:List (Str × Addr)) (x:Str) (c:Addr),(cellsFrom n names acc).lookup x=some c->n<=c\/acc.lookup x=some c
 | [],_,_,_,_,h=>.inr h
 | (y,k) :: r,n,acc,x,c,h=>by
   unfold cellsFrom at h
   split at h
   · rcases t6 r (n + 1) _ x c h with q | q
     · exact .inl (by omega)
     · rw [List.lookup_cons] at q
       split at q
       · cases q; exact .inl (Nat.le_refl _)
       · exact .inr q
   · exact t6 r n acc x c h
theorem js:∀ (names:List (Str × NameKind)) (n:Nat) (acc:List (Str × Addr)) (x:Str),(x,NameKind.cell) ∉ names->(cellsFrom n names acc).lookup x=acc.lookup x
 | [],_,_,_,_=>rfl
 | (y,k) :: r,n,acc,x,h=>by
   have h1:(x,NameKind.cell) ∉ r:=λz=>h (List.mem_cons_of_mem _ z)
   unfold cellsFrom
   split
   · rename_i hk
     rw [js r _ _ x h1,List.lookup_cons]
     have:(x == y)=false:=by
       rw [beq_eq_false_iff_ne]
       rintro rfl
       exact h (by rw [eq_of_beq hk]; exact List.mem_cons_self)
     rw [this]
   · exact js r n acc x h1
theorem mf:∀ (names:List (Str × NameKind)) (n:Nat) (acc:List (Str × Addr)) (x:Str),(x,NameKind.cell) ∈ names->∃ c,(cellsFrom n names acc).lookup x=some c/\n<=c
 | (y,k) :: r,n,acc,x,h=>by
   unfold cellsFrom
   by_cases hr:(x,NameKind.cell) ∈ r
   · split
     · obtain ⟨c,e,l⟩:=mf r (n + 1) ((y,n) :: acc) x hr
       exact ⟨c,e,by omega⟩
     · exact mf r n acc x hr
   · rcases List.mem_cons.mp h with q | q
     · cases q
       rw [if_pos (by rfl),js r _ _ _ hr]
       exact ⟨n,by simp [List.lookup_cons],Nat.le_refl _⟩
     · exact absurd q hr
theorem oK:∀ (names:List (Str × NameKind)) (n:Nat) (acc:List (Str × Addr)),(∀ x c,acc.lookup x=some c->c < n)->(∀ x y c,acc.lookup x=some c->acc.lookup y=some c->x=y) ->
   ∀ x y c,(cellsFrom n names acc).lookup x=some c->(cellsFrom n names acc).lookup y=some c->x=y
 | [],_,_,_,h=>h
 | (z,k) :: r,n,acc,hl,h=>by
   unfold cellsFrom
   split
   · refine oK r (n + 1) _ (λx c e=>?_) (λx y c e1 e2=>?_)
     · rw [List.lookup_cons] at e
       split at e
       · cases e; exact Nat.lt_succ_self _
       · exact Nat.lt_succ_of_lt (hl x c e)
     · rw [List.lookup_cons] at e1 e2
       split at e1
       · rename_i q1
         cases e1
         split at e2
         · rename_i q2
           exact (eq_of_beq q1).trans (eq_of_beq q2).symm
         · exact absurd (hl y _ e2) (Nat.lt_irrefl _)
       · split at e2
         · cases e2
           exact absurd (hl x _ e1) (Nat.lt_irrefl _)
         · exact h x y c e1 e2
   · exact oK r n acc hl h
theorem me:∀ (names:List (Str × NameKind)) (h:Heap) (acc:List (Str × Addr)),(∀ x c,acc.lookup x=some c->∃ v,h.IsCell c v)->∀ x c,(cellsFrom h.objs.size names acc).lookup x=some c->∃ v,(pushCells h names).IsCell c v
 | [],_,_,ha,x,c,e=>ha x c e
 | (z,k) :: r,h,acc,ha,x,c,e=>by
   unfold cellsFrom at e
   unfold pushCells
   split at e
   · rename_i hk
     rw [if_pos hk]
     refine me r _ ((z,h.objs.size) :: acc) (λy d q=>?_) x c (by rw [Heap.size_push]; exact e)
     rw [List.lookup_cons] at q
     split at q
     · cases q
       exact ⟨none,_,Heap.get?_push_size _ rfl,rfl⟩
     · obtain ⟨v,o,ho,hd⟩:=ha y d q
       exact ⟨v,o,Heap.get?_push_of_some _ ho,hd⟩
   · rename_i hk
     rw [if_neg hk]
     exact me r h acc ha x c e
noncomputable def cB (env:PySem.Env):List (Str × NameKind)->List (Str × Addr)->List (Str × Addr)
 | [],acc=>acc
 | (n,k) :: r,acc=>if k == .free then (match env.cells.lookup n with | some c=>cB env r ((n,c) :: acc) | none=>cB env r acc) else cB env r acc
theorem jo (env:PySem.Env):∀ (names:List (Str × NameKind)) (acc:List (Str × Addr)),(∀ x ∈ names,x.2=.free->∃ c,env.cells.lookup x.1=some c) ->
   (forIn (m:=Sem) names acc λx cs=>do
     let (name,kind):=x
     if kind == .free then do
       let c <- cellOf env name
       pure (ForInStep.yield ((name,c) :: cs))
     else pure (ForInStep.yield cs))=pure (cB env names acc)
 | [],acc,_=>rfl
 | (n,k) :: r,acc,h=>by
   rw [List.forIn_cons]
   unfold cB
   by_cases hk:(k == .free)=true
   · obtain ⟨c,hc⟩:=h (n,k) List.mem_cons_self (eq_of_beq hk)
     simp only [hk,if_true,cellOf,hc,pure_bind]
     exact jo env r _ λx hx=>h x (List.mem_cons_of_mem _ hx)
   · simp only [hk,Bool.false_eq_true,if_false,pure_bind]
     exact jo env r _ λx hx=>h x (List.mem_cons_of_mem _ hx)
theorem qR {env:PySem.Env} {scope:Scope} (h:∀ x ∈ scope.names,x.2=.free->∃ c,env.cells.lookup x.1=some c):closureFor scope env=pure (cB env scope.names []):=by
 unfold closureFor
 have:=jo env scope.names [] h
 simp only [bind_pure]
 exact this
theorem dH (env:PySem.Env):∀ (names:List (Str × NameKind)) (acc:List (Str × Addr)) (x:Str) (c:Addr),(∀ y d,acc.lookup y=some d->env.cells.lookup y=some d)->(cB env names acc).lookup x=some c->env.cells.lookup x=some c
 | [],_,x,c,ha,h=>ha x c h
 | (n,k) :: r,acc,x,c,ha,h=>by
   unfold cB at h
   split at h
   · split at h
     · rename_i c' hc
       refine dH env r _ x c (λy d q=>?_) h
       rw [List.lookup_cons] at q
       split at q
       · rename_i qq
         cases q
         rw [eq_of_beq qq]; exact hc
       · exact ha y d q
     · exact dH env r acc x c ha h
   · exact dH env r acc x c ha h
theorem cI (env:PySem.Env):∀ (names:List (Str × NameKind)) (acc:List (Str × Addr)) (x:Str) (c:Addr),(∀ y d,acc.lookup y=some d->env.cells.lookup y=some d)->env.cells.lookup x=some c->((x,NameKind.free) ∈ names\/acc.lookup x=some c)->(cB env names acc).lookup x=some c
 | [],_,x,c,_,_,h=>h.elim (λz=>absurd z (by simp)) id
 | (n,k) :: r,acc,x,c,ha,hc,h=>by
   unfold cB
   split
   · split
     · rename_i c' hc'
       refine cI env r _ x c (λy d q=>?_) hc ?_
       · rw [List.lookup_cons] at q
         split at q
         · rename_i qq
           cases q
           rw [eq_of_beq qq]; exact hc'
         · exact ha y d q
       · by_cases q:x=n
         · subst q
           rw [hc] at hc'; cases hc'
           exact .inr (by simp [List.lookup_cons])
         · rcases h with h | h
           · rcases List.mem_cons.mp h with z | z
             · cases z; exact absurd rfl q
             · exact .inl z
           · refine .inr ?_
             rw [List.lookup_cons,beq_eq_false_iff_ne.mpr q]
             exact h
     · rename_i hc'
       refine cI env r acc x c ha hc ?_
       rcases h with h | h
       · rcases List.mem_cons.mp h with z | z
         · cases z; rw [hc] at hc'; cases hc'
         · exact .inl z
       · exact .inr h
   · rename_i hk
     refine cI env r acc x c ha hc ?_
     rcases h with h | h
     · rcases List.mem_cons.mp h with z | z
       · cases z; exact absurd rfl hk
       · exact .inl z
     · exact .inr h
theorem ku {M:Model} {A:Around} {E:Value->Shared->Prop} {s:Shared} {scope:Scope} {cl:List (Str × Addr)} {env:PySem.Env} {Q:PySem.Env->Shared->Prop}
   (h:Q (newEnv scope s.heap.objs.size env.globals (cellsFrom (s.heap.objs.size + 1) scope.names cl) env.qual none .none (some env) builtinsNs) { s with heap:=pushCells (s.heap.push { cls:=.type "dict",data:=.dict #[] }) scope.names }) :
   wpAny M A (newFunctionEnv scope env.globals cl [] env.qual none .none (some env)) Q E s:=by
 simp only [newFunctionEnv,Option.isSome_some,if_true]
 refine wpAny_bind (wpAny_alloc ?_)
 refine wpAny_bind (wpAny_layCells _ (λname kind cells=>by cases hkc:kind == NameKind.cell <;> simp [hkc]) _ _ _ _ ?_)
 rw [show ({ s with heap:=s.heap.push { cls:=.type "dict",data:=.dict #[] } }:Shared).heap.objs.size=s.heap.objs.size + 1 from Heap.size_push ..]
 exact wpAny_bind (wpAny_pure (wpAny_pure h))
noncomputable def aG (X:Cx) (s:Shared) (H:Hp) (scope:Scope) (N:List Str) (fp:List Addr):Cx:=
 { prog:=X.prog,w:=X.w,K:=X.K,mg:=X.mg,base:=X.base,A:=X.A,N:=N,s₀:=s,H₀:=H
   env:=compEnvC scope (cellsFrom (s.heap.objs.size + 1 + 1) scope.names (cB X.env scope.names [])) (s.heap.objs.size + 1) X.env
   outer:=X.stack,stack:=X.stack,ex:=fp,fn:=λx=>decide ((x,NameKind.cell) ∈ scope.names),calm:=X.calm,pn:=[],xe:=λ_ _=>False }
noncomputable def eK (σ:L2.St) (caps:List (Option Nat)):L2.St:=caps.map λo=>o.bind λi=>(σ[i]?).join
structure cU (X:Cx) (scope:Scope) (N:List Str) (caps:List (Option Nat)):Prop where
 kind:scope.kind=.function
 loc:∀ x ∈ scope.names,x.2=.local->scope.names.lookup x.1=some .local
 fre:∀ x ∈ scope.names,x.2=.free->X.env.kindOf x.1=some .cell
 one:∀ x,(x,NameKind.free) ∈ scope.names->(x,NameKind.cell) ∉ scope.names
 noboth:∀ x,(x,NameKind.free) ∈ scope.names->(x,NameKind.local) ∉ scope.names
 len:N.length=caps.length + 1
 cap:∀ (j i:Nat),caps[j]?=some (some i)->∃ x,N[j]?=some x/\X.N[i]?=some x/\(x,NameKind.free) ∈ scope.names
 acc:∃ z,N[caps.length]?=some z/\¬ Vis (relabel scope X.env) z
section
variable {X:Cx} {pins:List (Addr × Obj)} {σ:L2.St} {H:Hp} {s:Shared} {scope:Scope} {N:List Str} {caps:List (Option Nat)} {fp:List Addr}
theorem eo {env:PySem.Env} {x:Str} {names:List (Str × NameKind)} (h:∀ y,(y,NameKind.free) ∈ names->env.kindOf y=some .cell) (hk:env.scope.kind=.function) {k:NameKind}
   (e:(names.map λ(n,k)=>if (k == NameKind.free && env.scope.kind == .function && env.kindOf n == some .cell) then (n,NameKind.cell) else (n,k)).lookup x=some k) :
   (x,k) ∈ names\/((x,NameKind.free) ∈ names/\k=.cell):=by
 induction names with
 | nil=>cases e
 | cons p r ih=>
   obtain ⟨n,q⟩:=p
   rw [List.map_cons] at e
   have hr:∀ y,(y,NameKind.free) ∈ r->env.kindOf y=some .cell:=λy hy=>h y (List.mem_cons_of_mem _ hy)
   have sub:((x,k) ∈ r\/((x,NameKind.free) ∈ r/\k=.cell))->(x,k) ∈ (n,q) :: r\/((x,NameKind.free) ∈ (n,q) :: r/\k=.cell):=λz=>
     z.elim (λy=>.inl (List.mem_cons_of_mem _ y)) λy=>.inr ⟨List.mem_cons_of_mem _ y.1,y.2⟩
   dsimp only at e
   split at e
   · rename_i c
     rw [List.lookup_cons] at e
     split at e
     · rename_i qq
       cases e
       rw [Bool.and_eq_true,Bool.and_eq_true] at c
       rw [eq_of_beq qq,eq_of_beq c.1.1]
       exact .inr ⟨List.mem_cons_self,rfl⟩
     · exact sub (ih hr e)
   · rename_i c
     rw [List.lookup_cons] at e
     split at e
     · rename_i qq
       cases e
       rw [eq_of_beq qq]
       exact .inl List.mem_cons_self
     · exact sub (ih hr e)
theorem fY (I:Inv X pins σ H s) (c:cU X scope N caps):∀ x ∈ scope.names,x.2=.free->∃ d,X.env.cells.lookup x.1=some d:=λx hx hf=>I.ok.has x.1 (.inl (c.fre x hx hf))
theorem mV (I:Inv X pins σ H s) (hf:∀ b ∈ fp,kn X pins H b) (ho:∀ b ∈ fp,∃ o,s.heap.get? b=some o) (c:cU X scope N caps) :
   Inv (aG X s H scope N fp) [] (eK σ caps++[some (.ref s.heap.objs.size)]) (upd H s.heap.objs.size (.lst []))
     { s with heap:=pushCells ((s.heap.push { cls:=.type "list",data:=.seq ([]:List Value).toArray }).push { cls:=.type "dict",data:=.dict #[] }) scope.names }:=by
 have hcl:∀ x d,(cB X.env scope.names []).lookup x=some d->X.env.cells.lookup x=some d:=λx d=>dH X.env scope.names [] x d (λy d z=>by simp at z)
 have kp:∀ b o,s.heap.get? b=some o->(pushCells ((s.heap.push { cls:=.type "list",data:=.seq ([]:List Value).toArray }).push { cls:=.type "dict",data:=.dict #[] }) scope.names).get? b=some o:=λb o e=>
   pushCells_keeps _ _ b o (Heap.get?_push_of_some _ (Heap.get?_push_of_some _ e))
 have sz2:((s.heap.push { cls:=.type "list",data:=.seq ([]:List Value).toArray }).push { cls:=.type "dict",data:=.dict #[] }).objs.size=s.heap.objs.size + 1 + 1:=by rw [Heap.size_push,Heap.size_push]
 have oldc:∀ x d,X.env.cells.lookup x=some d->d < s.heap.objs.size:=λx d e=>by
   obtain ⟨v,o,q,_⟩:=I.cell x d e
   exact Heap.lt_size q
 have cel:∀ x d,(aG X s H scope N fp).env.cells.lookup x=some d->s.heap.objs.size + 1 + 1<=d\/X.env.cells.lookup x=some d:=λx d e=>by
   rcases t6 _ _ _ x d e with q | q
   · exact .inl q
   · exact .inr (hcl x d q)
 have ok:(aG X s H scope N fp).Ok:=by
   refine ⟨I.ok.mod,c.kind,I.ok.glob,I.ok.blt,Nat.le_succ _,?_,?_,?_,I.ok.hd,I.ok.frames,.inl rfl,?_,I.bs,Nat.le_trans I.ok.bsz I.sz,?_,?_,I.stack,I.q0⟩
   · exact oK _ _ _ (λx d e=>Nat.lt_of_lt_of_le (oldc x d (hcl x d e)) (by omega)) λx y d e1 e2=>I.ok.inj x y d (hcl x d e1) (hcl y d e2)
   · intro x hx
     have hfk:∀ y,(y,NameKind.free) ∈ scope.names->X.env.kindOf y=some .cell:=λy hy=>c.fre _ hy rfl
     have fre:(x,NameKind.free) ∈ scope.names->∃ d,(aG X s H scope N fp).env.cells.lookup x=some d:=λhm=>by
       obtain ⟨d,hd⟩:=fY I c _ hm rfl
       exact ⟨d,by
         show (cellsFrom _ scope.names _).lookup x=_
         rw [js _ _ _ x (c.one x hm)]
         exact cI X.env scope.names [] x d (λy e z=>by simp at z) hd (.inl hm)⟩
     have own:(x,NameKind.cell) ∈ scope.names->∃ d,(aG X s H scope N fp).env.cells.lookup x=some d:=λhm=>by
       obtain ⟨d,e,_⟩:=mf scope.names (s.heap.objs.size + 1 + 1) (cB X.env scope.names []) x hm
       exact ⟨d,e⟩
     rcases hx with hx | hx
     · rcases eo hfk I.ok.kind (show (scope.names.map _).lookup x=some .cell from hx) with q | q
       · exact own q
       · exact fre q.1
     · rcases eo hfk I.ok.kind (show (scope.names.map _).lookup x=some .free from hx) with q | q
       · exact fre q
       · exact fre q.1
   · intro x d hfn e
     have hm:(x,NameKind.cell) ∈ scope.names:=of_decide_eq_true hfn
     obtain ⟨d',e',l⟩:=mf scope.names (s.heap.objs.size + 1 + 1) (cB X.env scope.names []) x hm
     have e2:(cellsFrom (s.heap.objs.size + 1 + 1) scope.names (cB X.env scope.names [])).lookup x=some d:=e
     rw [e'] at e2; cases e2
     exact Nat.le_trans (Nat.le_trans (Nat.le_succ _) (Nat.le_succ _)) l
   · intro b hb
     obtain ⟨o,q⟩:=ho b hb
     have bl:=Heap.lt_size q
     refine ⟨λz=>?_,λx d e z=>?_⟩
     · have z':b=s.heap.objs.size + 1:=z
       rw [z'] at bl
       exact absurd bl (Nat.not_lt.mpr (Nat.le_succ _))
     · subst z
       rcases cel x d e with q | q
       · exact absurd (Nat.lt_of_lt_of_le bl (Nat.le_trans (Nat.le_trans (Nat.le_succ _) (Nat.le_succ _)) q)) (Nat.lt_irrefl _)
       · exact (hf d hb).2.2.2.2.1 x d q rfl
   · intro b o e hb
     rcases (hf b hb).2.2.2.1 with q | q
     · exact I.ok.noex b o e q
     · have:=Nat.lt_of_lt_of_le (Heap.lt_size e) I.ok.bsz
       exact absurd (Nat.lt_of_lt_of_le this q) (Nat.lt_irrefl _)
   · intro b hb hm
     rcases List.mem_cons.mp (I.pH b hm) with q | q
     · exact (hf b hb).2.1 q
     · exact (hf b hb).2.2.1 q
 have hD:(pushCells ((s.heap.push { cls:=.type "list",data:=.seq ([]:List Value).toArray }).push { cls:=.type "dict",data:=.dict #[] }) scope.names).get? s.heap.objs.size=some { cls:=.type "list",data:=.seq ([]:List Value).toArray }:=
   pushCells_keeps _ _ _ _ (Heap.get?_push_of_some _ (Heap.get?_push_size _ rfl))
 have fr:∀ a,s.heap.objs.size<=a->a ≠ s.heap.objs.size->(upd H s.heap.objs.size (.lst [])) a=none:=λa h1 h2=>by rw [aw h2]; exact I.hok.fresh h1
 refine ⟨ok,rfl,I.bare,Un.laid kp (Nat.le_refl _) (I.hok.fresh (Nat.le_refl _)),⟨λ_=>none,?_,λi x v e1 e2 e3=>?_⟩,λx d e=>?_,?_,λx d e=>?_,λp hp=>absurd (show p ∈ ([]:List (Addr × Obj)) from hp) (by simp),?_,?_⟩
 · have:=Heap.Ns.new (s.heap.push { cls:=.type "list",data:=.seq ([]:List Value).toArray }) (.type "dict")
   rw [Heap.size_push] at this
   exact this.keeps (pushCells_keeps _ _)
 · by_cases hi:i < caps.length
   · rw [List.getElem?_append_left (by unfold eK; rw [List.length_map]; exact hi)] at e2
     unfold eK at e2
     rw [List.getElem?_map] at e2
     cases hc:caps[i]? with
     | none=>rw [hc] at e2; cases e2
     | some o=>
       rw [hc] at e2
       cases o with
       | none=>cases e2
       | some j=>
         have e2':(σ[j]?).join=some v:=Option.some.inj e2
         have e4:σ[j]?=some (some v):=by
           cases q:σ[j]? with
           | none=>rw [q] at e2'; cases e2'
           | some y=>rw [q] at e2'; exact congrArg some e2'
         obtain ⟨x',g1,g2,g3⟩:=c.cap i j hc
         rw [show (aG X s H scope N fp).N=N from rfl,g1] at e1
         cases e1
         have hkc:=c.fre _ g3 rfl
         obtain ⟨m,_,hl⟩:=I.loc
         obtain ⟨u,ru,look⟩:=hl j x v g2 e4 (.inr (.inl hkc))
         refine ⟨u,ru,?_⟩
         rcases look with ⟨k,_⟩ | ⟨k,d,hd,hcell⟩
         · rw [hkc] at k; cases k
         · have e5:(aG X s H scope N fp).env.cells.lookup x=some d:=by
             show (cellsFrom _ scope.names _).lookup x=_
             rw [js _ _ _ x (c.one x g3)]
             exact cI X.env scope.names [] x d (λy e z=>by simp at z) hd (.inl g3)
           have hcell':Heap.IsCell (pushCells ((s.heap.push { cls:=.type "list",data:=.seq ([]:List Value).toArray }).push { cls:=.type "dict",data:=.dict #[] }) scope.names) d (some u):=by
             obtain ⟨o,q1,q2⟩:=hcell
             exact ⟨o,kp _ _ q1,q2⟩
           refine .inr ⟨?_,d,e5,hcell'⟩
           rcases e3 with e3 | e3 | e3
           · exfalso
             rcases eo (λy hy=>c.fre _ hy rfl) I.ok.kind (show (scope.names.map _).lookup x=some .local from e3) with q | q
             · have q1:=c.loc _ q rfl
               exact c.noboth x g3 q
             · cases q.2
           · exact .inl e3
           · exact .inr e3
   · exfalso
     obtain ⟨z,z1,z2⟩:=c.acc
     have hl:i < N.length:=(List.getElem?_eq_some_iff.mp e1).1
     have:i=caps.length:=by have:=c.len; omega
     subst this
     rw [show (aG X s H scope N fp).N=N from rfl,z1] at e1
     cases e1
     exact z2 e3
 · rw [show (aG X s H scope N fp).env.cells=cellsFrom (s.heap.objs.size + 1 + 1) scope.names (cB X.env scope.names []) from rfl,<- sz2] at e
   refine me scope.names _ _ (λy d' q=>?_) x d e
   obtain ⟨v,o,q1,q2⟩:=I.cell y d' (hcl y d' q)
   exact ⟨v,o,Heap.get?_push_of_some _ (Heap.get?_push_of_some _ q1),q2⟩
 · exact fr _ (Nat.le_succ _) (Nat.succ_ne_self _)
 · rcases cel x d e with q | q
   · exact fr d (by omega) (by intro z; omega)
   · rw [aw (Nat.ne_of_lt (oldc x d q))]; exact I.freeC x d q
 · exact I.hok.laid kp (Nat.le_refl _) ⟨Nat.zero_le _,[],0,.nil,hD⟩
 · rw [List.length_append]
   unfold eK
   rw [List.length_map,show (aG X s H scope N fp).N=N from rfl,c.len]
   rfl
end
noncomputable def PTs (X:Cx) (ifs:List Expr) (t:TT):Prop:=
 ∀ (pins:List (Addr × Obj)) (s:Shared) (σ:L2.St) (H:Hp) (Q:Bool->Hp->Prop),Inv X pins σ H s->t σ H Q ->
   wpAny (model X.prog X.w) X.A (forIn ifs true λc r=>if r=true then do let ok <- isTrue c X.env (eval c X.env); pure (ForInStep.yield ok) else pure (ForInStep.yield r)) (TP X pins σ Q) X.xe s
section
variable {prog:Program} {w:World} {A:Around} {R:Result->Shared->Prop} {s:Shared}
theorem jD {elt target iter:Expr} {ifs:List Expr} {scope:Scope} {pos:Pos} {it acc:Value} {env:PySem.Env} (Iv:Nat->Shared->Prop)
   (step:∀ n s,Iv n s->wpAny (model prog w) A (pyNext it) (λr s₁=>match r with
     | none=>R (.ok .next) s₁
     | some v=>wpAny (model prog w) A (letOwnedTupleGo target it v) (λ_ s₀=>wpAny (model prog w) A (assign target env v) (λ_ s₂=>
         wpAny (model prog w) A (forIn ifs true λc r=>if r=true then do let ok <- isTrue c env (eval c env); pure (ForInStep.yield ok) else pure (ForInStep.yield r)) (λok s₃=>
           if ok=true then wpAny (model prog w) A (eval elt env) (λx s₄=>
             wpAny (model prog w) A (call (.builtin "list.append") [acc,x]) (λ_ s₅=>∃ m,m < n/\Iv m s₅) (λ_ _=>False) s₄) (λ_ _=>False) s₃
           else ∃ m,m < n/\Iv m s₃) (λ_ _=>False) s₂) (λ_ _=>False) s₀) (λ_ _=>False) s₁) (λ_ _=>False) s)
   (n:Nat) (h:Iv n s):codeAny (model prog w) A (.compLoop (.ListComp elt [⟨target,iter,ifs,0⟩] scope pos) 0 it acc env) R s:=by
 have no:∀ {α:Type} {t:Sem α} {Q:α->Shared->Prop} {s:Shared} {E:Value->Shared->Prop},wpAny (model prog w) A t Q (λ_ _=>False) s->wpAny (model prog w) A t Q E s:=λh=>wpAny_mono h (λ_ _ q=>q) λ_ _ q=>q.elim
 refine codeAny_loop rfl Iv (λn s hI=>?_) n h
 show wpAny _ A (Sem.onRaise (compTurn (.ListComp elt [⟨target,iter,ifs,0⟩] scope pos) 0 it acc env) (λx=>do noteFrame x env; theTreesLotGoes x)) _ _ s
 refine wpAny_noted ?_
 rw [compTurn_list]
 refine wpAny_bind (wpAny_standAt (wpAny_bind (thn (no (step n s hI)) λr s₁ h₁=>?_)))
 cases r with
 | none=>exact wpAny_pure h₁
 | some v=>
   refine wpAny_bind (thn (no h₁) λ_ s₀ h₀=>wpAny_bind (thn (no h₀) λ_ s₂ h₂=>wpAny_bind (thn (no h₂) λok s₃ h₃=>?_)))
   cases ok with
   | false=>exact wpAny_pure ⟨rfl,h₃⟩
   | true=>exact wpAny_bind (wpAny_bind (thn (no h₃) λx s₄ h₄=>wpAny_bind (thn (no h₄) λ_ s₅ h₅=>wpAny_pure (wpAny_pure ⟨rfl,h₅⟩))))
end
theorem qp {X:Cx} {kd:Bool} {pins:List (Addr × Obj)} {σ:L2.St} {H:Hp} {s:Shared} {scope:Scope} {N:List Str} {fp:List Addr} (h:Ck kd X) (I:Inv X pins σ H s):Ck kd (aG X s H scope N fp):=by
 rcases h with h | ⟨hk,q,o,u,vs,e1,e2,e3,e4⟩
 · exact .inl h
 · exact .inr ⟨hk,q,o,u,vs,e1,I.base.frzs q o u e2,e3,e4⟩
noncomputable def dr (In:TG->TT->TE->Prop) (caps:List (Option Nat)) (wi:TI):TE:=λσ H Q=>wi σ H λJ H1=>∃ g tt te,In g tt te/\∀ D,H1 D=none ->
 ∃ Z:Nat->Nat->L2.St->Hp->Prop,(∃ m,Z 0 m (eK σ caps++[some (.ref D)]) (upd H1 D (.lst [])))/\∀ i m σ' H',Z i m σ' H' ->
   (J.stop i H'/\Q (.ref D) H')\/(J.go i H'/\∀ x H2,J.yld i H' x H2->g x σ' H2 λσ2 H3=>tt σ2 H3 λb H4=>
     if b=true then te σ2 H4 λv H5=>∃ vs m',H5 D=some (.lst vs)/\vs.length < sizeLine/\m' < m/\Z (i + 1) m' σ2 (upd H5 D (.lst (vs++[v]))) else ∃ m',m' < m/\Z (i + 1) m' σ2 H4)
theorem cD {X:Cx} {elt tg iter:Expr} {ifs:List Expr} {scope:Scope} {N:List Str} {caps:List (Option Nat)} {pos:Pos} {wi:TI} {In:TG->TT->TE->Prop} (c:cU X scope N caps) (hi:PI X tg iter wi)
   (hs:∀ x,foldedSetIterable iter X.env x=pure x)
   (hin:∀ g tt te,In g tt te->∀ s H fp,PG (aG X s H scope N fp) tg g/\PTs (aG X s H scope N fp) ifs tt/\PE (aG X s H scope N fp) elt te) :
   PE X (.ListComp elt [⟨tg,iter,ifs,0⟩] scope pos) (dr In caps wi):=by
 intro pins s σ H Q I h
 rw [eval_ListComp]
 have hcl:=qR (fY I c)
 refine wpAny_comprehension_free (use:=none) (g:=⟨tg,iter,ifs,0⟩) (gs:=[]) rfl hs hcl c.kind c.loc ?_
 show wpAny _ _ (eval iter X.env) _ _ s
 refine thn (hi pins s σ H _ I h) λv s1 h1=>thn h1 λitv s2 h2=>?_
 obtain ⟨kd,it,fp,tn,J,H2,e,I2,hck,T,st2,f2,g,tt,te,hI,q⟩:=h2
 have hc:=qp (scope:=scope) (N:=N) (fp:=fp) hck I2
 subst e
 obtain ⟨Z,⟨m0,z0⟩,turn⟩:=q s2.heap.objs.size (I2.hok.fresh (Nat.le_refl _))
 have ho:∀ b ∈ fp,∃ o,s2.heap.get? b=some o:=λb hb=>let ⟨o,e,_⟩:=T.obj _ _ st2 b hb; ⟨o,e⟩
 have I4:=mV (scope:=scope) (N:=N) (caps:=caps) I2 f2 ho c
 obtain ⟨hg,ht,he⟩:=hin g tt te hI s2 H2 fp
 refine wpAny_newObj_type (ku ?_) (by show 0<=sizeLine; decide)
 have hC:(s2.heap.push { cls:=.type "list",dict:=none,data:=.seq ([]:List Value).toArray }).objs.size=s2.heap.objs.size + 1:=Heap.size_push ..
 dsimp only
 rw [hC]
 have kp:∀ b o,s2.heap.get? b=some o->(pushCells ((s2.heap.push { cls:=.type "list",data:=.seq ([]:List Value).toArray }).push { cls:=.type "dict",data:=.dict #[] }) scope.names).get? b=some o:=λb o e=>
   pushCells_keeps _ _ b o (Heap.get?_push_of_some _ (Heap.get?_push_of_some _ e))
 have st4:tn 0 (pushCells ((s2.heap.push { cls:=.type "list",data:=.seq ([]:List Value).toArray }).push { cls:=.type "dict",data:=.dict #[] }) scope.names):=T.keep _ _ _ st2 λb _ o e=>kp b o e
 have stat:∀ {H':Hp},(∀ b ∈ fp,H' b=none)->∀ b ∈ fp,kn (aG X s2 H2 scope N fp) [] H' b:=λhn b hb=>
   ⟨hn b hb,(I4.ok.exf b hb).1,I4.ok.exfs b hb,.inl hb,(I4.ok.exf b hb).2,λp hp=>absurd (show p ∈ ([]:List (Addr × Obj)) from hp) (by simp)⟩
 have fr4:∀ b ∈ fp,(upd H2 s2.heap.objs.size (.lst [])) b=none:=λb hb=>by
   obtain ⟨o,e⟩:=ho b hb
   rw [aw (Nat.ne_of_lt (Heap.lt_size e))]; exact (f2 b hb).1
 have loop:codeAny (model X.prog X.w) X.A (.compLoop (.ListComp elt [⟨tg,iter,ifs,0⟩] scope pos) 0 (.ref it) (.ref s2.heap.objs.size) (aG X s2 H2 scope N fp).env)
     (compPost (model X.prog X.w) X.A X.xe none (EP X pins σ Q) (.ref s2.heap.objs.size) (s2.heap.objs.size + 1))
     { s2 with heap:=pushCells ((s2.heap.push { cls:=.type "list",data:=.seq ([]:List Value).toArray }).push { cls:=.type "dict",data:=.dict #[] }) scope.names }:=by
   refine jD (λn s'=>∃ i σ' H',Inv (aG X s2 H2 scope N fp) [] σ' H' s'/\tn i s'.heap/\(∀ b ∈ fp,H' b=none)/\Z i n σ' H') ?_ m0 ⟨0,_,_,I4,st4,fr4,z0⟩
   rintro n s3 ⟨i,σ3,H3,I3,st3,fr3,w3⟩
   rcases turn i n σ3 H3 w3 with ⟨stop,qn⟩ | ⟨go,step⟩
   · refine thn (T.done (aG X s2 H2 scope N fp) rfl rfl rfl hc i [] s3 σ3 H3 _ I3 (stat fr3) st3 stop) λr s5 ⟨hr,I5⟩=>?_
     subst hr
     obtain ⟨m,hn,_⟩:=id I5.loc
     refine ⟨m,hn,λh' sb=>⟨.ref s2.heap.objs.size,H3,?_,rfl,qn⟩⟩
     have lt:∀ b o,s2.heap.get? b=some o->b ≠ s2.heap.objs.size + 1:=λb o e=>Nat.ne_of_lt (Nat.lt_succ_of_lt (Heap.lt_size e))
     have u:=I5.base
     have u':Un (frs X.stack) fp H2 H3 s2.heap h':=⟨λb o e n1 n2 n3=>(sb.2 b (lt b o e)).trans (u.keep b o e n1 n2 n3),λb o e n1 n2 n3=>let ⟨sl,z⟩:=u.slot b o e n1 n2 n3; ⟨sl,(sb.2 b (lt b o e)).trans z⟩,
       u.free,λb o e n1=>let ⟨o',z⟩:=u.there b o e n1; ⟨o',(sb.2 b (lt b o e)).trans z⟩,u.tups,u.frzs,u.tbls⟩
     have fC:H3 (s2.heap.objs.size + 1)=none:=I5.free
     refine I2.xA (s':={ s5 with heap:=h' }) I5.os u' (λb o e=>(I5.hok b o e).jh (λd v hd z=>(sb.2 d ?_).trans z) (λ_ z=>z) λ_ _ z=>z) I5.bare λb hb=>⟨(f2 b hb).2.2.2.1,(f2 b hb).2.1,(f2 b hb).2.2.2.2.1,(f2 b hb).2.2.2.2.2⟩
     rcases hd with hd | hd
     · rw [hd]; exact aN e fC
     · exact aN hd fC
   · refine thn (T.item (aG X s2 H2 scope N fp) rfl rfl rfl hc i [] s3 σ3 H3 _ I3 (stat fr3) st3 go) λr s4 ⟨u,hr,h4⟩=>?_
     subst hr
     refine thn h4 λ_ s5 ⟨x,H5,I5,r5,y5,st5,fr5⟩=>?_
     have I5':=I5.pinned (stat fr5) (T.obj _ _ st5)
     refine thn (hg _ s5 σ3 H5 x u _ I5' r5 (step x H5 y5)) λ_ s6 ⟨σ6,H6,I6,q6⟩=>?_
     have again:∀ {s7:Shared} {σ7:L2.St} {H7:Hp} {m':Nat},Inv (aG X s2 H2 scope N fp) ([]++fZ fp s5.heap) σ7 H7 s7->m' < n->Z (i + 1) m' σ7 H7 ->
         ∃ m,m < n/\∃ i σ' H',Inv (aG X s2 H2 scope N fp) [] σ' H' s7/\tn i s7.heap/\(∀ b ∈ fp,H' b=none)/\Z i m σ' H':=λ{s7 σ7 H7 m'} I7 hm z7=>by
       refine ⟨m',hm,i + 1,σ7,H7,I7.dh,T.keep _ _ _ st5 λb hb o e=>(I7.pin (b,o) (List.mem_append_right _ (List.mem_append_right _ (bQ hb e)))).1,λb hb=>?_,z7⟩
       obtain ⟨o,e,d⟩:=T.obj _ _ st5 b hb
       exact (I7.pin (b,o) (List.mem_append_right _ (List.mem_append_right _ (bQ hb e)))).2.1
     refine thn (ht _ s6 σ6 H6 _ I6 q6) λok s7 ⟨H7,I7,q7⟩=>?_
     cases ok with
     | false=>
       rw [if_neg (by decide)] at q7
       obtain ⟨m',hm,z7⟩:=q7
       exact again I7 hm z7
     | true=>
       rw [if_pos rfl] at q7
       refine thn (he _ s7 σ6 H7 _ I7 q7) λv' s8 ⟨v,H8,I8,r8,vs,m',q8,l8,hm,z8⟩=>?_
       refine thn (dF (X:=aG X s2 H2 scope N fp) _ s8 σ6 H8 (.ref s2.heap.objs.size) [v] (.ref s2.heap.objs.size) [v'] (λ_ H9=>H9=upd H8 s2.heap.objs.size (.lst (vs++[v]))) I8 rfl (.cons r8 .nil) ⟨_,vs,v,rfl,rfl,q8,l8,rfl⟩) λ_ s9 ⟨_,H9,I9,_,e9⟩=>?_
       subst e9
       exact again I9 hm z8
 exact codeAny_compStart_list loop (T.self _ 0 _ _ _ st4 loop)
theorem gB {X:Cx} {gT:TG} {y:Str} {py spos:Pos} {elt tg iter:Expr} {ifs:List Expr} {scope:Scope} {N:List Str} {caps:List (Option Nat)} {pos:Pos} {wi:TI} {In:TG->TT->TE->Prop} (hT:PG X (.Name y py) gT) (c:cU X scope N caps) (hi:PI X tg iter wi)
   (hs:∀ x,foldedSetIterable iter X.env x=pure x)
   (hin:∀ g tt te,In g tt te->∀ s H fp,PG (aG X s H scope N fp) tg g/\PTs (aG X s H scope N fp) ifs tt/\PE (aG X s H scope N fp) elt te)
   (hsw:swapsWith (.ListComp elt [⟨tg,iter,ifs,0⟩] scope pos) (some (.Name y py)) spos.line X.env=pure true) :
   PS X (.Assign [.Name y py] (.ListComp elt [⟨tg,iter,ifs,0⟩] scope pos) spos) (yz (dr In caps wi) gT):=by
 intro pins s σ H D I h
 rw [exec_Assign_Name_used _ _ _ _ hsw]
 refine wpAny_bind (wpAny_standAt (wpAny_bind ?_))
 show wpAny _ _ (do let _ <- comprehension (.ListComp elt [⟨tg,iter,ifs,0⟩] scope pos) scope X.env _ (newList []) false _ (some (assign (.Name y py) X.env))) _ _ s
 refine wpAny_bind ?_
 have hcl:=qR (fY I c)
 refine wpAny_comprehension_free (use:=some (assign (.Name y py) X.env)) (Q:=λ_ s'=>wpAny (model X.prog X.w) X.A (pure ()) (λ_ s''=>wpAny (model X.prog X.w) X.A (pure Flow.next) (SP X pins D) X.xe s'') X.xe s') (g:=⟨tg,iter,ifs,0⟩) (gs:=[]) rfl hs hcl c.kind c.loc ?_
 show wpAny _ _ (eval iter X.env) _ _ s
 refine thn (hi pins s σ H _ I h) λv s1 h1=>thn h1 λitv s2 h2=>?_
 obtain ⟨kd,it,fp,tn,J,H2,e,I2,hck,T,st2,f2,g,tt,te,hI,q⟩:=h2
 have hc:=qp (scope:=scope) (N:=N) (fp:=fp) hck I2
 subst e
 obtain ⟨Z,⟨m0,z0⟩,turn⟩:=q s2.heap.objs.size (I2.hok.fresh (Nat.le_refl _))
 have ho:∀ b ∈ fp,∃ o,s2.heap.get? b=some o:=λb hb=>let ⟨o,e,_⟩:=T.obj _ _ st2 b hb; ⟨o,e⟩
 have I4:=mV (scope:=scope) (N:=N) (caps:=caps) I2 f2 ho c
 obtain ⟨hg,ht,he⟩:=hin g tt te hI s2 H2 fp
 refine wpAny_newObj_type (ku ?_) (by show 0<=sizeLine; decide)
 have hC:(s2.heap.push { cls:=.type "list",dict:=none,data:=.seq ([]:List Value).toArray }).objs.size=s2.heap.objs.size + 1:=Heap.size_push ..
 dsimp only
 rw [hC]
 have kp:∀ b o,s2.heap.get? b=some o->(pushCells ((s2.heap.push { cls:=.type "list",data:=.seq ([]:List Value).toArray }).push { cls:=.type "dict",data:=.dict #[] }) scope.names).get? b=some o:=λb o e=>
   pushCells_keeps _ _ b o (Heap.get?_push_of_some _ (Heap.get?_push_of_some _ e))
 have st4:tn 0 (pushCells ((s2.heap.push { cls:=.type "list",data:=.seq ([]:List Value).toArray }).push { cls:=.type "dict",data:=.dict #[] }) scope.names):=T.keep _ _ _ st2 λb _ o e=>kp b o e
 have stat:∀ {H':Hp},(∀ b ∈ fp,H' b=none)->∀ b ∈ fp,kn (aG X s2 H2 scope N fp) [] H' b:=λhn b hb=>
   ⟨hn b hb,(I4.ok.exf b hb).1,I4.ok.exfs b hb,.inl hb,(I4.ok.exf b hb).2,λp hp=>absurd (show p ∈ ([]:List (Addr × Obj)) from hp) (by simp)⟩
 have fr4:∀ b ∈ fp,(upd H2 s2.heap.objs.size (.lst [])) b=none:=λb hb=>by
   obtain ⟨o,e⟩:=ho b hb
   rw [aw (Nat.ne_of_lt (Heap.lt_size e))]; exact (f2 b hb).1
 have loop:codeAny (model X.prog X.w) X.A (.compLoop (.ListComp elt [⟨tg,iter,ifs,0⟩] scope pos) 0 (.ref it) (.ref s2.heap.objs.size) (aG X s2 H2 scope N fp).env)
     (compPost (model X.prog X.w) X.A X.xe (some (assign (.Name y py) X.env)) (λ_ s'=>wpAny (model X.prog X.w) X.A (pure ()) (λ_ s''=>wpAny (model X.prog X.w) X.A (pure Flow.next) (SP X pins D) X.xe s'') X.xe s') (.ref s2.heap.objs.size) (s2.heap.objs.size + 1))
     { s2 with heap:=pushCells ((s2.heap.push { cls:=.type "list",data:=.seq ([]:List Value).toArray }).push { cls:=.type "dict",data:=.dict #[] }) scope.names }:=by
   refine jD (λn s'=>∃ i σ' H',Inv (aG X s2 H2 scope N fp) [] σ' H' s'/\tn i s'.heap/\(∀ b ∈ fp,H' b=none)/\Z i n σ' H') ?_ m0 ⟨0,_,_,I4,st4,fr4,z0⟩
   rintro n s3 ⟨i,σ3,H3,I3,st3,fr3,w3⟩
   rcases turn i n σ3 H3 w3 with ⟨stop,qn⟩ | ⟨go,step⟩
   · refine thn (T.done (aG X s2 H2 scope N fp) rfl rfl rfl hc i [] s3 σ3 H3 _ I3 (stat fr3) st3 stop) λr s5 ⟨hr,I5⟩=>?_
     subst hr
     obtain ⟨m,hn,_⟩:=id I5.loc
     have I6:Inv X pins σ H3 s5:=by
       have lt:∀ b o,s2.heap.get? b=some o->b ≠ s2.heap.objs.size + 1:=λb o e=>Nat.ne_of_lt (Nat.lt_succ_of_lt (Heap.lt_size e))
       have u:=I5.base
       have u':Un (frs X.stack) fp H2 H3 s2.heap s5.heap:=⟨λb o e n1 n2 n3=>u.keep b o e n1 n2 n3,λb o e n1 n2 n3=>u.slot b o e n1 n2 n3,u.free,λb o e n1=>u.there b o e n1,u.tups,u.frzs,u.tbls⟩
       exact I2.xA (s':=s5) I5.os u' I5.hok I5.bare λb hb=>⟨(f2 b hb).2.2.2.1,(f2 b hb).2.1,(f2 b hb).2.2.2.2.1,(f2 b hb).2.2.2.2.2⟩
     have fC:H3 (s2.heap.objs.size + 1)=none:=I5.free
     have fk:kn X pins H3 (s2.heap.objs.size + 1):=I2.kg (Nat.le_succ _) fC
     obtain ⟨oC,es,ep,hoC,hdC,rC⟩:=id hn
     have hpin:=I6.pinned (fp:=[s2.heap.objs.size + 1]) (λb hb=>by rw [List.mem_singleton.mp hb]; exact fk) (λb hb=>by rw [List.mem_singleton.mp hb]; exact ⟨oC,hoC,λv z=>by rw [hdC] at z; cases z⟩)
     have hmem:(s2.heap.objs.size + 1,oC) ∈ fZ [s2.heap.objs.size + 1] s5.heap:=bQ (List.mem_singleton_self _) hoC
     refine thn (hT _ s5 σ H3 (.ref s2.heap.objs.size) (.ref s2.heap.objs.size) _ hpin rfl qn) λ_ s6 ⟨σ6,H6,I7,q7⟩=>?_
     obtain ⟨p1,p2,p3,p4,p5⟩:=I7.pin _ (List.mem_append_right _ (List.mem_append_right _ hmem))
     refine ⟨m,⟨oC,es,ep,p1,hdC,rC⟩,λh' sb=>wpAny_pure (wpAny_pure ?_)⟩
     refine ⟨σ6,H6,?_,q7⟩
     exact (I7.dh).turned (t':=s6.toks) (it:=s2.heap.objs.size + 1) (λb o hb e=>(sb.2 b hb).trans e) p2 p3 fk.2.2.2.1 fk.2.2.2.2.1 fk.2.2.2.2.2
   · refine thn (T.item (aG X s2 H2 scope N fp) rfl rfl rfl hc i [] s3 σ3 H3 _ I3 (stat fr3) st3 go) λr s4 ⟨u,hr,h4⟩=>?_
     subst hr
     refine thn h4 λ_ s5 ⟨x,H5,I5,r5,y5,st5,fr5⟩=>?_
     have I5':=I5.pinned (stat fr5) (T.obj _ _ st5)
     refine thn (hg _ s5 σ3 H5 x u _ I5' r5 (step x H5 y5)) λ_ s6 ⟨σ6,H6,I6,q6⟩=>?_
     have again:∀ {s7:Shared} {σ7:L2.St} {H7:Hp} {m':Nat},Inv (aG X s2 H2 scope N fp) ([]++fZ fp s5.heap) σ7 H7 s7->m' < n->Z (i + 1) m' σ7 H7 ->
         ∃ m,m < n/\∃ i σ' H',Inv (aG X s2 H2 scope N fp) [] σ' H' s7/\tn i s7.heap/\(∀ b ∈ fp,H' b=none)/\Z i m σ' H':=λ{s7 σ7 H7 m'} I7 hm z7=>by
       refine ⟨m',hm,i + 1,σ7,H7,I7.dh,T.keep _ _ _ st5 λb hb o e=>(I7.pin (b,o) (List.mem_append_right _ (List.mem_append_right _ (bQ hb e)))).1,λb hb=>?_,z7⟩
       obtain ⟨o,e,d⟩:=T.obj _ _ st5 b hb
       exact (I7.pin (b,o) (List.mem_append_right _ (List.mem_append_right _ (bQ hb e)))).2.1
     refine thn (ht _ s6 σ6 H6 _ I6 q6) λok s7 ⟨H7,I7,q7⟩=>?_
     cases ok with
     | false=>
       rw [if_neg (by decide)] at q7
       obtain ⟨m',hm,z7⟩:=q7
       exact again I7 hm z7
     | true=>
       rw [if_pos rfl] at q7
       refine thn (he _ s7 σ6 H7 _ I7 q7) λv' s8 ⟨v,H8,I8,r8,vs,m',q8,l8,hm,z8⟩=>?_
       refine thn (dF (X:=aG X s2 H2 scope N fp) _ s8 σ6 H8 (.ref s2.heap.objs.size) [v] (.ref s2.heap.objs.size) [v'] (λ_ H9=>H9=upd H8 s2.heap.objs.size (.lst (vs++[v]))) I8 rfl (.cons r8 .nil) ⟨_,vs,v,rfl,rfl,q8,l8,rfl⟩) λ_ s9 ⟨_,H9,I9,_,e9⟩=>?_
       subst e9
       exact again I9 hm z8
 exact codeAny_compStart_list loop (T.self _ 0 _ _ _ st4 loop)
end Ev
namespace Hy
open PySem PySem.Spec PyProof.Rows L2
open Ev (D Den au)
open Classical in
noncomputable def hd (H:Hp) (M:Addr->Prop):Hp:=λb=>if M b then none else H b
theorem ak {H:Hp} {M:Addr->Prop} {b:Addr} {o:HO}:hd H M b=some o ↔ ¬ M b/\H b=some o:=by
 unfold hd
 by_cases h:M b
 · rw [if_pos h]; exact ⟨λz=>(nomatch z),λz=>absurd h z.1⟩
 · rw [if_neg h]; exact ⟨λz=>⟨h,z⟩,λz=>z.2⟩
theorem ax {H H':Hp} {M M':Addr->Prop} (e:ah H H') (m:∀ b,M' b->M b):ah (hd H M) (hd H' M'):=λb _ h=>ak.mpr ⟨λz=>(ak.mp h).1 (m b z),e b _ (ak.mp h).2⟩
theorem aH {H:Hp} {M:Addr->Prop}:ah (hd H M) H:=λ_ _ h=>(ak.mp h).2
inductive Nd where
 | d (x:D) | l (xs:List Nd) | t (xs:List Nd)
structure Ex where
 p:PySem.W.Frag->Hp->HO->Addr->Prop
 mono:∀ {K:PySem.W.Frag} {G G':Hp} {o:HO} {a:Addr},ah G G'->p K G o a->p K G' o a
 ext:∀ {K:PySem.W.Frag} {G:Hp} {o:HO} {a:Addr},p K G o a->(∃ φ,o=.ext φ)\/(∃ ob φ,o=.frz ob (.ext φ))\/∃ kvs,o=.dK kvs\/∃ ob,o=.frz ob (.dK kvs)
inductive Sl where
 | un | d (x:D) | o (xs:List D) | n (t:Nd) | x (E:Ex)
mutual
inductive bo (K:PySem.W.Frag) (G H:Hp):V->List Addr->Nd->Prop where
 | d {u:V} {x:D} (h:Den K G u x):bo K G H u [] (.d x)
 | l {a:Addr} {vs:List V} {bs:List Addr} {xs:List Nd} (h:H a=some (.lst vs)) (r:aI K G H vs bs xs):bo K G H (.ref a) (a :: bs) (.l xs)
 | t {a:Addr} {vs:List V} {bs:List Addr} {xs:List Nd} (h:H a=some (.tup vs)) (r:aI K G H vs bs xs):bo K G H (.ref a) (a :: bs) (.t xs)
inductive aI (K:PySem.W.Frag) (G H:Hp):List V->List Addr->List Nd->Prop where
 | nil:aI K G H [] [] []
 | cons {v:V} {vs:List V} {b1 b2:List Addr} {s:Nd} {ss:List Nd} (h:bo K G H v b1 s) (r:aI K G H vs b2 ss):aI K G H (v :: vs) (b1++b2) (s :: ss)
end
noncomputable def bV (K:PySem.W.Frag) (G H:Hp) (v:Option V) (bs:List Addr):Sl->Prop
 | .un=>bs=[]
 | .d x=>bs=[]/\∃ u,v=some u/\Den K G u x
 | .o xs=>∃ a vs,bs=[a]/\v=some (.ref a)/\H a=some (.lst vs)/\au K G vs xs
 | .n t=>bs.Nodup/\∃ u,v=some u/\bo K G H u bs t
 | .x E=>∃ a o,bs=[a]/\v=some (.ref a)/\H a=some o/\E.p K G o a
section
variable {K:PySem.W.Frag} {G G' H H':Hp}
mutual
theorem bo.frame (g:ah G G'):∀ {u:V} {bs:List Addr} {t:Nd},(∀ b ∈ bs,H' b=H b)->bo K G H u bs t->bo K G' H' u bs t
 | _,_,_,_,.d h=>.d (h.mono g)
 | _,_,_,e,.l h r=>.l (by rw [e _ (List.mem_cons_self ..)]; exact h) (aI.frame g (λb hb=>e b (List.mem_cons_of_mem _ hb)) r)
 | _,_,_,e,.t h r=>.t (by rw [e _ (List.mem_cons_self ..)]; exact h) (aI.frame g (λb hb=>e b (List.mem_cons_of_mem _ hb)) r)
theorem aI.frame (g:ah G G'):∀ {vs:List V} {bs:List Addr} {xs:List Nd},(∀ b ∈ bs,H' b=H b)->aI K G H vs bs xs->aI K G' H' vs bs xs
 | _,_,_,_,.nil=>.nil
 | _,_,_,e,.cons h r=>.cons (bo.frame g (λb hb=>e b (List.mem_append_left _ hb)) h) (aI.frame g (λb hb=>e b (List.mem_append_right _ hb)) r)
end
mutual
theorem bo.some_of:∀ {u:V} {bs:List Addr} {t:Nd},bo K G H u bs t->∀ b ∈ bs,∃ o,H b=some o
 | _,_,_,.d _,_,z=>nomatch z
 | _,_,_,.l h r,b,z=>(List.mem_cons.mp z).elim (λe=>e ▸ ⟨_,h⟩) λz=>aI.some_of r b z
 | _,_,_,.t h r,b,z=>(List.mem_cons.mp z).elim (λe=>e ▸ ⟨_,h⟩) λz=>aI.some_of r b z
theorem aI.some_of:∀ {vs:List V} {bs:List Addr} {xs:List Nd},aI K G H vs bs xs->∀ b ∈ bs,∃ o,H b=some o
 | _,_,_,.nil,_,z=>nomatch z
 | _,_,_,.cons h r,b,z=>(List.mem_append.mp z).elim (λz=>bo.some_of h b z) λz=>aI.some_of r b z
end
theorem bo.mono (g:ah G G') (e:ah H H') {u:V} {bs:List Addr} {t:Nd} (h:bo K G H u bs t):bo K G' H' u bs t:=h.frame g λb hb=>by
 obtain ⟨o,q⟩:=h.some_of b hb
 rw [q,e b o q]
theorem bV.mono (g:ah G G') (e:ah H H') {v:Option V} {bs:List Addr}:∀ {s:Sl},bV K G H v bs s->bV K G' H' v bs s
 | .un,h=>h
 | .d _,⟨h,u,e1,h2⟩=>⟨h,u,e1,h2.mono g⟩
 | .o _,⟨a,vs,h1,h2,h3,h4⟩=>⟨a,vs,h1,h2,e _ _ h3,h4.mono g⟩
 | .n _,⟨h0,u,h1,h2⟩=>⟨h0,u,h1,h2.mono g e⟩
 | .x E,⟨a,o,h1,h2,h3,h4⟩=>⟨a,o,h1,h2,e _ _ h3,E.mono g h4⟩
end
noncomputable def own (A:Addr->Prop) (B:Nat->List Addr) (b:Addr):Prop:=A b\/∃ i,b ∈ B i
noncomputable def vw (C:Bool) (A:Addr->Prop) (B:Nat->List Addr):Addr->Prop:=match C with
 | true=>own A B
 | false=>A
structure Sta (K:PySem.W.Frag) (A:Addr->Prop) (H₀:Hp) (τ:List Sl) (B:Nat->List Addr) (σ:L2.St) (H:Hp):Prop where
 same:ah H₀ H
 len:σ.length=τ.length
 sl:∀ i s,τ[i]?=some s->bV K (hd H (own A B)) H (σ[i]?).join (B i) s
 fr:∀ i b,b ∈ B i->H₀ b=none
 uq:∀ i j b,b ∈ B i->b ∈ B j->i=j
 ad:∀ b,A b->∃ o,H₀ b=some o
 bd:∀ i b,b ∈ B i->∃ o,H b=some o
noncomputable def upB (B:Nat->List Addr) (i:Nat) (bs:List Addr):Nat->List Addr:=λj=>if j=i then bs else B j
section
variable {K:PySem.W.Frag} {A:Addr->Prop} {H₀ H H':Hp} {τ:List Sl} {B:Nat->List Addr} {σ:L2.St}
theorem Sta.dm (S:Sta K A H₀ τ B σ H) (b:Addr) (h:own A B b):∃ o,H b=some o:=h.elim (λz=>let ⟨o,q⟩:=S.ad b z; ⟨o,S.same _ _ q⟩) λ⟨i,z⟩=>S.bd i b z
theorem Sta.mono (S:Sta K A H₀ τ B σ H) (e:ah H H'):Sta K A H₀ τ B σ H' where
 same:=S.same.trans e
 len:=S.len
 sl:=λi s h=>(S.sl i s h).mono (ax e λ_ z=>z) e
 fr:=S.fr
 uq:=S.uq
 ad:=S.ad
 bd:=λi b h=>let ⟨o,q⟩:=S.bd i b h; ⟨o,e _ _ q⟩
theorem aX {i j:Nat} {bs:List Addr} {b:Addr} (h:b ∈ upB B i bs j):(j=i/\b ∈ bs)\/(j ≠ i/\b ∈ B j):=by
 unfold upB at h
 by_cases e:j=i
 · rw [if_pos e] at h; exact .inl ⟨e,h⟩
 · rw [if_neg e] at h; exact .inr ⟨e,h⟩
theorem Sta.set (S:Sta K A H₀ τ B σ H) (e:ah H H') {i:Nat} {v:V} {s:Sl} {bs:List Addr} (hf:∀ b ∈ bs,H b=none/\∃ o,H' b=some o) (h:bV K (hd H' λb=>own A B b\/b ∈ bs) H' (some v) bs s) :
   Sta K A H₀ (τ.set i s) (upB B i bs) (σ.set i (some v)) H':=by
 have sub:∀ b,own A (upB B i bs) b->own A B b\/b ∈ bs:=λb z=>z.elim (λz=>.inl (.inl z)) λ⟨j,z⟩=>(aX z).elim (λz=>.inr z.2) λz=>.inl (.inr ⟨j,z.2⟩)
 have some_of:∀ b j,b ∈ B j->∃ o,H b=some o:=λb j z=>S.dm b (.inr ⟨j,z⟩)
 refine ⟨S.same.trans e,by rw [List.length_set,List.length_set,S.len],λj t hj=>?_,λj b hb=>?_,λj k b h1 h2=>?_,S.ad,λj b hb=>?_⟩
 · by_cases ej:j=i
   · subst ej
     have hl:j < τ.length:=by
       have:=(List.getElem?_eq_some_iff.mp hj).1
       rwa [List.length_set] at this
     rw [List.getElem?_set_self hl] at hj
     cases hj
     rw [List.getElem?_set_self (by rw [S.len]; exact hl)]
     unfold upB
     rw [if_pos rfl]
     exact h.mono (ax (ah.refl _) sub) (ah.refl _)
   · rw [List.getElem?_set_ne (λz=>ej z.symm)] at hj
     rw [List.getElem?_set_ne (λz=>ej z.symm)]
     unfold upB
     rw [if_neg ej]
     have q:=S.sl j t hj
     refine q.mono (λb o z=>?_) e
     obtain ⟨z1,z2⟩:=ak.mp z
     refine ak.mpr ⟨λy=>?_,e _ _ z2⟩
     rcases sub b y with y | y
     · exact z1 y
     · rw [(hf b y).1] at z2; cases z2
 · rcases aX hb with ⟨_,z⟩ | ⟨_,z⟩
   · exact S.same.free (hf b z).1
   · exact S.fr j b z
 · rcases aX h1 with ⟨e1,z1⟩ | ⟨e1,z1⟩ <;> rcases aX h2 with ⟨e2,z2⟩ | ⟨e2,z2⟩
   · exact e1.trans e2.symm
   · obtain ⟨o,q⟩:=some_of b k z2; rw [(hf b z1).1] at q; cases q
   · obtain ⟨o,q⟩:=some_of b j z1; rw [(hf b z2).1] at q; cases q
   · exact S.uq j k b z1 z2
 · rcases aX hb with ⟨_,z⟩ | ⟨_,z⟩
   · exact (hf b z).2
   · obtain ⟨o,q⟩:=S.bd j b z; exact ⟨o,e _ _ q⟩
theorem Sta.less (S:Sta K A H₀ τ B σ H) {i:Nat} {s:Sl} {bs:List Addr} (hb:∀ b ∈ bs,b ∈ B i) (h:∀ G:Hp,ah (hd H (own A B)) G->(∀ b o,b ∈ B i->b ∉ bs->H b=some o->G b=some o)->bV K G H (σ[i]?).join bs s):Sta K A H₀ (τ.set i s) (upB B i bs) σ H:=by
 have sub:∀ b,own A (upB B i bs) b->own A B b:=λb z=>z.elim .inl λ⟨j,z⟩=>(aX z).elim (λz=>.inr ⟨i,hb b z.2⟩) λz=>.inr ⟨j,z.2⟩
 refine ⟨S.same,by rw [List.length_set,S.len],λj t hj=>?_,λj b h=>?_,λj k b h1 h2=>?_,S.ad,λj b h=>(aX h).elim (λz=>S.bd i b (hb b z.2)) λz=>S.bd j b z.2⟩
 · by_cases ej:j=i
   · subst ej
     have hl:j < τ.length:=by
       have:=(List.getElem?_eq_some_iff.mp hj).1
       rwa [List.length_set] at this
     rw [List.getElem?_set_self hl] at hj
     cases hj
     unfold upB
     rw [if_pos rfl]
     refine h _ (ax (ah.refl _) sub) λb o z1 z2 z3=>ak.mpr ⟨λy=>?_,z3⟩
     rcases y with y | ⟨m,y⟩
     · obtain ⟨_,q⟩:=S.ad b y
       rw [S.fr j b z1] at q; cases q
     · rcases aX y with ⟨e,y⟩ | ⟨e,y⟩
       · exact z2 y
       · exact e (S.uq m j b y z1)
   · rw [List.getElem?_set_ne (λz=>ej z.symm)] at hj
     unfold upB
     rw [if_neg ej]
     exact (S.sl j t hj).mono (ax (ah.refl _) sub) (ah.refl _)
 · rcases aX h with ⟨e,z⟩ | ⟨_,z⟩
   · exact S.fr i b (hb b z)
   · exact S.fr j b z
 · rcases aX h1 with ⟨e1,z1⟩ | ⟨e1,z1⟩ <;> rcases aX h2 with ⟨e2,z2⟩ | ⟨e2,z2⟩
   · exact e1.trans e2.symm
   · exact absurd (S.uq k i b z2 (hb b z1)) e2
   · exact absurd (S.uq j i b z1 (hb b z2)) e1
   · exact S.uq j k b z1 z2
end
end Hy
namespace Hy
open PySem PySem.Spec PyProof.Rows L2
open Ev (D Den au aE aD aj aT aJ)
noncomputable def Fr (H H':Hp) (bs:List Addr):Prop:=∀ b ∈ bs,H b=none/\∃ o,H' b=some o
noncomputable def dE (K:PySem.W.Frag) (C:Bool) (τ:List Sl) (s:Sl):TE:=λσ H Q=>∃ A H₀ B,Sta K A H₀ τ B σ H /\
 ∀ v H' bs,ah H H'->Fr H H' bs->bV K (hd H' λb=>vw C A B b\/b ∈ bs) H' (some v) bs s->Q v H'
noncomputable def dA (K:PySem.W.Frag) (C:Bool) (τ:List Sl) (ds:List D):TA:=λσ H Q=>∃ A H₀ B,Sta K A H₀ τ B σ H /\
 ∀ vs H',ah H H'->au K (hd H' (vw C A B)) vs ds->Q vs H'
noncomputable def dT (K:PySem.W.Frag) (τ:List Sl) (c:Bool):TT:=λσ H Q=>∃ A H₀ B,Sta K A H₀ τ B σ H/\∀ H',ah H H'->Q c H'
structure Po where
 nx:List Sl->Prop
 rt:Sl->Prop
 bk:List Sl->Prop:=λ_=>False
 ct:List Sl->Prop:=λ_=>False
 xc:Hp->Prop:=λ_=>True
structure Meets (K:PySem.W.Frag) (A:Addr->Prop) (H₀:Hp) (N:Po) (D:Ends):Prop where
 nx:∀ τ B σ H,N.nx τ->Sta K A H₀ τ B σ H->D.nx σ H
 bk:∀ τ B σ H,N.bk τ->Sta K A H₀ τ B σ H->D.bk σ H
 ct:∀ τ B σ H,N.ct τ->Sta K A H₀ τ B σ H->D.ct σ H
 rt:∀ v H bs s,N.rt s->ah H₀ H->Fr H₀ H bs->bV K (hd H λb=>A b\/b ∈ bs) H (some v) bs s->D.rt v H
 xc:∀ H,ah H₀ H->N.xc H
noncomputable def dS (K:PySem.W.Frag) (τ:List Sl) (N:Po):TS:=λD σ H=>∃ A H₀ B,Sta K A H₀ τ B σ H/\Meets K A H₀ N D
theorem peW {X:Cx} {e:Expr} {t t':TE} (h:PE X e t) (f:∀ σ H Q,t' σ H Q->t σ H Q):PE X e t':=λpins s σ H Q I q=>h pins s σ H Q I (f σ H Q q)
theorem ptW {X:Cx} {e:Expr} {t t':TT} (h:PT X e t) (f:∀ σ H Q,t' σ H Q->t σ H Q):PT X e t':=λpins s σ H Q I q=>h pins s σ H Q I (f σ H Q q)
theorem pwW {X:Cx} {e:Expr} {t t':TT} (h:PW X e t) (f:∀ σ H Q,t' σ H Q->t σ H Q):PW X e t':=λwh pins s σ H Q I q=>h wh pins s σ H Q I (f σ H Q q)
theorem paW {X:Cx} {e:List Expr} {t t':TA} (h:PA X e t) (f:∀ σ H Q,t' σ H Q->t σ H Q):PA X e t':=λp pins s σ H Q I q=>h p pins s σ H Q I (f σ H Q q)
theorem psW {X:Cx} {e:Stmt} {t t':TS} (h:PS X e t) (f:∀ D σ H,t' D σ H->t D σ H):PS X e t':=λpins s σ H D I q=>h pins s σ H D I (f D σ H q)
theorem ot {X:Cx} {e:List Stmt} {t t':TS} (h:PSs X e t) (f:∀ D σ H,t' D σ H->t D σ H):PSs X e t':=λpins s σ H D I q=>h pins s σ H D I (f D σ H q)
section
variable {K:PySem.W.Frag} {C:Bool} {τ:List Sl} {A:Addr->Prop} {H₀ H H':Hp} {B:Nat->List Addr} {σ:L2.St} {x y z:D} {Q:VK}
theorem ie {b:Addr} (h:vw C A B b):own A B b:=by
 cases C with
 | true=>exact h
 | false=>exact .inl h
theorem Sta.vd (S:Sta K A H₀ τ B σ H) (b:Addr) (h:vw C A B b):∃ o,H b=some o:=S.dm b (ie h)
theorem aL (S:Sta K A H₀ τ B σ H) (k:∀ v H',ah H H'->Den K (hd H' (vw C A B)) v x->Q v H'):dE K C τ (.d x) σ H Q:=
 ⟨A,H₀,B,S,λv H' bs e _ ⟨hb,u,eu,h⟩=>by
   cases eu
   exact k v H' e (h.mono (ax (ah.refl _) λ_ z=>.inl z))⟩
theorem cJ (h:dE K C τ (.d x) σ H Q):∃ A H₀ B,Sta K A H₀ τ B σ H/\∀ v H',ah H H'->Den K (hd H' (vw C A B)) v x->Q v H':=by
 obtain ⟨A,H₀,B,S,k⟩:=h
 exact ⟨A,H₀,B,S,λv H' e d=>k v H' [] e (λ_ z=>nomatch z) ⟨rfl,v,rfl,d.mono (ax (ah.refl _) λ_ z=>z.elim id λz=>nomatch z)⟩⟩
theorem fP {ds:List D} {Q:List V->Hp->Prop} (S:Sta K A H₀ τ B σ H) (k:∀ vs H',ah H H'->au K (hd H' (vw C A B)) vs ds->Q vs H'):dA K C τ ds σ H Q:=⟨A,H₀,B,S,k⟩
theorem jZ {M:Addr->Prop} {p:Addr} {o:HO} (hM:∀ b,M b->∃ o,H b=some o) (hp:H p=none):hd (upd H p o) M p=some o:=
 ak.mpr ⟨λz=>(by obtain ⟨o,q⟩:=hM p z; rw [hp] at q; cases q),aA⟩
mutual
noncomputable def ndD:Nd->D
 | .d x=>x
 | .l xs=>.lst (lX xs)
 | .t xs=>.tup (lX xs)
noncomputable def lX:List Nd->List D
 | []=>[]
 | x :: xs=>ndD x :: lX xs
end
noncomputable def fzD:Sl->Option D
 | .un=>none
 | .d x=>some x
 | .o xs=>some (.lst xs)
 | .n t=>some (ndD t)
 | .x _=>none
mutual
theorem bo.den {G G':Hp} (g:ah G G'):∀ {u:V} {bs:List Addr} {t:Nd},(∀ b ∈ bs,∀ o,H b=some o->G' b=some o)->bo K G H u bs t->Den K G' u (ndD t)
 | _,_,_,_,.d h=>h.mono g
 | _,_,_,e,.l h r=>.lst (SqL.of (e _ (List.mem_cons_self ..) _ h)) (aI.den g (λb hb=>e b (List.mem_cons_of_mem _ hb)) r)
 | _,_,_,e,.t h r=>.tup (SqT.of (e _ (List.mem_cons_self ..) _ h)) (aI.den g (λb hb=>e b (List.mem_cons_of_mem _ hb)) r)
theorem aI.den {G G':Hp} (g:ah G G'):∀ {vs:List V} {bs:List Addr} {xs:List Nd},(∀ b ∈ bs,∀ o,H b=some o->G' b=some o)->aI K G H vs bs xs->au K G' vs (lX xs)
 | _,_,_,_,.nil=>.nil
 | _,_,_,e,.cons h r=>.cons (bo.den g (λb hb=>e b (List.mem_append_left _ hb)) h) (aI.den g (λb hb=>e b (List.mem_append_right _ hb)) r)
end
theorem bV.den {G G':Hp} {v:Option V} {bs:List Addr} {s:Sl} (h:bV K G H v bs s) (g:ah G G') (hv:∀ b ∈ bs,∀ o,H b=some o->G' b=some o) (e:fzD s=some x):∃ u,v=some u/\Den K G' u x:=by
 cases s with
 | un=>cases e
 | d y=>cases e; obtain ⟨_,u,e,q⟩:=h; exact ⟨u,e,q.mono g⟩
 | o xs=>
   cases e
   obtain ⟨a,vs,rfl,h2,h3,h4⟩:=h
   exact ⟨_,h2,.lst (SqL.of (hv a (List.mem_cons_self ..) _ h3)) (h4.mono g)⟩
 | n t=>
   cases e
   obtain ⟨_,u,e,q⟩:=h
   exact ⟨u,e,q.den g hv⟩
 | x E=>cases e
theorem slot_of {i:Nat} {u:V} (h:(σ[i]?).join=some u):σ[i]?=some (some u):=by
 cases e:σ[i]? with
 | none=>rw [e] at h; cases h
 | some o=>rw [e] at h; exact congrArg some h
end
section
variable {X:Cx} {C:Bool} {τ:List Sl} {x y z:D} {a b e:Expr} {es:List Expr} {pos:Pos}
theorem aa (i:Nat) {n:Str} {x:D} (h:τ[i]?=some (.d x):=by rfl) (hN:X.N[i]?=some n:=by rfl) (hv:Vis X.env.scope n:=by first | exact Or.inl rfl | exact Or.inr (Or.inl rfl) | exact Or.inr (Or.inr rfl))
   (hd:(n == ("__debug__" : Str))=false:=by decide) (hcd:(n == ("__classdict__" : Str))=false:=by decide):PE X (.Name n pos) (dE X.K C τ (.d x)):=peW (bH hN hv hd hcd) λσ H Q q=>by
 obtain ⟨A,H₀,B,S,k⟩:=cJ q
 obtain ⟨_,u,e,d⟩:=S.sl i _ h
 exact ⟨u,slot_of e,k u H (ah.refl _) (d.mono (ax (ah.refl _) λ_ z=>ie z))⟩
theorem mS {v:V} (h:PE X e (tC v)) (d:∀ H,Den X.K H v x):PE X e (dE X.K C τ (.d x)):=peW h λσ H Q q=>by
 obtain ⟨A,H₀,B,S,k⟩:=cJ q
 exact k v H (ah.refl _) (d _)
theorem af {i j}:PE X (.Constant (.int i) j pos) (dE X.K C τ (.d (.int i))):=mS oy λ_=>.int
theorem u9 {b j}:PE X (.Constant (.bool b) j pos) (dE X.K C τ (.d (.bl b))):=mS A5 λ_=>.bl
theorem nY {j}:PE X (.Constant .none j pos) (dE X.K C τ (.d .non)):=mS zD λ_=>.non
theorem yA {n:Str} {i:Int} (hm:∃ t,X.mg n=some (.int i t)) (hg:Gl X n:=by rfl) (hd:(n == ("__debug__" : Str))=false:=by decide):PE X (.Name n pos) (dE X.K C τ (.d (.int i))):=by
 obtain ⟨t,hm⟩:=hm
 exact mS (qz (v:=.int i) hg hm ⟨t,rfl⟩ hd) λ_=>.int
theorem bP {s:Sl} (h:PE X e (dE X.K C τ s)) (hx:fzD s=some x:=by rfl):PE X e (dE X.K C τ (.d x)):=peW h λσ H Q q=>by
 obtain ⟨A,H₀,B,S,k⟩:=cJ q
 refine ⟨A,H₀,B,S,λv H' bs e hf q=>?_⟩
 have vd:=S.vd (C:=C)
 obtain ⟨u,e1,d⟩:=q.den (G':=Hy.hd H' (vw C A B)) (ax (ah.refl _) λ_ z=>.inl z) (λb hb o ho=>ak.mpr ⟨λz=>(by obtain ⟨_,q⟩:=vd b z; rw [(hf b hb).1] at q; cases q),ho⟩) hx
 cases e1
 exact k v H' e d
noncomputable def flat:D->Bool
 | .tup _=>false
 | .lst _=>false
 | .box _=>false
 | _=>true
theorem dD {K:PySem.W.Frag} {G G':Hp} {v:V} (h:Den K G v x) (f:flat x=true):Den K G' v x:=by
 cases h with
 | non=>exact .non
 | bl=>exact .bl
 | int=>exact .int
 | str=>exact .str
 | tup _ _=>cases f
 | lst _ _=>cases f
 | box _=>cases f
theorem yk (h:PE X e (dE X.K false τ (.d x))) (f:flat x=true:=by rfl):PE X e (dE X.K C τ (.d x)):=peW h λσ H Q q=>by
 obtain ⟨A,H₀,B,S,k⟩:=cJ q
 exact aL S λv H' e d=>k v H' e (dD d f)
noncomputable def b8 (X:Cx) (f:Value->Value->Sem Value) (x y z:D):Prop:=∃ r:R2,OpR X f r /\
 ∀ (M:Addr->Prop) (v w:V) (H:Hp) (Q:VK),(∀ b,M b->∃ o,H b=some o)->Den X.K (hd H M) v x->Den X.K (hd H M) w y->(∀ u H',ah H H'->Den X.K (hd H' M) u z->Q u H')->r v w H Q
theorem two {r:R2} (hr:∀ (M:Addr->Prop) (v w:V) (H:Hp) (Q:VK),(∀ b,M b->∃ o,H b=some o)->Den X.K (hd H M) v x->Den X.K (hd H M) w y->(∀ u H',ah H H'->Den X.K (hd H' M) u z->Q u H')->r v w H Q) :
   ∀ σ H Q,dE X.K C τ (.d z) σ H Q->tOp r (dE X.K C τ (.d x)) (dE X.K C τ (.d y)) σ H Q:=by
 intro σ H Q h
 obtain ⟨A,H₀,B,S,k⟩:=cJ h
 refine aL S λv H1 e1 d1=>aL (S.mono e1) λw H2 e2 d2=>hr (vw C A B) v w H2 Q ((S.mono e1).mono e2).vd (d1.mono (ax e2 λ_ z=>z)) d2 λu H' e3 d3=>k u H' (e1.trans (e2.trans e3)) d3
theorem aC {op:Operator} (ha:PE X a (dE X.K C τ (.d x))) (hb:PE X b (dE X.K C τ (.d y))) (ho:b8 X (binaryOp op) x y z):PE X (.BinOp a op b pos) (dE X.K C τ (.d z)):=by
 obtain ⟨r,h1,h2⟩:=ho
 exact peW (xt h1 ha hb) (two h2)
theorem g9 {op:CmpOp} (ha:PE X a (dE X.K C τ (.d x))) (hb:PE X b (dE X.K C τ (.d y))) (ho:b8 X (compareOp op) x y z) (hm:behindInMarks op b=false:=by first | exact sX _ | rfl):PE X (.Compare a [op] [b] pos) (dE X.K C τ (.d z)):=by
 obtain ⟨r,h1,h2⟩:=ho
 exact peW (w9 h1 ha hb hm) (two h2)
theorem tE {t:TE} {c:Bool} (h:∀ σ H Q,dE X.K false τ (.d (.bl c)) σ H Q->t σ H Q):∀ σ H Q,dT X.K τ c σ H Q->t σ H λx H'=>∃ k,x=.bl k/\Q k H':=λσ H Q ⟨A,H₀,B,S,k⟩=>
 h σ H _ (aL S λv H' e d=>by cases d; exact ⟨c,rfl,k H' e⟩)
theorem bu {op:CmpOp} {c:Bool} (ha:PE X a (dE X.K false τ (.d x))) (hb:PE X b (dE X.K false τ (.d y))) (ho:b8 X (compareOp op) x y (.bl c)) (hm:behindInMarks op b=false:=by first | exact sX _ | rfl):PT X (.Compare a [op] [b] pos) (dT X.K τ c):=by
 obtain ⟨r,h1,h2⟩:=ho
 exact ptW (vJ h1 ha hb hm) (tE (two h2))
theorem eF {c:Bool} (h:PE X e (dE X.K false τ (.d (.bl c)))) (he:∀ whole,isTrue e X.env whole=(do let v <- whole; standAt e.pos; holding [v] (truthy v)):=by intro _; rfl):PT X e (dT X.K τ c):=
 ptW (y8 h he) (tE λ_ _ _ q=>q)
theorem k7 {g:Int->Int->V} {P:Int->Int->Prop} {i j:Int} (hc:P i j) (hz:∀ K H,Den K H (g i j) z):∀ (M:Addr->Prop) (v w:V) (H:Hp) (Q:VK),(∀ b,M b->∃ o,H b=some o)->Den X.K (hd H M) v (.int i)->Den X.K (hd H M) w (.int j) ->
   (∀ u H',ah H H'->Den X.K (hd H' M) u z->Q u H')->rI P g v w H Q:=λ_ v w H Q _ d1 d2 k=>by
 cases d1
 cases d2
 exact ⟨i,j,rfl,rfl,hc,k _ H (ah.refl _) (hz _ _)⟩
theorem iG {g:Int->Int->V} {i j:Int} (hz:∀ K H,Den K H (g i j) z):∀ (M:Addr->Prop) (v w:V) (H:Hp) (Q:VK),(∀ b,M b->∃ o,H b=some o)->Den X.K (hd H M) v (.int i)->Den X.K (hd H M) w (.int j) ->
   (∀ u H',ah H H'->Den X.K (hd H' M) u z->Q u H')->rI0 g v w H Q:=λ_ v w H Q _ d1 d2 k=>by
 cases d1
 cases d2
 exact ⟨i,j,rfl,rfl,k _ H (ah.refl _) (hz _ _)⟩
variable {i j:Int}
theorem bj:b8 X (binaryOp .Add) (.int i) (.int j) (.int (i + j)):=⟨_,zO,iG λ_ _=>.int⟩
theorem fW:b8 X (binaryOp .Sub) (.int i) (.int j) (.int (i - j)):=⟨_,zd,iG λ_ _=>.int⟩
theorem Bh:b8 X (binaryOp .BitAnd) (.int i) (.int j) (.int (Builtin.bitAnd i j)):=⟨_,yM,iG λ_ _=>.int⟩
theorem Cp:b8 X (binaryOp .BitOr) (.int i) (.int j) (.int (Builtin.bitOr i j)):=⟨_,Bq,iG λ_ _=>.int⟩
theorem aE.ok' {i j:Int} (h:aE i j):IntMulOk i j:=by
 have b:∀ {k:Int} {n:Nat},k.natAbs.log2 < n->Builtin.Int.intBits k<=n:=λ{k n} q=>by
   unfold Builtin.Int.intBits
   split
   · exact Nat.zero_le _
   · exact q
 rcases h with h | h | ⟨h1,h2⟩
 · exact .of_left (b h)
 · exact .of_right (b h)
 · exact .of_bits (Nat.le_trans (b h1) (by decide)) (Nat.le_trans (b h2) (by decide))
theorem bb (h:aE i j):b8 X (binaryOp .Mult) (.int i) (.int j) (.int (i * j)):=⟨rI aE λi j=>.int (i * j),opI λ_ _ _ _ _ _ _ hc q=>mul_int q (aE.ok' hc),k7 h λ_ _=>.int⟩
theorem a9 (h:aD j):b8 X (binaryOp .FloorDiv) (.int i) (.int j) (.int (i.fdiv j)):=⟨rI (λ_ j=>aD j) λi j=>.int (i.fdiv j),opI λ_ _ _ _ _ _ _ hc q=>floordiv_int hc.1 q (.inl (PyProof.noPylong_of_log2 hc.2)),k7 h λ_ _=>.int⟩
theorem fh (h:j ≠ 0):b8 X (binaryOp .Mod) (.int i) (.int j) (.int (i.fmod j)):=⟨_,vC,k7 h λ_ _=>.int⟩
theorem Bn (h:v8 i j):b8 X (binaryOp .Pow) (.int i) (.int j) (.int (i ^ j.toNat)):=⟨_,yW,k7 h λ_ _=>.int⟩
theorem Ac (h:v8 i j):b8 X (binaryOp .LShift) (.int i) (.int j) (.int (i * 2 ^ j.toNat)):=⟨_,zS,k7 h λ_ _=>.int⟩
theorem Bl (h:0<=j):b8 X (binaryOp .RShift) (.int i) (.int j) (.int (i / 2 ^ j.toNat)):=⟨_,yT,k7 h λ_ _=>.int⟩
theorem uO:b8 X (compareOp .Lt) (.int i) (.int j) (.bl (decide (i < j))):=⟨_,Ap,iG λ_ _=>.bl⟩
theorem AD:b8 X (compareOp .LtE) (.int i) (.int j) (.bl (decide (i<=j))):=⟨_,AM,iG λ_ _=>.bl⟩
theorem ud:b8 X (compareOp .Gt) (.int i) (.int j) (.bl (decide (j < i))):=⟨_,Bb,iG λ_ _=>.bl⟩
theorem Be:b8 X (compareOp .GtE) (.int i) (.int j) (.bl (decide (j<=i))):=⟨_,z9,iG λ_ _=>.bl⟩
theorem ju:b8 X (compareOp .Eq) (.int i) (.int j) (.bl (decide (i=j))):=⟨_,BD,λ_ v w H Q _ d1 d2 k=>by
 cases d1
 cases d2
 exact ⟨rfl,by rw [show decide (V.int i=V.int j)=decide (i=j) by simp]; exact k _ H (ah.refl _) .bl⟩⟩
theorem vz:b8 X (compareOp .NotEq) (.int i) (.int j) (.bl (!decide (i=j))):=⟨_,AB,λ_ v w H Q _ d1 d2 k=>by
 cases d1
 cases d2
 exact ⟨rfl,by rw [show decide (V.int i=V.int j)=decide (i=j) by simp]; exact k _ H (ah.refl _) .bl⟩⟩
theorem jS (h:PE X a (dE X.K C τ (.d (.int i)))):PE X (.UnaryOp .USub a pos) (dE X.K C τ (.d (.int (-i)))):=peW (A2 y7 h) λσ H Q q=>by
 obtain ⟨A,H₀,B,S,k⟩:=cJ q
 refine aL S λv H1 e1 d1=>?_
 cases d1
 exact ⟨i,rfl,k _ H1 e1 .int⟩
theorem sQ {e:Expr}:PE X e λ_ _ _=>False:=λ_ _ _ _ _ _ h=>h.elim
theorem pw_no {e:Expr}:PW X e λ_ _ _=>False:=λ_ _ _ _ _ _ _ h=>h.elim
variable {p q:Bool} {c:Expr} {rest:List Expr}
theorem qA {op} {s:Sl} (h:PE X a (dE X.K C τ s)):PE X (.BoolOp op [a] pos) (dE X.K C τ s):=zI h
theorem qW (ha:PE X a (dE X.K C τ (.d (.bl p)))) (hb:p=true->PE X (.BoolOp .And (b :: rest) pos) (dE X.K C τ (.d (.bl q)))):PE X (.BoolOp .And (a :: b :: rest) pos) (dE X.K C τ (.d (.bl (p && q)))):=by
 cases p with
 | false=>
   refine peW (uk ha sQ) λσ H Q z=>?_
   obtain ⟨A,H₀,B,S,k⟩:=cJ z
   exact aL S λv H' e d=>by cases d; exact ⟨_,rfl,k _ H' e .bl⟩
 | true=>
   refine peW (uk ha (hb rfl)) λσ H Q z=>?_
   obtain ⟨A,H₀,B,S,k⟩:=cJ z
   exact aL S λv H' e d=>by cases d; exact ⟨_,rfl,aL (S.mono e) λv H2 e2 d2=>k v H2 (e.trans e2) d2⟩
theorem BI (ha:PE X a (dE X.K C τ (.d (.bl p)))):PE X (.UnaryOp .Not a pos) (dE X.K C τ (.d (.bl (!p)))):=peW (x8 ha) λσ H Q z=>by
 obtain ⟨A,H₀,B,S,k⟩:=cJ z
 exact aL S λv H' e d=>by cases d; exact ⟨_,rfl,k _ H' e .bl⟩
theorem kG (ha:PT X a (dT X.K τ p)):PW X (.BoolOp .Or [a] pos) (dT X.K τ p):=pw_or1 ha
theorem mJ (ha:PT X a (dT X.K τ p)) (hb:p=false->PW X (.BoolOp .Or (b :: rest) pos) (dT X.K τ q)):PW X (.BoolOp .Or (a :: b :: rest) pos) (dT X.K τ (p || q)):=by
 cases p with
 | true=>exact pwW (pw_or ha pw_no) λσ H Q ⟨A,H₀,B,S,k⟩=>⟨A,H₀,B,S,λH' e=>rN (k H' e)⟩
 | false=>exact pwW (pw_or ha (hb rfl)) λσ H Q ⟨A,H₀,B,S,k⟩=>⟨A,H₀,B,S,λH' e=>sA (⟨A,H₀,B,S.mono e,λH2 e2=>k H2 (e.trans e2)⟩)⟩
theorem e7 (ha:PT X a (dT X.K τ p)):PT X (.UnaryOp .Not a pos) (dT X.K τ (!p)):=ptW (yu ha) λσ H Q ⟨A,H₀,B,S,k⟩=>⟨A,H₀,B,S,λH' e=>k H' e⟩
theorem xH {s:Sl} (hc:PT X c (dT X.K τ p)) (ha:p=true->PE X a (dE X.K C τ s)) (hb:p=false->PE X b (dE X.K C τ s)):PE X (.IfExp c a b pos) (dE X.K C τ s):=by
 have fin:∀ {σ H H' Q} {A:Addr->Prop} {H₀ B},Sta X.K A H₀ τ B σ H->(∀ v H' bs,ah H H'->Fr H H' bs->bV X.K (hd H' λb=>vw C A B b\/b ∈ bs) H' (some v) bs s->Q v H')->ah H H'->dE X.K C τ s σ H' Q:=λS k e=>
   ⟨_,_,_,S.mono e,λv H2 bs e2 hf h=>k v H2 bs (e.trans e2) (λb hb=>⟨e.free (hf b hb).1,(hf b hb).2⟩) h⟩
 cases p with
 | true=>exact peW (oj hc (ha rfl) sQ) λσ H Q ⟨A,H₀,B,S,k⟩=>⟨A,H₀,B,S,λH' e=>rN (fin S k e)⟩
 | false=>exact peW (oj hc sQ (hb rfl)) λσ H Q ⟨A,H₀,B,S,k⟩=>⟨A,H₀,B,S,λH' e=>sA (fin S k e)⟩
theorem v9 {op op':CmpOp} (ha:PE X a (dE X.K C τ (.d x))) (hb:PE X b (dE X.K C τ (.d y))) (hc:PE X c (dE X.K C τ (.d z))) (h1:b8 X (compareOp op) x y (.bl p)) (h2:b8 X (compareOp op') y z (.bl q))
   (hm:lastMarks [op,op'] [b,c]=false:=by with_unfolding_all rfl):PE X (.Compare a [op,op'] [b,c] pos) (dE X.K C τ (.d (.bl (p && q))))/\(C=false->PT X (.Compare a [op,op'] [b,c] pos) (dT X.K τ (p && q))):=by
 obtain ⟨r,o1,k1⟩:=h1
 obtain ⟨r',o2,k2⟩:=h2
 have key:∀ σ H Q,dE X.K C τ (.d (.bl (p && q))) σ H Q->pF r r' (dE X.K C τ (.d x)) (dE X.K C τ (.d y)) (dE X.K C τ (.d z)) σ H Q:=λσ H Q h=>by
   obtain ⟨A,H₀,B,S,k⟩:=cJ h
   refine aL S λv H1 e1 d1=>aL (S.mono e1) λw H2 e2 d2=>k1 (vw C A B) v w H2 _ ((S.mono e1).mono e2).vd (d1.mono (ax e2 λ_ z=>z)) d2 λu H3 e3 d3=>?_
   cases d3
   refine ⟨p,rfl,?_⟩
   cases p with
   | false=>exact sA (k _ H3 (e1.trans (e2.trans e3)) .bl)
   | true=>exact rN (aL (((S.mono e1).mono e2).mono e3) λw' H4 e4 d4=>k2 (vw C A B) w w' H4 Q ((((S.mono e1).mono e2).mono e3).mono e4).vd (d2.mono (ax (e3.trans e4) λ_ z=>z)) d4 λu H5 e5 d5=>k u H5 (e1.trans (e2.trans (e3.trans (e4.trans e5)))) d5)
 exact ⟨peW (tG o1 o2 ha hb hc hm) key,λhC=>by subst hC; exact ptW (uR o1 o2 ha hb hc hm) (tE key)⟩
theorem ag:PA X [] (dA X.K C τ []):=paW c8 λσ H Q ⟨A,H₀,B,S,k⟩=>k [] H (ah.refl _) .nil
theorem ae {ds:List D} (ha:PE X e (dE X.K C τ (.d x))) (hr:PA X es (dA X.K C τ ds)) (hs:starEach (e :: es) X.env=(false,eval e X.env) :: starEach es X.env:=by rfl):PA X (e :: es) (dA X.K C τ (x :: ds)):=paW (bJ ha hr hs) λσ H Q ⟨A,H₀,B,S,k⟩=>
 aL S λv H1 e1 d1=>fP (S.mono e1) λvs H2 e2 d2=>k _ H2 (e1.trans e2) (.cons (d1.mono (ax e2 λ_ z=>z)) d2)
theorem cw {ds:List D} {m} (h:PA X es (dA X.K C τ ds)) (hl:Nat.ble ds.length 1000=true:=by rfl):PE X (.Tuple es m pos) (dE X.K C τ (.d (.tup ds))):=peW (ui h) λσ H Q q=>by
 obtain ⟨A,H₀,B,S,k⟩:=cJ q
 refine fP S λvs H1 e1 d1=>⟨by rw [d1.length]; exact Nat.le_of_lt (kU (Nat.le_of_ble_eq_true hl)),λp hp=>k _ _ (e1.trans (aj hp _)) ?_⟩
 exact .tup (SqT.of (jZ (S.mono e1).vd hp)) (d1.mono (ax (aj hp _) λ_ z=>z))
theorem iF {ds:List D} (h:PA X es (dA X.K C τ ds)) (hl:Nat.ble ds.length 1000=true:=by rfl):PE X (.List es pos) (dE X.K C τ (.o ds)):=peW (yJ h) λσ H Q ⟨A,H₀,B,S,k⟩=>
 fP S λvs H1 e1 d1=>⟨by rw [d1.length]; exact Nat.le_of_lt (kU (Nat.le_of_ble_eq_true hl)),λp hp=>k _ _ [p] (e1.trans (aj hp _)) (λb hb=>by
   obtain rfl:=List.mem_singleton.mp hb
   exact ⟨e1.free hp,_,aA⟩) ⟨p,vs,rfl,rfl,aA,d1.mono λb o z=>by
     obtain ⟨z1,z2⟩:=ak.mp z
     refine ak.mpr ⟨λy=>?_,aj hp _ _ _ z2⟩
     rcases y with y | y
     · exact z1 y
     · rw [List.mem_singleton.mp y] at z2; rw [hp] at z2; cases z2⟩⟩
end
noncomputable def spD (K:PySem.W.Frag) (Φ:List D->Sl->Prop):Sp:=λvs H Q _=>∃ A ds s,(∀ b,A b->∃ o,H b=some o)/\au K (hd H A) vs ds/\Φ ds s /\
 ∀ v H' bs,ah H H'->Fr H H' bs->bV K (hd H' λb=>A b\/b ∈ bs) H' (some v) bs s->Q v H'
noncomputable def Cal (P:Program) (w:World) (K:PySem.W.Frag) (mg:Str->Option Value) (base:Heap) (k:Nat) (n:Str) (Φ:List D->Sl->Prop):Prop:=
 ∃ f fd ps,aS P w K mg base CX0 k f fd ps (spD K Φ)/\mg n=some (.ref f)/\PySem.W.keepIn K (.ref f)=true/\Binds K fd ps []
theorem Cal.mono {P:Program} {w:World} {K:PySem.W.Frag} {mg:Str->Option Value} {base:Heap} {j k:Nat} {n:Str} {Φ:List D->Sl->Prop} (c:Cal P w K mg base j n Φ) (h:j<=k):Cal P w K mg base k n Φ:=
 let ⟨f,fd,ps,F,r⟩:=c; ⟨f,fd,ps,F.mono h,r⟩
noncomputable def aq:List Str:=["len","abs","max","min","int","bool","list","tuple","str","isinstance","range","enumerate","all","zip","sorted","sum","any","reversed"]
structure Bk (X:Cx) (k:Nat):Prop where
 room:eJ k X.A
 calm:X.calm=true
 blt:∀ x ∈ aq,X.mg x=none
 po:PassesOwn (model X.prog X.w) X.A X.env X.xe
section
variable {X:Cx} {C:Bool} {τ:List Sl} {x y z:D} {a b e:Expr} {es:List Expr} {pos p:Pos} {k:Nat} {s:Sl} {ds:List D} {i j:Int}
theorem x_call {n:Str} {Φ:List D->Sl->Prop} (B:Bk X k) (c:Cal X.prog X.w X.K X.mg X.base k n Φ) (ha:PA X (e :: es) (dA X.K C τ ds)) (h:Φ ds s) (hg:Gl X n:=by rfl) (hdb:(n == ("__debug__" : Str))=false:=by decide)
   (he:starEach (e :: es) X.env=(false,eval e X.env) :: starEach es X.env:=by rfl) (hpl:(backTo pos (starEach es X.env)).any (·.1)=false:=by rfl):PE X (.Call (.Name n p) (e :: es) [] pos) (dE X.K C τ s):=by
 obtain ⟨f,fd,ps,F,hm,hk,hb⟩:=c
 refine peW (vR F B.room hg hm hk hb .nil Br ha hdb he hpl) λσ H Q ⟨A,H₀,B,S,q⟩=>fP S λvs H1 e1 d1=>?_
 rw [List.append_nil]
 exact ⟨vw C A B,ds,s,(S.mono e1).vd,d1,h,λv H' bs e2 hf h2=>q v H' bs (e1.trans e2) (λb hb=>⟨e1.free (hf b hb).1,(hf b hb).2⟩) h2⟩
noncomputable def gf (X:Cx) (f:Value) (ds:List D) (s:Sl):Prop:=∃ r:List V->Hp->VK->Prop,eI X f r /\
 ∀ (M:Addr->Prop) (vs:List V) (H:Hp) (Q:VK),(∀ b,M b->∃ o,H b=some o)->au X.K (hd H M) vs ds->(∀ u H' bs,ah H H'->Fr H H' bs->bV X.K (hd H' λb=>M b\/b ∈ bs) H' (some u) bs s->Q u H')->r vs H Q
theorem uM {r:List V->Hp->VK->Prop} (hr:∀ (M:Addr->Prop) (vs:List V) (H:Hp) (Q:VK),(∀ b,M b->∃ o,H b=some o)->au X.K (hd H M) vs ds->(∀ u H' bs,ah H H'->Fr H H' bs->bV X.K (hd H' λb=>M b\/b ∈ bs) H' (some u) bs s->Q u H')->r vs H Q) :
   ∀ σ H Q,dE X.K C τ s σ H Q->tCB r (dA X.K C τ ds) σ H Q:=λσ H Q ⟨A,H₀,B,S,q⟩=>
 fP S λvs H1 e1 d1=>hr (vw C A B) vs H1 Q (S.mono e1).vd d1 λv H' bs e2 hf h2=>q v H' bs (e1.trans e2) (λb hb=>⟨e1.free (hf b hb).1,(hf b hb).2⟩) h2
theorem bx {n:Str} {id:String} (B:Bk X k) (ha:PA X (e :: es) (dA X.K C τ ds)) (c:gf X (.builtin id) ds s) (hn:n ∈ aq:=by decide) (hg:Gl X n:=by rfl) (hv:bootBuiltins n=some (.builtin id):=by decide +kernel) (h1:n ≠ "__name__":=by decide) (hdb:(n == ("__debug__" : Str))=false:=by decide)
   (he:starEach (e :: es) X.env=(false,eval e X.env) :: starEach es X.env:=by rfl) (hpl:(backTo pos (starEach es X.env)).any (·.1)=false:=by rfl):PE X (.Call (.Name n p) (e :: es) [] pos) (dE X.K C τ s):=by
 obtain ⟨r,h1,h2⟩:=c
 exact peW (m5 h1 hg (B.blt _ hn) hv ha (by assumption) hdb he hpl) (uM h2)
theorem rD {n:Str} {T:String} (B:Bk X k) (ha:PA X (e :: es) (dA X.K C τ ds)) (c:gf X (.type T) ds s) (hn:n ∈ aq:=by decide) (hg:Gl X n:=by rfl) (hv:bootBuiltins n=some (.type T):=by decide +kernel) (h1:n ≠ "__name__":=by decide) (hdb:(n == ("__debug__" : Str))=false:=by decide)
   (he:starEach (e :: es) X.env=(false,eval e X.env) :: starEach es X.env:=by rfl) (hpl:(backTo pos (starEach es X.env)).any (·.1)=false:=by rfl):PE X (.Call (.Name n p) (e :: es) [] pos) (dE X.K C τ s):=by
 obtain ⟨r,h1,h2⟩:=c
 exact peW (kH h1 hg (B.blt _ hn) hv ha (by assumption) hdb he hpl) (uM h2)
theorem iT {K:PySem.W.Frag} {H:Hp} {M:Addr->Prop} {v:V} (h:Den K (hd H M) v x):bV K (hd H λb=>M b\/b ∈ ([]:List Addr)) H (some v) [] (.d x):=⟨rfl,v,rfl,h.mono (ax (ah.refl _) λ_ z=>z.elim id λz=>nomatch z)⟩
theorem eX {H H':Hp}:Fr H H' []:=λ_ z=>nomatch z
theorem iL {xs:List D}:gf X (.builtin "len") [.lst xs] (.d (.int xs.length)):=⟨_,gZ,λM vs H Q _ d q=>by
 cases d with
 | cons d r=>
   cases r
   cases d with
   | lst h r=>
     refine ⟨_,_,rfl,.inl (aJ aH h),?_⟩
     rw [r.length]
     exact q _ H [] (ah.refl _) eX (iT .int)⟩
theorem lS {xs:List D}:gf X (.builtin "len") [.tup xs] (.d (.int xs.length)):=⟨_,gZ,λM vs H Q _ d q=>by
 cases d with
 | cons d r=>
   cases r
   cases d with
   | tup h r=>
     refine ⟨_,_,rfl,.inr (aT aH h),?_⟩
     rw [r.length]
     exact q _ H [] (ah.refl _) eX (iT .int)⟩
noncomputable def vZ (i:Int):Int:=if i < 0 then -i else i
theorem mX:gf X (.builtin "abs") [.int i] (.d (.int (vZ i))):=⟨_,sG,λM vs H Q _ d q=>by
 cases d with
 | cons d r=>
   cases r
   cases d
   exact ⟨_,rfl,q _ H [] (ah.refl _) eX (iT .int)⟩⟩
theorem vh (hc:X.calm=true):gf X (.builtin "min") [.int i,.int j] (.d (.int (if j < i then j else i))):=⟨_,si hc,λM vs H Q _ d q=>by
 cases d with
 | cons d r=>
   cases r with
   | cons d' r=>
     cases r
     cases d
     cases d'
     exact ⟨_,_,rfl,q _ H [] (ah.refl _) eX (iT .int)⟩⟩
theorem xB {c:Bool}:gf X (.type "int") [.bl c] (.d (.int (if c then 1 else 0))):=⟨_,r9,λM vs H Q _ d q=>by
 cases d with
 | cons d r=>
   cases r
   cases d
   exact .inr ⟨_,rfl,q _ H [] (ah.refl _) eX (iT .int)⟩⟩
theorem jQ {K:PySem.W.Frag} {H:Hp} {M:Addr->Prop} {p:Addr} {vs:List V} {xs:List D} (hp:H p=none) (d:au K (hd H M) vs xs) :
   ah H (upd H p (.lst vs))/\Fr H (upd H p (.lst vs)) [p]/\bV K (hd (upd H p (.lst vs)) λb=>M b\/b ∈ [p]) (upd H p (.lst vs)) (some (.ref p)) [p] (.o xs):=
 ⟨aj hp _,λb hb=>by
   obtain rfl:=List.mem_singleton.mp hb
   exact ⟨hp,_,aA⟩,p,vs,rfl,rfl,aA,d.mono λb o z=>by
     obtain ⟨z1,z2⟩:=ak.mp z
     refine ak.mpr ⟨λy=>?_,aj hp _ _ _ z2⟩
     rcases y with y | y
     · exact z1 y
     · rw [List.mem_singleton.mp y] at z2; rw [hp] at z2; cases z2⟩
theorem sF {xs:List D}:gf X (.type "list") [.lst xs] (.o xs):=⟨_,gp,λM vs H Q _ d q=>by
 cases d with
 | cons d r=>
   cases r
   cases d with
   | lst h r=>
     refine ⟨_,_,rfl,.inl (aJ aH h),λp hp=>?_⟩
     obtain ⟨z1,z2,z3⟩:=jQ (K:=X.K) (M:=M) hp r
     exact q _ _ [p] z1 z2 z3⟩
theorem q9 {xs:List D}:gf X (.type "list") [.tup xs] (.o xs):=⟨_,gp,λM vs H Q _ d q=>by
 cases d with
 | cons d r=>
   cases r
   cases d with
   | tup h r=>
     refine ⟨_,_,rfl,.inr (aT aH h),λp hp=>?_⟩
     obtain ⟨z1,z2,z3⟩:=jQ (K:=X.K) (M:=M) hp r
     exact q _ _ [p] z1 z2 z3⟩
theorem uV {K:PySem.W.Frag} {H:Hp} {vs:List V} {ds:List D} {i:Int} {d:D} (r:au K H vs ds) (h:atI ds i=some d):∃ v,atI vs i=some v/\Den K H v d:=by
 unfold atI at h ⊢
 rw [r.length]
 cases e:ixN ds.length i with
 | none=>rw [e] at h; cases h
 | some j=>rw [e] at h; exact r.get h
noncomputable def zA (X:Cx) (x y z:D):Prop:=∃ r:R2,IxR X r /\
 ∀ (M:Addr->Prop) (v w:V) (H:Hp) (Q:VK),(∀ b,M b->∃ o,H b=some o)->Den X.K (hd H M) v x->Den X.K (hd H M) w y->(∀ u H',ah H H'->Den X.K (hd H' M) u z->Q u H')->r v w H Q
theorem aM (ha:PE X a (dE X.K C τ (.d x))) (hb:PE X b (dE X.K C τ (.d y))) (ho:zA X x y z) (hs:lh b:=by exact λ_ _=>rfl):PE X (.Subscript a b pos) (dE X.K C τ (.d z)):=by
 obtain ⟨r,h1,h2⟩:=ho
 exact peW (xU h1 ha hb hs) (two h2)
theorem aW {xs:List D} (h:atI xs i=some z):zA X (.lst xs) (.int i) z:=⟨_,rb,λM v w H Q _ d1 d2 q=>by
 cases d2
 cases d1 with
 | lst hs r=>
   obtain ⟨v,e,d⟩:=uV r h
   exact ⟨_,_,_,_,rfl,rfl,aJ aH hs,e,q _ H (ah.refl _) d⟩⟩
theorem aQ {xs:List D} (h:atI xs i=some z):zA X (.tup xs) (.int i) z:=⟨_,yD,λM v w H Q _ d1 d2 q=>by
 cases d2
 cases d1 with
 | tup hs r=>
   obtain ⟨v,e,d⟩:=uV r h
   exact ⟨_,_,_,_,rfl,rfl,aT aH hs,e,q _ H (ah.refl _) d⟩⟩
noncomputable def dO (K:PySem.W.Frag) (τ:List Sl) (c:Option Int):TO:=λσ H Q=>∃ A H₀ B,Sta K A H₀ τ B σ H/\∀ H',ah H H'->Q c H'
theorem AR {e:Option Expr} {t t':TO} (h:PO X e t) (f:∀ σ H Q,t' σ H Q->t σ H Q):PO X e t':=λpins s σ H Q I q=>h pins s σ H Q I (f σ H Q q)
theorem pB:PO X none (dO X.K τ none):=AR xl λσ H Q ⟨A,H₀,B,S,k⟩=>k H (ah.refl _)
theorem cL (h:PE X e (dE X.K false τ (.d (.int i)))):PO X (some e) (dO X.K τ (some i)):=AR (wO h) λσ H Q ⟨A,H₀,B,S,k⟩=>aL S λv H1 e1 d1=>by
 cases d1
 exact ⟨_,rfl,k H1 e1⟩
noncomputable def cutD (xs:List D) (lo hi:Option Int):List D:=(xs.drop (HT.sIx xs.length 0 lo)).take (HT.sIx xs.length xs.length hi - HT.sIx xs.length 0 lo)
theorem wK {lo hi:Option Expr} {l u:Option Int} {xs:List D} {p2:Pos} (ha:PE X a (dE X.K C τ (.d (.lst xs)))) (hl:PO X lo (dO X.K τ l)) (hu:PO X hi (dO X.K τ u)):PE X (.Subscript a (.Slice lo hi none p2) pos) (dE X.K C τ (.o (cutD xs l u))):=
 peW (mT v3 ha hl hu) λσ H Q ⟨A,H₀,B,S,k⟩=>aL S λv H1 e1 d1=>⟨A,H₀,B,S.mono e1,λH2 e2=>⟨A,H₀,B,(S.mono e1).mono e2,λH3 e3=>by
   cases d1 with
   | @lst _ ws _ h r=>
     have h:=aJ (e2.trans e3) (aJ aH h)
     refine ⟨_,_,rfl,h,λp hp=>?_⟩
     have r:=r.mono (ax (e2.trans e3) λ_ z=>z)
     have r':au X.K (hd H3 (vw C A B)) (jA ws l u) (cutD xs l u):=by
       unfold jA cutD
       rw [r.length]
       exact (r.drop _).take _
     obtain ⟨z1,z2,z3⟩:=jQ (K:=X.K) hp r'
     exact k _ _ [p] (e1.trans (e2.trans (e3.trans z1))) (λb hb=>⟨(e1.trans (e2.trans e3)).free (z2 b hb).1,(z2 b hb).2⟩) z3⟩⟩
inductive Ty where
 | int | bool | str | list | tuple
noncomputable def tyN:Ty->String
 | .int=>"int" | .bool=>"bool" | .str=>"str" | .list=>"list" | .tuple=>"tuple"
noncomputable def Bo:D->String
 | .non=>"NoneType" | .bl _=>"bool" | .int _=>"int" | .str _=>"str" | .tup _=>"tuple" | .lst _=>"list" | .box _=>"dict"
noncomputable def nc:Ty->D->Bool
 | .int,.int _=>true
 | .int,.bl _=>true
 | .bool,.bl _=>true
 | .str,.str _=>true
 | .list,.lst _=>true
 | .tuple,.tup _=>true
 | _,_=>false
theorem zT (K:PySem.W.Frag) (d:D) (t:Ty):PySem.W.kitOne K (.type (Bo d)) (.type (tyN t))=some (nc t d):=by
 cases d <;> cases t <;> (show PySem.W.kitOne K (.type _) (.type _)=some _) <;> with_unfolding_all rfl
theorem yG (t:Ty):eI X (.builtin "isinstance") (λxs H Q=>∃ G x d,ah G H/\xs=[x,.ty (tyN t)]/\Den X.K G x d/\Q (.bl (nc t d)) H):=by
 intro pins s σ H xs us Q I r q
 obtain ⟨G,x,d,sg,rfl,dx,q⟩:=q
 obtain ⟨u,w,rfl,rx,rt⟩:∃ u w,us=[u,w]/\RelV x u/\RelV (.ty (tyN t)) w:=by
   cases r with
   | cons r1 r=>cases r with
     | cons r2 r=>cases r; exact ⟨_,_,rfl,r1,r2⟩
 cases (show w=Value.type (tyN t) from rt)
 have kt:=zT X.K d t
 have fin:∀ tk,EP X pins σ Q (.bool (nc t d)) { s with toks:=tk }:=λtk=>⟨.bl _,H,I.tok _,rfl,q⟩
 cases dx with
 | non=>cases (show u=Value.none from rx); exact PySem.W.kia_one PySem.W.kitx_none I.kIn True.intro kt (λz=>nomatch z) fin
 | bl=>cases (show u=Value.bool _ from rx); exact PySem.W.kia_one PySem.W.kitx_bool I.kIn True.intro kt (λz=>nomatch z) fin
 | int=>obtain ⟨t',z⟩:=(show ∃ t,u=Value.int _ t from rx); cases z; exact PySem.W.kia_one PySem.W.kitx_int I.kIn True.intro kt (λz=>nomatch z) fin
 | str=>obtain ⟨t',z⟩:=(show ∃ t,u=Value.str _ t from rx); cases z; exact PySem.W.kia_one PySem.W.kitx_str I.kIn True.intro kt (λz=>nomatch z) fin
 | tup h r1=>
   cases (show u=Value.ref _ from rx)
   obtain ⟨its,_,⟨o,h1,h2,_⟩,_⟩:=I.tuple (aT sg h)
   exact PySem.W.kia_one PySem.W.kitx_tuple I.kIn ⟨o,h1,h2⟩ kt (λz=>nomatch z) fin
 | lst h r1=>
   cases (show u=Value.ref _ from rx)
   obtain ⟨its,_,⟨o,n,h1,h2,_⟩,_⟩:=I.list (aJ sg h)
   exact PySem.W.kia_one PySem.W.kitx_list I.kIn ⟨o,h1,h2⟩ kt (λz=>nomatch z) fin
 | @box a x h=>
   cases (show u=Value.ref _ from rx)
   obtain ⟨o',h1,h2⟩:=x.isd h
   obtain ⟨o,h3,h4⟩:=h2 _ _ _ _ (I.hok a _ (sg _ _ h1))
   exact PySem.W.kia_one PySem.W.kitx_dict I.kIn ⟨o,h3,h4⟩ kt (λz=>nomatch z) fin
theorem kJ {n:Str} {q:Pos} (t:Ty) (B:Bk X k) (ha:PE X a (dE X.K false τ (.d x))) (hn:n ∈ aq:=by decide) (ht:bootBuiltins n=some (.type (tyN t)):=by decide +kernel) (hg:Gl X "isinstance":=by rfl) (hg':Gl X n:=by rfl) (h1:n ≠ "__name__":=by decide) (hdb:(n == ("__debug__" : Str))=false:=by decide)
   (he:starEach [a,.Name n q] X.env=(false,eval a X.env) :: starEach [.Name n q] X.env:=by rfl) (hpl:(backTo pos (starEach [.Name n q] X.env)).any (·.1)=false:=by rfl):PE X (.Call (.Name "isinstance" p) [a,.Name n q] [] pos) (dE X.K C τ (.d (.bl (nc t x)))):=by
 refine peW (m5 (yG t) hg (B.blt _ (by decide)) (by decide +kernel) (bJ ha (bJ (vI (v:=.ty (tyN t)) hg' (B.blt _ hn) ht rfl h1 hdb) c8) he) (by decide) (by decide) he hpl) λσ H Q q=>?_
 obtain ⟨A,H₀,B,S,k⟩:=cJ q
 exact aL S λv H1 e1 d1=>⟨_,v,x,aH,rfl,d1,k _ H1 e1 .bl⟩
end
section
variable {K:PySem.W.Frag} {A:Addr->Prop} {H₀ H H':Hp} {τ:List Sl} {B:Nat->List Addr} {σ:L2.St}
theorem Sta.put (S:Sta K A H₀ τ B σ H) {i:Nat} {a:Addr} {xs ys:List D} {vs:List V} (hi:τ[i]?=some (.o xs)) (hB:B i=[a]) (d:au K (hd H (own A B)) vs ys):Sta K A H₀ (τ.set i (.o ys)) B σ (upd H a (.lst vs)):=by
 have ha:own A B a:=.inr ⟨i,by rw [hB]; exact List.mem_singleton.mpr rfl⟩
 have ne:∀ b,b ≠ a->upd H a (.lst vs) b=H b:=λb h=>aw h
 have sm:ah (hd H (own A B)) (hd (upd H a (.lst vs)) (own A B)):=λb o z=>by
   obtain ⟨z1,z2⟩:=ak.mp z
   exact ak.mpr ⟨z1,by rw [ne b (λe=>z1 (e ▸ ha))]; exact z2⟩
 have f0:H₀ a=none:=S.fr i a (by rw [hB]; exact List.mem_singleton.mpr rfl)
 have hs:ah H₀ (upd H a (.lst vs)):=λb o z=>by rw [ne b (λe=>by rw [e,f0] at z; cases z)]; exact S.same b o z
 refine ⟨hs,by rw [List.length_set,S.len],λj t hj=>?_,S.fr,S.uq,S.ad,λj b hb=>?_⟩
 · by_cases ej:j=i
   · subst ej
     have hl:=(List.getElem?_eq_some_iff.mp hi).1
     rw [List.getElem?_set_self hl] at hj
     cases hj
     obtain ⟨a',vs',e1,e2,_,_⟩:=S.sl j _ hi
     rw [hB] at e1
     cases e1
     exact ⟨a,vs,hB,e2,aA,d.mono sm⟩
   · rw [List.getElem?_set_ne (λz=>ej z.symm)] at hj
     have q:=S.sl j t hj
     have off:∀ b ∈ B j,b ≠ a:=λb hb e=>ej (S.uq j i a (e ▸ hb) (by rw [hB]; exact List.mem_singleton.mpr rfl))
     cases t with
     | un=>exact q
     | d x=>obtain ⟨z,u,e,d⟩:=q; exact ⟨z,u,e,d.mono sm⟩
     | o zs=>
       obtain ⟨c,ws,z1,z2,z3,z4⟩:=q
       exact ⟨c,ws,z1,z2,by rw [ne c (off c (by rw [z1]; exact List.mem_singleton.mpr rfl))]; exact z3,z4.mono sm⟩
     | n t=>
       obtain ⟨z0,u,z1,z2⟩:=q
       exact ⟨z0,u,z1,z2.frame sm λb hb=>ne b (off b hb)⟩
     | x E=>
       obtain ⟨c,o,z1,z2,z3,z4⟩:=q
       exact ⟨c,o,z1,z2,by rw [ne c (off c (by rw [z1]; exact List.mem_singleton.mpr rfl))]; exact z3,E.mono sm z4⟩
 · by_cases e:b=a
   · subst e; exact ⟨_,aA⟩
   · rw [ne b e]; exact S.bd j b hb
theorem Sta.fz (S:Sta K A H₀ τ B σ H) {i:Nat} {s:Sl} {x:D} (hi:τ[i]?=some s) (hx:fzD s=some x):Sta K A H₀ (τ.set i (.d x)) (upB B i []) σ H:=
 S.less (λ_ z=>nomatch z) λG g hv=>by
   obtain ⟨u,e,d⟩:=(S.sl i s hi).den (G':=G) g (λb hb o ho=>hv b o hb (λz=>nomatch z) ho) hx
   exact ⟨rfl,u,e,d⟩
end
section
variable {X:Cx} {C:Bool} {τ:List Sl} {x y z:D} {a b e c:Expr} {es:List Expr} {pos p:Pos} {k:Nat} {s:Sl} {ds:List D} {N:Po} {st:Stmt} {rest body els:List Stmt}
theorem aP (h:N.nx τ):PSs X [] (dS X.K τ N):=ot vm λD σ H ⟨A,H₀,B,S,M⟩=>M.nx τ B σ H h S
theorem aZ {M:List Sl->Prop} (h1:PS X st (dS X.K τ { N with nx:=M })) (h2:∀ τ',M τ'->PSs X rest (dS X.K τ' N)):PSs X (st :: rest) (dS X.K τ N):=by
 have h:PSs X rest λD σ H=>∃ τ',M τ'/\dS X.K τ' N D σ H:=λpins s σ H D I ⟨τ',m,q⟩=>h2 τ' m pins s σ H D I q
 exact ot (tD h1 h) λD σ H ⟨A,H₀,B,S,Me⟩=>⟨A,H₀,B,S,λτ' B' σ' H' m S'=>⟨τ',m,A,H₀,B',S',Me⟩,Me.bk,Me.ct,Me.rt,Me.xc⟩
theorem A3 (i:Nat) {s:Sl} {x:D} (h:PSs X rest (dS X.K (τ.set i (.d x)) N)) (hi:τ[i]?=some s:=by rfl) (hx:fzD s=some x:=by rfl):PSs X rest (dS X.K τ N):=ot h λD σ H ⟨A,H₀,B,S,Me⟩=>⟨A,H₀,_,S.fz hi hx,Me⟩
theorem aB (i:Nat) {n:Str} {p:Pos} (hN:X.N.Nodup) (he:PE X e (dE X.K true τ s)) (hr:PSs X rest (dS X.K (τ.set i s) N)) (hi:X.N[i]?=some n:=by rfl) (hx:Loc X.env.scope n:=by first | exact .inl rfl | exact .inr rfl) (hs:swapsWith e (some (.Name n p)) pos.line X.env=pure false:=by rfl)
   (hf:X.fn n=true\/X.env.scope.names.lookup n=some .local:=by first | exact .inl rfl | exact .inr rfl | assumption):PSs X (.Assign [.Name n p] e pos :: rest) (dS X.K τ N):=
 aZ (M:=(·=τ.set i s)) (psW (zf hN hi hx he hs hf) λD σ H ⟨A,H₀,B,S,Me⟩=>⟨A,H₀,B,S,λv H' bs e hf h=>Me.nx _ _ _ _ rfl (S.set e hf h)⟩) λ_ e=>e ▸ hr
theorem lW (he:PE X e (dE X.K true τ s)) (hr:PSs X rest (dS X.K τ N)) (hs:swapsWith e none pos.line X.env=pure false:=by rfl):PSs X (.Expr e pos :: rest) (dS X.K τ N):=
 aZ (M:=(·=τ)) (psW (fB he hs) λD σ H ⟨A,H₀,B,S,Me⟩=>⟨A,H₀,B,S,λv H' bs e hf h=>Me.nx _ _ _ _ rfl (S.mono e)⟩) λ_ e=>e ▸ hr
theorem aO (he:PE X e (dE X.K false τ s)) (h:N.rt s):PSs X (.Return (some e) pos :: rest) (dS X.K τ N):=
 aZ (M:=λ_=>False) (psW (pM he) λD σ H ⟨A,H₀,B,S,Me⟩=>⟨A,H₀,B,S,λv H' bs e hf q=>Me.rt v H' bs s h (S.same.trans e) (λb hb=>⟨S.same.free (hf b hb).1,(hf b hb).2⟩) q⟩) λ_ e=>e.elim
theorem mr (i:Nat) {n:Str} (h:N.rt s) (hi:τ[i]?=some s:=by rfl) (h0:s ≠ .un:=by exact nofun) (hN:X.N[i]?=some n:=by rfl) (hv:Vis X.env.scope n:=by first | exact Or.inl rfl | exact Or.inr (Or.inl rfl) | exact Or.inr (Or.inr rfl))
   (hd:(n == ("__debug__" : Str))=false:=by decide) (hcd:(n == ("__classdict__" : Str))=false:=by decide):PSs X (.Return (some (.Name n p)) pos :: rest) (dS X.K τ N):=
 aZ (M:=λ_=>False) (psW (pM (bH hN hv hd hcd)) λD σ H ⟨A,H₀,B,S,Me⟩=>by
   have q:=S.sl i s hi
   obtain ⟨u,e⟩:∃ u,(σ[i]?).join=some u:=by
     cases s with
     | un=>exact absurd rfl h0
     | d x=>obtain ⟨_,u,e,_⟩:=q; exact ⟨u,e⟩
     | o xs=>obtain ⟨_,_,_,e,_⟩:=q; exact ⟨_,e⟩
     | n t=>obtain ⟨_,u,e,_⟩:=q; exact ⟨u,e⟩
     | x E=>obtain ⟨_,_,_,e,_⟩:=q; exact ⟨_,e⟩
   rw [e] at q
   exact ⟨u,slot_of e,Me.rt u H (B i) s h S.same (λb hb=>⟨S.fr i b hb,S.bd i b hb⟩) (q.mono (ax (ah.refl _) λb z=>z.elim .inl λz=>.inr ⟨i,z⟩) (ah.refl _))⟩) λ_ e=>e.elim
theorem xK {H H':Hp} {σ:L2.St} {D:Ends} {A:Addr->Prop} {H₀:Hp} {B:Nat->List Addr} (S:Sta X.K A H₀ τ B σ H) (Me:Meets X.K A H₀ N D) (e:ah H H'):dS X.K τ N D σ H':=⟨A,H₀,B,S.mono e,Me⟩
theorem Cs {t:Bool} (hc:PT X c (dT X.K τ t)) (ha:t=true->PSs X body (dS X.K τ N)) (hb:t=false->PSs X els (dS X.K τ N)):PS X (.If c body els pos) (dS X.K τ N):=by
 cases t with
 | true=>exact psW (xJ hc (ha rfl) kI) λD σ H ⟨A,H₀,B,S,Me⟩=>⟨A,H₀,B,S,λH' e=>rN (xK S Me e)⟩
 | false=>exact psW (xJ hc kI (hb rfl)) λD σ H ⟨A,H₀,B,S,Me⟩=>⟨A,H₀,B,S,λH' e=>sA (xK S Me e)⟩
theorem ny {t:Bool} {M:List Sl->Prop} (hc:PT X c (dT X.K τ t)) (ha:t=true->PSs X body (dS X.K τ { N with nx:=M })) (hb:t=false->PSs X els (dS X.K τ { N with nx:=M })) (hr:∀ τ',M τ'->PSs X rest (dS X.K τ' N)):PSs X (.If c body els pos :: rest) (dS X.K τ N):=
 aZ (Cs hc ha hb) hr
theorem fx {t:Bool} (hc:PT X c (dT X.K τ t)) (ha:t=true->PSs X body (dS X.K τ { N with nx:=λ_=>False })) (hr:t=false->PSs X rest (dS X.K τ N)):PSs X (.If c body [] pos :: rest) (dS X.K τ N):=by
 cases t with
 | true=>exact ny (M:=λ_=>False) hc ha (λz=>nomatch z) λ_ z=>z.elim
 | false=>exact ny (M:=(·=τ)) hc (λz=>nomatch z) (λ_=>aP rfl) λ_ e=>e ▸ hr rfl
theorem fS {t:Bool} (hc:PT X c (dT X.K τ t)) (ht:t=false) (hr:PSs X rest (dS X.K τ N)):PSs X (.If c body [] pos :: rest) (dS X.K τ N):=fx hc (λz=>by rw [ht] at z; cases z) λ_=>hr
theorem xN (i:Nat) {n:Str} {xs:List D} {ap cp:Pos} (he:PE X e (dE X.K true τ (.d x))) (hl:xs.length < 1000000) (hr:PSs X rest (dS X.K (τ.set i (.o (xs++[x]))) N)) (hi:τ[i]?=some (.o xs):=by rfl) (hN:X.N[i]?=some n:=by rfl)
   (hv:Vis X.env.scope n:=by first | exact Or.inl rfl | exact Or.inr (Or.inl rfl) | exact Or.inr (Or.inr rfl)) (hd:(n == ("__debug__" : Str))=false:=by decide) (hcd:(n == ("__classdict__" : Str))=false:=by decide)
   (hfew:((backTo cp (starEach [e] X.env)).all (λx=>!x.1) && (backToKw cp (keywordEach [] X.env)).all (λx=>x.1.isSome) && decide (([e]:List Expr).length + ([]:List Keyword).length + (if ([]:List Keyword).isEmpty then 0 else 1) < 30))=true:=by rfl)
   (hline:(ap.endLine == cp.line)=true:=by rfl) (hst:starEach [e] X.env=(false,eval e X.env) :: starEach [] X.env:=by rfl) (hpl:(backTo cp (starEach [] X.env)).any (·.1)=false:=by rfl)
   (hs:swapsWith (.Call (.Attribute (.Name n p) "append" ap) [e] [] cp) none pos.line X.env=pure false:=by rfl) (hbase:attributeBase (.Name n p) "append" X.env (eval (.Name n p) X.env)=eval (.Name n p) X.env:=by rfl) :
   PSs X (.Expr (.Call (.Attribute (.Name n p) "append" ap) [e] [] cp) pos :: rest) (dS X.K τ N):=
 aZ (M:=(·=τ.set i (.o (xs++[x])))) (psW (fB (kA PySem.F.plainAttrs_list PySem.F.slot_list_append PySem.F.type_list_append dF (bH hN hv hd hcd) (bJ he c8 hst) hbase hfew hline hst hpl) hs) λD σ H ⟨A,H₀,B,S,Me⟩=>by
   obtain ⟨l,vs,hb,e1,e2,d⟩:=S.sl i _ hi
   refine ⟨_,slot_of e1,.inl ⟨rfl,_,SqL.of e2⟩,aL S λv H1 e3 d1=>⟨l,vs,v,rfl,rfl,e3 _ _ e2,by rw [d.length]; exact Nat.lt_trans hl (by decide),?_⟩⟩
   exact Me.nx _ _ _ _ rfl ((S.mono e3).put hi hb ((d.mono (ax e3 λ_ z=>z)).append (.cons d1 .nil)))) λ_ e=>e ▸ hr
theorem iV {K:PySem.W.Frag} {H:Hp}:∀ {vs:List V} {ds:List D} {v:V} {d:D} (j:Nat),au K H vs ds->Den K H v d->au K H (vs.set j v) (ds.set j d)
 | _,_,_,_,_,.nil,_=>.nil
 | _,_,_,_,0,.cons _ r,h=>.cons h r
 | _,_,_,_,j + 1,.cons h' r,h=>.cons h' (iV j r h)
theorem Aj (i:Nat) {n:Str} {xs:List D} {m:Int} {j:Nat} {ix:Expr} {sp:Pos} (hx:PE X ix (dE X.K false τ (.d (.int m)))) (he:PE X e (dE X.K true τ (.d x))) (hj:ixN xs.length m=some j) (hr:PSs X rest (dS X.K (τ.set i (.o (xs.set j x))) N)) (hi:τ[i]?=some (.o xs):=by rfl) (hN:X.N[i]?=some n:=by rfl)
   (hv:Vis X.env.scope n:=by first | exact Or.inl rfl | exact Or.inr (Or.inl rfl) | exact Or.inr (Or.inr rfl)) (hd:(n == ("__debug__" : Str))=false:=by decide) (hcd:(n == ("__classdict__" : Str))=false:=by decide)
   (hs:swapsWithSole [.Subscript (.Name n p) ix sp] e pos.line X.env=pure false:=by rfl) (hw:swappedStores [.Subscript (.Name n p) ix sp] e X.env=pure none:=by rfl) (h1:(assignEach [.Subscript (.Name n p) ix sp] X.env).map (·.2)=[assign (.Subscript (.Name n p) ix sp) X.env]:=by rfl)
   (ha:∀ v,assign (.Subscript (.Name n p) ix sp) X.env v=(do
     let ov <- holding [v] (eval (.Name n p) X.env)
     let iv <- holding [v,ov] (eval ix X.env)
     standAt sp
     holding [v,ov,iv] (setItem ov iv v)
     release [v,ov,iv] []):=by intro _; rfl) :
   PSs X (.Assign [.Subscript (.Name n p) ix sp] e pos :: rest) (dS X.K τ N):=
 aZ (M:=(·=τ.set i (.o (xs.set j x)))) (psW (l9 he (o9 (bH hN hv hd hcd) hx set_list ha) hs hw h1) λD σ H ⟨A,H₀,B,S,Me⟩=>aL S λv H1 e1 d1=>by
   obtain ⟨l,vs,hb,f1,f2,d⟩:=(S.mono e1).sl i _ hi
   refine ⟨_,slot_of f1,aL (S.mono e1) λw H2 e2 d2=>?_⟩
   cases d2
   refine ⟨l,vs,m,j,rfl,rfl,e2 _ _ f2,by rw [d.length]; exact hj,?_⟩
   exact Me.nx _ _ _ _ rfl (((S.mono e1).mono e2).put hi hb (iV j (d.mono (ax e2 λ_ z=>z)) (d1.mono (ax e2 λ_ z=>z))))) λ_ e=>e ▸ hr
end
end Hy
namespace Hy
open PySem PySem.Spec PyProof.Rows L2
open Ev (D Den au aj aT aJ Ite Itz zH yZ lZ pP aG eK cU PTs cD dr)
noncomputable def Yl (K:PySem.W.Frag) (J:L2.It) (xs:List D) (G:Hp):Prop:=∀ H,ah G H->(∀ i,xs.length<=i->J.stop i H)/\∀ (i:Nat) (h:i < xs.length),J.go i H /\
 ∀ x H',J.yld i H x H'->ah H H'/\∀ M:Addr->Prop,(∀ b,M b->∃ o,H b=some o)->ah G (hd H M)->Den K (hd H' M) x xs[i]
noncomputable def dI (K:PySem.W.Frag) (τ:List Sl) (xs:List D):TI:=λσ H R=>∃ A H₀ B,Sta K A H₀ τ B σ H/\∀ J H',ah H H'->Yl K J xs (hd H' (own A B))->R J H'
noncomputable def dG (K:PySem.W.Frag) (τ:List Sl) (x:D) (τ':List Sl):TG:=λv σ H Q=>∃ A H₀ B,Sta K A H₀ τ B σ H/\Den K (hd H (own A B)) v x/\∀ σ' B',Sta K A H₀ τ' B' σ' H->Q σ' H
theorem piW {X:Cx} {tg e:Expr} {t t':TI} (h:PI X tg e t) (f:∀ σ H Q,t' σ H Q->t σ H Q):PI X tg e t':=λpins s σ H Q I q=>h pins s σ H Q I (f σ H Q q)
theorem pgW {X:Cx} {e:Expr} {t t':TG} (h:PG X e t) (f:∀ v σ H Q,t' v σ H Q->t v σ H Q):PG X e t':=λpins s σ H v u Q I r q=>h pins s σ H v u Q I r (f v σ H Q q)
section
variable {K:PySem.W.Frag} {G:Hp} {a:Addr} {vs:List V} {xs:List D}
theorem vP (h:SqL K G a vs) (r:au K G vs xs):Yl K (Itl K a) xs G:=by
 intro H sg
 have hl:=r.length
 refine ⟨λi hi=>⟨vs,aJ sg h,by omega⟩,λi hi=>?_⟩
 obtain ⟨v,hv,dv⟩:=r.get (List.getElem?_eq_getElem hi)
 refine ⟨⟨vs,v,aJ sg h,hv⟩,λx H' ⟨e1,e2⟩=>?_⟩
 subst e1
 have ex:x=v:=by have:=e2 vs (aJ sg h); rw [hv] at this; exact (Option.some.inj this).symm
 subst ex
 exact ⟨ah.refl _,λM _ sv=>dv.mono sv⟩
noncomputable def iS (lo:Int) (n:Nat):List D:=(List.range n).map λk=>D.int (lo + (k:Nat))
theorem aF (lo:Int) (n:Nat):(iS lo n).length=n:=by simp [iS]
theorem gA (lo:Int) (n i:Nat) (h:i < (iS lo n).length):(iS lo n)[i]=.int (lo + (i:Nat)):=by simp [iS]
theorem sZ (lo:Int) (n:Nat):Yl K (Itr lo n) (iS lo n) G:=by
 intro H sg
 refine ⟨λi hi=>by rw [aF] at hi; exact hi,λi hi=>?_⟩
 have hi':i < n:=by rw [aF] at hi; exact hi
 refine ⟨hi',λx H' ⟨e1,e2⟩=>?_⟩
 subst e1 e2
 refine ⟨ah.refl _,λM _ sv=>?_⟩
 rw [gA]
 exact .int
noncomputable def k9 (xs:List D):List D:=(List.range xs.length).map λi=>D.tup [.int (i:Nat),xs.getD i .non]
theorem gH (xs:List D):(k9 xs).length=xs.length:=by simp [k9]
theorem qi (xs:List D) (i:Nat) (h:i < (k9 xs).length):(k9 xs)[i]=.tup [.int (i:Nat),xs.getD i .non]:=by simp [k9]
theorem ya (h:SqL K G a vs) (r:au K G vs xs):Yl K (Ite K a) (k9 xs) G:=by
 intro H sg
 have hl:=r.length
 have el:=gH xs
 refine ⟨λi hi=>⟨vs,aJ sg h,by omega⟩,λi hi=>?_⟩
 have hi':i < xs.length:=by omega
 obtain ⟨v,hv,dv⟩:=r.get (List.getElem?_eq_getElem hi')
 refine ⟨⟨vs,v,aJ sg h,hv⟩,λy H' ⟨p,x,hp,e0,e1,e2⟩=>?_⟩
 subst e0 e1
 have ex:x=v:=by have:=e2 vs (aJ sg h); rw [hv] at this; exact (Option.some.inj this).symm
 subst ex
 refine ⟨aj hp _,λM hM sv=>?_⟩
 rw [qi,show xs.getD i .non=xs[i] by simp [List.getD,hi']]
 exact .tup (SqT.of (jZ hM hp)) (.cons .int (.cons (dv.mono (sv.trans (ax (aj hp _) λ_ z=>z))) .nil))
end
section
variable {X:Cx} {C:Bool} {τ:List Sl} {x y z:D} {a b e c tg it:Expr} {es:List Expr} {pos p q:Pos} {k:Nat} {s:Sl} {xs:List D} {N:Po} {st:Stmt} {rest body els:List Stmt}
theorem a4 (h:PE X it (dE X.K true τ (.d (.lst xs)))) (hc:X.calm=true:=by first | rfl | assumption):PI X tg it (dI X.K τ xs):=piW (xh hc h) λσ H R ⟨A,H₀,B,S,k⟩=>aL S λv H1 e1 d1=>by
 cases d1 with
 | lst h r=>exact ⟨_,rfl,⟨_,aJ aH h⟩,k _ H1 e1 (vP h r)⟩
theorem fR {n:Int} (B:Bk X k) (h:PE X a (dE X.K false τ (.d (.int n)))) (h1:-(2 ^ 62)<=n) (h2:n < 2 ^ 62) (hg:Gl X "range":=by rfl) (hs:starEach [a] X.env=[(false,eval a X.env)]:=by rfl):PI X tg (.Call (.Name "range" p) [a] [] pos) (dI X.K τ (iS 0 n.toNat)):=
 piW (rL (.inl B.calm) hg (B.blt _ (by decide)) (ae h ag hs) hs) λσ H R ⟨A,H₀,B,S,k⟩=>fP S λvs H1 e1 d1=>by
   cases d1 with
   | cons d r=>
     cases r
     cases d
     exact ⟨n,rfl,h1,h2,k _ H1 e1 (sZ 0 _)⟩
theorem lq {m n:Int} (B:Bk X k) (h:PE X a (dE X.K false τ (.d (.int m)))) (h':PE X b (dE X.K false τ (.d (.int n)))) (h1:-(2 ^ 62)<=m/\m < 2 ^ 62/\-(2 ^ 62)<=n/\n < 2 ^ 62) (hg:Gl X "range":=by rfl) (hs:starEach [a,b] X.env=[(false,eval a X.env),(false,eval b X.env)]:=by rfl)
   (hs2:starEach [b] X.env=[(false,eval b X.env)]:=by rfl):PI X tg (.Call (.Name "range" p) [a,b] [] pos) (dI X.K τ (iS m (n - m).toNat)):=
 piW (rB (.inl B.calm) hg (B.blt _ (by decide)) (ae h (ae h' ag hs2) (by rw [hs,hs2])) hs hs2) λσ H R ⟨A,H₀,B,S,k⟩=>fP S λvs H1 e1 d1=>by
   cases d1 with
   | cons d r=>
     cases r with
     | cons d' r=>
       cases r
       cases d
       cases d'
       exact ⟨m,n,rfl,h1,k _ H1 e1 (sZ m _)⟩
theorem BC {ts:List Expr} {m:Nat} {tp:Pos} (B:Bk X k) (h:PE X a (dE X.K true τ (.d (.lst xs)))) (hg:Gl X "enumerate":=by rfl) (hs:starEach [a] X.env=[(false,eval a X.env)]:=by rfl):PI X (.Tuple ts m tp) (.Call (.Name "enumerate" p) [a] [] pos) (dI X.K τ (k9 xs)):=
 piW (lZ B.calm hg (B.blt _ (by decide)) (ae h ag hs) hs) λσ H R ⟨A,H₀,B,S,k⟩=>fP S λvs H1 e1 d1=>by
   cases d1 with
   | cons d r=>
     cases r
     cases d with
     | lst h r=>exact ⟨_,rfl,⟨_,aJ aH h⟩,k _ H1 e1 (ya h r)⟩
theorem zq (i:Nat) {n:Str} (hN:X.N.Nodup) (hi:X.N[i]?=some n:=by rfl) (hx:Loc X.env.scope n:=by first | exact .inl rfl | exact .inr rfl) (hf:X.fn n=true\/X.env.scope.names.lookup n=some .local:=by first | exact .inl rfl | exact .inr rfl | assumption):PG X (.Name n p) (dG X.K τ x (τ.set i (.d x))):=
 pgW (dQ (i:=i) hN hi hx hf) λv σ H Q ⟨A,H₀,B,S,d,k⟩=>k _ _ (S.set (ah.refl _) (bs:=[]) (λ_ z=>nomatch z) (iT d))
theorem xy (i j:Nat) {n m:Str} {p2 pt:Pos} {md:Nat} (hc:X.calm=true) (hN:X.N.Nodup) (hi:X.N[i]?=some n:=by rfl) (hj:X.N[j]?=some m:=by rfl) (hx:Loc X.env.scope n:=by first | exact .inl rfl | exact .inr rfl) (hy:Loc X.env.scope m:=by first | exact .inl rfl | exact .inr rfl)
   (hf:X.fn n=true\/X.env.scope.names.lookup n=some .local:=by first | exact .inl rfl | exact .inr rfl | assumption) (hf':X.fn m=true\/X.env.scope.names.lookup m=some .local:=by first | exact .inl rfl | exact .inr rfl | assumption) :
   PG X (.Tuple [.Name n p,.Name m p2] md pt) (dG X.K τ (.tup [x,y]) ((τ.set i (.d x)).set j (.d y))):=by
 refine pgW (sL hc (jF (dQ (i:=i) hN hi hx hf) (jF (dQ (i:=j) hN hj hy hf') pT))) λv σ H Q ⟨A,H₀,B,S,d,k⟩=>?_
 cases d with
 | tup h r=>
   cases r with
   | cons d1 r=>
     cases r with
     | cons d2 r=>
       cases r
       have S1:=S.set (i:=i) (ah.refl _) (bs:=[]) (λ_ z=>nomatch z) (iT d1)
       have sub:∀ b,own A (upB B i []) b->own A B b:=λb z=>z.elim .inl λ⟨j,z⟩=>(aX z).elim (λz=>nomatch z.2) λz=>.inr ⟨j,z.2⟩
       exact ⟨_,_,rfl,aT aH h,rfl,_,_,rfl,_,_,rfl,rfl,k _ _ (S1.set (i:=j) (ah.refl _) (bs:=[]) (λ_ z=>nomatch z) (iT (d2.mono (ax (ah.refl _) sub))))⟩
theorem Sta.base {K:PySem.W.Frag} {A:Addr->Prop} {H₀ H:Hp} {τ:List Sl} {B:Nat->List Addr} {σ:L2.St} (S:Sta K A H₀ τ B σ H):ah H₀ (hd H λb=>∃ i,b ∈ B i)/\Sta K A (hd H λb=>∃ i,b ∈ B i) τ B σ H:=by
 have s0:ah H₀ (hd H λb=>∃ i,b ∈ B i):=λb o h=>ak.mpr ⟨λ⟨i,z⟩=>(by rw [S.fr i b z] at h; cases h),S.same _ _ h⟩
 exact ⟨s0,aH,S.len,S.sl,λi b hb=>by
   cases e:hd H (λb=>∃ i,b ∈ B i) b with
   | none=>rfl
   | some o=>exact absurd ⟨i,hb⟩ (ak.mp e).1,S.uq,λb hb=>let ⟨o,q⟩:=S.ad b hb; ⟨o,s0 _ _ q⟩,S.bd⟩
theorem Sta.back {K:PySem.W.Frag} {A:Addr->Prop} {H₀ G H:Hp} {τ:List Sl} {B:Nat->List Addr} {σ:L2.St} (S:Sta K A G τ B σ H) (s:ah H₀ G) (ad:∀ b,A b->∃ o,H₀ b=some o):Sta K A H₀ τ B σ H:=
 ⟨s.trans S.same,S.len,S.sl,λi b hb=>s.free (S.fr i b hb),S.uq,ad,S.bd⟩
theorem xu {M:Nat->List Sl->Prop} {T:Nat->List Sl->List Sl} (B:Bk X k) (hi:PI X tg it (dI X.K τ xs)) (h0:M 0 τ) (hg:∀ i (h:i < xs.length) τ',M i τ'->PG X tg (dG X.K τ' xs[i] (T i τ')))
   (hb:∀ i,i < xs.length->∀ τ',M i τ'->PSs X body (dS X.K (T i τ') { N with nx:=M (i + 1),ct:=M (i + 1),bk:=N.nx })) (hn:∀ τ',M xs.length τ'->N.nx τ')
   (hs:∀ x,foldedSetIterable it X.env x=pure x:=by intro _; rfl):PS X (.For tg it body [] pos) (dS X.K τ N):=by
 have hg':PG X tg λv σ H Q=>∃ (i:Nat) (h:i < xs.length) (τ':List Sl),M i τ'/\dG X.K τ' xs[i] (T i τ') v σ H Q:=λpins s σ H v u Q I r ⟨i,h,τ',m,q⟩=>hg i h τ' m pins s σ H v u Q I r q
 have hb':PSs X body λD σ H=>∃ i τ',i < xs.length/\M i τ'/\dS X.K (T i τ') { N with nx:=M (i + 1),ct:=M (i + 1),bk:=N.nx } D σ H:=λpins s σ H D I ⟨i,τ',h,m,q⟩=>hb i h τ' m pins s σ H D I q
 refine psW (yF B.po hi hg' hb' hs) λD σ H ⟨A,H₀,B,S,Me⟩=>⟨A,H₀,B,S,λJ H1 e1 yl=>?_⟩
 obtain ⟨s0,S1⟩:=(S.mono e1).base
 have sub:∀ {H'},ah (hd H1 λb=>∃ i,b ∈ B i) H'->ah (hd H1 (own A B)) H':=λe=>(ax (ah.refl _) λ_ z=>.inr z).trans e
 refine ⟨λi m σ' H'=>m=xs.length - i/\i<=xs.length/\∃ τ' B',M i τ'/\Sta X.K A (hd H1 λb=>∃ i,b ∈ B i) τ' B' σ' H',⟨xs.length,rfl,Nat.zero_le _,τ,B,h0,S1⟩,?_⟩
 rintro i m σ' H' ⟨rfl,hi,τ',B',hM,S'⟩
 obtain ⟨y1,y2⟩:=yl H' (sub S'.same)
 by_cases hlt:i < xs.length
 · obtain ⟨g,y⟩:=y2 i hlt
   refine .inr ⟨g,λσ2 H2=>∃ τ2 B2,M (i + 1) τ2/\Sta X.K A (hd H1 λb=>∃ i,b ∈ B i) τ2 B2 σ2 H2,λσ2 H2 q=>⟨xs.length - (i + 1),by omega,rfl,hlt,q⟩,λx H2 hy=>?_⟩
   obtain ⟨e2,dx⟩:=y x H2 hy
   have S2:=S'.mono e2
   refine ⟨i,hlt,τ',hM,A,_,B',S2,dx (own A B') S'.dm ?_,λσ3 B3 S3=>⟨i,τ',hlt,hM,A,_,B3,S3,?_⟩⟩
   · intro b o z
     obtain ⟨z1,z2⟩:=ak.mp z
     have z3:hd H1 (λb=>∃ i,b ∈ B i) b=some o:=ak.mpr ⟨λy=>z1 (.inr y),z2⟩
     refine ak.mpr ⟨λy=>?_,S'.same _ _ z3⟩
     rcases y with y | ⟨l,y⟩
     · exact z1 (.inl y)
     · rw [S'.fr l b y] at z3; cases z3
   · exact ⟨λτ3 B3 σ3 H3 m S3=>⟨τ3,B3,m,S3⟩,λτ3 B3 σ3 H3 m S3=>Me.nx τ3 B3 σ3 H3 m (S3.back s0 S.ad),λτ3 B3 σ3 H3 m S3=>⟨τ3,B3,m,S3⟩,
       λv H3 bs s3 hr e3 hf q=>Me.rt v H3 bs s3 hr (s0.trans e3) (λb hb=>⟨s0.free (hf b hb).1,(hf b hb).2⟩) q,λH3 e3=>Me.xc H3 (s0.trans e3)⟩
 · have e:i=xs.length:=by omega
   subst e
   exact .inl ⟨y1 _ (Nat.le_refl _),Me.nx τ' B' σ' H' (hn τ' hM) (S'.back s0 S.ad)⟩
theorem bt (j:Nat) {n:Str} (M:Nat->List Sl->Prop) {g:Nat->D} (B:Bk X k) (hN:X.N.Nodup) (hi:PI X (.Name n p) it (dI X.K τ xs)) (hx:∀ i (h:i < xs.length),xs[i]=g i) (h0:M 0 τ)
   (hb:∀ i,i < xs.length->∀ τ',M i τ'->PSs X body (dS X.K (τ'.set j (.d (g i))) { N with nx:=M (i + 1),ct:=M (i + 1),bk:=λ_=>False }))
   (hr:∀ τ',M xs.length τ'->PSs X rest (dS X.K τ' N)) (hs:∀ x,foldedSetIterable it X.env x=pure x:=by intro _; rfl) (hi':X.N[j]?=some n:=by rfl) (hl:Loc X.env.scope n:=by first | exact .inl rfl | exact .inr rfl)
   (hf:X.fn n=true\/X.env.scope.names.lookup n=some .local:=by first | exact .inl rfl | exact .inr rfl | assumption):PSs X (.For (.Name n p) it body [] pos :: rest) (dS X.K τ N):=
 aZ (M:=M xs.length) (xu (M:=M) (T:=λi τ'=>τ'.set j (.d (g i))) B hi h0 (λi h τ' m=>by rw [hx i h]; exact zq j hN hi' hl hf)
   (λi h τ' m=>ot (hb i h τ' m) λD σ H ⟨A,H₀,B,S,Me⟩=>⟨A,H₀,B,S,Me.nx,λ_ _ _ _ z=>z.elim,Me.ct,Me.rt,Me.xc⟩) (λ_ m=>m) hs) hr
theorem zM (j l:Nat) {n m:Str} {p2 pt:Pos} {md:Nat} (M:Nat->List Sl->Prop) {g g':Nat->D} (B:Bk X k) (hN:X.N.Nodup) (hi:PI X (.Tuple [.Name n p,.Name m p2] md pt) it (dI X.K τ xs)) (hx:∀ i (h:i < xs.length),xs[i]=.tup [g i,g' i]) (h0:M 0 τ)
   (hb:∀ i,i < xs.length->∀ τ',M i τ'->PSs X body (dS X.K ((τ'.set j (.d (g i))).set l (.d (g' i))) { N with nx:=M (i + 1),ct:=M (i + 1),bk:=λ_=>False }))
   (hr:∀ τ',M xs.length τ'->PSs X rest (dS X.K τ' N)) (hs:∀ x,foldedSetIterable it X.env x=pure x:=by intro _; rfl) (hi':X.N[j]?=some n:=by rfl) (hj':X.N[l]?=some m:=by rfl) (hl:Loc X.env.scope n:=by first | exact .inl rfl | exact .inr rfl) (hl':Loc X.env.scope m:=by first | exact .inl rfl | exact .inr rfl)
   (hf:X.fn n=true\/X.env.scope.names.lookup n=some .local:=by first | exact .inl rfl | exact .inr rfl | assumption) (hf':X.fn m=true\/X.env.scope.names.lookup m=some .local:=by first | exact .inl rfl | exact .inr rfl | assumption):PSs X (.For (.Tuple [.Name n p,.Name m p2] md pt) it body [] pos :: rest) (dS X.K τ N):=
 aZ (M:=M xs.length) (xu (M:=M) (T:=λi τ'=>(τ'.set j (.d (g i))).set l (.d (g' i))) B hi h0 (λi h τ' m=>by rw [hx i h]; exact xy j l B.calm hN hi' hj' hl hl' hf hf')
   (λi h τ' m=>ot (hb i h τ' m) λD σ H ⟨A,H₀,B,S,Me⟩=>⟨A,H₀,B,S,Me.nx,λ_ _ _ _ z=>z.elim,Me.ct,Me.rt,Me.xc⟩) (λ_ m=>m) hs) hr
theorem fX {n:Nat} (i:Nat) (h:i < (iS 0 n).length):(iS 0 n)[i]=.int (i:Nat):=by rw [gA,Int.zero_add]
theorem AS {bs:List Int} (i:Nat) (h:i < (bs.map D.int).length):(bs.map D.int)[i]=.int (bs.getD i 0):=by
 have:i < bs.length:=by simpa using h
 simp [this]
theorem Ay {bs:List Int} (i:Nat) (h:i < (k9 (bs.map D.int)).length):(k9 (bs.map D.int))[i]=.tup [.int (i:Nat),.int (bs.getD i 0)]:=by
 have:i < bs.length:=by rw [gH] at h; simpa using h
 rw [qi]
 simp [this]
end
end Hy
namespace Hy
open PySem PySem.Spec PyProof.Rows L2
open Ev (D Den au aj aT aJ aG eK cU PTs cD dr gB)
noncomputable def slot:List Str->Str->Option Nat
 | [],_=>none
 | y :: r,x=>if x=y then some 0 else (slot r x).map (· + 1)
theorem slot_get:∀ {N:List Str} {x:Str} {i:Nat},slot N x=some i->N[i]?=some x
 | [],_,_,h=>by cases h
 | y :: r,x,i,h=>by
   unfold slot at h
   split at h
   · cases h; rename_i e; rw [e]; rfl
   · cases e:slot r x with
     | none=>rw [e] at h; cases h
     | some j=>rw [e] at h; cases h; simpa using slot_get e
noncomputable def tS (scope sc:Scope):Scope:={ scope with names:=scope.names.map λ(n,k)=>if (k == .free && sc.kind == .function && sc.names.lookup n == some .cell) then (n,.cell) else (n,k) }
noncomputable def bNm (scope:Scope):List Str:=(scope.names.filter λp=>(p.2 == .local || p.2 == .cell || p.2 == .free) && p.1 != (".0" : Str)).map (·.1)
noncomputable def bCp (No:List Str) (scope:Scope):List (Option Nat):=(bNm scope).map λx=>if (x,NameKind.free) ∈ scope.names then slot No x else none
noncomputable def bOk (sc scope:Scope):Bool:=
 scope.kind == .function && scope.names.all (λp=>p.2 != .local || scope.names.lookup p.1 == some .local) && scope.names.all (λp=>p.2 != .free || sc.names.lookup p.1 == some .cell)
   && scope.names.all (λp=>p.2 != .free || (!decide ((p.1,NameKind.cell) ∈ scope.names) && !decide ((p.1,NameKind.local) ∈ scope.names))) && decide (bNm scope++[("#" : Str)]).Nodup
   && (tS scope sc).names.all (λp=>p.1 != ("#" : Str))
theorem uX {a b:Bool} (h:(a && b)=true):a=true/\b=true:=by rw [Bool.and_eq_true] at h; exact h
theorem uw {x:Str} {q:NameKind}:∀ {names:List (Str × NameKind)},names.lookup x=some q->(x,q) ∈ names
 | (y,k) :: r,h=>by
   rw [List.lookup_cons] at h
   split at h
   · rename_i e; cases h; rw [eq_of_beq e]; exact List.mem_cons_self ..
   · exact List.mem_cons_of_mem _ (uw h)
theorem gC {X:Cx} {scope:Scope} (h:bOk X.env.scope scope=true):cU X scope (bNm scope++[("#" : Str)]) (bCp X.N scope)/\(bNm scope++[("#" : Str)]).Nodup:=by
 unfold bOk at h
 obtain ⟨h,h6⟩:=uX h
 obtain ⟨h,h5⟩:=uX h
 obtain ⟨h,h4⟩:=uX h
 obtain ⟨h,h3⟩:=uX h
 obtain ⟨h1,h2⟩:=uX h
 rw [List.all_eq_true] at h2 h3 h4 h6
 refine ⟨⟨eq_of_beq h1,λx hx hk=>?_,λx hx hk=>?_,λx hx hm=>?_,λx hx hm=>?_,?_,λj i hj=>?_,?_⟩,of_decide_eq_true h5⟩
 · have:=h2 x hx; rw [hk] at this; simpa using this
 · have:=h3 x hx; rw [hk] at this; show X.env.scope.names.lookup x.1=_; simpa using this
 · have:=h4 _ hx; simp [hm] at this
 · have:=h4 _ hx; simp [hm] at this
 · unfold bCp; rw [List.length_append,List.length_map]; rfl
 · unfold bCp at hj
   rw [List.getElem?_map] at hj
   cases e:(bNm scope)[j]? with
   | none=>rw [e] at hj; cases hj
   | some x=>
     rw [e] at hj
     simp only [Option.map_some,Option.some.injEq] at hj
     split at hj
     · exact ⟨x,by rw [List.getElem?_append_left (List.getElem?_eq_some_iff.mp e).1]; exact e,slot_get hj,by assumption⟩
     · cases hj
 · refine ⟨("#" : Str),?_,λhv=>?_⟩
   · unfold bCp; rw [List.length_map,List.getElem?_append_right (Nat.le_refl _),Nat.sub_self]; rfl
   · have key:∀ q,(tS scope X.env.scope).names.lookup ("#" : Str) ≠ some q:=λq hq=>by
       have:=h6 _ (uw hq)
       simp at this
     rcases hv with hv | hv | hv <;> exact key _ hv
noncomputable abbrev cpX (X:Cx) (s:Shared) (H:Hp) (scope:Scope) (fp:List Addr):Cx:=aG X s H scope (bNm scope++[("#" : Str)]) fp
theorem Bk.comp {X:Cx} {k:Nat} (B:Bk X k) (s:Shared) (H:Hp) (scope:Scope) (fp:List Addr):Bk (cpX X s H scope fp) k:=⟨B.room,B.calm,B.blt,PassesOwn.never⟩
noncomputable def bE (τ:List Sl) (caps:List (Option Nat)):List Sl:=caps.map λo=>match o with
 | some i=>match τ[i]? with
   | some (.d x)=>.d x
   | _=>.un
 | none=>.un
theorem lU {X:Cx}:PTs X [] λ_ H Q=>Q true H:=λpins s σ H Q I q=>by
 show wpAny _ _ (pure true) _ _ _
 exact wpAny_pure ⟨H,I,q⟩
section
variable {X:Cx} {C:Bool} {τ:List Sl} {x y z:D} {a b e c tg it elt:Expr} {es ifs:List Expr} {pos p q:Pos} {k:Nat} {xs:List D} {scope:Scope}
structure Cmp (X:Cx) (elt tg it:Expr) (ifs:List Expr) (scope:Scope) (τ:List Sl) (ys:List D):Prop where
 ex:∃ (In:TG->TT->TE->Prop) (caps:List (Option Nat)) (N:List Str) (wi:TI),cU X scope N caps/\PI X tg it wi/\(∀ g tt te,In g tt te->∀ s H fp,PG (aG X s H scope N fp) tg g/\PTs (aG X s H scope N fp) ifs tt/\PE (aG X s H scope N fp) elt te) /\
   ∀ C σ H Q,dE X.K C τ (.o ys) σ H Q->dr In caps wi σ H Q
 hs:∀ x,foldedSetIterable it X.env x=pure x
theorem gi {ys:List D} (h:Cmp X elt tg it ifs scope τ ys):PE X (.ListComp elt [⟨tg,it,ifs,0⟩] scope pos) (dE X.K C τ (.o ys)):=by
 obtain ⟨In,caps,N,wi,h1,h2,h3,h4⟩:=h.ex
 exact peW (cD h1 h2 h.hs h3) (h4 C)
theorem pd (i:Nat) {n:Str} {p spos:Pos} {rest:List Stmt} {N:Po} {ys:List D} {s:Sl} (hN:X.N.Nodup) (h:Cmp X elt tg it ifs scope τ ys) (hz:s=.o ys\/s=.d (.lst ys)) (hr:PSs X rest (dS X.K (τ.set i s) N)) (hi:X.N[i]?=some n:=by rfl) (hx:Loc X.env.scope n:=by first | exact .inl rfl | exact .inr rfl)
   (hsw:swapsWith (.ListComp elt [⟨tg,it,ifs,0⟩] scope pos) (some (.Name n p)) spos.line X.env=pure true:=by rfl) (hf:X.fn n=true\/X.env.scope.names.lookup n=some .local:=by first | exact .inl rfl | exact .inr rfl | assumption) :
   PSs X (.Assign [.Name n p] (.ListComp elt [⟨tg,it,ifs,0⟩] scope pos) spos :: rest) (dS X.K τ N):=by
 obtain ⟨In,caps,N',wi,h1,h2,h3,h4⟩:=h.ex
 have h5:∀ σ H Q,dE X.K true τ s σ H Q->dr In caps wi σ H Q:=by
   rcases hz with rfl | rfl
   · exact h4 true
   · intro σ H Q q
     obtain ⟨A,H₀,B,S,k⟩:=cJ q
     refine h4 true σ H Q ⟨A,H₀,B,S,λv H' bs e hf q=>?_⟩
     obtain ⟨u,e1,d⟩:=q.den (G':=Hy.hd H' (vw true A B)) (ax (ah.refl _) λ_ z=>.inl z) (λb hb o ho=>ak.mpr ⟨λz=>(by obtain ⟨_,q⟩:=S.vd (C:=true) b z; rw [(hf b hb).1] at q; cases q),ho⟩) rfl
     cases e1
     exact k v H' e d
 exact aZ (M:=(·=τ.set i s)) (psW (gB (dQ (i:=i) hN hi hx hf) h1 h2 h.hs h3 hsw) λD σ H ⟨A,H₀,B,S,Me⟩=>h5 _ _ _ ⟨A,H₀,B,S,λv H' bs e hf h=>Me.nx _ _ _ _ rfl (S.set e hf h)⟩) λ_ e=>e ▸ hr
theorem tZ {T:Nat->List Sl} {t:Nat->Bool} {f:Nat->D} (hc:bOk X.env.scope scope=true) (hi:PI X tg it (dI X.K τ xs)) (hT:∀ i,(T i).length=(bE τ (bCp X.N scope)++[Sl.un]).length/\∀ (l:Nat) (x:D),(bE τ (bCp X.N scope)++[Sl.un])[l]?=some (.d x)->(T i)[l]?=some (.d x))
   (hg:∀ i (h:i < xs.length) s H fp,PG (cpX X s H scope fp) tg (dG X.K (bE τ (bCp X.N scope)++[Sl.un]) xs[i] (T i)))
   (ht:∀ i,i < xs.length->∀ s H fp,PTs (cpX X s H scope fp) ifs (dT X.K (T i) (t i)))
   (he:∀ i,i < xs.length->t i=true->∀ s H fp,PE (cpX X s H scope fp) elt (dE X.K true (T i) (.d (f i)))) (hl:xs.length < 1000000) (hs:∀ x,foldedSetIterable it X.env x=pure x:=by intro _; rfl) :
   Cmp X elt tg it ifs scope τ (((List.range xs.length).filter t).map f):=by
 obtain ⟨cap,_⟩:=gC hc
 generalize hτ:bE τ (bCp X.N scope)++[Sl.un]=τb at *
 refine ⟨⟨λg tt te=>g=(λv σ H Q=>∃ (i:Nat) (h:i < xs.length),dG X.K τb xs[i] (T i) v σ H Q)/\tt=(λσ H Q=>∃ i,i < xs.length/\dT X.K (T i) (t i) σ H Q)/\te=(λσ H Q=>∃ i,i < xs.length/\t i=true/\dE X.K true (T i) (.d (f i)) σ H Q),_,_,_,cap,hi,?_,?_⟩,hs⟩
 · rintro g tt te ⟨rfl,rfl,rfl⟩ s H fp
   exact ⟨λpins s' σ H' v u Q I r ⟨i,h,q⟩=>hg i h s H fp pins s' σ H' v u Q I r q,λpins s' σ H' Q I ⟨i,h,q⟩=>ht i h s H fp pins s' σ H' Q I q,λpins s' σ H' Q I ⟨i,h,h',q⟩=>he i h h' s H fp pins s' σ H' Q I q⟩
 rintro C σ H Q ⟨A,H₀,B,S,kk⟩
 refine ⟨A,H₀,B,S,λJ H1 e1 yl=>⟨_,_,_,⟨rfl,rfl,rfl⟩,λD hD=>?_⟩⟩
 have S1:=S.mono e1
 have nD:¬ own A B D:=λz=>by obtain ⟨o,q⟩:=S1.dm D z; rw [hD] at q; cases q
 have noN:∀ (l:Nat) (t:Nd),τb[l]?=some (.n t)->0 ≠ 0:=λl t h=>by
   exfalso
   rw [<- hτ] at h
   have:=List.mem_of_getElem? h
   rcases List.mem_append.mp this with z | z
   · unfold bE at z
     obtain ⟨o,_,ho⟩:=List.mem_map.mp z
     split at ho
     · split at ho <;> cases ho
     · cases ho
   · cases List.mem_singleton.mp z
 have slots:∀ {σ':L2.St} {H':Hp},ah H1 H'->(∃ o,H' D=some o)->σ'.length=τb.length->(∀ (l:Nat) (s:Sl),τb[l]?=some s->bV X.K (hd H' λb=>own A B b\/b=D) H' (σ'[l]?).join [] s)->Sta X.K (λb=>own A B b\/b=D) H' τb (λ_=>[]) σ' H':=λ{σ' H'} e1 e2 e3 e4=>
   ⟨ah.refl _,e3,λl s h=>(e4 l s h).mono (ax (ah.refl _) λ_ z=>z.elim id λ⟨_,z⟩=>(nomatch z)) (ah.refl _),λ_ _ z=>(nomatch z),λ_ _ _ z=>(nomatch z),λb z=>z.elim (λz=>let ⟨o,q⟩:=S1.dm b z; ⟨o,e1 _ _ q⟩) λz=>z ▸ e2,λ_ _ z=>(nomatch z)⟩
 refine ⟨λi m σ' H'=>m=xs.length - i/\i<=xs.length/\ah H1 H'/\(∃ vs,H' D=some (.lst vs)/\vs.length<=i/\au X.K (hd H' λb=>own A B b\/b=D) vs (((List.range i).filter t).map f)) /\
   σ'.length=τb.length/\∀ (l:Nat) (s:Sl),τb[l]?=some s->bV X.K (hd H' λb=>own A B b\/b=D) H' (σ'[l]?).join [] s,⟨xs.length,rfl,Nat.zero_le _,aj hD _,⟨[],aA,Nat.le_refl _,.nil⟩,?_,λl s h=>?_⟩,?_⟩
 · rw [<- hτ]; unfold eK bE; rw [List.length_append,List.length_append,List.length_map,List.length_map]; rfl
 · have hv:ah (hd H (own A B)) (hd (upd H1 D (.lst [])) λb=>own A B b\/b=D):=λb o z=>by
     obtain ⟨z1,z2⟩:=ak.mp z
     have z2:=e1 _ _ z2
     have ne:b ≠ D:=λz=>by rw [z,hD] at z2; cases z2
     exact ak.mpr ⟨λy=>y.elim z1 ne,by rw [aw ne]; exact z2⟩
   cases s with
   | un=>rfl
   | d x=>
     rw [<- hτ] at h
     have hlt:l < (bCp X.N scope).length:=by
       rcases Nat.lt_or_ge l (bCp X.N scope).length with h' | h'
       · exact h'
       · exfalso
         rw [List.getElem?_append_right (by unfold bE; rw [List.length_map]; exact h')] at h
         cases e:l - (bE τ (bCp X.N scope)).length with
         | zero=>rw [e] at h; cases h
         | succ n=>rw [e] at h; cases h
     rw [List.getElem?_append_left (by unfold bE; rw [List.length_map]; exact hlt)] at h
     rw [List.getElem?_append_left (by unfold eK; rw [List.length_map]; exact hlt)]
     unfold bE at h
     unfold eK
     rw [List.getElem?_map] at h ⊢
     cases e:(bCp X.N scope)[l]? with
     | none=>rw [e] at h; cases h
     | some o=>
       rw [e] at h
       cases o with
       | none=>cases h
       | some i=>
         simp only [Option.map_some,Option.some.injEq] at h
         split at h
         · rename_i x' hx'
           cases h
           obtain ⟨_,u,eu,d⟩:=S.sl i _ hx'
           exact ⟨rfl,u,by simpa using eu,d.mono hv⟩
         · cases h
   | o xs'=>
     exfalso
     rw [<- hτ] at h
     have:=List.mem_of_getElem? h
     rcases List.mem_append.mp this with z | z
     · unfold bE at z
       obtain ⟨o,_,ho⟩:=List.mem_map.mp z
       split at ho
       · split at ho <;> cases ho
       · cases ho
     · cases List.mem_singleton.mp z
   | n t'=>
     exfalso
     rw [<- hτ] at h
     have:=List.mem_of_getElem? h
     rcases List.mem_append.mp this with z | z
     · unfold bE at z
       obtain ⟨o,_,ho⟩:=List.mem_map.mp z
       split at ho
       · split at ho <;> cases ho
       · cases ho
     · cases List.mem_singleton.mp z
   | x E'=>
     exfalso
     rw [<- hτ] at h
     have:=List.mem_of_getElem? h
     rcases List.mem_append.mp this with z | z
     · unfold bE at z
       obtain ⟨o,_,ho⟩:=List.mem_map.mp z
       split at ho
       · split at ho <;> cases ho
       · cases ho
     · cases List.mem_singleton.mp z
 rintro i m σ' H' ⟨rfl,hi,e2,⟨vs,hv1,hv2,hv3⟩,hlen,hsl⟩
 obtain ⟨y1,y2⟩:=yl H' (aH.trans e2)
 by_cases hlt:i < xs.length
 · obtain ⟨g,y⟩:=y2 i hlt
   refine .inr ⟨g,λx H2 hy=>?_⟩
   obtain ⟨e3,dx⟩:=y x H2 hy
   have S2:Sta X.K (λb=>own A B b\/b=D) H' τb (λ_=>[]) σ' H':=slots e2 ⟨_,hv1⟩ hlen hsl
   have o0:∀ b,own (λb=>own A B b\/b=D) (λ_=>([]:List Addr)) b->own A B b\/b=D:=λb z=>z.elim id λ⟨_,z⟩=>(nomatch z)
   have dx':=dx _ S2.dm (λb o z=>by
     obtain ⟨z1,z2⟩:=ak.mp z
     exact ak.mpr ⟨λy=>(o0 b y).elim z1 λy=>(by rw [y,hD] at z2; cases z2),e2 _ _ z2⟩)
   refine ⟨i,hlt,_,_,_,S2.mono e3,dx',λσ2 B2 S3=>?_⟩
   have hB2:∀ j b,b ∈ B2 j->b ≠ D:=λj b hb z=>by
     have:=S3.fr j b hb
     rw [z,hv1] at this
     cases this
   have back:∀ {H5:Hp},ah H2 H5->σ2.length=τb.length/\∀ (l:Nat) (s:Sl),τb[l]?=some s->bV X.K (hd H5 λb=>own A B b\/b=D) H5 (σ2[l]?).join [] s:=λ{H5} e5=>by
     refine ⟨S3.len.trans (hT i).1,λl s h=>?_⟩
     cases s with
     | un=>rfl
     | d x=>
       obtain ⟨_,u,eu,d⟩:=S3.sl l _ ((hT i).2 l x h)
       exact ⟨rfl,u,eu,d.mono (ax e5 λ_ z=>.inl z)⟩
     | o xs'=>exact absurd (hsl l _ h) (λ⟨_,_,z,_⟩=>(nomatch z))
     | n t'=>exact absurd rfl (noN l t' h)
     | x E'=>exact absurd (hsl l _ h) (λ⟨_,_,z,_⟩=>(nomatch z))
   refine ⟨i,hlt,_,_,_,S3,λH4 e4=>?_⟩
   cases ht:t i with
   | false=>
     rw [if_neg Bool.false_ne_true]
     obtain ⟨b1,b2⟩:=back e4
     refine ⟨xs.length - (i + 1),by omega,rfl,hlt,e2.trans (e3.trans e4),⟨vs,e4 _ _ (e3 _ _ hv1),by omega,?_⟩,b1,b2⟩
     rw [List.range_succ,List.filter_append,List.map_append,List.filter_cons,ht]
     simpa using hv3.mono (ax (e3.trans e4) λ_ z=>z)
   | true=>
     rw [if_pos rfl]
     refine ⟨i,hlt,ht,aL (S3.mono e4) λv H5 e5 d5=>?_⟩
     have e6:=e3.trans (e4.trans e5)
     have hv5:=e6 _ _ hv1
     refine ⟨vs,xs.length - (i + 1),hv5,Nat.lt_trans (Nat.lt_of_le_of_lt hv2 (Nat.lt_trans hlt hl)) (by decide),by omega,rfl,hlt,?_,?_⟩
     · intro b o z
       have ne:b ≠ D:=λy=>by rw [y,hD] at z; cases z
       rw [aw ne]
       exact e6 _ _ (e2 _ _ z)
     have sm:ah (hd H5 λb=>own A B b\/b=D) (hd (upd H5 D (.lst (vs++[v]))) λb=>own A B b\/b=D):=λb o z=>by
       obtain ⟨z1,z2⟩:=ak.mp z
       exact ak.mpr ⟨z1,by rw [aw λy=>z1 (.inr y)]; exact z2⟩
     obtain ⟨b1,b2⟩:=back (e4.trans e5)
     refine ⟨⟨vs++[v],aA,by rw [List.length_append]; exact Nat.succ_le_succ hv2,?_⟩,b1,λl s h=>?_⟩
     · rw [List.range_succ,List.filter_append,List.map_append,List.filter_cons,ht,if_pos rfl]
       refine au.append (hv3.mono ((ax e6 λ_ z=>z).trans sm)) (.cons (d5.mono ((ax (ah.refl _) λ_ z=>.inl z).trans sm)) .nil)
     · cases s with
       | un=>rfl
       | d x=>obtain ⟨z1,u,eu,d⟩:=b2 l _ h; exact ⟨z1,u,eu,d.mono sm⟩
       | o xs'=>exact absurd (hsl l _ h) (λ⟨_,_,z,_⟩=>(nomatch z))
       | n t'=>exact absurd rfl (noN l t' h)
       | x E'=>exact absurd (hsl l _ h) (λ⟨_,_,z,_⟩=>(nomatch z))
 · have e:i=xs.length:=by omega
   subst e
   refine .inl ⟨y1 _ (Nat.le_refl _),kk _ _ [D] (e1.trans e2) (λb hb=>?_) ⟨D,vs,rfl,rfl,hv1,hv3.mono (ax (ah.refl _) λb z=>z.elim (λz=>.inl (ie z)) λz=>.inr (List.mem_singleton.mp z))⟩⟩
   obtain rfl:=List.mem_singleton.mp hb
   exact ⟨e1.free hD,_,hv1⟩
theorem cmp (j:Nat) {n:Str} {g f:Nat->D} (B:Bk X k) (hi:PI X (.Name n p) it (dI X.K τ xs)) (hx:∀ i (h:i < xs.length),xs[i]=g i) (hl:xs.length < 1000000)
   (he:∀ i,i < xs.length->∀ s H fp,PE (cpX X s H scope fp) elt (dE X.K true ((bE τ (bCp X.N scope)++[Sl.un]).set j (.d (g i))) (.d (f i))))
   (hc:bOk X.env.scope scope=true:=by kernel_rfl) (hu:(bE τ (bCp X.N scope)++[Sl.un])[j]?=some .un:=by rfl) (hN:(bNm scope++[("#" : Str)])[j]?=some n:=by rfl) (hv:∀ s H fp,Loc (cpX X s H scope fp).env.scope n:=by intro _ _ _; first | exact .inl rfl | exact .inr rfl)
   (hf:∀ s H fp,(cpX X s H scope fp).fn n=true\/(cpX X s H scope fp).env.scope.names.lookup n=some .local:=by intro _ _ _; first | exact .inr rfl | exact .inl rfl) (hs:∀ x,foldedSetIterable it X.env x=pure x:=by intro _; rfl) :
   Cmp X elt (.Name n p) it [] scope τ ((List.range xs.length).map f):=by
 have h:=tZ (T:=λi=>(bE τ (bCp X.N scope)++[Sl.un]).set j (.d (g i))) (t:=λ_=>true) (f:=f) (elt:=elt) (ifs:=[]) hc hi (λi=>⟨List.length_set,λl x h=>?_⟩) (λi h s H fp=>?_) (λi h s H fp=>?_) (λi h _ s H fp=>he i h s H fp) hl hs
 · rwa [List.filter_eq_self.mpr λ_ _=>rfl] at h
 · rw [List.getElem?_set_ne (λz=>by rw [<- z,hu] at h; cases h)]
   exact h
 · rw [hx i h]
   exact zq j (gC hc).2 hN (hv s H fp) (hf s H fp)
 · exact λpins s' σ H' Q I ⟨A,H₀,B,S,q⟩=>lU pins s' σ H' Q I (q H' (ah.refl _))
end
section
variable {P:Program} {w:World} {K:PySem.W.Frag} {mg:Str->Option Value} {base:Heap}
noncomputable def zh (N:List Str) (ds:List D):List Sl:=ds.map .d++List.replicate (N.length - ds.length) .un
noncomputable abbrev Xc (P:Program) (w:World) (K:PySem.W.Frag) (mg:Str->Option Value) (base:Heap) (N:List Str) (qual:Str) (st:Stmt) (f:Addr) (cdv:Value) (A:Around) (outer:List Env) (s:Shared) (H:Hp) (E:XK):Cx:=(oR CX0 P w K mg base N qual (ai st) f cdv A outer s H E).nox
theorem fnD {x qual:Str} {st:Stmt} {f:Addr} {fd:FuncData} {N ps:List Str} {k:Nat} {Φ:List D->Sl->Prop} (F:Fun K x qual st f fd) (S:az N ps (ai st)) (hb:∀ x ∈ aq,mg x=none) (len:∀ ds r,Φ ds r->ds.length=ps.length)
   (body:∀ ds r,Φ ds r->∀ cdv A outer s H E,Bk (Xc P w K mg base N qual st f cdv A outer s H E) k->PSs (Xc P w K mg base N qual st f cdv A outer s H E) (bO st) (dS K (zh N ds) { nx:=λ_=>r=.d .non,rt:=λr'=>r'=r })) :
   aS P w K mg base CX0 (k + 1) f fd ps (spD K Φ):=by
 refine F.ok S (λvs H Q E ⟨A,ds,r,_,d,h,_⟩=>d.length.trans (len ds r h)) λcdv A outer s H vs Q E hr ⟨A',ds,r,ha,d,h,q⟩=>⟨_,body ds r h cdv A outer s H E ⟨hr,rfl,hb,PassesOwn.never⟩,A',H,λ_=>[],⟨ah.refl _,?_,λi s hi=>?_,λ_ _ z=>(nomatch z),λ_ _ _ z=>(nomatch z),ha,λ_ _ z=>(nomatch z)⟩,λτ B σ H' h S=>?_,λ_ _ _ _ h=>h.elim,λ_ _ _ _ h=>h.elim,λv H' bs s h e hf z=>?_,λ_ _=>trivial⟩
 · unfold L2.start zh
   simp [d.length]
 · have hl:=d.length
   unfold zh at hi
   unfold L2.start
   by_cases hlt:i < ds.length
   · rw [List.getElem?_append_left (by simpa using hlt),List.getElem?_map,List.getElem?_eq_getElem hlt] at hi
     cases hi
     obtain ⟨v,e,dv⟩:=d.get (List.getElem?_eq_getElem hlt)
     refine ⟨rfl,v,?_,dv.mono (ax (ah.refl _) λ_ z=>z.elim id λ⟨_,z⟩=>(nomatch z))⟩
     rw [List.getElem?_append_left (by simpa [hl] using hlt),List.getElem?_map,e]
     rfl
   · rw [List.getElem?_append_right (by simpa using hlt),List.getElem?_replicate] at hi
     split at hi
     · cases hi; rfl
     · cases hi
 · obtain rfl:=(h:r=_)
   exact q .non H' [] S.same eX (iT .non)
 · obtain rfl:=(h:s=r)
   exact q v H' bs e hf z
theorem w6 {K:PySem.W.Frag} {Φ:List D->Sl->Prop} (hΦ:∀ ns:List Int,ns.length<=63->Φ [.lst (ns.map .int)] (.d (.bl true))) (H:Hp) (a:Addr) (ns:List Int) (hl:ns.length<=63) (hS:SqL K H a (ns.map V.int)):spD K Φ [.ref a] H (λv _=>v=.bl true) λ_ _ _=>False:=by
 have hh:hd H (λ_=>False)=H:=by funext b; unfold hd; rw [if_neg id]
 refine ⟨λ_=>False,_,_,λ_ z=>z.elim,.cons (.lst (vs:=ns.map V.int) (by rw [hh]; exact hS) ?_) .nil,hΦ ns hl,λv H' bs _ _ h=>?_⟩
 · clear hl hS
   induction ns with
   | nil=>exact .nil
   | cons n ns ih=>exact .cons .int ih
 · obtain ⟨_,u,e,d⟩:=h
   cases e
   cases d
   rfl
end
end Hy
namespace Hy
open PySem PySem.Spec PyProof.Rows L2
open Ev (D Den au aE aD aj aT aJ)
section
variable {X:Cx} {C:Bool} {τ:List Sl} {x y z:D} {a b e:Expr} {es:List Expr} {pos p:Pos} {k:Nat} {s:Sl} {ds:List D} {i j:Int}
theorem mkL (h:i.natAbs < 2 ^ 60):aE i j:=.inl (by
 rcases Nat.eq_zero_or_pos i.natAbs with z | z
 · rw [z]; decide
 · exact Nat.lt_trans ((Nat.log2_lt (by omega)).mpr h) (by decide))
theorem mkR (h:j.natAbs < 2 ^ 60):aE i j:=.inr (.inl (by
 rcases Nat.eq_zero_or_pos j.natAbs with z | z
 · rw [z]; decide
 · exact Nat.lt_trans ((Nat.log2_lt (by omega)).mpr h) (by decide)))
theorem mkD (h0:j ≠ 0) (h:j.natAbs < 2 ^ 62):aD j:=⟨h0,Nat.lt_trans ((Nat.log2_lt (by omega)).mpr h) (by decide)⟩
end
theorem aK {α:Type} {xs:List α} {i:Nat} {x:α} (h:xs[i]?=some x):atI xs (i:Int)=some x:=by
 unfold atI ixN
 have:=(List.getElem?_eq_some_iff.mp h).1
 rw [if_pos (by omega),if_pos (by omega)]
 simpa using h
theorem pf {ns:List Int} {i:Int} (h0:0<=i) (h:i.toNat < ns.length):atI (ns.map D.int) i=some (.int (ns.getD i.toNat 0)):=by
 obtain ⟨n,rfl⟩:=Int.eq_ofNat_of_zero_le h0
 exact aK (by
   have h:n < ns.length:=h
   simp [h])
theorem zK {xs:List D} (n:Nat):cutD xs none (some (n:Int))=xs.take n:=by
 unfold cutD
 rw [HT.fH,HT.je,List.drop_zero,Nat.sub_zero]
 rcases Nat.le_total n xs.length with h | h
 · rw [Nat.min_eq_left h]
 · rw [Nat.min_eq_right h,List.take_of_length_le (Nat.le_refl _),List.take_of_length_le h]
theorem qu {xs:List D} (m n:Nat):cutD xs (some (m:Int)) (some (n:Int))=(xs.take n).drop m:=by
 unfold cutD
 rw [HT.fH,HT.fH]
 rw [<- List.drop_take]
 rcases Nat.le_total n xs.length with h | h
 · rw [Nat.min_eq_left h]
   rcases Nat.le_total m xs.length with h' | h'
   · rw [Nat.min_eq_left h']
   · rw [Nat.min_eq_right h',List.drop_eq_nil_of_le (by simp; omega),List.drop_eq_nil_of_le (by simp; omega)]
 · rw [Nat.min_eq_right h,List.take_of_length_le (Nat.le_refl _),List.take_of_length_le h]
   rcases Nat.le_total m xs.length with h' | h'
   · rw [Nat.min_eq_left h']
   · rw [Nat.min_eq_right h',List.drop_eq_nil_of_le (Nat.le_refl _),List.drop_eq_nil_of_le h']
theorem getD_none {α:Type} {xs:List α} {i:Nat} {d:α} (h:xs.length<=i):xs.getD i d=d:=by simp [List.getD,h]
theorem ex1 {α:Type} {p:α->Prop} {a:α} (h:p a):∃ a,p a:=⟨a,h⟩
theorem ex3 {α:Type} {p:α->α->α->Prop} {a b c:α} (h:p a b c):∃ a b c,p a b c:=⟨a,b,c,h⟩
end Hy
namespace Hy
open PySem PySem.Spec PyProof.Rows L2
open Ev (D Den au)
noncomputable def Dfn (K:PySem.W.Frag) (x:Str) (st:Stmt) (f:Addr):Prop:=PySem.W.nsIn K mainGlobals x=some (some (.ref f))/\(∃ oc od kV dc pm an cd ct sl,K.lookup f=some ⟨oc,od,.func (PySem.W.fnOf x x (cg st) (bO st) (ai st) .none kV dc pm an cd ct),sl⟩/\PySem.W.codeIn K cd x=true)/\PySem.W.keepIn K (.ref f)=true
noncomputable def BdA (x:Str) (st:Stmt) (ps:List Str):Prop:=∀ (kV dc pm:Value) (an:Option Addr) (cd ct:Value) (us:List Value),us.length=ps.length->bindArgs (PySem.W.fnOf x x (cg st) (bO st) (ai st) .none kV dc pm an cd ct) ⟨us,[]⟩=pure (ps.zip us)
noncomputable def nsL (K:PySem.W.Frag):List Str->Prop
 | []=>True
 | x :: r=>PySem.W.nsIn K mainGlobals x=some none/\nsL K r
section
variable {P:Program} {w:World} {K:PySem.W.Frag} {h:Heap} {mg:Str->Option Value} {base:Heap} {x:Str} {st:Stmt} {f:Addr} {ps:List Str} {k:Nat} {Φ:List D->Sl->Prop}
theorem Dfn.of {oc:Value} {od an:Option Addr} {kV dc pm cd ct:Value} {sl:Array (Option Value)} (a:PySem.W.nsIn K mainGlobals x=some (some (.ref f))) (l:K.lookup f=some ⟨oc,od,.func (PySem.W.fnOf x x (cg st) (bO st) (ai st) .none kV dc pm an cd ct),sl⟩) (c:PySem.W.codeIn K cd x=true) (k:PySem.W.keepIn K (.ref f)=true):Dfn K x st f:=⟨a,⟨_,_,_,_,_,_,_,_,_,l,c⟩,k⟩
theorem nsL.none (X:K.In h) (G:h.Ns mainGlobals mg):∀ {l:List Str},nsL K l->∀ x ∈ l,mg x=none
 | _ :: _,z,x,m=>by
   rcases List.mem_cons.mp m with rfl | m
   · exact PySem.W.mg_none_of X G z.1
   · exact nsL.none X G z.2 x m
theorem Dfn.fn (d:Dfn K x st f) (X:K.In h) (G:h.Ns mainGlobals mg) (b:BdA x st ps):∃ fd,Fun K x x st f fd/\mg x=some (.ref f)/\PySem.W.keepIn K (.ref f)=true/\Binds K fd ps []:=by
 obtain ⟨a,⟨oc,od,kV,dc,pm,an,cd,ct,sl,l,c'⟩,q⟩:=d
 have F:=oG l c' q
 exact ⟨_,F,PySem.W.mg_of X G a,q,F.binds (b kV dc pm an cd ct)⟩
theorem Dfn.cal (d:Dfn K x st f) (X:K.In h) (G:h.Ns mainGlobals mg) (b:BdA x st ps) (o:∀ fd,Fun K x x st f fd->aS P w K mg base CX0 k f fd ps (spD K Φ)):Cal P w K mg base k x Φ:=by
 obtain ⟨fd,F,h1,h2,h3⟩:=d.fn X G b
 exact ⟨f,fd,ps,o fd F,h1,h2,h3⟩
end
theorem bd1 {Q:List Value->Prop} (h:∀ a,Q [a]):∀ us:List Value,us.length=1->Q us:=λus e=>match us,e with | [a],_=>h a
theorem bd2 {Q:List Value->Prop} (h:∀ a b,Q [a,b]):∀ us:List Value,us.length=2->Q us:=λus e=>match us,e with | [a,b],_=>h a b
theorem bd3 {Q:List Value->Prop} (h:∀ a b c,Q [a,b,c]):∀ us:List Value,us.length=3->Q us:=λus e=>match us,e with | [a,b,c],_=>h a b c
theorem bd4 {Q:List Value->Prop} (h:∀ a b c d,Q [a,b,c,d]):∀ us:List Value,us.length=4->Q us:=λus e=>match us,e with | [a,b,c,d],_=>h a b c d
end Hy
namespace Hy
open PySem PySem.Spec PyProof.Rows L2
open Ev (D Den au aj aT aJ)
noncomputable def cY:List Nat->Nd->Option Nd
 | [],t=>some t
 | i :: p,.l xs=>(xs[i]?).bind (cY p)
 | i :: p,.t xs=>(xs[i]?).bind (cY p)
 | _ :: _,.d _=>none
noncomputable def cy:List Nat->Nd->Nd->Nd
 | [],_,n=>n
 | i :: p,.l xs,n=>.l (xs.set i (cy p (xs.getD i (.d .non)) n))
 | i :: p,.t xs,n=>.t (xs.set i (cy p (xs.getD i (.d .non)) n))
 | _ :: _,.d x,_=>.d x
noncomputable def cS (H:Hp):List Nat->V->V->Prop
 | [],u,v=>v=u
 | i :: p,u,v=>∃ a vs w,u=.ref a/\(H a=some (.lst vs)\/H a=some (.tup vs))/\vs[i]?=some w/\cS H p w v
theorem cS.mono {H H':Hp} (e:ah H H'):∀ {p:List Nat} {u v:V},cS H p u v->cS H' p u v
 | [],_,_,h=>h
 | _ :: _,_,_,⟨a,vs,w,h1,h2,h3,h4⟩=>⟨a,vs,w,h1,h2.elim (λz=>.inl (e _ _ z)) (λz=>.inr (e _ _ z)),h3,h4.mono e⟩
theorem cS.snoc {H:Hp} {i:Nat} {a:Addr} {vs:List V} {w:V}:∀ {p:List Nat} {u:V},cS H p u (.ref a)->(H a=some (.lst vs)\/H a=some (.tup vs))->vs[i]?=some w->cS H (p++[i]) u w
 | [],_,h,h1,h2=>⟨a,vs,w,h.symm,h1,h2,rfl⟩
 | _ :: _,_,⟨b,us,x,z1,z2,z3,z4⟩,h1,h2=>⟨b,us,x,z1,z2,z3,z4.snoc h1 h2⟩
section
variable {K:PySem.W.Frag} {G H:Hp}
theorem aI.length:∀ {vs:List V} {bs:List Addr} {xs:List Nd},aI K G H vs bs xs->vs.length=xs.length
 | _,_,_,.nil=>rfl
 | _,_,_,.cons _ r=>congrArg (· + 1) r.length
theorem aI.part:∀ {vs:List V} {bs:List Addr} {xs:List Nd} {i:Nat} {c:Nd},aI K G H vs bs xs->xs[i]?=some c->∃ v l m r,vs[i]?=some v/\bs=l++(m++r)/\bo K G H v m c /\
   ∀ {G' H':Hp} {m':List Addr} {c':Nd},ah G G'->(∀ b,b ∈ l\/b ∈ r->H' b=H b)->bo K G' H' v m' c'->aI K G' H' vs (l++(m'++r)) (xs.set i c')
 | _,_,_,_,_,.nil,e=>by cases e
 | _,_,_,0,_,.cons (b1:=b1) (b2:=b2) h r,e=>by
   cases e
   exact ⟨_,[],b1,b2,rfl,rfl,h,λg e h'=>by rw [List.nil_append]; exact .cons h' (r.frame g λb hb=>e b (.inr hb))⟩
 | _,_,_,i + 1,c,.cons (b1:=b1) h r,e=>by
   obtain ⟨v,l,m,q,h1,h2,h3,h4⟩:=aI.part (i:=i) (c:=c) r (by simpa using e)
   refine ⟨v,b1++l,m,q,by simpa using h1,by rw [h2,List.append_assoc],h3,λ{G' H' m' c'} g e h'=>?_⟩
   rw [List.append_assoc]
   exact .cons (h.frame g λb hb=>e b (.inl (List.mem_append_left _ hb))) (h4 g (λb hb=>e b (hb.elim (λz=>.inl (List.mem_append_right _ z)) .inr)) h')
theorem bo.focus:∀ (p:List Nat) {u:V} {bs:List Addr} {t c:Nd},bo K G H u bs t->cY p t=some c->∃ v l m r,cS H p u v/\bs=l++(m++r)/\bo K G H v m c /\
   ∀ {G' H':Hp} {m':List Addr} {c':Nd},ah G G'->(∀ b,b ∈ l\/b ∈ r->H' b=H b)->bo K G' H' v m' c'->bo K G' H' u (l++(m'++r)) (cy p t c')
 | [],u,bs,tr,c,h,e=>by
   cases e
   exact ⟨u,[],bs,[],rfl,by simp,h,λg _ h'=>by simpa [cy] using h'⟩
 | i :: p,_,_,.l xs,c,.l (a:=a) (bs:=bs) hH r,e=>by
   rw [cY] at e
   cases ei:xs[i]? with
   | none=>rw [ei] at e; cases e
   | some x=>
     rw [ei] at e
     obtain ⟨v,l,m,q,h1,h2,h3,h4⟩:=r.part ei
     obtain ⟨w,l',m',q',g1,g2,g3,g4⟩:=bo.focus p h3 e
     refine ⟨w,a :: (l++l'),m',q'++q,⟨a,_,v,rfl,.inl hH,h1,g1⟩,by rw [h2,g2]; simp,g3,λ{G' H' m2 c2} g e2 h'=>?_⟩
     have k1:=g4 g (λb hb=>e2 b (hb.elim (λz=>.inl (List.mem_cons_of_mem _ (List.mem_append_right _ z))) λz=>.inr (List.mem_append_left _ z))) h'
     have k2:=h4 g (λb hb=>e2 b (hb.elim (λz=>.inl (List.mem_cons_of_mem _ (List.mem_append_left _ z))) λz=>.inr (List.mem_append_right _ z))) k1
     rw [cy,show xs.getD i (.d .non)=x by simp [List.getD,ei]]
     have k3:=bo.l (G:=G') (K:=K) (a:=a) (by rw [e2 a (.inl (List.mem_cons_self ..))]; exact hH) k2
     simpa using k3
 | i :: p,_,_,.t xs,c,.t (a:=a) (bs:=bs) hH r,e=>by
   rw [cY] at e
   cases ei:xs[i]? with
   | none=>rw [ei] at e; cases e
   | some x=>
     rw [ei] at e
     obtain ⟨v,l,m,q,h1,h2,h3,h4⟩:=r.part ei
     obtain ⟨w,l',m',q',g1,g2,g3,g4⟩:=bo.focus p h3 e
     refine ⟨w,a :: (l++l'),m',q'++q,⟨a,_,v,rfl,.inr hH,h1,g1⟩,by rw [h2,g2]; simp,g3,λ{G' H' m2 c2} g e2 h'=>?_⟩
     have k1:=g4 g (λb hb=>e2 b (hb.elim (λz=>.inl (List.mem_cons_of_mem _ (List.mem_append_right _ z))) λz=>.inr (List.mem_append_left _ z))) h'
     have k2:=h4 g (λb hb=>e2 b (hb.elim (λz=>.inl (List.mem_cons_of_mem _ (List.mem_append_left _ z))) λz=>.inr (List.mem_append_right _ z))) k1
     rw [cy,show xs.getD i (.d .non)=x by simp [List.getD,ei]]
     have k3:=bo.t (G:=G') (K:=K) (a:=a) (by rw [e2 a (.inl (List.mem_cons_self ..))]; exact hH) k2
     simpa using k3
theorem cS.det:∀ {p:List Nat} {u v w:V},cS H p u v->cS H p u w->v=w
 | [],_,_,_,h,h'=>h.trans h'.symm
 | _ :: _,_,_,_,⟨a,vs,x,h1,h2,h3,h4⟩,⟨b,us,y,g1,g2,g3,g4⟩=>by
   rw [h1] at g1
   cases g1
   have e:vs=us:=by
     rcases h2 with h2 | h2 <;> rcases g2 with g2 | g2 <;> rw [h2] at g2 <;> cases g2 <;> rfl
   subst e
   rw [h3] at g3
   cases g3
   exact h4.det g4
theorem bV.frame {G' H':Hp} (g:ah G G') {v:Option V} {bs:List Addr}:∀ {s:Sl},(∀ b ∈ bs,H' b=H b)->bV K G H v bs s->bV K G' H' v bs s
 | .un,_,h=>h
 | .d _,_,⟨h,u,e1,h2⟩=>⟨h,u,e1,h2.mono g⟩
 | .o _,e,⟨a,vs,h1,h2,h3,h4⟩=>⟨a,vs,h1,h2,by rw [e a (by rw [h1]; exact List.mem_cons_self ..)]; exact h3,h4.mono g⟩
 | .n _,e,⟨h0,u,h1,h2⟩=>⟨h0,u,h1,h2.frame g e⟩
 | .x E,e,⟨a,o,h1,h2,h3,h4⟩=>⟨a,o,h1,h2,by rw [e a (by rw [h1]; exact List.mem_cons_self ..)]; exact h3,E.mono g h4⟩
theorem oD {l r b0 b1:List Addr} {a:Addr} (h:(l++((a :: b0)++r)).Nodup) (h1:b1.Nodup) (hb:∀ b ∈ b1,b ∈ b0\/(b ∉ l/\b ≠ a/\b ∉ r)):(l++((a :: b1)++r)).Nodup:=by
 obtain ⟨z1,z2,z3⟩:=List.nodup_append.mp h
 rw [List.cons_append] at z2
 obtain ⟨z4,z5⟩:=List.nodup_cons.mp z2
 obtain ⟨z6,z7,z8⟩:=List.nodup_append.mp z5
 refine List.nodup_append.mpr ⟨z1,?_,λx hx y hy=>?_⟩
 · rw [List.cons_append]
   refine List.nodup_cons.mpr ⟨λz=>?_,List.nodup_append.mpr ⟨h1,z7,λx hx y hy=>?_⟩⟩
   · rcases List.mem_append.mp z with z | z
     · rcases hb a z with q | q
       · exact z4 (List.mem_append_left _ q)
       · exact q.2.1 rfl
     · exact z4 (List.mem_append_right _ z)
   · rcases hb x hx with q | q
     · exact z8 x q y hy
     · exact λe=>q.2.2 (e ▸ hy)
 · rw [List.cons_append] at hy
   rcases List.mem_cons.mp hy with q | q
   · exact z3 x hx y (by rw [q]; exact List.mem_append_left _ (List.mem_cons_self ..))
   · rcases List.mem_append.mp q with q | q
     · rcases hb y q with q | q
       · exact z3 x hx y (List.mem_append_left _ (List.mem_cons_of_mem _ q))
       · exact λe=>q.1 (e ▸ hx)
     · exact z3 x hx y (List.mem_append_right _ q)
theorem Sta.putN {A:Addr->Prop} {H₀:Hp} {τ:List Sl} {B:Nat->List Addr} {σ:L2.St} {i:Nat} {t:Nd} {p:List Nat} {xs:List Nd} (S:Sta K A H₀ τ B σ H) (hi:τ[i]?=some (.n t)) (hp:cY p t=some (.l xs)) :
   ∃ u a vs bs0,(σ[i]?).join=some u/\cS H p u (.ref a)/\H a=some (.lst vs)/\aI K (hd H (own A B)) H vs bs0 xs/\bs0.Nodup/\own A B a/\(∀ b ∈ bs0,own A B b/\b ≠ a) /\
     ∀ {H1:Hp} {vs':List V} {bs1:List Addr} {xs':List Nd},ah H H1->bs1.Nodup->(∀ b ∈ bs1,b ∈ bs0\/(H b=none/\∃ o,H1 b=some o))->aI K (hd (upd H1 a (.lst vs')) λb=>own A B b\/b ∈ bs1) (upd H1 a (.lst vs')) vs' bs1 xs' ->
       ∃ B',Sta K A H₀ (τ.set i (.n (cy p t (.l xs')))) B' σ (upd H1 a (.lst vs')):=by
 obtain ⟨nd,u,eu,ok⟩:=S.sl i _ hi
 obtain ⟨v,l,m,r,pv,hbs,okc,back⟩:=ok.focus p hp
 cases okc with
 | @l a vs bs0 _ hH r0=>
   have mem:∀ b,b ∈ l\/b=a\/b ∈ bs0\/b ∈ r->b ∈ B i:=λb hb=>by
     rw [hbs]
     rcases hb with z | z | z | z
     · exact List.mem_append_left _ z
     · exact List.mem_append_right _ (by rw [z]; exact List.mem_append_left _ (List.mem_cons_self ..))
     · exact List.mem_append_right _ (List.mem_append_left _ (List.mem_cons_of_mem _ z))
     · exact List.mem_append_right _ (List.mem_append_right _ z)
   have nd':=nd
   rw [hbs] at nd'
   obtain ⟨n1,n2,n3⟩:=List.nodup_append.mp nd'
   rw [List.cons_append] at n2
   obtain ⟨n4,n5⟩:=List.nodup_cons.mp n2
   obtain ⟨n6,_,_⟩:=List.nodup_append.mp n5
   have ha:own A B a:=.inr ⟨i,mem a (.inr (.inl rfl))⟩
   refine ⟨u,a,vs,bs0,eu,pv,hH,r0,n6,ha,λb hb=>⟨.inr ⟨i,mem b (.inr (.inr (.inl hb)))⟩,λz=>n4 (z ▸ List.mem_append_left _ hb)⟩,λ{H1 vs' bs1 xs'} e h1 hb hx=>?_⟩
   have keep:∀ b o,b ≠ a->H b=some o->upd H1 a (.lst vs') b=H b:=λb o ne h=>by rw [aw ne,e _ _ h,h]
   have la:∀ b,b ∈ l\/b ∈ r->b ≠ a:=λb hb z=>by
     rcases hb with q | q
     · exact n3 b q a (List.mem_append_left _ (List.mem_cons_self ..)) z
     · exact n4 (z ▸ List.mem_append_right _ q)
   have fresh:∀ b ∈ bs1,b ∈ bs0\/(b ∉ l/\b ≠ a/\b ∉ r):=λb hb1=>by
     rcases hb b hb1 with q | ⟨q,_⟩
     · exact .inl q
     · have no:∀ c,c ∈ B i->b ≠ c:=λc hc z=>by obtain ⟨o,hc⟩:=S.bd i c hc; rw [<- z,q] at hc; cases hc
       exact .inr ⟨λz=>no b (mem b (.inl z)) rfl,no a (mem a (.inr (.inl rfl))),λz=>no b (mem b (.inr (.inr (.inr z)))) rfl⟩
   have sub:∀ b,own A (upB B i (l++((a :: bs1)++r))) b->own A B b\/b ∈ bs1:=λb z=>by
     rcases z with z | ⟨j,z⟩
     · exact .inl (.inl z)
     · rcases aX z with ⟨_,z⟩ | ⟨_,z⟩
       · rcases List.mem_append.mp z with z | z
         · exact .inl (.inr ⟨i,mem b (.inl z)⟩)
         · rw [List.cons_append] at z
           rcases List.mem_cons.mp z with z | z
           · exact .inl (z ▸ ha)
           · rcases List.mem_append.mp z with z | z
             · exact .inr z
             · exact .inl (.inr ⟨i,mem b (.inr (.inr (.inr z)))⟩)
       · exact .inl (.inr ⟨j,z⟩)
   have sm:ah (hd H (own A B)) (hd (upd H1 a (.lst vs')) (own A (upB B i (l++((a :: bs1)++r))))):=λb o z=>by
     obtain ⟨z1,z2⟩:=ak.mp z
     refine ak.mpr ⟨λy=>?_,by rw [keep b o (λq=>z1 (q ▸ ha)) z2]; exact z2⟩
     rcases sub b y with y | y
     · exact z1 y
     · rcases hb b y with q | ⟨q,_⟩
       · exact z1 (.inr ⟨i,mem b (.inr (.inr (.inl q)))⟩)
       · rw [q] at z2; cases z2
   have hs:ah H₀ (upd H1 a (.lst vs')):=λb o z=>by
     have f0:=S.fr i a (mem a (.inr (.inl rfl)))
     rw [aw (λq=>by rw [q,f0] at z; cases z)]
     exact e _ _ (S.same _ _ z)
   refine ⟨upB B i (l++((a :: bs1)++r)),hs,by rw [List.length_set,S.len],λj s hj=>?_,λj b z=>?_,λj k b z1 z2=>?_,S.ad,λj b z=>?_⟩
   · by_cases ej:j=i
     · subst ej
       have hl:=(List.getElem?_eq_some_iff.mp hi).1
       rw [List.getElem?_set_self hl] at hj
       cases hj
       unfold upB
       rw [if_pos rfl]
       refine ⟨oD nd' h1 fresh,u,eu,back sm (λb hb=>?_) (.l aA (hx.frame (ax (ah.refl _) sub) λ_ _=>rfl))⟩
       obtain ⟨o,q⟩:=S.bd j b (mem b (hb.elim .inl λz=>.inr (.inr (.inr z))))
       exact keep b o (la b hb) q
     · rw [List.getElem?_set_ne (λz=>ej z.symm)] at hj
       unfold upB
       rw [if_neg ej]
       refine (S.sl j s hj).frame sm λb hb=>?_
       obtain ⟨o,q⟩:=S.bd j b hb
       exact keep b o (λz=>ej (S.uq j i a (z ▸ hb) (mem a (.inr (.inl rfl))))) q
   · rcases aX z with ⟨_,z⟩ | ⟨_,z⟩
     · rcases sub b (.inr ⟨i,by unfold upB; rw [if_pos rfl]; exact z⟩) with y | y
       · rcases List.mem_append.mp z with z | z
         · exact S.fr i b (mem b (.inl z))
         · rw [List.cons_append] at z
           rcases List.mem_cons.mp z with z | z
           · exact S.fr i b (mem b (.inr (.inl z)))
           · rcases List.mem_append.mp z with z | z
             · rcases hb b z with q | ⟨q,_⟩
               · exact S.fr i b (mem b (.inr (.inr (.inl q))))
               · exact S.same.free q
             · exact S.fr i b (mem b (.inr (.inr (.inr z))))
       · rcases hb b y with q | ⟨q,_⟩
         · exact S.fr i b (mem b (.inr (.inr (.inl q))))
         · exact S.same.free q
     · exact S.fr j b z
   · have inB:∀ {c},c ∈ l++((a :: bs1)++r)->c ∈ B i\/H c=none:=λ{c} z=>by
       rcases List.mem_append.mp z with z | z
       · exact .inl (mem c (.inl z))
       · rw [List.cons_append] at z
         rcases List.mem_cons.mp z with z | z
         · exact .inl (mem c (.inr (.inl z)))
         · rcases List.mem_append.mp z with z | z
           · rcases hb c z with q | ⟨q,_⟩
             · exact .inl (mem c (.inr (.inr (.inl q))))
             · exact .inr q
           · exact .inl (mem c (.inr (.inr (.inr z))))
     have cross:∀ {j},j ≠ i->b ∈ B j->b ∈ l++((a :: bs1)++r)->False:=λ{j} nj y1 y2=>by
       rcases inB y2 with q | q
       · exact nj (S.uq j i b y1 q)
       · obtain ⟨o,w⟩:=S.bd j b y1; rw [q] at w; cases w
     rcases aX z1 with ⟨e1,y1⟩ | ⟨e1,y1⟩ <;> rcases aX z2 with ⟨e2,y2⟩ | ⟨e2,y2⟩
     · exact e1.trans e2.symm
     · exact (cross e2 y2 y1).elim
     · exact (cross e1 y1 y2).elim
     · exact S.uq j k b y1 y2
   · rcases aX z with ⟨_,z⟩ | ⟨_,z⟩
     · by_cases e':b=a
       · exact ⟨_,by rw [e']; exact aA⟩
       · rw [aw e']
         have old:b ∈ B i->∃ o,H1 b=some o:=λq=>let ⟨o,w⟩:=S.bd i b q; ⟨o,e _ _ w⟩
         rcases List.mem_append.mp z with z | z
         · exact old (mem b (.inl z))
         · rw [List.cons_append] at z
           rcases List.mem_cons.mp z with z | z
           · exact absurd z e'
           · rcases List.mem_append.mp z with z | z
             · rcases hb b z with q | ⟨_,q⟩
               · exact old (mem b (.inr (.inr (.inl q))))
               · exact q
             · exact old (mem b (.inr (.inr (.inr z))))
     · by_cases e':b=a
       · exact ⟨_,by rw [e']; exact aA⟩
       · rw [aw e']
         obtain ⟨o,w⟩:=S.bd j b z
         exact ⟨o,e _ _ w⟩
end
noncomputable def dP (K:PySem.W.Frag) (τ:List Sl) (i:Nat) (p:List Nat):TE:=λσ H Q=>∃ A H₀ B,Sta K A H₀ τ B σ H/\∀ u v H',(σ[i]?).join=some u->ah H H'->cS H' p u v->Q v H'
noncomputable def nV:Sl->Option Nd
 | .un=>none
 | .d x=>some (.d x)
 | .o xs=>some (.l (xs.map .d))
 | .n t=>some t
 | .x _=>none
section
variable {K:PySem.W.Frag} {G H:Hp}
theorem lJ:∀ {vs:List V} {xs:List D},au K G vs xs->aI K G H vs [] (xs.map .d)
 | _,_,.nil=>.nil
 | _,_,.cons h r=>.cons (b1:=[]) (b2:=[]) (.d h) (lJ r)
theorem bV.nd {v:V} {bs:List Addr} {s:Sl} {c:Nd} (h:bV K G H (some v) bs s) (e:nV s=some c):bo K G H v bs c/\bs.Nodup:=by
 cases s with
 | un=>cases e
 | d x=>cases e; obtain ⟨rfl,u,eu,d⟩:=h; cases eu; exact ⟨.d d,List.nodup_nil⟩
 | o xs=>cases e; obtain ⟨a,vs,rfl,e2,h3,h4⟩:=h; cases e2; exact ⟨.l h3 (lJ h4),by simp⟩
 | n t=>cases e; obtain ⟨h0,u,eu,h2⟩:=h; cases eu; exact ⟨h2,h0⟩
 | x E=>cases e
theorem aI.snoc {v:V} {c:Nd} {b2:List Addr} (h:bo K G H v b2 c):∀ {vs:List V} {bs:List Addr} {xs:List Nd},aI K G H vs bs xs->aI K G H (vs++[v]) (bs++b2) (xs++[c])
 | _,_,_,.nil=>by have:=aI.cons h .nil; rw [List.append_nil] at this; exact this
 | _,_,_,.cons h1 r=>by rw [List.append_assoc]; exact .cons h1 (aI.snoc h r)
theorem Sta.nd {A:Addr->Prop} {H₀:Hp} {τ:List Sl} {B:Nat->List Addr} {σ:L2.St} (S:Sta K A H₀ τ B σ H) {i:Nat} {s:Sl} {c:Nd} (hi:τ[i]?=some s) (hc:nV s=some c):Sta K A H₀ (τ.set i (.n c)) (upB B i (B i)) σ H:=
 S.less (λ_ z=>z) λG' g _=>by
   have q:=S.sl i s hi
   obtain ⟨u,e⟩:∃ u,(σ[i]?).join=some u:=by
     cases s with
     | un=>cases hc
     | d x=>obtain ⟨_,u,e,_⟩:=q; exact ⟨u,e⟩
     | o xs=>obtain ⟨_,_,_,e,_⟩:=q; exact ⟨_,e⟩
     | n t=>obtain ⟨_,u,e,_⟩:=q; exact ⟨u,e⟩
     | x E=>cases hc
   rw [e] at q ⊢
   obtain ⟨q1,q2⟩:=q.nd hc
   exact ⟨q2,u,rfl,q1.frame g λ_ _=>rfl⟩
end
section
variable {X:Cx} {C:Bool} {τ:List Sl} {x y z:D} {a b e o ix:Expr} {es:List Expr} {pos p q:Pos} {k:Nat} {s:Sl} {N:Po} {rest:List Stmt} {i:Nat} {t c:Nd} {pt:List Nat} {xs:List Nd} {j:Int} {m:Nat}
theorem BA (i:Nat) {s:Sl} {c:Nd} (h:PSs X rest (dS X.K (τ.set i (.n c)) N)) (hi:τ[i]?=some s:=by rfl) (hc:nV s=some c:=by rfl):PSs X rest (dS X.K τ N):=ot h λD σ H ⟨A,H₀,B,S,Me⟩=>⟨A,H₀,_,S.nd hi hc,Me⟩
theorem eg (i:Nat) {n:Str} {t:Nd} (h:τ[i]?=some (.n t):=by rfl) (hN:X.N[i]?=some n:=by rfl) (hv:Vis X.env.scope n:=by first | exact Or.inl rfl | exact Or.inr (Or.inl rfl) | exact Or.inr (Or.inr rfl))
   (hd:(n == ("__debug__" : Str))=false:=by decide) (hcd:(n == ("__classdict__" : Str))=false:=by decide):PE X (.Name n pos) (dP X.K τ i []):=peW (bH hN hv hd hcd) λσ H Q ⟨A,H₀,B,S,k⟩=>by
 obtain ⟨_,u,e,_⟩:=S.sl i _ h
 exact ⟨u,slot_of e,k u u H e (ah.refl _) rfl⟩
theorem Sta.at {K:PySem.W.Frag} {A:Addr->Prop} {H₀ H:Hp} {τ:List Sl} {B:Nat->List Addr} {σ:L2.St} (S:Sta K A H₀ τ B σ H) (hi:τ[i]?=some (.n t)) (hp:cY pt t=some c):∃ u v m,(σ[i]?).join=some u/\cS H pt u v/\bo K (hd H (own A B)) H v m c/\∀ b ∈ m,b ∈ B i:=by
 obtain ⟨_,u,e,ok⟩:=S.sl i _ hi
 obtain ⟨v,l,m,r,h1,h2,h3,_⟩:=ok.focus pt hp
 exact ⟨u,v,m,e,h1,h3,λb hb=>by rw [h2]; exact List.mem_append_right _ (List.mem_append_left _ hb)⟩
theorem vU {K:PySem.W.Frag} {G H:Hp} {vs:List V} {bs:List Addr} {m:Nat} (r:aI K G H vs bs xs) (hm:m < xs.length):∃ v,vs[m]?=some v:=⟨vs[m]'(by rw [r.length]; exact hm),List.getElem?_eq_getElem _⟩
theorem za {n m:Nat} {j:Int} (h:ixN n j=some m):m < n:=by
 unfold ixN at h
 split at h
 · split at h
   · cases h; omega
   · cases h
 · split at h
   · cases h; omega
   · cases h
theorem nr (ha:PE X a (dP X.K τ i pt)) (hb:PE X b (dE X.K false τ (.d (.int j)))) (hi:τ[i]?=some (.n t)) (hp:cY pt t=some (.l xs)) (hj:ixN xs.length j=some m) (hs:lh b:=by exact λ_ _=>rfl):PE X (.Subscript a b pos) (dP X.K τ i (pt++[m])):=
 peW (xU rb ha hb hs) λσ H Q ⟨A,H₀,B,S,k⟩=>⟨A,H₀,B,S,λu v H1 eu e1 pv=>aL (S.mono e1) λw H2 e2 d2=>by
   cases d2
   obtain ⟨u',v',m',eu',pv',ok,_⟩:=((S.mono e1).mono e2).at hi hp
   rw [eu] at eu'
   cases eu'
   obtain rfl:=(pv.mono e2).det pv'
   cases ok with
   | @l ad vs _ _ hH r=>
     obtain ⟨x,hx⟩:=vU r (za hj)
     exact ⟨ad,vs,j,x,rfl,rfl,SqL.of hH,by unfold atI; rw [r.length,hj]; exact hx,k u x H2 eu (e1.trans e2) (pv'.snoc (.inl hH) hx)⟩⟩
theorem Cc (h:PE X e (dP X.K τ i pt)) (hi:τ[i]?=some (.n t)) (hp:cY pt t=some (.d x)):PE X e (dE X.K C τ (.d x)):=peW h λσ H Q q=>by
 obtain ⟨A,H₀,B,S,k⟩:=cJ q
 refine ⟨A,H₀,B,S,λu v H1 eu e1 pv=>?_⟩
 obtain ⟨u',v',m',eu',pv',ok,_⟩:=(S.mono e1).at hi hp
 rw [eu] at eu'
 cases eu'
 obtain rfl:=pv.det pv'
 cases ok with
 | d h=>exact k v H1 e1 (h.mono (ax (ah.refl _) λ_ z=>ie z))
theorem mF (h:PE X e (dP X.K τ i pt)) (hi:τ[i]?=some (.n t)) (hp:cY pt t=some c):PE X e (dE X.K false τ (.d (ndD c))):=peW h λσ H Q q=>by
 obtain ⟨A,H₀,B,S,k⟩:=cJ q
 refine ⟨A,H₀,B,S,λu v H1 eu e1 pv=>?_⟩
 obtain ⟨u',v',m',eu',pv',ok,hm⟩:=(S.mono e1).at hi hp
 rw [eu] at eu'
 cases eu'
 obtain rfl:=pv.det pv'
 exact k v H1 e1 (ok.den (ax (ah.refl _) λ_ z=>.inl z) λb hb o ho=>ak.mpr ⟨λz=>(by obtain ⟨_,w⟩:=S.ad b z; rw [S.fr i b (hm b hb)] at w; cases w),ho⟩)
theorem yH {ap cp:Pos} (ho:PE X o (dP X.K τ i pt)) (he:PE X e (dE X.K true τ s)) (hi:τ[i]?=some (.n t)) (hp:cY pt t=some (.l xs)) (hc:nV s=some c) (hl:xs.length < 1000000) (hr:PSs X rest (dS X.K (τ.set i (.n (cy pt t (.l (xs++[c]))))) N))
   (hfew:((backTo cp (starEach [e] X.env)).all (λx=>!x.1) && (backToKw cp (keywordEach [] X.env)).all (λx=>x.1.isSome) && decide (([e]:List Expr).length + ([]:List Keyword).length + (if ([]:List Keyword).isEmpty then 0 else 1) < 30))=true:=by rfl)
   (hline:(ap.endLine == cp.line)=true:=by rfl) (hst:starEach [e] X.env=(false,eval e X.env) :: starEach [] X.env:=by rfl) (hpl:(backTo cp (starEach [] X.env)).any (·.1)=false:=by rfl)
   (hs:swapsWith (.Call (.Attribute o "append" ap) [e] [] cp) none pos.line X.env=pure false:=by rfl) (hbase:attributeBase o "append" X.env (eval o X.env)=eval o X.env:=by rfl) :
   PSs X (.Expr (.Call (.Attribute o "append" ap) [e] [] cp) pos :: rest) (dS X.K τ N):=
 aZ (M:=(·=τ.set i (.n (cy pt t (.l (xs++[c])))))) (psW (fB (kA PySem.F.plainAttrs_list PySem.F.slot_list_append PySem.F.type_list_append dF ho (bJ he c8 hst) hbase hfew hline hst hpl) hs) λD σ H ⟨A,H₀,B,S,Me⟩=>by
   refine ⟨A,H₀,B,S,λu v H1 eu e1 pv=>?_⟩
   have S1:=S.mono e1
   obtain ⟨u',l,vs,bs0,eu',pv',hH,r0,nd0,hal,hown,put⟩:=S1.putN hi hp
   rw [eu] at eu'
   cases eu'
   obtain rfl:=pv.det pv'
   refine ⟨.inl ⟨rfl,_,SqL.of hH⟩,A,H₀,B,S1,λw H2 bs e2 hf hw=>⟨l,vs,w,rfl,rfl,e2 _ _ hH,by rw [r0.length]; exact Nat.lt_trans hl (by decide),?_⟩⟩
   obtain ⟨nw,ndw⟩:=hw.nd hc
   have off:∀ b ∈ bs,b ≠ l:=λb hb z=>by rw [z] at hb; rw [(hf l hb).1] at hH; cases hH
   have sm:ah (hd H2 λb=>own A B b\/b ∈ bs) (hd (upd H2 l (.lst (vs++[w]))) λb=>own A B b\/b ∈ bs0++bs):=λb o z=>by
     obtain ⟨z1,z2⟩:=ak.mp z
     refine ak.mpr ⟨λy=>z1 ?_,by rw [aw (λy:b=l=>z1 (.inl (by rw [y]; exact hal)))]; exact z2⟩
     rcases y with y | y
     · exact .inl y
     · exact (List.mem_append.mp y).elim (λz=>.inl (hown b z).1) .inr
   have sm0:ah (hd H1 (own A B)) (hd (upd H2 l (.lst (vs++[w]))) λb=>own A B b\/b ∈ bs0++bs):=λb o z=>by
     obtain ⟨z1,z2⟩:=ak.mp z
     refine ak.mpr ⟨λy=>?_,by rw [aw (λy:b=l=>z1 (by rw [y]; exact hal))]; exact e2 _ _ z2⟩
     rcases y with y | y
     · exact z1 y
     · rcases List.mem_append.mp y with y | y
       · exact z1 (hown b y).1
       · rw [(hf b y).1] at z2; cases z2
   obtain ⟨B',S'⟩:=put (H1:=H2) (vs':=vs++[w]) (bs1:=bs0++bs) (xs':=xs++[c]) e2 (List.nodup_append.mpr ⟨nd0,ndw,λx hx y hy z=>by
       obtain ⟨o,q⟩:=r0.some_of x hx
       rw [z,(hf y hy).1] at q; cases q⟩)
     (λb hb=>(List.mem_append.mp hb).elim .inl λz=>.inr (hf b z))
     (aI.snoc (nw.frame sm λb hb=>aw (off b hb)) (r0.frame sm0 λb hb=>by
       obtain ⟨o,q⟩:=r0.some_of b hb
       rw [aw (hown b hb).2,e2 _ _ q,q]))
   exact Me.nx _ B' _ _ rfl S') λ_ e=>e ▸ hr
end
end Hy
namespace Ev
open PySem PySem.Spec PyProof.Rows L2
noncomputable def bad:Str:=⟨#[0x110000]⟩
mutual
noncomputable def eqD:D->D->Bool
 | .non,.non=>true
 | .bl a,.bl b=>a == b
 | .bl a,.int j=>(if a then 1 else 0) == j
 | .int i,.bl b=>i == (if b then 1 else 0)
 | .int a,.int b=>a == b
 | .str a,.str b=>a == b
 | .tup xs,.tup ys=>iN xs ys
 | .lst xs,.lst ys=>iN xs ys
 | .box _,.box _=>true
 | .box _,.str b=>bad == b
 | .str a,.box _=>a == bad
 | .box _,.non | .box _,.bl _ | .box _,.int _ | .box _,.tup _ | .box _,.lst _=>false
 | .non,.box _ | .bl _,.box _ | .int _,.box _ | .tup _,.box _ | .lst _,.box _=>false
 | .non,.bl _ | .non,.int _ | .non,.str _ | .non,.tup _ | .non,.lst _=>false
 | .bl _,.non | .bl _,.str _ | .bl _,.tup _ | .bl _,.lst _=>false
 | .int _,.non | .int _,.str _ | .int _,.tup _ | .int _,.lst _=>false
 | .str _,.non | .str _,.bl _ | .str _,.int _ | .str _,.tup _ | .str _,.lst _=>false
 | .tup _,.non | .tup _,.bl _ | .tup _,.int _ | .tup _,.str _ | .tup _,.lst _=>false
 | .lst _,.non | .lst _,.bl _ | .lst _,.int _ | .lst _,.str _ | .lst _,.tup _=>false
noncomputable def iN:List D->List D->Bool
 | [],[]=>true
 | x :: xs,y :: ys=>eqD x y && iN xs ys
 | [],_ :: _=>false
 | _ :: _,[]=>false
end
mutual
noncomputable def toP:D->PyData
 | .non=>.none
 | .bl b=>.bool b
 | .int i=>.int i
 | .str x=>.str x
 | .tup xs=>.tuple (fM xs)
 | .lst xs=>.list (fM xs)
 | .box _=>.str bad
noncomputable def fM:List D->List PyData
 | []=>[]
 | x :: xs=>toP x :: fM xs
end
mutual
noncomputable def cln:D->Bool
 | .str x=>PyData.strOk x
 | .tup xs=>dU xs
 | .lst xs=>dU xs
 | .box _=>false
 | .non | .bl _ | .int _=>true
noncomputable def dU:List D->Bool
 | []=>true
 | x :: xs=>cln x && dU xs
end
mutual
noncomputable def dep:D->Nat
 | .tup xs=>fg xs + 1
 | .lst xs=>fg xs + 1
 | .non | .bl _ | .int _ | .str _ | .box _=>0
noncomputable def fg:List D->Nat
 | []=>0
 | x :: xs=>max (dep x) (fg xs)
end
noncomputable def cM (x:D):Prop:=cln x=true/\dep x<=64
noncomputable instance (x:D):Decidable (cM x):=inferInstanceAs (Decidable (_/\_))
mutual
theorem fI:∀ x y:D,PyData.eqv (toP x) (toP y)=eqD x y
 | .non,y=>by cases y <;> simp [toP,PyData.eqv,eqD]
 | .bl a,y=>by cases y <;> simp [toP,PyData.eqv,eqD]
 | .int a,y=>by cases y <;> simp [toP,PyData.eqv,eqD]
 | .str a,y=>by cases y <;> simp [toP,PyData.eqv,eqD]
 | .tup xs,.tup ys=>by simp only [toP,PyData.eqv,eqD]; exact ji xs ys
 | .lst xs,.lst ys=>by simp only [toP,PyData.eqv,eqD]; exact ji xs ys
 | .tup xs,.non=>by simp [toP,PyData.eqv,eqD]
 | .tup xs,.bl _=>by simp [toP,PyData.eqv,eqD]
 | .tup xs,.int _=>by simp [toP,PyData.eqv,eqD]
 | .tup xs,.str _=>by simp [toP,PyData.eqv,eqD]
 | .tup xs,.lst _=>by simp [toP,PyData.eqv,eqD]
 | .lst xs,.non=>by simp [toP,PyData.eqv,eqD]
 | .lst xs,.bl _=>by simp [toP,PyData.eqv,eqD]
 | .lst xs,.int _=>by simp [toP,PyData.eqv,eqD]
 | .lst xs,.str _=>by simp [toP,PyData.eqv,eqD]
 | .lst xs,.tup _=>by simp [toP,PyData.eqv,eqD]
 | .tup xs,.box _=>by simp [toP,PyData.eqv,eqD]
 | .lst xs,.box _=>by simp [toP,PyData.eqv,eqD]
 | .box _,y=>by cases y <;> simp [toP,PyData.eqv,eqD]
theorem ji:∀ xs ys:List D,PyData.eqvAll (fM xs) (fM ys)=iN xs ys
 | [],[]=>by simp [fM,PyData.eqvAll,iN]
 | [],_ :: _=>by simp [fM,PyData.eqvAll,iN]
 | _ :: _,[]=>by simp [fM,PyData.eqvAll,iN]
 | x :: xs,y :: ys=>by simp only [fM,PyData.eqvAll,iN]; rw [fI x y,ji xs ys]
end
mutual
theorem gP:∀ x:D,(toP x).canLay0=cln x
 | .non=>by simp [toP,PyData.canLay0,cln]
 | .bl _=>by simp [toP,PyData.canLay0,cln]
 | .int _=>by simp [toP,PyData.canLay0,cln]
 | .str _=>by simp [toP,PyData.canLay0,cln]
 | .tup xs=>by simp only [toP,PyData.canLay0,cln]; exact jU xs
 | .lst xs=>by simp only [toP,PyData.canLay0,cln]; exact jU xs
 | .box _=>by simp only [toP,PyData.canLay0,cln]; decide +kernel
theorem jU:∀ xs:List D,PyData.canLayAll0 (fM xs)=dU xs
 | []=>by simp [fM,PyData.canLayAll0,dU]
 | x :: xs=>by simp only [fM,PyData.canLayAll0,dU]; rw [gP x,jU xs]
end
mutual
theorem iY:∀ x:D,(toP x).depth=dep x
 | .non=>by simp [toP,PyData.depth,dep]
 | .bl _=>by simp [toP,PyData.depth,dep]
 | .int _=>by simp [toP,PyData.depth,dep]
 | .str _=>by simp [toP,PyData.depth,dep]
 | .tup xs=>by simp only [toP,PyData.depth,dep]; rw [jy xs]
 | .lst xs=>by simp only [toP,PyData.depth,dep]; rw [jy xs]
 | .box _=>by simp [toP,PyData.depth,dep]
theorem jy:∀ xs:List D,PyData.depthAll (fM xs)=fg xs
 | []=>by simp [fM,PyData.depthAll,fg]
 | x :: xs=>by simp only [fM,PyData.depthAll,fg]; rw [iY x,jy xs]
end
theorem cN {x:D} (h:cM x):SeqAt.shaped (toP x)=true:=by
 unfold SeqAt.shaped
 rw [gP,iY,h.1,Bool.true_and]
 exact decide_eq_true h.2
section
variable {X:Cx} {pins:List (Addr × Obj)} {σ:L2.St} {H G:Hp} {s:Shared}
mutual
theorem bX (I:Inv X pins σ H s) (e:ah G H):∀ {v:V} {d:D} {u:Value},Den X.K G v d->RelV v u->cln d=true->∃ as,Reads s.heap u (toP d) as
 | _,_,_,.non,r,_=>by cases r; exact ⟨_,.none⟩
 | _,_,_,.bl,r,_=>by cases r; exact ⟨_,.bool _⟩
 | _,_,_,.int,r,_=>by obtain ⟨t,rfl⟩:=r; exact ⟨_,.int _ _⟩
 | _,_,_,.str,r,_=>by obtain ⟨t,rfl⟩:=r; exact ⟨_,.str _ _⟩
 | _,_,_,.tup h q,r,c=>by
   cases r
   obtain ⟨its,rv,⟨o,h1,h2,n,h3⟩,_⟩:=I.tuple (aT e h)
   obtain ⟨as,z⟩:=ic I e q rv (by rw [cln] at c; exact c)
   exact ⟨_,.tuple h1 h2 h3 (by simpa using z)⟩
 | _,_,_,.lst h q,r,c=>by
   cases r
   obtain ⟨its,rv,⟨o,n,h1,h2,_,h3⟩,_⟩:=I.list (aJ e h)
   obtain ⟨as,z⟩:=ic I e q rv (by rw [cln] at c; exact c)
   exact ⟨_,.list h1 h2 h3 (by simpa using z)⟩
 | _,_,_,.box _,_,c=>by rw [cln] at c; cases c
theorem ic (I:Inv X pins σ H s) (e:ah G H):∀ {vs:List V} {ds:List D} {us:List Value},au X.K G vs ds->Vals vs us->dU ds=true->∃ as,ReadsAll s.heap us (fM ds) as
 | _,_,_,.nil,.nil,_=>⟨_,.nil⟩
 | _,_,_,.cons h q,.cons r rs,c=>by
   rw [dU,Bool.and_eq_true] at c
   obtain ⟨as,z⟩:=bX I e h r c.1
   obtain ⟨bs,z'⟩:=ic I e q rs c.2
   exact ⟨_,.cons z z'⟩
end
end
end Ev
namespace Hy
open PySem PySem.Spec PyProof.Rows L2
open Ev (D Den au aj aT aJ Itz yZ pP eqD cM bX cN fI)
section
variable {X:Cx} {C:Bool} {τ:List Sl} {x y z:D} {a b e c tg it elt:Expr} {es ifs:List Expr} {pos p q:Pos} {k:Nat} {s:Sl} {N:Po} {rest body:List Stmt} {ds xs ys:List D} {i j:Int} {scope:Scope}
theorem qV (M:Nat->Bool->List Sl->Prop) (B:Bk X k) (h0:∃ n t,M n t τ) (hc:∀ n t τ',M n t τ'->PT X c (dT X.K τ' t)) (hb:∀ n τ',M n true τ'->PSs X body (dS X.K τ' { N with nx:=λτ2=>∃ m t,m < n/\M m t τ2,ct:=λτ2=>∃ m t,m < n/\M m t τ2,bk:=λ_=>False }))
   (hr:∀ n τ',M n false τ'->PSs X rest (dS X.K τ' N)):PSs X (.While c body [] pos :: rest) (dS X.K τ N):=by
 have hc':PT X c λσ H Q=>∃ n t τ',M n t τ'/\dT X.K τ' t σ H Q:=λpins s σ H Q I ⟨n,t,τ',m,q⟩=>hc n t τ' m pins s σ H Q I q
 have hb':PSs X body λD σ H=>∃ n τ',M n true τ'/\dS X.K τ' { N with nx:=λτ2=>∃ m t,m < n/\M m t τ2,ct:=λτ2=>∃ m t,m < n/\M m t τ2,bk:=λ_=>False } D σ H:=λpins s σ H D I ⟨n,τ',m,q⟩=>hb n τ' m pins s σ H D I q
 refine aZ (M:=λτ'=>∃ n,M n false τ') (psW (tX B.po hc' hb') λD σ H ⟨A,H₀,B,S,Me⟩=>⟨λm σ' H'=>∃ t τ' B',M m t τ'/\Sta X.K A H₀ τ' B' σ' H',?_,?_⟩) λτ' h=>let ⟨n,h⟩:=h; hr n τ' h
 · obtain ⟨n,t,h0⟩:=h0
   exact ⟨n,t,τ,B,h0,S⟩
 rintro m σ' H' ⟨t,τ',B',hM,S'⟩
 refine ⟨m,t,τ',hM,A,H₀,B',S',λH1 e1=>?_⟩
 cases t with
 | false=>exact sA (Me.nx τ' B' σ' H1 ⟨m,hM⟩ (S'.mono e1))
 | true=>
   refine rN ⟨λσ2 H2=>∃ τ2 B2,(∃ n t,n < m/\M n t τ2)/\Sta X.K A H₀ τ2 B2 σ2 H2,λσ2 H2 ⟨τ2,B2,⟨n,t,l,q⟩,S2⟩=>⟨n,l,t,τ2,B2,q,S2⟩,m,τ',hM,A,H₀,B',S'.mono e1,?_⟩
   exact ⟨λτ2 B2 σ2 H2 m S2=>⟨τ2,B2,m,S2⟩,λ_ _ _ _ z=>z.elim,λτ2 B2 σ2 H2 m S2=>⟨τ2,B2,m,S2⟩,Me.rt,Me.xc⟩
noncomputable def iP (xs ys:List D):List D:=(xs.zip ys).map λp=>.tup [p.1,p.2]
theorem dB:(iP xs ys).length=min xs.length ys.length:=by simp [iP]
theorem xk (i:Nat) (h:i < (iP xs ys).length):(iP xs ys)[i]=.tup [xs.getD i .non,ys.getD i .non]:=by
 rw [dB] at h
 simp [iP,show i < xs.length by omega,show i < ys.length by omega]
theorem yc {K:PySem.W.Frag} {G:Hp} {a b:Addr} {vs ws:List V} (h:SqL K G a vs) (r:au K G vs xs) (h':SqL K G b ws) (r':au K G ws ys):Yl K (Itz K a b) (iP xs ys) G:=by
 intro H sg
 have hl:=r.length
 have hl':=r'.length
 refine ⟨λi hi=>⟨vs,ws,aJ sg h,aJ sg h',by rw [dB] at hi; omega⟩,λi hi=>?_⟩
 have hi':=hi
 rw [dB] at hi'
 obtain ⟨v,hv,dv⟩:=r.get (List.getElem?_eq_getElem (show i < xs.length by omega))
 obtain ⟨w,hw,dw⟩:=r'.get (List.getElem?_eq_getElem (show i < ys.length by omega))
 refine ⟨⟨vs,ws,v,w,aJ sg h,aJ sg h',hv,hw⟩,λy H' ⟨p,x1,x2,hp,e0,e1,e2,e3⟩=>?_⟩
 subst e0 e1
 have ex:x1=v:=by have:=e2 vs (aJ sg h); rw [hv] at this; exact (Option.some.inj this).symm
 have ey:x2=w:=by have:=e3 ws (aJ sg h'); rw [hw] at this; exact (Option.some.inj this).symm
 subst ex ey
 refine ⟨aj hp _,λM hM sv=>?_⟩
 rw [xk,show xs.getD i .non=xs[i] by simp [show i < xs.length by omega],show ys.getD i .non=ys[i] by simp [show i < ys.length by omega]]
 have up:=sv.trans (ax (aj hp (.tup [x1,x2])) λ_ z=>z)
 exact .tup (SqT.of (jZ hM hp)) (.cons (dv.mono up) (.cons (dw.mono up) .nil))
theorem xE {ts:List Expr} {m:Nat} {tp:Pos} (B:Bk X k) (h:PE X a (dE X.K true τ (.d (.lst xs)))) (h':PE X b (dE X.K true τ (.d (.lst ys)))) (hg:Gl X "zip":=by rfl) (hs:starEach [a,b] X.env=(false,eval a X.env) :: starEach [b] X.env:=by rfl) (hs2:starEach [b] X.env=[(false,eval b X.env)]:=by rfl) :
   PI X (.Tuple ts m tp) (.Call (.Name "zip" p) [a,b] [] pos) (dI X.K τ (iP xs ys)):=
 piW (pP B.calm hg (B.blt _ (by decide)) (ae h (ae h' ag hs2) hs) hs hs2) λσ H R ⟨A,H₀,B,S,k⟩=>fP S λvs H1 e1 d1=>by
   cases d1 with
   | cons d r=>
     cases r with
     | cons d' r=>
       cases r
       cases d with
       | lst h r=>cases d' with
         | lst h' r'=>exact ⟨_,_,rfl,⟨_,aJ aH h⟩,⟨_,aJ aH h'⟩,k _ H1 e1 (yc h r h' r')⟩
theorem yr (hu:X.A.units + 64 < cLine):OpR X (compareOp .Eq) (λx y H Q=>∃ G d e,ah G H/\Den X.K G x d/\Den X.K G y e/\cM d/\cM e/\Q (.bl (eqD d e)) H):=by
 intro pins s σ H x y v u Q I rx ry ⟨G,d,e,sg,dx,dy,o1,o2,q⟩
 obtain ⟨as,r1⟩:=bX I sg dx rx o1.1
 obtain ⟨bs,r2⟩:=bX I sg dy ry o2.1
 exact eq_dataH r1 r2 (cN o1) (cN o2) hu ⟨.bl _,H,I,by rw [fI]; rfl,q⟩
theorem zj (hu:X.A.units + 64 < cLine):OpR X (compareOp .NotEq) (λx y H Q=>∃ G d e,ah G H/\Den X.K G x d/\Den X.K G y e/\cM d/\cM e/\Q (.bl (!eqD d e)) H):=by
 intro pins s σ H x y v u Q I rx ry ⟨G,d,e,sg,dx,dy,o1,o2,q⟩
 obtain ⟨as,r1⟩:=bX I sg dx rx o1.1
 obtain ⟨bs,r2⟩:=bX I sg dy ry o2.1
 exact ne_dataH r1 r2 (cN o1) (cN o2) hu ⟨.bl _,H,I,by rw [fI]; rfl,q⟩
theorem Ag (B:Bk X k) (h1:cM x) (h2:cM y):b8 X (compareOp .Eq) x y (.bl (eqD x y)):=⟨_,yr B.room.units,λM v w H Q _ d1 d2 q=>⟨_,x,y,aH,d1,d2,h1,h2,q _ H (ah.refl _) .bl⟩⟩
theorem xF (B:Bk X k) (h1:cM x) (h2:cM y):b8 X (compareOp .NotEq) x y (.bl (!eqD x y)):=⟨_,zj B.room.units,λM v w H Q _ d1 d2 q=>⟨_,x,y,aH,d1,d2,h1,h2,q _ H (ah.refl _) .bl⟩⟩
variable {u v:Str}
theorem eR:∀ {bs:List Bool} {us:List Value},Vals (bs.map V.bl) us->us=bs.map Value.bool
 | [],_,h=>by cases h; rfl
 | b :: bs,_,h=>by
   cases h with
   | cons rv rs=>rw [eR rs,show _=Value.bool b from rv]; rfl
theorem sI (hc:X.calm=true):eI X (.builtin "all") (λxs H Q=>∃ (p:Addr) (bs:List Bool),xs=[.ref p]/\SqL X.K H p (bs.map V.bl)/\Q (.bl (bs.all id)) H):=by
 intro pins s σ H xs us Q I r q
 obtain ⟨p,bs,rfl,h,q⟩:=q
 obtain ⟨u,rfl,ru⟩:∃ u,us=[u]/\RelV (.ref p) u:=by
   cases r with
   | cons r1 r=>cases r; exact ⟨_,rfl,r1⟩
 cases (show u=Value.ref _ from ru)
 obtain ⟨its,rv,pl,hz⟩:=I.list h
 obtain rfl:=eR rv
 have lt:∀ a,s.heap.IsList a (bs.map Value.bool).toArray->a ≠ s.heap.objs.size:=λa ⟨o,z,_⟩=>Nat.ne_of_lt (Heap.lt_size z)
 refine call_all_walk (wpAny_pyIter_list pl.isList ⟨_,_,_,_,_,_,λi=>(bs.map Value.bool)[i]? == some (Value.bool true),rfl,Walks.list (A:=X.A.in1) (I.ok.hd hc) _ _ (lt _ pl.isList) (bs.map Value.bool).toArray,⟨⟨_,Heap.get?_push_size _ rfl,rfl,rfl⟩,?_⟩,λi v s' Q' E' hP hQ=>?_,λh' tk hk=>?_⟩)
 · obtain ⟨o,z1,z2⟩:=pl.isList
   exact ⟨o,Heap.get?_push_of_some _ z1,z2⟩
 · have hP':(bs.map Value.bool)[i]?=some v:=by simpa using hP
   obtain ⟨c,_,rfl⟩:=List.mem_map.mp (List.mem_of_getElem? hP')
   refine wpAny_truthy_bool ?_
   have hQ:Q' ((bs.map Value.bool)[i]? == some (Value.bool true)) s':=hQ
   rw [hP'] at hQ
   cases c
   · exact hQ
   · exact hQ
 · refine ⟨.bl (bs.all id),H,I.kept (t':=tk) λb' o z=>?_,?_,q⟩
   · refine hk b' o (λhm=>?_) (Heap.get?_push_of_some _ z)
     have:b'=s.heap.objs.size:=by simpa using hm
     exact absurd (Heap.lt_size z) (by rw [this]; exact Nat.lt_irrefl _)
   · have e:∀ bs:List Bool,bs.all id=(List.range (bs.map Value.bool).toArray.size).all λi=>(bs.map Value.bool)[i]? == some (Value.bool true):=λbs=>by
       rw [List.size_toArray,List.length_map]
       induction bs with
       | nil=>rfl
       | cons b bs ih=>
         rw [List.all_cons,ih,List.length_cons,List.range_succ_eq_map,List.all_cons,List.all_map]
         congr 1
         cases b <;> rfl
     rw [e]; rfl
theorem lx {K:PySem.W.Frag} {H:Hp}:∀ {vs:List V} {bs:List Bool},au K H vs (bs.map .bl)->vs=bs.map V.bl
 | _,[],h=>by cases h; rfl
 | _,_ :: _,h=>by
   cases h with
   | cons d r=>cases d; rw [lx r]; rfl
theorem uP (hc:X.calm=true) (bs:List Bool) (hx:xs=bs.map .bl):gf X (.builtin "all") [.lst xs] (.d (.bl (bs.all id))):=⟨_,sI hc,λM vs H Q _ d q=>by
 subst hx
 cases d with
 | cons d r=>
   cases r
   cases d with
   | lst h r=>
     cases lx r
     exact ⟨_,_,rfl,aJ aH h,q _ H [] (ah.refl _) eX (iT .bl)⟩⟩
end
end Hy
namespace Hy
open PySem PySem.Spec PyProof.Rows L2
open Ev (D Den au aj aT aJ aG eK cU PTs cD dr)
section
variable {X:Cx} {C:Bool} {τ:List Sl} {x y z:D} {a b e c tg it elt o:Expr} {es ifs:List Expr} {pos p q:Pos} {k:Nat} {s:Sl} {N:Po} {rest body:List Stmt} {ds xs ys:List D} {i j:Int} {scope:Scope}
theorem xi:OpR X (binaryOp .Mult) (λx y H Q=>∃ l k xs,x=.ref l/\y=.int k/\SqL X.K H l xs/\0<=k/\k < 100000/\xs.length * k.toNat<=sizeLine/\∀ p,H p=none->Q (.ref p) (upd H p (.lst (List.replicate k.toNat xs).flatten))):=by
 intro pins s σ H x y v u Q I rx ry h
 obtain ⟨l,k,xs,rfl,rfl,hH,h1,h2,hz,q⟩:=h
 cases rx
 obtain ⟨t,rfl⟩:=ry
 obtain ⟨its,r,pl,_⟩:=I.list hH
 have hl:=r.length
 obtain ⟨⟨cls,dd,data,sl⟩,e,hc,n,hd⟩:=pl.isList
 simp only at hc hd
 subst hc hd
 have hlen:its.toArray.size * k.toNat<=sizeLine:=by rw [List.size_toArray,<- hl]; exact hz
 have hcap:¬ its.toArray.size * k.toNat > (2 ^ 63 - 1) / 8:=by
   have:(sizeLine:Nat)<=(2 ^ 63 - 1) / 8:=by decide
   omega
 have hfit:¬ (!Builtin.List.listFitsIndex k)=true:=by
   rw [fitsIndex_both (by omega) (by omega)]
   exact Bool.false_ne_true
 have hlong:¬ Builtin.List.listTooLong (its.toArray.size * k.toNat)=true:=by
   rw [mI hlen]
   exact Bool.false_ne_true
 have hnew:List.foldl (λx1 x2=>x1++x2) #[] (List.replicate (if its.toArray.isEmpty=true then 0 else k.toNat) its.toArray)=(List.replicate k.toNat its).flatten.toArray:=by
   have f0:∀ m:Nat,List.foldl (λx1 x2=>x1++x2) #[] (List.replicate m its.toArray)=(List.replicate m its).flatten.toArray:=λm=>by
     have:=foldl_rep its m []
     rw [List.nil_append] at this
     exact this
   rw [f0]
   cases its with
   | nil=>simp
   | cons a r'=>rw [if_neg (by simp)]
 refine wpAny_binaryOp_repeat_ref (T:="list") (U:="int") (by decide) ⟨_,e,rfl⟩ (λs'=>typeIs_int s' k t) noFill_list_mul F.fills_int_mul F.slot_int_rmul repeat_list F.slot_int_index.lookup
   (call_meets F.slot_int_rmul (typeIs_int s k t) F.entry_int_rmul (F.args_int_rmul_2 _ _) (lm_int_rmul_list_any k t l its.toArray n dd sl)
     ⟨e,rfl,⟨_,e,rfl⟩,call_meets F.slot_list_mul ⟨_,e,rfl⟩ F.entry_list_mul (F.args_list_mul_2 _ _) (lm_list_mul_any l its.toArray n dd sl k t hfit hcap hlong) ⟨e,?_⟩⟩)
 rw [hnew]
 exact ⟨.ref _,_,I.B9 (t':=s.toks) (r.rep k.toNat) (by rw [len_rep,Nat.mul_comm]; exact hz),rfl,q _ I.fresh⟩
theorem qO {K:PySem.W.Frag} {H:Hp} {vs:List V} (h:au K H vs xs):∀ k:Nat,au K H (List.replicate k vs).flatten (List.replicate k xs).flatten
 | 0=>.nil
 | k + 1=>by rw [List.replicate_succ,List.replicate_succ,List.flatten_cons,List.flatten_cons]; exact h.append (qO h k)
theorem A8 (ha:PE X a (dE X.K C τ (.d (.lst xs)))) (hb:PE X b (dE X.K C τ (.d (.int j)))) (h0:0<=j) (h1:j < 100000) (hl:xs.length * j.toNat < 1000000):PE X (.BinOp a .Mult b pos) (dE X.K C τ (.o (List.replicate j.toNat xs).flatten)):=peW (xt xi ha hb) λσ H Q ⟨A,H₀,B,S,k⟩=>
 aL S λv H1 e1 d1=>aL (S.mono e1) λw H2 e2 d2=>by
   cases d2
   cases d1 with
   | lst h1' r1=>
     refine ⟨_,j,_,rfl,rfl,aJ (aH.trans e2) h1',h0,h1,by rw [r1.length]; exact Nat.le_of_lt (Nat.lt_trans hl (by decide)),λp hp=>?_⟩
     obtain ⟨z1,z2,z3⟩:=jQ (K:=X.K) hp (qO (r1.mono (ax e2 λ_ z=>z)) j.toNat)
     exact k _ _ [p] (e1.trans (e2.trans z1)) (λb hb=>⟨(e1.trans e2).free (z2 b hb).1,(z2 b hb).2⟩) z3
theorem Sta.hide {K:PySem.W.Frag} {A:Addr->Prop} {H₀ H H1:Hp} {B:Nat->List Addr} {σ:L2.St} {b1:List Addr} (S:Sta K A H₀ τ B σ H) (e:ah H H1) (f:Fr H H1 b1):Sta K (λb=>A b\/b ∈ b1) (hd H1 λb=>∃ i,b ∈ B i) τ B σ H1 where
 same:=aH
 len:=S.len
 sl:=λi s h=>(S.sl i s h).mono (λb o z=>by
   obtain ⟨z1,z2⟩:=ak.mp z
   refine ak.mpr ⟨λw=>?_,e _ _ z2⟩
   rcases w with (w | w) | w
   · exact z1 (.inl w)
   · rw [(f b w).1] at z2; cases z2
   · exact z1 (.inr w)) e
 fr:=λi b hb=>by
   cases q:hd H1 (λb=>∃ i,b ∈ B i) b with
   | none=>rfl
   | some o=>exact absurd ⟨i,hb⟩ (ak.mp q).1
 uq:=S.uq
 ad:=λb hb=>by
   rcases hb with z | z
   · obtain ⟨o,q⟩:=S.ad b z
     exact ⟨o,ak.mpr ⟨λ⟨i,w⟩=>(by rw [S.fr i b w] at q; cases q),e _ _ (S.same _ _ q)⟩⟩
   · obtain ⟨w1,o,w2⟩:=f b z
     exact ⟨o,ak.mpr ⟨λ⟨i,w⟩=>(by obtain ⟨o',q⟩:=S.bd i b w; rw [w1] at q; cases q),w2⟩⟩
 bd:=λi b hb=>let ⟨o,q⟩:=S.bd i b hb; ⟨o,e _ _ q⟩
theorem wo {A:Addr->Prop} {B:Nat->List Addr} {b1:List Addr} {b:Addr} (h:vw C A B b\/b ∈ b1):vw C (λb=>A b\/b ∈ b1) B b:=by
 cases C with
 | true=>
   rcases h with (h | h) | h
   · exact .inl (.inl h)
   · exact .inr h
   · exact .inl (.inr h)
 | false=>exact h
theorem yg {K:PySem.W.Frag} {H:Hp} {M:Addr->Prop} {p:Addr} {o:HO} {vs:List V} {bs:List Addr} {ns:List Nd} (hp:H p=none) (d:aI K (hd H λb=>M b\/b ∈ bs) H vs bs ns) (nd:bs.Nodup) :
   aI K (hd (upd H p o) λb=>M b\/b ∈ p :: bs) (upd H p o) vs bs ns/\(p :: bs).Nodup:=by
 have off:∀ b ∈ bs,b ≠ p:=λb hb z=>by obtain ⟨w,q⟩:=d.some_of b hb; rw [z,hp] at q; cases q
 refine ⟨d.frame (λb w z=>?_) λb hb=>aw (off b hb),List.nodup_cons.mpr ⟨λz=>off p z rfl,nd⟩⟩
 obtain ⟨z1,z2⟩:=ak.mp z
 have ne:b ≠ p:=λy=>by rw [y,hp] at z2; cases z2
 refine ak.mpr ⟨λy=>?_,by rw [aw ne]; exact z2⟩
 rcases y with y | y
 · exact z1 (.inl y)
 · rcases List.mem_cons.mp y with y | y
   · exact ne y
   · exact z1 (.inr y)
end
section
variable {X:Cx} {C:Bool} {τ τ':List Sl} {x y z:D} {a b e c tg it elt o ix:Expr} {es ifs:List Expr} {pos p q:Pos} {k:Nat} {s:Sl} {N:Po} {rest body:List Stmt} {ds xs ys:List D} {i:Nat} {j:Int} {scope:Scope}
noncomputable def dGs (K:PySem.W.Frag) (τ:List Sl) (xs:List D) (τ':List Sl):TGs:=λvs σ H Q=>∃ A H₀ B,Sta K A H₀ τ B σ H/\au K (hd H (own A B)) vs xs/\∀ σ' B',Sta K A H₀ τ' B' σ' H->Q σ' H
theorem BE {es:List Expr} {t t':TGs} (h:PGs X es t) (f:∀ v σ H Q,t' v σ H Q->t v σ H Q):PGs X es t':=λpins s σ H v u Q I r q=>h pins s σ H v u Q I r (f v σ H Q q)
theorem yS:PGs X [] (dGs X.K τ [] τ):=BE pT λv σ H Q ⟨A,H₀,B,S,d,k⟩=>by
 cases d
 exact ⟨rfl,k σ B S⟩
theorem qI (i:Nat) {n:Str} (hN:X.N.Nodup) (h:PGs X es (dGs X.K (τ.set i (.d x)) xs τ')) (hi:X.N[i]?=some n:=by rfl) (hx:Loc X.env.scope n:=by first | exact .inl rfl | exact .inr rfl) (hf:X.fn n=true\/X.env.scope.names.lookup n=some .local:=by first | exact .inl rfl | exact .inr rfl | assumption):PGs X (.Name n p :: es) (dGs X.K τ (x :: xs) τ'):=
 BE (jF (dQ (i:=i) hN hi hx hf) h) λv σ H Q ⟨A,H₀,B,S,d,k⟩=>by
   cases d with
   | cons d r=>
     have sub:∀ b,own A (upB B i []) b->own A B b:=λb z=>z.elim .inl λ⟨j,z⟩=>(aX z).elim (λz=>nomatch z.2) λz=>.inr ⟨j,z.2⟩
     exact ⟨_,_,rfl,A,H₀,_,S.set (ah.refl _) (bs:=[]) (λ_ z=>nomatch z) (iT d),r.mono (ax (ah.refl _) sub),k⟩
theorem AL {m:Nat} (hc:X.calm=true) (h:PGs X es (dGs X.K τ xs τ')) (hl:(assignEach es X.env).length=xs.length:=by rfl) (hst:(assignEach es X.env).findIdx? (·.1)=none:=by rfl):PG X (.Tuple es m pos) (dG X.K τ (.tup xs) τ'):=
 pgW (sL (n:=xs.length) hc h hl hst) λv σ H Q ⟨A,H₀,B,S,d,k⟩=>by
   cases d with
   | tup h r=>exact ⟨_,_,rfl,aT aH h,r.length,A,H₀,B,S,r,k⟩
theorem yi {m:Nat} (he:PE X e (dE X.K true τ (.d x))) (hg:PG X (.Tuple es m p) (dG X.K τ x τ')) (hr:PSs X rest (dS X.K τ' N)) (hs:swapsWithSole [.Tuple es m p] e pos.line X.env=pure false:=by rfl) (hw:swappedStores [.Tuple es m p] e X.env=pure none:=by rfl)
   (h1:(assignEach [.Tuple es m p] X.env).map (·.2)=[assign (.Tuple es m p) X.env]:=by rfl):PSs X (.Assign [.Tuple es m p] e pos :: rest) (dS X.K τ N):=
 aZ (M:=(·=τ')) (psW (l9 he hg hs hw h1) λD σ H ⟨A,H₀,B,S,Me⟩=>aL S λv H1 e1 d1=>⟨A,H₀,B,S.mono e1,d1,λσ' B' S'=>Me.nx _ _ _ _ rfl S'⟩) λ_ e=>e ▸ hr
theorem Cd (T:Nat->List Sl) {f:Nat->D} (B:Bk X k) (hi:PI X tg it (dI X.K τ xs)) (hl:xs.length < 1000000) (hT:∀ i,(T i).length=(bE τ (bCp X.N scope)++[Sl.un]).length/\∀ (l:Nat) (x:D),(bE τ (bCp X.N scope)++[Sl.un])[l]?=some (.d x)->(T i)[l]?=some (.d x))
   (hg:∀ i (h:i < xs.length) s H fp,PG (cpX X s H scope fp) tg (dG X.K (bE τ (bCp X.N scope)++[.un]) xs[i] (T i)))
   (he:∀ i,i < xs.length->∀ s H fp,PE (cpX X s H scope fp) elt (dE X.K true (T i) (.d (f i)))) (hc:bOk X.env.scope scope=true:=by kernel_rfl) (hs:∀ x,foldedSetIterable it X.env x=pure x:=by intro _; rfl) :
   Cmp X elt tg it [] scope τ ((List.range xs.length).map f):=by
 have h:=tZ (T:=T) (t:=λ_=>true) (f:=f) (elt:=elt) (ifs:=[]) hc hi hT hg (λi h s H fp=>λpins s' σ H' Q I ⟨A,H₀,B,S,q⟩=>lU pins s' σ H' Q I (q H' (ah.refl _))) (λi h _ s H fp=>he i h s H fp) hl hs
 rwa [List.filter_eq_self.mpr λ_ _=>rfl] at h
structure wc (X:Cx) (elt tg it:Expr) (ifs:List Expr) (scope:Scope) (τ:List Sl) (ns:List Nd):Prop where
 ex:∃ (In:TG->TT->TE->Prop) (caps:List (Option Nat)) (N:List Str) (wi:TI),cU X scope N caps/\PI X tg it wi/\(∀ g tt te,In g tt te->∀ s H fp,PG (aG X s H scope N fp) tg g/\PTs (aG X s H scope N fp) ifs tt/\PE (aG X s H scope N fp) elt te) /\
   ∀ C σ H Q,dE X.K C τ (.n (.l ns)) σ H Q->dr In caps wi σ H Q
 hs:∀ x,foldedSetIterable it X.env x=pure x
theorem vQ {T:Nat->List Sl} {f:Nat->Nd} {S':Nat->Sl} (B:Bk X k) (hc:bOk X.env.scope scope=true) (hi:PI X tg it (dI X.K τ xs)) (hT:∀ i,(T i).length=(bE τ (bCp X.N scope)++[Sl.un]).length/\∀ (l:Nat) (x:D),(bE τ (bCp X.N scope)++[Sl.un])[l]?=some (.d x)->(T i)[l]?=some (.d x))
   (hg:∀ i (h:i < xs.length) s H fp,PG (cpX X s H scope fp) tg (dG X.K (bE τ (bCp X.N scope)++[.un]) xs[i] (T i)))
   (he:∀ i,i < xs.length->∀ s H fp,PE (cpX X s H scope fp) elt (dE X.K true (T i) (S' i))) (hn:∀ i,i < xs.length->nV (S' i)=some (f i)) (hl:xs.length < 1000000) (hs:∀ x,foldedSetIterable it X.env x=pure x:=by intro _; rfl) :
   wc X elt tg it [] scope τ ((List.range xs.length).map f):=by
 obtain ⟨cap,_⟩:=gC hc
 generalize hτ:bE τ (bCp X.N scope)++[Sl.un]=τb at *
 refine ⟨⟨λg tt te=>g=(λv σ H Q=>∃ (i:Nat) (h:i < xs.length),dG X.K τb xs[i] (T i) v σ H Q)/\tt=(λσ H Q=>Q true H)/\te=(λσ H Q=>∃ i,i < xs.length/\dE X.K true (T i) (S' i) σ H Q),_,_,_,cap,hi,?_,?_⟩,hs⟩
 · rintro g tt te ⟨rfl,rfl,rfl⟩ s H fp
   exact ⟨λpins s' σ H' v u Q I r ⟨i,h,q⟩=>hg i h s H fp pins s' σ H' v u Q I r q,lU,λpins s' σ H' Q I ⟨i,h,q⟩=>he i h s H fp pins s' σ H' Q I q⟩
 rintro C σ H Q ⟨A,H₀,B,S,kk⟩
 refine ⟨A,H₀,B,S,λJ H1 e1 yl=>⟨_,_,_,⟨rfl,rfl,rfl⟩,λD hD=>?_⟩⟩
 have S1:=S.mono e1
 have flat:∀ (l:Nat) (s:Sl),τb[l]?=some s->s=.un\/∃ x,s=.d x:=λl s h=>by
   rw [<- hτ] at h
   rcases List.mem_append.mp (List.mem_of_getElem? h) with z | z
   · unfold bE at z
     obtain ⟨o,_,ho⟩:=List.mem_map.mp z
     split at ho
     · split at ho
       · exact .inr ⟨_,ho.symm⟩
       · exact .inl ho.symm
     · exact .inl ho.symm
   · exact .inl (List.mem_singleton.mp z)
 have slots:∀ {σ':L2.St} {H':Hp} {rs:List Addr},ah H1 H'->(∃ o,H' D=some o)->(∀ b ∈ rs,∃ o,H' b=some o)->σ'.length=τb.length->(∀ (l:Nat) (s:Sl),τb[l]?=some s->bV X.K (hd H' λb=>own A B b\/b=D\/b ∈ rs) H' (σ'[l]?).join [] s)->Sta X.K (λb=>own A B b\/b=D\/b ∈ rs) H' τb (λ_=>[]) σ' H':=λ{σ' H' rs} e1 e2 e5 e3 e4=>
   ⟨ah.refl _,e3,λl s h=>(e4 l s h).mono (ax (ah.refl _) λ_ z=>z.elim id λ⟨_,z⟩=>(nomatch z)) (ah.refl _),λ_ _ z=>(nomatch z),λ_ _ _ z=>(nomatch z),λb z=>z.elim (λz=>let ⟨o,q⟩:=S1.dm b z; ⟨o,e1 _ _ q⟩) λz=>z.elim (λz=>z ▸ e2) (e5 b),λ_ _ z=>(nomatch z)⟩
 refine ⟨λi m σ' H'=>m=xs.length - i/\i<=xs.length/\ah H1 H'/\(∃ vs rs,H' D=some (.lst vs)/\vs.length<=i/\aI X.K (hd H' λb=>own A B b\/b=D\/b ∈ rs) H' vs rs ((List.range i).map f)/\(D :: rs).Nodup/\(∀ b ∈ rs,H1 b=none) /\
   σ'.length=τb.length/\∀ (l:Nat) (s:Sl),τb[l]?=some s->bV X.K (hd H' λb=>own A B b\/b=D\/b ∈ rs) H' (σ'[l]?).join [] s),⟨xs.length,rfl,Nat.zero_le _,aj hD _,[],[],aA,Nat.le_refl _,.nil,by simp,λ_ z=>(nomatch z),?_,λl s h=>?_⟩,?_⟩
 · rw [<- hτ]; unfold eK bE; rw [List.length_append,List.length_append,List.length_map,List.length_map]; rfl
 · have hv:ah (hd H (own A B)) (hd (upd H1 D (.lst [])) λb=>own A B b\/b=D\/b ∈ ([]:List Addr)):=λb o z=>by
     obtain ⟨z1,z2⟩:=ak.mp z
     have z2:=e1 _ _ z2
     have ne:b ≠ D:=λz=>by rw [z,hD] at z2; cases z2
     exact ak.mpr ⟨λy=>y.elim z1 λy=>y.elim ne λy=>(nomatch y),by rw [aw ne]; exact z2⟩
   rcases flat l s h with rfl | ⟨x,rfl⟩
   · rfl
   · rw [<- hτ] at h
     have hlt:l < (bCp X.N scope).length:=by
       rcases Nat.lt_or_ge l (bCp X.N scope).length with h' | h'
       · exact h'
       · exfalso
         rw [List.getElem?_append_right (by unfold bE; rw [List.length_map]; exact h')] at h
         cases e:l - (bE τ (bCp X.N scope)).length with
         | zero=>rw [e] at h; cases h
         | succ n=>rw [e] at h; cases h
     rw [List.getElem?_append_left (by unfold bE; rw [List.length_map]; exact hlt)] at h
     rw [List.getElem?_append_left (by unfold eK; rw [List.length_map]; exact hlt)]
     unfold bE at h
     unfold eK
     rw [List.getElem?_map] at h ⊢
     cases e:(bCp X.N scope)[l]? with
     | none=>rw [e] at h; cases h
     | some o=>
       rw [e] at h
       cases o with
       | none=>cases h
       | some i=>
         simp only [Option.map_some,Option.some.injEq] at h
         split at h
         · rename_i x' hx'
           cases h
           obtain ⟨_,u,eu,d⟩:=S.sl i _ hx'
           exact ⟨rfl,u,by simpa using eu,d.mono hv⟩
         · cases h
 rintro i m σ' H' ⟨rfl,hi,e2,vs,rs,hv1,hv2,hv3,hnd,hfr,hlen,hsl⟩
 obtain ⟨y1,y2⟩:=yl H' (aH.trans e2)
 have rsd:∀ b ∈ rs,∃ o,H' b=some o:=hv3.some_of
 by_cases hlt:i < xs.length
 · obtain ⟨g,y⟩:=y2 i hlt
   refine .inr ⟨g,λx H2 hy=>?_⟩
   obtain ⟨e3,dx⟩:=y x H2 hy
   have S2:=slots e2 ⟨_,hv1⟩ rsd hlen hsl
   have o0:∀ b,own (λb=>own A B b\/b=D\/b ∈ rs) (λ_=>([]:List Addr)) b->own A B b\/b=D\/b ∈ rs:=λb z=>z.elim id λ⟨_,z⟩=>(nomatch z)
   have dx':=dx _ S2.dm (λb o z=>by
     obtain ⟨z1,z2⟩:=ak.mp z
     exact ak.mpr ⟨λy=>(o0 b y).elim z1 λy=>y.elim (λy=>(by rw [y,hD] at z2; cases z2)) λy=>(by rw [hfr b y] at z2; cases z2),e2 _ _ z2⟩)
   refine ⟨i,hlt,_,_,_,S2.mono e3,dx',λσ2 B2 S3=>?_⟩
   refine rN ⟨i,hlt,_,_,_,S3,λv H5 bs e5 hf5 d5=>?_⟩
   obtain ⟨nv,ndv⟩:=d5.nd (hn i hlt)
   have e6:=e3.trans e5
   have hv5:=e6 _ _ hv1
   have bsD:∀ b ∈ bs,b ≠ D:=λb hb z=>by have:=(hf5 b hb).1; rw [z,e3 _ _ hv1] at this; cases this
   have bsR:∀ b ∈ bs,b ∉ rs:=λb hb z=>by obtain ⟨o,q⟩:=rsd b z; have:=(hf5 b hb).1; rw [e3 _ _ q] at this; cases this
   refine ⟨vs,xs.length - (i + 1),hv5,Nat.lt_trans (Nat.lt_of_le_of_lt hv2 (Nat.lt_trans hlt hl)) (by decide),by omega,rfl,hlt,?_,vs++[v],rs++bs,aA,by rw [List.length_append]; exact Nat.succ_le_succ hv2,?_,?_,?_,S3.len.trans (hT i).1,λl s h=>?_⟩
   · intro b o z
     have ne:b ≠ D:=λy=>by rw [y,hD] at z; cases z
     rw [aw ne]
     exact e6 _ _ (e2 _ _ z)
   · rw [List.range_succ,List.map_append]
     have sm1:ah (hd H5 λb=>vw true (λb=>own A B b\/b=D\/b ∈ rs) B2 b\/b ∈ bs) (hd (upd H5 D (.lst (vs++[v]))) λb=>own A B b\/b=D\/b ∈ rs++bs):=λb o z=>by
       obtain ⟨z1,z2⟩:=ak.mp z
       refine ak.mpr ⟨λy=>z1 ?_,by rw [aw (λy:b=D=>z1 (.inl (.inl (.inr (.inl y)))))]; exact z2⟩
       rcases y with y | y | y
       · exact .inl (.inl (.inl y))
       · exact .inl (.inl (.inr (.inl y)))
       · exact (List.mem_append.mp y).elim (λy=>.inl (.inl (.inr (.inr y)))) .inr
     have sm2:ah (hd H' λb=>own A B b\/b=D\/b ∈ rs) (hd (upd H5 D (.lst (vs++[v]))) λb=>own A B b\/b=D\/b ∈ rs++bs):=λb o z=>by
       obtain ⟨z1,z2⟩:=ak.mp z
       refine ak.mpr ⟨λy=>?_,by rw [aw (λy:b=D=>z1 (.inr (.inl y)))]; exact e6 _ _ z2⟩
       rcases y with y | y | y
       · exact z1 (.inl y)
       · exact z1 (.inr (.inl y))
       · rcases List.mem_append.mp y with y | y
         · exact z1 (.inr (.inr y))
         · have:=(hf5 b y).1; rw [e3 _ _ z2] at this; cases this
     refine aI.snoc (nv.frame sm1 λb hb=>aw (bsD b hb)) (hv3.frame sm2 λb hb=>?_)
     obtain ⟨o,q⟩:=rsd b hb
     rw [aw (λz:b=D=>(List.nodup_cons.mp hnd).1 (by rw [<- z]; exact hb)),e6 _ _ q,q]
   · obtain ⟨n1,n2⟩:=List.nodup_cons.mp hnd
     refine List.nodup_cons.mpr ⟨λz=>?_,List.nodup_append.mpr ⟨n2,ndv,λx hx y hy z=>bsR y hy (z ▸ hx)⟩⟩
     exact (List.mem_append.mp z).elim n1 λz=>bsD D z rfl
   · intro b hb
     rcases List.mem_append.mp hb with z | z
     · exact hfr b z
     · exact (e2.trans e3).free (hf5 b z).1
   · rcases flat l s h with rfl | ⟨x,rfl⟩
     · rfl
     · obtain ⟨_,u,eu,d⟩:=S3.sl l _ ((hT i).2 l x h)
       refine ⟨rfl,u,eu,d.mono λb o z=>?_⟩
       obtain ⟨z1,z2⟩:=ak.mp z
       refine ak.mpr ⟨λy=>?_,by rw [aw (λy:b=D=>z1 (.inl (.inr (.inl y))))]; exact e5 _ _ z2⟩
       rcases y with y | y | y
       · exact z1 (.inl (.inl y))
       · exact z1 (.inl (.inr (.inl y)))
       · rcases List.mem_append.mp y with y | y
         · exact z1 (.inl (.inr (.inr y)))
         · rw [(hf5 b y).1] at z2; cases z2
 · have e:i=xs.length:=by omega
   subst e
   refine .inl ⟨y1 _ (Nat.le_refl _),kk _ _ (D :: rs) (e1.trans e2) (λb hb=>?_) ⟨hnd,_,rfl,.l hv1 (hv3.frame (ax (ah.refl _) λb z=>?_) λ_ _=>rfl)⟩⟩
   · rcases List.mem_cons.mp hb with rfl | z
     · exact ⟨e1.free hD,_,hv1⟩
     · exact ⟨e1.free (hfr b z),rsd b z⟩
   · rcases z with z | z
     · exact .inl (ie z)
     · exact .inr ((List.mem_cons.mp z).elim .inl .inr)
theorem Cr (j:Nat) {n:Str} {g:Nat->D} {f:Nat->Nd} {S':Nat->Sl} (B:Bk X k) (hi:PI X (.Name n p) it (dI X.K τ xs)) (hx:∀ i (h:i < xs.length),xs[i]=g i) (hl:xs.length < 1000000)
   (he:∀ i,i < xs.length->∀ s H fp,PE (cpX X s H scope fp) elt (dE X.K true ((bE τ (bCp X.N scope)++[Sl.un]).set j (.d (g i))) (S' i))) (hn:∀ i,i < xs.length->nV (S' i)=some (f i))
   (hc:bOk X.env.scope scope=true:=by kernel_rfl) (hu:(bE τ (bCp X.N scope)++[Sl.un])[j]?=some .un:=by rfl) (hN:(bNm scope++[("#" : Str)])[j]?=some n:=by rfl) (hv:∀ s H fp,Loc (cpX X s H scope fp).env.scope n:=by intro _ _ _; first | exact .inl rfl | exact .inr rfl)
   (hf:∀ s H fp,(cpX X s H scope fp).fn n=true\/(cpX X s H scope fp).env.scope.names.lookup n=some .local:=by intro _ _ _; first | exact .inr rfl | exact .inl rfl) (hs:∀ x,foldedSetIterable it X.env x=pure x:=by intro _; rfl) :
   wc X elt (.Name n p) it [] scope τ ((List.range xs.length).map f):=by
 refine vQ (T:=λi=>(bE τ (bCp X.N scope)++[Sl.un]).set j (.d (g i))) B hc hi (λi=>⟨List.length_set,λl x h=>?_⟩) (λi h s H fp=>?_) he hn hl hs
 · rw [List.getElem?_set_ne (λz=>by rw [<- z,hu] at h; cases h)]
   exact h
 · rw [hx i h]
   exact zq j (gC hc).2 hN (hv s H fp) (hf s H fp)
end
section
variable {X:Cx} {C:Bool} {τ τ':List Sl} {x y z:D} {a b e c tg it elt o ix:Expr} {es ifs:List Expr} {pos p q:Pos} {k:Nat} {s:Sl} {N:Po} {rest body:List Stmt} {ds xs ys:List D} {i:Nat} {scope:Scope}
theorem A9 (j l:Nat) {n m:Str} {p2 pt:Pos} {md:Nat} {g g' f:Nat->D} (B:Bk X k) (hi:PI X (.Tuple [.Name n p,.Name m p2] md pt) it (dI X.K τ xs)) (hx:∀ i (h:i < xs.length),xs[i]=.tup [g i,g' i]) (hl:xs.length < 1000000)
   (he:∀ i,i < xs.length->∀ s H fp,PE (cpX X s H scope fp) elt (dE X.K true (((bE τ (bCp X.N scope)++[Sl.un]).set j (.d (g i))).set l (.d (g' i))) (.d (f i))))
   (hc:bOk X.env.scope scope=true:=by kernel_rfl) (hu:(bE τ (bCp X.N scope)++[Sl.un])[j]?=some .un:=by rfl) (hu':(bE τ (bCp X.N scope)++[Sl.un])[l]?=some .un:=by rfl) (hN:(bNm scope++[("#" : Str)])[j]?=some n:=by rfl) (hN':(bNm scope++[("#" : Str)])[l]?=some m:=by rfl) (hv:∀ s H fp,Loc (cpX X s H scope fp).env.scope n:=by intro _ _ _; first | exact .inl rfl | exact .inr rfl) (hv':∀ s H fp,Loc (cpX X s H scope fp).env.scope m:=by intro _ _ _; first | exact .inl rfl | exact .inr rfl)
   (hf:∀ s H fp,(cpX X s H scope fp).fn n=true\/(cpX X s H scope fp).env.scope.names.lookup n=some .local:=by intro _ _ _; first | exact .inr rfl | exact .inl rfl) (hf':∀ s H fp,(cpX X s H scope fp).fn m=true\/(cpX X s H scope fp).env.scope.names.lookup m=some .local:=by intro _ _ _; first | exact .inr rfl | exact .inl rfl) (hs:∀ x,foldedSetIterable it X.env x=pure x:=by intro _; rfl) :
   Cmp X elt (.Tuple [.Name n p,.Name m p2] md pt) it [] scope τ ((List.range xs.length).map f):=
 Cd (λi=>((bE τ (bCp X.N scope)++[Sl.un]).set j (.d (g i))).set l (.d (g' i))) B hi hl (λi=>⟨by rw [List.length_set,List.length_set],λr x h=>by
     rw [List.getElem?_set_ne (λz=>by rw [<- z,hu'] at h; cases h),List.getElem?_set_ne (λz=>by rw [<- z,hu] at h; cases h)]
     exact h⟩)
   (λi h s H fp=>by rw [hx i h]; exact xy j l (B.comp s H scope fp).calm (gC hc).2 hN hN' (hv s H fp) (hv' s H fp) (hf s H fp) (hf' s H fp)) he hc hs
end
end Hy
namespace Hy
open PySem PySem.Spec PyProof.Rows L2
open Ev (D Den au aj aT aJ)
section
variable {X:Cx} {C:Bool} {τ:List Sl} {x y z:D} {a b e o ix:Expr} {es:List Expr} {pos p q:Pos} {k:Nat} {s:Sl} {N:Po} {rest:List Stmt} {i j:Nat} {t c:Nd} {pt:List Nat} {xs:List Nd} {m:Nat}
end
noncomputable def par:D->Bool
 | .tup [x,y]=>flat x && flat y
 | _=>false
mutual
noncomputable def AJ:Nd->Bool
 | .d x=>par x
 | .l xs=>oY xs
 | .t xs=>oY xs
noncomputable def oY:List Nd->Bool
 | []=>true
 | x :: xs=>AJ x && oY xs
end
mutual
noncomputable def fu:Nd->Bool
 | .d _=>true
 | .l xs=>e8 xs
 | .t xs=>(xs.length != 2) && e8 xs
noncomputable def e8:List Nd->Bool
 | []=>true
 | x :: xs=>fu x && e8 xs
end
noncomputable def Odd (H:Hp) (b:Addr):Prop:=(∃ vs,H b=some (.lst vs))\/(∃ vs,H b=some (.tup vs)/\vs.length ≠ 2)\/∃ o,H b=some o/\((∃ φ,o=.ext φ)\/(∃ ob φ,o=.frz ob (.ext φ))\/∃ kvs,o=.dK kvs\/∃ ob,o=.frz ob (.dK kvs))
section
variable {K:PySem.W.Frag} {G H:Hp}
mutual
theorem bo.odd:∀ {u:V} {bs:List Addr} {t:Nd},bo K G H u bs t->fu t=true->∀ b ∈ bs,Odd H b
 | _,_,_,.d _,_,_,h=>nomatch h
 | _,_,_,.l h r,n,b,hb=>by
   rw [fu] at n
   rcases List.mem_cons.mp hb with rfl | hb
   · exact .inl ⟨_,h⟩
   · exact aI.odd r n b hb
 | _,_,_,.t (xs:=xs) h r,n,b,hb=>by
   rw [fu,Bool.and_eq_true] at n
   rcases List.mem_cons.mp hb with rfl | hb
   · exact .inr (.inl ⟨_,h,λz=>by rw [r.length] at z; simp [z] at n⟩)
   · exact aI.odd r n.2 b hb
theorem aI.odd:∀ {vs:List V} {bs:List Addr} {ts:List Nd},aI K G H vs bs ts->e8 ts=true->∀ b ∈ bs,Odd H b
 | _,_,_,.nil,_,_,h=>nomatch h
 | _,_,_,.cons h r,n,b,hb=>by
   rw [e8,Bool.and_eq_true] at n
   exact (List.mem_append.mp hb).elim (bo.odd h n.1 b) (aI.odd r n.2 b)
end
theorem wW {M M':Addr->Prop} {v:V} {x:D} (hM:∀ b,M' b->M b\/Odd H b) (h:Den K (hd H M) v x) (f:par x=true):Den K (hd H M') v x:=by
 cases h with
 | non=>cases f
 | bl=>cases f
 | int=>cases f
 | str=>cases f
 | lst _ _=>cases f
 | box _=>cases f
 | @tup a vs ds h r=>
   cases r with
   | nil=>cases f
   | cons d1 r=>
     cases r with
     | nil=>cases f
     | cons d2 r=>
       cases r with
       | cons _ _=>cases f
       | nil=>
         rw [par,Bool.and_eq_true] at f
         refine .tup ?_ (.cons (dD d1 f.1) (.cons (dD d2 f.2) .nil))
         rcases h with (h | ⟨o,h⟩) | h
         · obtain ⟨h1,h2⟩:=ak.mp h
           refine .inl (.inl (ak.mpr ⟨λz=>?_,h2⟩))
           rcases hM a z with z | ⟨ws,z⟩ | ⟨ws,z,l⟩ | ⟨_,z,y⟩
           · exact h1 z
           · rw [h2] at z; cases z
           · rw [h2] at z; cases z; exact l rfl
           · rw [h2] at z; cases z; rcases y with ⟨_,y⟩ | ⟨_,_,y⟩ | ⟨_,y | ⟨_,y⟩⟩ <;> cases y
         · obtain ⟨h1,h2⟩:=ak.mp h
           refine .inl (.inr ⟨o,ak.mpr ⟨λz=>?_,h2⟩⟩)
           rcases hM a z with z | ⟨ws,z⟩ | ⟨ws,z,l⟩ | ⟨_,z,y⟩
           · exact h1 z
           · rw [h2] at z; cases z
           · rw [h2] at z; cases z
           · rw [h2] at z; cases z; rcases y with ⟨_,y⟩ | ⟨_,_,y⟩ | ⟨_,y | ⟨_,y⟩⟩ <;> cases y
         · exact .inr h
noncomputable def pe (τ:List Sl) (B:Nat->List Addr):Nat->List Addr:=λi=>if i < τ.length then B i else []
theorem dC {τ:List Sl} {B:Nat->List Addr} {i:Nat} {b:Addr} (h:b ∈ pe τ B i):i < τ.length/\b ∈ B i:=by
 unfold pe at h
 split at h
 · rename_i z; exact ⟨z,h⟩
 · cases h
theorem Sta.cut {A:Addr->Prop} {H₀:Hp} {τ:List Sl} {B:Nat->List Addr} {σ:L2.St} (S:Sta K A H₀ τ B σ H):Sta K A H₀ τ (pe τ B) σ H where
 same:=S.same
 len:=S.len
 sl:=λi s h=>by
   have hl:=(List.getElem?_eq_some_iff.mp h).1
   rw [show pe τ B i=B i from if_pos hl]
   exact (S.sl i s h).mono (ax (ah.refl _) λb z=>z.elim .inl λ⟨j,z⟩=>.inr ⟨j,(dC z).2⟩) (ah.refl _)
 fr:=λi b h=>S.fr i b (dC h).2
 uq:=λi j b h g=>S.uq i j b (dC h).2 (dC g).2
 ad:=S.ad
 bd:=λi b h=>S.bd i b (dC h).2
theorem Sta.odd {A:Addr->Prop} {H₀:Hp} {τ:List Sl} {B:Nat->List Addr} {σ:L2.St} (S:Sta K A H₀ τ B σ H) (hn:∀ (i:Nat) (t:Nd),τ[i]?=some (Sl.n t)->fu t=true) (b:Addr) (h:own A (pe τ B) b):A b\/Odd H b:=by
 rcases h with h | ⟨i,h⟩
 · exact .inl h
 · obtain ⟨hl,hb⟩:=dC h
   have q:=S.sl i _ (List.getElem?_eq_getElem hl)
   have hn:=hn i
   rw [List.getElem?_eq_getElem hl] at hn
   generalize τ[i]=s at q hn
   cases s with
   | un=>rw [show B i=[] from q] at hb; cases hb
   | d x=>rw [q.1] at hb; cases hb
   | o xs=>
     obtain ⟨a,vs,e1,_,e3,_⟩:=q
     rw [e1] at hb
     rw [List.mem_singleton.mp hb]
     exact .inr (.inl ⟨_,e3⟩)
   | n t=>
     obtain ⟨_,u,_,ok⟩:=q
     exact .inr (ok.odd (hn t rfl) b hb)
   | x E=>
     obtain ⟨a,o,e1,_,e3,e4⟩:=q
     rw [e1] at hb
     rw [List.mem_singleton.mp hb]
     exact .inr (.inr (.inr ⟨_,e3,E.ext e4⟩))
end
section
variable {X:Cx} {τ:List Sl} {e:Expr} {pos:Pos} {N:Po} {rest:List Stmt}
end
end Hy
namespace Hy
open PySem PySem.Spec PyProof.Rows L2
open Ev (D Den au)
theorem _root_.L2.Fun.zv {K:PySem.W.Frag} {x qual:Str} {st:Stmt} {f T:Addr} {fd:FuncData} {ps:List Str} {c:Value} {d:Option Addr} {items:Array Value} {n:Nat} {sl:Array (Option Value)} (_:L2.Fun K x qual st f fd) (hd:fd.defaults=.ref T) (lT:K.lookup T=some ⟨c,d,.seq items n,sl⟩)
   (h:∀ us:List Value,us.length=ps.length->∃ k,bindArgs fd ⟨us,[]⟩=seqItems? fd.defaults >>= k/\k (some items)=pure (ps.zip us)):L2.Binds K fd ps []:=λs us X hl=>by
 rw [List.append_nil] at hl ⊢
 obtain ⟨k,h1,h2⟩:=h us hl
 exact .of_defaults hd (X _ _ lT) rfl h1 h2
noncomputable def tw (K:PySem.W.Frag) (x:Str) (st:Stmt) (f:Addr) (i:Int):Prop:=PySem.W.nsIn K mainGlobals x=some (some (.ref f))/\(∃ oc od kV dc pm an cd ct sl T td tl tc tt tn,K.lookup f=some ⟨oc,od,.func (PySem.W.fnOf x x (cg st) (bO st) (ai st) (.ref T) kV dc pm an cd ct),sl⟩/\PySem.W.codeIn K cd x=true/\K.lookup T=some ⟨tc,td,.seq #[.int i tt] tn,tl⟩)/\PySem.W.keepIn K (.ref f)=true
section
variable {P:Program} {w:World} {K:PySem.W.Frag} {h:Heap} {mg:Str->Option Value} {base:Heap} {x:Str} {st:Stmt} {f:Addr} {ps:List Str} {k:Nat} {Φ:List D->Sl->Prop} {i:Int}
theorem tw.of {oc tc:Value} {od an td:Option Addr} {kV dc pm cd ct:Value} {sl tl:Array (Option Value)} {T:Addr} {tt:Tok} {tn:Nat} (a:PySem.W.nsIn K mainGlobals x=some (some (.ref f))) (l:K.lookup f=some ⟨oc,od,.func (PySem.W.fnOf x x (cg st) (bO st) (ai st) (.ref T) kV dc pm an cd ct),sl⟩) (c:PySem.W.codeIn K cd x=true) (d:K.lookup T=some ⟨tc,td,.seq #[.int i tt] tn,tl⟩) (k:PySem.W.keepIn K (.ref f)=true):tw K x st f i:=⟨a,⟨_,_,_,_,_,_,_,_,_,_,_,_,_,_,_,l,c,d⟩,k⟩
theorem tw.cal (d:tw K x st f i) (X:K.In h) (G:h.Ns mainGlobals mg) (b:∀ (T:Addr) (tt:Tok) (kV dc pm:Value) (an:Option Addr) (cd ct:Value) (us:List Value),us.length=ps.length->∃ k,bindArgs (PySem.W.fnOf x x (cg st) (bO st) (ai st) (.ref T) kV dc pm an cd ct) ⟨us,[]⟩=seqItems? (.ref T) >>= k/\k (some #[.int i tt])=pure (ps.zip us))
   (o:∀ fd,Fun K x x st f fd->aS P w K mg base CX0 k f fd ps (spD K Φ)):Cal P w K mg base k x Φ:=by
 obtain ⟨a,⟨oc,od,kV,dc,pm,an,cd,ct,sl,T,td,tl,tc,tt,tn,l,c',dt⟩,q⟩:=d
 have F:=oG l c' q
 exact ⟨f,_,ps,o _ F,PySem.W.mg_of X G a,q,F.zv rfl dt (b T tt kV dc pm an cd ct)⟩
end
mutual
noncomputable def nL:Nd->Bool
 | .d x=>flat x
 | .l xs=>kD xs
 | .t xs=>kD xs
noncomputable def kD:List Nd->Bool
 | []=>true
 | x :: xs=>nL x && kD xs
end
noncomputable def vx:Sl->Bool
 | .un=>true
 | .d x=>flat x
 | .o xs=>xs.all flat
 | .n t=>nL t
 | .x _=>false
section
variable {K:PySem.W.Frag} {G G' H:Hp}
mutual
theorem bo.fl:∀ {u:V} {bs:List Addr} {t:Nd},bo K G H u bs t->nL t=true->bo K G' H u bs t
 | _,_,_,.d h,f=>.d (dD h (by rw [nL] at f; exact f))
 | _,_,_,.l h r,f=>.l h (aI.fl r (by rw [nL] at f; exact f))
 | _,_,_,.t h r,f=>.t h (aI.fl r (by rw [nL] at f; exact f))
theorem aI.fl:∀ {vs:List V} {bs:List Addr} {ts:List Nd},aI K G H vs bs ts->kD ts=true->aI K G' H vs bs ts
 | _,_,_,.nil,_=>.nil
 | _,_,_,.cons h r,f=>by
   rw [kD,Bool.and_eq_true] at f
   exact .cons (bo.fl h f.1) (aI.fl r f.2)
end
theorem pV:∀ {vs:List V} {xs:List D},au K G vs xs->xs.all flat=true->au K G' vs xs
 | _,_,.nil,_=>.nil
 | _,_,.cons h r,f=>by
   rw [List.all_cons,Bool.and_eq_true] at f
   exact .cons (dD h f.1) (pV r f.2)
theorem bV.fl {v:Option V} {bs:List Addr}:∀ {s:Sl},bV K G H v bs s->vx s=true->bV K G' H v bs s
 | .un,h,_=>h
 | .d _,⟨h,u,e1,h2⟩,f=>⟨h,u,e1,dD h2 f⟩
 | .o _,⟨a,vs,h1,h2,h3,h4⟩,f=>⟨a,vs,h1,h2,h3,pV h4 f⟩
 | .n _,⟨h0,u,h1,h2⟩,f=>⟨h0,u,h1,h2.fl f⟩
end
theorem u6 {X:Cx} {C C':Bool} {τ:List Sl} {e:Expr} {s s0:Sl} {x:D} (i:Nat) (h:PE X e (dE X.K C' (τ.set i (.d x)) s)) (f:vx s=true) (hi:τ[i]?=some s0:=by rfl) (hx:fzD s0=some x:=by rfl):PE X e (dE X.K C τ s):=
 peW h λσ H Q ⟨A,H₀,B,S,k⟩=>⟨A,H₀,_,S.fz hi hx,λv H' bs e fr q=>k v H' bs e fr (q.fl f)⟩
theorem BL {X:Cx} {τ:List Sl} {elt tg it:Expr} {ifs:List Expr} {pos p spos:Pos} {scope:Scope} {rest:List Stmt} {N:Po} {ns:List Nd} {s0:Sl} {x:D} (i j:Nat) {n:Str} (hN:X.N.Nodup) (h:wc X elt tg it ifs scope (τ.set j (.d x)) ns) (f:kD ns=true) (hr:PSs X rest (dS X.K (τ.set i (.n (.l ns))) N))
   (hj:τ[j]?=some s0:=by rfl) (hx:fzD s0=some x:=by rfl) (hi:X.N[i]?=some n:=by rfl) (hl:Loc X.env.scope n:=by first | exact .inl rfl | exact .inr rfl)
   (hsw:swapsWith (.ListComp elt [⟨tg,it,ifs,0⟩] scope pos) (some (.Name n p)) spos.line X.env=pure true:=by rfl) (hf:X.fn n=true\/X.env.scope.names.lookup n=some .local:=by first | exact .inl rfl | exact .inr rfl | assumption) :
   PSs X (.Assign [.Name n p] (.ListComp elt [⟨tg,it,ifs,0⟩] scope pos) spos :: rest) (dS X.K τ N):=by
 obtain ⟨In,caps,N',wi,h1,h2,h3,h4⟩:=h.ex
 exact aZ (M:=(·=τ.set i (.n (.l ns)))) (psW (Ev.gB (dQ (i:=i) hN hi hl hf) h1 h2 h.hs h3 hsw) λD σ H ⟨A,H₀,B,S,Me⟩=>h4 true _ _ _ ⟨A,H₀,_,S.fz hj hx,λv H' bs e hf h=>Me.nx _ _ _ _ rfl (S.set e hf (h.fl (show nL (.l ns)=true by rw [nL]; exact f)))⟩) λ_ e=>e ▸ hr
theorem w8 {X:Cx} {τ:List Sl} {elt tg it:Expr} {ifs:List Expr} {pos p spos:Pos} {scope:Scope} {rest:List Stmt} {N:Po} {ns:List Nd} (i:Nat) {n:Str} (hN:X.N.Nodup) (h:wc X elt tg it ifs scope τ ns) (hr:PSs X rest (dS X.K (τ.set i (.n (.l ns))) N))
   (hi:X.N[i]?=some n:=by rfl) (hl:Loc X.env.scope n:=by first | exact .inl rfl | exact .inr rfl)
   (hsw:swapsWith (.ListComp elt [⟨tg,it,ifs,0⟩] scope pos) (some (.Name n p)) spos.line X.env=pure true:=by rfl) (hf:X.fn n=true\/X.env.scope.names.lookup n=some .local:=by first | exact .inl rfl | exact .inr rfl | assumption) :
   PSs X (.Assign [.Name n p] (.ListComp elt [⟨tg,it,ifs,0⟩] scope pos) spos :: rest) (dS X.K τ N):=by
 obtain ⟨In,caps,N',wi,h1,h2,h3,h4⟩:=h.ex
 exact aZ (M:=(·=τ.set i (.n (.l ns)))) (psW (Ev.gB (dQ (i:=i) hN hi hl hf) h1 h2 h.hs h3 hsw) λD σ H ⟨A,H₀,B,S,Me⟩=>h4 true _ _ _ ⟨A,H₀,B,S,λv H' bs e hf h=>Me.nx _ _ _ _ rfl (S.set e hf h)⟩) λ_ e=>e ▸ hr
end Hy
namespace Lc
open PySem PySem.Spec PyProof.Rows L2
open PySem.AutoSeq1 (wpAny_loadPart')
open PySem.MeetsSeq PySem.MeetsSeq2 PySem.MeetsSeq3 PySem.SeqRoads2 PySem.SeqAt
open Ev (D Den au eqD cM toP)
section
variable {X:Cx} {pins:List (Addr × Obj)} {σ:L2.St} {H G:Hp} {s:Shared}
open Ev (cln dU dep fg bX fI gP iY)
theorem qN {K:PySem.W.Frag} {G:Hp}:∀ {vs:List V} {xs:List D} {us:List Value},au K G vs xs->Vals vs us->∀ {j:Nat} {x:D},xs[j]?=some x->∃ v u,us[j]?=some u/\Den K G v x/\RelV v u
 | _,_,_,.cons d r,.cons q qs,0,x,e=>by cases e; exact ⟨_,_,rfl,d,q⟩
 | _,_,_,.cons d r,.cons q qs,j + 1,x,e=>qN r qs (j:=j) e
 | _,_,_,.nil,.nil,_,_,e=>by cases e
theorem um (I:Inv X pins σ H s) (e:ah G H) {A:Around} {v v':V} {x y:D} {u u':Value} (d:Den X.K G v x) (r:RelV v u) (d':Den X.K G v' y) (r':RelV v' u') (c1:cln x=true) (c2:cln y=true) (hu:A.units + dep x < cLine):EqAt A s u u' (eqD x y):=by
 obtain ⟨as,z1⟩:=bX I e d r c1
 obtain ⟨bs,z2⟩:=bX I e d' r' c2
 rw [<- fI]
 refine eqAt_reads _ _ A s u u' as bs z1 z2 (by rw [gP]; exact c1) (by rw [gP]; exact c2) ?_
 rw [iY]
 exact Nat.lt_of_le_of_lt (Nat.add_le_add_left (Nat.min_le_left _ _) _) hu
end
end Lc
namespace Hy
open PySem PySem.Spec PyProof.Rows L2
open Ev (D Den au cM)
end Hy
namespace Hy
open PySem PySem.Spec PyProof.Rows L2
open Ev (D Den au)
section
variable {K:PySem.W.Frag} {A:Addr->Prop} {H₀ H H':Hp} {τ:List Sl} {B:Nat->List Addr} {σ:L2.St}
end
section
variable {X:Cx} {τ:List Sl} {x y z:D} {a b e c:Expr} {es:List Expr} {pos p q:Pos} {k:Nat} {s:Sl} {ds:List D} {N:Po} {rest body:List Stmt}
end
section
variable {P:Program} {w:World} {K:PySem.W.Frag} {mg:Str->Option Value} {base:Heap}
end
section
variable {X:Cx} {τ:List Sl} {es:List Expr} {pos p q pr:Pos} {k:Nat} {s:Sl} {ds:List D} {N:Po} {rest:List Stmt}
end
end Hy
namespace Hy
open PySem PySem.Spec PyProof.Rows L2
open Ev (D Den au aE aD aj aT aJ)
section
variable {X:Cx} {i:Int}
end
end Hy
namespace Su
open PySem PyProof.Rows HT
open PySem.SeqAt
open PySem.AutoSeq1 (wpAny_loadPart')
open PySem.MeetsSeq PySem.MeetsSeq2 PySem.MeetsSeq3
section
variable {prog:Program} {w:World} {A:Around} {E:Value->Shared->Prop} {s:Shared}
end
end Su
namespace Hy
open PySem PySem.Spec PyProof.Rows L2
open Ev (D Den au aE aD aj aT aJ)
section
variable {X:Cx} {C:Bool} {τ:List Sl} {x y z:D} {a b e:Expr} {es:List Expr} {pos p:Pos} {k:Nat} {s:Sl} {ds xs ys:List D} {i j:Int} {N:Po} {rest:List Stmt}
theorem wJ:OpR X (binaryOp .Add) (λx y H Q=>∃ a b ys,x=.ref a/\y=.ref b/\SqT X.K H a []/\SqT X.K H b ys/\Q (.ref b) H):=by
 intro pins s σ H x y v u Q I rx ry h
 obtain ⟨a,b,ys,rfl,rfl,ha,hb,q⟩:=h
 cases rx
 cases ry
 obtain ⟨its,r1,p1,_⟩:=I.tuple ha
 obtain ⟨its2,r2,p2,_⟩:=I.tuple hb
 cases r1
 obtain ⟨⟨cls,dd,data,sl⟩,ho,hc,n,hd⟩:=id p1
 obtain ⟨⟨cls2,dd2,data2,sl2⟩,ho2,hc2,n2,hd2⟩:=id p2
 simp only at hc hd hc2 hd2
 subst hc hd hc2 hd2
 exact concat_meets ⟨_,ho,rfl⟩ ⟨_,ho2,rfl⟩ noFill_tuple_add seq_tuple_add PySem.F.slot_tuple_add PySem.F.entry_tuple_add (PySem.F.args_tuple_add_2 _ _) (tuple_addW0 a b _ _ n n2 dd dd2 sl sl2 (by simp)) ⟨ho,ho2,⟨.ref b,H,I,rfl,q⟩⟩
theorem pI (hl:xs.length + ys.length < 1000000):b8 X (binaryOp .Add) (.tup xs) (.tup ys) (.tup (xs++ys)):=by
 have lim:1000000<=sizeLine:=by decide
 cases xs with
 | nil=>exact ⟨_,wJ,λM v w H Q _ d1 d2 k=>by
     cases d1 with
     | tup h1 r1=>
       cases r1
       cases d2 with
       | tup h2 r2=>exact ⟨_,_,_,rfl,rfl,aT aH h1,aT aH h2,k _ H (ah.refl _) (.tup h2 r2)⟩⟩
 | cons x0 xs=>exact ⟨_,wk,λM v w H Q hM d1 d2 k=>by
     cases d1 with
     | @tup a1 vs _ h1 r1=>
     cases d2 with
     | @tup a2 ws _ h2 r2=>
     have l1:=r1.length
     have l2:=r2.length
     refine ⟨_,_,_,_,rfl,rfl,aT aH h1,aT aH h2,λz=>by subst z; simp at l1,by omega,λz=>?_,λ_ p hp=>?_⟩
     · subst z
       cases r2
       rw [List.append_nil] at k
       exact k _ H (ah.refl _) (.tup h1 r1)
     · have e:=aj hp (.tup (vs++ws))
       exact k _ _ e (.tup (SqT.of (jZ hM hp)) ((r1.append r2).mono (ax e λ_ z=>z)))⟩
end
section
variable {X:Cx} {C:Bool} {τ:List Sl} {x y z:D} {a b e:Expr} {es:List Expr} {pos p:Pos} {k:Nat} {s:Sl} {ds xs ys:List D} {N:Po} {rest:List Stmt}
theorem Bw (i:Nat) {n:Str} {ap cp:Pos} (he:PE X e (dE X.K true τ (.o ys))) (hl:xs.length + ys.length < 1000000) (hr:PSs X rest (dS X.K (τ.set i (.o (xs++ys))) N)) (hi:τ[i]?=some (.o xs):=by rfl) (hN:X.N[i]?=some n:=by rfl)
   (hv:Vis X.env.scope n:=by first | exact Or.inl rfl | exact Or.inr (Or.inl rfl) | exact Or.inr (Or.inr rfl)) (hd:(n == ("__debug__" : Str))=false:=by decide) (hcd:(n == ("__classdict__" : Str))=false:=by decide)
   (hfew:((backTo cp (starEach [e] X.env)).all (λx=>!x.1) && (backToKw cp (keywordEach [] X.env)).all (λx=>x.1.isSome) && decide (([e]:List Expr).length + ([]:List Keyword).length + (if ([]:List Keyword).isEmpty then 0 else 1) < 30))=true:=by rfl)
   (hline:(ap.endLine == cp.line)=true:=by rfl) (hst:starEach [e] X.env=(false,eval e X.env) :: starEach [] X.env:=by rfl) (hpl:(backTo cp (starEach [] X.env)).any (·.1)=false:=by rfl)
   (hs:swapsWith (.Call (.Attribute (.Name n p) "extend" ap) [e] [] cp) none pos.line X.env=pure false:=by rfl) (hbase:attributeBase (.Name n p) "extend" X.env (eval (.Name n p) X.env)=eval (.Name n p) X.env:=by rfl) :
   PSs X (.Expr (.Call (.Attribute (.Name n p) "extend" ap) [e] [] cp) pos :: rest) (dS X.K τ N):=
 aZ (M:=(·=τ.set i (.o (xs++ys)))) (psW (fB (kA PySem.F.plainAttrs_list PySem.F.slot_list_extend PySem.F.type_list_extend rG (bH hN hv hd hcd) (bJ he c8 hst) hbase hfew hline hst hpl) hs) λD σ H ⟨A,H₀,B,S,Me⟩=>by
   obtain ⟨l,vs,hb,e1,e2,d⟩:=S.sl i _ hi
   refine ⟨_,slot_of e1,.inl ⟨rfl,_,SqL.of e2⟩,A,H₀,B,S,λv H1 bs e3 fr ⟨l2,ws,eb,ev,h2,d2⟩=>?_⟩
   cases ev
   have lim:1000000<=sizeLine:=by decide
   refine ⟨l,l2,vs,ws,rfl,rfl,e3 _ _ e2,h2,by rw [d.length,d2.length]; omega,?_⟩
   exact Me.nx _ _ _ _ rfl ((S.mono e3).put hi hb ((d.mono (ax e3 λ_ z=>z)).append (d2.mono (ax (ah.refl _) λ_ z=>.inl z))))) λ_ e=>e ▸ hr
end
end Hy
namespace Hy
open PySem PySem.Spec PyProof.Rows L2
open Ev (D Den au aj aT aJ)
section
variable {X:Cx}
theorem ur {α:Type}:∀ (its:List α) (k:Nat) (y:α),k<=its.length->its.insertIdx k y=its.take k++[y]++its.drop k
 | _,0,_,_=>rfl
 | a :: r,k + 1,y,h=>by
   rw [List.insertIdx_succ_cons,ur r k y (by simpa using h)]
   rfl
theorem zC {its:List Value} {k:Nat} {y:Value} (h:k<=its.length):(its.toArray.extract 0 k).push y++its.toArray.extract k=(its.insertIdx k y).toArray:=by
 apply Array.toList_inj.mp
 simp only [Array.toList_append,Array.toList_push,Array.toList_extract,List.extract_eq_drop_take,List.drop_zero,Nat.sub_zero,List.size_toArray]
 rw [ur its k y h]
 congr 1
 exact List.take_of_length_le (by rw [List.length_drop]; exact Nat.le_refl _)
noncomputable def wm:V->List V->Hp->VK->Prop:=λx vs H Q=>∃ l xs,∃ i:Int,∃ y,x=.ref l/\vs=[.int i,y]/\H l=some (.lst xs)/\0<=i/\i.toNat<=xs.length/\xs.length < sizeLine/\Q .non (upd H l (.lst (xs.insertIdx i.toNat y)))
theorem rP:MtM X "list.insert" wm:=by
 intro pins s σ H x vs v us Q I rx rv h
 obtain ⟨l,xs,i,y,rfl,rfl,hH,h0,h1,h2,q⟩:=h
 cases rx
 obtain ⟨u,w,rfl,ru,rw'⟩:=rv.two
 obtain ⟨t,rfl⟩:=ru
 obtain ⟨z,its,n,r,hl,e⟩:=I.ua hH
 have hi:i < 2 ^ 63:=by have:=Int.toNat_of_nonneg h0; have:sizeLine < 2 ^ 62:=(by decide); omega
 have hf:Builtin.List.listFitsIndex i=true:=by
   unfold Builtin.List.listFitsIndex
   rw [Bool.and_eq_true]
   exact ⟨decide_eq_true (by omega),decide_eq_true hi⟩
 refine call_meets PySem.F.slot_list_insert ⟨_,e,rfl⟩ PySem.F.entry_list_insert (PySem.F.args_list_insert_3 _ _ _) (PySem.AutoSeq1.list_insert_list_int_val_1 l its.toArray n i t w (by simp [hf]) (by rw [List.size_toArray]; omega)) ⟨e,?_⟩
 have vi:∀ {xs:List V} {us:List Value} (k:Nat) {a:V} {b:Value},Vals xs us->RelV a b->Vals (xs.insertIdx k a) (us.insertIdx k b):=λ{xs us} k {a b} r ra=>by
   induction k generalizing xs us with
   | zero=>exact .cons ra r
   | succ k ih=>cases r with
     | nil=>exact .nil
     | cons r1 r2=>exact .cons r1 (ih r2)
 refine ⟨.non,_,I.xn (its':=its.insertIdx i.toNat w) hH e ?_ (vi _ r rw') ?_,rfl,q⟩
 · show (its.toArray.extract 0 (if i < 0 then (i + (its.toArray.size:Int)).toNat else min i.toNat its.toArray.size)).push w++its.toArray.extract (if i < 0 then (i + (its.toArray.size:Int)).toNat else min i.toNat its.toArray.size)=_
   rw [if_neg (by omega),List.size_toArray,Nat.min_eq_left (by omega)]
   exact zC (by omega)
 · rw [List.length_insertIdx_of_le_length h1]; omega
end
section
variable {X:Cx} {C:Bool} {τ:List Sl} {x y z:D} {a b e f o ix:Expr} {es:List Expr} {pos p q:Pos} {k:Nat} {s:Sl} {N:Po} {rest:List Stmt} {i:Nat} {t c:Nd} {pt:List Nat} {xs:List Nd} {j:Int} {m:Nat}
end
noncomputable def Pj (σ:L2.St) (H:Hp) (i j k:Nat):Prop:=∃ a vs v,(σ[i]?).join=some (.ref a)/\H a=some (.lst vs)/\vs[k]?=some v/\σ[j]?=some (some v)
noncomputable def dEJ (K:PySem.W.Frag) (τ:List Sl) (i j k:Nat) (x:D):TE:=λσ H Q=>∃ A H₀ B,Sta K A H₀ τ B σ H/\Pj σ H i j k/\∀ v H',ah H H'->Den K (hd H' A) v x->Q v H'
section
variable {X:Cx} {τ τ1 τ2:List Sl} {x y z:D} {a b e o ix:Expr} {es:List Expr} {pos p q:Pos} {l:Nat} {s:Sl} {N:Po} {st:Stmt} {body rest:List Stmt} {i j k:Nat} {t c:Nd} {pt:List Nat} {xs:List Nd} {m:Nat} {ds:List D}
end
end Hy
namespace Hy
open PySem PySem.Spec PyProof.Rows L2
open Ev (D Den au aj)
section
variable {X:Cx} {C:Bool} {τ:List Sl} {x y z:D} {a b e:Expr} {es:List Expr} {pos p np cpos:Pos} {k c:Nat} {s:Sl} {ds:List D} {N:Po} {rest body:List Stmt} {cl:Nat->Addr} {Ex:Nat->Hp->Prop} {Et:Hp->Prop}
end
section
variable {P:Program} {w:World} {K:PySem.W.Frag} {mg:Str->Option Value} {base:Heap} {cl:Nat->Addr}
end
section
variable {X:Cx} {C:Bool} {τ:List Sl} {e:Expr} {k c i:Nat} {N:Po} {rest body:List Stmt} {cl:Nat->Addr} {n:Str} {fw S:Addr} {p p' q psm pr ph pos:Pos}
end
section
variable {X:Cx} {C:Bool} {τ:List Sl} {x y z:D} {a b e c0 tg it elt:Expr} {es ifs:List Expr} {pos p q q':Pos} {k c:Nat} {cl:Nat->Addr} {xs:List D} {scope:Scope}
end
section
variable {P:Program} {w:World} {K:PySem.W.Frag} {mg:Str->Option Value} {base:Heap} {cl:Nat->Addr}
end
end Hy
namespace Hy
open PySem PySem.Spec PyProof.Rows L2
open Ev (D Den au cD dr)
section
variable {X:Cx} {C:Bool} {τ:List Sl} {a e tg it elt:Expr} {es ifs:List Expr} {pos p:Pos} {Et:Hp->Prop} {scope:Scope}
end
end Hy
namespace Hy
open PySem PySem.Spec PyProof.Rows L2
open Ev (D Den au)
section
variable {P:Program} {w:World} {K:PySem.W.Frag} {h:Heap} {mg:Str->Option Value} {base:Heap} {x:Str} {st:Stmt} {f:Addr} {ps:List Str} {k:Nat} {Φ:List D->Nat->Prop} {cl:Nat->Addr}
end
end Hy
namespace L2
open PySem PySem.Spec PyProof.Rows
section
variable {κ:Type} [DecidableEq κ]
noncomputable def eA (kvs:List (κ × V)) (k:κ):Option V:=(kvs.find? λkv=>decide (kv.1=k)).map (·.2)
noncomputable def putK (kvs:List (κ × V)) (k:κ) (v:V):List (κ × V):=
 if (kvs.any λkv=>decide (kv.1=k))=true then kvs.map (λkv=>if kv.1=k then (kv.1,v) else kv) else kvs++[(k,v)]
theorem bF {p:κ × V} {r:List (κ × V)} {k:κ} (e:p.1=k):eA (p :: r) k=some p.2:=by simp [eA,List.find?_cons,e]
theorem bI {p:κ × V} {r:List (κ × V)} {k:κ} (e:¬ p.1=k):eA (p :: r) k=eA r k:=by simp [eA,List.find?_cons,e]
theorem jk (k:κ):∀ kvs:List (κ × V),(kvs.any λkv=>decide (kv.1=k))=(eA kvs k).isSome
 | []=>rfl
 | p :: r=>by
   rw [List.any_cons]
   by_cases e:p.1=k
   · simp only [bF e,decide_eq_true e,Bool.true_or,Option.isSome_some]
   · rw [bI e,decide_eq_false e,Bool.false_or]; exact jk k r
theorem mN (k j:κ) (y:V):∀ kvs:List (κ × V),eA (kvs.map λkv=>if kv.1=k then (kv.1,y) else kv) j=(eA kvs j).map λx=>if j=k then y else x
 | []=>rfl
 | p :: r=>by
   have ih:=mN k j y r
   rw [List.map_cons]
   by_cases h:p.1=k
   · rw [if_pos h]
     by_cases e:p.1=j
     · rw [bF (p:=(p.1,y)) e,bF e,Option.map_some,if_pos (e.symm.trans h)]
     · rw [bI (p:=(p.1,y)) e,bI e,ih]
   · rw [if_neg h]
     by_cases e:p.1=j
     · rw [bF (p:=p) e,bF e,Option.map_some,if_neg (λz=>h (e.trans z))]
     · rw [bI (p:=p) e,bI e,ih]
theorem k8 (k j:κ) (y:V):∀ kvs:List (κ × V),eA kvs k=none->eA (kvs++[(k,y)]) j=if j=k then some y else eA kvs j
 | [],_=>by
   by_cases e:k=j
   · rw [if_pos e.symm]; exact bF (p:=(k,y)) e
   · rw [if_neg (λz=>e z.symm)]; exact bI (p:=(k,y)) e
 | p :: r,hn=>by
   rw [List.cons_append]
   have hk:¬ p.1=k:=λz=>by rw [bF z] at hn; cases hn
   rw [bI hk] at hn
   have ih:=k8 k j y r hn
   by_cases e:p.1=j
   · rw [bF e,bF e,if_neg (λz=>hk (e.trans z))]
   · rw [bI e,bI e,ih]
theorem uF (kvs:List (κ × V)) (k j:κ) (y:V):eA (putK kvs k y) j=if j=k then some y else eA kvs j:=by
 unfold putK
 by_cases a:(kvs.any λkv=>decide (kv.1=k))=true
 · rw [if_pos a,mN]
   rw [jk] at a
   by_cases e:j=k
   · obtain ⟨x,hx⟩:=Option.isSome_iff_exists.mp a
     rw [if_pos e,e,hx,Option.map_some,if_pos rfl]
   · rw [if_neg e]
     cases eA kvs j with
     | none=>rfl
     | some x=>rw [Option.map_some,if_neg e]
 · rw [if_neg a]
   refine k8 k j y kvs ?_
   rw [jk] at a
   cases q:eA kvs k with
   | none=>rfl
   | some x=>rw [q] at a; exact (a rfl).elim
theorem iI (kvs:List (κ × V)) (k:κ) (v:V):(putK kvs k v).length<=kvs.length + 1:=by
 unfold putK
 split
 · rw [List.length_map]; omega
 · rw [List.length_append,List.length_cons,List.length_nil]; omega
theorem nO.getD {o:Option V} {u:Option Value} {d:V} {d':Value} (r:nO o u) (rd:RelV d d'):RelV (o.getD d) (u.getD d'):=by
 cases o with
 | none=>cases u with
   | none=>exact rd
   | some _=>exact (show False from r).elim
 | some _=>cases u with
   | none=>exact (show False from r).elim
   | some _=>exact r
theorem KV.val {kvs:List (κ × V)} {vs:List (κ × Value)} (r:KV kvs vs) (k:κ):nO (eA kvs k) (valueAt vs k):=by
 unfold KV at r
 induction r with
 | nil=>exact True.intro
 | @cons p q ps qs h t ih=>
   obtain ⟨h1,h2⟩:=h
   by_cases e:p.1=k
   · have e':q.1=k:=h1.symm.trans e
     have b:valueAt (q :: qs) k=some q.2:=by simp [valueAt,List.find?_cons,e']
     rw [bF e,b]; exact h2
   · have e':¬ q.1=k:=λz=>e (h1.trans z)
     have b:valueAt (q :: qs) k=valueAt qs k:=by simp [valueAt,List.find?_cons,e']
     rw [bI e,b]; exact ih
theorem KV.any {kvs:List (κ × V)} {vs:List (κ × Value)} (r:KV kvs vs) (k:κ):(kvs.any λkv=>decide (kv.1=k))=vs.any λkv=>decide (kv.1=k):=by
 unfold KV at r
 induction r with
 | nil=>rfl
 | cons h t ih=>rw [List.any_cons,List.any_cons,ih,h.1]
theorem KV.BM {kvs:List (κ × V)} {vs:List (κ × Value)} (r:KV kvs vs) (k:κ) {y:V} {u:Value} (ry:RelV y u) :
   KV (kvs.map λkv=>if kv.1=k then (kv.1,y) else kv) (vs.map λkv=>if kv.1=k then (kv.1,u) else kv):=by
 unfold KV at r ⊢
 induction r with
 | nil=>exact .nil
 | @cons p q ps qs h t ih=>
   rw [List.map_cons,List.map_cons]
   refine .cons ?_ ih
   obtain ⟨h1,h2⟩:=h
   by_cases e:p.1=k
   · rw [if_pos e,if_pos (h1.symm.trans e)]; exact ⟨h1,ry⟩
   · rw [if_neg e,if_neg (λz=>e (h1.trans z))]; exact ⟨h1,h2⟩
theorem KV.put {kvs:List (κ × V)} {vs:List (κ × Value)} (r:KV kvs vs) (k:κ) {y:V} {u:Value} (ry:RelV y u):KV (putK kvs k y) (stored vs k u):=by
 unfold putK stored
 rw [r.any k]
 by_cases e:(vs.any λkv=>decide (kv.1=k))=true
 · rw [if_pos e,if_pos e]; exact r.BM k ry
 · rw [if_neg e,if_neg e]; exact Paired.snoc r ⟨rfl,ry⟩
theorem KV.keys {kvs:List (κ × V)} {vs:List (κ × Value)} (r:KV kvs vs):kvs.map (·.1)=vs.map (·.1):=by
 unfold KV at r
 induction r with
 | nil=>rfl
 | cons h t ih=>rw [List.map_cons,List.map_cons,ih,h.1]
theorem KV.length {kvs:List (κ × V)} {vs:List (κ × Value)} (r:KV kvs vs):kvs.length=vs.length:=Paired.length r
end
theorem qF {P:Program} {w:World} {k:Key} {u:Value} (r:RelV (kV k) u):(a5 P w).is k u=true:=by
 cases k with
 | inl i=>obtain ⟨t,e⟩:=(show ∃ t,u=Value.int i t from r); subst e; exact nB P w i t
 | inr x=>obtain ⟨t,e⟩:=(show ∃ t,u=Value.str x t from r); subst e; exact m9 P w x t
section
variable {P:Program} {w:World} {H:Hp} {h:Heap} {a:Addr}
theorem Av {u:HO} (ok:HOk P w H h) (e:Rd H a u):bf P w H h a u:=e.ok ok
theorem mE {kvs:List (Key × V)} (ok:HOk P w H h) (e:Rd H a (.dK kvs)):kvs.length<=sizeLine/\(a == sysModules)=false/\∃ vs,KV kvs vs/\h.DictOf (a5 P w) a vs:=
 show bf P w H h a (.dK kvs) from Av ok e
theorem qf {kvs:List (Key × V)} (ok:HOk P w H h) (e:H a=some (.dK kvs)):kvs.length<=sizeLine/\(a == sysModules)=false/\∃ vs,KV kvs vs/\h.DictOf (a5 P w) a vs:=mE ok (.inl e)
end
noncomputable def tu (H:Hp) (a:Addr) (y:V) (r:Option V):Prop:=∃ kvs k,Rd H a (.dK kvs)/\y=kV k/\r=eA kvs k
noncomputable def Az (H:Hp) (a:Addr) (y v:V) (H':Hp):Prop:=∃ kvs k,H a=some (.dK kvs)/\y=kV k/\kvs.length < sizeLine/\H'=upd H a (.dK (putK kvs k v))
section
variable {X:Cx} {pins:List (Addr × Obj)} {σ:St} {H:Hp} {s:Shared} {a:Addr} {y v:V} {u r:Value} {o:Option V} {A:Around} {E:Value->Shared->Prop}
theorem Inv.big (I:Inv X pins σ H s):sysModules < s.heap.objs.size:=by
 have h:mainGlobals < s.heap.objs.size:=(I.mod.glob.keeps I.bk).lt
 exact Nat.lt_trans (by decide) h
theorem rO {Q:Value->Shared->Prop} (hu:A.units + 1 < cLine) (I:Inv X pins σ H s) (g:tu H a y (some v)) (ry:RelV y u) (h:∀ w' s',Inv X pins σ H s'->RelV v w'->Q w' s') :
   wpAny (model X.prog X.w) A (getItem (.ref a) u) Q E s:=by
 obtain ⟨kvs,k,e,ey,l⟩:=g
 subst ey
 obtain ⟨z,hd,vs,rel,dd⟩:=mE I.hok e
 obtain ⟨w',hw,rw'⟩:=nO.some_of (v:=v) (o:=valueAt vs k) (by rw [l]; exact rel.val k)
 exact wpAny_getItem_of (qF ry) dd.mapOf hw (h w' _ (I.tok _) rw')
theorem dY {h':Heap} {t':Nat} {ob:HO} (I:Inv X pins σ H s) (mu:Mut (H a)) (hs:Heap.SameBut a s.heap h') (he:∃ q,h'.get? a=some q) (new:bf X.prog X.w (upd H a ob) h' a ob) :
   Inv X pins σ (upd H a ob) { s with heap:=h',toks:=t' }:=
 I.write (x:=a) (e:=a) mu (.inl rfl) (λb q hb z=>(hs.2 b hb).trans z) he new
theorem mx {P:Program} {w:World} {H':Hp} {h':Heap} {kvs:List (Key × V)} {vs:List (Key × Value)} (z:kvs.length<=sizeLine) (hd:(a == sysModules)=false) (rel:KV kvs vs) (dd:h'.DictOf (a5 P w) a vs) :
   bf P w H' h' a (.dK kvs):=⟨z,hd,vs,rel,dd⟩
theorem rn {H':Hp} {Q:Unit->Shared->Prop} (hu:A.units + 1 < cLine) (I:Inv X pins σ H s) (g:Az H a y v H') (ry:RelV y u) (rv:RelV v r) (h:∀ s',Inv X pins σ H' s'->Q () s') :
   wpAny (model X.prog X.w) A (setItem (.ref a) u r) Q E s:=by
 obtain ⟨kvs,k,e,ey,l,eH⟩:=g
 subst ey eH
 obtain ⟨z,hd,vs,rel,dd⟩:=qf I.hok e
 have hz:vs.length<=sizeLine:=by rw [<- rel.length]; exact z
 have hl:(putK kvs k v).length<=sizeLine:=by have:=iI kvs k v; omega
 refine wpAny_setItem_pairs (hsz:=hz) (qF ry) dd λh' dd' hs=>h _ ?_
 have he:∃ q,h'.get? a=some q:=let ⟨q,_,_,hq,_⟩:=dd'; ⟨q,hq⟩
 exact dY I (by rw [e]; exact True.intro) hs he (mx hl hd (rel.put k rv) dd')
end
section
variable {X:Cx} {pins:List (Addr × Obj)} {σ:St} {H:Hp} {s:Shared} {a:Addr} {kvs:List (Key × V)} {k:Key} {u:Value} {A:Around} {E:Value->Shared->Prop}
end
noncomputable def ke (i:Expr):Prop:=∀ ov iv,subscripted i false ov iv=operate [ov,iv] (getItem ov iv)
theorem mv {prog:Program} {w:World} {A:Around} {E:Value->Shared->Prop} {s:Shared} {env:Env} {value slice:Expr} {pos:Pos} {T id:String} {Q:Value->Shared->Prop}
   (hl:typeLookup (.type T) "__getitem__" = pure (some (.builtin id))) (hs:ke slice)
   (h:wpAny (model prog w) A (eval value env) (λo s₁=>wpAny (model prog w) A (eval slice env) (λi s₂=>s₂.TypeIs o T/\wpAny (model prog w) A (getItem o i) Q E s₂) E s₁) E s) :
   wpAny (model prog w) A (eval (.Subscript value slice pos) env) Q E s:=by
 refine Subscript_ (wpAny_mono h (λo s₁ h₁=>wpAny_mono h₁ (λi s₂ h₂=>?_) λ_ _ x=>x) λ_ _ x=>x)
 obtain ⟨hT,h₂⟩:=h₂
 unfold subscriptTail
 refine wpAny_bind ?_
 rw [getitemInPython_of_ne hT.not_modules]
 refine wpAny_bind (wpAny_specialOf hT hl ?_)
 have fin:wpAny (model prog w) A (subscripted slice false o i) (λr s₃=>wpAny (model prog w) A (letTemporaryGo value o r >>= λ_=>pure r) Q E s₃) E s₂:=by
   rw [hs o i]
   exact wpAny_operating (wpAny_mono h₂ (λr s₃ h₃=>wpAny_bind (wpAny_letTemporaryGo (wpAny_pure h₃))) λ_ _ x=>x)
 first
   | exact wpAny_pure (wpAny_bind fin)
   | exact wpAny_bind (wpAny_pure (wpAny_bind fin))
   | exact wpAny_bind fin
theorem nU {X:Cx} {pins:List (Addr × Obj)} {σ:St} {H:Hp} {s:Shared} {a:Addr} {y:V} {o:Option V} (I:Inv X pins σ H s) (g:tu H a y o):s.TypeIs (.ref a) "dict":=by
 obtain ⟨kvs,k,e,_,_⟩:=g
 obtain ⟨_,_,vs,_,dd⟩:=mE I.hok e
 exact dd.typeIs
noncomputable def AO (td ty:TE):TE:=λσ H Q=>td σ H λx H1=>ty σ H1 λy H2=>∃ a v,x=.ref a/\tu H2 a y (some v)/\Q v H2
noncomputable def AX (td ty tv:TE):TS:=λD σ H=>tv σ H λv H1=>td σ H1 λx H2=>ty σ H2 λy H3=>∃ a H4,x=.ref a/\Az H3 a y v H4/\D.nx σ H4
section
variable {X:Cx} {o i e value:Expr} {pos pos' tpos:Pos} {td ty tv:TE}
theorem vV (hu:X.A.units + 1 < cLine) (ho:PE X o td) (hi:PE X i ty) (hs:ke i):PE X (.Subscript o i pos) (AO td ty):=by
 intro pins s σ H Q I h
 refine mv PySem.F.slot_dict_getitem.lookup hs (thn (ho pins s σ H _ I h) λu s1 ⟨x,H1,I1,rx,q1⟩=>thn (hi pins s1 σ H1 _ I1 q1) λiv s2 ⟨y,H2,I2,ry,a,v,ex,g,q2⟩=>?_)
 subst ex
 obtain rfl:u=Value.ref a:=rx
 exact ⟨nU I2 g,rO hu I2 g ry λw' s3 I3 rw'=>⟨v,H2,I3,rw',q2⟩⟩
theorem xj (hu:X.A.units + 1 < cLine) (ho:PE X o td) (hi:PE X i ty) (hv:PE X value tv) (hs:swapsWith value (some (.Subscript o i pos')) pos.line X.env=pure false) :
   PS X (.Assign [.Subscript o i pos'] value pos) (AX td ty tv):=by
 intro pins s σ H D I h
 refine wpAny_Assign_Subscript (thn (hv pins s σ H _ I h) λr s1 ⟨v,H1,I1,rv,q1⟩=>thn (ho pins s1 σ H1 _ I1 q1) λu s2 ⟨x,H2,I2,rx,q2⟩=>thn (hi pins s2 σ H2 _ I2 q2) λiv s3 ⟨y,H3,I3,ry,a,H4,ex,g,q3⟩=>?_) hs
 subst ex
 obtain rfl:u=Value.ref a:=rx
 exact rn hu I3 g ry rv λs4 I4=>⟨σ,H4,I4,q3⟩
end
theorem mQ {P:Program} {w:World} {H:Hp} (h:Heap) (hb:sysModules < h.objs.size):bf P w H (h.push { cls:=.type "dict",data:=.dict #[] }) h.objs.size (.dK []):=
 ⟨Nat.zero_le _,beq_eq_false_iff_ne.mpr (Ne.symm (Nat.ne_of_lt hb)),[],.nil,Heap.DictOf.new h⟩
noncomputable def zW:TE:=λ_ H Q=>∀ p,H p=none->Q (.ref p) (upd H p (.dK []))
section
variable {X:Cx} {pos:Pos}
theorem sP:PE X (.Dict [] [] pos) zW:=λpins s σ H Q I h=>
 wpAny_Dict_empty ⟨.ref s.heap.objs.size,_,I.laid (a:=s.heap.objs.size) (o:=.dK []) (t':=s.toks) (λ_ _ q=>Heap.get?_push_of_some _ q) (Nat.le_refl _) (mQ s.heap I.big),rfl,h _ (I.hok.fresh (Nat.le_refl _))⟩
end
noncomputable def ou:List (TE × TE)->St->Hp->(List (V × V)->Hp->Prop)->Prop
 | [],_,H,Q=>Q [] H
 | (tk,tv) :: r,σ,H,Q=>tk σ H λx H1=>tv σ H1 λy H2=>ou r σ H2 λps H3=>Q ((x,y) :: ps) H3
noncomputable abbrev VV:List (V × V)->List (Value × Value)->Prop:=Paired λp q=>RelV p.1 q.1/\RelV p.2 q.2
noncomputable def PPs (X:Cx) (pos:Pos) (keys:List (Option Expr)) (values:List Expr) (trs:List (TE × TE)):Prop:=
 ∀ (pins:List (Addr × Obj)) (s:Shared) (σ:St) (H:Hp) (Q:List (V × V)->Hp->Prop),Inv X pins σ H s->ou trs σ H Q ->
   wpAny (model X.prog X.w) X.A (evalPairs (pairTrees keys values X.env pos)) (λvs s'=>∃ ps H',Inv X pins σ H' s'/\VV ps vs/\Q ps H') X.xe s
theorem wz {X:Cx} {pos:Pos}:PPs X pos [] [] []:=λpins s σ H Q I h=>pairTrees_nil_walk ⟨[],H,I,.nil,h⟩
theorem uL {X:Cx} {pos:Pos} {k v:Expr} {ks:List (Option Expr)} {vs:List Expr} {tk tv:TE} {trs:List (TE × TE)} (hk:PE X k tk) (hv:PE X v tv) (hr:PPs X pos ks vs trs) :
   PPs X pos (some k :: ks) (v :: vs) ((tk,tv) :: trs):=λpins s σ H Q I h=>
 pairTrees_cons_walk (thn (hk pins s σ H _ I h) λu s1 ⟨x,H1,I1,rx,q1⟩=>thn (hv pins s1 σ H1 _ I1 q1) λw2 s2 ⟨y,H2,I2,ry,q2⟩=>
   thn (hr pins s2 σ H2 _ I2 q2) λws s3 ⟨ps,H3,I3,rel,q3⟩=>⟨(x,y) :: ps,H3,I3,.cons ⟨rx,ry⟩ rel,q3⟩)
noncomputable def ig (kvs more:List (Key × V)):List (Key × V):=more.foldl (λacc kv=>putK acc kv.1 kv.2) kvs
theorem KV.merge:∀ {more:List (Key × V)} {rs:List (Key × Value)} {kvs:List (Key × V)} {vs:List (Key × Value)},KV more rs->KV kvs vs->KV (ig kvs more) (merged vs rs):=by
 intro more rs kvs vs r
 unfold KV at r
 induction r generalizing kvs vs with
 | nil=>intro q; exact q
 | @cons p q ps qs h t ih=>
   intro r0
   have e:KV (putK kvs p.1 p.2) (stored vs q.1 q.2):=by
     have:=r0.put p.1 h.2
     rw [<- h.1]; exact this
   exact ih e
theorem fT:∀ (more kvs:List (Key × V)),(ig kvs more).length<=kvs.length + more.length
 | [],kvs=>by show kvs.length<=kvs.length + 0; omega
 | p :: r,kvs=>by
   have h1:=fT r (putK kvs p.1 p.2)
   have h2:=iI kvs p.1 p.2
   show (ig (putK kvs p.1 p.2) r).length<=_
   rw [List.length_cons]; omega
theorem jg {P:Program} {w:World}:∀ {kvs:List (Key × V)} {ws:List (Value × Value)},VV (kvs.map λkv=>(kV kv.1,kv.2)) ws->∃ rs,Carries (a5 P w) ws rs/\KV kvs rs
 | [],_,r=>by rw [List.map_nil] at r; cases r; exact ⟨[],True.intro,.nil⟩
 | p :: kvs,_,r=>by
   rw [List.map_cons] at r
   cases r with
   | @cons a b as bs h t=>
     obtain ⟨rs,c,q⟩:=jg (P:=P) (w:=w) t
     obtain ⟨b1,b2⟩:=b
     exact ⟨(p.1,b2) :: rs,⟨qF h.1,rfl,c⟩,.cons ⟨rfl,h.2⟩ q⟩
noncomputable def Bi (trs:List (TE × TE)):TE:=λσ H Q=>∀ p,H p=none->ou trs σ (upd H p (.dK [])) λps H2=>H2 p=some (.dK [])/\∃ kvs:List (Key × V),ps=kvs.map (λkv=>(kV kv.1,kv.2))/\kvs.length<=15/\Q (.ref p) (upd H2 p (.dK (ig [] kvs)))
theorem vE {X:Cx} {pos:Pos} {keys:List (Option Expr)} {values:List Expr} {trs:List (TE × TE)} (h:PPs X pos keys values trs) (hall:keys.all (·.isSome)=true) (hl:keys.length=values.length) (h0:keys ≠ [])
   (h15:keys.length<=15):PE X (.Dict keys values pos) (Bi trs):=by
 intro pins s σ H Q I q
 have hn:=I.hok.fresh (Nat.le_refl s.heap.objs.size)
 have I1:=I.laid (a:=s.heap.objs.size) (o:=.dK []) (h':=s.heap.push { cls:=.type "dict",data:=.dict #[] }) (t':=s.toks) (λ_ _ q=>Heap.get?_push_of_some _ q) (Nat.le_refl _) (mQ s.heap I.big)
 refine wpAny_Dict_walk (knd:=a5 X.prog X.w) hall hl h0 h15 (thn (h pins _ σ _ _ I1 (q _ hn)) λws s2 ⟨ps,H2,I2,rel,e,kvs,ep,lk,q2⟩=>?_)
 subst ep
 obtain ⟨rs,c,rk⟩:=jg (P:=X.prog) (w:=X.w) rel
 obtain ⟨z,hd,vs0,r0,dd⟩:=qf I2.hok e
 cases r0
 refine ⟨rs,c,dd,λh' dd' hs=>⟨.ref s.heap.objs.size,_,?_,rfl,q2⟩⟩
 have hz:(ig [] kvs).length<=sizeLine:=by
   have h1:=fT kvs []
   rw [List.length_nil] at h1
   rw [sizeLine_eq]; omega
 have he:∃ q,h'.get? s.heap.objs.size=some q:=let ⟨q,_,_,hq,_⟩:=dd'; ⟨q,hq⟩
 exact dY I2 (by rw [e]; exact True.intro) hs he (mx hz hd (rk.merge .nil) dd')
structure M2 (X:Cx) (o:Expr) (m:Str) (apos:Pos) (e f:Expr) (cpos:Pos):Prop where
 base:attributeBase o m X.env (eval o X.env)=eval o X.env
 few:((backTo cpos (starEach [e,f] X.env)).all (λx=>!x.1) && (backToKw cpos (keywordEach [] X.env)).all (λx=>x.1.isSome)
   && decide (([e,f]:List Expr).length + ([]:List Keyword).length + (if ([]:List Keyword).isEmpty then 0 else 1) < 30))=true
 line:(apos.endLine == cpos.line)=true
 trees:backTo cpos (starEach [e,f] X.env)=[(false,eval e X.env),(false,eval f X.env)]
noncomputable def IsD (H:Hp) (a:Addr):Prop:=∃ kvs,Rd H a (.dK kvs)
theorem y0 {X:Cx} {pins:List (Addr × Obj)} {σ:St} {H:Hp} {s:Shared} {a:Addr} (I:Inv X pins σ H s) (d:IsD H a) :
   s.TypeIs (.ref a) "dict" /\ (∀ b,Value.ref a=.ref b->∃ ob,s.heap.get? b=some ob/\ob.dict=none)/\(a == sysModules)=false:=by
 obtain ⟨kvs,e⟩:=d
 obtain ⟨_,hd,vs,_,dd⟩:=mE I.hok e
 refine ⟨dd.typeIs,λb q=>?_,hd⟩
 cases q
 obtain ⟨ob,_,_,h1,h2,_⟩:=dd
 exact ⟨ob,h1,h2.2.1⟩
section
variable {X:Cx} {pins:List (Addr × Obj)} {σ:St} {H:Hp} {s:Shared} {a:Addr} {y d:V} {u r:Value} {o:Option V} {A:Around} {E:Value->Shared->Prop}
theorem yQ {Q:Value->Shared->Prop} (hu:A.units + 1 < cLine) (I:Inv X pins σ H s) (g:tu H a y o) (ry:RelV y u) (rd:RelV d r) (h:∀ w' s',Inv X pins σ H s'->RelV (o.getD d) w'->Q w' s') :
   wpAny (model X.prog X.w) A (call (.builtin "dict.get") [.ref a,u,r]) Q E s:=by
 obtain ⟨kvs,k,e,ey,l⟩:=g
 subst ey
 obtain ⟨z,hd,vs,rel,dd⟩:=mE I.hok e
 refine call_meetsIn PySem.F.slot_dict_get dd.typeIs PySem.F.entry_dict_get (PySem.F.args_dict_get_3 _ _ _) (meets_dict_get_default (a5 X.prog X.w) a (qF ry) hd r) ⟨_,dd.mapOf,h _ _ (I.tok _) ?_⟩
 rw [l]
 exact (rel.val k).getD rd
end
noncomputable def yt (td ty tx:TE):TE:=λσ H Q=>td σ H λx H1=>∃ a,x=.ref a/\IsD H1 a/\ty σ H1 λy H2=>tx σ H2 λz H3=>∃ o,tu H3 a y o/\Q (o.getD z) H3
section
variable {X:Cx} {o e f:Expr} {apos cpos:Pos} {td ty tx:TE}
theorem u7 (hu:X.A.units + 1 < cLine) (ho:PE X o td) (he:PE X e ty) (hf:PE X f tx) (m:M2 X o "get" apos e f cpos):PE X (.Call (.Attribute o "get" apos) [e,f] [] cpos) (yt td ty tx):=by
 intro pins s σ H Q I h
 refine wpAny_Call_method m.base m.few m.line PySem.F.plainAttrs_dict PySem.F.slot_dict_get PySem.F.type_dict_get (thn (ho pins s σ H _ I h) λu s1 ⟨x,H1,I1,rx,a,ex,d,q1⟩=>?_)
 subst ex
 obtain rfl:u=Value.ref a:=rx
 obtain ⟨t1,t2,_⟩:=y0 I1 d
 refine ⟨t1,t2,?_⟩
 rw [m.trees]
 refine Calls.callWith_builtin rfl (Calls.evalArgs_plain (Calls.spliced_cons (thn (he pins s1 σ H1 _ I1 q1) λiv s2 ⟨y,H2,I2,ry,q2⟩=>
   Calls.spliced_cons (thn (hf pins s2 σ H2 _ I2 q2) λfv s3 ⟨z,H3,I3,rz,ov,g,q3⟩=>Calls.spliced_nil ?_))))
 exact yQ hu I3 g ry rz λw' s4 I4 rw'=>⟨_,H3,I4,rw',q3⟩
end
end L2
namespace L2
open PySem PySem.Spec PyProof.Rows PySem.SeqAt
section
variable {P:Program} {w:World} {A:Around} {E:Value->Shared->Prop} {s:Shared}
noncomputable def HK (P:Program) (w:World) (A:Around) (h:Heap) (v:Value) (x:Int) (d:Nat):Prop:=
 ∀ (s:Shared) (E:Value->Shared->Prop) (Q:Int->Shared->Prop),s.heap=h->Q x { s with toks:=s.toks + d }->wpAny (model P w) A (pyHash v) Q E s
theorem rT {a:Addr} {u v:Value} {x y:Int} {m n:Nat} {Q:Int->Shared->Prop} (hu:A.units < cLine) (hk:IsTup s.heap a #[u,v]) (h1:∀ B,B.units<=A.units + 1->HK P w B s.heap u x m) (h2:∀ B,B.units<=A.units + 1->HK P w B s.heap v y n)
   (h:Q (reduceHash (Builtin.Tuple.tupleHashOf [x,y])) { s with toks:=s.toks + (m + n + 1) }):wpAny (model P w) A (pyHash (.ref a)) Q E s:=by
 obtain ⟨o,ho,hc,k,hd⟩:=hk
 have hT:s.TypeIs (.ref a) "tuple":=⟨o,ho,hc⟩
 unfold pyHash
 refine wpAny_bind (wpAny_cRoomFor_or (.inr hu) ?_)
 refine wpAny_bind (wpAny_specialOf hT F.slot_tuple_hash.lookup ?_)
 show wpAny _ _ (if (some (Value.builtin "tuple.__hash__") == some Value.none)=true then _ else _) Q E s
 rw [if_neg (by rw [beq_builtin_none]; exact Bool.false_ne_true)]
 refine wpAny_bind (wpAny_specialOf hT F.slot_tuple_hash.lookup ?_)
 show wpAny _ _ (callSpecialIfBoundUnlessNone? (.ref a) "__hash__" _ >>= _) Q E s
 refine wpAny_bind (wpAny_callSpecialIfBoundUnlessNone?_slot hT F.slot_tuple_hash (wpAny_call_entry F.slot_tuple_hash hT F.entry_tuple_hash ?_ (F.args_tuple_hash_1 _)))
 show wpAny _ _ (Builtin.Tuple.tupleItemsOf (.ref a) >>= _) _ _ s
 refine wpAny_bind (wpAny_tupleItemsOf ho hd ?_)
 refine wpAny_bind ?_
 rw [<- Array.forIn_toList]
 refine wpAny_forIn_list _
   (λrest (b:Array Int) s'=>(rest=[u,v]/\b=#[]/\s'=s)\/(rest=[v]/\b=#[x]/\s'={ s with toks:=s.toks + m })\/(rest=[]/\b=#[x,y]/\s'={ s with toks:=s.toks + (m + n) }))
   _ ?_ ?_ _ _ (.inl ⟨rfl,rfl,rfl⟩)
 · rintro z rest b s' (⟨e,rfl,rfl⟩ | ⟨e,rfl,rfl⟩ | ⟨e,_⟩)
   · cases e
     refine wpAny_bind (h1 _ ?_ _ _ _ rfl ?_)
     · exact Nat.le_refl _
     · exact wpAny_pure (.inr (.inl ⟨rfl,rfl,rfl⟩))
   · cases e
     refine wpAny_bind (h2 _ ?_ _ _ _ rfl ?_)
     · exact Nat.le_refl _
     · exact wpAny_pure (.inr (.inr ⟨rfl,rfl,by simp [Nat.add_assoc]⟩))
   · cases e
 · rintro b s' (⟨e,_⟩ | ⟨e,_⟩ | ⟨_,rfl,rfl⟩)
   · cases e
   · cases e
   show wpAny _ _ (retInt (Builtin.Tuple.tupleHashOf [x,y])) _ _ _
   refine wpAny_ret_mkInt ?_
   show wpAny _ _ (if (decide (-(2:Int) ^ 63<=Builtin.Tuple.tupleHashOf [x,y]) && decide (Builtin.Tuple.tupleHashOf [x,y] < 2 ^ 63))=true then _ else _) Q E _
   unfold reduceHash at h
   by_cases hr:(decide (-(2:Int) ^ 63<=Builtin.Tuple.tupleHashOf [x,y]) && decide (Builtin.Tuple.tupleHashOf [x,y] < 2 ^ 63))=true
   · rw [if_pos hr]
     rw [if_pos hr] at h
     exact wpAny_pure (by simpa [Nat.add_assoc] using h)
   · rw [if_neg hr]
     rw [if_neg hr] at h
     exact wpAny_bind (wpAny_rule (wpAny_pure (by simpa [Nat.add_assoc] using h)))
theorem pg {a:Addr} {u v:Value} {n:Nat} {Q:Bool->Shared->Prop} (hk:IsTup s.heap a #[u,v]) (h1:∀ A E Q,Q true s->wpAny (model P w) A (eqIsQuiet n u) Q E s) (h2:∀ A E Q,Q true s->wpAny (model P w) A (eqIsQuiet n v) Q E s) (h:Q true s) :
   wpAny (model P w) A (eqIsQuiet (n + 1) (.ref a)) Q E s:=by
 obtain ⟨o,ho,hc,k,hd⟩:=hk
 have hT:s.TypeIs (.ref a) "tuple":=⟨o,ho,hc⟩
 unfold eqIsQuiet
 refine wpAny_bind (wpAny_specialOf hT F.slot_tuple_eq.lookup ?_)
 show wpAny _ _ (isInstance (.ref a) (.type "tuple") >>= _) _ _ s
 refine wpAny_bind (wpAny_isInstance hT isSubtype_tuple_tuple ?_)
 simp only [Bool.not_true,Bool.false_eq_true,if_false]
 refine wpAny_bind (wpAny_seqItems ho hd ?_)
 refine wpAny_bind ?_
 show wpAny _ _ (forIn #[u,v] _ _) _ _ s
 rw [<- Array.forIn_toList]
 refine wpAny_forIn_list _ (λrest r s'=>r.1=none/\s'=s/\∀ z ∈ rest,z=u\/z=v) _ ?_ ?_ _ _ ⟨rfl,rfl,λz hz=>by simpa using hz⟩
 · rintro z rest r s' ⟨hr,rfl,hall⟩
   have hz:∀ A E Q,Q true s'->wpAny (model P w) A (eqIsQuiet n z) Q E s':=by
     rcases hall z List.mem_cons_self with rfl | rfl
     · exact h1
     · exact h2
   refine wpAny_bind (hz _ _ _ ?_)
   simp only [Bool.not_true,Bool.false_eq_true,if_false]
   exact wpAny_pure ⟨rfl,rfl,λx hx=>hall x (List.mem_cons_of_mem _ hx)⟩
 · rintro ⟨r1,r2⟩ s' ⟨hr,rfl,_⟩
   simp only at hr
   subst hr
   exact wpAny_pure h
theorem vk {a b:Addr} {u v u' v':Value} {p q:Bool} (hu:A.units < cLine) (ha:IsTup s.heap a #[u,v]) (hb:IsTup s.heap b #[u',v']) (h1:EqAt A.in1 s u u' p) (h2:EqAt A.in1 s v v' q) (hs:a=b->(p && q)=true):EqAt A s (.ref a) (.ref b) (p && q):=by
 by_cases z:a=b
 · subst z
   rw [hs rfl]
   exact .same _
 · have:=EqAt.of_refs z (RcAt.tuples (e:=λj=>if j=0 then p else q) ha hb hu λj j1 j2=>by
     match j,j1 with
     | 0,_=>exact h1
     | 1,_=>exact h2)
   have e:((List.range (min (#[u,v]:Array Value).size (#[u',v']:Array Value).size)).all (λj=>if j=0 then p else q) && (#[u,v]:Array Value).size == (#[u',v']:Array Value).size)=(p && q):=by
     show (p && (q && true) && true)=(p && q)
     cases p <;> cases q <;> rfl
   rw [e] at this
   exact this
end
theorem i3 {h:Heap} {a:Addr} {x y:Array Value} (p:IsTup h a x) (q:IsTup h a y):x=y:=by
 obtain ⟨o,ho,_,n,hd⟩:=p
 obtain ⟨o',ho',_,n',hd'⟩:=q
 rw [ho] at ho'; cases ho'
 rw [hd] at hd'; cases hd'; rfl
theorem qY {h h':Heap} {a d:Addr} {x:Array Value} {o:Obj} {es ep} (p:IsTup h a x) (ho:h.get? d=some o) (hd:o.data=.dict es ep) (hs:Heap.SameBut d h h'):IsTup h' a x:=by
 obtain ⟨o',ho',hc,n,hd'⟩:=p
 have hne:a ≠ d:=by
   rintro rfl
   rw [ho] at ho'; cases ho'
   rw [hd] at hd'; exact nomatch hd'
 exact ⟨o',(hs.2 a hne).trans ho',hc,n,hd'⟩
structure IK (P:Program) (w:World) (K:Type) [DecidableEq K] where
 is:Heap->K->Value->Prop
 hash:K->Int
 draws:K->Nat
 dep:Nat
 inj:∀ {h:Heap} {v:Value} {x y:K},is h x v->is h y v->x=y
 keeps:∀ {h h':Heap} {k:K} {v:Value} {d:Addr} {o:Obj} {es ep},is h k v->h.get? d=some o->o.data=.dict es ep->Heap.SameBut d h h'->is h' k v
 hk:∀ {A:Around} {h:Heap} {k:K} {v:Value},is h k v->A.units + dep < cLine->HK P w A h v (hash k) (draws k)
 eq:∀ {A:Around} {s:Shared} {x y:K} {u v:Value},is s.heap x u->is s.heap y v->A.units + dep < cLine->EqAt A s u v (decide (x=y))
 quiet:∀ {s:Shared} {k:K} {v:Value} {n:Nat},dep < n->is s.heap k v->∀ A E Q,Q true s->wpAny (model P w) A (eqIsQuiet n v) Q E s
section
variable {P:Program} {w:World}
noncomputable def Bj:IK P w Int where
 is:=λ_ k v=>∃ t,v=.int k t
 hash:=hashInt
 draws:=λ_=>1
 dep:=0
 inj:=λ⟨_,e⟩ ⟨_,g⟩=>by rw [e] at g; cases g; rfl
 keeps:=λh _ _ _=>h
 hk:=λ⟨_,e⟩ _ s E Q _ hq=>by rw [e]; exact wpAny_pyHash_int hq
 eq:=λ{A s x y u v} ⟨_,e⟩ ⟨_,g⟩ _=>by
   rw [e,g]
   have:decide (x=y)=(x == y):=by by_cases h:x=y <;> simp [h]
   rw [this]
   exact .int_int _ _ _ _
 quiet:=λ{s k v n} hn ⟨_,e⟩ A E Q q=>by
   obtain ⟨m,rfl⟩:∃ m,n=m + 1:=⟨n - 1,by omega⟩
   rw [e]
   exact wpAny_pure q
variable {K K':Type} [DecidableEq K] [DecidableEq K']
noncomputable def x9 (a:IK P w K) (b:IK P w K'):IK P w (K × K') where
 is:=λh k v=>∃ p u u',v=.ref p/\IsTup h p #[u,u']/\a.is h k.1 u/\b.is h k.2 u'
 hash:=λk=>reduceHash (Builtin.Tuple.tupleHashOf [a.hash k.1,b.hash k.2])
 draws:=λk=>a.draws k.1 + b.draws k.2 + 1
 dep:=max a.dep b.dep + 1
 inj:=λ{h v x y} ⟨p,u,u',e,t,h1,h2⟩ ⟨p',v1,v2,e',t',g1,g2⟩=>by
   rw [e] at e'
   cases e'
   have q:=i3 t t'
   simp only [Array.mk.injEq,List.cons.injEq,and_true] at q
   obtain ⟨rfl,rfl⟩:=q
   exact Prod.ext (a.inj h1 g1) (b.inj h2 g2)
 keeps:=λ⟨p,u,u',e,t,h1,h2⟩ ho hd hs=>⟨p,u,u',e,qY t ho hd hs,a.keeps h1 ho hd hs,b.keeps h2 ho hd hs⟩
 hk:=λ{A h k v} ⟨p,u,u',e,t,h1,h2⟩ hu s E Q eh hq=>by
   rw [e]
   subst eh
   exact rT (by omega) t (λB hB=>a.hk h1 (by omega)) (λB hB=>b.hk h2 (by omega)) hq
 eq:=λ{A s x y u v} hx hy hu=>by
   obtain ⟨p,u1,u2,e,t,h1,h2⟩:=id hx
   obtain ⟨p',v1,v2,e',t',g1,g2⟩:=id hy
   have ed:decide (x=y)=(decide (x.1=y.1) && decide (x.2=y.2)):=by
     obtain ⟨x1,x2⟩:=x
     obtain ⟨y1,y2⟩:=y
     rw [Bool.eq_iff_iff]
     simp
   rw [e,e',ed]
   refine vk (by omega) t t' (a.eq h1 g1 (show A.units + 1 + a.dep < cLine by omega)) (b.eq h2 g2 (show A.units + 1 + b.dep < cLine by omega)) λz=>?_
   subst z
   have q:=i3 t t'
   simp only [Array.mk.injEq,List.cons.injEq,and_true] at q
   obtain ⟨rfl,rfl⟩:=q
   rw [a.inj h1 g1,b.inj h2 g2]
   simp
 quiet:=λ{s k v n} hn ⟨p,u,u',e,t,h1,h2⟩ A E Q q=>by
   obtain ⟨m,rfl⟩:∃ m,n=m + 1:=⟨n - 1,by omega⟩
   rw [e]
   exact pg t (a.quiet (by omega) h1) (b.quiet (by omega) h2) q
noncomputable def kindOf (a:IK P w K) (hd:a.dep<=7):HeapKind P w K where
 is:=λh k p=>a.is h k (.ref p)
 hash:=a.hash
 draws:=a.draws
 room:=λA=>A.units + 8 < cLine
 inj:=a.inj
 keeps:=a.keeps
 pyHash:=λ{A E s k p Q} hu hk h=>a.hk hk (by omega) s E Q rfl h
 eqBool:=λ{A E s x y p p' Q} hu hx hy h=>a.eq hx hy (by omega) _ _ _ _ h
 quiet:=λ{A E s k p Q} hk h=>a.quiet (by omega) hk A E Q h
end
inductive cZ {K:Type} (R:K->Value->Prop):List K->List Value->Prop where
 | nil:cZ R [] []
 | cons {x:K} {v:Value} {xs:List K} {vs:List Value} (h:R x v) (r:cZ R xs vs):cZ R (x :: xs) (v :: vs)
section
variable {K:Type}
theorem cZ.mono {R S:K->Value->Prop} (f:∀ x v,R x v->S x v):∀ {xs:List K} {vs:List Value},cZ R xs vs->cZ S xs vs
 | _,_,.nil=>.nil
 | _,_,.cons h r=>.cons (f _ _ h) (r.mono f)
theorem cZ.inj {R:K->Value->Prop} (f:∀ x y v,R x v->R y v->x=y):∀ {xs ys:List K} {vs:List Value},cZ R xs vs->cZ R ys vs->xs=ys
 | _,_,_,.nil,.nil=>rfl
 | _,_,_,.cons h r,.cons g q=>by rw [f _ _ _ h g,r.inj f q]
theorem cZ.length {R:K->Value->Prop}:∀ {xs:List K} {vs:List Value},cZ R xs vs->xs.length=vs.length
 | _,_,.nil=>rfl
 | _,_,.cons _ r=>congrArg (· + 1) r.length
theorem cZ.at {R:K->Value->Prop}:∀ {xs:List K} {vs:List Value},cZ R xs vs->∀ (j:Nat) (h1:j < xs.length) (h2:j < vs.length),R xs[j] vs[j]
 | _,_,.nil,_,h1,_=>absurd h1 (Nat.not_lt_zero _)
 | _,_,.cons h _,0,_,_=>h
 | _,_,.cons _ r,j + 1,h1,h2=>r.at j (Nat.lt_of_succ_lt_succ h1) (Nat.lt_of_succ_lt_succ h2)
theorem cZ.mem {R:K->Value->Prop}:∀ {xs:List K} {vs:List Value},cZ R xs vs->∀ v ∈ vs,∃ x,R x v
 | _,_,.nil,_,h=>nomatch h
 | _,_,.cons h r,v,hv=>(List.mem_cons.mp hv).elim (λz=>⟨_,z ▸ h⟩) (r.mem v)
theorem all_eq [DecidableEq K] {xs ys:List K}:((List.range (min xs.length ys.length)).all (λj=>decide (xs[j]?=ys[j]?)) && xs.length == ys.length)=decide (xs=ys):=by
 rw [Bool.eq_iff_iff]
 simp only [Bool.and_eq_true,List.all_eq_true,List.mem_range,decide_eq_true_eq,beq_iff_eq]
 constructor
 · rintro ⟨h1,h2⟩
   refine List.ext_getElem? λj=>?_
   by_cases hj:j < xs.length
   · exact h1 j (by omega)
   · rw [List.getElem?_eq_none (by omega),List.getElem?_eq_none (by omega)]
 · rintro rfl
   exact ⟨λ_ _=>rfl,rfl⟩
end
section
variable {P:Program} {w:World} {K:Type} [DecidableEq K]
theorem sj {a:IK P w K} {A:Around} {E:Value->Shared->Prop} {s:Shared} {p:Addr} {its:List Value} {xs:List K} {Q:Int->Shared->Prop} (hu:A.units + (a.dep + 1) < cLine) (hk:IsTup s.heap p its.toArray) (hs:cZ (a.is s.heap) xs its)
   (h:Q (reduceHash (Builtin.Tuple.tupleHashOf (xs.map a.hash))) { s with toks:=s.toks + ((xs.map a.draws).sum + 1) }):wpAny (model P w) A (pyHash (.ref p)) Q E s:=by
 obtain ⟨o,ho,hc,k,hd⟩:=hk
 have hT:s.TypeIs (.ref p) "tuple":=⟨o,ho,hc⟩
 unfold pyHash
 refine wpAny_bind (wpAny_cRoomFor_or (.inr (by omega)) ?_)
 refine wpAny_bind (wpAny_specialOf hT F.slot_tuple_hash.lookup ?_)
 show wpAny _ _ (if (some (Value.builtin "tuple.__hash__") == some Value.none)=true then _ else _) Q E s
 rw [if_neg (by rw [beq_builtin_none]; exact Bool.false_ne_true)]
 refine wpAny_bind (wpAny_specialOf hT F.slot_tuple_hash.lookup ?_)
 show wpAny _ _ (callSpecialIfBoundUnlessNone? (.ref p) "__hash__" _ >>= _) Q E s
 refine wpAny_bind (wpAny_callSpecialIfBoundUnlessNone?_slot hT F.slot_tuple_hash (wpAny_call_entry F.slot_tuple_hash hT F.entry_tuple_hash ?_ (F.args_tuple_hash_1 _)))
 show wpAny _ _ (Builtin.Tuple.tupleItemsOf (.ref p) >>= _) _ _ s
 refine wpAny_bind (wpAny_tupleItemsOf ho hd ?_)
 refine wpAny_bind ?_
 rw [<- Array.forIn_toList]
 refine wpAny_forIn_list _
   (λrest (b:Array Int) s'=>∃ (ks:List K) (n:Nat),cZ (a.is s.heap) ks rest/\b.toList++ks.map a.hash=xs.map a.hash/\n + (ks.map a.draws).sum=(xs.map a.draws).sum/\s'={ s with toks:=s.toks + n })
   _ ?_ ?_ _ _ ⟨xs,0,hs,rfl,by omega,rfl⟩
 · rintro z rest b s' ⟨ks,n,hr,e1,e2,rfl⟩
   cases hr with
   | @cons x _ ks' _ hx hr=>
     refine wpAny_bind (a.hk hx (show A.units + 1 + a.dep < cLine by omega) _ _ _ rfl ?_)
     refine wpAny_pure ⟨ks',n + a.draws x,hr,?_,?_,by simp [Nat.add_assoc]⟩
     · simpa using e1
     · rw [List.map_cons,List.sum_cons] at e2
       omega
 · rintro b s' ⟨ks,n,hr,e1,e2,rfl⟩
   cases hr
   rw [List.map_nil,List.append_nil] at e1
   rw [List.map_nil,List.sum_nil,Nat.add_zero] at e2
   subst e2
   show wpAny _ _ (retInt (Builtin.Tuple.tupleHashOf b.toList)) _ _ _
   rw [e1]
   refine wpAny_ret_mkInt ?_
   show wpAny _ _ (if (decide (-(2:Int) ^ 63<=Builtin.Tuple.tupleHashOf (xs.map a.hash)) && decide (Builtin.Tuple.tupleHashOf (xs.map a.hash) < 2 ^ 63))=true then _ else _) Q E _
   unfold reduceHash at h
   by_cases hr:(decide (-(2:Int) ^ 63<=Builtin.Tuple.tupleHashOf (xs.map a.hash)) && decide (Builtin.Tuple.tupleHashOf (xs.map a.hash) < 2 ^ 63))=true
   · rw [if_pos hr]
     rw [if_pos hr] at h
     exact wpAny_pure (by simpa [Nat.add_assoc] using h)
   · rw [if_neg hr]
     rw [if_neg hr] at h
     exact wpAny_bind (wpAny_rule (wpAny_pure (by simpa [Nat.add_assoc] using h)))
theorem pN {A:Around} {E:Value->Shared->Prop} {s:Shared} {p:Addr} {its:List Value} {n:Nat} {Q:Bool->Shared->Prop} (hk:IsTup s.heap p its.toArray) (h1:∀ z ∈ its,∀ A E Q,Q true s->wpAny (model P w) A (eqIsQuiet n z) Q E s) (h:Q true s) :
   wpAny (model P w) A (eqIsQuiet (n + 1) (.ref p)) Q E s:=by
 obtain ⟨o,ho,hc,k,hd⟩:=hk
 have hT:s.TypeIs (.ref p) "tuple":=⟨o,ho,hc⟩
 unfold eqIsQuiet
 refine wpAny_bind (wpAny_specialOf hT F.slot_tuple_eq.lookup ?_)
 show wpAny _ _ (isInstance (.ref p) (.type "tuple") >>= _) _ _ s
 refine wpAny_bind (wpAny_isInstance hT isSubtype_tuple_tuple ?_)
 simp only [Bool.not_true,Bool.false_eq_true,if_false]
 refine wpAny_bind (wpAny_seqItems ho hd ?_)
 refine wpAny_bind ?_
 show wpAny _ _ (forIn its.toArray _ _) _ _ s
 rw [<- Array.forIn_toList]
 refine wpAny_forIn_list _ (λrest r s'=>r.1=none/\s'=s/\∀ z ∈ rest,z ∈ its) _ ?_ ?_ _ _ ⟨rfl,rfl,λz hz=>by simpa using hz⟩
 · rintro z rest r s' ⟨hr,rfl,hall⟩
   refine wpAny_bind (h1 z (hall z List.mem_cons_self) _ _ _ ?_)
   simp only [Bool.not_true,Bool.false_eq_true,if_false]
   exact wpAny_pure ⟨rfl,rfl,λx hx=>hall x (List.mem_cons_of_mem _ hx)⟩
 · rintro ⟨r1,r2⟩ s' ⟨hr,rfl,_⟩
   simp only at hr
   subst hr
   exact wpAny_pure h
noncomputable def zm (a:IK P w K):IK P w (List K) where
 is:=λh ks v=>∃ p its,v=.ref p/\IsTup h p its.toArray/\cZ (a.is h) ks its
 hash:=λks=>reduceHash (Builtin.Tuple.tupleHashOf (ks.map a.hash))
 draws:=λks=>(ks.map a.draws).sum + 1
 dep:=a.dep + 1
 inj:=λ{h v x y} ⟨p,its,e,t,r⟩ ⟨p',its',e',t',r'⟩=>by
   rw [e] at e'
   cases e'
   have q:its=its':=congrArg Array.toList (i3 t t')
   subst q
   exact cZ.inj (R:=a.is h) (λ_ _ _ z1 z2=>a.inj z1 z2) r r'
 keeps:=λ⟨p,its,e,t,r⟩ ho hd hs=>⟨p,its,e,qY t ho hd hs,r.mono λ_ _ z=>a.keeps z ho hd hs⟩
 hk:=λ{A h k v} ⟨p,its,e,t,r⟩ hu s E Q eh hq=>by
   rw [e]
   subst eh
   exact sj hu t r hq
 eq:=λ{A s x y u v} hx hy hu=>by
   obtain ⟨p,its,e,t,r⟩:=id hx
   obtain ⟨p',its',e',t',r'⟩:=id hy
   rw [e,e']
   by_cases z:p=p'
   · subst z
     have q:its=its':=congrArg Array.toList (i3 t t')
     subst q
     rw [decide_eq_true (cZ.inj (R:=a.is s.heap) (λ_ _ _ z1 z2=>a.inj z1 z2) r r')]
     exact .same _
   · have:=EqAt.of_refs z (RcAt.tuples (e:=λj=>decide (x[j]?=y[j]?)) t t' (show A.units < cLine by omega) λj j1 j2=>by
       have l1:j < x.length:=by rw [r.length]; simpa using j1
       have l2:j < y.length:=by rw [r'.length]; simpa using j2
       rw [List.getElem?_eq_getElem l1,List.getElem?_eq_getElem l2]
       have:=a.eq (A:=A.in1) (r.at j l1 (by simpa using j1)) (r'.at j l2 (by simpa using j2)) (show A.units + 1 + a.dep < cLine by omega)
       simpa using this)
     have el:(its.toArray.size,its'.toArray.size)=(x.length,y.length):=by rw [r.length,r'.length]; simp
     have e1:its.toArray.size=x.length:=congrArg Prod.fst el
     have e2:its'.toArray.size=y.length:=congrArg Prod.snd el
     rw [e1,e2,all_eq] at this
     exact this
 quiet:=λ{s k v n} hn ⟨p,its,e,t,r⟩ A E Q q=>by
   obtain ⟨m,rfl⟩:∃ m,n=m + 1:=⟨n - 1,by omega⟩
   rw [e]
   refine pN t (λz hz=>?_) q
   obtain ⟨x,hx⟩:=r.mem z hz
   exact a.quiet (by omega) hx
end
end L2
namespace Ev
open PySem PySem.Spec PyProof.Rows L2
structure KD (K:Type) [DecidableEq K] where
 ik:∀ (P:Program) (w:World),IK P w K
 dep:Nat
 dep_ok:∀ P w,(ik P w).dep=dep
 toD:K->D
 den:∀ {X:Cx} {pins:List (Addr × Obj)} {σ:L2.St} {H:Hp} {s:Shared} {v:V} {u:Value} {k:K},Inv X pins σ H s->Den X.K H v (toD k)->RelV v u->(ik X.prog X.w).is s.heap k u
noncomputable def A1:KD Int where
 ik:=λ_ _=>Bj
 dep:=0
 dep_ok:=λ_ _=>rfl
 toD:=.int
 den:=λ_ d r=>by cases d; exact r
section
variable {K K':Type} [DecidableEq K] [DecidableEq K']
noncomputable def ze (a:KD K) (b:KD K'):KD (K × K') where
 ik:=λP w=>x9 (a.ik P w) (b.ik P w)
 dep:=max a.dep b.dep + 1
 dep_ok:=λP w=>by show max (a.ik P w).dep (b.ik P w).dep + 1=_; rw [a.dep_ok,b.dep_ok]
 toD:=λk=>.tup [a.toD k.1,b.toD k.2]
 den:=λ{X pins σ H s v u k} I d r=>by
   cases d with
   | tup h q=>
     cases (show u=Value.ref _ from r)
     obtain ⟨its,rv,t,_⟩:=I.tuple h
     cases q with
     | cons d1 q=>cases q with
       | cons d2 q=>cases q with
         | nil=>cases rv with
           | cons r1 rv=>cases rv with
             | cons r2 rv=>cases rv with
               | nil=>exact ⟨_,_,_,rfl,t,a.den I d1 r1,b.den I d2 r2⟩
theorem nk (a:KD K) {X:Cx} {pins:List (Addr × Obj)} {σ:L2.St} {H:Hp} {s:Shared} (I:Inv X pins σ H s):∀ {ks:List K} {vs:List V} {us:List Value},au X.K H vs (ks.map a.toD)->Vals vs us->cZ ((a.ik X.prog X.w).is s.heap) ks us
 | [],_,_,.nil,.nil=>.nil
 | _ :: _,_,_,.cons d r,.cons q t=>.cons (a.den I d q) (nk a I r t)
noncomputable def zu (a:KD K):KD (List K) where
 ik:=λP w=>zm (a.ik P w)
 dep:=a.dep + 1
 dep_ok:=λP w=>by show (a.ik P w).dep + 1=_; rw [a.dep_ok]
 toD:=λks=>.tup (ks.map a.toD)
 den:=λ{X pins σ H s v u k} I d r=>by
   generalize e:D.tup (k.map a.toD)=x at d
   cases d with
   | tup h q=>
     cases e
     cases (show u=Value.ref _ from r)
     obtain ⟨its,rv,t,_⟩:=I.tuple h
     exact ⟨_,its,rfl,t,nk a I q rv⟩
   | _=>cases e
noncomputable abbrev NEs (K:Type):=List (K × Addr × Value)
noncomputable def kd (a:KD K) (hd:a.dep<=7) (P:Program) (w:World):HeapKind P w K:=kindOf (a.ik P w) (by rw [a.dep_ok]; exact hd)
variable {a:KD K} {hd:a.dep<=7}
noncomputable def dNk (a:KD K) (hd:a.dep<=7) (P:Program) (w:World) (p:Addr) (xs:NEs K):HO:=.ext λh=>(p == sysModules)=false/\∃ o es ep,h.get? p=some o/\o.ExactDict/\o.data=.dict es ep/\es.toList=xs.map (entryOfKey (kd a hd P w))/\(xs.map (·.1)).Nodup
structure fU (a:KD K) (hd:a.dep<=7) (P:Program) (w:World) (F:PySem.W.Frag) (H:Hp) (d:Addr) (xs:NEs K):Prop where
 at_:H d=some (dNk a hd P w d xs)
 key:∀ x ∈ xs,Den F H (.ref x.2.1) (a.toD x.1)
variable {X:Cx} {pins:List (Addr × Obj)} {σ:L2.St} {H:Hp} {s:Shared} {d b:Addr} {xs:NEs K} {k:K} {A:Around} {E:Value->Shared->Prop}
theorem key_is (I:Inv X pins σ H s) (q:Den X.K H (.ref b) (a.toD k)):(kd a hd X.prog X.w).is s.heap k b:=a.den I q rfl
theorem tO (I:Inv X pins σ H s) (D:fU a hd X.prog X.w X.K H d xs):(d == sysModules)=false/\s.heap.DictOfH (kd a hd X.prog X.w) d xs:=by
 obtain ⟨⟨h0,o,es,ep,h1,h2,h3,h4,h5⟩,_⟩:=(show bf X.prog X.w H s.heap d (dNk a hd X.prog X.w d xs) from I.hok d _ D.at_)
 exact ⟨h0,o,es,ep,h1,h2,h3,h4,λx hx=>key_is I (D.key x hx),h5⟩
noncomputable def Ax (a:KD K) (hd:a.dep<=7) (P:Program) (w:World) (F:PySem.W.Frag) (td ty:TE):TE:=λσ H Q=>td σ H λx H1=>ty σ H1 λy H2=>∃ d b k xs p v,x=.ref d/\y=.ref b/\fU a hd P w F H2 d xs/\Den F H2 (.ref b) (a.toD k)/\atKey xs k=some p/\RelV v p.2/\Q v H2
noncomputable def Bu (a:KD K) (hd:a.dep<=7) (P:Program) (w:World) (F:PySem.W.Frag) (td ty tv:TE):TS:=λD σ H=>tv σ H λv H1=>td σ H1 λx H2=>ty σ H2 λy H3=>∃ d b k xs,x=.ref d/\y=.ref b/\fU a hd P w F H3 d xs/\Den F H3 (.ref b) (a.toD k)/\xs.length<=sizeLine/\∀ u,RelV v u->D.nx σ (upd H3 d (dNk a hd P w d (storedH xs k b u)))
noncomputable def AV (a:KD K) (hd:a.dep<=7) (P:Program) (w:World):TE:=λ_ H Q=>∀ p,H p=none->Q (.ref p) (upd H p (dNk a hd P w p []))
variable {o i e value:Expr} {pos pos':Pos} {td ty tv:TE}
theorem gY (hu:X.A.units + 16 < cLine) (ho:PE X o td) (hi:PE X i ty) (hs:ke i):PE X (.Subscript o i pos) (Ax a hd X.prog X.w X.K td ty):=by
 intro pins s σ H Q I h
 refine mv PySem.F.slot_dict_getitem.lookup hs (thn (ho pins s σ H _ I h) λu s1 ⟨x,H1,I1,rx,q1⟩=>thn (hi pins s1 σ H1 _ I1 q1) λiv s2 ⟨y,H2,I2,ry,d,b,k,xs,p,v,ex,ey,D,g,hp,rv,q2⟩=>?_)
 subst ex ey
 obtain rfl:u=Value.ref d:=rx
 obtain rfl:iv=Value.ref b:=ry
 obtain ⟨_,dd⟩:=tO I2 D
 exact ⟨dd.typeIs,wpAny_getItem_heap (show X.A.units + 1 + 8 < cLine by omega) (key_is I2 g) dd hp ⟨v,H2,I2.tok _,rv,q2⟩⟩
theorem lK (hu:X.A.units + 16 < cLine) (ho:PE X o td) (hi:PE X i ty) (hv:PE X value tv) (hs:swapsWith value (some (.Subscript o i pos')) pos.line X.env=pure false) :
   PS X (.Assign [.Subscript o i pos'] value pos) (Bu a hd X.prog X.w X.K td ty tv):=by
 intro pins s σ H D I h
 refine wpAny_Assign_Subscript (thn (hv pins s σ H _ I h) λr s1 ⟨v,H1,I1,rv,q1⟩=>thn (ho pins s1 σ H1 _ I1 q1) λu s2 ⟨x,H2,I2,rx,q2⟩=>thn (hi pins s2 σ H2 _ I2 q2) λiv s3 ⟨y,H3,I3,ry,d,b,k,xs,ex,ey,D',g,hl,q3⟩=>?_) hs
 subst ex ey
 obtain rfl:u=Value.ref d:=rx
 obtain rfl:iv=Value.ref b:=ry
 obtain ⟨hd',dd⟩:=tO I3 D'
 refine wpAny_setItem_heap (hsz:=hl) (show X.A.units + 1 + 8 < cLine by omega) (key_is I3 g) dd λh' dd' hs=>⟨σ,_,?_,q3 r rv⟩
 obtain ⟨q,es,ep,hq,h2,h3,h4,_,h5⟩:=dd'
 refine dY I3 (by rw [D'.at_]; exact True.intro) hs ⟨q,hq⟩ ⟨⟨hd',q,es,ep,hq,h2,h3,h4,h5⟩,⟨q,hq⟩,λa1 a2 ⟨z0,o,es,ep,z1,z2⟩ hk=>⟨z0,o,es,ep,hk o z1,z2⟩⟩
theorem ly:PE X (.Dict [] [] pos) (AV a hd X.prog X.w):=λpins s σ H Q I h=>
 wpAny_Dict_empty ⟨.ref s.heap.objs.size,_,I.laid (a:=s.heap.objs.size) (o:=dNk a hd X.prog X.w s.heap.objs.size []) (t':=s.toks) (λ_ _ q=>Heap.get?_push_of_some _ q) (Nat.le_refl _)
   ⟨⟨beq_eq_false_iff_ne.mpr (Ne.symm (Nat.ne_of_lt I.big)),_,#[],0,Heap.get?_push_size _ rfl,⟨rfl,rfl,rfl⟩,rfl,rfl,List.nodup_nil⟩,⟨_,Heap.get?_push_size _ rfl⟩,λa1 a2 ⟨z0,o,es,ep,z1,z2⟩ hk=>⟨z0,o,es,ep,hk o z1,z2⟩⟩,rfl,h _ (I.hok.fresh (Nat.le_refl _))⟩
end
end Ev
namespace Hy
open PySem PySem.Spec PyProof.Rows L2
open Ev (D Den au KD NEs dNk fU)
section
variable {K:Type} [DecidableEq K]
inductive EnK (a:KD K) (F:PySem.W.Frag) (G:Hp):NEs K->List (K × D)->Prop where
 | nil:EnK a F G [] []
 | cons {k:K} {b:Addr} {u:Value} {v:V} {x:D} {xs:NEs K} {m:List (K × D)} (hk:Den F G (.ref b) (a.toD k)) (hr:RelV v u) (hv:Den F G v x) (r:EnK a F G xs m):EnK a F G ((k,b,u) :: xs) ((k,x) :: m)
variable {a:KD K} {F:PySem.W.Frag} {G G':Hp}
theorem EnK.mono (e:ah G G'):∀ {xs:NEs K} {m:List (K × D)},EnK a F G xs m->EnK a F G' xs m
 | _,_,.nil=>.nil
 | _,_,.cons h1 h2 h3 r=>.cons (h1.mono e) h2 (h3.mono e) (r.mono e)
theorem EnK.length:∀ {xs:NEs K} {m:List (K × D)},EnK a F G xs m->xs.length=m.length
 | _,_,.nil=>rfl
 | _,_,.cons _ _ _ r=>congrArg (· + 1) r.length
theorem EnK.key:∀ {xs:NEs K} {m:List (K × D)},EnK a F G xs m->∀ x ∈ xs,Den F G (.ref x.2.1) (a.toD x.1)
 | _,_,.nil,_,h=>nomatch h
 | _,_,.cons h _ _ r,x,hx=>(List.mem_cons.mp hx).elim (λz=>z ▸ h) (r.key x)
noncomputable def getM (m:List (K × D)) (k:K):Option D:=(m.find? λx=>decide (x.1=k)).map (·.2)
noncomputable def eO (m:List (K × D)) (k:K) (x:D):List (K × D):=if (getM m k).isSome then m.map λy=>if y.1=k then (y.1,x) else y else m++[(k,x)]
theorem EnK.at:∀ {xs:NEs K} {m:List (K × D)},EnK a F G xs m->∀ k,match getM m k with
   | none=>atKey xs k=none
   | some x=>∃ p v,atKey xs k=some p/\RelV v p.2/\Den F G v x
 | _,_,.nil,_=>rfl
 | _,_,.cons (k:=k') (x:=y) (m:=m) (xs:=xs) h1 h2 h3 r,k=>by
   have ih:=r.at k
   unfold getM atKey at *
   by_cases e:k'=k
   · simp only [List.find?_cons,e,decide_true,Option.map_some]
     exact ⟨_,_,rfl,h2,h3⟩
   · simp only [List.find?_cons,e,decide_false]
     exact ih
theorem EnK.isSome {xs:NEs K} {m:List (K × D)} (h:EnK a F G xs m) (k:K):(atKey xs k).isSome=(getM m k).isSome:=by
 have:=h.at k
 cases e:getM m k with
 | none=>rw [e] at this; simp only at this; rw [this]; rfl
 | some x=>rw [e] at this; obtain ⟨p,v,h1,_⟩:=this; rw [h1]; rfl
theorem EnK.snoc {k:K} {b:Addr} {u:Value} {v:V} {x:D} (h1:Den F G (.ref b) (a.toD k)) (h2:RelV v u) (h3:Den F G v x):∀ {xs:NEs K} {m:List (K × D)},EnK a F G xs m->EnK a F G (xs++[(k,b,u)]) (m++[(k,x)])
 | _,_,.nil=>.cons h1 h2 h3 .nil
 | _,_,.cons g1 g2 g3 r=>.cons g1 g2 g3 (r.snoc h1 h2 h3)
theorem EnK.over {k:K} {u:Value} {v:V} {x:D} (h2:RelV v u) (h3:Den F G v x):∀ {xs:NEs K} {m:List (K × D)},EnK a F G xs m->EnK a F G (xs.map (putAt k u)) (m.map λy=>if y.1=k then (y.1,x) else y)
 | _,_,.nil=>.nil
 | _,_,.cons (k:=k') g1 g2 g3 r=>by
   rw [List.map_cons,List.map_cons]
   unfold putAt
   by_cases e:k'=k
   · simp only [e,if_true]
     rw [e] at g1
     exact .cons g1 h2 h3 (r.over h2 h3)
   · simp only [e,if_false]
     exact .cons g1 g2 g3 (r.over h2 h3)
theorem EnK.put {k:K} {b:Addr} {u:Value} {v:V} {x:D} {xs:NEs K} {m:List (K × D)} (h:EnK a F G xs m) (h1:Den F G (.ref b) (a.toD k)) (h2:RelV v u) (h3:Den F G v x):EnK a F G (storedH xs k b u) (eO m k x):=by
 unfold storedH eO
 rw [h.isSome k]
 split
 · exact h.over h2 h3
 · exact h.snoc h1 h2 h3
noncomputable def exK (a:KD K) (hd:a.dep<=7) (P:Program) (w:World) (m:List (K × D)):Ex where
 p:=λF G o p=>∃ xs,o=dNk a hd P w p xs/\EnK a F G xs m
 mono:=λe ⟨xs,h1,h2⟩=>⟨xs,h1,h2.mono e⟩
 ext:=λ⟨xs,h1,_⟩=>.inl ⟨_,h1⟩
end
end Hy
namespace Hy
open PySem PySem.Spec PyProof.Rows L2
open Ev (D Den au KD NEs dNk fU aj gY ly lK)
section
variable {K:Type} [DecidableEq K] {a:KD K} {hd:a.dep<=7} {X:Cx} {C:Bool} {τ:List Sl} {x:D} {b e ix:Expr} {pos p q:Pos} {k:Nat} {N:Po} {rest:List Stmt} {m:List (K × D)} {key:K}
theorem pJ:PE X (.Dict [] [] pos) (dE X.K C τ (.x (exK a hd X.prog X.w []))):=peW ly λσ H Q ⟨A,H₀,B,S,k⟩=>λp hp=>k (.ref p) _ [p] (aj hp _) (λb hb=>by rw [List.mem_singleton.mp hb]; exact ⟨hp,_,aA⟩) ⟨p,_,rfl,rfl,aA,[],rfl,.nil⟩
theorem Sta.dct {F:PySem.W.Frag} {P:Program} {w:World} {A:Addr->Prop} {H₀ H:Hp} {B:Nat->List Addr} {σ:L2.St} {i:Nat} (S:Sta F A H₀ τ B σ H) (hi:τ[i]?=some (.x (exK a hd P w m))):∃ d xs,(σ[i]?).join=some (.ref d)/\B i=[d]/\H d=some (dNk a hd P w d xs)/\EnK a F (Hy.hd H (own A B)) xs m:=by
 obtain ⟨d,o,h1,h2,h3,xs,rfl,h5⟩:=S.sl i _ hi
 exact ⟨d,xs,h2,h1,h3,h5⟩
theorem oX (i:Nat) {n:Str} (hu:X.A.units + 16 < cLine) (hi:τ[i]?=some (.x (exK a hd X.prog X.w m))) (hk:PE X ix (dE X.K false τ (.d (a.toD key)))) (hx:getM m key=some x) (hr:∀ H v,Den X.K H v (a.toD key)->∃ b,v=.ref b) (hs:ke ix) (hN:X.N[i]?=some n:=by rfl)
   (hv:Vis X.env.scope n:=by first | exact Or.inl rfl | exact Or.inr (Or.inl rfl) | exact Or.inr (Or.inr rfl)) (hd1:(n == ("__debug__" : Str))=false:=by decide) (hcd:(n == ("__classdict__" : Str))=false:=by decide):PE X (.Subscript (.Name n p) ix pos) (dE X.K C τ (.d x)):=
 peW (gY (a:=a) (hd:=hd) hu (bH (i:=i) hN hv hd1 hcd) hk hs) λσ H Q q=>by
   obtain ⟨A,H₀,B,S,kk⟩:=cJ q
   obtain ⟨d,xs,e1,e2,e3,e4⟩:=S.dct hi
   refine ⟨_,slot_of e1,aL S λy H2 e5 dy=>?_⟩
   obtain ⟨b,rfl⟩:=hr _ _ dy
   have S2:=S.mono e5
   obtain ⟨d',xs',g1,g2,g3,g4⟩:=S2.dct hi
   rw [e1] at g1
   cases g1
   have:=g4.at key
   rw [hx] at this
   obtain ⟨pp,v,h1,h2,h3⟩:=this
   exact ⟨d,b,key,xs',pp,v,rfl,rfl,⟨g3,λz hz=>(g4.key z hz).mono aH⟩,dy.mono aH,h1,h2,kk v H2 e5 (h3.mono (ax (ah.refl _) λ_ z=>ie z))⟩
end
section
variable {K:PySem.W.Frag} {A:Addr->Prop} {H₀ H H':Hp} {τ:List Sl} {B:Nat->List Addr} {σ:L2.St}
theorem Sta.vT (S:Sta K A H₀ τ B σ H) {i:Nat} {a:Addr} {E E':Ex} {o':HO} (hi:τ[i]?=some (.x E)) (hB:B i=[a]) (d:E'.p K (hd H (own A B)) o' a):Sta K A H₀ (τ.set i (.x E')) B σ (upd H a o'):=by
 have ha:own A B a:=.inr ⟨i,by rw [hB]; exact List.mem_singleton.mpr rfl⟩
 have ne:∀ b,b ≠ a->upd H a o' b=H b:=λb h=>aw h
 have sm:ah (hd H (own A B)) (hd (upd H a o') (own A B)):=λb o z=>by
   obtain ⟨z1,z2⟩:=ak.mp z
   exact ak.mpr ⟨z1,by rw [ne b (λe=>z1 (e ▸ ha))]; exact z2⟩
 have f0:H₀ a=none:=S.fr i a (by rw [hB]; exact List.mem_singleton.mpr rfl)
 have hs:ah H₀ (upd H a o'):=λb o z=>by rw [ne b (λe=>by rw [e,f0] at z; cases z)]; exact S.same b o z
 refine ⟨hs,by rw [List.length_set,S.len],λj t hj=>?_,S.fr,S.uq,S.ad,λj b hb=>?_⟩
 · by_cases ej:j=i
   · subst ej
     have hl:=(List.getElem?_eq_some_iff.mp hi).1
     rw [List.getElem?_set_self hl] at hj
     cases hj
     obtain ⟨a',o,e1,e2,_,_⟩:=S.sl j _ hi
     rw [hB] at e1
     cases e1
     exact ⟨a,o',hB,e2,aA,E'.mono sm d⟩
   · rw [List.getElem?_set_ne (λz=>ej z.symm)] at hj
     have off:∀ b ∈ B j,b ≠ a:=λb hb e=>ej (S.uq j i a (e ▸ hb) (by rw [hB]; exact List.mem_singleton.mpr rfl))
     have q:=S.sl j t hj
     cases t with
     | un=>exact q
     | d x=>obtain ⟨z,u,e,d⟩:=q; exact ⟨z,u,e,d.mono sm⟩
     | o zs=>
       obtain ⟨c,ws,z1,z2,z3,z4⟩:=q
       exact ⟨c,ws,z1,z2,by rw [ne c (off c (by rw [z1]; exact List.mem_singleton.mpr rfl))]; exact z3,z4.mono sm⟩
     | n t=>
       obtain ⟨z0,u,z1,z2⟩:=q
       exact ⟨z0,u,z1,z2.frame sm λb hb=>ne b (off b hb)⟩
     | x E=>
       obtain ⟨c,o,z1,z2,z3,z4⟩:=q
       exact ⟨c,o,z1,z2,by rw [ne c (off c (by rw [z1]; exact List.mem_singleton.mpr rfl))]; exact z3,E.mono sm z4⟩
 · by_cases e:b=a
   · subst e; exact ⟨_,aA⟩
   · rw [ne b e]; exact S.bd j b hb
end
section
variable {K:Type} [DecidableEq K] {a:KD K} {hd:a.dep<=7} {X:Cx} {C:Bool} {τ:List Sl} {x:D} {b e ix:Expr} {pos p q sp:Pos} {k:Nat} {N:Po} {rest:List Stmt} {m:List (K × D)} {key:K}
theorem mh (i:Nat) {n:Str} (hu:X.A.units + 16 < cLine) (hi:τ[i]?=some (.x (exK a hd X.prog X.w m))) (hk:PE X ix (dE X.K true τ (.d (a.toD key)))) (he:PE X e (dE X.K true τ (.d x))) (hl:m.length<=sizeLine) (hr:∀ H v,Den X.K H v (a.toD key)->∃ b,v=.ref b)
   (hn:PSs X rest (dS X.K (τ.set i (.x (exK a hd X.prog X.w (eO m key x)))) N)) (hN:X.N[i]?=some n:=by rfl)
   (hv:Vis X.env.scope n:=by first | exact Or.inl rfl | exact Or.inr (Or.inl rfl) | exact Or.inr (Or.inr rfl)) (hd1:(n == ("__debug__" : Str))=false:=by decide) (hcd:(n == ("__classdict__" : Str))=false:=by decide)
   (hs:swapsWith e (some (.Subscript (.Name n p) ix sp)) pos.line X.env=pure false:=by rfl):PSs X (.Assign [.Subscript (.Name n p) ix sp] e pos :: rest) (dS X.K τ N):=
 aZ (M:=(·=τ.set i (.x (exK a hd X.prog X.w (eO m key x))))) (psW (lK (a:=a) (hd:=hd) hu (bH (i:=i) hN hv hd1 hcd) hk he hs) λD σ H ⟨A,H₀,B,S,Me⟩=>aL S λv H1 e1 d1=>by
   have S1:=S.mono e1
   obtain ⟨d,xs,g1,_⟩:=S1.dct hi
   refine ⟨_,slot_of g1,aL S1 λy H2 e2 dy=>?_⟩
   obtain ⟨b,rfl⟩:=hr _ _ dy
   have S2:=S1.mono e2
   obtain ⟨d',xs',h1,h2,h3,h4⟩:=S2.dct hi
   rw [g1] at h1
   cases h1
   have d1':=d1.mono (ax e2 λ_ z=>z)
   exact ⟨d,b,key,xs',rfl,rfl,⟨h3,λz hz=>(h4.key z hz).mono aH⟩,dy.mono aH,by rw [h4.length]; exact hl,λu hu=>Me.nx _ _ _ _ rfl (S2.vT hi h2 ⟨_,rfl,h4.put dy hu d1'⟩)⟩) λ_ e=>e ▸ hn
end
end Hy
namespace Ev
open PySem PySem.Spec PyProof.Rows L2
section
variable {K:Type} [DecidableEq K] {a:KD K} {hd:a.dep<=7} {X:Cx} {o i e f:Expr} {pos apos cpos:Pos} {td ty tx tk tv:TE}
noncomputable def AZ (a:KD K) (hd:a.dep<=7) (P:Program) (w:World) (F:PySem.W.Frag) (tk tv:TE):TE:=λσ H Q=>∀ p,H p=none->tk σ (upd H p (dNk a hd P w p [])) λy H1=>tv σ H1 λv H2=>∃ b k,y=.ref b/\H2 p=some (dNk a hd P w p [])/\Den F H2 (.ref b) (a.toD k)/\∀ u,RelV v u->Q (.ref p) (upd H2 p (dNk a hd P w p (storedH [] k b u)))
theorem qd (hu:X.A.units + 16 < cLine) (hk:PE X e tk) (hv:PE X f tv):PE X (.Dict [some e] [f] pos) (AZ a hd X.prog X.w X.K tk tv):=λpins s σ H Q I h=>by
 refine wpAny_Dict_any rfl rfl (by simp) (show 1<=15 by decide) (pairTrees_cons_walk ?_)
 have I0:=I.laid (a:=s.heap.objs.size) (o:=dNk a hd X.prog X.w s.heap.objs.size []) (t':=s.toks) (h':=s.heap.push { cls:=.type "dict",data:=.dict #[] }) (λ_ _ q=>Heap.get?_push_of_some _ q) (Nat.le_refl _)
   ⟨⟨beq_eq_false_iff_ne.mpr (Ne.symm (Nat.ne_of_lt I.big)),_,#[],0,Heap.get?_push_size _ rfl,⟨rfl,rfl,rfl⟩,rfl,rfl,List.nodup_nil⟩,⟨_,Heap.get?_push_size _ rfl⟩,λa1 a2 ⟨z0,o,es,ep,z1,z2⟩ hk=>⟨z0,o,es,ep,hk o z1,z2⟩⟩
 refine thn (hk _ _ σ _ _ I0 (h _ (I.hok.fresh (Nat.le_refl _)))) λkv s1 ⟨y,H1,I1,ry,q1⟩=>thn (hv _ s1 σ H1 _ I1 q1) λvv s2 ⟨v,H2,I2,rv,b,k,ey,hp,g,q2⟩=>pairTrees_nil_walk ?_
 subst ey
 obtain rfl:kv=Value.ref b:=ry
 have D:fU a hd X.prog X.w X.K H2 s.heap.objs.size []:=⟨hp,λ_ z=>nomatch z⟩
 obtain ⟨hd',dd⟩:=tO I2 D
 unfold storeAll
 rw [List.forIn_cons]
 refine wpAny_bind (wpAny_bind (wpAny_dictSet_heap (hsz:=Nat.zero_le _) (show X.A.units + 8 < cLine by omega) (key_is I2 g) dd λh' dd' hs=>wpAny_pure ?_))
 dsimp only
 rw [List.forIn_nil]
 refine wpAny_pure ?_
 obtain ⟨q,es,ep,hq,h2,h3,h4,_,h5⟩:=dd'
 refine ⟨.ref s.heap.objs.size,_,dY (ob:=dNk a hd X.prog X.w s.heap.objs.size (storedH [] k b vv)) I2 (by rw [hp]; exact True.intro) hs ⟨q,hq⟩ ⟨⟨hd',q,es,ep,hq,h2,h3,h4,h5⟩,⟨q,hq⟩,λa1 a2 ⟨z0,o,es,ep,z1,z2⟩ hk=>⟨z0,o,es,ep,hk o z1,z2⟩⟩,rfl,q2 vv rv⟩
end
end Ev
namespace Hy
open PySem PySem.Spec PyProof.Rows L2
open Ev (D Den au KD NEs dNk fU Bx aj gY qd)
section
variable {K:Type} [DecidableEq K] {a:KD K} {hd:a.dep<=7} {X:Cx} {C:Bool} {τ:List Sl} {x y:D} {b e f o ix:Expr} {pos p q apos cpos:Pos} {k:Nat} {N:Po} {rest:List Stmt} {m:List (K × D)} {key:K}
noncomputable def bxK (a:KD K) (hd:a.dep<=7) (P:Program) (w:World) (m:List (K × D)):Bx where
 p:=λF H d=>∃ xs,H d=some (dNk a hd P w d xs)/\EnK a F H xs m
 mono:=λe ⟨xs,h1,h2⟩=>⟨xs,e _ _ h1,h2.mono e⟩
 isd:=λ{_ _ d} ⟨xs,h1,_⟩=>⟨_,h1,λP w H' h z=>let ⟨_,o,_,_,z1,z2,_⟩:=z.1; ⟨o,z1,z2.1⟩⟩
noncomputable abbrev bxD (a:KD K) (hd:a.dep<=7) (P:Program) (w:World) (m:List (K × D)):D:=.box (bxK a hd P w m)
theorem Sta.fzX {F:PySem.W.Frag} {P:Program} {w:World} {A:Addr->Prop} {H₀ H:Hp} {B:Nat->List Addr} {σ:L2.St} {i:Nat} (S:Sta F A H₀ τ B σ H) (hi:τ[i]?=some (.x (exK a hd P w m))):Sta F A H₀ (τ.set i (.d (bxD a hd P w m))) (upB B i []) σ H:=
 S.less (λ_ z=>nomatch z) λG g hv=>by
   obtain ⟨d,xs,h1,h2,h3,h4⟩:=S.dct hi
   exact ⟨rfl,_,h1,.box ⟨xs,hv d _ (by rw [h2]; exact List.mem_singleton.mpr rfl) (λz=>nomatch z) h3,h4.mono g⟩⟩
theorem xr (i:Nat) (h:PSs X rest (dS X.K (τ.set i (.d (bxD a hd X.prog X.w m))) N)) (hi:τ[i]?=some (.x (exK a hd X.prog X.w m)):=by rfl):PSs X rest (dS X.K τ N):=ot h λD σ H ⟨A,H₀,B,S,Me⟩=>⟨A,H₀,_,S.fzX hi,Me⟩
theorem xO (h:PE X e (dE X.K C τ (.x (exK a hd X.prog X.w m)))):PE X e (dE X.K C τ (.d (bxD a hd X.prog X.w m))):=peW h λσ H Q q=>by
 obtain ⟨A,H₀,B,S,k⟩:=cJ q
 refine ⟨A,H₀,B,S,λv H' bs e hf ⟨d,o,h1,h2,h3,xs,h4,h5⟩=>?_⟩
 cases h2
 subst h1 h4
 have vd:=S.vd (C:=C)
 have un:¬ vw C A B d:=λz=>by
   obtain ⟨_,q⟩:=vd d z
   rw [(hf d (List.mem_singleton.mpr rfl)).1] at q
   cases q
 exact k _ H' e (.box ⟨xs,ak.mpr ⟨un,h3⟩,h5.mono (ax (ah.refl _) λ_ z=>.inl z)⟩)
theorem oq (hu:X.A.units + 16 < cLine) (hb:PE X b (dE X.K C τ (.d (bxD a hd X.prog X.w m)))) (hk:PE X ix (dE X.K C τ (.d (a.toD key)))) (hx:getM m key=some x) (hr:∀ H v,Den X.K H v (a.toD key)->∃ b,v=.ref b) (hs:ke ix):PE X (.Subscript b ix pos) (dE X.K C τ (.d x)):=
 peW (gY (a:=a) (hd:=hd) hu hb hk hs) λσ H Q q=>by
   obtain ⟨A,H₀,B,S,kk⟩:=cJ q
   refine aL S λv H1 e1 d1=>aL (S.mono e1) λy H2 e2 dy=>?_
   obtain ⟨b',rfl⟩:=hr _ _ dy
   cases d1.mono (ax e2 λ_ z=>z) with
   | box h=>
     obtain ⟨xs,g3,g4⟩:=h
     have:=g4.at key
     rw [hx] at this
     obtain ⟨pp,v,h1,h2,h3⟩:=this
     exact ⟨_,b',key,xs,pp,v,rfl,rfl,⟨aH _ _ g3,λz hz=>(g4.key z hz).mono aH⟩,dy.mono aH,h1,h2,kk v H2 (e1.trans e2) h3⟩
theorem oM (hu:X.A.units + 16 < cLine) (hk:PE X e (dE X.K C τ (.d (a.toD key)))) (hv:PE X f (dE X.K C τ (.d x))) (hr:∀ H v,Den X.K H v (a.toD key)->∃ b,v=.ref b):PE X (.Dict [some e] [f] pos) (dE X.K C τ (.x (exK a hd X.prog X.w [(key,x)]))):=
 peW (qd (a:=a) (hd:=hd) hu hk hv) λσ H Q ⟨A,H₀,B,S,kk⟩=>λp hp=>by
   have e0:=aj hp (dNk a hd X.prog X.w p [])
   have f0:Fr H (upd H p (dNk a hd X.prog X.w p [])) [p]:=λb hb=>by rw [List.mem_singleton.mp hb]; exact ⟨hp,_,aA⟩
   have S1:=S.hide e0 f0
   refine aL S1 λy H2 e2 dy=>aL (S1.mono e2) λv H3 e3 dv=>?_
   obtain ⟨b',rfl⟩:=hr _ _ dy
   have e03:=e2.trans e3
   have hp3:=e03 _ _ (aA (H:=H) (a:=p) (o:=dNk a hd X.prog X.w p []))
   have dy3:=dy.mono (ax e3 λ_ z=>z)
   refine ⟨b',key,rfl,hp3,dy3.mono aH,λu hu=>?_⟩
   have sm:ah (Hy.hd H3 (vw C (λb=>A b\/b ∈ [p]) B)) (Hy.hd (upd H3 p (dNk a hd X.prog X.w p (storedH [] key b' u))) λb=>vw C A B b\/b ∈ [p]):=λb o z=>by
     obtain ⟨z1,z2⟩:=ak.mp z
     have nh:¬ (vw C A B b\/b ∈ [p]):=λy=>z1 (wo y)
     exact ak.mpr ⟨nh,by rw [aw (λq=>nh (.inr (List.mem_singleton.mpr q)))]; exact z2⟩
   have hs:ah H (upd H3 p (dNk a hd X.prog X.w p (storedH [] key b' u))):=λb o z=>by
     have ne:b ≠ p:=λq=>by rw [q,hp] at z; cases z
     rw [aw ne]
     exact e03 _ _ (e0 _ _ z)
   exact kk (.ref p) _ [p] hs (λb hb=>by rw [List.mem_singleton.mp hb]; exact ⟨hp,_,aA⟩) ⟨p,_,rfl,rfl,aA,_,rfl,(EnK.nil.put dy3 hu dv).mono sm⟩
end
end Hy
namespace Ev
open PySem PySem.Spec PyProof.Rows L2
open PySem.Builtin.Range (rangeFitsLong rangeSize)
noncomputable def gO (n:Int):Obj:={ cls:=.type "range_iterator",data:=.fields #[rawInt (0 + (rangeSize 0 n 1 - 1) * 1),rawInt (rangeSize 0 n 1),rawInt (-1)] }
theorem fits_of {i:Int} (h1:-(2 ^ 62)<=i) (h2:i<=2 ^ 62):rangeFitsLong i=true:=by
 unfold rangeFitsLong
 rw [Bool.and_eq_true,decide_eq_true_iff,decide_eq_true_iff]
 omega
theorem u0 {n:Int} (h:0<=n):rangeSize 0 n 1=n:=by
 rw [rangeSize_one]
 split <;> omega
theorem zQ {n:Int} (h0:0<=n) (h1:n < 2 ^ 62):(rangeFitsLong 0 && rangeFitsLong n && rangeFitsLong 1 && rangeFitsLong (-1) && rangeFitsLong (0 - 1) && rangeFitsLong (rangeSize 0 n 1))=true:=by
 rw [u0 h0,fits_of (i:=n) (by omega) (by omega)]
 decide
theorem rR (r:Addr) (n:Int) (t u v:Tok) (hs:(rangeFitsLong 0 && rangeFitsLong n && rangeFitsLong 1 && rangeFitsLong (-1) && rangeFitsLong (0 - 1) && rangeFitsLong (rangeSize 0 n 1))=true) :
   Meets (Builtin.«range.__reversed__» ⟨[.ref r],[]⟩) (λ_ R s=>IsRange s.heap r 0 n 1 t u v/\R (.ok (.ret (Value.ref s.heap.objs.size))) { s with heap:=s.heap.push (gO n),toks:=s.toks }):=
 .of_wp λprog w A R s h=>by
   obtain ⟨hp,g,d,tk,os⟩:=s
   obtain ⟨hl,h⟩:=h
   have hs':(!(rangeFitsLong 0 && rangeFitsLong n && rangeFitsLong 1 && rangeFitsLong (-1) && rangeFitsLong (0 - 1) && rangeFitsLong (rangeSize 0 n 1)))=false:=by rw [hs]; rfl
   wp_walk
   rw [if_neg (by rw [hs]; decide),if_pos hs]
   exact wpAny_bind (wpAny_newObj_type (wpAny_pure ⟨_,rfl,h⟩))
section
variable {prog:Program} {w:World} {A:Around} {E:Value->Shared->Prop} {s:Shared}
theorem jC {r:Addr} {n:Int} {t u v:Tok} {Q:Value->Shared->Prop} (hr:IsRange s.heap r 0 n 1 t u v) (h0:0<=n) (h1:n < 2 ^ 62)
   (h:Q (.ref s.heap.objs.size) { s with heap:=s.heap.push (gO n) }):wpAny (model prog w) A (call (.builtin "range.__reversed__") [.ref r]) Q E s:=
 call_meets F.slot_range_reversed ⟨_,hr,rfl⟩ F.entry_range_reversed (F.args_range_reversed_1 _) (rR r n t u v (zQ h0 h1)) ⟨hr,h⟩
theorem lO {r:Addr} {n:Int} {t u v:Tok} {Q₁:Value->Shared->Prop} (hr:IsRange s.heap r 0 n 1 t u v) (h0:0<=n) (h1:n < 2 ^ 62)
   (h:Q₁ (.ref s.heap.objs.size) { s with heap:=s.heap.push (gO n) }) :
   codeAny (model prog w) A (.call (.builtin "reversed.__new__") ⟨[.type "reversed",.ref r],[]⟩) (wants Q₁ E) s:=by
 have hT:s.TypeIs (.ref r) "range":=⟨_,hr,rfl⟩
 refine codeAny_of_tree ?_
 refine wpAny_bind (wpAny_of_eq (F.newCall_reversed_1 _) (wpAny_pure ⟨plainId_quiet F.plain_reversed_new _,codeAny_builtin F.entry_reversed_new ?_⟩))
 rw [Around.under_plainId F.plain_reversed_new _]
 unfold Builtin.«reversed.__new__»
 refine wpAny_bind (wpAny_of_eq (newClass_reversed _) ?_)
 try dsimp only
 refine wpAny_bind (wpAny_of_eq (a:=()) (by first | rfl | kernel_rfl) ?_)
 refine wpAny_bind (wpAny_of_eq (a:=()) (by first | rfl | kernel_rfl) ?_)
 try dsimp only
 refine wpAny_bind (wpAny_specialOf hT F.slot_range_reversed.lookup ?_)
 try dsimp only
 refine wpAny_bind (wpAny_of_eq (F.slot_range_reversed.bind _) ?_)
 try dsimp only
 first
 | rw [if_neg (show ¬ ((Value.builtin "range.__reversed__" == Value.none)=true) from Bool.false_ne_true)]
 | (show wpAny _ _ (if (Value.builtin "range.__reversed__" == Value.none)=true then _ else _) _ _ _; rw [if_neg (show ¬ ((Value.builtin "range.__reversed__" == Value.none)=true) from Bool.false_ne_true)])
 refine wpAny_bind (wpAny_rule ?_)
 refine wpAny_bind (m:=runValue (.call (.builtin "range.__reversed__") ⟨[.ref r],[]⟩)) (show wpAny _ _ (call (.builtin "range.__reversed__") [.ref r]) _ _ _ from jC hr h0 h1 ?_)
 first
 | exact wpAny_pure h
 | exact wpAny_bind (wpAny_pure (wpAny_pure h))
theorem iM:isSubtype (.type "range_iterator") (.type "reversed")=pure false:=by rw [isSubtype_type]; kernel_rfl
theorem jY {r:Addr} {n:Int} {t u v:Tok} {Q:Value->Shared->Prop} (hr:IsRange s.heap r 0 n 1 t u v) (h0:0<=n) (h1:n < 2 ^ 62)
   (h:Q (.ref s.heap.objs.size) { s with heap:=s.heap.push (gO n) }):wpAny (model prog w) A (call (.type "reversed") [.ref r]) Q E s:=by
 refine callType_other (U:="range_iterator") (Q₁:=λobj s₁=>obj=.ref s.heap.objs.size/\s₁={ s with heap:=s.heap.push (gO n) }) (by decide +kernel) F.create_reversed ⟨_,_,F.mro_reversed⟩ F.made_reversed iM (F.typeCall_reversed_1 _) (lO hr h0 h1 ⟨rfl,rfl⟩) ?_
 rintro obj s₁ ⟨rfl,rfl⟩
 exact ⟨⟨_,Heap.get?_push_size _ rfl,rfl⟩,h⟩
end
noncomputable def Itd (n:Nat):L2.It:=⟨λi _=>i < n,λi H x H'=>H'=H/\x=.int ((n:Int) - 1 - i),λi _=>n<=i⟩
theorem we {P:Program} {w:World} {K:PySem.W.Frag} {tg:Expr} (it:Addr) (n:Nat):Turn P w K false tg (Itd n) [it] it (λi h=>i<=n/\IsRangeIter h it ((n:Int) - 1 + (i:Nat) * (-1)) ((n:Int) - (i:Nat)) (-1)) where
 mem:=by simp
 obj:=λi h st b hb=>by
   have e:b=it:=by simpa using hb
   subst e
   exact ⟨_,st.2,λv z=>by
     have z':Data.fields _=Data.cell v:=z
     cases z'⟩
 keep:=λi h h' st k=>⟨st.1,k it (by simp) _ st.2⟩
 item:=by
   intro X hP hw hK hc i pins s σ H E I hf st hg
   subst hP hw hK
   obtain ⟨f0,f1,f2,f3,f4,f5⟩:=hf it (by simp)
   have W:=Walks.range (prog:=X.prog) (w:=X.w) (I.ok.hd hc.calm) it ((n:Int) - 1) (-1) n
   refine W.item i s _ _ hg st.2 λv h' tk hv st' kk=>?_
   obtain ⟨t,rfl⟩:=hv
   have I1:Inv X pins σ H { s with heap:=h',toks:=tk }:=I.turned (λb o hb e=>kk b o (by simpa using hb) e) f0 f1 f3 f4 f5
   refine ⟨_,rfl,kL (s:={ s with heap:=h',toks:=tk }) (n:="range_iterator") st' rfl rfl (by decide) ⟨.int ((n:Int) - 1 - i),H,I1,⟨t,?_⟩,⟨rfl,rfl⟩,⟨hg,st'⟩,λb hb=>(hf b hb).1⟩⟩
   rw [Int.mul_neg,Int.mul_one,<- Int.sub_eq_add_neg]
 done:=by
   intro X hP hw hK hc i pins s σ H E I hf st hg
   subst hP hw hK
   obtain ⟨f0,f1,f2,f3,f4,f5⟩:=hf it (by simp)
   have hg:n<=i:=hg
   obtain rfl:i=n:=Nat.le_antisymm st.1 hg
   have W:=Walks.range (prog:=X.prog) (w:=X.w) (I.ok.hd hc.calm) it ((i:Int) - 1) (-1) i
   exact W.done s _ _ st.2 λh' tk kk=>⟨rfl,I.turned (λb o hb e=>kk b o (by simpa using hb) e) f0 f1 f3 f4 f5⟩
 self:=λ_ _ _ _ _ st h=>wpAny_pyIter_rangeiter st.2 h
section
variable {X:Cx} {tg:Expr}
noncomputable def iDn (ta:TA):TI:=λσ H R=>ta σ H λvs H1=>∃ n:Nat,vs=[.int n]/\n < 1000/\R (Itd n) H1
theorem xp {a:Expr} {ta:TA} {p p' pos pos':Pos} (hc:X.calm=true) (hg:Gl X "reversed") (hm:X.mg "reversed" = none) (hg':Gl X "range") (hm':X.mg "range" = none) (ha:PA X [a] ta) (hs':starEach [a] X.env=[(false,eval a X.env)]:=by rfl)
   (hs:starEach [.Call (.Name "range" p') [a] [] pos'] X.env=[(false,eval (.Call (.Name "range" p') [a] [] pos') X.env)]:=by rfl):PI X tg (.Call (.Name "reversed" p) [.Call (.Name "range" p') [a] [] pos'] [] pos) (iDn ta):=by
 intro pins s σ H R I h
 refine Call_ (dJ I hg hm uQ (PyProof.Rows.callWith_type1 ?_ hs rfl))
 rw [hs]
 refine Calls.spliced_cons (Call_ (dJ I hg' hm' boot_range (PyProof.Rows.callWith_type1 (thn (ha pos' pins s σ H _ I h) λus s1 ⟨vs,H1,I1,r1,n,e,hn,q⟩=>?_) hs' rfl)))
 subst e
 cases r1 with
 | cons r rr=>
   cases rr
   obtain ⟨t,rfl⟩:=r
   refine call_range_1 (Calls.spliced_nil ?_)
   have I2:Inv X pins σ H1 { s1 with heap:=s1.heap.push { cls:=.type "range",data:=.fields #[.int 0 s1.toks,.int n t,.int 1 (s1.toks + 1)] },toks:=s1.toks + 1 + 1 }:=I1.kept λb o e=>Heap.get?_push_of_some _ e
   refine jY (IsRange.new ..) (by omega) (by omega) ?_
   have z:rangeSize 0 (n:Int) 1=n:=u0 (by omega)
   have st:(Heap.push (s1.heap.push { cls:=.type "range",data:=.fields #[.int 0 s1.toks,.int n t,.int 1 (s1.toks + 1)] }) (gO n)).get? (s1.heap.push { cls:=.type "range",data:=.fields #[.int 0 s1.toks,.int n t,.int 1 (s1.toks + 1)] }).objs.size=some (gO n):=Heap.get?_push_size _ rfl
   have st':IsRangeIter (Heap.push (s1.heap.push { cls:=.type "range",data:=.fields #[.int 0 s1.toks,.int n t,.int 1 (s1.toks + 1)] }) (gO n)) (s1.heap.push { cls:=.type "range",data:=.fields #[.int 0 s1.toks,.int n t,.int 1 (s1.toks + 1)] }).objs.size ((n:Int) - 1 + ((0:Nat):Int) * (-1)) ((n:Int) - ((0:Nat):Int)) (-1):=by
     unfold IsRangeIter
     rw [st,gO,z]
     congr 6
     all_goals (simp)
   refine wpAny_pyIter_rangeiter (x:=(n:Int) - 1 + ((0:Nat):Int) * (-1)) (left:=(n:Int) - ((0:Nat):Int)) (step:=-1) st' ?_
   refine ⟨false,_,[(s1.heap.push { cls:=.type "range",data:=.fields #[.int 0 s1.toks,.int n t,.int 1 (s1.toks + 1)] }).objs.size],_,_,H1,rfl,I2.kept (t':=s1.toks + 1 + 1) λb o e=>Heap.get?_push_of_some _ e,.inl hc,we _ n,⟨Nat.zero_le _,st'⟩,λb hb=>?_,q⟩
   have e:b=(s1.heap.push { cls:=.type "range",data:=.fields #[.int 0 s1.toks,.int n t,.int 1 (s1.toks + 1)] }).objs.size:=by simpa using hb
   subst e
   exact I2.kg (Nat.le_refl _) (I2.hok.fresh (Nat.le_refl _))
end
end Ev
namespace Ev
open PySem PySem.Spec PyProof.Rows L2
noncomputable def bw (kv:List (Int × Int)):List (Key × V):=kv.map λp=>(.inl p.1,.int p.2)
noncomputable def Itk (a:Addr) (o:Obj) (kv:List (Int × Int)):L2.It:=
 ⟨λi H=>i < kv.length/\H a=some (.frz o (.dK (bw kv))),λi H x H'=>H'=H/\∃ p,kv[i]?=some p/\x=.int p.1,λi H=>kv.length<=i/\H a=some (.frz o (.dK (bw kv)))⟩
theorem mn {X:Cx} {pins:List (Addr × Obj)} {σ:L2.St} {H:Hp} {s:Shared} {a:Addr} {o:Obj} {kvs:List (Key × V)} {es:Array DictEntry} {ep:Nat} (I:Inv X pins σ H s) (h:H a=some (.frz o (.dK kvs))) (hd:o.data=.dict es ep) :
   ∃ vs,KV kvs vs/\s.heap.DictAt (a5 X.prog X.w) a vs ep:=by
 obtain ⟨e,_,_,vs,rel,o',es',ep',e',r⟩:=(show bf X.prog X.w H s.heap a (.frz o (.dK kvs)) from I.hok a _ h)
 rw [e] at e'; cases e'
 have z:=r.2.1
 rw [hd] at z
 injection z with z1 z2
 subst z1 z2
 exact ⟨vs,rel,o,es,e,r⟩
theorem rj {P:Program} {w:World} {K:PySem.W.Frag} {tg:Expr} (a it:Addr) (o:Obj) (kv:List (Int × Int)) (es:Array DictEntry) (ep:Nat) (hd:o.data=.dict es ep) :
   Turn P w K false tg (Itk a o kv) [it] it (λi h=>i<=kv.length/\h.IsKeyIter it a i kv.length ep) where
 mem:=by simp
 obj:=λi h st b hb=>by
   have e:b=it:=by simpa using hb
   subst e
   obtain ⟨o,e,c,d⟩:=st.2
   exact ⟨o,e,λv z=>by rw [d] at z; cases z⟩
 keep:=λi h h' st k=>⟨st.1,st.2.at λo e=>k it (by simp) o e⟩
 item:=by
   intro X hP hw hK hc i pins s σ H E I hf st hg
   subst hP hw hK
   obtain ⟨hi,ha⟩:=hg
   obtain ⟨f0,f1,f2,f3,f4,f5⟩:=hf it (by simp)
   obtain ⟨vs,rel,dd⟩:=mn I ha hd
   have hl:kv.length=vs.length:=by rw [<- rel.length,bw,List.length_map]
   have st2:=st.2
   rw [hl] at st2
   have hx:vs[i]?=some vs[i]:=by simp [show i < vs.length by omega]
   have kk:=congrArg (λl=>l[i]?) rel.keys
   simp only [bw,List.map_map,List.getElem?_map,hx,List.getElem?_eq_getElem hi,Option.map_some,Function.comp] at kk
   have kk:=Option.some.inj kk
   refine wpAny_pyNext_dict_item st2 dd hx λkey h' hk st' sb=>?_
   have hk:(a5 X.prog X.w).is (Sum.inl kv[i].fst) key=true:=by rw [kk]; exact hk
   obtain ⟨t,rfl⟩:=Value.isInt_shape (show Value.isInt _ key=true from hk)
   have I1:Inv X pins σ H { s with heap:=h' }:=I.turned (t':=s.toks) (λb o hb e=>(sb.2 b hb).trans e) f0 f1 f3 f4 f5
   obtain ⟨o',e,c,d⟩:=id st'
   refine ⟨_,rfl,kL (s:={ s with heap:=h' }) e c d (by decide) ⟨.int kv[i].1,H,I1,⟨t,rfl⟩,⟨rfl,_,List.getElem?_eq_getElem hi,rfl⟩,⟨hi,by rw [hl]; exact st'⟩,λb hb=>(hf b hb).1⟩⟩
 done:=by
   intro X hP hw hK hc i pins s σ H E I hf st hg
   subst hP hw hK
   obtain ⟨hi,ha⟩:=hg
   obtain ⟨f0,f1,f2,f3,f4,f5⟩:=hf it (by simp)
   obtain ⟨vs,rel,dd⟩:=mn I ha hd
   have hl:kv.length=vs.length:=by rw [<- rel.length,bw,List.length_map]
   have st2:=st.2
   rw [hl] at st2
   exact wpAny_pyNext_dict_end (I.ok.hd hc.calm) st2 dd (List.getElem?_eq_none (by omega)) λh' eb=>⟨rfl,I.turned (t':=s.toks) (λb o hb e=>eb b o hb e) f0 f1 f3 f4 f5⟩
 self:=λ_ _ _ _ _ st h=>wpAny_pyIter_keyiter st.2 h
section
variable {X:Cx} {tg:Expr}
noncomputable def uv (tl:TE):TI:=λσ H R=>tl σ H λx H1=>∃ a o kv,x=.ref a/\H1 a=some (.frz o (.dK (bw kv)))/\R (Itk a o kv) H1
theorem mW {l:Expr} {tl:TE} (hc:X.calm=true) (hl:PE X l tl):PI X tg l (uv tl):=by
 intro pins s σ H R I h
 refine thn (hl pins s σ H _ I h) λu s1 ⟨x,H1,I1,r1,a,o,kv,ex,ha,q⟩=>?_
 subst ex
 cases r1
 obtain ⟨e,ok⟩:=(show bf X.prog X.w H1 s1.heap a (.frz o (.dK (bw kv))) from I1.hok a _ ha)
 obtain ⟨z,hd,vs,rel,o',es,ep,e',r⟩:=ok
 rw [e] at e'
 cases e'
 refine wpAny_pyIter_dict hd (show s1.heap.DictAt (a5 X.prog X.w) a vs ep from ⟨o,es,e,r⟩) ?_
 have hv:vs.length=kv.length:=by rw [<- rel.length,bw,List.length_map]
 refine ⟨false,s1.heap.objs.size,[s1.heap.objs.size],_,_,H1,rfl,I1.kept (t':=s1.toks) λb o e=>Heap.get?_push_of_some _ e,.inl hc,rj a _ o kv es ep r.2.1,⟨Nat.zero_le _,?_⟩,λb hb=>?_,q⟩
 · rw [<- hv]
   exact ⟨_,Heap.get?_push_size _ rfl,rfl,rfl⟩
 · have e:b=s1.heap.objs.size:=by simpa using hb
   subst e
   exact I1.kg (Nat.le_refl _) (I1.hok.fresh (Nat.le_refl _))
end
end Ev
namespace Hy
open PySem PySem.Spec PyProof.Rows L2
open Ev (D Den au Bx aj bw Itk uv mW Itd iDn xp)
noncomputable def eN (kv:List (Int × Int)) (k v:Int):List (Int × Int):=
 if (kv.any λp=>decide (p.1=k))=true then kv.map (λp=>if p.1=k then (p.1,v) else p) else kv++[(k,v)]
noncomputable def bA (kv:List (Int × Int)) (k:Int):Option Int:=(kv.find? λp=>decide (p.1=k)).map (·.2)
theorem wB (kv:List (Int × Int)) (k:Int):((bw kv).any λp=>decide (p.1=.inl k))=kv.any λp=>decide (p.1=k):=by
 unfold bw
 rw [List.any_map]
 congr 1
 funext p
 simp
theorem pR (kv:List (Int × Int)) (k v:Int):putK (bw kv) (.inl k) (.int v)=bw (eN kv k v):=by
 unfold putK eN
 rw [wB]
 by_cases h:(kv.any λp=>decide (p.1=k))=true
 · rw [if_pos h,if_pos h]
   unfold bw
   rw [List.map_map,List.map_map]
   refine List.map_congr_left λp _=>?_
   simp only [Function.comp]
   by_cases z:p.1=k
   · rw [if_pos (congrArg Sum.inl z),if_pos z]
   · rw [if_neg (λy=>z (Sum.inl.inj y)),if_neg z]
 · rw [if_neg h,if_neg h]
   unfold bw
   rw [List.map_append]
   rfl
theorem gI:∀ (kv:List (Int × Int)) (k:Int),eA (bw kv) (.inl k)=(bA kv k).map V.int
 | [],_=>rfl
 | p :: r,k=>by
   unfold bA
   by_cases z:p.1=k
   · rw [List.find?_cons_of_pos (by simp [z])]
     exact bF (p:=(Sum.inl p.1,V.int p.2)) (congrArg Sum.inl z)
   · rw [List.find?_cons_of_neg (by simp [z])]
     exact (bI (p:=(Sum.inl p.1,V.int p.2)) (λy=>z (Sum.inl.inj y))).trans (gI r k)
theorem vY (kv:List (Int × Int)) (k v:Int):(eN kv k v).length<=kv.length + 1:=by
 unfold eN
 split
 · rw [List.length_map]; omega
 · rw [List.length_append,List.length_cons,List.length_nil]; omega
noncomputable def exZ (m:List (Int × Int)):Ex where
 p:=λ_ _ o _=>o=.dK (bw m)
 mono:=λ_ h=>h
 ext:=λh=>.inr (.inr ⟨_,.inl h⟩)
noncomputable def exF (ob:Obj) (m:List (Int × Int)):Ex where
 p:=λ_ _ o _=>o=.frz ob (.dK (bw m))
 mono:=λ_ h=>h
 ext:=λh=>.inr (.inr ⟨_,.inr ⟨_,h⟩⟩)
noncomputable def bxZ (m:List (Int × Int)):Bx where
 p:=λ_ H d=>∃ o,H d=some (.frz o (.dK (bw m)))
 mono:=λe ⟨o,h⟩=>⟨o,e _ _ h⟩
 isd:=λ⟨o,h⟩=>⟨_,h,λP w H' h z=>by
   obtain ⟨_,_,_,vs,_,ob,_,_,z1,z2,_⟩:=z
   exact ⟨ob,z1,z2.1⟩⟩
section
variable {K:PySem.W.Frag} {A:Addr->Prop} {H₀ H:Hp} {τ:List Sl} {B:Nat->List Addr} {σ:L2.St} {m:List (Int × Int)} {i:Nat}
theorem Sta.dz (S:Sta K A H₀ τ B σ H) (hi:τ[i]?=some (.x (exZ m))):∃ d,(σ[i]?).join=some (.ref d)/\B i=[d]/\H d=some (.dK (bw m)):=by
 obtain ⟨d,o,h1,h2,h3,h4⟩:=S.sl i _ hi
 cases (show o=_ from h4)
 exact ⟨d,h2,h1,h3⟩
theorem Sta.fzF {ob:Obj} (S:Sta K A H₀ τ B σ H) (hi:τ[i]?=some (.x (exF ob m))):Sta K A H₀ (τ.set i (.d (.box (bxZ m)))) (upB B i []) σ H:=
 S.less (λ_ z=>nomatch z) λG g hv=>by
   obtain ⟨d,o,h1,h2,h3,h4⟩:=S.sl i _ hi
   cases (show o=_ from h4)
   exact ⟨rfl,_,h2,.box ⟨ob,hv d _ (by rw [h1]; exact List.mem_singleton.mpr rfl) (λz=>nomatch z) h3⟩⟩
end
section
variable {X:Cx} {C:Bool} {τ:List Sl} {x y:D} {a b e f o ix tg:Expr} {pos p q apos cpos sp:Pos} {k:Nat} {N:Po} {rest:List Stmt} {m:List (Int × Int)} {key v n:Int}
theorem Ak {xs:List D} {n:Nat} (h:xs.length=n):gf X (.builtin "len") [.lst xs] (.d (.int n)):=h ▸ iL
theorem dN {n:Str}:ke (.Name n p):=λ_ _=>rfl
theorem sC {op:Operator}:ke (.BinOp a op b p):=λ_ _=>rfl
theorem yj:PE X (.Dict [] [] pos) (dE X.K C τ (.x (exZ []))):=peW sP λσ H Q ⟨A,H₀,B,S,k⟩=>λp hp=>k (.ref p) _ [p] (aj hp _) (λb hb=>by rw [List.mem_singleton.mp hb]; exact ⟨hp,_,aA⟩) ⟨p,_,rfl,rfl,aA,rfl⟩
theorem zG {j l:Nat}:PE X (.Dict [some (.Constant (.int key) j p)] [.Constant (.int v) l q] pos) (dE X.K C τ (.x (exZ [(key,v)]))):=peW (vE (uL oy oy wz) rfl rfl (by simp) (by show (1:Nat)<=15; decide)) λσ H Q ⟨A,H₀,B,S,k⟩=>λp hp=>by
 refine ⟨aA,[(.inl key,.int v)],rfl,(by show (1:Nat)<=15; decide),?_⟩
 have e:upd (upd H p (.dK [])) p (.dK (ig [] [(Sum.inl key,V.int v)]))=upd H p (.dK (bw [(key,v)])):=by
   funext b
   unfold upd
   split <;> rfl
 rw [e]
 exact k (.ref p) _ [p] (aj hp _) (λb hb=>by rw [List.mem_singleton.mp hb]; exact ⟨hp,_,aA⟩) ⟨p,_,rfl,rfl,aA,rfl⟩
theorem Bv (i:Nat) (h:PSs X rest (dS X.K (τ.set i (.d (.box (bxZ m)))) N)) (hi:τ[i]?=some (.x (exZ m)):=by rfl):PSs X rest (dS X.K τ N):=by
 intro pins s σ H D I ⟨A,H₀,B,S,Me⟩
 obtain ⟨d,h1,h2,h3⟩:=S.dz hi
 obtain ⟨z,hd,vs,rel,dd⟩:=qf I.hok h3
 obtain ⟨o,es,ep,e,r⟩:=id dd
 have I2:Inv X pins σ (upd H d (.frz o (.dK (bw m)))) s:=dY (t':=s.toks) (h':=s.heap) I (by rw [h3]; exact True.intro) (.refl _ _) ⟨o,e⟩ ⟨e,mx z hd rel dd⟩
 have hl:=(List.getElem?_eq_some_iff.mp hi).1
 have S2:=S.vT (E':=exF o m) hi h2 rfl
 have S3:=S2.fzF (ob:=o) (m:=m) (List.getElem?_set_self hl)
 rw [List.set_set] at S3
 exact h pins s σ _ D I2 ⟨A,H₀,_,S3,Me⟩
theorem yI (hu:X.A.units + 1 < cLine) (hb:PE X b (dE X.K C τ (.d (.box (bxZ m))))) (hk:PE X ix (dE X.K C τ (.d (.int key)))) (hx:bA m key=some v) (hs:ke ix):PE X (.Subscript b ix pos) (dE X.K C τ (.d (.int v))):=
 peW (vV hu hb hk hs) λσ H Q q=>by
   obtain ⟨A,H₀,B,S,kk⟩:=cJ q
   refine aL S λu H1 e1 d1=>aL (S.mono e1) λy H2 e2 dy=>?_
   cases dy
   cases d1.mono (ax e2 λ_ z=>z) with
   | box h=>
     obtain ⟨o,g⟩:=h
     exact ⟨_,.int v,rfl,⟨_,.inl key,.inr ⟨o,aH _ _ g⟩,rfl,by rw [gI,hx]; rfl⟩,kk _ H2 (e1.trans e2) .int⟩
theorem vL (i:Nat) {nm:Str} (hu:X.A.units + 1 < cLine) (hi:τ[i]?=some (.x (exZ m))) (hk:PE X e (dE X.K false τ (.d (.int key)))) (hx:PE X f (dE X.K false τ (.d (.int v)))) (m2:M2 X (.Name nm p) "get" apos e f cpos:=by exact ⟨rfl,rfl,rfl,rfl⟩) (hN:X.N[i]?=some nm:=by rfl)
   (hv:Vis X.env.scope nm:=by first | exact Or.inl rfl | exact Or.inr (Or.inl rfl) | exact Or.inr (Or.inr rfl)) (hd1:(nm == ("__debug__" : Str))=false:=by decide) (hcd:(nm == ("__classdict__" : Str))=false:=by decide):PE X (.Call (.Attribute (.Name nm p) "get" apos) [e,f] [] cpos) (dE X.K C τ (.d (.int ((bA m key).getD v)))):=
 peW (u7 hu (bH (i:=i) hN hv hd1 hcd) hk hx m2) λσ H Q q=>by
   obtain ⟨A,H₀,B,S,kk⟩:=cJ q
   obtain ⟨d,h1,h2,h3⟩:=S.dz hi
   refine ⟨_,slot_of h1,d,rfl,⟨_,.inl h3⟩,aL S λy H2 e2 dy=>aL (S.mono e2) λz H3 e3 dz=>?_⟩
   cases dy
   cases dz
   refine ⟨_,⟨_,.inl key,.inl ((e2.trans e3) _ _ h3),rfl,rfl⟩,?_⟩
   have e:(eA (bw m) (.inl key)).getD (.int v)=V.int ((bA m key).getD v):=by rw [gI]; cases bA m key <;> rfl
   rw [e]
   exact kk _ H3 (e2.trans e3) .int
theorem zF (i:Nat) {nm:Str} (hu:X.A.units + 1 < cLine) (hi:τ[i]?=some (.x (exZ m))) (hk:PE X ix (dE X.K true τ (.d (.int key)))) (he:PE X e (dE X.K true τ (.d (.int v)))) (hl:m.length < sizeLine)
   (hn:PSs X rest (dS X.K (τ.set i (.x (exZ (eN m key v)))) N)) (hN:X.N[i]?=some nm:=by rfl)
   (hv:Vis X.env.scope nm:=by first | exact Or.inl rfl | exact Or.inr (Or.inl rfl) | exact Or.inr (Or.inr rfl)) (hd1:(nm == ("__debug__" : Str))=false:=by decide) (hcd:(nm == ("__classdict__" : Str))=false:=by decide)
   (hs:swapsWith e (some (.Subscript (.Name nm p) ix sp)) pos.line X.env=pure false:=by rfl):PSs X (.Assign [.Subscript (.Name nm p) ix sp] e pos :: rest) (dS X.K τ N):=
 aZ (M:=(·=τ.set i (.x (exZ (eN m key v))))) (psW (xj hu (bH (i:=i) hN hv hd1 hcd) hk he hs) λD σ H ⟨A,H₀,B,S,Me⟩=>aL S λu H1 e1 d1=>by
   cases d1
   have S1:=S.mono e1
   obtain ⟨d,g1,_⟩:=S1.dz hi
   refine ⟨_,slot_of g1,aL S1 λy H2 e2 dy=>?_⟩
   cases dy
   have S2:=S1.mono e2
   obtain ⟨d',h1,h2,h3⟩:=S2.dz hi
   rw [g1] at h1
   cases h1
   refine ⟨d,_,rfl,⟨_,.inl key,h3,rfl,by unfold bw; rw [List.length_map]; exact hl,rfl⟩,?_⟩
   rw [pR]
   exact Me.nx _ _ _ _ rfl (S2.vT hi h2 rfl)) λ_ e=>e ▸ hn
theorem wN (h:PE X e (dE X.K true τ (.d (.box (bxZ m))))) (hc:X.calm=true:=by first | rfl | assumption):PI X tg e (dI X.K τ (m.map λp=>.int p.1)):=piW (mW hc h) λσ H R ⟨A,H₀,B,S,k⟩=>aL S λv H1 e1 d1=>by
 cases d1 with
 | box h=>
   obtain ⟨o,g⟩:=h
   refine ⟨_,o,m,rfl,aH _ _ g,k _ H1 e1 λH2 sg=>⟨λi hi=>⟨by simpa using hi,sg _ _ g⟩,λi hi=>⟨⟨by simpa using hi,sg _ _ g⟩,λx H' ⟨eH,p,hp,ex⟩=>?_⟩⟩⟩
   subst eH ex
   refine ⟨ah.refl _,λM _ _=>?_⟩
   have hi':i < m.length:=by simpa using hi
   rw [List.getElem?_eq_getElem hi'] at hp
   cases hp
   rw [List.getElem_map]
   exact .int
theorem wy {m:List (Int × Int)}:∀ i (h:i < (m.map λp=>D.int p.1).length),(m.map λp=>D.int p.1)[i]=.int (m.getD i (0,0)).1:=λi h=>by
 have:i < m.length:=by simpa using h
 simp [this]
noncomputable def dnD (n:Nat):List D:=(List.range n).map λi:Nat=>.int ((n:Int) - 1 - (i:Int))
theorem gQ (n:Nat):(dnD n).length=n:=by simp [dnD]
theorem Ci {n:Nat}:∀ i (h:i < (dnD n).length),(dnD n)[i]=.int ((n - 1 - i:Nat):Int):=λi h=>by
 rw [gQ] at h
 simp only [dnD,List.getElem_map,List.getElem_range]
 congr 1
 omega
theorem Ce {n:Nat} {p' pos':Pos} (B:Bk X k) (h:PE X a (dE X.K false τ (.d (.int n)))) (hn:n < 1000) (hg:Gl X "reversed":=by rfl) (hg':Gl X "range":=by rfl) (hs':starEach [a] X.env=[(false,eval a X.env)]:=by rfl)
   (hs:starEach [.Call (.Name "range" p') [a] [] pos'] X.env=[(false,eval (.Call (.Name "range" p') [a] [] pos') X.env)]:=by rfl):PI X tg (.Call (.Name "reversed" p) [.Call (.Name "range" p') [a] [] pos'] [] pos) (dI X.K τ (dnD n)):=
 piW (xp B.calm hg (B.blt _ (by decide)) hg' (B.blt _ (by decide)) (ae h ag hs') hs' hs) λσ H R ⟨A,H₀,B,S,k⟩=>fP S λvs H1 e1 d1=>by
   cases d1 with
   | cons d r=>
     cases r
     cases d
     refine ⟨n,rfl,hn,k _ H1 e1 λH2 sg=>⟨λi hi=>by rw [gQ] at hi; exact hi,λi hi=>⟨by rw [gQ] at hi; exact hi,λx H' ⟨eH,ex⟩=>?_⟩⟩⟩
     subst eH ex
     refine ⟨ah.refl _,λM _ _=>?_⟩
     simp only [dnD,List.getElem_map,List.getElem_range]
     exact .int
end
end Hy
namespace Hy
open PySem PySem.Spec PyProof.Rows L2
open Ev (D Den au aj aG eK cU PTs cD dr)
section
variable {X:Cx}
end
section
variable {X:Cx} {C:Bool} {τ:List Sl} {e it:Expr} {pos p q p2 pos2 tp ip vp rp ap cp p1:Pos} {k:Nat} {N:Po} {rest:List Stmt} {scope:Scope}
theorem tW {α β:Type} (g:α->β):∀ (xs:List α) (i:Nat),(xs.eraseIdx i).map g=(xs.map g).eraseIdx i
 | [],_=>rfl
 | _ :: _,0=>rfl
 | x :: xs,i + 1=>by rw [List.map_cons,List.eraseIdx_cons_succ,List.eraseIdx_cons_succ,List.map_cons,tW g xs i]
end
end Hy
namespace Hy
open PySem PySem.Spec PyProof.Rows L2
open Ev (D Den au aj)
theorem kB {K:PySem.W.Frag} {H:Hp}:∀ {vs:List V} {ds:List D} (j:Nat),au K H vs ds->au K H (vs.eraseIdx j) (ds.eraseIdx j)
 | _,_,_,.nil=>.nil
 | _,_,0,.cons _ r=>r
 | _,_,j + 1,.cons h r=>.cons h (kB j r)
theorem qv {K:PySem.W.Frag} {H:Hp} {v:V} {x:D} (h:Den K H v x):∀ {vs:List V} {ds:List D} (j:Nat),au K H vs ds->au K H (vs.insertIdx j v) (ds.insertIdx j x)
 | _,_,0,r=>.cons h r
 | _,_,_ + 1,.nil=>.nil
 | _,_,j + 1,.cons h1 r=>.cons h1 (qv h j r)
section
variable {X:Cx} {τ:List Sl} {a b:Expr} {pos p q:Pos} {N:Po} {rest:List Stmt}
theorem A0 (i:Nat) {n:Str} {xs:List D} {ap cp ap2 cp2:Pos} {k j:Nat} (x:D) (ha:PE X a (dE X.K false τ (.d (.int (k:Nat))))) (hb:PE X b (dE X.K false τ (.d (.int (j:Nat))))) (hj:xs[j]?=some x) (hk:k < xs.length) (hl:xs.length < 1000000) (hr:PSs X rest (dS X.K (τ.set i (.o ((xs.eraseIdx j).insertIdx k x))) N)) (hi:τ[i]?=some (.o xs):=by rfl) (hN:X.N[i]?=some n:=by rfl)
   (hv:Vis X.env.scope n:=by first | exact Or.inl rfl | exact Or.inr (Or.inl rfl) | exact Or.inr (Or.inr rfl)) (hd:(n == ("__debug__" : Str))=false:=by decide) (hcd:(n == ("__classdict__" : Str))=false:=by decide)
   (hfew:((backTo cp (starEach [a,.Call (.Attribute (.Name n q) "pop" ap2) [b] [] cp2] X.env)).all (λx=>!x.1) && (backToKw cp (keywordEach [] X.env)).all (λx=>x.1.isSome) && decide (([a,.Call (.Attribute (.Name n q) "pop" ap2) [b] [] cp2]:List Expr).length + ([]:List Keyword).length + (if ([]:List Keyword).isEmpty then 0 else 1) < 30))=true:=by rfl)
   (hline:(ap.endLine == cp.line)=true:=by rfl) (hst:starEach [a,.Call (.Attribute (.Name n q) "pop" ap2) [b] [] cp2] X.env=(false,eval a X.env) :: starEach [.Call (.Attribute (.Name n q) "pop" ap2) [b] [] cp2] X.env:=by rfl)
   (hst2:starEach [.Call (.Attribute (.Name n q) "pop" ap2) [b] [] cp2] X.env=(false,eval (.Call (.Attribute (.Name n q) "pop" ap2) [b] [] cp2) X.env) :: starEach [] X.env:=by rfl) (hpl:(backTo cp (starEach [.Call (.Attribute (.Name n q) "pop" ap2) [b] [] cp2] X.env)).any (·.1)=false:=by rfl)
   (hs:swapsWith (.Call (.Attribute (.Name n p) "insert" ap) [a,.Call (.Attribute (.Name n q) "pop" ap2) [b] [] cp2] [] cp) none pos.line X.env=pure false:=by rfl) (hbase:attributeBase (.Name n p) "insert" X.env (eval (.Name n p) X.env)=eval (.Name n p) X.env:=by rfl)
   (hfew2:((backTo cp2 (starEach [b] X.env)).all (λx=>!x.1) && (backToKw cp2 (keywordEach [] X.env)).all (λx=>x.1.isSome) && decide (([b]:List Expr).length + ([]:List Keyword).length + (if ([]:List Keyword).isEmpty then 0 else 1) < 30))=true:=by rfl) (hline2:(ap2.endLine == cp2.line)=true:=by rfl)
   (hst3:starEach [b] X.env=(false,eval b X.env) :: starEach [] X.env:=by rfl) (hpl2:(backTo cp2 (starEach [] X.env)).any (·.1)=false:=by rfl) (hbase2:attributeBase (.Name n q) "pop" X.env (eval (.Name n q) X.env)=eval (.Name n q) X.env:=by rfl) :
   PSs X (.Expr (.Call (.Attribute (.Name n p) "insert" ap) [a,.Call (.Attribute (.Name n q) "pop" ap2) [b] [] cp2] [] cp) pos :: rest) (dS X.K τ N):=
 aZ (M:=(·=τ.set i (.o ((xs.eraseIdx j).insertIdx k x)))) (psW (fB (kA PySem.F.plainAttrs_list PySem.F.slot_list_insert PySem.F.type_list_insert rP (bH hN hv hd hcd)
     (bJ ha (bJ (kA PySem.F.plainAttrs_list PySem.F.slot_list_pop PySem.F.type_list_pop uU (bH hN hv hd hcd) (bJ hb c8 hst3) hbase2 hfew2 hline2 hst3 hpl2) c8 hst2) hst) hbase hfew hline hst hpl) hs) λDn σ H ⟨A,H₀,B,S,Me⟩=>by
   obtain ⟨l,vs,hbb,e1,e2,d⟩:=S.sl i _ hi
   have hjl:j < xs.length:=(List.getElem?_eq_some_iff.mp hj).1
   refine ⟨_,slot_of e1,.inl ⟨rfl,_,SqL.of e2⟩,aL S λw1 H1 f1 g1=>?_⟩
   cases g1
   have S1:=S.mono f1
   refine ⟨_,slot_of e1,.inl ⟨rfl,_,SqL.of (f1 _ _ e2)⟩,aL S1 λw2 H2 f2 g2=>?_⟩
   cases g2
   have S2:=S1.mono f2
   obtain ⟨l',vs',hb',e1',e2',d'⟩:=S2.sl i _ hi
   rw [e1] at e1'
   cases e1'
   have hln:=d'.length
   obtain ⟨v,hv1,dv⟩:=d'.get hj
   refine ⟨l,vs',(j:Int),j,v,rfl,rfl,e2',by omega,by omega,PySem.StrLaws.seqIndex_nonneg (by omega) (by omega),hv1,?_⟩
   have hel:(vs'.eraseIdx j).length=xs.length - 1:=by rw [List.length_eraseIdx_of_lt (by omega),hln]
   refine ⟨l,vs'.eraseIdx j,(k:Int),v,rfl,rfl,aA,by omega,by rw [Int.toNat_natCast]; omega,by rw [hel]; have:sizeLine > 1000000:=(by decide); omega,?_⟩
   rw [Int.toNat_natCast]
   have eu:upd (upd H2 l (.lst (vs'.eraseIdx j))) l (.lst ((vs'.eraseIdx j).insertIdx k v))=upd H2 l (.lst ((vs'.eraseIdx j).insertIdx k v)):=by
     funext z
     unfold upd
     split <;> rfl
   rw [eu]
   exact Me.nx _ _ _ _ rfl (S2.put hi hb' (qv dv k (kB j d')))) λ_ e=>e ▸ hr
end
end Hy
namespace Ev
open PySem PySem.Spec PyProof.Rows L2
section
variable {X:Cx} {o e f g:Expr} {pos apos cpos:Pos} {td te tf tg:TE}
end
section
variable {X:Cx} {tg l:Expr} {tl:TE}
end
end Ev
namespace Hy
open PySem PySem.Spec PyProof.Rows L2
open Ev (D Den au aj)
section
variable {X:Cx} {C:Bool} {τ:List Sl} {o e f g a b:Expr} {pos apos cpos p p2:Pos} {z w v:Str} {k:Nat} {xs:List D}
end
end Hy
namespace Tx
open PySem
noncomputable def inj (c:Nat):List (List Nat)->List Nat
 | []=>[]
 | [a]=>a
 | a :: b :: r=>a++c :: inj c (b :: r)
noncomputable def cs (x:Str):List Nat:=x.cps.toList
noncomputable def ch (c:Nat):Str:=⟨#[c]⟩
end Tx
namespace Hx
open PySem PySem.Spec PyProof.Rows L2
section
variable {X:Cx} {body:List Stmt} {h0:ExceptHandler} {hs:List ExceptHandler} {pos:Pos} {t:TS}
end
end Hx
namespace Hy
open PySem PySem.Spec PyProof.Rows L2
end Hy
namespace Hy
open PySem PySem.Spec PyProof.Rows L2
open Ev (D Den au aj aT aJ)
section
variable {X:Cx} {C:Bool} {τ:List Sl} {a b e e1 e2 e3 o:Expr} {pos p p2 tp:Pos} {k:Nat} {x x1 x2 x3:D} {N:Po} {rest:List Stmt}
theorem sW {lo hi:Option Expr} {l u:Option Int} {xs:List D} (ha:PE X a (dE X.K C τ (.d (.tup xs)))) (hl:PO X lo (dO X.K τ l)) (hu:PO X hi (dO X.K τ u)) (hw:¬ (HT.sIx xs.length 0 l=0/\HT.sIx xs.length xs.length u=xs.length)):PE X (.Subscript a (.Slice lo hi none p2) pos) (dE X.K C τ (.d (.tup (cutD xs l u)))):=
 peW (mT yU ha hl hu) λσ H Q q=>by
   obtain ⟨A,H₀,B,S,k⟩:=cJ q
   exact aL S λv H1 e1 d1=>⟨A,H₀,B,S.mono e1,λH2 e2=>⟨A,H₀,B,(S.mono e1).mono e2,λH3 e3=>by
     cases d1 with
     | @tup _ ws _ h r=>
       have h:=aT (e2.trans e3) (aT aH h)
       have r:=r.mono (ax (e2.trans e3) λ_ z=>z)
       refine ⟨_,_,rfl,h,by rw [r.length]; exact hw,λp hp=>?_⟩
       have r':au X.K (hd H3 (vw C A B)) (jA ws l u) (cutD xs l u):=by
         unfold jA cutD
         rw [r.length]
         exact (r.drop _).take _
       have hM:=(((S.mono e1).mono e2).mono e3).vd (C:=C)
       have e4:=aj hp (.tup (jA ws l u))
       exact k _ _ ((e1.trans (e2.trans e3)).trans e4) (.tup (SqT.of (jZ hM hp)) (r'.mono (ax e4 λ_ z=>z)))⟩⟩
theorem gk {K:PySem.W.Frag} {G H:Hp}:∀ {vs:List V} {bs:List Addr} {ds:List D},aI K G H vs bs (ds.map .d)->au K G vs ds/\bs=[]
 | _,_,[],h=>by cases h; exact ⟨.nil,rfl⟩
 | _,_,x :: ds,h=>by
   rw [List.map_cons] at h
   cases h with
   | cons h r=>
     cases h with
     | d h=>
       obtain ⟨d1,rfl⟩:=gk r
       exact ⟨.cons h d1,rfl⟩
theorem yx {i:Nat} {pt:List Nat} {t:Nd} {ds:List D} {m:Int} {j:Nat} {ix:Expr} {sp:Pos} (ho:PE X o (dP X.K τ i pt)) (hx:PE X ix (dE X.K false τ (.d (.int m)))) (he:PE X e (dE X.K true τ (.d x))) (hi:τ[i]?=some (.n t)) (hp:cY pt t=some (.l (ds.map .d))) (hj:ixN ds.length m=some j)
   (hr:PSs X rest (dS X.K (τ.set i (.n (cy pt t (.l ((ds.set j x).map .d))))) N))
   (hs:swapsWithSole [.Subscript o ix sp] e pos.line X.env=pure false:=by rfl) (hw:swappedStores [.Subscript o ix sp] e X.env=pure none:=by rfl) (h1:(assignEach [.Subscript o ix sp] X.env).map (·.2)=[assign (.Subscript o ix sp) X.env]:=by rfl)
   (ha:∀ v,assign (.Subscript o ix sp) X.env v=(do
     let ov <- holding [v] (eval o X.env)
     let iv <- holding [v,ov] (eval ix X.env)
     standAt sp
     holding [v,ov,iv] (setItem ov iv v)
     release [v,ov,iv] []):=by intro _; rfl) :
   PSs X (.Assign [.Subscript o ix sp] e pos :: rest) (dS X.K τ N):=
 aZ (M:=(·=τ.set i (.n (cy pt t (.l ((ds.set j x).map .d)))))) (psW (l9 he (o9 ho hx set_list ha) hs hw h1) λD σ H ⟨A,H₀,B,S,Me⟩=>aL S λv H1 e1 d1=>by
   refine ⟨A,H₀,B,S.mono e1,λu w H2 eu e2 pv=>aL ((S.mono e1).mono e2) λy H3 e3 d3=>?_⟩
   have S3:=((S.mono e1).mono e2).mono e3
   obtain ⟨u',l,vs,bs0,eu',pv',hH,r0,nd0,hal,hown,put⟩:=S3.putN hi hp
   rw [eu] at eu'
   cases eu'
   obtain rfl:=(pv.mono e3).det pv'
   cases d3
   obtain ⟨dl,rfl⟩:=gk r0
   refine ⟨l,vs,m,j,rfl,rfl,hH,by rw [dl.length]; exact hj,?_⟩
   have sm:ah (hd H3 (own A B)) (hd (upd H3 l (.lst (vs.set j v))) λb=>own A B b\/b ∈ ([]:List Addr)):=λb o z=>by
     obtain ⟨z1,z2⟩:=ak.mp z
     exact ak.mpr ⟨(λy=>y.elim z1 λy=>(nomatch y)),by rw [aw (λy:b=l=>z1 (by rw [y]; exact hal))]; exact z2⟩
   obtain ⟨B',S'⟩:=put (H1:=H3) (vs':=vs.set j v) (bs1:=[]) (xs':=(ds.set j x).map .d) (ah.refl _) List.nodup_nil (λ_ z=>nomatch z) (lJ ((iV j dl (d1.mono (ax (e2.trans e3) λ_ z=>z))).mono sm))
   exact Me.nx _ B' _ _ rfl S') λ_ e=>e ▸ hr
end
section
variable {X:Cx} {τ τ1 τ2:List Sl} {x y z:D} {a b e o ix:Expr} {es:List Expr} {pos p q:Pos} {l:Nat} {s:Sl} {N:Po} {st:Stmt} {body rest:List Stmt} {i j k:Nat} {t c:Nd} {pt:List Nat} {xs:List Nd} {m:Nat} {ds:List D}
theorem ej (h:PE X e (dE X.K false τ (.d x))):PE X e (dEJ X.K τ i j k x):=peW h λσ H Q ⟨A,H₀,B,S,_,q⟩=>aL S λv H' e d=>q v H' e d
end
section
variable {X:Cx} {τ τ1 τ2:List Sl} {x y z:D} {a b e o ix:Expr} {pos p q:Pos} {l:Nat} {N:Po} {st:Stmt} {body rest:List Stmt} {i j k:Nat} {t c:Nd} {pt:List Nat} {ds:List D}
end
section
variable {K:PySem.W.Frag} {G H:Hp}
end
section
variable {X:Cx} {τ:List Sl} {ia ia2 ib ib2:Expr} {N:Po} {rest:List Stmt} {xs:List Nd} {xa xb:Nd}
end
section
variable {X:Cx} {τ:List Sl} {e2:Expr} {N:Po} {rest:List Stmt} {pos p tp:Pos} {x2:D} {t:Nd}
theorem y6 (i:Nat) {n:Str} {md} (h2:PE X e2 (dE X.K true τ (.d x2))) (h:N.rt (.n (.t [t,.d x2]))) (hi:τ[i]?=some (.n t):=by rfl) (hN:X.N[i]?=some n:=by rfl)
   (hv:Vis X.env.scope n:=by first | exact Or.inl rfl | exact Or.inr (Or.inl rfl) | exact Or.inr (Or.inr rfl)) (hd1:(n == ("__debug__" : Str))=false:=by decide) (hcd:(n == ("__classdict__" : Str))=false:=by decide)
   (s1:starEach [.Name n p,e2] X.env=(false,eval (.Name n p) X.env) :: starEach [e2] X.env:=by rfl) (s2:starEach [e2] X.env=(false,eval e2 X.env) :: starEach [] X.env:=by rfl) :
   PSs X (.Return (some (.Tuple [.Name n p,e2] md tp)) pos :: rest) (dS X.K τ N):=
 aZ (M:=λ_=>False) (psW (pM (ui (bJ (bH (i:=i) hN hv hd1 hcd) (bJ h2 c8 s2) s1))) λD σ H ⟨A,H₀,B,S,Me⟩=>by
   obtain ⟨_,u,eu,_⟩:=S.sl i _ hi
   refine ⟨_,slot_of eu,aL S λv2 H2 e2 d2=>⟨(show 2<=sizeLine by decide),λp hp=>?_⟩⟩
   have S2:=S.mono e2
   obtain ⟨nd,u',eu',ok⟩:=S2.sl i _ hi
   rw [eu] at eu'
   cases eu'
   have low:ah (hd H2 (own A B)) (hd H2 λb=>A b\/b ∈ B i):=ax (ah.refl _) λb z=>z.elim .inl λz=>.inr ⟨i,z⟩
   have nds:aI X.K (hd H2 λb=>A b\/b ∈ B i) H2 [u,v2] (B i) [t,.d x2]:=by
     have:=aI.cons (ok.frame low λ_ _=>rfl) (.cons (b1:=[]) (b2:=[]) (.d (d2.mono low)) .nil)
     rw [List.append_nil,List.append_nil] at this
     exact this
   obtain ⟨z1,z2⟩:=yg (o:=.tup [u,v2]) hp nds nd
   refine Me.rt (.ref p) _ (p :: B i) _ h (S2.same.trans (aj hp _)) (λb hb'=>?_) ⟨z2,_,rfl,.t aA z1⟩
   rcases List.mem_cons.mp hb' with w | w
   · subst w; exact ⟨S2.same.free hp,_,aA⟩
   · obtain ⟨o,w2⟩:=S2.bd i b w
     exact ⟨S2.fr i b w,o,aj hp _ _ _ w2⟩) λ_ e=>e.elim
end
section
variable {P:Program} {w:World} {K:PySem.W.Frag} {mg:Str->Option Value} {base:Heap}
end
section
variable {X:Cx} {τ:List Sl} {es:List Expr} {pos p q pr:Pos} {k:Nat} {s:Sl} {ds:List D} {N:Po} {rest:List Stmt}
end
end Hy
namespace L2
open PySem PySem.Spec PyProof.Rows
end L2
namespace Hy
open PySem PySem.Spec PyProof.Rows L2
open Ev (D Den au aj aT aJ aG eK cU PTs cD dr)
section
variable {P:Program} {w:World} {K:PySem.W.Frag} {mg:Str->Option Value} {base:Heap}
end
section
variable {X:Cx} {τ:List Sl} {es:List Expr} {pos p q pr:Pos} {k:Nat} {s:Sl} {ds xs:List D} {N:Po} {rest:List Stmt} {elt it:Expr} {scope:Scope}
end
end Hy
namespace Hy
open PySem PySem.Spec PyProof.Rows L2
open Ev (D Den au aj)
section
variable {X:Cx} {C:Bool} {τ:List Sl} {e o:Expr} {k c i:Nat} {N:Po} {rest body:List Stmt} {cl:Nat->Addr} {n:Str} {fw S:Addr} {p p' q psm pr ph pos pc pq:Pos} {t:Nd} {pt:List Nat} {xs:List Nd}
end
end Hy
namespace Hy
open PySem PySem.Spec PyProof.Rows L2
open Ev (D Den au aj aT aJ Ite zH lZ)
section
variable {X:Cx} {τ:List Sl} {k:Nat} {N:Po} {rest ret:List Stmt} {c:Expr} {ns:List Nd} {xs:List D} {p q ip tp pos bp cp pb:Pos}
end
end Hy
namespace Hy
open PySem PySem.Spec PyProof.Rows L2
open Ev (D Den au aJ eqD cM dU cln dep fg)
section
variable {X:Cx} {k:Nat} {x:D} {xs:List D}
end
end Hy
namespace Hy
open PySem PySem.Spec PyProof.Rows L2
open Ev (D Den au aj aT aJ)
section
variable {K:PySem.W.Frag} {A:Addr->Prop} {H₀ H:Hp} {τ:List Sl} {B:Nat->List Addr} {σ:L2.St}
theorem Sta.zZ {i j:Nat} {xs:List Nd} {s:Sl} {c:Nd} (S:Sta K A H₀ τ B σ H) (hij:i ≠ j) (hi:τ[i]?=some (.n (.l xs))) (hj:τ[j]?=some s) (hc:nV s=some c) :
   ∃ a vs w,(σ[i]?).join=some (.ref a)/\H a=some (.lst vs)/\vs.length=xs.length/\(σ[j]?).join=some w/\∃ B',Sta K A H₀ ((τ.set i (.n (.l (xs++[c])))).set j .un) B' σ (upd H a (.lst (vs++[w]))):=by
 obtain ⟨nd,u,eu,ok⟩:=S.sl i _ hi
 have q:=S.sl j s hj
 obtain ⟨w,ew⟩:∃ w,(σ[j]?).join=some w:=by
   cases s with
   | un=>cases hc
   | d x=>obtain ⟨_,u,e,_⟩:=q; exact ⟨u,e⟩
   | o xs=>obtain ⟨_,_,_,e,_⟩:=q; exact ⟨_,e⟩
   | n t=>obtain ⟨_,u,e,_⟩:=q; exact ⟨u,e⟩
   | x E=>cases hc
 rw [ew] at q
 obtain ⟨q1,q2⟩:=q.nd hc
 generalize hBi:B i=bi at nd ok
 cases ok with
 | @l a vs bs0 _ hH r0=>
   have hlj:=(List.getElem?_eq_some_iff.mp hj).1
   have hli:=(List.getElem?_eq_some_iff.mp hi).1
   have mi:∀ b,b=a\/b ∈ bs0->b ∈ B i:=λb hb=>by
     rw [hBi]
     rcases hb with z | z
     · rw [z]; exact List.mem_cons_self ..
     · exact List.mem_cons_of_mem _ z
   have dj:∀ b,b ∈ B i->b ∉ B j:=λb h1 h2=>hij (S.uq i j b h1 h2)
   have ha:own A B a:=.inr ⟨i,mi a (.inl rfl)⟩
   have mem:∀ k b,b ∈ upB (upB B i (a :: (bs0++B j))) j [] k->(k=i/\(b ∈ B i\/b ∈ B j))\/(k ≠ i/\k ≠ j/\b ∈ B k):=λk b z=>by
     rcases aX z with ⟨_,z⟩ | ⟨hk,z⟩
     · exact nomatch z
     · rcases aX z with ⟨h1,z⟩ | ⟨h1,z⟩
       · refine .inl ⟨h1,?_⟩
         rcases List.mem_cons.mp z with z | z
         · exact .inl (mi b (.inl z))
         · exact (List.mem_append.mp z).elim (λy=>.inl (mi b (.inr y))) .inr
       · exact .inr ⟨h1,hk,z⟩
   have sub:∀ b,own A (upB (upB B i (a :: (bs0++B j))) j []) b->own A B b:=λb z=>by
     rcases z with z | ⟨k,z⟩
     · exact .inl z
     · rcases mem k b z with ⟨_,z | z⟩ | ⟨_,_,z⟩
       · exact .inr ⟨i,z⟩
       · exact .inr ⟨j,z⟩
       · exact .inr ⟨k,z⟩
   have sm:ah (hd H (own A B)) (hd (upd H a (.lst (vs++[w]))) (own A (upB (upB B i (a :: (bs0++B j))) j []))):=λb o z=>by
     obtain ⟨z1,z2⟩:=ak.mp z
     exact ak.mpr ⟨λy=>z1 (sub b y),by rw [aw λe:b=a=>z1 (e ▸ ha)]; exact z2⟩
   have f0:H₀ a=none:=S.fr i a (mi a (.inl rfl))
   have na:a ∉ bs0:=(List.nodup_cons.mp nd).1
   have eBi:upB (upB B i (a :: (bs0++B j))) j [] i=a :: (bs0++B j):=by
     unfold upB
     rw [if_neg hij,if_pos rfl]
   have eBj:upB (upB B i (a :: (bs0++B j))) j [] j=[]:=by
     unfold upB
     rw [if_pos rfl]
   refine ⟨a,vs,w,eu,hH,r0.length,ew,upB (upB B i (a :: (bs0++B j))) j [],?_⟩
   refine ⟨λb o z=>by rw [aw λe:b=a=>by rw [e,f0] at z; cases z]; exact S.same b o z,by rw [List.length_set,List.length_set,S.len],λk t hk=>?_,λk b hb=>?_,λk l b h1 h2=>?_,S.ad,λk b hb=>?_⟩
   · by_cases ej:k=j
     · subst ej
       rw [List.getElem?_set_self (by rw [List.length_set]; exact hlj)] at hk
       cases hk
       exact eBj
     · rw [List.getElem?_set_ne λz=>ej z.symm] at hk
       by_cases ei:k=i
       · subst ei
         rw [List.getElem?_set_self hli] at hk
         cases hk
         rw [eBi]
         refine ⟨List.nodup_cons.mpr ⟨λz=>?_,List.nodup_append.mpr ⟨(List.nodup_cons.mp nd).2,q2,λx hx y hy e=>dj x (mi x (.inr hx)) (e ▸ hy)⟩⟩,_,eu,.l aA (aI.snoc (q1.frame sm λb hb=>aw λe:b=a=>dj a (mi a (.inl rfl)) (e ▸ hb)) (r0.frame sm λb hb=>aw λe:b=a=>na (e ▸ hb)))⟩
         exact (List.mem_append.mp z).elim na λy=>dj a (mi a (.inl rfl)) y
       · rw [List.getElem?_set_ne λz=>ei z.symm] at hk
         have eBk:upB (upB B i (a :: (bs0++B j))) j [] k=B k:=by
           unfold upB
           rw [if_neg ej,if_neg ei]
         rw [eBk]
         exact bV.frame sm (λb hb=>aw λe:b=a=>ei (S.uq k i a (e ▸ hb) (mi a (.inl rfl)))) (S.sl k t hk)
   · rcases mem k b hb with ⟨_,z | z⟩ | ⟨_,_,z⟩
     · exact S.fr i b z
     · exact S.fr j b z
     · exact S.fr k b z
   · rcases mem k b h1 with ⟨e1,z⟩ | ⟨e1,e1',z⟩
     · rcases mem l b h2 with ⟨e2,y⟩ | ⟨e2,e2',y⟩
       · rw [e1,e2]
       · rcases z with z | z
         · exact absurd (S.uq l i b y z) e2
         · exact absurd (S.uq l j b y z) e2'
     · rcases mem l b h2 with ⟨e2,y⟩ | ⟨e2,e2',y⟩
       · rcases y with y | y
         · exact absurd (S.uq k i b z y) e1
         · exact absurd (S.uq k j b z y) e1'
       · exact S.uq k l b z y
   · by_cases e:b=a
     · subst e; exact ⟨_,aA⟩
     · rw [aw e]
       rcases mem k b hb with ⟨_,z | z⟩ | ⟨_,_,z⟩
       · exact S.bd i b z
       · exact S.bd j b z
       · exact S.bd k b z
end
section
variable {X:Cx} {τ:List Sl} {N:Po} {rest:List Stmt} {xs:List Nd} {pos p p2:Pos} {s:Sl} {c:Nd}
theorem zg (i j:Nat) {n m:Str} {ap cp:Pos} (hl:xs.length < 1000000) (hr:PSs X rest (dS X.K ((τ.set i (.n (.l (xs++[c])))).set j .un) N)) (hi:τ[i]?=some (.n (.l xs)):=by rfl) (hj:τ[j]?=some s:=by rfl) (hc:nV s=some c:=by rfl) (hij:i ≠ j:=by decide) (hN:X.N[i]?=some n:=by rfl) (hM:X.N[j]?=some m:=by rfl)
   (hv:Vis X.env.scope n:=by first | exact Or.inl rfl | exact Or.inr (Or.inl rfl) | exact Or.inr (Or.inr rfl)) (hd:(n == ("__debug__" : Str))=false:=by decide) (hcd:(n == ("__classdict__" : Str))=false:=by decide)
   (hv':Vis X.env.scope m:=by first | exact Or.inl rfl | exact Or.inr (Or.inl rfl) | exact Or.inr (Or.inr rfl)) (hd':(m == ("__debug__" : Str))=false:=by decide) (hcd':(m == ("__classdict__" : Str))=false:=by decide)
   (hfew:((backTo cp (starEach [.Name m p2] X.env)).all (λx=>!x.1) && (backToKw cp (keywordEach [] X.env)).all (λx=>x.1.isSome) && decide (([.Name m p2]:List Expr).length + ([]:List Keyword).length + (if ([]:List Keyword).isEmpty then 0 else 1) < 30))=true:=by rfl)
   (hline:(ap.endLine == cp.line)=true:=by rfl) (hst:starEach [.Name m p2] X.env=(false,eval (.Name m p2) X.env) :: starEach [] X.env:=by rfl) (hpl:(backTo cp (starEach [] X.env)).any (·.1)=false:=by rfl)
   (hs:swapsWith (.Call (.Attribute (.Name n p) "append" ap) [.Name m p2] [] cp) none pos.line X.env=pure false:=by rfl) (hbase:attributeBase (.Name n p) "append" X.env (eval (.Name n p) X.env)=eval (.Name n p) X.env:=by rfl) :
   PSs X (.Expr (.Call (.Attribute (.Name n p) "append" ap) [.Name m p2] [] cp) pos :: rest) (dS X.K τ N):=
 aZ (M:=(·=(τ.set i (.n (.l (xs++[c])))).set j .un)) (psW (fB (kA PySem.F.plainAttrs_list PySem.F.slot_list_append PySem.F.type_list_append dF (bH hN hv hd hcd) (bJ (bH hM hv' hd' hcd') c8 hst) hbase hfew hline hst hpl) hs) λD σ H ⟨A,H₀,B,S,Me⟩=>by
   obtain ⟨a,vs,w,eu,hH,ln,ew,B',S'⟩:=S.zZ hij hi hj hc
   exact ⟨_,slot_of eu,.inl ⟨rfl,_,SqL.of hH⟩,w,slot_of ew,a,vs,w,rfl,rfl,hH,by rw [ln]; exact Nat.lt_trans hl (by decide),Me.nx _ _ _ _ rfl S'⟩) λ_ e=>e ▸ hr
end
end Hy
namespace Hy
open PySem PySem.Spec PyProof.Rows L2
open Ev (D Den au aE aD aj aT aJ eqD cM dU cln dep fg)
section
variable {X:Cx} {k:Nat} {x:D} {xs:List D}
theorem ug (hc:X.calm=true):eI X (.builtin "any") (λxs H Q=>∃ (p:Addr) (bs:List Bool),xs=[.ref p]/\SqL X.K H p (bs.map V.bl)/\Q (.bl (bs.any id)) H):=by
 intro pins s σ H xs us Q I r q
 obtain ⟨p,bs,rfl,h,q⟩:=q
 obtain ⟨u,rfl,ru⟩:∃ u,us=[u]/\RelV (.ref p) u:=by
   cases r with
   | cons r1 r=>cases r; exact ⟨_,rfl,r1⟩
 cases (show u=Value.ref _ from ru)
 obtain ⟨its,rv,pl,hz⟩:=I.list h
 obtain rfl:=eR rv
 have lt:∀ a,s.heap.IsList a (bs.map Value.bool).toArray->a ≠ s.heap.objs.size:=λa ⟨o,z,_⟩=>Nat.ne_of_lt (Heap.lt_size z)
 refine call_any_walk (wpAny_pyIter_list pl.isList ⟨_,_,_,_,_,_,λi=>(bs.map Value.bool)[i]? == some (Value.bool true),rfl,Walks.list (A:=X.A.in1) (I.ok.hd hc) _ _ (lt _ pl.isList) (bs.map Value.bool).toArray,⟨⟨_,Heap.get?_push_size _ rfl,rfl,rfl⟩,?_⟩,λi v s' Q' E' hP hQ=>?_,λh' tk hk=>?_⟩)
 · obtain ⟨o,z1,z2⟩:=pl.isList
   exact ⟨o,Heap.get?_push_of_some _ z1,z2⟩
 · have hP':(bs.map Value.bool)[i]?=some v:=by simpa using hP
   obtain ⟨c,_,rfl⟩:=List.mem_map.mp (List.mem_of_getElem? hP')
   refine wpAny_truthy_bool ?_
   have hQ:Q' ((bs.map Value.bool)[i]? == some (Value.bool true)) s':=hQ
   rw [hP'] at hQ
   cases c
   · exact hQ
   · exact hQ
 · refine ⟨.bl (bs.any id),H,I.kept (t':=tk) λb' o z=>?_,?_,q⟩
   · refine hk b' o (λhm=>?_) (Heap.get?_push_of_some _ z)
     have:b'=s.heap.objs.size:=by simpa using hm
     exact absurd (Heap.lt_size z) (by rw [this]; exact Nat.lt_irrefl _)
   · have e:∀ bs:List Bool,bs.any id=(List.range (bs.map Value.bool).toArray.size).any λi=>(bs.map Value.bool)[i]? == some (Value.bool true):=λbs=>by
       rw [List.size_toArray,List.length_map]
       induction bs with
       | nil=>rfl
       | cons b bs ih=>
         rw [List.any_cons,ih,List.length_cons,List.range_succ_eq_map,List.any_cons,List.any_map]
         congr 1
         cases b <;> rfl
     rw [e]; rfl
theorem BK (hc:X.calm=true) (bs:List Bool) (hx:xs=bs.map .bl):gf X (.builtin "any") [.lst xs] (.d (.bl (bs.any id))):=⟨_,ug hc,λM vs H Q _ d q=>by
 subst hx
 cases d with
 | cons d r=>
   cases r
   cases d with
   | lst h r=>
     cases lx r
     exact ⟨_,_,rfl,aJ aH h,q _ H [] (ah.refl _) eX (iT .bl)⟩⟩
theorem zX (hu:X.A.units + 70 < cLine):OpR X (compareOp .In) (λv y H Q=>∃ G d xs a,y=.ref a/\ah G H/\Den X.K G v d/\Den X.K G (.ref a) (.lst xs)/\cM d/\(∀ z ∈ xs,cM z)/\Q (.bl (xs.any λz=>eqD z d)) H):=by
 classical
 intro pins s σ H v y u u' Q I rx ry ⟨G,d,xs,a,e0,sg,dx,dy,o1,o2,q⟩
 subst e0
 cases ry
 cases dy with
 | @lst _ vs _ hl r=>
   obtain ⟨its,rv,pl,hz⟩:=I.list (aJ sg hl)
   have l1:=r.length
   have l2:=rv.length
   have i1:∀ A:Around,A.in1.units=A.units + 1:=λ_=>rfl
   have ev:∀ i (h:i < xs.length),∃ w,its[i]?=some w/\SeqAt.EqAt X.A.in1 s w u (eqD xs[i] d):=λi h=>by
     obtain ⟨v',w,e1,d1,r1⟩:=Lc.qN r rv (List.getElem?_eq_getElem h)
     have oz:=o2 _ (List.getElem_mem h)
     exact ⟨w,e1,Lc.um I sg d1 r1 dx rx oz.1 o1.1 (by rw [i1]; have:=oz.2; omega)⟩
   let f:Value->Bool:=λw=>decide (∃ i,∃ h:i < xs.length,its[i]?=some w/\eqD xs[i] d=true)
   have an:its.toArray.any f=xs.any λz=>eqD z d:=by
     rw [Bool.eq_iff_iff]
     constructor
     · intro h
       obtain ⟨w,hw,h⟩:=List.any_eq_true.mp (by simpa using h)
       obtain ⟨i,hi,_,e⟩:=of_decide_eq_true h
       exact List.any_eq_true.mpr ⟨_,List.getElem_mem hi,e⟩
     · intro h
       obtain ⟨z,hz,e⟩:=List.any_eq_true.mp h
       obtain ⟨i,hi,rfl⟩:=List.getElem_of_mem hz
       obtain ⟨w,ew,_⟩:=ev i hi
       have:its.any f=true:=List.any_eq_true.mpr ⟨w,List.mem_of_getElem? ew,decide_eq_true ⟨i,hi,ew,e⟩⟩
       simpa using this
   refine SeqAt.in_listAt f pl.isList (λw hw=>?_) ⟨.bl _,H,I,rfl,?_⟩
   · have hw:w ∈ its:=by simpa using hw
     obtain ⟨i,hi,e⟩:=List.getElem_of_mem hw
     have hi':i < xs.length:=by omega
     have ei:its[i]?=some w:=by rw [List.getElem?_eq_getElem hi,e]
     by_cases c:∃ i,∃ h:i < xs.length,its[i]?=some w/\eqD xs[i] d=true
     · have:f w=true:=decide_eq_true c
       rw [this]
       obtain ⟨j,hj,ej,t⟩:=c
       obtain ⟨w',ew,q'⟩:=ev j hj
       rw [ej] at ew
       cases ew
       rw [t] at q'
       exact q'
     · have:f w=false:=decide_eq_false c
       rw [this]
       obtain ⟨w',ew,q'⟩:=ev i hi'
       rw [ei] at ew
       cases ew
       cases t:eqD xs[i] d with
       | true=>exact absurd ⟨i,hi',ei,t⟩ c
       | false=>rw [t] at q'; exact q'
   · rw [an]
     exact q
theorem AQ (B:Bk X k) (h1:cM x) (h2:∀ z ∈ xs,cM z):b8 X (compareOp .In) x (.lst xs) (.bl (xs.any λz=>eqD z x)):=⟨_,zX (by have:=B.room.un; omega),λM v w H Q _ d1 d2 q=>by
 cases d2 with
 | lst h r=>exact ⟨_,x,xs,_,rfl,aH,d1,.lst h r,h1,h2,q _ H (ah.refl _) .bl⟩⟩
end
section
variable {X:Cx} {C:Bool} {τ:List Sl} {x:D} {e o:Expr} {pos:Pos} {N:Po} {rest:List Stmt}
theorem yB {i:Nat} {pt:List Nat} {t:Nd} {ds:List D} {m:Int} {j:Nat} {ix:Expr} {sp:Pos} (ho:PE X o (dP X.K τ i pt)) (hx:PE X ix (dE X.K false τ (.d (.int m)))) (he:PE X e (dE X.K false τ (.d x))) (hpar:par x=true) (h2:∀ (i:Nat) (t:Nd),τ[i]?=some (Sl.n t)->fu t=true) (hi:τ[i]?=some (.n t)) (hp:cY pt t=some (.l (ds.map .d))) (hj:ixN ds.length m=some j)
   (hr:PSs X rest (dS X.K (τ.set i (.n (cy pt t (.l ((ds.set j x).map .d))))) N))
   (hs:swapsWithSole [.Subscript o ix sp] e pos.line X.env=pure false:=by rfl) (hw:swappedStores [.Subscript o ix sp] e X.env=pure none:=by rfl) (h1:(assignEach [.Subscript o ix sp] X.env).map (·.2)=[assign (.Subscript o ix sp) X.env]:=by rfl)
   (ha:∀ v,assign (.Subscript o ix sp) X.env v=(do
     let ov <- holding [v] (eval o X.env)
     let iv <- holding [v,ov] (eval ix X.env)
     standAt sp
     holding [v,ov,iv] (setItem ov iv v)
     release [v,ov,iv] []):=by intro _; rfl) :
   PSs X (.Assign [.Subscript o ix sp] e pos :: rest) (dS X.K τ N):=
 aZ (M:=(·=τ.set i (.n (cy pt t (.l ((ds.set j x).map .d)))))) (psW (l9 he (o9 ho hx set_list ha) hs hw h1) λD σ H ⟨A,H₀,B0,S0,Me⟩=>aL S0 λv H1 e1 d0=>by
   have S:=S0.cut
   have d1:Den X.K (hd H1 (own A (pe τ B0))) v x:=wW (λb z=>(S0.mono e1).odd h2 b z) d0 hpar
   generalize pe τ B0=B at S d1
   refine ⟨A,H₀,B,S.mono e1,λu w H2 eu e2 pv=>aL ((S.mono e1).mono e2) λy H3 e3 d3=>?_⟩
   have S3:=((S.mono e1).mono e2).mono e3
   obtain ⟨u',l,vs,bs0,eu',pv',hH,r0,nd0,hal,hown,put⟩:=S3.putN hi hp
   rw [eu] at eu'
   cases eu'
   obtain rfl:=(pv.mono e3).det pv'
   cases d3
   obtain ⟨dl,rfl⟩:=gk r0
   refine ⟨l,vs,m,j,rfl,rfl,hH,by rw [dl.length]; exact hj,?_⟩
   have sm:ah (hd H3 (own A B)) (hd (upd H3 l (.lst (vs.set j v))) λb=>own A B b\/b ∈ ([]:List Addr)):=λb o z=>by
     obtain ⟨z1,z2⟩:=ak.mp z
     exact ak.mpr ⟨(λy=>y.elim z1 λy=>(nomatch y)),by rw [aw (λy:b=l=>z1 (by rw [y]; exact hal))]; exact z2⟩
   obtain ⟨B',S'⟩:=put (H1:=H3) (vs':=vs.set j v) (bs1:=[]) (xs':=(ds.set j x).map .d) (ah.refl _) List.nodup_nil (λ_ z=>nomatch z) (lJ ((iV j dl (d1.mono (ax (e2.trans e3) λ_ z=>z))).mono sm))
   exact Me.nx _ B' _ _ rfl S') λ_ e=>e ▸ hr
end
end Hy
namespace Ev
open PySem PySem.Spec PyProof.Rows L2
section
variable {prog:Program} {w:World} {A:Around} {E:Value->Shared->Prop} {s:Shared} {d it:Addr} {o:Obj} {es:Array DictEntry} {ep i:Nat}
theorem qa {Q:Value->Shared->Prop} (hd:(d == sysModules)=false) (ho:s.heap.get? d=some o) (hx:o.ExactDict) (hdat:o.data=.dict es ep)
   (hQ:Q (.ref s.heap.objs.size) { s with heap:=s.heap.push { cls:=.type "dict_keyiterator",data:=.fields #[.ref d,.int 0 0,.int es.size 0,.int ep 0] } }):wpAny (model prog w) A (pyIter (.ref d)) Q E s:=by
 have hT:s.TypeIs (.ref d) "dict":=⟨o,ho,hx.1⟩
 refine wpAny_pyIter_slot hT PySem.F.slot_dict_iter (wpAny_call_entry PySem.F.slot_dict_iter hT PySem.F.entry_dict_iter ?_ (PySem.F.args_dict_iter_1 _))
 unfold Builtin.«dict.__iter__»
 refine wpAny_bind ?_
 unfold Builtin.Dict.dictSlotNone
 refine wpAny_bind (wpAny_notOrdered_dict hT (wpAny_pure ?_))
 show wpAny _ _ (Builtin.Dict.showsAll d >>= _) _ _ s
 unfold Builtin.Dict.showsAll
 rw [if_neg (by rw [hd]; exact Bool.false_ne_true)]
 refine wpAny_bind (wpAny_pure (wpAny_bind (wpAny_dictEntries ho hdat (wpAny_bind (wpAny_dictEpoch ho hdat ?_)))))
 refine wpAny_bind (wpAny_newObj_type (wpAny_pure ⟨_,rfl,"dict_keyiterator",_,⟨_,Heap.get?_push_size _ rfl,rfl⟩,PySem.F.slot_dict_keyiterator_next.lookup,?_⟩))
 simpa [rawInt] using hQ
theorem sJ:Builtin.Dict_items.ownsTuple "dict_keyiterator" = false:=by decide
theorem p6 {Q:Option Value->Shared->Prop} (hit:s.heap.IsKeyIter it d i es.size ep) (ho:s.heap.get? d=some o) (hdat:o.data=.dict es ep) (hlt:i < es.size)
   (hQ:∀ h',h'.IsKeyIter it d (i + 1) es.size ep->Heap.SameBut it s.heap h'->Q (some es[i].key) { s with heap:=h' }):wpAny (model prog w) A (pyNext (.ref it)) Q E s:=by
 obtain ⟨oi,hoi,hc,hdi⟩:=id hit
 unfold pyNext
 refine wpAny_bind (wpAny_attempt (wpAny_callSpecial?_slot (name:=Str.ofString "__next__") hit.typeIs PySem.F.slot_dict_keyiterator_next (wpAny_call_entry PySem.F.slot_dict_keyiterator_next hit.typeIs PySem.F.entry_dict_keyiterator_next ?_ (PySem.F.args_dict_keyiterator_next_1 _))))
 refine wpAny_bind (wpAny_pure (wpAny_bind (wpAny_bind ?_)))
 first | refine wpAny_bind (wpAny_typeNameOfWhole_keyiter hit.typeIs (wpAny_pure ?_)) | refine wpAny_bind (wpAny_typeNameOf_keyiter hit.typeIs (wpAny_pure ?_))
 refine wpAny_bind (wpAny_fieldsOf hoi hdi ?_)
 simp only [sJ,Bool.false_eq_true,if_false]
 show wpAny _ _ (if (Value.ref d == Value.none)=true then _ else _) _ _ s
 rw [if_neg (show ¬ ((Value.ref d == Value.none)=true) from Bool.false_ne_true)]
 refine wpAny_bind (wpAny_pure (wpAny_bind (wpAny_dictEntries ho hdat ?_)))
 rw [if_neg (by simp)]
 refine wpAny_bind (wpAny_pure (wpAny_bind (wpAny_dictEpoch ho hdat ?_)))
 rw [if_neg (by simp)]
 refine wpAny_pure ?_
 simp only [show ¬ ((i:Int) < 0) from by omega,if_false,Int.toNat_natCast,Array.getElem?_eq_getElem hlt]
 refine wpAny_bind ?_
 first | refine wpAny_bind (wpAny_typeNameOfWhole_keyiter hit.typeIs (wpAny_pure ?_)) | refine wpAny_bind (wpAny_typeNameOf_keyiter hit.typeIs (wpAny_pure ?_))
 refine wpAny_bind (wpAny_isOneOf_keyiter hit.typeIs ?_)
 show wpAny _ _ (setField (.ref it) 1 (rawInt ((i:Int) + 1)) >>= _) _ _ s
 refine wpAny_bind (wpAny_setField hoi hdi (by simp) ?_)
 have hit':(s.heap.update it (Obj.mapFields (·.setIfInBounds 1 (rawInt ((i:Int) + 1))))).IsKeyIter it d (i + 1) es.size ep:=
   ⟨_,Heap.get?_update_self _ hoi (Obj.isFreed_of_fields (Obj.data_mapFields hdi _)),(Obj.cls_mapFields ..).trans hc,by rw [Obj.data_mapFields hdi]; simp [rawInt]⟩
 refine wpAny_bind (wpAny_holding ?_)
 refine wpAny_bind (wpAny_isOneOf_keyiter (s:={ s with heap:=s.heap.update it (Obj.mapFields (·.setIfInBounds 1 (rawInt ((i:Int) + 1)))) }) hit'.typeIs ?_)
 show wpAny _ _ (pure es[i].key) _ _ _
 exact wpAny_pure (wpAny_pure ⟨_,rfl,wpAny_pure (hQ _ hit' (Heap.SameBut.update ..))⟩)
theorem tR {Q:Option Value->Shared->Prop} (hh:A.handled=none) (hit:s.heap.IsKeyIter it d i es.size ep) (ho:s.heap.get? d=some o) (hdat:o.data=.dict es ep) (hge:es.size<=i)
   (hQ:∀ h',Heap.ExtBut it s.heap h'->Q none { s with heap:=h' }):wpAny (model prog w) A (pyNext (.ref it)) Q E s:=by
 obtain ⟨oi,hoi,hc,hdi⟩:=id hit
 unfold pyNext
 refine wpAny_bind (wpAny_attempt (wpAny_callSpecial?_slot (name:=Str.ofString "__next__") hit.typeIs PySem.F.slot_dict_keyiterator_next (wpAny_call_entry PySem.F.slot_dict_keyiterator_next hit.typeIs PySem.F.entry_dict_keyiterator_next ?_ (PySem.F.args_dict_keyiterator_next_1 _))))
 refine wpAny_bind (wpAny_pure (wpAny_bind (wpAny_bind ?_)))
 first | refine wpAny_bind (wpAny_typeNameOfWhole_keyiter hit.typeIs (wpAny_pure ?_)) | refine wpAny_bind (wpAny_typeNameOf_keyiter hit.typeIs (wpAny_pure ?_))
 refine wpAny_bind (wpAny_fieldsOf hoi hdi ?_)
 simp only [sJ,Bool.false_eq_true,if_false]
 show wpAny _ _ (if (Value.ref d == Value.none)=true then _ else _) _ _ s
 rw [if_neg (show ¬ ((Value.ref d == Value.none)=true) from Bool.false_ne_true)]
 refine wpAny_bind (wpAny_pure (wpAny_bind (wpAny_dictEntries ho hdat ?_)))
 rw [if_neg (by simp)]
 refine wpAny_bind (wpAny_pure (wpAny_bind (wpAny_dictEpoch ho hdat ?_)))
 rw [if_neg (by simp)]
 refine wpAny_pure ?_
 simp only [show ¬ ((i:Int) < 0) from by omega,if_false,Int.toNat_natCast,Array.getElem?_eq_none hge]
 refine wpAny_bind ?_
 first | refine wpAny_bind (wpAny_typeNameOfWhole_keyiter hit.typeIs (wpAny_pure ?_)) | refine wpAny_bind (wpAny_typeNameOf_keyiter hit.typeIs (wpAny_pure ?_))
 show wpAny _ _ (setField (.ref it) 0 .none >>= _) _ _ s
 refine wpAny_bind (wpAny_setField hoi hdi (by simp) ?_)
 show wpAny _ _ (newExc (.type "StopIteration") [] >>= _) _ _ _
 refine wpAny_bind ?_
 simp only [newExc,newTuple]
 refine wpAny_bind (wpAny_newObj_type ?_ (by size_fits))
 refine wpAny_bind (m:=firstArgMember _ _) (wpAny_of_eq (a:=Value.none) (by first | rfl | (simp only [firstArgMember]; rfl)) ?_)
 refine wpAny_newObj_type ?_ (by size_fits)
 simp only [raiseNew]
 refine wpAny_bind (wpAny_handled ?_)
 rw [show A.in1.handled=none from hh]
 refine wpAny_bind (wpAny_pure (wpAny_throw ?_))
 refine wpAny_bind (wpAny_isInstance (T:="StopIteration") (b:=true) ⟨_,Heap.get?_push_size _ rfl,rfl⟩ isSubtype_stop ?_)
 exact wpAny_pure (hQ _ (((Heap.SameBut.update ..).extBut.push _).push _))
end
section
variable {K:Type} [DecidableEq K] {a:KD K} {hd:a.dep<=7} {X:Cx} {pins:List (Addr × Obj)} {σ:L2.St} {H:Hp} {s:Shared} {d:Addr} {xs:NEs K} {ob:Obj}
theorem uo (I:Inv X pins σ H s) (h:H d=some (.frz ob (dNk a hd X.prog X.w d xs))):(d == sysModules)=false/\∃ es ep,s.heap.get? d=some ob/\ob.ExactDict/\ob.data=.dict es ep/\es.toList=xs.map (entryOfKey (kd a hd X.prog X.w))/\(xs.map (·.1)).Nodup:=by
 obtain ⟨e,⟨h0,o,es,ep,h1,h2⟩,_⟩:=(show bf X.prog X.w H s.heap d (.frz ob (dNk a hd X.prog X.w d xs)) from I.hok d _ h)
 rw [e] at h1
 cases h1
 exact ⟨h0,es,ep,e,h2⟩
noncomputable def Itw (a:KD K) (hd:a.dep<=7) (P:Program) (w:World) (d:Addr) (ob:Obj) (xs:NEs K):L2.It:=
 ⟨λi H=>i < xs.length/\H d=some (.frz ob (dNk a hd P w d xs)),λi H x H'=>H'=H/\∃ p,xs[i]?=some p/\x=.ref p.2.1,λi H=>xs.length<=i/\H d=some (.frz ob (dNk a hd P w d xs))⟩
theorem vo {P:Program} {w:World} {F:PySem.W.Frag} {tg:Expr} (it:Addr) (es:Array DictEntry) (ep:Nat) (hdat:ob.data=.dict es ep) :
   Turn P w F false tg (Itw a hd P w d ob xs) [it] it (λi h=>i<=xs.length/\h.IsKeyIter it d i xs.length ep) where
 mem:=by simp
 obj:=λi h st b hb=>by
   have e:b=it:=by simpa using hb
   subst e
   obtain ⟨o,e,c,d⟩:=st.2
   exact ⟨o,e,λv z=>by rw [d] at z; cases z⟩
 keep:=λi h h' st k=>⟨st.1,st.2.at λo e=>k it (by simp) o e⟩
 item:=by
   intro X hP hw hK hc i pins s σ H E I hf st hg
   subst hP hw hK
   obtain ⟨hi,ha⟩:=hg
   obtain ⟨f0,f1,f2,f3,f4,f5⟩:=hf it (by simp)
   obtain ⟨_,es',ep',g1,_,g3,g4,_⟩:=uo I ha
   rw [hdat] at g3
   injection g3 with z1 z2
   subst z1 z2
   have hl:es.size=xs.length:=by rw [<- Array.length_toList,g4,List.length_map]
   have st2:=st.2
   rw [<- hl] at st2
   have hie:i < es.size:=by omega
   have hk:es[i].key=.ref (xs[i]).2.1:=by
     have e:es.toList[i]?=some (entryOfKey (kd a hd X.prog X.w) xs[i]):=by rw [g4,List.getElem?_map,List.getElem?_eq_getElem hi]; rfl
     rw [Array.getElem?_toList,Array.getElem?_eq_getElem hie] at e
     rw [Option.some.inj e]
     rfl
   refine p6 st2 g1 hdat hie λh' st' sb=>?_
   have I1:Inv X pins σ H { s with heap:=h' }:=I.turned (t':=s.toks) (λb o hb e=>(sb.2 b hb).trans e) f0 f1 f3 f4 f5
   obtain ⟨o',e,c,dd⟩:=id st'
   rw [hk]
   refine ⟨_,rfl,kL (s:={ s with heap:=h' }) e c dd (by decide) ⟨.ref (xs[i]).2.1,H,I1,rfl,⟨rfl,_,List.getElem?_eq_getElem hi,rfl⟩,⟨hi,by rw [<- hl]; exact st'⟩,λb hb=>(hf b hb).1⟩⟩
 done:=by
   intro X hP hw hK hc i pins s σ H E I hf st hg
   subst hP hw hK
   obtain ⟨hi,ha⟩:=hg
   obtain ⟨f0,f1,f2,f3,f4,f5⟩:=hf it (by simp)
   obtain ⟨_,es',ep',g1,_,g3,g4,_⟩:=uo I ha
   rw [hdat] at g3
   injection g3 with z1 z2
   subst z1 z2
   have hl:es.size=xs.length:=by rw [<- Array.length_toList,g4,List.length_map]
   have st2:=st.2
   rw [<- hl] at st2
   exact tR (I.ok.hd hc.calm) st2 g1 hdat (by omega) λh' eb=>⟨rfl,I.turned (t':=s.toks) (λb o hb e=>eb b o hb e) f0 f1 f3 f4 f5⟩
 self:=λ_ _ _ _ _ st h=>wpAny_pyIter_keyiter st.2 h
end
section
variable {K:Type} [DecidableEq K] {a:KD K} {hd:a.dep<=7} {X:Cx} {tg l o i:Expr} {tl td ty:TE} {pos:Pos}
noncomputable def yn (a:KD K) (hd:a.dep<=7) (P:Program) (w:World) (tl:TE):TI:=λσ H R=>tl σ H λx H1=>∃ d ob xs,x=.ref d/\H1 d=some (.frz ob (dNk a hd P w d xs))/\R (Itw a hd P w d ob xs) H1
theorem nA (hc:X.calm=true) (hl:PE X l tl):PI X tg l (yn a hd X.prog X.w tl):=by
 intro pins s σ H R I h
 refine thn (hl pins s σ H _ I h) λu s1 ⟨x,H1,I1,r1,d,ob,xs,ex,ha,q⟩=>?_
 subst ex
 cases r1
 obtain ⟨h0,es,ep,g1,g2,g3,g4,_⟩:=uo I1 ha
 have hl:es.size=xs.length:=by rw [<- Array.length_toList,g4,List.length_map]
 refine qa h0 g1 g2 g3 ?_
 refine ⟨false,s1.heap.objs.size,[s1.heap.objs.size],_,_,H1,rfl,I1.kept (t':=s1.toks) λb o e=>Heap.get?_push_of_some _ e,.inl hc,vo (xs:=xs) _ es ep g3,⟨Nat.zero_le _,?_⟩,λb hb=>?_,q⟩
 · rw [<- hl]
   exact ⟨_,Heap.get?_push_size _ rfl,rfl,rfl⟩
 · have e:b=s1.heap.objs.size:=by simpa using hb
   subst e
   exact I1.kg (Nat.le_refl _) (I1.hok.fresh (Nat.le_refl _))
noncomputable def AH (a:KD K) (hd:a.dep<=7) (P:Program) (w:World) (F:PySem.W.Frag) (td ty:TE):TE:=λσ H Q=>td σ H λx H1=>ty σ H1 λy H2=>∃ d ob b k xs p v,x=.ref d/\y=.ref b/\H2 d=some (.frz ob (dNk a hd P w d xs))/\(∀ x ∈ xs,Den F H2 (.ref x.2.1) (a.toD x.1))/\Den F H2 (.ref b) (a.toD k)/\atKey xs k=some p/\RelV v p.2/\Q v H2
theorem qj (hu:X.A.units + 16 < cLine) (ho:PE X o td) (hi:PE X i ty) (hs:ke i):PE X (.Subscript o i pos) (AH a hd X.prog X.w X.K td ty):=by
 intro pins s σ H Q I h
 refine mv PySem.F.slot_dict_getitem.lookup hs (thn (ho pins s σ H _ I h) λu s1 ⟨x,H1,I1,rx,q1⟩=>thn (hi pins s1 σ H1 _ I1 q1) λiv s2 ⟨y,H2,I2,ry,d,ob,b,k,xs,p,v,ex,ey,ha,hk,g,hp,rv,q2⟩=>?_)
 subst ex ey
 obtain rfl:u=Value.ref d:=rx
 obtain rfl:iv=Value.ref b:=ry
 obtain ⟨_,es,ep,g1,g2,g3,g4,g5⟩:=uo I2 ha
 have dd:s2.heap.DictOfH (kd a hd X.prog X.w) d xs:=⟨ob,es,ep,g1,g2,g3,g4,λx hx=>key_is I2 (hk x hx),g5⟩
 exact ⟨dd.typeIs,wpAny_getItem_heap (show X.A.units + 1 + 8 < cLine by omega) (key_is I2 g) dd hp ⟨v,H2,I2.tok _,rv,q2⟩⟩
end
end Ev
namespace Hy
open PySem PySem.Spec PyProof.Rows L2
open Ev (D Den au KD NEs dNk fU Bx aj uo Itw nA qj)
section
variable {K:Type} [DecidableEq K] {a:KD K} {hd:a.dep<=7} {X:Cx} {C:Bool} {τ:List Sl} {x y:D} {b e f o ix tg:Expr} {pos p q apos cpos:Pos} {k:Nat} {N:Po} {rest:List Stmt} {m:List (K × D)} {key:K}
noncomputable def bxW (a:KD K) (hd:a.dep<=7) (P:Program) (w:World) (m:List (K × D)):Bx where
 p:=λF H d=>∃ ob xs,H d=some (.frz ob (dNk a hd P w d xs))/\EnK a F H xs m
 mono:=λe ⟨ob,xs,h1,h2⟩=>⟨ob,xs,e _ _ h1,h2.mono e⟩
 isd:=λ{_ _ d} ⟨ob,xs,h1,_⟩=>⟨_,h1,λP w H' h z=>let ⟨_,o,_,_,z1,z2,_⟩:=z.2.1; ⟨o,z1,z2.1⟩⟩
noncomputable def exW (a:KD K) (hd:a.dep<=7) (P:Program) (w:World) (ob:Obj) (m:List (K × D)):Ex where
 p:=λF G o p=>∃ xs,o=.frz ob (dNk a hd P w p xs)/\EnK a F G xs m
 mono:=λe ⟨xs,h1,h2⟩=>⟨xs,h1,h2.mono e⟩
 ext:=λ⟨xs,h1,_⟩=>.inr (.inl ⟨_,_,h1⟩)
theorem Sta.fzW {F:PySem.W.Frag} {P:Program} {w:World} {A:Addr->Prop} {H₀ H:Hp} {B:Nat->List Addr} {σ:L2.St} {i:Nat} {ob:Obj} (S:Sta F A H₀ τ B σ H) (hi:τ[i]?=some (.x (exW a hd P w ob m))):Sta F A H₀ (τ.set i (.d (.box (bxW a hd P w m)))) (upB B i []) σ H:=
 S.less (λ_ z=>nomatch z) λG g hv=>by
   obtain ⟨d,o,h1,h2,h3,xs,h4,h5⟩:=S.sl i _ hi
   subst h4
   exact ⟨rfl,_,h2,.box ⟨ob,xs,hv d _ (by rw [h1]; exact List.mem_singleton.mpr rfl) (λz=>nomatch z) h3,h5.mono g⟩⟩
theorem xM (i:Nat) (h:PSs X rest (dS X.K (τ.set i (.d (.box (bxW a hd X.prog X.w m)))) N)) (hi:τ[i]?=some (.x (exK a hd X.prog X.w m)):=by rfl):PSs X rest (dS X.K τ N):=by
 intro pins s σ H D I ⟨A,H₀,B,S,Me⟩
 obtain ⟨d,xs,h1,h2,h3,h4⟩:=S.dct hi
 obtain ⟨⟨z0,o,es,ep,z1,z2⟩,z3,z4⟩:=(show bf X.prog X.w H s.heap d (dNk a hd X.prog X.w d xs) from I.hok d _ h3)
 have I2:Inv X pins σ (upd H d (.frz o (dNk a hd X.prog X.w d xs))) s:=dY (t':=s.toks) (h':=s.heap) I (by rw [h3]; exact True.intro) (.refl _ _) ⟨o,z1⟩ ⟨z1,⟨z0,o,es,ep,z1,z2⟩,z3,z4⟩
 have hl:=(List.getElem?_eq_some_iff.mp hi).1
 have S2:=S.vT (E':=exW a hd X.prog X.w o m) hi h2 ⟨xs,rfl,h4⟩
 have S3:=S2.fzW (ob:=o) (m:=m) (List.getElem?_set_self hl)
 rw [List.set_set] at S3
 exact h pins s σ _ D I2 ⟨A,H₀,_,S3,Me⟩
theorem tU (hu:X.A.units + 16 < cLine) (hb:PE X b (dE X.K C τ (.d (.box (bxW a hd X.prog X.w m))))) (hk:PE X ix (dE X.K C τ (.d (a.toD key)))) (hx:getM m key=some x) (hr:∀ H v,Den X.K H v (a.toD key)->∃ b,v=.ref b) (hs:ke ix):PE X (.Subscript b ix pos) (dE X.K C τ (.d x)):=
 peW (qj (a:=a) (hd:=hd) hu hb hk hs) λσ H Q q=>by
   obtain ⟨A,H₀,B,S,kk⟩:=cJ q
   refine aL S λv H1 e1 d1=>aL (S.mono e1) λy H2 e2 dy=>?_
   obtain ⟨b',rfl⟩:=hr _ _ dy
   cases d1.mono (ax e2 λ_ z=>z) with
   | box h=>
     obtain ⟨ob,xs,g3,g4⟩:=h
     have:=g4.at key
     rw [hx] at this
     obtain ⟨pp,v,h1,h2,h3⟩:=this
     exact ⟨_,ob,b',key,xs,pp,v,rfl,rfl,aH _ _ g3,λz hz=>(g4.key z hz).mono aH,dy.mono aH,h1,h2,kk v H2 (e1.trans e2) h3⟩
theorem EnK.uE {F:PySem.W.Frag} {G:Hp}:∀ {xs:NEs K} {m:List (K × D)},EnK a F G xs m->∀ i (h:i < m.length),∃ p,xs[i]?=some p/\p.1=(m[i]).1
 | _,_,.nil,i,h=>absurd h (by simp)
 | _,_,.cons ..,0,_=>⟨_,rfl,rfl⟩
 | _,_,.cons _ _ _ r,i + 1,h=>by
   obtain ⟨p,h1,h2⟩:=EnK.uE r i (by simpa using h)
   exact ⟨p,h1,h2⟩
theorem pS (h:PE X e (dE X.K true τ (.d (.box (bxW a hd X.prog X.w m))))) (hc:X.calm=true:=by first | rfl | assumption):PI X tg e (dI X.K τ (m.map λp=>a.toD p.1)):=piW (nA (a:=a) (hd:=hd) hc h) λσ H R ⟨A,H₀,B,S,k⟩=>aL S λv H1 e1 d1=>by
 cases d1 with
 | box h=>
   obtain ⟨ob,xs,g,en⟩:=h
   have ln:=en.length
   refine ⟨_,ob,xs,rfl,aH _ _ g,k _ H1 e1 λH2 sg=>⟨λi hi=>⟨by rw [ln]; simpa using hi,sg _ _ g⟩,λi hi=>⟨⟨by rw [ln]; simpa using hi,sg _ _ g⟩,λx H' ⟨eH,p,hp,ex⟩=>?_⟩⟩⟩
   subst eH ex
   refine ⟨ah.refl _,λM hM sM=>?_⟩
   have hi':i < m.length:=by simpa using hi
   obtain ⟨p',hp',ek⟩:=en.uE i hi'
   rw [hp] at hp'
   cases hp'
   rw [List.getElem_map,<- ek]
   exact (en.key p (List.mem_of_getElem? hp)).mono sM
end
end Hy
namespace Ev
open PySem PySem.Spec PyProof.Rows L2 PySem.W
section
variable {prog:Program} {w:World} {d:Addr} {o:Obj} {es:Array DictEntry} {ep:Nat}
theorem yC (h0:(d == sysModules)=false) (hx:o.ExactDict) (hdat:o.data=.dict es ep):KdlSrc prog w "dict" d d es.size (λi v=>∃ h:i < es.size,v=es[i].key) (λh=>h.get? d=some o) where
 type:=λs h=>⟨o,h,hx.1⟩
 there:=λh e=>⟨Heap.lt_size e,Heap.lt_size e⟩
 keep:=λh h' e k=>k d (.inl rfl) o e
 notList:=by decide
 notTuple:=by decide
 hint:=λA E s Q e q=>kdl_hint_dict ⟨o,e,hx.1⟩ q
 iter:=λA s hh e=>by
   have ne:d ≠ s.heap.objs.size:=Nat.ne_of_lt (Heap.lt_size e)
   refine ⟨_,λi h=>h.get? d=some o/\h.IsKeyIter s.heap.objs.size d i es.size ep,λE Q q=>qa h0 e hx hdat q,?_,Heap.get?_push_of_some _ e,⟨_,Heap.get?_push_size _ rfl,rfl,rfl⟩⟩
   exact {
     sub:=λb hb=>by rw [List.mem_singleton.mp hb]; exact List.mem_cons_self ..
     frame:=λi h h' st k=>⟨k d (by simp) o st.1,st.2.at λo e=>k _ (List.mem_cons_self ..) o e⟩
     item:=λi s' Q E hi st hQ=>p6 st.2 st.1 hdat hi λh' st' sb=>hQ _ h' s'.toks ⟨hi,rfl⟩ ⟨(sb.2 d ne).trans st.1,st'⟩ λb o' hb e'=>(sb.2 b λz=>hb (by rw [z]; exact List.mem_singleton.mpr rfl)).trans e'
     done:=λs' Q E st hQ=>tR hh st.2 st.1 hdat (Nat.le_refl _) λh' eb=>hQ h' s'.toks λb o' hb e'=>eb b o' (λz=>hb (by rw [z]; exact List.mem_singleton.mpr rfl)) e'
     self:=λi s' Q E st h=>wpAny_pyIter_keyiter st.2 h }
end
section
variable {K:Type} [DecidableEq K] {a:KD K} {hd:a.dep<=7} {X:Cx}
theorem kF:∀ xs:NEs K,Vals (xs.map λx=>V.ref x.2.1) (xs.map λx=>Value.ref x.2.1)
 | []=>.nil
 | _ :: xs=>.cons rfl (kF xs)
theorem jl (hc:X.calm=true):eI X (.type "list") (λvs H Q=>∃ d xs,vs=[.ref d]/\H d=some (dNk a hd X.prog X.w d xs)/\xs.length<=sizeLine/\∀ l,H l=none->Q (.ref l) (upd H l (.lst (xs.map λx=>.ref x.2.1)))):=by
 intro pins s σ H vs us Q I r h
 obtain ⟨d,xs,rfl,ha,hz,q⟩:=h
 obtain ⟨u,rfl,rx⟩:=vals1 r
 cases rx
 obtain ⟨⟨h0,o,es,ep,h1,h2,h3,h4,h5⟩,_⟩:=(show bf X.prog X.w H s.heap d (dNk a hd X.prog X.w d xs) from I.hok d _ ha)
 have hl:es.size=xs.length:=by rw [<- Array.length_toList,h4,List.length_map]
 refine kdl_call (yC h0 h2 h3) (I.ok.hd hc) h1 (by omega) λh' tk acc' c' kp e it=>?_
 have ea:acc'.toList=xs.map λx=>Value.ref x.2.1:=by
   refine List.ext_getElem (by rw [Array.length_toList,it.1,List.length_map,hl]) λi z1 z2=>?_
   rw [Array.length_toList] at z1
   obtain ⟨g,e⟩:=it.2 i acc'[i] (Array.getElem?_eq_getElem z1)
   rw [Array.getElem_toList,e]
   have hi:i < xs.length:=by omega
   have e:es.toList[i]?=some (entryOfKey (kd a hd X.prog X.w) xs[i]):=by rw [h4,List.getElem?_map,List.getElem?_eq_getElem hi]; rfl
   rw [Array.getElem?_toList,Array.getElem?_eq_getElem g] at e
   rw [Option.some.inj e,List.getElem_map]
   rfl
 have e':h'.get? s.heap.objs.size=some { cls:=.type "list",dict:=none,data:=.seq (xs.map λx=>Value.ref x.2.1).toArray c',slots:=#[] }:=by rw [<- ea,Array.toArray_toList]; exact e
 exact ⟨.ref s.heap.objs.size,_,I.laid (t':=tk) kp (Nat.le_refl _) (show bf X.prog X.w _ h' _ (.lst (xs.map λx=>.ref x.2.1)) from ⟨by rw [List.length_map]; exact hz,_,c',kF xs,e'⟩),rfl,q _ (I.hok.fresh (Nat.le_refl _))⟩
end
end Ev
namespace Hy
open PySem PySem.Spec PyProof.Rows L2
open Ev (D Den au KD NEs dNk fU Bx aj jl)
section
variable {K:Type} [DecidableEq K] {a:KD K} {hd:a.dep<=7} {X:Cx} {C:Bool} {τ:List Sl} {e:Expr} {pos p q:Pos} {k:Nat} {m:List (K × D)}
theorem EnK.refs {F:PySem.W.Frag} {G:Hp}:∀ {xs:NEs K} {m:List (K × D)},EnK a F G xs m->au F G (xs.map λx=>V.ref x.2.1) (m.map λp=>a.toD p.1)
 | _,_,.nil=>.nil
 | _,_,.cons h _ _ r=>.cons h r.refs
theorem w4 (i:Nat) {n:Str} (B:Bk X k) (hi:τ[i]?=some (.x (exK a hd X.prog X.w m))) (hl:m.length<=sizeLine) (hN:X.N[i]?=some n:=by rfl)
   (hv:Vis X.env.scope n:=by first | exact Or.inl rfl | exact Or.inr (Or.inl rfl) | exact Or.inr (Or.inr rfl)) (hd1:(n == ("__debug__" : Str))=false:=by decide) (hcd:(n == ("__classdict__" : Str))=false:=by decide)
   (hg:Gl X "list":=by rfl) (he:starEach [.Name n q] X.env=(false,eval (.Name n q) X.env) :: starEach [] X.env:=by rfl) (hpl:(backTo pos (starEach [] X.env)).any (·.1)=false:=by rfl):PE X (.Call (.Name "list" p) [.Name n q] [] pos) (dE X.K true τ (.o (m.map λp=>a.toD p.1))):=
 peW (kH (jl (a:=a) (hd:=hd) B.calm) hg (B.blt _ (by decide)) (by decide +kernel) (bJ (bH (i:=i) hN hv hd1 hcd) c8 he) (by decide) (by decide) he hpl) λσ H Q ⟨A,H₀,B,S,kk⟩=>by
   obtain ⟨d,xs,e1,e2,e3,e4⟩:=S.dct hi
   refine ⟨_,slot_of e1,d,xs,rfl,e3,by rw [e4.length]; exact hl,λp hp=>?_⟩
   obtain ⟨z1,z2,z3⟩:=jQ (K:=X.K) (M:=own A B) hp e4.refs
   exact kk _ _ [p] z1 z2 z3
end
end Hy
namespace Ev
open PySem PySem.Spec PyProof.Rows L2
noncomputable def yw (a:Addr) (o:Obj) (kv:List (Int × Int)):L2.It:=
 ⟨λi H=>i < kv.length/\H a=some (.frz o (.dK (bw kv))),λi H x H'=>H'=H/\∃ p,kv[i]?=some p/\x=.int p.2,λi H=>kv.length<=i/\H a=some (.frz o (.dK (bw kv)))⟩
theorem xT:∀ {kv:List (Int × Int)} {vs:List (Key × Value)},KV (bw kv) vs->∀ i (hi:i < kv.length),∃ k v,vs[i]?=some (k,v)/\RelV (.int kv[i].2) v
 | [],_,_,i,hi=>absurd hi (by simp)
 | p :: kv,vs,r,i,hi=>by
   unfold KV bw at r
   rw [List.map_cons] at r
   cases r with
   | cons h r=>
     cases i with
     | zero=>exact ⟨_,_,rfl,h.2⟩
     | succ i=>
       obtain ⟨k,v,h1,h2⟩:=xT (kv:=kv) (show KV (bw kv) _ from r) i (by simpa using hi)
       exact ⟨k,v,by simpa using h1,by simpa using h2⟩
theorem rW {P:Program} {w:World} {K:PySem.W.Frag} {tg:Expr} (a it:Addr) (o:Obj) (kv:List (Int × Int)) (es:Array DictEntry) (ep:Nat) (hd:o.data=.dict es ep) :
   Turn P w K false tg (yw a o kv) [it] it (λi h=>i<=kv.length/\h.IsValIter it a i kv.length ep) where
 mem:=by simp
 obj:=λi h st b hb=>by
   have e:b=it:=by simpa using hb
   subst e
   obtain ⟨o,e,c,d⟩:=st.2
   exact ⟨o,e,λv z=>by rw [d] at z; cases z⟩
 keep:=λi h h' st k=>⟨st.1,st.2.at λo e=>k it (by simp) o e⟩
 item:=by
   intro X hP hw hK hc i pins s σ H E I hf st hg
   subst hP hw hK
   obtain ⟨hi,ha⟩:=hg
   obtain ⟨f0,f1,f2,f3,f4,f5⟩:=hf it (by simp)
   obtain ⟨vs,rel,dd⟩:=mn I ha hd
   have hl:kv.length=vs.length:=by rw [<- rel.length,bw,List.length_map]
   have st2:=st.2
   rw [hl] at st2
   obtain ⟨k,v,hx,rv⟩:=xT rel i hi
   refine wpAny_pyNext_values_item st2 dd hx λh' st' sb=>?_
   have I1:Inv X pins σ H { s with heap:=h' }:=I.turned (t':=s.toks) (λb o hb e=>(sb.2 b hb).trans e) f0 f1 f3 f4 f5
   obtain ⟨o',e,c,d⟩:=id st'
   refine ⟨_,rfl,kL (s:={ s with heap:=h' }) e c d (by decide) ⟨.int kv[i].2,H,I1,rv,⟨rfl,_,List.getElem?_eq_getElem hi,rfl⟩,⟨hi,by rw [hl]; exact st'⟩,λb hb=>(hf b hb).1⟩⟩
 done:=by
   intro X hP hw hK hc i pins s σ H E I hf st hg
   subst hP hw hK
   obtain ⟨hi,ha⟩:=hg
   obtain ⟨f0,f1,f2,f3,f4,f5⟩:=hf it (by simp)
   obtain ⟨vs,rel,dd⟩:=mn I ha hd
   have hl:kv.length=vs.length:=by rw [<- rel.length,bw,List.length_map]
   have st2:=st.2
   rw [hl] at st2
   exact wpAny_pyNext_values_end (I.ok.hd hc.calm) st2 dd (List.getElem?_eq_none (by omega)) λh' eb=>⟨rfl,I.turned (t':=s.toks) (λb o hb e=>eb b o hb e) f0 f1 f3 f4 f5⟩
 self:=λ_ _ _ _ _ st h=>wpAny_pyIter_valiter st.2 h
structure M0 (X:Cx) (o:Expr) (m:Str) (apos:Pos) (cpos:Pos):Prop where
 base:attributeBase o m X.env (eval o X.env)=eval o X.env
 few:((backTo cpos (starEach [] X.env)).all (λx=>!x.1) && (backToKw cpos (keywordEach [] X.env)).all (λx=>x.1.isSome)
   && decide (([]:List Expr).length + ([]:List Keyword).length + (if ([]:List Keyword).isEmpty then 0 else 1) < 30))=true
 line:(apos.endLine == cpos.line)=true
 trees:backTo cpos (starEach [] X.env)=[]
section
variable {X:Cx} {tg:Expr}
noncomputable def uD (tl:TE):TI:=λσ H R=>tl σ H λx H1=>∃ a o kv,x=.ref a/\H1 a=some (.frz o (.dK (bw kv)))/\R (yw a o kv) H1
theorem nF {l:Expr} {tl:TE} {apos cpos:Pos} (hc:X.calm=true) (hl:PE X l tl) (m:M0 X l "values" apos cpos):PI X tg (.Call (.Attribute l "values" apos) [] [] cpos) (uD tl):=by
 intro pins s σ H R I h
 refine wpAny_Call_method m.base m.few m.line PySem.F.plainAttrs_dict PySem.F.slot_dict_values PySem.F.type_dict_values (thn (hl pins s σ H _ I h) λu s1 ⟨x,H1,I1,r1,a,o,kv,ex,ha,q⟩=>?_)
 subst ex
 obtain rfl:u=Value.ref a:=r1
 obtain ⟨e,ok⟩:=(show bf X.prog X.w H1 s1.heap a (.frz o (.dK (bw kv))) from I1.hok a _ ha)
 obtain ⟨z,hd,vs,rel,o',es,ep,e',r⟩:=ok
 rw [e] at e'
 cases e'
 have dd:s1.heap.DictAt (a5 X.prog X.w) a vs ep:=⟨o,es,e,r⟩
 refine ⟨dd.dictOf.typeIs,λc ec=>(by cases ec; exact ⟨o,e,r.1.2.1⟩),?_⟩
 rw [m.trees]
 refine Calls.callWith_builtin rfl (PySem.evalArgs_none ?_)
 refine call_meetsIn PySem.F.slot_dict_values dd.dictOf.typeIs PySem.F.entry_dict_values (PySem.F.args_dict_values_1 _) (meets_dict_values (a5 X.prog X.w) a hd) ⟨⟨vs,dd.dictOf⟩,?_⟩
 have I2:Inv X pins σ H1 { s1 with heap:=s1.heap.push { cls:=.type "dict_values",data:=.fields #[.ref a] } }:=I1.kept (t':=s1.toks) λb o e=>Heap.get?_push_of_some _ e
 have hv:vs.length=kv.length:=by rw [<- rel.length,bw,List.length_map]
 refine wpAny_pyIter_values (knd:=a5 X.prog X.w) (kvs:=vs) (ep:=ep) ⟨_,Heap.get?_push_size _ rfl,rfl,rfl⟩ (dd.push _) ?_
 refine ⟨false,_,[(s1.heap.push { cls:=.type "dict_values",data:=.fields #[.ref a] }).objs.size],_,_,H1,rfl,I2.kept (t':=s1.toks) λb o e=>Heap.get?_push_of_some _ e,.inl hc,rW a _ o kv es ep r.2.1,⟨Nat.zero_le _,?_⟩,λb hb=>?_,q⟩
 · rw [<- hv]
   exact ⟨_,Heap.get?_push_size _ rfl,rfl,rfl⟩
 · have e:b=(s1.heap.push { cls:=.type "dict_values",data:=.fields #[.ref a] }).objs.size:=by simpa using hb
   subst e
   exact I2.kg (Nat.le_refl _) (I2.hok.fresh (Nat.le_refl _))
end
end Ev
namespace Hy
open PySem PySem.Spec PyProof.Rows L2
open Ev (D Den au Bx aj bw yw uD nF M0)
section
variable {X:Cx} {C:Bool} {τ:List Sl} {e tg:Expr} {pos p apos cpos:Pos} {m:List (Int × Int)}
theorem vM (h:PE X e (dE X.K true τ (.d (.box (bxZ m))))) (hc:X.calm=true:=by first | rfl | assumption) (m0:M0 X e "values" apos cpos:=by exact ⟨rfl,rfl,rfl,rfl⟩):PI X tg (.Call (.Attribute e "values" apos) [] [] cpos) (dI X.K τ (m.map λp=>.int p.2)):=piW (nF hc h m0) λσ H R ⟨A,H₀,B,S,k⟩=>aL S λv H1 e1 d1=>by
 cases d1 with
 | box h=>
   obtain ⟨o,g⟩:=h
   refine ⟨_,o,m,rfl,aH _ _ g,k _ H1 e1 λH2 sg=>⟨λi hi=>⟨by simpa using hi,sg _ _ g⟩,λi hi=>⟨⟨by simpa using hi,sg _ _ g⟩,λx H' ⟨eH,p,hp,ex⟩=>?_⟩⟩⟩
   subst eH ex
   refine ⟨ah.refl _,λM _ _=>?_⟩
   have hi':i < m.length:=by simpa using hi
   rw [List.getElem?_eq_getElem hi'] at hp
   cases hp
   rw [List.getElem_map]
   exact .int
theorem Bs (h:PE X e (dE X.K C τ (.x (exZ m)))):PE X e (dE X.K C τ (.d (.box (bxZ m)))):=by
 intro pins s σ H Q I q
 obtain ⟨A,H₀,B,S,kk⟩:=cJ q
 have vd:=S.vd (C:=C)
 refine thn (h pins s σ H (λv H'=>∃ d,v=.ref d/\ah H H'/\H d=none/\H' d=some (.dK (bw m))) I ⟨A,H₀,B,S,λv H' bs e hf ⟨d,o,h1,h2,h3,h4⟩=>?_⟩) λu s1 ⟨x,H1,I1,rx,d,ex,e,hn,h3⟩=>?_
 · cases h2
   cases (show o=_ from h4)
   subst h1
   exact ⟨d,rfl,e,(hf d (List.mem_singleton.mpr rfl)).1,h3⟩
 · subst ex
   obtain ⟨z,hd0,vs,rel,dd⟩:=qf I1.hok h3
   obtain ⟨o,es,ep,e0,r⟩:=id dd
   have I2:Inv X pins σ (upd H1 d (.frz o (.dK (bw m)))) s1:=dY (t':=s1.toks) (h':=s1.heap) I1 (by rw [h3]; exact True.intro) (.refl _ _) ⟨o,e0⟩ ⟨e0,mx z hd0 rel dd⟩
   have un:¬ vw C A B d:=λz=>by
     obtain ⟨_,q⟩:=vd d z
     rw [hn] at q
     cases q
   refine ⟨.ref d,_,I2,rx,kk _ _ (λb o' hb=>?_) (.box ⟨o,ak.mpr ⟨un,aA⟩⟩)⟩
   rw [aw (λz=>by rw [z,hn] at hb; cases hb)]
   exact e b o' hb
end
end Hy
namespace K61
open PySem PySem.Spec PyProof.Rows L2 Hy
noncomputable def top (i:Nat):Stmt:=PySem.Challenge.pw_signsmooth_k61_none_left_out.main.body.getD i (.Pass ⟨0,0,0,0⟩)
theorem gq:az ["_law_cell_here","_law_bases","_law_row","_law_base","_law_k","_law_mixed"] ["_law_cell_here","_law_bases"] (ai (top 47)):=⟨rfl,rfl,rfl,by decide +kernel,rfl,by decide +kernel,by decide +kernel⟩
theorem kS:az ["_law_cell_here","_law_parts"] ["_law_cell_here"] (ai (top 50)):=⟨rfl,rfl,rfl,by decide +kernel,rfl,by decide +kernel,by decide +kernel⟩
theorem sh:az ["_law_script","_law_k"] ["_law_script","_law_k"] (ai (top 46)):=⟨rfl,rfl,rfl,by decide +kernel,rfl,by decide +kernel,by decide +kernel⟩
theorem hE:az ["_law_one","_law_other","_law_rest"] ["_law_one","_law_other"] (ai (top 48)):=⟨rfl,rfl,rfl,by decide +kernel,rfl,by decide +kernel,by decide +kernel⟩
theorem kQ:az ["_law_top","_law_bottom","_law_common"] ["_law_top","_law_bottom"] (ai (top 49)):=⟨rfl,rfl,rfl,by decide +kernel,rfl,by decide +kernel,by decide +kernel⟩
theorem i9:az ["_law_script","_law_many","_law_wide","_law_parts","_law_table","_law_i","_law_row"] ["_law_script"] (ai (top 54)):=⟨rfl,rfl,rfl,by decide +kernel,rfl,by decide +kernel,by decide +kernel⟩
theorem ij:az ["thing"] ["thing"] (ai (top 19)):=⟨rfl,rfl,rfl,by decide +kernel,rfl,by decide +kernel,by decide +kernel⟩
theorem mG:az ["thing"] ["thing"] (ai (top 8)):=⟨rfl,rfl,rfl,by decide +kernel,rfl,by decide +kernel,by decide +kernel⟩
theorem cW:az ["one","other","greater","lesser","rest"] ["one","other"] (ai (top 10)):=⟨rfl,rfl,rfl,by decide +kernel,rfl,by decide +kernel,by decide +kernel⟩
theorem jd:az ["thing"] ["thing"] (ai (top 9)):=⟨rfl,rfl,rfl,by decide +kernel,rfl,by decide +kernel,by decide +kernel⟩
theorem rA:az ["thing"] ["thing"] (ai (top 20)):=⟨rfl,rfl,rfl,by decide +kernel,rfl,by decide +kernel,by decide +kernel⟩
theorem m6:az ["thing"] ["thing"] (ai (top 21)):=⟨rfl,rfl,rfl,by decide +kernel,rfl,by decide +kernel,by decide +kernel⟩
theorem kb:az ["thing"] ["thing"] (ai (top 22)):=⟨rfl,rfl,rfl,by decide +kernel,rfl,by decide +kernel,by decide +kernel⟩
theorem kr:az ["one","other","shared","top","divisor"] ["one","other"] (ai (top 13)):=⟨rfl,rfl,rfl,by decide +kernel,rfl,by decide +kernel,by decide +kernel⟩
theorem pO:az ["one","other"] ["one","other"] (ai (top 14)):=⟨rfl,rfl,rfl,by decide +kernel,rfl,by decide +kernel,by decide +kernel⟩
theorem fV:az ["one","other","first","second"] ["one","other"] (ai (top 15)):=⟨rfl,rfl,rfl,by decide +kernel,rfl,by decide +kernel,by decide +kernel⟩
theorem cK:az ["top","bottom","divisor"] ["top","bottom"] (ai (top 11)):=⟨rfl,rfl,rfl,by decide +kernel,rfl,by decide +kernel,by decide +kernel⟩
theorem jw:az ["one","other"] ["one","other"] (ai (top 16)):=⟨rfl,rfl,rfl,by decide +kernel,rfl,by decide +kernel,by decide +kernel⟩
theorem jq:az ["table"] ["table"] (ai (top 26)):=⟨rfl,rfl,rfl,by decide +kernel,rfl,by decide +kernel,by decide +kernel⟩
theorem mU:az ["top","bottom"] ["top","bottom"] (ai (top 12)):=⟨rfl,rfl,rfl,by decide +kernel,rfl,by decide +kernel,by decide +kernel⟩
theorem iH:az ["row","scale","number"] ["row"] (ai (top 27)):=⟨rfl,rfl,rfl,by decide +kernel,rfl,by decide +kernel,by decide +kernel⟩
theorem fm:az ["grid","k","i"] ["grid","k"] (ai (top 32)):=⟨rfl,rfl,rfl,by decide +kernel,rfl,by decide +kernel,by decide +kernel⟩
theorem jV:az ["row","pivot_row","k","last","pivot","factor"] ["row","pivot_row","k","last"] (ai (top 33)):=⟨rfl,rfl,rfl,by decide +kernel,rfl,by decide +kernel,by decide +kernel⟩
theorem cj:az ["rows","grid","many","sign","last","k","at","i"] ["rows"] (ai (top 31)):=⟨rfl,rfl,rfl,by decide +kernel,rfl,by decide +kernel,by decide +kernel⟩
theorem cR:az ["numbers","found","number"] ["numbers"] (ai (top 30)):=⟨rfl,rfl,rfl,by decide +kernel,rfl,by decide +kernel,by decide +kernel⟩
theorem lL:az ["row","scale"] ["row","scale"] (ai (top 28)):=⟨rfl,rfl,rfl,by decide +kernel,rfl,by decide +kernel,by decide +kernel⟩
theorem ko:az ["table","scales"] ["table","scales"] (ai (top 29)):=⟨rfl,rfl,rfl,by decide +kernel,rfl,by decide +kernel,by decide +kernel⟩
theorem b5:az ["table","scales"] ["table"] (ai (top 25)):=⟨rfl,rfl,rfl,by decide +kernel,rfl,by decide +kernel,by decide +kernel⟩
theorem eV:az ["table","i","j","size"] ["table","i","j"] (ai (top 42)):=⟨rfl,rfl,rfl,by decide +kernel,rfl,by decide +kernel,by decide +kernel⟩
theorem ck:az ["table","made","i","j","lacking"] ["table","made","i","j"] (ai (top 44)):=⟨rfl,rfl,rfl,by decide +kernel,rfl,by decide +kernel,by decide +kernel⟩
theorem jH:az ["table","made","i","j"] ["table"] (ai (top 43)):=⟨rfl,rfl,rfl,by decide +kernel,rfl,by decide +kernel,by decide +kernel⟩
theorem fQ:az ["many","size","found","turn","longer","choice","least"] ["many","size"] (ai (top 23)):=⟨rfl,rfl,rfl,by decide +kernel,rfl,by decide +kernel,by decide +kernel⟩
theorem cT:az ["known","row","columns","total","k","part"] ["known","row","columns"] (ai (top 38)):=⟨rfl,rfl,rfl,by decide +kernel,rfl,by decide +kernel,by decide +kernel⟩
theorem eE:az ["known","row","column_choices","found","columns"] ["known","row","column_choices"] (ai (top 37)):=⟨rfl,rfl,rfl,by decide +kernel,rfl,by decide +kernel,by decide +kernel⟩
theorem cA:az ["rows","found","known","size","fresh","column_choices","some","columns"] ["rows"] (ai (top 36)):=⟨rfl,rfl,rfl,by decide +kernel,rfl,by decide +kernel,by decide +kernel⟩
theorem eZ:az ["table","bound","found","choices"] ["table","bound"] (ai (top 35)):=⟨rfl,rfl,rfl,by decide +kernel,rfl,by decide +kernel,by decide +kernel⟩
theorem lA:az ["table"] ["table"] (ai (top 34)):=⟨rfl,rfl,rfl,by decide +kernel,rfl,by decide +kernel,by decide +kernel⟩
theorem gN:az ["table","i"] ["table","i"] (ai (top 41)):=⟨rfl,rfl,rfl,by decide +kernel,rfl,by decide +kernel,by decide +kernel⟩
theorem pD:az ["table"] ["table"] (ai (top 40)):=⟨rfl,rfl,rfl,by decide +kernel,rfl,by decide +kernel,by decide +kernel⟩
theorem iJ:az ["_law_rows_here","_law_wide","_law_made_here","_law_i","_law_lines","_law_longer","_law_mask","_law_behind_it","_law_j","_law_key","_law_part"] ["_law_rows_here"] (ai (top 52)):=⟨rfl,rfl,rfl,by decide +kernel,rfl,by decide +kernel,by decide +kernel⟩
theorem eD:az ["_law_rows_here","_law_least","_law_made_here","_law_lines","_law_worth"] ["_law_rows_here"] (ai (top 53)):=⟨rfl,rfl,rfl,by decide +kernel,rfl,by decide +kernel,by decide +kernel⟩
theorem k6:az ["_law_table","_law_rows_here","_law_all_bottoms","_law_row","_law_factor","_law_number"] ["_law_table"] (ai (top 51)):=⟨rfl,rfl,rfl,by decide +kernel,rfl,by decide +kernel,by decide +kernel⟩
theorem jb:az ["_law_some","_law_due","_law_table","_law_found"] ["_law_some","_law_due"] (ai (top 55)):=⟨rfl,rfl,rfl,by decide +kernel,rfl,by decide +kernel,by decide +kernel⟩
theorem uC:az ["_law_script","_law_some","_law_parts","_law_number"] ["_law_script"] (ai (top 56)):=⟨rfl,rfl,rfl,by decide +kernel,rfl,by decide +kernel,by decide +kernel⟩
end K61
namespace K61
open PySem PySem.Spec PyProof.Rows L2 Hy
open Ev (D Den au aE aD)
noncomputable def ay (f:Nat->Rat):Nat->Rat
 | 0=>0
 | n + 1=>ay f n + f n
theorem ar {f g:Nat->Rat}:∀ {n:Nat},(∀ k < n,f k=g k)->ay f n=ay g n
 | 0,_=>rfl
 | n + 1,h=>by rw [ay,ay,ar λk hk=>h k (by omega),h n (by omega)]
theorem aY (c:Rat) (f:Nat->Rat):∀ n:Nat,c * ay f n=ay (λk=>c * f k) n
 | 0=>Rat.mul_zero c
 | n + 1=>by rw [ay,ay,Rat.mul_add,aY c f n]
theorem gU (c:Rat) (f:Nat->Rat):∀ n:Nat,ay f n * c=ay (λk=>f k * c) n
 | 0=>Rat.zero_mul c
 | n + 1=>by rw [ay,ay,Rat.add_mul,gU c f n]
theorem fq (f g:Nat->Rat):∀ n:Nat,ay (λk=>f k + g k) n=ay f n + ay g n
 | 0=>(Rat.add_zero 0).symm
 | n + 1=>by rw [ay,ay,ay,fq f g n]; grind
theorem fK:∀ n:Nat,ay (λ_=>0) n=0
 | 0=>rfl
 | n + 1=>by rw [ay,fK n,Rat.add_zero]
theorem fA (f:Nat->Nat->Rat) (m:Nat):∀ n:Nat,ay (λk=>ay (λl=>f k l) m) n=ay (λl=>ay (λk=>f k l) n) m
 | 0=>by simp only [ay]; exact (fK m).symm
 | n + 1=>by simp only [ay]; rw [fA f m n,<- fq]
noncomputable def dq (i j:Nat):Rat:=if i=j then 1 else 0
theorem nP (A:Nat->Rat) (j:Nat):∀ n:Nat,n<=j->ay (λk=>A k * dq k j) n=0
 | 0,_=>rfl
 | n + 1,h=>by
   rw [ay,nP A j n (by omega),dq,if_neg (by omega),Rat.mul_zero,Rat.add_zero]
theorem cG (A:Nat->Rat) (j:Nat):∀ n:Nat,j < n->ay (λk=>A k * dq k j) n=A j
 | n + 1,h=>by
   rw [ay]
   by_cases e:j=n
   · subst e
     rw [nP A j j (Nat.le_refl _),dq,if_pos rfl,Rat.mul_one,Rat.zero_add]
   · rw [cG A j n (by omega),dq,if_neg (by omega),Rat.mul_zero,Rat.add_zero]
theorem pC (A:Nat->Rat) (i n:Nat) (h:i < n):ay (λk=>dq i k * A k) n=A i:=by
 rw [<- cG A i n h]
 congr 1
 funext k
 rw [Rat.mul_comm,dq,dq]
 by_cases e:i=k
 · rw [if_pos e,if_pos e.symm]
 · rw [if_neg e,if_neg λz=>e z.symm]
noncomputable def skp (i r:Nat):Nat:=if r < i then r else r + 1
noncomputable def minor (M:Nat->Nat->Rat) (i r c:Nat):Rat:=M (skp i r) (c + 1)
noncomputable def sgn (i:Nat):Rat:=if i % 2=0 then 1 else -1
theorem eY (i:Nat):sgn (i + 1)=-sgn i:=by
 unfold sgn
 by_cases h:i % 2=0
 · rw [if_pos h,if_neg (by omega)]
 · rw [if_neg h,if_pos (by omega)]
   rfl
theorem mj (i:Nat):sgn i * sgn i=1:=by
 unfold sgn
 split <;> grind
noncomputable def det:Nat->(Nat->Nat->Rat)->Rat
 | 0,_=>1
 | n + 1,M=>ay (λi=>sgn i * M i 0 * det n (minor M i)) (n + 1)
theorem lG {i r n:Nat} (h:r < n):skp i r < n + 1:=by unfold skp; split <;> omega
theorem zE (i r:Nat):skp i r ≠ i:=by unfold skp; split <;> omega
theorem ao:∀ {n:Nat} {M M':Nat->Nat->Rat},(∀ i < n,∀ j < n,M i j=M' i j)->det n M=det n M'
 | 0,_,_,_=>rfl
 | n + 1,M,M',h=>by
   unfold det
   refine ar λi hi=>?_
   rw [h i hi 0 (by omega),ao (M:=minor M i) (M':=minor M' i) λr hr c hc=>h _ (lG hr) _ (by omega)]
noncomputable def av (M:Nat->Nat->Rat) (p:Nat) (v:Nat->Rat) (r c:Nat):Rat:=if r=p then v c else M r c
noncomputable def cX (M:Nat->Nat->Rat) (q:Nat) (v:Nat->Rat) (r c:Nat):Rat:=if c=q then v r else M r c
noncomputable def un (i p:Nat):Nat:=if p < i then p else p - 1
theorem gh (M:Nat->Nat->Rat) (p:Nat) (v:Nat->Rat):minor (av M p v) p=minor M p:=by
 funext r c
 unfold minor av
 rw [if_neg (zE p r)]
theorem fy (M:Nat->Nat->Rat) {i p:Nat} (h:i ≠ p) (v:Nat->Rat):minor (av M p v) i=av (minor M i) (un i p) λc=>v (c + 1):=by
 funext r c
 unfold minor av
 have:skp i r=p ↔ r=un i p:=by unfold skp un; split <;> split <;> omega
 by_cases q:skp i r=p
 · rw [if_pos q,if_pos (this.mp q)]
 · rw [if_neg q,if_neg λz=>q (this.mpr z)]
theorem mB:∀ {n:Nat} (M:Nat->Nat->Rat) {p:Nat},p < n->∀ (a b:Rat) (x y:Nat->Rat),det n (av M p λc=>a * x c + b * y c)=a * det n (av M p x) + b * det n (av M p y)
 | 0,_,_,h,_,_,_,_=>absurd h (Nat.not_lt_zero _)
 | n + 1,M,p,hp,a,b,x,y=>by
   unfold det
   rw [aY,aY,<- fq]
   refine ar λi hi=>?_
   by_cases h:i=p
   · subst h
     rw [gh,gh,gh]
     simp only [av,if_pos rfl]
     grind
   · rw [fy M h,fy M h,fy M h,mB (minor M i) (show un i p < n by unfold un; split <;> omega) a b]
     simp only [av,if_neg h]
     grind
theorem tK {f:Nat->Rat} {p:Nat} (h0:∀ i,i ≠ p->i ≠ p + 1->f i=0) (h:f p + f (p + 1)=0):∀ n,p + 1 < n->ay f n=0:=by
 have z:∀ n,n<=p->ay f n=0:=by
   intro n
   induction n with
   | zero=>intro _; rfl
   | succ n ih=>intro hn; rw [ay,ih (by omega),h0 n (by omega) (by omega),Rat.add_zero]
 intro n
 induction n with
 | zero=>intro hn; omega
 | succ n ih=>
   intro hn
   rw [ay]
   by_cases q:n=p + 1
   · subst q
     rw [ay,z p (Nat.le_refl _),Rat.zero_add]
     exact h
   · rw [ih (by omega),h0 n (by omega) q,Rat.add_zero]
theorem di {f:Nat->Rat} {n:Nat} (h:∀ i < n,f i=0):ay f n=0:=by
 rw [ar h]; exact fK n
theorem i6:∀ {n:Nat} {M:Nat->Nat->Rat} {p:Nat},p + 1 < n->(∀ c < n,M p c=M (p + 1) c)->det n M=0
 | 0,_,_,h,_=>absurd h (Nat.not_lt_zero _)
 | n + 1,M,p,hp,h=>by
   unfold det
   let f:Nat->Rat:=λi=>if i < n + 1 then sgn i * M i 0 * det n (minor M i) else 0
   have e:ay (λi=>sgn i * M i 0 * det n (minor M i)) (n + 1)=ay f (n + 1):=ar λi hi=>by simp only [f]; rw [if_pos hi]
   rw [e]
   refine tK (p:=p) (λi h1 h2=>?_) ?_ _ hp
   · simp only [f]
     by_cases hi:i < n + 1
     · rw [if_pos hi]
       have:det n (minor M i)=0:=by
         by_cases q:i < p
         · refine i6 (p:=p - 1) (by omega) λc hc=>?_
           unfold minor skp
           rw [if_neg (by omega),if_neg (by omega),show p - 1 + 1=p by omega]
           exact h (c + 1) (by omega)
         · refine i6 (p:=p) (by omega) λc hc=>?_
           unfold minor skp
           rw [if_pos (by omega),if_pos (by omega)]
           exact h (c + 1) (by omega)
       rw [this,Rat.mul_zero]
     · rw [if_neg hi]
   · simp only [f]
     rw [if_pos (by omega),if_pos hp,eY,<- h 0 (by omega)]
     have:det n (minor M p)=det n (minor M (p + 1)):=ao λr hr c hc=>by
       unfold minor skp
       by_cases q:r < p
       · rw [if_pos q,if_pos (by omega)]
       · rw [if_neg q]
         by_cases q2:r=p
         · subst q2
           rw [if_pos (by omega)]
           exact (h (c + 1) (by omega)).symm
         · rw [if_neg (by omega)]
     rw [this]
     grind
structure ML (n:Nat) (f:(Nat->Nat->Rat)->Rat):Prop where
 cong:∀ {M M':Nat->Nat->Rat},(∀ i < n,∀ j < n,M i j=M' i j)->f M=f M'
 lin:∀ (M:Nat->Nat->Rat) {p:Nat},p < n->∀ (a b:Rat) (x y:Nat->Rat),f (av M p λc=>a * x c + b * y c)=a * f (av M p x) + b * f (av M p y)
 alt:∀ {M:Nat->Nat->Rat} {p:Nat},p + 1 < n->(∀ c < n,M p c=M (p + 1) c)->f M=0
theorem iC (n:Nat):ML n (det n):=⟨ao,mB,i6⟩
section
variable {n:Nat} {f:(Nat->Nat->Rat)->Rat}
theorem bG (M:Nat->Nat->Rat) (p:Nat):av M p (M p)=M:=by
 funext r c
 unfold av
 split
 · rename_i h; rw [h]
 · rfl
theorem bS {M:Nat->Nat->Rat} {p:Nat} {v:Nat->Rat}:av M p v p=v:=by funext c; unfold av; rw [if_pos rfl]
theorem bT {M:Nat->Nat->Rat} {p r:Nat} {v:Nat->Rat} (h:r ≠ p):av M p v r=M r:=by funext c; unfold av; rw [if_neg h]
theorem a7 {M:Nat->Nat->Rat} {p q:Nat} {v u:Nat->Rat} (h:p ≠ q):av (av M p v) q u=av (av M q u) p v:=by
 funext r c
 unfold av
 by_cases h1:r=q
 · rw [if_pos h1,if_neg λz=>h (z.symm.trans h1),if_pos h1]
 · rw [if_neg h1,if_neg h1]
theorem ML.add (h:ML n f) (M:Nat->Nat->Rat) {p:Nat} (hp:p < n) (x y:Nat->Rat):f (av M p λc=>x c + y c)=f (av M p x) + f (av M p y):=by
 have:=h.lin M hp 1 1 x y
 simp only [Rat.one_mul] at this
 exact this
theorem ML.nb (h:ML n f) (M:Nat->Nat->Rat) {p:Nat} (hp:p + 1 < n) (x y:Nat->Rat):f (av (av M p x) (p + 1) y)=-f (av (av M p y) (p + 1) x):=by
 have z:∀ u:Nat->Rat,f (av (av M p u) (p + 1) u)=0:=λu=>h.alt hp λc _=>by rw [bS,bT (by omega),bS]
 have e:=z λc=>x c + y c
 rw [h.add _ hp] at e
 rw [a7 (by omega),h.add _ (show p < n by omega),a7 (M:=M) (p:=p) (q:=p + 1) (v:=λc=>x c + y c) (u:=y) (by omega),h.add _ (show p < n by omega)] at e
 rw [a7 (M:=M) (p:=p + 1) (q:=p) (v:=x) (u:=x) (by omega),z x,a7 (M:=M) (p:=p + 1) (q:=p) (v:=y) (u:=y) (by omega),z y,a7 (M:=M) (p:=p + 1) (q:=p) (v:=x) (u:=y) (by omega),a7 (M:=M) (p:=p + 1) (q:=p) (v:=y) (u:=x) (by omega)] at e
 grind
theorem ML.two (h:ML n f):∀ (d:Nat) (M:Nat->Nat->Rat) (p:Nat),p + 1 + d < n->M p=M (p + 1 + d)->f M=0
 | 0,M,p,hp,e=>h.alt hp λc _=>by rw [e]
 | d + 1,M,p,hp,e=>by
   have s:=h.nb M (p:=p + 1 + d) (by omega) (M (p + 1 + d)) (M (p + 1 + d + 1))
   rw [bG,bG] at s
   rw [s,ML.two h d _ p (by omega) (by rw [bT (by omega),bT (by omega),bT (by omega),bS]; exact e)]
   rfl
theorem ML.same (h:ML n f) {M:Nat->Nat->Rat} {p q:Nat} (hp:p < n) (hq:q < n) (hpq:p ≠ q) (e:M p=M q):f M=0:=by
 rcases Nat.lt_or_lt_of_ne hpq with z | z
 · exact h.two (q - p - 1) M p (by omega) (by rw [show p + 1 + (q - p - 1)=q by omega]; exact e)
 · exact h.two (p - q - 1) M q (by omega) (by rw [show q + 1 + (p - q - 1)=p by omega]; exact e.symm)
theorem ML.swap (h:ML n f) {M:Nat->Nat->Rat} {p q:Nat} (hp:p < n) (hq:q < n) (hpq:p ≠ q) (x y:Nat->Rat):f (av (av M p x) q y)=-f (av (av M p y) q x):=by
 have z:∀ u:Nat->Rat,f (av (av M p u) q u)=0:=λu=>h.same hp hq hpq (by rw [bS,bT hpq,bS])
 have e:=z λc=>x c + y c
 have c1:∀ u v:Nat->Rat,av (av M q u) p v=av (av M p v) q u:=λu v=>a7 λz=>hpq z.symm
 rw [h.add _ hq,a7 hpq,h.add _ hp,a7 (M:=M) (p:=p) (q:=q) (v:=λc=>x c + y c) (u:=y) hpq,h.add _ hp,c1,c1,c1,c1,z x,z y] at e
 grind
theorem ML.Cm (h:ML n f) (M:Nat->Nat->Rat) {p:Nat} (hp:p < n):f (av M p λ_=>0)=0:=by
 have:=h.lin M hp 0 0 (λ_=>0) (λ_=>0)
 simp only [Rat.zero_mul,Rat.add_zero] at this
 exact this
theorem ML.sum (h:ML n f) (M:Nat->Nat->Rat) {p:Nat} (hp:p < n) (v:Nat->Rat) (e:Nat->Nat->Rat):∀ m,f (av M p λj=>ay (λc=>v c * e c j) m)=ay (λc=>v c * f (av M p (e c))) m
 | 0=>h.Cm M hp
 | m + 1=>by
   have:=h.lin M hp 1 (v m) (λj=>ay (λc=>v c * e c j) m) (e m)
   simp only [Rat.one_mul] at this
   rw [ay,<- ML.sum h M hp v e m]
   exact this
theorem ML.comb (h:ML n f) (M:Nat->Nat->Rat) {p k:Nat} (hp:p < n) (hk:k<=p) (d:Rat) (β:Nat->Rat):f (av M p λj=>d * M p j + ay (λi=>β i * M i j) k)=d * f M:=by
 have e:=h.lin M hp d 1 (M p) (λj=>ay (λi=>β i * M i j) k)
 simp only [Rat.one_mul] at e
 rw [e,bG,h.sum M hp β M k,di,Rat.add_zero]
 intro i hi
 rw [h.same (p:=i) (q:=p) (by omega) hp (by omega) (by rw [bT (by omega),bS]),Rat.mul_zero]
end
noncomputable def idQ (i j:Nat):Rat:=if i=j then 1 else 0
noncomputable def un1 (σ:Nat->Nat) (i j:Nat):Rat:=if σ i=j then 1 else 0
theorem uY:∀ (m:Nat) (σ:Nat->Nat),(∀ i < m + 1,σ i < m)->∃ i j,i < j/\j < m + 1/\σ i=σ j
 | 0,σ,h=>absurd (h 0 (by decide)) (Nat.not_lt_zero _)
 | m + 1,σ,h=>by
   by_cases q:∃ i,i < m + 1/\σ i=σ (m + 1)
   · obtain ⟨i,hi,e⟩:=q
     exact ⟨i,m + 1,hi,by omega,e⟩
   · have q':∀ i < m + 1,σ i ≠ σ (m + 1):=λi hi z=>q ⟨i,hi,z⟩
     obtain ⟨i,j,h1,h2,e⟩:=uY m (λi=>if σ (m + 1) < σ i then σ i - 1 else σ i) λi hi=>by
       have a:=h i (by omega)
       have b:=h (m + 1) (by omega)
       have c:=q' i hi
       split <;> omega
     refine ⟨i,j,h1,by omega,?_⟩
     have a:=q' i (by omega)
     have b:=q' j h2
     split at e <;> split at e <;> omega
theorem vt {n k:Nat} {σ:Nat->Nat} (h:∀ i < n,σ i < n) (hk:k < n) (hn:∀ i < n,σ i ≠ k):∃ i j,i < j/\j < n/\σ i=σ j:=by
 obtain ⟨m,rfl⟩:∃ m,n=m + 1:=⟨n - 1,by omega⟩
 obtain ⟨i,j,h1,h2,e⟩:=uY m (λi=>if k < σ i then σ i - 1 else σ i) λi hi=>by
   have a:=h i hi
   have b:=hn i hi
   split <;> omega
 refine ⟨i,j,h1,h2,?_⟩
 have a:=hn i (by omega)
 have b:=hn j h2
 split at e <;> split at e <;> omega
section
variable {n:Nat} {h:(Nat->Nat->Rat)->Rat}
theorem ML.sD (H:ML n h) (h0:h idQ=0):∀ (d k:Nat),k + d=n->∀ σ:Nat->Nat,(∀ i < n,σ i < n)->(∀ i < k,σ i=i)->h (un1 σ)=0
 | 0,k,hk,σ,_,hf=>by
   rw [<- h0]
   exact H.cong λi hi j _=>by unfold un1 idQ; rw [hf i (by omega)]
 | d + 1,k,hk,σ,hs,hf=>by
   by_cases q:∃ j,k<=j/\j < n/\σ j=k
   · obtain ⟨j,h1,h2,h3⟩:=q
     by_cases z:j=k
     · subst z
       exact ML.sD H h0 d (j + 1) (by omega) σ hs λi hi=>by
         by_cases y:i=j
         · rw [y]; exact h3
         · exact hf i (by omega)
     · have e:un1 σ=av (av (un1 σ) k (un1 σ k)) j (un1 σ j):=by rw [bG,bG]
       have e2:av (av (un1 σ) k (un1 σ j)) j (un1 σ k)=un1 λi=>if i=j then σ k else if i=k then σ j else σ i:=by
         funext r c
         have zk:¬ k=j:=λy=>z y.symm
         by_cases y1:r=j <;> by_cases y2:r=k <;> simp [av,un1,y1,y2,zk]
       rw [e,H.swap (by omega) h2 (λy=>z y.symm),e2,ML.sD H h0 d (k + 1) (by omega) _ (λi hi=>?_) (λi hi=>?_)]
       · rfl
       · split
         · exact hs k (by omega)
         · split
           · exact hs j h2
           · exact hs i hi
       · rw [if_neg (by omega)]
         by_cases y:i=k
         · rw [if_pos y,h3,y]
         · rw [if_neg y]
           exact hf i (by omega)
   · obtain ⟨i,j,h1,h2,e⟩:=vt hs (show k < n by omega) λi hi z=>by
       by_cases y:i < k
       · have:=hf i y
         omega
       · exact q ⟨i,by omega,hi,z⟩
     exact H.same (p:=i) (q:=j) (by omega) h2 (by omega) (by funext c; unfold un1; rw [e])
noncomputable def l5 (k:Nat) (M:Nat->Nat->Rat) (σ:Nat->Nat) (i j:Nat):Rat:=if i < k then M i j else un1 σ i j
theorem ML.BG (H:ML n h) (h0:h idQ=0) (M:Nat->Nat->Rat):∀ (k:Nat),k<=n->∀ σ:Nat->Nat,(∀ i < n,σ i < n)->h (l5 k M σ)=0
 | 0,_,σ,hs=>by
   rw [<- ML.sD H h0 n 0 (by omega) σ hs λi hi=>absurd hi (Nat.not_lt_zero _)]
   exact H.cong λi _ j _=>by unfold l5; rw [if_neg (Nat.not_lt_zero _)]
 | k + 1,hk,σ,hs=>by
   have e:h (l5 (k + 1) M σ)=h (av (l5 k M σ) k λj=>ay (λc=>M k c * idQ c j) n):=H.cong λi hi j hj=>by
     unfold av l5
     by_cases y:i=k
     · subst y
       rw [if_pos (by omega),if_pos rfl]
       exact (cG (M i) j n hj).symm
     · rw [if_neg y]
       by_cases z:i < k
       · rw [if_pos (by omega),if_pos z]
       · rw [if_neg (by omega),if_neg z]
   rw [e,H.sum _ (by omega),di]
   intro c hc
   have e2:av (l5 k M σ) k (idQ c)=l5 k M λi=>if i=k then c else σ i:=by
     funext r j
     by_cases y:r=k <;> simp [av,l5,un1,idQ,y]
   rw [e2,ML.BG H h0 M k (by omega) _ (λi hi=>?_),Rat.mul_zero]
   split
   · exact hc
   · exact hs i hi
theorem ML.zero (H:ML n h) (h0:h idQ=0) (M:Nat->Nat->Rat):h M=0:=by
 rw [<- ML.BG H h0 M n (Nat.le_refl _) (λi=>i) λi hi=>hi]
 exact H.cong λi hi j _=>by unfold l5; rw [if_pos hi]
end
theorem uy:minor idQ 0=idQ:=by
 funext r c
 unfold minor idQ skp
 rw [if_neg (Nat.not_lt_zero _)]
 by_cases h:r=c
 · rw [if_pos (by omega),if_pos h]
 · rw [if_neg (by omega),if_neg h]
theorem oH:∀ n,det n idQ=1
 | 0=>rfl
 | n + 1=>by
   unfold det
   rw [ar (g:=λi=>det n (minor idQ i) * idQ i 0) λi hi=>?_]
   · have:=cG (λi=>det n (minor idQ i)) 0 (n + 1) (by omega)
     have e:(λi=>det n (minor idQ i) * idQ i 0)=λk=>(λi=>det n (minor idQ i)) k * dq k 0:=rfl
     rw [e,this,uy,oH n]
   · by_cases z:i=0
     · subst z
       show 1 * 1 * _=_ * 1
       grind
     · unfold idQ
       rw [if_neg z]
       grind
theorem ML.uniq {n:Nat} {f:(Nat->Nat->Rat)->Rat} (F:ML n f) (M:Nat->Nat->Rat):f M=det n M * f idQ:=by
 have D:=iC n
 have H:ML n λM=>f M - det n M * f idQ:=by
   refine ⟨λ{M M'} e=>?_,λM p hp a b x y=>?_,λ{M p} hp e=>?_⟩
   · rw [F.cong e,D.cong e]
   · rw [F.lin M hp,D.lin M hp]
     grind
   · rw [F.alt hp e,D.alt hp e]
     grind
 have:=H.zero (by rw [oH]; grind) M
 grind
theorem n9:∀ {n:Nat} (M:Nat->Nat->Rat) {q:Nat},q < n->∀ (a b:Rat) (x y:Nat->Rat),det n (cX M q λc=>a * x c + b * y c)=a * det n (cX M q x) + b * det n (cX M q y)
 | 0,_,_,h,_,_,_,_=>absurd h (Nat.not_lt_zero _)
 | n + 1,M,q,hq,a,b,x,y=>by
   unfold det
   rw [aY,aY,<- fq]
   refine ar λi hi=>?_
   cases q with
   | zero=>
     have e:∀ v,minor (cX M 0 v) i=minor M i:=λv=>by
       funext r c
       unfold minor cX
       rw [if_neg (by omega)]
     rw [e,e,e]
     simp only [cX,if_true]
     grind
   | succ q=>
     have e:∀ v,minor (cX M (q + 1) v) i=cX (minor M i) q λr=>v (skp i r):=λv=>by
       funext r c
       unfold minor cX
       by_cases z:c=q
       · rw [if_pos (by omega),if_pos z]
       · rw [if_neg (by omega),if_neg z]
     rw [e,e,e,n9 (minor M i) (show q < n by omega) a b]
     have z:¬ (0=q + 1):=by omega
     simp only [cX,if_neg z]
     grind
theorem kC (g:Nat->Rat) (i:Nat):∀ n,i<=n->ay (λj=>g (skp i j)) n=ay g (n + 1) - g i
 | 0,h=>by
   have:i=0:=by omega
   subst this
   show (0:Rat)=0 + g 0 - g 0
   grind
 | n + 1,h=>by
   by_cases q:i=n + 1
   · subst q
     have e:ay (λj=>g (skp (n + 1) j)) (n + 1)=ay g (n + 1):=ar λk hk=>by unfold skp; rw [if_pos hk]
     rw [e,ay.eq_2 g (n + 1)]
     grind
   · rw [ay,kC g i n (by omega),ay.eq_2 g (n + 1)]
     have:skp i n=n + 1:=by unfold skp; rw [if_neg (by omega)]
     rw [this]
     grind
theorem rf {n:Nat} {G:Nat->Nat->Rat} (h:∀ i < n,∀ j < n,G i j=-G j i):ay (λi=>ay (λj=>G i j) n) n=0:=by
 have e:ay (λi=>ay (λj=>G i j) n) n=-1 * ay (λi=>ay (λj=>G i j) n) n:=by
   conv=>lhs; rw [fA]
   rw [aY]
   refine ar λi hi=>?_
   rw [aY]
   refine ar λj hj=>?_
   rw [h j hj i hi]
   grind
 grind
theorem vn {i j r:Nat} (h:i < j):skp i (skp (j - 1) r)=skp j (skp i r):=by
 unfold skp
 split <;> split <;> (try split) <;> (try split) <;> omega
theorem nQ:∀ {n:Nat} {M:Nat->Nat->Rat} {q:Nat},q + 1 < n->(∀ r < n,M r q=M r (q + 1))->det n M=0
 | 0,_,_,h,_=>absurd h (Nat.not_lt_zero _)
 | 1,_,_,h,_=>by omega
 | n + 2,M,q + 1,hq,h=>by
   rw [det]
   refine di λi hi=>?_
   rw [nQ (M:=minor M i) (q:=q) (by omega) λr hr=>h _ (lG hr),Rat.mul_zero]
 | n + 2,M,0,hq,h=>by
   let D:Nat->Nat->Rat:=λi j=>det n λr c=>M (skp i (skp j r)) (c + 2)
   let G:Nat->Nat->Rat:=λi j=>if i < j then -(sgn i * sgn j * M i 0 * M j 0 * D i (j - 1)) else if j < i then sgn i * sgn j * M i 0 * M j 0 * D i j else 0
   have inner:∀ i < n + 2,sgn i * M i 0 * det (n + 1) (minor M i)=ay (λj=>G i j) (n + 2):=λi hi=>by
     have e:ay (λj=>G i j) (n + 2)=ay (λj=>G i (skp i j)) (n + 1):=by
       have g0:G i i=0:=by simp only [G]; rw [if_neg (Nat.lt_irrefl i),if_neg (Nat.lt_irrefl i)]
       rw [kC (λj=>G i j) i (n + 1) (by omega),g0]
       grind
     rw [e,det,aY]
     refine ar λj hj=>?_
     have m0:minor M i j 0=M (skp i j) 0:=(h _ (lG hj)).symm
     have mm:det n (minor (minor M i) j)=D i j:=rfl
     rw [m0,mm]
     simp only [G]
     by_cases z:j < i
     · have s:skp i j=j:=by unfold skp; rw [if_pos z]
       rw [s,if_neg (by omega),if_pos z]
       grind
     · have s:skp i j=j + 1:=by unfold skp; rw [if_neg z]
       rw [s,if_pos (by omega),eY,show j + 1 - 1=j by omega]
       grind
   rw [det,ar inner]
   refine rf λi hi j hj=>?_
   have sy:∀ {i j:Nat},i < j->D i (j - 1)=D j i:=λ{i j} z=>by
     simp only [D]
     congr 1
     funext r c
     rw [vn z]
   simp only [G]
   rcases Nat.lt_trichotomy i j with z | z | z
   · rw [if_pos z,if_neg (by omega),if_pos z,sy z]
     grind
   · subst z
     rw [if_neg (Nat.lt_irrefl _),if_neg (Nat.lt_irrefl _)]
     rfl
   · rw [if_neg (by omega),if_pos z,if_pos z,sy z]
     grind
theorem gG (n:Nat) (M:Nat->Nat->Rat):det n (λi j=>M j i)=det n M:=by
 have H:ML n λM=>det n λi j=>M j i:=by
   refine ⟨λ{M M'} e=>ao λi hi j hj=>e j hj i hi,λM p hp a b x y=>?_,λ{M p} hp e=>nQ hp λr hr=>e r hr⟩
   exact n9 (λi j=>M j i) hp a b x y
 have u:=H.uniq M
 have i1:(det n λi j=>idQ j i)=1:=by
   rw [<- oH n]
   congr 1
   funext i j
   unfold idQ
   by_cases z:i=j
   · rw [if_pos z,if_pos z.symm]
   · rw [if_neg z,if_neg λy=>z y.symm]
 simp only [i1,Rat.mul_one] at u
 exact u
noncomputable def mulQ (n:Nat) (F H:Nat->Nat->Rat) (i j:Nat):Rat:=ay (λk=>F i k * H k j) n
theorem qL (n:Nat) (A B:Nat->Nat->Rat):det n (mulQ n A B)=det n A * det n B:=by
 have H:ML n λA=>det n (mulQ n A B):=by
   refine ⟨λ{M M'} e=>ao λi hi j hj=>ar λk hk=>by rw [e i hi k hk],λM p hp a b x y=>?_,λ{M p} hp e=>i6 hp λc hc=>ar λk hk=>by rw [e k hk]⟩
   have e:∀ v,mulQ n (av M p v) B=av (mulQ n M B) p λj=>ay (λk=>v k * B k j) n:=λv=>by
     funext r c
     unfold mulQ av
     split <;> rfl
   rw [e,e,e,<- mB _ hp]
   congr 2
   funext j
   rw [aY,aY,<- fq]
   exact ar λk hk=>by grind
 have u:=H.uniq A
 have i1:det n (mulQ n idQ B)=det n B:=ao λi hi j hj=>pC (λk=>B k j) i n hi
 simp only [i1] at u
 exact u
theorem cF (m:Nat):∀ (k:Nat) (M:Nat->Nat->Rat),(∀ i,k<=i->i < k + m->∀ j < k,M i j=0)->det (k + m) M=det k M * det m λi j=>M (k + i) (k + j)
 | 0,M,_=>by
   rw [Nat.zero_add]
   show det m M=1 * _
   rw [Rat.one_mul]
   congr 1
   funext i j
   rw [Nat.zero_add,Nat.zero_add]
 | k + 1,M,h=>by
   have a:k + 1 + m=(k + m) + 1:=by omega
   rw [a,det,det,gU]
   have tail:∀ t,ay (λi=>sgn i * M i 0 * det (k + m) (minor M i)) (k + 1 + t)=ay (λi=>sgn i * M i 0 * det (k + m) (minor M i)) (k + 1)\/¬ t<=m:=by
     intro t
     induction t with
     | zero=>exact .inl rfl
     | succ t ih=>
       by_cases q:t + 1<=m
       · rcases ih with ih | ih
         · refine .inl ?_
           rw [show k + 1 + (t + 1)=(k + 1 + t) + 1 by omega,ay,ih,h (k + 1 + t) (by omega) (by omega) 0 (by omega)]
           grind
         · omega
       · exact .inr q
   rcases tail m with e | e
   · rw [show k + m + 1=k + 1 + m by omega,e]
     refine ar λi hi=>?_
     rw [cF m k (minor M i) λr h1 h2 c hc=>?_]
     · have:(λr c=>minor M i (k + r) (k + c))=λr c=>M (k + 1 + r) (k + 1 + c):=by
         funext r c
         unfold minor skp
         rw [if_neg (by omega),show k + r + 1=k + 1 + r by omega,show k + c + 1=k + 1 + c by omega]
       rw [this]
       grind
     · unfold minor skp
       rw [if_neg (by omega)]
       exact h _ (by omega) (by omega) _ (by omega)
   · exact absurd (Nat.le_refl m) e
theorem jE {n k:Nat} (d:Rat) (β:Nat->Nat->Rat) (M:Nat->Nat->Rat):∀ t,k + t<=n->det n (λi j=>if k<=i/\i < k + t then d * M i j + ay (λa=>β i a * M a j) k else M i j)=d ^ t * det n M
 | 0,_=>by
   rw [Rat.pow_zero,Rat.one_mul]
   congr 1
   funext i j
   have n0:¬ (k<=i/\i < k + 0):=by omega
   rw [if_neg n0]
 | t + 1,h=>by
   have ih:=jE (n:=n) (k:=k) d β M t (by omega)
   have c:=(iC n).comb (λi j=>if k<=i/\i < k + t then d * M i j + ay (λa=>β i a * M a j) k else M i j) (p:=k + t) (k:=k) (by omega) (by omega) d (β (k + t))
   rw [ih] at c
   rw [Rat.pow_succ,Rat.mul_comm (d ^ t) d,Rat.mul_assoc,<- c]
   congr 1
   funext i j
   unfold av
   by_cases q:i=k + t
   · subst q
     have n1:¬ (k<=k + t/\k + t < k + t):=by omega
     have p1:k<=k + t/\k + t < k + (t + 1):=by omega
     rw [if_pos p1,if_pos rfl]
     dsimp only
     rw [if_neg n1]
     congr 1
     exact ar λa ha=>by
       have na:¬ (k<=a/\a < k + t):=by omega
       rw [if_neg na]
   · rw [if_neg q]
     dsimp only
     by_cases z:k<=i/\i < k + t
     · rw [if_pos (by omega),if_pos z]
     · rw [if_neg (by omega),if_neg z]
theorem uh {d:Rat} (h:d ≠ 0):∀ t:Nat,d ^ t ≠ 0
 | 0=>by rw [Rat.pow_zero]; exact λz=>by cases z
 | t + 1=>by
   rw [Rat.pow_succ]
   intro z
   rcases Rat.mul_eq_zero.mp z with y | y
   · exact uh h t y
   · exact h y
noncomputable def bm (Y:Nat->Nat->Rat) (k p q:Nat):Rat:=det (k + 1) λr c=>Y (if r < k then r else p) (if c < k then c else q)
noncomputable def bc (Y:Nat->Nat->Rat) (k p i:Nat):Rat:=det (k + 1) (av (λr c=>Y (if c < k then c else p) r) k (idQ i))
theorem fD (M:Nat->Nat->Rat):det 1 M=M 0 0:=by
 show 0 + 1 * M 0 0 * 1=M 0 0
 grind
theorem wD (M:Nat->Nat->Rat):det 2 M=M 0 0 * M 1 1 - M 0 1 * M 1 0:=by
 show 0 + 1 * M 0 0 * det 1 (minor M 0) + -1 * M 1 0 * det 1 (minor M 1)=_
 rw [fD,fD]
 show 0 + 1 * M 0 0 * M 1 1 + -1 * M 1 0 * M 0 1=_
 grind
section
variable {Y:Nat->Nat->Rat} {k p q:Nat}
theorem tI:bm Y k p q=det k Y * Y p q + ay (λi=>bc Y k p i * Y i q) k:=by
 have e:bm Y k p q=det (k + 1) (av (λr c=>Y (if c < k then c else p) r) k λr=>ay (λc=>Y (if c < k then c else p) q * idQ c r) (k + 1)):=by
   unfold bm
   rw [<- gG]
   refine ao λi hi j hj=>?_
   unfold av
   by_cases z:i=k
   · subst z
     rw [if_pos rfl,if_neg (Nat.lt_irrefl _)]
     exact (cG (λc=>Y (if c < i then c else p) q) j (i + 1) hj).symm
   · rw [if_neg z,if_pos (show i < k by omega)]
 have last:det (k + 1) (av (λr c=>Y (if c < k then c else p) r) k (idQ k))=det k Y:=by
   rw [cF 1 k _ λi h1 h2 j hj=>?_,fD]
   · have e1:av (λr c=>Y (if c < k then c else p) r) k (idQ k) (k + 0) (k + 0)=1:=by
       unfold av idQ
       rw [if_pos (Nat.add_zero k),if_pos (Nat.add_zero k).symm]
     rw [e1,Rat.mul_one,<- gG]
     refine ao λi hi j hj=>?_
     unfold av
     rw [if_neg (by omega)]
     dsimp only
     rw [if_pos hi]
   · have:i=k:=by omega
     subst this
     unfold av idQ
     rw [if_pos rfl,if_neg (by omega)]
 rw [e,(iC (k + 1)).sum _ (Nat.lt_succ_self k),ay,last,if_neg (Nat.lt_irrefl _),Rat.add_comm,Rat.mul_comm (Y p q)]
 congr 1
 exact ar λi hi=>by rw [if_pos hi,Rat.mul_comm]; rfl
theorem pU (h:q < k):bm Y k p q=0:=by
 unfold bm
 rw [<- gG]
 refine (iC (k + 1)).same (p:=q) (q:=k) (by omega) (by omega) (by omega) ?_
 funext r
 rw [if_pos h,if_neg (Nat.lt_irrefl _)]
theorem i5:bm Y k k k=det (k + 1) Y:=by
 refine ao λi hi j hj=>?_
 have:∀ r,r < k + 1->(if r < k then r else k)=r:=λr hr=>by split <;> omega
 rw [this i hi,this j hj]
theorem lF {i j:Nat} (h0:det k Y ≠ 0):det k Y * bm Y (k + 1) i j=bm Y k k k * bm Y k i j - bm Y k k j * bm Y k i k:=by
 let W:Nat->Nat->Rat:=λr c=>Y (if r < k + 1 then r else i) (if c < k + 1 then c else j)
 have e:=jE (n:=k + 2) (k:=k) (det k Y) (λr a=>bc Y k (if r < k + 1 then r else i) a) W 2 (Nat.le_refl _)
 have ent:∀ r c,(if k<=r/\r < k + 2 then det k Y * W r c + ay (λa=>bc Y k (if r < k + 1 then r else i) a * W a c) k else W r c)=if k<=r/\r < k + 2 then bm Y k (if r < k + 1 then r else i) (if c < k + 1 then c else j) else W r c:=λr c=>by
   by_cases z:k<=r/\r < k + 2
   · rw [if_pos z,if_pos z,tI]
     congr 1
     exact ar λa ha=>by simp only [W]; rw [if_pos (show a < k + 1 by omega)]
   · rw [if_neg z,if_neg z]
 simp only [ent] at e
 rw [cF 2 k _ λr h1 h2 c hc=>?_,wD] at e
 · have a0:k<=k + 0/\k + 0 < k + 2:=by omega
   have a1:k<=k + 1/\k + 1 < k + 2:=by omega
   have b0:k + 0 < k + 1:=by omega
   have b1:¬ k + 1 < k + 1:=by omega
   rw [if_pos a0,if_pos a1,if_pos a0,if_pos a1,if_pos b0,if_neg b1,if_pos b0,if_neg b1,Nat.add_zero] at e
   have dk:(det k λr c=>if k<=r/\r < k + 2 then bm Y k (if r < k + 1 then r else i) (if c < k + 1 then c else j) else W r c)=det k Y:=ao λr hr c hc=>by
     rw [if_neg (by omega)]
     simp only [W]
     rw [if_pos (by omega),if_pos (by omega)]
   rw [dk] at e
   have dw:det (k + 2) W=bm Y (k + 1) i j:=rfl
   rw [dw] at e
   have c:=Rat.inv_mul_cancel (det k Y) h0
   have p2:det k Y ^ 2=det k Y * det k Y:=by rw [Rat.pow_succ,Rat.pow_succ,Rat.pow_zero,Rat.one_mul]
   rw [p2] at e
   have e2:(det k Y)⁻¹ * (det k Y * det k Y * bm Y (k + 1) i j)=(det k Y)⁻¹ * (det k Y * (bm Y k k k * bm Y k i j - bm Y k k j * bm Y k i k)):=congrArg _ e.symm
   rw [Rat.mul_assoc,<- Rat.mul_assoc,c,Rat.one_mul,<- Rat.mul_assoc,c,Rat.one_mul] at e2
   exact e2
 · rw [if_pos ⟨h1,h2⟩,if_pos (show c < k + 1 by omega)]
   exact pU hc
theorem xg {n:Nat} (h0:det k Y ≠ 0) (hk:k < n) (h:∀ p,k<=p->p < n->bm Y k p k=0):det n Y=0:=by
 have e:=jE (n:=n) (k:=k) (det k Y) (λr a=>bc Y k r a) Y (n - k) (by omega)
 have ent:∀ r c,(if k<=r/\r < k + (n - k) then det k Y * Y r c + ay (λa=>bc Y k r a * Y a c) k else Y r c)=if k<=r/\r < k + (n - k) then bm Y k r c else Y r c:=λr c=>by
   by_cases z:k<=r/\r < k + (n - k)
   · rw [if_pos z,if_pos z,tI]
   · rw [if_neg z,if_neg z]
 simp only [ent] at e
 have z:(det n λr c=>if k<=r/\r < k + (n - k) then bm Y k r c else Y r c)=0:=by
   obtain ⟨m,hm⟩:∃ m,n=k + (m + 1):=⟨n - k - 1,by omega⟩
   subst hm
   rw [cF (m + 1) k _ λr h1 h2 c hc=>?_]
   · have:det (m + 1) (λi j=>if k<=k + i/\k + i < k + (k + (m + 1) - k) then bm Y k (k + i) (k + j) else Y (k + i) (k + j))=0:=by
       rw [det]
       refine di λi hi=>?_
       rw [if_pos (by omega),Nat.add_zero,h (k + i) (by omega) (by omega)]
       grind
     rw [this,Rat.mul_zero]
   · rw [if_pos (by omega)]
     exact pU hc
 rw [z] at e
 rcases Rat.mul_eq_zero.mp e.symm with y | y
 · exact absurd y (uh h0 _)
 · exact y
noncomputable def rho (k m r:Nat):Nat:=if r < k then r else if r=k then k + m else if r<=k + m then r - 1 else r
theorem fJ {n:Nat}:∀ (m:Nat) (Y:Nat->Nat->Rat),k + m < n->(det n λr=>Y (rho k m r))=sgn m * det n Y
 | 0,Y,_=>by
   have:(λr=>Y (rho k 0 r))=Y:=by
     funext r
     congr 1
     unfold rho
     split
     · rfl
     · split
       · omega
       · split <;> omega
   rw [this]
   show _=1 * _
   rw [Rat.one_mul]
 | m + 1,Y,h=>by
   have ih:=fJ (n:=n) m (av (av Y (k + m) (Y (k + m + 1))) (k + m + 1) (Y (k + m))) (by omega)
   have s:=(iC n).nb Y (p:=k + m) (by omega) (Y (k + m + 1)) (Y (k + m))
   rw [bG,bG] at s
   rw [s] at ih
   rw [eY]
   have e:(λr=>av (av Y (k + m) (Y (k + m + 1))) (k + m + 1) (Y (k + m)) (rho k m r))=λr=>Y (rho k (m + 1) r):=by
     funext r
     by_cases z:rho k m r=k + m + 1
     · rw [z,bS]
       congr 1
       unfold rho at z ⊢
       split at z
       · omega
       · split at z
         · omega
         · split at z
           · omega
           · rename_i a b c
             rw [if_neg a,if_neg b,if_pos (by omega)]
             omega
     · rw [bT z]
       by_cases y:rho k m r=k + m
       · rw [y,bS]
         congr 1
         unfold rho at y z ⊢
         split at y
         · omega
         · split at y
           · rename_i a b
             rw [if_neg a,if_pos b]
             omega
           · split at y
             · omega
             · omega
       · rw [bT y]
         congr 1
         unfold rho at y z ⊢
         split at y
         · rename_i a
           rw [if_pos a,if_pos a]
         · rename_i a
           rw [if_neg a] at z
           split at y
           · omega
           · rename_i b
             rw [if_neg b] at z
             rw [if_neg a,if_neg b,if_neg a,if_neg b]
             split at y
             · rename_i c
               rw [if_pos c,if_pos (by omega)]
             · rename_i c
               rw [if_neg c] at z
               rw [if_neg c,if_neg (by omega)]
   rw [e] at ih
   rw [ih]
   grind
theorem zY {m:Nat}:bm (λr=>Y (rho k m r)) k p q=bm Y k (rho k m p) q:=by
 refine ao λr hr c hc=>?_
 dsimp only
 congr 1
 by_cases z:r < k
 · rw [if_pos z,if_pos z]
   unfold rho
   rw [if_pos z]
 · rw [if_neg z,if_neg z]
theorem kY {m:Nat}:(det k λr=>Y (rho k m r))=det k Y:=ao λr hr c hc=>by
 unfold rho
 rw [if_pos hr]
end
noncomputable def ZB (b:Nat) (x:Rat):Prop:=∃ z:Int,x=(z:Rat)/\z.natAbs<=2 ^ b
theorem ZB.mono {b c:Nat} {x:Rat} (h:ZB b x) (hc:b<=c):ZB c x:=by
 obtain ⟨z,e,l⟩:=h
 exact ⟨z,e,Nat.le_trans l (Nat.pow_le_pow_right (by decide) hc)⟩
theorem ZB.mul {b c:Nat} {x y:Rat} (h:ZB b x) (g:ZB c y):ZB (b + c) (x * y):=by
 obtain ⟨u,rfl,l⟩:=h
 obtain ⟨v,rfl,k⟩:=g
 exact ⟨u * v,(Rat.intCast_mul u v).symm,by rw [Int.natAbs_mul,Nat.pow_add]; exact Nat.mul_le_mul l k⟩
theorem ZB.sgn (i:Nat):ZB 0 (sgn i):=by
 show ZB 0 (if i % 2=0 then 1 else -1)
 split
 · exact ⟨1,rfl,by decide⟩
 · exact ⟨-1,rfl,by decide⟩
theorem ZB.sum {b:Nat} {f:Nat->Rat}:∀ {n:Nat},(∀ i < n,ZB b (f i))->∃ z:Int,ay f n=(z:Rat)/\z.natAbs<=n * 2 ^ b
 | 0,_=>⟨0,rfl,Nat.zero_le _⟩
 | n + 1,h=>by
   obtain ⟨u,e,l⟩:=ZB.sum λi hi=>h i (Nat.lt_succ_of_lt hi)
   obtain ⟨v,e',l'⟩:=h n (Nat.lt_succ_self n)
   refine ⟨u + v,by rw [ay,e,e',Rat.intCast_add],?_⟩
   rw [Nat.succ_mul]
   exact Nat.le_trans (Int.natAbs_add_le _ _) (Nat.add_le_add l l')
theorem wI {b:Nat}:∀ {n:Nat} {M:Nat->Nat->Rat},n<=8->(∀ i < n,∀ j < n,ZB b (M i j))->ZB (n * (b + 3)) (det n M)
 | 0,_,_,_=>⟨1,rfl,Nat.one_le_two_pow⟩
 | n + 1,M,hn,h=>by
   obtain ⟨z,e,l⟩:=ZB.sum (b:=b + n * (b + 3)) (f:=λi=>sgn i * M i 0 * det n (minor M i)) (n:=n + 1) λi hi=>by
     have:=((ZB.sgn i).mul (h i hi 0 (by omega))).mul (wI (n:=n) (M:=minor M i) (by omega) λr hr c hc=>h _ (lG hr) _ (by omega))
     exact this.mono (by omega)
   refine ⟨z,e,Nat.le_trans l ?_⟩
   rw [show (n + 1) * (b + 3)=3 + (b + n * (b + 3)) by rw [Nat.succ_mul]; omega,Nat.pow_add 2 3]
   exact Nat.mul_le_mul_right _ (by omega)
noncomputable def gJ (s:Nat->Rat):Nat->Rat
 | 0=>1
 | n + 1=>gJ s n * s n
theorem hJ {n:Nat} (s:Nat->Rat) (M:Nat->Nat->Rat):∀ t,t<=n->det n (λi j=>if i < t then s i * M i j else M i j)=gJ s t * det n M
 | 0,_=>by
   rw [gJ,Rat.one_mul]
   exact ao λi _ j _=>if_neg (Nat.not_lt_zero _)
 | t + 1,h=>by
   have ih:=hJ (n:=n) s M t (by omega)
   have c:=(iC n).comb (λi j=>if i < t then s i * M i j else M i j) (p:=t) (k:=0) (by omega) (Nat.zero_le _) (s t) (λ_=>0)
   rw [ih] at c
   rw [gJ,Rat.mul_comm (gJ s t),Rat.mul_assoc,<- c]
   refine ao λi _ j _=>?_
   unfold av
   by_cases q:i=t
   · subst q
     rw [if_pos (Nat.lt_succ_self i),if_pos rfl]
     dsimp only
     rw [if_neg (Nat.lt_irrefl i)]
     show _=_ + 0
     rw [Rat.add_zero]
   · rw [if_neg q]
     dsimp only
     by_cases z:i < t
     · rw [if_pos (by omega),if_pos z]
     · rw [if_neg (by omega),if_neg z]
noncomputable def oS (k:Int) (j:Nat):Bool:=decide (Builtin.bitAnd (k / 2 ^ j) 1=1)
noncomputable def jm (k:Int) (j:Nat):Int:=Builtin.bitOr k (1 * 2 ^ j)
noncomputable def sgZ (b:Int):Int:=1 - 2 * b.fmod 2
noncomputable def j4 (row:List Int) (k v:Int) (j:Nat) (s:Int × List (Int × Int)):Int × List (Int × Int):=
 if oS k j then (s.1 + 1,s.2) else (s.1,eN s.2 (jm k j) ((bA s.2 (jm k j)).getD 0 + sgZ s.1 * row.getD j 0 * v))
noncomputable def bU (n:Nat) (row:List Int) (k v:Int) (kv:List (Int × Int)):Nat->Int × List (Int × Int)
 | 0=>(0,kv)
 | c + 1=>j4 row k v (n - 1 - c) (bU n row k v kv c)
noncomputable def ba (n:Nat) (row:List Int) (kv:List (Int × Int)):Nat->List (Int × Int)
 | 0=>[]
 | t + 1=>(bU n row (kv.getD t (0,0)).1 ((bA kv (kv.getD t (0,0)).1).getD 0) (ba n row kv t) n).2
noncomputable def lim:Nat:=2 ^ 3900
theorem jB (m:Nat) (Y:Nat->Nat->Rat):det (m + 1) Y=ay (λc=>sgn (m + c) * Y m c * det m λr q=>Y r (skp c q)) (m + 1):=by
 have e1:=fJ (k:=0) (n:=m + 1) m Y (by omega)
 have e2:=gG (m + 1) λr=>Y (rho 0 m r)
 rw [det] at e2
 have r0:rho 0 m 0=m:=by unfold rho; rw [if_neg (by omega),if_pos rfl]; omega
 have rs:∀ r,r < m->rho 0 m (r + 1)=r:=λr hr=>by
   unfold rho
   rw [if_neg (by omega),if_neg (by omega),if_pos (by omega)]
   omega
 have e3:ay (λc=>sgn c * Y m c * det m λr q=>Y r (skp c q)) (m + 1)=sgn m * det (m + 1) Y:=by
   rw [<- e1,<- e2]
   refine ar λc _=>?_
   rw [r0,<- gG m]
   congr 1
   exact ao λr hr q hq=>by
     unfold minor
     dsimp only
     rw [rs q hq]
 have sm:∀ c,sgn (m + c)=sgn m * sgn c:=λc=>by
   induction c with
   | zero=>rw [Nat.add_zero,show sgn 0=1 from rfl,Rat.mul_one]
   | succ c ih=>rw [<- Nat.add_assoc,eY,ih,eY]; grind
 have:ay (λc=>sgn (m + c) * Y m c * det m λr q=>Y r (skp c q)) (m + 1)=sgn m * ay (λc=>sgn c * Y m c * det m λr q=>Y r (skp c q)) (m + 1):=by
   rw [aY]
   refine ar λc _=>?_
   rw [sm]
   grind
 rw [this,e3,<- Rat.mul_assoc,mj,Rat.one_mul]
noncomputable def cP (M:Nat->Nat->Rat) (L:List Nat):Rat:=det L.length λr c=>M r (L.getD c 0)
theorem jW {M:Nat->Nat->Rat} {L:List Nat} {m:Nat} (h:L.length=m + 1):cP M L=ay (λc=>sgn (m - c) * M m (L.getD c 0) * cP M (L.eraseIdx c)) (m + 1):=by
 unfold cP
 rw [h,jB]
 refine ar λc hc=>?_
 have e1:sgn (m + c)=sgn (m - c):=by
   unfold sgn
   by_cases z:(m + c) % 2=0
   · rw [if_pos z,if_pos (by omega)]
   · rw [if_neg z,if_neg (by omega)]
 have e2:(L.eraseIdx c).length=m:=by rw [List.length_eraseIdx_of_lt (by omega)]; omega
 rw [e1,e2]
 refine congrArg (λx=>sgn (m - c) * M m (L.getD c 0) * x) (ao λr _ q hq=>?_)
 rw [List.getD_eq_getElem?_getD,List.getD_eq_getElem?_getD,List.getElem?_eraseIdx]
 unfold skp
 split <;> rfl
noncomputable def cols (n S:Nat):List Nat:=(List.range n).filter λj=>S.testBit j
theorem nW {n S j:Nat}:j ∈ cols n S ↔ j < n/\S.testBit j=true:=by
 unfold cols
 rw [List.mem_filter,List.mem_range]
theorem vG {n S j:Nat} (hj:j < n) (h:S.testBit j=false):cols n (S ||| 2 ^ j)=(cols j S)++j :: ((List.range (n - (j + 1))).map (j + 1 + ·)).filter (λk=>S.testBit k):=by
 unfold cols
 obtain ⟨d,rfl⟩:=Nat.exists_eq_add_of_le (show j + 1<=n from hj)
 rw [List.range_add,List.range_succ,List.filter_append,List.filter_append,show j + 1 + d - (j + 1)=d by omega,List.append_assoc]
 have lo:(List.range j).filter (λk=>(S ||| 2 ^ j).testBit k)=(List.range j).filter λk=>S.testBit k:=List.filter_congr λk hk=>by
   have:=List.mem_range.mp hk
   rw [Nat.testBit_or,Nat.testBit_two_pow_of_ne (by omega),Bool.or_false]
 have hi:((List.range d).map (j + 1 + ·)).filter (λk=>(S ||| 2 ^ j).testBit k)=((List.range d).map (j + 1 + ·)).filter λk=>S.testBit k:=List.filter_congr λk hk=>by
   obtain ⟨q,_,rfl⟩:=List.mem_map.mp hk
   rw [Nat.testBit_or,Nat.testBit_two_pow_of_ne (by omega),Bool.or_false]
 rw [lo,hi,List.filter_cons_of_pos (by rw [Nat.testBit_or,Nat.testBit_two_pow_self,Bool.or_true]),List.filter_nil]
 rfl
noncomputable def above (n j S:Nat):List Nat:=((List.range (n - (j + 1))).map (j + 1 + ·)).filter λk=>S.testBit k
theorem oZ {n S j:Nat} (hj:j < n) (h:S.testBit j=false):cols n S=cols j S++above n j S:=by
 unfold cols above
 obtain ⟨d,rfl⟩:=Nat.exists_eq_add_of_le (show j + 1<=n from hj)
 rw [List.range_add,List.range_succ,List.filter_append,List.filter_append,show j + 1 + d - (j + 1)=d by omega,List.filter_cons_of_neg (by rw [h]; decide),List.filter_nil,List.append_nil]
theorem jJ {n S j:Nat} (hj:j < n) (h:S.testBit j=false):(cols n (S ||| 2 ^ j)).length=(cols n S).length + 1/\(cols n (S ||| 2 ^ j)).getD (cols j S).length 0=j/\(cols n (S ||| 2 ^ j)).eraseIdx (cols j S).length=cols n S/\(cols n S).length - (cols j S).length=(above n j S).length/\(cols j S).length<=(cols n S).length:=by
 rw [vG hj h,oZ hj h]
 refine ⟨by simp only [List.length_append,List.length_cons]; rfl,?_,?_,by rw [List.length_append]; omega,by rw [List.length_append]; omega⟩
 · rw [List.getD_eq_getElem?_getD,List.getElem?_append_right (Nat.le_refl _),Nat.sub_self]
   rfl
 · rw [List.eraseIdx_append_of_length_le (Nat.le_refl _),Nat.sub_self]
   rfl
theorem rV (n S:Nat):cols (n + 1) S=if S.testBit n then cols n S++[n] else cols n S:=by
 unfold cols
 rw [List.range_succ,List.filter_append]
 cases h:S.testBit n with
 | true=>rw [List.filter_cons_of_pos h,List.filter_nil,if_pos rfl]
 | false=>rw [List.filter_cons_of_neg (by rw [h]; decide),List.filter_nil,List.append_nil,if_neg (by decide)]
theorem nH (G:Nat->Nat->Rat) (S:Nat):∀ n,ay (λc=>G c ((cols n S).getD c 0)) (cols n S).length=ay (λj=>if S.testBit j then G (cols j S).length j else 0) n
 | 0=>rfl
 | n + 1=>by
   rw [rV,ay,<- nH G S n]
   cases h:S.testBit n with
   | true=>
     rw [if_pos rfl,if_pos rfl,List.length_append,List.length_singleton,ay]
     have e1:(cols n S++[n]).getD (cols n S).length 0=n:=by
       rw [List.getD_eq_getElem?_getD,List.getElem?_append_right (Nat.le_refl _),Nat.sub_self]
       rfl
     rw [e1]
     refine congrArg (· + G (cols n S).length n) (ar λc hc=>?_)
     rw [List.getD_eq_getElem?_getD,List.getElem?_append_left hc,<- List.getD_eq_getElem?_getD]
   | false=>rw [if_neg (by decide),if_neg (by decide),Rat.add_zero]
theorem gS {S j:Nat} (h:S.testBit j=true):(S ^^^ 2 ^ j).testBit j=false/\(S ^^^ 2 ^ j) ||| 2 ^ j=S/\∀ k,k ≠ j->(S ^^^ 2 ^ j).testBit k=S.testBit k:=by
 have a:∀ k,k ≠ j->(S ^^^ 2 ^ j).testBit k=S.testBit k:=λk hk=>by rw [Nat.testBit_xor,Nat.testBit_two_pow_of_ne (Ne.symm hk),Bool.xor_false]
 have b:(S ^^^ 2 ^ j).testBit j=false:=by rw [Nat.testBit_xor,Nat.testBit_two_pow_self,h]; rfl
 refine ⟨b,Nat.eq_of_testBit_eq λk=>?_,a⟩
 rw [Nat.testBit_or]
 by_cases z:k=j
 · subst z
   rw [Nat.testBit_two_pow_self,Bool.or_true,h]
 · rw [a k z,Nat.testBit_two_pow_of_ne (Ne.symm z),Bool.or_false]
theorem rq {M:Nat->Nat->Rat} {n m S:Nat} (h:(cols n S).length=m + 1):cP M (cols n S)=ay (λj=>if S.testBit j then sgn (above n j S).length * M m j * cP M (cols n (S ^^^ 2 ^ j)) else 0) n:=by
 rw [jW h,<- h,nH (λc j=>sgn (m - c) * M m j * cP M ((cols n S).eraseIdx c)) S n]
 refine ar λj hj=>?_
 cases hb:S.testBit j with
 | false=>rfl
 | true=>
   rw [if_pos rfl,if_pos rfl]
   obtain ⟨b1,b2,b3⟩:=gS hb
   obtain ⟨c1,c2,c3,c4,c5⟩:=jJ hj b1
   rw [b2] at c1 c2 c3
   have l1:cols j (S ^^^ 2 ^ j)=cols j S:=List.filter_congr λk hk=>b3 k (by have:=List.mem_range.mp hk; omega)
   have l2:above n j (S ^^^ 2 ^ j)=above n j S:=List.filter_congr λk hk=>by
     obtain ⟨q,_,rfl⟩:=List.mem_map.mp hk
     exact b3 _ (by omega)
   rw [l1] at c3 c4
   rw [l2] at c4
   rw [c3,<- c4,show (cols n (S ^^^ 2 ^ j)).length=m by omega]
theorem Ao (S j:Nat):oS (S:Int) j=S.testBit j:=by
 unfold oS
 have e:(S:Int) / 2 ^ j=((S / 2 ^ j:Nat):Int):=by simp
 rw [e,PyProof.Rows.bitAnd_pp (Int.natCast_nonneg _) (by decide),Int.toNat_natCast,Nat.testBit_eq_decide_div_mod_eq]
 have:(S / 2 ^ j) &&& (1:Int).toNat=S / 2 ^ j % 2:=by show (S / 2 ^ j) &&& 1=_; rw [Nat.and_one_is_mod]
 rw [this]
 congr 1
 rw [eq_iff_iff]
 omega
theorem Bm (S j:Nat):jm (S:Int) j=((S ||| 2 ^ j:Nat):Int):=by
 unfold jm
 have e:(1:Int) * 2 ^ j=((2 ^ j:Nat):Int):=by simp
 rw [e]
 generalize 2 ^ j=y
 unfold Builtin.bitOr
 have h1:¬ (0<=Builtin.bitNot (S:Int)):=by unfold Builtin.bitNot; omega
 have h2:¬ (0<=Builtin.bitNot (y:Int)):=by unfold Builtin.bitNot; omega
 rw [PyProof.Rows.bitAnd_nn h1 h2]
 have h3:∀ x:Int,Builtin.bitNot (Builtin.bitNot x)=x:=λx=>by unfold Builtin.bitNot; omega
 rw [h3,h3,h3,Int.toNat_natCast,Int.toNat_natCast]
theorem Ca (k:Nat):((sgZ (k:Int):Int):Rat)=sgn k:=by
 unfold sgZ sgn
 rw [Int.fmod_eq_emod_of_nonneg _ (by decide)]
 by_cases h:k % 2=0
 · rw [if_pos h,show (k:Int) % 2=0 by omega]; rfl
 · rw [if_neg h,show (k:Int) % 2=1 by omega]; rfl
theorem lY (kv:List (Int × Int)) (k v j:Int):bA (eN kv k v) j=if j=k then some v else bA kv j:=by
 have e:=uF (Ev.bw kv) (Sum.inl k) (Sum.inl j) (V.int v)
 rw [pR,gI,gI] at e
 by_cases h:j=k
 · rw [if_pos (congrArg Sum.inl h)] at e
   rw [if_pos h]
   cases z:bA (eN kv k v) j with
   | none=>rw [z] at e; cases e
   | some x=>rw [z] at e; cases e; rfl
 · rw [if_neg (λz=>h (Sum.inl.inj z))] at e
   rw [if_neg h]
   cases z:bA (eN kv k v) j <;> cases z':bA kv j <;> rw [z,z'] at e <;> cases e <;> rfl
theorem nK (kv:List (Int × Int)) (k v:Int):(eN kv k v).map (·.1)=if (kv.any λp=>decide (p.1=k))=true then kv.map (·.1) else kv.map (·.1)++[k]:=by
 unfold eN
 split
 · rw [List.map_map]
   refine List.map_congr_left λp _=>?_
   simp only [Function.comp]
   split <;> rfl
 · rw [List.map_append]; rfl
theorem zR {kv:List (Int × Int)} {k v:Int} (h:(kv.map (·.1)).Nodup):((eN kv k v).map (·.1)).Nodup:=by
 rw [nK]
 split
 · exact h
 · rename_i z
   rw [List.nodup_append]
   refine ⟨h,by simp,λa ha b hb e=>z ?_⟩
   obtain ⟨p,hp,rfl⟩:=List.mem_map.mp ha
   rw [List.mem_singleton] at hb
   exact List.any_eq_true.mpr ⟨p,hp,decide_eq_true (e.trans hb)⟩
theorem vA {kv:List (Int × Int)} {k v x:Int} (h:x ∈ (eN kv k v).map (·.1)):x=k\/x ∈ kv.map (·.1):=by
 rw [nK] at h
 split at h
 · exact .inr h
 · rcases List.mem_append.mp h with h | h
   · exact .inr h
   · exact .inl (List.mem_singleton.mp h)
theorem oQ:∀ {kv:List (Int × Int)} {q:Int × Int},(kv.map (·.1)).Nodup->q ∈ kv->bA kv q.1=some q.2
 | p :: t,q,h,hq=>by
   rw [List.map_cons,List.nodup_cons] at h
   unfold bA
   by_cases z:p.1=q.1
   · rw [List.find?_cons_of_pos (by simp [z])]
     rcases List.mem_cons.mp hq with e | hq
     · rw [e]; rfl
     · exact absurd (List.mem_map.mpr ⟨q,hq,z.symm⟩) h.1
   · rw [List.find?_cons_of_neg (by simp [z])]
     rcases List.mem_cons.mp hq with e | hq
     · exact absurd (by rw [e]) z
     · exact oQ h.2 hq
theorem uz:∀ {kv:List (Int × Int)} {k v:Int},bA kv k=some v->(k,v) ∈ kv
 | p :: t,k,v,h=>by
   unfold bA at h
   by_cases z:p.1=k
   · rw [List.find?_cons_of_pos (by simp [z])] at h
     cases h
     rw [<- z]
     exact List.mem_cons_self ..
   · rw [List.find?_cons_of_neg (by simp [z])] at h
     exact List.mem_cons_of_mem _ (uz h)
noncomputable def gv (kv:List (Int × Int)) (k:Int):Rat:=(((bA kv k).getD 0:Int):Rat)
theorem y4 (kv:List (Int × Int)) (k j x:Int):gv (eN kv k ((bA kv k).getD 0 + x)) j=gv kv j + if j=k then (x:Rat) else 0:=by
 unfold gv
 rw [lY]
 by_cases h:j=k
 · rw [if_pos h,if_pos h,h,Option.getD_some,Rat.intCast_add]
 · rw [if_neg h,if_neg h,Rat.add_zero]
theorem pk {n j S:Nat} (h:j + 1 < n):(above n j S).length=(if S.testBit (j + 1) then 1 else 0) + (above n (j + 1) S).length:=by
 unfold above
 obtain ⟨d,rfl⟩:=Nat.exists_eq_add_of_le (show j + 2<=n from h)
 rw [show j + 2 + d - (j + 1)=d + 1 by omega,show j + 2 + d - (j + 1 + 1)=d by omega,List.range_succ_eq_map,List.map_cons,List.map_map,List.filter_cons]
 have e:(List.range d).map ((j + 1 + ·) ∘ Nat.succ)=(List.range d).map (j + 1 + 1 + ·):=List.map_congr_left λk _=>by simp only [Function.comp]; omega
 rw [e,Nat.add_zero]
 split
 · rw [List.length_cons]; omega
 · omega
theorem oB {n S:Nat}:(above (n + 1) n S).length=0:=by
 unfold above
 rw [show n + 1 - (n + 1)=0 by omega]
 rfl
theorem i8 (g:Nat->Rat):∀ n,ay g (n + 1)=g 0 + ay (λk=>g (k + 1)) n
 | 0=>by simp only [ay,Rat.add_zero,Rat.zero_add]
 | n + 1=>by
   rw [ay,i8 g n,ay,Rat.add_assoc]
theorem n8 (f:Nat->Rat):∀ n,ay (λt=>f (n - 1 - t)) n=ay f n
 | 0=>rfl
 | n + 1=>by
   rw [i8,ay,Rat.add_comm,show n + 1 - 1 - 0=n by omega,<- n8 f n]
   refine congrArg (· + f n) (ar λk hk=>?_)
   rw [show n + 1 - 1 - (k + 1)=n - 1 - k by omega]
noncomputable def oA (n S:Nat):Nat->Nat
 | 0=>0
 | c + 1=>oA n S c + if S.testBit (n - 1 - c) then 1 else 0
theorem kz {n S:Nat}:∀ c,c < n->oA n S c=(above n (n - 1 - c) S).length
 | 0,h=>by
   obtain ⟨m,rfl⟩:=Nat.exists_eq_succ_of_ne_zero (show n ≠ 0 by omega)
   rw [show m.succ - 1 - 0=m by omega,oB]
   rfl
 | c + 1,h=>by
   rw [oA,kz c (by omega),pk (n:=n) (j:=n - 1 - (c + 1)) (by omega),show n - 1 - (c + 1) + 1=n - 1 - c by omega]
   omega
noncomputable def evQ (n:Nat) (row:List Int) (S:Nat) (v:Rat) (T:Int) (j:Nat):Rat:=if S.testBit j then 0 else if T=((S ||| 2 ^ j:Nat):Int) then sgn (above n j S).length * ((row.getD j 0:Int):Rat) * v else 0
structure CI (n S:Nat) (row:List Int) (v:Int) (lk:List (Int × Int)) (c:Nat) (r:Int × List (Int × Int)):Prop where
 cnt:r.1=(oA n S c:Nat)
 val:∀ T,gv r.2 T=gv lk T + ay (λt=>evQ n row S v T (n - 1 - t)) c
 key:∀ x ∈ r.2.map (·.1),x ∈ lk.map (·.1)\/∃ j,j < n/\S.testBit j=false/\x=((S ||| 2 ^ j:Nat):Int)
 nd:(r.2.map (·.1)).Nodup
 old:∀ T,bA lk T ≠ none->bA r.2 T ≠ none
 new:∀ t < c,S.testBit (n - 1 - t)=false->bA r.2 ((S ||| 2 ^ (n - 1 - t):Nat):Int) ≠ none
theorem qS {n S:Nat} {row:List Int} {v:Int} {lk:List (Int × Int)} (hn:(lk.map (·.1)).Nodup):∀ c,c<=n->CI n S row v lk c (bU n row (S:Int) v lk c)
 | 0,_=>⟨rfl,λT=>by rw [ay,Rat.add_zero]; rfl,λx h=>.inl h,hn,λ_ h=>h,λt h=>by omega⟩
 | c + 1,hc=>by
   obtain ⟨h1,h2,h3,h4,h5,h6⟩:=qS (n:=n) (S:=S) (row:=row) (v:=v) hn c (by omega)
   rw [bU,j4,Ao,Bm]
   generalize bU n row (S:Int) v lk c=r at h1 h2 h3 h4 h5 h6 ⊢
   cases hb:S.testBit (n - 1 - c) with
   | true=>
     rw [if_pos rfl]
     refine ⟨by dsimp only; rw [h1,oA,hb,if_pos rfl]; omega,λT=>?_,h3,h4,h5,λt ht hf=>?_⟩
     · rw [ay,evQ,if_pos hb,Rat.add_zero]; exact h2 T
     · rcases Nat.lt_or_ge t c with z | z
       · exact h6 t z hf
       · obtain rfl:t=c:=by omega
         rw [hb] at hf; cases hf
   | false=>
     rw [if_neg (by decide)]
     refine ⟨by dsimp only; rw [h1,oA,hb]; rfl,λT=>?_,λx hx=>?_,zR h4,λT hT=>?_,λt ht hf=>?_⟩
     · dsimp only
       have e:evQ n row S v T (n - 1 - c)=if T=((S ||| 2 ^ (n - 1 - c):Nat):Int) then sgn (oA n S c) * ((row.getD (n - 1 - c) 0:Int):Rat) * v else 0:=by
         unfold evQ
         rw [if_neg (by rw [hb]; decide),<- kz (n:=n) (S:=S) c (by omega)]
       rw [y4,h2,ay,<- Rat.add_assoc,e,h1,Rat.intCast_mul,Rat.intCast_mul,Ca]
     · rcases vA hx with e | e
       · exact .inr ⟨n - 1 - c,by omega,hb,e⟩
       · exact h3 x e
     · dsimp only
       rw [lY]
       split
       · exact nofun
       · exact h5 T hT
     · dsimp only
       rw [lY]
       split
       · exact nofun
       · rename_i z
         rcases Nat.lt_or_ge t c with y | y
         · exact h6 t y hf
         · obtain rfl:t=c:=by omega
           exact absurd rfl z
structure MI (n:Nat) (row:List Int) (Sf:Nat->Nat) (vf:Nat->Rat) (t:Nat) (r:List (Int × Int)):Prop where
 val:∀ T,gv r T=ay (λs=>ay (evQ n row (Sf s) (vf s) T) n) t
 key:∀ x ∈ r.map (·.1),∃ s < t,∃ j,j < n/\(Sf s).testBit j=false/\x=((Sf s ||| 2 ^ j:Nat):Int)
 nd:(r.map (·.1)).Nodup
 new:∀ s < t,∀ j < n,(Sf s).testBit j=false->bA r ((Sf s ||| 2 ^ j:Nat):Int) ≠ none
theorem nJ {n:Nat} {row:List Int} {kv:List (Int × Int)} {Sf:Nat->Nat} (hS:∀ s < kv.length,(kv.getD s (0,0)).1=(Sf s:Int)):∀ t,t<=kv.length->MI n row Sf (λs=>gv kv (Sf s)) t (ba n row kv t)
 | 0,_=>⟨λT=>rfl,λx h=>by simp [ba] at h,by simp [ba],λs h=>by omega⟩
 | t + 1,ht=>by
   obtain ⟨h1,h2,h3,h4⟩:=nJ (n:=n) (row:=row) hS t (by omega)
   rw [ba,hS t (by omega)]
   generalize ba n row kv t=r at h1 h2 h3 h4 ⊢
   obtain ⟨_,c2,c3,c4,c5,c6⟩:=qS (n:=n) (S:=Sf t) (row:=row) (v:=(bA kv (Sf t:Int)).getD 0) h3 n (Nat.le_refl _)
   refine ⟨λT=>?_,λx hx=>?_,c4,λs hs j hj hf=>?_⟩
   · rw [c2,h1,ay,n8 (evQ n row (Sf t) _ T)]
     rfl
   · rcases c3 x hx with e | ⟨j,e⟩
     · obtain ⟨s,hs,e⟩:=h2 x e
       exact ⟨s,by omega,e⟩
     · exact ⟨t,by omega,j,e⟩
   · rcases Nat.lt_or_ge s t with z | z
     · exact c5 _ (h4 s z j hj hf)
     · obtain rfl:s=t:=by omega
       have:=c6 (n - 1 - j) (by omega)
       rw [show n - 1 - (n - 1 - j)=j by omega] at this
       exact this hf
structure RI (n i:Nat) (M:Nat->Nat->Rat) (kv:List (Int × Int)):Prop where
 key:∀ x ∈ kv.map (·.1),∃ S:Nat,x=(S:Int)/\S < 2 ^ n/\(cols n S).length=i
 nd:(kv.map (·.1)).Nodup
 all:∀ S:Nat,S < 2 ^ n->(cols n S).length=i->bA kv (S:Int) ≠ none/\gv kv (S:Int)=cP M (cols n S)
theorem u3 {S T j:Nat} (h:S.testBit j=false) (e:T=S ||| 2 ^ j):T.testBit j=true/\S=T ^^^ 2 ^ j:=by
 have h1:T.testBit j=true:=by rw [e,Nat.testBit_or,Nat.testBit_two_pow_self,Bool.or_true]
 refine ⟨h1,Nat.eq_of_testBit_eq λk=>?_⟩
 obtain ⟨b1,_,b3⟩:=gS h1
 by_cases z:k=j
 · subst z; rw [h,b1]
 · rw [b3 k z,e,Nat.testBit_or,Nat.testBit_two_pow_of_ne (Ne.symm z),Bool.or_false]
theorem RI.step {n i:Nat} {M:Nat->Nat->Rat} {kv:List (Int × Int)} {row:List Int} (h:RI n i M kv) (hr:∀ j < n,((row.getD j 0:Int):Rat)=M i j):RI n (i + 1) M (ba n row kv kv.length):=by
 have hS:∀ s < kv.length,(kv.getD s (0,0)).1=((kv.getD s (0,0)).1.toNat:Int)/\(kv.getD s (0,0)).1.toNat < 2 ^ n/\(cols n (kv.getD s (0,0)).1.toNat).length=i:=λs hs=>by
   have hm:kv.getD s (0,0) ∈ kv:=by rw [List.getD_eq_getElem?_getD,List.getElem?_eq_getElem hs]; exact List.getElem_mem hs
   obtain ⟨S,e1,e2,e3⟩:=h.key _ (List.mem_map.mpr ⟨_,hm,rfl⟩)
   rw [e1,Int.toNat_natCast]
   exact ⟨rfl,e2,e3⟩
 obtain ⟨m1,m2,m3,m4⟩:=nJ (n:=n) (row:=row) (kv:=kv) (Sf:=λs=>(kv.getD s (0,0)).1.toNat) (λs hs=>(hS s hs).1) kv.length (Nat.le_refl _)
 have off:∀ {T j:Nat},T < 2 ^ n->(cols n T).length=i + 1->j < n->T.testBit j=true->T ^^^ 2 ^ j < 2 ^ n/\(cols n (T ^^^ 2 ^ j)).length=i/\∃ s < kv.length,(kv.getD s (0,0)).1.toNat=T ^^^ 2 ^ j:=λ{T j} hT hl hj hb=>by
   obtain ⟨b1,b2,_⟩:=gS hb
   have l1:T ^^^ 2 ^ j < 2 ^ n:=Nat.xor_lt_two_pow hT (Nat.pow_lt_pow_right (by decide) hj)
   have l2:=(jJ hj b1).1
   rw [b2,hl] at l2
   refine ⟨l1,by omega,?_⟩
   obtain ⟨q,_⟩:=h.all _ l1 (by omega)
   cases z:bA kv ((T ^^^ 2 ^ j:Nat):Int) with
   | none=>exact absurd z q
   | some v=>
     obtain ⟨s,hs⟩:=List.getElem?_of_mem (uz z)
     refine ⟨s,(List.getElem?_eq_some_iff.mp hs).1,?_⟩
     rw [List.getD_eq_getElem?_getD,hs]
     show (((T ^^^ 2 ^ j:Nat):Int)).toNat=_
     rw [Int.toNat_natCast]
 refine ⟨λx hx=>?_,m3,λT hT hl=>⟨?_,?_⟩⟩
 · obtain ⟨s,hs,j,hj,hf,rfl⟩:=m2 x hx
   obtain ⟨_,e2,e3⟩:=hS s hs
   exact ⟨_,rfl,Nat.or_lt_two_pow e2 (Nat.pow_lt_pow_right (by decide) hj),by rw [(jJ hj hf).1,e3]⟩
 · obtain ⟨j,hj⟩:=List.exists_mem_of_length_pos (l:=cols n T) (by omega)
   obtain ⟨hj,hb⟩:=nW.mp hj
   obtain ⟨_,_,s,hs,e⟩:=off hT hl hj hb
   obtain ⟨b1,b2,_⟩:=gS hb
   have:=m4 s hs j hj
   try dsimp only at this
   rw [e,b2] at this
   exact this b1
 · rw [m1,fA (λs j=>evQ n row (kv.getD s (0,0)).1.toNat (gv kv ((kv.getD s (0,0)).1.toNat:Int)) (T:Int) j) n kv.length,rq hl]
   refine ar λj hj=>?_
   cases hb:T.testBit j with
   | false=>
     rw [if_neg (by decide)]
     refine di λs hs=>?_
     unfold evQ
     cases hf:(kv.getD s (0,0)).1.toNat.testBit j with
     | true=>rw [if_pos rfl]
     | false=>
       rw [if_neg (by decide),if_neg λz=>?_]
       have:=(u3 hf (Int.ofNat.inj z)).1
       rw [hb] at this; cases this
   | true=>
     rw [if_pos rfl]
     obtain ⟨l1,l2,s0,hs0,e0⟩:=off hT hl hj hb
     obtain ⟨b1,b2,b3⟩:=gS hb
     have ea:above n j (T ^^^ 2 ^ j)=above n j T:=List.filter_congr λk hk=>by
       obtain ⟨q,_,rfl⟩:=List.mem_map.mp hk
       exact b3 _ (by omega)
     rw [<- (h.all _ l1 l2).2,<- hr j hj,<- ea,<- cG (λ_=>sgn (above n j (T ^^^ 2 ^ j)).length * ((row.getD j 0:Int):Rat) * gv kv ((T ^^^ 2 ^ j:Nat):Int)) s0 kv.length hs0]
     refine ar λs hs=>?_
     unfold evQ dq
     by_cases z:s=s0
     · subst z
       rw [e0,b1,b2,if_neg (by decide),if_pos rfl,if_pos rfl,Rat.mul_one]
     · rw [if_neg z,Rat.mul_zero]
       cases hf:(kv.getD s (0,0)).1.toNat.testBit j with
       | true=>rw [if_pos rfl]
       | false=>
         rw [if_neg (by decide),if_neg λy=>z ?_]
         have e1:=(u3 hf (Int.ofNat.inj y)).2
         have e2:(kv.map (·.1))[s]?=(kv.map (·.1))[s0]?:=by
           have g:∀ s < kv.length,(kv.map (·.1))[s]?=some (kv.getD s (0,0)).1:=λs hs=>by
             rw [List.getElem?_map,List.getD_eq_getElem?_getD,List.getElem?_eq_getElem hs]; rfl
           rw [g s hs,g s0 hs0,(hS s hs).1,(hS s0 hs0).1,e1,e0]
         exact (List.getElem?_inj (by rw [List.length_map]; exact hs) h.nd).mp e2
theorem RI.zero (n:Nat) (M:Nat->Nat->Rat):RI n 0 M [(0,1)]:=by
 have c0:∀ S:Nat,S < 2 ^ n->(cols n S).length=0->S=0:=λS hS h=>Nat.eq_of_testBit_eq λk=>by
   rw [Nat.zero_testBit]
   rcases Nat.lt_or_ge k n with z | z
   · cases hb:S.testBit k with
     | false=>rfl
     | true=>
       have:=nW.mpr ⟨z,hb⟩
       rw [List.length_eq_zero_iff.mp h] at this
       cases this
   · exact Nat.testBit_lt_two_pow (Nat.lt_of_lt_of_le hS (Nat.pow_le_pow_right (by decide) z))
 refine ⟨λx hx=>⟨0,?_,Nat.two_pow_pos n,?_⟩,by simp,λS hS h=>?_⟩
 · simpa using hx
 · unfold cols
   rw [List.filter_eq_nil_iff.mpr λa _=>by rw [Nat.zero_testBit]; decide]
   rfl
 · obtain rfl:=c0 S hS h
   refine ⟨nofun,?_⟩
   rw [cP,h]
   rfl
section
variable {P:Program} {w:World} {K:PySem.W.Frag} {mg:Str->Option Value} {base:Heap} {k:Nat} {f:Addr} {fd:FuncData} {qual:Str}
end
noncomputable def mi (M:Nat->Nat->Rat) (k:Nat) (ρ γ:Nat->Nat):Rat:=det k λr c=>M (ρ r) (γ c)
theorem og {M:Nat->Nat->Rat} {k:Nat} {ρ ρ' γ γ':Nat->Nat} (h:∀ i < k,ρ i=ρ' i) (h':∀ i < k,γ i=γ' i):mi M k ρ γ=mi M k ρ' γ':=ao λi hi j hj=>by rw [h i hi,h' j hj]
theorem zB (M:Nat->Nat->Rat) (k:Nat) (ρ γ:Nat->Nat):mi (λi j=>M j i) k γ ρ=mi M k ρ γ:=gG k λr c=>M (ρ r) (γ c)
theorem cu {n k:Nat} (m:Nat) (Y:Nat->Nat->Rat) (h:k + m < n):(det n λr c=>Y r (rho k m c))=sgn m * det n Y:=by
 rw [<- gG n Y,<- fJ (k:=k) m (λi j=>Y j i) h]
 exact (gG n λi j=>Y j (rho k m i))
theorem wH {d x y:Rat} (h:d ≠ 0) (e:d * x=d * y):x=y:=by
 have:=congrArg (d⁻¹ * ·) e
 simp only [<- Rat.mul_assoc,Rat.inv_mul_cancel d h,Rat.one_mul] at this
 exact this
noncomputable def k2 (Y:Nat->Nat->Rat) (s x y:Nat):Rat:=det (s + 2) λr c=>Y r (if c < s then c else if c=s then x else y)
theorem ve {s:Nat} {Y:Nat->Nat->Rat} (h0:det s Y ≠ 0) (x y:Nat):det s Y * k2 Y s x y=bm Y s s x * bm Y s (s + 1) y - bm Y s s y * bm Y s (s + 1) x:=by
 have e0:(det s λr c=>Y r (if c < s then c else if c=s then x else y))=det s Y:=ao λi hi j hj=>by rw [if_pos hj]
 have st:=lF (Y:=λr c=>Y r (if c < s then c else if c=s then x else y)) (k:=s) (i:=s + 1) (j:=s + 1) (by rw [e0]; exact h0)
 have e1:∀ p,bm (λr c=>Y r (if c < s then c else if c=s then x else y)) s p s=bm Y s p x:=λp=>by
   unfold bm
   refine ao λi hi j hj=>?_
   by_cases z:j < s
   · simp [z]
   · simp [z]
 have e2:∀ p,bm (λr c=>Y r (if c < s then c else if c=s then x else y)) s p (s + 1)=bm Y s p y:=λp=>by
   unfold bm
   refine ao λi hi j hj=>?_
   by_cases z:j < s
   · simp [z]
   · simp only [if_neg z,if_neg (show ¬s + 1 < s by omega),if_neg (show ¬s + 1=s by omega)]
 rw [i5,e0,e1,e1,e2,e2] at st
 exact st
theorem three {s:Nat} {Y:Nat->Nat->Rat} (h0:det s Y ≠ 0) (x y z:Nat):k2 Y s x z * bm Y s s y=k2 Y s y z * bm Y s s x + k2 Y s x y * bm Y s s z:=by
 have h1:=ve h0 x z
 have h2:=ve h0 y z
 have h3:=ve h0 x y
 generalize det s Y=d at h0 h1 h2 h3
 generalize k2 Y s x z=p at h1 ⊢
 generalize k2 Y s y z=q at h2 ⊢
 generalize k2 Y s x y=r at h3 ⊢
 generalize bm Y s s x=a at h1 h2 h3 ⊢
 generalize bm Y s s y=b at h1 h2 h3 ⊢
 generalize bm Y s s z=c at h1 h2 h3 ⊢
 generalize bm Y s (s + 1) x=a' at h1 h2 h3
 generalize bm Y s (s + 1) y=b' at h1 h2 h3
 generalize bm Y s (s + 1) z=c' at h1 h2 h3
 have e:d * (p * b)=d * (q * a + r * c):=by grind
 exact wH h0 e
noncomputable def dlt (γ:Nat->Nat) (j p c:Nat):Nat:=if c < j then γ (c + 1) else if c=j then p else γ c
noncomputable def eta (γ:Nat->Nat) (j p c:Nat):Nat:=if c<=j then γ c else if c=j + 1 then p else γ (c - 1)
noncomputable def clY (γ:Nat->Nat) (s p c:Nat):Nat:=if c < s then γ (c + 1) else if c=s then γ 0 else if c=s + 1 then p else γ (s + 1)
theorem plu {M:Nat->Nat->Rat} {ρ γ:Nat->Nat} {s j p:Nat} (hj:j<=s) (h0:mi M s ρ (λc=>γ (c + 1)) ≠ 0) :
   mi M (s + 1) ρ (dlt γ j p) * mi M (s + 2) ρ γ=mi M (s + 1) ρ γ * mi M (s + 2) ρ (dlt γ j p) + mi M (s + 1) ρ (λc=>γ (c + 1)) * mi M (s + 2) ρ (eta γ j p):=by
 have hY:det s (λr c=>M (ρ r) (clY γ s p c))=mi M s ρ (λc=>γ (c + 1)):=ao λi hi q hq=>by unfold clY; rw [if_pos hq]
 have t:=three (Y:=λr c=>M (ρ r) (clY γ s p c)) (s:=s) (by rw [hY]; exact h0) s (s + 1) (s + 2)
 have b1:mi M (s + 1) ρ γ=sgn s * bm (λr c=>M (ρ r) (clY γ s p c)) s s s:=by
   unfold bm
   rw [<- cu (k:=0) s _ (by omega)]
   refine ao λi hi q hq=>?_
   have e1:(if i < s then i else s)=i:=by split <;> omega
   rw [e1]
   refine congrArg (M (ρ i)) ?_
   unfold rho clY
   rcases Nat.eq_zero_or_pos q with z | z
   · subst z
     simp
   · simp only [if_neg (show ¬q < 0 by omega),if_neg (show ¬q=0 by omega),if_pos (show q<=0 + s by omega),if_pos (show q - 1 < s by omega)]
     rw [show q - 1 + 1=q by omega]
 have b3:mi M (s + 1) ρ (λc=>γ (c + 1))=bm (λr c=>M (ρ r) (clY γ s p c)) s s (s + 2):=by
   unfold bm
   refine ao λi hi q hq=>?_
   have e1:(if i < s then i else s)=i:=by split <;> omega
   rw [e1]
   refine congrArg (M (ρ i)) ?_
   unfold clY
   by_cases z:q < s
   · simp only [if_pos z]
   · simp only [if_neg z,if_neg (show ¬s + 2 < s by omega),if_neg (show ¬s + 2=s by omega),if_neg (show ¬s + 2=s + 1 by omega)]
     rw [show q=s by omega]
 have b2:mi M (s + 1) ρ (dlt γ j p)=sgn (s - j) * bm (λr c=>M (ρ r) (clY γ s p c)) s s (s + 1):=by
   unfold bm
   rw [<- cu (k:=j) (s - j) _ (by omega)]
   refine ao λi hi q hq=>?_
   have e1:(if i < s then i else s)=i:=by split <;> omega
   rw [e1]
   refine congrArg (M (ρ i)) ?_
   unfold rho clY dlt
   by_cases z:q < j
   · simp only [if_pos z,if_pos (show q < s by omega)]
   · by_cases z2:q=j
     · simp only [if_neg z,if_pos z2,if_neg (show ¬j + (s - j) < s by omega),if_neg (show ¬s + 1 < s by omega),if_neg (show ¬s + 1=s by omega),if_pos]
     · simp only [if_neg z,if_neg z2,if_pos (show q<=j + (s - j) by omega),if_pos (show q - 1 < s by omega)]
       rw [show q - 1 + 1=q by omega]
 have k13:mi M (s + 2) ρ γ=sgn s * k2 (λr c=>M (ρ r) (clY γ s p c)) s s (s + 2):=by
   unfold k2
   rw [<- cu (k:=0) s _ (by omega)]
   refine ao λi hi q hq=>?_
   refine congrArg (M (ρ i)) ?_
   unfold rho clY
   rcases Nat.eq_zero_or_pos q with z | z
   · subst z
     simp
   · by_cases z2:q<=s
     · simp only [if_neg (show ¬q < 0 by omega),if_neg (show ¬q=0 by omega),if_pos (show q<=0 + s by omega),if_pos (show q - 1 < s by omega)]
       rw [show q - 1 + 1=q by omega]
     · simp only [if_neg (show ¬q < 0 by omega),if_neg (show ¬q=0 by omega),if_neg (show ¬q<=0 + s by omega),if_neg (show ¬q < s by omega),if_neg (show ¬q=s by omega),if_neg (show ¬s + 2 < s by omega),if_neg (show ¬s + 2=s by omega),if_neg (show ¬s + 2=s + 1 by omega)]
       rw [show q=s + 1 by omega]
 have k23:mi M (s + 2) ρ (dlt γ j p)=sgn (s - j) * k2 (λr c=>M (ρ r) (clY γ s p c)) s (s + 1) (s + 2):=by
   unfold k2
   rw [<- cu (k:=j) (s - j) _ (by omega)]
   refine ao λi hi q hq=>?_
   refine congrArg (M (ρ i)) ?_
   unfold rho clY dlt
   by_cases z:q < j
   · simp only [if_pos z,if_pos (show q < s by omega)]
   · by_cases z2:q=j
     · simp only [if_neg z,if_pos z2,if_neg (show ¬j + (s - j) < s by omega),if_pos (show j + (s - j)=s by omega),if_neg (show ¬s + 1 < s by omega),if_neg (show ¬s + 1=s by omega),if_pos]
     · by_cases z3:q<=s
       · simp only [if_neg z,if_neg z2,if_pos (show q<=j + (s - j) by omega),if_pos (show q - 1 < s by omega)]
         rw [show q - 1 + 1=q by omega]
       · simp only [if_neg z,if_neg z2,if_neg (show ¬q<=j + (s - j) by omega),if_neg (show ¬q < s by omega),if_neg (show ¬q=s by omega),if_neg (show ¬s + 2 < s by omega),if_neg (show ¬s + 2=s by omega),if_neg (show ¬s + 2=s + 1 by omega)]
         rw [show q=s + 1 by omega]
 have k12:mi M (s + 2) ρ (eta γ j p)=sgn (s - j) * (sgn s * k2 (λr c=>M (ρ r) (clY γ s p c)) s s (s + 1)):=by
   unfold k2
   rw [<- cu (k:=0) s _ (by omega),<- cu (k:=j + 1) (s - j) _ (by omega)]
   refine ao λi hi q hq=>?_
   refine congrArg (M (ρ i)) ?_
   have in_:∀ c,c<=s->clY γ s p (if rho 0 s c < s then rho 0 s c else if rho 0 s c=s then s else s + 1)=γ c:=λc hc=>by
     unfold rho clY
     rcases Nat.eq_zero_or_pos c with z | z
     · subst z
       simp
     · simp only [if_neg (show ¬c < 0 by omega),if_neg (show ¬c=0 by omega),if_pos (show c<=0 + s by omega),if_pos (show c - 1 < s by omega)]
       rw [show c - 1 + 1=c by omega]
   have il:clY γ s p (if rho 0 s (s + 1) < s then rho 0 s (s + 1) else if rho 0 s (s + 1)=s then s else s + 1)=p:=by
     have:rho 0 s (s + 1)=s + 1:=by unfold rho; (repeat' split) <;> omega
     rw [this]
     unfold clY
     simp only [if_neg (show ¬s + 1 < s by omega),if_neg (show ¬s + 1=s by omega),if_pos]
   show eta γ j p q=clY γ s p (if rho 0 s (rho (j + 1) (s - j) q) < s then rho 0 s (rho (j + 1) (s - j) q) else if rho 0 s (rho (j + 1) (s - j) q)=s then s else s + 1)
   unfold eta
   by_cases z:q<=j
   · rw [if_pos z,show rho (j + 1) (s - j) q=q by unfold rho; rw [if_pos (by omega)],in_ q (by omega)]
   · rw [if_neg z]
     by_cases z2:q=j + 1
     · rw [if_pos z2,show rho (j + 1) (s - j) q=s + 1 by unfold rho; rw [if_neg (by omega),if_pos z2]; omega,il]
     · rw [if_neg z2,show rho (j + 1) (s - j) q=q - 1 by unfold rho; rw [if_neg (by omega),if_neg z2,if_pos (by omega)],in_ (q - 1) (by omega)]
 have q1:=mj s
 have q2:=mj (s - j)
 rw [b1,b2,b3,k13,k23,k12]
 generalize bm (λr c=>M (ρ r) (clY γ s p c)) s s s=x1 at t ⊢
 generalize bm (λr c=>M (ρ r) (clY γ s p c)) s s (s + 1)=x2 at t ⊢
 generalize bm (λr c=>M (ρ r) (clY γ s p c)) s s (s + 2)=x3 at t ⊢
 generalize k2 (λr c=>M (ρ r) (clY γ s p c)) s s (s + 2)=y13 at t ⊢
 generalize k2 (λr c=>M (ρ r) (clY γ s p c)) s (s + 1) (s + 2)=y23 at t ⊢
 generalize k2 (λr c=>M (ρ r) (clY γ s p c)) s s (s + 1)=y12 at t ⊢
 generalize sgn s=u at q1 ⊢
 generalize sgn (s - j)=v at q2 ⊢
 grind
noncomputable def Inc (k:Nat) (γ:Nat->Nat):Prop:=∀ i,i + 1 < k->γ i < γ (i + 1)
theorem Inc.lt {k:Nat} {γ:Nat->Nat} (h:Inc k γ):∀ (d i:Nat),i + d + 1 < k->γ i < γ (i + d + 1)
 | 0,i,hi=>h i hi
 | d + 1,i,hi=>Nat.lt_trans (h.lt d i (by omega)) (h (i + d + 1) hi)
theorem Inc.mono {k:Nat} {γ:Nat->Nat} (h:Inc k γ) {i j:Nat} (hij:i < j) (hj:j < k):γ i < γ j:=by
 have:=h.lt (j - i - 1) i (by omega)
 rwa [show i + (j - i - 1) + 1=j by omega] at this
theorem Inc.le {k l:Nat} {γ:Nat->Nat} (h:Inc k γ) (hl:l<=k):Inc l γ:=λi hi=>h i (by omega)
theorem Inc.up {k:Nat} {γ:Nat->Nat} (h:Inc (k + 1) γ):Inc k λc=>γ (c + 1):=λi hi=>h (i + 1) (by omega)
theorem Inc.dlt {k j p:Nat} {γ:Nat->Nat} (h:Inc k γ) (h1:γ j < p) (h2:p < γ (j + 1)) (hj:j + 1 < k):Inc k (dlt γ j p):=λi hi=>by
 unfold K61.dlt
 by_cases z:i + 1 < j
 · rw [if_pos (by omega),if_pos z]
   exact h (i + 1) (by omega)
 · by_cases z2:i + 1=j
   · rw [if_pos (by omega),if_neg z,if_pos z2,z2]
     exact h1
   · rw [if_neg (by omega),if_neg z,if_neg z2]
     by_cases z3:i=j
     · rw [if_pos z3,z3]
       exact h2
     · rw [if_neg z3]
       exact h i hi
theorem Inc.eta {k j p:Nat} {γ:Nat->Nat} (h:Inc k γ) (h1:γ j < p) (h2:p < γ (j + 1)) (hj:j + 1 < k):Inc k (eta γ j p):=λi hi=>by
 unfold K61.eta
 by_cases z:i + 1<=j
 · rw [if_pos (by omega),if_pos z]
   exact h i hi
 · by_cases z2:i=j
   · rw [if_pos (by omega),if_neg z,if_pos (by omega),z2]
     exact h1
   · by_cases z3:i=j + 1
     · rw [if_neg (by omega),if_pos z3,if_neg z,if_neg (by omega),show i + 1 - 1=j + 1 by omega]
       exact h2
     · rw [if_neg (by omega),if_neg z3,if_neg z,if_neg (by omega),show i + 1 - 1=i - 1 + 1 by omega]
       exact h (i - 1) (by omega)
theorem Inc.gap {k:Nat} {γ:Nat->Nat} (h:Inc k γ):(∀ i < k,γ i=γ 0 + i)\/∃ j,j + 1 < k/\γ j + 1 < γ (j + 1):=by
 induction k with
 | zero=>exact .inl λi hi=>by omega
 | succ k ih=>
   rcases ih (h.le (by omega)) with g | ⟨j,h1,h2⟩
   · by_cases z:k=0
     · exact .inl λi hi=>by rw [show i=0 by omega]; rfl
     · have:=h (k - 1) (by omega)
       rw [show k - 1 + 1=k by omega] at this
       have g1:=g (k - 1) (by omega)
       by_cases y:γ (k - 1) + 1 < γ k
       · exact .inr ⟨k - 1,by omega,by rw [show k - 1 + 1=k by omega]; exact y⟩
       · refine .inl λi hi=>?_
         by_cases x:i=k
         · subst x; omega
         · exact g i (by omega)
   · exact .inr ⟨j,by omega,h2⟩
theorem l4 {x y:Rat} (hx:0 < x) (h:0 < x * y):0 < y:=by
 refine Rat.not_le.mp λz=>?_
 have:=Rat.mul_nonneg (Rat.le_of_lt hx) (show 0<=-y by grind)
 rw [Rat.mul_neg] at this
 grind
theorem Bg {M:Nat->Nat->Rat} {m:Nat} {ρ:Nat->Nat} {N:Nat} (h:∀ k a,k<=N->1<=k->a + k<=m->0 < mi M k ρ (λc=>a + c)) :
   ∀ k,k<=N->∀ d γ,Inc k γ->(1<=k->γ (k - 1) < m)->γ (k - 1) - γ 0<=d->0 < mi M k ρ γ:=by
 intro k
 induction k using Nat.strongRecOn with
 | ind k ihk=>
   intro hN d
   have sub:∀ l,l < k->∀ γ',Inc l γ'->(1<=l->γ' (l - 1) < m)->0 < mi M l ρ γ':=λl hl γ' hi hm=>ihk l hl (by omega) (γ' (l - 1)) γ' hi hm (by omega)
   have flat:∀ γ,(1<=k->γ (k - 1) < m)->(∀ i < k,γ i=γ 0 + i)->0 < mi M k ρ γ:=λγ hm g=>by
     by_cases z:k=0
     · subst z
       show (0:Rat) < 1
       decide
     · rw [og (ρ':=ρ) (γ':=λc=>γ 0 + c) (λ_ _=>rfl) g]
       have:=g (k - 1) (by omega)
       have:=hm (by omega)
       exact h k (γ 0) hN (by omega) (by omega)
   induction d with
   | zero=>
     intro γ hi hm hd
     rcases hi.gap with g | ⟨j,h1,h2⟩
     · exact flat γ hm g
     · have l1:γ 0<=γ j:=by
         by_cases z:j=0
         · subst z; exact Nat.le_refl _
         · exact Nat.le_of_lt (hi.mono (by omega) (by omega))
       have l2:γ (j + 1)<=γ (k - 1):=by
         by_cases z:j + 1=k - 1
         · rw [z]; exact Nat.le_refl _
         · exact Nat.le_of_lt (hi.mono (by omega) (by omega))
       omega
   | succ d ihd=>
     intro γ hi hm hd
     rcases hi.gap with g | ⟨j,h1,h2⟩
     · exact flat γ hm g
     · obtain ⟨s,rfl⟩:∃ s,k=s + 2:=⟨k - 2,by omega⟩
       have hm':γ (s + 1) < m:=hm (by omega)
       have hd':γ (s + 1) - γ 0<=d + 1:=hd
       have g1:γ j < γ j + 1:=Nat.lt_succ_self _
       have i1:=hi.dlt g1 h2 h1
       have i2:=hi.eta g1 h2 h1
       have l0:γ 0 < γ (s + 1):=hi.mono (by omega) (by omega)
       have d1:dlt γ j (γ j + 1) (s + 1)=γ (s + 1):=by
         unfold dlt
         rw [if_neg (by omega),if_neg (by omega)]
       have d0:γ 0 < dlt γ j (γ j + 1) 0:=by
         unfold dlt
         by_cases z:0 < j
         · rw [if_pos z]; exact hi 0 (by omega)
         · rw [if_neg z,if_pos (by omega),show j=0 by omega]; exact Nat.lt_succ_self _
       have e0:eta γ j (γ j + 1) 0=γ 0:=by
         unfold eta
         rw [if_pos (by omega)]
       have e1:eta γ j (γ j + 1) (s + 1) < γ (s + 1):=by
         unfold eta
         rw [if_neg (by omega)]
         by_cases z:s + 1=j + 1
         · rw [if_pos z,z]; exact h2
         · rw [if_neg z]; exact hi s (by omega)
       have ds:dlt γ j (γ j + 1) s < m:=Nat.lt_trans (i1 s (by omega)) (by rw [d1]; exact hm')
       have s0:=sub s (by omega) (λc=>γ (c + 1)) (hi.le (show s + 1<=s + 2 by omega)).up λq=>by
         show γ (s - 1 + 1) < m
         rw [show s - 1 + 1=s by omega]
         exact Nat.lt_trans (hi s (by omega)) hm'
       have p:=plu (M:=M) (ρ:=ρ) (γ:=γ) (s:=s) (j:=j) (p:=γ j + 1) (by omega) (by intro z; rw [z] at s0; exact Rat.lt_irrefl s0)
       have s1:=sub (s + 1) (by omega) (dlt γ j (γ j + 1)) (i1.le (by omega)) λ_=>ds
       have s2:=sub (s + 1) (by omega) γ (hi.le (by omega)) λ_=>Nat.lt_trans (hi s (by omega)) hm'
       have s3:=sub (s + 1) (by omega) (λc=>γ (c + 1)) hi.up λ_=>hm'
       have t1:=ihd (dlt γ j (γ j + 1)) i1 (λ_=>by show dlt γ j (γ j + 1) (s + 1) < m; rw [d1]; exact hm') (by show dlt γ j (γ j + 1) (s + 1) - _<=d; rw [d1]; omega)
       have t2:=ihd (eta γ j (γ j + 1)) i2 (λ_=>by show eta γ j (γ j + 1) (s + 1) < m; omega) (by show eta γ j (γ j + 1) (s + 1) - _<=d; rw [e0]; omega)
       refine l4 s1 ?_
       rw [p]
       have u1:=Rat.mul_pos s2 t1
       have u2:=Rat.mul_pos s3 t2
       grind
theorem fek {M:Nat->Nat->Rat} {n m:Nat} (h:∀ k a b,1<=k->a + k<=n->b + k<=m->0 < mi M k (λr=>a + r) (λc=>b + c)) {k:Nat} {ρ γ:Nat->Nat} (hρ:Inc k ρ) (hγ:Inc k γ) (h1:1<=k->ρ (k - 1) < n) (h2:1<=k->γ (k - 1) < m):0 < mi M k ρ γ:=by
 rw [<- zB]
 refine Bg (m:=n) (N:=k) (λl a hl h1l ha=>?_) k (Nat.le_refl _) _ ρ hρ h1 (Nat.le_refl _)
 rw [zB]
 refine Bg (m:=m) (N:=l) (λl' b hl' h1' hb=>?_) l (Nat.le_refl _) _ γ (hγ.le hl) (λq=>?_) (Nat.le_refl _)
 · exact h l' a b h1' (by omega) hb
 · by_cases z:l=k
   · subst z; exact h2 h1l
   · exact Nat.lt_trans (hγ.mono (show l - 1 < k - 1 by omega) (by omega)) (h2 (by omega))
noncomputable def sld (M:Nat->Nat->Rat) (a b k:Nat):Rat:=mi M k (λr=>a + r) (λc=>b + c)
noncomputable def ix1 (a t r:Nat):Nat:=if r < t then a + 1 + r else if r=t then a else a + t + 1
theorem i7 {a t r:Nat} (h:r<=t + 1):ix1 a t (rho 0 t r)=a + r:=by
 have e:rho 0 t r=if r=0 then t else if r<=t then r - 1 else r:=by
   unfold rho
   simp
 rw [e]
 unfold ix1
 by_cases z:r=0
 · rw [if_pos z,if_neg (by omega),if_pos rfl]; omega
 · rw [if_neg z]
   by_cases y:r<=t
   · rw [if_pos y,if_pos (by omega)]; omega
   · rw [if_neg y,if_neg (by omega),if_neg (by omega)]; omega
theorem tM {a t r:Nat} (h:r < t):ix1 a t r=a + 1 + r:=if_pos h
theorem BV {M:Nat->Nat->Rat} {a b t:Nat} (h0:sld M (a + 1) (b + 1) t ≠ 0):sld M (a + 1) (b + 1) t * sld M a b (t + 2)=sld M a b (t + 1) * sld M (a + 1) (b + 1) (t + 1) - sld M a (b + 1) (t + 1) * sld M (a + 1) b (t + 1):=by
 have hY:det t (λr c=>M (ix1 a t r) (ix1 b t c))=sld M (a + 1) (b + 1) t:=ao λi hi j hj=>by rw [tM hi,tM hj]
 have st:=lF (Y:=λr c=>M (ix1 a t r) (ix1 b t c)) (k:=t) (i:=t + 1) (j:=t + 1) (by rw [hY]; exact h0)
 rw [i5,i5,hY] at st
 have q:=mj t
 have both:∀ n,t < n->n<=t + 2->det n (λr c=>M (ix1 a t r) (ix1 b t c))=sld M a b n:=λn hn hn2=>by
   have e:sld M a b n=det n λr c=>M (ix1 a t (rho 0 t r)) (ix1 b t (rho 0 t c)):=ao λi hi j hj=>by rw [i7 (by omega),i7 (by omega)]
   rw [e,fJ (k:=0) t (λr c=>M (ix1 a t r) (ix1 b t (rho 0 t c))) (by omega),cu (k:=0) t (λr c=>M (ix1 a t r) (ix1 b t c)) (by omega),<- Rat.mul_assoc,q,Rat.one_mul]
 have e3:bm (λr c=>M (ix1 a t r) (ix1 b t c)) t (t + 1) (t + 1)=sld M (a + 1) (b + 1) (t + 1):=by
   unfold bm sld mi
   refine ao λi hi j hj=>?_
   have f:∀ x i,i < t + 1->ix1 x t (if i < t then i else t + 1)=x + 1 + i:=λx i hi=>by
     unfold ix1
     by_cases z:i < t
     · rw [if_pos z,if_pos z]
     · rw [if_neg z,if_neg (by omega),if_neg (by omega)]; omega
   show M (ix1 a t _) (ix1 b t _)=_
   rw [f a i hi,f b j hj]
 have f:∀ x i,i < t + 1->ix1 x t (if i < t then i else t + 1)=x + 1 + i:=λx i hi=>by
   unfold ix1
   by_cases z:i < t
   · rw [if_pos z,if_pos z]
   · rw [if_neg z,if_neg (by omega),if_neg (by omega)]; omega
 have g:∀ i,i < t + 1->(if i < t then i else t)=i:=λi hi=>by split <;> omega
 have e4:sld M a (b + 1) (t + 1)=sgn t * bm (λr c=>M (ix1 a t r) (ix1 b t c)) t t (t + 1):=by
   unfold bm sld mi
   rw [<- fJ (k:=0) t _ (by omega)]
   refine ao λi hi j hj=>?_
   have hr:rho 0 t i < t + 1:=by unfold rho; (repeat' split) <;> omega
   show _=M (ix1 a t _) (ix1 b t _)
   rw [f b j hj,g _ hr,i7 (by omega)]
 have e5:sld M (a + 1) b (t + 1)=sgn t * bm (λr c=>M (ix1 a t r) (ix1 b t c)) t (t + 1) t:=by
   unfold bm sld mi
   rw [<- cu (k:=0) t _ (by omega)]
   refine ao λi hi j hj=>?_
   have hr:rho 0 t j < t + 1:=by unfold rho; (repeat' split) <;> omega
   show _=M (ix1 a t _) (ix1 b t _)
   rw [f a i hi,g _ hr,i7 (by omega)]
 rw [both (t + 1) (by omega) (by omega),e3,both (t + 1 + 1) (by omega) (by omega)] at st
 rw [e4,e5]
 generalize bm (λr c=>M (ix1 a t r) (ix1 b t c)) t t (t + 1)=x at st ⊢
 generalize bm (λr c=>M (ix1 a t r) (ix1 b t c)) t (t + 1) t=y at st ⊢
 generalize sgn t=u at q ⊢
 show sld M (a + 1) (b + 1) t * sld M a b (t + 1 + 1)=_
 rw [st]
 grind
theorem sol {M:Nat->Nat->Rat} {n m:Nat} (h:∀ k a b,1<=k->a + k<=n->b + k<=m->(a=0\/b=0)->0 < sld M a b k):∀ s k a b,a + b=s->1<=k->a + k<=n->b + k<=m->0 < sld M a b k:=by
 intro s
 induction s using Nat.strongRecOn with
 | ind s ih=>
   intro k
   induction k with
   | zero=>intro a b _ h1; omega
   | succ t iht=>
     intro a b hs _ ha hb
     by_cases z:a=0\/b=0
     · exact h _ _ _ (by omega) ha hb z
     · obtain ⟨a',rfl⟩:∃ a',a=a' + 1:=⟨a - 1,by omega⟩
       obtain ⟨b',rfl⟩:∃ b',b=b' + 1:=⟨b - 1,by omega⟩
       have s0:0 < sld M (a' + 1) (b' + 1) t:=by
         by_cases y:t=0
         · subst y
           show (0:Rat) < 1
           decide
         · exact iht _ _ hs (by omega) (by omega) (by omega)
       have s1:=ih (a' + b') (by omega) (t + 2) a' b' rfl (by omega) (by omega) (by omega)
       have s2:=ih (a' + b') (by omega) (t + 1) a' b' rfl (by omega) (by omega) (by omega)
       have s3:=ih (a' + (b' + 1)) (by omega) (t + 1) a' (b' + 1) rfl (by omega) (by omega) (by omega)
       have s4:=ih (a' + 1 + b') (by omega) (t + 1) (a' + 1) b' rfl (by omega) (by omega) (by omega)
       have d:=BV (M:=M) (a:=a') (b:=b') (t:=t) (by intro q; rw [q] at s0; exact Rat.lt_irrefl s0)
       refine l4 s2 ?_
       have u1:=Rat.mul_pos s0 s1
       have u2:=Rat.mul_pos s3 s4
       grind
theorem tp {M:Nat->Nat->Rat} {n m:Nat} (h:∀ k a b,1<=k->a + k<=n->b + k<=m->(a=0\/b=0)->0 < sld M a b k) {k:Nat} {ρ γ:Nat->Nat} (hρ:Inc k ρ) (hγ:Inc k γ) (h1:1<=k->ρ (k - 1) < n) (h2:1<=k->γ (k - 1) < m):0 < mi M k ρ γ:=
 fek (λk a b hk ha hb=>sol h _ k a b rfl hk ha hb) hρ hγ h1 h2
section
variable {P:Program} {w:World} {K:PySem.W.Frag} {mg:Str->Option Value} {base:Heap} {k:Nat} {f:Addr} {fd:FuncData} {qual:Str}
end
noncomputable def jP:Int->List Int->List Int
 | _,[]=>[]
 | c,b :: r=>c.fmod b :: jP (c.fdiv b) r
noncomputable def wA (c:Int) (bs:List Int):Int:=bs.foldl (λc b=>c.fdiv b) c
noncomputable def yd (c:Int) (k:Nat) (b:Int):Int:=(((((c * 48271 + (k:Int) * k * 69621 + (k:Int) * 16807 + 11).fmod 2147483647) * 40692 + c + 31 * (k:Int)).fmod 2147483399).fdiv 7).fmod b
noncomputable def wt (c:Int) (bs:List Int):List Int:=(List.range bs.length).map λk=>yd c k (bs.getD k 0)
noncomputable def nums (c:Int) (bs:List Int):List Int:=if (10:Int) ^ (18:Int).toNat<=vZ c then jP c bs else wt c bs
theorem kW:∀ (bs:List Int) (c b:Int),jP c (bs++[b])=jP c bs++[(wA c bs).fmod b]
 | [],_,_=>rfl
 | a :: bs,c,b=>by rw [List.cons_append,jP,jP,kW bs]; rfl
theorem jj:∀ (bs:List Int) (c:Int),(jP c bs).length=bs.length
 | [],_=>rfl
 | _ :: bs,c=>congrArg (· + 1) (jj bs _)
theorem gn (c:Int) (bs:List Int):(nums c bs).length=bs.length:=by
 unfold nums
 split
 · exact jj bs c
 · simp [wt]
theorem qc:∀ (bs:List Int) (c:Int),(∀ b ∈ bs,0 < b)->∀ (i:Nat),i < bs.length->0<=(jP c bs).getD i 0/\(jP c bs).getD i 0 < bs.getD i 0
 | b :: bs,c,h,0,_=>by
   have:=h b (List.mem_cons_self ..)
   exact ⟨Int.fmod_nonneg_of_pos c this,Int.fmod_lt_of_pos c this⟩
 | b :: bs,c,h,i + 1,hi=>by
   have:=qc bs (c.fdiv b) (λx hx=>h x (List.mem_cons_of_mem _ hx)) i (by simpa using hi)
   simpa [jP] using this
theorem iX {c:Int} {bs:List Int} (h:∀ b ∈ bs,0 < b) {i:Nat} (hi:i < bs.length):0<=(nums c bs).getD i 0/\(nums c bs).getD i 0 < bs.getD i 0:=by
 unfold nums
 split
 · exact qc bs c h i hi
 · have hp:0 < bs.getD i 0:=h _ (by simp [hi])
   have e:(wt c bs).getD i 0=yd c i (bs.getD i 0):=by simp [wt,hi]
   rw [e]
   exact ⟨Int.fmod_nonneg_of_pos _ hp,Int.fmod_lt_of_pos _ hp⟩
theorem take_snoc {α:Type} {xs:List α} {i:Nat} (d:α) (h:i < xs.length):xs.take (i + 1)=xs.take i++[xs.getD i d]:=by
 rw [List.take_add_one,List.getElem?_eq_getElem h]
 simp [h]
theorem zJ {b:Int} (h0:0 < b) (h:b < 2 ^ 60):0 < b/\aD b:=⟨h0,mkD (by omega) (by omega)⟩
noncomputable def cv (ds:List D) (r:Sl):Prop:=∃ (c:Int) (bs:List Int),ds=[.int c,.lst (bs.map .int)]/\bs.length<=10000/\(∀ b ∈ bs,0 < b/\aD b)/\r=.o ((nums c bs).map .int)
section
variable {P:Program} {w:World} {K:PySem.W.Frag} {mg:Str->Option Value} {base:Heap} {k:Nat} {f:Addr} {fd:FuncData} {qual:Str}
theorem lg (F:Fun K "_law_numbers" qual (top 47) f fd) (hb:∀ x ∈ aq,mg x=none):aS P w K mg base CX0 (k + 1) f fd ["_law_cell_here","_law_bases"] (spD K cv):=by
 refine fnD F gq hb (by rintro _ _ ⟨_,_,rfl,_⟩; rfl) ?_
 rintro _ _ ⟨c,bs,rfl,hl,hbs,rfl⟩ cdv A outer s H E b
 have nd:=gq.nd
 have hp:∀ i,i < bs.length->0 < bs.getD i 0/\aD (bs.getD i 0):=λi hi=>hbs _ (by simp [hi])
 refine aB 2 nd (iF ag) ?_
 refine fx (bu (bx b (ae (aa 0) ag) mX) (aC af af (Bn ⟨by decide,by decide,by decide⟩)) Be) (λh=>?_) λh=>?_
 · refine bt 3 (λi τ=>∃ s3,τ=[.d (.int (wA c (bs.take i))),.d (.lst (bs.map .int)),.o ((jP c (bs.take i)).map .int),s3,.un,.un]) b nd (a4 (aa 1)) AS ⟨_,rfl⟩ (λi hi τ h=>?_) λτ h=>?_
   · obtain ⟨s3,rfl⟩:=h
     have hi:i < bs.length:=by simpa using hi
     obtain ⟨p1,p2⟩:=hp i hi
     refine xN 2 (aC (aa 0) (aa 3) (fh (by omega))) ?_ ?_
     · rw [List.length_map,jj,List.length_take]; omega
     refine aB 0 nd (aC (aa 0) (aa 3) (a9 p2)) (aP ?_)
     apply ex1
     show [Sl.d (.int ((wA c (bs.take i)).fdiv (bs.getD i 0))),_,Sl.o _,_,_,_]=_
     rw [take_snoc 0 hi,kW,List.map_append]
     unfold wA
     rw [List.foldl_append]
     rfl
   · obtain ⟨s3,rfl⟩:=h
     refine mr 2 ?_
     rw [List.length_map,List.take_of_length_le (Nat.le_refl _)]
     unfold nums
     rw [if_pos (of_decide_eq_true h)]
 · refine zM 4 3 (λi τ=>∃ s3 s4 s5,τ=[.d (.int c),.d (.lst (bs.map .int)),.o (((List.range i).map λk=>yd c k (bs.getD k 0)).map .int),s3,s4,s5]) b nd (BC b (aa 1)) Ay ⟨_,_,_,rfl⟩ (λi hi τ h=>?_) λτ h=>?_
   · obtain ⟨s3,s4,s5,rfl⟩:=h
     have hi:i < bs.length:=by rw [gH,List.length_map] at hi; exact hi
     obtain ⟨p1,p2⟩:=hp i hi
     refine aB 5 nd (aC (aC (aC (aC (aC (aa 0) af (bb (mkR (by decide)))) (aC (aC (aa 4) (aa 4) (bb (mkL (by omega)))) af (bb (mkR (by decide)))) bj) (aC (aa 4) af (bb (mkR (by decide)))) bj) af bj) af (fh (by decide))) ?_
     refine xN 2 (aC (aC (aC (aC (aC (aC (aa 5) af (bb (mkR (by decide)))) (aa 0) bj) (aC af (aa 4) (bb (mkL (by decide)))) bj) af (fh (by decide))) af (a9 (mkD (by decide) (by decide)))) (aa 3) (fh (by omega))) ?_ (aP ?_)
     · rw [List.length_map,List.length_map,List.length_range]; omega
     apply ex3
     rw [List.range_succ,List.map_append,List.map_append]
     rfl
   · obtain ⟨s3,s4,s5,rfl⟩:=h
     refine mr 2 ?_
     rw [gH,List.length_map]
     unfold nums
     rw [if_neg (of_decide_eq_false h)]
     rfl
end
theorem mL (b:Int):sgZ b=1\/sgZ b=-1:=by
 unfold sgZ
 rw [Int.fmod_eq_emod_of_nonneg _ (by decide)]
 omega
theorem jL (n:Nat) (row:List Int) (k v:Int) (kv:List (Int × Int)):∀ c,(bU n row k v kv c).2.length<=kv.length + c
 | 0=>Nat.le_refl _
 | c + 1=>by
   have:=jL n row k v kv c
   rw [bU,j4]
   split
   · dsimp only; omega
   · have:=vY (bU n row k v kv c).2 (jm k (n - 1 - c)) ((bA (bU n row k v kv c).2 (jm k (n - 1 - c))).getD 0 + sgZ (bU n row k v kv c).1 * row.getD (n - 1 - c) 0 * v)
     dsimp only
     omega
theorem iB (n:Nat) (row:List Int) (kv:List (Int × Int)):∀ t,(ba n row kv t).length<=t * n
 | 0=>by rw [ba,List.length_nil]; omega
 | t + 1=>by
   have h1:=iB n row kv t
   have h2:=jL n row (kv.getD t (0,0)).1 ((bA kv (kv.getD t (0,0)).1).getD 0) (ba n row kv t) n
   rw [ba,Nat.succ_mul]
   omega
noncomputable def dtR (r:List Int):D:=.lst (r.map .int)
noncomputable def dtM (Ms:List (List Int)) (i j:Nat):Rat:=(((Ms.getD i []).getD j 0:Int):Rat)
theorem atR {row:List Int} {j:Nat} (h:j < row.length):atI (row.map D.int) (j:Int)=some (.int (row.getD j 0)):=pf (i:=(j:Int)) (by omega) (by omega)
section
variable {P:Program} {w:World} {K:PySem.W.Frag} {mg:Str->Option Value} {base:Heap} {k:Nat} {f:Addr} {fd:FuncData} {qual:Str}
end
noncomputable def frD (q:Rat):D:=.tup [.int q.num,.int (q.den:Nat)]
theorem fE (x:Rat):x * (((x.den:Nat):Int):Rat)=(x.num:Rat):=by
 have h:mkRat x.num x.den=x:=by rw [<- Rat.normalize_eq_mkRat x.den_nz]; exact Rat.normalize_self x
 rw [Rat.mkRat_eq_div] at h
 have hd:((x.den:Nat):Rat) ≠ 0:=λz=>x.den_nz (Rat.natCast_eq_zero_iff.mp z)
 rw [Rat.intCast_natCast]
 conv=>lhs; lhs; rw [<- h]
 exact Rat.div_mul_cancel hd
theorem cx {t b:Int} {x:Rat} (hb:0 < b) (h:(t:Rat)=x * (b:Rat)):x.num=t / (Int.gcd t b:Int)/\((x.den:Nat):Int)=b / (Int.gcd t b:Int):=by
 have hb0:((b.toNat:Nat):Rat) ≠ 0:=λz=>by have:=Rat.natCast_eq_zero_iff.mp z; omega
 have hbb:((b:Int):Rat)=((b.toNat:Nat):Rat):=by rw [<- Rat.intCast_natCast,Int.toNat_of_nonneg (by omega)]
 have e:x=mkRat t b.toNat:=by
   rw [Rat.mkRat_eq_div,h,hbb,Rat.mul_div_cancel hb0]
 have g:b.toNat.gcd t.natAbs=Int.gcd t b:=by
   rw [Int.gcd,Nat.gcd_comm,show b.natAbs=b.toNat by omega]
 have nz:¬ b.toNat=0:=by omega
 constructor
 · rw [e,Rat.num_mkRat,if_neg nz,g]
 · rw [e,Rat.den_mkRat,if_neg nz,g,Int.natCast_ediv,Int.toNat_of_nonneg (by omega)]
theorem den_pos (q:Rat):0 < ((q.den:Nat):Int):=by have:=q.den_pos; omega
theorem tV {b:Int} (hb:0 < b):(b:Rat) ≠ 0:=λz=>by have:=Rat.intCast_eq_zero_iff.mp z; omega
noncomputable def Bd (n:Nat) (i:Int):Prop:=i.natAbs < 2 ^ n
theorem Bd.mono {m n:Nat} {i:Int} (h:Bd m i) (hm:m<=n):Bd n i:=Nat.lt_of_lt_of_le h (Nat.pow_le_pow_right (by decide) hm)
theorem Bd.log {n:Nat} {i:Int} (h:Bd n i) (hn:0 < n):i.natAbs.log2 < n:=by
 rcases Nat.eq_zero_or_pos i.natAbs with z | z
 · rw [z]; exact hn
 · exact (Nat.log2_lt (by omega)).mpr h
theorem Bd.mul {m n:Nat} {i j:Int} (h:Bd m i) (g:Bd n j):Bd (m + n) (i * j):=by
 unfold Bd at *
 rw [Int.natAbs_mul,Nat.pow_add]
 rcases Nat.eq_zero_or_pos j.natAbs with z | z
 · rw [z,Nat.mul_zero]; exact Nat.mul_pos (Nat.two_pow_pos m) (Nat.two_pow_pos n)
 · exact Nat.lt_of_lt_of_le (Nat.mul_lt_mul_of_pos_right h z) (Nat.mul_le_mul_left _ (Nat.le_of_lt g))
theorem Bd.add {n:Nat} {i j:Int} (h:Bd n i) (g:Bd n j):Bd (n + 1) (i + j):=by
 unfold Bd at *
 rw [Nat.pow_succ]
 omega
theorem Bd.neg {n:Nat} {i:Int} (h:Bd n i):Bd n (-i):=by unfold Bd at *; rwa [Int.natAbs_neg]
theorem Bd.aE {m n:Nat} {i j:Int} (h:Bd m i) (g:Bd n j) (hm:m<=1000000) (hn:n<=1000000):aE i j:=
 .inr (.inr ⟨(h.mono (Nat.le_succ_of_le hm)).log (by omega) |> λz=>by
   rcases Nat.eq_zero_or_pos i.natAbs with q | q
   · rw [q]; decide
   · exact Nat.lt_of_lt_of_le ((Nat.log2_lt (by omega)).mpr h) hm,by
   rcases Nat.eq_zero_or_pos j.natAbs with q | q
   · rw [q]; decide
   · exact Nat.lt_of_lt_of_le ((Nat.log2_lt (by omega)).mpr g) hn⟩)
theorem Bd.aD {n:Nat} {j:Int} (h:Bd n j) (h0:j ≠ 0) (hn:n<=9000):aD j:=⟨h0,Nat.lt_of_lt_of_le ((Nat.log2_lt (by omega)).mpr h) hn⟩
theorem Bd.of_dvd {n:Nat} {i j:Int} (h:Bd n j) (hd:i ∣ j) (h0:j ≠ 0):Bd n i:=Nat.lt_of_le_of_lt (Nat.le_of_dvd (by omega) (Int.natAbs_dvd_natAbs.mpr hd)) h
theorem Bd.ediv {n:Nat} {i:Int} (h:Bd n i) (j:Int):Bd n (i / j):=Nat.lt_of_le_of_lt (Int.natAbs_ediv_le_natAbs i j) h
theorem Bd.gcd {n:Nat} {i j:Int} (h:Bd n j) (h0:j ≠ 0):Bd n (Int.gcd i j:Int):=h.of_dvd (Int.gcd_dvd_right ..) h0
theorem dW {i j:Int} (h0:j ≠ 0):(Int.gcd i j:Int) ≠ 0:=λz=>h0 (by have:=Int.gcd_eq_zero_iff.mp (Int.ofNat_eq_zero.mp z); exact this.2)
theorem aU {i j:Int} (t:Int):t.fdiv (Int.gcd i j:Int)=t / (Int.gcd i j:Int):=Int.fdiv_eq_ediv_of_nonneg _ (Int.natCast_nonneg _)
structure Sq (n:Nat) (q:Rat):Prop where
 num:Bd n q.num
 den:Bd n (q.den:Nat)
theorem Sq.cx {n:Nat} {t b:Int} {x:Rat} (hb:0 < b) (h:(t:Rat)=x * (b:Rat)) (h1:Bd n t) (h2:Bd n b):Sq n x:=by
 obtain ⟨e1,e2⟩:=K61.cx hb h
 exact ⟨by rw [e1]; exact h1.ediv _,by rw [e2]; exact h2.ediv _⟩
noncomputable def whl (x:D):Bool:=nc .int x && !nc .bool x
noncomputable def eB (ds:List D) (r:Sl):Prop:=∃ x,ds=[x]/\r=.d (.bl (whl x))
noncomputable def aV (ds:List D) (r:Sl):Prop:=∃ a b:Int,ds=[.int a,.int b]/\r=.d (.int (Int.gcd a b:Int))
theorem gu (i:Int):vZ i=(i.natAbs:Int):=by unfold vZ; omega
noncomputable def rF:D->Bool
 | .tup [.int a,.int b]=>decide (1<=b) && decide ((Int.gcd a b:Int)=1)
 | _=>false
theorem vH (q:Rat):rF (frD q)=true:=by
 have h1:=den_pos q
 have h2:Int.gcd q.num (q.den:Nat)=1:=q.reduced
 show (decide ((1:Int)<=(q.den:Nat)) && decide ((Int.gcd q.num (q.den:Nat):Int)=1))=true
 rw [h2,decide_eq_true (show (1:Int)<=(q.den:Nat) by omega)]
 rfl
theorem sH {xs:List D} (h:xs.length ≠ 2):rF (.tup xs)=false:=by
 unfold rF
 split
 · rename_i e; cases e; exact absurd rfl h
 · rfl
noncomputable def de (ds:List D) (r:Sl):Prop:=∃ x,ds=[x]/\r=.d (.bl (rF x))
noncomputable def bD (ds:List D) (r:Sl):Prop:=∃ (t b:Int) (q:Rat),ds=[.int t,.int b]/\b ≠ 0/\Bd 8999 b/\(t:Rat)=q * (b:Rat)/\r=.d (frD q)
noncomputable def gc (ds:List D) (r:Sl):Prop:=∃ (t b:Int) (q:Rat),ds=[.int t,.int b]/\b ≠ 0/\Bd 8999 b/\(t:Rat)=q * (b:Rat)/\r=.d (frD q)
noncomputable def bN (ds:List D) (r:Sl):Prop:=∃ xs,ds=[.lst xs]/\r=.d (.bl (decide ((1:Int)<=(xs.length:Nat)) && decide (((xs.length:Nat):Int)<=7)))
section
variable {P:Program} {w:World} {K:PySem.W.Frag} {mg:Str->Option Value} {base:Heap} {k:Nat} {f:Addr} {fd:FuncData} {qual:Str}
theorem oe (F:Fun K "is_whole" qual (top 8) f fd) (hb:∀ x ∈ aq,mg x=none):aS P w K mg base CX0 (k + 1) f fd ["thing"] (spD K eB):=by
 refine fnD F mG hb (by rintro _ _ ⟨_,rfl,_⟩; rfl) ?_
 rintro _ _ ⟨x,rfl,rfl⟩ cdv A outer s H E b
 exact aO (qW (kJ .int b (aa 0)) λh=>(qA (BI (kJ .bool b (aa 0))))) rfl
theorem gD (F:Fun K "common_divisor" qual (top 10) f fd) (hb:∀ x ∈ aq,mg x=none):aS P w K mg base CX0 (k + 1) f fd ["one","other"] (spD K aV):=by
 refine fnD F cW hb (by rintro _ _ ⟨_,_,rfl,_⟩; rfl) ?_
 rintro _ _ ⟨x,y,rfl,rfl⟩ cdv A outer s H E b
 have nd:=cW.nd
 refine aB 2 nd (bx b (ae (aa 0) ag) mX) (aB 3 nd (bx b (ae (aa 1) ag) mX) ?_)
 rw [gu,gu]
 refine qV (λn t τ=>∃ (g:Nat) (s4:Sl),Nat.gcd g n=Int.gcd x y/\t=(!decide ((n:Int)=0))/\τ=[.d (.int x),.d (.int y),.d (.int g),.d (.int n),s4]) b ⟨_,_,_,_,rfl,rfl,rfl⟩ (λn t τ h=>?_) (λn τ h=>?_) λn τ h=>?_
 · obtain ⟨g,s4,_,rfl,rfl⟩:=h
   exact bu (aa 3) af vz
 · obtain ⟨g,s4,hg,ht,rfl⟩:=h
   have hl:n ≠ 0:=λz=>by simp [z] at ht
   have e:(g:Int).fmod n=((g % n:Nat):Int):=by rw [Int.fmod_eq_emod_of_nonneg _ (by omega)]; rfl
   refine aB 4 nd (aC (aa 2) (aa 3) (fh (by omega))) ?_
   rw [e]
   refine aB 2 nd (aa 3) (aB 3 nd (aa 4) (aP ⟨g % n,_,Nat.mod_lt g (Nat.pos_of_ne_zero hl),n,_,?_,rfl,rfl⟩))
   rw [<- hg,Nat.gcd_comm n,<- Nat.gcd_rec,Nat.gcd_comm]
 · obtain ⟨g,s4,hg,ht,rfl⟩:=h
   have hl:n=0:=by simpa using ht
   refine aO (aa 2) ?_
   rw [<- hg,hl,Nat.gcd_zero_right]
theorem jG (F:Fun K "is_fraction" qual (top 9) f fd) (hb:∀ x ∈ aq,mg x=none) (c_is_whole:Cal P w K mg base k "is_whole" eB) (c_common_divisor:Cal P w K mg base k "common_divisor" aV):aS P w K mg base CX0 (k + 1) f fd ["thing"] (spD K de):=by
 refine fnD F jd hb (by rintro _ _ ⟨_,rfl,_⟩; rfl) ?_
 rintro _ _ ⟨x,rfl,rfl⟩ cdv A outer s H E b
 by_cases ht:nc .tuple x=true
 · obtain ⟨xs,rfl⟩:∃ xs,x=.tup xs:=by cases x <;> first | exact ⟨_,rfl⟩ | cases ht
   refine fx (PW.pt (mJ (e7 (eF (kJ .tuple b (aa 0)))) λh=>(kG (bu (bx b (ae (aa 0) ag) lS) af vz)))) (λh=>?_) λh=>?_
   · refine aO u9 ?_
     have h:(!decide ((xs.length:Int)=2))=true:=h
     have:xs.length ≠ 2:=λz=>by rw [z] at h; cases h
     rw [sH this]
   · have h:(!decide ((xs.length:Int)=2))=false:=h
     have h2:xs.length=2:=by simp at h; omega
     obtain ⟨u,v,rfl⟩:∃ u v,xs=[u,v]:=by
       match xs,h2 with
       | [u,v],_=>exact ⟨u,v,rfl⟩
     refine fx (PW.pt (mJ (e7 (eF (x_call b c_is_whole (ae (aM (aa 0) af (aQ (aK (i:=0) rfl))) ag) ⟨_,rfl,rfl⟩))) λh=>(kG (e7 (eF (x_call b c_is_whole (ae (aM (aa 0) af (aQ (aK (i:=1) rfl))) ag) ⟨_,rfl,rfl⟩)))))) (λh=>?_) λh=>?_
     · refine aO u9 ?_
       have:rF (.tup [u,v])=false:=by cases u <;> cases v <;> first | rfl | cases h
       rw [this]
     · obtain ⟨i,j,rfl,rfl⟩:∃ i j,u=.int i/\v=.int j:=by cases u <;> cases v <;> first | exact ⟨_,_,rfl,rfl⟩ | cases h
       exact aO (qW (g9 (aM (aa 0) af (aQ (aK (i:=1) rfl))) af Be) λh=>(qA (g9 (x_call b c_common_divisor (ae (aM (aa 0) af (aQ (aK (i:=0) rfl))) (ae (aM (aa 0) af (aQ (aK (i:=1) rfl))) ag)) ⟨_,_,rfl,rfl⟩) af ju))) rfl
 · have e:nc .tuple x=false:=by simpa using ht
   have ef:rF x=false:=by cases x <;> first | rfl | cases e
   refine fx (PW.pt (mJ (q:=true) (e7 (eF (kJ .tuple b (aa 0)))) λh=>(by rw [e] at h; cases h))) (λh=>?_) λh=>?_
   · refine aO u9 ?_
     rw [ef]
   · rw [Bool.or_true] at h; cases h
theorem gj (F:Fun K "in_lowest_terms" qual (top 11) f fd) (hb:∀ x ∈ aq,mg x=none) (c_common_divisor:Cal P w K mg base k "common_divisor" aV):aS P w K mg base CX0 (k + 1) f fd ["top","bottom"] (spD K bD):=by
 refine fnD F cK hb (by rintro _ _ ⟨_,_,_,rfl,_⟩; rfl) ?_
 rintro _ _ ⟨t,c,q,rfl,h0,h1,hq,rfl⟩ cdv A outer s H E b
 have nd:=cK.nd
 refine aB 2 nd (x_call b c_common_divisor (ae (aa 0) (ae (aa 1) ag)) ⟨_,_,rfl,rfl⟩) ?_
 have g0:=dW (i:=t) h0
 have gb:=h1.gcd (i:=t) h0
 refine ny (M:=λτ=>τ=[.d (.int t),.d (.int c),.d (.int (if c < 0 then -(Int.gcd t c:Int) else (Int.gcd t c:Int)))]) (bu (aa 1) af uO) (λh=>?_) (λh=>?_) λτ h=>?_
 · rw [if_pos (of_decide_eq_true h)]
   exact aB 2 nd (jS (aa 2)) (aP rfl)
 · rw [if_neg (of_decide_eq_false h)]
   exact aP rfl
 subst h
 have dv:aD (if c < 0 then -(Int.gcd t c:Int) else (Int.gcd t c:Int)):=by
   split
   · exact gb.neg.aD (by omega) (by decide)
   · exact gb.aD g0 (by decide)
 refine aO (cw (ae (aC (aa 0) (aa 2) (a9 dv)) (ae (aC (aa 1) (aa 2) (a9 dv)) ag))) ?_
 by_cases hc:c < 0
 · have hq':((-t:Int):Rat)=q * ((-c:Int):Rat):=by rw [Rat.intCast_neg,Rat.intCast_neg,hq,Rat.mul_neg]
   obtain ⟨e1,e2⟩:=cx (by omega) hq'
   rw [Int.neg_gcd,Int.gcd_neg] at e1 e2
   rw [if_pos hc,frD,e1,e2,<- aU (-t),<- aU (-c),<- Int.neg_fdiv_neg (-t),<- Int.neg_fdiv_neg (-c),Int.neg_neg,Int.neg_neg]
 · obtain ⟨e1,e2⟩:=cx (by omega) hq
   rw [if_neg hc,frD,e1,e2,aU,aU]
theorem mH (F:Fun K "fraction" qual (top 12) f fd) (hb:∀ x ∈ aq,mg x=none) (c_in_lowest_terms:Cal P w K mg base k "in_lowest_terms" bD) (c_is_whole:Cal P w K mg base k "is_whole" eB):aS P w K mg base CX0 (k + 1) f fd ["top","bottom"] (spD K gc):=by
 refine fnD F mU hb (by rintro _ _ ⟨_,_,_,rfl,_⟩; rfl) ?_
 rintro _ _ ⟨t,c,q,rfl,h0,h1,hq,rfl⟩ cdv A outer s H E b
 refine fS (PW.pt (mJ (e7 (eF (x_call b c_is_whole (ae (aa 0) ag) ⟨_,rfl,rfl⟩))) λh=>(kG (e7 (eF (x_call b c_is_whole (ae (aa 1) ag) ⟨_,rfl,rfl⟩)))))) rfl ?_
 refine fS (bu (aa 1) af ju) (decide_eq_false h0) ?_
 exact aO (x_call b c_in_lowest_terms (ae (aa 0) (ae (aa 1) ag)) ⟨t,c,q,rfl,h0,h1,hq,rfl⟩) rfl
theorem iu (F:Fun K "is_short_list" qual (top 19) f fd) (hb:∀ x ∈ aq,mg x=none) (y_MOST:∃ t,mg "MOST" = some (.int 7 t)):aS P w K mg base CX0 (k + 1) f fd ["thing"] (spD K bN):=by
 refine fnD F ij hb (by rintro _ _ ⟨_,rfl,_⟩; rfl) ?_
 rintro _ _ ⟨xs,rfl,rfl⟩ cdv A outer s H E b
 exact aO (qW (kJ .list b (aa 0)) λh=>(qA (v9 af (bx b (ae (aa 0) ag) iL) (yA y_MOST) AD AD).1)) rfl
end
noncomputable def rwQ (r:List Rat):D:=.lst (r.map frD)
noncomputable def tbQ (M:List (List Rat)):D:=.lst (M.map rwQ)
structure Tq (R C:Nat) (M:List (List Rat)):Prop where
 r1:1<=R
 r7:R<=7
 c1:1<=C
 c7:C<=7
 len:M.length=R
 row:∀ r ∈ M,r.length=C
theorem b6 {α:Type} {f:α->D} {xs:List α} (d:α):∀ i (h:i < (xs.map f).length),(xs.map f)[i]=f (xs.getD i d):=λi h=>by
 have:i < xs.length:=by simpa using h
 simp [this]
theorem dZ {α:Type} {f:α->D} {xs:List α} (d:α) {i:Nat} (h:i < xs.length):atI (xs.map f) (i:Int)=some (f (xs.getD i d)):=aK (by simp [h])
theorem bh {α:Type} {xs:List α} {d:α} {i:Nat} (h:i < xs.length):xs.getD i d ∈ xs:=by simp [h]
theorem Tq.at_ {R C:Nat} {M:List (List Rat)} (h:Tq R C M) {i:Nat} (hi:i < R):(M.getD i []).length=C:=h.row _ (bh (by rw [h.len]; exact hi))
theorem uZ (n:Nat) (f:Nat->Bool) (h:∀ i,i < n->f i=true):((List.range n).map f).all id=true:=by
 rw [List.all_map,List.all_eq_true]
 intro i hi
 exact h i (List.mem_range.mp hi)
structure Qs (d v:Nat) (q:Rat):Prop where
 den:Bd d (q.den:Nat)
 val:q.num.natAbs<=2 ^ v * q.den
theorem du {X:Cx} {xs:List D} {n:Nat} (h:xs.length=n):gf X (.builtin "len") [.lst xs] (.d (.int n)):=h ▸ iL
theorem fF {α:Type} (f:α->D) (xs:List α) (d:α) {m:Nat} (h:m=xs.length):(List.range m).map (λi=>f (xs.getD i d))=xs.map f:=by
 subst h
 refine List.ext_getElem (by simp) λi h1 h2=>?_
 have:i < xs.length:=by simpa using h2
 simp [this]
theorem uH {m:Int} {n:Nat} (i:Nat) (h:i < (iS m n).length):(iS m n)[i]=.int (m + (i:Nat)):=gA m n i h
noncomputable def jI (ds:List D) (r:Sl):Prop:=∃ q:List Rat,ds=[rwQ q]/\1<=q.length/\q.length<=7/\r=.d (.bl true)
noncomputable def gm (ds:List D) (r:Sl):Prop:=∃ (R C:Nat) (M:List (List Rat)),ds=[tbQ M]/\Tq R C M/\r=.d (.bl true)
noncomputable def bY (ds:List D) (r:Sl):Prop:=∃ (R C:Nat) (M:List (List Rat)),ds=[tbQ M]/\Tq R C M/\r=.d .non
section
variable {P:Program} {w:World} {K:PySem.W.Frag} {mg:Str->Option Value} {base:Heap} {k:Nat} {f:Addr} {fd:FuncData} {qual:Str}
theorem rK (F:Fun K "is_row" qual (top 20) f fd) (hb:∀ x ∈ aq,mg x=none) (c_is_short_list:Cal P w K mg base k "is_short_list" bN) (c_is_fraction:Cal P w K mg base k "is_fraction" de):aS P w K mg base CX0 (k + 1) f fd ["thing"] (spD K jI):=by
 refine fnD F rA hb (by rintro _ _ ⟨_,rfl,_⟩; rfl) ?_
 rintro _ _ ⟨q,rfl,h1,h7,rfl⟩ cdv A outer s H E b
 refine aO (qW (x_call b c_is_short_list (ae (aa 0) ag) ⟨_,rfl,rfl⟩) λh=>(qA (bx b (ae (bP (gi (cmp 0 (f:=λ_=>.bl true) b (a4 (aa 0)) (b6 (f:=frD) (xs:=q) 0) (by rw [List.length_map]; omega) λi hi s0 H0 fp=>(x_call (b.comp s0 H0 _ fp) c_is_fraction (ae (aa 0) ag) ⟨_,rfl,by rw [vH]⟩)))) ag) (uP b.calm ((List.range (q.map frD).length).map λ_=>true) (by rw [List.map_map]; rfl))))) ?_
 rw [List.length_map,decide_eq_true (by omega),decide_eq_true (by omega),uZ _ _ λ_ _=>rfl]
 rfl
theorem m8 (F:Fun K "is_table" qual (top 21) f fd) (hb:∀ x ∈ aq,mg x=none) (c_is_short_list:Cal P w K mg base k "is_short_list" bN) (c_is_row:Cal P w K mg base k "is_row" jI):aS P w K mg base CX0 (k + 1) f fd ["thing"] (spD K gm):=by
 refine fnD F m6 hb (by rintro _ _ ⟨_,_,_,rfl,_⟩; rfl) ?_
 rintro _ _ ⟨R,C,M,rfl,t,rfl⟩ cdv A outer s H E b
 have hl:(M.map rwQ).length=R:=by rw [List.length_map,t.len]
 have r1:=t.r1
 have r7:=t.r7
 have c1:=t.c1
 have c7:=t.c7
 refine fS (PW.pt (mJ (e7 (eF (x_call b c_is_short_list (ae (aa 0) ag) ⟨_,rfl,rfl⟩))) λh=>(kG (e7 (eF (bx b (ae (bP (gi (cmp 0 (f:=λ_=>.bl true) b (a4 (aa 0)) (b6 (f:=rwQ) (xs:=M) []) (by rw [hl]; omega) λi hi s0 H0 fp=>(x_call (b.comp s0 H0 _ fp) c_is_row (ae (aa 0) ag) ⟨_,rfl,?_,?_,rfl⟩)))) ag) (uP b.calm ((List.range (M.map rwQ).length).map λ_=>true) (by rw [List.map_map]; rfl)))))))) ?_ ?_
 · rw [t.at_ (by rw [hl] at hi; exact hi)]; exact c1
 · rw [t.at_ (by rw [hl] at hi; exact hi)]; exact c7
 · rw [hl,decide_eq_true (by omega),decide_eq_true (by omega),uZ _ _ λ_ _=>rfl]; rfl
 have e0:atI (M.map rwQ) 0=some (rwQ (M.getD 0 [])):=dZ [] (i:=0) (by rw [t.len]; omega)
 refine aO (bx b (ae (bP (gi (cmp 0 (f:=λ_=>.bl (decide ((C:Int)=(C:Int)))) b (a4 (aa 0)) (b6 (f:=rwQ) (xs:=M) []) (by rw [hl]; omega) λi hi s0 H0 fp=>(g9 (bx (b.comp s0 H0 _ fp) (ae (aa 0) ag) (du (n:=C) (by rw [List.length_map]; exact t.at_ (by rw [hl] at hi; exact hi)))) (bx (b.comp s0 H0 _ fp) (ae (aM (aa 1) af (aW e0)) ag) (du (n:=C) (by rw [List.length_map]; exact t.at_ (by omega)))) ju)))) ag) (uP b.calm ((List.range (M.map rwQ).length).map λ_=>decide ((C:Int)=(C:Int))) (by rw [List.map_map]; rfl))) ?_
 rw [uZ _ _ λ_ _=>decide_eq_true rfl]
theorem km (F:Fun K "look_table" qual (top 22) f fd) (hb:∀ x ∈ aq,mg x=none) (c_is_table:Cal P w K mg base k "is_table" gm):aS P w K mg base CX0 (k + 1) f fd ["thing"] (spD K bY):=by
 refine fnD F kb hb (by rintro _ _ ⟨_,_,_,rfl,_⟩; rfl) ?_
 rintro _ _ ⟨R,C,M,rfl,t,rfl⟩ cdv A outer s H E b
 exact fS (e7 (eF (x_call b c_is_table (ae (aa 0) ag) ⟨R,C,M,rfl,t,rfl⟩))) rfl (aP rfl)
end
noncomputable def scS (s:Int) (q:Rat):Int:=s / (Int.gcd s (q.den:Nat):Int) * (q.den:Nat)
noncomputable def scL (r:List Rat):Int:=r.foldl scS 1
theorem tN {s:Int} (hs:0 < s) (q:Rat):0 < scS s q/\s ∣ scS s q/\((q.den:Nat):Int) ∣ scS s q:=by
 have hq:=den_pos q
 have g0:0 < (Int.gcd s (q.den:Nat):Int):=by
   have:=dW (i:=s) (j:=(q.den:Nat)) (by omega)
   have:=Int.natCast_nonneg (Int.gcd s (q.den:Nat))
   omega
 have d1:(Int.gcd s (q.den:Nat):Int) ∣ s:=Int.gcd_dvd_left ..
 have d2:(Int.gcd s (q.den:Nat):Int) ∣ ((q.den:Nat):Int):=Int.gcd_dvd_right ..
 have p1:0 < s / (Int.gcd s (q.den:Nat):Int):=Int.ediv_pos_of_pos_of_dvd hs (by omega) d1
 refine ⟨Int.mul_pos p1 hq,?_,Int.dvd_mul_left ..⟩
 obtain ⟨k,hk⟩:=d2
 refine ⟨k,?_⟩
 unfold scS
 conv=>lhs; rhs; rw [hk]
 rw [<- Int.mul_assoc,Int.ediv_mul_cancel d1]
theorem mM (r:List Rat) (q:Rat):scL (r++[q])=scS (scL r) q:=by unfold scL; rw [List.foldl_append]; rfl
theorem pw:∀ (r:List Rat) (s:Int),0 < s->0 < r.foldl scS s/\s ∣ r.foldl scS s/\∀ q ∈ r,((q.den:Nat):Int) ∣ r.foldl scS s
 | [],s,h=>⟨h,Int.dvd_refl _,λ_ z=>nomatch z⟩
 | q :: r,s,h=>by
   obtain ⟨a1,a2,a3⟩:=tN h q
   obtain ⟨b1,b2,b3⟩:=pw r _ a1
   exact ⟨b1,Int.dvd_trans a2 b2,λx hx=>(List.mem_cons.mp hx).elim (λe=>by rw [e]; exact Int.dvd_trans a3 b2) (b3 x)⟩
theorem fo (r:List Rat):0 < scL r/\∀ q ∈ r,((q.den:Nat):Int) ∣ scL r:=⟨(pw r 1 (by decide)).1,(pw r 1 (by decide)).2.2⟩
theorem uJ {d:Nat}:∀ (r:List Rat) (s:Int) (n:Nat),Bd n s->(∀ q ∈ r,Bd d (q.den:Nat))->Bd (n + r.length * d) (r.foldl scS s)
 | [],s,n,h,_=>by simpa using h
 | q :: r,s,n,h,hd=>by
   have h1:Bd (n + d) (scS s q):=(h.ediv _).mul (hd q (List.mem_cons_self ..))
   have:=uJ r _ _ h1 λx hx=>hd x (List.mem_cons_of_mem _ hx)
   rw [List.length_cons,Nat.succ_mul]
   rwa [show n + d + r.length * d=n + (r.length * d + d) by omega] at this
theorem d9 {d:Nat} {r:List Rat} (h:∀ q ∈ r,Bd d (q.den:Nat)):Bd (1 + r.length * d) (scL r):=uJ r 1 1 (by unfold Bd; decide) h
noncomputable def dX (ds:List D) (r:Sl):Prop:=∃ (q:List Rat) (d:Nat),ds=[rwQ q]/\q.length<=1000/\(∀ x ∈ q,Bd d (x.den:Nat))/\1 + q.length * d<=8999/\d<=8999/\r=.d (.int (scL q))
noncomputable def whR (r:List Rat) (s:Int):List Int:=r.map λq=>q.num * (s / (q.den:Nat))
theorem zL {q:Rat} {s:Int} (h:((q.den:Nat):Int) ∣ s):((q.num * (s / (q.den:Nat)):Int):Rat)=q * (s:Rat):=by
 obtain ⟨k,rfl⟩:=h
 have:=den_pos q
 rw [Int.mul_ediv_cancel_left _ (by omega),Rat.intCast_mul,Rat.intCast_mul,<- Rat.mul_assoc,fE]
theorem AG {d v n:Nat} {q:Rat} {s:Int} (hq:Qs d v q) (h:((q.den:Nat):Int) ∣ s) (hs:Bd n s):Bd (v + n) (q.num * (s / (q.den:Nat))):=by
 obtain ⟨k,rfl⟩:=h
 have hd:=den_pos q
 rw [Int.mul_ediv_cancel_left _ (by omega)]
 unfold Bd at hs ⊢
 rw [Int.natAbs_mul,Nat.pow_add]
 rw [Int.natAbs_mul,Int.natAbs_natCast] at hs
 have h1:q.num.natAbs * k.natAbs<=2 ^ v * q.den * k.natAbs:=Nat.mul_le_mul_right _ hq.val
 rw [Nat.mul_assoc] at h1
 exact Nat.lt_of_le_of_lt h1 (Nat.mul_lt_mul_of_pos_left hs (Nat.two_pow_pos v))
noncomputable def eW (ds:List D) (r:Sl):Prop:=∃ (q:List Rat) (s:Int) (n:Nat),ds=[rwQ q,.int s]/\q.length<=1000/\(∀ x ∈ q,Sq n x)/\n<=8999/\Bd 8999 s/\r=.o ((whR q s).map .int)
noncomputable def prZ (ns:List Int):Int:=ns.foldl (· * ·) 1
theorem jN (ns:List Int) (n:Int):prZ (ns++[n])=prZ ns * n:=by unfold prZ; rw [List.foldl_append]; rfl
theorem sr {d:Nat}:∀ (r:List Int) (s:Int) (n:Nat),Bd n s->(∀ q ∈ r,Bd d q)->Bd (n + r.length * d) (r.foldl (· * ·) s)
 | [],s,n,h,_=>by simpa using h
 | q :: r,s,n,h,hd=>by
   have:=sr r _ _ (h.mul (hd q (List.mem_cons_self ..))) λx hx=>hd x (List.mem_cons_of_mem _ hx)
   rw [List.length_cons,Nat.succ_mul]
   rwa [show n + d + r.length * d=n + (r.length * d + d) by omega] at this
theorem oT {d:Nat} {r:List Int} (h:∀ q ∈ r,Bd d q):Bd (1 + r.length * d) (prZ r):=sr r 1 1 (by unfold Bd; decide) h
theorem qm:∀ (r:List Int) (s:Int),0 < s->(∀ q ∈ r,0 < q)->0 < r.foldl (· * ·) s
 | [],_,h,_=>h
 | q :: r,s,h,hq=>qm r _ (Int.mul_pos h (hq q (List.mem_cons_self ..))) λx hx=>hq x (List.mem_cons_of_mem _ hx)
theorem wR {r:List Int} (h:∀ q ∈ r,0 < q):0 < prZ r:=qm r 1 (by decide) h
noncomputable def cc (ds:List D) (r:Sl):Prop:=∃ (q:List Int) (d:Nat),ds=[.lst (q.map .int)]/\(∀ x ∈ q,Bd d x)/\1 + q.length * d<=900000/\d<=900000/\r=.d (.int (prZ q))
noncomputable def c9 (ds:List D) (r:Sl):Prop:=∃ (R:Nat) (M:List (List Rat)),ds=[tbQ M]/\Tq R R M/\r=.d .non
noncomputable def whM (M:List (List Rat)) (ss:List Int):List (List Int):=(List.range M.length).map λi=>whR (M.getD i []) (ss.getD i 0)
theorem sO {α β:Type} {f:α->D} {g:β->D} {xs:List α} {ys:List β} (d:α) (e:β) (i:Nat) (h:i < (iP (xs.map f) (ys.map g)).length):(iP (xs.map f) (ys.map g))[i]=.tup [f (xs.getD i d),g (ys.getD i e)]:=by
 rw [dB,List.length_map,List.length_map] at h
 have h1:i < xs.length:=by omega
 have h2:i < ys.length:=by omega
 simp [iP,h1,h2]
noncomputable def cC (ds:List D) (r:Sl):Prop:=∃ (M:List (List Rat)) (ss:List Int) (n:Nat),ds=[tbQ M,.lst (ss.map .int)]/\M.length=ss.length/\M.length<=1000/\(∀ r ∈ M,r.length<=1000/\∀ x ∈ r,Sq n x)/\n<=8999/\(∀ s ∈ ss,Bd 8999 s)/\r=.o ((whM M ss).map dtR)
noncomputable def pvF (G:List (List Int)) (k:Nat):Nat->Option Nat
 | 0=>none
 | t + 1=>match pvF G k t with
   | some i=>some i
   | none=>if (G.getD (k + t) []).getD k 0 ≠ 0 then some (k + t) else none
noncomputable def pvP (G:List (List Int)) (k:Nat):Option Nat:=pvF G k (G.length - k)
noncomputable def pvD:Option Nat->D
 | none=>.non
 | some i=>.int (i:Nat)
theorem nZ {G:List (List Int)} {k:Nat}:∀ t,pvF G k t=none->∀ i,i < t->(G.getD (k + i) []).getD k 0=0
 | t + 1,h,i,hi=>by
   rw [pvF] at h
   cases e:pvF G k t with
   | some j=>rw [e] at h; cases h
   | none=>
     rw [e] at h
     have h:(if (G.getD (k + t) []).getD k 0 ≠ 0 then some (k + t) else none)=none:=h
     by_cases z:i < t
     · exact nZ t e i z
     · obtain rfl:i=t:=by omega
       by_cases y:(G.getD (k + i) []).getD k 0=0
       · exact y
       · rw [if_pos y] at h; cases h
theorem nR {G:List (List Int)} {k:Nat}:∀ t j,pvF G k t=some j->k<=j/\j < k + t/\(G.getD j []).getD k 0 ≠ 0
 | t + 1,j,h=>by
   rw [pvF] at h
   cases e:pvF G k t with
   | some i=>
     rw [e] at h
     cases h
     have:=nR t _ e
     exact ⟨this.1,by omega,this.2.2⟩
   | none=>
     rw [e] at h
     have h:(if (G.getD (k + t) []).getD k 0 ≠ 0 then some (k + t) else none)=some j:=h
     split at h
     · rename_i y
       cases h
       exact ⟨by omega,by omega,y⟩
     · cases h
theorem om {G:List (List Int)} {k:Nat} {t j:Nat} (h:pvF G k t=some j):∀ u,pvF G k (t + u)=some j
 | 0=>h
 | u + 1=>by rw [<- Nat.add_assoc,pvF,om h u]
noncomputable def da (ds:List D) (r:Sl):Prop:=∃ (n:Nat) (G:List (List Int)) (k:Nat),ds=[.lst (G.map dtR),.int (k:Nat)]/\G.length=n/\n<=1000/\(∀ r ∈ G,r.length=n)/\k < n/\r=.d (pvD (pvP G k))
noncomputable def clR (r p:List Int) (k:Nat) (l:Int) (n:Nat):List Int:=(List.range n).map λj=>((r.getD j 0 * p.getD k 0) - (p.getD j 0 * r.getD k 0)).fdiv l
noncomputable def hZ (ds:List D) (r:Sl):Prop:=∃ (n:Nat) (q p:List Int) (k:Nat) (l:Int) (B:Nat),ds=[dtR q,dtR p,.int (k:Nat),.int l]/\q.length=n/\p.length=n/\n<=1000/\k < n/\(∀ x ∈ q,Bd B x)/\(∀ x ∈ p,Bd B x)/\B<=900000/\l ≠ 0/\Bd 8999 l/\r=.o ((clR q p k l n).map .int)
noncomputable def tpD (c:List Int):D:=.tup (c.map .int)
noncomputable def lH (cs:List (List Int)):D:=.lst (cs.map tpD)
noncomputable def fO (c:List Int):Int:=c.getD (c.length - 1) 0
noncomputable def lea (t:Nat) (c:List Int):Int:=if 0 < t then fO c + 1 else 0
noncomputable def onC (n t:Nat) (c:List Int):List (List Int):=(List.range ((n:Int) - lea t c).toNat).map λk=>c++[lea t c + (k:Nat)]
noncomputable def chs (n:Nat):Nat->List (List Int)
 | 0=>[[]]
 | t + 1=>(chs n t).flatMap (onC n t)
structure Chs (n t:Nat) (c:List Int):Prop where
 len:c.length=t
 at_:∀ i,i < t->0<=c.getD i 0/\c.getD i 0 < n
theorem uK {c:List Int} {x:Int} {i:Nat}:(c++[x]).getD i 0=if i < c.length then c.getD i 0 else if i=c.length then x else 0:=by
 by_cases h:i < c.length
 · rw [if_pos h]; simp [List.getD,List.getElem?_append_left h]
 · rw [if_neg h]
   by_cases e:i=c.length
   · subst e; simp
   · rw [if_neg e]
     simp [List.getD]
     rw [List.getElem?_eq_none (by simp; omega)]
     rfl
theorem oI {n t:Nat} {c:List Int} (h:Chs n t c):0<=lea t c/\lea t c<=n:=by
 unfold lea
 by_cases ht:0 < t
 · have:=h.at_ (t - 1) (by omega)
   rw [if_pos ht,fO,h.len]
   omega
 · rw [if_neg ht]; omega
theorem bW (n:Nat):∀ t,∀ c ∈ chs n t,Chs n t c
 | 0,c,h=>by
   rw [chs,List.mem_singleton] at h
   subst h
   exact ⟨rfl,λi hi=>absurd hi (by omega)⟩
 | t + 1,c,h=>by
   rw [chs,List.mem_flatMap] at h
   obtain ⟨d,hd,hc⟩:=h
   have ih:=bW n t d hd
   have hl:=oI ih
   unfold onC at hc
   obtain ⟨k,hk,rfl⟩:=List.mem_map.mp hc
   rw [List.mem_range] at hk
   refine ⟨by rw [List.length_append,ih.len]; rfl,λi hi=>?_⟩
   rw [uK,ih.len]
   by_cases e:i < t
   · rw [if_pos e]; exact ih.at_ i e
   · rw [if_neg e,if_pos (by omega)]; omega
theorem lD {n t:Nat} {c:List Int} (h:Chs n t c):(onC n t c).length<=n:=by
 have:=oI h
 simp [onC]
 omega
theorem ff {α β:Type} (f:α->List β) (m:Nat):∀ xs:List α,(∀ x ∈ xs,(f x).length<=m)->(xs.flatMap f).length<=xs.length * m
 | [],_=>by simp
 | x :: xs,h=>by
   rw [List.flatMap_cons,List.length_append,List.length_cons,Nat.succ_mul]
   have:=h x (List.mem_cons_self ..)
   have:=ff f m xs λy hy=>h y (List.mem_cons_of_mem _ hy)
   omega
theorem qG {n:Nat} (hn:n<=7):∀ t,(chs n t).length<=7 ^ t
 | 0=>by simp [chs]
 | t + 1=>by
   rw [chs]
   have:=ff (onC n t) 7 (chs n t) λc hc=>Nat.le_trans (lD (bW n t c hc)) hn
   have:=qG hn t
   rw [Nat.pow_succ]
   omega
noncomputable def d8 (ds:List D) (r:Sl):Prop:=∃ n t:Nat,ds=[.int n,.int t]/\n<=7/\t<=7/\r=.d (lH (chs n t))
theorem xm {cs:List (List Int)} (i:Nat) (h:i < (cs.map tpD).length):(cs.map tpD)[i]=tpD (cs.getD i []):=by
 have:i < cs.length:=by simpa using h
 simp [this]
theorem bB {α:Type} {xs:List α} {i:Nat} {d:α} (h:i < xs.length):xs.getD i d ∈ xs:=by simp [h]
theorem qh {c:List Int} (h:c ≠ []):atI (c.map D.int) (-1)=some (.int (fO c)):=by
 have hl:0 < c.length:=List.length_pos_iff.mpr h
 unfold atI ixN fO
 rw [if_neg (by decide),if_pos (by rw [List.length_map]; omega),List.length_map]
 simp only [Option.bind_some]
 have e:(-1 + (c.length:Int)).toNat=c.length - 1:=by omega
 rw [e]
 simp [(by omega:c.length - 1 < c.length)]
section
variable {P:Program} {w:World} {K:PySem.W.Frag} {mg:Str->Option Value} {base:Heap} {k:Nat} {f:Addr} {fd:FuncData} {qual:Str}
theorem oo (F:Fun K "scale_of" qual (top 27) f fd) (hb:∀ x ∈ aq,mg x=none) (c_common_divisor:Cal P w K mg base k "common_divisor" aV):aS P w K mg base CX0 (k + 1) f fd ["row"] (spD K dX):=by
 refine fnD F iH hb (by rintro _ _ ⟨_,_,rfl,_⟩; rfl) ?_
 rintro _ _ ⟨q,d,rfl,hl,hd,hb1,hd1,rfl⟩ cdv A outer s H E b
 have nd:=iH.nd
 refine aB 1 nd af ?_
 refine bt 2 (g:=λi=>frD (q.getD i 0)) (λi τ=>i<=q.length/\∃ s2,τ=[.d (rwQ q),.d (.int (scL (q.take i))),s2]) b nd (a4 (aa 0)) (b6 (f:=frD) (xs:=q) 0) ⟨Nat.zero_le _,.un,rfl⟩ (λi hi τ h=>?_) λτ h=>?_
 · obtain ⟨_,s2,rfl⟩:=h
   have hi:i < q.length:=by simpa using hi
   have mm:=bh (d:=(0:Rat)) hi
   have hs:=(fo (q.take i)).1
   have bs:Bd (1 + q.length * d) (scL (q.take i)):=(d9 λx hx=>hd x (List.mem_of_mem_take hx)).mono (by
     have:(q.take i).length * d<=q.length * d:=Nat.mul_le_mul_right _ (by rw [List.length_take]; omega)
     omega)
   have et:q.take (i + 1)=q.take i++[q.getD i 0]:=by rw [List.take_succ,List.getElem?_eq_getElem hi]; simp [hi]
   rw [et,mM]
   generalize scL (q.take i)=sc at hs bs ⊢
   generalize q.getD i 0=x at mm ⊢
   have hx:=den_pos x
   have dv:aD (Int.gcd sc (x.den:Nat):Int):=((hd x mm).gcd (by omega)).aD (dW (by omega)) (by omega)
   refine aB 1 nd (aC (aC (aa 1) (x_call b c_common_divisor (ae (aa 1) (ae (aM (aa 2) af (aQ (aK (i:=1) rfl))) ag)) ⟨_,_,rfl,rfl⟩) (a9 dv)) (aM (aa 2) af (aQ (aK (i:=1) rfl))) (bb ?_)) (aP ⟨hi,.d (frD x),?_⟩)
   · rw [aU]; exact (bs.ediv _).aE (hd x mm) (by omega) (by omega)
   · rw [aU]; rfl
 · obtain ⟨_,s2,rfl⟩:=h
   rw [List.length_map,List.take_length]
   exact aO (aa 1) rfl
theorem ma (F:Fun K "whole_row" qual (top 28) f fd) (hb:∀ x ∈ aq,mg x=none):aS P w K mg base CX0 (k + 1) f fd ["row","scale"] (spD K eW):=by
 refine fnD F lL hb (by rintro _ _ ⟨_,_,_,rfl,_⟩; rfl) ?_
 rintro _ _ ⟨q,s0,n,rfl,hl,hq,hn,hs,rfl⟩ cdv A outer s H E b
 refine aO (gi (cmp 0 (f:=λi=>.int ((q.getD i 0).num * (s0.fdiv ((q.getD i 0).den:Nat)))) b (a4 (aa 0)) (b6 (f:=frD) (xs:=q) 0) (by rw [List.length_map]; omega) λi hi s1 H0 fp=>?_)) ?_
 · have sq:=hq _ (bh (d:=(0:Rat)) (by simpa using hi))
   generalize q.getD i 0=x at sq ⊢
   have hx:=den_pos x
   have e:s0.fdiv (x.den:Nat)=s0 / (x.den:Nat):=Int.fdiv_eq_ediv_of_nonneg _ (by omega)
   exact aC (aM (aa 0) af (aQ (aK (i:=0) rfl))) (aC (aa 1) (aM (aa 0) af (aQ (aK (i:=1) rfl))) (a9 (sq.den.aD (by omega) (by omega)))) (bb (by rw [e]; exact sq.num.aE (hs.ediv _) (by omega) (by omega)))
 · refine congrArg Sl.o ((fF (λx:Rat=>D.int (x.num * (s0.fdiv (x.den:Nat)))) q 0 (List.length_map ..)).trans ?_)
   unfold whR
   rw [List.map_map]
   refine List.map_congr_left λx _=>?_
   simp only [Function.comp]
   rw [Int.fdiv_eq_ediv_of_nonneg _ (by have:=den_pos x; omega)]
theorem gE (F:Fun K "product_of_all" qual (top 30) f fd) (hb:∀ x ∈ aq,mg x=none):aS P w K mg base CX0 (k + 1) f fd ["numbers"] (spD K cc):=by
 refine fnD F cR hb (by rintro _ _ ⟨_,_,rfl,_⟩; rfl) ?_
 rintro _ _ ⟨q,d,rfl,hd,hb1,hd1,rfl⟩ cdv A outer s H E b
 have nd:=cR.nd
 refine aB 1 nd af ?_
 refine bt 2 (g:=λi=>.int (q.getD i 0)) (λi τ=>i<=q.length/\∃ s2,τ=[.d (.lst (q.map .int)),.d (.int (prZ (q.take i))),s2]) b nd (a4 (aa 0)) (b6 (f:=D.int) (xs:=q) 0) ⟨Nat.zero_le _,.un,rfl⟩ (λi hi τ h=>?_) λτ h=>?_
 · obtain ⟨_,s2,rfl⟩:=h
   have hi:i < q.length:=by simpa using hi
   have mm:=bh (d:=(0:Int)) hi
   have bs:Bd (1 + q.length * d) (prZ (q.take i)):=(oT λx hx=>hd x (List.mem_of_mem_take hx)).mono (by
     have:(q.take i).length * d<=q.length * d:=Nat.mul_le_mul_right _ (by rw [List.length_take]; omega)
     omega)
   have et:q.take (i + 1)=q.take i++[q.getD i 0]:=by rw [List.take_succ,List.getElem?_eq_getElem hi]; simp [hi]
   rw [et,jN]
   exact aB 1 nd (aC (aa 1) (aa 2) (bb (bs.aE (hd _ mm) (by omega) (by omega)))) (aP ⟨hi,_,rfl⟩)
 · obtain ⟨_,s2,rfl⟩:=h
   rw [List.length_map,List.take_length]
   exact aO (aa 1) rfl
theorem jz (F:Fun K "look_square" qual (top 26) f fd) (hb:∀ x ∈ aq,mg x=none):aS P w K mg base CX0 (k + 1) f fd ["table"] (spD K c9):=by
 refine fnD F jq hb (by rintro _ _ ⟨_,_,rfl,_⟩; rfl) ?_
 rintro _ _ ⟨R,M,rfl,t,rfl⟩ cdv A outer s H E b
 have r1:=t.r1
 have e0:atI (M.map rwQ) 0=some (rwQ (M.getD 0 [])):=dZ [] (i:=0) (by rw [t.len]; omega)
 refine fS (bu (bx b (ae (aa 0) ag) (du (n:=R) (by rw [List.length_map]; exact t.len))) (bx b (ae (aM (aa 0) af (aW e0)) ag) (du (n:=R) (by rw [List.length_map]; exact t.at_ (by omega)))) vz) ?_ (aP rfl)
 rw [decide_eq_true rfl]; rfl
theorem ka (F:Fun K "whole_rows" qual (top 29) f fd) (hb:∀ x ∈ aq,mg x=none) (c_whole_row:Cal P w K mg base k "whole_row" eW):aS P w K mg base CX0 (k + 1) f fd ["table","scales"] (spD K cC):=by
 refine fnD F ko hb (by rintro _ _ ⟨_,_,_,rfl,_⟩; rfl) ?_
 rintro _ _ ⟨M,ss,n,rfl,hl,h1,hM,hn,hs,rfl⟩ cdv A outer s H E b
 have zl:(iP (M.map rwQ) (ss.map D.int)).length=M.length:=by rw [dB,List.length_map,List.length_map]; omega
 refine aO (gi (A9 0 1 (g:=λi=>rwQ (M.getD i [])) (g':=λi=>.int (ss.getD i 0)) (f:=λi=>dtR (whR (M.getD i []) (ss.getD i 0))) b (xE b (aa 0) (aa 1)) (sO [] 0) (by rw [zl]; omega) λi hi s0 H0 fp=>?_)) ?_
 · rw [zl] at hi
   obtain ⟨g1,g2⟩:=hM _ (bh (d:=[]) hi)
   exact bP (x_call (b.comp s0 H0 _ fp) c_whole_row (ae (aa 0) (ae (aa 1) ag)) ⟨_,_,n,rfl,g1,g2,hn,hs _ (bh (by omega)),rfl⟩)
 · unfold whM
   rw [zl,List.map_map]
   rfl
theorem jf (F:Fun K "pivot_place" qual (top 32) f fd) (hb:∀ x ∈ aq,mg x=none):aS P w K mg base CX0 (k + 1) f fd ["grid","k"] (spD K da):=by
 refine fnD F fm hb (by rintro _ _ ⟨_,_,_,rfl,_⟩; rfl) ?_
 rintro _ _ ⟨n,G,k0,rfl,hG,h1,hr,hk,rfl⟩ cdv A outer s H E b
 have nd:=fm.nd
 refine bt 2 (λi τ=>pvF G k0 i=none/\∃ s2,τ=[.d (.lst (G.map dtR)),.d (.int (k0:Nat)),s2]) b nd (lq b (aa 1) (bx b (ae (aa 0) ag) (du (n:=n) (by rw [List.length_map]; exact hG))) (by omega)) uH ⟨rfl,.un,rfl⟩ (λi hi τ h=>?_) λτ h=>?_
 · obtain ⟨h0,s2,rfl⟩:=h
   rw [aF] at hi
   have hi':k0 + i < n:=by omega
   have e:((k0:Int) + (i:Int))=((k0 + i:Nat):Int):=by omega
   rw [e]
   have a1:atI (G.map dtR) ((k0 + i:Nat):Int)=some (dtR (G.getD (k0 + i) [])):=dZ [] (by omega)
   have hl:(G.getD (k0 + i) []).length=n:=hr _ (bh (by omega))
   have a2:atI ((G.getD (k0 + i) []).map D.int) (k0:Int)=some (.int ((G.getD (k0 + i) []).getD k0 0)):=atR (by omega)
   refine fx (bu (aM (aM (aa 0) (aa 2) (aW a1)) (aa 1) (aW a2)) af vz) (λz=>?_) λz=>?_
   · refine aO (aa 2) ?_
     have z:(!decide ((G.getD (k0 + i) []).getD k0 0=0))=true:=z
     have z:(G.getD (k0 + i) []).getD k0 0 ≠ 0:=by simpa using z
     have e1:pvF G k0 (i + 1)=some (k0 + i):=by rw [pvF,h0]; exact if_pos z
     have e2:pvP G k0=some (k0 + i):=by
       unfold pvP
       have:=om e1 (G.length - k0 - (i + 1))
       rwa [show i + 1 + (G.length - k0 - (i + 1))=G.length - k0 by omega] at this
     rw [e2]
     rfl
   · refine aP ⟨?_,_,rfl⟩
     have z:(!decide ((G.getD (k0 + i) []).getD k0 0=0))=false:=z
     have z:(G.getD (k0 + i) []).getD k0 0=0:=by simpa using z
     rw [pvF,h0]
     exact if_neg (λy=>y z)
 · obtain ⟨h0,s2,rfl⟩:=h
   rw [aF] at h0
   refine aO nY ?_
   have:pvP G k0=none:=by
     unfold pvP
     rw [hG,<- h0]
     congr 1
     omega
   rw [this]
   rfl
theorem oE (F:Fun K "cleared" qual (top 33) f fd) (hb:∀ x ∈ aq,mg x=none):aS P w K mg base CX0 (k + 1) f fd ["row","pivot_row","k","last"] (spD K hZ):=by
 refine fnD F jV hb (by rintro _ _ ⟨_,_,_,_,_,_,rfl,_⟩; rfl) ?_
 rintro _ _ ⟨n,q,p,k0,l,B,rfl,hq,hp,hn,hk,bq,bp,hB,hl,bl,rfl⟩ cdv A outer s H E b
 have nd:=jV.nd
 have zl:(iP (q.map D.int) (p.map D.int)).length=n:=by rw [dB,List.length_map,List.length_map]; omega
 refine aB 4 nd (aM (aa 1) (aa 2) (aW (atR (by omega)))) ?_
 refine aB 5 nd (aM (aa 0) (aa 2) (aW (atR (by omega)))) ?_
 refine aO (gi (A9 0 1 (g:=λi=>.int (q.getD i 0)) (g':=λi=>.int (p.getD i 0)) (f:=λj=>.int (((q.getD j 0 * p.getD k0 0) - (p.getD j 0 * q.getD k0 0)).fdiv l)) b (xE b (aa 0) (aa 1)) (sO 0 0) (by rw [zl]; omega) λi hi s0 H0 fp=>?_)) ?_
 · rw [zl] at hi
   have m1:=bq _ (bh (d:=(0:Int)) (show i < q.length by omega))
   have m2:=bp _ (bh (d:=(0:Int)) (show k0 < p.length by omega))
   have m3:=bp _ (bh (d:=(0:Int)) (show i < p.length by omega))
   have m4:=bq _ (bh (d:=(0:Int)) (show k0 < q.length by omega))
   exact aC (aC (aC (aa 0) (aa 4) (bb (m1.aE m2 (by omega) (by omega)))) (aC (aa 1) (aa 2) (bb (m3.aE m4 (by omega) (by omega)))) fW) (aa 3) (a9 (bl.aD hl (by decide)))
 · unfold clR
   rw [zl,List.map_map]
   rfl
theorem kc (F:Fun K "choices_of" qual (top 23) f fd) (hb:∀ x ∈ aq,mg x=none):aS P w K mg base CX0 (k + 1) f fd ["many","size"] (spD K d8):=by
 refine fnD F fQ hb (by rintro _ _ ⟨_,_,rfl,_⟩; rfl) ?_
 rintro _ _ ⟨n,t,rfl,hn,ht,rfl⟩ cdv A outer s H E b
 have nd:=fQ.nd
 refine aB 2 nd (bP (iF (ae (cw ag) ag))) ?_
 refine bt 3 (λi τ=>∃ s3 s4 s5 s6,τ=[.d (.int n),.d (.int t),.d (lH (chs n i)),s3,s4,s5,s6]) b nd (fR b (aa 1) (by omega) (by omega)) fX ⟨.un,.un,.un,.un,rfl⟩ (λi hi τ h=>?_) λτ h=>?_
 · obtain ⟨s3,s4,s5,s6,rfl⟩:=h
   have hi:i < t:=by rw [aF] at hi; omega
   have l1:=qG hn i
   have l2:7 ^ i<=7 ^ 6:=Nat.pow_le_pow_right (by decide) (by omega)
   refine aB 4 nd (iF ag) ?_
   refine bt 5 (g:=λl=>tpD ((chs n i).getD l [])) (λl τ=>∃ s5 s6,τ=[.d (.int n),.d (.int t),.d (lH (chs n i)),.d (.int (i:Nat)),.o ((((chs n i).take l).flatMap (onC n i)).map tpD),s5,s6]) b nd (a4 (aa 2)) xm ⟨s5,s6,rfl⟩ (λl hl τ h=>?_) λτ h=>?_
   · obtain ⟨s5,s6,rfl⟩:=h
     have hl:l < (chs n i).length:=by simpa using hl
     have ok:=bW n i _ (bB (d:=[]) hl)
     have hle:=oI ok
     have len1:=ff (onC n i) 7 ((chs n i).take l) λc hc=>Nat.le_trans (lD (bW n i c (List.mem_of_mem_take hc))) hn
     rw [List.length_take] at len1
     have len2:=lD ok
     refine aB 6 nd (xH (s:=.d (.int (lea i ((chs n i).getD l [])))) (bu (aa 3) af ud) (λh=>?_) λh=>?_) ?_
     · have h:=of_decide_eq_true h
       have h0:0 < i:=by omega
       rw [show lea i ((chs n i).getD l [])=fO ((chs n i).getD l []) + 1 from if_pos h0]
       exact aC (aM (aa 5) (jS af) (aQ (qh λz=>by have:=ok.len; rw [z] at this; simp at this; omega))) af bj
     · have h:=of_decide_eq_false h
       rw [show lea i ((chs n i).getD l [])=0 from if_neg (by omega)]
       exact af
     refine Bw 4 (gi (cmp 0 (f:=λk=>tpD (((chs n i).getD l [])++[lea i ((chs n i).getD l []) + (k:Nat)])) b (lq b (aa 6) (aa 0) ⟨by omega,by omega,by omega,by omega⟩) (λk hk=>gA _ _ k hk) (by rw [aF]; omega) λk hk s0 H0 fp=>?_)) ?_ (aP ⟨.d (tpD ((chs n i).getD l [])),.d (.int (lea i ((chs n i).getD l []))),?_⟩)
     · have e:tpD (((chs n i).getD l [])++[lea i ((chs n i).getD l []) + (k:Nat)])=.tup ((((chs n i).getD l []).map D.int)++[.int (lea i ((chs n i).getD l []) + (k:Nat))]):=by unfold tpD; rw [List.map_append]; rfl
       rw [e]
       exact aC (aa 1) (cw (ae (aa 0) ag)) (pI (by rw [List.length_map,ok.len]; show _ + 1 < _; omega))
     · rw [List.length_map,List.length_map,List.length_range,aF]; omega
     · rw [take_snoc [] hl,List.flatMap_append,List.map_append,aF]
       show [_,_,_,_,Sl.o (_++(List.range ((n:Int) - lea i ((chs n i).getD l [])).toNat).map _),_,_]=_
       simp [onC]
   · obtain ⟨s5,s6,rfl⟩:=h
     refine A3 4 (aB 2 nd (aa 4) (aP ⟨.d (.int (i:Nat)),.d (lH (chs n (i + 1))),s5,s6,?_⟩))
     rw [List.length_map,List.take_of_length_le (Nat.le_refl _)]
     rfl
 · obtain ⟨s3,s4,s5,s6,rfl⟩:=h
   refine aO (aa 2) ?_
   rw [aF,Int.toNat_natCast]
end
theorem xQ {α β:Type} (g:α->β) (x:α):∀ (m:Nat) (ys:List α),(ys.map g).insertIdx m (g x)=(ys.insertIdx m x).map g
 | 0,_=>rfl
 | m + 1,[]=>rfl
 | m + 1,y :: ys=>by rw [List.map_cons,List.insertIdx_succ_cons,List.insertIdx_succ_cons,List.map_cons,xQ g x m ys]
theorem oJ {α:Type} (d:α) {G:List α} {k m:Nat} (h:k + m < G.length) (i:Nat):((G.eraseIdx (k + m)).insertIdx k (G.getD (k + m) d)).getD i d=G.getD (rho k m i) d:=by
 have hl:(G.eraseIdx (k + m)).length=G.length - 1:=List.length_eraseIdx_of_lt h
 simp only [List.getD_eq_getElem?_getD]
 rw [List.getElem?_insertIdx]
 unfold rho
 by_cases h1:i < k
 · rw [if_pos h1,if_pos h1,List.getElem?_eraseIdx_of_lt (by omega)]
 · rw [if_neg h1,if_neg h1]
   by_cases h2:i=k
   · rw [if_pos h2,if_pos h2,if_pos (by omega)]
     rw [List.getElem?_eq_getElem h]
     rfl
   · rw [if_neg h2,if_neg h2,List.getElem?_eraseIdx]
     by_cases h3:i<=k + m
     · rw [if_pos h3,if_pos (by omega)]
     · rw [if_neg h3,if_neg (by omega),show i - 1 + 1=i by omega]
theorem mw {k m n i:Nat} (h:k + m < n) (hi:i < n):rho k m i < n/\(k<=i->k<=rho k m i):=by
 unfold rho
 repeat' split
 all_goals omega
theorem xI {n b k p q:Nat} {Y:Nat->Nat->Rat} (hY:∀ i < n,∀ j < n,ZB b (Y i j)) (hk:k < n) (hp:p < n) (hq:q < n) (h7:n<=7):ZB ((k + 1) * (b + 3)) (bm Y k p q):=by
 unfold bm
 exact wI (by omega) λr hr c hc=>hY _ (by split <;> omega) _ (by split <;> omega)
theorem xG {B c:Nat} {x:Rat} {z:Int} (h:ZB c x) (e:(z:Rat)=x) (hc:c < B):Bd B z:=by
 obtain ⟨y,e1,e2⟩:=h
 rw [e1] at e
 rw [Rat.intCast_inj.mp e]
 exact Nat.lt_of_le_of_lt e2 (Nat.pow_lt_pow_right (by decide) hc)
structure WI (n b:Nat) (M:Nat->Nat->Rat) (k:Nat) (G:List (List Int)) (s l:Int) (Y:Nat->Nat->Rat):Prop where
 zb:∀ i < n,∀ j < n,ZB b (Y i j)
 dt:det n M=(s:Rat) * det n Y
 sg:s=1\/s=-1
 last:(l:Rat)=det k Y
 nz:det k Y ≠ 0
 len:G.length=n
 row:∀ i,i < n->(G.getD i []).length=n
 ent:∀ i,k<=i->i < n->∀ j,j < n->(((G.getD i []).getD j 0:Int):Rat)=bm Y k i j
theorem WI.zero {n b:Nat} {Ms:List (List Int)} (h1:Ms.length=n) (hr:∀ r ∈ Ms,r.length=n/\∀ x ∈ r,x.natAbs<=2 ^ b):WI n b (dtM Ms) 0 Ms 1 1 (dtM Ms):=by
 have rw':∀ i,i < n->(Ms.getD i []).length=n:=λi hi=>(hr _ (bh (by omega))).1
 refine ⟨λi hi j hj=>⟨_,rfl,(hr _ (bh (d:=[]) (show i < Ms.length by omega))).2 _ (bh (d:=(0:Int)) (by rw [rw' i hi]; exact hj))⟩,?_,.inl rfl,rfl,by show (1:Rat) ≠ 0; decide,h1,rw',λi _ hi j hj=>?_⟩
 · rw [show ((1:Int):Rat)=1 from rfl,Rat.one_mul]
 · unfold bm
   rw [fD]
   rfl
theorem WI.rot {n b k m:Nat} {M Y:Nat->Nat->Rat} {G:List (List Int)} {s l:Int} (W:WI n b M k G s l Y) (h:k + m < n):WI n b M k ((G.eraseIdx (k + m)).insertIdx k (G.getD (k + m) [])) (if m % 2=1 then -s else s) l (λr=>Y (rho k m r)):=by
 have hG:k + m < G.length:=by rw [W.len]; exact h
 have e:=fJ (k:=k) (n:=n) m Y h
 refine ⟨λi hi j hj=>W.zb _ (mw h hi).1 j hj,?_,?_,?_,?_,?_,λi hi=>?_,λi ki hi j hj=>?_⟩
 · rw [e,W.dt]
   unfold sgn
   by_cases z:m % 2=1
   · rw [if_pos z,if_neg (by omega),Rat.intCast_neg]
     simp [Rat.neg_mul,Rat.mul_neg]
   · rw [if_neg z,if_pos (by omega),Rat.one_mul]
 · rcases W.sg with z | z <;> rw [z] <;> split <;> first | exact .inl rfl | exact .inr rfl
 · rw [kY]; exact W.last
 · rw [kY]; exact W.nz
 · rw [List.length_insertIdx_of_le_length (by rw [List.length_eraseIdx_of_lt hG]; omega),List.length_eraseIdx_of_lt hG,W.len]; omega
 · rw [oJ [] hG]; exact W.row _ (mw h hi).1
 · rw [oJ [] hG,zY]
   exact W.ent _ ((mw h hi).2 ki) (mw h hi).1 j hj
theorem WI.clear {n b k:Nat} {M Y:Nat->Nat->Rat} {G:List (List Int)} {s l:Int} (W:WI n b M k G s l Y) (h:k < n) (h7:n<=7) {i:Nat} (ki:k < i) (hi:i < n) {j:Nat} (hj:j < n):(((clR (G.getD i []) (G.getD k []) k l n).getD j 0:Int):Rat)=bm Y (k + 1) i j:=by
 have g0:(clR (G.getD i []) (G.getD k []) k l n).getD j 0=(((G.getD i []).getD j 0 * (G.getD k []).getD k 0) - ((G.getD k []).getD j 0 * (G.getD i []).getD k 0)).fdiv l:=by
   unfold clR
   simp [hj]
 obtain ⟨z,e1,_⟩:=xI (k:=k + 1) (p:=i) (q:=j) W.zb (by omega) hi hj h7
 have st:=lF (Y:=Y) (k:=k) (i:=i) (j:=j) W.nz
 rw [<- W.ent k (Nat.le_refl _) h k h,<- W.ent i (by omega) hi j hj,<- W.ent k (Nat.le_refl _) h j hj,<- W.ent i (by omega) hi k h,e1,<- W.last] at st
 have st':l * z=(G.getD k []).getD k 0 * (G.getD i []).getD j 0 - (G.getD k []).getD j 0 * (G.getD i []).getD k 0:=by
   apply Rat.intCast_inj.mp
   rw [Rat.intCast_mul,Rat.intCast_sub,Rat.intCast_mul,Rat.intCast_mul]
   exact st
 have l0:l ≠ 0:=λq=>W.nz (by rw [<- W.last,q]; rfl)
 rw [g0,Int.mul_comm ((G.getD i []).getD j 0),<- st',e1,Int.mul_fdiv_cancel_left _ l0]
theorem WI.next {n b k:Nat} {M Y:Nat->Nat->Rat} {G G':List (List Int)} {s l:Int} (W:WI n b M k G s l Y) (h:k < n) (h7:n<=7) (hp:(G.getD k []).getD k 0 ≠ 0) (hl:G'.length=n) (hG:∀ i,i < n->G'.getD i []=if k < i then clR (G.getD i []) (G.getD k []) k l n else G.getD i []):WI n b M (k + 1) G' s ((G.getD k []).getD k 0) Y:=by
 have e:=W.ent k (Nat.le_refl _) h k h
 rw [i5] at e
 refine ⟨W.zb,W.dt,W.sg,e,λz=>hp (by rw [z] at e; exact Rat.intCast_eq_zero_iff.mp e),hl,λi hi=>?_,λi ki hi j hj=>?_⟩
 · rw [hG i hi]
   split
   · unfold clR; simp
   · exact W.row i hi
 · rw [hG i hi,if_pos (by omega)]
   exact W.clear h h7 (by omega) hi hj
theorem WI.no {n b k:Nat} {M Y:Nat->Nat->Rat} {G:List (List Int)} {s l:Int} (W:WI n b M k G s l Y) (h:k < n) (hz:∀ i,i < n - k->(G.getD (k + i) []).getD k 0=0):det n M=0:=by
 rw [W.dt,xg W.nz h λp kp hp=>?_,Rat.mul_zero]
 rw [<- W.ent p kp hp k h,<- show k + (p - k)=p by omega,hz (p - k) (by omega)]
 rfl
theorem WI.bd {n b k:Nat} {M Y:Nat->Nat->Rat} {G:List (List Int)} {s l:Int} (W:WI n b M k G s l Y) (h7:n<=7) (hb:n * (b + 3)<=8998) {i:Nat} (ki:k<=i) (hi:i < n):∀ x ∈ G.getD i [],Bd 8999 x:=λx hx=>by
 obtain ⟨j,hj,rfl⟩:=List.getElem_of_mem hx
 have hj':j < n:=by rw [<- W.row i hi]; exact hj
 have e:=W.ent i ki hi j hj'
 have e2:(G.getD i []).getD j 0=(G.getD i [])[j]:=by rw [List.getD_eq_getElem?_getD (l:=G.getD i []),List.getElem?_eq_getElem hj]; rfl
 rw [e2] at e
 refine xG (xI W.zb (by omega) hi hj' h7) e ?_
 have:(k + 1) * (b + 3)<=n * (b + 3):=Nat.mul_le_mul_right _ (by omega)
 omega
theorem WI.lbd {n b k:Nat} {M Y:Nat->Nat->Rat} {G:List (List Int)} {s l:Int} (W:WI n b M k G s l Y) (hk:k<=n) (h7:n<=7) (hb:n * (b + 3)<=8998):Bd 8999 l:=by
 refine xG (wI (b:=b) (n:=k) (M:=Y) (by omega) λi hi j hj=>W.zb i (by omega) j (by omega)) W.last ?_
 have:k * (b + 3)<=n * (b + 3):=Nat.mul_le_mul_right _ hk
 omega
noncomputable def wdZ (Ms:List (List Int)):Int:=(det Ms.length (dtM Ms)).num
theorem vc {Ms:List (List Int)} {z:Int} (h:(z:Rat)=det Ms.length (dtM Ms)):wdZ Ms=z:=by unfold wdZ; rw [<- h]; rfl
noncomputable def bL (ds:List D) (r:Sl):Prop:=∃ (n b:Nat) (Ms:List (List Int)),ds=[.lst (Ms.map dtR)]/\Ms.length=n/\n<=7/\(∀ r ∈ Ms,r.length=n/\∀ x ∈ r,x.natAbs<=2 ^ b)/\n * (b + 3)<=8998/\r=.d (.int (wdZ Ms))
theorem u4 {X:Cx} {o:Option Nat}:b8 X (compareOp .Is) (pvD o) .non (.bl o.isNone):=⟨_,uB,λ_ v w H Q _ d1 d2 k=>by
 cases d2
 cases o with
 | none=>cases d1; exact ⟨rfl,by rw [decide_eq_true rfl]; exact k _ H (ah.refl _) .bl⟩
 | some i=>cases d1; exact ⟨rfl,by rw [decide_eq_false (by intro z; cases z)]; exact k _ H (ah.refl _) .bl⟩⟩
theorem Bt (o:Option Nat):vx (.d (pvD o))=true:=by cases o <;> rfl
theorem v7 (ns:List Int):vx (.o (ns.map .int))=true:=by
 show (ns.map D.int).all flat=true
 rw [List.all_map,List.all_eq_true]
 intro _ _
 rfl
theorem qx {n m:Nat} (h:m < n):ixN n (m:Int)=some m:=by
 unfold ixN
 rw [if_pos (by omega),if_pos (by omega)]
 simp
section
variable {P:Program} {w:World} {K:PySem.W.Frag} {mg:Str->Option Value} {base:Heap} {k:Nat} {f:Addr} {fd:FuncData} {qual:Str}
set_option maxHeartbeats 1000000 in
theorem eT (F:Fun K "whole_determinant" qual (top 31) f fd) (hb:∀ x ∈ aq,mg x=none) (c_pivot_place:Cal P w K mg base k "pivot_place" da) (c_cleared:Cal P w K mg base k "cleared" hZ):aS P w K mg base CX0 (k + 1) f fd ["rows"] (spD K bL):=by
 refine fnD F cj hb (by rintro _ _ ⟨_,_,_,rfl,_⟩; rfl) ?_
 rintro _ _ ⟨n,b0,Ms,rfl,hl,h7,hr,hb0,rfl⟩ cdv A outer s H E b
 have nd:=cj.nd
 refine aB 1 nd (rD b (ae (aa 0) ag) sF) ?_
 refine aB 2 nd (bx b (ae (aa 0) ag) (du (n:=n) (by rw [List.length_map]; exact hl))) ?_
 refine aB 3 nd af ?_
 refine aB 4 nd af ?_
 refine bt 5 (λi τ=>i<=n/\∃ G sg l Y s5 s6 s7,WI n b0 (dtM Ms) i G sg l Y/\τ=[.d (.lst (Ms.map dtR)),.o (G.map dtR),.d (.int (n:Nat)),.d (.int sg),.d (.int l),s5,s6,s7]) b nd (fR b (aa 2) (by omega) (by omega)) fX ⟨Nat.zero_le _,Ms,1,1,_,.un,.un,.un,WI.zero hl hr,rfl⟩ (λi hi τ h=>?_) λτ h=>?_
 · obtain ⟨_,G,sg,l,Y,s5,s6,s7,W,rfl⟩:=h
   have hi:i < n:=by rw [aF] at hi; omega
   have gr:∀ r ∈ G,r.length=n:=λr hr'=>by
     obtain ⟨j,hj,rfl⟩:=List.getElem_of_mem hr'
     have:=W.row j (by rw [<- W.len]; exact hj)
     simpa [hj] using this
   refine aB 6 nd (u6 1 (C':=true) (s:=.d (pvD (pvP G i))) (x_call b c_pivot_place (ae (aa 1) (ae (aa 5) ag)) ⟨n,G,i,rfl,W.len,by omega,gr,hi,rfl⟩) (Bt _)) ?_
   cases ep:pvP G i with
   | none=>
     refine fx (bu (aa 6) nY (u4 (o:=none))) (λ_=>?_) λz=>by cases z
     refine aO af ?_
     unfold pvP at ep
     rw [W.len] at ep
     have:=W.no hi (nZ _ ep)
     have:wdZ Ms=0:=vc (by rw [hl]; exact this.symm)
     rw [this]
   | some j=>
     unfold pvP at ep
     obtain ⟨kj,jn,hp⟩:=nR _ _ ep
     rw [W.len] at jn
     obtain ⟨m,rfl⟩:∃ m,j=i + m:=⟨j - i,by omega⟩
     have him:i + m < n:=by omega
     refine fS (bu (aa 6) nY (u4 (o:=some (i + m)))) rfl ?_
     have W2:=W.rot him
     refine ny (M:=λτ=>τ=[.d (.lst (Ms.map dtR)),.o (G.map dtR),.d (.int (n:Nat)),.d (.int (if m % 2=1 then -sg else sg)),.d (.int l),.d (.int (i:Nat)),.d (.int ((i + m:Nat):Int)),s7]) (bu (aC (aC (aa 6) (aa 5) fW) af (fh (by decide))) af ju) (λz=>?_) (λz=>?_) ?_
     · have z:=of_decide_eq_true z
       have:m % 2=1:=by rw [Int.fmod_eq_emod_of_nonneg _ (by decide)] at z; omega
       rw [if_pos this]
       exact aB 3 nd (jS (aa 3)) (aP rfl)
     · have z:=of_decide_eq_false z
       have:¬ m % 2=1:=by rw [Int.fmod_eq_emod_of_nonneg _ (by decide)] at z; omega
       rw [if_neg this]
       exact aP rfl
     rintro _ rfl
     have hiG:i + m < G.length:=by rw [W.len]; exact him
     have hxj:(G.map dtR)[i + m]?=some (dtR (G.getD (i + m) [])):=by simp [hiG]
     refine A0 1 (k:=i) (j:=i + m) (dtR (G.getD (i + m) [])) (aa 5) (aa 6) hxj (by rw [List.length_map,W.len]; exact hi) (by rw [List.length_map,W.len]; omega) ?_
     have em:((G.map dtR).eraseIdx (i + m)).insertIdx i (dtR (G.getD (i + m) []))=((G.eraseIdx (i + m)).insertIdx i (G.getD (i + m) [])).map dtR:=by rw [<- tW,xQ]
     rw [em]
     have hp2:(((G.eraseIdx (i + m)).insertIdx i (G.getD (i + m) [])).getD i []).getD i 0 ≠ 0:=by
       rw [oJ [] (by rw [W.len]; exact him)]
       unfold rho
       rw [if_neg (by omega),if_pos rfl]
       exact hp
     generalize (G.eraseIdx (i + m)).insertIdx i (G.getD (i + m) [])=G2 at W2 hp2 ⊢
     generalize (if m % 2=1 then -sg else sg)=sg2 at W2 ⊢
     have l0:l ≠ 0:=λq=>W2.nz (by rw [<- W2.last,q]; rfl)
     refine bt 7 (g:=λt=>.int (((i:Int) + 1) + (t:Nat))) (λt τ=>∃ G3 s7,G3.length=n/\(∀ j,j < n->G3.getD j []=if i < j/\j < i + 1 + t then clR (G2.getD j []) (G2.getD i []) i l n else G2.getD j [])/\τ=[.d (.lst (Ms.map dtR)),.o (G3.map dtR),.d (.int (n:Nat)),.d (.int sg2),.d (.int l),.d (.int (i:Nat)),.d (.int ((i + m:Nat):Int)),s7]) b nd (lq b (aC (aa 5) af bj) (aa 2) (by omega)) uH ⟨G2,s7,W2.len,λj _=>by rw [if_neg (by omega)],rfl⟩ (λt ht τ h=>?_) λτ h=>?_
     · obtain ⟨G3,s7,g1,g2,rfl⟩:=h
       rw [aF] at ht
       have hit:i + 1 + t < n:=by omega
       have ei:((i:Int) + 1) + (t:Nat)=((i + 1 + t:Nat):Int):=by omega
       rw [ei]
       have r3:G3.getD (i + 1 + t) []=G2.getD (i + 1 + t) []:=by rw [g2 _ hit,if_neg (by omega)]
       have r4:G3.getD i []=G2.getD i []:=by rw [g2 i hi,if_neg (by omega)]
       have a1:atI (G3.map dtR) ((i + 1 + t:Nat):Int)=some (dtR (G2.getD (i + 1 + t) [])):=by rw [<- r3]; exact dZ [] (by omega)
       have a2:atI (G3.map dtR) (i:Int)=some (dtR (G2.getD i [])):=by rw [<- r4]; exact dZ [] (by omega)
       refine Aj 1 (xs:=G3.map dtR) (j:=i + 1 + t) (x:=dtR (clR (G2.getD (i + 1 + t) []) (G2.getD i []) i l n)) (aa 7) (bP (u6 1 (C':=true) (s:=.o ((clR (G2.getD (i + 1 + t) []) (G2.getD i []) i l n).map .int)) (x_call b c_cleared (ae (aM (aa 1) (aa 7) (aW a1)) (ae (aM (aa 1) (aa 5) (aW a2)) (ae (aa 5) (ae (aa 4) ag)))) ⟨n,_,_,i,l,8999,rfl,W2.row _ hit,W2.row _ hi,by omega,hi,W2.bd h7 hb0 (by omega) hit,W2.bd h7 hb0 (Nat.le_refl _) hi,by decide,l0,W2.lbd (by omega) h7 hb0,rfl⟩) (v7 _))) (qx (by rw [List.length_map,g1]; exact hit)) (aP ⟨G3.set (i + 1 + t) (clR (G2.getD (i + 1 + t) []) (G2.getD i []) i l n),.d (.int ((i + 1 + t:Nat):Int)),by rw [List.length_set]; exact g1,λj hj=>?_,by rw [List.map_set]; rfl⟩)
       by_cases z:j=i + 1 + t
       · subst z
         rw [if_pos (by omega)]
         simp [g1,hit]
       · have:(G3.set (i + 1 + t) (clR (G2.getD (i + 1 + t) []) (G2.getD i []) i l n)).getD j []=G3.getD j []:=by
           simp [List.getD_eq_getElem?_getD,List.getElem?_set_ne (Ne.symm z)]
         rw [this,g2 j hj]
         by_cases y:i < j/\j < i + 1 + t
         · rw [if_pos y,if_pos (by omega)]
         · rw [if_neg y,if_neg (by omega)]
     · obtain ⟨G3,s7,g1,g2,rfl⟩:=h
       rw [aF] at g2
       have r4:G3.getD i []=G2.getD i []:=by rw [g2 i hi,if_neg (by omega)]
       have a2:atI (G3.map dtR) (i:Int)=some (dtR (G2.getD i [])):=by rw [<- r4]; exact dZ [] (by omega)
       have W3:=W2.next (G':=G3) hi h7 hp2 g1 λj hj=>by
         rw [g2 j hj]
         by_cases y:i < j
         · rw [if_pos (by omega),if_pos y]
         · rw [if_neg (by omega),if_neg y]
       exact aB 4 nd (u6 1 (C':=true) (s:=.d (.int ((G2.getD i []).getD i 0))) (aM (aM (aa 1) (aa 5) (aW a2)) (aa 5) (aW (atR (by rw [W2.row i hi]; exact hi)))) rfl) (aP ⟨hi,G3,sg2,_,_,_,_,_,W3,rfl⟩)
 · obtain ⟨_,G,sg,l,Y,s5,s6,s7,W,rfl⟩:=h
   rw [aF,Int.toNat_natCast] at W
   refine aO (aC (aa 3) (aa 4) (bb (mkL (by rcases W.sg with z | z <;> rw [z] <;> decide)))) ?_
   rw [vc (z:=sg * l) (by rw [hl,Rat.intCast_mul,W.last,W.dt])]
end
noncomputable def qM (M:List (List Rat)) (i j:Nat):Rat:=(M.getD i []).getD j 0
structure Bz (m d v:Nat):Prop where
 b1:1 + m * d<=8999
 b2:m * (v + (1 + m * d) + 3)<=8998
 b3:1 + m * (1 + m * d)<=8999
 b4:v + d<=8999
theorem Qs.sq {d v:Nat} {q:Rat} (h:Qs d v q):Sq (v + d) q:=by
 refine ⟨?_,h.den.mono (by omega)⟩
 have h1:=h.den
 unfold Bd at h1 ⊢
 rw [Int.natAbs_natCast] at h1
 rw [Nat.pow_add]
 exact Nat.lt_of_le_of_lt h.val (Nat.mul_lt_mul_of_pos_left h1 (Nat.two_pow_pos v))
theorem qK (ns:List Int):∀ t,t<=ns.length->((prZ (ns.take t):Int):Rat)=gJ (λi=>((ns.getD i 0:Int):Rat)) t
 | 0,_=>rfl
 | t + 1,h=>by
   have et:ns.take (t + 1)=ns.take t++[ns.getD t 0]:=by rw [List.take_succ,List.getElem?_eq_getElem (by omega)]; simp [show t < ns.length by omega]
   rw [et,jN,Rat.intCast_mul,qK ns t (by omega),gJ]
theorem uS {M:List (List Rat)} {ss:List Int} {i j:Nat} (hi:i < M.length) (hj:j < (M.getD i []).length):((whM M ss).getD i []).getD j 0=((M.getD i []).getD j 0).num * (ss.getD i 0 / (((M.getD i []).getD j 0).den:Nat)):=by
 have e:(whM M ss).getD i []=whR (M.getD i []) (ss.getD i 0):=by unfold whM; simp [hi]
 rw [e]
 unfold whR
 rw [List.getD_eq_getElem?_getD,List.getElem?_map,List.getElem?_eq_getElem hj,List.getD_eq_getElem?_getD (l:=M.getD i []),List.getElem?_eq_getElem hj]
 rfl
theorem Aa {R d v:Nat} {M:List (List Rat)} (t:Tq R R M) (hq:∀ r ∈ M,∀ x ∈ r,Qs d v x) (z:Bz R d v):(whM M (M.map scL)).length=R/\(∀ r ∈ whM M (M.map scL),r.length=R/\∀ x ∈ r,x.natAbs<=2 ^ (v + (1 + R * d)))/\0 < prZ (M.map scL)/\Bd 8999 (prZ (M.map scL))/\((wdZ (whM M (M.map scL)):Int):Rat)=det R (qM M) * ((prZ (M.map scL):Int):Rat):=by
 have l1:(whM M (M.map scL)).length=R:=by unfold whM; simp [t.len]
 have sc:∀ i,i < R->(M.map scL).getD i 0=scL (M.getD i []):=λi hi=>by simp [show i < M.length by rw [t.len]; exact hi]
 have rowm:∀ r ∈ whM M (M.map scL),r.length=R/\∀ x ∈ r,x.natAbs<=2 ^ (v + (1 + R * d)):=λr hr=>by
   unfold whM at hr
   obtain ⟨i,hi,rfl⟩:=List.mem_map.mp hr
   rw [List.mem_range,t.len] at hi
   have mi:M.getD i [] ∈ M:=bh (by rw [t.len]; exact hi)
   refine ⟨by unfold whR; rw [List.length_map]; exact t.at_ hi,λx hx=>?_⟩
   unfold whR at hx
   obtain ⟨q,hq',rfl⟩:=List.mem_map.mp hx
   rw [sc i hi]
   have:=d9 (d:=d) (r:=M.getD i []) λx hx=>(hq _ mi x hx).den
   rw [t.at_ hi] at this
   exact Nat.le_of_lt (AG (hq _ mi q hq') ((fo _).2 q hq') this)
 have bs:∀ s ∈ M.map scL,0 < s/\Bd (1 + R * d) s:=λs hs=>by
   obtain ⟨r,hr,rfl⟩:=List.mem_map.mp hs
   have:=d9 (d:=d) (r:=r) λx hx=>(hq _ hr x hx).den
   rw [t.row r hr] at this
   exact ⟨(fo r).1,this⟩
 have bp:=oT (d:=1 + R * d) (r:=M.map scL) λs hs=>(bs s hs).2
 rw [List.length_map,t.len] at bp
 refine ⟨l1,rowm,wR λs hs=>(bs s hs).1,bp.mono z.b3,?_⟩
 have zb:∀ i < R,∀ j < R,ZB (v + (1 + R * d)) (dtM (whM M (M.map scL)) i j):=λi hi j hj=>by
   have mi:=bh (xs:=whM M (M.map scL)) (d:=[]) (i:=i) (by rw [l1]; exact hi)
   exact ⟨_,rfl,(rowm _ mi).2 _ (bh (by rw [(rowm _ mi).1]; exact hj))⟩
 obtain ⟨w,e1,_⟩:=wI (n:=R) (by have:=t.r7; omega) zb
 have e2:wdZ (whM M (M.map scL))=w:=vc (by rw [l1,e1])
 rw [e2,<- e1]
 have pr:=qK (M.map scL) R (by rw [List.length_map,t.len]; exact Nat.le_refl _)
 rw [List.take_of_length_le (by rw [List.length_map,t.len]; exact Nat.le_refl _)] at pr
 rw [pr,Rat.mul_comm,<- hJ (n:=R) _ (qM M) R (Nat.le_refl _)]
 refine ao λi hi j hj=>?_
 rw [if_pos hi]
 have hj':j < (M.getD i []).length:=by rw [t.at_ hi]; exact hj
 unfold dtM
 rw [uS (by rw [t.len]; exact hi) hj',sc i hi,zL ((fo _).2 _ (bh hj')),Rat.mul_comm]
 rfl
noncomputable def a8 (ds:List D) (r:Sl):Prop:=∃ (R d v:Nat) (M:List (List Rat)),ds=[tbQ M]/\Tq R R M/\(∀ r ∈ M,∀ x ∈ r,Qs d v x)/\Bz R d v/\r=.d (frD (det R (qM M)))
section
variable {P:Program} {w:World} {K:PySem.W.Frag} {mg:Str->Option Value} {base:Heap} {k:Nat} {f:Addr} {fd:FuncData} {qual:Str}
theorem eP (F:Fun K "square_determinant" qual (top 25) f fd) (hb:∀ x ∈ aq,mg x=none) (c_look_square:Cal P w K mg base k "look_square" c9) (c_fraction:Cal P w K mg base k "fraction" gc) (c_scale_of:Cal P w K mg base k "scale_of" dX) (c_whole_determinant:Cal P w K mg base k "whole_determinant" bL) (c_product_of_all:Cal P w K mg base k "product_of_all" cc) (c_whole_rows:Cal P w K mg base k "whole_rows" cC):aS P w K mg base CX0 (k + 1) f fd ["table"] (spD K a8):=by
 refine fnD F b5 hb (by rintro _ _ ⟨_,_,_,_,rfl,_⟩; rfl) ?_
 rintro _ _ ⟨R,d,v,M,rfl,t,hq,z,rfl⟩ cdv A outer s H E b
 have nd:=b5.nd
 have r7:=t.r7
 obtain ⟨o1,o2,o3,o4,o5⟩:=Aa t hq z
 refine lW (x_call b c_look_square (ae (aa 0) ag) ⟨R,M,rfl,t,rfl⟩) ?_
 refine pd 1 nd (s:=.d (.lst ((M.map scL).map .int))) (cmp 0 (g:=λi=>rwQ (M.getD i [])) (f:=λi=>.int (scL (M.getD i []))) b (a4 (aa 0)) (b6 (f:=rwQ) (xs:=M) []) (by rw [List.length_map,t.len]; omega) λi hi s0 H0 fp=>(x_call (b.comp s0 H0 _ fp) c_scale_of (ae (aa 0) ag) ⟨_,d,rfl,?_,?_,?_,?_,rfl⟩)) (.inr ?_) ?_
 · rw [t.at_ (by simpa [t.len] using hi)]; omega
 · exact λx hx=>(hq _ (bh (by simpa using hi)) x hx).den
 · rw [t.at_ (by simpa [t.len] using hi)]; exact z.b1
 · have:=z.b4; omega
 · exact congrArg (λl=>Sl.d (D.lst l)) (((fF (λr:List Rat=>D.int (scL r)) M [] (List.length_map ..)).trans (by rw [List.map_map]; rfl)).symm)
 refine aO (x_call b c_fraction (ae (x_call b c_whole_determinant (ae (bP (x_call b c_whole_rows (ae (aa 0) (ae (aa 1) ag)) ⟨M,M.map scL,v + d,rfl,by rw [List.length_map],by rw [t.len]; omega,λr hr=>⟨by rw [t.row r hr]; omega,λx hx=>(hq r hr x hx).sq⟩,z.b4,?_,rfl⟩)) ag) ⟨R,v + (1 + R * d),_,rfl,o1,r7,o2,z.b2,rfl⟩) (ae (x_call b c_product_of_all (ae (aa 1) ag) ⟨M.map scL,1 + R * d,rfl,?_,?_,?_,rfl⟩) ag)) ⟨_,_,det R (qM M),rfl,Int.ne_of_gt o3,o4,o5,rfl⟩) rfl
 · intro s hs
   obtain ⟨r,hr,rfl⟩:=List.mem_map.mp hs
   have:=d9 (d:=d) (r:=r) λx hx=>(hq _ hr x hx).den
   rw [t.row r hr] at this
   exact this.mono z.b1
 · intro s hs
   obtain ⟨r,hr,rfl⟩:=List.mem_map.mp hs
   have:=d9 (d:=d) (r:=r) λx hx=>(hq _ hr x hx).den
   rw [t.row r hr] at this
   exact this
 · rw [List.length_map,t.len]; have:=z.b3; omega
 · have:=z.b1; omega
end
noncomputable def cnS (i j:Nat):Nat:=min i j + 1
noncomputable def cnM {α:Type} (M:List (List α)) (i j:Nat):List (List α):=((M.take (i + 1)).drop (i + 1 - cnS i j)).map λr=>(r.take (j + 1)).drop (j + 1 - cnS i j)
noncomputable def coQ (M:List (List Rat)) (i j:Nat):Rat:=sld (qM M) (i + 1 - cnS i j) (j + 1 - cnS i j) (cnS i j)
theorem su {R C i j:Nat} {M:List (List Rat)} (t:Tq R C M) (hi:i < R) (hj:j < C):Tq (cnS i j) (cnS i j) (cnM M i j):=by
 have h1:=t.r7
 have h2:=t.c7
 have hs:cnS i j<=i + 1/\cnS i j<=j + 1/\1<=cnS i j:=by unfold cnS; omega
 refine ⟨hs.2.2,by omega,hs.2.2,by omega,?_,λr hr=>?_⟩
 · unfold cnM
   rw [List.length_map,List.length_drop,List.length_take,t.len]
   omega
 · unfold cnM at hr
   obtain ⟨q,hq,rfl⟩:=List.mem_map.mp hr
   have:=t.row q (List.mem_of_mem_take (List.mem_of_mem_drop hq))
   rw [List.length_drop,List.length_take,this]
   omega
theorem xS {d v i j:Nat} {M:List (List Rat)} (hq:∀ r ∈ M,∀ x ∈ r,Qs d v x):∀ r ∈ cnM M i j,∀ x ∈ r,Qs d v x:=λr hr x hx=>by
 unfold cnM at hr
 obtain ⟨q,hq',rfl⟩:=List.mem_map.mp hr
 exact hq q (List.mem_of_mem_take (List.mem_of_mem_drop hq')) x (List.mem_of_mem_take (List.mem_of_mem_drop hx))
theorem uI {R C i j:Nat} {M:List (List Rat)} (t:Tq R C M) (hi:i < R) (hj:j < C):det (cnS i j) (qM (cnM M i j))=coQ M i j:=by
 have hs:cnS i j<=i + 1/\cnS i j<=j + 1/\1<=cnS i j:=by unfold cnS; omega
 have hl:=t.len
 unfold coQ sld mi
 refine ao λr hr c hc=>?_
 have er:i + 1 - cnS i j + r < M.length:=by omega
 have e1:(cnM M i j).getD r []=((M.getD (i + 1 - cnS i j + r) []).take (j + 1)).drop (j + 1 - cnS i j):=by
   unfold cnM
   simp only [List.getD_eq_getElem?_getD,List.getElem?_map,List.getElem?_drop,List.getElem?_take]
   rw [if_pos (by omega),List.getElem?_eq_getElem er]
   rfl
 unfold qM
 rw [e1]
 simp only [List.getD_eq_getElem?_getD,List.getElem?_drop,List.getElem?_take]
 rw [if_pos (by omega)]
noncomputable def cf (ds:List D) (r:Sl):Prop:=∃ (R C i j:Nat) (M:List (List Rat)),ds=[tbQ M,.int (i:Nat),.int (j:Nat)]/\Tq R C M/\i < R/\j < C/\r=.o ((cnM M i j).map rwQ)
theorem yo (i j:Nat):(if ((j:Nat):Int) < (i:Nat) then ((j:Nat):Int) else (i:Nat)) + 1=((cnS i j:Nat):Int):=by
 unfold cnS
 split <;> omega
theorem uA {α:Type} {f:α->D} (xs:List α) {i s:Nat} (h:s<=i + 1):Hy.cutD (xs.map f) (some ((i:Int) + 1 - (s:Nat))) (some ((i:Int) + 1))=((xs.take (i + 1)).drop (i + 1 - s)).map f:=by
 rw [show (i:Int) + 1 - (s:Nat)=((i + 1 - s:Nat):Int) by omega,show (i:Int) + 1=((i + 1:Nat):Int) by omega,Hy.qu,List.map_drop,List.map_take]
noncomputable def b7 (ds:List D) (r:Sl):Prop:=∃ (R C d v i:Nat) (M:List (List Rat)),ds=[tbQ M,.int (i:Nat)]/\Tq R C M/\(∀ r ∈ M,∀ x ∈ r,Qs d v x)/\(∀ n,n<=R->n<=C->Bz n d v)/\i < R/\r=.o (((List.range C).map (coQ M i)).map frD)
noncomputable def iw (ds:List D) (r:Sl):Prop:=∃ (R C d v:Nat) (M:List (List Rat)),ds=[tbQ M]/\Tq R C M/\(∀ r ∈ M,∀ x ∈ r,Qs d v x)/\(∀ n,n<=R->n<=C->Bz n d v)/\r=.o (((List.range R).map λi=>(List.range C).map (coQ M i)).map rwQ)
section
variable {P:Program} {w:World} {K:PySem.W.Frag} {mg:Str->Option Value} {base:Heap} {k:Nat} {f:Addr} {fd:FuncData} {qual:Str}
theorem jO (F:Fun K "corner_part" qual (top 42) f fd) (hb:∀ x ∈ aq,mg x=none):aS P w K mg base CX0 (k + 1) f fd ["table","i","j"] (spD K cf):=by
 refine fnD F eV hb (by rintro _ _ ⟨_,_,_,_,_,rfl,_⟩; rfl) ?_
 rintro _ _ ⟨R,C,i,j,M,rfl,t,hi,hj,rfl⟩ cdv A outer s H E b
 have nd:=eV.nd
 have hs:cnS i j<=i + 1/\cnS i j<=j + 1/\1<=cnS i j:=by unfold cnS; omega
 refine aB 3 nd (aC (bx b (ae (aa 1) (ae (aa 2) ag)) (vh b.calm)) af bj) ?_
 rw [yo]
 have t2:=su t hi hj
 have ln:((M.take (i + 1)).drop (i + 1 - cnS i j)).length=cnS i j:=by
   have:=t2.len
   unfold cnM at this
   rwa [List.length_map] at this
 refine aO (gi (cmp 0 (g:=λl=>rwQ (((M.take (i + 1)).drop (i + 1 - cnS i j)).getD l [])) (f:=λl=>rwQ ((((((M.take (i + 1)).drop (i + 1 - cnS i j)).getD l []).take (j + 1)).drop (j + 1 - cnS i j)))) b (a4 (bP (x:=.lst (((M.take (i + 1)).drop (i + 1 - cnS i j)).map rwQ)) (wK (aa 0) (cL (aC (aC (aa 1) af bj) (aa 3) fW)) (cL (aC (aa 1) af bj))) (congrArg (λl=>some (D.lst l)) (uA M hs.1)))) (b6 (f:=rwQ) []) (by rw [List.length_map,ln]; have:=t2.r7; omega) λl hl s0 H0 fp=>?_)) ?_
 · exact bP (wK (aa 0) (cL (aC (aC (aa 1) af bj) (aa 2) fW)) (cL (aC (aa 1) af bj))) (congrArg (λl=>some (D.lst l)) (uA _ hs.2.1))
 · refine congrArg Sl.o ((fF (λr:List Rat=>rwQ ((r.take (j + 1)).drop (j + 1 - cnS i j))) ((M.take (i + 1)).drop (i + 1 - cnS i j)) [] (List.length_map ..)).trans ?_)
   unfold cnM
   rw [List.map_map]
   rfl
theorem gx (F:Fun K "corners_in_row" qual (top 41) f fd) (hb:∀ x ∈ aq,mg x=none) (c_square_determinant:Cal P w K mg base k "square_determinant" a8) (c_corner_part:Cal P w K mg base k "corner_part" cf):aS P w K mg base CX0 (k + 1) f fd ["table","i"] (spD K b7):=by
 refine fnD F gN hb (by rintro _ _ ⟨_,_,_,_,_,_,rfl,_⟩; rfl) ?_
 rintro _ _ ⟨R,C,d,v,i,M,rfl,t,hq,bz,hi,rfl⟩ cdv A outer s H E b
 have r1:=t.r1
 have c7:=t.c7
 have e0:atI (M.map rwQ) 0=some (rwQ (M.getD 0 [])):=dZ [] (i:=0) (by rw [t.len]; omega)
 refine aO (gi (cmp 0 (f:=λj=>frD (coQ M i j)) b (fR b (bx b (ae (aM (aa 0) af (aW e0)) ag) (du (n:=C) (by rw [List.length_map]; exact t.at_ (by omega)))) (by omega) (by omega)) fX (by rw [aF]; omega) λj hj s0 H0 fp=>?_)) ?_
 · have hj:j < C:=by rw [aF] at hj; omega
   have t2:=su t hi hj
   refine x_call (b.comp s0 H0 _ fp) c_square_determinant (ae (bP (x:=tbQ (cnM M i j)) (x_call (b.comp s0 H0 _ fp) c_corner_part (ae (aa 2) (ae (aa 1) (ae (aa 0) ag))) ⟨R,C,i,j,M,rfl,t,hi,hj,rfl⟩)) ag) ⟨cnS i j,d,v,cnM M i j,rfl,t2,xS hq,bz _ (by unfold cnS; omega) (by unfold cnS; omega),by rw [uI t hi hj]⟩
 · rw [aF,Int.toNat_natCast,List.map_map]
   rfl
theorem oP (F:Fun K "corners" qual (top 40) f fd) (hb:∀ x ∈ aq,mg x=none) (c_look_table:Cal P w K mg base k "look_table" bY) (c_corners_in_row:Cal P w K mg base k "corners_in_row" b7):aS P w K mg base CX0 (k + 1) f fd ["table"] (spD K iw):=by
 refine fnD F pD hb (by rintro _ _ ⟨_,_,_,_,_,rfl,_⟩; rfl) ?_
 rintro _ _ ⟨R,C,d,v,M,rfl,t,hq,bz,rfl⟩ cdv A outer s H E b
 have r7:=t.r7
 refine lW (x_call b c_look_table (ae (aa 0) ag) ⟨R,C,M,rfl,t,rfl⟩) ?_
 refine aO (gi (cmp 0 (f:=λi=>rwQ ((List.range C).map (coQ M i))) b (fR b (bx b (ae (aa 0) ag) (du (n:=R) (by rw [List.length_map]; exact t.len))) (by omega) (by omega)) fX (by rw [aF]; omega) λi hi s0 H0 fp=>?_)) ?_
 · have hi:i < R:=by rw [aF] at hi; omega
   exact bP (x_call (b.comp s0 H0 _ fp) c_corners_in_row (ae (aa 1) (ae (aa 0) ag)) ⟨R,C,d,v,i,M,rfl,t,hq,bz,hi,rfl⟩)
 · rw [aF,Int.toNat_natCast,List.map_map]
   rfl
end
noncomputable abbrev kT:Ev.KD (List Int):=Ev.zu Ev.A1
noncomputable abbrev kTT:Ev.KD (List Int × List Int):=Ev.ze kT kT
theorem hdT:kT.dep<=7:=by show 1<=7; decide
theorem j6:kTT.dep<=7:=by show 2<=7; decide
theorem b9 {F:PySem.W.Frag} (c:List Int) (H:Hp) (v:V) (h:Den F H v (kT.toD c)):∃ b,v=.ref b:=by
 generalize e:kT.toD c=x at h
 cases h with
 | tup=>exact ⟨_,rfl⟩
 | _=>cases e
theorem pZ {F:PySem.W.Frag} (c:List Int × List Int) (H:Hp) (v:V) (h:Den F H v (kTT.toD c)):∃ b,v=.ref b:=by
 generalize e:kTT.toD c=x at h
 cases h with
 | tup=>exact ⟨_,rfl⟩
 | _=>cases e
section
variable {κ:Type} [DecidableEq κ]
theorem iq (p:κ × D) (m:List (κ × D)) (k:κ):getM (p :: m) k=if p.1=k then some p.2 else getM m k:=by
 unfold getM
 rw [List.find?_cons]
 by_cases e:p.1=k
 · simp [e]
 · simp [e]
theorem kX (k k':κ) (x:D):∀ m:List (κ × D),getM (m.map λy=>if y.1=k then (y.1,x) else y) k'=if k=k'/\(getM m k).isSome then some x else getM m k'
 | []=>by simp [getM]
 | p :: m=>by
   rw [List.map_cons,iq,kX k k' x m,iq,iq]
   by_cases e:p.1=k
   · rw [if_pos e,if_pos e]
     by_cases e':k=k'
     · simp [e,e']
     · simp [e,e']
   · rw [if_neg e,if_neg e]
     by_cases e':p.1=k'
     · simp [e',show ¬ k=k' from λz=>e (e'.trans z.symm)]
     · simp [e']
theorem mP (m:List (κ × D)) (k k':κ) (x:D):getM (eO m k x) k'=if k=k' then some x else getM m k':=by
 unfold eO
 by_cases h:(getM m k).isSome
 · rw [if_pos h,kX]
   simp [h]
 · rw [if_neg h]
   have h:getM m k=none:=by simpa using h
   unfold getM at *
   rw [List.find?_append]
   by_cases e:k=k'
   · subst e
     have h:m.find? (λx=>decide (x.1=k))=none:=by simpa using h
     rw [h]
     simp
   · simp [e]
noncomputable def mkM (v:κ->D) (ks:List κ):List (κ × D):=ks.foldl (λm k=>eO m k (v k)) []
theorem gy (v:κ->D) (ks:List κ) (k:κ):mkM v (ks++[k])=eO (mkM v ks) k (v k):=by unfold mkM; rw [List.foldl_append]; rfl
theorem k4 (v:κ->D) (k:κ):∀ (ks:List κ) (m:List (κ × D)),getM (ks.foldl (λm k=>eO m k (v k)) m) k=if k ∈ ks then some (v k) else getM m k
 | [],m=>by simp
 | k0 :: ks,m=>by
   rw [List.foldl_cons,k4 v k ks,mP]
   by_cases h:k ∈ ks
   · simp [h]
   · by_cases e:k0=k
     · simp [e]
     · simp [h,e,show ¬ k=k0 from λz=>e z.symm]
theorem cQ {v:κ->D} {ks:List κ} {k:κ} (h:k ∈ ks):getM (mkM v ks) k=some (v k):=by unfold mkM; rw [k4,if_pos h]
theorem sR (m:List (κ × D)) (k:κ) (x:D):(eO m k x).length<=m.length + 1:=by
 unfold eO
 split <;> simp
theorem kZ (v:κ->D):∀ (ks:List κ) (m:List (κ × D)),(ks.foldl (λm k=>eO m k (v k)) m).length<=m.length + ks.length
 | [],m=>by simp
 | k :: ks,m=>by
   rw [List.foldl_cons]
   have:=kZ v ks (eO m k (v k))
   have:=sR m k (v k)
   rw [List.length_cons]
   omega
theorem fL (v:κ->D) (ks:List κ):(mkM v ks).length<=ks.length:=by unfold mkM; simpa using kZ v ks []
theorem sU {m:List (κ × D)} {k:κ} {x:D} {p:κ × D} (h:p ∈ eO m k x):p=(k,x)\/p ∈ m:=by
 unfold eO at h
 split at h
 · obtain ⟨q,hq,e⟩:=List.mem_map.mp h
   by_cases z:q.1=k
   · rw [if_pos z] at e; exact .inl (by rw [<- e,z])
   · rw [if_neg z] at e; exact .inr (e ▸ hq)
 · rcases List.mem_append.mp h with h | h
   · exact .inr h
   · exact .inl (List.mem_singleton.mp h)
theorem kE (v:κ->D) {p:κ × D}:∀ (ks:List κ) (m:List (κ × D)),p ∈ ks.foldl (λm k=>eO m k (v k)) m->(p.1 ∈ ks/\p.2=v p.1)\/p ∈ m
 | [],m,h=>.inr h
 | k :: ks,m,h=>by
   rw [List.foldl_cons] at h
   rcases kE v ks _ h with ⟨h1,h2⟩ | h
   · exact .inl ⟨List.mem_cons_of_mem _ h1,h2⟩
   · rcases sU h with e | h
     · exact .inl (by rw [e]; exact ⟨List.mem_cons_self ..,rfl⟩)
     · exact .inr h
theorem fG {v:κ->D} {ks:List κ} {p:κ × D} (h:p ∈ mkM v ks):p.1 ∈ ks/\p.2=v p.1:=(kE v ks [] h).elim id λz=>nomatch z
theorem ni {m:List (κ × D)} {k:κ} {x:D} (h:getM m k=some x):(k,x) ∈ m:=by
 unfold getM at h
 obtain ⟨p,h1,h2⟩:=Option.map_eq_some_iff.mp h
 have e:p.1=k:=by have:=List.find?_some h1; simpa using this
 rw [<- h2,<- e]
 exact List.mem_of_find?_eq_some h1
end
noncomputable def ers (c:List Int) (k:Nat):List Int:=c.take k++c.drop (k + 1)
noncomputable def alP (f:List Int->Int) (row c:List Int) (k:Nat):Int:=row.getD (c.getD k 0).toNat 0 * f (ers c k)
noncomputable def alS (f:List Int->Int) (row c:List Int):Nat->Int
 | 0=>0
 | k + 1=>if Int.fmod ((c.length:Int) - (k:Nat)) 2=0 then alS f row c k - alP f row c k else alS f row c k + alP f row c k
noncomputable def alR (f:List Int->Int) (row c:List Int):Int:=alS f row c c.length
theorem Ah (c:List Int) (k:Nat):kT.toD (ers c k)=.tup (Hy.cutD (c.map D.int) none (some (k:Int))++Hy.cutD (c.map D.int) (some ((k:Int) + 1)) none):=by
 rw [show ((k:Int) + 1)=((k + 1:Nat):Int) from rfl,zK]
 have e:Hy.cutD (c.map D.int) (some ((k + 1:Nat):Int)) none=(c.map D.int).drop (k + 1):=by
   unfold Hy.cutD
   rw [HT.fH,HT.je]
   rcases Nat.le_total (k + 1) (c.map D.int).length with h | h
   · rw [Nat.min_eq_left h,List.take_of_length_le (by rw [List.length_drop]; exact Nat.le_refl _)]
   · rw [Nat.min_eq_right h,List.drop_of_length_le (Nat.le_refl _),List.drop_of_length_le h,List.take_nil]
 rw [e]
 show D.tup ((ers c k).map D.int)=_
 unfold ers
 rw [List.map_append,List.map_take,List.map_drop]
noncomputable def cb (P:Program) (w:World) (ds:List D) (r:Sl):Prop:=∃ (m:List (List Int × D)) (f:List Int->Int) (row c:List Int) (n p:Nat),ds=[bxD kT hdT P w m,dtR row,tpD c]/\c.length<=7/\(∀ k,k < c.length->0<=c.getD k 0/\c.getD k 0 < row.length)/\(∀ k,k < c.length->getM m (ers c k)=some (.int (f (ers c k)))/\Bd p (f (ers c k)))/\(∀ x ∈ row,Bd n x)/\n<=10000/\p<=10000/\r=.d (.int (alR f row c))
section
variable {P:Program} {w:World} {K:PySem.W.Frag} {mg:Str->Option Value} {base:Heap} {k:Nat} {f:Addr} {fd:FuncData} {qual:Str}
theorem gw (F:Fun K "along_last_row" qual (top 38) f fd) (hb:∀ x ∈ aq,mg x=none):aS P w K mg base CX0 (k + 1) f fd ["known","row","columns"] (spD K (cb P w)):=by
 refine fnD F cT hb (by rintro _ _ ⟨_,_,_,_,_,_,rfl,_⟩; rfl) ?_
 rintro _ _ ⟨m,g,row,c,n,p,rfl,h7,hc,hg,hr,hn,hp,rfl⟩ cdv A outer s H E b
 have nd:=cT.nd
 have hu:(Xc P w K mg base ["known","row","columns","total","k","part"] qual (top 38) f cdv A outer s H E).A.units + 16 < cLine:=Nat.lt_of_le_of_lt (Nat.add_le_add_left (by decide:16<=64) _) b.room.units
 have lc:(c.map D.int).length=c.length:=List.length_map ..
 refine aB 3 nd af ?_
 refine bt 4 (λi τ=>i<=c.length/\∃ s4 s5,τ=[.d (bxD kT hdT P w m),.d (dtR row),.d (tpD c),.d (.int (alS g row c i)),s4,s5]) b nd (fR b (bx b (ae (aa 2) ag) lS) (by omega) (by omega)) fX ⟨Nat.zero_le _,.un,.un,rfl⟩ (λi hi τ h=>?_) λτ h=>?_
 · obtain ⟨_,s4,s5,rfl⟩:=h
   have hi:i < c.length:=by rw [aF,lc] at hi; omega
   obtain ⟨c1,c2⟩:=hc i hi
   obtain ⟨g1,g2⟩:=hg i hi
   have ht:(c.getD i 0).toNat < row.length:=by omega
   refine aB 5 nd (aC (aM (aa 1) (aM (aa 2) (aa 4) (aQ (atR hi))) (aW (pf c1 ht))) (oq (a:=kT) (hd:=hdT) (m:=m) (key:=ers c i) hu (aa 0) (by
     rw [Ah]
     exact aC (sW (aa 2) pB (cL (aa 4)) (by rw [HT.fH,lc]; omega)) (sW (aa 2) (cL (aC (aa 4) af bj)) pB (by rw [show ((i:Int) + 1)=((i + 1:Nat):Int) from rfl,HT.fH,lc]; omega)) (pI (by
       have l1:∀ l u,(Hy.cutD (c.map D.int) l u).length<=7:=λl u=>by unfold Hy.cutD; rw [List.length_take,List.length_drop,lc]; omega
       have:=l1 none (some (i:Int))
       have:=l1 (some ((i:Int) + 1)) none
       omega))) g1 (b9 _) sC) (bb ((hr _ (bB ht)).aE g2 (by omega) (by omega)))) ?_
   refine aB 3 nd (xH (s:=.d (.int (alS g row c (i + 1)))) (bu (aC (aC (bx b (ae (aa 2) ag) lS) (aa 4) fW) af (fh (by decide))) af ju) (λh=>?_) λh=>?_) (aP ⟨hi,_,_,rfl⟩)
   · have h:=of_decide_eq_true h
     rw [lc] at h
     rw [alS,if_pos h]
     exact aC (aa 3) (aa 5) fW
   · have h:=of_decide_eq_false h
     rw [lc] at h
     rw [alS,if_neg h]
     exact aC (aa 3) (aa 5) bj
 · obtain ⟨_,s4,s5,rfl⟩:=h
   refine aO (aa 3) ?_
   rw [aF,lc,Int.toNat_natCast]
   rfl
end
noncomputable def orM (f:List Int->Int) (row:List Int) (cs:List (List Int)):List (List Int × D):=mkM (λc=>D.int (alR f row c)) cs
noncomputable def cH (P:Program) (w:World) (ds:List D) (r:Sl):Prop:=∃ (m:List (List Int × D)) (f:List Int->Int) (row:List Int) (cs:List (List Int)) (n p:Nat),ds=[bxD kT hdT P w m,dtR row,lH cs]/\cs.length<=100000/\(∀ c ∈ cs,c.length<=7/\(∀ k,k < c.length->0<=c.getD k 0/\c.getD k 0 < row.length)/\(∀ k,k < c.length->getM m (ers c k)=some (.int (f (ers c k)))/\Bd p (f (ers c k))))/\(∀ x ∈ row,Bd n x)/\n<=10000/\p<=10000/\r=.d (bxD kT hdT P w (orM f row cs))
section
variable {P:Program} {w:World} {K:PySem.W.Frag} {mg:Str->Option Value} {base:Heap} {k:Nat} {f:Addr} {fd:FuncData} {qual:Str}
theorem iQ (F:Fun K "one_row_more" qual (top 37) f fd) (hb:∀ x ∈ aq,mg x=none) (c_along_last_row:Cal P w K mg base k "along_last_row" (cb P w)):aS P w K mg base CX0 (k + 1) f fd ["known","row","column_choices"] (spD K (cH P w)):=by
 refine fnD F eE hb (by rintro _ _ ⟨_,_,_,_,_,_,rfl,_⟩; rfl) ?_
 rintro _ _ ⟨m,g,row,cs,n,p,rfl,h1,hc,hr,hn,hp,rfl⟩ cdv A outer s H E b
 have nd:=eE.nd
 have hu:(Xc P w K mg base ["known","row","column_choices","found","columns"] qual (top 37) f cdv A outer s H E).A.units + 16 < cLine:=Nat.lt_of_le_of_lt (Nat.add_le_add_left (by decide:16<=64) _) b.room.units
 refine aB 3 nd (pJ (a:=kT) (hd:=hdT)) ?_
 refine bt 4 (g:=λi=>tpD (cs.getD i [])) (λi τ=>∃ s4,τ=[.d (bxD kT hdT P w m),.d (dtR row),.d (lH cs),.x (exK kT hdT P w (orM g row (cs.take i))),s4]) b nd (a4 (aa 2)) xm ⟨.un,rfl⟩ (λi hi τ h=>?_) λτ h=>?_
 · obtain ⟨s4,rfl⟩:=h
   have hi:i < cs.length:=by simpa using hi
   obtain ⟨c1,c2,c3⟩:=hc _ (bB (d:=[]) hi)
   have ln:=fL (λc=>D.int (alR g row c)) (cs.take i)
   rw [List.length_take] at ln
   refine mh 3 (a:=kT) (hd:=hdT) (key:=cs.getD i []) (x:=.int (alR g row (cs.getD i []))) hu rfl (aa 4) (x_call b c_along_last_row (ae (aa 0) (ae (aa 1) (ae (aa 4) ag))) ⟨m,g,row,_,n,p,rfl,c1,c2,c3,hr,hn,hp,rfl⟩) (Nat.le_trans ln (by unfold sizeLine; omega)) (b9 _) (aP ⟨.d (tpD (cs.getD i [])),?_⟩)
   rw [take_snoc [] hi]
   unfold orM
   rw [gy]
   rfl
 · obtain ⟨s4,rfl⟩:=h
   refine xr 3 (a:=kT) (hd:=hdT) (aO (aa 3) ?_)
   rw [List.length_map,List.take_of_length_le (Nat.le_refl _)]
   rfl
end
theorem zc:∀ n,n < 8->∀ t,t < 7->((chs n (t + 1)).all λc=>(chs n t).contains (c.take t) && (List.range (t + 1)).all λk=>(chs n t).contains (ers c k))=true:=by decide +kernel
theorem lr:∀ n,n < 8->∀ t,t < 8->(chs n t).length<=35:=by decide +kernel
theorem lC {n t:Nat} {c:List Int} (hn:n<=7) (ht:t < 7) (h:c ∈ chs n (t + 1)):c.take t ∈ chs n t/\∀ k,k < t + 1->ers c k ∈ chs n t:=by
 have:=List.all_eq_true.mp (zc n (by omega) t ht) c h
 rw [Bool.and_eq_true] at this
 obtain ⟨h1,h2⟩:=this
 refine ⟨by simpa using h1,λk hk=>?_⟩
 have:=List.all_eq_true.mp h2 k (List.mem_range.mpr hk)
 simpa using this
noncomputable def dtm (R:List (List Int)):Nat->List Int->List Int->Int
 | 0,_,_=>1
 | t + 1,ls,c=>alR (dtm R t (ls.take t)) (R.getD (fO ls).toNat []) c
structure Rw (m n b:Nat) (R:List (List Int)):Prop where
 len:R.length=m
 row:∀ r ∈ R,r.length=n/\∀ x ∈ r,Bd b x
 m1:1<=m/\m<=7
 n1:1<=n/\n<=7
 b1:b<=1400
theorem ux {f:List Int->Int} {row c:List Int} {N:Nat}:∀ k,(∀ i,i < k->(alP f row c i).natAbs<=N)->(alS f row c k).natAbs<=k * N
 | 0,_=>by simp [alS]
 | k + 1,h=>by
   have ih:=ux k λi hi=>h i (by omega)
   have h1:=h k (by omega)
   rw [alS,Nat.succ_mul]
   split <;> omega
theorem yp {f:List Int->Int} {row c:List Int} {n p:Nat} (h7:c.length<=7) (hr:∀ x ∈ row,Bd n x) (hf:∀ k,k < c.length->Bd p (f (ers c k))):Bd (n + p + 3) (alR f row c):=by
 have h:=ux (f:=f) (row:=row) (c:=c) (N:=2 ^ (n + p)) c.length λi hi=>by
   have h1:Bd n (row.getD (c.getD i 0).toNat 0):=by
     by_cases h:(c.getD i 0).toNat < row.length
     · exact hr _ (bB h)
     · rw [getD_none (by omega)]
       exact Nat.two_pow_pos n
   exact Nat.le_of_lt (h1.mul (hf i hi))
 unfold Bd alR
 have e:2 ^ (n + p + 3)=8 * 2 ^ (n + p):=by rw [Nat.pow_add]; omega
 have p0:=Nat.two_pow_pos (n + p)
 have:c.length * 2 ^ (n + p)<=7 * 2 ^ (n + p):=Nat.mul_le_mul_right _ h7
 omega
theorem va {m n b:Nat} {R:List (List Int)} (h:Rw m n b R):∀ t,t<=7->∀ ls c,c ∈ chs n t->Bd (1 + t * (b + 3)) (dtm R t ls c)
 | 0,_,_,_,_=>by unfold Bd dtm; rw [Nat.zero_mul]; decide
 | t + 1,ht,ls,c,hc=>by
   have l:=(bW n _ c hc).len
   have:=yp (f:=dtm R t (ls.take t)) (row:=R.getD (fO ls).toNat []) (c:=c) (n:=b) (p:=1 + t * (b + 3)) (by omega) (λx hx=>by
     by_cases hl:(fO ls).toNat < R.length
     · exact (h.row _ (bB hl)).2 x hx
     · rw [getD_none (by omega)] at hx
       cases hx) λk hk=>va h t (by omega) _ _ ((lC h.n1.2 (by omega) hc).2 k (by omega))
   rw [dtm]
   refine this.mono ?_
   rw [Nat.succ_mul]
   omega
noncomputable def j9 (P:Program) (w:World) (R:List (List Int)) (n t:Nat) (ls:List Int):D:=bxD kT hdT P w (mkM (λc=>D.int (dtm R t ls c)) (chs n t))
noncomputable def knM (P:Program) (w:World) (R:List (List Int)) (m n t:Nat):List (List Int × D):=mkM (j9 P w R n t) (chs m t)
noncomputable def ky1 (n t:Nat) (ls:List Int):List (List Int × List Int):=(chs n t).map λc=>(ls,c)
noncomputable def kys (m n i:Nat):List (List Int × List Int):=(List.range i).flatMap λt=>(chs m (t + 1)).flatMap (ky1 n (t + 1))
noncomputable def vD (R:List (List Int)) (p:List Int × List Int):Int:=dtm R p.1.length p.1 p.2
noncomputable def fdM (R:List (List Int)) (ks:List (List Int × List Int)):List ((List Int × List Int) × D):=mkM (λp=>D.int (vD R p)) ks
theorem tF {n t:Nat} (hn:n<=7) (ht:t<=7):∀ ls:List (List Int),ls.length<=35->(ls.flatMap (ky1 n t)).length<=1225:=λls hl=>by
 have:=ff (ky1 n t) 35 ls λx _=>by unfold ky1; rw [List.length_map]; exact lr n (by omega) t (by omega)
 omega
theorem kys_len {m n i:Nat} (hm:m<=7) (hn:n<=7) (hi:i<=7):(kys m n i).length<=8575:=by
 have:=ff (λt=>(chs m (t + 1)).flatMap (ky1 n (t + 1))) 1225 (List.range i) λt ht=>tF hn (by have:=List.mem_range.mp ht; omega) _ (lr m (by omega) _ (by have:=List.mem_range.mp ht; omega))
 rw [List.length_range] at this
 unfold kys
 omega
noncomputable def bR (P:Program) (w:World) (ds:List D) (r:Sl):Prop:=∃ (R:List (List Int)) (m n b:Nat),ds=[.lst (R.map dtR)]/\Rw m n b R/\r=.d (.box (bxW kTT j6 P w (fdM R (kys m n (min m n)))))
theorem my {R:List (List Int)} {i:Int} (h0:0<=i) (h:i.toNat < R.length):atI (R.map dtR) i=some (dtR (R.getD i.toNat [])):=by
 obtain ⟨n,rfl⟩:=Int.eq_ofNat_of_zero_le h0
 exact aK (by
   have h:n < R.length:=h
   simp [h])
theorem yh (c:List Int) (t:Nat) (h:c.length=t + 1):D.tup (Hy.cutD (c.map D.int) none (some (-1)))=kT.toD (c.take t):=by
 unfold Hy.cutD
 have e:HT.sIx (c.map D.int).length (c.map D.int).length (some (-1))=t:=by
   unfold HT.sIx
   simp only []
   rw [if_pos (by decide),List.length_map,h]
   omega
 rw [e,HT.je,List.drop_zero,Nat.sub_zero,<- List.map_take]
 rfl
theorem kn0 (P:Program) (w:World) (R:List (List Int)) (m n:Nat):knM P w R m n 0=[([],bxD kT hdT P w [([],.int 1)])]:=rfl
section
variable {P:Program} {w:World} {K:PySem.W.Frag} {mg:Str->Option Value} {base:Heap} {k:Nat} {f:Addr} {fd:FuncData} {qual:Str}
set_option maxHeartbeats 1000000 in
theorem fN (F:Fun K "all_determinants" qual (top 36) f fd) (hb:∀ x ∈ aq,mg x=none) (c_choices_of:Cal P w K mg base k "choices_of" d8) (c_one_row_more:Cal P w K mg base k "one_row_more" (cH P w)):aS P w K mg base CX0 (k + 1) f fd ["rows"] (spD K (bR P w)):=by
 refine fnD F cA hb (by rintro _ _ ⟨_,_,_,_,rfl,_⟩; rfl) ?_
 rintro _ _ ⟨R,m,n,b0,rfl,ok,rfl⟩ cdv A outer s H E b
 have nd:=cA.nd
 have hu:(Xc P w K mg base ["rows","found","known","size","fresh","column_choices","some","columns"] qual (top 36) f cdv A outer s H E).A.units + 16 < cLine:=Nat.lt_of_le_of_lt (Nat.add_le_add_left (by decide:16<=64) _) b.room.units
 obtain ⟨⟨m1,m7⟩,n1,n7⟩:=And.intro ok.m1 ok.n1
 have lR:(R.map dtR).length=m:=by rw [List.length_map,ok.len]
 have r0:(R.getD 0 []).length=n:=(ok.row _ (bB (by rw [ok.len]; omega))).1
 have lr0:((R.getD 0 []).map D.int).length=n:=by rw [List.length_map,r0]
 have a0:atI (R.map dtR) 0=some (dtR (R.getD 0 [])):=my (i:=0) (by decide) (by rw [ok.len]; show 0 < m; omega)
 have hmin:(if ((((R.getD 0 []).map D.int).length:Nat):Int) < ((R.map dtR).length:Nat) then ((((R.getD 0 []).map D.int).length:Nat):Int) else ((R.map dtR).length:Nat))=((min m n:Nat):Int):=by
   rw [lR,lr0]
   split <;> omega
 refine aB 1 nd (pJ (a:=kTT) (hd:=j6)) ?_
 generalize e:Expr.Dict [some (Expr.Tuple [] 0 _)] _ _=ex
 refine aB 2 nd (s:=.d (bxD kT hdT P w [([],bxD kT hdT P w [([],.int 1)])])) ?_ ?_ (hs:=by subst e; rfl)
 · subst e
   generalize e:Expr.Dict [some (Expr.Tuple [] 0 _)] [Expr.Constant _ _ _] _=ex
   refine xO (a:=kT) (hd:=hdT) (oM (a:=kT) (hd:=hdT) (key:=[]) (x:=bxD kT hdT P w [([],.int 1)]) hu ?_ ?_ (b9 []))
   · show PE _ _ (dE _ _ _ (.d (.tup [])))
     exact cw ag
   · subst e
     refine xO (a:=kT) (hd:=hdT) (m:=[([],.int 1)]) (oM (a:=kT) (hd:=hdT) (key:=[]) (x:=.int 1) hu ?_ af (b9 []))
     show PE _ _ (dE _ _ _ (.d (.tup [])))
     exact cw ag
 refine bt 3 (g:=λi=>.int (1 + (i:Nat))) (λi τ=>i<=min m n/\∃ s3 s4 s5 s6 s7,τ=[.d (.lst (R.map dtR)),.x (exK kTT j6 P w (fdM R (kys m n i))),.d (bxD kT hdT P w (knM P w R m n i)),s3,s4,s5,s6,s7]) b nd (lq b af (aC (bx b (ae (bx b (ae (aa 0) ag) iL) (ae (bx b (ae (aM (aa 0) af (aW a0)) ag) iL) ag)) (vh b.calm)) af bj) (by rw [hmin]; omega)) (λk hk=>gA _ _ k hk) ⟨Nat.zero_le _,.un,.un,.un,.un,.un,by rw [kn0]; rfl⟩ (λi hi τ h=>?_) λτ h=>?_
 · obtain ⟨_,s3,s4,s5,s6,s7,rfl⟩:=h
   have hi:i < min m n:=by rw [aF,hmin] at hi; omega
   have e1:(1 + (i:Nat):Int)=((i + 1:Nat):Int):=by omega
   rw [e1]
   refine aB 4 nd (pJ (a:=kT) (hd:=hdT)) ?_
   refine aB 5 nd (x_call b c_choices_of (ae (bx b (ae (aM (aa 0) af (aW a0)) ag) iL) (ae (aa 3) ag)) ⟨n,i + 1,by rw [lr0],n7,by omega,rfl⟩) ?_
   refine bt 6 (g:=λl=>tpD ((chs m (i + 1)).getD l [])) (λl τ=>∃ s6 s7,τ=[.d (.lst (R.map dtR)),.x (exK kTT j6 P w (fdM R (kys m n i++((chs m (i + 1)).take l).flatMap (ky1 n (i + 1))))),.d (bxD kT hdT P w (knM P w R m n i)),.d (.int ((i + 1:Nat):Int)),.x (exK kT hdT P w (mkM (j9 P w R n (i + 1)) ((chs m (i + 1)).take l))),.d (lH (chs n (i + 1))),s6,s7]) b nd (a4 (x_call b c_choices_of (ae (bx b (ae (aa 0) ag) iL) (ae (aa 3) ag)) ⟨m,i + 1,by rw [lR],m7,by omega,rfl⟩)) xm ⟨s6,s7,by simp [mkM]; rfl⟩ (λl hl τ h=>?_) λτ h=>?_
   · obtain ⟨s6,s7,rfl⟩:=h
     have hl:l < (chs m (i + 1)).length:=by simpa using hl
     have hs:=bB (d:=[]) hl
     generalize hls:(chs m (i + 1)).getD l []=ls at hs
     have okl:=bW m _ ls hs
     have l35:=lr m (by omega) (i + 1) (by omega)
     have n35:=lr n (by omega) (i + 1) (by omega)
     have lf:=fL (j9 P w R n (i + 1)) ((chs m (i + 1)).take l)
     rw [List.length_take] at lf
     have ne:ls ≠ []:=λz=>by have:=okl.len; rw [z] at this; cases this
     have last:0<=fO ls/\fO ls < m:=by
       have:=okl.at_ i (by omega)
       unfold fO
       rw [okl.len]
       exact this
     have hlr:(fO ls).toNat < R.length:=by rw [ok.len]; omega
     have hrow:=ok.row _ (bB (d:=[]) hlr)
     have pre:=(lC m7 (by omega) hs).1
     have key:kT.toD (ls.take i)=D.tup (Hy.cutD (ls.map D.int) none (some (-1))):=(yh ls i okl.len).symm
     refine mh 4 (a:=kT) (hd:=hdT) (key:=ls) (x:=j9 P w R n (i + 1) ls) hu rfl (aa 6) (x_call b c_one_row_more (ae (oq (a:=kT) (hd:=hdT) (m:=knM P w R m n i) (key:=ls.take i) (x:=j9 P w R n i (ls.take i)) hu (aa 2) (by
       rw [key]
       refine sW (aa 6) pB (cL (jS af)) ?_
       rintro ⟨_,z⟩
       have e:HT.sIx (ls.map D.int).length (ls.map D.int).length (some (-1))=i:=by
         unfold HT.sIx
         simp only []
         rw [if_pos (by decide),List.length_map,okl.len]
         omega
       rw [e,List.length_map,okl.len] at z
       omega) (cQ pre) (b9 _) λ_ _=>rfl) (ae (aM (aa 0) (aM (aa 6) (jS af) (aQ (qh ne))) (aW (my last.1 hlr))) (ae (aa 5) ag))) ⟨_,dtm R i (ls.take i),_,_,b0,1 + i * (b0 + 3),rfl,by omega,λc hc=>?_,hrow.2,by have:=ok.b1; omega,?_,rfl⟩) (Nat.le_trans lf (by unfold sizeLine; omega)) (b9 _) ?_
     · have okc:=bW n _ c hc
       refine ⟨by rw [okc.len]; omega,λk hk=>?_,λk hk=>?_⟩
       · rw [hrow.1]
         exact okc.at_ k (by rw [okc.len] at hk; exact hk)
       · have hk:k < i + 1:=by rw [okc.len] at hk; exact hk
         have:=(lC n7 (by omega) hc).2 k hk
         exact ⟨cQ this,va ok i (by omega) _ _ this⟩
     · have:=ok.b1
       have:i * (b0 + 3)<=6 * (b0 + 3):=Nat.mul_le_mul_right _ (by omega)
       omega
     have kl:=kys_len (i:=i) m7 n7 (by omega)
     have kk:=tF (t:=i + 1) n7 (by omega) ((chs m (i + 1)).take l) (by rw [List.length_take]; omega)
     refine bt 7 (g:=λj=>tpD ((chs n (i + 1)).getD j [])) (λj τ=>∃ s7,τ=[.d (.lst (R.map dtR)),.x (exK kTT j6 P w (fdM R (kys m n i++((chs m (i + 1)).take l).flatMap (ky1 n (i + 1))++((chs n (i + 1)).take j).map λc=>(ls,c)))),.d (bxD kT hdT P w (knM P w R m n i)),.d (.int ((i + 1:Nat):Int)),.x (exK kT hdT P w (eO (mkM (j9 P w R n (i + 1)) ((chs m (i + 1)).take l)) ls (j9 P w R n (i + 1) ls))),.d (lH (chs n (i + 1))),.d (tpD ls),s7]) b nd (a4 (aa 5)) xm ⟨s7,by simp; rfl⟩ (λj hj τ h=>?_) λτ h=>?_
     · obtain ⟨s7,rfl⟩:=h
       have hj:j < (chs n (i + 1)).length:=by simpa using hj
       have hc:=bB (d:=[]) hj
       generalize hcs:(chs n (i + 1)).getD j []=c at hc
       have gF:getM (eO (mkM (j9 P w R n (i + 1)) ((chs m (i + 1)).take l)) ls (j9 P w R n (i + 1) ls)) ls=some (j9 P w R n (i + 1) ls):=by rw [mP,if_pos rfl]
       refine mh 1 (a:=kTT) (hd:=j6) (key:=(ls,c)) (x:=.int (vD R (ls,c))) hu rfl (cw (ae (aa 6) (ae (aa 7) ag))) (oq (a:=kT) (hd:=hdT) (key:=c) hu (oX 4 (a:=kT) (hd:=hdT) (key:=ls) hu rfl (aa 6) gF (b9 _) dN) (aa 7) ?_ (b9 _) dN) ?_ (pZ _) (aP ⟨.d (tpD c),?_⟩)
       · rw [cQ hc]
         show _=some (D.int (dtm R ls.length ls c))
         rw [okl.len]
       · refine Nat.le_trans (fL _ _) ?_
         rw [List.length_append,List.length_append,List.length_map,List.length_take]
         unfold sizeLine
         omega
       · rw [take_snoc [] hj,hcs,List.map_append,<- List.append_assoc]
         unfold fdM
         rw [List.map_singleton,gy]
         rfl
     · obtain ⟨s7,rfl⟩:=h
       refine aP ⟨.d (tpD ls),s7,?_⟩
       rw [take_snoc [] hl,hls,gy,List.flatMap_append,List.length_map,List.take_of_length_le (Nat.le_refl _),List.append_assoc]
       simp [ky1]
   · obtain ⟨s6,s7,rfl⟩:=h
     refine xr 4 (a:=kT) (hd:=hdT) (aB 2 nd (aa 4) (aP ⟨hi,.d (.int ((i + 1:Nat):Int)),.d (bxD kT hdT P w (knM P w R m n (i + 1))),.d (lH (chs n (i + 1))),s6,s7,?_⟩))
     rw [List.length_map,List.take_of_length_le (Nat.le_refl _)]
     have e:kys m n (i + 1)=kys m n i++(chs m (i + 1)).flatMap (ky1 n (i + 1)):=by unfold kys; rw [List.range_succ,List.flatMap_append]; simp
     rw [e]
     rfl
 · obtain ⟨_,s3,s4,s5,s6,s7,rfl⟩:=h
   refine xM 1 (a:=kTT) (hd:=j6) (aO (aa 1) ?_)
   rw [aF,hmin]
   show Sl.d (.box (bxW kTT j6 P w (fdM R (kys m n ((((min m n:Nat):Int) + 1) - 1).toNat))))=_
   rw [Int.add_sub_cancel,Int.toNat_natCast]
end
noncomputable def fuO (R:List (List Int)) (m n:Nat) (t:Int):Option (List Int × List Int):=(((fdM R (kys m n (min m n))).map (·.1)).find? λp=>decide (vD R p < t))
noncomputable def fuD:Option (List Int × List Int)->D
 | none=>.non
 | some p=>.tup [.lst (p.1.map .int),.lst (p.2.map .int)]
theorem qw {R:List (List Int)} {m n:Nat} {t:Int}:fuO R m n t=none ↔ ∀ p ∈ kys m n (min m n),t<=vD R p:=by
 unfold fuO
 rw [List.find?_eq_none]
 constructor
 · intro h p hp
   have:=h p (List.mem_map.mpr ⟨_,ni (cQ (v:=λp=>D.int (vD R p)) hp),rfl⟩)
   have:=of_decide_eq_false (by simpa using this:decide (vD R p < t)=false)
   omega
 · intro h p hp
   obtain ⟨q,hq,rfl⟩:=List.mem_map.mp hp
   have:=h _ (fG hq).1
   simp
   omega
theorem ye {X:Cx} {o:Option (List Int × List Int)}:b8 X (compareOp .Is) (fuD o) .non (.bl o.isNone):=⟨_,uB,λ_ v w H Q _ d1 d2 k=>by
 cases d2
 cases o with
 | none=>cases d1; exact ⟨rfl,by rw [decide_eq_true rfl]; exact k _ H (ah.refl _) .bl⟩
 | some i=>cases d1; exact ⟨rfl,by rw [decide_eq_false (by intro z; cases z)]; exact k _ H (ah.refl _) .bl⟩⟩
noncomputable def df (ds:List D) (r:Sl):Prop:=∃ (m n d v:Nat) (M:List (List Rat)) (t:Int),ds=[tbQ M,.int t]/\Tq m n M/\(∀ r ∈ M,∀ x ∈ r,Qs d v x)/\v + (1 + n * d)<=8999/\(∃ b,Rw m n b (whM M (M.map scL)))/\r=.d (fuD (fuO (whM M (M.map scL)) m n t))
noncomputable def ft (ds:List D) (r:Sl):Prop:=∃ (m n d v:Nat) (M:List (List Rat)),ds=[tbQ M]/\Tq m n M/\(∀ r ∈ M,∀ x ∈ r,Qs d v x)/\v + (1 + n * d)<=8999/\(∃ b,Rw m n b (whM M (M.map scL)))/\r=.d (.bl (fuO (whM M (M.map scL)) m n 1).isNone)
section
variable {P:Program} {w:World} {K:PySem.W.Frag} {mg:Str->Option Value} {base:Heap} {k:Nat} {f:Addr} {fd:FuncData} {qual:Str}
set_option maxHeartbeats 1000000 in
theorem jM (F:Fun K "first_under" qual (top 35) f fd) (hb:∀ x ∈ aq,mg x=none) (c_all_determinants:Cal P w K mg base k "all_determinants" (bR P w)) (c_whole_rows:Cal P w K mg base k "whole_rows" cC) (c_scale_of:Cal P w K mg base k "scale_of" dX):aS P w K mg base CX0 (k + 1) f fd ["table","bound"] (spD K df):=by
 refine fnD F eZ hb (by rintro _ _ ⟨_,_,_,_,_,_,rfl,_⟩; rfl) ?_
 rintro _ _ ⟨m,n,d,v,M,t,rfl,tq,hq,hz,⟨b0,ok⟩,rfl⟩ cdv A outer s H E b
 have nd:=eZ.nd
 have hu:(Xc P w K mg base ["table","bound","found","choices"] qual (top 35) f cdv A outer s H E).A.units + 16 < cLine:=Nat.lt_of_le_of_lt (Nat.add_le_add_left (by decide:16<=64) _) b.room.units
 have r7:=tq.r7
 have c7:=tq.c7
 have nd1:d<=n * d:=Nat.le_mul_of_pos_left d tq.c1
 generalize hRR:whM M (M.map scL)=R at ok
 have es:(D.lst ((M.map scL).map .int))=.lst ((List.range (M.map rwQ).length).map λi=>D.int (scL (M.getD i []))):=by
   exact congrArg D.lst (((fF (λr:List Rat=>D.int (scL r)) M [] (List.length_map ..)).trans (by rw [List.map_map]; rfl)).symm)
 refine aB 2 nd (x_call b c_all_determinants (ae (bP (x_call b c_whole_rows (ae (aa 0) (ae (bP (gi (cmp 0 (g:=λi=>rwQ (M.getD i [])) (f:=λi=>.int (scL (M.getD i []))) b (a4 (aa 0)) (b6 (f:=rwQ) (xs:=M) []) (by rw [List.length_map,tq.len]; omega) λi hi s0 H0 fp=>(x_call (b.comp s0 H0 _ fp) c_scale_of (ae (aa 0) ag) ⟨_,d,rfl,?_,?_,?_,?_,rfl⟩)))) ag)) ⟨M,M.map scL,v + d,by rw [es],by rw [List.length_map],by rw [tq.len]; omega,λr hr=>⟨by rw [tq.row r hr]; omega,λx hx=>(hq r hr x hx).sq⟩,by omega,?_,rfl⟩)) ag) ⟨R,m,n,_,by rw [hRR],ok,rfl⟩) ?_
 · rw [tq.row _ (bh (by simpa using hi))]; omega
 · exact λx hx=>(hq _ (bh (by simpa using hi)) x hx).den
 · rw [tq.row _ (bh (by simpa using hi))]; omega
 · omega
 · intro s hs
   obtain ⟨r,hr,rfl⟩:=List.mem_map.mp hs
   have:=d9 (d:=d) (r:=r) λx hx=>(hq _ hr x hx).den
   rw [tq.row r hr] at this
   exact this.mono (by omega)
 have hall:∀ p ∈ (fdM R (kys m n (min m n))).map (·.1),getM (fdM R (kys m n (min m n))) p=some (.int (vD R p)):=λp hp=>by
   obtain ⟨q,hq,rfl⟩:=List.mem_map.mp hp
   exact cQ (fG hq).1
 unfold fuO
 generalize hks:(fdM R (kys m n (min m n))).map (·.1)=ks at hall
 have em:(fdM R (kys m n (min m n))).map (λp=>kTT.toD p.1)=ks.map kTT.toD:=by rw [<- hks,List.map_map]; rfl
 refine bt 3 (g:=λi=>kTT.toD (ks.getD i ([],[]))) (λi τ=>(ks.take i).find? (λp=>decide (vD R p < t))=none/\∃ s3,τ=[.d (tbQ M),.d (.int t),.d (.box (bxW kTT j6 P w (fdM R (kys m n (min m n))))),s3]) b nd (em ▸ pS (aa 2)) (b6 (f:=kTT.toD) (xs:=ks) ([],[])) ⟨rfl,.un,rfl⟩ (λi hi τ h=>?_) λτ h=>?_
 · obtain ⟨h0,s3,rfl⟩:=h
   have hi:i < ks.length:=by simpa using hi
   have mi:ks.getD i ([],[]) ∈ ks:=bh hi
   have g:=hall _ mi
   have es:ks.take (i + 1)=ks.take i++[ks.getD i ([],[])]:=take_snoc _ hi
   generalize hp:ks.getD i ([],[])=p at g es
   refine fx (bu (tU (a:=kTT) (hd:=j6) (key:=p) hu (aa 2) (aa 3) g (pZ _) dN) (aa 1) uO) (λh=>?_) λh=>?_
   · have e:ks.find? (λp=>decide (vD R p < t))=some p:=by
       have e1:ks=ks.take i++p :: ks.drop (i + 1):=by
         have:=List.take_append_drop (i + 1) ks
         rw [es,List.append_assoc] at this
         exact this.symm
       rw [e1,List.find?_append,h0,List.find?_cons,h]
       rfl
     rw [e]
     exact aO (cw (ae (bP (rD b (ae (aM (aa 3) af (aQ rfl)) ag) q9)) (ae (bP (rD b (ae (aM (aa 3) af (aQ rfl)) ag) q9)) ag))) rfl
   · refine aP ⟨?_,_,rfl⟩
     rw [es,List.find?_append,h0,List.find?_cons,h]
     rfl
 · obtain ⟨h0,s3,rfl⟩:=h
   rw [List.length_map,List.take_of_length_le (Nat.le_refl _)] at h0
   rw [h0]
   exact aO nY rfl
theorem lV (F:Fun K "is_strict" qual (top 34) f fd) (hb:∀ x ∈ aq,mg x=none) (c_look_table:Cal P w K mg base k "look_table" bY) (c_first_under:Cal P w K mg base k "first_under" df):aS P w K mg base CX0 (k + 1) f fd ["table"] (spD K ft):=by
 refine fnD F lA hb (by rintro _ _ ⟨_,_,_,_,_,rfl,_⟩; rfl) ?_
 rintro _ _ ⟨m,n,d,v,M,rfl,t,hq,hz,hw,rfl⟩ cdv A outer s H E b
 refine lW (x_call b c_look_table (ae (aa 0) ag) ⟨m,n,M,rfl,t,rfl⟩) ?_
 exact aO (g9 (x_call b c_first_under (ae (aa 0) (ae af ag)) ⟨m,n,d,v,M,1,rfl,t,hq,hz,hw,rfl⟩) nY ye) rfl
end
noncomputable def bC (n:Nat) (rs:List (List Int)):List (Int × Int):=rs.foldl (λkv r=>ba n r kv kv.length) [(0,1)]
theorem dM (n:Nat) (rs:List (List Int)) (r:List Int):bC n (rs++[r])=ba n r (bC n rs) (bC n rs).length:=by unfold bC; rw [List.foldl_append]; rfl
theorem mZ (n:Nat) (rs:List (List Int)):∀ i,i<=rs.length->RI n i (dtM rs) (bC n (rs.take i))
 | 0,_=>RI.zero n _
 | i + 1,h=>by
   have e:rs.take (i + 1)=rs.take i++[rs.getD i []]:=take_snoc _ (by omega)
   rw [e,dM]
   exact (mZ n rs i (by omega)).step λj _=>rfl
theorem hR (n:Nat) (rs:List (List Int)):RI n rs.length (dtM rs) (bC n rs):=by
 have:=mZ n rs rs.length (Nat.le_refl _)
 rwa [List.take_of_length_le (Nat.le_refl _)] at this
theorem hU (n:Nat) (rs:List (List Int)):∀ i,i<=rs.length->(bC n (rs.take i)).length<=n ^ i
 | 0,_=>Nat.le_refl 1
 | i + 1,h=>by
   have e:rs.take (i + 1)=rs.take i++[rs.getD i []]:=take_snoc _ (by omega)
   rw [e,dM,Nat.pow_succ]
   exact Nat.le_trans (iB _ _ _ _) (Nat.mul_le_mul_right _ (hU n rs i (by omega)))
theorem tP {kv:List (Int × Int)} {k v:Int} {q:Int × Int} (h:q ∈ eN kv k v):q.2=v\/q ∈ kv:=by
 unfold eN at h
 split at h
 · obtain ⟨p,hp,e⟩:=List.mem_map.mp h
   by_cases z:p.1=k
   · rw [if_pos z] at e; exact .inl (by rw [<- e])
   · rw [if_neg z] at e; exact .inr (e ▸ hp)
 · rcases List.mem_append.mp h with h | h
   · exact .inr h
   · exact .inl (by rw [List.mem_singleton.mp h])
theorem wu {kv:List (Int × Int)} {k:Int} {N:Nat} (h:∀ q ∈ kv,q.2.natAbs<=N):((bA kv k).getD 0).natAbs<=N:=by
 cases e:bA kv k with
 | none=>simp
 | some v=>
   unfold bA at e
   obtain ⟨p,h1,h2⟩:=Option.map_eq_some_iff.mp e
   rw [<- h2]
   exact h p (List.mem_of_find?_eq_some h1)
theorem qy {n:Nat} {row:List Int} {k v:Int} {kv:List (Int × Int)} {N W:Nat} (hW:∀ j,(row.getD j 0 * v).natAbs<=W) (h:∀ q ∈ kv,q.2.natAbs<=N):∀ c,∀ q ∈ (bU n row k v kv c).2,q.2.natAbs<=N + c * W
 | 0,q,hq=>by have:=h q hq; omega
 | c + 1,q,hq=>by
   have ih:=qy (n:=n) (k:=k) hW h c
   rw [bU,j4] at hq
   rw [Nat.succ_mul]
   split at hq
   · have:=ih q hq; omega
   · rcases tP hq with e | hq
     · have h1:=wu (k:=jm k (n - 1 - c)) ih
       have h2:(sgZ (bU n row k v kv c).1 * row.getD (n - 1 - c) 0 * v).natAbs<=W:=by
         rw [Int.mul_assoc,Int.natAbs_mul]
         have:=hW (n - 1 - c)
         rcases mL (bU n row k v kv c).1 with z | z <;> rw [z] <;> simpa using this
       rw [e]
       omega
     · have:=ih q hq; omega
theorem mR {n:Nat} {row:List Int} {kv:List (Int × Int)} {W:Nat} (hW:∀ j q,q ∈ kv->(row.getD j 0 * q.2).natAbs<=W):∀ t,∀ q ∈ ba n row kv t,q.2.natAbs<=t * n * W
 | 0,q,hq=>nomatch hq
 | t + 1,q,hq=>by
   rw [ba] at hq
   have ih:=mR (n:=n) hW t
   have:=qy (N:=t * n * W) (W:=W) (λj=>by
     cases e:bA kv (kv.getD t (0,0)).1 with
     | none=>simp
     | some v=>
       unfold bA at e
       obtain ⟨p,h1,h2⟩:=Option.map_eq_some_iff.mp e
       rw [Option.getD_some,<- h2]
       exact hW j p (List.mem_of_find?_eq_some h1)) ih n q hq
   rw [Nat.succ_mul,Nat.add_mul]
   exact this
theorem nE {n b:Nat} {rs:List (List Int)} (hn:n<=7) (hl:rs.length<=7) (hr:∀ r ∈ rs,∀ x ∈ r,Bd b x):∀ i,i<=rs.length->∀ q ∈ bC n (rs.take i),Bd (1 + i * (b + 24)) q.2
 | 0,_,q,hq=>by
   cases List.mem_singleton.mp hq
   unfold Bd
   rw [Nat.zero_mul]
   decide
 | i + 1,h,q,hq=>by
   have e:rs.take (i + 1)=rs.take i++[rs.getD i []]:=take_snoc _ (by omega)
   rw [e,dM] at hq
   have ih:=nE hn hl hr i (by omega)
   have hl1:=hU n rs i (by omega)
   have hl2:n ^ i<=7 ^ 7:=Nat.le_trans (Nat.pow_le_pow_left hn i) (Nat.pow_le_pow_right (by decide) (by omega))
   have:=mR (n:=n) (row:=rs.getD i []) (W:=2 ^ (b + (1 + i * (b + 24)))) (λj q hq=>by
     have h1:Bd b ((rs.getD i []).getD j 0):=by
       by_cases hj:j < (rs.getD i []).length
       · exact hr _ (bB (by omega)) _ (bB hj)
       · rw [getD_none (by omega)]; exact Nat.two_pow_pos b
     exact Nat.le_of_lt (h1.mul (ih q hq))) _ q hq
   unfold Bd
   have e2:1 + (i + 1) * (b + 24)=(b + (1 + i * (b + 24))) + 24:=by rw [Nat.succ_mul]; omega
   rw [e2,Nat.pow_add]
   have p0:=Nat.two_pow_pos (b + (1 + i * (b + 24)))
   have h7:(7:Nat) ^ 7=823543:=by decide
   have:(bC n (rs.take i)).length * n<=823543 * 7:=Nat.mul_le_mul (by omega) hn
   have l2:(bC n (rs.take i)).length * n * 2 ^ (b + (1 + i * (b + 24)))<=823543 * 7 * 2 ^ (b + (1 + i * (b + 24))):=Nat.mul_le_mul_right _ this
   have l3:823543 * 7 * 2 ^ (b + (1 + i * (b + 24))) < 2 ^ (b + (1 + i * (b + 24))) * 2 ^ 24:=by
     rw [Nat.mul_comm]
     exact Nat.mul_lt_mul_of_pos_left (by decide) p0
   omega
noncomputable def lnR (R:List (List Int)) (ls:List Int):List (List Int):=ls.map λi=>R.getD i.toNat []
noncomputable def vMn (R:List (List Int)) (n:Nat) (ls:List Int):D:=.box (bxZ (bC n (lnR R ls)))
noncomputable def nxK (n i:Nat) (ks:List (List Int)):List (List Int):=(ks.filter λls=>decide (ls.length < n)).map λls=>ls++[(i:Int)]
noncomputable def lks (R:List (List Int)) (n:Nat):Nat->List (List Int)
 | 0=>[[]]
 | i + 1=>lks R n i++nxK n i ((mkM (vMn R n) (lks R n i)).map (·.1))
theorem qD (n i:Nat) (ks:List (List Int)):(nxK n i ks).length<=ks.length:=by
 unfold nxK
 rw [List.length_map]
 exact List.length_filter_le ..
theorem pX (R:List (List Int)) (n:Nat):∀ i,(lks R n i).length<=2 ^ i
 | 0=>Nat.le_refl 1
 | i + 1=>by
   have h1:=pX R n i
   have h2:=qD n i ((mkM (vMn R n) (lks R n i)).map (·.1))
   have h3:=fL (vMn R n) (lks R n i)
   rw [List.length_map] at h2
   rw [lks,List.length_append,Nat.pow_succ]
   omega
structure Ls (n i:Nat) (ls:List Int):Prop where
 len:ls.length<=n
 at_:∀ x ∈ ls,0<=x/\x < i
theorem y9 {n i:Nat} {ks:List (List Int)} (h:∀ ls ∈ ks,Ls n i ls):∀ ls ∈ nxK n i ks,Ls n (i + 1) ls:=λls hs=>by
 unfold nxK at hs
 obtain ⟨l,hl,rfl⟩:=List.mem_map.mp hs
 rw [List.mem_filter] at hl
 have h1:=h l hl.1
 have h2:=of_decide_eq_true hl.2
 refine ⟨by rw [List.length_append,List.length_singleton]; omega,λx hx=>?_⟩
 rcases List.mem_append.mp hx with hx | hx
 · have:=h1.at_ x hx; omega
 · rw [List.mem_singleton.mp hx]; omega
theorem lks_ok (R:List (List Int)) (n:Nat):∀ i,∀ ls ∈ lks R n i,Ls n i ls
 | 0,ls,h=>by
   rw [List.mem_singleton.mp h]
   exact ⟨Nat.zero_le _,λ_ z=>nomatch z⟩
 | i + 1,ls,h=>by
   have ih:=lks_ok R n i
   rcases List.mem_append.mp h with h | h
   · have:=ih ls h
     exact ⟨this.len,λx hx=>by have:=this.at_ x hx; omega⟩
   · refine y9 (λl hl=>?_) ls h
     obtain ⟨q,hq,rfl⟩:=List.mem_map.mp hl
     exact ih _ (fG hq).1
noncomputable def gd (P:Program) (w:World) (ds:List D) (r:Sl):Prop:=∃ (R:List (List Int)) (m n b:Nat),ds=[.lst (R.map dtR)]/\Rw m n b R/\r=.d (.box (bxW kT hdT P w (mkM (vMn R n) (lks R n m))))
theorem mn0 (R:List (List Int)) (n:Nat):mkM (vMn R n) (lks R n 0)=[([],D.box (bxZ [(0,1)]))]:=rfl
theorem tJ (R:List (List Int)) (n i:Nat) (ls:List Int):vMn R n (ls++[(i:Int)])=.box (bxZ (ba n (R.getD i []) (bC n (lnR R ls)) (bC n (lnR R ls)).length)):=by
 unfold vMn
 have e:lnR R (ls++[(i:Int)])=lnR R ls++[R.getD i []]:=by unfold lnR; rw [List.map_append]; rfl
 rw [e,dM]
theorem tL (n i:Nat) (ks:List (List Int)) (ls:List Int):nxK n i (ks++[ls])=nxK n i ks++if ls.length < n then [ls++[(i:Int)]] else []:=by
 unfold nxK
 rw [List.filter_append,List.map_append]
 congr 1
 by_cases h:ls.length < n
 · rw [if_pos h,List.filter_cons,if_pos (by simpa using h)]; rfl
 · rw [if_neg h,List.filter_cons,if_neg (by simpa using h)]; rfl
section
variable {P:Program} {w:World} {K:PySem.W.Frag} {mg:Str->Option Value} {base:Heap} {k:Nat} {f:Addr} {fd:FuncData} {qual:Str}
set_option maxHeartbeats 1000000 in
theorem mY (F:Fun K "_law_minors" qual (top 52) f fd) (hb:∀ x ∈ aq,mg x=none):aS P w K mg base CX0 (k + 1) f fd ["_law_rows_here"] (spD K (gd P w)):=by
 refine fnD F iJ hb (by rintro _ _ ⟨_,_,_,_,rfl,_⟩; rfl) ?_
 rintro _ _ ⟨R,m,n,b0,rfl,ok,rfl⟩ cdv A outer s H E b
 have nd:=iJ.nd
 have hu:(Xc P w K mg base ["_law_rows_here","_law_wide","_law_made_here","_law_i","_law_lines","_law_longer","_law_mask","_law_behind_it","_law_j","_law_key","_law_part"] qual (top 52) f cdv A outer s H E).A.units + 16 < cLine:=Nat.lt_of_le_of_lt (Nat.add_le_add_left (by decide:16<=64) _) b.room.units
 have hu1:(Xc P w K mg base ["_law_rows_here","_law_wide","_law_made_here","_law_i","_law_lines","_law_longer","_law_mask","_law_behind_it","_law_j","_law_key","_law_part"] qual (top 52) f cdv A outer s H E).A.units + 1 < cLine:=Nat.lt_of_le_of_lt (Nat.add_le_add_left (by decide:1<=64) _) b.room.units
 obtain ⟨⟨m1,m7⟩,n1,n7⟩:=And.intro ok.m1 ok.n1
 have lR:(R.map dtR).length=m:=by rw [List.length_map,ok.len]
 have r0:(R.getD 0 []).length=n:=(ok.row _ (bB (by rw [ok.len]; omega))).1
 have lr0:((R.getD 0 []).map D.int).length=n:=by rw [List.length_map,r0]
 have a0:atI (R.map dtR) 0=some (dtR (R.getD 0 [])):=my (i:=0) (by decide) (by rw [ok.len]; show 0 < m; omega)
 refine aB 1 nd (bx b (ae (aM (aa 0) af (aW a0)) ag) (Ak lr0)) ?_
 generalize e:Expr.Dict [some (Expr.Tuple [] 0 _)] _ _=ex
 refine aB 2 nd (s:=.x (exK kT hdT P w [([],D.box (bxZ [(0,1)]))])) ?_ ?_ (hs:=by subst e; rfl)
 · subst e
   generalize e:Expr.Dict [some (Expr.Constant _ _ _)] _ _=ex
   refine oM (a:=kT) (hd:=hdT) (key:=[]) (x:=D.box (bxZ [(0,1)])) hu ?_ ?_ (b9 [])
   · show PE _ _ (dE _ _ _ (.d (.tup [])))
     exact cw ag
   · subst e
     exact Bs zG
 refine bt 3 (λi τ=>i<=m/\∃ s3 s4 s5 s6 s7 s8 s9 s10,τ=[.d (.lst (R.map dtR)),.d (.int n),.x (exK kT hdT P w (mkM (vMn R n) (lks R n i))),s3,s4,s5,s6,s7,s8,s9,s10]) b nd (fR b (bx b (ae (aa 0) ag) (Ak lR)) (by omega) (by omega)) fX ⟨Nat.zero_le _,.un,.un,.un,.un,.un,.un,.un,.un,by rw [mn0]; rfl⟩ (λi hi τ h=>?_) λτ h=>?_
 · obtain ⟨_,s3,s4,s5,s6,s7,s8,s9,s10,rfl⟩:=h
   have hi:i < m:=by rw [aF] at hi; omega
   have hiR:i < R.length:=by rw [ok.len]; exact hi
   have hrow:=ok.row _ (bB (d:=[]) hiR)
   have aRi:atI (R.map dtR) (i:Int)=some (dtR (R.getD i [])):=my (i:=(i:Int)) (by omega) (by omega)
   have kl:=fL (vMn R n) (lks R n i)
   have ll:=pX R n i
   have p2:2 ^ i<=2 ^ 7:=Nat.pow_le_pow_right (by decide) (by omega)
   have hks:∀ ls ∈ (mkM (vMn R n) (lks R n i)).map (·.1),ls ∈ lks R n i:=λls h=>by
     obtain ⟨q,hq,rfl⟩:=List.mem_map.mp h
     exact (fG hq).1
   have lkl:((mkM (vMn R n) (lks R n i)).map (·.1)).length<=128:=by rw [List.length_map]; omega
   have eL:lks R n (i + 1)=lks R n i++nxK n i ((mkM (vMn R n) (lks R n i)).map (·.1)):=rfl
   have em:(mkM (vMn R n) (lks R n i)).map (λp=>kT.toD p.1)=((mkM (vMn R n) (lks R n i)).map (·.1)).map kT.toD:=by rw [List.map_map]; rfl
   refine bt 4 (g:=λl=>kT.toD (((mkM (vMn R n) (lks R n i)).map (·.1)).getD l [])) (λl τ=>∃ s4 s5 s6 s7 s8 s9 s10,τ=[.d (.lst (R.map dtR)),.d (.int n),.x (exK kT hdT P w (mkM (vMn R n) (lks R n i++nxK n i (((mkM (vMn R n) (lks R n i)).map (·.1)).take l)))),.d (.int (i:Nat)),s4,s5,s6,s7,s8,s9,s10]) b nd (em ▸ a4 (bP (w4 2 (a:=kT) (hd:=hdT) b rfl (Nat.le_trans kl (Nat.le_trans ll (Nat.le_trans p2 (by decide))))))) (b6 (f:=kT.toD) []) ⟨s4,s5,s6,s7,s8,s9,s10,by rw [List.take_zero]; show _=[_,_,Sl.x (exK kT hdT P w (mkM (vMn R n) (lks R n i++[]))),_,_,_,_,_,_,_,_]; rw [List.append_nil]; rfl⟩ (λl hl τ h=>?_) λτ h=>?_
   · obtain ⟨s4,s5,s6,s7,s8,s9,s10,rfl⟩:=h
     generalize (mkM (vMn R n) (lks R n i)).map (·.1)=ks at hl hks lkl
     have hl:l < ks.length:=by simpa using hl
     have hs:=hks _ (bB (d:=[]) hl)
     have es:ks.take (l + 1)=ks.take l++[ks.getD l []]:=take_snoc _ hl
     rw [es,tL]
     generalize ks.getD l []=ls at hs
     have okl:=lks_ok R n i ls hs
     have nl:=qD n i (ks.take l)
     rw [List.length_take] at nl
     generalize nxK n i (ks.take l)=nx at nl
     have gK:getM (mkM (vMn R n) (lks R n i++nx)) ls=some (.box (bxZ (bC n (lnR R ls)))):=cQ (v:=vMn R n) (List.mem_append_left _ hs)
     have ml:=fL (vMn R n) (lks R n i++nx)
     rw [List.length_append] at ml
     have lnl:(lnR R ls).length=ls.length:=by unfold lnR; rw [List.length_map]
     have RIk:=hR n (lnR R ls)
     have kvl:=hU n (lnR R ls) _ (Nat.le_refl _)
     have kvb:=nE (n:=n) (b:=b0) (rs:=lnR R ls) n7 (by have:=okl.len; omega) (λr hr x hx=>by
       unfold lnR at hr
       obtain ⟨y,hy,rfl⟩:=List.mem_map.mp hr
       have:=okl.at_ y hy
       exact (ok.row _ (bB (by rw [ok.len]; omega))).2 x hx) _ (Nat.le_refl _)
     rw [List.take_of_length_le (Nat.le_refl _)] at kvl kvb
     have kv7:n ^ (lnR R ls).length<=7 ^ 7:=Nat.le_trans (Nat.pow_le_pow_left n7 _) (Nat.pow_le_pow_right (by decide) (by have:=okl.len; omega))
     have h77:(7:Nat) ^ 7=823543:=by decide
     have vS:=tJ R n i ls
     generalize bC n (lnR R ls)=kv at gK RIk kvl kvb vS
     generalize hRow:R.getD i []=row at hrow aRi vS
     refine aB 5 nd yj ?_
     refine bt 6 (g:=λt=>.int (kv.getD t (0,0)).1) (λt τ=>∃ s6 s7 s8 s9 s10,τ=[.d (.lst (R.map dtR)),.d (.int n),.x (exK kT hdT P w (mkM (vMn R n) (lks R n i++nx))),.d (.int (i:Nat)),.d (kT.toD ls),.x (exZ (ba n row kv t)),s6,s7,s8,s9,s10]) b nd (wN (oX 2 (a:=kT) (hd:=hdT) (key:=ls) hu rfl (aa 4) gK (b9 _) dN)) wy ⟨s6,s7,s8,s9,s10,rfl⟩ (λt ht τ z=>?_) λτ z=>?_
     · obtain ⟨s6,s7,s8,s9,s10,rfl⟩:=z
       have ht:t < kv.length:=by simpa using ht
       have hq:kv.getD t (0,0) ∈ kv:=bB ht
       have hg:bA kv (kv.getD t (0,0)).1=some (kv.getD t (0,0)).2:=oQ RIk.nd hq
       have hv:=kvb _ hq
       have hml:=iB n row kv t
       have hml2:t * n<=823543 * 7:=Nat.mul_le_mul (by omega) n7
       have eM:ba n row kv (t + 1)=(bU n row (kv.getD t (0,0)).1 (kv.getD t (0,0)).2 (ba n row kv t) n).2:=by rw [ba,hg]; rfl
       rw [eM]
       generalize ba n row kv t=lk at hml
       generalize (kv.getD t (0,0)).1=mk at hg
       generalize (kv.getD t (0,0)).2=v at hg hv
       refine aB 7 nd af ?_
       refine bt 8 (g:=λc=>.int ((n - 1 - c:Nat):Int)) (λc τ=>∃ s8 s9 s10,τ=[.d (.lst (R.map dtR)),.d (.int n),.x (exK kT hdT P w (mkM (vMn R n) (lks R n i++nx))),.d (.int (i:Nat)),.d (kT.toD ls),.x (exZ (bU n row mk v lk c).2),.d (.int mk),.d (.int (bU n row mk v lk c).1),s8,s9,s10]) b nd (Ce (n:=n) b (aa 1) (by omega)) Ci ⟨s8,s9,s10,rfl⟩ (λc hc τ z=>?_) λτ z=>?_
       · obtain ⟨s8,s9,s10,rfl⟩:=z
         have hc:c < n:=by rw [gQ] at hc; exact hc
         have hcl:=jL n row mk v lk c
         have hj:n - 1 - c < row.length:=by rw [hrow.1]; omega
         have eC:bU n row mk v lk (c + 1)=j4 row mk v (n - 1 - c) (bU n row mk v lk c):=rfl
         rw [eC]
         generalize bU n row mk v lk c=st at hcl
         generalize n - 1 - c=j at hj
         have j7:j < 7:=by have:=hrow.1; omega
         refine ny (M:=λτ=>∃ s8 s9 s10,τ=[.d (.lst (R.map dtR)),.d (.int n),.x (exK kT hdT P w (mkM (vMn R n) (lks R n i++nx))),.d (.int (i:Nat)),.d (kT.toD ls),.x (exZ (j4 row mk v j st).2),.d (.int mk),.d (.int (j4 row mk v j st).1),s8,s9,s10]) (bu (aC (aC (aa 6) (aa 8) (Bl (by omega))) af Bh) af ju) (λz=>?_) (λz=>?_) λτ z=>by
           obtain ⟨s8,s9,s10,rfl⟩:=z
           exact aP ⟨s8,s9,s10,rfl⟩
         · have z:oS mk j=true:=by
             unfold oS
             rw [Int.toNat_natCast] at z
             exact z
           have e:j4 row mk v j st=(st.1 + 1,st.2):=by unfold j4; rw [if_pos z]
           rw [e]
           exact aB 7 nd (aC (aa 7) af bj) (aP ⟨_,_,_,rfl⟩)
         · have z:oS mk j=false:=by
             unfold oS
             rw [Int.toNat_natCast] at z
             exact z
           have e:j4 row mk v j st=(st.1,eN st.2 (jm mk j) ((bA st.2 (jm mk j)).getD 0 + sgZ st.1 * row.getD j 0 * v)):=by unfold j4; rw [if_neg (by rw [z]; decide)]
           have hx:Bd b0 (row.getD j 0):=hrow.2 _ (bB hj)
           have s2:aE (row.getD j 0) v:=hx.aE hv (by have:=ok.b1; omega) (by
             have:=ok.b1
             have:(lnR R ls).length * (b0 + 24)<=7 * (b0 + 24):=Nat.mul_le_mul_right _ (by have:=okl.len; omega)
             omega)
           rw [e]
           refine aB 9 nd (aC (aa 6) (aC af (aa 8) (Ac ⟨by omega,by omega,by decide⟩)) Cp) ?_
           rw [Int.toNat_natCast]
           show PSs _ _ (dS K [.d (.lst (R.map dtR)),.d (.int n),.x (exK kT hdT P w (mkM (vMn R n) (lks R n i++nx))),.d (.int (i:Nat)),.d (kT.toD ls),.x (exZ st.2),.d (.int mk),.d (.int st.1),.d (.int (j:Nat)),.d (.int (jm mk j)),_] _)
           refine aB 10 nd (aC (aM (aM (aa 0) (aa 3) (aW aRi)) (aa 8) (aW (atR hj))) (yI hu1 (oX 2 (a:=kT) (hd:=hdT) (key:=ls) hu rfl (aa 4) gK (b9 _) dN) (aa 6) hg dN) (bb s2)) ?_
           refine ny (M:=λτ=>τ=[.d (.lst (R.map dtR)),.d (.int n),.x (exK kT hdT P w (mkM (vMn R n) (lks R n i++nx))),.d (.int (i:Nat)),.d (kT.toD ls),.x (exZ st.2),.d (.int mk),.d (.int st.1),.d (.int (j:Nat)),.d (.int (jm mk j)),.d (.int (sgZ st.1 * row.getD j 0 * v))]) (bu (aC (aa 7) af (fh (by decide))) af ju) (λz=>?_) (λz=>?_) λτ z=>?_
           · have z:=of_decide_eq_true z
             have e2:sgZ st.1=-1:=by unfold sgZ; rw [z]; rfl
             rw [e2,Int.mul_assoc,Int.neg_mul,Int.one_mul]
             exact aB 10 nd (jS (aa 10)) (aP rfl)
           · have z:=of_decide_eq_false z
             have e2:sgZ st.1=1:=by
               rcases mL st.1 with h | h
               · exact h
               · unfold sgZ at h; omega
             rw [e2,Int.one_mul]
             exact aP rfl
           · rw [z]
             refine zF 5 hu1 rfl (aa 9) (aC (vL 5 hu1 rfl (aa 9) af) (aa 10) bj) ?_ (aP ⟨_,_,_,rfl⟩)
             have:sizeLine > 10000000:=by decide
             omega
       · obtain ⟨s8,s9,s10,rfl⟩:=z
         rw [gQ]
         exact aP ⟨_,_,_,_,_,rfl⟩
     · obtain ⟨s6,s7,s8,s9,s10,rfl⟩:=z
       rw [List.length_map]
       refine Bv 5 ?_
       refine ny (M:=λτ=>∃ s4 s5 s6 s7 s8 s9 s10,τ=[.d (.lst (R.map dtR)),.d (.int n),.x (exK kT hdT P w (mkM (vMn R n) (lks R n i++(nx++if ls.length < n then [ls++[(i:Int)]] else [])))),.d (.int (i:Nat)),s4,s5,s6,s7,s8,s9,s10]) (bu (bx b (ae (aa 4) ag) lS) (aa 1) uO) (λz=>?_) (λz=>?_) λτ z=>aP z
       · have z:=of_decide_eq_true z
         rw [List.length_map] at z
         rw [if_pos (by omega),<- List.append_assoc,gy,vS]
         refine mh 2 (a:=kT) (hd:=hdT) (key:=ls++[(i:Int)]) hu rfl ?_ (aa 5) (Nat.le_trans ml ?_) (b9 _) (aP ⟨_,_,_,_,_,_,_,rfl⟩)
         · have e:kT.toD (ls++[(i:Int)])=.tup (ls.map D.int++[.int (i:Nat)]):=by show D.tup ((ls++[(i:Int)]).map D.int)=_; rw [List.map_append]; rfl
           rw [e]
           exact aC (aa 4) (cw (ae (aa 3) ag)) (pI (by rw [List.length_map]; have:=okl.len; show _ + 1 < _; omega))
         · have:sizeLine > 10000000:=by decide
           omega
       · have z:=of_decide_eq_false z
         rw [List.length_map] at z
         rw [if_neg (by omega),List.append_nil]
         exact aP ⟨_,_,_,_,_,_,_,rfl⟩
   · obtain ⟨s4,s5,s6,s7,s8,s9,s10,rfl⟩:=h
     refine aP ⟨hi,.d (.int (i:Nat)),s4,s5,s6,s7,s8,s9,s10,?_⟩
     rw [eL,List.length_map,List.take_of_length_le (Nat.le_refl _)]
 · obtain ⟨_,s3,s4,s5,s6,s7,s8,s9,s10,rfl⟩:=h
   refine xM 2 (a:=kT) (hd:=hdT) (aO (aa 2) ?_)
   rw [aF,Int.toNat_natCast]
   rfl
end
noncomputable def sg1 (x:Int):Int:=if 0 < x then 1 else if x < 0 then -1 else 0
noncomputable def lsV (a:Int) (kv:List (Int × Int)):Int:=kv.foldl (λa p=>min a (sg1 p.2)) a
noncomputable def lsA (R:List (List Int)) (n:Nat) (a:Int) (ks:List (List Int)):Int:=ks.foldl (λa ls=>lsV a (bC n (lnR R ls))) a
theorem uf (a:Int) (kv:List (Int × Int)) (p:Int × Int):lsV a (kv++[p])=min (lsV a kv) (sg1 p.2):=by unfold lsV; rw [List.foldl_append]; rfl
theorem uj (R:List (List Int)) (n:Nat) (a:Int) (ks:List (List Int)) (ls:List Int):lsA R n a (ks++[ls])=lsV (lsA R n a ks) (bC n (lnR R ls)):=by unfold lsA; rw [List.foldl_append]; rfl
noncomputable def cO (ds:List D) (r:Sl):Prop:=∃ (R:List (List Int)) (m n b:Nat),ds=[.lst (R.map dtR)]/\Rw m n b R/\r=.d (.int (lsA R n 1 ((mkM (vMn R n) (lks R n m)).map (·.1))))
theorem wF {m:List (Int × Int)}:∀ i (h:i < (m.map λp=>D.int p.2).length),(m.map λp=>D.int p.2)[i]=.int (m.getD i (0,0)).2:=λi h=>by
 have:i < m.length:=by simpa using h
 simp [this]
section
variable {P:Program} {w:World} {K:PySem.W.Frag} {mg:Str->Option Value} {base:Heap} {k:Nat} {f:Addr} {fd:FuncData} {qual:Str}
set_option maxHeartbeats 1000000 in
theorem iR (F:Fun K "_law_least_sign" qual (top 53) f fd) (hb:∀ x ∈ aq,mg x=none) (c_l_minors:Cal P w K mg base k "_law_minors" (gd P w)):aS P w K mg base CX0 (k + 1) f fd ["_law_rows_here"] (spD K cO):=by
 refine fnD F eD hb (by rintro _ _ ⟨_,_,_,_,rfl,_⟩; rfl) ?_
 rintro _ _ ⟨R,m,n,b0,rfl,ok,rfl⟩ cdv A outer s H E b
 have nd:=eD.nd
 have hu:(Xc P w K mg base ["_law_rows_here","_law_least","_law_made_here","_law_lines","_law_worth"] qual (top 53) f cdv A outer s H E).A.units + 16 < cLine:=Nat.lt_of_le_of_lt (Nat.add_le_add_left (by decide:16<=64) _) b.room.units
 refine aB 1 nd af ?_
 refine aB 2 nd (x_call b c_l_minors (ae (aa 0) ag) ⟨R,m,n,b0,rfl,ok,rfl⟩) ?_
 have hall:∀ ls ∈ (mkM (vMn R n) (lks R n m)).map (·.1),getM (mkM (vMn R n) (lks R n m)) ls=some (.box (bxZ (bC n (lnR R ls)))):=λls h=>by
   obtain ⟨q,hq,rfl⟩:=List.mem_map.mp h
   exact cQ (v:=vMn R n) (fG hq).1
 generalize hks:(mkM (vMn R n) (lks R n m)).map (·.1)=ks at hall
 have em:(mkM (vMn R n) (lks R n m)).map (λp=>kT.toD p.1)=ks.map kT.toD:=by rw [<- hks,List.map_map]; rfl
 refine bt 3 (g:=λi=>kT.toD (ks.getD i [])) (λi τ=>∃ s3 s4,τ=[.d (.lst (R.map dtR)),.d (.int (lsA R n 1 (ks.take i))),.d (.box (bxW kT hdT P w (mkM (vMn R n) (lks R n m)))),s3,s4]) b nd (em ▸ pS (aa 2)) (b6 (f:=kT.toD) (xs:=ks) []) ⟨.un,.un,rfl⟩ (λi hi τ h=>?_) λτ h=>?_
 · obtain ⟨s3,s4,rfl⟩:=h
   have hi:i < ks.length:=by simpa using hi
   have gK:=hall _ (bB (d:=[]) hi)
   have es:ks.take (i + 1)=ks.take i++[ks.getD i []]:=take_snoc _ hi
   rw [es,uj]
   generalize ks.getD i []=ls at gK
   generalize lsA R n 1 (ks.take i)=a0
   generalize bC n (lnR R ls)=kv at gK
   refine bt 4 (g:=λt=>.int (kv.getD t (0,0)).2) (λt τ=>∃ s4,τ=[.d (.lst (R.map dtR)),.d (.int (lsV a0 (kv.take t))),.d (.box (bxW kT hdT P w (mkM (vMn R n) (lks R n m)))),.d (kT.toD ls),s4]) b nd (vM (tU (a:=kT) (hd:=hdT) (key:=ls) hu (aa 2) (aa 3) gK (b9 _) dN)) wF ⟨s4,rfl⟩ (λt ht τ z=>?_) λτ z=>?_
   · obtain ⟨s4,rfl⟩:=z
     have ht:t < kv.length:=by simpa using ht
     have es:kv.take (t + 1)=kv.take t++[kv.getD t (0,0)]:=take_snoc _ ht
     rw [es,uf]
     generalize (kv.getD t (0,0)).2=x
     refine aB 1 nd (bx b (ae (aa 1) (ae (aC (rD b (ae (g9 (aa 4) af ud) ag) xB) (rD b (ae (g9 (aa 4) af uO) ag) xB) fW) ag)) (vh b.calm)) (aP ⟨.d (.int x),?_⟩)
     have e:(if ((if decide (x > 0)=true then (1:Int) else 0) - (if decide (x < 0)=true then (1:Int) else 0)) < lsV a0 (kv.take t) then ((if decide (x > 0)=true then (1:Int) else 0) - (if decide (x < 0)=true then (1:Int) else 0)) else lsV a0 (kv.take t))=min (lsV a0 (kv.take t)) (sg1 x):=by
       have e1:((if decide (x > 0)=true then (1:Int) else 0) - (if decide (x < 0)=true then (1:Int) else 0))=sg1 x:=by
         unfold sg1
         simp only [decide_eq_true_eq]
         split <;> split <;> (try split) <;> omega
       rw [e1]
       split <;> omega
     exact congrArg (λy=>[Sl.d (.lst (R.map dtR)),Sl.d (.int y),Sl.d (.box (bxW kT hdT P w (mkM (vMn R n) (lks R n m)))),Sl.d (kT.toD ls),Sl.d (.int x)]) e
   · obtain ⟨s4,rfl⟩:=z
     refine aP ⟨.d (kT.toD ls),s4,?_⟩
     rw [List.length_map,List.take_of_length_le (Nat.le_refl _)]
 · obtain ⟨s3,s4,rfl⟩:=h
   refine aO (aa 1) ?_
   rw [List.length_map,List.take_of_length_le (Nat.le_refl _)]
end
theorem qE {f:List Int->Int} {row c:List Int} {g:Nat->Rat} {m:Nat} (hl:c.length=m + 1) (hg:∀ k,k < m + 1->((alP f row c k:Int):Rat)=g k):∀ k,k<=m + 1->((alS f row c k:Int):Rat)=ay (λk=>sgn (m - k) * g k) k
 | 0,_=>rfl
 | k + 1,h=>by
   have ih:=qE hl hg k (by omega)
   rw [alS,ay,<- ih,<- hg k (by omega),hl]
   unfold sgn
   rw [Int.fmod_eq_emod_of_nonneg _ (by decide)]
   by_cases z:(m - k) % 2=0
   · rw [if_pos z,if_neg (by omega),Rat.intCast_add,Rat.one_mul]
   · rw [if_neg z,if_pos (by omega),Rat.intCast_sub,Rat.sub_eq_add_neg,Rat.neg_mul,Rat.one_mul]
theorem pL {M M':Nat->Nat->Rat} {L:List Nat} (h:∀ r,r < L.length->∀ j,M r j=M' r j):cP M L=cP M' L:=by
 unfold cP
 exact ao λr hr q _=>h r hr _
theorem t9 (R:List (List Int)) (ls:List Int) (t r j:Nat) (h:r < t):dtM (lnR R (ls.take t)) r j=dtM (lnR R ls) r j:=by
 have e:(lnR R (ls.take t)).getD r []=(lnR R ls).getD r []:=by
   unfold lnR
   rw [List.map_take,List.getD_eq_getElem?_getD,List.getD_eq_getElem?_getD,List.getElem?_take_of_lt h]
 unfold dtM
 rw [e]
theorem p8 (c:List Int) (k:Nat):(ers c k).map Int.toNat=(c.map Int.toNat).eraseIdx k:=by
 unfold ers
 rw [List.eraseIdx_eq_take_drop_succ,List.map_append,List.map_take,List.map_drop]
theorem iZ (R:List (List Int)):∀ (t:Nat) (ls c:List Int),ls.length=t->c.length=t->((dtm R t ls c:Int):Rat)=cP (dtM (lnR R ls)) (c.map Int.toNat)
 | 0,ls,c,_,hc=>by
   cases List.length_eq_zero_iff.mp hc
   rfl
 | t + 1,ls,c,hl,hc=>by
   have hL:(c.map Int.toNat).length=t + 1:=by rw [List.length_map,hc]
   rw [jW hL,dtm]
   unfold alR
   rw [hc]
   have:=qE (f:=dtm R t (ls.take t)) (row:=R.getD (fO ls).toNat []) (c:=c) (g:=λk=>dtM (lnR R ls) t ((c.map Int.toNat).getD k 0) * cP (dtM (lnR R ls)) ((c.map Int.toNat).eraseIdx k)) hc (λk hk=>by
     unfold alP
     have e1:(c.map Int.toNat).getD k 0=(c.getD k 0).toNat:=by simp [show k < c.length by omega]
     have e2:(lnR R ls).getD t []=R.getD (fO ls).toNat []:=by
       unfold lnR fO
       rw [hl]
       simp [show t < ls.length by omega]
     have l2:(ers c k).length=t:=by
       have:=congrArg List.length (p8 c k)
       rw [List.length_map,List.length_eraseIdx_of_lt (by omega),hL] at this
       exact this
     rw [Rat.intCast_mul,iZ R t (ls.take t) (ers c k) (by rw [List.length_take,hl]; omega) l2,p8]
     rw [e1]
     have e3:dtM (lnR R ls) t (c.getD k 0).toNat=(((R.getD (fO ls).toNat []).getD (c.getD k 0).toNat 0:Int):Rat):=by unfold dtM; rw [e2]
     rw [e3]
     refine congrArg _ (pL λr hr j=>t9 R ls t r j ?_)
     rw [List.length_eraseIdx_of_lt (by omega),hL] at hr
     omega) (t + 1) (Nat.le_refl _)
   rw [this]
   refine ar λk hk=>?_
   rw [Rat.mul_assoc]
section
variable {P:Program} {w:World} {K:PySem.W.Frag} {mg:Str->Option Value} {base:Heap} {k:Nat} {f:Addr} {fd:FuncData} {qual:Str}
end
noncomputable def lkP (n:Nat):Nat->List (List Int)
 | 0=>[[]]
 | i + 1=>lkP n i++nxK n i (lkP n i)
theorem jv {κ:Type} [DecidableEq κ] {v:κ->D} {ks:List κ} {k:κ}:k ∈ (mkM v ks).map (·.1) ↔ k ∈ ks:=by
 constructor
 · intro h
   obtain ⟨q,hq,rfl⟩:=List.mem_map.mp h
   exact (fG hq).1
 · intro h
   exact List.mem_map.mpr ⟨_,ni (cQ (v:=v) h),rfl⟩
theorem qo {n i:Nat} {ks:List (List Int)} {ls:List Int}:ls ∈ nxK n i ks ↔ ∃ l,l ∈ ks/\l.length < n/\l++[(i:Int)]=ls:=by
 unfold nxK
 rw [List.mem_map]
 constructor
 · rintro ⟨l,h,e⟩
   rw [List.mem_filter] at h
   exact ⟨l,h.1,of_decide_eq_true h.2,e⟩
 · rintro ⟨l,h,z,e⟩
   exact ⟨l,List.mem_filter.mpr ⟨h,decide_eq_true z⟩,e⟩
theorem lz (R:List (List Int)) (n:Nat):∀ i (ls:List Int),ls ∈ lks R n i ↔ ls ∈ lkP n i
 | 0,_=>Iff.rfl
 | i + 1,ls=>by
   have ih:=lz R n i
   rw [lks,lkP,List.mem_append,List.mem_append,qo,qo,ih]
   refine or_congr Iff.rfl (exists_congr λl=>?_)
   rw [jv,ih]
theorem zy:∀ n,n < 8->∀ m,m < 8->(((lkP n m).all λls=>(chs m ls.length).contains ls && decide (ls.length<=min m n)) && (List.range (min m n + 1)).all λt=>(chs m t).all λls=>(lkP n m).contains ls)=true:=by decide +kernel
theorem ym:∀ n,n < 8->(((List.range (2 ^ n)).all λS=>(chs n (cols n S).length).contains ((cols n S).map Int.ofNat)) && (List.range 8).all λt=>(chs n t).all λc=>(List.range (2 ^ n)).any λS=>decide (cols n S=c.map Int.toNat))=true:=by decide +kernel
theorem iW {m n k:Nat} {ls c:List Int}:(ls,c) ∈ kys m n k ↔ ∃ s,s < k/\ls ∈ chs m (s + 1)/\c ∈ chs n (s + 1):=by
 unfold kys ky1
 constructor
 · intro h
   obtain ⟨s,hs,h⟩:=List.mem_flatMap.mp h
   obtain ⟨l,hl,h⟩:=List.mem_flatMap.mp h
   obtain ⟨d,hd,e⟩:=List.mem_map.mp h
   cases e
   exact ⟨s,List.mem_range.mp hs,hl,hd⟩
 · rintro ⟨s,hs,h1,h2⟩
   exact List.mem_flatMap.mpr ⟨s,List.mem_range.mpr hs,List.mem_flatMap.mpr ⟨ls,h1,List.mem_map.mpr ⟨c,h2,rfl⟩⟩⟩
theorem uc {x y:Int} (h:(x:Rat)=(y:Rat)):x=y:=by exact_mod_cast h
theorem nM {R:List (List Int)} {m n b:Nat} (ok:Rw m n b R) {t:Int} (ht:t<=1):(∀ p ∈ kys m n (min m n),t<=vD R p) ↔ ∀ ls ∈ lks R n m,∀ q ∈ bC n (lnR R ls),t<=q.2:=by
 have m7:=ok.m1.2
 have n7:=ok.n1.2
 have f1:=Bool.and_eq_true_iff.mp (zy n (by omega) m (by omega))
 have f2:=Bool.and_eq_true_iff.mp (ym n (by omega))
 constructor
 · intro h ls hls q hq
   have hP:=List.all_eq_true.mp f1.1 ls ((lz R n m ls).mp hls)
   rw [Bool.and_eq_true] at hP
   have hc:ls ∈ chs m ls.length:=by simpa using hP.1
   have hl:=of_decide_eq_true hP.2
   have RIk:=hR n (lnR R ls)
   have lnl:(lnR R ls).length=ls.length:=by unfold lnR; rw [List.length_map]
   rw [lnl] at RIk
   obtain ⟨S,e1,e2,e3⟩:=RIk.key q.1 (List.mem_map.mpr ⟨q,hq,rfl⟩)
   have hg:=oQ RIk.nd hq
   have hv:=(RIk.all S e2 e3).2
   unfold gv at hv
   rw [<- e1,hg,Option.getD_some] at hv
   have hcc:(cols n S).map Int.ofNat ∈ chs n ls.length:=by
     have:=List.all_eq_true.mp f2.1 S (List.mem_range.mpr e2)
     rw [e3] at this
     simpa using this
   have et:((cols n S).map Int.ofNat).map Int.toNat=cols n S:=by
     rw [List.map_map]
     exact (List.map_congr_left λx _=>rfl).trans (List.map_id _)
   have hd:=iZ R ls.length ls ((cols n S).map Int.ofNat) rfl (by rw [List.length_map,e3])
   rw [et,<- hv] at hd
   have e:=uc hd
   rw [<- e]
   cases hl0:ls.length with
   | zero=>exact ht
   | succ s=>
     have:=h (ls,(cols n S).map Int.ofNat) (iW.mpr ⟨s,by omega,by rw [<- hl0]; exact hc,by rw [<- hl0]; exact hcc⟩)
     unfold vD at this
     rw [hl0] at this
     exact this
 · rintro h ⟨ls,c⟩ hp
   obtain ⟨s,hs,h1,h2⟩:=iW.mp hp
   have l1:=(bW m _ ls h1).len
   have l2:=(bW n _ c h2).len
   have hls:ls ∈ lks R n m:=(lz R n m ls).mpr (by
     have:=List.all_eq_true.mp (List.all_eq_true.mp f1.2 (s + 1) (List.mem_range.mpr (by omega))) ls h1
     simpa using this)
   obtain ⟨S,hS,eS⟩:=List.any_eq_true.mp (List.all_eq_true.mp (List.all_eq_true.mp f2.2 (s + 1) (List.mem_range.mpr (by omega))) c h2)
   have eS:=of_decide_eq_true eS
   have RIk:=hR n (lnR R ls)
   have lnl:(lnR R ls).length=ls.length:=by unfold lnR; rw [List.length_map]
   rw [lnl,l1] at RIk
   obtain ⟨a1,a2⟩:=RIk.all S (List.mem_range.mp hS) (by rw [eS,List.length_map,l2])
   have hd:=iZ R (s + 1) ls c l1 l2
   rw [<- eS,<- a2] at hd
   unfold gv at hd
   have e:=uc hd
   show t<=dtm R ls.length ls c
   rw [l1,e]
   cases hg:bA (bC n (lnR R ls)) (S:Int) with
   | none=>exact absurd hg a1
   | some v=>
     rw [Option.getD_some]
     unfold bA at hg
     obtain ⟨p,h3,h4⟩:=Option.map_eq_some_iff.mp hg
     rw [<- h4]
     exact h ls hls p (List.mem_of_find?_eq_some h3)
section
variable {P:Program} {w:World} {K:PySem.W.Frag} {mg:Str->Option Value} {base:Heap} {k:Nat} {f:Addr} {fd:FuncData} {qual:Str}
end
theorem AK:∀ n,n < 8->∀ t,t < 8->((chs n t).all λc=>(List.range (t - 1)).all λi=>decide (c.getD i 0 < c.getD (i + 1) 0))=true:=by decide +kernel
theorem sN:∀ n,n < 8->∀ t,t < 8->((List.range 8).all λa=>decide (n < a + t) || (chs n t).contains ((List.range t).map λi=>((a + i:Nat):Int)))=true:=by decide +kernel
theorem xC {R:List (List Int)} {ls c:List Int} {t:Nat} (hl:ls.length=t) (hc:c.length=t):((vD R (ls,c):Int):Rat)=mi (dtM R) t (λr=>(ls.getD r 0).toNat) (λj=>(c.getD j 0).toNat):=by
 unfold vD
 show ((dtm R ls.length ls c:Int):Rat)=_
 rw [iZ R ls.length ls c rfl (by omega)]
 unfold cP mi
 rw [List.length_map,hc]
 refine ao λi hi j hj=>?_
 unfold dtM lnR
 have e1:(ls.map λi=>R.getD i.toNat []).getD i []=R.getD (ls.getD i 0).toNat []:=by simp [show i < ls.length by omega]
 have e2:(c.map Int.toNat).getD j 0=(c.getD j 0).toNat:=by simp [show j < c.length by omega]
 rw [e1,e2]
theorem qk {n t:Nat} (hn:n<=7) (ht:t<=7) {c:List Int} (h:c ∈ chs n t):Inc t λi=>(c.getD i 0).toNat:=λi hi=>by
 have u:=List.all_eq_true.mp (List.all_eq_true.mp (AK n (by omega) t (by omega)) c h) i (List.mem_range.mpr (by omega))
 have u:=of_decide_eq_true u
 have:=((bW n t c h).at_ i (by omega)).1
 show (c.getD i 0).toNat < (c.getD (i + 1) 0).toNat
 omega
theorem jT {R:List (List Int)} {m n b:Nat} (ok:Rw m n b R):(∀ p ∈ kys m n (min m n),1<=vD R p) ↔ ∀ k a b',1<=k->a + k<=m->b' + k<=n->(a=0\/b'=0)->0 < sld (dtM R) a b' k:=by
 have m7:=ok.m1.2
 have n7:=ok.n1.2
 constructor
 · intro h k a b' hk ha hb _
   have s1:=List.all_eq_true.mp (sN m (by omega) k (by omega)) a (List.mem_range.mpr (by omega))
   have s2:=List.all_eq_true.mp (sN n (by omega) k (by omega)) b' (List.mem_range.mpr (by omega))
   rw [decide_eq_false (by omega),Bool.false_or] at s1 s2
   have c1:(List.range k).map (λi=>((a + i:Nat):Int)) ∈ chs m k:=by simpa using s1
   have c2:(List.range k).map (λi=>((b' + i:Nat):Int)) ∈ chs n k:=by simpa using s2
   have hv:=h _ (iW.mpr ⟨k - 1,by omega,by rw [show k - 1 + 1=k by omega]; exact c1,by rw [show k - 1 + 1=k by omega]; exact c2⟩)
   have e:=xC (R:=R) (t:=k) (bW m _ _ c1).len (bW n _ _ c2).len
   have e2:sld (dtM R) a b' k=((vD R ((List.range k).map (λi=>((a + i:Nat):Int)),(List.range k).map (λi=>((b' + i:Nat):Int))):Int):Rat):=by
     rw [e]
     unfold sld
     refine og (λi hi=>?_) λi hi=>?_ <;> (simp [hi]; omega)
   rw [e2]
   exact (show ((0:Int):Rat) < _ from Rat.intCast_lt_intCast.mpr (by omega))
 · rintro h ⟨ls,c⟩ hp
   obtain ⟨s,hs,h1,h2⟩:=iW.mp hp
   have o1:=bW m _ ls h1
   have o2:=bW n _ c h2
   have e:=xC (R:=R) (t:=s + 1) o1.len o2.len
   have g1:=o1.at_ s (by omega)
   have g2:=o2.at_ s (by omega)
   have:=tp (M:=dtM R) (n:=m) (m:=n) h (k:=s + 1) (qk (by omega) (by omega) h1) (qk (by omega) (by omega) h2) (λ_=>by show (ls.getD s 0).toNat < m; omega) (λ_=>by show (c.getD s 0).toNat < n; omega)
   rw [<- e] at this
   have:=Rat.intCast_lt_intCast.mp (show ((0:Int):Rat) < _ from this)
   omega
section
variable {P:Program} {w:World} {K:PySem.W.Frag} {mg:Str->Option Value} {base:Heap} {k:Nat} {f:Addr} {fd:FuncData} {qual:Str}
end
theorem uG {t:Int}:∀ (kv:List (Int × Int)) (a:Int),t<=lsV a kv ↔ t<=a/\∀ q ∈ kv,t<=sg1 q.2
 | [],a=>by simp [lsV]
 | p :: kv,a=>by
   have ih:=uG (t:=t) kv (min a (sg1 p.2))
   show t<=lsV (min a (sg1 p.2)) kv ↔ _
   rw [ih]
   constructor
   · rintro ⟨h1,h2⟩
     exact ⟨by omega,λq hq=>by
       rcases List.mem_cons.mp hq with rfl | hq
       · omega
       · exact h2 q hq⟩
   · rintro ⟨h1,h2⟩
     have:=h2 p (List.mem_cons_self ..)
     exact ⟨by omega,λq hq=>h2 q (List.mem_cons_of_mem _ hq)⟩
theorem sx {R:List (List Int)} {n:Nat} {t:Int}:∀ (ks:List (List Int)) (a:Int),t<=lsA R n a ks ↔ t<=a/\∀ ls ∈ ks,∀ q ∈ bC n (lnR R ls),t<=sg1 q.2
 | [],a=>by simp [lsA]
 | ls :: ks,a=>by
   have ih:=sx (R:=R) (n:=n) (t:=t) ks (lsV a (bC n (lnR R ls)))
   show t<=lsA R n (lsV a (bC n (lnR R ls))) ks ↔ _
   rw [ih,uG]
   constructor
   · rintro ⟨⟨h1,h2⟩,h3⟩
     exact ⟨h1,λl hl=>by
       rcases List.mem_cons.mp hl with rfl | hl
       · exact h2
       · exact h3 l hl⟩
   · rintro ⟨h1,h2⟩
     exact ⟨⟨h1,h2 ls (List.mem_cons_self ..)⟩,λl hl=>h2 l (List.mem_cons_of_mem _ hl)⟩
theorem vb {t x:Int} (h:t=0\/t=1):t<=sg1 x ↔ t<=x:=by
 unfold sg1
 split
 · omega
 · split <;> omega
theorem tY {R:List (List Int)} {m n b:Nat} (ok:Rw m n b R) {t:Int} (h:t=0\/t=1):(fuO R m n t).isNone=decide (t<=lsA R n 1 ((mkM (vMn R n) (lks R n m)).map (·.1))):=by
 have e:(fuO R m n t).isNone=true ↔ t<=lsA R n 1 ((mkM (vMn R n) (lks R n m)).map (·.1)):=by
   rw [Option.isNone_iff_eq_none,qw,nM ok (by omega),sx]
   constructor
   · intro z
     exact ⟨by omega,λls hl q hq=>(vb h).mpr (z ls (jv.mp hl) q hq)⟩
   · rintro ⟨_,z⟩ ls hl q hq
     exact (vb h).mp (z ls (jv.mpr hl) q hq)
 by_cases z:t<=lsA R n 1 ((mkM (vMn R n) (lks R n m)).map (·.1))
 · rw [decide_eq_true z,e.mpr z]
 · rw [decide_eq_false z]
   cases hh:(fuO R m n t).isNone with
   | false=>rfl
   | true=>exact absurd (e.mp hh) z
section
variable {P:Program} {w:World} {K:PySem.W.Frag} {mg:Str->Option Value} {base:Heap} {k:Nat} {f:Addr} {fd:FuncData} {qual:Str}
end
noncomputable def cV (ds:List D) (r:Sl):Prop:=∃ a b:Int,ds=[.int a,.int b]/\r=.d (.int (Int.gcd a b:Int))
noncomputable def jc (ds:List D) (r:Sl):Prop:=∃ (t b:Int) (q:Rat),ds=[.int t,.int b]/\0 < b/\Bd 8999 b/\(t:Rat)=q * (b:Rat)/\r=.d (frD q)
noncomputable def gR (ds:List D) (r:Sl):Prop:=∃ (ns:List Int) (k:Nat),ds=[.lst (ns.map .int),.int k]/\r=.d (.int (ns.getD k 0))
noncomputable def AU (t:List (List Rat)):D:=.lst (t.map λr=>.lst (r.map frD))
noncomputable def bZ (t:List (List Rat)):Nd:=.l (t.map λr=>.l ((r.map frD).map .d))
theorem vj (xs:List D):lX (xs.map .d)=xs:=by
 induction xs with
 | nil=>rfl
 | cons x xs ih=>rw [List.map_cons,lX,ndD,ih]
theorem oV {α:Type} (f:α->List Nd):∀ t:List α,lX (t.map λr=>.l (f r))=t.map λr=>D.lst (lX (f r))
 | []=>rfl
 | r :: t=>by rw [List.map_cons,lX,ndD,oV f t]; rfl
theorem jx (t:List (List Rat)):ndD (bZ t)=AU t:=by
 unfold bZ AU
 rw [ndD,oV]
 congr 1
 exact List.map_congr_left λr _=>by rw [vj]
theorem xP {s:Int} (hs:0 < s) (q:Rat):(s * (q.den:Nat)) / (Int.gcd s (q.den:Nat):Int)=scS s q:=by
 unfold scS
 have d1:(Int.gcd s (q.den:Nat):Int) ∣ s:=Int.gcd_dvd_left ..
 rw [Int.mul_comm s,Int.mul_ediv_assoc _ d1,Int.mul_comm]
noncomputable def rwN (r:List Int):Nd:=.l ((r.map D.int).map .d)
noncomputable def nG (R:List (List Int)):Nd:=.l (R.map rwN)
theorem yy (R:List (List Int)):ndD (nG R)=.lst (R.map dtR):=by
 unfold nG rwN
 rw [ndD,oV]
 congr 1
 exact List.map_congr_left λr _=>by rw [vj]; rfl
noncomputable def ja (ds:List D) (r:Sl):Prop:=∃ (R C d v:Nat) (M:List (List Rat)),ds=[tbQ M]/\Tq R C M/\(∀ r ∈ M,∀ x ∈ r,Qs d v x)/\1 + C * d<=8999/\v + d<=8999/\r=.n (.t [nG (whM M (M.map scL)),.d (.int (prZ (M.map scL)))])
theorem uu {M:List (List Rat)} {i:Nat} (h:i < M.length):((List.range (i + 1)).map λi=>whR (M.getD i []) (scL (M.getD i [])))=((List.range i).map λi=>whR (M.getD i []) (scL (M.getD i [])))++[whR (M.getD i []) (scL (M.getD i []))]:=by
 rw [List.range_succ,List.map_append]
 rfl
theorem vK (M:List (List Rat)):(List.range M.length).map (λi=>whR (M.getD i []) (scL (M.getD i [])))=whM M (M.map scL):=by
 unfold whM
 refine List.map_congr_left λi hi=>?_
 have:i < M.length:=List.mem_range.mp hi
 simp [this]
section
variable {P:Program} {w:World} {K:PySem.W.Frag} {mg:Str->Option Value} {base:Heap} {k:Nat} {f:Addr} {fd:FuncData} {qual:Str}
theorem lI (F:Fun K "_law_divisor" qual (top 48) f fd) (hb:∀ x ∈ aq,mg x=none):aS P w K mg base CX0 (k + 1) f fd ["_law_one","_law_other"] (spD K cV):=by
 refine fnD F hE hb (by rintro _ _ ⟨_,_,rfl,_⟩; rfl) ?_
 rintro _ _ ⟨x,y,rfl,rfl⟩ cdv A outer s H E b
 have nd:=hE.nd
 refine aB 0 nd (bx b (ae (aa 0) ag) mX) (aB 1 nd (bx b (ae (aa 1) ag) mX) ?_)
 rw [gu,gu]
 refine qV (λn t τ=>∃ (g:Nat) (s2:Sl),Nat.gcd g n=Int.gcd x y/\t=(decide ((0:Int) < n))/\τ=[.d (.int g),.d (.int n),s2]) b ⟨_,_,_,_,rfl,rfl,rfl⟩ (λn t τ h=>?_) (λn τ h=>?_) λn τ h=>?_
 · obtain ⟨g,s2,_,rfl,rfl⟩:=h
   exact bu (aa 1) af ud
 · obtain ⟨g,s2,hg,ht,rfl⟩:=h
   have hl:n ≠ 0:=λz=>by simp [z] at ht
   have e:(g:Int).fmod n=((g % n:Nat):Int):=by rw [Int.fmod_eq_emod_of_nonneg _ (by omega)]; rfl
   refine aB 2 nd (aC (aa 0) (aa 1) (fh (by omega))) ?_
   rw [e]
   refine aB 0 nd (aa 1) (aB 1 nd (aa 2) (aP ⟨g % n,_,Nat.mod_lt g (Nat.pos_of_ne_zero hl),n,_,?_,rfl,rfl⟩))
   rw [<- hg,Nat.gcd_comm n,<- Nat.gcd_rec,Nat.gcd_comm]
 · obtain ⟨g,s2,hg,ht,rfl⟩:=h
   have hl:n=0:=by have:=of_decide_eq_false ht.symm; omega
   refine aO (aa 0) ?_
   rw [<- hg,hl,Nat.gcd_zero_right]
theorem sf (F:Fun K "_law_made" qual (top 49) f fd) (hb:∀ x ∈ aq,mg x=none) (c_l_divisor:Cal P w K mg base k "_law_divisor" cV):aS P w K mg base CX0 (k + 1) f fd ["_law_top","_law_bottom"] (spD K jc):=by
 refine fnD F kQ hb (by rintro _ _ ⟨_,_,_,rfl,_⟩; rfl) ?_
 rintro _ _ ⟨t,c,q,rfl,h0,h1,hq,rfl⟩ cdv A outer s H E b
 have nd:=kQ.nd
 have dv:aD (Int.gcd t c:Int):=(h1.gcd (by omega)).aD (dW (by omega)) (by decide)
 obtain ⟨e1,e2⟩:=cx h0 hq
 refine aB 2 nd (x_call b c_l_divisor (ae (aa 0) (ae (aa 1) ag)) ⟨_,_,rfl,rfl⟩) (aO (cw (ae (aC (aa 0) (aa 2) (a9 dv)) (ae (aC (aa 1) (aa 2) (a9 dv)) ag))) ?_)
 rw [aU,aU,<- e1,<- e2]
 rfl
theorem rJ (F:Fun K "_law_cell" qual (top 46) f fd) (hb:∀ x ∈ aq,mg x=none):aS P w K mg base CX0 (k + 1) f fd ["_law_script","_law_k"] (spD K gR):=by
 refine fnD F sh hb (by rintro _ _ ⟨_,_,rfl,_⟩; rfl) ?_
 rintro _ _ ⟨ns,n,rfl,rfl⟩ cdv A outer s H E b
 refine fx (bu (aa 1) (bx b (ae (aa 0) ag) iL) uO) (λh=>?_) λh=>?_
 · have h:=of_decide_eq_true h
   rw [List.length_map] at h
   exact aO (aM (aa 0) (aa 1) (aW (pf (by omega) (by omega)))) rfl
 · have h:=of_decide_eq_false h
   rw [List.length_map] at h
   refine aO af ?_
   show Sl.d (.int 0)=_
   rw [getD_none (by omega)]
set_option maxHeartbeats 1000000 in
theorem rm (F:Fun K "_law_rows" qual (top 51) f fd) (hb:∀ x ∈ aq,mg x=none) (c_l_divisor:Cal P w K mg base k "_law_divisor" cV):aS P w K mg base CX0 (k + 1) f fd ["_law_table"] (spD K ja):=by
 refine fnD F k6 hb (by rintro _ _ ⟨_,_,_,_,_,rfl,_⟩; rfl) ?_
 rintro _ _ ⟨R,C,d,v,M,rfl,t,hq,z1,z2,rfl⟩ cdv A outer s H E b
 have nd:=k6.nd
 have r7:=t.r7
 have c7:=t.c7
 refine aB 1 nd (iF ag) ?_
 refine BA 1 (c:=.l []) ?_
 refine aB 2 nd af ?_
 refine bt 3 (g:=λi=>rwQ (M.getD i [])) (λi τ=>i<=M.length/\∃ s3 s4 s5,τ=[.d (tbQ M),.n (nG ((List.range i).map λi=>whR (M.getD i []) (scL (M.getD i [])))),.d (.int (prZ ((M.map scL).take i))),s3,s4,s5]) b nd (a4 (aa 0)) (b6 (f:=rwQ) (xs:=M) []) ⟨Nat.zero_le _,.un,.un,.un,rfl⟩ (λi hi τ h=>?_) λτ h=>?_
 · obtain ⟨_,s3,s4,s5,rfl⟩:=h
   have hi:i < M.length:=by simpa using hi
   have mi:=bh (xs:=M) (d:=[]) hi
   have hiR:i < R:=by rw [<- t.len]; exact hi
   have hC:=t.at_ hiR
   have qr:=hq _ mi
   rw [uu hi]
   have et:(M.map scL).take (i + 1)=(M.map scL).take i++[scL (M.getD i [])]:=by
     rw [List.take_succ,List.getElem?_map,List.getElem?_eq_getElem hi]
     simp [hi]
   rw [et,jN]
   have bpr:Bd (1 + R * 8999) (prZ ((M.map scL).take i)):=(oT (d:=8999) λx hx=>by
     obtain ⟨r,hr,rfl⟩:=List.mem_map.mp (List.mem_of_mem_take hx)
     have:=d9 (d:=d) (r:=r) λx hx=>(hq r hr x hx).den
     rw [t.row r hr] at this
     exact this.mono z1).mono (by
       have:((M.map scL).take i).length<=R:=by rw [List.length_take,List.length_map,t.len]; omega
       have:=Nat.mul_le_mul_right 8999 this
       omega)
   generalize prZ ((M.map scL).take i)=pr at bpr ⊢
   generalize hg:((List.range i).map λi=>whR (M.getD i []) (scL (M.getD i [])))=Gs
   have lGs:Gs.length=i:=by rw [<- hg]; simp
   generalize M.getD i []=row at mi hC qr ⊢
   refine aB 4 nd af ?_
   refine bt 5 (g:=λj=>frD (row.getD j 0)) (λj τ=>j<=row.length/\∃ s5,τ=[.d (tbQ M),.n (nG Gs),.d (.int pr),.d (rwQ row),.d (.int (scL (row.take j))),s5]) b nd (a4 (aa 3)) (b6 (f:=frD) (xs:=row) 0) ⟨Nat.zero_le _,s5,rfl⟩ (λj hj τ h=>?_) λτ h=>?_
   · obtain ⟨_,s5,rfl⟩:=h
     have hj:j < row.length:=by simpa using hj
     have mm:=bh (d:=(0:Rat)) hj
     have hs:=(fo (row.take j)).1
     have bs:Bd (1 + C * d) (scL (row.take j)):=(d9 λx hx=>(qr x (List.mem_of_mem_take hx)).den).mono (by
       have:(row.take j).length * d<=C * d:=Nat.mul_le_mul_right _ (by rw [List.length_take]; omega)
       omega)
     have et:row.take (j + 1)=row.take j++[row.getD j 0]:=by rw [List.take_succ,List.getElem?_eq_getElem hj]; simp [hj]
     rw [et,mM]
     generalize scL (row.take j)=sc at hs bs ⊢
     generalize row.getD j 0=x at mm ⊢
     have hx:=den_pos x
     have sd:=(qr x mm).den
     have dv:aD (Int.gcd sc (x.den:Nat):Int):=(sd.gcd (by omega)).aD (dW (by omega)) (by omega)
     refine aB 4 nd (aC (aC (aa 4) (aM (aa 5) af (aQ (aK (i:=1) rfl))) (bb (bs.aE sd (by omega) (by omega)))) (x_call b c_l_divisor (ae (aa 4) (ae (aM (aa 5) af (aQ (aK (i:=1) rfl))) ag)) ⟨_,_,rfl,rfl⟩) (a9 dv)) (aP ⟨hj,.d (frD x),?_⟩)
     rw [aU,xP hs]
     rfl
   · obtain ⟨_,s5,rfl⟩:=h
     rw [List.length_map,List.take_length]
     have br:=d9 (d:=d) (r:=row) λx hx=>(qr x hx).den
     rw [hC] at br
     refine yH (c:=rwN (whR row (scL row))) (eg 1) (gi (cmp 0 (g:=λj=>frD (row.getD j 0)) (f:=λj=>.int ((row.getD j 0).num * ((scL row).fdiv ((row.getD j 0).den:Nat)))) b (a4 (aa 3)) (b6 (f:=frD) (xs:=row) 0) (by rw [List.length_map]; omega) λj hj s0 H0 fp=>?_)) rfl rfl ?hx ?_ ?_
     · have sq:=(qr _ (bh (d:=(0:Rat)) (show j < row.length by simpa using hj))).sq
       generalize row.getD j 0=x at sq ⊢
       have hx:=den_pos x
       have e:(scL row).fdiv (x.den:Nat)=scL row / (x.den:Nat):=Int.fdiv_eq_ediv_of_nonneg _ (by omega)
       exact aC (aM (aa 0) af (aQ (aK (i:=0) rfl))) (aC (aa 1) (aM (aa 0) af (aQ (aK (i:=1) rfl))) (a9 (sq.den.aD (by omega) (by omega)))) (bb (by rw [e]; exact sq.num.aE (br.ediv _) (by omega) (by omega)))
     case hx=>
       refine congrArg (λl=>some (Nd.l (l.map .d))) ((fF (λx:Rat=>D.int (x.num * ((scL row).fdiv (x.den:Nat)))) row 0 (List.length_map ..)).trans ?_)
       unfold whR
       rw [List.map_map]
       refine List.map_congr_left λx _=>?_
       simp only [Function.comp]
       rw [Int.fdiv_eq_ediv_of_nonneg _ (by have:=den_pos x; omega)]
     · rw [List.length_map,lGs]; omega
     · refine aB 2 nd (aC (aa 2) (aa 4) (bb (bpr.aE br (by omega) (by omega)))) (aP ⟨hi,.d (rwQ row),.d (.int (scL row)),s5,?_⟩)
       unfold nG
       rw [List.map_append]
       rfl
 · obtain ⟨_,s3,s4,s5,rfl⟩:=h
   rw [List.length_map,vK,List.take_of_length_le (by rw [List.length_map]; exact Nat.le_refl _)]
   exact y6 1 (aa 2) rfl
end
noncomputable def szP (c:Int):List Int:=nums c [8,4,4,7,7]
noncomputable def szR (c:Int):Nat:=(1 + (if (szP c).getD 0 0=1 then (szP c).getD 3 0 else (szP c).getD 1 0)).toNat
noncomputable def szC (c:Int):Nat:=(1 + (if (szP c).getD 0 0=1 then (szP c).getD 4 0 else (szP c).getD 2 0)).toNat
theorem eU (c:Int) {i:Nat} (h:i < 5):0<=(szP c).getD i 0/\(szP c).getD i 0 < [8,4,4,7,7].getD i 0:=iX (c:=c) (bs:=[8,4,4,7,7]) (by decide) h
theorem qt (c:Int):1<=szR c/\szR c<=7/\1<=szC c/\szC c<=7:=by
 have h1:=eU c (i:=1) (by decide)
 have h2:=eU c (i:=2) (by decide)
 have h3:=eU c (i:=3) (by decide)
 have h4:=eU c (i:=4) (by decide)
 have e1:([8,4,4,7,7]:List Int).getD 1 0=4:=rfl
 have e2:([8,4,4,7,7]:List Int).getD 2 0=4:=rfl
 have e3:([8,4,4,7,7]:List Int).getD 3 0=7:=rfl
 have e4:([8,4,4,7,7]:List Int).getD 4 0=7:=rfl
 unfold szR szC
 split <;> omega
noncomputable def jK (ds:List D) (r:Sl):Prop:=∃ c:Int,ds=[.int c]/\r=.d (.tup [.int (szR c:Nat),.int (szC c:Nat)])
section
variable {P:Program} {w:World} {K:PySem.W.Frag} {mg:Str->Option Value} {base:Heap} {k:Nat} {f:Addr} {fd:FuncData} {qual:Str}
theorem rH (F:Fun K "_law_size" qual (top 50) f fd) (hb:∀ x ∈ aq,mg x=none) (c_l_numbers:Cal P w K mg base k "_law_numbers" cv):aS P w K mg base CX0 (k + 1) f fd ["_law_cell_here"] (spD K jK):=by
 refine fnD F kS hb (by rintro _ _ ⟨_,rfl,_⟩; rfl) ?_
 rintro _ _ ⟨c,rfl,rfl⟩ cdv A outer s H E b
 have nd:=kS.nd
 refine aB 1 nd (bP (x_call b c_l_numbers (ae (aa 0) (ae (bP (iF (ae af (ae af (ae af (ae af (ae af ag))))))) ag)) ⟨c,[8,4,4,7,7],rfl,by decide,λx hx=>?_,rfl⟩)) ?_
 · have:0 < x/\x < 9:=by
     simp only [List.mem_cons,List.not_mem_nil,or_false] at hx
     omega
   exact zJ this.1 (by omega)
 have ln:(szP c).length=5:=gn c _
 have at_:∀ i:Nat,i < 5->atI ((szP c).map D.int) (i:Int)=some (.int ((szP c).getD i 0)):=λi hi=>atR (by rw [ln]; exact hi)
 have h1:=eU c (i:=1) (by decide)
 have h2:=eU c (i:=2) (by decide)
 have h3:=eU c (i:=3) (by decide)
 have h4:=eU c (i:=4) (by decide)
 refine fx (bu (aM (aa 1) af (aW (at_ 0 (by decide)))) af ju) (λh=>?_) λh=>?_
 · refine aO (cw (ae (aC af (aM (aa 1) af (aW (at_ 3 (by decide)))) bj) (ae (aC af (aM (aa 1) af (aW (at_ 4 (by decide)))) bj) ag))) ?_
   have h:=of_decide_eq_true h
   have e1:((szR c:Nat):Int)=1 + (szP c).getD 3 0:=by unfold szR; rw [if_pos h]; omega
   have e2:((szC c:Nat):Int)=1 + (szP c).getD 4 0:=by unfold szC; rw [if_pos h]; omega
   rw [e1,e2]
 · refine aO (cw (ae (aC af (aM (aa 1) af (aW (at_ 1 (by decide)))) bj) (ae (aC af (aM (aa 1) af (aW (at_ 2 (by decide)))) bj) ag))) ?_
   have h:=of_decide_eq_false h
   have e1:((szR c:Nat):Int)=1 + (szP c).getD 1 0:=by unfold szR; rw [if_neg h]; omega
   have e2:((szC c:Nat):Int)=1 + (szP c).getD 2 0:=by unfold szC; rw [if_neg h]; omega
   rw [e1,e2]
end
noncomputable def uN (M:List (List Rat)) (i j:Nat) (q:Rat):List (List Rat):=M.set i ((M.getD i []).set j q)
theorem vy {M:List (List Rat)} {i:Nat} (hi:i < M.length):cY [i] (bZ M)=some (.l (((M.getD i []).map frD).map .d)):=by
 unfold bZ
 rw [cY,List.getElem?_map,List.getElem?_eq_getElem hi]
 simp [cY,hi]
theorem pY {M:List (List Rat)} {i j:Nat} {q:Rat}:cy [i] (bZ M) (.l ((((M.getD i []).map frD).set j (frD q)).map .d))=bZ (uN M i j q):=by
 unfold bZ uN
 simp only [List.map_set]
 rfl
theorem t5 {M:List (List Rat)} {i j:Nat} (hi:i < M.length) (hj:j < (M.getD i []).length):cY [i,j] (bZ M)=some (.d (frD ((M.getD i []).getD j 0))):=by
 unfold bZ
 rw [cY,List.getElem?_map,List.getElem?_eq_getElem hi]
 have e:(M.getD i [])=M[i]:=by simp [hi]
 rw [e] at hj ⊢
 simp only [Option.map_some,Option.bind_some,cY,List.getElem?_map,List.getElem?_eq_getElem hj]
 simp [hj]
noncomputable def mkT (R C:Nat) (G:Nat->Nat->Rat):List (List Rat):=(List.range R).map λi=>(List.range C).map (G i)
theorem bM (R C:Nat) (G:Nat->Nat->Rat):(mkT R C G).length=R:=by simp [mkT]
theorem cE {R C i:Nat} {G:Nat->Nat->Rat} (hi:i < R):(mkT R C G).getD i []=(List.range C).map (G i):=by simp [mkT,hi]
theorem mq {R C i j:Nat} {G:Nat->Nat->Rat} (hi:i < R) (hj:j < C):((mkT R C G).getD i []).getD j 0=G i j:=by rw [cE hi]; simp [hj]
theorem hX {R C:Nat} {G H:Nat->Nat->Rat} (h:∀ i,i < R->∀ j,j < C->G i j=H i j):mkT R C G=mkT R C H:=by
 unfold mkT
 refine List.map_congr_left λi hi=>List.map_congr_left λj hj=>h i (List.mem_range.mp hi) j (List.mem_range.mp hj)
theorem lE {R C:Nat} {G:Nat->Nat->Rat} (r1:1<=R) (r7:R<=7) (c1:1<=C) (c7:C<=7):Tq R C (mkT R C G):=⟨r1,r7,c1,c7,bM R C G,λr hr=>by
 unfold mkT at hr
 obtain ⟨i,_,rfl⟩:=List.mem_map.mp hr
 simp⟩
theorem qX {R C i j:Nat} {G:Nat->Nat->Rat} {q:Rat} (hi:i < R):uN (mkT R C G) i j q=mkT R C λx y=>if x=i/\y=j then q else G x y:=by
 unfold uN
 rw [cE hi]
 unfold mkT
 refine List.ext_getElem (by simp) λx h1 h2=>?_
 rw [List.getElem_set]
 by_cases e:i=x
 · subst e
   rw [if_pos rfl]
   simp only [List.getElem_map,List.getElem_range]
   refine List.ext_getElem (by simp) λy h3 h4=>?_
   rw [List.getElem_set]
   simp only [List.getElem_map,List.getElem_range,true_and]
   by_cases e:j=y
   · rw [if_pos e,if_pos e.symm]
   · rw [if_neg e,if_neg λz=>e z.symm]
 · rw [if_neg e]
   simp only [List.getElem_map,List.getElem_range]
   refine List.map_congr_left λy _=>?_
   rw [if_neg λz=>e z.1.symm]
noncomputable def Cq (w d m:Nat) (r:Nat->Rat):Prop:=∃ D:Int,0 < D/\D.natAbs<=2 ^ d/\∀ a < w,∃ z:Int,(z:Rat)=r a * (D:Rat)/\z.natAbs<=2 ^ m
theorem gW {i j:Int} {a b:Nat} (p:i.natAbs<=2 ^ a) (q:j.natAbs<=2 ^ b):(i * j).natAbs<=2 ^ (a + b):=by rw [Int.natAbs_mul,Nat.pow_add]; exact Nat.mul_le_mul p q
theorem lu {R C i:Nat} {G:Nat->Nat->Rat} (hi:i < R):ixN ((mkT R C G).map λr=>Nd.l ((r.map frD).map .d)).length (i:Int)=some i:=by rw [List.length_map,bM]; exact qx hi
theorem yO {R C i j:Nat} {G:Nat->Nat->Rat} (hi:i < R) (hj:j < C):ixN ((((mkT R C G).getD i []).map frD).map Nd.d).length (j:Int)=some j:=by
 rw [List.length_map,List.length_map,cE hi,List.length_map,List.length_range]
 exact qx hj
theorem qb {R C i j:Nat} {G:Nat->Nat->Rat} (hi:i < R) (hj:j < C):ixN (((mkT R C G).getD i []).map frD).length (j:Int)=some j:=by
 rw [List.length_map,cE hi,List.length_map,List.length_range]
 exact qx hj
theorem iU {R C i:Nat} {G:Nat->Nat->Rat} (hi:i < R):cY [i] (bZ (mkT R C G))=some (.l ((((mkT R C G).getD i []).map frD).map .d)):=vy (by rw [bM]; exact hi)
theorem sE {R C i j:Nat} {G:Nat->Nat->Rat} {q:Rat} (hi:i < R) (hj:j < C) (e:G i j=q):cY [i,j] (bZ (mkT R C G))=some (.d (frD q)):=by
 rw [t5 (by rw [bM]; exact hi) (by rw [cE hi,List.length_map,List.length_range]; exact hj),mq hi hj,e]
theorem Qs.of {t b:Int} {q:Rat} {d v:Nat} (hb:0 < b) (h:(t:Rat)=q * (b:Rat)) (hd:Bd d b) (hv:t.natAbs<=2 ^ v):Qs d v q:=by
 obtain ⟨e1,e2⟩:=cx hb h
 refine ⟨by rw [e2]; exact hd.ediv _,?_⟩
 have h1:q.num.natAbs<=t.natAbs:=by rw [e1]; exact Int.natAbs_ediv_le_natAbs ..
 exact Nat.le_trans h1 (Nat.le_trans hv (Nat.le_mul_of_pos_right _ q.den_pos))
theorem Cq.qs {w d m a:Nat} {r:Nat->Rat} (h:Cq w d m r) (ha:a < w):Qs (d + 1) m (r a):=by
 obtain ⟨D,h0,h1,h⟩:=h
 obtain ⟨z,hz,h2⟩:=h a ha
 refine Qs.of h0 hz ?_ h2
 unfold Bd
 rw [Nat.pow_succ]
 have:=Nat.two_pow_pos d
 omega
section
variable {P:Program} {w:World} {K:PySem.W.Frag} {mg:Str->Option Value} {base:Heap} {k:Nat} {f:Addr} {fd:FuncData} {qual:Str}
end
noncomputable def dn (c:Nat->Nat->Rat):Nat->Nat->Rat:=λi j=>c (i + 1) (j + 1) / c (i - j) (j - i)
noncomputable def nv:Nat->(Nat->Nat->Rat)->Nat->Nat->Rat
 | 0,c=>c
 | n + 1,c=>λi j=>c i 0 * c 0 j * (1 / c 0 0 + ay (λk=>ay (λl=>nv n (dn c) k l / (c (k + 1) 0 * c 0 (l + 1))) j) i)
theorem yN {x y:Rat} (h:x ≠ 0) (g:y ≠ 0):x / y ≠ 0:=λz=>by
 have e:x / y * y=x:=Rat.div_mul_cancel g
 rw [z,Rat.zero_mul] at e
 exact h e.symm
theorem Am {c:Nat->Nat->Rat} (h:∀ i j,c i j ≠ 0):∀ i j,dn c i j ≠ 0:=λi j=>yN (h _ _) (h _ _)
theorem zx:∀ (n:Nat) (c:Nat->Nat->Rat) (i j:Nat),nv n (λx y=>c y x) i j=nv n c j i
 | 0,_,_,_=>rfl
 | n + 1,c,i,j=>by
   have ih:=zx n (dn c)
   have e:dn (λx y=>c y x)=λx y=>dn c y x:=by funext x y; rfl
   show c 0 i * c j 0 * _=c j 0 * c 0 i * _
   rw [e,Rat.mul_comm (c 0 i),fA]
   congr 2
   refine ar λk _=>ar λl _=>?_
   rw [ih]
   show _ / (c 0 (l + 1) * c (k + 1) 0)=_
   rw [Rat.mul_comm (c 0 (l + 1))]
theorem oW:∀ (n:Nat) (M:Nat->Nat->Rat),(∀ i < n,∀ j < i,M i j=0)->(∀ i < n,M i i=1)->det n M=1
 | 0,_,_,_=>rfl
 | n + 1,M,h,d=>by
   rw [cF 1 n M λi h1 h2 j hj=>h i (by omega) j (by omega),oW n M (λi hi=>h i (by omega)) λi hi=>d i (by omega),fD]
   show 1 * M n n=1
   rw [d n (by omega),Rat.one_mul]
theorem zU (n:Nat) (M:Nat->Nat->Rat) (h:∀ i < n,∀ j < n,i < j->M i j=0) (d:∀ i < n,M i i=1):det n M=1:=by
 rw [<- gG]
 exact oW n _ (λi hi j hj=>h j (by omega) i hi hj) d
noncomputable def nvZ (n:Nat) (c:Nat->Nat->Rat) (i j:Nat):Rat:=c 0 j * ay (λl=>nv n (dn c) i l / c 0 (l + 1)) j
theorem An {n:Nat} {c:Nat->Nat->Rat} (h:∀ i j,c i j ≠ 0) (i:Nat):nv (n + 1) c i 0=c i 0:=by
 show c i 0 * c 0 0 * (1 / c 0 0 + ay (λk=>0) i)=_
 rw [fK,Rat.add_zero,Rat.mul_assoc,Rat.mul_comm (c 0 0),Rat.div_mul_cancel (h 0 0),Rat.mul_one]
theorem v5 {n:Nat} {c:Nat->Nat->Rat} (h:∀ i j,c i j ≠ 0) (i j:Nat):nv (n + 1) c (i + 1) j=c (i + 1) 0 / c i 0 * nv (n + 1) c i j + nvZ n c i j:=by
 show c (i + 1) 0 * c 0 j * (1 / c 0 0 + ay (λk=>ay (λl=>nv n (dn c) k l / (c (k + 1) 0 * c 0 (l + 1))) j) (i + 1))=c (i + 1) 0 / c i 0 * (c i 0 * c 0 j * (1 / c 0 0 + ay (λk=>ay (λl=>nv n (dn c) k l / (c (k + 1) 0 * c 0 (l + 1))) j) i)) + nvZ n c i j
 unfold nvZ
 have e:ay (λl=>nv n (dn c) i l / c 0 (l + 1)) j=c (i + 1) 0 * ay (λl=>nv n (dn c) i l / (c (i + 1) 0 * c 0 (l + 1))) j:=by
   rw [aY]
   refine ar λl _=>?_
   have h1:=h (i + 1) 0
   have h2:=h 0 (l + 1)
   grind
 rw [e,ay]
 generalize ay (λk=>ay (λl=>nv n (dn c) k l / (c (k + 1) 0 * c 0 (l + 1))) j) i=S
 generalize ay (λl=>nv n (dn c) i l / (c (i + 1) 0 * c 0 (l + 1))) j=T
 have h1:=h i 0
 grind
noncomputable def nvW (n:Nat) (c:Nat->Nat->Rat) (a:Nat):Nat->Nat->Rat:=λk j=>if k=0 then nv (n + 1) c a j else nvZ n c (a + k - 1) j
theorem qB {n:Nat} {c:Nat->Nat->Rat} (h:∀ i j,c i j ≠ 0) (a j:Nat):∀ r,nv (n + 1) c (a + r) j=ay (λk=>c (a + r) 0 / c (a + k) 0 * nvW n c a k j) (r + 1)
 | 0=>by
   have h1:=h a 0
   show nv (n + 1) c a j=0 + c a 0 / c a 0 * nv (n + 1) c a j
   grind
 | r + 1=>by
   have ih:=qB (n:=n) h a j r
   rw [ay,<- Nat.add_assoc,v5 h,ih,aY]
   have h1:=h (a + r) 0
   have h2:=h (a + r + 1) 0
   congr 1
   · refine ar λk _=>?_
     have h3:=h (a + k) 0
     grind
   · unfold nvW
     rw [if_neg (by omega),show a + (r + 1) - 1=a + r by omega]
     grind
theorem mD {f:Nat->Rat} {m:Nat}:∀ n,m<=n->(∀ k,m<=k->k < n->f k=0)->ay f n=ay f m
 | 0,h,_=>by rw [show m=0 by omega]
 | n + 1,h,g=>by
   by_cases e:m=n + 1
   · rw [e]
   · rw [ay,mD n (by omega) λk h1 h2=>g k h1 (by omega),g n (by omega) (by omega),Rat.add_zero]
theorem wa {n:Nat} {c:Nat->Nat->Rat} (h:∀ i j,c i j ≠ 0) (a j:Nat):sld (nv (n + 1) c) a 0 (1 + j)=c a 0 * sld (nv n (dn c)) a 0 j:=by
 have e1:sld (nv (n + 1) c) a 0 (1 + j)=det (1 + j) (mulQ (1 + j) (λr k=>if k<=r then c (a + r) 0 / c (a + k) 0 else 0) (nvW n c a)):=by
   unfold sld mi
   refine ao λr hr y hy=>?_
   unfold mulQ
   show nv (n + 1) c (a + r) (0 + y)=ay (λk=>(if k<=r then c (a + r) 0 / c (a + k) 0 else 0) * nvW n c a k y) (1 + j)
   rw [Nat.zero_add,qB h a y r,mD (f:=λk=>(if k<=r then c (a + r) 0 / c (a + k) 0 else 0) * nvW n c a k y) (m:=r + 1) (1 + j) (by omega) λk h1 _=>by
     show (if k<=r then _ else (0:Rat)) * _=0
     rw [if_neg (by omega),Rat.zero_mul]]
   refine ar λk hk=>?_
   rw [if_pos (by omega)]
 have e2:det (1 + j) (λr k=>if k<=r then c (a + r) 0 / c (a + k) 0 else 0)=1:=by
   refine zU _ _ (λi _ k _ hk=>if_neg (by omega)) λi _=>?_
   show (if i<=i then c (a + i) 0 / c (a + i) 0 else 0)=(1:Rat)
   rw [if_pos (Nat.le_refl i),Rat.div_def,Rat.mul_inv_cancel _ (h _ _)]
 rw [e1,qL,e2,Rat.one_mul,cF j 1 (nvW n c a) λi h1 h2 y hy=>by
   unfold nvW
   rw [if_neg (by omega),show y=0 by omega]
   show c 0 0 * 0=0
   rw [Rat.mul_zero],fD]
 have e3:nvW n c a 0 0=c a 0:=by
   unfold nvW
   rw [if_pos rfl,An h]
 rw [e3]
 congr 1
 have e4:det j (λr y=>nvW n c a (1 + r) (1 + y))=det j (mulQ j (λr l=>nv n (dn c) (a + r) l) (λl y=>if l<=y then c 0 (y + 1) / c 0 (l + 1) else 0)):=by
   refine ao λr hr y hy=>?_
   unfold nvW nvZ mulQ
   rw [if_neg (by omega),show a + (1 + r) - 1=a + r by omega,mD (f:=λl=>nv n (dn c) (a + r) l * (if l<=y then c 0 (y + 1) / c 0 (l + 1) else 0)) (m:=y + 1) j (by omega) λk h1 _=>by
     show _ * (if k<=y then _ else (0:Rat))=0
     rw [if_neg (by omega),Rat.mul_zero],aY,Nat.add_comm 1 y]
   refine ar λl hl=>?_
   rw [if_pos (by omega)]
   have h3:=h 0 (l + 1)
   grind
 have e5:det j (λl y=>if l<=y then c 0 (y + 1) / c 0 (l + 1) else 0)=1:=by
   refine oW _ _ (λi _ k hk=>if_neg (by omega)) λi _=>?_
   show (if i<=i then c 0 (i + 1) / c 0 (i + 1) else 0)=(1:Rat)
   rw [if_pos (Nat.le_refl i),Rat.div_def,Rat.mul_inv_cancel _ (h _ _)]
 rw [e4,qL,e5,Rat.mul_one]
 unfold sld mi
 refine ao λr hr y hy=>?_
 show _=nv n (dn c) (a + r) (0 + y)
 rw [Nat.zero_add]
theorem tj:∀ (n:Nat) (c:Nat->Nat->Rat),(∀ i j,c i j ≠ 0)->∀ a j,j < n->sld (nv n c) a 0 (j + 1)=c (a + j) j
 | 0,_,_,_,j,hj=>absurd hj (Nat.not_lt_zero j)
 | n + 1,c,h,a,j,hj=>by
   rw [Nat.add_comm j 1,wa h]
   cases j with
   | zero=>
     show c a 0 * 1=c a 0
     rw [Rat.mul_one]
   | succ j=>
     rw [tj n (dn c) (Am h) a j (by omega)]
     unfold dn
     rw [show a + j - j=a by omega,show j - (a + j)=0 by omega,Rat.mul_comm,Rat.div_mul_cancel (h a 0)]
     rfl
theorem tT {n:Nat} {c:Nat->Nat->Rat} (h:∀ i j,c i j ≠ 0) {i j:Nat} (hm:min i j < n):sld (nv n c) (i + 1 - (min i j + 1)) (j + 1 - (min i j + 1)) (min i j + 1)=c i j:=by
 by_cases q:j<=i
 · rw [show min i j=j by omega] at hm ⊢
   have:=tj n c h (i - j) j hm
   rw [show i - j + j=i by omega] at this
   rw [show i + 1 - (j + 1)=i - j by omega,show j + 1 - (j + 1)=0 by omega]
   exact this
 · rw [show min i j=i by omega] at hm ⊢
   have:=tj n (λx y=>c y x) (λx y=>h y x) (j - i) i hm
   rw [show j - i + i=j by omega] at this
   rw [show i + 1 - (i + 1)=0 by omega,show j + 1 - (i + 1)=j - i by omega,<- this]
   unfold sld
   rw [<- zB]
   unfold mi
   exact ao λr hr y hy=>(zx n c _ _).symm
section
variable {P:Program} {w:World} {K:PySem.W.Frag} {mg:Str->Option Value} {base:Heap} {k:Nat} {f:Addr} {fd:FuncData} {qual:Str}
end
noncomputable def lv (c:Nat->Nat->Rat):Nat->Nat->Nat->Rat
 | 0=>c
 | s + 1=>λi j=>c (i + s + 1) (j + s + 1) / c (i - j + s) (j - i + s)
theorem Ar {c:Nat->Nat->Rat} (h:∀ i j,c i j ≠ 0):∀ s,dn (lv c s)=lv c (s + 1)
 | 0=>rfl
 | s + 1=>by
   funext i j
   show c (i + 1 + s + 1) (j + 1 + s + 1) / c (i + 1 - (j + 1) + s) (j + 1 - (i + 1) + s) / (c (i - j + s + 1) (j - i + s + 1) / c (i - j - (j - i) + s) (j - i - (i - j) + s))=c (i + (s + 1) + 1) (j + (s + 1) + 1) / c (i - j + (s + 1)) (j - i + (s + 1))
   rw [show i + 1 - (j + 1)=i - j by omega,show j + 1 - (i + 1)=j - i by omega,show i - j - (j - i)=i - j by omega,show j - i - (i - j)=j - i by omega,show i + 1 + s + 1=i + (s + 1) + 1 by omega,show j + 1 + s + 1=j + (s + 1) + 1 by omega,<- Nat.add_assoc (i - j),<- Nat.add_assoc (j - i)]
   have h1:=h (i - j + s) (j - i + s)
   have h2:=h (i - j + s + 1) (j - i + s + 1)
   generalize c (i - j + s) (j - i + s)=x at h1 ⊢
   generalize c (i - j + s + 1) (j - i + s + 1)=y at h2 ⊢
   grind
noncomputable def nuA (c:Nat->Nat->Rat):Nat->Nat->Rat
 | 0,_=>1
 | s + 1,i=>c (i + s) s
noncomputable def nuB (c:Nat->Nat->Rat):Nat->Nat->Rat
 | 0,_=>1
 | s + 1,j=>c s (j + s)
theorem pj {c:Nat->Nat->Rat} (h:∀ i j,c i j ≠ 0):∀ s i,nuA c s i ≠ 0
 | 0,_=>(by decide:(1:Rat) ≠ 0)
 | s + 1,i=>h _ _
theorem sT {c:Nat->Nat->Rat} (h:∀ i j,c i j ≠ 0):∀ s i,nuB c s i ≠ 0
 | 0,_=>(by decide:(1:Rat) ≠ 0)
 | s + 1,i=>h _ _
theorem yY (c:Nat->Nat->Rat):∀ s i,lv c s i 0=c (i + s) s / nuA c s i
 | 0,i=>by show c i 0=c i 0 / 1; grind
 | s + 1,i=>by
   show c (i + s + 1) (0 + s + 1) / c (i - 0 + s) (0 - i + s)=c (i + (s + 1)) (s + 1) / c (i + s) s
   rw [Nat.zero_add,Nat.zero_sub,Nat.zero_add,Nat.sub_zero]
   rfl
theorem AI (c:Nat->Nat->Rat):∀ s j,lv c s 0 j=c s (j + s) / nuB c s j
 | 0,j=>by show c 0 j=c 0 j / 1; grind
 | s + 1,j=>by
   show c (0 + s + 1) (j + s + 1) / c (0 - j + s) (j - 0 + s)=c (s + 1) (j + (s + 1)) / c s (j + s)
   rw [Nat.zero_add,Nat.zero_sub,Nat.zero_add,Nat.sub_zero]
   rfl
noncomputable def nu (n:Nat) (c:Nat->Nat->Rat) (s i j:Nat):Rat:=nv n (lv c s) i j * (nuA c s i * nuB c s j)
theorem wg {n:Nat} {c:Nat->Nat->Rat} (h:∀ i j,c i j ≠ 0) (s i j:Nat):nu (n + 1) c s i j=c (i + s) s * c s (j + s) * (nuA c s 0 / c s s) + ay (λk=>ay (λl=>c (i + s) s * c s (j + s) * (nu n c (s + 1) k l * (nuA c s (k + 1) * nuB c s (l + 1)) / (c (k + s) s * c (k + 1 + s) s * (c s (l + s) * c s (l + 1 + s))))) j) i:=by
 unfold nu
 show lv c s i 0 * lv c s 0 j * (1 / lv c s 0 0 + ay (λk=>ay (λl=>nv n (dn (lv c s)) k l / (lv c s (k + 1) 0 * lv c s 0 (l + 1))) j) i) * (nuA c s i * nuB c s j)=_
 have a1:=pj h s i
 have b1:=sT h s j
 have e0:lv c s i 0 * lv c s 0 j * (nuA c s i * nuB c s j)=c (i + s) s * c s (j + s):=by
   rw [yY,AI]
   grind
 have e1:1 / lv c s 0 0=nuA c s 0 / c s s:=by
   have:=pj h s 0
   have:=h s s
   rw [yY,Nat.zero_add]
   grind
 have mrc:∀ x y z:Rat,x * y * z=x * z * y:=λx y z=>by rw [Rat.mul_assoc,Rat.mul_comm y,<- Rat.mul_assoc]
 rw [mrc,e0,e1,Rat.mul_add,Ar h,aY]
 congr 1
 refine ar λk _=>?_
 rw [aY]
 refine ar λl _=>?_
 congr 1
 have h1:=pj h s (k + 1)
 have h2:=sT h s (l + 1)
 have h3:=h (k + 1 + s) s
 have h4:=h s (l + 1 + s)
 have h5:=h (k + s) s
 have h6:=h s (l + s)
 rw [yY,AI]
 show _=nv n (lv c (s + 1)) k l * (c (k + s) s * c s (l + s)) * _ / _
 generalize nv n (lv c (s + 1)) k l=w
 generalize nuA c s (k + 1)=x1 at h1 ⊢
 generalize nuB c s (l + 1)=x2 at h2 ⊢
 generalize c (k + 1 + s) s=x3 at h3 ⊢
 generalize c s (l + 1 + s)=x4 at h4 ⊢
 generalize c (k + s) s=x5 at h5 ⊢
 generalize c s (l + s)=x6 at h6 ⊢
 grind
noncomputable def gL (f:Nat->Int):Nat->Int
 | 0=>1
 | n + 1=>gL f n * f n
theorem mK {f:Nat->Int}:∀ {n t:Nat},t < n->∃ q,gL f n=f t * q
 | n + 1,t,h=>by
   by_cases e:t=n
   · subst e
     exact ⟨gL f t,Int.mul_comm ..⟩
   · obtain ⟨q,hq⟩:=mK (f:=f) (n:=n) (t:=t) (by omega)
     exact ⟨q * f n,by rw [gL,hq,Int.mul_assoc]⟩
theorem j3 {f:Nat->Int}:∀ {n t:Nat},t + 1 < n->∃ q,gL f n=f t * f (t + 1) * q
 | n + 1,t,h=>by
   by_cases e:t + 1=n
   · subst e
     exact ⟨gL f t,by rw [gL,gL,Int.mul_assoc,Int.mul_comm]⟩
   · obtain ⟨q,hq⟩:=j3 (f:=f) (n:=n) (t:=t) (by omega)
     exact ⟨q * f n,by rw [gL,hq,Int.mul_assoc]⟩
theorem mC {f:Nat->Int}:∀ {n:Nat},(∀ t < n,f t ≠ 0)->gL f n ≠ 0
 | 0,_=>(by decide:(1:Int) ≠ 0)
 | n + 1,h=>Int.mul_ne_zero (mC λt ht=>h t (by omega)) (h n (by omega))
theorem lb {f:Nat->Int} {b:Nat}:∀ {n:Nat},(∀ t < n,(f t).natAbs<=2 ^ b)->(gL f n).natAbs<=2 ^ (b * n)
 | 0,_=>by show 1<=_; exact Nat.one_le_two_pow
 | n + 1,h=>by
   rw [gL,Nat.mul_succ]
   exact gW (lb λt ht=>h t (by omega)) (h n (by omega))
theorem jX {p f q:Int} (h:p=f * q) (h0:f ≠ 0):q.natAbs<=p.natAbs:=by
 rw [h,Int.natAbs_mul]
 exact Nat.le_mul_of_pos_left _ (by omega)
structure Cn (R C b:Nat) (e:Int) (c:Nat->Nat->Rat) (f:Nat->Nat->Int):Prop where
 ne:∀ i j,c i j ≠ 0
 e0:0 < e
 e1:e.natAbs<=2 ^ b
 eq:∀ i,i < R->∀ j,j < C->((f i j:Int):Rat)=c i j * (e:Rat)
 bd:∀ i,i < R->∀ j,j < C->(f i j).natAbs<=2 ^ b
 r7:R<=7
 c7:C<=7
section
variable {R C b:Nat} {e:Int} {c:Nat->Nat->Rat} {f:Nat->Nat->Int}
theorem Cn.fne (h:Cn R C b e c f) {i j:Nat} (hi:i < R) (hj:j < C):f i j ≠ 0:=λz=>by
 have q:=h.eq i hi j hj
 rw [z] at q
 rcases Rat.mul_eq_zero.mp (show c i j * (e:Rat)=0 from q.symm) with y | y
 · exact h.ne i j y
 · exact tV h.e0 y
noncomputable def vF (e:Int) (f:Nat->Nat->Int):Nat->Nat->Int
 | 0,_=>e
 | s + 1,i=>f (i + s) s
noncomputable def zr (e:Int) (f:Nat->Nat->Int):Nat->Nat->Int
 | 0,_=>e
 | s + 1,j=>f s (j + s)
theorem Cn.fa (h:Cn R C b e c f):∀ {s i:Nat},i + s < R + 1->s<=C->((vF e f s i:Int):Rat)=nuA c s i * (e:Rat)/\(vF e f s i).natAbs<=2 ^ b
 | 0,i,_,_=>⟨(Rat.one_mul _).symm,h.e1⟩
 | s + 1,i,h1,h2=>⟨h.eq _ (by omega) _ (by omega),h.bd _ (by omega) _ (by omega)⟩
theorem Cn.fb (h:Cn R C b e c f):∀ {s i:Nat},i + s < C + 1->s<=R->((zr e f s i:Int):Rat)=nuB c s i * (e:Rat)/\(zr e f s i).natAbs<=2 ^ b
 | 0,i,_,_=>⟨(Rat.one_mul _).symm,h.e1⟩
 | s + 1,i,h1,h2=>⟨h.eq _ (by omega) _ (by omega),h.bd _ (by omega) _ (by omega)⟩
noncomputable def nuC (R:Nat) (f:Nat->Nat->Int) (s:Nat):Int:=gL (λt=>f (t + s) s) (R - s)
noncomputable def nuR (C:Nat) (f:Nat->Nat->Int) (s:Nat):Int:=gL (λt=>f s (t + s)) (C - s)
noncomputable def nuN (R C:Nat) (f:Nat->Nat->Int):Nat->Nat->Int
 | 0,_=>1
 | n + 1,s=>nuN R C f n (s + 1) * (nuC R f s * nuR C f s)
noncomputable def nuM (R C b:Nat):Nat->Nat->Nat
 | 0,_=>0
 | n + 1,s=>nuM R C b n (s + 1) + (4 * b + (b * (R - s) + b * (C - s)) + 7)
noncomputable def nuD (R C b:Nat):Nat->Nat->Nat
 | 0,_=>0
 | n + 1,s=>nuD R C b n (s + 1) + (b * (R - s) + b * (C - s))
theorem sk:∀ n s,nuD R C b n s<=nuM R C b n s
 | 0,_=>Nat.le_refl _
 | n + 1,s=>by have:=sk n (s + 1); unfold nuD nuM; omega
theorem Cn.cr (h:Cn R C b e c f) {s:Nat} (h1:s < R) (h2:s < C):nuC R f s ≠ 0/\(nuC R f s).natAbs<=2 ^ (b * (R - s))/\nuR C f s ≠ 0/\(nuR C f s).natAbs<=2 ^ (b * (C - s)):=
 ⟨mC λt ht=>h.fne (by omega) h2,lb λt ht=>h.bd _ (by omega) _ h2,mC λt ht=>h.fne h1 (by omega),lb λt ht=>h.bd _ h1 _ (by omega)⟩
theorem Cn.nn (h:Cn R C b e c f):∀ {n s:Nat},s + n<=R->s + n<=C->nuN R C f n s ≠ 0/\(nuN R C f n s).natAbs<=2 ^ nuD R C b n s
 | 0,_,_,_=>⟨(by decide:(1:Int) ≠ 0),Nat.le_refl _⟩
 | n + 1,s,h1,h2=>by
   obtain ⟨q1,q2⟩:=h.nn (n:=n) (s:=s + 1) (by omega) (by omega)
   obtain ⟨c1,c2,c3,c4⟩:=h.cr (s:=s) (by omega) (by omega)
   exact ⟨Int.mul_ne_zero q1 (Int.mul_ne_zero c1 c3),gW q2 (gW c2 c4)⟩
theorem eG {z:Int} {b:Nat} (h:z.natAbs<=2 ^ b):ZB b (z:Rat):=⟨z,rfl,h⟩
theorem ZB.plus {m n:Nat} {x y:Rat} (h:ZB m x) (g:ZB n y) (hm:m<=n):ZB (n + 1) (x + y):=by
 obtain ⟨a,rfl,h⟩:=h
 obtain ⟨d,rfl,g⟩:=g
 refine ⟨a + d,(Rat.intCast_add ..).symm,?_⟩
 have:(2:Nat) ^ m<=2 ^ n:=Nat.pow_le_pow_right (by decide) hm
 rw [Nat.pow_succ]
 omega
theorem ZB.Af {b:Nat} {g:Nat->Rat} {n:Nat} (hn:n<=8) (h:∀ i < n,ZB b (g i)):ZB (b + 3) (ay g n):=by
 obtain ⟨z,e,hz⟩:=ZB.sum h
 refine ⟨z,e,Nat.le_trans hz ?_⟩
 rw [Nat.pow_add,Nat.mul_comm]
 exact Nat.mul_le_mul_left _ hn
theorem Cn.zb (h:Cn R C b e c f):∀ (n s:Nat),s + n=min R C->∀ i j,i + s < R->j + s < C->ZB (nuM R C b n s) (nu n c s i j * (((e * e:Int):Rat) * ((nuN R C f n s:Int):Rat)))
 | 0,s,hs,i,j,hi,hj=>absurd hs (by omega)
 | n + 1,s,hs,i,j,hi,hj=>by
   have ih:=h.zb n (s + 1) (by omega)
   obtain ⟨n1,n2⟩:=h.nn (n:=n) (s:=s + 1) (by omega) (by omega)
   obtain ⟨c1,c2,c3,c4⟩:=h.cr (s:=s) (by omega) (by omega)
   have x1:=h.eq (i + s) hi s (by omega)
   have x2:=h.bd (i + s) hi s (by omega)
   have y1:=h.eq s (by omega) (j + s) hj
   have y2:=h.bd s (by omega) (j + s) hj
   have dl:=sk (R:=R) (C:=C) (b:=b) n (s + 1)
   rw [wg h.ne,Rat.add_mul,gU]
   show ZB (nuM R C b n (s + 1) + (4 * b + (b * (R - s) + b * (C - s)) + 7)) (_ * (((e * e:Int):Rat) * ((nuN R C f n (s + 1) * (nuC R f s * nuR C f s):Int):Rat)) + _)
   have first:ZB (nuM R C b n (s + 1) + (4 * b + (b * (R - s) + b * (C - s)))) (c (i + s) s * c s (j + s) * (nuA c s 0 / c s s) * (((e * e:Int):Rat) * ((nuN R C f n (s + 1) * (nuC R f s * nuR C f s):Int):Rat))):=by
     obtain ⟨q,hq⟩:=mK (f:=λt=>f (t + s) s) (n:=R - s) (t:=0) (by omega)
     have hq:nuC R f s=f s s * q:=by
       have:nuC R f s=f (0 + s) s * q:=hq
       rwa [Nat.zero_add] at this
     have f0:=h.fne (i:=s) (j:=s) (by omega) (by omega)
     have q2:=Nat.le_trans (jX hq f0) c2
     obtain ⟨a1,a2⟩:=h.fa (s:=s) (i:=0) (by omega) (by omega)
     have d1:=h.eq s (by omega) s (by omega)
     have z:=(((eG x2).mul (eG y2)).mul (eG a2)).mul ((eG n2).mul ((eG q2).mul (eG c4)))
     have e1:c (i + s) s * c s (j + s) * (nuA c s 0 / c s s) * (((e * e:Int):Rat) * ((nuN R C f n (s + 1) * (nuC R f s * nuR C f s):Int):Rat))=((f (i + s) s:Int):Rat) * ((f s (j + s):Int):Rat) * ((vF e f s 0:Int):Rat) * (((nuN R C f n (s + 1):Int):Rat) * ((q:Rat) * ((nuR C f s:Int):Rat))):=by
       rw [hq,x1,y1,a1]
       simp only [Rat.intCast_mul]
       rw [d1]
       have cn:nuA c s 0 / c s s * c s s=nuA c s 0:=Rat.div_mul_cancel (h.ne s s)
       generalize nuA c s 0 / c s s=w at cn ⊢
       rw [<- cn]
       generalize c s s=g1
       generalize c (i + s) s=g2
       generalize c s (j + s)=g3
       grind
     rw [e1]
     exact z.mono (by omega)
   have rest:∀ k < i,∀ l < j,ZB (nuM R C b n (s + 1) + (4 * b + (b * (R - s) + b * (C - s)))) (c (i + s) s * c s (j + s) * (nu n c (s + 1) k l * (nuA c s (k + 1) * nuB c s (l + 1)) / (c (k + s) s * c (k + 1 + s) s * (c s (l + s) * c s (l + 1 + s)))) * (((e * e:Int):Rat) * ((nuN R C f n (s + 1) * (nuC R f s * nuR C f s):Int):Rat))):=λk hk l hl=>by
     obtain ⟨q,hq⟩:=j3 (f:=λt=>f (t + s) s) (n:=R - s) (t:=k) (by omega)
     obtain ⟨r,hr⟩:=j3 (f:=λt=>f s (t + s)) (n:=C - s) (t:=l) (by omega)
     have hq:nuC R f s=f (k + s) s * f (k + 1 + s) s * q:=hq
     have hr:nuR C f s=f s (l + s) * f s (l + 1 + s) * r:=hr
     have q2:=Nat.le_trans (jX hq (Int.mul_ne_zero (h.fne (i:=k + s) (j:=s) (by omega) (by omega)) (h.fne (i:=k + 1 + s) (j:=s) (by omega) (by omega)))) c2
     have r2:=Nat.le_trans (jX hr (Int.mul_ne_zero (h.fne (i:=s) (j:=l + s) (by omega) (by omega)) (h.fne (i:=s) (j:=l + 1 + s) (by omega) (by omega)))) c4
     obtain ⟨a1,a2⟩:=h.fa (s:=s) (i:=k + 1) (by omega) (by omega)
     obtain ⟨b1,b2⟩:=h.fb (s:=s) (i:=l + 1) (by omega) (by omega)
     have u:=ih k l (by omega) (by omega)
     have z:=u.mul ((((eG x2).mul (eG y2)).mul ((eG a2).mul (eG b2))).mul ((eG q2).mul (eG r2)))
     have e1:c (i + s) s * c s (j + s) * (nu n c (s + 1) k l * (nuA c s (k + 1) * nuB c s (l + 1)) / (c (k + s) s * c (k + 1 + s) s * (c s (l + s) * c s (l + 1 + s)))) * (((e * e:Int):Rat) * ((nuN R C f n (s + 1) * (nuC R f s * nuR C f s):Int):Rat))=nu n c (s + 1) k l * (((e * e:Int):Rat) * ((nuN R C f n (s + 1):Int):Rat)) * (((f (i + s) s:Int):Rat) * ((f s (j + s):Int):Rat) * (((vF e f s (k + 1):Int):Rat) * ((zr e f s (l + 1):Int):Rat)) * ((q:Rat) * (r:Rat))):=by
       rw [hq,hr,x1,y1,a1,b1]
       simp only [Rat.intCast_mul]
       rw [h.eq (k + s) (by omega) s (by omega),h.eq (k + 1 + s) (by omega) s (by omega),h.eq s (by omega) (l + s) (by omega),h.eq s (by omega) (l + 1 + s) (by omega)]
       have h5:=h.ne (k + s) s
       have h6:=h.ne (k + 1 + s) s
       have h7:=h.ne s (l + s)
       have h8:=h.ne s (l + 1 + s)
       generalize nu n c (s + 1) k l=w
       generalize nuA c s (k + 1)=g1
       generalize nuB c s (l + 1)=g2
       generalize c (i + s) s=g3
       generalize c s (j + s)=g4
       generalize c (k + s) s=g5 at h5 ⊢
       generalize c (k + 1 + s) s=g6 at h6 ⊢
       generalize c s (l + s)=g7 at h7 ⊢
       generalize c s (l + 1 + s)=g8 at h8 ⊢
       have cn:w * (g1 * g2) / (g5 * g6 * (g7 * g8)) * (g5 * g6 * (g7 * g8))=w * (g1 * g2):=Rat.div_mul_cancel λz=>by
         rcases Rat.mul_eq_zero.mp z with z | z
         · rcases Rat.mul_eq_zero.mp z with z | z
           · exact h5 z
           · exact h6 z
         · rcases Rat.mul_eq_zero.mp z with z | z
           · exact h7 z
           · exact h8 z
       generalize w * (g1 * g2) / (g5 * g6 * (g7 * g8))=t at cn ⊢
       generalize ((nuN R C f n (s + 1):Int):Rat)=nn
       generalize (q:Rat)=qq
       generalize (r:Rat)=rr
       generalize (e:Rat)=ee
       grind
     rw [e1]
     exact z.mono (by omega)
   have sums:=ZB.Af (n:=i) (by have:=h.r7; omega) λk hk=>by
     have:=ZB.Af (n:=j) (by have:=h.c7; omega) λl hl=>rest k hk l hl
     rw [<- gU] at this
     exact this
   exact (first.plus sums (by omega)).mono (by omega)
end
section
variable {P:Program} {w:World} {K:PySem.W.Frag} {mg:Str->Option Value} {base:Heap} {k:Nat} {f:Addr} {fd:FuncData} {qual:Str}
end
theorem vN {z D:Int} {q:Rat} (hD:0 < D) (h:(z:Rat)=q * (D:Rat)):((q.den:Nat):Int) ∣ D:=by
 have e:=(cx hD h).2
 exact ⟨(Int.gcd z D:Int),by rw [e,Int.ediv_mul_cancel (Int.gcd_dvd_right ..)]⟩
theorem wd {s D:Int} (hs:0 < s) {q:Rat} (h1:s ∣ D) (h2:((q.den:Nat):Int) ∣ D):scS s q ∣ D:=by
 have e:scS s q=((Nat.lcm s.natAbs q.den:Nat):Int):=by
   rw [<- xP hs q]
   unfold Nat.lcm
   rw [Int.natCast_ediv,Int.natCast_mul,Int.natAbs_of_nonneg (by omega)]
   rfl
 rw [e]
 refine Int.ofNat_dvd_left.mpr (Nat.lcm_dvd (Int.natAbs_dvd_natAbs.mpr h1) (Int.ofNat_dvd_left.mp h2))
theorem qe {D:Int}:∀ (r:List Rat) (s:Int),0 < s->s ∣ D->(∀ q ∈ r,((q.den:Nat):Int) ∣ D)->r.foldl scS s ∣ D
 | [],_,_,h,_=>h
 | q :: r,s,hs,h,hr=>qe r (scS s q) (tN hs q).1 (wd hs h (hr q (List.mem_cons_self ..))) λx hx=>hr x (List.mem_cons_of_mem _ hx)
theorem vW {D:Int} {r:List Rat} (hr:∀ q ∈ r,((q.den:Nat):Int) ∣ D):scL r ∣ D:=qe r 1 (by decide) (Int.one_dvd _) hr
theorem kx {s:Nat->Rat}:∀ n,(∀ i < n,0 < s i)->0 < gJ s n
 | 0,_=>(by decide:(0:Rat) < 1)
 | n + 1,h=>Rat.mul_pos (kx n λi hi=>h i (by omega)) (h n (by omega))
theorem ue {R C a b k:Nat} {M:List (List Rat)} (t:Tq R C M) (ha:a + k<=R) (hb:b + k<=C):0 < sld (dtM (whM M (M.map scL))) a b k ↔ 0 < sld (qM M) a b k:=by
 have e:sld (dtM (whM M (M.map scL))) a b k=gJ (λr=>((scL (M.getD (a + r) []):Int):Rat)) k * sld (qM M) a b k:=by
   unfold sld mi
   rw [<- hJ (n:=k) _ (λr c=>qM M (a + r) (b + c)) k (Nat.le_refl _)]
   refine ao λi hi j hj=>?_
   rw [if_pos hi]
   have hi':a + i < M.length:=by rw [t.len]; omega
   have hj':b + j < (M.getD (a + i) []).length:=by rw [t.at_ (by omega)]; omega
   have sc:(M.map scL).getD (a + i) 0=scL (M.getD (a + i) []):=by simp [hi']
   unfold dtM
   rw [uS hi' hj',sc,zL ((fo _).2 _ (bh hj')),Rat.mul_comm]
   rfl
 have p:=kx (s:=λr=>((scL (M.getD (a + r) []):Int):Rat)) k λi _=>(show ((0:Int):Rat) < _ from Rat.intCast_lt_intCast.mpr (fo _).1)
 rw [e]
 constructor
 · exact l4 p
 · exact λh=>Rat.mul_pos p h
theorem ow {R:List (List Int)} {m n b:Nat} (ok:Rw m n b R):(fuO R m n 1).isNone=true ↔ ∀ i,i < m->∀ j,j < n->0 < sld (dtM R) (i + 1 - cnS i j) (j + 1 - cnS i j) (cnS i j):=by
 rw [Option.isNone_iff_eq_none,qw,jT ok]
 constructor
 · intro h i hi j hj
   exact h _ _ _ (by unfold cnS; omega) (by unfold cnS; omega) (by unfold cnS; omega) (by unfold cnS; omega)
 · intro h k a b' h1 h2 h3 h4
   have:=h (a + k - 1) (by omega) (b' + k - 1) (by omega)
   have e:cnS (a + k - 1) (b' + k - 1)=k:=by unfold cnS; omega
   rw [e,show a + k - 1 + 1 - k=a by omega,show b' + k - 1 + 1 - k=b' by omega] at this
   exact this
theorem AF {C d m:Nat} {g:Nat->Rat} (h:Cq C d m g):∀ x ∈ whR ((List.range C).map g) (scL ((List.range C).map g)),x.natAbs<=2 ^ m:=λx hx=>by
 unfold whR at hx
 obtain ⟨q,hq,rfl⟩:=List.mem_map.mp hx
 obtain ⟨D,d0,d1,gg⟩:=h
 have dv:scL ((List.range C).map g) ∣ D:=vW λy hy=>by
   obtain ⟨b,hb,rfl⟩:=List.mem_map.mp hy
   obtain ⟨z,hz,_⟩:=gg b (List.mem_range.mp hb)
   exact vN d0 hz
 have so:=fo ((List.range C).map g)
 have wq:=zL (so.2 q hq)
 obtain ⟨a,ha,rfl⟩:=List.mem_map.mp hq
 obtain ⟨z,hz,z1⟩:=gg a (List.mem_range.mp ha)
 generalize scL ((List.range C).map g)=s at dv so wq ⊢
 generalize (g a).num * (s / ((g a).den:Nat))=y at wq ⊢
 obtain ⟨t,rfl⟩:=dv
 have ez:z=y * t:=by
   have:(z:Rat)=((y * t:Int):Rat):=by rw [hz,Rat.intCast_mul,Rat.intCast_mul,wq,Rat.mul_assoc]
   exact Rat.intCast_inj.mp this
 have t0:t ≠ 0:=λz=>by rw [z,Int.mul_zero] at d0; exact absurd d0 (by decide)
 rw [ez,Int.natAbs_mul] at z1
 exact Nat.le_trans (Nat.le_mul_of_pos_right _ (by omega)) z1
theorem rw_cq {R C d m:Nat} {G:Nat->Nat->Rat} (r1:1<=R) (r7:R<=7) (c1:1<=C) (c7:C<=7) (hm:m + 1<=1400) (h:∀ i < R,Cq C d m (G i)):Rw R C (m + 1) (whM (mkT R C G) ((mkT R C G).map scL)):=by
 refine ⟨by unfold whM; simp [bM],λr hr=>?_,⟨r1,r7⟩,⟨c1,c7⟩,hm⟩
 unfold whM at hr
 obtain ⟨i,hi,rfl⟩:=List.mem_map.mp hr
 rw [List.mem_range,bM] at hi
 have e:((mkT R C G).map scL).getD i 0=scL ((mkT R C G).getD i []):=by simp [show i < (mkT R C G).length by rw [bM]; exact hi]
 rw [e,cE hi]
 refine ⟨by unfold whR; simp,λx hx=>?_⟩
 have:=AF (h i hi) x hx
 unfold Bd
 rw [Nat.pow_succ]
 have:=Nat.two_pow_pos m
 omega
theorem wM (m:Nat) (Y:Nat->Nat->Rat):det (m + 1) Y=Y m m * det m Y + det (m + 1) λr c=>if r=m/\c=m then 0 else Y r c:=by
 rw [jB,jB m λr c=>if r=m/\c=m then 0 else Y r c,ay,ay]
 have e1:det m (λr q=>Y r (skp m q))=det m Y:=ao λr _ q hq=>by unfold skp; rw [if_pos hq]
 have e2:sgn (m + m)=1:=by unfold sgn; rw [if_pos (by omega)]
 have e3:ay (λc=>sgn (m + c) * (if m=m/\c=m then 0 else Y m c) * det m λr q=>if r=m/\skp c q=m then 0 else Y r (skp c q)) m=ay (λc=>sgn (m + c) * Y m c * det m λr q=>Y r (skp c q)) m:=ar λc hc=>by
   rw [if_neg (by omega)]
   congr 1
   exact ao λr hr q _=>if_neg (by omega)
 rw [e1,e2,e3]
 show _ + 1 * Y m m * det m Y=Y m m * det m Y + (_ + 1 * (if m=m/\m=m then (0:Rat) else Y m m) * _)
 rw [if_pos ⟨rfl,rfl⟩]
 grind
noncomputable def mdK (C:Nat) (Y:Nat->Nat->Rat) (k:Nat):Nat->Nat->Rat:=λx y=>if C * x + y < k then Y x y else 0
theorem Au (C:Nat) (Y:Nat->Nat->Rat):mdK C Y 0=λ_ _=>0:=by
 funext x y
 exact if_neg (by omega)
theorem wY {R C:Nat} {Y:Nat->Nat->Rat}:mkT R C (mdK C Y (C * R))=mkT R C Y:=hX λi hi j hj=>if_pos (by
 have:C * (i + 1)<=C * R:=Nat.mul_le_mul_left _ hi
 rw [Nat.mul_succ] at this
 omega)
theorem wG {C x y i j:Nat} (hy:y < C) (hj:j < C) (h:C * x + y=C * i + j):x=i/\y=j:=by
 have e1:(C * x + y) / C=x:=by rw [Nat.mul_add_div (by omega),Nat.div_eq_of_lt hy,Nat.add_zero]
 have e2:(C * i + j) / C=i:=by rw [Nat.mul_add_div (by omega),Nat.div_eq_of_lt hj,Nat.add_zero]
 rw [h,e2] at e1
 subst e1
 exact ⟨rfl,by omega⟩
theorem wV {R C i j:Nat} {Y:Nat->Nat->Rat} (hi:i < R) (hj:j < C):uN (mkT R C (mdK C Y (C * i + j))) i j (Y i j)=mkT R C (mdK C Y (C * i + (j + 1))):=by
 rw [qX hi]
 refine hX λx _ y hy=>?_
 unfold mdK
 by_cases e:x=i/\y=j
 · rw [if_pos e,e.1,e.2,if_pos (by omega)]
 · rw [if_neg e]
   by_cases h:C * x + y < C * i + j
   · rw [if_pos h,if_pos (by omega)]
   · rw [if_neg h,if_neg λz=>e (wG hy hj (by omega))]
theorem wZ (R C i:Nat) (Y:Nat->Nat->Rat):mdK C Y (C * i + C)=mdK C Y (C * (i + 1)):=by rw [Nat.mul_succ]
theorem rg {n R C i j:Nat} {c:Nat->Nat->Rat} (h:∀ i j,c i j ≠ 0) (hi:1<=i) (hj:1<=j) (hiR:i < R) (hjC:j < C) (hn:min i j < n):coQ (mkT R C (mdK C (nv n c) (C * i + j))) i j=c i j - nv n c i j * c (i - 1) (j - 1):=by
 have full:=tT h (i:=i) (j:=j) hn
 have less:=tT h (i:=i - 1) (j:=j - 1) (n:=n) (by omega)
 have em:min (i - 1) (j - 1) + 1=min i j:=by omega
 rw [em,show i - 1 + 1 - min i j=i - min i j by omega,show j - 1 + 1 - min i j=j - min i j by omega] at less
 rw [show i + 1 - (min i j + 1)=i - min i j by omega,show j + 1 - (min i j + 1)=j - min i j by omega] at full
 have aff:=wM (min i j) λr y=>nv n c (i - min i j + r) (j - min i j + y)
 have e1:sld (nv n c) (i - min i j) (j - min i j) (min i j + 1)=det (min i j + 1) λr y=>nv n c (i - min i j + r) (j - min i j + y):=rfl
 have e2:sld (nv n c) (i - min i j) (j - min i j) (min i j)=det (min i j) λr y=>nv n c (i - min i j + r) (j - min i j + y):=rfl
 rw [<- e1,<- e2,full,less,show i - min i j + min i j=i by omega,show j - min i j + min i j=j by omega] at aff
 have e3:coQ (mkT R C (mdK C (nv n c) (C * i + j))) i j=det (min i j + 1) λr y=>if r=min i j/\y=min i j then 0 else nv n c (i - min i j + r) (j - min i j + y):=by
   unfold coQ sld mi cnS
   refine ao λr hr y hy=>?_
   unfold qM
   show ((mkT R C (mdK C (nv n c) (C * i + j))).getD (i + 1 - (min i j + 1) + r) []).getD (j + 1 - (min i j + 1) + y) 0=_
   rw [mq (by omega) (by omega),show i + 1 - (min i j + 1)=i - min i j by omega,show j + 1 - (min i j + 1)=j - min i j by omega]
   unfold mdK
   by_cases e:r=min i j/\y=min i j
   · rw [if_pos e,if_neg (by rw [e.1,e.2,show i - min i j + min i j=i by omega,show j - min i j + min i j=j by omega]; omega)]
   · rw [if_neg e,if_pos]
     by_cases q:r=min i j
     · rw [q,show i - min i j + min i j=i by omega]
       omega
     · have:C * (i - min i j + r + 1)<=C * i:=Nat.mul_le_mul_left _ (by omega)
       rw [Nat.mul_succ] at this
       omega
 rw [e3]
 generalize (det (min i j + 1) λr y=>if r=min i j/\y=min i j then 0 else nv n c (i - min i j + r) (j - min i j + y))=w at aff ⊢
 rw [aff]
 grind
theorem xv {n:Nat} {c:Nat->Nat->Rat} (h:∀ i j,c i j ≠ 0) (hn:1<=n) (i:Nat):nv n c i 0=c i 0:=by
 obtain ⟨m,rfl⟩:∃ m,n=m + 1:=⟨n - 1,by omega⟩
 exact An h i
theorem Ae {n:Nat} {c:Nat->Nat->Rat} (h:∀ i j,c i j ≠ 0) (hn:1<=n) (j:Nat):nv n c 0 j=c 0 j:=by
 rw [<- zx]
 exact xv (c:=λx y=>c y x) (λx y=>h y x) hn j
theorem pG {n R C i j:Nat} {c:Nat->Nat->Rat} (h:∀ i j,c i j ≠ 0) (hi:i < R) (hj:j < C) (hn:min i j < n):coQ (mkT R C (nv n c)) i j=c i j:=by
 rw [<- tT h (i:=i) (j:=j) hn]
 unfold coQ sld mi cnS
 refine ao λr hr y hy=>?_
 unfold qM
 show ((mkT R C (nv n c)).getD (i + 1 - (min i j + 1) + r) []).getD (j + 1 - (min i j + 1) + y) 0=_
 rw [mq (by omega) (by omega)]
theorem Cn.cq {R C b:Nat} {e:Int} {c:Nat->Nat->Rat} {f:Nat->Nat->Int} (h:Cn R C b e c f):∀ i < R,Cq C (b + b + nuD R C b (min R C) 0) (nuM R C b (min R C) 0) (nv (min R C) c i):=λi hi=>by
 obtain ⟨n1,n2⟩:=h.nn (n:=min R C) (s:=0) (by omega) (by omega)
 have e0:=h.e0
 have ee:(e * e).natAbs<=2 ^ (b + b):=gW h.e1 h.e1
 have ep:0 < e * e:=Int.mul_pos e0 e0
 refine ⟨(((e * e * nuN R C f (min R C) 0).natAbs:Nat):Int),?_,?_,λa ha=>?_⟩
 · have:e * e * nuN R C f (min R C) 0 ≠ 0:=Int.mul_ne_zero (by omega) n1
   omega
 · rw [Int.natAbs_natCast]
   exact gW ee n2
 · obtain ⟨z,hz,z1⟩:=h.zb (min R C) 0 (by omega) i a (by omega) (by omega)
   have hz:nv (min R C) c i a * ((e * e * nuN R C f (min R C) 0:Int):Rat)=(z:Rat):=by
     rw [<- hz]
     show _=nv (min R C) c i a * (1 * 1) * _
     rw [Rat.intCast_mul (e * e),Rat.mul_one,Rat.mul_one]
   generalize e * e * nuN R C f (min R C) 0=w at hz ⊢
   rcases Int.natAbs_eq w with q | q
   · exact ⟨z,by rw [<- q,hz],z1⟩
   · refine ⟨-z,?_,by rw [Int.natAbs_neg]; exact z1⟩
     rw [show ((w.natAbs:Nat):Int)=-w by omega,Rat.intCast_neg,Rat.intCast_neg,Rat.mul_neg,hz]
section
variable {P:Program} {w:World} {K:PySem.W.Frag} {mg:Str->Option Value} {base:Heap} {k:Nat} {f:Addr} {fd:FuncData} {qual:Str}
end
noncomputable def sg (x y:Rat):Int:=(Int.gcd (x.den:Nat) (y.den:Nat):Int)
noncomputable def stop (x y:Rat):Int:=x.num * (((y.den:Nat):Int) / sg x y) + y.num * (((x.den:Nat):Int) / sg x y)
noncomputable def sdiv (x y:Rat):Int:=(Int.gcd (stop x y) (sg x y):Int)
theorem Ab {t:Int} {d g:Nat} {h1 h2 h3 h4}:(Rat.maybeNormalize t d g h1 h2 h3 h4).num=t / (g:Int)/\(Rat.maybeNormalize t d g h1 h2 h3 h4).den=d / g:=by
 unfold Rat.maybeNormalize
 split
 · rename_i e
   subst e
   exact ⟨(Int.ediv_one _).symm,(Nat.div_one _).symm⟩
 · exact ⟨rfl,rfl⟩
theorem Bf (x y:Rat):(x + y).num=stop x y / sdiv x y/\(((x + y).den:Nat):Int)=((x.den:Nat):Int) / sg x y * (((y.den:Nat):Int) / sdiv x y):=by
 have hg:sg x y=((x.den.gcd y.den:Nat):Int):=rfl
 show (Rat.add x y).num=_/\(((Rat.add x y).den:Nat):Int)=_
 unfold Rat.add
 by_cases h:x.den.gcd y.den=1
 · simp only [dif_pos h]
   have e1:sg x y=1:=by rw [hg,h]; rfl
   have e2:sdiv x y=1:=by unfold sdiv; rw [e1,Int.gcd_one_right]; rfl
   unfold stop
   rw [e2,e1,Int.ediv_one,Int.ediv_one,Int.ediv_one]
   exact ⟨rfl,Int.natCast_mul _ _⟩
 · simp only [dif_neg h]
   have d:sdiv x y=(((stop x y).natAbs.gcd (x.den.gcd y.den):Nat):Int):=rfl
   have dd:(stop x y).natAbs.gcd (x.den.gcd y.den) ∣ y.den:=Nat.dvd_trans (Nat.gcd_dvd_right _ _) (Nat.gcd_dvd_right _ _)
   refine ⟨Ab.1,?_⟩
   rw [Ab.2,d]
   show ((x.den / x.den.gcd y.den * y.den / (stop x y).natAbs.gcd (x.den.gcd y.den):Nat):Int)=((x.den / x.den.gcd y.den:Nat):Int) * ((y.den / (stop x y).natAbs.gcd (x.den.gcd y.den):Nat):Int)
   rw [Nat.mul_div_assoc _ dd,Int.natCast_mul]
theorem yv (x y:Rat):(x * y).num=x.num / (Int.gcd x.num (y.den:Nat):Int) * (y.num / (Int.gcd y.num (x.den:Nat):Int))/\(((x * y).den:Nat):Int)=((x.den:Nat):Int) / (Int.gcd y.num (x.den:Nat):Int) * (((y.den:Nat):Int) / (Int.gcd x.num (y.den:Nat):Int)):=by
 show (Rat.mul x y).num=_/\(((Rat.mul x y).den:Nat):Int)=_
 unfold Rat.mul
 exact ⟨rfl,rfl⟩
theorem inv_mul {q:Rat} (h0:q ≠ 0):((((q.den:Nat):Int)):Rat)=q⁻¹ * (q.num:Rat):=by
 rw [<- fE q,<- Rat.mul_assoc,Rat.inv_mul_cancel q h0,Rat.one_mul]
theorem Sq.inv {n:Nat} {q:Rat} (h:Sq n q) (h0:q ≠ 0):Sq n q⁻¹:=by
 have hn:q.num ≠ 0:=λz=>h0 (Rat.num_eq_zero.mp z)
 have e:=inv_mul h0
 rcases Int.lt_or_lt_of_ne hn with z | z
 · exact Sq.cx (t:=-((q.den:Nat):Int)) (b:=-q.num) (by omega) (by rw [Rat.intCast_neg,Rat.intCast_neg,e,Rat.mul_neg]) h.den.neg h.num.neg
 · exact Sq.cx z e h.den h.num
theorem sY (p q:Rat):((p.num * ((q.den:Nat):Int) + q.num * ((p.den:Nat):Int):Int):Rat)=(p + q) * (((p.den:Nat):Int) * ((q.den:Nat):Int):Int):=by
 rw [Rat.intCast_add,Rat.intCast_mul,Rat.intCast_mul,Rat.intCast_mul,<- fE p,<- fE q]
 grind
theorem Sq.add {m n:Nat} {p q:Rat} (h:Sq m p) (g:Sq n q):Sq (m + n + 1) (p + q):=Sq.cx (Int.mul_pos (den_pos p) (den_pos q)) (sY p q) ((h.num.mul g.den).add ((Nat.add_comm m n) ▸ g.num.mul h.den)) ((h.den.mul g.den).mono (by omega))
theorem Sq.neg {n:Nat} {q:Rat} (h:Sq n q):Sq n (-q):=⟨h.num.neg,h.den⟩
theorem sS (q:Rat):frD (-q)=.tup [.int (-q.num),.int (q.den:Nat)]:=by
 unfold frD
 rw [show (-q).num=-q.num from rfl,show (-q).den=q.den from rfl]
noncomputable def jR (ds:List D) (r:Sl):Prop:=∃ (m n:Nat) (p q:Rat),ds=[frD p,frD q]/\Sq m p/\Sq n q/\m + n<=8990/\r=.d (frD (p + q))
noncomputable def ir (ds:List D) (r:Sl):Prop:=∃ (m n:Nat) (p q:Rat),ds=[frD p,frD q]/\Sq m p/\Sq n q/\m + n<=8990/\r=.d (frD (p - q))
noncomputable def dR (ds:List D) (r:Sl):Prop:=∃ (m n:Nat) (p q:Rat),ds=[frD p,frD q]/\Sq m p/\Sq n q/\m + n<=8990/\r=.d (frD (p * q))
noncomputable def dg (ds:List D) (r:Sl):Prop:=∃ (m n:Nat) (p q:Rat),ds=[frD p,frD q]/\q ≠ 0/\Sq m p/\Sq n q/\m + n<=8990/\r=.d (frD (p / q))
section
variable {P:Program} {w:World} {K:PySem.W.Frag} {mg:Str->Option Value} {base:Heap} {k:Nat} {f:Addr} {fd:FuncData} {qual:Str}
theorem rl (F:Fun K "sum_of" qual (top 13) f fd) (hb:∀ x ∈ aq,mg x=none) (c_common_divisor:Cal P w K mg base k "common_divisor" aV):aS P w K mg base CX0 (k + 1) f fd ["one","other"] (spD K jR):=by
 refine fnD F kr hb (by rintro _ _ ⟨_,_,_,_,rfl,_⟩; rfl) ?_
 rintro _ _ ⟨m,n,p,q,rfl,h1,h2,hl,rfl⟩ cdv A outer s H E b
 have nd:=kr.nd
 have hq:=den_pos q
 have hp:=den_pos p
 have s0:sg p q ≠ 0:=dW (by omega)
 have sb:Bd n (sg p q):=h2.den.gcd (by omega)
 have g0:sdiv p q ≠ 0:=dW s0
 have gb:Bd n (sdiv p q):=sb.gcd s0
 have fd1:∀ t:Int,t.fdiv (sg p q)=t / sg p q:=λt=>aU t
 have fd2:∀ t:Int,t.fdiv (sdiv p q)=t / sdiv p q:=λt=>aU t
 refine aB 2 nd (x_call b c_common_divisor (ae (aM (aa 0) af (aQ (aK (i:=1) rfl))) (ae (aM (aa 1) af (aQ (aK (i:=1) rfl))) ag)) ⟨_,_,rfl,rfl⟩) ?_
 show PSs _ _ (dS K [_,_,.d (.int (sg p q)),_,_] _)
 have e3:p.num * ((q.den:Nat):Int).fdiv (sg p q) + q.num * ((p.den:Nat):Int).fdiv (sg p q)=stop p q:=by rw [fd1,fd1]; rfl
 refine aB 3 nd (aC (aC (aM (aa 0) af (aQ (aK (i:=0) rfl))) (aC (aM (aa 1) af (aQ (aK (i:=1) rfl))) (aa 2) (a9 (sb.aD s0 (by omega)))) (bb (by rw [fd1]; exact h1.num.aE (h2.den.ediv _) (by omega) (by omega)))) (aC (aM (aa 1) af (aQ (aK (i:=0) rfl))) (aC (aM (aa 0) af (aQ (aK (i:=1) rfl))) (aa 2) (a9 (sb.aD s0 (by omega)))) (bb (by rw [fd1]; exact h2.num.aE (h1.den.ediv _) (by omega) (by omega)))) bj) ?_
 rw [e3]
 refine aB 4 nd (x_call b c_common_divisor (ae (aa 3) (ae (aa 2) ag)) ⟨_,_,rfl,rfl⟩) ?_
 show PSs _ _ (dS K [_,_,_,_,.d (.int (sdiv p q))] _)
 obtain ⟨q1,q2⟩:=Bf p q
 refine aO (cw (ae (aC (aa 3) (aa 4) (a9 (gb.aD g0 (by omega)))) (ae (aC (aC (aM (aa 0) af (aQ (aK (i:=1) rfl))) (aa 2) (a9 (sb.aD s0 (by omega)))) (aC (aM (aa 1) af (aQ (aK (i:=1) rfl))) (aa 4) (a9 (gb.aD g0 (by omega)))) (bb (by rw [fd1,fd2]; exact (h1.den.ediv _).aE (h2.den.ediv _) (by omega) (by omega)))) ag))) ?_
 rw [fd1,fd2,fd2,<- q1,<- q2]
 rfl
theorem oF (F:Fun K "rest_of" qual (top 14) f fd) (hb:∀ x ∈ aq,mg x=none) (c_sum_of:Cal P w K mg base k "sum_of" jR):aS P w K mg base CX0 (k + 1) f fd ["one","other"] (spD K ir):=by
 refine fnD F pO hb (by rintro _ _ ⟨_,_,_,_,rfl,_⟩; rfl) ?_
 rintro _ _ ⟨m,n,p,q,rfl,h1,h2,hl,rfl⟩ cdv A outer s H E b
 exact aO (x_call b c_sum_of (ae (aa 0) (ae (cw (ae (jS (aM (aa 1) af (aQ (aK (i:=0) rfl)))) (ae (aM (aa 1) af (aQ (aK (i:=1) rfl))) ag))) ag)) ⟨m,n,p,-q,by rw [sS],h1,h2.neg,hl,by rw [Rat.sub_eq_add_neg]⟩) rfl
theorem kq (F:Fun K "product_of" qual (top 15) f fd) (hb:∀ x ∈ aq,mg x=none) (c_common_divisor:Cal P w K mg base k "common_divisor" aV):aS P w K mg base CX0 (k + 1) f fd ["one","other"] (spD K dR):=by
 refine fnD F fV hb (by rintro _ _ ⟨_,_,_,_,rfl,_⟩; rfl) ?_
 rintro _ _ ⟨m,n,p,q,rfl,h1,h2,hl,rfl⟩ cdv A outer s H E b
 have nd:=fV.nd
 have hq:=den_pos q
 have hp:=den_pos p
 have n1:(Int.gcd p.num (q.den:Nat):Int) ≠ 0:=dW (by omega)
 have n2:(Int.gcd q.num (p.den:Nat):Int) ≠ 0:=dW (by omega)
 have d1:=(h2.den.gcd (i:=p.num) (by omega)).aD n1 (by omega)
 have d2:=(h1.den.gcd (i:=q.num) (by omega)).aD n2 (by omega)
 obtain ⟨q1,q2⟩:=yv p q
 refine aB 2 nd (x_call b c_common_divisor (ae (aM (aa 0) af (aQ (aK (i:=0) rfl))) (ae (aM (aa 1) af (aQ (aK (i:=1) rfl))) ag)) ⟨_,_,rfl,rfl⟩) ?_
 refine aB 3 nd (x_call b c_common_divisor (ae (aM (aa 1) af (aQ (aK (i:=0) rfl))) (ae (aM (aa 0) af (aQ (aK (i:=1) rfl))) ag)) ⟨_,_,rfl,rfl⟩) ?_
 refine aO (cw (ae (aC (aC (aM (aa 0) af (aQ (aK (i:=0) rfl))) (aa 2) (a9 d1)) (aC (aM (aa 1) af (aQ (aK (i:=0) rfl))) (aa 3) (a9 d2)) (bb (by rw [aU,aU]; exact (h1.num.ediv _).aE (h2.num.ediv _) (by omega) (by omega)))) (ae (aC (aC (aM (aa 0) af (aQ (aK (i:=1) rfl))) (aa 3) (a9 d2)) (aC (aM (aa 1) af (aQ (aK (i:=1) rfl))) (aa 2) (a9 d1)) (bb (by rw [aU,aU]; exact (h1.den.ediv _).aE (h2.den.ediv _) (by omega) (by omega)))) ag))) ?_
 rw [aU,aU,aU,aU,<- q1,<- q2]
 rfl
theorem j5 (F:Fun K "quotient_of" qual (top 16) f fd) (hb:∀ x ∈ aq,mg x=none) (c_product_of:Cal P w K mg base k "product_of" dR) (c_in_lowest_terms:Cal P w K mg base k "in_lowest_terms" bD):aS P w K mg base CX0 (k + 1) f fd ["one","other"] (spD K dg):=by
 refine fnD F jw hb (by rintro _ _ ⟨_,_,_,_,rfl,_⟩; rfl) ?_
 rintro _ _ ⟨m,n,p,q,rfl,h0,h1,h2,hl,rfl⟩ cdv A outer s H E b
 have hn:q.num ≠ 0:=λz=>h0 (Rat.num_eq_zero.mp z)
 refine fS (bu (aM (aa 1) af (aQ (aK (i:=0) rfl))) af ju) (decide_eq_false hn) ?_
 exact aO (x_call b c_product_of (ae (aa 0) (ae (x_call b c_in_lowest_terms (ae (aM (aa 1) af (aQ (aK (i:=1) rfl))) (ae (aM (aa 1) af (aQ (aK (i:=0) rfl))) ag)) ⟨_,_,q⁻¹,rfl,hn,h2.num.mono (by omega),inv_mul h0,rfl⟩) ag)) ⟨m,n,p,q⁻¹,rfl,h1,h2.inv h0,hl,by rw [Rat.div_def]⟩) rfl
end
theorem tQ (p q:Rat):((p.num * q.num:Int):Rat)=p * q * (((p.den:Nat):Int) * ((q.den:Nat):Int):Int):=by
 rw [Rat.intCast_mul,Rat.intCast_mul,<- fE p,<- fE q]
 grind
theorem wj {a b:Int} (h:0 < a) (g:0 < b):0 < a * b:=Int.mul_pos h g
theorem Sq.mul {m n:Nat} {p q:Rat} (h:Sq m p) (g:Sq n q):Sq (m + n) (p * q):=Sq.cx (wj (den_pos p) (den_pos q)) (tQ p q) (h.num.mul g.num) (h.den.mul g.den)
structure Mz (R C:Nat) (c:Nat->Nat->Rat) (d v:Nat):Prop where
 ne:∀ i j,c i j ≠ 0
 r1:1<=R
 r7:R<=7
 c1:1<=C
 c7:C<=7
 q:∀ i < R,∀ j < C,Qs d v (nv (min R C) c i j)
 sc:∀ i < R,∀ j < C,Sq 20 (c i j)
 bz:∀ n,n<=R->n<=C->Bz n d v
 vd:v + d<=2000
 d1:1<=d
section
variable {R C d v:Nat} {c:Nat->Nat->Rat}
theorem Mz.md (h:Mz R C c d v) (k:Nat):∀ r ∈ mkT R C (mdK C (nv (min R C) c) k),∀ x ∈ r,Qs d v x:=λr hr x hx=>by
 unfold mkT at hr
 obtain ⟨i,hi,rfl⟩:=List.mem_map.mp hr
 obtain ⟨j,hj,rfl⟩:=List.mem_map.mp hx
 unfold mdK
 split
 · exact h.q i (List.mem_range.mp hi) j (List.mem_range.mp hj)
 · refine ⟨?_,Nat.zero_le _⟩
   have:2 ^ 1<=2 ^ d:=Nat.pow_le_pow_right (by decide) h.d1
   show 1 < 2 ^ d
   omega
theorem Mz.yq (h:Mz R C c d v):∀ r ∈ mkT R C (nv (min R C) c),∀ x ∈ r,Qs d v x:=λr hr x hx=>by
 unfold mkT at hr
 obtain ⟨i,hi,rfl⟩:=List.mem_map.mp hr
 obtain ⟨j,hj,rfl⟩:=List.mem_map.mp hx
 exact h.q i (List.mem_range.mp hi) j (List.mem_range.mp hj)
theorem lP {i:Nat} (hi:i < R):atI ((mkT R C c).map rwQ) (i:Int)=some (rwQ ((mkT R C c).getD i [])):=dZ [] (by rw [bM]; exact hi)
theorem pA {i j:Nat} (hi:i < R) (hj:j < C):atI (((mkT R C c).getD i []).map frD) (j:Int)=some (frD (c i j)):=by
 rw [dZ 0 (by rw [cE hi,List.length_map,List.length_range]; exact hj),mq hi hj]
end
noncomputable def bK (ds:List D) (r:Sl):Prop:=∃ (R C d v i j:Nat) (c:Nat->Nat->Rat),ds=[tbQ (mkT R C c),tbQ (mkT R C (mdK C (nv (min R C) c) (C * i + j))),.int (i:Nat),.int (j:Nat)]/\Mz R C c d v/\i < R/\j < C/\r=.d (frD (nv (min R C) c i j))
section
variable {P:Program} {w:World} {K:PySem.W.Frag} {mg:Str->Option Value} {base:Heap} {k:Nat} {f:Addr} {fd:FuncData} {qual:Str}
set_option maxHeartbeats 1000000 in
theorem eQ (F:Fun K "number_for_corner" qual (top 44) f fd) (hb:∀ x ∈ aq,mg x=none) (c_rest_of:Cal P w K mg base k "rest_of" ir) (c_quotient_of:Cal P w K mg base k "quotient_of" dg) (c_square_determinant:Cal P w K mg base k "square_determinant" a8) (c_corner_part:Cal P w K mg base k "corner_part" cf):aS P w K mg base CX0 (k + 1) f fd ["table","made","i","j"] (spD K bK):=by
 refine fnD F ck hb (by rintro _ _ ⟨_,_,_,_,_,_,_,rfl,_⟩; rfl) ?_
 rintro _ _ ⟨R,C,d,v,i,j,c,rfl,h,hi,hj,rfl⟩ cdv A outer s H E b
 have nd:=ck.nd
 have r1:=h.r1
 have c1:=h.c1
 have vd:=h.vd
 refine fx (PW.pt (mJ (bu (aa 2) af ju) λh=>(kG (bu (aa 3) af ju)))) (λz=>?_) λz=>?_
 · have z:i=0\/j=0:=by
     rcases Bool.or_eq_true _ _ |>.mp z with z | z
     · have:=of_decide_eq_true z; omega
     · have:=of_decide_eq_true z; omega
   have e:nv (min R C) c i j=c i j:=by
     rcases z with rfl | rfl
     · exact Ae h.ne (by omega) j
     · exact xv h.ne (by omega) i
   rw [e]
   exact aO (aM (aM (aa 0) (aa 2) (aW (lP hi))) (aa 3) (aW (pA hi hj))) rfl
 · have z:1<=i/\1<=j:=by
     have z:=Bool.or_eq_false_iff.mp z
     have z1:=of_decide_eq_false z.1
     have z2:=of_decide_eq_false z.2
     omega
   have t:=lE (G:=mdK C (nv (min R C) c) (C * i + j)) r1 h.r7 c1 h.c7
   have tc:=su t hi hj
   have ec:det (cnS i j) (qM (cnM (mkT R C (mdK C (nv (min R C) c) (C * i + j))) i j))=c i j - nv (min R C) c i j * c (i - 1) (j - 1):=by rw [uI t hi hj,rg h.ne z.1 z.2 hi hj (by omega)]
   have sy:Sq (v + d) (nv (min R C) c i j):=(h.q i hi j hj).sq
   have s1:=h.sc i hi j hj
   have s2:=h.sc (i - 1) (by omega) (j - 1) (by omega)
   have sm:Sq (v + d + 20) (nv (min R C) c i j * c (i - 1) (j - 1)):=sy.mul s2
   have sd:Sq (20 + (v + d + 20) + 1) (c i j - nv (min R C) c i j * c (i - 1) (j - 1)):=by rw [Rat.sub_eq_add_neg]; exact s1.add sm.neg
   refine aB 4 nd (x_call b c_rest_of (ae (aM (aM (aa 0) (aa 2) (aW (lP hi))) (aa 3) (aW (pA hi hj))) (ae (x_call b c_square_determinant (ae (bP (x:=tbQ (cnM (mkT R C (mdK C (nv (min R C) c) (C * i + j))) i j)) (x_call b c_corner_part (ae (aa 1) (ae (aa 2) (ae (aa 3) ag))) ⟨R,C,i,j,_,rfl,t,hi,hj,rfl⟩)) ag) ⟨cnS i j,d,v,_,rfl,tc,xS (h.md _),h.bz _ (by unfold cnS; omega) (by unfold cnS; omega),rfl⟩) ag)) ⟨20,20 + (v + d + 20) + 1,c i j,c i j - nv (min R C) c i j * c (i - 1) (j - 1),by rw [ec],s1,sd,by omega,rfl⟩) ?_
   have e1:c i j - (c i j - nv (min R C) c i j * c (i - 1) (j - 1))=nv (min R C) c i j * c (i - 1) (j - 1):=by grind
   rw [e1]
   have ei:(i:Int) - 1=((i - 1:Nat):Int):=by omega
   have ej:(j:Int) - 1=((j - 1:Nat):Int):=by omega
   exact aO (x_call b c_quotient_of (ae (aa 4) (ae (aM (aM (aa 0) (aC (aa 2) af fW) (aW (by rw [ei]; exact lP (by omega)))) (aC (aa 3) af fW) (aW (by rw [ej]; exact pA (by omega) (by omega)))) ag)) ⟨v + d + 20,20,_,c (i - 1) (j - 1),rfl,h.ne _ _,sm,s2,by omega,by rw [Rat.mul_div_cancel (h.ne _ _)]⟩) rfl
end
noncomputable def Mk1 (K:PySem.W.Frag) (mg:Str->Option Value) (n:Str) (i j:Int):Prop:=∃ a,mg n=some (.ref a)/\∀ H,SqT K H a [.int i,.int j]
theorem xR {X:Cx} {C:Bool} {τ:List Sl} {pos:Pos} {n:Str} {i j:Int} (h:Mk1 X.K X.mg n i j) (hg:Gl X n:=by rfl) (hd:(n == ("__debug__" : Str))=false:=by decide):PE X (.Name n pos) (dE X.K C τ (.d (.tup [.int i,.int j]))):=by
 obtain ⟨a,hm,hb⟩:=h
 exact mS (qz (v:=.ref a) hg hm rfl hd) λH=>.tup (hb H) (.cons .int (.cons .int .nil))
noncomputable def iA (ds:List D) (r:Sl):Prop:=∃ (R C d v:Nat) (c:Nat->Nat->Rat),ds=[tbQ (mkT R C c)]/\Mz R C c d v/\r=.n (bZ (mkT R C (nv (min R C) c)))
theorem xW (q:Rat):Ev.cM (frD q):=⟨by simp [Ev.cln,Ev.dU,frD],by simp [Ev.dep,Ev.fg,frD]⟩
theorem Ba {q:Rat} (h:q ≠ 0):Ev.eqD (frD q) (frD 0)=false:=by
 have:q.num ≠ 0:=λz=>h (Rat.num_eq_zero.mp z)
 unfold frD
 rw [Ev.eqD,Ev.iN,Ev.eqD,show (0:Rat).num=0 from rfl,beq_eq_false_iff_ne.mpr this]
 rfl
theorem wU (xs:List D):e8 (xs.map .d)=true:=by
 induction xs with
 | nil=>rfl
 | cons x xs ih=>rw [List.map_cons,e8,fu,ih]; rfl
theorem vB (M:List (List Rat)):fu (bZ M)=true:=by
 unfold bZ
 rw [fu]
 induction M with
 | nil=>rfl
 | cons r M ih=>rw [List.map_cons,e8,fu,wU,ih]; rfl
noncomputable def mbS (R C:Nat) (c H:Nat->Nat->Rat) (s2 s3:D):List Sl:=[.d (tbQ (mkT R C c)),.n (bZ (mkT R C H)),.d s2,.d s3]
theorem yR {R C:Nat} {c H:Nat->Nat->Rat} {s2 s3:D}:∀ (i:Nat) (t:Nd),(mbS R C c H s2 s3)[i]?=some (Sl.n t)->fu t=true
 | 0,_,h=>by cases h
 | 1,_,h=>by cases h; exact vB _
 | 2,_,h=>by cases h
 | 3,_,h=>by cases h
 | _ + 4,_,h=>by cases h
theorem p9 {α:Type} (x:α):∀ n,(List.replicate n [x]).flatten=List.replicate n x
 | 0=>rfl
 | n + 1=>by rw [List.replicate_succ,List.flatten_cons,p9 x n]; rfl
section
variable {P:Program} {w:World} {K:PySem.W.Frag} {mg:Str->Option Value} {base:Heap} {k:Nat} {f:Addr} {fd:FuncData} {qual:Str}
set_option maxHeartbeats 1000000 in
theorem px (F:Fun K "made_by" qual (top 43) f fd) (hb:∀ x ∈ aq,mg x=none) (y_NOUGHT:Mk1 K mg "NOUGHT" 0 1) (c_look_table:Cal P w K mg base k "look_table" bY) (c_number_for_corner:Cal P w K mg base k "number_for_corner" bK):aS P w K mg base CX0 (k + 1) f fd ["table"] (spD K iA):=by
 refine fnD F jH hb (by rintro _ _ ⟨_,_,_,_,_,rfl,_⟩; rfl) ?_
 rintro _ _ ⟨R,C,d,v,c,rfl,h,rfl⟩ cdv A outer s H E b
 have nd:=jH.nd
 have r1:=h.r1
 have c1:=h.c1
 have r7:=h.r7
 have c7:=h.c7
 have t:=lE (G:=c) r1 r7 c1 c7
 have lM:((mkT R C c).map rwQ).length=R:=by rw [List.length_map,bM]
 refine lW (x_call b c_look_table (ae (aa 0) ag) ⟨R,C,_,rfl,t,rfl⟩) ?_
 have no:∀ i,i < R->(((mkT R C c).getD i []).map frD).any (λz=>Ev.eqD z (frD 0))=false:=λi hi=>by
   rw [cE hi,List.map_map,List.any_map]
   refine List.any_eq_false.mpr λj _=>?_
   show ¬ Ev.eqD (frD (c i j)) (frD 0)=true
   rw [Ba (h.ne i j)]
   decide
 refine fS (eF (bx b (ae (bP (gi (cmp 0 (g:=λi=>rwQ ((mkT R C c).getD i [])) (f:=λi=>.bl ((((mkT R C c).getD i []).map frD).any (λz=>Ev.eqD z (frD 0)))) b (a4 (aa 0)) (b6 (f:=rwQ) (xs:=mkT R C c) []) (by rw [lM]; omega) λi hi s0 H0 fp=>(g9 (xR y_NOUGHT) (aa 0) (AQ (b.comp s0 H0 _ fp) (xW 0) λz hz=>?_))))) ag) (BK b.calm ((List.range R).map λi=>(((mkT R C c).getD i []).map frD).any (λz=>Ev.eqD z (frD 0))) ?_))) ?_ ?_
 · obtain ⟨q,_,rfl⟩:=List.mem_map.mp hz
   exact xW q
 · rw [lM,List.map_map]
   rfl
 · rw [List.any_map]
   refine List.any_eq_false.mpr λi hi=>?_
   show ¬ id ((((mkT R C c).getD i []).map frD).any (λz=>Ev.eqD z (frD 0)))=true
   rw [no i (List.mem_range.mp hi)]
   decide
 refine w8 1 nd (ns:=(List.range ((mkT R C c).map rwQ).length).map λ_=>.l ((List.replicate C (frD 0)).map .d)) (Cr 0 (g:=λi=>rwQ ((mkT R C c).getD i [])) (f:=λ_=>.l ((List.replicate C (frD 0)).map .d)) (S':=λ_=>.o (List.replicate (C:Int).toNat [frD 0]).flatten) b (a4 (aa 0)) (b6 (f:=rwQ) (xs:=mkT R C c) []) (by rw [lM]; omega) (λi hi s0 H0 fp=>A8 (bP (iF (ae (xR y_NOUGHT) ag))) (bx (b.comp s0 H0 _ fp) (ae (aa 0) ag) (du (n:=C) (by rw [List.length_map]; exact t.at_ (by rw [lM] at hi; exact hi)))) (by omega) (by omega) (by rw [Int.toNat_natCast]; show 1 * C < _; omega)) λi hi=>by rw [Int.toNat_natCast,p9]; rfl) ?_
 have e0:(List.range ((mkT R C c).map rwQ).length).map (λ_=>Nd.l ((List.replicate C (frD 0)).map .d))=(mkT R C λ_ _=>0).map (λr=>Nd.l ((r.map frD).map .d)):=by
   rw [lM]
   unfold mkT
   rw [List.map_map]
   refine List.map_congr_left λi _=>?_
   show Nd.l _=Nd.l ((((List.range C).map λ_=>(0:Rat)).map frD).map .d)
   congr 2
   refine List.ext_getElem (by simp) λx h1 h2=>by simp
 rw [e0,<- Au C (nv (min R C) c)]
 refine bt 2 (λi τ=>i<=R/\∃ s2 s3,τ=[.d (tbQ (mkT R C c)),.n (bZ (mkT R C (mdK C (nv (min R C) c) (C * i)))),s2,s3]) b nd (fR b (bx b (ae (aa 0) ag) (du (n:=R) lM)) (by omega) (by omega)) fX ⟨Nat.zero_le _,.un,.un,by rw [Nat.mul_zero]; rfl⟩ (λi hi τ z=>?_) λτ z=>?_
 · obtain ⟨_,s2,s3,rfl⟩:=z
   have hi:i < R:=by rw [aF] at hi; omega
   refine bt 3 (λj τ=>j<=C/\∃ s3,τ=[.d (tbQ (mkT R C c)),.n (bZ (mkT R C (mdK C (nv (min R C) c) (C * i + j)))),.d (.int (i:Nat)),s3]) b nd (fR b (bx b (ae (aM (aa 0) af (aW (lP (i:=0) (by omega)))) ag) (du (n:=C) (by rw [List.length_map]; exact t.at_ (by omega)))) (by omega) (by omega)) fX ⟨Nat.zero_le _,s3,rfl⟩ (λj hj τ z=>?_) λτ z=>?_
   · obtain ⟨_,s3',rfl⟩:=z
     have hj:j < C:=by rw [aF] at hj; omega
     refine yB (pt:=[]++[i]) (t:=bZ (mkT R C (mdK C (nv (min R C) c) (C * i + j)))) (ds:=((mkT R C (mdK C (nv (min R C) c) (C * i + j))).getD i []).map frD) (j:=j) (x:=frD (nv (min R C) c i j)) (nr (eg 1) (aa 2) rfl rfl (lu hi)) (aa 3) (x_call b c_number_for_corner (ae (aa 0) (ae (mF (eg 1) rfl rfl) (ae (aa 2) (ae (aa 3) ag)))) ⟨R,C,d,v,i,j,c,by rw [jx]; rfl,h,hi,hj,rfl⟩) rfl (yR (H:=mdK C (nv (min R C) c) (C * i + j))) rfl (iU hi) (qb hi hj) (aP ⟨by omega,.d (.int (j:Nat)),?_⟩)
     show List.set [_,_,_,_] 1 (Sl.n (cy [i] (bZ (mkT R C (mdK C (nv (min R C) c) (C * i + j)))) _))=_
     rw [pY,wV hi hj]
     rfl
   · obtain ⟨_,s3',rfl⟩:=z
     rw [aF,Int.toNat_natCast,wZ R]
     exact aP ⟨by omega,_,_,rfl⟩
 · obtain ⟨_,s2,s3,rfl⟩:=z
   rw [aF,Int.toNat_natCast,wY]
   exact mr 1 rfl
end
theorem fmn {a b:Int} (h:0 < b):0<=a.fmod b/\a.fmod b < b:=⟨Int.fmod_nonneg_of_pos a h,Int.fmod_lt_of_pos a h⟩
theorem xY (i:Int):frD (i:Rat)=.tup [.int i,.int 1]:=by
 unfold frD
 rw [Rat.num_intCast,Rat.den_intCast]
 rfl
noncomputable def soQ (p:Int):Rat:=((1 + p.fmod 9:Int):Rat) / ((1 + p.fdiv 9:Int):Rat)
noncomputable def soT (p:Int):Rat:=((1 + p.fmod 3:Int):Rat)
noncomputable def soP (c:Int) (n:Nat):List Int:=nums c (List.replicate n 54)
noncomputable def soE (big:Bool) (p:Int):Rat:=if big then soT p else soQ p
noncomputable def soG (big:Bool) (ps:List Int) (C:Nat):Nat->Nat->Rat:=λi j=>soE big (ps.getD (C * i + j) 0)
noncomputable def soU (G:Nat->Nat->Rat) (i j:Nat) (q:Rat):Nat->Nat->Rat:=λx y=>if x=i/\y=j then q else G x y
theorem lN {c:Int} {n i:Nat}:0<=(soP c n).getD i 0/\(soP c n).getD i 0 < 54:=by
 by_cases h:i < n
 · have:=iX (c:=c) (bs:=List.replicate n 54) (λb hb=>by rw [(List.mem_replicate.mp hb).2]; decide) (i:=i) (by rw [List.length_replicate]; exact h)
   rw [show (List.replicate n (54:Int)).getD i 0=54 by simp [h]] at this
   exact this
 · have:(soP c n).length=n:=by unfold soP; rw [gn,List.length_replicate]
   rw [show (soP c n).getD i 0=0 by rw [List.getD_eq_getElem?_getD,List.getElem?_eq_none (by omega)]; rfl]
   decide
theorem lj {p:Int} (h:0<=p):((1 + p.fmod 9:Int):Rat)=soQ p * ((1 + p.fdiv 9:Int):Rat):=by
 unfold soQ
 rw [Rat.div_mul_cancel]
 exact tV (by rw [Int.fdiv_eq_ediv_of_nonneg _ (by decide)]; omega)
theorem xZ {p:Int} (h:0<=p) (h2:p < 54):∃ z:Int,(z:Rat)=soQ p * ((60:Int):Rat)/\z.natAbs<=2 ^ 10:=by
 have e:=lj h
 have f9:0<=p.fmod 9/\p.fmod 9 < 9:=fmn (by decide)
 have hb:0<=p.fdiv 9/\p.fdiv 9 < 6:=by rw [Int.fdiv_eq_ediv_of_nonneg _ (by decide)]; omega
 generalize soQ p=q at e ⊢
 generalize p.fmod 9=t at e f9
 obtain ⟨y,hy,y60⟩:∃ y:Int,(1 + p.fdiv 9) * y=60/\0<=y/\y<=60:=by
   rcases (by omega:p.fdiv 9=0\/p.fdiv 9=1\/p.fdiv 9=2\/p.fdiv 9=3\/p.fdiv 9=4\/p.fdiv 9=5) with z | z | z | z | z | z <;> rw [z]
   · exact ⟨60,by decide⟩
   · exact ⟨30,by decide⟩
   · exact ⟨20,by decide⟩
   · exact ⟨15,by decide⟩
   · exact ⟨12,by decide⟩
   · exact ⟨10,by decide⟩
 refine ⟨(1 + t) * y,?_,?_⟩
 · rw [<- hy,Rat.intCast_mul,Rat.intCast_mul,e,Rat.mul_assoc]
 · rw [Int.natAbs_mul]
   have:(1 + t).natAbs<=9:=by omega
   have:y.natAbs<=60:=by omega
   exact Nat.le_trans (Nat.mul_le_mul ‹(1 + t).natAbs<=9› this) (by decide)
theorem vg {i C:Nat} {G:Nat->Nat->Rat}:mkT (i + 1) C G=mkT i C G++[(List.range C).map (G i)]:=by
 unfold mkT
 rw [List.range_succ,List.map_append]
 rfl
theorem uT {ps:List Int} {C i:Nat}:Hy.cutD (ps.map D.int) (some ((C:Int) * (i:Int))) (some ((C:Int) * ((i:Int) + 1)))=((ps.take (C * (i + 1))).drop (C * i)).map D.int:=by
 rw [show (C:Int) * (i:Int)=((C * i:Nat):Int) by rw [Int.natCast_mul],show (C:Int) * ((i:Int) + 1)=((C * (i + 1):Nat):Int) by rw [Int.natCast_mul]; rfl,Hy.qu,List.map_drop,List.map_take]
theorem uW {ps:List Int} {R C i:Nat} (h:ps.length=R * C) (hi:i < R):((ps.take (C * (i + 1))).drop (C * i)).length=C:=by
 have:C * (i + 1)<=C * R:=Nat.mul_le_mul_left _ hi
 rw [List.length_drop,List.length_take,h,Nat.mul_comm R C,Nat.min_eq_left this,Nat.mul_succ]
 omega
theorem xD {ps:List Int} {R C i:Nat} (h:ps.length=R * C) (hi:i < R) (l:Nat) (hl:l < (((ps.take (C * (i + 1))).drop (C * i)).map D.int).length):(((ps.take (C * (i + 1))).drop (C * i)).map D.int)[l]=.int (ps.getD (C * i + l) 0):=by
 rw [List.length_map,uW h hi] at hl
 have:C * (i + 1)<=C * R:=Nat.mul_le_mul_left _ hi
 rw [Nat.mul_succ] at this
 rw [Nat.mul_comm C R] at this
 simp [List.getElem_drop,List.getElem_take,List.getD_eq_getElem?_getD,show C * i + l < ps.length by omega]
section
variable {P:Program} {w:World} {K:PySem.W.Frag} {mg:Str->Option Value} {base:Heap} {k:Nat} {f:Addr} {fd:FuncData} {qual:Str}
end
theorem Cn.mk' {R C b:Nat} {e:Int} {c:Nat->Nat->Rat} (ne:∀ i j,c i j ≠ 0) (e0:0 < e) (e1:e.natAbs<=2 ^ b) (h:∀ i < R,∀ j < C,∃ z:Int,(z:Rat)=c i j * (e:Rat)/\z.natAbs<=2 ^ b) (r7:R<=7) (c7:C<=7):Cn R C b e c λi j=>(c i j * (e:Rat)).num:=by
 refine ⟨ne,e0,e1,λi hi j hj=>?_,λi hi j hj=>?_,r7,c7⟩
 · obtain ⟨z,hz,_⟩:=h i hi j hj
   rw [<- hz,Rat.num_intCast]
 · obtain ⟨z,hz,h1⟩:=h i hi j hj
   rw [<- hz,Rat.num_intCast]
   exact h1
theorem zo:∀ R,R < 8->∀ C,C < 8->nuD R C 2 (min R C) 0<=112/\nuM R C 2 (min R C) 0<=217:=by decide +kernel
theorem t7:∀ R,R < 8->∀ C,C < 8->R * C<=16->nuD R C 10 (min R C) 0<=200/\nuM R C 10 (min R C) 0<=388:=by decide +kernel
structure As (R C:Nat) (c:Nat->Nat->Rat) (d v:Nat):Prop where
 mz:Mz R C c d v
 ok:∃ b,Rw R C b (whM (mkT R C (nv (min R C) c)) ((mkT R C (nv (min R C) c)).map scL))
 z:v + (1 + C * d)<=8999
theorem Cq.mono {w d m d' m':Nat} {r:Nat->Rat} (h:Cq w d m r) (h1:d<=d') (h2:m<=m'):Cq w d' m' r:=by
 obtain ⟨D,g0,g1,g⟩:=h
 refine ⟨D,g0,Nat.le_trans g1 (Nat.pow_le_pow_right (by decide) h1),λa ha=>?_⟩
 obtain ⟨z,hz,h3⟩:=g a ha
 exact ⟨z,hz,Nat.le_trans h3 (Nat.pow_le_pow_right (by decide) h2)⟩
theorem BB {n N d v:Nat} (h:n<=N) (h1:N * (v + (1 + N * d) + 3)<=8998) (h2:1 + N * (1 + N * d)<=8999) (h3:1 + N * d<=8999) (h4:v + d<=8999):Bz n d v:=by
 have a:n * d<=N * d:=Nat.mul_le_mul_right _ h
 refine ⟨by omega,Nat.le_trans (Nat.mul_le_mul h (by omega)) h1,?_,h4⟩
 have:n * (1 + n * d)<=N * (1 + N * d):=Nat.mul_le_mul h (by omega)
 omega
theorem xo {R C b D V N:Nat} {e:Int} {c:Nat->Nat->Rat} (ne:∀ i j,c i j ≠ 0) (e0:0 < e) (e1:e.natAbs<=2 ^ b) (h:∀ i < R,∀ j < C,∃ z:Int,(z:Rat)=c i j * (e:Rat)/\z.natAbs<=2 ^ b) (hb:b<=19) (r1:1<=R) (r7:R<=7) (c1:1<=C) (c7:C<=7)
   (hD:b + b + nuD R C b (min R C) 0<=D) (hV:nuM R C b (min R C) 0<=V) (hN:∀ n,n<=R->n<=C->n<=N) (n1:N * (V + (1 + N * (D + 1)) + 3)<=8998) (n2:1 + N * (1 + N * (D + 1))<=8999) (n3:1 + N * (D + 1)<=8999) (vd:V + (D + 1)<=2000) (v1:V + 1<=1400) (z:V + (1 + 7 * (D + 1))<=8999):As R C c (D + 1) V:=by
 have cn:=Cn.mk' ne e0 e1 h r7 c7
 have cq:∀ i < R,Cq C D V (nv (min R C) c i):=λi hi=>(cn.cq i hi).mono hD hV
 refine ⟨⟨ne,r1,r7,c1,c7,λi hi j hj=>(cq i hi).qs hj,λi hi j hj=>?_,λn h1 h2=>BB (hN n h1 h2) n1 n2 n3 (by omega),vd,by omega⟩,⟨_,rw_cq r1 r7 c1 c7 v1 cq⟩,?_⟩
 · obtain ⟨x,hx,x1⟩:=h i hi j hj
   have p:(2:Nat) ^ b<=2 ^ 19:=Nat.pow_le_pow_right (by decide) hb
   exact Sq.cx e0 hx (by unfold Bd; omega) (by unfold Bd; omega)
 · have:C * (D + 1)<=7 * (D + 1):=Nat.mul_le_mul_right _ c7
   omega
theorem Ct {n R C:Nat} (h:R * C<=16) (h1:n<=R) (h2:n<=C):n<=4:=by
 have:n * n<=R * C:=Nat.mul_le_mul h1 h2
 by_cases q:n<=4
 · exact q
 · have:5 * 5<=n * n:=Nat.mul_le_mul (by omega) (by omega)
   omega
theorem xw {R C:Nat} {c:Nat->Nat->Rat} (ne:∀ i j,c i j ≠ 0) (r1:1<=R) (r7:R<=7) (c1:1<=C) (c7:C<=7) (h1:16 < R * C->∀ i < R,∀ j < C,∃ z:Int,(z:Rat)=c i j * ((1:Int):Rat)/\z.natAbs<=2 ^ 2) (h2:¬ 16 < R * C->∀ i < R,∀ j < C,∃ z:Int,(z:Rat)=c i j * ((60:Int):Rat)/\z.natAbs<=2 ^ 10):∃ d v,As R C c d v:=by
 by_cases q:16 < R * C
 · obtain ⟨b1,b2⟩:=zo R (by omega) C (by omega)
   exact ⟨_,_,xo (b:=2) (D:=116) (V:=217) (N:=7) (e:=1) ne (by decide) (by decide) (h1 q) (by decide) r1 r7 c1 c7 (by omega) b2 (λn h _=>by omega) (by decide) (by decide) (by decide) (by decide) (by decide) (by decide)⟩
 · obtain ⟨b1,b2⟩:=t7 R (by omega) C (by omega) (by omega)
   exact ⟨_,_,xo (b:=10) (D:=220) (V:=388) (N:=4) (e:=60) ne (by decide) (by decide) (h2 q) (by decide) r1 r7 c1 c7 (by omega) b2 (λn h g=>Ct (by omega) h g) (by decide) (by decide) (by decide) (by decide) (by decide) (by decide)⟩
noncomputable def szG (ns:List Int):Nat->Nat->Rat:=soG (decide (16 < szR (ns.getD 0 0) * szC (ns.getD 0 0))) (soP (ns.getD 1 0) (szR (ns.getD 0 0) * szC (ns.getD 0 0))) (szC (ns.getD 0 0))
theorem wL {bg:Bool} {p:Int} (h:0<=p):0 < soE bg p:=by
 have f9:0<=p.fmod 9/\p.fmod 9 < 9:=⟨Int.fmod_nonneg_of_pos p (by decide),Int.fmod_lt_of_pos p (by decide)⟩
 have f3:0<=p.fmod 3:=Int.fmod_nonneg_of_pos p (by decide)
 have hb:0<=p.fdiv 9:=by rw [Int.fdiv_eq_ediv_of_nonneg _ (by decide)]; omega
 unfold soE
 cases bg
 · show 0 < soQ p
   have e:=lj h
   refine l4 (x:=((1 + p.fdiv 9:Int):Rat)) (show ((0:Int):Rat) < _ from Rat.intCast_lt_intCast.mpr (by omega)) ?_
   rw [Rat.mul_comm,<- e]
   exact (show ((0:Int):Rat) < _ from Rat.intCast_lt_intCast.mpr (by omega))
 · show 0 < soT p
   exact (show ((0:Int):Rat) < _ from Rat.intCast_lt_intCast.mpr (by omega))
theorem i4 (ns:List Int) (i j:Nat):0 < szG ns i j:=wL lN.1
theorem xx (ns:List Int):(16 < szR (ns.getD 0 0) * szC (ns.getD 0 0)->∀ i j,∃ z:Int,(z:Rat)=szG ns i j * ((1:Int):Rat)/\z.natAbs<=2 ^ 2)/\(¬ 16 < szR (ns.getD 0 0) * szC (ns.getD 0 0)->∀ i j,∃ z:Int,(z:Rat)=szG ns i j * ((60:Int):Rat)/\z.natAbs<=2 ^ 10):=by
 constructor
 · intro q i j
   unfold szG
   rw [decide_eq_true q]
   refine ⟨_,(Rat.mul_one _).symm,?_⟩
   have:=Int.fmod_nonneg_of_pos ((soP (ns.getD 1 0) (szR (ns.getD 0 0) * szC (ns.getD 0 0))).getD (szC (ns.getD 0 0) * i + j) 0) (show (0:Int) < 3 by decide)
   have:=Int.fmod_lt_of_pos ((soP (ns.getD 1 0) (szR (ns.getD 0 0) * szC (ns.getD 0 0))).getD (szC (ns.getD 0 0) * i + j) 0) (show (0:Int) < 3 by decide)
   omega
 · intro q i j
   unfold szG
   rw [decide_eq_false q]
   exact xZ lN.1 lN.2
theorem zt (ns:List Int):∃ d v,As (szR (ns.getD 0 0)) (szC (ns.getD 0 0)) (szG ns) d v:=by
 obtain ⟨h1,h2,h3,h4⟩:=qt (ns.getD 0 0)
 obtain ⟨z1,z2⟩:=xx ns
 exact xw (λi j=>Rat.ne_of_gt (i4 ns i j)) h1 h2 h3 h4 (λq i _ j _=>z1 q i j) λq i _ j _=>z2 q i j
theorem Aq {q:Rat} {e:Int} {b:Nat} (h:∃ z:Int,(z:Rat)=q * (e:Rat)/\z.natAbs<=b):∃ z:Int,(z:Rat)=-q * (e:Rat)/\z.natAbs<=b:=by
 obtain ⟨z,h1,h2⟩:=h
 exact ⟨-z,by rw [Rat.intCast_neg,h1,Rat.neg_mul],by rw [Int.natAbs_neg]; exact h2⟩
theorem xX (ns:List Int) (i0 j0:Nat):∃ d v,As (szR (ns.getD 0 0)) (szC (ns.getD 0 0)) (soU (szG ns) i0 j0 (-szG ns i0 j0)) d v:=by
 obtain ⟨h1,h2,h3,h4⟩:=qt (ns.getD 0 0)
 obtain ⟨z1,z2⟩:=xx ns
 have key:∀ {e:Int} {b:Nat},(∀ i j,∃ z:Int,(z:Rat)=szG ns i j * (e:Rat)/\z.natAbs<=b)->∀ i j,∃ z:Int,(z:Rat)=soU (szG ns) i0 j0 (-szG ns i0 j0) i j * (e:Rat)/\z.natAbs<=b:=λh i j=>by
   unfold soU
   split
   · exact Aq (h i0 j0)
   · exact h i j
 refine xw (λi j=>?_) h1 h2 h3 h4 (λq i _ j _=>key (z1 q) i j) λq i _ j _=>key (z2 q) i j
 unfold soU
 have p:=i4 ns i0 j0
 split
 · intro z
   have:szG ns i0 j0=0:=by grind
   exact Rat.ne_of_gt p this
 · exact Rat.ne_of_gt (i4 ns i j)
theorem As.due {R C d v:Nat} {c:Nat->Nat->Rat} (h:As R C c d v):(fuO (whM (mkT R C (nv (min R C) c)) ((mkT R C (nv (min R C) c)).map scL)) R C 1).isNone=true ↔ ∀ i,i < R->∀ j,j < C->0 < c i j:=by
 obtain ⟨mz,⟨b,ok⟩,_⟩:=h
 have t:=lE (G:=nv (min R C) c) mz.r1 mz.r7 mz.c1 mz.c7
 rw [ow ok]
 constructor
 · intro z i hi j hj
   have:=(ue t (by unfold cnS; omega) (by unfold cnS; omega)).mp (z i hi j hj)
   rw [<- pG mz.ne hi hj (n:=min R C) (by omega)]
   exact this
 · intro z i hi j hj
   refine (ue t (by unfold cnS; omega) (by unfold cnS; omega)).mpr ?_
   have:=z i hi j hj
   rw [<- pG mz.ne hi hj (n:=min R C) (by omega)] at this
   exact this
section
variable {P:Program} {w:World} {K:PySem.W.Frag} {mg:Str->Option Value} {base:Heap} {k:Nat} {f:Addr} {fd:FuncData} {qual:Str}
end
mutual
theorem gX:∀ x:D,Ev.eqD x x=true
 | .non=>by rw [Ev.eqD]
 | .bl a=>by simp [Ev.eqD]
 | .int a=>by simp [Ev.eqD]
 | .str a=>by simp [Ev.eqD]
 | .tup xs=>by rw [Ev.eqD]; exact iy xs
 | .lst xs=>by rw [Ev.eqD]; exact iy xs
 | .box x=>by rw [Ev.eqD]
theorem iy:∀ xs:List D,Ev.iN xs xs=true
 | []=>by rw [Ev.iN]
 | x :: xs=>by rw [Ev.iN,gX x,iy xs]; rfl
end
theorem qP:∀ r:List Rat,Ev.dU (r.map frD)=true/\Ev.fg (r.map frD)<=1
 | []=>by simp [Ev.dU,Ev.fg]
 | x :: r=>by
   obtain ⟨h1,h2⟩:=qP r
   rw [List.map_cons,Ev.dU,Ev.fg,h1,frD]
   refine ⟨by simp [Ev.cln,Ev.dU],?_⟩
   have:Ev.dep (.tup [.int x.num,.int (x.den:Nat)])=1:=by simp [Ev.dep,Ev.fg]
   rw [this]
   omega
theorem pW:∀ m:List (List Rat),Ev.dU (m.map rwQ)=true/\Ev.fg (m.map rwQ)<=2
 | []=>by simp [Ev.dU,Ev.fg]
 | r :: m=>by
   obtain ⟨h1,h2⟩:=pW m
   obtain ⟨h3,h4⟩:=qP r
   rw [List.map_cons,Ev.dU,Ev.fg,h1,show rwQ r=.lst (r.map frD) from rfl,Ev.cln,Ev.dep,h3]
   exact ⟨rfl,by omega⟩
theorem tH (m:List (List Rat)):Ev.cM (tbQ m):=by
 obtain ⟨h1,h2⟩:=pW m
 unfold tbQ Ev.cM
 rw [Ev.cln,Ev.dep,h1]
 exact ⟨rfl,by omega⟩
theorem qQ (b:Bool):Ev.cM (.bl b):=⟨by simp [Ev.cln],by simp [Ev.dep]⟩
noncomputable def iD (ds:List D) (r:Sl):Prop:=∃ (R C d v:Nat) (c:Nat->Nat->Rat) (due:Bool),ds=[tbQ (mkT R C c),.bl due]/\As R C c d v/\(due=true ↔ ∀ i,i < R->∀ j,j < C->0 < c i j)/\r=.d (.bl true)
section
variable {P:Program} {w:World} {K:PySem.W.Frag} {mg:Str->Option Value} {base:Heap} {k:Nat} {f:Addr} {fd:FuncData} {qual:Str}
set_option maxHeartbeats 1000000 in
theorem oU (F:Fun K "_law_asked" qual (top 55) f fd) (hb:∀ x ∈ aq,mg x=none) (c_made_by:Cal P w K mg base k "made_by" iA) (c_is_strict:Cal P w K mg base k "is_strict" ft) (c_corners:Cal P w K mg base k "corners" iw) (c_l_least_sign:Cal P w K mg base k "_law_least_sign" cO) (c_l_rows:Cal P w K mg base k "_law_rows" ja):aS P w K mg base CX0 (k + 1) f fd ["_law_some","_law_due"] (spD K iD):=by
 refine fnD F jb hb (by rintro _ _ ⟨_,_,_,_,_,_,rfl,_⟩; rfl) ?_
 rintro _ _ ⟨R,C,d,v,c,due,rfl,as,hdue,rfl⟩ cdv A outer s H E b
 have nd:=jb.nd
 have key:=as.due
 have mz:=as.mz
 obtain ⟨b0,ok⟩:=as.ok
 have zz:=as.z
 have r1:=mz.r1
 have r7:=mz.r7
 have c1:=mz.c1
 have c7:=mz.c7
 have nd1:d<=C * d:=Nat.le_mul_of_pos_left d c1
 have lM:((mkT R C c).map rwQ).length=R:=by rw [List.length_map,bM]
 refine aB 2 nd (x_call b c_made_by (ae (bP (x:=tbQ (mkT R C c)) (gi (cmp 0 (g:=λi=>rwQ ((mkT R C c).getD i [])) (f:=λi=>rwQ ((mkT R C c).getD i [])) b (a4 (aa 0)) (b6 (f:=rwQ) (xs:=mkT R C c) []) (by rw [lM]; omega) λi hi s0 H0 fp=>bP (rD (b.comp s0 H0 _ fp) (ae (aa 0) ag) sF))) ?_) ag) ⟨R,C,d,v,c,rfl,mz,rfl⟩) ?_
 · exact congrArg (λl=>some (D.lst l)) (fF rwQ (mkT R C c) [] (List.length_map ..))
 have t:=lE (G:=nv (min R C) c) r1 r7 c1 c7
 have q:=mz.yq
 have ec:mkT R C (coQ (mkT R C (nv (min R C) c)))=mkT R C c:=hX λi hi j hj=>pG mz.ne hi hj (by omega)
 have g:=tY ok (t:=1) (.inr rfl)
 generalize mkT R C (nv (min R C) c)=M at key ok t q ec g ⊢
 refine A3 2 (x:=tbQ M) ?_ rfl (congrArg some (jx M))
 refine aB 3 nd (x_call b c_is_strict (ae (aa 2) ag) ⟨R,C,d,v,M,rfl,t,q,zz,⟨_,ok⟩,rfl⟩) ?_
 have efu:(fuO (whM M (M.map scL)) R C 1).isNone=due:=Bool.eq_iff_iff.mpr (key.trans hdue.symm)
 rw [efu]
 rw [efu] at g
 refine fS (PW.pt (mJ (bu (bP (x:=tbQ (mkT R C c)) (x_call b c_corners (ae (aa 2) ag) ⟨R,C,d,v,M,rfl,t,q,mz.bz,rfl⟩) (by rw [<- ec]; rfl)) (aa 0) (xF b (tH _) (tH _))) λh=>(mJ (e7 (eF (kJ .bool b (aa 3)))) λh=>(kG (bu (aa 3) (aa 1) (xF b (qQ _) (qQ _))))))) ?_ ?_
 · rw [gX,gX]
   rfl
 have ex:fzD (.n (.t [nG (whM M (M.map scL)),.d (.int (prZ (M.map scL)))]))=some (.tup [.lst ((whM M (M.map scL)).map dtR),.int (prZ (M.map scL))]):=by
   show some (D.tup [ndD (nG _),_])=_
   rw [yy]
   rfl
 refine aO (g9 (g9 (x_call b c_l_least_sign (ae (aM (bP (x_call b c_l_rows (ae (aa 2) ag) ⟨R,C,d,v,M,rfl,t,q,by omega,by omega,rfl⟩) ex) af (aQ (aK (i:=0) rfl))) ag) ⟨_,_,_,_,rfl,ok,rfl⟩) af ud) (aa 1) (Ag b (qQ _) (qQ _))) ?_
 generalize lsA (whM M (M.map scL)) C 1 _=z at g ⊢
 have g:due=decide (z > 0):=by rw [g]; exact decide_eq_decide.mpr (by omega)
 rw [<- g,gX]
end
noncomputable def iz (ds:List D) (r:Sl):Prop:=∃ ns:List Int,ds=[.lst (ns.map .int)]/\r=.n (bZ (mkT (szR (ns.getD 0 0)) (szC (ns.getD 0 0)) (szG ns)))
section
variable {P:Program} {w:World} {K:PySem.W.Frag} {mg:Str->Option Value} {base:Heap} {k:Nat} {f:Addr} {fd:FuncData} {qual:Str}
set_option maxHeartbeats 4000000 in
theorem oN (F:Fun K "_law_drawn" qual (top 54) f fd) (hb:∀ x ∈ aq,mg x=none) (c_l_size:Cal P w K mg base k "_law_size" jK) (c_l_numbers:Cal P w K mg base k "_law_numbers" cv) (c_l_cell:Cal P w K mg base k "_law_cell" gR) (c_l_made:Cal P w K mg base k "_law_made" jc):aS P w K mg base CX0 (k + 1) f fd ["_law_script"] (spD K iz):=by
 refine fnD F i9 hb (by rintro _ _ ⟨_,rfl,_⟩; rfl) ?_
 rintro _ _ ⟨ns,rfl,rfl⟩ cdv A outer s H E b
 have nd:=i9.nd
 obtain ⟨r1,r7,c1,c7⟩:=qt (ns.getD 0 0)
 refine yi (x_call b c_l_size (ae (x_call b c_l_cell (ae (aa 0) (ae af ag)) ⟨ns,0,rfl,rfl⟩) ag) ⟨_,rfl,rfl⟩) (AL b.calm (qI 1 nd (qI 2 nd yS))) ?_
 unfold szG
 show PSs _ _ (dS K [.d (.lst (ns.map .int)),.d (.int (szR (ns.getD 0 0):Nat)),.d (.int (szC (ns.getD 0 0):Nat)),.un,.un,.un,.un] _)
 generalize szR (ns.getD 0 0)=R at r1 r7 ⊢
 generalize szC (ns.getD 0 0)=C at c1 c7 ⊢
 have rc:R * C<=49:=Nat.mul_le_mul r7 c7
 have eRC:(R:Int) * (C:Int)=((R * C:Nat):Int):=by rw [Int.natCast_mul]
 refine aB 3 nd (bP (x_call b c_l_numbers (ae (x_call b c_l_cell (ae (aa 0) (ae af ag)) ⟨ns,1,rfl,rfl⟩) (ae (bP (gi (cmp 0 (f:=λ_=>.int 54) b (fR (n:=((R * C:Nat):Int)) b (by rw [<- eRC]; exact aC (aa 1) (aa 2) (bb (mkL (by omega)))) (by omega) (by omega)) fX (by rw [aF]; omega) λi hi s0 H0 fp=>af))) ag)) ⟨ns.getD 1 0,List.replicate (R * C) 54,?_,?_,?_,rfl⟩)) ?_
 · rw [aF,Int.toNat_natCast,List.map_replicate]
   refine congrArg (λl=>[D.int (ns.getD 1 0),D.lst l]) (List.ext_getElem (by simp) λi h1 h2=>by simp)
 · rw [List.length_replicate]; omega
 · intro x hx
   rw [(List.mem_replicate.mp hx).2]
   exact zJ (by decide) (by decide)
 have lp:(soP (ns.getD 1 0) (R * C)).length=R * C:=by unfold soP; rw [gn,List.length_replicate]
 have pl:∀ i,0<=(soP (ns.getD 1 0) (R * C)).getD i 0/\(soP (ns.getD 1 0) (R * C)).getD i 0 < 54:=λi=>lN
 show PSs _ _ (dS K [_,_,_,.d (.lst ((soP (ns.getD 1 0) (R * C)).map D.int)),_,_,_] _)
 generalize soP (ns.getD 1 0) (R * C)=ps at lp pl ⊢
 refine aB 4 nd (iF ag) ?_
 refine BA 4 (c:=.l []) ?_
 refine bt 5 (λi τ=>i<=R/\∃ s5,τ=[.d (.lst (ns.map .int)),.d (.int (R:Nat)),.d (.int (C:Nat)),.d (.lst (ps.map D.int)),.n (bZ (mkT i C (soG (decide (16 < R * C)) ps C))),s5,.un]) b nd (fR b (aa 1) (by omega) (by omega)) fX ⟨Nat.zero_le _,_,rfl⟩ (λi hi τ h=>?_) λτ h=>?_
 · obtain ⟨_,s5,rfl⟩:=h
   have hi:i < R:=by rw [aF] at hi; omega
   have ln:=uW (i:=i) lp hi
   refine pd 6 nd (s:=.o (((List.range C).map (soG false ps C i)).map frD)) (cmp 0 (g:=λl=>.int (ps.getD (C * i + l) 0)) (f:=λl=>frD (soQ (ps.getD (C * i + l) 0))) b (a4 (bP (wK (aa 3) (cL (aC (aa 2) (aa 5) (bb (mkL (by omega))))) (cL (aC (aa 2) (aC (aa 5) af bj) (bb (mkL (by omega)))))) (congrArg (λl=>some (D.lst l)) uT))) (xD lp hi) (by rw [List.length_map,ln]; omega) λl hl s0 H0 fp=>?_) (.inl ?_) ?_
   · have q:=pl (C * i + l)
     have f2:0<=(ps.getD (C * i + l) 0).fdiv 9/\(ps.getD (C * i + l) 0).fdiv 9 < 6:=by rw [Int.fdiv_eq_ediv_of_nonneg _ (by decide)]; omega
     refine x_call (b.comp s0 H0 _ fp) c_l_made (ae (aC af (aC (aa 0) af (fh (by decide))) bj) (ae (aC af (aC (aa 0) af (a9 (mkD (by decide) (by decide)))) bj) ag)) ⟨_,_,soQ (ps.getD (C * i + l) 0),rfl,by omega,(show Bd 10 _ by unfold Bd; omega).mono (by decide),lj q.1,rfl⟩
   · rw [List.length_map,ln,List.map_map]
     rfl
   refine ny (M:=λτ=>τ=[.d (.lst (ns.map .int)),.d (.int (R:Nat)),.d (.int (C:Nat)),.d (.lst (ps.map D.int)),.n (bZ (mkT i C (soG (decide (16 < R * C)) ps C))),.d (.int (i:Nat)),.o (((List.range C).map (soG (decide (16 < R * C)) ps C i)).map frD)]) (bu (aC (aa 1) (aa 2) (bb (mkL (by omega)))) af ud) (λh=>?_) (λh=>?_) λτ h=>?_
   · have h:=of_decide_eq_true h
     have h:16 < R * C:=by omega
     refine pd 6 nd (s:=.o (((List.range C).map (soG (decide (16 < R * C)) ps C i)).map frD)) (cmp 0 (g:=λl=>.int (ps.getD (C * i + l) 0)) (f:=λl=>frD (soT (ps.getD (C * i + l) 0))) b (a4 (bP (wK (aa 3) (cL (aC (aa 2) (aa 5) (bb (mkL (by omega))))) (cL (aC (aa 2) (aC (aa 5) af bj) (bb (mkL (by omega)))))) (congrArg (λl=>some (D.lst l)) uT))) (xD lp hi) (by rw [List.length_map,ln]; omega) λl hl s0 H0 fp=>?_) (.inl ?_) (aP rfl)
     · unfold soT
       rw [xY]
       exact cw (ae (aC af (aC (aa 0) af (fh (by decide))) bj) (ae af ag))
     · rw [List.length_map,ln,List.map_map,decide_eq_true h]
       rfl
   · have h:=of_decide_eq_false h
     have h:¬ 16 < R * C:=by omega
     rw [decide_eq_false h]
     exact aP rfl
   subst h
   generalize decide (16 < R * C)=bg
   refine zg 4 6 (xs:=(mkT i C (soG bg ps C)).map λr=>.l ((r.map frD).map .d)) (by rw [List.length_map,bM]; omega) (aP ⟨by omega,.d (.int (i:Nat)),?_⟩)
   rw [vg]
   unfold bZ
   rw [List.map_append]
   rfl
 · obtain ⟨_,s5,rfl⟩:=h
   rw [aF,Int.toNat_natCast]
   exact mr 4 rfl
end
noncomputable def qT (ds:List D) (r:Sl):Prop:=∃ ns:List Int,ns.length<=63/\ds=[.lst (ns.map .int)]/\r=.d (.bl true)
section
variable {P:Program} {w:World} {K:PySem.W.Frag} {mg:Str->Option Value} {base:Heap} {k:Nat} {f:Addr} {fd:FuncData} {qual:Str}
set_option maxHeartbeats 4000000 in
theorem zw (F:Fun K "law" qual (top 56) f fd) (hb:∀ x ∈ aq,mg x=none) (c_l_drawn:Cal P w K mg base k "_law_drawn" iz) (c_l_numbers:Cal P w K mg base k "_law_numbers" cv) (c_l_asked:Cal P w K mg base k "_law_asked" iD) (c_l_cell:Cal P w K mg base k "_law_cell" gR):aS P w K mg base CX0 (k + 1) f fd ["_law_script"] (spD K qT):=by
 refine fnD F uC hb (by rintro _ _ ⟨_,_,rfl,_⟩; rfl) ?_
 rintro _ _ ⟨ns,hn,rfl,rfl⟩ cdv A outer s H E b
 have nd:=uC.nd
 refine aB 1 nd (x_call b c_l_drawn (ae (aa 0) ag) ⟨ns,rfl,rfl⟩) ?_
 obtain ⟨r1,r7,c1,c7⟩:=qt (ns.getD 0 0)
 obtain ⟨d1,v1,as1⟩:=zt ns
 have as2:=xX ns
 have pos:=i4 ns
 generalize szR (ns.getD 0 0)=R at r1 r7 as1 as2 ⊢
 generalize szC (ns.getD 0 0)=C at c1 c7 as1 as2 ⊢
 generalize szG ns=G at as1 as2 pos ⊢
 have l1:gf (Xc P w K mg base ["_law_script","_law_some","_law_parts","_law_number"] qual (top 56) f cdv A outer s H E) (.builtin "len") [ndD (bZ (mkT R C G))] (.d (.int (R:Nat))):=by
   rw [jx]
   exact du (by rw [List.length_map,bM])
 have l2:gf (Xc P w K mg base ["_law_script","_law_some","_law_parts","_law_number"] qual (top 56) f cdv A outer s H E) (.builtin "len") [ndD (.l ((((mkT R C G).getD 0 []).map frD).map .d))] (.d (.int (C:Nat))):=by
   rw [ndD,vj]
   exact du (by rw [List.length_map,cE (by omega),List.length_map,List.length_range])
 refine aB 2 nd (bP (x_call b c_l_numbers (ae (x_call b c_l_cell (ae (aa 0) (ae af ag)) ⟨ns,2,rfl,rfl⟩) (ae (bP (iF (ae (yk (bx b (ae (mF (eg 1) rfl rfl) ag) l1)) (ae (yk (bx b (ae (mF (pt:=[]++[0]) (t:=bZ (mkT R C G)) (nr (eg 1) af rfl rfl (lu (i:=0) (by omega))) rfl (iU (by omega))) ag) l2)) ag)))) ag)) ⟨ns.getD 2 0,[(R:Int),(C:Int)],rfl,by show 2<=10000; decide,λx hx=>?_,rfl⟩)) ?_
 · have:0 < x/\x < 20:=by
     simp only [List.mem_cons,List.not_mem_nil,or_false] at hx
     omega
   exact zJ this.1 (by omega)
 have pb:∀ x ∈ [(R:Int),(C:Int)],0 < x:=λx hx=>by
   simp only [List.mem_cons,List.not_mem_nil,or_false] at hx
   omega
 have b1:0<=(nums (ns.getD 2 0) [(R:Int),(C:Int)]).getD 0 0/\(nums (ns.getD 2 0) [(R:Int),(C:Int)]).getD 0 0 < (R:Int):=iX pb (i:=0) (by show 0 < 2; decide)
 have b2:0<=(nums (ns.getD 2 0) [(R:Int),(C:Int)]).getD 1 0/\(nums (ns.getD 2 0) [(R:Int),(C:Int)]).getD 1 0 < (C:Int):=iX pb (i:=1) (by show 1 < 2; decide)
 have lm:(nums (ns.getD 2 0) [(R:Int),(C:Int)]).length=2:=gn _ _
 generalize nums (ns.getD 2 0) [(R:Int),(C:Int)]=p at b1 b2 lm ⊢
 have pa:∀ i:Nat,i < 2->atI (p.map D.int) (i:Int)=some (.int (p.getD i 0)):=λi hi=>atR (by omega)
 have hi:(p.getD 0 0).toNat < R:=by omega
 have hj:(p.getD 1 0).toNat < C:=by omega
 have ei:p.getD 0 0=(((p.getD 0 0).toNat:Nat):Int):=by omega
 have ej:p.getD 1 0=(((p.getD 1 0).toNat:Nat):Int):=by omega
 refine fS (e7 (eF (x_call b c_l_asked (ae (mF (eg 1) rfl rfl) (ae u9 ag)) ⟨R,C,d1,v1,G,true,by rw [jx]; rfl,as1,⟨λ_ i _ j _=>pos i j,λ_=>rfl⟩,rfl⟩))) rfl ?_
 refine aB 3 nd (Cc (nr (nr (eg 1) (aM (aa 2) af (aW (pa 0 (by decide)))) rfl rfl (by rw [ei]; exact lu hi)) (aM (aa 2) af (aW (pa 1 (by decide)))) rfl (iU hi) (by rw [ej]; exact yO hi hj)) rfl (sE hi hj rfl)) ?_
 obtain ⟨d2,v2,as2⟩:=as2 (p.getD 0 0).toNat (p.getD 1 0).toNat
 have pq:=pos (p.getD 0 0).toNat (p.getD 1 0).toNat
 have ng:∀ q:Rat,frD (-q)=.tup [.int (0 - q.num),.int (q.den:Nat)]:=λq=>by rw [sS,Int.zero_sub]
 refine yx (pt:=[]++[(p.getD 0 0).toNat]) (t:=bZ (mkT R C G)) (ds:=((mkT R C G).getD (p.getD 0 0).toNat []).map frD) (j:=(p.getD 1 0).toNat) (x:=frD (-G (p.getD 0 0).toNat (p.getD 1 0).toNat)) (nr (eg 1) (aM (aa 2) af (aW (pa 0 (by decide)))) rfl rfl (by rw [ei]; exact lu hi)) (aM (aa 2) af (aW (pa 1 (by decide)))) (by rw [ng]; exact cw (ae (aC af (aM (aa 3) af (aQ (aK (i:=0) rfl))) fW) (ae (aM (aa 3) af (aQ (aK (i:=1) rfl))) ag))) rfl (iU hi) (by rw [ej]; exact qb hi hj) ?_
 show PSs _ _ (dS K (List.set [_,_,_,_] 1 (Sl.n (cy [(p.getD 0 0).toNat] (bZ (mkT R C G)) _))) _)
 rw [pY,qX hi]
 show PSs _ _ (dS K [_,.n (bZ (mkT R C (soU G (p.getD 0 0).toNat (p.getD 1 0).toNat (-G (p.getD 0 0).toNat (p.getD 1 0).toNat)))),_,_] _)
 refine aO (yk (x_call b c_l_asked (ae (mF (eg 1) rfl rfl) (ae u9 ag)) ⟨R,C,d2,v2,_,false,by rw [jx]; rfl,as2,⟨(λz=>by cases z),λz=>?_⟩,rfl⟩)) rfl
 have:=z _ hi _ hj
 unfold soU at this
 rw [if_pos ⟨rfl,rfl⟩] at this
 have:(0:Rat) < 0:=by grind
 exact absurd this (by decide)
end
end K61
namespace K61
open PySem PySem.Spec PyProof.Rows L2 Hy
set_option maxHeartbeats 0 in
theorem all_mk {l:PySem.W.OpenLaw} {w:World} {K:PySem.W.Frag} {h:Heap} {mg:Str->Option Value} {fa f0 f1 f2 f3 f4 f5 f6 f7 f8 f9 f10 f11 f12 f13 f14 f15 f16 f17 f18 f19 f20 f21 f22 f23 f24 f25 f26 f27 f28 f29 f30 f31 f32 f33 f34 f35 f36 f37 f38 f39 f40 f41 f42 f43:Addr} {t0:Tok} {ab:Addr} {tb1 tb2:Tok} {nb:Nat} {db:Option Addr} {sb:Array (Option Value)} (X:K.In h) (G:h.Ns mainGlobals mg) (hfa:mg "law" = some (.ref fa))
   (h0:Dfn K "_law_numbers" (top 47) f0) (h1:Dfn K "_law_size" (top 50) f1) (h2:Dfn K "_law_cell" (top 46) f2) (h3:Dfn K "_law_divisor" (top 48) f3) (h4:Dfn K "_law_made" (top 49) f4) (h5:Dfn K "_law_drawn" (top 54) f5) (h6:Dfn K "is_short_list" (top 19) f6) (h7:Dfn K "is_whole" (top 8) f7) (h8:Dfn K "common_divisor" (top 10) f8) (h9:Dfn K "is_fraction" (top 9) f9) (h10:Dfn K "is_row" (top 20) f10) (h11:Dfn K "is_table" (top 21) f11) (h12:Dfn K "look_table" (top 22) f12) (h13:Dfn K "sum_of" (top 13) f13) (h14:Dfn K "rest_of" (top 14) f14) (h15:Dfn K "product_of" (top 15) f15) (h16:Dfn K "in_lowest_terms" (top 11) f16) (h17:Dfn K "quotient_of" (top 16) f17) (h18:Dfn K "look_square" (top 26) f18) (h19:tw K "fraction" (top 12) f19 (1)) (h20:Dfn K "scale_of" (top 27) f20) (h21:Dfn K "pivot_place" (top 32) f21) (h22:Dfn K "cleared" (top 33) f22) (h23:Dfn K "whole_determinant" (top 31) f23) (h24:Dfn K "product_of_all" (top 30) f24) (h25:Dfn K "whole_row" (top 28) f25) (h26:Dfn K "whole_rows" (top 29) f26) (h27:Dfn K "square_determinant" (top 25) f27) (h28:Dfn K "corner_part" (top 42) f28) (h29:Dfn K "number_for_corner" (top 44) f29) (h30:Dfn K "made_by" (top 43) f30) (h31:Dfn K "choices_of" (top 23) f31) (h32:Dfn K "along_last_row" (top 38) f32) (h33:Dfn K "one_row_more" (top 37) f33) (h34:Dfn K "all_determinants" (top 36) f34) (h35:Dfn K "first_under" (top 35) f35) (h36:Dfn K "is_strict" (top 34) f36) (h37:Dfn K "corners_in_row" (top 41) f37) (h38:Dfn K "corners" (top 40) f38) (h39:Dfn K "_law_minors" (top 52) f39) (h40:Dfn K "_law_least_sign" (top 53) f40) (h41:Dfn K "_law_rows" (top 51) f41) (h42:Dfn K "_law_asked" (top 55) f42) (h43:Dfn K "law" (top 56) f43) (hz:nsL K aq) (z0:PySem.W.nsIn K mainGlobals "MOST" = some (some (.int 7 t0))) (zb:PySem.W.nsIn K mainGlobals "NOUGHT" = some (some (.ref ab))) (zl:K.lookup ab=some ⟨.type "tuple",db,.seq #[.int 0 tb1,.int 1 tb2] nb,sb⟩) :
   ∃ fd:FuncData,(∀ (s:Shared) (v:Value),BindsTo s fd ⟨[v],[]⟩ [("_law_script",v)])/\∀ base:Heap,K.In base->base.Ns mainGlobals mg->aS l.prog w K mg base CX0 8 fa fd ["_law_script"] (spD K qT):=by
 have hb:=hz.none X G
 have y_MOST:∃ t,mg "MOST" = some (.int 7 t):=⟨_,PySem.W.mg_of X G z0⟩
 have y_NOUGHT:Mk1 K mg "NOUGHT" 0 1:=⟨ab,PySem.W.mg_of X G zb,λH=>.inr ⟨_,_,_,zl,rfl,rfl,(by show 2<=sizeLine; decide),.cons ⟨_,rfl⟩ (.cons ⟨_,rfl⟩ .nil)⟩⟩
 obtain ⟨a,⟨oc,od,kV,dc,pm,an,cd,ct,sl,l0,c⟩,r⟩:=h43
 cases hfa.symm.trans (PySem.W.mg_of X G a)
 refine ⟨PySem.W.fnOf "law" "law" (cg (top 56)) (bO (top 56)) (ai (top 56)) .none kV dc pm an cd ct,λs v=>.of_eq rfl,λbase _ _=>?_⟩
 have c_l_numbers:Cal l.prog w K mg base 1 "_law_numbers" cv:=h0.cal (ps:=["_law_cell_here","_law_bases"]) X G (λ_ _ _ _ _ _=>Hy.bd2 λ_ _=>rfl) λ_ F=>lg (k:=0) F hb
 have c_l_size:Cal l.prog w K mg base 2 "_law_size" jK:=h1.cal (ps:=["_law_cell_here"]) X G (λ_ _ _ _ _ _=>Hy.bd1 λ_=>rfl) λ_ F=>rH (k:=1) F hb c_l_numbers
 have c_l_cell:Cal l.prog w K mg base 1 "_law_cell" gR:=h2.cal (ps:=["_law_script","_law_k"]) X G (λ_ _ _ _ _ _=>Hy.bd2 λ_ _=>rfl) λ_ F=>rJ (k:=0) F hb
 have c_l_divisor:Cal l.prog w K mg base 1 "_law_divisor" cV:=h3.cal (ps:=["_law_one","_law_other"]) X G (λ_ _ _ _ _ _=>Hy.bd2 λ_ _=>rfl) λ_ F=>lI (k:=0) F hb
 have c_l_made:Cal l.prog w K mg base 2 "_law_made" jc:=h4.cal (ps:=["_law_top","_law_bottom"]) X G (λ_ _ _ _ _ _=>Hy.bd2 λ_ _=>rfl) λ_ F=>sf (k:=1) F hb c_l_divisor
 have c_l_drawn:Cal l.prog w K mg base 3 "_law_drawn" iz:=h5.cal (ps:=["_law_script"]) X G (λ_ _ _ _ _ _=>Hy.bd1 λ_=>rfl) λ_ F=>oN (k:=2) F hb c_l_size (c_l_numbers.mono (by decide)) (c_l_cell.mono (by decide)) c_l_made
 have c_is_short_list:Cal l.prog w K mg base 1 "is_short_list" bN:=h6.cal (ps:=["thing"]) X G (λ_ _ _ _ _ _=>Hy.bd1 λ_=>rfl) λ_ F=>iu (k:=0) F hb y_MOST
 have c_is_whole:Cal l.prog w K mg base 1 "is_whole" eB:=h7.cal (ps:=["thing"]) X G (λ_ _ _ _ _ _=>Hy.bd1 λ_=>rfl) λ_ F=>oe (k:=0) F hb
 have c_common_divisor:Cal l.prog w K mg base 1 "common_divisor" aV:=h8.cal (ps:=["one","other"]) X G (λ_ _ _ _ _ _=>Hy.bd2 λ_ _=>rfl) λ_ F=>gD (k:=0) F hb
 have c_is_fraction:Cal l.prog w K mg base 2 "is_fraction" de:=h9.cal (ps:=["thing"]) X G (λ_ _ _ _ _ _=>Hy.bd1 λ_=>rfl) λ_ F=>jG (k:=1) F hb c_is_whole c_common_divisor
 have c_is_row:Cal l.prog w K mg base 3 "is_row" jI:=h10.cal (ps:=["thing"]) X G (λ_ _ _ _ _ _=>Hy.bd1 λ_=>rfl) λ_ F=>rK (k:=2) F hb (c_is_short_list.mono (by decide)) c_is_fraction
 have c_is_table:Cal l.prog w K mg base 4 "is_table" gm:=h11.cal (ps:=["thing"]) X G (λ_ _ _ _ _ _=>Hy.bd1 λ_=>rfl) λ_ F=>m8 (k:=3) F hb (c_is_short_list.mono (by decide)) c_is_row
 have c_look_table:Cal l.prog w K mg base 5 "look_table" bY:=h12.cal (ps:=["thing"]) X G (λ_ _ _ _ _ _=>Hy.bd1 λ_=>rfl) λ_ F=>km (k:=4) F hb c_is_table
 have c_sum_of:Cal l.prog w K mg base 2 "sum_of" jR:=h13.cal (ps:=["one","other"]) X G (λ_ _ _ _ _ _=>Hy.bd2 λ_ _=>rfl) λ_ F=>rl (k:=1) F hb c_common_divisor
 have c_rest_of:Cal l.prog w K mg base 3 "rest_of" ir:=h14.cal (ps:=["one","other"]) X G (λ_ _ _ _ _ _=>Hy.bd2 λ_ _=>rfl) λ_ F=>oF (k:=2) F hb c_sum_of
 have c_product_of:Cal l.prog w K mg base 2 "product_of" dR:=h15.cal (ps:=["one","other"]) X G (λ_ _ _ _ _ _=>Hy.bd2 λ_ _=>rfl) λ_ F=>kq (k:=1) F hb c_common_divisor
 have c_in_lowest_terms:Cal l.prog w K mg base 2 "in_lowest_terms" bD:=h16.cal (ps:=["top","bottom"]) X G (λ_ _ _ _ _ _=>Hy.bd2 λ_ _=>rfl) λ_ F=>gj (k:=1) F hb c_common_divisor
 have c_quotient_of:Cal l.prog w K mg base 3 "quotient_of" dg:=h17.cal (ps:=["one","other"]) X G (λ_ _ _ _ _ _=>Hy.bd2 λ_ _=>rfl) λ_ F=>j5 (k:=2) F hb c_product_of c_in_lowest_terms
 have c_look_square:Cal l.prog w K mg base 1 "look_square" c9:=h18.cal (ps:=["table"]) X G (λ_ _ _ _ _ _=>Hy.bd1 λ_=>rfl) λ_ F=>jz (k:=0) F hb
 have c_fraction:Cal l.prog w K mg base 3 "fraction" gc:=h19.cal (ps:=["top","bottom"]) X G (λ_ _ _ _ _ _ _ _=>Hy.bd2 λ_ _=>⟨_,rfl,rfl⟩) λ_ F=>mH (k:=2) F hb c_in_lowest_terms (c_is_whole.mono (by decide))
 have c_scale_of:Cal l.prog w K mg base 2 "scale_of" dX:=h20.cal (ps:=["row"]) X G (λ_ _ _ _ _ _=>Hy.bd1 λ_=>rfl) λ_ F=>oo (k:=1) F hb c_common_divisor
 have c_pivot_place:Cal l.prog w K mg base 1 "pivot_place" da:=h21.cal (ps:=["grid","k"]) X G (λ_ _ _ _ _ _=>Hy.bd2 λ_ _=>rfl) λ_ F=>jf (k:=0) F hb
 have c_cleared:Cal l.prog w K mg base 1 "cleared" hZ:=h22.cal (ps:=["row","pivot_row","k","last"]) X G (λ_ _ _ _ _ _=>Hy.bd4 λ_ _ _ _=>rfl) λ_ F=>oE (k:=0) F hb
 have c_whole_determinant:Cal l.prog w K mg base 2 "whole_determinant" bL:=h23.cal (ps:=["rows"]) X G (λ_ _ _ _ _ _=>Hy.bd1 λ_=>rfl) λ_ F=>eT (k:=1) F hb c_pivot_place c_cleared
 have c_product_of_all:Cal l.prog w K mg base 1 "product_of_all" cc:=h24.cal (ps:=["numbers"]) X G (λ_ _ _ _ _ _=>Hy.bd1 λ_=>rfl) λ_ F=>gE (k:=0) F hb
 have c_whole_row:Cal l.prog w K mg base 1 "whole_row" eW:=h25.cal (ps:=["row","scale"]) X G (λ_ _ _ _ _ _=>Hy.bd2 λ_ _=>rfl) λ_ F=>ma (k:=0) F hb
 have c_whole_rows:Cal l.prog w K mg base 2 "whole_rows" cC:=h26.cal (ps:=["table","scales"]) X G (λ_ _ _ _ _ _=>Hy.bd2 λ_ _=>rfl) λ_ F=>ka (k:=1) F hb c_whole_row
 have c_square_determinant:Cal l.prog w K mg base 4 "square_determinant" a8:=h27.cal (ps:=["table"]) X G (λ_ _ _ _ _ _=>Hy.bd1 λ_=>rfl) λ_ F=>eP (k:=3) F hb (c_look_square.mono (by decide)) c_fraction (c_scale_of.mono (by decide)) (c_whole_determinant.mono (by decide)) (c_product_of_all.mono (by decide)) (c_whole_rows.mono (by decide))
 have c_corner_part:Cal l.prog w K mg base 1 "corner_part" cf:=h28.cal (ps:=["table","i","j"]) X G (λ_ _ _ _ _ _=>Hy.bd3 λ_ _ _=>rfl) λ_ F=>jO (k:=0) F hb
 have c_number_for_corner:Cal l.prog w K mg base 5 "number_for_corner" bK:=h29.cal (ps:=["table","made","i","j"]) X G (λ_ _ _ _ _ _=>Hy.bd4 λ_ _ _ _=>rfl) λ_ F=>eQ (k:=4) F hb (c_rest_of.mono (by decide)) (c_quotient_of.mono (by decide)) c_square_determinant (c_corner_part.mono (by decide))
 have c_made_by:Cal l.prog w K mg base 6 "made_by" iA:=h30.cal (ps:=["table"]) X G (λ_ _ _ _ _ _=>Hy.bd1 λ_=>rfl) λ_ F=>px (k:=5) F hb y_NOUGHT c_look_table c_number_for_corner
 have c_choices_of:Cal l.prog w K mg base 1 "choices_of" d8:=h31.cal (ps:=["many","size"]) X G (λ_ _ _ _ _ _=>Hy.bd2 λ_ _=>rfl) λ_ F=>kc (k:=0) F hb
 have c_along_last_row:Cal l.prog w K mg base 1 "along_last_row" (cb l.prog w):=h32.cal (ps:=["known","row","columns"]) X G (λ_ _ _ _ _ _=>Hy.bd3 λ_ _ _=>rfl) λ_ F=>gw (k:=0) F hb
 have c_one_row_more:Cal l.prog w K mg base 2 "one_row_more" (cH l.prog w):=h33.cal (ps:=["known","row","column_choices"]) X G (λ_ _ _ _ _ _=>Hy.bd3 λ_ _ _=>rfl) λ_ F=>iQ (k:=1) F hb c_along_last_row
 have c_all_determinants:Cal l.prog w K mg base 3 "all_determinants" (bR l.prog w):=h34.cal (ps:=["rows"]) X G (λ_ _ _ _ _ _=>Hy.bd1 λ_=>rfl) λ_ F=>fN (k:=2) F hb (c_choices_of.mono (by decide)) c_one_row_more
 have c_first_under:Cal l.prog w K mg base 4 "first_under" df:=h35.cal (ps:=["table","bound"]) X G (λ_ _ _ _ _ _=>Hy.bd2 λ_ _=>rfl) λ_ F=>jM (k:=3) F hb c_all_determinants (c_whole_rows.mono (by decide)) (c_scale_of.mono (by decide))
 have c_is_strict:Cal l.prog w K mg base 6 "is_strict" ft:=h36.cal (ps:=["table"]) X G (λ_ _ _ _ _ _=>Hy.bd1 λ_=>rfl) λ_ F=>lV (k:=5) F hb c_look_table (c_first_under.mono (by decide))
 have c_corners_in_row:Cal l.prog w K mg base 5 "corners_in_row" b7:=h37.cal (ps:=["table","i"]) X G (λ_ _ _ _ _ _=>Hy.bd2 λ_ _=>rfl) λ_ F=>gx (k:=4) F hb c_square_determinant (c_corner_part.mono (by decide))
 have c_corners:Cal l.prog w K mg base 6 "corners" iw:=h38.cal (ps:=["table"]) X G (λ_ _ _ _ _ _=>Hy.bd1 λ_=>rfl) λ_ F=>oP (k:=5) F hb c_look_table c_corners_in_row
 have c_l_minors:Cal l.prog w K mg base 1 "_law_minors" (gd l.prog w):=h39.cal (ps:=["_law_rows_here"]) X G (λ_ _ _ _ _ _=>Hy.bd1 λ_=>rfl) λ_ F=>mY (k:=0) F hb
 have c_l_least_sign:Cal l.prog w K mg base 2 "_law_least_sign" cO:=h40.cal (ps:=["_law_rows_here"]) X G (λ_ _ _ _ _ _=>Hy.bd1 λ_=>rfl) λ_ F=>iR (k:=1) F hb c_l_minors
 have c_l_rows:Cal l.prog w K mg base 2 "_law_rows" ja:=h41.cal (ps:=["_law_table"]) X G (λ_ _ _ _ _ _=>Hy.bd1 λ_=>rfl) λ_ F=>rm (k:=1) F hb c_l_divisor
 have c_l_asked:Cal l.prog w K mg base 7 "_law_asked" iD:=h42.cal (ps:=["_law_some","_law_due"]) X G (λ_ _ _ _ _ _=>Hy.bd2 λ_ _=>rfl) λ_ F=>oU (k:=6) F hb c_made_by c_is_strict c_corners (c_l_least_sign.mono (by decide)) (c_l_rows.mono (by decide))
 exact zw (k:=7) (oG l0 c r) hb (c_l_drawn.mono (by decide)) (c_l_numbers.mono (by decide)) c_l_asked (c_l_cell.mono (by decide))
theorem walk {l:PySem.W.OpenLaw} {q:Program} {loose:List Str} {XP:(Str->Option Value)->Heap->Prop} {YP:World->Heap->Prop} {d:DefRec} {K:Params->PySem.W.Frag} (hn:l.most=some 63) (hdf:d.params.defaults=[])
   (hY:∀ (w:World) (h:Heap),YP w h->(K w.params).In h)
   (F:∀ (w:World) (mg:Str->Option Value) (fa:Addr) (h:Heap),(K w.params).In h->h.Ns mainGlobals mg->mg d.name=some (.ref fa) ->
     ∃ fd:FuncData,(∀ (s:Shared) (u:Value),BindsTo s fd ⟨[u],[]⟩ [("_law_script",u)])/\∀ base:Heap,(K w.params).In base->base.Ns mainGlobals mg->aS l.prog w (K w.params) mg base CX0 8 fa fd ["_law_script"] (spD (K w.params) qT)) :
   PySem.W.WalkO q loose XP YP l.row.toRowW d [] (λf vs=>PySem.call f vs):=
 L2.wC (n:=63) (k:=8) (x:="_law_script") (CX:=λ_=>CX0) (sp:=λw=>spD (K w.params) qT) hn (by decide) hdf ⟨rfl,by decide,by decide⟩ hY F
   (λw H a ns hl _ hS=>w6 (λns h=>⟨ns,h,rfl,rfl⟩) H a ns hl hS) λ_ _ _ _ _ z=>z
end K61
open PySem PySem.W PyProof.Rows
namespace PySem.W.Fast
theorem tw5308550975361378952:True:=⟨⟩
theorem tw13049395805090206044:True:=⟨⟩
theorem tw7610763492136809916:True:=⟨⟩
theorem tw7377681845631381768:True:=⟨⟩
theorem tw15715543922801842926:True:=⟨⟩
theorem tw2860077962861433256:True:=⟨⟩
theorem tw1529515196443794973:True:=⟨⟩
theorem tw16608435292615851593:True:=⟨⟩
theorem tw7530450966269739596:True:=⟨⟩
theorem tw3149697211446746120:True:=⟨⟩
theorem tw10425347865527612206:True:=⟨⟩
theorem tw17991391178671317277:True:=⟨⟩
theorem tw16299779122688425122:True:=⟨⟩
theorem tw13894293975061458304:True:=⟨⟩
theorem tw10906847678350572444:True:=⟨⟩
theorem tw260812454697615390:True:=⟨⟩
theorem tw14479773179453094766:True:=⟨⟩
theorem tw8467405487782800729:True:=⟨⟩
theorem tw7714735374898703016:True:=⟨⟩
theorem tw4079075480166272625:True:=⟨⟩
theorem tw1366664582078840629:True:=⟨⟩
theorem tw18224427445987114033:True:=⟨⟩
theorem tw6283881966198558510:True:=⟨⟩
theorem tw9865095155933363057:True:=⟨⟩
theorem tw12316786263087934439:True:=⟨⟩
theorem tw3203624021921063727:True:=⟨⟩
theorem tw10571371183514517471:True:=⟨⟩
theorem tw2965049160975174757:True:=⟨⟩
theorem tw17443536135095065053:True:=⟨⟩
theorem tw6060916097108984646:True:=⟨⟩
theorem tw3910748188761479503:True:=⟨⟩
theorem tw13850303287349507813:True:=⟨⟩
theorem tw7480728155577842818:True:=⟨⟩
theorem tw736923291375512555:True:=⟨⟩
theorem tw1024898157397031307:True:=⟨⟩
theorem tw4177672939066041407:True:=⟨⟩
theorem tw8531206783341686773:True:=⟨⟩
theorem tw13796502064073385405:True:=⟨⟩
theorem tw7219983675201068710:True:=⟨⟩
theorem tw4441009063503219390:True:=⟨⟩
theorem tw2819479734909925983:True:=⟨⟩
theorem tw10445254799315544211:True:=⟨⟩
theorem tw16284696039091240839:True:=⟨⟩
theorem tw7661762418917588376:True:=⟨⟩
theorem tw9231345506213945164:True:=⟨⟩
theorem tw10124589939614340263:True:=⟨⟩
theorem tw9413518264080781250:True:=⟨⟩
theorem tw1064415601273756390:True:=⟨⟩
theorem tw1597052500045178942:True:=⟨⟩
theorem tw2878009035212029:True:=⟨⟩
theorem tw14737788920866879707:True:=⟨⟩
theorem tw15071637015841085170:True:=⟨⟩
theorem tw217214810744699854:True:=⟨⟩
theorem tw9740335481522101380:True:=⟨⟩
theorem tw11293363508390975508:True:=⟨⟩
theorem tw13187676993341555914:True:=⟨⟩
theorem tw2410046319329953709:True:=⟨⟩
theorem tw17219736537460895042:True:=⟨⟩
end PySem.W.Fast
set_option maxRecDepth 100000 in
set_option maxHeartbeats 0 in
theorem PySem.Challenge.cw_signsmooth_k61_none_left_out_holds : PySem.Challenge.rw_signsmooth_k61_none_left_out.Holds := by
 w_on; o_law; k_head; (case hw=>w_witness2)
 k_fill
 refine K61.walk (l:=PySem.Challenge.rw_signsmooth_k61_none_left_out) rfl rfl (λw h Y=>PySem.W.kIn_of Y) ?F
 case F=>
   intro w mg fa h KX G hmg
   refine' K61.all_mk KX G hmg (.of ?_ ?_ ?_ ?_) (.of ?_ ?_ ?_ ?_) (.of ?_ ?_ ?_ ?_) (.of ?_ ?_ ?_ ?_) (.of ?_ ?_ ?_ ?_) (.of ?_ ?_ ?_ ?_) (.of ?_ ?_ ?_ ?_) (.of ?_ ?_ ?_ ?_) (.of ?_ ?_ ?_ ?_) (.of ?_ ?_ ?_ ?_) (.of ?_ ?_ ?_ ?_) (.of ?_ ?_ ?_ ?_) (.of ?_ ?_ ?_ ?_) (.of ?_ ?_ ?_ ?_) (.of ?_ ?_ ?_ ?_) (.of ?_ ?_ ?_ ?_) (.of ?_ ?_ ?_ ?_) (.of ?_ ?_ ?_ ?_) (.of ?_ ?_ ?_ ?_) (.of ?_ ?_ ?_ ?_ ?_) (.of ?_ ?_ ?_ ?_) (.of ?_ ?_ ?_ ?_) (.of ?_ ?_ ?_ ?_) (.of ?_ ?_ ?_ ?_) (.of ?_ ?_ ?_ ?_) (.of ?_ ?_ ?_ ?_) (.of ?_ ?_ ?_ ?_) (.of ?_ ?_ ?_ ?_) (.of ?_ ?_ ?_ ?_) (.of ?_ ?_ ?_ ?_) (.of ?_ ?_ ?_ ?_) (.of ?_ ?_ ?_ ?_) (.of ?_ ?_ ?_ ?_) (.of ?_ ?_ ?_ ?_) (.of ?_ ?_ ?_ ?_) (.of ?_ ?_ ?_ ?_) (.of ?_ ?_ ?_ ?_) (.of ?_ ?_ ?_ ?_) (.of ?_ ?_ ?_ ?_) (.of ?_ ?_ ?_ ?_) (.of ?_ ?_ ?_ ?_) (.of ?_ ?_ ?_ ?_) (.of ?_ ?_ ?_ ?_) (.of ?_ ?_ ?_ ?_) ⟨?_,?_,?_,?_,?_,?_,?_,?_,?_,?_,?_,?_,?_,?_,?_,?_,?_,?_,trivial⟩ ?_ ?_ ?_
   all_goals try k_is
#print axioms PySem.Challenge.cw_signsmooth_k61_none_left_out_holds
